import PyProof.Rows.All
import Wide.All
import OpenK.AllK
import Wide.FinOn
import PyProof.EqAt
import PyProof.EqKinds
import PyProof.TupleCall
import PyProof.ExcArgsOwn
import PyProof.ExcAttrAll.ValueError
import PyProof.ExcBaseAll.ValueError
import PyProof.ExcClass2
import PyProof.ExcInit
import PyProof.InstStore
import PyProof.InstStoreFacts
import PyProof.NsDelKeeps
import PyProof.NsMap
import PyProof.Rows.CatchOwn
import PyProof.StationsW
import PySem.Challenge.RW_tailrooms_k75_walks_looked_at
set_option Elab.async false
set_option linter.all false
set_option maxRecDepth 100000
local macro_rules | `(tactic| omega)=>`(tactic| first | lia | omega (config:={}))
namespace L2
open PySem PySem.Spec PyProof.Rows
abbrev Key:=Sum Int Str
def keyIs:Key→Value→Bool
 | .inl k,v=>Value.isInt k v
 | .inr x,v=>Value.isStrOf x v
def keyH (w:World):Key→Int
 | .inl k=>hashInt k
 | .inr x=>hashStr w x
theorem keyIs_shape:∀{k:Key}{v:Value},keyIs k v=true→(∃i t,k=Sum.inl i∧v=Value.int i t) ∨(∃x t,k=Sum.inr x∧v=Value.str x t)
 | .inl i,v,h=>by
  obtain⟨t,e⟩:=Value.isInt_shape (k:=i) (v:=v) h
  exact .inl ⟨i,t,rfl,e⟩
 | .inr x,v,h=>by
  obtain⟨t,e⟩:=Value.isStrOf_shape (x:=x) (v:=v) h
  exact .inr ⟨x,t,rfl,e⟩
theorem key_ll (a b:Int):decide ((Sum.inl a:Key)=Sum.inl b) =(a == b):=by
 by_cases e:a=b
 ·subst e;simp
 ·have h:¬(Sum.inl a:Key)=Sum.inl b:=fun q=>e (Sum.inl.inj q)
  rw[decide_eq_false h]
  exact(beq_eq_false_iff_ne.mpr e).symm
theorem key_rr (a b:Str):decide ((Sum.inr a:Key)=Sum.inr b)=decide (a=b):=by
 by_cases e:a=b
 ·subst e;simp
 ·have h:¬(Sum.inr a:Key)=Sum.inr b:=fun q=>e (Sum.inr.inj q)
  rw[decide_eq_false h,decide_eq_false e]
theorem key_lr (a:Int) (b:Str):decide ((Sum.inl a:Key)=Sum.inr b)=false:=decide_eq_false (fun q=>nomatch q)
theorem key_rl (a:Str) (b:Int):decide ((Sum.inr a:Key)=Sum.inl b)=false:=decide_eq_false (fun q=>nomatch q)
def mixKind (prog:Program) (w:World):PySem.KeyKind prog w Key where
 is:=keyIs
 hash:=keyH w
 inj:=fun v a b ha hb=>by
  rcases keyIs_shape ha with⟨i,t,rfl,rfl⟩|⟨x,t,rfl,rfl⟩
  ·rcases keyIs_shape hb with⟨j,u,rfl,e⟩|⟨y,u,rfl,e⟩
   ·injection e with e1 _;rw[e1]
   ·exact nomatch e
  ·rcases keyIs_shape hb with⟨j,u,rfl,e⟩|⟨y,u,rfl,e⟩
   ·exact nomatch e
   ·injection e with e1 _;rw[e1]
 byValue:=fun k v h=>by
  rcases keyIs_shape h with⟨i,t,rfl,rfl⟩|⟨x,t,rfl,rfl⟩ <;> rfl
 pyHash:=fun hv h=>by
  rcases keyIs_shape hv with⟨i,t,rfl,rfl⟩|⟨x,t,rfl,rfl⟩
  ·exact wpAny_pyHash_int h
  ·exact wpAny_pyHash_str h
 eqBool:=fun hu hv h=>by
  rcases keyIs_shape hu with⟨i,t,rfl,rfl⟩|⟨x,t,rfl,rfl⟩
  ·rcases keyIs_shape hv with⟨j,u,rfl,rfl⟩|⟨y,u,rfl,rfl⟩
   ·rw[key_ll]at h;exact wpAny_eqBool_int h
   ·rw[key_lr]at h;exact SeqAt.EqAt.int_str i t y u _ _ _ _ h
  ·rcases keyIs_shape hv with⟨j,u,rfl,rfl⟩|⟨y,u,rfl,rfl⟩
   ·rw[key_rl]at h;exact SeqAt.EqAt.str_int x t j u _ _ _ _ h
   ·rw[key_rr]at h;exact wpAny_eqBool_str h
 «strs»:=fun k x t v h=>by
  rcases keyIs_shape h with⟨i,u,rfl,e⟩|⟨y,u,rfl,e⟩
  ·exact nomatch e
  ·injection e with e1 _
   subst e1
   cases v <;> rfl
end L2
namespace L2
open PySem PySem.Spec PyProof.Rows
inductive V where
 | non|bl (b:Bool)|int (i:Int)|str (x:Str)|byt (b:Array UInt8)|flt (b:UInt64)|ref (a:Addr)|ty (n:String)
 deriving DecidableEq
def RelV:V→Value→Prop
 | .non,u=>u=Value.none
 | .bl b,u=>u=Value.bool b
 | .int i,u=>∃t,u=Value.int i t
 | .str x,u=>∃t,u=Value.str x t
 | .byt b,u=>∃t,u=Value.bytes b t
 | .flt b,u=>∃t,u=Value.float b t
 | .ref a,u=>u=Value.ref a
 | .ty n,u=>u=Value.type n
abbrev Vals:List V→List Value→Prop:=Paired RelV
theorem Vals.length {xs:List V}{us:List Value}(r:Vals xs us):xs.length=us.length:=Paired.length r
theorem Vals.get:∀{xs:List V}{us:List Value}{i:Nat}{x:V},Vals xs us→xs[i]? = some x→∃u,us[i]? = some u∧RelV x u
 | _,_,_,_,.nil,e=>by simp at e
 | _,_,0,_,.cons r _,e=>by simp at e;subst e;exact⟨_,rfl,r⟩
 | _,_,i+1,x,.cons _ t,e=>by
  obtain⟨u,h1,h2⟩:=Vals.get (i:=i) (x:=x) t (by simpa using e)
  exact⟨u,by simpa using h1,h2⟩
theorem Vals.set {x:V}{u:Value}(r:RelV x u):∀{xs:List V}{us:List Value}(i:Nat),Vals xs us→Vals (xs.set i x) (us.set i u)
 | _,_,_,.nil=>.nil
 | _,_,0,.cons _ t=>.cons r t
 | _,_,i+1,.cons q t=>.cons q (Vals.set r i t)
theorem Vals.append:∀{xs ys:List V}{us ws:List Value},Vals xs us→Vals ys ws→Vals (xs++ys) (us++ws)
 | _,_,_,_,.nil,s=>s
 | _,_,_,_,.cons r t,s=>.cons r (Vals.append t s)
theorem Vals.take:∀{xs:List V}{us:List Value}(n:Nat),Vals xs us→Vals (xs.take n) (us.take n)
 | _,_,0,_=>.nil
 | _,_,_+1,.nil=>.nil
 | _,_,n+1,.cons r t=>.cons r (Vals.take n t)
theorem Vals.drop:∀{xs:List V}{us:List Value}(n:Nat),Vals xs us→Vals (xs.drop n) (us.drop n)
 | _,_,0,r=>r
 | _,_,_+1,.nil=>.nil
 | _,_,n+1,.cons _ t=>Vals.drop n t
def RelO:Option V→Option Value→Prop
 | some v,some u=>RelV v u
 | none,none=>True
 | _,_=>False
def KV {κ:Type}:List (κ×V)→List (κ×Value)→Prop:=Paired fun(p:κ×V) (q:κ×Value)=>p.1=q.1∧RelV p.2 q.2
def kV:Key→V
 | .inl i=>.int i
 | .inr x=>.str x
inductive HO where
 | lst (xs:List V)
 | tup (xs:List V)
 | dK (kvs:List (Key×V))|dT (kvs:List (List Key×V))
 | set (S:Int→Bool) (n:Nat)
 | ins (C dx:Addr) (fs:List (Str×V))
 | own (x:Addr)
 | xd (fs:List (Str×V))
 | met (f x:Addr)
 | rng (lo hi:Int)
 | frz (o:Obj) (u:HO)
 | tbl (ps:Array Value)
 | ext (φ:Heap→Prop)
abbrev Hp:=Addr→Option HO
def upd (H:Hp) (a:Addr) (o:HO):Hp:=fun b=>if b=a then some o else H b
theorem upd_same {H:Hp}{a:Addr}{o:HO}:upd H a o a=some o:=by unfold upd;rw[if_pos rfl]
theorem upd_ne {H:Hp}{a b:Addr}{o:HO}(h:b≠a):upd H a o b=H b:=by unfold upd;rw[if_neg h]
theorem ne_of {H:Hp}{a b:Addr}{o u:HO}(h:H a=some o) (h':H b=some u) (d:o≠u):a≠b:=by
 intro e;subst e;rw[h]at h';exact d (Option.some.inj h')
theorem ne_of_none {H:Hp}{a b:Addr}{o:HO}(h:H a=some o) (h':H b=none):a≠b:=by
 intro e;subst e;rw[h]at h';cases h'
section
variable (P:Program) (w:World)
def ObjOk (H:Hp) (h:Heap) (a:Addr):HO→Prop
 | .lst xs=>xs.length≤sizeLine∧∃(its:List Value) (n:Nat),Vals xs its∧h.get? a=some { cls:=.type "list",data:=.seq its.toArray n }
 | .tup xs=>xs.length≤sizeLine∧∃its:List Value,Vals xs its∧IsTup h a its.toArray
 | .dK kvs=>kvs.length≤sizeLine∧(a == sysModules)=false∧∃vs,KV kvs vs∧h.DictOf (mixKind P w) a vs
 | .dT kvs=>kvs.length≤sizeLine∧(a == sysModules)=false∧∃xs:List (List Key×Addr×Value),
   Paired (fun(p:List Key×V) (q:List Key×Addr×Value)=>p.1=q.1∧H q.2.1=some (.tup (p.1.map kV))∧RelV p.2 q.2.2) kvs xs ∧
   ∃o es ep,h.get? a=some o∧o.ExactDict∧o.data = .dict es ep∧es.toList=xs.map (entryOfKey (tupleKind (mixKind P w)))∧(xs.map (·.1)).Nodup
 | .set S n=>h.SetOf (intKind P w) a S n
 | .ins C dx fs=>H dx=some (.own a)∧fs.length≤1000∧dx≠a∧h.get? a=some (PySem.W.instObj C dx) ∧
   ∃mA,h.Ns1 dx mA∧(∀f,RelO (fs.lookup f) (mA f))∧PySem.Within mA (fs.map (·.1))
 | .own _=>∃o,h.get? a=some o
 | .xd fs=>∃mA,h.Ns1 a mA∧∀f,RelO (fs.lookup f) (mA f)
 | .rng lo hi=>∃t u v,h.get? a=some { cls:=.type "range",data:=.fields #[.int lo t,.int hi u,.int 1 v] }
 | .frz o u=>h.get? a=some o∧ObjOk H h a u
 | .tbl ps=>h.get? a=some { cls:=.none,data:=.fields ps }
 | .met f x=>h.get? a=some (PySem.W.methodObj (.ref f) (.ref x))
 | .ext φ=>φ h∧(∃o,h.get? a=some o)∧∀h1 h2:Heap,φ h1→(∀o,h1.get? a=some o→h2.get? a=some o)→φ h2
def HOk (H:Hp) (h:Heap):Prop:=∀a o,H a=some o→ObjOk P w H h a o
end
section
variable {P:Program}{w:World}{H H':Hp}{h h':Heap}{a:Addr}{o:HO}
theorem ObjOk.lt (x:ObjOk P w H h a o):a<h.objs.size:=by
 cases o with
 | lst xs=>obtain⟨_,_,_,_,e⟩:=x;exact Heap.lt_size e
 | tup xs=>obtain⟨_,_,_,p⟩:=x;exact p.lt
 | dK kvs=>obtain⟨_,_,_,_,o,_,_,e,_⟩:=x;exact Heap.lt_size e
 | dT kvs=>obtain⟨_,_,_,_,o,_,_,e,_⟩:=x;exact Heap.lt_size e
 | set S n=>obtain⟨o,_,_,_,e,_⟩:=x;exact Heap.lt_size e
 | ins C dx fs=>obtain⟨_,_,_,e,_⟩:=x;exact Heap.lt_size e
 | own y=>obtain⟨_,e⟩:=x;exact Heap.lt_size e
 | xd fs=>obtain⟨_,⟨_,_,_,e,_⟩,_⟩:=x;exact Heap.lt_size e
 | rng lo hi=>obtain⟨_,_,_,e⟩:=x;exact Heap.lt_size e
 | frz ob u=>obtain⟨e,_⟩:=x;exact Heap.lt_size e
 | tbl ps=>exact Heap.lt_size (show h.get? a=some _ from x)
 | met f y=>exact Heap.lt_size (show h.get? a=some _ from x)
 | ext φ=>obtain⟨_,⟨_,e⟩,_⟩:=x;exact Heap.lt_size e
theorem Paired.mapP {α β:Type}{F G:α→β→Prop}:∀{l₁:List α}{l₂:List β},Paired F l₁ l₂→(∀a b,F a b→G a b)→Paired G l₁ l₂
 | _,_,.nil,_=>.nil
 | _,_,.cons r t,f=>.cons (f _ _ r) (Paired.mapP t f)
theorem ObjOk.stay (x:ObjOk P w H h a o) (k:∀b u,(b=a∨H b=some (.own a))→h.get? b=some u→h'.get? b=some u)
  (ho:∀b,H b=some (.own a)→H' b=some (.own a)) (ht:∀b xs,H b=some (.tup xs)→H' b=some (.tup xs)):ObjOk P w H' h' a o:=by
 induction o with
 | lst xs=>obtain⟨z,its,n,r,e⟩:=x;exact⟨z,its,n,r,k _ _ (.inl rfl) e⟩
 | tup xs=>obtain⟨z,its,r,ob,e,c⟩:=x;exact⟨z,its,r,ob,k _ _ (.inl rfl) e,c⟩
 | dK kvs=>obtain⟨z,y,vs,r,ob,es,ep,e,c⟩:=x;exact⟨z,y,vs,r,ob,es,ep,k _ _ (.inl rfl) e,c⟩
 | dT kvs =>
  obtain⟨z,y,xs,r,ob,es,ep,e,c⟩:=x
  exact⟨z,y,xs,Paired.mapP r fun p q z=>⟨z.1,ht _ _ z.2.1,z.2.2⟩,ob,es,ep,k _ _ (.inl rfl) e,c⟩
 | set S n=>obtain⟨ob,es,ep,t,e,c⟩:=x;exact⟨ob,es,ep,t,k _ _ (.inl rfl) e,c⟩
 | ins C dx fs =>
  obtain⟨d,z,ne,e,mA,⟨od,es,ep,e2,c⟩,r⟩:=x
  exact⟨ho _ d,z,ne,k _ _ (.inl rfl) e,mA,⟨od,es,ep,k _ _ (.inr d) e2,c⟩,r⟩
 | own y=>obtain⟨ob,e⟩:=x;exact⟨ob,k _ _ (.inl rfl) e⟩
 | xd fs=>obtain⟨mA,⟨od,es,ep,e,c⟩,r⟩:=x;exact⟨mA,⟨od,es,ep,k _ _ (.inl rfl) e,c⟩,r⟩
 | rng lo hi=>obtain⟨t,u,v,e⟩:=x;exact⟨t,u,v,k _ _ (.inl rfl) e⟩
 | frz ob u ih=>obtain⟨e,q⟩:=x;exact⟨k _ _ (.inl rfl) e,ih q⟩
 | tbl ps =>
  have e:h.get? a=some { cls:=.none,data:=.fields ps }:=x
  show h'.get? a=some { cls:=.none,data:=.fields ps }
  exact k a _ (.inl rfl) e
 | met f y =>
  have e:h.get? a=some (PySem.W.methodObj (.ref f) (.ref y)):=x
  show h'.get? a=some (PySem.W.methodObj (.ref f) (.ref y))
  exact k a _ (.inl rfl) e
 | ext φ=>obtain⟨p,⟨o,e⟩,st⟩:=x;exact⟨st _ _ p fun o q=>k _ _ (.inl rfl) q,⟨o,k _ _ (.inl rfl) e⟩,st⟩
theorem HOk.lt (x:HOk P w H h) (e:H a=some o):a<h.objs.size:=(x a o e).lt
theorem HOk.fresh (x:HOk P w H h) (e:h.objs.size≤a):H a=none:=by
 cases q:H a with
 | none=>rfl
 | some u=>exact absurd (Nat.lt_of_lt_of_le (x.lt q) e) (Nat.lt_irrefl _)
theorem HOk.kept (x:HOk P w H h) (k:∀b u,h.get? b=some u→h'.get? b=some u):HOk P w H h':=fun a o e =>
 (x a o e).stay (fun b u _ q=>k b u q) (fun _ q=>q) fun _ _ q=>q
theorem HOk.laid (x:HOk P w H h) (k:∀b u,h.get? b=some u→h'.get? b=some u) (hp:h.objs.size≤a) (new:ObjOk P w (upd H a o) h' a o):HOk P w (upd H a o) h':=fun b u e=>by
 have hn:=x.fresh hp
 by_cases hb:b=a
 ·subst hb;rw[upd_same]at e;cases e;exact new
 ·rw[upd_ne hb]at e
  exact(x b u e).stay (fun c v _ q=>k c v q) (fun c q=>by rw[upd_ne (ne_of_none q hn)];exact q) fun c xs q=>by rw[upd_ne (ne_of_none q hn)];exact q
end
def Rd (H:Hp) (a:Addr) (u:HO):Prop:=H a=some u ∨ ∃o,H a=some (.frz o u)
theorem Rd.ok {P:Program}{w:World}{H:Hp}{h:Heap}{a:Addr}{u:HO}(r:Rd H a u) (x:HOk P w H h):ObjOk P w H h a u:=by
 rcases r with r|⟨o,r⟩
 ·exact x a u r
 ·obtain⟨_,q⟩:=x a _ r
  exact q
def Mut:Option HO→Prop
 | some (.lst _)=>True
 | some (.dK _)=>True
 | some (.dT _)=>True
 | some (.set _ _)=>True
 | some (.ins _ _ _)=>True
 | some (.ext _)=>True
 | _=>False
section
variable {P:Program}{w:World}{H:Hp}{h h':Heap}{x e:Addr}{o':HO}
theorem HOk.write (ok:HOk P w H h) (mu:Mut (H x)) (he:e=x∨H e=some (.own x)) (k:∀b u,b≠e→h.get? b=some u→h'.get? b=some u) (heo:∃u,h'.get? e=some u)
  (new:ObjOk P w (upd H x o') h' x o'):HOk P w (upd H x o') h':=fun b u q=>by
 have nown:∀c y,H c=some (.own y)→c≠x:=fun c y r z=>by subst z;rw[r]at mu;exact mu
 have ntup:∀c xs,H c=some (.tup xs)→c≠x:=fun c xs r z=>by subst z;rw[r]at mu;exact mu
 by_cases hb:b=x
 ·subst hb;rw[upd_same]at q;cases q;exact new
 ·rw[upd_ne hb]at q
  by_cases hbe:b=e
  ·have q':H b=some (.own x):=by
    rcases he with z|z
    ·exact absurd (hbe.trans z) hb
    ·rw[hbe];exact z
   rw[q]at q';cases q'
   obtain⟨v,hv⟩:=heo
   exact⟨v,by rw[hbe];exact hv⟩
  ·refine(ok b u q).stay (fun c v hc r=>k c v ?_ r) (fun c r=>by rw[upd_ne (nown c b r)];exact r) fun c xs r=>by rw[upd_ne (ntup c xs r)];exact r
   rcases hc with rfl|hc
   ·exact hbe
   ·rintro rfl
    rcases he with z|z
    ·exact nown c b hc z
    ·rw[hc]at z;cases z;exact hb rfl
end
structure Un (fs ex:List Addr) (H H':Hp) (h h':Heap):Prop where
 keep:∀b o,h.get? b=some o→H b=none→b∉fs→b∉ex→h'.get? b=some o
 slot:∀b o,h.get? b=some o→H b=none→b∈fs→b∉ex→∃sl,h'.get? b=some { o with slots:=sl }
 free:∀b o,h.get? b=some o→H b=none→b∉ex→H' b=none
 there:∀b o,h.get? b=some o→b∉ex→∃o',h'.get? b=some o'
 tups:∀b xs,H b=some (.tup xs)→H' b=some (.tup xs)
 frzs:∀b o u,H b=some (.frz o u)→H' b=some (.frz o u)
 tbls:∀b ps,H b=some (.tbl ps)→∃more,H' b=some (.tbl (ps++more))
section
variable {fs fs' ex ex':List Addr}{H H1 H2:Hp}{h h1 h2 h':Heap}{a x e:Addr}{o:HO}
theorem Un.any (u:Un fs ex H H1 h h1) {b:Addr}{ob:Obj}(q:h.get? b=some ob) (n:H b=none) (hx:b∉ex):∃sl,h1.get? b=some { ob with slots:=sl }:=by
 by_cases hb:b∈fs
 ·exact u.slot b ob q n hb hx
 ·exact⟨ob.slots,u.keep b ob q n hb hx⟩
theorem Un.kept (k:∀b u,h.get? b=some u→h'.get? b=some u):Un fs ex H H h h' :=
 ⟨fun b ob q _ _ _=>k b ob q,fun b ob q _ _ _=>⟨ob.slots,k b ob q⟩,fun _ _ _ n _=>n,fun b ob q _=>⟨ob,k b ob q⟩,fun _ _ q=>q,fun _ _ _ q=>q,fun _ ps q=>⟨#[],by rw[q];simp⟩⟩
theorem Un.refl:Un fs ex H H h h:=Un.kept fun _ _ q=>q
theorem Un.laid (k:∀b u,h.get? b=some u→h'.get? b=some u) (hp:h.objs.size≤a) (hn:H a=none):Un fs ex H (upd H a o) h h' where
 keep:=fun b u q _ _ _=>k b u q
 slot:=fun b u q _ _ _=>⟨u.slots,k b u q⟩
 free:=fun b u q n _=>by rw[upd_ne (Nat.ne_of_lt (Nat.lt_of_lt_of_le (Heap.lt_size q) hp))];exact n
 there:=fun b u q _=>⟨u,k b u q⟩
 tups:=fun b xs q=>by rw[upd_ne (ne_of_none q hn)];exact q
 frzs:=fun b u xs q=>by rw[upd_ne (ne_of_none q hn)];exact q
 tbls:=fun b ps q=>⟨#[],by rw[upd_ne (ne_of_none q hn),q];simp⟩
theorem Un.write (mu:Mut (H x)) (he:e=x∨H e=some (.own x)) (k:∀b u,b≠e→h.get? b=some u→h'.get? b=some u) (heo:∃u,h'.get? e=some u):Un fs ex H (upd H x o) h h':=by
 have hx:∀b,H b=none→b≠x:=fun b n z=>by subst z;rw[n]at mu;exact mu
 have hb:∀b,H b=none→b≠e:=fun b n z=>by
  subst z
  rcases he with r|r
  ·exact hx b n r
  ·rw[n]at r;cases r
 have hm:∀b u,H b=some u→¬ Mut (some u)→b≠x:=fun b u q nm z=>by subst z;rw[q]at mu;exact nm mu
 refine⟨fun b u q n _ _=>k b u (hb b n) q,fun b u q n _ _=>⟨u.slots,k b u (hb b n) q⟩,fun b u q n _=>by rw[upd_ne (hx b n)];exact n,fun b u q _=>?_,
  fun b xs q=>by rw[upd_ne (hm b _ q fun z=>z)];exact q,fun b u xs q=>by rw[upd_ne (hm b _ q fun z=>z)];exact q,fun b ps q=>⟨#[],by rw[upd_ne (hm b _ q fun z=>z),q];simp⟩⟩
 by_cases hbe:b=e
 ·subst hbe;exact heo
 ·exact⟨u,k b u hbe q⟩
end
def trk (h:Heap) (H:Hp):List Addr:=(List.range h.objs.size).filter fun a=>(H a).isSome
def hidT (h:Heap) (H:Hp):Heap:=PySem.W.hideAll h (trk h H)
theorem hidT_size (h:Heap) (H:Hp):(hidT h H).objs.size=h.objs.size:=PySem.W.hideAll_size _ _
theorem hidT_get {h:Heap}{H:Hp}{b:Addr}{o:Obj}(e:h.get? b=some o) (n:H b=none):(hidT h H).get? b=some o :=
 PySem.W.hideAll_get _ e fun hm=>by
  have q:(H b).isSome=true:=(List.mem_filter.mp hm).2
  rw[n]at q;simp at q
theorem of_hidT {h:Heap}{H:Hp}{b:Addr}{o:Obj}(e:(hidT h H).get? b=some o):h.get? b=some o∧H b=none:=by
 have e':h.get? b=some o:=PySem.W.of_hideAll (trk h H) e
 refine⟨e',?_⟩
 cases q:H b with
 | none=>rfl
 | some x =>
  have hm:b∈trk h H:=List.mem_filter.mpr ⟨List.mem_range.mpr (Heap.lt_size e'),by simp[q]⟩
  have z:(hidT h H).get? b=none:=PySem.W.hideAll_none (trk h H) hm
  rw[z]at e;cases e
def allNews (g h:Heap) (L:Addr):List (Addr×Obj):=(List.range h.objs.size).filterMap fun a=>if a=L ∨(g.get? a).isSome=true then none else(h.get? a).map fun o=>(a,o)
def rest (g h:Heap) (L d:Addr):List (Addr×Obj):=(allNews g h L).filter fun p=>decide (p.1≠d)
end L2
namespace L2
open PySem PySem.Spec PyProof.Rows
structure Mod (K:PySem.W.Frag) (mg:Str→Option Value) (base:Heap):Prop where
 kin:K.In base
 glob:base.Ns mainGlobals mg
 blt:∃mb,base.Ns builtinsNs mb∧∀x:Str,x ≠ "__name__"→mb x=bootBuiltins x
 nolimit:base.NoLimit
structure Cx where
 prog:Program
 w:World
 K:PySem.W.Frag
 mg:Str→Option Value
 base:Heap
 A:Around
 N:List Str
 s₀:Shared
 H₀:Hp
 env:Env
 outer:List Env
 stack:List Env
 ex:List Addr
 fn:Str→Bool
 calm:Bool
 pn:List (Addr×Obj)
 xe:Value→Shared→Prop
def frs (l:List Env):List Addr:=l.filterMap (·.frame)
abbrev Cx.fs (X:Cx):List Addr:=frs X.outer
def Vis (sc:Scope) (x:Str):Prop:=sc.names.lookup x=some .local∨sc.names.lookup x=some .cell∨sc.names.lookup x=some .free
def Loc (sc:Scope) (x:Str):Prop:=sc.names.lookup x=some .local∨sc.names.lookup x=some .cell
def Look (env:Env) (h:Heap) (m:Str→Option Value) (x:Str) (u:Value):Prop :=
 (env.kindOf x=some .local∧m x=some u) ∨((env.kindOf x=some .cell∨env.kindOf x=some .free)∧∃c,env.cells.lookup x=some c∧h.IsCell c (some u))
structure Cx.Ok (X:Cx):Prop where
 mod:Mod X.K X.mg X.base
 kind:X.env.scope.kind = .function
 glob:X.env.globals=mainGlobals
 blt:X.env.builtins=builtinsNs
 above:X.s₀.heap.objs.size≤X.env.locals
 inj:∀x y c,X.env.cells.lookup x=some c→X.env.cells.lookup y=some c→x=y
 has:∀x,(X.env.kindOf x=some .cell∨X.env.kindOf x=some .free)→∃c,X.env.cells.lookup x=some c
 cab:∀x c,X.fn x=true→X.env.cells.lookup x=some c→X.s₀.heap.objs.size≤c
 hd:X.calm=true→X.A.handled=none
 frames:X.A.frames=some X.stack
 stk:X.stack=X.outer ∨(X.stack=X.env::X.outer∧X.env.frame=some X.env.locals)
 exf:∀b∈X.ex,b≠X.env.locals∧∀x c,X.env.cells.lookup x=some c→c≠b
 bs:∀b o,X.base.get? b=some o→X.s₀.heap.get? b=some o∧X.H₀ b=none
 bsz:X.base.objs.size≤X.s₀.heap.objs.size
 noex:∀b o,X.base.get? b=some o→b∉X.ex
 exfs:∀b∈X.ex,b∉X.fs
 funs:X.s₀.heap.FunFrames X.base X.outer
 frf:∀b∈X.fs,X.H₀ b=none
structure Inv (X:Cx) (pins:List (Addr×Obj)) (σ:List (Option V)) (H:Hp) (s:Shared):Prop where
 ok:X.Ok
 os:s.os=X.s₀.os
 bare:AllBare s.gens
 base:Un X.fs X.ex X.H₀ H X.s₀.heap s.heap
 loc:∃m,s.heap.Ns X.env.locals m∧∀(i:Nat) (x:Str) (v:V),X.N[i]? = some x→σ[i]? = some (some v)→Vis X.env.scope x→∃u,RelV v u∧Look X.env s.heap m x u
 cell:∀x c,X.env.cells.lookup x=some c→∃v,s.heap.IsCell c v
 free:H X.env.locals=none
 freeC:∀x c,X.env.cells.lookup x=some c→H c=none
 pin:∀p∈X.pn++pins,s.heap.get? p.1=some p.2∧H p.1=none∧p.1≠X.env.locals∧p.1∉X.fs∧∀v,p.2.data ≠ .cell v
 hok:HOk X.prog X.w H s.heap
 len:σ.length=X.N.length
section
variable {X:Cx}{pins:List (Addr×Obj)}{σ:List (Option V)}{H H':Hp}{s:Shared}{h':Heap}
theorem Cx.Ok.nofr (ok:X.Ok) {b:Addr}{o:Obj}(e:X.base.get? b=some o):b∉X.fs:=fun hb=>by
 have:=(ok.funs.mem hb).1
 rw[e]at this;cases this
theorem Inv.bs (I:Inv X pins σ H s):∀b o,X.base.get? b=some o→s.heap.get? b=some o∧H b=none:=fun b o e =>
 ⟨I.base.keep b o (I.ok.bs b o e).1 (I.ok.bs b o e).2 (I.ok.nofr e) (I.ok.noex b o e),I.base.free b o (I.ok.bs b o e).1 (I.ok.bs b o e).2 (I.ok.noex b o e)⟩
theorem Inv.bk (I:Inv X pins σ H s):∀b o,X.base.get? b=some o→s.heap.get? b=some o:=fun b o e=>(I.bs b o e).1
theorem Inv.mod (I:Inv X pins σ H s):Mod X.K X.mg X.base:=I.ok.mod
theorem Inv.kIn (I:Inv X pins σ H s):X.K.In s.heap:=I.ok.mod.kin.keeps I.bk
theorem Inv.nolimit (I:Inv X pins σ H s):s.heap.NoLimit:=I.ok.mod.nolimit.keeps I.bk
theorem Inv.lt (I:Inv X pins σ H s):X.env.locals<s.heap.objs.size:=let ⟨_,hn,_⟩:=I.loc;hn.lt
theorem Inv.sz (I:Inv X pins σ H s):X.s₀.heap.objs.size≤s.heap.objs.size:=Nat.le_trans I.ok.above (Nat.le_of_lt I.lt)
theorem Inv.nofs (I:Inv X pins σ H s) {a:Addr}(h:s.heap.objs.size≤a):a∉X.fs:=fun hb=>by
 obtain⟨_,o,ho,_⟩:=I.ok.funs.mem hb
 exact absurd (Nat.lt_of_lt_of_le (Heap.lt_size ho) (Nat.le_trans I.sz h)) (Nat.lt_irrefl _)
theorem Inv.cne (I:Inv X pins σ H s):∀x c,X.env.cells.lookup x=some c→c≠X.env.locals:=fun x c e z=>by
 obtain⟨v,o,ho,hd⟩:=I.cell x c e
 obtain⟨m,⟨o',es,ep,ho',hd',_⟩,_⟩:=I.loc
 rw[z,ho']at ho;cases ho;rw[hd']at hd;cases hd
theorem Inv.funs (I:Inv X pins σ H s):s.heap.FunFrames X.base X.outer:=by
 have all:∀(l:List Env),(∀b∈frs l,b∈X.fs)→X.s₀.heap.FunFrames X.base l→s.heap.FunFrames X.base l:=by
  intro l
  induction l with
  | nil=>intro _ _;trivial
  | cons env r ih =>
   intro hs hl
   obtain⟨hk,⟨L,o,hf,hn,ho,hd⟩,hr⟩:=hl
   have hL:L∈X.fs:=hs L (by unfold frs;rw[List.filterMap_cons,hf];exact List.mem_cons_self)
   obtain⟨sl,e⟩:=I.base.slot L o ho (I.ok.frf L hL) hL fun z=>I.ok.exfs L z hL
   exact⟨hk,⟨L,_,hf,hn,e,hd⟩,ih (fun b hb=>hs b (by unfold frs;rw[List.filterMap_cons,hf];exact List.mem_cons_of_mem _ hb)) hr⟩
 exact all X.outer (fun _ hb=>hb) I.ok.funs
theorem Inv.stack (I:Inv X pins σ H s):s.heap.FunFrames X.base X.stack:=by
 rcases I.ok.stk with e|⟨e,hf⟩
 ·rw[e];exact I.funs
 ·rw[e]
  obtain⟨m,hn,_⟩:=I.loc
  refine .cons (by rw[I.ok.kind];decide) hf hn ?_ I.funs
  exact Heap.get?_none_of_le (Nat.le_trans I.ok.bsz I.ok.above)
theorem Inv.stkSub (I:Inv X pins σ H s):∀b∈frs X.stack,b∈X.env.locals::X.fs:=fun b hb=>by
 rcases I.ok.stk with e|⟨e,hf⟩
 ·rw[e]at hb;exact List.mem_cons_of_mem _ hb
 ·rw[e]at hb
  unfold frs at hb
  rw[List.filterMap_cons,hf]at hb
  exact hb
theorem Inv.stkFree (I:Inv X pins σ H s):∀b∈frs X.stack,H b=none:=fun b hb=>by
 rcases List.mem_cons.mp (I.stkSub b hb) with e|hb
 ·rw[e];exact I.free
 ·obtain⟨_,o,ho,_⟩:=I.ok.funs.mem hb
  exact I.base.free b o ho (I.ok.frf b hb) fun z=>I.ok.exfs b z hb
theorem Inv.step {g':Array GenState}{t':Nat}{d':Drawn}{ch:List Addr}(I:Inv X pins σ H s)
  (hch:∀b∈ch,(b∈X.ex∨X.s₀.heap.objs.size≤b)∧b≠X.env.locals∧(∀x c,X.env.cells.lookup x=some c→c≠b)∧∀p∈X.pn++pins,p.1≠b)
  (keep:∀b o,b≠X.env.locals→b∉X.fs→b∉ch→s.heap.get? b=some o→H b=none→h'.get? b=some o)
  (slot:∀b o,b≠X.env.locals→b∈X.fs→b∉ch→s.heap.get? b=some o→H b=none→∃sl,h'.get? b=some { o with slots:=sl }) (free:∀b o,b∉ch→s.heap.get? b=some o→H b=none→H' b=none)
  (there:∀b o,b∉ch→s.heap.get? b=some o→∃o',h'.get? b=some o')
  (tups:∀b xs,H b=some (.tup xs)→H' b=some (.tup xs)) (frzs:∀b o u,H b=some (.frz o u)→H' b=some (.frz o u)) (tbls:∀b ps,H b=some (.tbl ps)→∃more,H' b=some (.tbl (ps++more)))
  (ns:∀m,s.heap.Ns X.env.locals m→h'.Ns X.env.locals m) (hok:HOk X.prog X.w H' h') (hg:AllBare g') :
  Inv X pins σ H' { s with heap:=h',gens:=g',drawn:=d',toks:=t' }:=by
 have neL:∀b o,X.s₀.heap.get? b=some o→b≠X.env.locals:=fun b o e=>Nat.ne_of_lt (Nat.lt_of_lt_of_le (Heap.lt_size e) I.ok.above)
 have neC:∀b o,X.s₀.heap.get? b=some o→b∉X.ex→b∉ch:=fun b o e hx hb=>by
  rcases(hch b hb).1 with z|z
  ·exact hx z
  ·exact absurd (Nat.lt_of_lt_of_le (Heap.lt_size e) z) (Nat.lt_irrefl _)
 have cellK:∀x c,X.env.cells.lookup x=some c→∀v,s.heap.IsCell c v→h'.IsCell c v:=fun x c e v ⟨o,ho,hd⟩=>by
  have nch:c∉ch:=fun z=>(hch c z).2.2.1 x c e rfl
  by_cases hc:c∈X.fs
  ·obtain⟨sl,q⟩:=slot c o (I.cne x c e) hc nch ho (I.freeC x c e)
   exact⟨_,q,hd⟩
  ·exact⟨o,keep c o (I.cne x c e) hc nch ho (I.freeC x c e),hd⟩
 refine⟨I.ok,I.os,hg,⟨fun b o e n hb hx=>?_,fun b o e n hb hx=>?_,fun b o e n hx=>?_,fun b o e hx=>?_,fun b xs e=>tups b xs (I.base.tups b xs e),fun b o xs e=>frzs b o xs (I.base.frzs b o xs e),fun b ps e=>?_⟩,?_,fun x c e=>?_,?_,fun x c e=>?_,fun p hp=>?_,hok,I.len⟩
 ·exact keep b o (neL b o e) hb (neC b o e hx) (I.base.keep b o e n hb hx) (I.base.free b o e n hx)
 ·obtain⟨sl,e1⟩:=I.base.slot b o e n hb hx
  obtain⟨sl',e2⟩:=slot b _ (neL b o e) hb (neC b o e hx) e1 (I.base.free b o e n hx)
  exact⟨sl',e2⟩
 ·obtain⟨o',e1⟩:=I.base.there b o e hx
  exact free b o' (neC b o e hx) e1 (I.base.free b o e n hx)
 ·obtain⟨o',e1⟩:=I.base.there b o e hx
  exact there b o' (neC b o e hx) e1
 ·obtain⟨m1,e1⟩:=I.base.tbls b ps e
  obtain⟨m2,e2⟩:=tbls b _ e1
  exact⟨m1++m2,by rw[e2,Array.append_assoc]⟩
 ·obtain⟨m,hn,hl⟩:=I.loc
  refine⟨m,ns m hn,fun i x v e1 e2 e3=>?_⟩
  obtain⟨u,r,l⟩:=hl i x v e1 e2 e3
  refine⟨u,r,?_⟩
  rcases l with l|⟨k,c,e,z⟩
  ·exact .inl l
  ·exact .inr ⟨k,c,e,cellK x c e _ z⟩
 ·obtain⟨v,z⟩:=I.cell x c e
  exact⟨v,cellK x c e v z⟩
 ·obtain⟨m,⟨o,_,_,ho,_⟩,_⟩:=I.loc
  exact free _ o (fun z=>(hch _ z).2.1 rfl) ho I.free
 ·obtain⟨v,o,ho,hd⟩:=I.cell x c e
  exact free c o (fun z=>(hch c z).2.2.1 x c e rfl) ho (I.freeC x c e)
 ·obtain⟨e,n,ne,nf,d⟩:=I.pin p hp
  have nch:p.1∉ch:=fun z=>(hch p.1 z).2.2.2 p hp rfl
  exact⟨keep p.1 p.2 ne nf nch e n,free p.1 p.2 nch e n,ne,nf,d⟩
theorem Inv.un {t':Nat}(I:Inv X pins σ H s) (u:Un X.fs [] H H' s.heap h') (hok:HOk X.prog X.w H' h'):Inv X pins σ H' { s with heap:=h',toks:=t' }:=by
 obtain⟨m,⟨o,es,ep,ho,r⟩,_⟩:=id I.loc
 obtain⟨sl,hL⟩:=u.any ho I.free (by simp)
 exact I.step (g':=s.gens) (d':=s.drawn) (ch:=[]) (fun _ z=>nomatch z) (fun b o _ hb _ e n=>u.keep b o e n hb (by simp)) (fun b o _ hb _ e n=>u.slot b o e n hb (by simp)) (fun b o _ e n=>u.free b o e n (by simp)) (fun b o _ e=>u.there b o e (by simp)) u.tups u.frzs u.tbls (fun m' hm=>by
  obtain⟨o',es',ep',ho',r'⟩:=hm
  rw[ho]at ho';cases ho'
  exact⟨_,es',ep',hL,r'⟩) hok I.bare
theorem Inv.call {g':Array GenState}{t':Nat}{d':Drawn}{ch:List Addr}(I:Inv X pins σ H s) (u:Un (frs X.stack) ch H H' s.heap h') (hok:HOk X.prog X.w H' h') (hg:AllBare g')
  (hch:∀b∈ch,(b∈X.ex∨X.s₀.heap.objs.size≤b)∧b≠X.env.locals∧(∀x c,X.env.cells.lookup x=some c→c≠b)∧∀p∈X.pn++pins,p.1≠b) :
  Inv X pins σ H' { s with heap:=h',gens:=g',drawn:=d',toks:=t' }:=by
 obtain⟨m,⟨o,es,ep,ho,r⟩,_⟩:=id I.loc
 obtain⟨sl,hL⟩:=u.any ho I.free fun z=>(hch _ z).2.1 rfl
 exact I.step (ch:=ch) hch (fun b o hL hb hc e n=>u.keep b o e n (fun z=>(List.mem_cons.mp (I.stkSub b z)).elim hL hb) hc) (fun b o _ _ hc e n=>u.any e n hc) (fun b o hc e n=>u.free b o e n hc) (fun b o hc e=>u.there b o e hc) u.tups u.frzs u.tbls (fun m' hm=>by
  obtain⟨o',es',ep',ho',r'⟩:=hm
  rw[ho]at ho';cases ho'
  exact⟨_,es',ep',hL,r'⟩) hok hg
theorem Inv.turned {t':Nat}{it:Addr}(I:Inv X pins σ H s) (k:∀b o,b≠it→s.heap.get? b=some o→h'.get? b=some o) (hn:H it=none) (hL:it≠X.env.locals)
  (h1:it∈X.ex∨X.s₀.heap.objs.size≤it) (h2:∀x c,X.env.cells.lookup x=some c→c≠it) (h3:∀p∈X.pn++pins,p.1≠it):Inv X pins σ H { s with heap:=h',toks:=t' }:=by
 have nit:∀b u,H b=some u→b≠it:=fun b u e z=>by rw[z,hn]at e;cases e
 refine I.step (g':=s.gens) (d':=s.drawn) (ch:=[it]) (fun b hb=>?_) (fun b o _ _ hc e _=>k b o (fun z=>hc (by simp[z])) e) (fun b o _ _ hc e _=>⟨o.slots,k b o (fun z=>hc (by simp[z])) e⟩) (fun _ _ _ _ n=>n)
  (fun b o hc e=>⟨o,k b o (fun z=>hc (by simp[z])) e⟩) (fun _ _ e=>e) (fun _ _ _ e=>e) (fun b ps e=>⟨#[],by rw[e];simp⟩) (fun m hm=>?_) (fun b u e=>?_) I.bare
 ·have e:b=it:=by simpa using hb
  subst e
  exact⟨h1,hL,h2,h3⟩
 ·obtain⟨o,es,ep,ho,r⟩:=hm
  exact⟨o,es,ep,k _ o (Ne.symm hL) ho,r⟩
 ·refine(I.hok b u e).stay (fun c v hc q=>k c v ?_ q) (fun _ q=>q) fun _ _ q=>q
  rcases hc with z|z
  ·rw[z];exact nit b u e
  ·exact nit c _ z
theorem Inv.tok (I:Inv X pins σ H s) (t:Nat):Inv X pins σ H { s with toks:=t }:=I.un (h':=s.heap) (t':=t) Un.refl I.hok
theorem Inv.kept {t':Nat}(I:Inv X pins σ H s) (k:∀b u,s.heap.get? b=some u→h'.get? b=some u):Inv X pins σ H { s with heap:=h',toks:=t' }:=I.un (Un.kept k) (I.hok.kept k)
theorem Inv.laid {a:Addr}{o:HO}{t':Nat}(I:Inv X pins σ H s) (k:∀b u,s.heap.get? b=some u→h'.get? b=some u) (hp:s.heap.objs.size≤a) (new:ObjOk X.prog X.w (upd H a o) h' a o) :
  Inv X pins σ (upd H a o) { s with heap:=h',toks:=t' }:=I.un (Un.laid k hp (I.hok.fresh hp)) (I.hok.laid k hp new)
theorem Inv.write {x e:Addr}{o:HO}{t':Nat}(I:Inv X pins σ H s) (mu:Mut (H x)) (he:e=x∨H e=some (.own x)) (k:∀b u,b≠e→s.heap.get? b=some u→h'.get? b=some u) (heo:∃u,h'.get? e=some u)
  (new:ObjOk X.prog X.w (upd H x o) h' x o):Inv X pins σ (upd H x o) { s with heap:=h',toks:=t' }:=I.un (Un.write mu he k heo) (I.hok.write mu he k heo new)
theorem Inv.pins_of {pins':List (Addr×Obj)}(I:Inv X pins σ H s) (h:∀p∈pins',s.heap.get? p.1=some p.2∧H p.1=none∧p.1≠X.env.locals∧p.1∉X.fs∧∀v,p.2.data ≠ .cell v):Inv X pins' σ H s :=
 ⟨I.ok,I.os,I.bare,I.base,I.loc,I.cell,I.free,I.freeC,fun p hp=>(List.mem_append.mp hp).elim (fun z=>I.pin p (List.mem_append_left _ z)) (h p),I.hok,I.len⟩
theorem nodup_ix {N:List Str}(hN:N.Nodup) {i j:Nat}{x:Str}(a:N[i]? = some x) (b:N[j]? = some x):i=j:=by
 obtain⟨h1,e1⟩:=List.getElem?_eq_some_iff.mp a
 obtain⟨h2,e2⟩:=List.getElem?_eq_some_iff.mp b
 exact(List.getElem_inj hN).mp (e1.trans e2.symm)
theorem store_ok2 {M:Model}{A:Around}{E:Value→Shared→Prop}{i:Nat}{x:Str}{v:V}{u:Value}{Q:Unit→Shared→Prop}(I:Inv X pins σ H s) (hN:X.N.Nodup) (hi:X.N[i]? = some x) (hx:Loc X.env.scope x) (r:RelV v u)
  (h:∀s',Inv X pins (σ.set i (some v)) H s'→(∃a,Heap.SameBut a s.heap s'.heap∧(a=X.env.locals∨X.env.cells.lookup x=some a))→Q () s') (hf:X.fn x=true∨X.env.scope.names.lookup x=some .local:=by first|exact .inl rfl|exact .inr rfl|assumption):wpAny M A (storeName X.env x u) Q E s:=by
 obtain⟨m,hn,hl⟩:=id I.loc
 have hcls:(X.env.scope.kind == .class || (X.env.scope.kind == .module && X.env.locals != X.env.globals))=false:=by rw[I.ok.kind];rfl
 have hiσ:i<σ.length:=by rw[I.len];exact(List.getElem?_eq_some_iff.mp hi).1
 have cne:=I.cne
 have tracked:∀{a:Addr}{h':Heap},(∃o,s.heap.get? a=some o∧H a=none)→Heap.SameBut a s.heap h'→HOk X.prog X.w H h':=fun {a h'} ha hs b ob e=>by
  obtain⟨_,_,hfree⟩:=ha
  refine(I.hok b ob e).stay (fun c w' hc q=>(hs.2 c ?_).trans q) (fun _ q=>q) fun _ _ q=>q
  rintro rfl
  rcases hc with rfl|hc
  ·rw[hfree]at e;cases e
  ·rw[hfree]at hc;cases hc
 rcases hx with hk|hk
 ·refine wpAny_storeName_local hk hn (fun h' hn' hs=>?_) hcls
  obtain⟨oL,_,_,hoL,_⟩:=id hn
  refine h _ ⟨I.ok,I.os,I.bare,⟨fun b o e n hb hx=>?_,fun b o e n hb hx=>?_,I.base.free,fun b o e hx=>?_,I.base.tups,I.base.frzs,I.base.tbls⟩,⟨_,hn',fun j y v' e1 e2 e3=>?_⟩,fun y c e=>?_,I.free,I.freeC,fun p hp=>?_,tracked ⟨oL,hoL,I.free⟩ hs,by simpa using I.len⟩ ⟨_,hs,.inl rfl⟩
  ·exact(hs.2 b (Nat.ne_of_lt (Nat.lt_of_lt_of_le (Heap.lt_size e) I.ok.above))).trans (I.base.keep b o e n hb hx)
  ·obtain⟨sl,e1⟩:=I.base.slot b o e n hb hx
   exact⟨sl,(hs.2 b (Nat.ne_of_lt (Nat.lt_of_lt_of_le (Heap.lt_size e) I.ok.above))).trans e1⟩
  ·obtain⟨o',e1⟩:=I.base.there b o e hx
   exact⟨o',(hs.2 b (Nat.ne_of_lt (Nat.lt_of_lt_of_le (Heap.lt_size e) I.ok.above))).trans e1⟩
  ·by_cases hj:j=i
   ·subst hj
    rw[hi]at e1;cases e1
    rw[List.getElem?_set_self hiσ]at e2
    cases e2
    exact⟨u,r,.inl ⟨hk,by simp⟩⟩
   ·rw[List.getElem?_set_ne (Ne.symm hj)]at e2
    obtain⟨u',r',q⟩:=hl j y v' e1 e2 e3
    refine⟨u',r',?_⟩
    rcases q with⟨k,e⟩|⟨k,c,e,z⟩
    ·refine .inl ⟨k,?_⟩
     have:y≠x:=fun e=>hj (nodup_ix hN e1 (e ▸ hi))
     simp[this,e]
    ·exact .inr ⟨k,c,e,z.sameBut hs (cne y c e)⟩
  ·obtain⟨w',z⟩:=I.cell y c e
   exact⟨w',z.sameBut hs (cne y c e)⟩
  ·obtain⟨e,n,ne,nf,d⟩:=I.pin p hp
   exact⟨(hs.2 p.1 ne).trans e,n,ne,nf,d⟩
 ·have hfn:X.fn x=true:=by
   rcases hf with z|z
   ·exact z
   ·rw[z]at hk;cases hk
  obtain⟨c,hc⟩:=I.ok.has x (.inl hk)
  obtain⟨w',z⟩:=I.cell x c hc
  refine wpAny_storeName_cell I.ok.kind hk hc z (fun h' hc' hs=>?_)
  obtain⟨oc,hoc,hocd⟩:=id z
  refine h { s with heap:=h' } ⟨I.ok,I.os,I.bare,⟨fun b o e n hb hx=>?_,fun b o e n hb hx=>?_,I.base.free,fun b o e hx=>?_,I.base.tups,I.base.frzs,I.base.tbls⟩,⟨m,hn.sameBut hs (Ne.symm (cne x c hc)),fun j y v' e1 e2 e3=>?_⟩,fun y c' e=>?_,I.free,I.freeC,fun p hp=>?_,tracked ⟨oc,hoc,I.freeC x c hc⟩ hs,by simpa using I.len⟩ ⟨c,hs,.inr hc⟩
  ·exact(hs.2 b (Nat.ne_of_lt (Nat.lt_of_lt_of_le (Heap.lt_size e) (I.ok.cab x c hfn hc)))).trans (I.base.keep b o e n hb hx)
  ·obtain⟨sl,e1⟩:=I.base.slot b o e n hb hx
   exact⟨sl,(hs.2 b (Nat.ne_of_lt (Nat.lt_of_lt_of_le (Heap.lt_size e) (I.ok.cab x c hfn hc)))).trans e1⟩
  ·obtain⟨o',e1⟩:=I.base.there b o e hx
   exact⟨o',(hs.2 b (Nat.ne_of_lt (Nat.lt_of_lt_of_le (Heap.lt_size e) (I.ok.cab x c hfn hc)))).trans e1⟩
  ·by_cases hj:j=i
   ·subst hj
    rw[hi]at e1;cases e1
    rw[List.getElem?_set_self hiσ]at e2
    cases e2
    exact⟨u,r,.inr ⟨.inl hk,c,hc,hc'⟩⟩
   ·rw[List.getElem?_set_ne (Ne.symm hj)]at e2
    obtain⟨u',r',q⟩:=hl j y v' e1 e2 e3
    refine⟨u',r',?_⟩
    rcases q with q|⟨k,c',e,z'⟩
    ·exact .inl q
    ·refine .inr ⟨k,c',e,z'.sameBut hs ?_⟩
     rintro rfl
     exact hj (nodup_ix hN e1 (I.ok.inj _ _ _ e hc ▸ hi))
  ·by_cases hcc:c'=c
   ·subst hcc;exact⟨_,hc'⟩
   ·obtain⟨w2,z2⟩:=I.cell y c' e
    exact⟨w2,z2.sameBut hs hcc⟩
  ·obtain⟨e,n,ne,nf,d⟩:=I.pin p hp
   refine⟨(hs.2 p.1 ?_).trans e,n,ne,nf,d⟩
   intro q
   rw[q,hoc]at e
   have q':oc=p.2:=Option.some.inj e
   exact d w' (by rw[← q'];exact hocd)
theorem store_ok {M:Model}{A:Around}{E:Value→Shared→Prop}{i:Nat}{x:Str}{v:V}{u:Value}{Q:Unit→Shared→Prop}(I:Inv X pins σ H s) (hN:X.N.Nodup) (hi:X.N[i]? = some x) (hx:Loc X.env.scope x) (r:RelV v u)
  (h:∀s',Inv X pins (σ.set i (some v)) H s'→Q () s') (hf:X.fn x=true∨X.env.scope.names.lookup x=some .local:=by first|exact .inl rfl|exact .inr rfl|assumption):wpAny M A (storeName X.env x u) Q E s :=
 store_ok2 I hN hi hx r (fun s' I' _=>h s' I') hf
theorem Inv.call' {s':Shared}{ch:List Addr}(I:Inv X pins σ H s) (ho:s'.os=s.os) (u:Un (frs X.stack) ch H H' s.heap s'.heap) (hok:HOk X.prog X.w H' s'.heap) (hg:AllBare s'.gens)
  (hch:∀b∈ch,(b∈X.ex∨X.s₀.heap.objs.size≤b)∧b≠X.env.locals∧(∀x c,X.env.cells.lookup x=some c→c≠b)∧∀p∈X.pn++pins,p.1≠b):Inv X pins σ H' s':=by
 obtain⟨h',g',d',t',o'⟩:=s'
 have e:o'=s.os:=ho
 subst e
 exact I.call (g':=g') (t':=t') (d':=d') u hok hg hch
end
abbrev XK:=Value→Option Addr→Hp→Prop
abbrev St:=List (Option V)
abbrev VK:=V→Hp→Prop
abbrev TE:=St→Hp→VK→Prop
abbrev TT:=St→Hp→(Bool→Hp→Prop)→Prop
abbrev TA:=St→Hp→(List V→Hp→Prop)→Prop
structure Ends where
 nx:St→Hp→Prop
 rt:VK
 bk:St→Hp→Prop:=fun _ _=>False
 ct:St→Hp→Prop:=fun _ _=>False
abbrev TS:=Ends→St→Hp→Prop
def EP (X:Cx) (pins:List (Addr×Obj)) (σ:St) (Q:VK) (u:Value) (s':Shared):Prop:=∃v H',Inv X pins σ H' s'∧RelV v u∧Q v H'
def TP (X:Cx) (pins:List (Addr×Obj)) (σ:St) (Q:Bool→Hp→Prop) (b:Bool) (s':Shared):Prop:=∃H',Inv X pins σ H' s'∧Q b H'
def AP (X:Cx) (pins:List (Addr×Obj)) (σ:St) (Q:List V→Hp→Prop) (us:List Value) (s':Shared):Prop:=∃vs H',Inv X pins σ H' s'∧Vals vs us∧Q vs H'
def SP (X:Cx) (pins:List (Addr×Obj)) (D:Ends) (f:Flow) (s':Shared):Prop :=
 match f with
 | .next=>∃σ' H',Inv X pins σ' H' s'∧D.nx σ' H'
 | .brk=>∃σ' H',Inv X pins σ' H' s'∧D.bk σ' H'
 | .cont=>∃σ' H',Inv X pins σ' H' s'∧D.ct σ' H'
 | .ret u=>∃v σ' H',Inv X pins σ' H' s'∧RelV v u∧D.rt v H'
def PE (X:Cx) (e:Expr) (t:TE):Prop :=
 ∀(pins:List (Addr×Obj)) (s:Shared) (σ:St) (H:Hp) (Q:VK),Inv X pins σ H s→t σ H Q→wpAny (model X.prog X.w) X.A (eval e X.env) (EP X pins σ Q) X.xe s
def PT (X:Cx) (e:Expr) (t:TT):Prop :=
 ∀(pins:List (Addr×Obj)) (s:Shared) (σ:St) (H:Hp) (Q:Bool→Hp→Prop),Inv X pins σ H s→t σ H Q→wpAny (model X.prog X.w) X.A (isTrue e X.env (eval e X.env)) (TP X pins σ Q) X.xe s
def PW (X:Cx) (e:Expr) (t:TT):Prop :=
 ∀(whole:Sem Value) (pins:List (Addr×Obj)) (s:Shared) (σ:St) (H:Hp) (Q:Bool→Hp→Prop),Inv X pins σ H s→t σ H Q→wpAny (model X.prog X.w) X.A (isTrue e X.env whole) (TP X pins σ Q) X.xe s
theorem PW.pt {X:Cx}{e:Expr}{t:TT}(h:PW X e t):PT X e t:=h _
def PA (X:Cx) (es:List Expr) (t:TA):Prop :=
 ∀(pos:Pos) (pins:List (Addr×Obj)) (s:Shared) (σ:St) (H:Hp) (Q:List V→Hp→Prop),Inv X pins σ H s→t σ H Q→wpAny (model X.prog X.w) X.A (spliced (backTo pos (starEach es X.env))) (AP X pins σ Q) X.xe s
def PS (X:Cx) (st:Stmt) (t:TS):Prop :=
 ∀(pins:List (Addr×Obj)) (s:Shared) (σ:St) (H:Hp) (D:Ends),Inv X pins σ H s→t D σ H→wpAny (model X.prog X.w) X.A (exec st X.env) (SP X pins D) X.xe s
def PSs (X:Cx) (st:List Stmt) (t:TS):Prop :=
 ∀(pins:List (Addr×Obj)) (s:Shared) (σ:St) (H:Hp) (D:Ends),Inv X pins σ H s→t D σ H→wpAny (model X.prog X.w) X.A (execs st X.env) (SP X pins D) X.xe s
theorem thn {α:Type}{t:Sem α}{Q Q':α→Shared→Prop}{M:Model}{A:Around}{E:Value→Shared→Prop}{s:Shared}(h:wpAny M A t Q E s) (hQ:∀a s,Q a s→Q' a s):wpAny M A t Q' E s:=wpAny_mono h hQ fun _ _ x=>x
end L2
namespace L2
open PySem PySem.Spec PyProof.Rows
section
variable {X:Cx}
theorem bin {a b:Expr}{ta tb:TE}(ha:PE X a ta) (hb:PE X b tb) {pins:List (Addr×Obj)}{s:Shared}{σ:St}{H:Hp}{R:V→V→Hp→Prop}(I:Inv X pins σ H s) (h:ta σ H fun x H1=>tb σ H1 fun y H2=>R x y H2)
  {α:Type}{Q:α→Shared→Prop}{f:Value→Value→Sem α}
  (hf:∀v u s2 x y H2,Inv X pins σ H2 s2→RelV x v→RelV y u→R x y H2→wpAny (model X.prog X.w) X.A (f v u) Q X.xe s2) :
  wpAny (model X.prog X.w) X.A (eval a X.env) (fun v s₁=>wpAny (model X.prog X.w) X.A (eval b X.env) (fun u s₂=>wpAny (model X.prog X.w) X.A (f v u) Q X.xe s₂) X.xe s₁) X.xe s:=by
 refine thn (ha pins s σ H _ I h) fun v s1 ⟨x,H1,I1,r1,q1⟩=>?_
 refine thn (hb pins s1 σ H1 _ I1 q1) fun u s2 ⟨y,H2,I2,r2,q2⟩=>?_
 exact hf v u s2 x y H2 I2 r1 r2 q2
def tVar (i:Nat):TE:=fun σ H Q=>∃v,σ[i]? = some (some v)∧Q v H
def tC (v:V):TE:=fun _ H Q=>Q v H
theorem pe_var {i:Nat}{x:Str}{pos:Pos}(hN:X.N[i]? = some x) (hv:Vis X.env.scope x) (hd:(x ==("__debug__" : Str))=false:=by decide) (hcd:(x ==("__classdict__" : Str))=false:=by decide):PE X (.Name x pos) (tVar i):=by
 intro pins s σ H Q I h
 obtain⟨v,e,h⟩:=h
 obtain⟨m,hn,hl⟩:=I.loc
 obtain⟨u,r,l⟩:=hl i x v hN e hv
 have fin:EP X pins σ Q u s:=⟨v,H,I,r,h⟩
 rcases l with⟨hk,hm⟩|⟨hk,c,hc,hcell⟩
 ·exact wpAny_Name (wpAny_loadName_local I.ok.kind hk hn hm fin) hd
 ·rcases hk with hk|hk
  ·exact wpAny_Name (wpAny_loadName_cell I.ok.kind hk hc hcell fin) hd
  ·exact wpAny_Name (wpAny_loadName_free I.ok.kind hk hc hcell fin hcd) hd
theorem pe_int {i j pos}:PE X (.Constant (.int i) j pos) (tC (.int i)):=fun _ _ _ H _ I h=>wpAny_Constant_int ⟨.int i,H,I.tok _,⟨_,rfl⟩,h⟩
theorem pe_bl {b j pos}:PE X (.Constant (.bool b) j pos) (tC (.bl b)):=fun _ _ _ H _ I h=>Constant_bool ⟨.bl b,H,I,rfl,h⟩
theorem pe_non {j pos}:PE X (.Constant .none j pos) (tC .non):=fun _ _ _ H _ I h=>Constant_none ⟨.non,H,I,rfl,h⟩
theorem pe_str {x j pos}:PE X (.Constant (.str x) j pos) (tC (.str x)):=fun _ _ _ H _ I h=>Calls.Constant_str ⟨.str x,H,I.tok _,⟨_,rfl⟩,h⟩
def Gl (X:Cx) (x:Str):Prop:=X.env.kindOf x=some .globalImplicit
theorem ld_glob {E:Value→Shared→Prop}{pins:List (Addr×Obj)}{s:Shared}{σ:St}{H:Hp}{x:Str}{u:Value}{pos:Pos}{Q:Value→Shared→Prop}(I:Inv X pins σ H s) (hg:Gl X x) (hm:X.mg x=some u) (h:Q u s)
  (hd:(x ==("__debug__" : Str))=false:=by decide):wpAny (model X.prog X.w) X.A (eval (.Name x pos) X.env) Q E s :=
 Calls.Name_function_global I.ok.kind hg (Calls.loadGlobal_global (by rw[I.ok.glob];exact I.mod.glob.keeps I.bk) hm h) hd
theorem ld_blt {E:Value→Shared→Prop}{pins:List (Addr×Obj)}{s:Shared}{σ:St}{H:Hp}{x:Str}{u:Value}{pos:Pos}{Q:Value→Shared→Prop}(I:Inv X pins σ H s) (hg:Gl X x) (hm:X.mg x=none) (hv:bootBuiltins x=some u) (h:Q u s)
  (hn:x ≠ "__name__" := by decide) (hd:(x ==("__debug__" : Str))=false:=by decide):wpAny (model X.prog X.w) X.A (eval (.Name x pos) X.env) Q E s:=by
 obtain⟨mb,h1,h2⟩:=I.mod.blt
 exact Calls.Name_function_global I.ok.kind hg (Calls.loadGlobal_builtin (by rw[I.ok.glob];exact I.mod.glob.keeps I.bk) hm (by rw[I.ok.blt];exact h1.keeps I.bk) ((h2 x hn).trans hv) h) hd
theorem pe_glob {x:Str}{v:V}{u:Value}{pos:Pos}(hg:Gl X x) (hm:X.mg x=some u) (r:RelV v u) (hd:(x ==("__debug__" : Str))=false:=by decide):PE X (.Name x pos) (tC v) :=
 fun _ _ _ H _ I h=>ld_glob I hg hm ⟨v,H,I,r,h⟩ hd
theorem pe_bltn {x:Str}{v:V}{u:Value}{pos:Pos}(hg:Gl X x) (hm:X.mg x=none) (hv:bootBuiltins x=some u) (r:RelV v u) (hn:x ≠ "__name__" := by decide) (hd:(x ==("__debug__" : Str))=false:=by decide):PE X (.Name x pos) (tC v) :=
 fun _ _ _ H _ I h=>ld_blt I hg hm hv ⟨v,H,I,r,h⟩ hn hd
variable {a b:Expr}{ta tb:TE}{pos:Pos}
def PC (X:Cx) (op:CmpOp) (a b:Expr) (t:TE):Prop :=
 ∀(pins:List (Addr×Obj)) (s:Shared) (σ:St) (H:Hp) (Q:VK),Inv X pins σ H s→t σ H Q →
  wpAny (model X.prog X.w) X.A (eval a X.env) (fun v s₁=>wpAny (model X.prog X.w) X.A (eval b X.env) (fun u s₂=>wpAny (model X.prog X.w) X.A (compareOp op v u) (EP X pins σ Q) X.xe s₂) X.xe s₁) X.xe s
def tB (t:TE):TT:=fun σ H Q=>t σ H fun x H1=>∃c,x = .bl c∧Q c H1
theorem pt_cmp {op:CmpOp}{t:TE}(h:PC X op a b t) (h1:behindInMarks op b=false:=by first|exact nobehind _ (by decide) (by decide)|rfl):PT X (.Compare a [op] [b] pos) (tB t):=by
 intro pins s σ H Q I hw
 refine wpAny_isTrue_Compare1 (thn (h pins s σ H _ I hw) fun v s1 h1=>thn h1 fun u s2 h2=>thn h2 fun c s3 ⟨x,H1,I1,r1,q1⟩=>?_) h1
 obtain⟨d,rfl,q⟩:=q1
 cases r1
 exact wpAny_truthy_bool ⟨H1,I1,q⟩
theorem pt_val {e:Expr}{t:TE}(h:PE X e t) (he:∀whole,isTrue e X.env whole =(do let v ← whole;standAt e.pos;holding [v] (truthy v)):=by intro _;rfl):PT X e (tB t):=by
 intro pins s σ H Q I hw
 refine isTrue_plain (thn (h pins s σ H _ I hw) fun v s1 ⟨x,H1,I1,r1,q1⟩=>?_) (he _)
 obtain⟨d,rfl,q⟩:=q1
 cases r1
 exact wpAny_truthy_bool ⟨H1,I1,q⟩
variable {tA tB':TT}{rest:List Expr}
def tAnd (t u:TT):TT:=fun σ H Q=>t σ H fun c H1=>if c=true then u σ H1 Q else Q false H1
def tOr (t u:TT):TT:=fun σ H Q=>t σ H fun c H1=>if c=true then Q true H1 else u σ H1 Q
def tNot (t:TT):TT:=fun σ H Q=>t σ H fun c H1=>Q (!c) H1
theorem pw_and1 (ha:PT X a tA):PW X (.BoolOp .And [a] pos) tA:=by
 intro wh pins s σ H Q I h
 refine isTrue_and (thn (ha pins s σ H Q I h) fun c s1 e=>?_)
 cases c with
 | true=>exact isTrue_and_nil e
 | false=>exact e
theorem pw_or1 (ha:PT X a tA):PW X (.BoolOp .Or [a] pos) tA:=by
 intro wh pins s σ H Q I h
 refine isTrue_or (thn (ha pins s σ H Q I h) fun c s1 e=>?_)
 cases c with
 | false=>exact isTrue_or_nil e
 | true=>exact e
theorem pw_and (ha:PT X a tA) (hb:PW X (.BoolOp .And (b::rest) pos) tB'):PW X (.BoolOp .And (a::b::rest) pos) (tAnd tA tB'):=by
 intro wh pins s σ H Q I h
 refine isTrue_and (thn (ha pins s σ H _ I h) fun c s1 ⟨H1,I1,q1⟩=>?_)
 cases c with
 | true=>exact hb wh pins s1 σ H1 Q I1 q1
 | false=>exact⟨H1,I1,q1⟩
theorem pw_or (ha:PT X a tA) (hb:PW X (.BoolOp .Or (b::rest) pos) tB'):PW X (.BoolOp .Or (a::b::rest) pos) (tOr tA tB'):=by
 intro wh pins s σ H Q I h
 refine isTrue_or (thn (ha pins s σ H _ I h) fun c s1 ⟨H1,I1,q1⟩=>?_)
 cases c with
 | true=>exact⟨H1,I1,q1⟩
 | false=>exact hb wh pins s1 σ H1 Q I1 q1
theorem pt_not (ha:PT X a tA):PT X (.UnaryOp .Not a pos) (tNot tA):=by
 intro pins s σ H Q I h
 exact isTrue_not (ha pins s σ H (fun c H1=>Q (!c) H1) I h)
def tAndV (ta tb:TE):TE:=fun σ H Q=>ta σ H fun x H1=>∃c,x = .bl c∧if c=true then tb σ H1 Q else Q (.bl false) H1
def tNotV (ta:TE):TE:=fun σ H Q=>ta σ H fun x H1=>∃c,x = .bl c∧Q (.bl (!c)) H1
theorem pe_one {op}{t:TE}(h:PE X a t):PE X (.BoolOp op [a] pos) t:=fun pins s σ H Q I hw=>BoolOp_one (h pins s σ H Q I hw)
theorem pe_and (ha:PE X a ta) (hb:PE X (.BoolOp .And (b::rest) pos) tb):PE X (.BoolOp .And (a::b::rest) pos) (tAndV ta tb):=by
 intro pins s σ H Q I h
 refine BoolOp_and (thn (ha pins s σ H _ I h) fun v s1 ⟨x,H1,I1,r1,q1⟩=>?_)
 obtain⟨c,rfl,q1⟩:=q1
 cases r1
 refine wpAny_truthy_bool ?_
 cases c with
 | true=>exact hb pins s1 σ H1 Q I1 q1
 | false=>exact⟨.bl false,H1,I1,rfl,q1⟩
theorem pe_not (ha:PE X a ta):PE X (.UnaryOp .Not a pos) (tNotV ta):=by
 intro pins s σ H Q I h
 refine UnaryOp_ (thn (ha pins s σ H _ I h) fun v s1 ⟨x,H1,I1,r1,q1⟩=>?_)
 obtain⟨c,rfl,q1⟩:=q1
 cases r1
 exact not_of (wpAny_truthy_bool ⟨.bl (!c),H1,I1,rfl,q1⟩)
end
end L2
namespace L2
open PySem PySem.Spec PyProof.Rows
def SqL (K:PySem.W.Frag) (H:Hp) (a:Addr) (xs:List V):Prop :=
 Rd H a (.lst xs) ∨
  ∃(o:Obj) (its:Array Value) (n:Nat),K.lookup a=some o∧o.cls = .type "list"∧o.dict=none∧o.data = .seq its n∧its.size≤sizeLine∧Vals xs its.toList
def SqT (K:PySem.W.Frag) (H:Hp) (a:Addr) (xs:List V):Prop :=
 Rd H a (.tup xs) ∨
  ∃(o:Obj) (its:Array Value) (n:Nat),K.lookup a=some o∧o.cls = .type "tuple"∧o.data = .seq its n∧its.size≤sizeLine∧Vals xs its.toList
def absV:Value→Option V
 | .none=>some .non
 | .bool b=>some (.bl b)
 | .int i _=>some (.int i)
 | .str x _=>some (.str x)
 | .bytes b _=>some (.byt b)
 | .float b _=>some (.flt b)
 | .ref a=>some (.ref a)
 | .type n=>some (.ty n)
 | _=>none
theorem RelV.abs {x:V}{u:Value}(r:RelV x u):absV u=some x:=by
 cases x with
 | non=>cases r;rfl
 | bl _=>cases r;rfl
 | int _=>obtain⟨t,rfl⟩:=r;rfl
 | str _=>obtain⟨t,rfl⟩:=r;rfl
 | byt _=>obtain⟨t,rfl⟩:=r;rfl
 | flt _=>obtain⟨t,rfl⟩:=r;rfl
 | ref _=>cases r;rfl
 | ty _=>cases r;rfl
theorem RelV.inj {x y:V}{u:Value}(r:RelV x u) (q:RelV y u):x=y:=Option.some.inj (r.abs.symm.trans q.abs)
theorem Vals.inj:∀{xs ys:List V}{us:List Value},Vals xs us→Vals ys us→xs=ys
 | _,_,_,.nil,.nil=>rfl
 | _,_,_,.cons r t,.cons r' t'=>by rw[r.inj r',Vals.inj t t']
section
variable {X:Cx}{pins:List (Addr×Obj)}{σ:St}{H:Hp}{s:Shared}{a:Addr}{xs ys:List V}
theorem SqL.of {K:PySem.W.Frag}(h:H a=some (.lst xs)):SqL K H a xs:=.inl (.inl h)
theorem SqT.of {K:PySem.W.Frag}(h:H a=some (.tup xs)):SqT K H a xs:=.inl (.inl h)
theorem Inv.list (I:Inv X pins σ H s) (h:SqL X.K H a xs):∃its:List Value,Vals xs its∧PlainL s.heap a its.toArray∧xs.length≤sizeLine:=by
 rcases h with h|⟨o,its,n,hk,hc,hd,hs,hz,r⟩
 ·obtain⟨z,its,n,r,e⟩:=h.ok I.hok
  exact⟨its,r,⟨_,n,e,rfl,rfl,rfl⟩,z⟩
 ·refine⟨its.toList,r,⟨o,n,I.kIn a o hk,hc,hd,by simpa using hs⟩,?_⟩
  have e:=r.length
  simp only[Array.length_toList]at e
  omega
theorem Inv.tuple (I:Inv X pins σ H s) (h:SqT X.K H a xs):∃its:List Value,Vals xs its∧IsTup s.heap a its.toArray∧xs.length≤sizeLine:=by
 rcases h with h|⟨o,its,n,hk,hc,hs,hz,r⟩
 ·obtain⟨z,its,r,p⟩:=h.ok I.hok
  exact⟨its,r,p,z⟩
 ·refine⟨its.toList,r,⟨o,I.kIn a o hk,hc,n,by simpa using hs⟩,?_⟩
  have e:=r.length
  simp only[Array.length_toList]at e
  omega
theorem Inv.list_inj (I:Inv X pins σ H s) (h:SqL X.K H a xs) (h':SqL X.K H a ys):xs=ys:=by
 obtain⟨its,r,⟨o,n,e,_,_,d⟩,_⟩:=I.list h
 obtain⟨its',r',⟨o',n',e',_,_,d'⟩,_⟩:=I.list h'
 rw[e]at e';cases e'
 rw[d]at d'
 injection d' with d1 _
 have:its=its':=by simpa using congrArg Array.toList d1
 subst this
 exact r.inj r'
theorem Inv.tuple_inj (I:Inv X pins σ H s) (h:SqT X.K H a xs) (h':SqT X.K H a ys):xs=ys:=by
 obtain⟨its,r,⟨o,e,_,n,d⟩,_⟩:=I.tuple h
 obtain⟨its',r',⟨o',e',_,n',d'⟩,_⟩:=I.tuple h'
 rw[e]at e';cases e'
 rw[d]at d'
 injection d' with d1 _
 have:its=its':=by simpa using congrArg Array.toList d1
 subst this
 exact r.inj r'
end
abbrev Cx.wish (X:Cx) (E:Value→Shared→Prop):Cx:={ X with xe:=E }
abbrev Cx.nox (X:Cx):Cx:=X.wish fun _ _=>False
theorem Cx.Ok.wish {X:Cx}(ok:X.Ok) (E:Value→Shared→Prop):(X.wish E).Ok :=
 ⟨ok.mod,ok.kind,ok.glob,ok.blt,ok.above,ok.inj,ok.has,ok.cab,ok.hd,ok.frames,ok.stk,ok.exf,ok.bs,ok.bsz,ok.noex,ok.exfs,ok.funs,ok.frf⟩
theorem Cx.Ok.unwish {X:Cx}{E:Value→Shared→Prop}(ok:(X.wish E).Ok):X.Ok :=
 ⟨ok.mod,ok.kind,ok.glob,ok.blt,ok.above,ok.inj,ok.has,ok.cab,ok.hd,ok.frames,ok.stk,ok.exf,ok.bs,ok.bsz,ok.noex,ok.exfs,ok.funs,ok.frf⟩
section
variable {X:Cx}{pins:List (Addr×Obj)}{σ:St}{H:Hp}{s:Shared}{E:Value→Shared→Prop}
theorem Inv.wish (I:Inv X pins σ H s) (E:Value→Shared→Prop):Inv (X.wish E) pins σ H s:=⟨I.ok.wish E,I.os,I.bare,I.base,I.loc,I.cell,I.free,I.freeC,I.pin,I.hok,I.len⟩
theorem Inv.unwish (I:Inv (X.wish E) pins σ H s):Inv X pins σ H s:=⟨I.ok.unwish,I.os,I.bare,I.base,I.loc,I.cell,I.free,I.freeC,I.pin,I.hok,I.len⟩
theorem SP.unwish {D:Ends}{f:Flow}{s':Shared}(h:SP (X.wish E) pins D f s'):SP X pins D f s':=by
 cases f with
 | next=>obtain⟨σ',H',I,q⟩:=h;exact⟨σ',H',I.unwish,q⟩
 | brk=>obtain⟨σ',H',I,q⟩:=h;exact⟨σ',H',I.unwish,q⟩
 | cont=>obtain⟨σ',H',I,q⟩:=h;exact⟨σ',H',I.unwish,q⟩
 | ret u=>obtain⟨v,σ',H',I,r,q⟩:=h;exact⟨v,σ',H',I.unwish,r,q⟩
theorem PSs.nox {st:List Stmt}{t:TS}(h:PSs X.nox st t):PSs X st t:=fun pins s σ H D I hw =>
 wpAny_mono (h pins s σ H D (I.wish _) hw) (fun _ _ q=>q.unwish) fun _ _ z=>False.elim z
end
section
variable {X:Cx}{st:Stmt}{rest:List Stmt}{t u:TS}{e:Expr}{te:TE}{pos:Pos}
def tNext:TS:=fun D σ H=>D.nx σ H
def tSeq (t u:TS):TS:=fun D σ H=>t { D with nx:=u D } σ H
theorem pss_nil:PSs X [] tNext:=fun _ _ σ H _ I h=>wpAny_execs_nil ⟨σ,H,I,h⟩
theorem pss_cons (h1:PS X st t) (h2:PSs X rest u):PSs X (st::rest) (tSeq t u):=by
 intro pins s σ H D I h
 refine wpAny_execs_cons (thn (h1 pins s σ H { D with nx:=u D } I h) fun f s1 q=>?_)
 cases f with
 | next =>
  obtain⟨σ',H',I',q⟩:=q
  exact h2 pins s1 σ' H' D I' q
 | ret v=>exact q
 | brk=>exact q
 | cont=>exact q
theorem pss_one (h1:PS X st t):PSs X [st] t:=by
 intro pins s σ H D I h
 refine wpAny_execs_cons (thn (h1 pins s σ H D I h) fun f s1 q=>?_)
 cases f with
 | next=>exact wpAny_execs_nil q
 | ret v=>exact q
 | brk=>exact q
 | cont=>exact q
theorem Inv.quiet {pins:List (Addr×Obj)}{σ:St}{H:Hp}{s:Shared}(I:Inv X pins σ H s):interactive X.env=false:=by simp[interactive,I.ok.kind]
def tDrop (te:TE):TS:=fun D σ H=>te σ H fun _ H1=>D.nx σ H1
theorem ps_expr (he:PE X e te) (hs:swapsWith e none pos.line X.env=pure false:=by rfl):PS X (.Expr e pos) (tDrop te):=by
 intro pins s σ H D I h
 exact wpAny_Expr_any (thn (he pins s σ H _ I h) fun v s1 ⟨x,H1,I1,r1,q1⟩=>⟨σ,H1,I1,q1⟩) I.quiet hs
def tRet (te:TE):TS:=fun D σ H=>te σ H D.rt
theorem ps_ret (he:PE X e te):PS X (.Return (some e) pos) (tRet te):=by
 intro pins s σ H D I h
 exact wpAny_Return_some (thn (he pins s σ H _ I h) fun v s1 ⟨x,H1,I1,r1,q1⟩=>⟨x,σ,H1,I1,r1,q1⟩)
def tIfS (c:TT) (t u:TS):TS:=fun D σ H=>c σ H fun b H1=>if b=true then t D σ H1 else u D σ H1
theorem ps_if {c:Expr}{a b:List Stmt}{tc:TT}(hc:PT X c tc) (ha:PSs X a t) (hb:PSs X b u):PS X (.If c a b pos) (tIfS tc t u):=by
 intro pins s σ H D I h
 refine wpAny_If (thn (hc pins s σ H _ I h) fun d s1 ⟨H1,I1,q1⟩=>?_)
 cases d with
 | true=>exact ha pins s1 σ H1 D I1 q1
 | false=>exact hb pins s1 σ H1 D I1 q1
end
abbrev TG:=V→St→Hp→(St→Hp→Prop)→Prop
abbrev TGs:=List V→St→Hp→(St→Hp→Prop)→Prop
def PG (X:Cx) (target:Expr) (t:TG):Prop :=
 ∀(pins:List (Addr×Obj)) (s:Shared) (σ:St) (H:Hp) (v:V) (u:Value) (Q:St→Hp→Prop),Inv X pins σ H s→RelV v u→t v σ H Q →
  wpAny (model X.prog X.w) X.A (assign target X.env u) (fun _ s'=>∃σ' H',Inv X pins σ' H' s'∧Q σ' H') X.xe s
def PGs (X:Cx) (ts:List Expr) (t:TGs):Prop :=
 ∀(pins:List (Addr×Obj)) (s:Shared) (σ:St) (H:Hp) (vs:List V) (us:List Value) (Q:St→Hp→Prop),Inv X pins σ H s→Vals vs us→t vs σ H Q →
  wpAny (model X.prog X.w) X.A (assignInOrder ((assignEach ts X.env).map (·.2)) us) (fun _ s'=>∃σ' H',Inv X pins σ' H' s'∧Q σ' H') X.xe s
abbrev TSet:=V→V→V→Hp→(Hp→Prop)→Prop
def PSet (X:Cx) (t:TSet):Prop :=
 ∀(pins:List (Addr×Obj)) (s:Shared) (σ:St) (H:Hp) (o i v:V) (ov iv u:Value) (Q:Hp→Prop),Inv X pins σ H s→RelV o ov→RelV i iv→RelV v u→t o i v H Q →
  wpAny (model X.prog X.w) X.A (setItem ov iv u) (fun _ s'=>∃H',Inv X pins σ H' s'∧Q H') X.xe s
abbrev TIp:=V→V→Hp→VK→Prop
def PIp (X:Cx) (op:Operator) (t:TIp):Prop :=
 ∀(pins:List (Addr×Obj)) (s:Shared) (σ:St) (H:Hp) (x y:V) (v u:Value) (Q:VK),Inv X pins σ H s→RelV x v→RelV y u→t x y H Q →
  wpAny (model X.prog X.w) X.A (inplaceOp op v u) (EP X pins σ Q) X.xe s
section
variable {X:Cx}{pos:Pos}
def gName (i:Nat):TG:=fun v σ H Q=>Q (σ.set i (some v)) H
theorem pg_name {i:Nat}{x:Str}(hN:X.N.Nodup) (hi:X.N[i]? = some x) (hx:Loc X.env.scope x) (hf:X.fn x=true∨X.env.scope.names.lookup x=some .local:=by first|exact .inl rfl|exact .inr rfl|assumption):PG X (.Name x pos) (gName i):=by
 intro pins s σ H v u Q I r h
 exact wpAny_assign_Name (store_ok I hN hi hx r (fun s' I'=>⟨_,H,I',h⟩) hf)
def gNil:TGs:=fun vs σ H Q=>vs=[]∧Q σ H
def gCons (t:TG) (u:TGs):TGs:=fun vs σ H Q=>∃v r,vs=v::r∧t v σ H fun σ' H'=>u r σ' H' Q
theorem pgs_nil:PGs X [] gNil:=by
 intro pins s σ H vs us Q I r h
 obtain⟨e,h⟩:=h
 subst e
 cases r
 exact assignInOrder_nil ⟨σ,H,I,h⟩
theorem pgs_cons {e:Expr}{es:List Expr}{t:TG}{u:TGs}(h1:PG X e t) (h2:PGs X es u)
  (hs:(assignEach (e::es) X.env).map (·.2)=assign e X.env::(assignEach es X.env).map (·.2):=by rfl):PGs X (e::es) (gCons t u):=by
 intro pins s σ H vs us Q I r h
 obtain⟨v,vr,e1,h⟩:=h
 subst e1
 cases r with
 | cons r rr =>
  rw[hs]
  refine assignInOrder_cons (thn (h1 pins s σ H _ _ _ I r h) fun _ s1 ⟨σ1,H1,I1,q1⟩=>?_)
  exact h2 pins s1 σ1 H1 _ _ Q I1 rr q1
def gTup (K:PySem.W.Frag) (n:Nat) (t:TGs):TG:=fun v σ H Q=>∃a xs,v = .ref a∧SqT K H a xs∧xs.length=n∧t xs σ H Q
theorem pg_tup {es:List Expr}{k:Nat}{t:TGs}{n:Nat}(hc:X.calm=true) (h:PGs X es t)
  (hn:(assignEach es X.env).length=n:=by rfl) (hst:(assignEach es X.env).findIdx? (·.1)=none:=by rfl):PG X (.Tuple es k pos) (gTup X.K n t):=by
 intro pins s σ H v u Q I r hw
 obtain⟨a,xs,e1,hq,hl,hw⟩:=hw
 subst e1
 cases r
 obtain⟨its,rv,ht,hz⟩:=I.tuple hq
 refine assign_Tuple_tuple (I.ok.hd hc) ht (by simp[hn,← hl,rv.length]) hst fun h' hx=>?_
 have I1:Inv X pins σ H { s with heap:=h' }:=I.kept (t':=s.toks) fun b o e=>hx b o (Nat.ne_of_lt (Heap.lt_size e)) e
 exact h pins _ σ H xs _ Q I1 (by simpa using rv) hw
def gSub (to ti:TE) (t:TSet):TG:=fun v σ H Q=>to σ H fun o H1=>ti σ H1 fun i H2=>t o i v H2 fun H3=>Q σ H3
theorem pg_sub {o i:Expr}{to ti:TE}{t:TSet}(ho:PE X o to) (hi:PE X i ti) (hs:PSet X t)
  (ha:∀v,assign (.Subscript o i pos) X.env v =(do
   let ov ← holding [v] (eval o X.env)
   let iv ← holding [v,ov] (eval i X.env)
   standAt pos
   holding [v,ov,iv] (setItem ov iv v)
   release [v,ov,iv] []):=by intro _;rfl):PG X (.Subscript o i pos) (gSub to ti t):=by
 intro pins s σ H v u Q I r h
 rw[ha]
 refine wpAny_bind (wpAny_holding (thn (ho pins s σ H _ I h) fun ov s1 ⟨x,H1,I1,r1,q1⟩=>?_))
 refine wpAny_bind (wpAny_holding (thn (hi pins s1 σ H1 _ I1 q1) fun iv s2 ⟨y,H2,I2,r2,q2⟩=>?_))
 refine wpAny_bind (wpAny_standAt (wpAny_bind (wpAny_holding (thn (hs pins s2 σ H2 x y v ov iv u _ I2 r1 r2 r q2) fun _ s3 ⟨H3,I3,q3⟩=>?_))))
 exact wpAny_release ⟨σ,H3,I3,q3⟩
def tAsg (te:TE) (g:TG):TS:=fun D σ H=>te σ H fun x H1=>g x σ H1 D.nx
theorem ps_asg {tg e:Expr}{te:TE}{g:TG}(he:PE X e te) (hg:PG X tg g) (hs:swapsWithSole [tg] e pos.line X.env=pure false:=by rfl) (hw:swappedStores [tg] e X.env=pure none:=by rfl)
  (h1:(assignEach [tg] X.env).map (·.2)=[assign tg X.env]:=by rfl):PS X (.Assign [tg] e pos) (tAsg te g):=by
 intro pins s σ H D I h
 refine wpAny_Assign_stores (thn (he pins s σ H _ I h) fun v s1 ⟨x,H1,I1,r1,q1⟩=>?_) hs hw
 rw[h1]
 exact thn (hg pins s1 σ H1 x v _ I1 r1 q1) fun _ s2 q=>q
theorem ps_set {i:Nat}{x:Str}{e:Expr}{te:TE}{pos':Pos}(hN:X.N.Nodup) (hi:X.N[i]? = some x) (hx:Loc X.env.scope x) (he:PE X e te) (hs:swapsWith e (some (.Name x pos')) pos.line X.env=pure false:=by rfl) (hf:X.fn x=true∨X.env.scope.names.lookup x=some .local:=by first|exact .inl rfl|exact .inr rfl|assumption) :
  PS X (.Assign [.Name x pos'] e pos) (tAsg te (gName i)):=by
 intro pins s σ H D I h
 refine wpAny_Assign_Name (thn (he pins s σ H _ I h) fun v s1 ⟨y,H1,I1,r1,q1⟩=>?_) hs
 exact store_ok I1 hN hi hx r1 (fun s2 I2=>⟨_,H1,I2,q1⟩) hf
def tAugS (to ti te:TE) (tget:V→V→Hp→VK→Prop) (tip:TIp) (tset:TSet):TS:=fun D σ H=>to σ H fun o H1=>ti σ H1 fun i H2=>tget o i H2 fun x H3=>te σ H3 fun y H4=>tip x y H4 fun z H5=>tset o i z H5 fun H6=>D.nx σ H6
def PGet (X:Cx) (t:V→V→Hp→VK→Prop):Prop :=
 ∀(pins:List (Addr×Obj)) (s:Shared) (σ:St) (H:Hp) (o i:V) (ov iv:Value) (Q:VK),Inv X pins σ H s→RelV o ov→RelV i iv→t o i H Q →
  wpAny (model X.prog X.w) X.A (getItem ov iv) (EP X pins σ Q) X.xe s
theorem ps_augS {o i e:Expr}{to ti te:TE}{tget:V→V→Hp→VK→Prop}{tip:TIp}{tset:TSet}{op:Operator}{tpos:Pos}(ho:PE X o to) (hi:PE X i ti) (hg:PGet X tget) (he:PE X e te) (hp:PIp X op tip) (hs:PSet X tset)
  (ha:∀ov iv new,augStore i ov iv new =(do holding [new,ov,iv] (setItem ov iv new);release [new,ov,iv] [];pure .next):=by intros;rfl):PS X (.AugAssign (.Subscript o i tpos) op e pos) (tAugS to ti te tget tip tset):=by
 intro pins s σ H D I h
 refine wpAny_AugAssign_SubscriptAny (thn (ho pins s σ H _ I h) fun ov s1 ⟨x1,H1,I1,r1,q1⟩=>?_) ha
 refine thn (hi pins s1 σ H1 _ I1 q1) fun iv s2 ⟨x2,H2,I2,r2,q2⟩=>?_
 refine thn (hg pins s2 σ H2 x1 x2 ov iv _ I2 r1 r2 q2) fun old s3 ⟨x3,H3,I3,r3,q3⟩=>?_
 refine thn (he pins s3 σ H3 _ I3 q3) fun v s4 ⟨x4,H4,I4,r4,q4⟩=>?_
 refine thn (hp pins s4 σ H4 x3 x4 old v _ I4 r3 r4 q4) fun new s5 ⟨x5,H5,I5,r5,q5⟩=>?_
 exact thn (hs pins s5 σ H5 x1 x2 x5 ov iv new _ I5 r1 r2 r5 q5) fun _ s6 ⟨H6,I6,q6⟩=>⟨σ,H6,I6,q6⟩
def ipI (f:Int→Int→Int):TIp:=fun x y H Q=>∃i j,x = .int i∧y = .int j∧Q (.int (f i j)) H
theorem ip_add:PIp X .Add (ipI fun i j=>i+j):=by
 intro pins s σ H x y v u Q I r1 r2 h
 obtain⟨i,j,e1,e2,q⟩:=h
 subst e1;subst e2
 obtain⟨t,rfl⟩:=r1
 obtain⟨t',rfl⟩:=r2
 exact iadd_int ⟨.int _,H,I.tok _,⟨_,rfl⟩,q⟩
end
section
variable {X:Cx}{pos:Pos}
def tWhile (c:TT) (tb:TS):TS:=fun D σ H=>∃W:Nat→St→Hp→Prop,(∃m,W m σ H)∧∀m σ H,W m σ H →
 c σ H fun b H1=>if b=true then ∃N:St→Hp→Prop,(∀σ' H',N σ' H'→∃m',m'<m∧W m' σ' H')∧tb { D with nx:=N,ct:=N,bk:=D.nx } σ H1 else D.nx σ H1
theorem ps_while {c:Expr}{body:List Stmt}{tc:TT}{tb:TS}(hp:PassesOwn (model X.prog X.w) X.A X.env X.xe) (hc:PT X c tc) (hb:PSs X body tb):PS X (.While c body [] pos) (tWhile tc tb):=by
 intro pins s σ H D I h
 obtain⟨W,⟨m0,w0⟩,turn⟩:=h
 refine wpAny_While (codeAny_whileLoop (fun n s'=>∃σ' H',Inv X pins σ' H' s'∧W n σ' H') ?_ m0 ⟨σ,H,I,w0⟩)
 rintro n s1 ⟨σ1,H1,I1,w1⟩
 refine wpAny_passesOwn hp (thn (hc pins s1 σ1 H1 _ I1 (turn n σ1 H1 w1)) fun b s2 ⟨H2,I2,q2⟩=>?_)
 cases b with
 | true =>
  obtain⟨N,hN,q2⟩:=q2
  rw[if_pos rfl]
  refine wpAny_passesOwn hp (thn (hb pins s2 σ1 H2 _ I2 q2) fun f s3 q3=>?_)
  cases f with
  | next =>
   obtain⟨σ3,H3,I3,n3⟩:=q3
   obtain⟨m',hm,w3⟩:=hN σ3 H3 n3
   exact⟨m',hm,σ3,H3,I3,w3⟩
  | cont =>
   obtain⟨σ3,H3,I3,n3⟩:=q3
   obtain⟨m',hm,w3⟩:=hN σ3 H3 n3
   exact⟨m',hm,σ3,H3,I3,w3⟩
  | brk=>exact q3
  | ret v=>exact q3
 | false =>
  rw[if_neg Bool.false_ne_true]
  exact wpAny_execs_nil ⟨σ1,H2,I2,q2⟩
end
structure It where
 go:Nat→Hp→Prop
 yld:Nat→Hp→V→Hp→Prop
 stop:Nat→Hp→Prop
def FpOk (X:Cx) (pins:List (Addr×Obj)) (H:Hp) (b:Addr):Prop :=
 H b=none∧b≠X.env.locals∧b∉X.fs∧(b∈X.ex∨X.s₀.heap.objs.size≤b)∧(∀x c,X.env.cells.lookup x=some c→c≠b)∧∀p∈X.pn++pins,p.1≠b
theorem Inv.fpOk {X:Cx}{pins:List (Addr×Obj)}{σ:St}{H H':Hp}{s:Shared}{b:Addr}(I:Inv X pins σ H s) (hb:s.heap.objs.size≤b) (hn:H' b=none):FpOk X pins H' b:=by
 refine⟨hn,Nat.ne_of_gt (Nat.lt_of_lt_of_le I.lt hb),I.nofs hb,.inr (Nat.le_trans I.sz hb),fun x c e z=>?_,fun p hp z=>?_⟩
 ·obtain⟨v,q⟩:=I.cell x c e
  exact absurd (Nat.lt_of_lt_of_le q.lt (by rw[z];exact hb)) (Nat.lt_irrefl _)
 ·exact absurd (Nat.lt_of_lt_of_le (Heap.lt_size (I.pin p hp).1) (by rw[z];exact hb)) (Nat.lt_irrefl _)
structure Turn (P:Program) (w:World) (K:PySem.W.Frag) (tg:Expr) (J:It) (fp:List Addr) (it:Addr) (tn:Nat→Heap→Prop):Prop where
 mem:it∈fp
 obj:∀i h,tn i h→∀b∈fp,∃o,h.get? b=some o∧∀v,o.data ≠ .cell v
 keep:∀i h h',tn i h→(∀b∈fp,∀o,h.get? b=some o→h'.get? b=some o)→tn i h'
 item:∀(X:Cx),X.prog=P→X.w=w→X.K=K→X.calm=true→∀(i:Nat) (pins:List (Addr×Obj)) (s:Shared) (σ:St) (H:Hp) (E:Value→Shared→Prop),Inv X pins σ H s→(∀b∈fp,FpOk X pins H b)→tn i s.heap→J.go i H →
  wpAny (model P w) X.A (pyNext (.ref it)) (fun r s1=>∃u,r=some u ∧
   wpAny (model P w) X.A (letOwnedTupleGo tg (.ref it) u) (fun _ s2=>∃x H',Inv X pins σ H' s2∧RelV x u∧J.yld i H x H'∧tn (i+1) s2.heap∧∀b∈fp,H' b=none) E s1) E s
 done:∀(X:Cx),X.prog=P→X.w=w→X.K=K→X.calm=true→∀(i:Nat) (pins:List (Addr×Obj)) (s:Shared) (σ:St) (H:Hp) (E:Value→Shared→Prop),Inv X pins σ H s→(∀b∈fp,FpOk X pins H b)→tn i s.heap→J.stop i H →
  wpAny (model P w) X.A (pyNext (.ref it)) (fun r s1=>r=none∧Inv X pins σ H s1) E s
 self:∀(A:Around) (i:Nat) (s:Shared) (Q:Value→Shared→Prop) (E:Value→Shared→Prop),tn i s.heap→Q (.ref it) s→wpAny (model P w) A (pyIter (.ref it)) Q E s
abbrev TI:=St→Hp→(It→Hp→Prop)→Prop
def PIE (X:Cx) (pins:List (Addr×Obj)) (σ:St) (tg:Expr) (R:It→Hp→Prop) (itv:Value) (s2:Shared):Prop :=
 ∃(it:Addr) (fp:List Addr) (tn:Nat→Heap→Prop) (J:It) (H':Hp),itv = .ref it∧Inv X pins σ H' s2∧Turn X.prog X.w X.K tg J fp it tn∧tn 0 s2.heap∧(∀b∈fp,FpOk X pins H' b)∧R J H'
def PI (X:Cx) (tg iter:Expr) (wi:TI):Prop :=
 ∀(pins:List (Addr×Obj)) (s:Shared) (σ:St) (H:Hp) (R:It→Hp→Prop),Inv X pins σ H s→wi σ H R →
  wpAny (model X.prog X.w) X.A (eval iter X.env) (fun v s1=>wpAny (model X.prog X.w) X.A (pyIter v) (PIE X pins σ tg R) X.xe s1) X.xe s
theorem go_of {M:Model} {A:Around} {E:Value→Shared→Prop} {s:Shared} {tg:Expr} {it:Addr} {u:Value} {o:Obj} {n:String} {vs:Array Value} {Q:Unit→Shared→Prop} (ho:s.heap.get? it = some o) (hc:o.cls = .type n) (hd:o.data = .fields vs)
    (hn:["enumerate", "zip", "dict_itemiterator", "dict_reverseitemiterator", "odict_iterator", "itertools.zip_longest", "itertools.pairwise"].contains n = false) (hQ:Q () s) : wpAny M A (letOwnedTupleGo tg (.ref it) u) Q E s:=by
  unfold letOwnedTupleGo
  cases tg <;> first
    | exact wpAny_pure hQ
    | (cases u <;> first
        | exact wpAny_pure hQ
        | (refine wpAny_bind (wpAny_load ho ?_)
           rw [hc,hd]
           show wpAny M A (if (["enumerate", "zip", "dict_itemiterator", "dict_reverseitemiterator", "odict_iterator", "itertools.zip_longest", "itertools.pairwise"].contains n && vs[0]? == some (rawInt _)) = true then _ else _) Q E s
           rw [if_neg (by intro h; rw [hn,Bool.false_and] at h; cases h)]
           exact wpAny_pure hQ))
def Itl (K:PySem.W.Frag) (a:Addr):It :=
 ⟨fun i H=>∃xs x,SqL K H a xs∧xs[i]? = some x,fun i H x H'=>H'=H∧∀xs,SqL K H a xs→xs[i]? = some x,fun i H=>∃xs,SqL K H a xs∧xs.length≤i⟩
def Itt (K:PySem.W.Frag) (a:Addr):It :=
 ⟨fun i H=>∃xs x,SqT K H a xs∧xs[i]? = some x,fun i H x H'=>H'=H∧∀xs,SqT K H a xs→xs[i]? = some x,fun i H=>∃xs,SqT K H a xs∧xs.length≤i⟩
def Itr (lo:Int) (n:Nat):It:=⟨fun i _=>i<n,fun i H x H'=>H'=H∧x = .int (lo+i),fun i _=>n≤i⟩
theorem turn_list {P:Program}{w:World}{K:PySem.W.Frag}{tg:Expr}(a it:Addr):Turn P w K tg (Itl K a) [it] it (fun i h=>h.IsListIter it a i) where
 mem:=by simp
 obj:=fun i h st b hb=>by
  have e:b=it:=by simpa using hb
  subst e
  obtain⟨o,e,c,d⟩:=st
  exact⟨o,e,fun v z=>by rw[d]at z;cases z⟩
 keep:=fun i h h' st k=>st.at fun o e=>k it (by simp) o e
 item:=by
  intro X hP hw hK hc i pins s σ H E I hf st hg
  subst hP hw hK
  obtain⟨xs,x,hq,hx⟩:=hg
  obtain⟨its,rv,p,hz⟩:=I.list hq
  obtain⟨u,hu,ru⟩:=rv.get hx
  obtain⟨f0,f1,f2,f3,f4,f5⟩:=hf it (by simp)
  refine wpAny_pyNext_list_item st p.isList (x:=u) (by simpa using hu) fun h' st' sb=>?_
  have I1:Inv X pins σ H { s with heap:=h' }:=I.turned (t':=s.toks) (fun b o hb e=>(sb.2 b hb).trans e) f0 f1 f3 f4 f5
  obtain⟨o,e,c,d⟩:=id st'
  exact⟨u,rfl,go_of (s:={ s with heap:=h' }) e c d (by decide) ⟨x,H,I1,ru,⟨rfl,fun ys hy=>by rw[I.list_inj hy hq];exact hx⟩,st',fun b hb=>(hf b hb).1⟩⟩
 done:=by
  intro X hP hw hK hc i pins s σ H E I hf st hg
  subst hP hw hK
  obtain⟨xs,hq,hx⟩:=hg
  obtain⟨its,rv,p,hz⟩:=I.list hq
  obtain⟨f0,f1,f2,f3,f4,f5⟩:=hf it (by simp)
  have hl:=rv.length
  exact wpAny_pyNext_list_end (I.ok.hd hc) st p.isList (by simp;omega) fun h' eb=>⟨rfl,I.turned (t':=s.toks) (fun b o hb e=>eb b o hb e) f0 f1 f3 f4 f5⟩
 self:=fun _ _ _ _ _ st h=>wpAny_pyIter_listiter st h
theorem turn_tuple {P:Program}{w:World}{K:PySem.W.Frag}{tg:Expr}(a it:Addr):Turn P w K tg (Itt K a) [it] it (fun i h=>h.IsTupleIter it a i) where
 mem:=by simp
 obj:=fun i h st b hb=>by
  have e:b=it:=by simpa using hb
  subst e
  obtain⟨o,e,c,d⟩:=st
  exact⟨o,e,fun v z=>by rw[d]at z;cases z⟩
 keep:=fun i h h' st k=>st.at fun o e=>k it (by simp) o e
 item:=by
  intro X hP hw hK hc i pins s σ H E I hf st hg
  subst hP hw hK
  obtain⟨xs,x,hq,hx⟩:=hg
  obtain⟨its,rv,p,hz⟩:=I.tuple hq
  obtain⟨u,hu,ru⟩:=rv.get hx
  obtain⟨f0,f1,f2,f3,f4,f5⟩:=hf it (by simp)
  refine wpAny_pyNext_tuple_item st (show s.heap.IsTuple a its.toArray from p) (x:=u) (by simpa using hu) fun h' st' sb=>?_
  have I1:Inv X pins σ H { s with heap:=h' }:=I.turned (t':=s.toks) (fun b o hb e=>(sb.2 b hb).trans e) f0 f1 f3 f4 f5
  obtain⟨o,e,c,d⟩:=id st'
  exact⟨u,rfl,go_of (s:={ s with heap:=h' }) e c d (by decide) ⟨x,H,I1,ru,⟨rfl,fun ys hy=>by rw[I.tuple_inj hy hq];exact hx⟩,st',fun b hb=>(hf b hb).1⟩⟩
 done:=by
  intro X hP hw hK hc i pins s σ H E I hf st hg
  subst hP hw hK
  obtain⟨xs,hq,hx⟩:=hg
  obtain⟨its,rv,p,hz⟩:=I.tuple hq
  obtain⟨f0,f1,f2,f3,f4,f5⟩:=hf it (by simp)
  have hl:=rv.length
  exact wpAny_pyNext_tuple_end (I.ok.hd hc) st (show s.heap.IsTuple a its.toArray from p) (by simp;omega) fun h' eb=>⟨rfl,I.turned (t':=s.toks) (fun b o hb e=>eb b o hb e) f0 f1 f3 f4 f5⟩
 self:=fun _ _ _ _ _ st h=>wpAny_pyIter_tupleiter st h
theorem turn_range {P:Program}{w:World}{K:PySem.W.Frag}{tg:Expr}(it:Addr) (lo:Int) (n:Nat):Turn P w K tg (Itr lo n) [it] it (fun i h=>IsRangeIter h it (lo+(i:Nat)*1) ((n:Int)-(i:Nat)) 1) where
 mem:=by simp
 obj:=fun i h st b hb=>by
  have e:b=it:=by simpa using hb
  subst e
  exact⟨_,st,fun v z=>by
   have z':Data.fields _=Data.cell v:=z
   cases z'⟩
 keep:=fun i h h' st k=>k it (by simp) _ st
 item:=by
  intro X hP hw hK hc i pins s σ H E I hf st hg
  subst hP hw hK
  obtain⟨f0,f1,f2,f3,f4,f5⟩:=hf it (by simp)
  have W:=Walks.range (prog:=X.prog) (w:=X.w) (I.ok.hd hc) it lo 1 n
  refine W.item i s _ _ hg st fun v h' tk hv st' kk=>?_
  obtain⟨t,rfl⟩:=hv
  have I1:Inv X pins σ H { s with heap:=h',toks:=tk }:=I.turned (fun b o hb e=>kk b o (by simpa using hb) e) f0 f1 f3 f4 f5
  refine⟨_,rfl,go_of (s:={ s with heap:=h',toks:=tk }) (n := "range_iterator") st' rfl rfl (by decide) ⟨.int (lo+i),H,I1,⟨t,?_⟩,⟨rfl,rfl⟩,st',fun b hb=>(hf b hb).1⟩⟩
  rw[Int.mul_one]
 done:=by
  intro X hP hw hK hc i pins s σ H E I hf st hg
  subst hP hw hK
  obtain⟨f0,f1,f2,f3,f4,f5⟩:=hf it (by simp)
  exact wpAny_pyNext_range_end (I.ok.hd hc) st (by have:n≤i:=hg;omega) fun h' eb=>⟨rfl,I.turned (t':=s.toks) (fun b o hb e=>eb b o hb e) f0 f1 f3 f4 f5⟩
 self:=fun _ _ _ _ _ st h=>wpAny_pyIter_rangeiter st h
end L2
namespace L2
open PySem PySem.Spec PyProof.Rows
section
variable {X:Cx}{tg:Expr}
def iList (K:PySem.W.Frag) (tl:TE):TI:=fun σ H R=>tl σ H fun x H1=>∃a,x = .ref a∧(∃xs,SqL K H1 a xs)∧R (Itl K a) H1
theorem pi_list {l:Expr}{tl:TE}(hl:PE X l tl):PI X tg l (iList X.K tl):=by
 intro pins s σ H R I h
 refine thn (hl pins s σ H _ I h) fun v s1 ⟨x,H1,I1,r1,q1⟩=>?_
 obtain⟨a,e,⟨xs,hq⟩,q⟩:=q1
 subst e
 cases r1
 obtain⟨its,rv,p,hz⟩:=I1.list hq
 refine wpAny_pyIter_list p.isList ?_
 refine⟨s1.heap.objs.size,[s1.heap.objs.size],_,_,H1,rfl,I1.kept (t':=s1.toks) fun b o e=>Heap.get?_push_of_some _ e,turn_list a _,⟨_,Heap.get?_push_size _ rfl,rfl,rfl⟩,fun b hb=>?_,q⟩
 have e:b=s1.heap.objs.size:=by simpa using hb
 subst e
 exact I1.fpOk (Nat.le_refl _) (I1.hok.fresh (Nat.le_refl _))
theorem range_it {pins:List (Addr×Obj)}{σ:St}{H:Hp}{s:Shared}{R:It→Hp→Prop}{E:Value→Shared→Prop}{lo hi:Int}{t u v:Tok}{tk:Nat}(I:Inv X pins σ H s) (h1:-(2^62)≤lo) (h2:lo<2^62) (h3:-(2^62)≤hi) (h4:hi<2^62)
  (q:R (Itr lo (hi-lo).toNat) H):wpAny (model X.prog X.w) X.A (pyIter (.ref s.heap.objs.size)) (PIE X pins σ tg R) E { s with heap:=s.heap.push { cls:=.type "range",data:=.fields #[.int lo t,.int hi u,.int 1 v] },toks:=tk }:=by
 refine wpAny_pyIter_range (IsRange.new ..) (small_one h1 h2 h3 h4) ?_
 have I1:Inv X pins σ H { s with heap:=s.heap.push { cls:=.type "range",data:=.fields #[.int lo t,.int hi u,.int 1 v] },toks:=tk }:=I.kept fun b o e=>Heap.get?_push_of_some _ e
 refine⟨(s.heap.push { cls:=.type "range",data:=.fields #[.int lo t,.int hi u,.int 1 v] }).objs.size,[(s.heap.push { cls:=.type "range",data:=.fields #[.int lo t,.int hi u,.int 1 v] }).objs.size],_,_,H,rfl,
  I1.kept (t':=tk) fun b o e=>Heap.get?_push_of_some _ e,turn_range _ lo (hi-lo).toNat,?_,fun b hb=>?_,q⟩
 ·have e1:lo+((0:Nat):Int)*1=lo:=by simp
  have e2:(((hi-lo).toNat:Nat):Int)-((0:Nat):Int)=Builtin.Range.rangeSize lo hi 1:=by rw[rangeSize_one];split <;> omega
  show IsRangeIter _ _ (lo+((0:Nat):Int)*1) ((((hi-lo).toNat:Nat):Int)-((0:Nat):Int)) 1
  rw[e1,e2]
  exact Heap.get?_push_size _ rfl
 ·have e:b =(s.heap.push { cls:=.type "range",data:=.fields #[.int lo t,.int hi u,.int 1 v] }).objs.size:=by simpa using hb
  subst e
  exact I1.fpOk (Nat.le_refl _) (I1.hok.fresh (Nat.le_refl _))
def iRng1 (ta:TA):TI:=fun σ H R=>ta σ H fun vs H1=>∃j:Int,vs=[.int j]∧-(2^62)≤j∧j<2^62∧R (Itr 0 j.toNat) H1
theorem pi_range1 {a:Expr}{ta:TA}{p pos:Pos}(hg:Gl X "range") (hm:X.mg "range" = none) (ha:PA X [a] ta) (hs:starEach [a] X.env=[(false,eval a X.env)]:=by rfl):PI X tg (.Call (.Name "range" p) [a] [] pos) (iRng1 ta):=by
 intro pins s σ H R I h
 refine Call_ (ld_blt I hg hm boot_range (PyProof.Rows.callWith_type1 (thn (ha pos pins s σ H _ I h) fun us s1 ⟨vs,H1,I1,r1,q1⟩=>?_) hs rfl))
 obtain⟨j,e,q1,q2,q⟩:=q1
 subst e
 cases r1 with
 | cons r rr =>
  cases rr
  obtain⟨t,rfl⟩:=r
  exact call_range_1 (range_it I1 (by omega) (by omega) q1 q2 (by simpa using q))
def tFor (wi:TI) (g:TG) (tb:TS):TS:=fun D σ H=>wi σ H fun J H1=>∃W:Nat→Nat→St→Hp→Prop,(∃m,W 0 m σ H1)∧∀i m σ H,W i m σ H →
 (J.stop i H∧D.nx σ H) ∨(J.go i H∧∃N:St→Hp→Prop,(∀σ' H',N σ' H'→∃m',m'<m∧W (i+1) m' σ' H')∧∀x H',J.yld i H x H'→g x σ H' fun σ2 H2=>tb { D with nx:=N,ct:=N,bk:=D.nx } σ2 H2)
def pinsAt (fp:List Addr) (h:Heap):List (Addr×Obj):=fp.filterMap fun b=>(h.get? b).map fun o=>(b,o)
theorem mem_pinsAt {fp:List Addr}{h:Heap}{b:Addr}{o:Obj}(hb:b∈fp) (e:h.get? b=some o):(b,o)∈pinsAt fp h:=List.mem_filterMap.mpr ⟨b,hb,by rw[e];rfl⟩
theorem of_pinsAt {fp:List Addr}{h:Heap}{p:Addr×Obj}(hp:p∈pinsAt fp h):p.1∈fp∧h.get? p.1=some p.2:=by
 obtain⟨b,hb,e⟩:=List.mem_filterMap.mp hp
 cases q:h.get? b with
 | none=>rw[q]at e;cases e
 | some o =>
  rw[q]at e
  have e':(b,o)=p:=Option.some.inj e
  subst e'
  exact⟨hb,q⟩
theorem Inv.pinned {pins:List (Addr×Obj)}{σ:St}{H:Hp}{s:Shared}{fp:List Addr}(I:Inv X pins σ H s) (hf:∀b∈fp,FpOk X pins H b) (ho:∀b∈fp,∃o,s.heap.get? b=some o∧∀v,o.data ≠ .cell v):Inv X (pins++pinsAt fp s.heap) σ H s :=
 I.pins_of fun p hp=>(List.mem_append.mp hp).elim (fun z=>I.pin p (List.mem_append_right _ z)) fun z=>by
  obtain⟨hb,e⟩:=of_pinsAt z
  obtain⟨f0,f1,f2,_⟩:=hf p.1 hb
  obtain⟨o,e',d⟩:=ho p.1 hb
  rw[e]at e';cases e'
  exact⟨e,f0,f1,f2,d⟩
theorem Inv.unpinned {pins pl:List (Addr×Obj)}{σ:St}{H:Hp}{s:Shared}(I:Inv X (pins++pl) σ H s):Inv X pins σ H s:=I.pins_of fun p hp=>I.pin p (List.mem_append_right _ (List.mem_append_left _ hp))
theorem ps_for {iter:Expr}{body:List Stmt}{wi:TI}{g:TG}{tb:TS}{pos:Pos}(hp:PassesOwn (model X.prog X.w) X.A X.env X.xe) (hc:X.calm=true) (hi:PI X tg iter wi) (hg:PG X tg g) (hb:PSs X body tb)
  (hs:∀x,foldedSetIterable iter X.env x=pure x:=by intro _;rfl):PS X (.For tg iter body [] pos) (tFor wi g tb):=by
 intro pins s σ H D I h
 refine wpAny_For (thn (hi pins s σ H _ I h) fun v s1 h1=>thn h1 fun itv s2 h2=>?_) hs
 obtain⟨it,fp,tn,J,H2,e,I2,T,st2,f2,W,⟨m0,w0⟩,turn⟩:=h2
 subst e
 have stat:∀{H':Hp},(∀b∈fp,H' b=none)→∀b∈fp,FpOk X pins H' b:=fun hn b hb=>⟨hn b hb,(f2 b hb).2⟩
 refine codeAny_forLoop_any (fun n s'=>∃i σ' H',Inv X pins σ' H' s'∧tn i s'.heap∧(∀b∈fp,H' b=none)∧W i n σ' H') ?_ m0 ⟨0,σ,H2,I2,st2,fun b hb=>(f2 b hb).1,w0⟩
 rintro n s3 ⟨i,σ3,H3,I3,st3,fr3,w3⟩
 rcases turn i n σ3 H3 w3 with⟨stop,qn⟩|⟨go,N,hN,step⟩
 ·refine wpAny_passesOwn hp (thn (T.done X rfl rfl rfl hc i pins s3 σ3 H3 X.xe I3 (stat fr3) st3 stop) fun r s4 ⟨hr,I4⟩=>?_)
  subst hr
  exact wpAny_execs_nil ⟨σ3,H3,I4,qn⟩
 ·refine wpAny_passesOwn hp (thn (T.item X rfl rfl rfl hc i pins s3 σ3 H3 X.xe I3 (stat fr3) st3 go) fun r s4 ⟨u,hr,h4⟩=>?_)
  subst hr
  refine wpAny_passesOwn hp (thn h4 fun _ s5 ⟨x,H5,I5,r5,y5,st5,fr5⟩=>?_)
  have I5':=I5.pinned (stat fr5) (T.obj _ _ st5)
  refine wpAny_passesOwn hp (thn (hg _ s5 σ3 H5 x u _ I5' r5 (step x H5 y5)) fun _ s6 ⟨σ6,H6,I6,q6⟩=>?_)
  refine wpAny_passesOwn hp (thn (hb _ s6 σ6 H6 _ I6 q6) fun f s7 q7=>?_)
  have again:∀{σ7:St}{H7:Hp},Inv X (pins++pinsAt fp s5.heap) σ7 H7 s7→N σ7 H7→∃m,m<n∧∃i σ' H',Inv X pins σ' H' s7∧tn i s7.heap∧(∀b∈fp,H' b=none)∧W i m σ' H':=fun {σ7 H7} I7 n7=>by
   obtain⟨m',hm,w7⟩:=hN σ7 H7 n7
   refine⟨m',hm,i+1,σ7,H7,I7.unpinned,T.keep _ _ _ st5 fun b hb o e=>(I7.pin (b,o) (List.mem_append_right _ (List.mem_append_right _ (mem_pinsAt hb e)))).1,fun b hb=>?_,w7⟩
   obtain⟨o,e,d⟩:=T.obj _ _ st5 b hb
   exact(I7.pin (b,o) (List.mem_append_right _ (List.mem_append_right _ (mem_pinsAt hb e)))).2.1
  cases f with
  | next=>obtain⟨σ7,H7,I7,n7⟩:=q7;exact again I7 n7
  | cont=>obtain⟨σ7,H7,I7,n7⟩:=q7;exact again I7 n7
  | brk=>obtain⟨σ7,H7,I7,q7⟩:=q7;exact⟨σ7,H7,I7.unpinned,q7⟩
  | ret v=>obtain⟨x7,σ7,H7,I7,r7,q7⟩:=q7;exact⟨x7,σ7,H7,I7.unpinned,r7,q7⟩
end
theorem for_list {K:PySem.W.Frag}{a:Addr}{xs:List V}{g:TG}{tb:TS}{D:Ends}{σ:St}{H:Hp}(Pv:Nat→St→Hp→Prop) (h0:Pv 0 σ H) (hl:∀i σ H,i≤xs.length→Pv i σ H→SqL K H a xs)
  (hs:∀i x σ H,xs[i]? = some x→Pv i σ H→g x σ H fun σ2 H2=>tb { D with nx:=Pv (i+1),ct:=Pv (i+1),bk:=D.nx } σ2 H2) (hd:∀σ H,Pv xs.length σ H→D.nx σ H) :
  ∃W:Nat→Nat→St→Hp→Prop,(∃m,W 0 m σ H)∧∀i m σ H,W i m σ H →
   ((Itl K a).stop i H∧D.nx σ H) ∨((Itl K a).go i H∧∃N:St→Hp→Prop,(∀σ' H',N σ' H'→∃m',m'<m∧W (i+1) m' σ' H')∧∀x H',(Itl K a).yld i H x H'→g x σ H' fun σ2 H2=>tb { D with nx:=N,ct:=N,bk:=D.nx } σ2 H2):=by
 refine⟨fun i m σ H=>m=xs.length-i∧i≤xs.length∧Pv i σ H,⟨xs.length,by simp,Nat.zero_le _,h0⟩,?_⟩
 rintro i m σ H ⟨rfl,hi,p⟩
 have q:=hl i σ H hi p
 by_cases hlt:i<xs.length
 ·refine .inr ⟨⟨xs,xs[i],q,by simp[hlt]⟩,Pv (i+1),fun σ' H' p'=>⟨xs.length-(i+1),by omega,rfl,hlt,p'⟩,fun x H' y=>?_⟩
  obtain⟨e,y⟩:=y
  subst e
  exact hs i x σ _ (y xs q) p
 ·have e:i=xs.length:=by omega
  subst e
  exact .inl ⟨⟨xs,q,Nat.le_refl _⟩,hd σ H p⟩
theorem for_range {lo:Int}{n:Nat}{g:TG}{tb:TS}{D:Ends}{σ:St}{H:Hp}(Pv:Nat→St→Hp→Prop) (h0:Pv 0 σ H)
  (hs:∀i σ H,i<n→Pv i σ H→g (.int (lo+i)) σ H fun σ2 H2=>tb { D with nx:=Pv (i+1),ct:=Pv (i+1),bk:=D.nx } σ2 H2) (hd:∀σ H,Pv n σ H→D.nx σ H) :
  ∃W:Nat→Nat→St→Hp→Prop,(∃m,W 0 m σ H)∧∀i m σ H,W i m σ H →
   ((Itr lo n).stop i H∧D.nx σ H) ∨((Itr lo n).go i H∧∃N:St→Hp→Prop,(∀σ' H',N σ' H'→∃m',m'<m∧W (i+1) m' σ' H')∧∀x H',(Itr lo n).yld i H x H'→g x σ H' fun σ2 H2=>tb { D with nx:=N,ct:=N,bk:=D.nx } σ2 H2):=by
 refine⟨fun i m σ H=>m=n-i∧i≤n∧Pv i σ H,⟨n,by simp,Nat.zero_le _,h0⟩,?_⟩
 rintro i m σ H ⟨rfl,hi,p⟩
 by_cases hlt:i<n
 ·refine .inr ⟨hlt,Pv (i+1),fun σ' H' p'=>⟨n-(i+1),by omega,rfl,hlt,p'⟩,fun x H' y=>?_⟩
  obtain⟨e,y⟩:=y
  subst e y
  exact hs i σ _ hlt p
 ·have e:i=n:=by omega
  subst e
  exact .inl ⟨Nat.le_refl _,hd σ H p⟩
end L2
namespace L2
open PySem PySem.Spec PyProof.Rows
abbrev R2:=V→V→Hp→VK→Prop
def OpR (X:Cx) (f:Value→Value→Sem Value) (r:R2):Prop :=
 ∀(pins:List (Addr×Obj)) (s:Shared) (σ:St) (H:Hp) (x y:V) (v u:Value) (Q:VK),Inv X pins σ H s→RelV x v→RelV y u→r x y H Q →
  wpAny (model X.prog X.w) X.A (f v u) (EP X pins σ Q) X.xe s
def UnR (X:Cx) (f:Value→Sem Value) (r:V→Hp→VK→Prop):Prop :=
 ∀(pins:List (Addr×Obj)) (s:Shared) (σ:St) (H:Hp) (x:V) (v:Value) (Q:VK),Inv X pins σ H s→RelV x v→r x H Q →
  wpAny (model X.prog X.w) X.A (f v) (EP X pins σ Q) X.xe s
def CallR (X:Cx) (f:Value) (r:List V→Hp→VK→Prop):Prop :=
 ∀(pins:List (Addr×Obj)) (s:Shared) (σ:St) (H:Hp) (xs:List V) (us:List Value) (Q:VK),Inv X pins σ H s→Vals xs us→r xs H Q →
  wpAny (model X.prog X.w) X.A (call f us) (EP X pins σ Q) X.xe s
def tOp (r:R2) (ta tb:TE):TE:=fun σ H Q=>ta σ H fun x H1=>tb σ H1 fun y H2=>r x y H2 Q
def tUn (r:V→Hp→VK→Prop) (ta:TE):TE:=fun σ H Q=>ta σ H fun x H1=>r x H1 Q
def rI (C:Int→Int→Prop) (g:Int→Int→V):R2:=fun x y H Q=>∃i j,x = .int i∧y = .int j∧C i j∧Q (g i j) H
def rI0 (g:Int→Int→V):R2:=fun x y H Q=>∃i j,x = .int i∧y = .int j∧Q (g i j) H
def rU (g:Int→V):V→Hp→VK→Prop:=fun x H Q=>∃i,x = .int i∧Q (g i) H
section
variable {X:Cx}{a b c:Expr}{ta tb tc:TE}{pos:Pos}
theorem binT (ha:PE X a ta) (hb:PE X b tb) {pins:List (Addr×Obj)}{s:Shared}{σ:St}{H:Hp}{R:V→V→Hp→Prop}(I:Inv X pins σ H s)
  (h:ta σ H fun x H1=>tb σ H1 fun y H2=>R x y H2) {Q:Value→Shared→Prop}{f:Value→Value→Sem Value}
  (hf:∀v u s2 x y H2,Inv X pins σ H2 s2→RelV x v→RelV y u→R x y H2→wpAny (model X.prog X.w) X.A (f v u) Q X.xe s2) :
  wpAny (model X.prog X.w) X.A (eval a X.env) (fun v s₁=>wpAny (model X.prog X.w) X.A (eval b X.env) (fun u s₂=>wpAny (model X.prog X.w) X.A (f v u) Q X.xe s₂) X.xe s₁) X.xe s:=by
 refine thn (ha pins s σ H _ I h) fun v s1 ⟨x,H1,I1,r1,q1⟩=>?_
 refine thn (hb pins s1 σ H1 _ I1 q1) fun u s2 ⟨y,H2,I2,r2,q2⟩=>?_
 exact hf v u s2 x y H2 I2 r1 r2 q2
theorem pe_op {op:Operator}{r:R2}(ho:OpR X (binaryOp op) r) (ha:PE X a ta) (hb:PE X b tb):PE X (.BinOp a op b pos) (tOp r ta tb):=by
 intro pins s σ H Q I h
 exact wpAny_BinOp (binT ha hb I h fun v u s2 x y H2 I2 rx ry q=>ho pins s2 σ H2 x y v u Q I2 rx ry q)
theorem pe_un {op:UnaryOp}{r:V→Hp→VK→Prop}(ho:UnR X (unaryOp op) r) (ha:PE X a ta):PE X (.UnaryOp op a pos) (tUn r ta):=by
 intro pins s σ H Q I h
 exact UnaryOp_ (thn (ha pins s σ H _ I h) fun v s1 ⟨x,H1,I1,r1,q1⟩=>ho pins s1 σ H1 x v Q I1 r1 q1)
theorem opI {f:Value→Value→Sem Value}{C:Int→Int→Prop}{g:Int→Int→Int}
  (rule:∀(i j:Int) (t u:Tok) (s:Shared) (Q:Value→Shared→Prop) (E:Value→Shared→Prop),C i j→Q (.int (g i j) s.toks) { s with toks:=s.toks+1 }→wpAny (model X.prog X.w) X.A (f (.int i t) (.int j u)) Q E s) :
  OpR X f (rI C fun i j=>.int (g i j)):=by
 intro pins s σ H x y v u Q I rx ry h
 obtain⟨i,j,rfl,rfl,hc,q⟩:=h
 obtain⟨t,rfl⟩:=rx
 obtain⟨t',rfl⟩:=ry
 exact rule i j t t' s _ _ hc ⟨.int (g i j),H,I.tok _,⟨_,rfl⟩,q⟩
theorem opI0 {f:Value→Value→Sem Value}{g:Int→Int→Int}
  (rule:∀(i j:Int) (t u:Tok) (s:Shared) (Q:Value→Shared→Prop) (E:Value→Shared→Prop),Q (.int (g i j) s.toks) { s with toks:=s.toks+1 }→wpAny (model X.prog X.w) X.A (f (.int i t) (.int j u)) Q E s) :
  OpR X f (rI0 fun i j=>.int (g i j)):=by
 intro pins s σ H x y v u Q I rx ry h
 obtain⟨i,j,rfl,rfl,q⟩:=h
 obtain⟨t,rfl⟩:=rx
 obtain⟨t',rfl⟩:=ry
 exact rule i j t t' s _ _ ⟨.int (g i j),H,I.tok _,⟨_,rfl⟩,q⟩
theorem opB0 {f:Value→Value→Sem Value}{g:Int→Int→Bool}
  (rule:∀(i j:Int) (t u:Tok) (s:Shared) (Q:Value→Shared→Prop) (E:Value→Shared→Prop),Q (.bool (g i j)) s→wpAny (model X.prog X.w) X.A (f (.int i t) (.int j u)) Q E s) :
  OpR X f (rI0 fun i j=>.bl (g i j)):=by
 intro pins s σ H x y v u Q I rx ry h
 obtain⟨i,j,rfl,rfl,q⟩:=h
 obtain⟨t,rfl⟩:=rx
 obtain⟨t',rfl⟩:=ry
 exact rule i j t t' s _ _ ⟨.bl (g i j),H,I,rfl,q⟩
def CPow (i j:Int):Prop:=0≤j∧j≤1000000∧i.natAbs<2^64
def CMul (i j:Int):Prop:=(-(2^64)<i∧i<2^64) ∨(-(2^64)<j∧j<2^64)
theorem CMul.ok {i j:Int}(h:CMul i j):IntMulOk i j:=by
 rcases h with⟨h1,h2⟩|⟨h1,h2⟩
 ·exact .of_left (intBits_le_64 h1 h2)
 ·exact .of_right (intBits_le_64 h1 h2)
theorem two_pow_nn (k:Nat):(0:Int)≤2^k:=by
 rw[two_pow_cast]
 exact Int.natCast_nonneg _
theorem op_add:OpR X (binaryOp .Add) (rI0 fun i j=>.int (i+j)):=opI0 fun _ _ _ _ _ _ _ q=>add_int q
theorem op_sub:OpR X (binaryOp .Sub) (rI0 fun i j=>.int (i-j)):=opI0 fun _ _ _ _ _ _ _ q=>sub_int q
theorem op_mul:OpR X (binaryOp .Mult) (rI CMul fun i j=>.int (i*j)):=opI fun _ _ _ _ _ _ _ hc q=>mul_int q hc.ok
theorem op_mod:OpR X (binaryOp .Mod) (rI (fun _ j=>0<j) fun i j=>.int (i%j)):=opI fun i j _ _ _ _ _ hc q=>by
 have h1:(0:Int)<j:=hc
 exact mod_int' (by omega) (by rw[Int.fmod_eq_emod_of_nonneg i (by omega)];exact q)
theorem op_pow:OpR X (binaryOp .Pow) (rI CPow fun i j=>.int (i^j.toNat)):=opI fun _ _ _ _ _ _ _ hc q=>pow_int_small hc.1 hc.2.1 hc.2.2 q
theorem op_shr:OpR X (binaryOp .RShift) (rI (fun _ j=>0≤j) fun i j=>.int (i / 2^j.toNat)):=opI fun i j _ _ _ _ _ hc q =>
 rshift_int hc (by rw[Int.fdiv_eq_ediv_of_nonneg i (two_pow_nn _)];exact q)
theorem unI {f:Value→Sem Value}{g:Int→Int}
  (rule:∀(i:Int) (t:Tok) (s:Shared) (Q:Value→Shared→Prop) (E:Value→Shared→Prop),Q (.int (g i) s.toks) { s with toks:=s.toks+1 }→wpAny (model X.prog X.w) X.A (f (.int i t)) Q E s) :
  UnR X f (rU fun i=>.int (g i)):=by
 intro pins s σ H x v Q I rx h
 obtain⟨i,rfl,q⟩:=h
 obtain⟨t,rfl⟩:=rx
 exact rule i t s _ _ ⟨.int (g i),H,I.tok _,⟨_,rfl⟩,q⟩
theorem un_neg:UnR X (unaryOp .USub) (rU fun i=>.int (-i)):=unI fun _ _ _ _ _ q=>neg_int q
end
def scal:V→V→Bool
 | .non,.non=>true | .non,.int _=>true | .int _,.non=>true | .non,.bl _=>true | .bl _,.non=>true | .non,.str _=>true | .str _,.non=>true
 | .int _,.int _=>true | .bl _,.bl _=>true | .str _,.str _=>true | .byt _,.byt _=>true
 | .int _,.str _=>true | .str _,.int _=>true | .bl _,.str _=>true | .str _,.bl _=>true
 | _,_=>false
def rEq:R2:=fun x y H Q=>scal x y=true∧Q (.bl (decide (x=y))) H
def rNe:R2:=fun x y H Q=>scal x y=true∧Q (.bl (!decide (x=y))) H
theorem dec_int {i j:Int}:decide (V.int i=V.int j) =(i == j):=by
 rw[Bool.eq_iff_iff]
 simp
theorem dec_bl {i j:Bool}:decide (V.bl i=V.bl j) =(i == j):=by
 rw[Bool.eq_iff_iff]
 simp
theorem dec_str {i j:Str}:decide (V.str i=V.str j) =(i == j):=by
 rw[Bool.eq_iff_iff]
 simp
theorem dec_byt {i j:Array UInt8}:decide (V.byt i=V.byt j) =(i.toList == j.toList):=by
 rw[Bool.eq_iff_iff]
 cases i
 cases j
 simp
section
variable {X:Cx}{a b c:Expr}{ta tb tc:TE}{pos:Pos}
theorem fin_bl {pins:List (Addr×Obj)}{σ:St}{H:Hp}{s:Shared}{Q:VK}{k k':Bool}(I:Inv X pins σ H s) (q:Q (.bl k) H) (e:k=k'):EP X pins σ Q (.bool k') s:=by
 subst e
 exact⟨.bl k,H,I,rfl,q⟩
theorem op_eq:OpR X (compareOp .Eq) rEq:=by
 intro pins s σ H x y v u Q I rx ry h
 obtain⟨hs,q⟩:=h
 cases x with
 | non =>
  cases rx
  cases y with
  | non=>cases ry;exact PySem.EqNone.eq_none_none (fin_bl I q (by simp))
  | bl j=>cases ry;exact PySem.EqNone.eq_none_bool (fin_bl I q (by simp))
  | int j=>obtain⟨t',rfl⟩:=ry;exact PySem.EqNone.eq_none_int (fin_bl I q (by simp))
  | str j=>obtain⟨t',rfl⟩:=ry;exact PySem.EqNone.eq_none_str (fin_bl I q (by simp))
  | _=>exact absurd (show false=true from hs) Bool.false_ne_true
 | bl i =>
  cases rx
  cases y with
  | non=>cases ry;exact PySem.EqNone.eq_bool_none (fin_bl I q (by simp))
  | bl j=>cases ry;exact eq_bool (fin_bl I q dec_bl)
  | str j=>obtain⟨t',rfl⟩:=ry;exact PySem.EqMixed.eq_bool_str (fin_bl I q (by simp))
  | _=>exact absurd (show false=true from hs) Bool.false_ne_true
 | int i =>
  obtain⟨t,rfl⟩:=rx
  cases y with
  | non=>cases ry;exact PySem.EqNone.eq_int_none (fin_bl I q (by simp))
  | int j=>obtain⟨t',rfl⟩:=ry;exact eq_int (fin_bl I q dec_int)
  | str j=>obtain⟨t',rfl⟩:=ry;exact PySem.EqMixed.eq_int_str (fin_bl I q (by simp))
  | _=>exact absurd (show false=true from hs) Bool.false_ne_true
 | str i =>
  obtain⟨t,rfl⟩:=rx
  cases y with
  | non=>cases ry;exact PySem.EqNone.eq_str_none (fin_bl I q (by simp))
  | bl j=>cases ry;exact PySem.EqMixed.eq_str_bool (fin_bl I q (by simp))
  | int j=>obtain⟨t',rfl⟩:=ry;exact PySem.EqMixed.eq_str_int (fin_bl I q (by simp))
  | str j=>obtain⟨t',rfl⟩:=ry;exact eq_str (fin_bl I q dec_str)
  | _=>exact absurd (show false=true from hs) Bool.false_ne_true
 | byt i =>
  obtain⟨t,rfl⟩:=rx
  cases y with
  | byt j=>obtain⟨t',rfl⟩:=ry;exact PySem.W.eq_bytes (fin_bl I q dec_byt)
  | _=>exact absurd (show false=true from hs) Bool.false_ne_true
 | _=>cases y <;> exact absurd (show false=true from hs) Bool.false_ne_true
theorem op_ne:OpR X (compareOp .NotEq) rNe:=by
 intro pins s σ H x y v u Q I rx ry h
 obtain⟨hs,q⟩:=h
 cases x with
 | non =>
  cases rx
  cases y with
  | non=>cases ry;exact PySem.EqNone.ne_none_none (fin_bl I q (by simp))
  | bl j=>cases ry;exact PySem.EqNone.ne_none_bool (fin_bl I q (by simp))
  | int j=>obtain⟨t',rfl⟩:=ry;exact PySem.EqNone.ne_none_int (fin_bl I q (by simp))
  | str j=>obtain⟨t',rfl⟩:=ry;exact PySem.EqNone.ne_none_str (fin_bl I q (by simp))
  | _=>exact absurd (show false=true from hs) Bool.false_ne_true
 | bl i =>
  cases rx
  cases y with
  | non=>cases ry;exact PySem.EqNone.ne_bool_none (fin_bl I q (by simp))
  | bl j=>cases ry;exact ne_bool (fin_bl I q (congrArg not dec_bl))
  | str j=>obtain⟨t',rfl⟩:=ry;exact PySem.EqMixed.ne_bool_str (fin_bl I q (by simp))
  | _=>exact absurd (show false=true from hs) Bool.false_ne_true
 | int i =>
  obtain⟨t,rfl⟩:=rx
  cases y with
  | non=>cases ry;exact PySem.EqNone.ne_int_none (fin_bl I q (by simp))
  | int j=>obtain⟨t',rfl⟩:=ry;exact ne_int (fin_bl I q (congrArg not dec_int))
  | str j=>obtain⟨t',rfl⟩:=ry;exact PySem.EqMixed.ne_int_str (fin_bl I q (by simp))
  | _=>exact absurd (show false=true from hs) Bool.false_ne_true
 | str i =>
  obtain⟨t,rfl⟩:=rx
  cases y with
  | non=>cases ry;exact PySem.EqNone.ne_str_none (fin_bl I q (by simp))
  | bl j=>cases ry;exact PySem.EqMixed.ne_str_bool (fin_bl I q (by simp))
  | int j=>obtain⟨t',rfl⟩:=ry;exact PySem.EqMixed.ne_str_int (fin_bl I q (by simp))
  | str j=>obtain⟨t',rfl⟩:=ry;exact ne_str (fin_bl I q (congrArg not dec_str))
  | _=>exact absurd (show false=true from hs) Bool.false_ne_true
 | byt i =>
  obtain⟨t,rfl⟩:=rx
  cases y with
  | byt j=>obtain⟨t',rfl⟩:=ry;exact PySem.W.ne_bytes (fin_bl I q (congrArg not dec_byt))
  | _=>exact absurd (show false=true from hs) Bool.false_ne_true
 | _=>cases y <;> exact absurd (show false=true from hs) Bool.false_ne_true
theorem op_lt:OpR X (compareOp .Lt) (rI0 fun i j=>.bl (decide (i<j))):=opB0 fun _ _ _ _ _ _ _ q=>lt_int q
theorem op_le:OpR X (compareOp .LtE) (rI0 fun i j=>.bl (decide (i≤j))):=opB0 fun _ _ _ _ _ _ _ q=>le_int q
theorem op_gt:OpR X (compareOp .Gt) (rI0 fun i j=>.bl (decide (j<i))):=opB0 fun _ _ _ _ _ _ _ q=>gt_int q
theorem op_ge:OpR X (compareOp .GtE) (rI0 fun i j=>.bl (decide (j≤i))):=opB0 fun _ _ _ _ _ _ _ q=>ge_int q
theorem nomark (b:Expr) {op:CmpOp}(h:op ≠ .In:=by decide) (h2:op ≠ .NotIn:=by decide):behindInMarks op b=false:=by
 have e1:(op == CmpOp.In)=false:=by cases op <;> first|rfl|exact absurd rfl h
 have e2:(op == CmpOp.NotIn)=false:=by cases op <;> first|rfl|exact absurd rfl h2
 cases b <;> simp[behindInMarks,e1,e2]
theorem pe_cmpR {op:CmpOp}{r:R2}(ho:OpR X (compareOp op) r) (ha:PE X a ta) (hb:PE X b tb) (hm:behindInMarks op b=false):PE X (.Compare a [op] [b] pos) (tOp r ta tb):=by
 intro pins s σ H Q I h
 exact wpAny_Compare1 (binT ha hb I h fun v u s2 x y H2 I2 rx ry q=>ho pins s2 σ H2 x y v u Q I2 rx ry q) hm
def tTest (t:TE):TT:=fun σ H Q=>t σ H fun x H'=>∃k,x = .bl k∧Q k H'
theorem pt_cmpR {op:CmpOp}{r:R2}(ho:OpR X (compareOp op) r) (ha:PE X a ta) (hb:PE X b tb) (hm:behindInMarks op b=false):PT X (.Compare a [op] [b] pos) (tTest (tOp r ta tb)):=by
 intro pins s σ H Q I h
 refine wpAny_isTrue_Compare1 (thn (ha pins s σ H _ I h) fun v s1 ⟨x,H1,I1,r1,q1⟩=>thn (hb pins s1 σ H1 _ I1 q1) fun u s2 ⟨y,H2,I2,r2,q2⟩ =>
  thn (ho pins s2 σ H2 x y v u _ I2 r1 r2 q2) fun c s3 ⟨z,H3,I3,r3,k,e,q3⟩=>?_) hm
 subst e
 cases r3
 exact wpAny_truthy_bool ⟨H3,I3,q3⟩
def tChain (r r':R2) (ta tb tc:TE):TE:=fun σ H Q=>ta σ H fun x H1=>tb σ H1 fun y H2=>r x y H2 fun z H3=>∃k,z = .bl k ∧
 (if k=true then tc σ H3 fun w' H4=>r' y w' H4 Q else Q (.bl false) H3)
theorem pt_chain {op op':CmpOp}{r r':R2}(ho:OpR X (compareOp op) r) (ho':OpR X (compareOp op') r') (ha:PE X a ta) (hb:PE X b tb) (hc:PE X c tc)
  (hm:lastMarks [op,op'] [b,c]=false:=by with_unfolding_all rfl):PT X (.Compare a [op,op'] [b,c] pos) (tTest (tChain r r' ta tb tc)):=by
 intro pins s σ H Q I h
 refine isTrue_chain (thn (ha pins s σ H _ I h) fun v s1 ⟨x,H1,I1,r1,q1⟩=>test_link (thn (hb pins s1 σ H1 _ I1 q1) fun u s2 ⟨y,H2,I2,r2,q2⟩ =>
  thn (ho pins s2 σ H2 x y v u _ I2 r1 r2 q2) fun d s3 ⟨z,H3,I3,r3,k,e,q3⟩=>?_)) hm
 subst e
 cases r3
 refine wpAny_truthy_bool ?_
 cases k with
 | false =>
  obtain⟨k',e',q'⟩:=q3
  cases e'
  exact ite_ff ⟨H3,I3,q'⟩
 | true =>
  refine ite_tt (test_last (thn (hc pins s3 σ H3 _ I3 q3) fun w' s4 ⟨z',H4,I4,r4,q4⟩=>thn (ho' pins s4 σ H4 y z' u w' _ I4 r2 r4 q4) fun d' s5 ⟨z2,H5,I5,r5,k2,e2,q5⟩=>?_))
  subst e2
  cases r5
  exact wpAny_truthy_bool ⟨H5,I5,q5⟩
theorem line63:(sizeLine:Nat)<2^63:=by rw[sizeLine_eq];decide
theorem op_add_str:OpR X (binaryOp .Add) (fun x y H Q=>∃i j,x = .str i∧y = .str j∧i.length+j.length≤sizeLine∧Q (.str (i++j)) H):=by
 intro pins s σ H x y v u Q I rx ry h
 obtain⟨i,j,rfl,rfl,hz,q⟩:=h
 obtain⟨t,rfl⟩:=rx
 obtain⟨t',rfl⟩:=ry
 exact add_str (fun t' tk=>⟨.str (i++j),H,I.tok _,⟨_,rfl⟩,q⟩) hz
theorem vals1 {x:V}{us:List Value}(r:Vals [x] us):∃u,us=[u]∧RelV x u:=by
 cases r with
 | cons r1 r2=>cases r2;exact⟨_,rfl,r1⟩
theorem vals2 {x y:V}{us:List Value}(r:Vals [x,y] us):∃u w',us=[u,w']∧RelV x u∧RelV y w':=by
 cases r with
 | cons r1 r2 =>
  cases r2 with
  | cons r3 r4=>cases r4;exact⟨_,_,rfl,r1,r3⟩
theorem call_abs:CallR X (.builtin "abs") (fun xs H Q=>∃i,xs=[.int i]∧Q (.int (if i<0 then -i else i)) H):=by
 intro pins s σ H xs us Q I r h
 obtain⟨i,rfl,q⟩:=h
 obtain⟨u,rfl,t,rfl⟩:=vals1 r
 exact call_abs_int fun u tk=>⟨.int (if i<0 then -i else i),H,I.tok _,⟨_,rfl⟩,q⟩
theorem call_max2 (hc:X.calm=true):CallR X (.builtin "max") (fun xs H Q=>∃i j,xs=[.int i,.int j]∧Q (.int (if j > i then j else i)) H):=by
 intro pins s σ H xs us Q I r h
 obtain⟨i,j,rfl,q⟩:=h
 obtain⟨u,w',rfl,⟨t,rfl⟩,⟨t',rfl⟩⟩:=vals2 r
 refine max_two_ints (I.ok.hd hc) fun h' tk k=>⟨_,H,I.kept k,?_,q⟩
 by_cases hj:j > i
 ·rw[if_pos hj,if_pos hj];exact⟨_,rfl⟩
 ·rw[if_neg hj,if_neg hj];exact⟨_,rfl⟩
theorem call_min2 (hc:X.calm=true):CallR X (.builtin "min") (fun xs H Q=>∃i j,xs=[.int i,.int j]∧Q (.int (if j<i then j else i)) H):=by
 intro pins s σ H xs us Q I r h
 obtain⟨i,j,rfl,q⟩:=h
 obtain⟨u,w',rfl,⟨t,rfl⟩,⟨t',rfl⟩⟩:=vals2 r
 refine min_two_ints (I.ok.hd hc) fun h' tk k=>⟨_,H,I.kept k,?_,q⟩
 by_cases hj:j<i
 ·rw[if_pos hj,if_pos hj];exact⟨_,rfl⟩
 ·rw[if_neg hj,if_neg hj];exact⟨_,rfl⟩
end
end L2
namespace L2
open PySem PySem.Spec PyProof.Rows
structure ObjM (h:Heap) (x dx C:Addr) (mA:Str→Option Value):Prop where
 obj:h.get? x=some (PySem.W.instObj C dx)
 ns:h.Ns1 dx mA
 ne:dx≠x
theorem lookIn_ns {h:Heap}{dx:Addr}{mA:Str→Option Value}(n:h.Ns1 dx mA):∃od,h.get? dx=some od∧∀name,PySem.W.lookIn name od=some (mA name):=by
 obtain⟨o,es,ep,ho,hd,hk,_,hm⟩:=n
 refine⟨o,ho,fun name=>?_⟩
 have e:=hm name
 unfold nsFind findBy at e
 rw[← Array.find?_toList]at e
 unfold PySem.W.lookIn
 rw[hd]
 dsimp only
 split
 ·rename_i y q
  rw[q]at e
  exact congrArg some e
 ·rename_i q
  rw[q]at e
  have a:es.toList.any (·.refKey)=false:=by
   rw[List.any_eq_false]
   intro y hy
   obtain⟨z,t,hkey⟩:=hk y (Array.mem_toList_iff.mp hy)
   simp[DictEntry.refKey,hkey]
  have a':¬ es.toList.any (·.refKey)=true:=by rw[a];exact Bool.false_ne_true
  rw[if_neg a']
  exact congrArg some e
theorem ObjM.look {h:Heap}{x dx C:Addr}{mA:Str→Option Value}(I:ObjM h x dx C mA):∃od,PySem.W.InstAt h x (PySem.W.instObj C dx) C (some od)∧∀name,PySem.W.lookIn name od=some (mA name) :=
 let ⟨od,ho,hl⟩:=lookIn_ns I.ns
 ⟨od,⟨I.obj,rfl,rfl,ho⟩,hl⟩
section
variable {prog:Program}{w:World}{A:Around}{E:Value→Shared→Prop}{s:Shared}{K:PySem.W.Frag}{x dx C f:Addr}{mA:Str→Option Value}{name:Str}{v:Value}
end
section
variable {P:Program}{w:World}{H H':Hp}{h h':Heap}{a C dx:Addr}{fs fs':List (Str×V)}
theorem ins_get (hok:HOk P w H h) (e:H a=some (.ins C dx fs)):∃mA,ObjM h a dx C mA∧(∀f,RelO (fs.lookup f) (mA f))∧PySem.Within mA (fs.map (·.1))∧fs.length≤1000∧H dx=some (.own a):=by
 obtain⟨d,z,ne,ob,mA,n,r,q⟩:=(show ObjOk P w H h a (.ins C dx fs) from hok a _ e)
 exact⟨mA,⟨ob,n,ne⟩,r,q,z,d⟩
end
structure Cls (K:PySem.W.Frag) (C:Addr):Prop where
 pg:PySem.W.plainGet K C Str.empty=true
 hd:PySem.W.hasDictIn K C=true
 po:PySem.W.plainOver K C=true
 sa:PySem.W.findIn K (.ref C) "__setattr__" = some (some (.builtin "object.__setattr__"))
theorem Cls.get {K:PySem.W.Frag}{C:Addr}(c:Cls K C) (f:Str):PySem.W.plainGet K C f=true:=c.pg
section
variable {X:Cx}{pins:List (Addr×Obj)}{σ:St}{H:Hp}{s:Shared}{a C dx:Addr}{fs:List (Str×V)}{f:Str}{v:V}{A:Around}{E:Value→Shared→Prop}
end
section
variable {X:Cx}{o e value:Expr}{f:Str}{pos pos' tpos:Pos}{ta tv:TE}
end
section
variable {X:Cx}{pins:List (Addr×Obj)}{σ:St}{H:Hp}{s:Shared}{A:Around}{E:Value→Shared→Prop}{Q:Value→Shared→Prop}{c:Value}{b:Bool}
inductive TyOf (K:PySem.W.Frag) (H:Hp):V→Value→Prop where
 | non:TyOf K H .non (.type "NoneType")
 | bl (x:Bool):TyOf K H (.bl x) (.type "bool")
 | int (i:Int):TyOf K H (.int i) (.type "int")
 | str (x:Str):TyOf K H (.str x) (.type "str")
 | flt (x:UInt64):TyOf K H (.flt x) (.type "float")
 | lst {a:Addr}{xs:List V}(e:H a=some (.lst xs)):TyOf K H (.ref a) (.type "list")
 | frz {a:Addr}{o:Obj}{xs:List V}(e:H a=some (.frz o (.lst xs))):TyOf K H (.ref a) (.type "list")
 | tup {a:Addr}{xs:List V}(e:H a=some (.tup xs)):TyOf K H (.ref a) (.type "tuple")
 | dK {a:Addr}{kvs:List (Key×V)}(e:H a=some (.dK kvs)):TyOf K H (.ref a) (.type "dict")
 | dT {a:Addr}{kvs:List (List Key×V)}(e:H a=some (.dT kvs)):TyOf K H (.ref a) (.type "dict")
 | ins {a C dx:Addr}{fs:List (Str×V)}(e:H a=some (.ins C dx fs)) (cl:Cls K C) (ha:PySem.W.findIn K (.ref C) "__class__" = some (some (.builtin "object.__class__")))
   (hn:PySem.W.specialIn K (.builtin "object.__class__") "__get__" = some (some (.builtin "getset_descriptor.__get__"))) (htk:PySem.W.takesIn K (.builtin "object.__class__")=some true)
   (hm:PySem.W.mroIn K C (.type "object")=some true):TyOf K H (.ref a) (.ref C)
theorem isinst_ok {x:V}{u t:Value}(I:Inv X pins σ H s) (rx:RelV x u) (ty:TyOf X.K H x t) (e:PySem.W.kitOne X.K t c=some b) (h:∀tk,Q (.bool b) { s with toks:=tk }) :
  wpAny (model X.prog X.w) A (call (.builtin "isinstance") [u,c]) Q E s:=by
 cases ty with
 | non=>cases (show u=Value.none from rx);exact PySem.W.kia_one PySem.W.kitx_none I.kIn True.intro e (fun z=>nomatch z) h
 | bl y=>cases (show u=Value.bool y from rx);exact PySem.W.kia_one PySem.W.kitx_bool I.kIn True.intro e (fun z=>nomatch z) h
 | int i=>obtain⟨t,q⟩:=(show ∃t,u=Value.int i t from rx);cases q;exact PySem.W.kia_one PySem.W.kitx_int I.kIn True.intro e (fun z=>nomatch z) h
 | str y=>obtain⟨t,q⟩:=(show ∃t,u=Value.str y t from rx);cases q;exact PySem.W.kia_one PySem.W.kitx_str I.kIn True.intro e (fun z=>nomatch z) h
 | flt y=>obtain⟨t,q⟩:=(show ∃t,u=Value.float y t from rx);cases q;exact PySem.W.kia_one PySem.W.kitx_float I.kIn True.intro e (fun z=>nomatch z) h
 | @lst a xs ea =>
  cases (show u=Value.ref a from rx)
  obtain⟨_,_,n,_,h1⟩:=(show ObjOk X.prog X.w H s.heap a (.lst xs) from I.hok a _ ea)
  exact PySem.W.kia_one PySem.W.kitx_list I.kIn ⟨_,h1,rfl⟩ e (fun z=>nomatch z) h
 | @frz a ob xs ea =>
  cases (show u=Value.ref a from rx)
  obtain⟨_,_,_,n,_,h1⟩:=(show ObjOk X.prog X.w H s.heap a (.frz ob (.lst xs)) from I.hok a _ ea)
  exact PySem.W.kia_one PySem.W.kitx_list I.kIn ⟨_,h1,rfl⟩ e (fun z=>nomatch z) h
 | @tup a xs ea =>
  cases (show u=Value.ref a from rx)
  obtain⟨_,_,_,p⟩:=(show ObjOk X.prog X.w H s.heap a (.tup xs) from I.hok a _ ea)
  obtain⟨o,h1,h2,_⟩:=p
  exact PySem.W.kia_one PySem.W.kitx_tuple I.kIn ⟨o,h1,h2⟩ e (fun z=>nomatch z) h
 | @dK a kvs ea =>
  cases (show u=Value.ref a from rx)
  obtain⟨_,_,vs,_,p⟩:=(show ObjOk X.prog X.w H s.heap a (.dK kvs) from I.hok a _ ea)
  obtain⟨o,es,ep,h1,h2,_⟩:=p
  exact PySem.W.kia_one PySem.W.kitx_dict I.kIn ⟨o,h1,h2.1⟩ e (fun z=>nomatch z) h
 | @dT a kvs ea =>
  cases (show u=Value.ref a from rx)
  obtain⟨_,_,xs,_,o,es,ep,h1,h2,_⟩:=(show ObjOk X.prog X.w H s.heap a (.dT kvs) from I.hok a _ ea)
  exact PySem.W.kia_one PySem.W.kitx_dict I.kIn ⟨o,h1,h2.1⟩ e (fun z=>nomatch z) h
 | @ins a C dx fs ea cl ha hn htk hm =>
  cases (show u=Value.ref a from rx)
  obtain⟨mA,O,_⟩:=ins_get I.hok ea
  obtain⟨od,J,_⟩:=O.look
  exact PySem.W.kia_one (PySem.W.kitx_own (cl.get _) cl.hd ha hn htk hm) I.kIn J e (fun z=>nomatch z) h
end
end L2
namespace L2
open PySem PySem.Spec PyProof.Rows
structure Room (k:Nat) (A:Around):Prop where
 hd:A.handled=none
 dp:A.depth+3*k+5<recursionLimit
 un:A.units+16*k+200<cLine
 gd:A.guards=some []
theorem Room.mono {j k:Nat}{A:Around}(r:Room k A) (h:j≤k):Room j A:=⟨r.hd,by have:=r.dp;omega,by have:=r.un;omega,r.gd⟩
theorem guards_deeper {A:Around}{env:Env}(h:A.guards=some []):(A.deeper env).guards=some []:=by
 first|exact h|simp[Around.deeper,Around.under,Code.guards,Code.isGuard,pushGuards,h]
theorem Room.deeper {k:Nat}{A:Around}(r:Room (k+1) A) (env:Env):Room k (A.deeper env) :=
 ⟨r.hd,by have:=r.dp;show A.depth+1+3*k+5<_;omega,by have:=r.un;show A.units+3+16*k+200<_;omega,guards_deeper r.gd⟩
theorem Room.in1 {k:Nat}{A:Around}(r:Room (k+1) A):Room k A.in1 :=
 ⟨r.hd,by have:=r.dp;show A.depth+3*k+5<_;omega,by have:=r.un;show A.units+1+16*k+200<_;omega,r.gd⟩
theorem Room.depth {k:Nat}{A:Around}(r:Room k A):A.depth<recursionLimit:=by have:=r.dp;omega
theorem Room.units {k:Nat}{A:Around}(r:Room k A):A.units+64<cLine:=by have:=r.un;omega
def tNil:TA:=fun _ H Q=>Q [] H
def tCons (ta:TE) (tr:TA):TA:=fun σ H Q=>ta σ H fun x H1=>tr σ H1 fun xs H2=>Q (x::xs) H2
section
variable {X:Cx}{e:Expr}{es:List Expr}{te:TE}{t:TA}{pos:Pos}
theorem pa_nil:PA X [] tNil:=fun _ _ _ _ H Q I h=>Calls.spliced_nil ⟨[],H,I,.nil,h⟩
theorem pa_cons (ha:PE X e te) (hr:PA X es t) (hs:starEach (e::es) X.env =(false,eval e X.env)::starEach es X.env:=by rfl):PA X (e::es) (tCons te t):=by
 intro pos pins s σ H Q I h
 rw[hs]
 show wpAny _ _ (spliced ((false,eval e X.env)::backTo pos (starEach es X.env))) _ _ s
 refine Calls.spliced_cons (thn (ha pins s σ H _ I h) fun u s1 ⟨x,H1,I1,r1,q1⟩=>?_)
 exact thn (hr pos pins s1 σ H1 _ I1 q1) fun us s2 ⟨xs,H2,I2,r2,q2⟩=>⟨x::xs,H2,I2,.cons r1 r2,q2⟩
def tTup (t:TA):TE:=fun σ H Q=>t σ H fun xs H1=>xs.length≤sizeLine∧∀p,H1 p=none→Q (.ref p) (upd H1 p (.tup xs))
def tLst (t:TA):TE:=fun σ H Q=>t σ H fun xs H1=>xs.length≤sizeLine∧∀p,H1 p=none→Q (.ref p) (upd H1 p (.lst xs))
theorem pe_tup {x1}(h:PA X es t):PE X (.Tuple es x1 pos) (tTup t):=by
 intro pins s σ H Q I hq
 refine wpAny_Tuple_spliced (thn (h pos pins s σ H _ I hq) fun us s1 ⟨xs,H1,I1,r,z,q⟩=>⟨by rw[← r.length];exact z,?_⟩)
 have hf:H1 s1.heap.objs.size=none:=I1.hok.fresh (Nat.le_refl _)
 refine⟨.ref s1.heap.objs.size,upd H1 s1.heap.objs.size (.tup xs),I1.laid (t':=s1.toks) (fun b u e=>Heap.get?_push_of_some _ e) (Nat.le_refl _) ?_,rfl,q _ hf⟩
 exact⟨z,us,r,⟨_,Heap.get?_push_size _ rfl,rfl,_,rfl⟩⟩
theorem pe_lst (h:PA X es t):PE X (.List es pos) (tLst t):=by
 intro pins s σ H Q I hq
 refine wpAny_List_spliced (thn (h pos pins s σ H _ I hq) fun us s1 ⟨xs,H1,I1,r,z,q⟩=>⟨by rw[← r.length];exact z,?_⟩)
 have hf:H1 s1.heap.objs.size=none:=I1.hok.fresh (Nat.le_refl _)
 refine⟨.ref s1.heap.objs.size,upd H1 s1.heap.objs.size (.lst xs),I1.laid (t':=s1.toks) (fun b u e=>Heap.get?_push_of_some _ e) (Nat.le_refl _) ?_,rfl,q _ hf⟩
 exact⟨z,us,0,r,Heap.get?_push_size _ rfl⟩
end
abbrev Sp:=List V→Hp→VK→XK→Prop
abbrev CXT:=List Env→Hp→Shared→XK→Value→Shared→Prop
structure Env0 (P:Program) (w:World) (K:PySem.W.Frag) (mg:Str→Option Value) (base:Heap) (A:Around) (outer:List Env) (s:Shared) (H:Hp):Prop where
 frames:A.frames=some outer
 mod:Mod K mg base
 bs:∀b o,base.get? b=some o→s.heap.get? b=some o∧H b=none
 bsz:base.objs.size≤s.heap.objs.size
 funs:s.heap.FunFrames base outer
 frf:∀b∈frs outer,H b=none
 hok:HOk P w H s.heap
 bare:AllBare s.gens
def CE (outer:List Env) (P:Program) (w:World) (H:Hp) (s:Shared) (Q:VK) (u:Value) (s':Shared):Prop :=
 ∃v H',s'.os=s.os∧AllBare s'.gens∧Un (frs outer) [] H H' s.heap s'.heap∧HOk P w H' s'.heap∧RelV v u∧Q v H'
def CR (CX:CXT) (outer:List Env) (P:Program) (w:World) (H:Hp) (s:Shared) (Q:VK) (E:XK) (r:Result) (s':Shared):Prop :=
 match r with
 | .ok (.ret u)=>CE outer P w H s Q u s'
 | .ok _=>False
 | .error e=>CX outer H s E e s'
structure FnOk (P:Program) (w:World) (K:PySem.W.Frag) (mg:Str→Option Value) (base:Heap) (CX:CXT) (k:Nat) (f:Addr) (fd:FuncData) (ps:List Str) (sp:Sp):Prop where
 len:∀vs H Q E,sp vs H Q E→vs.length=ps.length
 run:∀(A:Around) (outer:List Env) (s:Shared) (H:Hp) (args:Args) (us:List Value) (vs:List V) (Q:VK) (E:XK),Room k A→Env0 P w K mg base A outer s H→BindsTo s fd args (ps.zip us)→Vals vs us→sp vs H Q E →
  codeAny (model P w) A (.call (.ref f) args) (CR CX outer P w H s Q E) s
section
variable {X:Cx}{pins:List (Addr×Obj)}{σ:St}{H:Hp}{s s':Shared}
theorem Inv.env0 (I:Inv X pins σ H s):Env0 X.prog X.w X.K X.mg X.base X.A X.stack s H :=
 ⟨I.ok.frames,I.ok.mod,I.bs,Nat.le_trans I.ok.bsz I.sz,I.stack,I.stkFree,I.hok,I.bare⟩
theorem Inv.after {Q:VK}{u:Value}(I:Inv X pins σ H s) (h:CE X.stack X.prog X.w H s Q u s'):EP X pins σ Q u s':=by
 obtain⟨v,H',os,bare,un,hok,r,q⟩:=h
 obtain⟨hh,g,d,t,os'⟩:=s'
 obtain rfl:os'=s.os:=os
 exact⟨v,H',I.call (h':=hh) (g':=g) (d':=d) (t':=t) (ch:=[]) un hok bare (fun b z=>absurd z (by simp)),r,q⟩
end
def tCall (sp:Sp) (dvs:List V) (E:XK) (t:TA):TE:=fun σ H Q=>t σ H fun vs H1=>sp (vs++dvs) H1 Q E
def Binds (K:PySem.W.Frag) (fd:FuncData) (ps:List Str) (ds:List Value):Prop :=
 ∀(s:Shared) (us:List Value),K.In s.heap→(us++ds).length=ps.length→BindsTo s fd ⟨us,[]⟩ (ps.zip (us++ds))
theorem Binds.all {K:PySem.W.Frag}{fd:FuncData}{ps:List Str}(h:∀us:List Value,us.length=ps.length→bindArgs fd ⟨us,[]⟩=pure (ps.zip us)):Binds K fd ps []:=fun s us _ hl=>by
 rw[List.append_nil]at hl ⊢
 exact .of_eq (h us hl)
def Passes (CX:CXT) (X:Cx) (E:XK):Prop:=∀(pins:List (Addr×Obj)) (σ:St) (H:Hp) (s:Shared) (e:Value) (s':Shared),Inv X pins σ H s→CX X.stack H s E e s'→X.xe e s'
section
variable {X:Cx}{CX:CXT}{k:Nat}{f C:Addr}{fd:FuncData}{ps:List Str}{sp:Sp}{dvs:List V}{ds:List Value}{E:XK}{x m:Str}{p pos apos:Pos}{e o:Expr}{es:List Expr}{ta:TE}{t:TA}
theorem run_fn {pins:List (Addr×Obj)}{σ:St}{H:Hp}{s:Shared}{Q:VK}{us:List Value}{vs:List V}(F:FnOk X.prog X.w X.K X.mg X.base CX k f fd ps sp) (hr:Room k X.A) (hb:Binds X.K fd ps ds) (hd:Vals dvs ds) (hx:Passes CX X E)
  (I:Inv X pins σ H s) (r:Vals vs us) (h:sp (vs++dvs) H Q E):wpAny (model X.prog X.w) X.A (call (.ref f) us) (EP X pins σ Q) X.xe s:=by
 have r2:Vals (vs++dvs) (us++ds):=r.append hd
 have hl:(us++ds).length=ps.length:=by rw[← r2.length];exact F.len _ _ _ _ h
 refine wpAny_call (codeAny_mono (F.run X.A X.stack s H ⟨us,[]⟩ (us++ds) (vs++dvs) Q E hr I.env0 (hb s us I.kIn hl) r2 h) fun r s' hq=>?_)
 cases r with
 | error e=>exact hx pins σ H s e s' I hq
 | ok fl =>
  cases fl with
  | ret u=>exact I.after hq
  | next=>exact False.elim hq
  | brk=>exact False.elim hq
  | cont=>exact False.elim hq
theorem pe_call (F:FnOk X.prog X.w X.K X.mg X.base CX k f fd ps sp) (hr:Room k X.A) (hg:Gl X x) (hm:X.mg x=some (.ref f)) (hk:PySem.W.keepIn X.K (.ref f)=true) (hb:Binds X.K fd ps ds) (hd:Vals dvs ds) (hx:Passes CX X E)
  (ha:PA X (e::es) t) (hdb:(x ==("__debug__" : Str))=false:=by decide) (he:starEach (e::es) X.env =(false,eval e X.env)::starEach es X.env:=by rfl) (hpl:(backTo pos (starEach es X.env)).any (·.1)=false:=by rfl) :
  PE X (.Call (.Name x p) (e::es) [] pos) (tCall sp dvs E t):=by
 intro pins s σ H Q I h
 refine wpAny_Call_Name_kw (ld_glob I hg hm ?_ hdb)
 refine PySem.W.callWith_K (h₀:=X.base) I.ok.mod.kin hk (thn (ha pos pins s σ H _ I h) fun us s1 ⟨vs,H1,I1,r,q⟩=>⟨I1.kIn,?_⟩) he hpl
 exact run_fn F hr hb hd hx I1 r q
end
def PK (X:Cx) (kws:List Keyword) (t:TA):Prop :=
 ∀(pos:Pos) (pins:List (Addr×Obj)) (s:Shared) (σ:St) (H:Hp) (Q:List V→Hp→Prop),Inv X pins σ H s→t σ H Q→wpAny (model X.prog X.w) X.A (evalAll ((backToKw pos (keywordEach kws X.env)).map (·.2))) (AP X pins σ Q) X.xe s
section
variable {X:Cx}{CX:CXT}{k:Nat}{f C:Addr}{fd:FuncData}{ps ks:List Str}{sp:Sp}{E:XK}{x m:Str}{p pos apos kpos:Pos}{e o:Expr}{es:List Expr}{kws:List Keyword}{te ta:TE}{t tk:TA}{nm:Option Str}
theorem pk_nil:PK X [] tNil:=fun _ _ _ _ H Q I h=>wpAny_evalAll_nil ⟨[],H,I,.nil,h⟩
theorem pk_cons (ha:PE X e te) (hr:PK X kws t):PK X (⟨nm,e,kpos⟩::kws) (tCons te t):=by
 intro pos pins s σ H Q I h
 show wpAny _ _ (evalAll ((do let v ← eval e X.env;standAt pos;pure v)::(backToKw pos (keywordEach kws X.env)).map (·.2))) _ _ s
 refine wpAny_evalAll_cons (wpAny_bind (thn (ha pins s σ H _ I h) fun u s1 ⟨x,H1,I1,r1,q1⟩=>wpAny_bind (wpAny_standAt (wpAny_pure ?_))))
 exact thn (hr pos pins s1 σ H1 _ I1 q1) fun us s2 ⟨xs,H2,I2,r2,q2⟩=>⟨x::xs,H2,I2,.cons r1 r2,q2⟩
variable {g:List Value→List Value→List Value}{gV:List V→List V→List V}
end
structure FnScope (N P:List Str) (sc:Scope):Prop where
 kind:sc.kind = .function
 co:sc.isCoroutine=false
 gen:sc.isGenerator=false
 nd:N.Nodup
 pre:N.take P.length=P
 par:∀x∈P,sc.names.lookup x=some .local∨sc.names.lookup x=some .cell
 nofree:∀y∈sc.names,y.2 ≠ .free
theorem bindL_out {kindOf:Str→Option NameKind}{x:Str}:∀{binds:List (Str×Value)}{m:Str→Option Value},(∀v,(x,v)∉binds)→bindL kindOf binds m x=m x
 | [],_,_=>rfl
 | (n,v)::r,m,h=>by
  unfold bindL
  rw[bindL_out fun w hw=>h w (List.mem_cons_of_mem _ hw)]
  split
  ·have:x≠n:=by rintro rfl;exact h v List.mem_cons_self
   simp[this]
  ·rfl
theorem bindC_out {kindOf:Str→Option NameKind}{x:Str}:∀{binds:List (Str×Value)}{m:Str→Option Value},(∀v,(x,v)∉binds)→bindC kindOf binds m x=m x
 | [],_,_=>rfl
 | (n,v)::r,m,h=>by
  unfold bindC
  rw[bindC_out fun w hw=>h w (List.mem_cons_of_mem _ hw)]
  split
  ·rfl
  ·have:x≠n:=by rintro rfl;exact h v List.mem_cons_self
   simp[this]
theorem bindL_get {kindOf:Str→Option NameKind}{x:Str}{v:Value}:∀{P:List Str}{vs:List Value}{i:Nat}{m:Str→Option Value},P.Nodup→P[i]? = some x→vs[i]? = some v→kindOf x=some .local →
  bindL kindOf (P.zip vs) m x=some v
 | [],_,_,_,_,h,_,_=>by simp at h
 | _::_,[],_,_,_,_,h,_=>by simp at h
 | p::P,w::vs,0,m,nd,h1,h2,hk=>by
  simp at h1 h2;subst h1;subst h2
  show bindL kindOf ((p,w)::P.zip vs) m p=_
  unfold bindL
  rw[bindL_out fun v hv=>(List.nodup_cons.mp nd).1 (List.of_mem_zip hv).1,if_pos hk]
  simp
 | p::P,w::vs,i+1,m,nd,h1,h2,hk=>by
  show bindL kindOf ((p,w)::P.zip vs) m x=_
  unfold bindL
  exact bindL_get (i:=i) (List.nodup_cons.mp nd).2 (by simpa using h1) (by simpa using h2) hk
theorem bindC_get {kindOf:Str→Option NameKind}{x:Str}{v:Value}:∀{P:List Str}{vs:List Value}{i:Nat}{m:Str→Option Value},P.Nodup→P[i]? = some x→vs[i]? = some v→kindOf x≠some .local →
  bindC kindOf (P.zip vs) m x=some v
 | [],_,_,_,_,h,_,_=>by simp at h
 | _::_,[],_,_,_,_,h,_=>by simp at h
 | p::P,w::vs,0,m,nd,h1,h2,hk=>by
  simp at h1 h2;subst h1;subst h2
  show bindC kindOf ((p,w)::P.zip vs) m p=_
  unfold bindC
  rw[bindC_out fun v hv=>(List.nodup_cons.mp nd).1 (List.of_mem_zip hv).1,if_neg hk]
  simp
 | p::P,w::vs,i+1,m,nd,h1,h2,hk=>by
  show bindC kindOf ((p,w)::P.zip vs) m x=_
  unfold bindC
  exact bindC_get (i:=i) (List.nodup_cons.mp nd).2 (by simpa using h1) (by simpa using h2) hk
def start (N:List Str) (vs:List V):St:=vs.map some++List.replicate (N.length-vs.length) none
def cxOf (CX:CXT) (P:Program) (w:World) (K:PySem.W.Frag) (mg:Str→Option Value) (base:Heap) (N:List Str) (qual:Str) (scope:Scope) (f:Addr) (cd:Value) (A:Around) (outer:List Env) (s:Shared) (H:Hp) (E:XK):Cx where
 prog:=P
 w:=w
 K:=K
 mg:=mg
 base:=base
 A:=A.deeper (envOfC qual scope s.heap.objs.size f cd)
 N:=N
 s₀:=s
 H₀:=H
 env:=envOfC qual scope s.heap.objs.size f cd
 outer:=outer
 stack:=envOfC qual scope s.heap.objs.size f cd::outer
 ex:=[]
 calm:=true
 fn:=fun _=>true
 pn:=[]
 xe:=fun e s'=>wpAny (model P w) (A.deeper (envOfC qual scope s.heap.objs.size f cd)) (leaving (envOfC qual scope s.heap.objs.size f cd) e) (fun _ s''=>CX outer H s E e s'') (fun e' s''=>CX outer H s E e' s'') s'
theorem cell_has {sc:Scope}{n:Nat}{x:Str}(h:sc.names.lookup x=some .cell):∃c,(cellsFrom n sc.names []).lookup x=some c:=by
 have q:=PySem.W.cellsFrom_some sc.names n [] (.inl h)
 exact Option.isSome_iff_exists.mp q
theorem inv_start {CX:CXT}{P:Program}{w:World}{K:PySem.W.Frag}{mg:Str→Option Value}{base:Heap}{N ps:List Str}{qual:Str}{scope:Scope}{f:Addr}{cd:Value}{A:Around}{outer:List Env}{s s1:Shared}{H:Hp}{E:XK}{us:List Value}{vs:List V}
  (S:FnScope N ps scope) (hd:A.handled=none) (e0:Env0 P w K mg base A outer s H) (hl:vs.length=ps.length) (r:Vals vs us)
  (x:InCallC s s.heap.objs.size (bindL (envOfC qual scope s.heap.objs.size f cd).kindOf (ps.zip us) fun _=>none) (cellsFrom (s.heap.objs.size+1) scope.names []) (bindC (envOfC qual scope s.heap.objs.size f cd).kindOf (ps.zip us) fun _=>none) s1) :
  Inv (cxOf CX P w K mg base N qual scope f cd A outer s H E) [] (start N vs) H s1:=by
 have hpl:ps.length≤N.length:=by have:=congrArg List.length S.pre;rw[List.length_take]at this;omega
 obtain⟨h1,tk,rfl,hk⟩:=x.done
 have noA:∀b:Addr,b∉(cxOf CX P w K mg base N qual scope f cd A outer s H E).ex:=fun b z=>absurd (show b∈([]:List Addr) from z) (by simp)
 refine⟨⟨e0.mod,S.kind,rfl,rfl,Nat.le_refl _,fun y z c h1 h2=>?_,fun y hy=>?_,fun y c _ h=>?_,fun _=>hd,Around.frames_deeper e0.frames,.inr ⟨rfl,rfl⟩,fun b z=>absurd z (noA b),e0.bs,e0.bsz,fun b _ _=>noA b,fun b z=>absurd z (noA b),e0.funs,e0.frf⟩,
  rfl,e0.bare,Un.kept hk,⟨_,x.toInCall.ns,fun i y v h1 h2 h3=>?_⟩,fun y c h=>⟨_,x.cell y c h⟩,e0.hok.fresh (Nat.le_refl _),fun y c h=>?_,fun p hp=>absurd (show p∈([]:List (Addr×Obj)) from hp) (by simp),e0.hok.kept hk,?_⟩
 ·exact name_of_addr x.apart (PySem.mem_of_lookup h1) (PySem.mem_of_lookup h2)
 ·have hy:scope.names.lookup y=some .cell∨scope.names.lookup y=some .free:=hy
  rcases hy with hy|hy
  ·exact cell_has hy
  ·exact absurd rfl (S.nofree _ (PySem.mem_of_lookup hy))
 ·exact Nat.le_of_lt (x.above y c (PySem.mem_of_lookup h))
 ·have hi:i<vs.length:=by
   unfold start at h2
   by_cases hi:i<vs.length
   ·exact hi
   ·rw[List.getElem?_append_right (by simpa using hi)]at h2
    rw[List.getElem?_replicate]at h2
    split at h2 <;> cases h2
  have ha:vs[i]? = some v:=by
   unfold start at h2
   rw[List.getElem?_append_left (by simpa using hi),List.getElem?_map]at h2
   cases e:vs[i]? with
   | none=>rw[e]at h2;cases h2
   | some a=>rw[e]at h2;cases h2;rfl
  obtain⟨u,hu,rv⟩:=r.get ha
  have hp:ps[i]? = some y:=by
   rw[← S.pre,List.getElem?_take_of_lt (by omega)];exact h1
  have ndP:ps.Nodup:=by rw[← S.pre];exact S.nd.sublist (List.take_sublist _ _)
  refine⟨u,rv,?_⟩
  rcases S.par y (List.mem_of_getElem? hp) with k|k
  ·exact .inl ⟨k,bindL_get ndP hp hu k⟩
  ·obtain⟨c,e⟩:=cell_has (n:=s.heap.objs.size+1) k
   refine .inr ⟨.inl k,c,e,?_⟩
   have q:=x.cell y c e
   rw[bindC_get ndP hp hu (by show scope.names.lookup y≠_;rw[k];decide)]at q
   exact q
 ·exact e0.hok.fresh (Nat.le_of_lt (x.above y c (PySem.mem_of_lookup h)))
 ·unfold start
  show _=N.length
  rw[List.length_append,List.length_map,List.length_replicate]
  omega
theorem fn_of {CX:CXT}{P:Program}{w:World}{K:PySem.W.Frag}{mg:Str→Option Value}{base:Heap}{k:Nat}{f:Addr}{name qual:Str}{params:Arguments}{body:List Stmt}{scope:Scope}{dV kV doc pm cdv ct oc:Value}{an od:Option Addr}
  {osl:Array (Option Value)}{N ps:List Str}{sp:Sp}(lk:K.lookup f=some ⟨oc,od,.func (PySem.W.fnOf name qual params body scope dV kV doc pm an cdv ct),osl⟩) (hcd:PySem.W.codeIn K cdv qual=true) (S:FnScope N ps scope)
  (len:∀vs H Q E,sp vs H Q E→vs.length=ps.length)
  (hbody:∀(A:Around) (outer:List Env) (s:Shared) (H:Hp) (vs:List V) (Q:VK) (E:XK),Room k (A.deeper (envOfC qual scope s.heap.objs.size f cdv))→sp vs H Q E →
   ∃t,PSs (cxOf CX P w K mg base N qual scope f cdv A outer s H E) body t∧t { nx:=fun _ H'=>Q .non H',rt:=Q } (start N vs) H) :
  FnOk P w K mg base CX (k+1) f (PySem.W.fnOf name qual params body scope dV kV doc pm an cdv ct) ps sp:=by
 refine⟨len,fun A outer s H args us vs Q E hr e0 hb r hsp=>?_⟩
 have hl:=len _ _ _ _ hsp
 have KX:K.In s.heap:=e0.mod.kin.keeps fun b o e=>(e0.bs b o e).1
 have lim:s.heap.NoLimit:=e0.mod.nolimit.keeps fun b o e=>(e0.bs b o e).1
 have hkind:∀y∈ps.zip us,scope.names.lookup y.1=some .local ∨(scope.names.lookup y.1=some .cell∧((cellsFrom (s.heap.objs.size+1) scope.names []).lookup y.1).isSome=true):=fun⟨n,v⟩ hy=>by
  rcases S.par n (List.of_mem_zip hy).1 with q|q
  ·exact .inl q
  ·exact .inr ⟨q,PySem.W.cellsFrom_some _ _ _ (.inl q)⟩
 refine codeAny_call_function hr.depth (KX _ _ lk) rfl S.co S.gen rfl (PySem.W.codeRec_of KX hcd) (hb _ _ _ _ ?_)
 refine wpAny_newFunctionEnv_cells S.kind hkind fun env he s1 x=>?_
 subst he
 refine⟨lim.keeps x.toInCall.keep,codeAny_func ?_⟩
 obtain⟨t,ht,hq⟩:=hbody A outer s H vs Q E (hr.deeper _) hsp
 have I:Inv (cxOf CX P w K mg base N qual scope f cdv A outer s H E) [] (start N vs) H s1:=inv_start S hr.hd e0 hl r x
 refine wpAny_mono (ht [] s1 (start N vs) H _ I hq) (fun fl s' hs=>?_) fun e s' hs=>hs
 have fin:∀{σ':St}{H':Hp}{v:V}{u:Value},Inv (cxOf CX P w K mg base N qual scope f cdv A outer s H E) [] σ' H' s'→RelV v u→Q v H'→CE outer P w H s Q u s' :=
  fun {σ' H' v u} J rv q=>⟨v,H',J.os,J.bare,J.base,J.hok,rv,q⟩
 cases fl with
 | ret u =>
  obtain⟨v,σ',H',J,rv,q⟩:=hs
  exact fin J rv q
 | next =>
  obtain⟨σ',H',J,q⟩:=hs
  exact fin (v:=V.non) (u:=Value.none) J rfl q
 | brk =>
  obtain⟨_,_,_,q⟩:=hs
  exact False.elim q
 | cont =>
  obtain⟨_,_,_,q⟩:=hs
  exact False.elim q
end L2
namespace L2
open PySem PySem.Spec PyProof.Rows
section
variable {X:Cx}{x:Str}{p pos:Pos}{e:Expr}{es:List Expr}{t:TA}{id T:String}{r:List V→Hp→VK→Prop}
def tCB (r:List V→Hp→VK→Prop) (t:TA):TE:=fun σ H Q=>t σ H fun vs H1=>r vs H1 Q
theorem pe_callB (hc:CallR X (.builtin id) r) (hg:Gl X x) (hm:X.mg x=none) (hv:bootBuiltins x=some (.builtin id)) (ha:PA X (e::es) t) (hn:x ≠ "__name__" := by decide) (hdb:(x ==("__debug__" : Str))=false:=by decide)
  (he:starEach (e::es) X.env =(false,eval e X.env)::starEach es X.env:=by rfl) (hpl:(backTo pos (starEach es X.env)).any (·.1)=false:=by rfl):PE X (.Call (.Name x p) (e::es) [] pos) (tCB r t):=by
 intro pins s σ H Q I h
 refine wpAny_Call_Name_kw (ld_blt I hg hm hv ?_ hn hdb)
 exact PyProof.Rows.callWith_builtin1 (thn (ha pos pins s σ H _ I h) fun us s1 ⟨vs,H1,I1,r1,q1⟩=>hc pins s1 σ H1 vs us Q I1 r1 q1) he hpl
theorem pe_callTy (hc:CallR X (.type T) r) (hg:Gl X x) (hm:X.mg x=none) (hv:bootBuiltins x=some (.type T)) (ha:PA X (e::es) t) (hn:x ≠ "__name__" := by decide) (hdb:(x ==("__debug__" : Str))=false:=by decide)
  (he:starEach (e::es) X.env =(false,eval e X.env)::starEach es X.env:=by rfl) (hpl:(backTo pos (starEach es X.env)).any (·.1)=false:=by rfl):PE X (.Call (.Name x p) (e::es) [] pos) (tCB r t):=by
 intro pins s σ H Q I h
 refine wpAny_Call_Name_kw (ld_blt I hg hm hv ?_ hn hdb)
 exact PyProof.Rows.callWith_type1 (thn (ha pos pins s σ H _ I h) fun us s1 ⟨vs,H1,I1,r1,q1⟩=>hc pins s1 σ H1 vs us Q I1 r1 q1) he hpl
end
end L2
namespace HT
open PySem PyProof.Rows
section
open PySem.SeqAt
open PySem.AutoSeq1 (wpAny_loadPart')
open PySem.MeetsSeq PySem.MeetsSeq2 PySem.MeetsSeq3
end
section
variable {prog:Program}{w:World}{A:Around}{E:Value→Shared→Prop}{s:Shared}
def sIx (n d:Nat):Option Int→Nat
 | none=>d
 | some v=>if v<0 then(v+(n:Int)).toNat else min v.toNat n
theorem sIx_none (n d:Nat):sIx n d none=d:=rfl
theorem sIx_nat (n d k:Nat):sIx n d (some (k:Int))=min k n:=by
 show(if (k:Int)<0 then((k:Int)+(n:Int)).toNat else min (k:Int).toNat n)=min k n
 rw[if_neg (by omega),Int.toNat_natCast]
end
end HT
namespace L2
open PySem PySem.Spec PyProof.Rows
abbrev TO:=St→Hp→(Option Int→Hp→Prop)→Prop
def PO (X:Cx) (e:Option Expr) (t:TO):Prop :=
 ∀(pins:List (Addr×Obj)) (s:Shared) (σ:St) (H:Hp) (Q:Option Int→Hp→Prop),Inv X pins σ H s→t σ H Q →
  wpAny (model X.prog X.w) X.A (evalPart e X.env) (fun u s'=>∃o H',Inv X pins σ H' s'∧IsPart u o∧Q o H') X.xe s
def tNoPart:TO:=fun _ H Q=>Q none H
def tPart (t:TE):TO:=fun σ H Q=>t σ H fun x H1=>∃i,x = .int i∧Q (some i) H1
theorem intsAre_of {ns:List Int}:∀{us:List Value},Vals (ns.map V.int) us→IntsAre us ns:=by
 induction ns with
 | nil=>intro us r;rw[List.map_nil]at r;cases r;exact .nil
 | cons n ns ih =>
  intro us r
  rw[List.map_cons]at r
  cases r with
  | cons r1 r2 =>
   obtain⟨t,e⟩:=r1
   subst e
   exact .cons n t (ih r2)
section
variable {X:Cx}{e:Expr}{te:TE}{lo hi:Option Expr}{tl th:TO}{pos p2:Pos}
theorem po_none:PO X none tNoPart:=by
 intro pins s σ H Q I h
 rw[evalPart_none]
 exact wpAny_pure ⟨none,H,I,.none,h⟩
theorem po_some (h:PE X e te):PO X (some e) (tPart te):=by
 intro pins s σ H Q I hw
 rw[evalPart_some]
 refine thn (h pins s σ H _ I hw) fun u s1 ⟨x,H1,I1,r1,q1⟩=>?_
 obtain⟨i,rfl,q⟩:=q1
 obtain⟨t,rfl⟩:=r1
 exact⟨some i,H1,I1,.int i t,q⟩
def SlR (X:Cx) (r:V→Option Int→Option Int→Hp→VK→Prop):Prop :=
 ∀(pins:List (Addr×Obj)) (s:Shared) (σ:St) (H:Hp) (x:V) (v vl vu:Value) (lo hi:Option Int) (sl:Addr) (Q:VK),Inv X pins σ H s→RelV x v→s.heap.IsSliceOf sl vl vu .none→IsPart vl lo→IsPart vu hi→r x lo hi H Q →
  ∃T id,typeLookup (.type T) "__getitem__" = pure (some (.builtin id))∧s.TypeIs v T∧wpAny (model X.prog X.w) X.A (getItem v (.ref sl)) (EP X pins σ Q) X.xe s
def tSl (r:V→Option Int→Option Int→Hp→VK→Prop) (te:TE) (tl th:TO):TE:=fun σ H Q=>te σ H fun x H1=>tl σ H1 fun l H2=>th σ H2 fun u H3=>r x l u H3 Q
theorem pe_slice {r:V→Option Int→Option Int→Hp→VK→Prop}(hr:SlR X r) (he:PE X e te) (hl:PO X lo tl) (hu:PO X hi th):PE X (.Subscript e (.Slice lo hi none p2) pos) (tSl r te tl th):=by
 intro pins s σ H Q I h
 refine Subscript_ (thn (he pins s σ H _ I h) fun v s1 ⟨x,H1,I1,r1,q1⟩=>?_)
 refine wpAny_Slice (thn (hl pins s1 σ H1 _ I1 q1) fun vl s2 ⟨l,H2,I2,pl,q2⟩=>thn (hu pins s2 σ H2 _ I2 q2) fun vu s3 ⟨u,H3,I3,pu,q3⟩=>?_)
 rw[evalPart_none]
 refine wpAny_pure ?_
 have I4:Inv X pins σ H3 { s3 with heap:=s3.heap.push { cls:=.type "slice",data:=.fields #[vl,vu,.none] } }:=I3.kept (t':=s3.toks) fun b ob q=>Heap.get?_push_of_some _ q
 obtain⟨T,id,hT,ht,hg⟩:=hr pins { s3 with heap:=s3.heap.push { cls:=.type "slice",data:=.fields #[vl,vu,.none] } } σ H3 x v vl vu l u s3.heap.objs.size Q I4 r1 (Heap.IsSliceOf.new ..) pl pu q3
 show wpAny (model X.prog X.w) X.A (subscriptTail e (.Slice lo hi none p2) v (.ref s3.heap.objs.size)) (EP X pins σ Q) X.xe { s3 with heap:=s3.heap.push { cls:=.type "slice",data:=.fields #[vl,vu,.none] } }
 exact tail_any (ops:=[.ref s3.heap.objs.size,v]) ht hT hg (by with_unfolding_all rfl)
def cutV (xs:List V) (lo hi:Option Int):List V:=(xs.drop (HT.sIx xs.length 0 lo)).take (HT.sIx xs.length xs.length hi-HT.sIx xs.length 0 lo)
theorem cutV_length (xs:List V) (lo hi:Option Int):(cutV xs lo hi).length≤xs.length:=by
 unfold cutV
 rw[List.length_take,List.length_drop]
 omega
end
end L2
namespace L2
open PySem PySem.Spec PyProof.Rows
def ixN (n:Nat) (i:Int):Option Nat:=if 0≤i then(if i<n then some i.toNat else none) else if -(n:Int)≤i then some (i+n).toNat else none
def atI {α:Type}(xs:List α) (i:Int):Option α:=(ixN xs.length i).bind fun j=>xs[j]?
theorem ixN_seq {n:Nat}{i:Int}{j:Nat}(h:ixN n i=some j):seqIndex? i n=some j∧j<n∧-(n:Int)≤i∧i<n:=by
 unfold ixN at h
 by_cases h0:0≤i
 ·rw[if_pos h0]at h
  by_cases h1:i<n
  ·rw[if_pos h1]at h
   have e:i.toNat=j:=Option.some.inj h
   exact⟨by rw[seqIndex_of h0 h1,e],by omega,by omega,h1⟩
  ·rw[if_neg h1]at h;cases h
 ·rw[if_neg h0]at h
  by_cases h1:-(n:Int)≤i
  ·rw[if_pos h1]at h
   have e:(i+n).toNat=j:=Option.some.inj h
   exact⟨by rw[seqIndex_neg (by omega) h1,e],by omega,h1,by omega⟩
  ·rw[if_neg h1]at h;cases h
theorem atI_get {α:Type}{xs:List α}{i:Int}{v:α}(h:atI xs i=some v):∃j,seqIndex? i xs.length=some j∧xs[j]? = some v∧j<xs.length∧-(xs.length:Int)≤i∧i<xs.length:=by
 unfold atI at h
 cases e:ixN xs.length i with
 | none=>rw[e]at h;cases h
 | some j =>
  rw[e]at h
  obtain⟨h1,h2,h3,h4⟩:=ixN_seq e
  exact⟨j,h1,h,h2,h3,h4⟩
theorem atI_nat {α:Type}{xs:List α}{j:Nat}{v:α}(h:xs[j]? = some v):atI xs (j:Int)=some v:=by
 have hj:j<xs.length:=(List.getElem?_eq_some_iff.mp h).1
 have e:ixN xs.length (j:Int)=some j:=by
  unfold ixN
  rw[if_pos (by omega),if_pos (by omega)];simp
 unfold atI;rw[e];exact h
def PlainIx (b:Expr):Prop:=∀o i,subscripted b false o i=operate [o,i] (getItem o i)
def IxR (X:Cx) (r:R2):Prop :=
 ∀(value slice:Expr) (pins:List (Addr×Obj)) (s:Shared) (σ:St) (H:Hp) (x y:V) (v u:Value) (Q:VK),Inv X pins σ H s→RelV x v→RelV y u→r x y H Q →
  subscripted slice false v u=operate [v,u] (getItem v u)→wpAny (model X.prog X.w) X.A (subscriptTail value slice v u) (EP X pins σ Q) X.xe s
def MtR (X:Cx) (id:String) (r:V→List V→Hp→VK→Prop):Prop :=
 ∀(pins:List (Addr×Obj)) (s:Shared) (σ:St) (H:Hp) (x:V) (xs:List V) (v:Value) (us:List Value) (Q:VK),Inv X pins σ H s→RelV x v→Vals xs us→r x xs H Q →
  wpAny (model X.prog X.w) X.A (call (.builtin id) (v::us)) (EP X pins σ Q) X.xe s
section
variable {X:Cx}{a b:Expr}{ta tb:TE}{pos:Pos}
theorem pe_ix {r:R2}(hr:IxR X r) (ha:PE X a ta) (hb:PE X b tb) (hs:PlainIx b):PE X (.Subscript a b pos) (tOp r ta tb):=by
 intro pins s σ H Q I h
 exact Subscript_ (binT ha hb I h fun v u s2 x y H2 I2 rx ry q=>hr a b pins s2 σ H2 x y v u Q I2 rx ry q (hs _ _))
def rIxL (K:PySem.W.Frag):R2:=fun x y H Q=>∃p xs i v,x = .ref p∧y = .int i∧SqL K H p xs∧atI xs i=some v∧Q v H
def rIxT (K:PySem.W.Frag):R2:=fun x y H Q=>∃p xs i v,x = .ref p∧y = .int i∧SqT K H p xs∧atI xs i=some v∧Q v H
def rIxS:R2:=fun x y H Q=>∃z i c,x = .str z∧y = .int i∧z.length≤sizeLine∧atI z.cps.toList i=some c∧Q (.str ⟨#[c]⟩) H
theorem ix_list:IxR X (rIxL X.K):=by
 intro value slice pins s σ H x y v u Q I rx ry h hs
 obtain⟨p,xs,i,z,rfl,rfl,hq,he,q⟩:=h
 cases rx
 obtain⟨t,rfl⟩:=ry
 obtain⟨its,r,pl,hz⟩:=I.list hq
 obtain⟨j,h1,h2,h3,h4,h5⟩:=atI_get he
 obtain⟨w,ew,rw'⟩:=r.get h2
 have hl:=r.length
 have hn:=line63
 have fin:EP X pins σ Q w s:=⟨z,H,I,rw',q⟩
 by_cases h0:0≤i
 ·have hj:i.toNat=j:=by
   rw[seqIndex_of h0 h5]at h1
   exact Option.some.inj h1
  exact item_listR pl.isList h0 (by omega) (by rw[hj];simpa using ew) fin hs
 ·have hj:(i+(its.toArray.size:Int)).toNat=j:=by
   rw[seqIndex_neg (by omega) h4]at h1
   rw[List.size_toArray,← hl]
   exact Option.some.inj h1
  exact subscriptTail_builtinR (x:=w) pl.isList.typeIs slot_list_getitem.lookup
   (wpAny_getItem_list_neg (Q:=fun r s'=>r=w∧EP X pins σ Q r s') pl.isList (by omega) (by rw[List.size_toArray] <;> omega) (by omega) (by rw[hj];simpa using ew) ⟨rfl,fin⟩) hs
theorem ix_tup:IxR X (rIxT X.K):=by
 intro value slice pins s σ H x y v u Q I rx ry h hs
 obtain⟨p,xs,i,z,rfl,rfl,hq,he,q⟩:=h
 cases rx
 obtain⟨t,rfl⟩:=ry
 obtain⟨its,r,pl,hz⟩:=I.tuple hq
 obtain⟨j,h1,h2,h3,h4,h5⟩:=atI_get he
 obtain⟨w,ew,rw'⟩:=r.get h2
 have hl:=r.length
 have hn:=line63
 have fin:EP X pins σ Q w s:=⟨z,H,I,rw',q⟩
 exact subscriptTail_builtinR (x:=w) pl.typeIs slot_tuple_getitem.lookup
  (getItem_tuple (j:=j) (Q:=fun r s'=>r=w∧EP X pins σ Q r s') pl (by omega) (by omega) (by rw[List.size_toArray,← hl];exact h1) (by simpa using ew) ⟨rfl,fin⟩) hs
theorem ix_str:IxR X rIxS:=by
 intro value slice pins s σ H x y v u Q I rx ry h hs
 obtain⟨z,i,c,rfl,rfl,hz,he,q⟩:=h
 obtain⟨t,rfl⟩:=rx
 obtain⟨t',rfl⟩:=ry
 obtain⟨j,h1,h2,h3,h4,h5⟩:=atI_get he
 have hl:z.cps.toList.length=z.length:=by simp[Str.length]
 rw[hl]at h1 h4 h5
 have hn:=line63
 exact tail_any (typeIs_str s z t) slot_str_getitem.lookup (getItem_str (c:=c) (by
  have e1:decide (i < -(2^63:Int))=false:=decide_eq_false (by omega)
  have e2:decide (i ≥ 2^63)=false:=decide_eq_false (by omega)
  rw[e1,e2,Bool.or_false]) (by rw[h1];simpa using h2) ⟨.str ⟨#[c]⟩,H,I.tok _,⟨_,rfl⟩,q⟩) hs
theorem mapSeq_set (its:List Value) (n j:Nat) (u:Value):Obj.mapSeq (·.setIfInBounds j u) { cls:=.type "list",data:=.seq its.toArray n } = { cls:=.type "list",data:=.seq (its.set j u).toArray n }:=by
 simp[Obj.mapSeq]
theorem Inv.lst {pins:List (Addr×Obj)}{σ:St}{H:Hp}{s:Shared}{p:Addr}{xs:List V}(I:Inv X pins σ H s) (h:H p=some (.lst xs)) :
  ∃(its:List Value) (n:Nat),Vals xs its∧s.heap.get? p=some { cls:=.type "list",data:=.seq its.toArray n }∧xs.length≤sizeLine:=by
 obtain⟨z,its,n,r,e⟩:=I.hok p _ h
 exact⟨its,n,r,e,z⟩
theorem Inv.lstUpd {pins:List (Addr×Obj)}{σ:St}{H:Hp}{s:Shared}{p:Addr}{xs ys:List V}{its its':List Value}{n n':Nat}{f:Obj→Obj}(I:Inv X pins σ H s) (h:H p=some (.lst xs))
  (ho:s.heap.get? p=some { cls:=.type "list",data:=.seq its.toArray n }) (hf:f { cls:=.type "list",data:=.seq its.toArray n } = { cls:=.type "list",data:=.seq its'.toArray n' }) (r:Vals ys its') (hz:ys.length≤sizeLine) (t:Nat) :
  Inv X pins σ (upd H p (.lst ys)) { s with heap:=s.heap.update p f,toks:=t }:=by
 have e:(s.heap.update p f).get? p=some { cls:=.type "list",data:=.seq its'.toArray n' }:=by
  rw[Heap.get?_update_self f ho (by rw[hf] <;> rfl),hf]
 refine I.write (x:=p) (e:=p) (by rw[h];trivial) (.inl rfl) (fun b u hb q=>(Heap.get?_update_other _ _ (Ne.symm hb)).trans q) ⟨_,e⟩ ?_
 exact⟨hz,its',n',r,e⟩
def rSetL:V→V→V→Hp→(Hp→Prop)→Prop:=fun o i v H Q=>∃p xs k j,o = .ref p∧i = .int k∧H p=some (.lst xs)∧ixN xs.length k=some j∧Q (upd H p (.lst (xs.set j v)))
theorem set_list:PSet X rSetL:=by
 intro pins s σ H o i v ov iv u Q I ro ri rv h
 obtain⟨p,xs,k,j,rfl,rfl,hp,hj,q⟩:=h
 cases ro
 obtain⟨t,rfl⟩:=ri
 obtain⟨its,n,r,ho,hz⟩:=I.lst hp
 obtain⟨h1,h2,h3,h4⟩:=ixN_seq hj
 have hl:=r.length
 have hn:=line63
 have I':Inv X pins σ (upd H p (.lst (xs.set j v))) { s with heap:=s.heap.update p (Obj.mapSeq (·.setIfInBounds j u)) } :=
  I.lstUpd hp ho (mapSeq_set its n j u) (r.set rv j) (by rw[List.length_set];exact hz) s.toks
 by_cases h0:0≤k
 ·have hk:k.toNat=j:=by
   rw[seqIndex_of h0 h4]at h1
   exact Option.some.inj h1
  exact PySem.W.ki_setAt ho h0 (by omega) (by rw[List.size_toArray,← hl];exact h4) (by rw[hk];exact⟨_,I',q⟩)
 ·have hk:(k+(its.toArray.size:Int)).toNat=j:=by
   rw[seqIndex_neg (by omega) h3]at h1
   rw[List.size_toArray,← hl]
   exact Option.some.inj h1
  exact PySem.W.ki_setBack ho (by omega) (by rw[List.size_toArray,← hl];exact h3) (by omega) (by rw[hk];exact⟨_,I',q⟩)
theorem slice_bounds (lo hi:Option Int) (n:Nat):(sliceBounds lo hi none n).1 =((HT.sIx n 0 lo:Nat):Int)∧(sliceBounds lo hi none n).2.1 =((HT.sIx n n hi:Nat):Int)∧(sliceBounds lo hi none n).2.2=1:=by
 refine⟨?_,?_,rfl⟩
 ·cases lo with
  | none=>simp[sliceBounds,HT.sIx]
  | some i =>
   simp only[sliceBounds,HT.sIx,Option.getD_none,show(1:Int) > 0 by decide,if_true]
   by_cases h:i<0
   ·simp only[h,if_true] <;> omega
   ·simp only[h,if_false] <;> omega
 ·cases hi with
  | none=>simp[sliceBounds,HT.sIx]
  | some i =>
   simp only[sliceBounds,HT.sIx,Option.getD_none,show(1:Int) > 0 by decide,if_true]
   by_cases h:i<0
   ·simp only[h,if_true] <;> omega
   ·simp only[h,if_false] <;> omega
theorem slicePick_cut (its:List Value) (lo hi:Option Int):slicePick its.toArray lo hi none =((its.drop (HT.sIx its.length 0 lo)).take (HT.sIx its.length its.length hi-HT.sIx its.length 0 lo)).toArray:=by
 obtain⟨h1,h2,h3⟩:=slice_bounds lo hi its.toArray.size
 unfold slicePick
 rw[h1,h2,h3]
 simp only[sliceRange_one,pick_run,List.size_toArray] <;> rfl
def rSlL (K:PySem.W.Frag):V→Option Int→Option Int→Hp→VK→Prop:=fun x lo hi H Q=>∃a xs,x = .ref a∧SqL K H a xs∧∀p,H p=none→Q (.ref p) (upd H p (.lst (cutV xs lo hi)))
theorem sl_list:SlR X (rSlL X.K):=by
 intro pins s σ H x v vl vu lo hi sl Q I rx hs pl pu h
 obtain⟨a,xs,rfl,hx,q⟩:=h
 cases rx
 obtain⟨its,r,ht,hz⟩:=I.list hx
 have hlen:=r.length
 refine⟨"list",_,slot_list_getitem.lookup,ht.isList.typeIs,?_⟩
 refine wpAny_getItem_list_slice ht.isList hs pl pu .none (by simp) ?_ (by rw[List.size_toArray] <;> omega)
 rw[slicePick_cut,← hlen]
 refine⟨.ref s.heap.objs.size,_,I.laid (t':=s.toks) (o:=.lst (cutV xs lo hi)) (fun b ob q=>Heap.get?_push_of_some _ q) (Nat.le_refl _) ?_,rfl,q _ (I.hok.fresh (Nat.le_refl _))⟩
 exact⟨Nat.le_trans (cutV_length xs lo hi) hz,_,0,(r.drop (HT.sIx xs.length 0 lo)).take (HT.sIx xs.length xs.length hi-HT.sIx xs.length 0 lo),Heap.get?_push_size _ rfl⟩
def flatV:V→Bool
 | .non=>true
 | .bl _=>true
 | .int _=>true
 | .str _=>true
 | _=>false
def eqV:V→V→Bool
 | .non,.non=>true
 | .bl a,.bl b=>a == b
 | .bl a,.int b=>(if a then 1 else 0) == b
 | .int a,.bl b=>a ==(if b then 1 else 0)
 | .int a,.int b=>a == b
 | .str a,.str b=>a == b
 | _,_=>false
theorem eqAt_V {A:Around}{s:Shared}{y x:V}{u v:Value}(ry:RelV y u) (rx:RelV x v) (fy:flatV y=true) (fx:flatV x=true):SeqAt.EqAt A s u v (eqV y x):=by
 cases y with
 | non =>
  cases ry
  cases x with
  | non=>cases rx;exact SeqAt.EqAt.same _
  | bl b=>cases rx;exact SeqAt.EqAt.none_bool b
  | int b=>obtain⟨t,rfl⟩:=rx;exact SeqAt.EqAt.none_int b t
  | str b=>obtain⟨t,rfl⟩:=rx;exact SeqAt.EqAt.none_str b t
  | _=>exact absurd (show false=true from fx) Bool.false_ne_true
 | bl a =>
  cases ry
  cases x with
  | non=>cases rx;exact SeqAt.EqAt.bool_none a
  | bl b=>cases rx;exact SeqAt.EqAt.bool_bool a b
  | int b=>obtain⟨t,rfl⟩:=rx;exact SeqAt.EqAt.bool_int a b t
  | str b=>obtain⟨t,rfl⟩:=rx;exact SeqAt.EqAt.bool_str a b t
  | _=>exact absurd (show false=true from fx) Bool.false_ne_true
 | int a =>
  obtain⟨t',rfl⟩:=ry
  cases x with
  | non=>cases rx;exact SeqAt.EqAt.int_none a t'
  | bl b=>cases rx;exact SeqAt.EqAt.int_bool a t' b
  | int b=>obtain⟨t,rfl⟩:=rx;exact SeqAt.EqAt.int_int a t' b t
  | str b=>obtain⟨t,rfl⟩:=rx;exact SeqAt.EqAt.int_str a t' b t
  | _=>exact absurd (show false=true from fx) Bool.false_ne_true
 | str a =>
  obtain⟨t',rfl⟩:=ry
  cases x with
  | non=>cases rx;exact SeqAt.EqAt.str_none a t'
  | bl b=>cases rx;exact SeqAt.EqAt.str_bool a t' b
  | int b=>obtain⟨t,rfl⟩:=rx;exact SeqAt.EqAt.str_int a t' b t
  | str b=>obtain⟨t,rfl⟩:=rx;exact SeqAt.EqAt.str_str a t' b t
  | _=>exact absurd (show false=true from fx) Bool.false_ne_true
 | _=>exact absurd (show false=true from fy) Bool.false_ne_true
def eqU (x:V) (u:Value):Bool:=match u with
 | .none=>eqV .non x
 | .bool b=>eqV (.bl b) x
 | .int i _=>eqV (.int i) x
 | .str z _=>eqV (.str z) x
 | _=>false
theorem eqU_of {x y:V}{u:Value}(r:RelV y u) (f:flatV y=true):eqU x u=eqV y x:=by
 cases y with
 | non=>cases r;rfl
 | bl b=>cases r;rfl
 | int i=>obtain⟨t,rfl⟩:=r;rfl
 | str z=>obtain⟨t,rfl⟩:=r;rfl
 | _=>exact absurd (show false=true from f) Bool.false_ne_true
theorem any_eqU {x:V}:∀{xs:List V}{us:List Value},Vals xs us→xs.all flatV=true→us.any (eqU x)=xs.any fun y=>eqV y x
 | _,_,.nil,_=>rfl
 | y::xs,u::us,.cons r t,f=>by
  rw[List.all_cons,Bool.and_eq_true]at f
  rw[List.any_cons,List.any_cons,eqU_of r f.1,any_eqU t f.2]
theorem mem_eqAt {A:Around}{s:Shared}{x:V}{v:Value}(rx:RelV x v) (fx:flatV x=true):∀{xs:List V}{us:List Value},Vals xs us→xs.all flatV=true→∀u∈us,SeqAt.EqAt A s u v (eqU x u)
 | _,_,.nil,_=>fun u hu=>by cases hu
 | y::xs,u::us,.cons r t,f=>fun u' hu=>by
  rw[List.all_cons,Bool.and_eq_true]at f
  rcases List.mem_cons.mp hu with rfl|hu
  ·rw[eqU_of r f.1];exact eqAt_V r rx f.1 fx
  ·exact mem_eqAt rx fx t f.2 u' hu
def inV (x:V) (xs:List V):Bool:=xs.any fun y=>eqV y x
def rIn (K:PySem.W.Frag) (neg:Bool):R2:=fun x y H Q=>∃p xs,y = .ref p∧(SqL K H p xs∨SqT K H p xs)∧flatV x=true∧xs.all flatV=true∧Q (.bl (if neg then !inV x xs else inV x xs)) H
theorem op_in_seq:OpR X (compareOp .In) (rIn X.K false):=by
 intro pins s σ H x y v u Q I rx ry h
 obtain⟨p,xs,rfl,hq,fx,fs,q⟩:=h
 cases ry
 rcases hq with hq|hq
 ·obtain⟨its,r,pl,hz⟩:=I.list hq
  refine SeqAt.in_listAt (eqU x) pl.isList (fun w hw=>mem_eqAt rx fx r fs w (by simpa using hw)) ⟨.bl _,H,I,rfl,?_⟩
  rw[show its.toArray.any (eqU x)=its.any (eqU x) by simp,any_eqU r fs]
  exact q
 ·obtain⟨its,r,pl,hz⟩:=I.tuple hq
  refine SeqAt.in_tupleAt (eqU x) pl (fun w hw=>mem_eqAt rx fx r fs w (by simpa using hw)) ⟨.bl _,H,I,rfl,?_⟩
  rw[show its.toArray.any (eqU x)=its.any (eqU x) by simp,any_eqU r fs]
  exact q
theorem op_notIn_seq:OpR X (compareOp .NotIn) (rIn X.K true):=by
 intro pins s σ H x y v u Q I rx ry h
 obtain⟨p,xs,rfl,hq,fx,fs,q⟩:=h
 cases ry
 rcases hq with hq|hq
 ·obtain⟨its,r,pl,hz⟩:=I.list hq
  refine SeqAt.notIn_listAt (eqU x) pl.isList (fun w hw=>mem_eqAt rx fx r fs w (by simpa using hw)) ⟨.bl _,H,I,rfl,?_⟩
  rw[show its.toArray.any (eqU x)=its.any (eqU x) by simp,any_eqU r fs]
  exact q
 ·obtain⟨its,r,pl,hz⟩:=I.tuple hq
  refine SeqAt.notIn_tupleAt (eqU x) pl (fun w hw=>mem_eqAt rx fx r fs w (by simpa using hw)) ⟨.bl _,H,I,rfl,?_⟩
  rw[show its.toArray.any (eqU x)=its.any (eqU x) by simp,any_eqU r fs]
  exact q
theorem call_len_seq:CallR X (.builtin "len") (fun xs H Q=>∃p ys,xs=[.ref p]∧(SqL X.K H p ys∨SqT X.K H p ys)∧Q (.int ys.length) H):=by
 intro pins s σ H xs us Q I r h
 obtain⟨p,ys,rfl,hq,q⟩:=h
 obtain⟨u,rfl,rx⟩:=vals1 r
 cases rx
 have hn:=line63
 rcases hq with hq|hq
 ·obtain⟨its,r',pl,hz⟩:=I.list hq
  have hlen:=r'.length
  exact Calls.call_len_list pl.isList (by simp only[List.size_toArray] <;> omega) ⟨.int ys.length,H,I.tok _,⟨s.toks+1,by rw[List.size_toArray,hlen]⟩,q⟩
 ·obtain⟨its,r',pl,hz⟩:=I.tuple hq
  have hlen:=r'.length
  exact len_tuple pl (by simp only[List.size_toArray] <;> omega) ⟨.int ys.length,H,I.tok _,⟨s.toks+1,by rw[List.size_toArray,hlen]⟩,q⟩
theorem call_list_of:CallR X (.type "list") (fun xs H Q=>∃p ys,xs=[.ref p]∧(SqL X.K H p ys∨SqT X.K H p ys)∧∀l,H l=none→Q (.ref l) (upd H l (.lst ys))):=by
 intro pins s σ H xs us Q I r h
 obtain⟨p,ys,rfl,hq,q⟩:=h
 obtain⟨u,rfl,rx⟩:=vals1 r
 cases rx
 have fin:∀(its:List Value),Vals ys its→ys.length≤sizeLine→∀(h':Heap) (c':Nat),(∀b o',s.heap.get? b=some o'→h'.get? b=some o') →
   h'.get? s.heap.objs.size=some { cls:=.type "list",dict:=none,data:=.seq its.toArray c',slots:=#[] }→EP X pins σ Q (.ref s.heap.objs.size) { s with heap:=h' }:=fun its r' hz h' c' kp e =>
  ⟨.ref s.heap.objs.size,_,I.laid (t':=s.toks) kp (Nat.le_refl _) (show ObjOk X.prog X.w _ h' _ (.lst ys) from⟨hz,its,c',r',e⟩),rfl,q _ (I.hok.fresh (Nat.le_refl _))⟩
 rcases hq with hq|hq
 ·obtain⟨its,r',pl,hz⟩:=I.list hq
  have hlen:=r'.length
  obtain⟨o,ho,hc,n,hd⟩:=pl.isList
  exact call_list_seq p (.inl rfl) ho hc hd (fun h' c' kp e=>fin its r' hz h' c' kp e) (by simp only[List.size_toArray] <;> omega)
 ·obtain⟨its,r',pl,hz⟩:=I.tuple hq
  have hlen:=r'.length
  obtain⟨o,ho,hc,n,hd⟩:=pl
  exact call_list_seq p (.inr rfl) ho hc hd (fun h' c' kp e=>fin its r' hz h' c' kp e) (by simp only[List.size_toArray] <;> omega)
theorem call_tuple_of:CallR X (.type "tuple") (fun xs H Q=>∃p ys,xs=[.ref p]∧((SqL X.K H p ys∧∀l,H l=none→Q (.ref l) (upd H l (.tup ys))) ∨(SqT X.K H p ys∧Q (.ref p) H))):=by
 intro pins s σ H xs us Q I r h
 obtain⟨p,ys,rfl,h⟩:=h
 obtain⟨u,rfl,rx⟩:=vals1 r
 cases rx
 rcases h with⟨hq,q⟩|⟨hq,q⟩
 ·obtain⟨its,r',pl,hz⟩:=I.list hq
  have hlen:=r'.length
  refine call_tuple_list pl.isList (fun h' kp=>?_) (by simp only[List.size_toArray] <;> omega)
  have I1:Inv X pins σ H { s with heap:=h' }:=I.kept (t':=s.toks) kp
  have I2:Inv X pins σ (upd H h'.objs.size (.tup ys)) { s with heap:=h'.push { cls:=.type "tuple",data:=.seq its.toArray } } :=
   I1.laid (t':=s.toks) (fun b o e=>Heap.get?_push_of_some _ e) (Nat.le_refl _) (show ObjOk X.prog X.w _ _ _ (.tup ys) from⟨hz,its,r',IsTup.new _ _⟩)
  exact⟨.ref h'.objs.size,_,I2,rfl,q _ (I1.hok.fresh (Nat.le_refl _))⟩
 ·obtain⟨its,r',pl,hz⟩:=I.tuple hq
  exact call_tuple_same pl ⟨.ref p,H,I,rfl,q⟩
def tyV (K:PySem.W.Frag) (T:String) (x:V) (H:Hp):Prop:=match x with
 | .str _=>T = "str"
 | .int _=>T = "int"
 | .ref p=>(T = "list"∧∃xs,SqL K H p xs) ∨(T = "tuple"∧∃o,K.lookup p=some o∧o.cls = .type "tuple"∧o.dict=none) ∨
   (T = "dict"∧((∃kvs,H p=some (.dK kvs)) ∨ ∃kvs,H p=some (.dT kvs))) ∨(T = "set"∧∃S n,H p=some (.set S n))
 | _=>False
theorem tyV_is {pins:List (Addr×Obj)}{σ:St}{H:Hp}{s:Shared}{T:String}{x:V}{v:Value}(I:Inv X pins σ H s) (r:RelV x v) (ty:tyV X.K T x H) :
  s.TypeIs v T∧∀a,v = .ref a→∃ob,s.heap.get? a=some ob∧ob.dict=none:=by
 cases x with
 | str z =>
  obtain⟨t,rfl⟩:=r
  cases (show T = "str" from ty)
  exact⟨typeIs_str s z t,fun _ e=>nomatch e⟩
 | int i =>
  obtain⟨t,rfl⟩:=r
  cases (show T = "int" from ty)
  exact⟨typeIs_int s i t,fun _ e=>nomatch e⟩
 | ref p =>
  cases r
  rcases ty with⟨rfl,xs,hq⟩|⟨rfl,o,hk,hc,hd⟩|⟨rfl,hk⟩|⟨rfl,S,n,hk⟩
  ·obtain⟨its,_,pl,_⟩:=I.list hq
   refine⟨pl.isList.typeIs,fun a e=>?_⟩
   cases e
   obtain⟨o,n,e,c,hd,_⟩:=pl
   exact⟨o,e,hd⟩
  ·refine⟨⟨o,I.kIn p o hk,hc⟩,fun a e=>?_⟩
   cases e
   exact⟨o,I.kIn _ o hk,hd⟩
  ·have z:∃o,s.heap.get? p=some o∧o.ExactDict:=by
    rcases hk with⟨kvs,hk⟩|⟨kvs,hk⟩
    ·obtain⟨_,_,_,_,o,_,_,e,ex,_⟩:=I.hok p _ hk
     exact⟨o,e,ex⟩
    ·obtain⟨_,_,_,_,o,_,_,e,ex,_⟩:=I.hok p _ hk
     exact⟨o,e,ex⟩
   obtain⟨o,e,ex⟩:=z
   refine⟨⟨o,e,ex.1⟩,fun a e2=>?_⟩
   cases e2
   exact⟨o,e,ex.2.1⟩
  ·obtain⟨o,_,_,_,e,ex,_⟩:=I.hok p _ hk
   refine⟨⟨o,e,ex.1⟩,fun a e2=>?_⟩
   cases e2
   exact⟨o,e,ex.2.1⟩
 | _=>exact False.elim ty
def tBM (K:PySem.W.Frag) (T:String) (r:V→List V→Hp→VK→Prop) (to:TE) (t:TA):TE:=fun σ H Q=>to σ H fun x H1=>tyV K T x H1∧t σ H1 fun xs H2=>r x xs H2 Q
variable {o e:Expr}{es:List Expr}{to:TE}{t:TA}{name:Str}{apos cpos:Pos}{T id:String}{r:V→List V→Hp→VK→Prop}
theorem pe_bm (pa:PlainAttrs T) (slot:Slot T name id) (hty:typeOf (.builtin id)=pure (.type "method_descriptor")) (hm:MtR X id r) (ho:PE X o to) (ha:PA X (e::es) t)
  (hbase:attributeBase o name X.env (eval o X.env)=eval o X.env:=by rfl)
  (hfew:((backTo cpos (starEach (e::es) X.env)).all (fun x=>!x.1) && (backToKw cpos (keywordEach [] X.env)).all (fun x=>x.1.isSome)
   && decide ((e::es).length+([]:List Keyword).length+(if ([]:List Keyword).isEmpty then 0 else 1)<30))=true:=by rfl)
  (hline:(apos.endLine == cpos.line)=true:=by rfl) (hs:starEach (e::es) X.env =(false,eval e X.env)::starEach es X.env:=by rfl) (hplain:(backTo cpos (starEach es X.env)).any (·.1)=false:=by rfl) :
  PE X (.Call (.Attribute o name apos) (e::es) [] cpos) (tBM X.K T r to t):=by
 intro pins s σ H Q I h
 refine wpAny_Call_method_late hbase hfew hline rfl (thn (ho pins s σ H _ I h) fun v s1 ⟨x,H1,I1,r1,ty,q1⟩=>?_)
 obtain⟨h1,h2⟩:=tyV_is I1 r1 ty
 refine⟨T,id,pa,slot,hty,h1,h2,?_⟩
 have hA:=ha cpos pins s1 σ H1 _ I1 q1
 rw[hs]at hA ⊢
 refine Calls.callWith_builtin (by show(false || (backTo cpos (starEach es X.env)).any (·.1))=false;rw[hplain] <;> rfl) (Calls.evalArgs_plain ?_)
 exact thn hA fun us s2 ⟨vs,H2,I2,r2,q2⟩=>hm pins s2 σ H2 x vs v us Q I2 r1 r2 q2
end
end L2
namespace L2
open PySem PySem.Spec PyProof.Rows
def MtM (X:Cx) (id:String) (r:V→List V→Hp→VK→Prop):Prop :=
 ∀(pins:List (Addr×Obj)) (s:Shared) (σ:St) (H:Hp) (x:V) (xs:List V) (v:Value) (us:List Value) (Q:VK),Inv X pins σ H s→RelV x v→Vals xs us→r x xs H Q →
  wpAny (model X.prog X.w) X.A (call (.builtin id) (v::us)) (EP X pins σ Q) X.xe s
theorem Vals.one:∀{x:V}{us:List Value},Vals [x] us→∃u,us=[u]∧RelV x u
 | _,_,.cons r .nil=>⟨_,rfl,r⟩
theorem Vals.dropLast {xs:List V}{us:List Value}(h:Vals xs us):Vals xs.dropLast us.dropLast:=by
 induction h with
 | nil=>exact .nil
 | cons r t ih =>
  cases t with
  | nil=>exact .nil
  | cons q t'=>exact .cons r ih
theorem Vals.eraseIdx:∀{xs:List V}{us:List Value}(i:Nat),Vals xs us→Vals (xs.eraseIdx i) (us.eraseIdx i)
 | _,_,_,.nil=>.nil
 | _,_,0,.cons _ t=>t
 | _,_,i+1,.cons r t=>.cons r (Vals.eraseIdx i t)
theorem Vals.reverse {xs:List V}{us:List Value}(h:Vals xs us):Vals xs.reverse us.reverse:=by
 induction h with
 | nil=>exact .nil
 | cons r t ih=>rw[List.reverse_cons,List.reverse_cons];exact Vals.append ih (.cons r .nil)
theorem erase_last {α:Type}(l:List α):l.eraseIdx (l.length-1)=l.dropLast:=by
 induction l with
 | nil=>rfl
 | cons a r ih =>
  cases r with
  | nil=>rfl
  | cons b r =>
   have e:(a::b::r).length-1 =((b::r).length-1)+1:=by
    have h1:(a::b::r).length=r.length+2:=rfl
    have h2:(b::r).length=r.length+1:=rfl
    omega
   rw[e,List.eraseIdx_cons_succ,ih]
   all_goals rfl
theorem len_erase {α:Type}:∀(l:List α) (i:Nat),(l.eraseIdx i).length≤l.length
 | [],_=>Nat.le_refl _
 | _::_,0=>Nat.le_succ _
 | _::r,i+1=>Nat.succ_le_succ (len_erase r i)
section
variable {X:Cx}{pins:List (Addr×Obj)}{σ:St}{H:Hp}{s:Shared}{l b:Addr}{xs ys zs:List V}
theorem Inv.lset {its its':List Value}{n:Nat}{f:Array Value→Array Value}{t':Nat}(I:Inv X pins σ H s) (hH:H l=some (.lst xs))
  (e:s.heap.get? l=some { cls:=.type "list",data:=.seq its.toArray n }) (hf:f its.toArray=its'.toArray) (hv:Vals ys its') (hz:ys.length≤sizeLine) :
  Inv X pins σ (upd H l (.lst ys)) { s with heap:=s.heap.update l (Obj.mapSeq f),toks:=t' }:=by
 have q:=PySem.IsL.update e f
 rw[hf]at q
 refine I.write (x:=l) (e:=l) (by rw[hH];exact trivial) (.inl rfl) (fun b' u hb hu=>(Heap.get?_update_other s.heap (Obj.mapSeq f) (Ne.symm hb)).trans hu) ⟨_,q⟩ ?_
 exact⟨hz,its',_,hv,q⟩
theorem Inv.lnew {its:List Value}{t':Nat}(I:Inv X pins σ H s) (hv:Vals ys its) (hz:ys.length≤sizeLine) :
  Inv X pins σ (upd H s.heap.objs.size (.lst ys)) { s with heap:=s.heap.push { cls:=.type "list",data:=.seq its.toArray },toks:=t' } :=
 I.laid (fun _ _ q=>Heap.get?_push_of_some _ q) (Nat.le_refl _) ⟨hz,its,0,hv,Heap.get?_push_size _ rfl⟩
theorem Inv.fresh (I:Inv X pins σ H s):H s.heap.objs.size=none:=I.hok.fresh (Nat.le_refl _)
theorem Inv.lstM (I:Inv X pins σ H s) (hH:H l=some (.lst xs)):xs.length≤sizeLine∧∃(its:List Value) (n:Nat),Vals xs its∧xs.length=its.length∧s.heap.get? l=some { cls:=.type "list",data:=.seq its.toArray n }:=by
 obtain⟨z,its,n,r,e⟩:=I.hok l _ hH
 exact⟨z,its,n,r,r.length,e⟩
theorem notLongL {n:Nat}(h:n≤sizeLine):Builtin.List.listTooLong n=false:=by
 unfold Builtin.List.listTooLong
 exact decide_eq_false (by omega)
end
section
variable {X:Cx}
def rAppend:V→List V→Hp→VK→Prop:=fun x vs H Q=>∃l xs y,x = .ref l∧vs=[y]∧H l=some (.lst xs)∧xs.length<sizeLine∧Q .non (upd H l (.lst (xs ++ [y])))
theorem mt_append:MtM X "list.append" rAppend:=by
 intro pins s σ H x vs v us Q I rx rv h
 obtain⟨l,xs,y,rfl,rfl,hH,hz,q⟩:=h
 cases rx
 obtain⟨u,rfl,ru⟩:=rv.one
 obtain⟨z,its,n,r,hl,e⟩:=I.lstM hH
 refine call_meets F.slot_list_append ⟨_,e,rfl⟩ F.entry_list_append (F.args_list_append_2 _ _) (PySem.list_append l its.toArray n u (by rw[List.size_toArray];omega)) ⟨e,?_⟩
 refine⟨.non,_,I.lset (its':=its ++ [u]) hH e (by simp) (r.append (.cons ru .nil)) ?_,rfl,q⟩
 rw[List.length_append,List.length_singleton]
 omega
def rExtend:V→List V→Hp→VK→Prop:=fun x vs H Q=>∃l b xs zs,x = .ref l∧vs=[.ref b]∧H l=some (.lst xs)∧H b=some (.lst zs)∧xs.length+zs.length≤sizeLine∧Q .non (upd H l (.lst (xs++zs)))
theorem mt_extend:MtM X "list.extend" rExtend:=by
 intro pins s σ H x vs v us Q I rx rv h
 obtain⟨l,b,xs,zs,rfl,rfl,hH,hB,hz,q⟩:=h
 cases rx
 obtain⟨u,rfl,ru⟩:=rv.one
 cases ru
 obtain⟨z,its,n,r,hl,e⟩:=I.lstM hH
 obtain⟨z2,its2,n2,r2,hl2,e2⟩:=I.lstM hB
 have hsz:its.toArray.size+its2.toArray.size≤sizeLine:=by rw[List.size_toArray,List.size_toArray];omega
 have hlong:¬(!its.toArray.isEmpty && Builtin.List.listTooLong (its.toArray.size+its2.toArray.size))=true:=by
  rw[notLongL hsz,Bool.and_false]
  exact Bool.false_ne_true
 refine call_meets F.slot_list_extend ⟨_,e,rfl⟩ F.entry_list_extend (F.args_list_extend_2 _ _)
  (AutoSeq1.list_extend_list_list_0 l its.toArray n b its2.toArray n2 hlong (by rw[List.size_toArray];omega) (by omega)) ⟨e,e2,?_⟩
 refine⟨.non,_,I.lset (its':=its++its2) hH e (by simp) (r.append r2) ?_,rfl,q⟩
 rw[List.length_append]
 omega
def rPopAt:V→List V→Hp→VK→Prop:=fun x vs H Q=>∃l xs i k y,x = .ref l∧vs=[.int i]∧H l=some (.lst xs)∧-(2^63)≤i∧i<2^63∧seqIndex? i xs.length=some k∧xs[k]? = some y∧Q y (upd H l (.lst (xs.eraseIdx k)))
theorem mt_popAt:MtM X "list.pop" rPopAt:=by
 intro pins s σ H x vs v us Q I rx rv h
 obtain⟨l,xs,i,k,y,rfl,rfl,hH,h1,h2,hk,hy,q⟩:=h
 cases rx
 obtain⟨u,rfl,ru⟩:=rv.one
 obtain⟨t,rfl⟩:=ru
 obtain⟨z,its,n,r,hl,e⟩:=I.lstM hH
 obtain⟨w,hw,rw'⟩:=r.get hy
 refine call_meets F.slot_list_pop ⟨_,e,rfl⟩ F.entry_list_pop (F.args_list_pop_2 _ _)
  (MeetsSeq.list_pop_at l its.toArray n i t k w (fitsIndex_both h1 h2) (by rw[List.size_toArray,← hl];exact hk) (by rw[← Array.getElem?_toList];exact hw) (by rw[List.size_toArray];omega)) ⟨e,?_⟩
 refine⟨y,_,I.lset (its':=its.eraseIdx k) hH e ?_ (r.eraseIdx k) ?_,rw',q⟩
 ·show its.toArray.eraseIdxIfInBounds k =(its.eraseIdx k).toArray
  rw[List.eraseIdxIfInBounds_toArray]
 ·have:=len_erase xs k
  omega
def rCat:R2:=fun x y H Q=>∃l b xs zs,x = .ref l∧y = .ref b∧H l=some (.lst xs)∧H b=some (.lst zs)∧xs.length+zs.length≤sizeLine∧∀p,H p=none→Q (.ref p) (upd H p (.lst (xs++zs)))
theorem op_cat:OpR X (binaryOp .Add) rCat:=by
 intro pins s σ H x y v u Q I rx ry h
 obtain⟨l,b,xs,zs,rfl,rfl,hH,hB,hz,q⟩:=h
 cases rx
 cases ry
 obtain⟨z,its,n,r,hl,e⟩:=I.lstM hH
 obtain⟨z2,its2,n2,r2,hl2,e2⟩:=I.lstM hB
 refine PySem.P.add_list e e2 ?_ (by rw[List.size_toArray,List.size_toArray];omega)
 have ea:its.toArray++its2.toArray =(its++its2).toArray:=by simp
 rw[ea]
 exact⟨.ref _,_,I.lnew (t':=s.toks) (r.append r2) (by rw[List.length_append];omega),rfl,q _ I.fresh⟩
end
section
variable {prog:Program}{w:World}{A:Around}{E:Value→Shared→Prop}{s:Shared}
theorem splice_eq (its its2:List Value) (a c:Nat) : its.toArray.extract 0 a ++ its2.toArray ++ its.toArray.extract c its.toArray.size = (its.take a ++ its2 ++ its.drop c).toArray:=by
  apply Array.toList_inj.mp
  first
    | (simp
       exact List.take_of_length_le (by simp))
    | simp [List.take_of_length_le]
    | simp
theorem bounds_run {a c n:Nat}(hac:a≤c) (hc:c≤n):sliceBounds (some (a:Int)) (some (c:Int)) none n =((a:Int),(c:Int),1):=by
 simp only[sliceBounds,Option.getD_none]
 have h1:¬((a:Int)<0):=by omega
 have h2:¬((c:Int)<0):=by omega
 simp only[h1,h2,if_false,show(1:Int) > 0 by decide,if_true]
 congr 1
 ·omega
 ·congr 1;omega
set_option maxRecDepth 100000 in
theorem setItem_slice {l b sl:Addr} {items new:Array Value} {n n2:Nat} {vl vu:Value} {a c:Nat} {Q:Unit→Shared→Prop}
    (e:s.heap.get? l = some { cls:=.type "list",data:=.seq items n }) (e2:s.heap.get? b = some { cls:=.type "list",data:=.seq new n2 }) (hne:l ≠ b)
    (hs:s.heap.IsSliceOf sl vl vu .none) (pl:IsPart vl (some (a:Int))) (pu:IsPart vu (some (c:Int))) (hac:a ≤ c) (hc:c ≤ items.size)
    (hsz:items.size + new.size ≤ sizeLine) (h:Q () { s with heap:=s.heap.update l (Obj.mapSeq fun xs=>xs.extract 0 a ++ new ++ xs.extract c xs.size) }) :
    wpAny (model prog w) A (setItem (.ref l) (.ref sl) (.ref b)) Q E s:=by
  have hl:s.heap.IsList l items:=PySem.IsL.isList e
  have hb:s.heap.IsList b new:=PySem.IsL.isList e2
  obtain ⟨os,hos,hcs,hds⟩:=id hs
  have hTs:s.TypeIs (.ref sl) "slice" := ⟨os,hos,hcs⟩
  have hstep:¬ ((rawPart none == rawInt 0) = true):=Bool.false_ne_true
  have hsame:Builtin.List.listSameRef (.ref l) (.ref b) = false:=by
    unfold Builtin.List.listSameRef
    exact beq_eq_false_iff_ne.mpr hne
  have hmax:(max (a:Int) (c:Int)).toNat = c:=by omega
  have hz':((fun xs:Array Value=>xs.extract 0 a ++ new ++ xs.extract c xs.size) items).size ≤ sizeLine + 1:=by
    simp only [Array.size_append,Array.size_extract]
    omega
  unfold setItem
  try with_reducible refine wpAny_holding ?_
  first | refine wpAny_bind (wpAny_pure ?_) | skip
  refine wpAny_bind (wpAny_sequenceKey hl.typeIs (by decide) ?_)
  refine wpAny_bind (wpAny_callSpecial?_slot (name:=Str.ofString "__setitem__") hl.typeIs slot_list_setitem
    (wpAny_call_entry slot_list_setitem hl.typeIs entry_list_setitem ?_ (args_list_setitem _ _ _)))
  show wpAny _ _ (Builtin.List.listSubscript? (.ref sl) >>= _) _ _ s
  refine wpAny_bind ?_
  unfold Builtin.List.listSubscript?
  refine wpAny_bind (wpAny_specialOf hTs slice_no_index ?_)
  simp only [Option.isNone_none,if_true]
  refine wpAny_pure ?_
  show wpAny _ _ (typeOf (.ref sl) >>= _) _ _ s
  refine wpAny_bind (wpAny_typeOf hTs ?_)
  first
    | rw [if_neg (by decide)]
    | refine PySem.W.KFB.if_not (by decide) ?_
  rw [listSliceParts_eq]
  refine wpAny_bind (wpAny_bind (wpAny_field hos hds (x:=.none) rfl (wpAny_bind (wpAny_listPart .none ?_))))
  rw [if_neg hstep]
  refine wpAny_bind (wpAny_field hos hds (x:=vl) rfl (wpAny_bind (wpAny_listPart pl ?_)))
  refine wpAny_bind (wpAny_field hos hds (x:=vu) rfl (wpAny_bind (wpAny_listPart pu (wpAny_pure ?_))))
  first
    | simp only [hsame,Bool.false_eq_true,if_false]
    | refine PySem.W.KFB.if_not hsame ?_
    | (dsimp only
       rw [if_neg (by rw [hsame]; exact Bool.false_ne_true)])
  refine wpAny_bind (m:=Builtin.List.listAllItems (.ref b) "must assign iterable to extended slice") ?_
  unfold Builtin.List.listAllItems
  refine wpAny_bind (wpAny_typeOf hb.typeIs ?_)
  first
    | refine PySem.W.KFB.if_so (by decide) ?_
    | rw [if_pos (by decide)]
    | simp only [beq_self_eq_true,Bool.true_or,if_true]
  unfold Builtin.List.listItems
  refine wpAny_bind (wpAny_seqItems e2 rfl (wpAny_pure ?_))
  refine wpAny_bind (wpAny_bind (wpAny_seqItems e rfl (wpAny_pure ?_)))
  refine wpAny_bind (wpAny_of_eq ((sliceIndices_raw (some (a:Int)) (some (c:Int)) none items.size (by simp)).trans (congrArg (pure:Int × Int × Int→Sem (Int × Int × Int)) (bounds_run hac hc))) ?_)
  show wpAny _ _ (if ((1:Int) == 1) = true then _ else _) _ _ s
  rw [if_pos (by decide)]
  refine wpAny_bind (wpAny_rule ?_)
  first
    | simp only [notLongL hsz,Bool.false_eq_true,if_false]
    | refine PySem.W.KFB.if_not (notLongL hsz) ?_
  first | refine wpAny_bind (wpAny_pure ?_) | skip
  show wpAny _ _ (updateSeq l (fun xs=>xs.extract 0 ((a:Int)).toNat ++ new ++ xs.extract (max (a:Int) (c:Int)).toNat xs.size) >>= _) _ _ s
  rw [hmax,Int.toNat_natCast]
  refine wpAny_bind (wpAny_updateSeq (hz:=Nat.le_trans (Nat.le_add_right _ _) hsz) (_hz':=hz') e rfl ?_)
  refine wpAny_bind (wpAny_letGo ?_)
  first
    | exact wpAny_bind (wpAny_pure (wpAny_pure ⟨.none,rfl,wpAny_pure h⟩))
    | exact wpAny_pure ⟨.none,rfl,wpAny_pure h⟩
end
section
variable {X:Cx}
theorem set_slice {pins:List (Addr×Obj)}{s:Shared}{σ:St}{H:Hp}{l b sl:Addr}{xs ys:List V}{a c:Int}{vl vu:Value}{Q:Unit→Shared→Prop}(I:Inv X pins σ H s)
  (hH:H l=some (.lst xs)) (hB:H b=some (.lst ys)) (hne:l≠b) (hs:s.heap.IsSliceOf sl vl vu .none) (ra:RelV (.int a) vl) (rc:RelV (.int c) vu) (h0:0≤a) (hac:a≤c) (hc:c≤xs.length)
  (hz:xs.length+ys.length≤sizeLine) (h:∀s',Inv X pins σ (upd H l (.lst (xs.take a.toNat++ys++xs.drop c.toNat))) s'→Q () s') :
  wpAny (model X.prog X.w) X.A (setItem (.ref l) (.ref sl) (.ref b)) Q X.xe s:=by
 obtain⟨ta,rfl⟩:=ra
 obtain⟨tc,rfl⟩:=rc
 obtain⟨z,its,n,r,hl,e⟩:=I.lstM hH
 obtain⟨z2,its2,n2,r2,hl2,e2⟩:=I.lstM hB
 obtain⟨a',rfl⟩:=Int.eq_ofNat_of_zero_le h0
 obtain⟨c',rfl⟩:=Int.eq_ofNat_of_zero_le (Int.le_trans h0 hac)
 simp only[Int.toNat_natCast]at h
 refine setItem_slice (a:=a') (c:=c') e e2 hne hs (.int _ _) (.int _ _) (by omega) (by rw[List.size_toArray];omega) (by rw[List.size_toArray,List.size_toArray];omega) (h _ ?_)
 refine I.lset (its':=its.take a'++its2++its.drop c') (t':=s.toks) hH e ?_ (Vals.append (Vals.append (r.take _) r2) (r.drop _)) ?_
 ·exact splice_eq its its2 a' c'
 ·rw[List.length_append,List.length_append,List.length_take,List.length_drop]
  omega
end
end L2
namespace Att
open PySem PySem.W PySem.Calls PyProof.Rows
theorem ints_of_wellAll {P:Params}{h:Heap}:∀(ns:List Int) (vs:List Value),WellAll P h vs (ns.map WData.int)→IntsAre vs ns:=by
 intro ns
 induction ns with
 | nil =>
  intro vs w
  rw[List.map_nil]at w
  cases w
  exact .nil
 | cons n ns ih =>
  intro vs w
  rw[List.map_cons]at w
  cases w with
  | cons a b =>
   cases a
   exact .cons _ _ (ih _ b)
theorem script_of {l:OpenLaw}{n:Nat}(hn:l.most=some n) {P:Params}{h:Heap}{args:List WData}{vals:List Value}
  (hpre:l.row.toRowW.claim.pre args=true) (hwl:WellAll P h vals args) :
  ∃a vs ns,vals=[Value.ref a]∧args=[WData.list (ns.map WData.int)]∧h.get? a=some { cls:=.type "list",data:=.seq vs.toArray }∧IntsAre vs ns∧ns.length≤n:=by
 have hsh:WShape.hasAll [] args [.list .int]=true:=(pre_splitW hpre).1
 have hc:l.pre.holds [] { args:=args } = true:=(pre_splitW hpre).2
 obtain⟨d,r,rfl,h1,h2⟩:=hasAllW_cons hsh
 obtain rfl:=hasAllW_nil h2
 obtain⟨xs,rfl,h3⟩:=hasW_list h1
 obtain⟨ns,rfl⟩:=items_int h3
 have hlen:ns.length≤n:=by
  unfold OpenLaw.pre at hc
  have h4:(WTm.not (.lt (.lit (.int (n:Int))) (.len (.arg 0)))).holds [] { args:=[.list (ns.map .int)] } = true:=by
   have h4:=(holds_andW hc).1
   rw[hn]at h4
   exact h4
  have h5:=condW_of h4 (w_not (w_lt w_lit (w_len_list (w_arg rfl))))
  rw[List.length_map]at h5
  refine Nat.le_of_not_lt fun q=>?_
  have q':(n:Int) <((ns.length:Nat):Int):=by omega
  first
   | (rw[decide_eq_true q']at h5;exact absurd h5 (by decide))
   | (simp at h5;omega)
 cases hwl with
 | cons w1 w2 =>
  cases w2
  cases w1 with
  | list ho hall=>exact⟨_,_,ns,rfl,rfl,ho,ints_of_wellAll ns _ hall,hlen⟩
theorem post_true (l:OpenLaw) (args:List WData):l.row.toRowW.claim.post args (.bool true) args=true :=
 postW_of (r:=l.row.toRowW) (X:=(true == true))
  (show WShape.has [] (.bool true) .bool=true by first|rfl|decide|simp[WShape.has,WShape.arms,WShape.armsAll])
  (show(WTm.eq .res (.lit (.bool true))).value [] { args:=args,res:=some (.bool true),after:=args } = some (.bool (true == true)) from w_eq_bool (w_res rfl) w_lit) rfl
theorem attach_call {l:OpenLaw}{n:Nat}{q:Program}{loose:List Str}{XP:(Str→Option Value)→Heap→Prop}{YP:World→Heap→Prop}{d:DefRec}
  (hn:l.most=some n) (hdf:d.params.defaults=[])
  (call:∀(w:World) (s₀ s₁:Shared) (mg mb:Str→Option Value) (fa:Addr) (o:Obj) (pm cd doc:Value) (a:Addr) (vs:List Value) (ns:List Int),
   Ground q loose [] XP w s₀ mg mb s₁.heap→YP w s₁.heap →
   s₁.heap.get? fa=some o→o.data = .func (docDef d.name d.params d.body d.scope pm cd doc)→s₁.heap.CodeRec cd d.name→mg d.name=some (.ref fa) →
   s₁.heap.get? a=some { cls:=.type "list",data:=.seq vs.toArray }→IntsAre vs ns→ns.length≤n→s₁.gens = #[] →
   codeAny (model l.prog w) callerA (.call (.ref fa) ⟨[.ref a],[]⟩) (fun r s'=>r = .ok (.ret (.bool true))∧OldK s₁.heap s'.heap∧s'.os=s₁.os∧AllBare s'.gens) s₁) :
  WalkO q loose XP YP l.row.toRowW d [] (fun f vs=>PySem.call f vs):=by
 intro w s₀ s₁ mg mb G Y fa o pm cd doc dV kV ho hd hcd hD hmg hg args vals as hpre hlay hrd hwl hlo
 obtain rfl:dV = .none:=Dflts.none hD hdf
 obtain rfl:kV = .none:=Dflts.noKw hD
 obtain⟨a,vs,ns,rfl,rfl,hobj,hints,hlen⟩:=script_of hn hpre hwl
 refine enter_call (codeAny_mono (call w s₀ s₁ mg mb fa o pm cd doc a vs ns G Y ho (fd_plain hd) hcd hmg hobj hints hlen hg) fun r s' hq=>?_)
 obtain⟨rfl,h2,h3,h4⟩:=hq
 exact⟨.inl ⟨.bool true,.bool true,[],rfl,fun _=>rfl,.bool true,post_true l _,fun _=>⟨List.Pairwise.nil,fun _ hm=>(nomatch hm)⟩⟩,h2,h3,h4⟩
section
variable {prog:Program}{w:World}{A:Around}{E:Value→Shared→Prop}{s:Shared}{K:Frag}
end
end Att
namespace L2
open PySem PySem.Spec PyProof.Rows
theorem vals_ints:∀{vs:List Value}{ns:List Int},IntsAre vs ns→Vals (ns.map V.int) vs
 | _,_,.nil=>.nil
 | _,_,.cons n t h=>.cons ⟨t,rfl⟩ (vals_ints h)
end L2
namespace L2
open PySem PySem.Spec PyProof.Rows
end L2
namespace L2
open PySem PySem.Spec PyProof.Rows
def defArgs (s:Stmt):Arguments:=match s with
 | .FunctionDef _ a _ _ _ _ _ _ _ _=>a
 | _=>{ posonlyargs:=[],args:=[],vararg:=none,kwonlyargs:=[],kw_defaults:=[],kwarg:=none,defaults:=[] }
def defBody (s:Stmt):List Stmt:=match s with
 | .FunctionDef _ _ b _ _ _ _ _ _ _=>b
 | _=>[]
def defScope (s:Stmt):Scope:=match s with
 | .FunctionDef _ _ _ _ _ _ sc _ _ _=>sc
 | _=>{ kind:=.function,names:=[],isGenerator:=false,isCoroutine:=false }
abbrev CX0:CXT:=fun _ _ _ _ _ _=>False
abbrev E0:XK:=fun _ _ _=>False
theorem pass0 {X:Cx}:Passes CX0 X E0:=fun _ _ _ _ _ _ _ h=>h.elim
structure Fun (K:PySem.W.Frag) (x qual:Str) (st:Stmt) (f:Addr) (fd:FuncData):Prop where
 ex:∃(oc:Value) (od:Option Addr) (kV doc pm:Value) (an:Option Addr) (cdv ct:Value) (osl:Array (Option Value)),
  fd=PySem.W.fnOf x qual (defArgs st) (defBody st) (defScope st) .none kV doc pm an cdv ct∧K.lookup f=some ⟨oc,od,.func fd,osl⟩∧PySem.W.codeIn K cdv qual=true
 kp:PySem.W.keepIn K (.ref f)=true
section
variable {P:Program}{w:World}{K:PySem.W.Frag}{mg:Str→Option Value}{base:Heap}
theorem Fun.ok {x qual:Str}{st:Stmt}{f:Addr}{fd:FuncData}{N ps:List Str}{k:Nat}{sp:Sp}(F:Fun K x qual st f fd) (S:FnScope N ps (defScope st)) (len:∀vs H Q E,sp vs H Q E→vs.length=ps.length)
  (hbody:∀(cdv:Value) (A:Around) (outer:List Env) (s:Shared) (H:Hp) (vs:List V) (Q:VK) (E:XK),Room k (A.deeper (envOfC qual (defScope st) s.heap.objs.size f cdv))→sp vs H Q E →
   ∃t,PSs (cxOf CX0 P w K mg base N qual (defScope st) f cdv A outer s H E).nox (defBody st) t∧t { nx:=fun _ H'=>Q .non H',rt:=Q } (start N vs) H):FnOk P w K mg base CX0 (k+1) f fd ps sp:=by
 obtain⟨oc,od,kV,doc,pm,an,cdv,ct,osl,rfl,lk,hcd⟩:=F.ex
 refine fn_of lk hcd S len fun A outer s H vs Q E hr hsp=>?_
 obtain⟨t,h,q⟩:=hbody cdv A outer s H vs Q E hr hsp
 exact⟨t,h.nox,q⟩
theorem Fun.binds {x qual:Str}{st:Stmt}{f:Addr}{fd:FuncData}{ps:List Str}(F:Fun K x qual st f fd)
  (h:∀(kV doc pm:Value) (an:Option Addr) (cdv ct:Value) (us:List Value),us.length=ps.length→bindArgs (PySem.W.fnOf x qual (defArgs st) (defBody st) (defScope st) .none kV doc pm an cdv ct) ⟨us,[]⟩=pure (ps.zip us)):Binds K fd ps []:=by
 obtain⟨oc,od,kV,doc,pm,an,cdv,ct,osl,rfl,lk,hcd⟩:=F.ex
 exact .all (h kV doc pm an cdv ct)
theorem fun_mk {x qual:Str}{st:Stmt}{f:Addr}{oc:Value}{od an:Option Addr}{osl:Array (Option Value)}{kV doc pm cdv ct:Value}(l:K.lookup f=some ⟨oc,od,.func (PySem.W.fnOf x qual (defArgs st) (defBody st) (defScope st) .none kV doc pm an cdv ct),osl⟩)
  (c:PySem.W.codeIn K cdv qual=true) (k:PySem.W.keepIn K (.ref f)=true):Fun K x qual st f (PySem.W.fnOf x qual (defArgs st) (defBody st) (defScope st) .none kV doc pm an cdv ct):=⟨⟨oc,od,kV,doc,pm,an,cdv,ct,osl,rfl,l,c⟩,k⟩
end
theorem hu_of {A:Around}{k:Nat}(hr:Room k A):A.units+1<cLine:=Nat.lt_of_le_of_lt (Nat.add_le_add_left (by decide:1≤64) _) hr.units
theorem small1000 {n:Nat}(h:n≤1000):n<sizeLine:=Nat.lt_of_le_of_lt h (by decide)
section
variable {X:Cx}
theorem pv (i:Nat) {x:Str}{pos:Pos}(hN:X.N[i]? = some x:=by rfl) (hv:Vis X.env.scope x:=by first|exact Or.inl rfl|exact Or.inr (Or.inl rfl)|exact Or.inr (Or.inr rfl)) (hd:(x ==("__debug__" : Str))=false:=by decide)
  (hcd:(x ==("__classdict__" : Str))=false:=by decide):PE X (.Name x pos) (tVar i):=pe_var hN hv hd hcd
end
theorem iteF {A B:Prop}(h:B):if false=true then A else B:=by
 rw[if_neg Bool.false_ne_true]
 exact h
theorem iteT {A B:Prop}(h:A):if true=true then A else B:=by
 rw[if_pos rfl]
 exact h
def Same (H H':Hp):Prop:=∀b o,H b=some o→H' b=some o
theorem Same.trans {H H1 H2:Hp}(a:Same H H1) (b:Same H1 H2):Same H H2:=fun c o h=>b c o (a c o h)
theorem Same.free {H H':Hp}(e:Same H H') {l:Addr}(h:H' l=Option.none):H l=Option.none:=by
 cases q:H l with
 | none=>rfl
 | some o =>
  rw[e l o q]at h
  cases h
theorem Same.seq {K:PySem.W.Frag}{H H':Hp}{a:Addr}{xs:List V}(e:Same H H') (h:SqL K H a xs):SqL K H' a xs:=by
 rcases h with(h|⟨o,h⟩)|h
 ·exact .inl (.inl (e _ _ h))
 ·exact .inl (.inr ⟨o,e _ _ h⟩)
 ·exact .inr h
end L2
namespace L2
open PySem PySem.Spec PyProof.Rows
def clOf (env:Env):List (Str×NameKind)→List (Str×Addr)→List (Str×Addr)
 | [],cs=>cs
 | (n,k)::r,cs=>clOf env r (if k == .free then(n,(env.cells.lookup n).getD 0)::cs else cs)
def clStep (env:Env) (x:Str×NameKind) (s:List (Str×Addr)):Sem (ForInStep (List (Str×Addr))):=if (x.2 == NameKind.free)=true then cellOf env x.1 >>= fun c=>pure (ForInStep.yield ((x.1,c)::s)) else pure (ForInStep.yield s)
theorem clStep_run {env:Env}:∀{ns:List (Str×NameKind)}(cs:List (Str×Addr)),(∀y∈ns,y.2 = .free→∃c,env.cells.lookup y.1=some c)→(forIn ns cs (clStep env):Sem (List (Str×Addr)))=pure (clOf env ns cs)
 | [],cs,_=>rfl
 | (n,k)::r,cs,h=>by
  rw[List.forIn_cons]
  have hr:∀y∈r,y.2 = .free→∃c,env.cells.lookup y.1=some c:=fun z hz=>h z (List.mem_cons_of_mem _ hz)
  cases hk:(k == NameKind.free) with
  | false =>
   have e1:clStep env (n,k) cs=pure (ForInStep.yield cs):=by
    unfold clStep
    exact if_neg (by rw[show(n,k).2=k from rfl,hk];decide)
   rw[e1,pure_bind]
   show forIn r cs (clStep env)=_
   rw[clStep_run cs hr]
   show pure (clOf env r cs)=pure (clOf env r (if (k == NameKind.free)=true then(n,(List.lookup n env.cells).getD 0)::cs else cs))
   rw[hk]
   rfl
  | true =>
   have hk':k = .free:=by simpa using hk
   obtain⟨c,hc⟩:=h (n,k) List.mem_cons_self hk'
   have hc':env.cells.lookup n=some c:=hc
   have q:cellOf env n=pure c:=by unfold cellOf;rw[hc']
   have e1:clStep env (n,k) cs=pure (ForInStep.yield ((n,c)::cs)):=by
    unfold clStep
    rw[if_pos (by rw[show(n,k).2=k from rfl,hk]),show(n,k).1=n from rfl,q,pure_bind]
   rw[e1,pure_bind]
   show forIn r ((n,c)::cs) (clStep env)=_
   rw[clStep_run _ hr]
   show pure (clOf env r ((n,c)::cs))=pure (clOf env r (if (k == NameKind.free)=true then(n,(List.lookup n env.cells).getD 0)::cs else cs))
   rw[hk,hc']
   rfl
theorem closure_eq {scope:Scope}{env:Env}(h:∀y∈scope.names,y.2 = .free→∃c,env.cells.lookup y.1=some c):closureFor scope env=pure (clOf env scope.names []):=by
 show(forIn scope.names ([]:List (Str×Addr)) (clStep env) >>= fun s=>(pure s:Sem (List (Str×Addr))))=_
 rw[clStep_run [] h,pure_bind]
theorem clOf_sound {env:Env}{n:Str}{c:Addr}:∀{ns:List (Str×NameKind)}{cs:List (Str×Addr)},(∀y∈ns,y.2 = .free→∃c,env.cells.lookup y.1=some c)→(∀p∈cs,env.cells.lookup p.1=some p.2)→(clOf env ns cs).lookup n=some c→env.cells.lookup n=some c
 | [],cs,_,hc,h=>hc _ (PySem.mem_of_lookup h)
 | (m,k)::r,cs,hn,hc,h=>by
  unfold clOf at h
  refine clOf_sound (fun y hy=>hn y (List.mem_cons_of_mem _ hy)) ?_ h
  intro p hp
  split at hp
  ·rename_i hk
   have hk':k = .free:=by simpa using hk
   obtain⟨c',hc'⟩:=hn (m,k) List.mem_cons_self hk'
   have hc2:env.cells.lookup m=some c':=hc'
   rw[hc2]at hp
   rcases List.mem_cons.mp hp with rfl|hp
   ·exact hc2
   ·exact hc p hp
  ·exact hc p hp
theorem lookup_mono_isSome {n:Str}:∀{cs:List (Str×Addr)},(∃c,(n,c)∈cs)→∃c,cs.lookup n=some c
 | [],⟨_,h⟩=>absurd h (by simp)
 | (m,d)::r,⟨c,h⟩=>by
  rw[List.lookup_cons]
  by_cases e:n=m
  ·subst e;exact⟨d,by simp⟩
  ·have:(n == m)=false:=beq_eq_false_iff_ne.mpr e
   rw[this]
   rcases List.mem_cons.mp h with z|z
   ·cases z;exact absurd rfl e
   ·exact lookup_mono_isSome ⟨c,z⟩
theorem clOf_keeps {env:Env}{p:Str×Addr}:∀{ns:List (Str×NameKind)}{cs:List (Str×Addr)},p∈cs→p∈clOf env ns cs
 | [],_,h=>h
 | (m,k)::r,cs,h=>by
  unfold clOf
  refine clOf_keeps ?_
  split
  ·exact List.mem_cons_of_mem _ h
  ·exact h
theorem clOf_has {env:Env}{n:Str}:∀{ns:List (Str×NameKind)}{cs:List (Str×Addr)},(n,NameKind.free)∈ns→∃c,(n,c)∈clOf env ns cs
 | [],_,h=>absurd h (by simp)
 | (m,k)::r,cs,h=>by
  unfold clOf
  rcases List.mem_cons.mp h with z|z
  ·cases z
   exact⟨(env.cells.lookup n).getD 0,clOf_keeps (by simp)⟩
  ·exact clOf_has z
def cxBlk (X:Cx) (scope:Scope) (N:List Str) (C:Addr) (s:Shared) (H:Hp) (ex:List Addr):Cx :=
 { X with N:=N,s₀:=s,H₀:=H,env:=compEnvC scope (clOf X.env scope.names []) C X.env,outer:=X.stack,ex:=ex,fn:=fun _=>false,pn:=[],xe:=fun _ _=>False }
structure BlkOk (X:Cx) (scope:Scope) (vs fs:List Str) (js:List Nat):Prop where
 kind:scope.kind = .function
 cell:∀y∈scope.names,y.2 ≠ .cell
 names:∀y∈scope.names,y.2 = .local→scope.names.lookup y.1=some .local
 free:∀y∈scope.names,y.2 = .free→X.env.kindOf y.1=some .cell∨X.env.kindOf y.1=some .free
 own:∀y∈vs,scope.names.lookup y=some .local
 cap:∀y∈fs,scope.names.lookup y=some .free
 ix:js.map (fun j=>X.N[j]?)=fs.map some
def blkSt (vs:List Str) (js:List Nat) (σ:St):St:=vs.map (fun _=>none)++js.map (fun j=>(σ[j]?).join)
theorem lookup_relabel_free {env:Env}{names:List (Str×NameKind)}{x:Str}(h:names.lookup x=some .free) :
  (names.map fun(n,k)=>if (k == NameKind.free && env.scope.kind == .function && env.kindOf n == some .cell) then(n,NameKind.cell) else(n,k)).lookup x=some .cell ∨
  (names.map fun(n,k)=>if (k == NameKind.free && env.scope.kind == .function && env.kindOf n == some .cell) then(n,NameKind.cell) else(n,k)).lookup x=some .free:=by
 induction names with
 | nil=>cases h
 | cons y r ih =>
  obtain⟨n,k⟩:=y
  rw[List.map_cons]
  show List.lookup x ((if (k == NameKind.free && env.scope.kind == .function && env.kindOf n == some .cell)=true then(n,NameKind.cell) else(n,k))::_)=_∨List.lookup x ((if (k == NameKind.free && env.scope.kind == .function && env.kindOf n == some .cell)=true then(n,NameKind.cell) else(n,k))::_)=_
  rw[List.lookup_cons]at h
  cases e:x == n with
  | true =>
   rw[e]at h
   have h':k = .free:=by simpa using h
   subst h'
   split
   ·left;rw[List.lookup_cons,e]
   ·right;rw[List.lookup_cons,e]
  | false =>
   rw[e]at h
   have h':=ih h
   split
   ·rw[List.lookup_cons,e];exact h'
   ·rw[List.lookup_cons,e];exact h'
theorem relabel_back {env:Env}{names:List (Str×NameKind)}{x:Str}{kk:NameKind}
  (h:(names.map fun(n,k)=>if (k == NameKind.free && env.scope.kind == .function && env.kindOf n == some .cell) then(n,NameKind.cell) else(n,k)).lookup x=some kk) :
  (kk = .cell∧(x,NameKind.free)∈names) ∨(x,kk)∈names:=by
 induction names with
 | nil=>cases h
 | cons y r ih =>
  obtain⟨n,k⟩:=y
  rw[List.map_cons]at h
  have h2:List.lookup x ((if (k == NameKind.free && env.scope.kind == .function && env.kindOf n == some .cell)=true then(n,NameKind.cell) else(n,k))::(r.map fun(n,k)=>if (k == NameKind.free && env.scope.kind == .function && env.kindOf n == some .cell) then(n,NameKind.cell) else(n,k)))=some kk:=h
  cases e:x == n with
  | true =>
   have e':x=n:=by simpa using e
   subst e'
   split at h2
   ·rename_i hc
    rw[List.lookup_cons,e]at h2
    have h3:kk = .cell:=by simpa using h2.symm
    have hk:k = .free:=by
     have:=(Bool.and_eq_true _ _ ▸ hc).1
     have:=(Bool.and_eq_true _ _ ▸ this).1
     simpa using this
    subst hk
    exact .inl ⟨h3,List.mem_cons_self⟩
   ·rw[List.lookup_cons,e]at h2
    have h3:kk=k:=by simpa using h2.symm
    subst h3
    exact .inr List.mem_cons_self
  | false =>
   have h3:(r.map fun(n,k)=>if (k == NameKind.free && env.scope.kind == .function && env.kindOf n == some .cell) then(n,NameKind.cell) else(n,k)).lookup x=some kk:=by
    split at h2
    ·rw[List.lookup_cons,e]at h2;exact h2
    ·rw[List.lookup_cons,e]at h2;exact h2
   rcases ih h3 with⟨a,b⟩|b
   ·exact .inl ⟨a,List.mem_cons_of_mem _ b⟩
   ·exact .inr (List.mem_cons_of_mem _ b)
section
variable {prog:Program}{w:World}{A:Around}{R:Result→Shared→Prop}{s:Shared}
theorem codeAny_compLoop_gen {elt target iter:Expr}{ifs:List Expr}{scope:Scope}{pos:Pos}{it acc:Value}{env:Env}(I:Nat→Shared→Prop)
  (turn:∀n s,I n s→wpAny (model prog w) A (pyNext it) (fun r s₁=>match r with
   | none=>R (.ok .next) s₁
   | some v=>wpAny (model prog w) A (letOwnedTupleGo target it v) (fun _ s₁'=>wpAny (model prog w) A (assign target env v) (fun _ s₂ =>
     wpAny (model prog w) A (forIn ifs true fun c r=>if r=true then do let ok ← isTrue c env (eval c env);pure (ForInStep.yield ok) else pure (ForInStep.yield r)) (fun ok s₃ =>
      if ok=true then wpAny (model prog w) A (eval elt env) (fun x s₄ =>
       wpAny (model prog w) A (call (.builtin "list.append") [acc,x]) (fun _ s₅=>∃m,m<n∧I m s₅) (fun _ _=>False) s₄) (fun _ _=>False) s₃
      else ∃m,m<n∧I m s₃) (fun _ _=>False) s₂) (fun _ _=>False) s₁') (fun _ _=>False) s₁) (fun _ _=>False) s)
  (n:Nat) (h:I n s) :
  codeAny (model prog w) A (.compLoop (.ListComp elt [⟨target,iter,ifs,0⟩] scope pos) 0 it acc env) R s:=by
 refine codeAny_loop rfl I (fun n s hI=>?_) n h
 show wpAny _ A ((compTurn (.ListComp elt [⟨target,iter,ifs,0⟩] scope pos) 0 it acc env).onRaise (fun x=>do noteFrame x env;theTreesLotGoes x)) _ _ s
 refine wpAny_noted ?_
 rw[compTurn_list]
 refine wpAny_bind (wpAny_standAt (wpAny_bind (wpAny_mono (turn n s hI) (fun r s₁ h₁=>?_) fun _ _ h'=>h'.elim)))
 cases r with
 | none=>exact wpAny_pure h₁
 | some v =>
  refine wpAny_bind (wpAny_mono h₁ (fun _ s₁' h₁'=>?_) fun _ _ h'=>h'.elim)
  refine wpAny_bind (wpAny_mono h₁' (fun _ s₂ h₂=>wpAny_bind (wpAny_mono h₂ (fun ok s₃ h₃=>?_) fun _ _ h'=>h'.elim)) fun _ _ h'=>h'.elim)
  cases ok with
  | false=>exact wpAny_pure ⟨rfl,h₃⟩
  | true =>
   exact wpAny_bind (wpAny_bind (wpAny_mono h₃ (fun x s₄ h₄=>wpAny_bind (wpAny_mono h₄ (fun _ s₅ h₅=>wpAny_pure (wpAny_pure ⟨rfl,h₅⟩)) fun _ _ h'=>h'.elim)) fun _ _ h'=>h'.elim))
end
def PIfs (X:Cx) (ifs:List Expr) (t:TT):Prop :=
 ∀(pins:List (Addr×Obj)) (s:Shared) (σ:St) (H:Hp) (Q:Bool→Hp→Prop),Inv X pins σ H s→t σ H Q →
  wpAny (model X.prog X.w) X.A (forIn ifs true fun c r=>if r=true then do let ok ← isTrue c X.env (eval c X.env);pure (ForInStep.yield ok) else pure (ForInStep.yield r)) (TP X pins σ Q) X.xe s
def tYes:TT:=fun _ H Q=>Q true H
theorem pif0 {X:Cx}:PIfs X [] tYes:=fun _ _ _ H _ I h=>wpAny_tests_nil ⟨H,I,h⟩
theorem pif1 {X:Cx}{c:Expr}{t:TT}(h:PT X c t):PIfs X [c] t:=fun pins s σ H Q I q=>wpAny_tests_one (h pins s σ H Q I q)
def CompW (J:It) (vs:List Str) (js:List Nat) (σ:St) (g:TG) (tt:TT) (te:TE) (Q:VK) (D:Addr) (H1:Hp):Prop :=
 ∃W:Nat→Nat→St→List V→Hp→Prop,(∃m,W 0 m (blkSt vs js σ) [] (upd H1 D (.lst [])))∧∀i m σ' ys H',W i m σ' ys H' →
  (J.stop i H'∧Q (.ref D) H') ∨(J.go i H'∧∃N:St→List V→Hp→Prop,(∀σ2 zs H2,N σ2 zs H2→∃m',m'<m∧W (i+1) m' σ2 zs H2) ∧
   ∀x H2,J.yld i H' x H2→g x σ' H2 fun σ3 H3=>tt σ3 H3 fun b H4=>if b=true then te σ3 H4 fun y H5=>H5 D=some (.lst ys)∧ys.length<sizeLine∧N σ3 (ys ++ [y]) (upd H5 D (.lst (ys ++ [y]))) else N σ3 ys H4)
def tComp (vs:List Str) (js:List Nat) (wi:TI) (g:TG) (tt:TT) (te:TE):TE:=fun σ H Q=>wi σ H fun J H1=>∀D,H1 D=none→CompW J vs js σ g tt te Q D H1
section
variable {X:Cx}{pins:List (Addr×Obj)}{σ:St}{H:Hp}{s:Shared}{scope:Scope}{vs fs:List Str}{js:List Nat}
theorem blk_start {fp:List Addr}{C D:Addr}{h₁:Heap}{tk:Nat}{m:Str→Option Value}(I:Inv X pins σ H s) (B:BlkOk X scope vs fs js) (hf:∀b∈fp,FpOk X pins H b) (hfp:∀b∈fp,b<s.heap.objs.size)
  (hn:h₁.Ns C m) (hk:∀b o,s.heap.get? b=some o→h₁.get? b=some o) (hD:D=s.heap.objs.size) (hC:s.heap.objs.size<C)
  (hl:h₁.get? D=some { cls:=.type "list",data:=.seq ([]:List Value).toArray }) :
  Inv (cxBlk X scope (vs++fs) C s H fp) [] (blkSt vs js σ) (upd H D (.lst [])) { s with heap:=h₁,toks:=tk }:=by
 have hasX:∀y∈scope.names,y.2 = .free→∃c,X.env.cells.lookup y.1=some c:=fun y hy hf=>I.ok.has y.1 (B.free y hy hf)
 have snd:∀{y:Str}{c:Addr},(clOf X.env scope.names []).lookup y=some c→X.env.cells.lookup y=some c:=fun h=>clOf_sound hasX (fun p hp=>absurd hp (by simp)) h
 have clt:∀{y:Str}{c:Addr},X.env.cells.lookup y=some c→c<s.heap.objs.size:=fun {y c} h=>by
  obtain⟨v,o,ho,_⟩:=I.cell y c h
  exact Heap.lt_size ho
 have hfr:H D=none:=by rw[hD];exact I.hok.fresh (Nat.le_refl _)
 have hfC:H C=none:=I.hok.fresh (Nat.le_of_lt hC)
 have nCD:C≠D:=by rw[hD];exact Nat.ne_of_gt hC
 refine⟨⟨I.ok.mod,B.kind,I.ok.glob,I.ok.blt,Nat.le_of_lt hC,fun y z c h1 h2=>I.ok.inj y z c (snd h1) (snd h2),fun y hy=>?_,fun y c z _=>absurd (show false=true from z) Bool.false_ne_true,I.ok.hd,I.ok.frames,.inl rfl,fun b hb=>⟨?_,fun y c h=>(hf b hb).2.2.2.2.1 y c (snd h)⟩,I.bs,Nat.le_trans I.ok.bsz I.sz,fun b o e hb=>?_,fun b hb z=>?_,I.stack,I.stkFree⟩,
  rfl,I.bare,Un.laid hk (Nat.le_of_eq hD.symm) hfr,⟨m,hn,fun i y v h1 h2 h3=>?_⟩,fun y c h=>?_,?_,fun y c h=>?_,fun p hp=>absurd (show p∈([]:List (Addr×Obj)) from hp) (by simp),I.hok.laid hk (Nat.le_of_eq hD.symm) ⟨by simp,[],0,.nil,hl⟩,?_⟩
 ·-- has
  have key:(y,NameKind.free)∈scope.names:=by
   rcases hy with hy|hy
   ·rcases relabel_back hy with⟨_,z⟩|z
    ·exact z
    ·exact absurd rfl (B.cell _ z)
   ·rcases relabel_back hy with⟨z,_⟩|z
    ·cases z
    ·exact z
  exact lookup_mono_isSome (clOf_has key)
 ·exact Nat.ne_of_lt (Nat.lt_trans (hfp b hb) hC)
 ·rcases(hf b hb).2.2.2.1 with z|z
  ·exact I.ok.noex b o e z
  ·exact absurd (Nat.lt_of_lt_of_le (Heap.lt_size e) (Nat.le_trans I.ok.bsz z)) (Nat.lt_irrefl _)
 ·rcases List.mem_cons.mp (I.stkSub b z) with e|e
  ·exact(hf b hb).2.1 e
  ·exact(hf b hb).2.2.1 e
 ·-- loc
  have hlen:js.length=fs.length:=by have:=congrArg List.length B.ix;simpa using this
  have hi:¬ i<vs.length:=fun hi=>by
   unfold blkSt at h2
   rw[List.getElem?_append_left (by simpa using hi),List.getElem?_map]at h2
   cases e:vs[i]? with
   | none=>rw[e]at h2;cases h2
   | some a=>rw[e]at h2;cases h2
  have hi':vs.length≤i:=Nat.le_of_not_lt hi
  have h1':fs[i-vs.length]? = some y:=by
   have:=h1
   rw[show(cxBlk X scope (vs++fs) C s H fp).N=vs++fs from rfl,List.getElem?_append_right hi']at this
   exact this
  have h2':(js[i-vs.length]?).map (fun j=>(σ[j]?).join)=some (some v):=by
   unfold blkSt at h2
   rw[List.getElem?_append_right (by simpa using hi'),List.length_map,List.getElem?_map]at h2
   exact h2
  cases ej:js[i-vs.length]? with
  | none=>rw[ej]at h2';cases h2'
  | some j =>
   rw[ej]at h2'
   have hσ:σ[j]? = some (some v):=by
    have z:(σ[j]?).join=some v:=Option.some.inj h2'
    cases q:σ[j]? with
    | none=>rw[q]at z;cases z
    | some o=>rw[q]at z;have z':o=some v:=z;rw[z']
   have hNj:X.N[j]? = some y:=by
    have q:=congrArg (fun l=>l[i-vs.length]?) B.ix
    simp only[List.getElem?_map,ej,h1',Option.map_some]at q
    exact Option.some.inj q
   have hcap:=B.cap y (List.mem_of_getElem? h1')
   have hmem:(y,NameKind.free)∈scope.names:=PySem.mem_of_lookup hcap
   have hkX:=B.free _ hmem rfl
   have vis:Vis X.env.scope y:=by
    rcases hkX with z|z
    ·exact .inr (.inl z)
    ·exact .inr (.inr z)
   obtain⟨m0,hn0,hl0⟩:=I.loc
   obtain⟨u,r,l⟩:=hl0 j y v hNj hσ vis
   refine⟨u,r,.inr ⟨lookup_relabel_free hcap,?_⟩⟩
   rcases l with⟨z,_⟩|⟨_,c,hc,hcell⟩
   ·rcases hkX with q|q <;> (rw[q]at z;cases z)
   ·obtain⟨c',hc'⟩:=lookup_mono_isSome (clOf_has (env:=X.env) (cs:=[]) hmem)
    have e:=snd hc'
    rw[hc]at e
    cases e
    exact⟨c,hc',hcell.keeps hk⟩
 ·obtain⟨v,z⟩:=I.cell y c (snd h)
  exact⟨v,z.keeps hk⟩
 ·rw[show(cxBlk X scope (vs++fs) C s H fp).env.locals=C from rfl,upd_ne nCD]
  exact hfC
 ·have q:=snd h
  have ne:c≠D:=by rw[hD];exact Nat.ne_of_lt (clt q)
  rw[upd_ne ne]
  exact I.freeC y c q
 ·have hlen:js.length=fs.length:=by have:=congrArg List.length B.ix;simpa using this
  show(vs.map _++js.map _).length =(vs++fs).length
  rw[List.length_append,List.length_append,List.length_map,List.length_map,hlen]
theorem Inv.goneC {H':Hp}{s':Shared}{C:Addr}{h'':Heap}(I2:Inv X pins σ H s) {σ':St}(I':Inv X pins σ' H' s') (hC:H' C=none) (hle:s.heap.objs.size≤C) (hs:Heap.SameBut C s'.heap h''):Inv X pins σ' H' { s' with heap:=h'' }:=by
 refine I'.turned (t':=s'.toks) (fun b o hb e=>(hs.2 b hb).trans e) hC (Nat.ne_of_gt (Nat.lt_of_lt_of_le I2.lt hle)) (.inr (Nat.le_trans I2.sz hle)) (fun y c e z=>?_) fun p hp z=>?_
 ·obtain⟨v,o,ho,_⟩:=I2.cell y c e
  have:=Heap.lt_size ho
  rw[z]at this
  exact absurd (Nat.lt_of_lt_of_le this hle) (Nat.lt_irrefl _)
 ·have:=Heap.lt_size (I2.pin p hp).1
  rw[z]at this
  exact absurd (Nat.lt_of_lt_of_le this hle) (Nat.lt_irrefl _)
theorem blk_run {tg iter elt:Expr}{ifs:List Expr}{pos:Pos}{g:TG}{tt:TT}{te:TE}(hc:X.calm=true) (B:BlkOk X scope vs fs js)
  (hg:∀C s H ex,PG (cxBlk X scope (vs++fs) C s H ex) tg g) (ht:∀C s H ex,PIfs (cxBlk X scope (vs++fs) C s H ex) ifs tt) (he:∀C s H ex,PE (cxBlk X scope (vs++fs) C s H ex) elt te)
  {it:Addr}{fp:List Addr}{tn:Nat→Heap→Prop}{J:It}{Q:VK}{E:Value→Shared→Prop}(I2:Inv X pins σ H s) (T:Turn X.prog X.w X.K tg J fp it tn) (st2:tn 0 s.heap) (f2:∀b∈fp,FpOk X pins H b)
  (hW:∀D,H D=none→CompW J vs js σ g tt te Q D H)
  {RR:Value→Addr→Result→Shared→Prop}
  (hR:∀D C H' s',Inv X pins σ H' s'→(∃m,s'.heap.Ns C m)→H' C=none→s.heap.objs.size≤C→Q (.ref D) H'→RR (.ref D) C (.ok .next) s') :
  wpAny (model X.prog X.w) X.A (newList []) (fun acc s₃=>wpAny (model X.prog X.w) X.A (newFunctionEnv scope X.env.globals (clOf X.env scope.names []) [] X.env.qual none .none (some X.env)) (fun cenv s₄ =>
   codeAny (model X.prog X.w) X.A (.compStart (.ListComp elt [⟨tg,iter,ifs,0⟩] scope pos) 0 (.ref it) acc { cenv with scope:=relabel scope X.env }) (RR acc cenv.locals) s₄) E s₃) E s:=by
 have hfp:∀b∈fp,b<s.heap.objs.size:=fun b hb=>by
  obtain⟨o,e,_⟩:=T.obj _ _ st2 b hb
  exact Heap.lt_size e
 refine wpAny_newObj_type (wpAny_newFunctionEnv B.cell (by intro y hy;simp at hy) (fun h₁ hns₁ hsb₁=>?_) B.kind)
 dsimp only at hns₁ hsb₁ ⊢
 generalize hH2:s.heap.push { cls:=.type "list",dict:=none,data:=.seq ([]:List Value).toArray } = HH at hns₁ hsb₁ ⊢
 have hC:HH.objs.size=s.heap.objs.size+1:=by rw[← hH2,Heap.size_push]
 have hlt:s.heap.objs.size<HH.objs.size:=by rw[hC];exact Nat.lt_succ_self _
 have old:∀b o,s.heap.get? b=some o→h₁.get? b=some o:=fun b o e=>hsb₁.extBut b o (Nat.ne_of_lt (Nat.lt_trans (Heap.lt_size e) hlt)) (Heap.get?_push_of_some _ (hH2 ▸ Heap.get?_push_of_some _ e))
 have hacc:h₁.get? s.heap.objs.size=some { cls:=.type "list",data:=.seq ([]:List Value).toArray }:=hsb₁.extBut _ _ (Nat.ne_of_lt hlt) (Heap.get?_push_of_some _ (hH2 ▸ Heap.get?_push_size _ rfl))
 have I0:Inv (cxBlk X scope (vs++fs) HH.objs.size s H fp) [] (blkSt vs js σ) (upd H s.heap.objs.size (.lst [])) { s with heap:=h₁,toks:=s.toks+([]:List (Str×Value)).length }:=blk_start I2 B f2 hfp hns₁ old rfl hlt hacc
 obtain⟨W,⟨m0,w0⟩,turn⟩:=hW s.heap.objs.size (I2.hok.fresh (Nat.le_refl _))
 have st1:tn 0 h₁:=T.keep _ _ _ st2 fun b hb o e=>old b o e
 have hch:∀b∈fp,(b∈X.ex∨X.s₀.heap.objs.size≤b)∧b≠X.env.locals∧(∀x c,X.env.cells.lookup x=some c→c≠b)∧∀p∈X.pn++pins,p.1≠b:=fun b hb=>by
  obtain⟨_,a2,_,a4,a5,a6⟩:=f2 b hb
  exact⟨a4,a2,a5,a6⟩
 have back:∀{pl:List (Addr×Obj)}{σ':St}{H':Hp}{s':Shared},Inv (cxBlk X scope (vs++fs) HH.objs.size s H fp) pl σ' H' s'→Inv X pins σ H' s':=fun {pl σ' H' s'} J'=>I2.call' (ch:=fp) J'.os J'.base J'.hok J'.bare hch
 have nD:∀b∈fp,b≠s.heap.objs.size:=fun b hb=>Nat.ne_of_lt (hfp b hb)
 have stat:∀{H':Hp},(∀b∈fp,H' b=none)→∀b∈fp,FpOk (cxBlk X scope (vs++fs) HH.objs.size s H fp) [] H' b:=fun {H'} hn b hb=>by
  have z:=I0.ok
  refine⟨hn b hb,(z.exf b hb).1,z.exfs b hb,.inl hb,(z.exf b hb).2,fun p hp=>absurd (show p∈([]:List (Addr×Obj)) from hp) (by simp)⟩
 have loop:∀s₃:Shared,s₃ = { s with heap:=h₁,toks:=s.toks+([]:List (Str×Value)).length } →
   codeAny (model X.prog X.w) X.A (.compLoop (.ListComp elt [⟨tg,iter,ifs,0⟩] scope pos) 0 (.ref it) (.ref s.heap.objs.size) (compEnvC scope (clOf X.env scope.names []) HH.objs.size X.env)) (RR (.ref s.heap.objs.size) HH.objs.size) s₃:=by
  rintro s₃ rfl
  refine codeAny_compLoop_gen (fun n s'=>∃i σ' ys H',Inv (cxBlk X scope (vs++fs) HH.objs.size s H fp) [] σ' H' s'∧tn i s'.heap∧(∀b∈fp,H' b=none)∧W i n σ' ys H') ?_ m0
   ⟨0,_,_,_,I0,st1,fun b hb=>by rw[upd_ne (nD b hb)];exact(f2 b hb).1,w0⟩
  rintro n s3 ⟨i,σ3,ys,H3,I3,st3,fr3,w3⟩
  rcases turn i n σ3 ys H3 w3 with⟨stop,q⟩|⟨go,N,hN,step⟩
  ·refine thn (T.done (cxBlk X scope (vs++fs) HH.objs.size s H fp) rfl rfl rfl hc i [] s3 σ3 H3 _ I3 (stat fr3) st3 stop) fun r s4 ⟨hr,I4⟩=>?_
   subst hr
   obtain⟨m,hm,_⟩:=I4.loc
   exact hR _ _ H3 s4 (back I4) ⟨m,hm⟩ I4.free (Nat.le_of_lt hlt) q
  ·refine thn (T.item (cxBlk X scope (vs++fs) HH.objs.size s H fp) rfl rfl rfl hc i [] s3 σ3 H3 _ I3 (stat fr3) st3 go) fun r s4 ⟨u,hr,h4⟩=>?_
   subst hr
   refine thn h4 fun _ s5 ⟨x,H5,I5,r5,y5,st5,fr5⟩=>?_
   have I5':=I5.pinned (stat fr5) (T.obj _ _ st5)
   have again:∀{σ7:St}{H7:Hp}{s7:Shared}{zs:List V},Inv (cxBlk X scope (vs++fs) HH.objs.size s H fp) ([]++pinsAt fp s5.heap) σ7 H7 s7→N σ7 zs H7→∃m,m<n∧∃i σ' ys H',Inv (cxBlk X scope (vs++fs) HH.objs.size s H fp) [] σ' H' s7∧tn i s7.heap∧(∀b∈fp,H' b=none)∧W i m σ' ys H':=fun {σ7 H7 s7 zs} I7 n7=>by
    obtain⟨m',hm,w7⟩:=hN σ7 zs H7 n7
    refine⟨m',hm,i+1,σ7,zs,H7,I7.unpinned,T.keep _ _ _ st5 fun b hb o e=>(I7.pin (b,o) (List.mem_append_right _ (List.mem_append_right _ (mem_pinsAt hb e)))).1,fun b hb=>?_,w7⟩
    obtain⟨o,e,d⟩:=T.obj _ _ st5 b hb
    exact(I7.pin (b,o) (List.mem_append_right _ (List.mem_append_right _ (mem_pinsAt hb e)))).2.1
   refine thn (hg _ _ _ _ _ s5 σ3 H5 x u _ I5' r5 (step x H5 y5)) fun _ s6 ⟨σ6,H6,I6,q6⟩=>?_
   refine thn (ht _ _ _ _ _ s6 σ6 H6 _ I6 q6) fun ok s7 ⟨H7,I7,q7⟩=>?_
   cases ok with
   | false =>
    rw[if_neg Bool.false_ne_true]at q7 ⊢
    exact again I7 q7
   | true =>
    rw[if_pos rfl]at q7 ⊢
    refine thn (he _ _ _ _ _ s7 σ6 H7 _ I7 q7) fun y s8 ⟨yv,H8,I8,r8,hD8,hz,n8⟩=>?_
    refine thn (mt_append _ s8 σ6 H8 (.ref s.heap.objs.size) [yv] (.ref s.heap.objs.size) [y] (fun _ H9=>N σ6 (ys ++ [yv]) H9) I8 rfl (.cons r8 .nil) ⟨_,ys,yv,rfl,rfl,hD8,hz,n8⟩) fun _ s9 ⟨_,H9,I9,_,n9⟩=>?_
    exact again I9 n9
 exact codeAny_compStart_list (loop _ rfl) (T.self X.A 0 _ _ _ st1 (loop _ rfl))
theorem pe_comp {tg iter elt:Expr}{ifs:List Expr}{pos:Pos}{wi:TI}{g:TG}{tt:TT}{te:TE}(hc:X.calm=true) (B:BlkOk X scope vs fs js) (hi:PI X tg iter wi)
  (hg:∀C s H ex,PG (cxBlk X scope (vs++fs) C s H ex) tg g) (ht:∀C s H ex,PIfs (cxBlk X scope (vs++fs) C s H ex) ifs tt) (he:∀C s H ex,PE (cxBlk X scope (vs++fs) C s H ex) elt te)
  (hs:∀x,foldedSetIterable iter X.env x=pure x:=by intro _;rfl):PE X (.ListComp elt [⟨tg,iter,ifs,0⟩] scope pos) (tComp vs js wi g tt te):=by
 intro pins s σ H Q I h
 rw[eval_ListComp]
 refine wpAny_comprehension_free (use:=none) rfl hs (closure_eq fun y hy hf=>I.ok.has y.1 (B.free y hy hf)) B.kind B.names (thn (hi pins s σ H _ I h) fun v s1 h1=>thn h1 fun itv s2 h2=>?_)
 obtain⟨it,fp,tn,J,H2,e,I2,T,st2,f2,hW⟩:=h2
 subst e
 refine blk_run (RR:=fun acc C=>compPost (model X.prog X.w) X.A X.xe none (EP X pins σ Q) acc C) hc B hg ht he I2 T st2 f2 hW ?_
 intro D C H' s' I' hn hC hle q
 obtain⟨m,hn⟩:=hn
 exact⟨m,hn,fun h'' hs''=>⟨.ref D,H',I2.goneC I' hC hle hs'',rfl,q⟩⟩
theorem ps_setc {i:Nat}{y:Str}{py spos:Pos}{tg iter elt:Expr}{ifs:List Expr}{pos:Pos}{wi:TI}{g:TG}{tt:TT}{te:TE}(hN:X.N.Nodup) (hi':X.N[i]? = some y) (hy:X.env.scope.names.lookup y=some .local) (hc:X.calm=true) (B:BlkOk X scope vs fs js) (hi:PI X tg iter wi)
  (hg:∀C s H ex,PG (cxBlk X scope (vs++fs) C s H ex) tg g) (ht:∀C s H ex,PIfs (cxBlk X scope (vs++fs) C s H ex) ifs tt) (he:∀C s H ex,PE (cxBlk X scope (vs++fs) C s H ex) elt te)
  (hsw:swapsWith (.ListComp elt [⟨tg,iter,ifs,0⟩] scope pos) (some (.Name y py)) spos.line X.env=pure true:=by rfl)
  (hs:∀x,foldedSetIterable iter X.env x=pure x:=by intro _;rfl):PS X (.Assign [.Name y py] (.ListComp elt [⟨tg,iter,ifs,0⟩] scope pos) spos) (tAsg (tComp vs js wi g tt te) (gName i)):=by
 intro pins s σ H D I h
 rw[exec_Assign_Name_used _ _ _ _ hsw]
 refine wpAny_bind (wpAny_standAt (wpAny_bind ?_))
 show wpAny _ X.A (do let _ ← comprehension (.ListComp elt [⟨tg,iter,ifs,0⟩] scope pos) scope X.env _ (newList []) false (eval iter X.env) (some (assign (.Name y py) X.env))) _ _ s
 refine wpAny_bind (wpAny_mono (wpAny_comprehension_free (use:=some (assign (.Name y py) X.env)) (Q:=fun _ s'=>SP X pins D .next s') rfl hs (closure_eq fun y hy hf=>I.ok.has y.1 (B.free y hy hf)) B.kind B.names
  (thn (hi pins s σ H _ I h) fun v s1 h1=>thn h1 fun itv s2 h2=>?_)) (fun _ s' hq=>wpAny_pure (wpAny_pure hq)) fun _ _ e=>e)
 obtain⟨it,fp,tn,J,H2,e,I2,T,st2,f2,hW⟩:=h2
 subst e
 refine blk_run (Q:=fun x H1=>gName i x σ H1 D.nx) (RR:=fun acc C=>compPost (model X.prog X.w) X.A X.xe (some (assign (.Name y py) X.env)) (fun _ s'=>SP X pins D .next s') acc C) hc B hg ht he I2 T st2 f2 hW ?_
 intro D' C H' s' I' hn hC hle q
 obtain⟨m,hn⟩:=hn
 show wpAny _ X.A (assign (.Name y py) X.env (.ref D')) _ _ _
 refine wpAny_assign_Name (store_ok2 I' hN hi' (.inl hy) (v:=.ref D') rfl (fun s'' I'' hsb=>?_) (.inr hy))
 obtain⟨a,hsb,ha⟩:=hsb
 have nCa:C≠a:=by
  rcases ha with z|z
  ·rw[z];exact Nat.ne_of_gt (Nat.lt_of_lt_of_le I2.lt hle)
  ·obtain⟨v,o,ho,_⟩:=I2.cell y a z
   exact Nat.ne_of_gt (Nat.lt_of_lt_of_le (Heap.lt_size ho) hle)
 exact⟨m,hn.sameBut hsb nCa,fun h'' hs''=>⟨_,H',I2.goneC I'' hC hle hs'',q⟩⟩
end
section
variable {vs:List Str}{js:List Nat}{σ:St}{g:TG}{tt:TT}{te:TE}{Q:VK}
theorem comp_range {lo:Int}{n:Nat}{H:Hp}(Pv:Nat→St→List V→Hp→Prop) (D:Addr) (h0:Pv 0 (blkSt vs js σ) [] (upd H D (.lst [])))
  (hs:∀i σ' ys H',i<n→Pv i σ' ys H'→g (.int (lo+i)) σ' H' fun σ3 H3=>tt σ3 H3 fun b H4=>if b=true then te σ3 H4 fun y H5=>H5 D=some (.lst ys)∧ys.length<sizeLine∧Pv (i+1) σ3 (ys ++ [y]) (upd H5 D (.lst (ys ++ [y]))) else Pv (i+1) σ3 ys H4)
  (hd:∀σ' ys H',Pv n σ' ys H'→Q (.ref D) H') :
  CompW (Itr lo n) vs js σ g tt te Q D H:=by
 refine⟨fun i m σ' ys H'=>m=n-i∧i≤n∧Pv i σ' ys H',⟨n,by simp,Nat.zero_le _,h0⟩,?_⟩
 rintro i m σ' ys H' ⟨rfl,hi,p⟩
 by_cases hlt:i<n
 ·refine .inr ⟨hlt,Pv (i+1),fun σ2 zs H2 p'=>⟨n-(i+1),by omega,rfl,hlt,p'⟩,fun x H2 y=>?_⟩
  obtain⟨e,y⟩:=y
  subst e y
  exact hs i σ' ys _ hlt p
 ·have e:i=n:=by omega
  subst e
  exact .inl ⟨Nat.le_refl _,hd σ' ys H' p⟩
theorem comp_list {K:PySem.W.Frag}{a:Addr}{xs:List V}{H:Hp}(Pv:Nat→St→List V→Hp→Prop) (D:Addr) (h0:Pv 0 (blkSt vs js σ) [] (upd H D (.lst []))) (hl:∀i σ' ys H',i≤xs.length→Pv i σ' ys H'→SqL K H' a xs)
  (hs:∀i x σ' ys H',xs[i]? = some x→Pv i σ' ys H'→g x σ' H' fun σ3 H3=>tt σ3 H3 fun b H4=>if b=true then te σ3 H4 fun y H5=>H5 D=some (.lst ys)∧ys.length<sizeLine∧Pv (i+1) σ3 (ys ++ [y]) (upd H5 D (.lst (ys ++ [y]))) else Pv (i+1) σ3 ys H4)
  (hd:∀σ' ys H',Pv xs.length σ' ys H'→Q (.ref D) H') :
  CompW (Itl K a) vs js σ g tt te Q D H:=by
 refine⟨fun i m σ' ys H'=>m=xs.length-i∧i≤xs.length∧Pv i σ' ys H',⟨xs.length,by simp,Nat.zero_le _,h0⟩,?_⟩
 rintro i m σ' ys H' ⟨rfl,hi,p⟩
 have q:=hl i σ' ys H' hi p
 by_cases hlt:i<xs.length
 ·refine .inr ⟨⟨xs,xs[i],q,by simp[hlt]⟩,Pv (i+1),fun σ2 zs H2 p'=>⟨xs.length-(i+1),by omega,rfl,hlt,p'⟩,fun x H2 y=>?_⟩
  obtain⟨e,y⟩:=y
  subst e
  exact hs i x σ' ys _ (y xs q) p
 ·have e:i=xs.length:=by omega
  subst e
  exact .inl ⟨⟨xs,q,Nat.le_refl _⟩,hd σ' ys H' p⟩
end
end L2
namespace L2
open PySem PySem.Spec PyProof.Rows
theorem bt_len:bootBuiltins "len" = some (.builtin "len"):=by decide +kernel
theorem bt_abs:bootBuiltins "abs" = some (.builtin "abs"):=by decide +kernel
theorem bt_max:bootBuiltins "max" = some (.builtin "max"):=by decide +kernel
theorem bt_min:bootBuiltins "min" = some (.builtin "min"):=by decide +kernel
theorem bt_all:bootBuiltins "all" = some (.builtin "all"):=by decide +kernel
theorem bt_isinstance:bootBuiltins "isinstance" = some (.builtin "isinstance"):=by decide +kernel
theorem bt_sorted:bootBuiltins "sorted" = some (.builtin "sorted"):=by decide +kernel
theorem bt_int:bootBuiltins "int" = some (.type "int"):=by decide +kernel
theorem bt_bool:bootBuiltins "bool" = some (.type "bool"):=by decide +kernel
theorem bt_list:bootBuiltins "list" = some (.type "list"):=by decide +kernel
theorem bt_tuple:bootBuiltins "tuple" = some (.type "tuple"):=by decide +kernel
theorem bt_range:bootBuiltins "range" = some (.type "range"):=by decide +kernel
structure Cal (P:Program) (w:World) (K:PySem.W.Frag) (mg:Str→Option Value) (base:Heap) (x:Str) (ps:List Str) (k:Nat) (sp:Sp):Prop where
 ex:∃(f:Addr) (fd:FuncData),FnOk P w K mg base CX0 k f fd ps sp∧Binds K fd ps []∧mg x=some (.ref f)∧PySem.W.keepIn K (.ref f)=true
section
variable {X:Cx}{x:Str}{ps:List Str}{k:Nat}{sp:Sp}{e:Expr}{es:List Expr}{t:TA}{p pos:Pos}
theorem pcl (C:Cal X.prog X.w X.K X.mg X.base x ps k sp) (hr:Room k X.A) (ha:PA X (e::es) t) (hg:Gl X x:=by rfl) (hdb:(x ==("__debug__" : Str))=false:=by decide) (he:starEach (e::es) X.env =(false,eval e X.env)::starEach es X.env:=by rfl) (hpl:(backTo pos (starEach es X.env)).any (·.1)=false:=by rfl) :
  PE X (.Call (.Name x p) (e::es) [] pos) (tCall sp [] E0 t):=by
 obtain⟨f,fd,F,hb,hm,hk⟩:=C.ex
 exact pe_call F hr hg hm hk hb .nil pass0 ha hdb he hpl
end
theorem Cal.of {P:Program}{w:World}{K:PySem.W.Frag}{mg:Str→Option Value}{base:Heap}{x:Str}{st:Stmt}{f:Addr}{fd:FuncData}{N ps:List Str}{k:Nat}{sp:Sp}(F:Fun K x x st f fd) (mF:mg x=some (.ref f)) (bF:Binds K fd ps []) (S:FnScope N ps (defScope st)) (len:∀vs H Q E,sp vs H Q E→vs.length=ps.length)
  (hbody:∀(cdv:Value) (A:Around) (outer:List Env) (s:Shared) (H:Hp) (vs:List V) (Q:VK) (E:XK),Room k (A.deeper (envOfC x (defScope st) s.heap.objs.size f cdv))→sp vs H Q E →
   ∃t,PSs (cxOf CX0 P w K mg base N x (defScope st) f cdv A outer s H E).nox (defBody st) t∧t { nx:=fun _ H'=>Q .non H',rt:=Q } (start N vs) H):Cal P w K mg base x ps (k+1) sp :=
 ⟨f,fd,F.ok S len hbody,bF,mF,F.kp⟩
def blkB (sc scope:Scope) (N vs fs:List Str) (js:List Nat):Bool :=
 (scope.kind == .function) && scope.names.all (fun y=>y.2 != .cell) && scope.names.all (fun y=>y.2 != .local || scope.names.lookup y.1 == some .local) &&
 scope.names.all (fun y=>y.2 != .free || sc.names.lookup y.1 == some .cell || sc.names.lookup y.1 == some .free) && vs.all (fun y=>scope.names.lookup y == some .local) && fs.all (fun y=>scope.names.lookup y == some .free) &&
 (js.map (fun j=>N[j]?) == fs.map some)
theorem blkOk {X:Cx}{sc scope:Scope}{N vs fs:List Str}{js:List Nat}(h:blkB sc scope N vs fs js=true) (hs:X.env.scope=sc) (hN:X.N=N):BlkOk X scope vs fs js:=by
 unfold blkB at h
 simp only[Bool.and_eq_true,List.all_eq_true,beq_iff_eq,bne_iff_ne,Bool.or_eq_true]at h
 obtain⟨⟨⟨⟨⟨⟨h1,h2⟩,h3⟩,h4⟩,h5⟩,h6⟩,h7⟩:=h
 refine⟨h1,h2,fun y hy hl=>?_,fun y hy hf=>?_,h5,h6,?_⟩
 ·rcases h3 y hy with z|z
  ·exact absurd hl z
  ·exact z
 ·unfold Env.kindOf
  rw[hs]
  rcases h4 y hy with(z|z)|z
  ·exact absurd hf z
  ·exact .inl z
  ·exact .inr z
 ·rw[hN];exact h7
def tCut (t:TS):TS:=fun D σ H=>∃R:St→Hp→Prop,t { D with nx:=R } σ H∧∀σ' H',R σ' H'→D.nx σ' H'
theorem ps_cut {X:Cx}{st:Stmt}{t:TS}(h:PS X st t):PS X st (tCut t):=by
 intro pins s σ H D I hw
 obtain⟨R,h1,h2⟩:=hw
 refine thn (h pins s σ H _ I h1) fun f s' q=>?_
 cases f with
 | next =>
  obtain⟨σ',H',I',q⟩:=q
  exact⟨σ',H',I',h2 _ _ q⟩
 | brk=>exact q
 | cont=>exact q
 | ret u=>exact q
section
variable {X:Cx}
def CDivB (i j:Int):Prop:=0<j∧j<2^100
theorem op_fdivB:OpR X (binaryOp .FloorDiv) (rI CDivB fun i j=>.int (i / j)):=opI fun i j _ _ _ _ _ hc q=>by
 have h1:(0:Int)<j:=hc.1
 have h2:j<2^100:=hc.2
 refine floordiv_int (by omega) (by rw[Int.fdiv_eq_ediv_of_nonneg i (by omega)];exact q) (.inl (PyProof.noPylong_of_log2 ?_))
 have h0:j.natAbs≠0:=by omega
 have h3:j.natAbs.log2<100:=(Nat.log2_lt h0).mpr (by omega)
 omega
theorem pe_powC {a b c:Int}{j1 j2:Nat}{p1 p2 pos:Pos}(h:a^b.toNat=c) (h1:CPow a b):PE X (.BinOp (.Constant (.int a) j1 p1) .Pow (.Constant (.int b) j2 p2) pos) (tC (.int c)):=by
 intro pins s σ H Q I q
 subst h
 exact pe_op op_pow pe_int pe_int pins s σ H Q I ⟨a,b,rfl,rfl,h1,q⟩
theorem get_list:PGet X (rIxL X.K):=by
 intro pins s σ H x y v u Q I rx ry h
 obtain⟨p,xs,i,z,rfl,rfl,hq,he,q⟩:=h
 cases rx
 obtain⟨t,rfl⟩:=ry
 obtain⟨its,r,pl,hz⟩:=I.list hq
 obtain⟨j,h1,h2,h3,h4,h5⟩:=atI_get he
 obtain⟨w,ew,rw'⟩:=r.get h2
 have hl:=r.length
 have hn:=line63
 have fin:EP X pins σ Q w s:=⟨z,H,I,rw',q⟩
 by_cases h0:0≤i
 ·have hj:i.toNat=j:=by
   rw[seqIndex_of h0 h5]at h1
   exact Option.some.inj h1
  exact wpAny_getItem_list pl.isList h0 (by omega) (by rw[hj];simpa using ew) fin
 ·have hj:(i+(its.toArray.size:Int)).toNat=j:=by
   rw[seqIndex_neg (by omega) h4]at h1
   rw[List.size_toArray,← hl]
   exact Option.some.inj h1
  exact wpAny_getItem_list_neg pl.isList (by omega) (by rw[List.size_toArray] <;> omega) (by omega) (by rw[hj];simpa using ew) fin
def rLenL (K:PySem.W.Frag):List V→Hp→VK→Prop:=fun xs H Q=>∃p ys,xs=[.ref p]∧(SqL K H p ys∨SqT K H p ys)∧Q (.int ys.length) H
theorem call_lenL:CallR X (.builtin "len") (rLenL X.K):=call_len_seq
def rAbs1:List V→Hp→VK→Prop:=fun xs H Q=>∃i,xs=[.int i]∧Q (.int (if i<0 then -i else i)) H
theorem call_abs1:CallR X (.builtin "abs") rAbs1:=call_abs
def rMaxI:List V→Hp→VK→Prop:=fun xs H Q=>∃i j,xs=[.int i,.int j]∧Q (.int (if j > i then j else i)) H
theorem call_maxI (hc:X.calm=true):CallR X (.builtin "max") rMaxI:=call_max2 hc
def rMinI:List V→Hp→VK→Prop:=fun xs H Q=>∃i j,xs=[.int i,.int j]∧Q (.int (if j<i then j else i)) H
theorem call_minI (hc:X.calm=true):CallR X (.builtin "min") rMinI:=call_min2 hc
def rIsi (K:PySem.W.Frag):List V→Hp→VK→Prop:=fun xs H Q=>∃x t T b,xs=[x,.ty T]∧TyOf K H x t∧PySem.W.kitOne K t (.type T)=some b∧Q (.bl b) H
theorem call_isinst:CallR X (.builtin "isinstance") (rIsi X.K):=by
 intro pins s σ H xs us Q I r h
 obtain⟨x,t,T,b,rfl,ty,e,q⟩:=h
 obtain⟨u,w',rfl,r1,r2⟩:=vals2 r
 cases (show w'=Value.type T from r2)
 exact isinst_ok I r1 ty e fun tk=>⟨.bl b,H,I.tok _,rfl,q⟩
end
section
variable {σ:St}{H:Hp}{Q:VK}{D:Ends}
theorem rd_var {i:Nat}{v:V}(h:σ[i]? = some (some v)) (q:Q v H):tVar i σ H Q:=⟨v,h,q⟩
theorem rd_c {v:V}(q:Q v H):tC v σ H Q:=q
theorem rd_op {r:R2}{ta tb:TE}(h:ta σ H fun x H1=>tb σ H1 fun y H2=>r x y H2 Q):tOp r ta tb σ H Q:=h
theorem rd_un {r:V→Hp→VK→Prop}{ta:TE}(h:ta σ H fun x H1=>r x H1 Q):tUn r ta σ H Q:=h
theorem rd_I0 {g:Int→Int→V}{i j:Int}(q:Q (g i j) H):rI0 g (.int i) (.int j) H Q:=⟨i,j,rfl,rfl,q⟩
theorem rd_I {C:Int→Int→Prop}{g:Int→Int→V}{i j:Int}(c:C i j) (q:Q (g i j) H):rI C g (.int i) (.int j) H Q:=⟨i,j,rfl,rfl,c,q⟩
theorem rd_U {g:Int→V}{i:Int}(q:Q (g i) H):rU g (.int i) H Q:=⟨i,rfl,q⟩
theorem dec_int' {i j:Int}:decide (V.int i=V.int j)=decide (i=j):=by
 rw[Bool.eq_iff_iff];simp
theorem rd_eqI {i j:Int}(q:Q (.bl (decide (i=j))) H):rEq (.int i) (.int j) H Q:=⟨rfl,by rw[dec_int'];exact q⟩
theorem rd_neI {i j:Int}(q:Q (.bl (!decide (i=j))) H):rNe (.int i) (.int j) H Q:=⟨rfl,by rw[dec_int'];exact q⟩
theorem rd_neB {i j:Bool}(q:Q (.bl (!decide (i=j))) H):rNe (.bl i) (.bl j) H Q:=⟨rfl,by
 have e:decide (V.bl i=V.bl j)=decide (i=j):=by rw[Bool.eq_iff_iff];simp
 rw[e];exact q⟩
theorem rd_bl {c:Bool}{P:Bool→Prop}(h:P c):∃k,V.bl c=V.bl k∧P k:=⟨c,rfl,h⟩
theorem rd_test {t:TE}{R:Bool→Hp→Prop}(h:t σ H fun x H'=>∃k,x = .bl k∧R k H'):tTest t σ H R:=h
theorem rd_tB {t:TE}{R:Bool→Hp→Prop}(h:t σ H fun x H'=>∃k,x = .bl k∧R k H'):tB t σ H R:=h
theorem rd_and {t u:TT}{R:Bool→Hp→Prop}(h:t σ H fun c H1=>if c=true then u σ H1 R else R false H1):tAnd t u σ H R:=h
theorem rd_or {t u:TT}{R:Bool→Hp→Prop}(h:t σ H fun c H1=>if c=true then R true H1 else u σ H1 R):tOr t u σ H R:=h
theorem rd_not {t:TT}{R:Bool→Hp→Prop}(h:t σ H fun c H1=>R (!c) H1):tNot t σ H R:=h
theorem rd_andV {ta tb:TE}(h:ta σ H fun x H1=>∃c,x = .bl c∧if c=true then tb σ H1 Q else Q (.bl false) H1):tAndV ta tb σ H Q:=h
theorem rd_notV {ta:TE}(h:ta σ H fun x H1=>∃c,x = .bl c∧Q (.bl (!c)) H1):tNotV ta σ H Q:=h
theorem rd_chain {r r':R2}{ta tb tc:TE}(h:ta σ H fun x H1=>tb σ H1 fun y H2=>r x y H2 fun z H3=>∃k,z = .bl k∧(if k=true then tc σ H3 fun w' H4=>r' y w' H4 Q else Q (.bl false) H3)):tChain r r' ta tb tc σ H Q:=h
theorem rd_nil {R:List V→Hp→Prop}(h:R [] H):tNil σ H R:=h
theorem rd_cons {ta:TE}{tr:TA}{R:List V→Hp→Prop}(h:ta σ H fun x H1=>tr σ H1 fun xs H2=>R (x::xs) H2):tCons ta tr σ H R:=h
theorem rd_call {sp:Sp}{dvs:List V}{E:XK}{t:TA}(h:t σ H fun vs H1=>sp (vs++dvs) H1 Q E):tCall sp dvs E t σ H Q:=h
theorem rd_cb {r:List V→Hp→VK→Prop}{t:TA}(h:t σ H fun vs H1=>r vs H1 Q):tCB r t σ H Q:=h
theorem rd_lst {t:TA}(h:t σ H fun xs H1=>xs.length≤sizeLine∧∀p,H1 p=none→Q (.ref p) (upd H1 p (.lst xs))):tLst t σ H Q:=h
theorem rd_tup {t:TA}(h:t σ H fun xs H1=>xs.length≤sizeLine∧∀p,H1 p=none→Q (.ref p) (upd H1 p (.tup xs))):tTup t σ H Q:=h
theorem rd_asg {te:TE}{g:TG}(h:te σ H fun x H1=>g x σ H1 D.nx):tAsg te g D σ H:=h
theorem rd_gname {i:Nat}{v:V}{R:St→Hp→Prop}(h:R (σ.set i (some v)) H):gName i v σ H R:=h
theorem rd_ret {te:TE}(h:te σ H D.rt):tRet te D σ H:=h
theorem rd_next (h:D.nx σ H):tNext D σ H:=h
theorem rd_drop {te:TE}(h:te σ H fun _ H1=>D.nx σ H1):tDrop te D σ H:=h
theorem rd_ixL {K:PySem.W.Frag}{p:Addr}{xs:List V}{i:Int}{v:V}(h:SqL K H p xs) (e:atI xs i=some v) (q:Q v H):rIxL K (.ref p) (.int i) H Q:=⟨p,xs,i,v,rfl,rfl,h,e,q⟩
theorem rd_bm {K:PySem.W.Frag}{T:String}{r:V→List V→Hp→VK→Prop}{to:TE}{t:TA}(h:to σ H fun x H1=>tyV K T x H1∧t σ H1 fun xs H2=>r x xs H2 Q):tBM K T r to t σ H Q:=h
theorem rd_augS {to ti te:TE}{tget:V→V→Hp→VK→Prop}{tip:TIp}{tset:TSet}(h:to σ H fun o H1=>ti σ H1 fun i H2=>tget o i H2 fun x H3=>te σ H3 fun y H4=>tip x y H4 fun z H5=>tset o i z H5 fun H6=>D.nx σ H6):tAugS to ti te tget tip tset D σ H:=h
theorem rd_ip {f:Int→Int→Int}{i j:Int}(q:Q (.int (f i j)) H):ipI f (.int i) (.int j) H Q:=⟨i,j,rfl,rfl,q⟩
theorem rd_set0 {p:Addr}{a:V}{r:List V}{v:V}{R:Hp→Prop}(h:H p=some (.lst (a::r))) (q:R (upd H p (.lst (v::r)))):rSetL (.ref p) (.int 0) v H R :=
 ⟨p,_,0,0,rfl,rfl,h,by unfold ixN;rw[if_pos (by decide),if_pos (by rw[List.length_cons];omega)];rfl,q⟩
theorem rd_set1 {p:Addr}{a b:V}{r:List V}{v:V}{R:Hp→Prop}(h:H p=some (.lst (a::b::r))) (q:R (upd H p (.lst (a::v::r)))):rSetL (.ref p) (.int 1) v H R :=
 ⟨p,_,1,1,rfl,rfl,h,by unfold ixN;rw[if_pos (by decide),if_pos (by rw[List.length_cons,List.length_cons];omega)];rfl,q⟩
theorem rd_gsub {to ti:TE}{t:TSet}{v:V}{R:St→Hp→Prop}(h:to σ H fun o H1=>ti σ H1 fun i H2=>t o i v H2 fun H3=>R σ H3):gSub to ti t v σ H R:=h
theorem rd_sl {r:V→Option Int→Option Int→Hp→VK→Prop}{te:TE}{tl th:TO}(h:te σ H fun x H1=>tl σ H1 fun l H2=>th σ H2 fun u H3=>r x l u H3 Q):tSl r te tl th σ H Q:=h
theorem rd_nop {R:Option Int→Hp→Prop}(h:R none H):tNoPart σ H R:=h
theorem rd_part {t:TE}{R:Option Int→Hp→Prop}(h:t σ H fun x H1=>∃i,x = .int i∧R (some i) H1):tPart t σ H R:=h
theorem rd_int {i:Int}{P:Int→Prop}(h:P i):∃k,V.int i=V.int k∧P k:=⟨i,rfl,h⟩
theorem rd_slL {K:PySem.W.Frag}{a:Addr}{xs:List V}{lo hi:Option Int}(h:SqL K H a xs) (q:∀p,H p=none→Q (.ref p) (upd H p (.lst (cutV xs lo hi)))):rSlL K (.ref a) lo hi H Q:=⟨a,xs,rfl,h,q⟩
theorem rd_lenL {K:PySem.W.Frag}{a:Addr}{ys:List V}(h:SqL K H a ys) (q:Q (.int ys.length) H):rLenL K [.ref a] H Q:=⟨a,ys,rfl,.inl h,q⟩
theorem rd_abs {i:Int}(q:Q (.int (if i<0 then -i else i)) H):rAbs1 [.int i] H Q:=⟨i,rfl,q⟩
theorem rd_max {i j:Int}(q:Q (.int (max i j)) H):rMaxI [.int i,.int j] H Q:=⟨i,j,rfl,by
 have e:(if j > i then j else i)=max i j:=by omega
 rw[e];exact q⟩
theorem rd_min {i j:Int}(q:Q (.int (min i j)) H):rMinI [.int i,.int j] H Q:=⟨i,j,rfl,by
 have e:(if j<i then j else i)=min i j:=by omega
 rw[e];exact q⟩
theorem rd_isi {K:PySem.W.Frag}{x:V}{t:Value}{T:String}{b:Bool}(h:TyOf K H x t) (e:PySem.W.kitOne K t (.type T)=some b) (q:Q (.bl b) H):rIsi K [x,.ty T] H Q:=⟨x,t,T,b,rfl,h,e,q⟩
theorem rd_if {c:Prop} [Decidable c] {A B:Prop}(h1:c→A) (h2:¬ c→B):if decide c=true then A else B:=by
 by_cases h:c
 ·rw[decide_eq_true h,if_pos rfl];exact h1 h
 ·rw[decide_eq_false h,if_neg Bool.false_ne_true];exact h2 h
theorem rd_ifn {c:Prop} [Decidable c] {A B:Prop}(h1:¬ c→A) (h2:c→B):if (!decide c)=true then A else B:=by
 by_cases h:c
 ·rw[decide_eq_true h];exact(if_neg (by decide)).mpr (h2 h)
 ·rw[decide_eq_false h];exact(if_pos rfl).mpr (h1 h)
theorem rd_rng1 {ta:TA}{R:It→Hp→Prop}(h:ta σ H fun vs H1=>∃j:Int,vs=[.int j]∧-(2^62)≤j∧j<2^62∧R (Itr 0 j.toNat) H1):iRng1 ta σ H R:=h
theorem rd_ilist {K:PySem.W.Frag}{tl:TE}{R:It→Hp→Prop}(h:tl σ H fun x H1=>∃a,x = .ref a∧(∃xs,SqL K H1 a xs)∧R (Itl K a) H1):iList K tl σ H R:=h
theorem rd_comp {vs:List Str}{js:List Nat}{wi:TI}{g:TG}{tt:TT}{te:TE}(h:wi σ H fun J H1=>∀D,H1 D=none→CompW J vs js σ g tt te Q D H1):tComp vs js wi g tt te σ H Q:=h
theorem rd_yes {R:Bool→Hp→Prop}(h:R true H):tYes σ H R:=h
theorem rd_iteT {A B:Prop}(h:A):if true=true then A else B:=iteT h
theorem rd_iteF {A B:Prop}(h:B):if false=true then A else B:=iteF h
theorem rd_iteNF {A B:Prop}(h:A):if (!false)=true then A else B:=iteT h
theorem rd_iteNT {A B:Prop}(h:B):if (!true)=true then A else B:=iteF h
theorem cut_lo {ms:List Int}{k:Nat}:cutV (ms.map V.int) (some (k:Int)) none =(ms.drop k).map V.int:=by
 unfold cutV
 rw[HT.sIx_nat,HT.sIx_none,List.length_map,← List.map_drop]
 by_cases h:k≤ms.length
 ·rw[Nat.min_eq_left h,List.take_of_length_le (by rw[List.length_map,List.length_drop];omega)]
 ·rw[List.drop_eq_nil_of_le (by omega:ms.length≤min k ms.length),List.drop_eq_nil_of_le (by omega:ms.length≤k)]
  simp
theorem cut_hi {ms:List Int}{k:Nat}:cutV (ms.map V.int) none (some (k:Int)) =(ms.take k).map V.int:=by
 unfold cutV
 rw[HT.sIx_nat,HT.sIx_none,List.length_map,List.drop_zero,Nat.sub_zero,← List.map_take]
 by_cases h:k≤ms.length
 ·rw[Nat.min_eq_left h]
 ·rw[Nat.min_eq_right (by omega),List.take_of_length_le (Nat.le_refl _),List.take_of_length_le (by omega)]
theorem same_new {H:Hp}{p:Addr}(h:H p=none) (o:HO):Same H (upd H p o):=fun b u q=>by rw[upd_ne (ne_of_none q h)];exact q
end
end L2
namespace L2
open PySem PySem.Spec PyProof.Rows
mutual
inductive DV (K:PySem.W.Frag) (H:Hp):V→PyData→Prop
 | non:DV K H .non .none
 | bl (b:Bool):DV K H (.bl b) (.bool b)
 | int (i:Int):DV K H (.int i) (.int i)
 | str (x:Str):DV K H (.str x) (.str x)
 | lst {a:Addr}{xs:List V}{ds:List PyData}:SqL K H a xs→DVs K H xs ds→DV K H (.ref a) (.list ds)
 | tup {a:Addr}{xs:List V}{ds:List PyData}:SqT K H a xs→DVs K H xs ds→DV K H (.ref a) (.tuple ds)
inductive DVs (K:PySem.W.Frag) (H:Hp):List V→List PyData→Prop
 | nil:DVs K H [] []
 | cons {x:V}{d:PyData}{xs:List V}{ds:List PyData}:DV K H x d→DVs K H xs ds→DVs K H (x::xs) (d::ds)
end
section
variable {X:Cx}{pins:List (Addr×Obj)}{σ:St}{H:Hp}{s:Shared}
mutual
theorem DV.reads (I:Inv X pins σ H s):∀{x:V}{d:PyData}{v:Value},DV X.K H x d→RelV x v→∃as,Reads s.heap v d as
 | _,_,_,.non,r=>by cases r;exact⟨_,.none⟩
 | _,_,_,.bl b,r=>by cases r;exact⟨_,.bool b⟩
 | _,_,_,.int i,r=>by obtain⟨t,rfl⟩:=r;exact⟨_,.int i t⟩
 | _,_,_,.str x,r=>by obtain⟨t,rfl⟩:=r;exact⟨_,.str x t⟩
 | _,_,_,.lst (a:=a) h ds,r=>by
  cases r
  obtain⟨its,rv,⟨o,n,e,c,_,d⟩,_⟩:=I.list h
  obtain⟨as,q⟩:=DVs.reads I ds rv
  exact⟨_,.list e c d (by simpa using q)⟩
 | _,_,_,.tup (a:=a) h ds,r=>by
  cases r
  obtain⟨its,rv,⟨o,e,c,n,d⟩,_⟩:=I.tuple h
  obtain⟨as,q⟩:=DVs.reads I ds rv
  exact⟨_,.tuple e c d (by simpa using q)⟩
theorem DVs.reads (I:Inv X pins σ H s):∀{xs:List V}{ds:List PyData}{vs:List Value},DVs X.K H xs ds→Vals xs vs→∃as,ReadsAll s.heap vs ds as
 | _,_,_,.nil,r=>by cases r;exact⟨_,.nil⟩
 | _,_,_,.cons h t,r=>by
  cases r with
  | cons r1 r2 =>
   obtain⟨as,q⟩:=DV.reads I h r1
   obtain⟨bs,p⟩:=DVs.reads I t r2
   exact⟨_,.cons q p⟩
end
end
theorem DVs.ints {K:PySem.W.Frag}{H:Hp}:∀ns:List Int,DVs K H (ns.map V.int) (ns.map PyData.int)
 | []=>.nil
 | n::r=>.cons (.int n) (DVs.ints r)
theorem lay_ints:∀ns:List Int,PyData.canLayAll0 (ns.map PyData.int)=true∧PyData.depthAll (ns.map PyData.int)=0
 | []=>⟨rfl,rfl⟩
 | n::r=>by
  obtain⟨h1,h2⟩:=lay_ints r
  simp[PyData.canLayAll0,PyData.canLay0,PyData.depthAll,PyData.depth,h1,h2]
theorem shaped_ints (ns:List Int):SeqAt.shaped (.list (ns.map PyData.int))=true:=by
 obtain⟨h1,h2⟩:=lay_ints ns
 simp[SeqAt.shaped,PyData.canLay0,PyData.depth,h1,h2]
theorem eqv_ints:∀ns ms:List Int,PyData.eqvAll (ns.map PyData.int) (ms.map PyData.int)=decide (ns=ms)
 | [],[]=>rfl
 | [],_::_=>rfl
 | _::_,[]=>rfl
 | n::ns,m::ms=>by
  rw[List.map_cons,List.map_cons,PyData.eqvAll,PyData.eqv,eqv_ints ns ms,Bool.eq_iff_iff]
  simp
section
variable {X:Cx}
def rEqD (K:PySem.W.Frag):R2:=fun x y H Q=>∃d e,DV K H x d∧DV K H y e∧SeqAt.shaped d=true∧SeqAt.shaped e=true∧Q (.bl (PyData.eqv d e)) H
def rNeD (K:PySem.W.Frag):R2:=fun x y H Q=>∃d e,DV K H x d∧DV K H y e∧SeqAt.shaped d=true∧SeqAt.shaped e=true∧Q (.bl (!PyData.eqv d e)) H
theorem op_eqD (hu:X.A.units+64<cLine):OpR X (compareOp .Eq) (rEqD X.K):=by
 intro pins s σ H x y v u Q I rx ry h
 obtain⟨d,e,h1,h2,h3,h4,q⟩:=h
 obtain⟨as,r1⟩:=h1.reads I rx
 obtain⟨bs,r2⟩:=h2.reads I ry
 exact eq_dataH r1 r2 h3 h4 hu ⟨.bl _,H,I,rfl,q⟩
theorem op_neD (hu:X.A.units+64<cLine):OpR X (compareOp .NotEq) (rNeD X.K):=by
 intro pins s σ H x y v u Q I rx ry h
 obtain⟨d,e,h1,h2,h3,h4,q⟩:=h
 obtain⟨as,r1⟩:=h1.reads I rx
 obtain⟨bs,r2⟩:=h2.reads I ry
 exact ne_dataH r1 r2 h3 h4 hu ⟨.bl _,H,I,rfl,q⟩
end
end L2
namespace L2
open PySem PySem.Spec PyProof.Rows
section
variable {X:Cx}
theorem pe_gint {x:Str}{i:Int}{pos:Pos}(hg:Gl X x) (hm:∃t,X.mg x=some (.int i t)) (hd:(x ==("__debug__" : Str))=false:=by decide):PE X (.Name x pos) (tC (.int i)):=by
 obtain⟨t,hm⟩:=hm
 exact pe_glob hg hm ⟨_,rfl⟩ hd
theorem bools_get:∀{bs:List Bool}{its:List Value}{i:Nat}{v:Value},Vals (bs.map V.bl) its→its[i]? = some v→∃b,bs[i]? = some b∧v = .bool b
 | [],_,i,v,.nil,e=>by simp at e
 | b::bs,_,0,v,.cons r t,e=>by
  simp at e;subst e
  exact⟨b,rfl,r⟩
 | b::bs,_,i+1,v,.cons r t,e=>by
  obtain⟨c,h1,h2⟩:=bools_get (i:=i) (v:=v) t (by simpa using e)
  exact⟨c,by simpa using h1,h2⟩
theorem all_range (bs:List Bool):(List.range bs.length).all (fun i=>bs.getD i true)=bs.all id:=by
 rw[Bool.eq_iff_iff,List.all_eq_true,List.all_eq_true]
 constructor
 ·intro h b hb
  obtain⟨i,hi,rfl⟩:=List.mem_iff_getElem.mp hb
  have:=h i (List.mem_range.mpr hi)
  simpa [List.getD,hi] using this
 ·intro h i hi
  have hi':=List.mem_range.mp hi
  have:=h bs[i] (List.getElem_mem hi')
  simpa [List.getD,hi'] using this
theorem it_list {s:Shared}{l:Addr}{items:Array Value}{A:Around}{E:Value→Shared→Prop}{Q:Value→Shared→Prop}{prog:Program}{w:World}(hl:s.heap.IsList l items)
  (h:∀s₂:Shared,s₂ = { s with heap:=s.heap.push { cls:=.type "list_iterator",data:=.fields #[.ref l,.int 0 0] } }→(s₂.heap.IsListIter s.heap.objs.size l 0∧s₂.heap.IsList l items)→l≠s.heap.objs.size→Q (.ref s.heap.objs.size) s₂) :
  wpAny (model prog w) A (pyIter (.ref l)) Q E s:=by
 have hlt:l<s.heap.objs.size:=by obtain⟨_,e,_⟩:=hl;exact Heap.lt_size e
 exact wpAny_pyIter_list hl (h _ rfl ⟨⟨_,Heap.get?_push_size _ rfl,rfl,rfl⟩,hl.push _⟩ (Nat.ne_of_lt hlt))
def rAllL (K:PySem.W.Frag):List V→Hp→VK→Prop:=fun xs H Q=>∃a bs,xs=[.ref a]∧SqL K H a (List.map V.bl bs)∧Q (.bl (bs.all id)) H
theorem call_allL (hc:X.calm=true):CallR X (.builtin "all") (rAllL X.K):=by
 intro pins s σ H xs us Q I r h
 obtain⟨a,bs,rfl,hq,q⟩:=h
 obtain⟨u,rfl,r1⟩:=vals1 r
 cases (show u=Value.ref a from r1)
 obtain⟨its,rv,pl,hz⟩:=I.list hq
 have hlen:bs.length=its.length:=by simpa using rv.length
 refine call_all_walk (it_list pl.isList fun s₂ e st hne=>?_)
 subst e
 refine⟨_,_,_,_,_,_,fun i=>bs.getD i true,rfl,Walks.list (A:=X.A.in1) (I.ok.hd hc) _ a hne its.toArray,st,fun i v s' Q' E' hP hQ=>?_,fun h' tk hk=>?_⟩
 ·obtain⟨b,h1,rfl⟩:=bools_get rv (by simpa using hP)
  have e:bs.getD i true=b:=by simp[List.getD,h1]
  exact wpAny_truthy_bool (by have hQ2:=hQ;dsimp only at hQ2;rw[e]at hQ2;exact hQ2)
 ·refine⟨.bl (bs.all id),H,I.kept (fun b o e=>hk b o (fun z=>?_) (Heap.get?_push_of_some _ e)),?_,q⟩
  ·have z':b=s.heap.objs.size:=by simpa using z
   rw[z']at e
   exact absurd (Heap.lt_size e) (Nat.lt_irrefl _)
  ·show Value.bool _=Value.bool _
   rw[List.size_toArray,← hlen,all_range]
end
section
variable {X:Cx}{K:PySem.W.Frag}
theorem ix_tupK (h:X.K=K):IxR X (rIxT K):=by subst h;exact ix_tup
end
section
variable {σ:St}{H:Hp}{Q:VK}{D:Ends}
theorem rd_allL {K:PySem.W.Frag}{a:Addr}{bs:List Bool}(h:SqL K H a (bs.map V.bl)) (q:Q (.bl (bs.all id)) H):rAllL K [.ref a] H Q:=⟨a,bs,rfl,h,q⟩
theorem rd_ixT {K:PySem.W.Frag}{p:Addr}{xs:List V}{i:Int}{v:V}(h:SqT K H p xs) (e:atI xs i=some v) (q:Q v H):rIxT K (.ref p) (.int i) H Q:=⟨p,xs,i,v,rfl,rfl,h,e,q⟩
theorem comp_tup {vs:List Str}{js:List Nat}{g:TG}{tt:TT}{te:TE}{K:PySem.W.Frag}{a:Addr}{xs:List V}(Pv:Nat→St→List V→Hp→Prop) (D:Addr) (h0:Pv 0 (blkSt vs js σ) [] (upd H D (.lst []))) (hl:∀i σ' ys H',i≤xs.length→Pv i σ' ys H'→SqT K H' a xs)
  (hs:∀i x σ' ys H',xs[i]? = some x→Pv i σ' ys H'→g x σ' H' fun σ3 H3=>tt σ3 H3 fun b H4=>if b=true then te σ3 H4 fun y H5=>H5 D=some (.lst ys)∧ys.length<sizeLine∧Pv (i+1) σ3 (ys ++ [y]) (upd H5 D (.lst (ys ++ [y]))) else Pv (i+1) σ3 ys H4)
  (hd:∀σ' ys H',Pv xs.length σ' ys H'→Q (.ref D) H'):CompW (Itt K a) vs js σ g tt te Q D H:=by
 refine⟨fun i m σ' ys H'=>m=xs.length-i∧i≤xs.length∧Pv i σ' ys H',⟨xs.length,by simp,Nat.zero_le _,h0⟩,?_⟩
 rintro i m σ' ys H' ⟨rfl,hi,p⟩
 have q:=hl i σ' ys H' hi p
 by_cases hlt:i<xs.length
 ·refine .inr ⟨⟨xs,xs[i],q,by simp[hlt]⟩,Pv (i+1),fun σ2 zs H2 p'=>⟨xs.length-(i+1),by omega,rfl,hlt,p'⟩,fun x H2 y=>?_⟩
  obtain⟨e,y⟩:=y
  subst e
  exact hs i x σ' ys _ (y xs q) p
 ·have e:i=xs.length:=by omega
  subst e
  exact .inl ⟨⟨xs,q,Nat.le_refl _⟩,hd σ' ys H' p⟩
end
end L2
namespace L2
open PySem PySem.Spec PyProof.Rows
section
variable {κ:Type} [DecidableEq κ]
end
section
variable {P:Program}{w:World}{H:Hp}{h:Heap}{a:Addr}
end
section
variable {X:Cx}{pins:List (Addr×Obj)}{σ:St}{H:Hp}{s:Shared}{a:Addr}{y v:V}{u r:Value}{o:Option V}{A:Around}{E:Value→Shared→Prop}
theorem Inv.big (I:Inv X pins σ H s):sysModules<s.heap.objs.size:=by
 have h:mainGlobals<s.heap.objs.size:=(I.mod.glob.keeps I.bk).lt
 exact Nat.lt_trans (by decide) h
end
section
variable {X:Cx}{pins:List (Addr×Obj)}{σ:St}{H:Hp}{s:Shared}{a:Addr}{kvs:List (Key×V)}{k:Key}{u:Value}{A:Around}{E:Value→Shared→Prop}
end
section
variable {X:Cx}{o i e value:Expr}{pos pos' tpos:Pos}{td ty tv:TE}
end
theorem dk_empty {P:Program}{w:World}{H:Hp}(h:Heap) (hb:sysModules<h.objs.size):ObjOk P w H (h.push { cls:=.type "dict",data:=.dict #[] }) h.objs.size (.dK []) :=
 ⟨Nat.zero_le _,beq_eq_false_iff_ne.mpr (Ne.symm (Nat.ne_of_lt hb)),[],.nil,Heap.DictOf.new h⟩
def tDNewK:TE:=fun _ H Q=>∀p,H p=none→Q (.ref p) (upd H p (.dK []))
section
variable {X:Cx}{pos:Pos}
theorem pe_dnewK:PE X (.Dict [] [] pos) tDNewK:=fun pins s σ H Q I h =>
 wpAny_Dict_empty ⟨.ref s.heap.objs.size,_,I.laid (a:=s.heap.objs.size) (o:=.dK []) (t':=s.toks) (fun _ _ q=>Heap.get?_push_of_some _ q) (Nat.le_refl _) (dk_empty s.heap I.big),rfl,h _ (I.hok.fresh (Nat.le_refl _))⟩
end
section
variable {X:Cx}{pins:List (Addr×Obj)}{σ:St}{H:Hp}{s:Shared}{a:Addr}{y d:V}{u r:Value}{o:Option V}{A:Around}{E:Value→Shared→Prop}
end
section
variable {X:Cx}{o e f:Expr}{apos cpos:Pos}{td ty tx:TE}
end
section
variable {X:Cx}{pins:List (Addr×Obj)}{σ:St}{H:Hp}{s:Shared}{a:Addr}{kvs:List (Key×V)}{A:Around}{E:Value→Shared→Prop}
end
section
variable {X:Cx}{pins:List (Addr×Obj)}{σ:St}{H:Hp}{s:Shared}{a:Addr}{y:V}{u:Value}{A:Around}{E:Value→Shared→Prop}
end
end L2
namespace L2
open PySem PySem.Spec PyProof.Rows
section
variable {X:Cx}
def rCatS:R2:=fun x y H Q=>∃i j,x = .str i∧y = .str j∧i.length+j.length≤sizeLine∧Q (.str (i++j)) H
theorem op_catS:OpR X (binaryOp .Add) rCatS:=op_add_str
theorem strsAre_of {ns:List Str}:∀{us:List Value},Vals (ns.map V.str) us→StrsAre us ns:=by
 induction ns with
 | nil=>intro us r;cases r;exact .nil
 | cons n ns ih =>
  intro us r
  cases r with
  | cons r t =>
   obtain⟨tk,rfl⟩:=r
   exact .cons n tk (ih t)
def rJoin (K:PySem.W.Frag):V→List V→Hp→VK→Prop:=fun x vs H Q=>∃z a ys,x = .str z∧vs=[.ref a]∧SqL K H a (List.map V.str ys)∧(ys.map (·.length)).sum+ys.length*z.length≤16777216∧Q (.str (Txt.join z ys)) H
theorem mt_join:MtR X "str.join" (rJoin X.K):=by
 intro pins s σ H x xs v us Q I rx rs h
 obtain⟨z,a,ys,rfl,rfl,hq,hz,q⟩:=h
 obtain⟨t,rfl⟩:=rx
 obtain⟨u,rfl,ru⟩:=vals1 rs
 cases (show u=Value.ref a from ru)
 obtain⟨its,rv,pl,_⟩:=I.list hq
 exact join_list pl.isList (by simpa using strsAre_of rv) hz fun t' k=>⟨.str _,H,I.tok _,⟨_,rfl⟩,q⟩
end
section
variable {X:Cx}{tg:Expr}
end
section
variable {σ:St}{H:Hp}{Q:VK}{D:Ends}
theorem rd_ixS {z:Str}{i:Int}{c:Nat}(h:z.length≤sizeLine) (e:atI z.cps.toList i=some c) (q:Q (.str ⟨#[c]⟩) H):rIxS (.str z) (.int i) H Q:=⟨z,i,c,rfl,rfl,h,e,q⟩
end
end L2
namespace L2
open PySem PySem.Spec PyProof.Rows
section
variable {es:List Expr}{env:Env}
theorem stx_Constant {c j p}:starEach (.Constant c j p::es) env =(false,eval (.Constant c j p) env)::starEach es env:=rfl
theorem stx_Name {x p}:starEach (.Name x p::es) env =(false,eval (.Name x p) env)::starEach es env:=rfl
theorem stx_BinOp {a o b p}:starEach (.BinOp a o b p::es) env =(false,eval (.BinOp a o b p) env)::starEach es env:=rfl
theorem stx_Compare {a o b p}:starEach (.Compare a o b p::es) env =(false,eval (.Compare a o b p) env)::starEach es env:=rfl
theorem stx_Call {a o b p}:starEach (.Call a o b p::es) env =(false,eval (.Call a o b p) env)::starEach es env:=rfl
theorem stx_Subscript {a o p}:starEach (.Subscript a o p::es) env =(false,eval (.Subscript a o p) env)::starEach es env:=rfl
theorem stx_List {a p}:starEach (.List a p::es) env =(false,eval (.List a p) env)::starEach es env:=rfl
theorem stx_Tuple {a k p}:starEach (.Tuple a k p::es) env =(false,eval (.Tuple a k p) env)::starEach es env:=rfl
theorem stx_Dict {a k p}:starEach (.Dict a k p::es) env =(false,eval (.Dict a k p) env)::starEach es env:=rfl
theorem stx_ListComp {a b c p}:starEach (.ListComp a b c p::es) env =(false,eval (.ListComp a b c p) env)::starEach es env:=rfl
end
end L2
namespace L2
open PySem PySem.Spec PyProof.Rows
section
variable {X:Cx}
def rRng1:List V→Hp→VK→Prop:=fun xs H Q=>∃j,xs=[.int j]∧∀r,H r=none→Q (.ref r) (upd H r (.rng 0 j))
theorem call_rng1:CallR X (.type "range") rRng1:=by
 intro pins s σ H xs us Q I r h
 obtain⟨j,rfl,q⟩:=h
 obtain⟨u,rfl,rx⟩:=vals1 r
 obtain⟨t,rfl⟩:=rx
 refine call_range_1 ⟨.ref s.heap.objs.size,_,I.laid (fun b u e=>Heap.get?_push_of_some _ e) (Nat.le_refl _) (o:=.rng 0 j) ?_,rfl,q _ (I.hok.fresh (Nat.le_refl _))⟩
 exact⟨_,_,_,Heap.get?_push_size _ rfl⟩
def upN (n:Nat):List Int:=(List.range n).map fun(i:Nat)=>(i:Int)
def rListR:List V→Hp→VK→Prop:=fun xs H Q=>∃r j,xs=[.ref r]∧H r=some (.rng 0 j)∧0≤j∧j≤100000∧∀l,H l=none→Q (.ref l) (upd H l (.lst ((upN j.toNat).map V.int)))
theorem vals_of_items {n:Nat}{acc:Array Value}(h:ItemsOf (fun i v=>∃t,v=Value.int (0+i*1) t) acc n):Vals ((upN n).map V.int) acc.toList:=by
 obtain⟨hs,hi⟩:=h
 have key:∀(m:Nat) (l:List Value),l.length=m→(∀(i:Nat) v,l[i]? = some v→∃t,v=Value.int (0+(i:Int)*1) t)→Vals ((upN m).map V.int) l:=by
  intro m
  induction m with
  | zero=>intro l hl _;cases l with
   | nil=>exact .nil
   | cons a b=>cases hl
  | succ m ih =>
   intro l hl hv
   have hne:l ≠ []:=by intro z;rw[z]at hl;cases hl
   have hd:l=l.dropLast ++ [l.getLast hne]:=(List.dropLast_concat_getLast hne).symm
   have e:(upN (m+1)).map V.int =(upN m).map V.int ++ [V.int (m:Int)]:=by
    unfold upN
    rw[List.range_succ,List.map_append,List.map_append];rfl
   rw[e,hd]
   refine Vals.append (ih _ (by rw[List.length_dropLast,hl];rfl) fun i v hh=>hv i v ?_) (.cons ?_ .nil)
   ·have:i<l.dropLast.length:=(List.getElem?_eq_some_iff.mp hh).1
    rw[hd,List.getElem?_append_left this];exact hh
   ·obtain⟨t,ht⟩:=hv m (l.getLast hne) (by
     rw[List.getLast_eq_getElem,← List.getElem?_eq_getElem]
     congr 1
     omega)
    exact⟨t,by rw[ht];congr 1;omega⟩
 refine key n acc.toList (by rw[← hs];simp) fun i v hh=>?_
 exact hi i v (by simpa using hh)
theorem call_listR (hc:X.calm=true):CallR X (.type "list") rListR:=by
 intro pins s σ H xs us Q I r h
 obtain⟨a,j,rfl,ha,hj0,hj,q⟩:=h
 obtain⟨u,rfl,rx⟩:=vals1 r
 cases rx
 obtain⟨t,u,v,e⟩:=I.hok _ _ ha
 have hn:Builtin.Range.rangeSize 0 j 1 =(j.toNat:Nat):=by rw[rangeSize_one];split <;> omega
 have hlow:-(2^62)≤j:=by omega
 ·refine call_list_range (n:=j.toNat) (I.ok.hd hc) e (small_one (by omega) (by omega) hlow (by omega)) hn (by omega) fun h' tk acc c hk hD hI=>?_
  have hv:=vals_of_items hI
  have hz:((upN j.toNat).map V.int).length≤sizeLine:=by
   rw[List.length_map];unfold upN;rw[List.length_map,List.length_range]
   have:(100000:Nat)≤sizeLine:=by decide
   omega
  refine⟨.ref s.heap.objs.size,_,I.laid (t':=tk) hk (Nat.le_refl _) (o:=.lst ((upN j.toNat).map V.int)) ⟨hz,acc.toList,c,hv,by simpa using hD⟩,rfl,q _ (I.hok.fresh (Nat.le_refl _))⟩
theorem rd_rngV {j:Int}{H:Hp}{Q:VK}(q:∀r,H r=none→Q (.ref r) (upd H r (.rng 0 j))):rRng1 [.int j] H Q:=⟨j,rfl,q⟩
theorem upN_get {n i:Nat}{x:V}(h:((upN n).map V.int)[i]? = some x):i<n∧x = .int i:=by
 have hl:=(List.getElem?_eq_some_iff.mp h).1
 rw[List.length_map]at hl
 unfold upN at hl h
 rw[List.length_map,List.length_range]at hl
 rw[List.getElem?_map,List.getElem?_map,List.getElem?_range hl]at h
 exact⟨hl,(Option.some.inj h).symm⟩
end
end L2
namespace L2
open PySem PySem.Spec PyProof.Rows
section
variable {X:Cx}
def rRevL (K:PySem.W.Frag):V→Hp→VK→Prop:=fun x H Q=>∃a xs,x = .ref a∧SqL K H a xs∧∀p,H p=none→Q (.ref p) (upd H p (.lst xs.reverse))
def tRev (K:PySem.W.Frag) (te:TE):TE:=fun σ H Q=>te σ H fun x H1=>rRevL K x H1 Q
theorem evalPart_neg1 {env:Env}{j:Nat}{q1 q2:Pos}{M:Program}{w:World}{A:Around}{E:Value→Shared→Prop}{s:Shared}{Q:Value→Shared→Prop}(h:∀t tk,Q (.int (-1) t) { s with toks:=tk }) :
  wpAny (model M w) A (evalPart (some (.UnaryOp .USub (.Constant (.int 1) j q1) q2)) env) Q E s:=by
 show wpAny (model M w) A (eval (.UnaryOp .USub (.Constant (.int 1) j q1) q2) env) Q E s
 refine UnaryOp_ (wpAny_Constant_int ?_)
 exact neg_int (h _ _)
theorem pe_rev {e:Expr}{te:TE}{j:Nat}{q1 q2 p2 pos:Pos}(he:PE X e te):PE X (.Subscript e (.Slice none none (some (.UnaryOp .USub (.Constant (.int 1) j q1) q2)) p2) pos) (tRev X.K te):=by
 intro pins s σ H Q I h
 refine Subscript_ (thn (he pins s σ H _ I h) fun v s1 ⟨x,H1,I1,r1,q1⟩=>?_)
 obtain⟨a,xs,rfl,hx,q⟩:=q1
 cases r1
 refine wpAny_Slice ?_
 rw[evalPart_none]
 refine wpAny_pure ?_
 refine wpAny_pure ?_
 refine evalPart_neg1 fun t tk=>?_
 have I4:Inv X pins σ H1 { s1 with heap:=s1.heap.push { cls:=.type "slice",data:=.fields #[.none,.none,.int (-1) t] },toks:=tk }:=I1.kept (t':=tk) fun b ob q=>Heap.get?_push_of_some _ q
 obtain⟨its,r,ht,hz⟩:=I4.list hx
 have hlen:=r.length
 show wpAny (model X.prog X.w) X.A (subscriptTail e (.Slice none none (some (.UnaryOp .USub (.Constant (.int 1) j _) q2)) p2) (.ref a) (.ref s1.heap.objs.size)) (EP X pins σ Q) X.xe { s1 with heap:=s1.heap.push { cls:=.type "slice",data:=.fields #[.none,.none,.int (-1) t] },toks:=tk }
 refine tail_any (T := "list") (ops:=[.ref a,.ref s1.heap.objs.size]) ht.isList.typeIs slot_list_getitem.lookup ?_ (by with_unfolding_all rfl)
 refine wpAny_getItem_list_slice ht.isList (Heap.IsSliceOf.new ..) .none .none (.int (-1) t) (by simp) ?_ (by rw[List.size_toArray] <;> omega)
 rw[PySem.W.krv_pick]
 refine⟨.ref _,_,I4.laid (t':=tk) (o:=.lst xs.reverse) (fun b ob q=>Heap.get?_push_of_some _ q) (Nat.le_refl _) ?_,rfl,q _ (I4.hok.fresh (Nat.le_refl _))⟩
 exact⟨by rw[List.length_reverse];exact hz,its.reverse,0,r.reverse,(Heap.get?_push_size _ rfl:_)⟩
end
section
variable {K:PySem.W.Frag}{H:Hp}{Q:VK}{σ:St}
theorem rd_rev {te:TE}(h:te σ H fun x H1=>rRevL K x H1 Q):tRev K te σ H Q:=h
theorem flat_ints:∀ns:List Int,(ns.map V.int).all flatV=true
 | []=>rfl
 | n::r=>by rw[List.map_cons,List.all_cons,flat_ints r];rfl
theorem inV_ints (k:Int):∀ns:List Int,inV (.int k) (ns.map V.int)=decide (k∈ns)
 | []=>by simp[inV]
 | n::r=>by
  have ih:=inV_ints k r
  unfold inV at ih ⊢
  rw[List.map_cons,List.any_cons,ih]
  have e:eqV (V.int n) (V.int k)=decide (k=n):=by
   by_cases h:k=n
   ·subst h;simp[eqV]
   ·rw[decide_eq_false h]
    have h2:¬ n=k:=fun z=>h z.symm
    simp[eqV,h2]
  rw[e]
  simp[List.mem_cons]
theorem rd_inI {a:Addr}{ns:List Int}{k:Int}(h:SqL K H a (ns.map V.int)) (q:Q (.bl (decide (k∈ns))) H):rIn K false (.int k) (.ref a) H Q :=
 ⟨a,_,rfl,.inl h,rfl,flat_ints ns,by rw[inV_ints];exact q⟩
theorem rd_ninI {a:Addr}{ns:List Int}{k:Int}(h:SqL K H a (ns.map V.int)) (q:Q (.bl (!decide (k∈ns))) H):rIn K true (.int k) (.ref a) H Q :=
 ⟨a,_,rfl,.inl h,rfl,flat_ints ns,by rw[inV_ints];exact q⟩
end
end L2
namespace L2
open PySem PySem.Spec PyProof.Rows
section
variable {X:Cx}{pins:List (Addr×Obj)}{σ:St}{H:Hp}{s:Shared}{h':Heap}
theorem Inv.turnedL {t':Nat}{ch:List Addr}(I:Inv X pins σ H s) (k:∀b o,b∉ch→s.heap.get? b=some o→h'.get? b=some o) (f:∀b∈ch,FpOk X pins H b):Inv X pins σ H { s with heap:=h',toks:=t' }:=by
 have nit:∀b u,H b=some u→b∉ch:=fun b u e z=>by rw[(f b z).1]at e;cases e
 refine I.step (g':=s.gens) (d':=s.drawn) (ch:=ch) (fun b hb=>?_) (fun b o _ _ hc e _=>k b o hc e) (fun b o _ _ hc e _=>⟨o.slots,k b o hc e⟩) (fun _ _ _ _ n=>n) (fun b o hc e=>⟨o,k b o hc e⟩) (fun _ _ e=>e) (fun _ _ _ e=>e)
  (fun b ps e=>⟨#[],by rw[e];simp⟩) (fun m hm=>?_) (fun b u e=>?_) I.bare
 ·obtain⟨f0,f1,f2,f3,f4,f5⟩:=f b hb
  exact⟨f3,f1,f4,f5⟩
 ·obtain⟨o,es,ep,ho,r⟩:=hm
  exact⟨o,es,ep,k _ o (fun z=>(f _ z).2.1 rfl) ho,r⟩
 ·refine(I.hok b u e).stay (fun c v hc q=>k c v ?_ q) (fun _ q=>q) fun _ _ q=>q
  rcases hc with z|z
  ·rw[z];exact nit b u e
  ·exact nit c _ z
end
section
variable {X:Cx}{elts:List Expr}{x1:_}{tpos:Pos}
end
section
variable {K:PySem.W.Frag}{H:Hp}{Q:VK}{σ:St}
end
end L2
namespace L2
open PySem PySem.Spec PyProof.Rows
section
variable {X:Cx}{K:PySem.W.Frag}{tg:Expr}
end
end L2
namespace L2
open PySem PySem.Spec PyProof.Rows
def galS:Bool→Keyed→Array Keyed→Nat→Nat→Nat→StateT SortSt Sem (Option Nat):=sortPriv% PySem.Builtin.gallop
def bydS (lf:Bool) (ky:Keyed) (ar:Array Keyed) (bs j:Nat):StateT SortSt Sem (Option Bool):=do
 let z ← elem' ar (bs+j)
 if lf then lt' z ky else return (← lt' ky z).map (!·)
theorem galS_eq (lf:Bool) (ky:Keyed) (ar:Array Keyed) (bs nn ht:Nat):galS lf ky ar bs nn ht =(do
 let mut la:=0
 let mut of:=1
 let mut lx:=0
 let mut hx:=0
 let some rt ← bydS lf ky ar bs ht|return none
 if rt then
  let mx:=nn-ht
  for _ in [0:nn] do
   if of ≥ mx then break
   let some mo ← bydS lf ky ar bs (ht+of)|return none
   if !mo then break
   la:=of
   of:=2*of+1
  lx:=ht+la+1
  hx:=ht+min of mx
 else
  let mx:=ht+1
  for _ in [0:nn] do
   if of ≥ mx then break
   let some fo ← bydS lf ky ar bs (ht-of)|return none
   if fo then break
   la:=of
   of:=2*of+1
  lx:=ht+1-min of mx
  hx:=ht-la
 for _ in [0:nn] do
  if lx ≥ hx then break
  let mi:=lx+(hx-lx) / 2
  let some mo ← bydS lf ky ar bs mi|return none
  if mo then lx:=mi+1 else hx:=mi
 return some hx):=rfl
section
variable {prog:Program}{w:World}{A:Around}{E:Value→Shared→Prop}{s:Shared}
def LtOk (prog:Program) (w:World) (A:Around) (E:Value→Shared→Prop) (s:Shared) (ltb:Keyed→Keyed→Bool) (S:Keyed→Prop) (κ:SortKind):Prop :=
 ∀(x y:Keyed) (st:SortSt) (Q:Option Bool→SortSt→Prop),S x→S y→kindOf st=κ→Q (some (ltb x y)) st→wpS (model prog w) A E s (lt' x y) Q st
def Bf (ltb:Keyed→Keyed→Bool) (lf:Bool) (ky x:Keyed):Bool:=if lf then ltb x ky else !ltb ky x
variable {ltb:Keyed→Keyed→Bool}{S:Keyed→Prop}{κ:SortKind}
theorem wpS_elem {ar:Array Keyed}{i:Nat}{x:Keyed}{st:SortSt}{Q:Keyed→SortSt→Prop}(h:ar[i]? = some x) (q:Q x st):wpS (model prog w) A E s (elem' ar i) Q st:=by
 rw[elem'_eq,h];exact wpS_pure q
theorem wpS_byd {lf:Bool}{ky:Keyed}{ar:Array Keyed}{bs j:Nat}{x:Keyed}{st:SortSt}{Q:Option Bool→SortSt→Prop}(hO:LtOk prog w A E s ltb S κ) (hk:kindOf st=κ) (hky:S ky)
  (hx:ar[bs+j]? = some x) (hS:S x) (q:Q (some (Bf ltb lf ky x)) st):wpS (model prog w) A E s (bydS lf ky ar bs j) Q st:=by
 unfold bydS
 refine wpS_bind (wpS_elem hx ?_)
 cases lf with
 | true=>exact hO x ky st Q hS hky hk q
 | false =>
  refine wpS_bind (hO ky x st _ hky hS hk ?_)
  exact wpS_pure q
theorem wpS_gal {lf:Bool}{ky:Keyed}{ar:Array Keyed}{bs nn ht:Nat}{st:SortSt}{Q:Option Nat→SortSt→Prop}(hO:LtOk prog w A E s ltb S κ) (hk:kindOf st=κ) (hky:S ky) (B:Nat→Bool)
  (hB:∀j,j<nn→∃x,ar[bs+j]? = some x∧S x∧Bf ltb lf ky x=B j) (anti:∀i j,i≤j→j<nn→B j=true→B i=true) (hht:ht<nn)
  (h:∀k,k≤nn→(∀i,i<k→B i=true)→(∀i,k≤i→i<nn→B i=false)→Q (some k) st):wpS (model prog w) A E s (galS lf ky ar bs nn ht) Q st:=by
 have ask:∀(j:Nat) (Q:Option Bool→SortSt→Prop),j<nn→Q (some (B j)) st→wpS (model prog w) A E s (bydS lf ky ar bs j) Q st:=fun j Q hj q=>by
  obtain⟨x,hx,hS,e⟩:=hB j hj
  exact wpS_byd hO hk hky hx hS (by rw[e];exact q)
 have antiF:∀i j,i≤j→j<nn→B i=false→B j=false:=fun i j hij hj e=>by
  cases e2:B j with
  | false=>rfl
  | true=>rw[anti i j hij hj e2]at e;cases e
 rw[galS_eq]
 refine wpS_bind (ask ht _ hht ?_)
 dsimp only
 cases hr:B ht with
 | true =>
  simp only[if_true]
  refine wpS_bind (wpS_mono (wpS_forRange (I:=fun x c st'=>st'=st∧∃l o,c =(none,l,o)∧l<o∧x+1≤o∧(l<nn-ht)∧B (ht+l)=true)
   (Q:=fun c st'=>st'=st∧∃l o,c =(none,l,o)∧l<o∧l<nn-ht∧B (ht+l)=true∧(nn-ht≤o ∨(o<nn-ht∧B (ht+o)=false))) ?stp ?fin ⟨rfl,0,1,rfl,by omega,by omega,by omega,hr⟩) ?post)
  case fin =>
   rintro c st' ⟨rfl,l,o,rfl,a1,a2,a3,a4⟩
   exact⟨rfl,l,o,rfl,a1,a3,a4,.inl (by omega)⟩
  case stp =>
   rintro x c st' _ hx ⟨rfl,l,o,rfl,a1,a2,a3,a4⟩
   dsimp only
   by_cases hge:o ≥ nn-ht
   ·rw[if_pos hge]
    exact wpS_pure ⟨rfl,l,o,rfl,a1,a3,a4,.inl hge⟩
   ·rw[if_neg hge]
    refine wpS_bind (ask _ _ (by omega) ?_)
    dsimp only
    cases hm:B (ht+o) with
    | true =>
     simp only[Bool.not_true,Bool.false_eq_true,if_false]
     exact wpS_pure ⟨rfl,o,_,rfl,by omega,by omega,by omega,hm⟩
    | false =>
     simp only[Bool.not_false,if_true]
     exact wpS_pure ⟨rfl,l,o,rfl,a1,a3,a4,.inr ⟨by omega,hm⟩⟩
  case post =>
   rintro c st' ⟨est,l,o,rfl,a1,a2,a3,a4⟩
   rw[est]
   dsimp only
   have P1:∀i,i<ht+l+1→B i=true:=fun i hi=>anti i (ht+l) (by omega) (by omega) a3
   have P2:∀i,ht+min o (nn-ht)≤i→i<nn→B i=false:=fun i hi hi2=>by
    rcases a4 with z|⟨z1,z2⟩
    ·omega
    ·exact antiF (ht+o) i (by omega) hi2 z2
   refine wpS_bind (wpS_mono (wpS_forRange (I:=fun x c st'=>st'=st∧∃l r,c =(none,l,r)∧l≤r∧r≤nn∧r-l≤nn-x∧(∀i,i<l→B i=true)∧(∀i,r≤i→i<nn→B i=false))
    (Q:=fun c st'=>st'=st∧∃l,c =(none,l,l)∧l≤nn∧(∀i,i<l→B i=true)∧(∀i,l≤i→i<nn→B i=false)) ?stp2 ?fin2 ⟨rfl,ht+l+1,ht+min o (nn-ht),rfl,by omega,by omega,by omega,P1,P2⟩) ?post2)
   case fin2 =>
    rintro c st' ⟨rfl,l,r,rfl,a1,a2,a3,a4,a5⟩
    have:l=r:=by omega
    subst this
    exact⟨rfl,l,rfl,a2,a4,a5⟩
   case post2 =>
    rintro c st' ⟨rfl,l,rfl,a2,a4,a5⟩
    exact wpS_pure (h l a2 a4 a5)
   case stp2 =>
    rintro x c st' _ hx ⟨rfl,l,r,rfl,a1,a2,a3,a4,a5⟩
    dsimp only
    by_cases hge:l ≥ r
    ·rw[if_pos hge]
     have:l=r:=by omega
     subst this
     exact wpS_pure ⟨rfl,l,rfl,a2,a4,a5⟩
    ·rw[if_neg hge]
     refine wpS_bind (ask _ _ (by omega) ?_)
     dsimp only
     cases hm:B (l+(r-l) / 2) with
     | true =>
      simp only[if_true]
      exact wpS_pure ⟨rfl,_,r,rfl,by omega,a2,by omega,fun i hi=>anti i _ (by omega) (by omega) hm,a5⟩
     | false =>
      simp only[Bool.false_eq_true,if_false]
      exact wpS_pure ⟨rfl,l,_,rfl,by omega,by omega,by omega,a4,fun i hi hi2=>antiF _ i hi hi2 hm⟩
 | false =>
  simp only[Bool.false_eq_true,if_false]
  refine wpS_bind (wpS_mono (wpS_forRange (I:=fun x c st'=>st'=st∧∃l o,c =(none,l,o)∧l<o∧x+1≤o∧l<ht+1∧B (ht-l)=false)
   (Q:=fun c st'=>st'=st∧∃l o,c =(none,l,o)∧l<o∧l<ht+1∧B (ht-l)=false∧(ht+1≤o ∨(o<ht+1∧B (ht-o)=true))) ?stp ?fin ⟨rfl,0,1,rfl,by omega,by omega,by omega,hr⟩) ?post)
  case fin =>
   rintro c st' ⟨rfl,l,o,rfl,a1,a2,a3,a4⟩
   exact⟨rfl,l,o,rfl,a1,a3,a4,.inl (by omega)⟩
  case stp =>
   rintro x c st' _ hx ⟨rfl,l,o,rfl,a1,a2,a3,a4⟩
   dsimp only
   by_cases hge:o ≥ ht+1
   ·rw[if_pos hge]
    exact wpS_pure ⟨rfl,l,o,rfl,a1,a3,a4,.inl hge⟩
   ·rw[if_neg hge]
    refine wpS_bind (ask _ _ (by omega) ?_)
    dsimp only
    cases hm:B (ht-o) with
    | true =>
     simp only[if_true]
     exact wpS_pure ⟨rfl,l,o,rfl,a1,a3,a4,.inr ⟨by omega,hm⟩⟩
    | false =>
     simp only[Bool.false_eq_true,if_false]
     exact wpS_pure ⟨rfl,o,_,rfl,by omega,by omega,by omega,hm⟩
  case post =>
   rintro c st' ⟨est,l,o,rfl,a1,a2,a3,a4⟩
   rw[est]
   dsimp only
   have P1:∀i,i<ht+1-min o (ht+1)→B i=true:=fun i hi=>by
    rcases a4 with z|⟨z1,z2⟩
    ·omega
    ·exact anti i (ht-o) (by omega) (by omega) z2
   have P2:∀i,ht-l≤i→i<nn→B i=false:=fun i hi hi2=>antiF (ht-l) i (by omega) hi2 a3
   refine wpS_bind (wpS_mono (wpS_forRange (I:=fun x c st'=>st'=st∧∃l r,c =(none,l,r)∧l≤r∧r≤nn∧r-l≤nn-x∧(∀i,i<l→B i=true)∧(∀i,r≤i→i<nn→B i=false))
    (Q:=fun c st'=>st'=st∧∃l,c =(none,l,l)∧l≤nn∧(∀i,i<l→B i=true)∧(∀i,l≤i→i<nn→B i=false)) ?stp2 ?fin2 ⟨rfl,ht+1-min o (ht+1),ht-l,rfl,by omega,by omega,by omega,P1,P2⟩) ?post2)
   case fin2 =>
    rintro c st' ⟨rfl,l,r,rfl,a1,a2,a3,a4,a5⟩
    have:l=r:=by omega
    subst this
    exact⟨rfl,l,rfl,a2,a4,a5⟩
   case post2 =>
    rintro c st' ⟨rfl,l,rfl,a2,a4,a5⟩
    exact wpS_pure (h l a2 a4 a5)
   case stp2 =>
    rintro x c st' _ hx ⟨rfl,l,r,rfl,a1,a2,a3,a4,a5⟩
    dsimp only
    by_cases hge:l ≥ r
    ·rw[if_pos hge]
     have:l=r:=by omega
     subst this
     exact wpS_pure ⟨rfl,l,rfl,a2,a4,a5⟩
    ·rw[if_neg hge]
     refine wpS_bind (ask _ _ (by omega) ?_)
     dsimp only
     cases hm:B (l+(r-l) / 2) with
     | true =>
      simp only[if_true]
      exact wpS_pure ⟨rfl,_,r,rfl,by omega,a2,by omega,fun i hi=>anti i _ (by omega) (by omega) hm,a5⟩
     | false =>
      simp only[Bool.false_eq_true,if_false]
      exact wpS_pure ⟨rfl,l,_,rfl,by omega,by omega,by omega,a4,fun i hi hi2=>antiF _ i hi hi2 hm⟩
end
end L2
namespace L2
open PySem PySem.Spec PyProof.Rows
structure OrdB (ltb:Keyed→Keyed→Bool):Prop where
 asym:∀{x y},ltb x y=true→ltb y x=false
 tr:∀{x y z},ltb y x=false→ltb z y=false→ltb z x=false
def leB (ltb:Keyed→Keyed→Bool) (x y:Keyed):Prop:=ltb y x=false
section
variable {ltb:Keyed→Keyed→Bool}{xa xb ou:List Keyed}{ja jb k:Nat}
theorem drop_take_split {α:Type}(l:List α) (j k:Nat):l.drop j =(l.drop j).take k++l.drop (j+k):=by
 rw[← List.drop_drop];exact(List.take_append_drop k (l.drop j)).symm
theorem rise_le {l:List Keyed}(h:l.Pairwise (leB ltb)) {i j:Nat}(hi:i<j) {x y:Keyed}(hx:l[i]? = some x) (hy:l[j]? = some y):leB ltb x y:=by
 obtain⟨h1,rfl⟩:=List.getElem?_eq_some_iff.mp hx
 obtain⟨h2,rfl⟩:=List.getElem?_eq_some_iff.mp hy
 exact List.pairwise_iff_getElem.mp h i j h1 h2 hi
theorem rise_parts {l:List Keyed}(h:l.Pairwise (leB ltb)) (j k:Nat):((l.drop j).take k).Pairwise (leB ltb)∧∀x∈(l.drop j).take k,∀y∈l.drop (j+k),leB ltb x y:=by
 have hd:(l.drop j).Pairwise (leB ltb):=h.drop
 rw[drop_take_split l j k,List.pairwise_append]at hd
 exact⟨hd.1,hd.2.2⟩
structure MI (ltb:Keyed→Keyed→Bool) (xa xb ou:List Keyed) (ja jb:Nat):Prop where
 srt:ou.Pairwise (leB ltb)
 la:∀x∈ou,∀y∈xa.drop ja,leB ltb x y
 lb:∀x∈ou,∀y∈xb.drop jb,leB ltb x y
 pm:(ou++(xa.drop ja++xb.drop jb)).Perm (xa++xb)
 sz:ou.length=ja+jb
theorem MI.stepA (O:OrdB ltb) (sa:xa.Pairwise (leB ltb)) (sb:xb.Pairwise (leB ltb)) (m:MI ltb xa xb ou ja jb) (hk:ja+k≤xa.length) {z:Keyed}(hz:xb[jb]? = some z) (c:∀y∈(xa.drop ja).take k,leB ltb y z) :
  MI ltb xa xb (ou++(xa.drop ja).take k) (ja+k) jb:=by
 obtain⟨p1,p2⟩:=rise_parts sa ja k
 have sub:∀y∈(xa.drop ja).take k,y∈xa.drop ja:=fun y hy=>List.mem_of_mem_take hy
 have zb:∀y∈xb.drop jb,leB ltb z y∨y=z:=fun y hy=>by
  obtain⟨i,hi,e⟩:=List.getElem_of_mem hy
  have e2:xb[jb+i]? = some y:=by rw[← List.getElem?_drop,List.getElem?_eq_getElem hi,e]
  by_cases h0:i=0
  ·subst h0;rw[Nat.add_zero,hz]at e2;exact .inr (Option.some.inj e2).symm
  ·exact .inl (rise_le sb (by omega) hz e2)
 refine⟨?_,?_,?_,?_,?_⟩
 ·rw[List.pairwise_append]
  exact⟨m.srt,p1,fun x hx y hy=>m.la x hx y (sub y hy)⟩
 ·intro x hx y hy
  rcases List.mem_append.mp hx with h|h
  ·exact m.la x h y (by rw[drop_take_split xa ja k];exact List.mem_append_right _ hy)
  ·exact p2 x h y hy
 ·intro x hx y hy
  rcases List.mem_append.mp hx with h|h
  ·exact m.lb x h y hy
  ·rcases zb y hy with z1|z1
   ·exact O.tr (c x h) z1
   ·rw[z1];exact c x h
 ·have e:=drop_take_split xa ja k
  have:=m.pm
  rw[e]at this
  simpa [List.append_assoc] using this
 ·rw[List.length_append,m.sz,List.length_take,List.length_drop];omega
theorem MI.stepB (O:OrdB ltb) (sa:xa.Pairwise (leB ltb)) (sb:xb.Pairwise (leB ltb)) (m:MI ltb xa xb ou ja jb) (hk:jb+k≤xb.length) {z:Keyed}(hz:xa[ja]? = some z) (c:∀y∈(xb.drop jb).take k,leB ltb y z) :
  MI ltb xa xb (ou++(xb.drop jb).take k) ja (jb+k):=by
 obtain⟨p1,p2⟩:=rise_parts sb jb k
 have sub:∀y∈(xb.drop jb).take k,y∈xb.drop jb:=fun y hy=>List.mem_of_mem_take hy
 have za:∀y∈xa.drop ja,leB ltb z y∨y=z:=fun y hy=>by
  obtain⟨i,hi,e⟩:=List.getElem_of_mem hy
  have e2:xa[ja+i]? = some y:=by rw[← List.getElem?_drop,List.getElem?_eq_getElem hi,e]
  by_cases h0:i=0
  ·subst h0;rw[Nat.add_zero,hz]at e2;exact .inr (Option.some.inj e2).symm
  ·exact .inl (rise_le sa (by omega) hz e2)
 refine⟨?_,?_,?_,?_,?_⟩
 ·rw[List.pairwise_append]
  exact⟨m.srt,p1,fun x hx y hy=>m.lb x hx y (sub y hy)⟩
 ·intro x hx y hy
  rcases List.mem_append.mp hx with h|h
  ·exact m.la x h y hy
  ·rcases za y hy with z1|z1
   ·exact O.tr (c x h) z1
   ·rw[z1];exact c x h
 ·intro x hx y hy
  rcases List.mem_append.mp hx with h|h
  ·exact m.lb x h y (by rw[drop_take_split xb jb k];exact List.mem_append_right _ hy)
  ·exact p2 x h y hy
 ·have e:=drop_take_split xb jb k
  have:=m.pm
  rw[e]at this
  refine List.Perm.trans ?_ this
  rw[List.append_assoc]
  refine List.Perm.append_left _ ?_
  rw[← List.append_assoc,← List.append_assoc]
  refine List.Perm.append_right _ ?_
  exact List.perm_append_comm
 ·rw[List.length_append,m.sz,List.length_take,List.length_drop];omega
theorem MI.start (sb:xb.Pairwise (leB ltb)) {z y0:Keyed}(hz:xb[0]? = some z) (c:∀y∈xa,leB ltb z y):MI ltb xa xb [z] 0 1:=by
 have hx:xb=z::xb.drop 1:=by
  cases xb with
  | nil=>cases hz
  | cons b r=>obtain rfl:=Option.some.inj hz;rfl
 refine⟨by simp,fun x hx y hy=>?_,fun x hx2 y hy=>?_,?_,rfl⟩
 ·simp at hx hy;rw[hx];exact c y hy
 ·simp at hx2
  rw[hx2]
  rw[hx,List.pairwise_cons]at sb
  exact sb.1 y hy
 ·rw[List.drop_zero]
  refine List.Perm.trans ?_ (List.Perm.append_left xa (List.Perm.of_eq hx.symm))
  show(z::(xa++xb.drop 1)).Perm _
  exact List.perm_middle.symm
theorem MI.done (sa:xa.Pairwise (leB ltb)) (m:MI ltb xa xb ou ja jb) (h:jb=xb.length):(ou++xa.drop ja++xb.drop jb).Pairwise (leB ltb)∧(ou++xa.drop ja++xb.drop jb).Perm (xa++xb):=by
 have e:xb.drop jb=[]:=by rw[h];exact List.drop_length
 have pm:=m.pm
 rw[e,List.append_nil]at pm ⊢
 refine⟨?_,pm⟩
 rw[List.pairwise_append]
 exact⟨m.srt,sa.drop,m.la⟩
theorem MI.last (sa:xa.Pairwise (leB ltb)) (sb:xb.Pairwise (leB ltb)) (m:MI ltb xa xb ou ja jb) (h:∀x∈xb,∀y∈xa.drop ja,leB ltb x y) :
  (ou++xb.drop jb++xa.drop ja).Pairwise (leB ltb)∧(ou++xb.drop jb++xa.drop ja).Perm (xa++xb):=by
 constructor
 ·rw[List.pairwise_append,List.pairwise_append]
  refine⟨⟨m.srt,sb.drop,m.lb⟩,sa.drop,fun x hx y hy=>?_⟩
  rcases List.mem_append.mp hx with z|z
  ·exact m.la x z y hy
  ·exact h x (List.mem_of_mem_drop z) y hy
 ·refine List.Perm.trans ?_ m.pm
  rw[List.append_assoc]
  exact List.Perm.append_left _ List.perm_append_comm
end
end L2
namespace L2
open PySem PySem.Spec PyProof.Rows
def mloS:Array Keyed→Array Keyed→StateT SortSt Sem (Array Keyed):=sortPriv% PySem.Builtin.mergeLo
def dnS (xa xb ou:Array Keyed) (ja jb:Nat):Array Keyed:=ou++xa.extract ja xa.size++xb.extract jb xb.size
def lsS (xa xb ou:Array Keyed) (ja jb:Nat):Array Keyed:=ou++xb.extract jb xb.size++xa.extract ja xa.size
def smgS (g:Nat):StateT SortSt Sem Unit:=modify fun z=>SortSt.mk' (kindOf z) (arrOf z) (pendingOf z) g (failedOf z)
theorem mloS_eq (xa xb:Array Keyed):mloS xa xb =(do
 rule "list.sort.merge-lo"
 let mut ou:Array Keyed:=#[← elem' xb 0]
 let mut ja:=0
 let mut jb:=1
 if jb == xb.size then return dnS xa xb ou ja jb
 if ja+1 == xa.size then return lsS xa xb ou ja jb
 let mut mg:=gallopOf (← get)
 for _ in [0:xa.size+xb.size] do
  let mut ca:=0
  let mut cb:=0
  for _ in [0:xa.size+xb.size] do
   let some bw ← lt' (← elem' xb jb) (← elem' xa ja)|return dnS xa xb ou ja jb
   if bw then
    ou:=ou.push (← elem' xb jb);jb:=jb+1;cb:=cb+1;ca:=0
    if jb == xb.size then return dnS xa xb ou ja jb
    if cb ≥ mg then break
   else
    ou:=ou.push (← elem' xa ja);ja:=ja+1;ca:=ca+1;cb:=0
    if ja+1 == xa.size then return lsS xa xb ou ja jb
    if ca ≥ mg then break
  rule "list.sort.gallop"
  mg:=mg+1
  for _ in [0:xa.size+xb.size] do
   if mg > 1 then mg:=mg-1
   smgS mg
   let some kk ← galS false (← elem' xb jb) xa ja (xa.size-ja) 0|return dnS xa xb ou ja jb
   ca:=kk
   if kk > 0 then
    ou:=ou++xa.extract ja (ja+kk);ja:=ja+kk
    if ja+1 == xa.size then return lsS xa xb ou ja jb
    if ja == xa.size then return dnS xa xb ou ja jb
   ou:=ou.push (← elem' xb jb);jb:=jb+1
   if jb == xb.size then return dnS xa xb ou ja jb
   let some kk ← galS true (← elem' xa ja) xb jb (xb.size-jb) 0|return dnS xa xb ou ja jb
   cb:=kk
   if kk > 0 then
    ou:=ou++xb.extract jb (jb+kk);jb:=jb+kk
    if jb == xb.size then return dnS xa xb ou ja jb
   ou:=ou.push (← elem' xa ja);ja:=ja+1
   if ja+1 == xa.size then return lsS xa xb ou ja jb
   if ca<7 && cb<7 then break
  mg:=mg+1
  smgS mg
 unsupported "internal:list.sort.merge-bound"):=rfl
theorem ext_drop (x:Array Keyed) (j:Nat):(x.extract j x.size).toList=x.toList.drop j:=by
 rw[Array.toList_extract]
 exact List.take_of_length_le (by simp)
theorem ext_part (x:Array Keyed) (j k:Nat):(x.extract j (j+k)).toList =(x.toList.drop j).take k:=by
 rw[Array.toList_extract]
 show List.take (j+k-j) (List.drop j x.toList)=_
 rw[show j+k-j=k by omega]
section
variable {ltb:Keyed→Keyed→Bool}{xa xb ou:Array Keyed}{ja jb k:Nat}
theorem one_at {x:Array Keyed}{j:Nat}{b:Keyed}(h:x[j]? = some b):(x.toList.drop j).take 1=[b]:=by
 have hj:=(Array.getElem?_eq_some_iff.mp h).1
 have e:=(Array.getElem?_eq_some_iff.mp h).2
 rw[List.drop_eq_getElem_cons (by simpa using hj)]
 simp[e]
theorem MI.pB (O:OrdB ltb) (sa:xa.toList.Pairwise (leB ltb)) (sb:xb.toList.Pairwise (leB ltb)) (m:MI ltb xa.toList xb.toList ou.toList ja jb) {b y:Keyed}(hb:xb[jb]? = some b) (hy:xa[ja]? = some y) (c:leB ltb b y):MI ltb xa.toList xb.toList (ou.push b).toList ja (jb+1):=by
 have hj:=(Array.getElem?_eq_some_iff.mp hb).1
 have:=m.stepB O sa sb (k:=1) (by rw[Array.length_toList];omega) (z:=y) (by simpa using hy) (by rw[one_at hb];intro x hx;simp at hx;rw[hx];exact c)
 rw[one_at hb]at this
 simpa using this
theorem MI.pA (O:OrdB ltb) (sa:xa.toList.Pairwise (leB ltb)) (sb:xb.toList.Pairwise (leB ltb)) (m:MI ltb xa.toList xb.toList ou.toList ja jb) {b y:Keyed}(hb:xb[jb]? = some b) (hy:xa[ja]? = some y) (c:leB ltb y b):MI ltb xa.toList xb.toList (ou.push y).toList (ja+1) jb:=by
 have hj:=(Array.getElem?_eq_some_iff.mp hy).1
 have:=m.stepA O sa sb (k:=1) (by rw[Array.length_toList];omega) (z:=b) (by simpa using hb) (by rw[one_at hy];intro x hx;simp at hx;rw[hx];exact c)
 rw[one_at hy]at this
 simpa using this
theorem part_at {x:Array Keyed}{j k:Nat}{y:Keyed}(h:y∈(x.toList.drop j).take k):∃i,i<k∧x[j+i]? = some y:=by
 obtain⟨i,hi,e⟩:=List.getElem_of_mem h
 rw[List.length_take]at hi
 refine⟨i,by omega,?_⟩
 rw[List.getElem_take,List.getElem_drop]at e
 have hl:j+i<x.size:=by rw[List.length_drop]at hi;simp at hi;omega
 rw[Array.getElem?_eq_getElem hl]
 simpa using e
theorem MI.eA (O:OrdB ltb) (sa:xa.toList.Pairwise (leB ltb)) (sb:xb.toList.Pairwise (leB ltb)) (m:MI ltb xa.toList xb.toList ou.toList ja jb) (hk:ja+k≤xa.size) {b:Keyed}(hb:xb[jb]? = some b) (c:∀i,i<k→∀x,xa[ja+i]? = some x→leB ltb x b) :
  MI ltb xa.toList xb.toList (ou++xa.extract ja (ja+k)).toList (ja+k) jb:=by
 have:=m.stepA O sa sb (k:=k) (by simpa using hk) (z:=b) (by simpa using hb) (fun y hy=>by obtain⟨i,h1,h2⟩:=part_at hy;exact c i h1 y h2)
 rw[Array.toList_append,ext_part];exact this
theorem MI.eB (O:OrdB ltb) (sa:xa.toList.Pairwise (leB ltb)) (sb:xb.toList.Pairwise (leB ltb)) (m:MI ltb xa.toList xb.toList ou.toList ja jb) (hk:jb+k≤xb.size) {y:Keyed}(hy:xa[ja]? = some y) (c:∀i,i<k→∀x,xb[jb+i]? = some x→leB ltb x y) :
  MI ltb xa.toList xb.toList (ou++xb.extract jb (jb+k)).toList ja (jb+k):=by
 have:=m.stepB O sa sb (k:=k) (by simpa using hk) (z:=y) (by simpa using hy) (fun y hy=>by obtain⟨i,h1,h2⟩:=part_at hy;exact c i h1 y h2)
 rw[Array.toList_append,ext_part];exact this
theorem arr_le {x:Array Keyed}(h:x.toList.Pairwise (leB ltb)) {i j:Nat}(hij:i<j) {u v:Keyed}(hu:x[i]? = some u) (hv:x[j]? = some v):leB ltb u v :=
 rise_le h hij (by simpa using hu) (by simpa using hv)
theorem arr_mem {x:Array Keyed}{i:Nat}{u:Keyed}(hu:x[i]? = some u):u∈x.toList:=by
 have:=Array.mem_of_getElem? hu
 simpa using this
end
section
variable {prog:Program}{w:World}{A:Around}{E:Value→Shared→Prop}{s:Shared}{ltb:Keyed→Keyed→Bool}{S:Keyed→Prop}{κ:SortKind}
theorem wpS_galR (O:OrdB ltb) (hO:LtOk prog w A E s ltb S κ) {x:Array Keyed}{bs nn ht:Nat}{ky:Keyed}{st:SortSt}{Q:Option Nat→SortSt→Prop}(hk:kindOf st=κ) (hky:S ky) (Sx:∀u∈x.toList,S u) (sx:∀i j u v,i<j→j<nn→x[bs+i]? = some u→x[bs+j]? = some v→leB ltb u v)
  (hn:bs+nn≤x.size) (hht:ht<nn) (h:∀k,k≤nn→(∀i,i<k→∀u,x[bs+i]? = some u→leB ltb u ky)→(∀i,k≤i→i<nn→∀u,x[bs+i]? = some u→ltb ky u=true)→Q (some k) st):wpS (model prog w) A E s (galS false ky x bs nn ht) Q st:=by
 have ex:∀j,j<nn→∃u,x[bs+j]? = some u:=fun j hj=>⟨_,Array.getElem?_eq_getElem (by omega)⟩
 refine wpS_gal hO hk hky (fun j=>match x[bs+j]? with|some u=>Bf ltb false ky u|none=>false) (fun j hj=>?_) (fun i j hij hj hb=>?_) hht fun k h1 h2 h3=>h k h1 (fun i hi u hu=>?_) fun i hi hi2 u hu=>?_
 ·obtain⟨u,hu⟩:=ex j hj
  exact⟨u,hu,Sx u (arr_mem hu),by simp only[hu]⟩
 ·obtain⟨u,hu⟩:=ex i (by omega)
  obtain⟨v,hv⟩:=ex j hj
  simp only[hu,hv,Bf,Bool.false_eq_true,if_false,Bool.not_eq_true']at hb ⊢
  by_cases e:i=j
  ·subst e;rw[hu]at hv;cases hv;exact hb
  ·exact O.tr (sx i j u v (by omega) hj hu hv) hb
 ·have:=h2 i hi
  simp only[hu,Bf,Bool.false_eq_true,if_false,Bool.not_eq_true']at this
  exact this
 ·have:=h3 i hi hi2
  simp only[hu,Bf,Bool.false_eq_true,if_false,Bool.not_eq_false']at this
  exact this
theorem wpS_galL (O:OrdB ltb) (hO:LtOk prog w A E s ltb S κ) {x:Array Keyed}{bs nn ht:Nat}{ky:Keyed}{st:SortSt}{Q:Option Nat→SortSt→Prop}(hk:kindOf st=κ) (hky:S ky) (Sx:∀u∈x.toList,S u) (sx:∀i j u v,i<j→j<nn→x[bs+i]? = some u→x[bs+j]? = some v→leB ltb u v)
  (hn:bs+nn≤x.size) (hht:ht<nn) (h:∀k,k≤nn→(∀i,i<k→∀u,x[bs+i]? = some u→ltb u ky=true)→(∀i,k≤i→i<nn→∀u,x[bs+i]? = some u→leB ltb ky u)→Q (some k) st):wpS (model prog w) A E s (galS true ky x bs nn ht) Q st:=by
 have ex:∀j,j<nn→∃u,x[bs+j]? = some u:=fun j hj=>⟨_,Array.getElem?_eq_getElem (by omega)⟩
 refine wpS_gal hO hk hky (fun j=>match x[bs+j]? with|some u=>Bf ltb true ky u|none=>false) (fun j hj=>?_) (fun i j hij hj hb=>?_) hht fun k h1 h2 h3=>h k h1 (fun i hi u hu=>?_) fun i hi hi2 u hu=>?_
 ·obtain⟨u,hu⟩:=ex j hj
  exact⟨u,hu,Sx u (arr_mem hu),by simp only[hu]⟩
 ·obtain⟨u,hu⟩:=ex i (by omega)
  obtain⟨v,hv⟩:=ex j hj
  simp only[hu,hv,Bf,if_true]at hb ⊢
  by_cases e:i=j
  ·subst e;rw[hu]at hv;cases hv;exact hb
  ·have l1:=sx i j u v (by omega) hj hu hv
   cases q:ltb u ky with
   | true=>rfl
   | false=>have:=O.tr q l1;rw[this]at hb;cases hb
 ·have:=h2 i hi
  simp only[hu,Bf,if_true]at this
  exact this
 ·have:=h3 i hi hi2
  simp only[hu,Bf,if_true]at this
  exact this
end
section
variable {prog:Program}{w:World}{A:Around}{E:Value→Shared→Prop}{s:Shared}{ltb:Keyed→Keyed→Bool}{S:Keyed→Prop}{κ:SortKind}
structure SS (κ:SortKind) (st st':SortSt):Prop where
 kind:kindOf st'=κ
 fail:failedOf st'=none
 arr:arrOf st'=arrOf st
 pend:pendingOf st'=pendingOf st
theorem SS.smg {st st':SortSt}(h:SS κ st st') (g:Nat):SS κ st (SortSt.mk' (kindOf st') (arrOf st') (pendingOf st') g (failedOf st')):=⟨h.kind,h.fail,h.arr,h.pend⟩
theorem wpS_mlo (O:OrdB ltb) (hO:LtOk prog w A E s ltb S κ) {xa xb:Array Keyed}{st:SortSt}{Q:Array Keyed→SortSt→Prop}(Sa:∀x∈xa.toList,S x) (Sb:∀x∈xb.toList,S x) (sa:xa.toList.Pairwise (leB ltb)) (sb:xb.toList.Pairwise (leB ltb))
  {z:Keyed}(hz:xb[0]? = some z) (hfst:∀y∈xa.toList,leB ltb z y) (ha0:0<xa.size) (hlst:∀x∈xb.toList,∀y,xa[xa.size-1]? = some y→ltb x y=true) (hS:SS κ st st)
  (h:∀r st',r.toList.Pairwise (leB ltb)→r.toList.Perm (xa.toList++xb.toList)→SS κ st st'→Q r st'):wpS (model prog w) A E s (mloS xa xb) Q st:=by
 have hb0:0<xb.size:=by
  have:=(Array.getElem?_eq_some_iff.mp hz).1;exact this
 have mdone:∀(ou:Array Keyed) (ja jb:Nat) (st':SortSt),MI ltb xa.toList xb.toList ou.toList ja jb→jb=xb.size→SS κ st st'→Q (dnS xa xb ou ja jb) st':=fun ou ja jb st' m e ss=>by
  obtain⟨p1,p2⟩:=m.done sa (by rw[e];simp)
  have el:(dnS xa xb ou ja jb).toList=ou.toList++xa.toList.drop ja++xb.toList.drop jb:=by unfold dnS;rw[Array.toList_append,Array.toList_append,ext_drop,ext_drop]
  exact h _ _ (by rw[el];exact p1) (by rw[el];exact p2) ss
 have mlast:∀(ou:Array Keyed) (ja jb:Nat) (st':SortSt),MI ltb xa.toList xb.toList ou.toList ja jb→ja+1=xa.size→SS κ st st'→Q (lsS xa xb ou ja jb) st':=fun ou ja jb st' m e ss=>by
  obtain⟨p1,p2⟩:=m.last sa sb (fun x hx y hy=>by
   obtain⟨i,hi,e2⟩:=List.getElem_of_mem hy
   have hi0:i=0:=by rw[List.length_drop]at hi;simp at hi;omega
   subst hi0
   have e3:xa[xa.size-1]? = some y:=by
    rw[List.getElem_drop]at e2
    rw[show xa.size-1=ja by omega]
    rw[← e2];simp
   exact O.asym (hlst x hx y e3))
  have el:(lsS xa xb ou ja jb).toList=ou.toList++xb.toList.drop jb++xa.toList.drop ja:=by unfold lsS;rw[Array.toList_append,Array.toList_append,ext_drop,ext_drop]
  exact h _ _ (by rw[el];exact p1) (by rw[el];exact p2) ss
 have mi0:MI ltb xa.toList xb.toList [z] 0 1:=MI.start (y0:=z) sb (by simpa using hz) hfst
 rw[mloS_eq]
 refine wpS_bind (wpS_lift (wpAny_rule ⟨rfl,?_⟩))
 refine wpS_bind (wpS_elem hz ?_)
 dsimp only
 by_cases c1:1=xb.size
 ·rw[if_pos (by simpa using c1)]
  exact wpS_pure (mdone #[z] 0 1 st mi0 c1 hS)
 rw[if_neg (by simpa using c1)]
 by_cases c2:0+1=xa.size
 ·rw[if_pos (by simpa using c2)]
  exact wpS_pure (mlast #[z] 0 1 st mi0 c2 hS)
 rw[if_neg (by simpa using c2)]
 refine wpS_bind (wpS_get ?_)
 have at1:∀{x:Array Keyed}{j:Nat},j<x.size→∃u,x[j]? = some u:=fun {x j} hj=>⟨_,Array.getElem?_eq_getElem hj⟩
 refine wpS_bind (wpS_mono (wpS_forRange
  (I:=fun x c st'=>SS κ st st'∧∃ou ja jb mg,c =(none,ou,ja,jb,mg)∧MI ltb xa.toList xb.toList ou.toList ja jb∧ja+1<xa.size∧jb<xb.size∧x+1≤ja+jb)
  (Q:=fun c st'=>∃r ou ja jb mg,c =(some r,ou,ja,jb,mg)∧Q r st') ?stp ?fin ⟨hS,#[z],0,1,_,rfl,mi0,by omega,by omega,by omega⟩) ?post)
 case fin =>
  rintro c st' ⟨ss,ou,ja,jb,mg,rfl,m,b1,b2,b3⟩
  omega
 case post =>
  rintro c st' ⟨r,ou,ja,jb,mg,rfl,hq⟩
  exact wpS_pure hq
 case stp =>
  rintro x c st1 _ hx ⟨ss,ou,ja,jb,mg,rfl,m,b1,b2,b3⟩
  dsimp only
  refine wpS_bind (wpS_mono (wpS_forRange
   (I:=fun y c st'=>SS κ st st'∧∃ou' ja' jb' ca cb,c =(none,ou',ja',jb',ca,cb)∧MI ltb xa.toList xb.toList ou'.toList ja' jb'∧ja'+1<xa.size∧jb'<xb.size∧ja+jb+y≤ja'+jb')
   (Q:=fun c st'=>(∃r ou' ja' jb' ca cb,c =(some r,ou',ja',jb',ca,cb)∧Q r st') ∨(SS κ st st'∧∃ou' ja' jb' ca cb,c =(none,ou',ja',jb',ca,cb)∧MI ltb xa.toList xb.toList ou'.toList ja' jb'∧ja'+1<xa.size∧jb'<xb.size∧ja+jb+1≤ja'+jb')) ?stp1 ?fin1 ⟨ss,ou,ja,jb,0,0,rfl,m,b1,b2,by omega⟩) ?post1)
  case fin1 =>
   rintro c st' ⟨ss,ou',ja',jb',ca,cb,rfl,m,d1,d2,d3⟩
   exact .inr ⟨ss,ou',ja',jb',ca,cb,rfl,m,d1,d2,by omega⟩
  case stp1 =>
   rintro y c st2 _ hy ⟨ss,ou',ja',jb',ca,cb,rfl,m,d1,d2,d3⟩
   dsimp only
   obtain⟨vb,hvb⟩:=at1 (x:=xb) d2
   obtain⟨va,hva⟩:=at1 (x:=xa) (j:=ja') (by omega)
   refine wpS_bind (wpS_elem hvb (wpS_bind (wpS_elem hva (wpS_bind (hO vb va _ _ (Sb _ (arr_mem hvb)) (Sa _ (arr_mem hva)) ss.kind ?_)))))
   dsimp only
   cases hw:ltb vb va with
   | true =>
    simp only[if_true]
    have m2:=m.pB O sa sb hvb hva (O.asym hw)
    refine wpS_bind (wpS_elem hvb ?_)
    by_cases e1:jb'+1=xb.size
    ·rw[if_pos (by simpa using e1)]
     exact wpS_pure (.inl ⟨_,_,_,_,_,_,rfl,mdone _ _ _ _ m2 e1 ss⟩)
    ·rw[if_neg (by simpa using e1)]
     split
     ·exact wpS_pure (.inr ⟨ss,_,_,_,_,_,rfl,m2,d1,by omega,by omega⟩)
     ·exact wpS_pure ⟨ss,_,_,_,_,_,rfl,m2,d1,by omega,by omega⟩
   | false =>
    simp only[Bool.false_eq_true,if_false]
    have m2:=m.pA O sa sb hvb hva hw
    refine wpS_bind (wpS_elem hva ?_)
    by_cases e1:ja'+1+1=xa.size
    ·rw[if_pos (by simpa using e1)]
     exact wpS_pure (.inl ⟨_,_,_,_,_,_,rfl,mlast _ _ _ _ m2 e1 ss⟩)
    ·rw[if_neg (by simpa using e1)]
     split
     ·exact wpS_pure (.inr ⟨ss,_,_,_,_,_,rfl,m2,by omega,d2,by omega⟩)
     ·exact wpS_pure ⟨ss,_,_,_,_,_,rfl,m2,by omega,d2,by omega⟩
  case post1 =>
   rintro c st2 (⟨r,ou',ja',jb',ca,cb,rfl,hq⟩|⟨ss,ou',ja',jb',ca,cb,rfl,m,d1,d2,d3⟩)
   ·exact wpS_pure ⟨r,_,_,_,_,rfl,hq⟩
   dsimp only
   refine wpS_bind (wpS_lift (wpAny_rule ⟨rfl,?_⟩))
   refine wpS_bind (wpS_mono (wpS_forRange
    (I:=fun y c st'=>SS κ st st'∧∃ou' ja' jb' mg ca cb,c =(none,ou',ja',jb',mg,ca,cb)∧MI ltb xa.toList xb.toList ou'.toList ja' jb'∧ja'+1<xa.size∧jb'<xb.size∧ja+jb+1≤ja'+jb')
    (Q:=fun c st'=>(∃r ou' ja' jb' mg ca cb,c =(some r,ou',ja',jb',mg,ca,cb)∧Q r st') ∨(SS κ st st'∧∃ou' ja' jb' mg ca cb,c =(none,ou',ja',jb',mg,ca,cb)∧MI ltb xa.toList xb.toList ou'.toList ja' jb'∧ja'+1<xa.size∧jb'<xb.size∧ja+jb+1≤ja'+jb')) ?stp2 ?fin2 ⟨ss,ou',ja',jb',_,ca,cb,rfl,m,d1,d2,d3⟩) ?post2)
   case fin2 =>
    rintro c st' hh
    exact .inr hh
   case post2 =>
    rintro c st3 (⟨r,ou2,ja2,jb2,mg2,ca2,cb2,rfl,hq⟩|⟨ss,ou2,ja2,jb2,mg2,ca2,cb2,rfl,m,f1,f2,f3⟩)
    ·exact wpS_pure ⟨r,_,_,_,_,rfl,hq⟩
    ·dsimp only
     refine wpS_bind (wpS_modify ?_)
     exact wpS_pure ⟨ss.smg _,_,_,_,_,rfl,m,f1,f2,by omega⟩
   case stp2 =>
    rintro y c st3 _ hy ⟨ss,ou2,ja2,jb2,mg2,ca2,cb2,rfl,m,f1,f2,f3⟩
    dsimp only
    obtain⟨vb,hvb⟩:=at1 (x:=xb) f2
    have sxa:∀(q:Nat) i j u v,i<j→j<xa.size-q→xa[q+i]? = some u→xa[q+j]? = some v→leB ltb u v:=fun q i j u v hij _ hu hv=>arr_le sa (by omega) hu hv
    have sxb:∀(q:Nat) i j u v,i<j→j<xb.size-q→xb[q+i]? = some u→xb[q+j]? = some v→leB ltb u v:=fun q i j u v hij _ hu hv=>arr_le sb (by omega) hu hv
    obtain⟨vl,hvl⟩:=at1 (x:=xa) (j:=xa.size-1) (by omega)
    have hbl:=hlst vb (arr_mem hvb) vl hvl
    by_cases hg:mg2 > 1
    ·rw[if_pos hg]
     refine wpS_bind (wpS_modify ?_)
     have ss2:=ss.smg (mg2-1)
     refine wpS_bind (wpS_elem hvb (wpS_bind (wpS_galR O hO ss2.kind (Sb _ (arr_mem hvb)) Sa (sxa ja2) (by omega) (by omega) fun k hk1 hk2 hk3=>?_)))
     have hkl:k<xa.size-ja2:=by
      by_cases q:k<xa.size-ja2
      ·exact q
      ·have:=hk2 (xa.size-ja2-1) (by omega) vl (by rw[show ja2+(xa.size-ja2-1)=xa.size-1 by omega];exact hvl)
       unfold leB at this
       rw[hbl]at this;cases this
     dsimp only
     by_cases kp:k > 0
     ·rw[if_pos kp]
      have M3:=m.eA O sa sb (k:=k) (by omega) hvb hk2
      by_cases e0:ja2+k+1=xa.size
      ·rw[if_pos (by simpa using e0)]
       exact wpS_pure (.inl ⟨_,_,_,_,_,_,_,rfl,mlast _ _ _ _ M3 e0 ss2⟩)
      rw[if_neg (by simpa using e0),if_neg (by simp;omega)]
      obtain⟨va,hva⟩:=at1 (x:=xa) (j:=ja2+k) (by omega)
      have hw:=hk3 k (Nat.le_refl _) hkl va hva
      refine wpS_bind (wpS_elem hvb ?_)
      have m4:=M3.pB O sa sb hvb hva (O.asym hw)
      by_cases e1:jb2+1=xb.size
      ·rw[if_pos (by simpa using e1)]
       exact wpS_pure (.inl ⟨_,_,_,_,_,_,_,rfl,mdone _ _ _ _ m4 e1 ss2⟩)
      rw[if_neg (by simpa using e1)]
      refine wpS_bind (wpS_elem hva (wpS_bind (wpS_galL O hO ss2.kind (Sa _ (arr_mem hva)) Sb (sxb (jb2+1)) (by omega) (by omega) fun k2 g1 g2 g3=>?_)))
      dsimp only
      by_cases k2p:k2 > 0
      ·rw[if_pos k2p]
       have m5:=m4.eB O sa sb (k:=k2) (by omega) hva (fun i hi u hu=>O.asym (g2 i hi u hu))
       by_cases e2:jb2+1+k2=xb.size
       ·rw[if_pos (by simpa using e2)]
        exact wpS_pure (.inl ⟨_,_,_,_,_,_,_,rfl,mdone _ _ _ _ m5 e2 ss2⟩)
       rw[if_neg (by simpa using e2)]
       obtain⟨vb2,hvb2⟩:=at1 (x:=xb) (j:=jb2+1+k2) (by omega)
       have m6:=m5.pA O sa sb hvb2 hva (g3 k2 (Nat.le_refl _) (by omega) vb2 hvb2)
       refine wpS_bind (wpS_elem hva ?_)
       by_cases e3:ja2+k+1+1=xa.size
       ·rw[if_pos (by simpa using e3)]
        exact wpS_pure (.inl ⟨_,_,_,_,_,_,_,rfl,mlast _ _ _ _ m6 e3 ss2⟩)
       rw[if_neg (by simpa using e3)]
       split
       ·exact wpS_pure (.inr ⟨ss2,_,_,_,_,_,_,rfl,m6,by omega,by omega,by omega⟩)
       ·exact wpS_pure ⟨ss2,_,_,_,_,_,_,rfl,m6,by omega,by omega,by omega⟩
      ·rw[if_neg k2p]
       obtain⟨vb2,hvb2⟩:=at1 (x:=xb) (j:=jb2+1) (by omega)
       have m6:=m4.pA O sa sb hvb2 hva (g3 0 (by omega) (by omega) vb2 hvb2)
       refine wpS_bind (wpS_elem hva ?_)
       by_cases e3:ja2+k+1+1=xa.size
       ·rw[if_pos (by simpa using e3)]
        exact wpS_pure (.inl ⟨_,_,_,_,_,_,_,rfl,mlast _ _ _ _ m6 e3 ss2⟩)
       rw[if_neg (by simpa using e3)]
       split
       ·exact wpS_pure (.inr ⟨ss2,_,_,_,_,_,_,rfl,m6,by omega,by omega,by omega⟩)
       ·exact wpS_pure ⟨ss2,_,_,_,_,_,_,rfl,m6,by omega,by omega,by omega⟩
     ·rw[if_neg kp]
      have M3:=m
      obtain⟨va,hva⟩:=at1 (x:=xa) (j:=ja2) (by omega)
      have hw:=hk3 0 (by omega) (by omega) va hva
      refine wpS_bind (wpS_elem hvb ?_)
      have m4:=M3.pB O sa sb hvb hva (O.asym hw)
      by_cases e1:jb2+1=xb.size
      ·rw[if_pos (by simpa using e1)]
       exact wpS_pure (.inl ⟨_,_,_,_,_,_,_,rfl,mdone _ _ _ _ m4 e1 ss2⟩)
      rw[if_neg (by simpa using e1)]
      refine wpS_bind (wpS_elem hva (wpS_bind (wpS_galL O hO ss2.kind (Sa _ (arr_mem hva)) Sb (sxb (jb2+1)) (by omega) (by omega) fun k2 g1 g2 g3=>?_)))
      dsimp only
      by_cases k2p:k2 > 0
      ·rw[if_pos k2p]
       have m5:=m4.eB O sa sb (k:=k2) (by omega) hva (fun i hi u hu=>O.asym (g2 i hi u hu))
       by_cases e2:jb2+1+k2=xb.size
       ·rw[if_pos (by simpa using e2)]
        exact wpS_pure (.inl ⟨_,_,_,_,_,_,_,rfl,mdone _ _ _ _ m5 e2 ss2⟩)
       rw[if_neg (by simpa using e2)]
       obtain⟨vb2,hvb2⟩:=at1 (x:=xb) (j:=jb2+1+k2) (by omega)
       have m6:=m5.pA O sa sb hvb2 hva (g3 k2 (Nat.le_refl _) (by omega) vb2 hvb2)
       refine wpS_bind (wpS_elem hva ?_)
       by_cases e3:ja2+1+1=xa.size
       ·rw[if_pos (by simpa using e3)]
        exact wpS_pure (.inl ⟨_,_,_,_,_,_,_,rfl,mlast _ _ _ _ m6 e3 ss2⟩)
       rw[if_neg (by simpa using e3)]
       split
       ·exact wpS_pure (.inr ⟨ss2,_,_,_,_,_,_,rfl,m6,by omega,by omega,by omega⟩)
       ·exact wpS_pure ⟨ss2,_,_,_,_,_,_,rfl,m6,by omega,by omega,by omega⟩
      ·rw[if_neg k2p]
       obtain⟨vb2,hvb2⟩:=at1 (x:=xb) (j:=jb2+1) (by omega)
       have m6:=m4.pA O sa sb hvb2 hva (g3 0 (by omega) (by omega) vb2 hvb2)
       refine wpS_bind (wpS_elem hva ?_)
       by_cases e3:ja2+1+1=xa.size
       ·rw[if_pos (by simpa using e3)]
        exact wpS_pure (.inl ⟨_,_,_,_,_,_,_,rfl,mlast _ _ _ _ m6 e3 ss2⟩)
       rw[if_neg (by simpa using e3)]
       split
       ·exact wpS_pure (.inr ⟨ss2,_,_,_,_,_,_,rfl,m6,by omega,by omega,by omega⟩)
       ·exact wpS_pure ⟨ss2,_,_,_,_,_,_,rfl,m6,by omega,by omega,by omega⟩
    ·rw[if_neg hg]
     refine wpS_bind (wpS_modify ?_)
     have ss2:=ss.smg mg2
     refine wpS_bind (wpS_elem hvb (wpS_bind (wpS_galR O hO ss2.kind (Sb _ (arr_mem hvb)) Sa (sxa ja2) (by omega) (by omega) fun k hk1 hk2 hk3=>?_)))
     have hkl:k<xa.size-ja2:=by
      by_cases q:k<xa.size-ja2
      ·exact q
      ·have:=hk2 (xa.size-ja2-1) (by omega) vl (by rw[show ja2+(xa.size-ja2-1)=xa.size-1 by omega];exact hvl)
       unfold leB at this
       rw[hbl]at this;cases this
     dsimp only
     by_cases kp:k > 0
     ·rw[if_pos kp]
      have M3:=m.eA O sa sb (k:=k) (by omega) hvb hk2
      by_cases e0:ja2+k+1=xa.size
      ·rw[if_pos (by simpa using e0)]
       exact wpS_pure (.inl ⟨_,_,_,_,_,_,_,rfl,mlast _ _ _ _ M3 e0 ss2⟩)
      rw[if_neg (by simpa using e0),if_neg (by simp;omega)]
      obtain⟨va,hva⟩:=at1 (x:=xa) (j:=ja2+k) (by omega)
      have hw:=hk3 k (Nat.le_refl _) hkl va hva
      refine wpS_bind (wpS_elem hvb ?_)
      have m4:=M3.pB O sa sb hvb hva (O.asym hw)
      by_cases e1:jb2+1=xb.size
      ·rw[if_pos (by simpa using e1)]
       exact wpS_pure (.inl ⟨_,_,_,_,_,_,_,rfl,mdone _ _ _ _ m4 e1 ss2⟩)
      rw[if_neg (by simpa using e1)]
      refine wpS_bind (wpS_elem hva (wpS_bind (wpS_galL O hO ss2.kind (Sa _ (arr_mem hva)) Sb (sxb (jb2+1)) (by omega) (by omega) fun k2 g1 g2 g3=>?_)))
      dsimp only
      by_cases k2p:k2 > 0
      ·rw[if_pos k2p]
       have m5:=m4.eB O sa sb (k:=k2) (by omega) hva (fun i hi u hu=>O.asym (g2 i hi u hu))
       by_cases e2:jb2+1+k2=xb.size
       ·rw[if_pos (by simpa using e2)]
        exact wpS_pure (.inl ⟨_,_,_,_,_,_,_,rfl,mdone _ _ _ _ m5 e2 ss2⟩)
       rw[if_neg (by simpa using e2)]
       obtain⟨vb2,hvb2⟩:=at1 (x:=xb) (j:=jb2+1+k2) (by omega)
       have m6:=m5.pA O sa sb hvb2 hva (g3 k2 (Nat.le_refl _) (by omega) vb2 hvb2)
       refine wpS_bind (wpS_elem hva ?_)
       by_cases e3:ja2+k+1+1=xa.size
       ·rw[if_pos (by simpa using e3)]
        exact wpS_pure (.inl ⟨_,_,_,_,_,_,_,rfl,mlast _ _ _ _ m6 e3 ss2⟩)
       rw[if_neg (by simpa using e3)]
       split
       ·exact wpS_pure (.inr ⟨ss2,_,_,_,_,_,_,rfl,m6,by omega,by omega,by omega⟩)
       ·exact wpS_pure ⟨ss2,_,_,_,_,_,_,rfl,m6,by omega,by omega,by omega⟩
      ·rw[if_neg k2p]
       obtain⟨vb2,hvb2⟩:=at1 (x:=xb) (j:=jb2+1) (by omega)
       have m6:=m4.pA O sa sb hvb2 hva (g3 0 (by omega) (by omega) vb2 hvb2)
       refine wpS_bind (wpS_elem hva ?_)
       by_cases e3:ja2+k+1+1=xa.size
       ·rw[if_pos (by simpa using e3)]
        exact wpS_pure (.inl ⟨_,_,_,_,_,_,_,rfl,mlast _ _ _ _ m6 e3 ss2⟩)
       rw[if_neg (by simpa using e3)]
       split
       ·exact wpS_pure (.inr ⟨ss2,_,_,_,_,_,_,rfl,m6,by omega,by omega,by omega⟩)
       ·exact wpS_pure ⟨ss2,_,_,_,_,_,_,rfl,m6,by omega,by omega,by omega⟩
     ·rw[if_neg kp]
      have M3:=m
      obtain⟨va,hva⟩:=at1 (x:=xa) (j:=ja2) (by omega)
      have hw:=hk3 0 (by omega) (by omega) va hva
      refine wpS_bind (wpS_elem hvb ?_)
      have m4:=M3.pB O sa sb hvb hva (O.asym hw)
      by_cases e1:jb2+1=xb.size
      ·rw[if_pos (by simpa using e1)]
       exact wpS_pure (.inl ⟨_,_,_,_,_,_,_,rfl,mdone _ _ _ _ m4 e1 ss2⟩)
      rw[if_neg (by simpa using e1)]
      refine wpS_bind (wpS_elem hva (wpS_bind (wpS_galL O hO ss2.kind (Sa _ (arr_mem hva)) Sb (sxb (jb2+1)) (by omega) (by omega) fun k2 g1 g2 g3=>?_)))
      dsimp only
      by_cases k2p:k2 > 0
      ·rw[if_pos k2p]
       have m5:=m4.eB O sa sb (k:=k2) (by omega) hva (fun i hi u hu=>O.asym (g2 i hi u hu))
       by_cases e2:jb2+1+k2=xb.size
       ·rw[if_pos (by simpa using e2)]
        exact wpS_pure (.inl ⟨_,_,_,_,_,_,_,rfl,mdone _ _ _ _ m5 e2 ss2⟩)
       rw[if_neg (by simpa using e2)]
       obtain⟨vb2,hvb2⟩:=at1 (x:=xb) (j:=jb2+1+k2) (by omega)
       have m6:=m5.pA O sa sb hvb2 hva (g3 k2 (Nat.le_refl _) (by omega) vb2 hvb2)
       refine wpS_bind (wpS_elem hva ?_)
       by_cases e3:ja2+1+1=xa.size
       ·rw[if_pos (by simpa using e3)]
        exact wpS_pure (.inl ⟨_,_,_,_,_,_,_,rfl,mlast _ _ _ _ m6 e3 ss2⟩)
       rw[if_neg (by simpa using e3)]
       split
       ·exact wpS_pure (.inr ⟨ss2,_,_,_,_,_,_,rfl,m6,by omega,by omega,by omega⟩)
       ·exact wpS_pure ⟨ss2,_,_,_,_,_,_,rfl,m6,by omega,by omega,by omega⟩
      ·rw[if_neg k2p]
       obtain⟨vb2,hvb2⟩:=at1 (x:=xb) (j:=jb2+1) (by omega)
       have m6:=m4.pA O sa sb hvb2 hva (g3 0 (by omega) (by omega) vb2 hvb2)
       refine wpS_bind (wpS_elem hva ?_)
       by_cases e3:ja2+1+1=xa.size
       ·rw[if_pos (by simpa using e3)]
        exact wpS_pure (.inl ⟨_,_,_,_,_,_,_,rfl,mlast _ _ _ _ m6 e3 ss2⟩)
       rw[if_neg (by simpa using e3)]
       split
       ·exact wpS_pure (.inr ⟨ss2,_,_,_,_,_,_,rfl,m6,by omega,by omega,by omega⟩)
       ·exact wpS_pure ⟨ss2,_,_,_,_,_,_,rfl,m6,by omega,by omega,by omega⟩
end
end L2
namespace L2
open PySem PySem.Spec PyProof.Rows
def mhiS:Array Keyed→Array Keyed→StateT SortSt Sem (Array Keyed):=sortPriv% PySem.Builtin.mergeHi
def dhS (xa xb ou:Array Keyed) (na nb:Nat):Array Keyed:=xa.extract 0 na++xb.extract 0 nb++ou.reverse
def fhS (xa xb ou:Array Keyed) (na nb:Nat):Array Keyed:=xb.extract 0 nb++xa.extract 0 na++ou.reverse
theorem mhiS_eq (xa xb:Array Keyed):mhiS xa xb =(do
 rule "list.sort.merge-hi"
 let mut qa:=xa.size-1
 let mut qb:=xb.size
 let mut ou:Array Keyed:=#[← elem' xa qa]
 if qa == 0 then return dhS xa xb ou qa qb
 if qb == 1 then return fhS xa xb ou qa qb
 let mut mg:=gallopOf (← get)
 for _ in [0:xa.size+xb.size] do
  let mut ca:=0
  let mut cb:=0
  for _ in [0:xa.size+xb.size] do
   let some aw ← lt' (← elem' xb (qb-1)) (← elem' xa (qa-1))|return dhS xa xb ou qa qb
   if aw then
    qa:=qa-1;ou:=ou.push (← elem' xa qa);ca:=ca+1;cb:=0
    if qa == 0 then return dhS xa xb ou qa qb
    if ca ≥ mg then break
   else
    qb:=qb-1;ou:=ou.push (← elem' xb qb);cb:=cb+1;ca:=0
    if qb == 1 then return fhS xa xb ou qa qb
    if cb ≥ mg then break
  rule "list.sort.gallop"
  mg:=mg+1
  for _ in [0:xa.size+xb.size] do
   if mg > 1 then mg:=mg-1
   smgS mg
   let some tt ← galS false (← elem' xb (qb-1)) xa 0 qa (qa-1)|return dhS xa xb ou qa qb
   let kk:=qa-tt
   ca:=kk
   if kk > 0 then
    ou:=ou++(xa.extract tt qa).reverse;qa:=tt
    if qa == 0 then return dhS xa xb ou qa qb
   qb:=qb-1;ou:=ou.push (← elem' xb qb)
   if qb == 1 then return fhS xa xb ou qa qb
   let some tt ← galS true (← elem' xa (qa-1)) xb 0 qb (qb-1)|return dhS xa xb ou qa qb
   let kk:=qb-tt
   cb:=kk
   if kk > 0 then
    ou:=ou++(xb.extract tt qb).reverse;qb:=tt
    if qb == 1 then return fhS xa xb ou qa qb
    if qb == 0 then return dhS xa xb ou qa qb
   qa:=qa-1;ou:=ou.push (← elem' xa qa)
   if qa == 0 then return dhS xa xb ou qa qb
   if ca<7 && cb<7 then break
  mg:=mg+1
  smgS mg
 unsupported "internal:list.sort.merge-bound"):=rfl
def flipB (ltb:Keyed→Keyed→Bool):Keyed→Keyed→Bool:=fun x y=>ltb y x
theorem OrdB.flip {ltb:Keyed→Keyed→Bool}(O:OrdB ltb):OrdB (flipB ltb):=⟨fun h=>O.asym h,fun h1 h2=>O.tr h2 h1⟩
section
variable {ltb:Keyed→Keyed→Bool}{xa xb ou:Array Keyed}{na nb k:Nat}
theorem rev_rise {l:List Keyed}(h:l.Pairwise (leB ltb)):l.reverse.Pairwise (leB (flipB ltb)):=by
 rw[List.pairwise_reverse]
 exact h
theorem rise_rev {l:List Keyed}(h:l.Pairwise (leB (flipB ltb))):l.reverse.Pairwise (leB ltb):=by
 rw[List.pairwise_reverse]
 exact h
def HI (ltb:Keyed→Keyed→Bool) (xa xb ou:Array Keyed) (na nb:Nat):Prop:=MI (flipB ltb) xb.toList.reverse xa.toList.reverse ou.toList (xb.size-nb) (xa.size-na)
theorem rev_drop (x:Array Keyed) {n:Nat}(h:n≤x.size):x.toList.reverse.drop (x.size-n) =(x.toList.take n).reverse:=by
 rw[List.drop_reverse,Array.length_toList,show x.size-(x.size-n)=n by omega]
theorem rev_part (x:Array Keyed) {n t:Nat}(h:n≤x.size) (ht:t≤n):(x.toList.reverse.drop (x.size-n)).take (n-t) =((x.toList.take n).drop t).reverse:=by
 rw[rev_drop x h,List.take_reverse,List.length_take,Array.length_toList,show min n x.size-(n-t)=t by omega]
theorem rev_get (x:Array Keyed) {n:Nat}(h1:1≤n) (h:n≤x.size):x.toList.reverse[x.size-n]? = x[n-1]?:=by
 rw[List.getElem?_reverse (by rw[Array.length_toList];omega),Array.length_toList]
 rw[show x.size-1-(x.size-n)=n-1 by omega]
 simp
theorem HI.chA (O:OrdB ltb) (sa:xa.toList.Pairwise (leB ltb)) (sb:xb.toList.Pairwise (leB ltb)) (m:HI ltb xa xb ou na nb) {t:Nat}(ha:na≤xa.size) (ht:t≤na) (hb1:1≤nb) (hb:nb≤xb.size) {b:Keyed}(hvb:xb[nb-1]? = some b)
  (c:∀i,t≤i→i<na→∀x,xa[i]? = some x→leB ltb b x) {ou2:Array Keyed}(eo:ou2.toList=ou.toList++((xa.toList.take na).drop t).reverse):HI ltb xa xb ou2 t nb:=by
 have q:=MI.stepB O.flip (rev_rise sb) (rev_rise sa) m (k:=na-t) (by rw[List.length_reverse,Array.length_toList];omega) (z:=b) (by rw[rev_get xb hb1 hb];exact hvb) (fun y hy=>by
  rw[rev_part xa ha ht,List.mem_reverse]at hy
  obtain⟨i,hi,e⟩:=List.getElem_of_mem hy
  rw[List.length_drop,List.length_take,Array.length_toList]at hi
  rw[List.getElem_drop,List.getElem_take]at e
  exact c (t+i) (by omega) (by omega) y (by rw[Array.getElem?_eq_getElem (by omega)];simpa using e))
 rw[rev_part xa ha ht,← eo]at q
 unfold HI
 rw[show xa.size-t=xa.size-na+(na-t) by omega]
 exact q
theorem HI.chB (O:OrdB ltb) (sa:xa.toList.Pairwise (leB ltb)) (sb:xb.toList.Pairwise (leB ltb)) (m:HI ltb xa xb ou na nb) {t:Nat}(hb:nb≤xb.size) (ht:t≤nb) (ha1:1≤na) (ha:na≤xa.size) {a:Keyed}(hva:xa[na-1]? = some a)
  (c:∀i,t≤i→i<nb→∀x,xb[i]? = some x→leB ltb a x) {ou2:Array Keyed}(eo:ou2.toList=ou.toList++((xb.toList.take nb).drop t).reverse):HI ltb xa xb ou2 na t:=by
 have q:=MI.stepA O.flip (rev_rise sb) (rev_rise sa) m (k:=nb-t) (by rw[List.length_reverse,Array.length_toList];omega) (z:=a) (by rw[rev_get xa ha1 ha];exact hva) (fun y hy=>by
  rw[rev_part xb hb ht,List.mem_reverse]at hy
  obtain⟨i,hi,e⟩:=List.getElem_of_mem hy
  rw[List.length_drop,List.length_take,Array.length_toList]at hi
  rw[List.getElem_drop,List.getElem_take]at e
  exact c (t+i) (by omega) (by omega) y (by rw[Array.getElem?_eq_getElem (by omega)];simpa using e))
 rw[rev_part xb hb ht,← eo]at q
 unfold HI
 rw[show xb.size-t=xb.size-nb+(nb-t) by omega]
 exact q
theorem one_rev {x:Array Keyed}{n:Nat}(h1:1≤n) (h:n≤x.size) {v:Keyed}(hv:x[n-1]? = some v):((x.toList.take n).drop (n-1)).reverse=[v]:=by
 have e:=(Array.getElem?_eq_some_iff.mp hv).2
 rw[List.drop_eq_getElem_cons (by rw[List.length_take,Array.length_toList];omega)]
 rw[List.drop_eq_nil_of_le (by rw[List.length_take,Array.length_toList];omega)]
 rw[List.getElem_take]
 simp[e]
theorem HI.done (sb:xb.toList.Pairwise (leB ltb)) (m:HI ltb xa xb ou 0 nb) (hb:nb≤xb.size):(dhS xa xb ou 0 nb).toList.Pairwise (leB ltb)∧(dhS xa xb ou 0 nb).toList.Perm (xa.toList++xb.toList):=by
 obtain⟨p1,p2⟩:=MI.done (rev_rise sb) m (by rw[List.length_reverse,Array.length_toList];omega)
 have el:(dhS xa xb ou 0 nb).toList =(ou.toList++xb.toList.reverse.drop (xb.size-nb)++xa.toList.reverse.drop (xa.size-0)).reverse:=by
  unfold dhS
  rw[rev_drop xb hb,rev_drop xa (Nat.zero_le _)]
  simp
 rw[el]
 refine⟨rise_rev p1,((List.reverse_perm _).trans p2).trans ?_⟩
 refine List.perm_append_comm.trans ?_
 exact List.Perm.append (List.reverse_perm _) (List.reverse_perm _)
theorem HI.first (sa:xa.toList.Pairwise (leB ltb)) (sb:xb.toList.Pairwise (leB ltb)) (m:HI ltb xa xb ou na nb) (ha:na≤xa.size) (hb:nb≤xb.size) (h:∀x∈xa.toList,∀y∈xb.toList.take nb,leB ltb y x) :
  (fhS xa xb ou na nb).toList.Pairwise (leB ltb)∧(fhS xa xb ou na nb).toList.Perm (xa.toList++xb.toList):=by
 obtain⟨p1,p2⟩:=MI.last (rev_rise sb) (rev_rise sa) m (fun x hx y hy=>by
  rw[rev_drop xb hb,List.mem_reverse]at hy
  exact h x (List.mem_reverse.mp hx) y hy)
 have el:(fhS xa xb ou na nb).toList =(ou.toList++xa.toList.reverse.drop (xa.size-na)++xb.toList.reverse.drop (xb.size-nb)).reverse:=by
  unfold fhS
  rw[rev_drop xb hb,rev_drop xa ha]
  simp
 rw[el]
 refine⟨rise_rev p1,((List.reverse_perm _).trans p2).trans ?_⟩
 refine List.perm_append_comm.trans ?_
 exact List.Perm.append (List.reverse_perm _) (List.reverse_perm _)
end
end L2
namespace L2
open PySem PySem.Spec PyProof.Rows
section
variable {prog:Program}{w:World}{A:Around}{E:Value→Shared→Prop}{s:Shared}{ltb:Keyed→Keyed→Bool}{S:Keyed→Prop}{κ:SortKind}
local macro_rules | `(tactic| omega)=>`(tactic| omega (config:={}))
theorem wpS_mhi (O:OrdB ltb) (hO:LtOk prog w A E s ltb S κ) {xa xb:Array Keyed}{st:SortSt}{Q:Array Keyed→SortSt→Prop}(Sa:∀x∈xa.toList,S x) (Sb:∀x∈xb.toList,S x) (sa:xa.toList.Pairwise (leB ltb)) (sb:xb.toList.Pairwise (leB ltb))
  {z zl:Keyed}(hz:xb[0]? = some z) (hfst:∀y∈xa.toList,ltb z y=true) (hzl:xa[xa.size-1]? = some zl) (hlst:∀x∈xb.toList,ltb x zl=true) (hS:SS κ st st)
  (h:∀r st',r.toList.Pairwise (leB ltb)→r.toList.Perm (xa.toList++xb.toList)→SS κ st st'→Q r st'):wpS (model prog w) A E s (mhiS xa xb) Q st:=by
 have hb0:0<xb.size:=(Array.getElem?_eq_some_iff.mp hz).1
 have ha0:0<xa.size:=by have:=(Array.getElem?_eq_some_iff.mp hzl).1;omega
 have mdone:∀(ou:Array Keyed) (na nb:Nat) (st':SortSt),HI ltb xa xb ou na nb→na=0→nb≤xb.size→SS κ st st'→Q (dhS xa xb ou na nb) st':=fun ou na nb st' m e hb ss=>by
  subst e
  obtain⟨p1,p2⟩:=m.done sb hb
  exact h _ _ p1 p2 ss
 have mfirst:∀(ou:Array Keyed) (na nb:Nat) (st':SortSt),HI ltb xa xb ou na nb→nb=1→na≤xa.size→SS κ st st'→Q (fhS xa xb ou na nb) st':=fun ou na nb st' m e ha ss=>by
  subst e
  obtain⟨p1,p2⟩:=m.first sa sb ha (by omega) (fun x hx y hy=>by
   have e1:xb.toList.take 1=[z]:=by have:=one_at hz;simpa using this
   rw[e1]at hy
   simp at hy
   rw[hy]
   exact O.asym (hfst x hx))
  exact h _ _ p1 p2 ss
 have mi0:HI ltb xa xb #[zl] (xa.size-1) xb.size:=by
  unfold HI
  rw[Nat.sub_self,show xa.size-(xa.size-1)=1 by omega]
  refine MI.start (y0:=zl) (rev_rise sa) ?_ (fun y hy=>O.asym (hlst y (List.mem_reverse.mp hy)))
  have:=rev_get xa (n:=xa.size) (by omega) (Nat.le_refl _)
  rw[Nat.sub_self]at this
  rw[this];exact hzl
 have at1:∀{x:Array Keyed}{j:Nat},j<x.size→∃u,x[j]? = some u:=fun {x j} hj=>⟨_,Array.getElem?_eq_getElem hj⟩
 have push1:∀(ou:Array Keyed) {x:Array Keyed}{n:Nat}{v:Keyed},1≤n→n≤x.size→x[n-1]? = some v→(ou.push v).toList=ou.toList++((x.toList.take n).drop (n-1)).reverse:=fun ou x n v h1 h2 h3=>by
  rw[one_rev h1 h2 h3];simp
 have ext1:∀(ou x:Array Keyed) (t n:Nat),(ou++(x.extract t n).reverse).toList=ou.toList++((x.toList.take n).drop t).reverse:=fun ou x t n=>by
  rw[Array.toList_append,Array.toList_reverse,Array.toList_extract]
  show ou.toList++(List.take (n-t) (List.drop t x.toList)).reverse=_
  rw[List.drop_take]
 rw[mhiS_eq]
 refine wpS_bind (wpS_lift (wpAny_rule ⟨rfl,?_⟩))
 refine wpS_bind (wpS_elem hzl ?_)
 by_cases c1:xa.size-1=0
 ·rw[if_pos (by simpa using c1)]
  exact wpS_pure (mdone #[zl] _ _ st mi0 c1 (Nat.le_refl _) hS)
 rw[if_neg (by simpa using c1)]
 by_cases c2:xb.size=1
 ·rw[if_pos (by simpa using c2)]
  exact wpS_pure (mfirst #[zl] _ _ st mi0 c2 (by omega) hS)
 rw[if_neg (by simpa using c2)]
 refine wpS_bind (wpS_get ?_)
 refine wpS_bind (wpS_mono (wpS_forRange
  (I:=fun x c st'=>SS κ st st'∧∃qa qb ou mg,c =(none,qa,qb,ou,mg)∧HI ltb xa xb ou qa qb∧1≤qa∧qa≤xa.size∧2≤qb∧qb≤xb.size∧x+1+qa+qb≤xa.size+xb.size)
  (Q:=fun c st'=>∃r qa qb ou mg,c =(some r,qa,qb,ou,mg)∧Q r st') ?stp ?fin ⟨hS,_,_,#[zl],_,rfl,mi0,by omega,by omega,by omega,by omega,by omega⟩) ?post)
 case fin =>
  rintro c st' ⟨ss,qa,qb,ou,mg,rfl,m,b1,b2,b3,b4,b5⟩
  omega
 case post =>
  rintro c st' ⟨r,qa,qb,ou,mg,rfl,hq⟩
  exact wpS_pure hq
 case stp =>
  rintro x c st1 _ hx ⟨ss,qa0,qb0,ou,mg,rfl,m,b1,b2,b3,b4,b5⟩
  dsimp only
  refine wpS_bind (wpS_mono (wpS_forRange
   (I:=fun y c st'=>SS κ st st'∧∃qa qb ou ca cb,c =(none,qa,qb,ou,ca,cb)∧HI ltb xa xb ou qa qb∧1≤qa∧qa≤xa.size∧2≤qb∧qb≤xb.size∧y+qa+qb≤qa0+qb0)
   (Q:=fun c st'=>(∃r qa qb ou ca cb,c =(some r,qa,qb,ou,ca,cb)∧Q r st') ∨(SS κ st st'∧∃qa qb ou ca cb,c =(none,qa,qb,ou,ca,cb)∧HI ltb xa xb ou qa qb∧1≤qa∧qa≤xa.size∧2≤qb∧qb≤xb.size∧1+qa+qb≤qa0+qb0)) ?stp1 ?fin1 ⟨ss,_,_,ou,0,0,rfl,m,b1,b2,b3,b4,by omega⟩) ?post1)
  case fin1 =>
   rintro c st' ⟨ss,qa,qb,ou,ca,cb,rfl,m,d1,d2,d3,d4,d5⟩
   exact .inr ⟨ss,_,_,_,_,_,rfl,m,d1,d2,d3,d4,by omega⟩
  case stp1 =>
   rintro y c st2 _ hy ⟨ss,qa,qb,ou,ca,cb,rfl,m,d1,d2,d3,d4,d5⟩
   dsimp only
   obtain⟨vb,hvb⟩:=at1 (x:=xb) (j:=qb-1) (by omega)
   obtain⟨va,hva⟩:=at1 (x:=xa) (j:=qa-1) (by omega)
   refine wpS_bind (wpS_elem hvb (wpS_bind (wpS_elem hva (wpS_bind (hO vb va _ _ (Sb _ (arr_mem hvb)) (Sa _ (arr_mem hva)) ss.kind ?_)))))
   dsimp only
   cases hw:ltb vb va with
   | true =>
    simp only[if_true]
    have m2:HI ltb xa xb (ou.push va) (qa-1) qb:=m.chA O sa sb d2 (by omega) (by omega) d4 hvb (fun i h1 h2 u hu=>by
     obtain rfl:i=qa-1:=by omega
     rw[hva]at hu;cases hu;exact O.asym hw) (push1 ou d1 d2 hva)
    refine wpS_bind (wpS_elem hva ?_)
    by_cases e1:qa-1=0
    ·rw[if_pos (by simpa using e1)]
     exact wpS_pure (.inl ⟨_,_,_,_,_,_,rfl,mdone _ _ _ _ m2 e1 d4 ss⟩)
    ·rw[if_neg (by simpa using e1)]
     split
     ·exact wpS_pure (.inr ⟨ss,_,_,_,_,_,rfl,m2,by omega,by omega,d3,d4,by omega⟩)
     ·exact wpS_pure ⟨ss,_,_,_,_,_,rfl,m2,by omega,by omega,d3,d4,by omega⟩
   | false =>
    simp only[Bool.false_eq_true,if_false]
    have m2:HI ltb xa xb (ou.push vb) qa (qb-1):=m.chB O sa sb d4 (by omega) d1 d2 hva (fun i h1 h2 u hu=>by
     obtain rfl:i=qb-1:=by omega
     rw[hvb]at hu;cases hu;exact hw) (push1 ou (by omega) d4 hvb)
    refine wpS_bind (wpS_elem hvb ?_)
    by_cases e1:qb-1=1
    ·rw[if_pos (by simpa using e1)]
     exact wpS_pure (.inl ⟨_,_,_,_,_,_,rfl,mfirst _ _ _ _ m2 e1 d2 ss⟩)
    ·rw[if_neg (by simpa using e1)]
     split
     ·exact wpS_pure (.inr ⟨ss,_,_,_,_,_,rfl,m2,d1,d2,by omega,by omega,by omega⟩)
     ·exact wpS_pure ⟨ss,_,_,_,_,_,rfl,m2,d1,d2,by omega,by omega,by omega⟩
  case post1 =>
   rintro c st2 (⟨r,qa,qb,ou,ca,cb,rfl,hq⟩|⟨ss,qa1,qb1,ou,ca,cb,rfl,m,d1,d2,d3,d4,d5⟩)
   ·exact wpS_pure ⟨r,_,_,_,_,rfl,hq⟩
   dsimp only
   refine wpS_bind (wpS_lift (wpAny_rule ⟨rfl,?_⟩))
   refine wpS_bind (wpS_mono (wpS_forRange
    (I:=fun y c st'=>SS κ st st'∧∃qa qb ou mg ca cb,c =(none,qa,qb,ou,mg,ca,cb)∧HI ltb xa xb ou qa qb∧1≤qa∧qa≤xa.size∧2≤qb∧qb≤xb.size∧1+qa+qb≤qa0+qb0)
    (Q:=fun c st'=>(∃r qa qb ou mg ca cb,c =(some r,qa,qb,ou,mg,ca,cb)∧Q r st') ∨(SS κ st st'∧∃qa qb ou mg ca cb,c =(none,qa,qb,ou,mg,ca,cb)∧HI ltb xa xb ou qa qb∧1≤qa∧qa≤xa.size∧2≤qb∧qb≤xb.size∧1+qa+qb≤qa0+qb0)) ?stp2 ?fin2 ⟨ss,_,_,_,_,ca,cb,rfl,m,d1,d2,d3,d4,d5⟩) ?post2)
   case fin2 =>
    rintro c st' hh
    exact .inr hh
   case post2 =>
    rintro c st3 (⟨r,qa,qb,ou2,mg2,ca2,cb2,rfl,hq⟩|⟨ss,qa,qb,ou2,mg2,ca2,cb2,rfl,m,f1,f2,f3,f4,f5⟩)
    ·exact wpS_pure ⟨r,_,_,_,_,rfl,hq⟩
    ·dsimp only
     refine wpS_bind (wpS_modify ?_)
     exact wpS_pure ⟨ss.smg _,_,_,_,_,rfl,m,f1,f2,f3,f4,by omega⟩
   case stp2 =>
    rintro y c st3 _ hy ⟨ss,qa,qb,ou2,mg2,ca2,cb2,rfl,m,f1,f2,f3,f4,f5⟩
    dsimp only
    obtain⟨vb,hvb⟩:=at1 (x:=xb) (j:=qb-1) (by omega)
    have sxa:∀(q:Nat) i j u v,i<j→j<q→xa[0+i]? = some u→xa[0+j]? = some v→leB ltb u v:=fun q i j u v hij _ hu hv=>arr_le sa (by omega) hu hv
    have sxb:∀(q:Nat) i j u v,i<j→j<q→xb[0+i]? = some u→xb[0+j]? = some v→leB ltb u v:=fun q i j u v hij _ hu hv=>arr_le sb (by omega) hu hv
    by_cases hg:mg2 > 1
    ·rw[if_pos hg]
     refine wpS_bind (wpS_modify ?_)
     have ss2:=ss.smg (mg2-1)
     refine wpS_bind (wpS_elem hvb (wpS_bind (wpS_galR O hO ss2.kind (Sb _ (arr_mem hvb)) Sa (sxa qa) (by omega) (by omega) fun tt hk1 hk2 hk3=>?_)))
     dsimp only
     by_cases kp:qa-tt > 0
     ·rw[if_pos kp]
      have M3:=m.chA O sa sb f2 (t:=tt) (by omega) (by omega) f4 hvb (fun i h1 h2 u hu=>O.asym (hk3 i h1 h2 u (by rw[Nat.zero_add];exact hu))) (ext1 _ xa tt qa)
      by_cases e0:tt=0
      ·rw[if_pos (by simpa using e0)]
       exact wpS_pure (.inl ⟨_,_,_,_,_,_,_,rfl,mdone _ _ _ _ M3 e0 f4 ss2⟩)
      rw[if_neg (by simpa using e0)]
      have QA1:1≤tt:=by omega
      obtain⟨va,hva⟩:=at1 (x:=xa) (j:=tt-1) (by omega)
      have hle:leB ltb va vb:=hk2 (tt-1) (by omega) va (by rw[Nat.zero_add];exact hva)
      have m4:=M3.chB O sa sb f4 (t:=qb-1) (by omega) QA1 (by omega) hva (fun i h1 h2 u hu=>by
       obtain rfl:i=qb-1:=by omega
       rw[hvb]at hu;cases hu;exact hle) (push1 _ (by omega) f4 hvb)
      refine wpS_bind (wpS_elem hvb ?_)
      by_cases e1:qb-1=1
      ·rw[if_pos (by simpa using e1)]
       exact wpS_pure (.inl ⟨_,_,_,_,_,_,_,rfl,mfirst _ _ _ _ m4 e1 (by omega) ss2⟩)
      rw[if_neg (by simpa using e1)]
      refine wpS_bind (wpS_elem hva (wpS_bind (wpS_galL O hO ss2.kind (Sa _ (arr_mem hva)) Sb (sxb (qb-1)) (by omega) (by omega) fun t2 g1 g2 g3=>?_)))
      have ht2:0<t2:=by
       rcases Nat.eq_zero_or_pos t2 with q|q
       ·have:=g3 0 (by omega) (by omega) z (by rw[Nat.zero_add];exact hz)
        unfold leB at this
        rw[hfst va (arr_mem hva)]at this;cases this
       ·exact q
      dsimp only
      by_cases k2p:qb-1-t2 > 0
      ·rw[if_pos k2p]
       have m5:=m4.chB O sa sb (by omega) (t:=t2) (by omega) QA1 (by omega) hva (fun i h1 h2 u hu=>g3 i h1 (by omega) u (by rw[Nat.zero_add];exact hu)) (ext1 _ xb t2 (qb-1))
       by_cases e2:t2=1
       ·rw[if_pos (by simpa using e2)]
        exact wpS_pure (.inl ⟨_,_,_,_,_,_,_,rfl,mfirst _ _ _ _ m5 e2 (by omega) ss2⟩)
       rw[if_neg (by simpa using e2),if_neg (by simp;omega)]
       obtain⟨vb2,hvb2⟩:=at1 (x:=xb) (j:=t2-1) (by omega)
       have m6:=m5.chA O sa sb (by omega) (t:=tt-1) (by omega) (by omega) (by omega) hvb2 (fun i h1 h2 u hu=>by
        obtain rfl:i=tt-1:=by omega
        rw[hva]at hu;cases hu;exact O.asym (g2 (t2-1) (by omega) vb2 (by rw[Nat.zero_add];exact hvb2))) (push1 _ QA1 (by omega) hva)
       refine wpS_bind (wpS_elem hva ?_)
       by_cases e3:tt-1=0
       ·rw[if_pos (by simpa using e3)]
        exact wpS_pure (.inl ⟨_,_,_,_,_,_,_,rfl,mdone _ _ _ _ m6 e3 (by omega) ss2⟩)
       rw[if_neg (by simpa using e3)]
       split
       ·exact wpS_pure (.inr ⟨ss2,_,_,_,_,_,_,rfl,m6,by omega,by omega,by omega,by omega,by omega⟩)
       ·exact wpS_pure ⟨ss2,_,_,_,_,_,_,rfl,m6,by omega,by omega,by omega,by omega,by omega⟩
      ·rw[if_neg k2p]
       have et:t2=qb-1:=by omega
       obtain⟨vb2,hvb2⟩:=at1 (x:=xb) (j:=qb-1-1) (by omega)
       have m6:=m4.chA O sa sb (by omega) (t:=tt-1) (by omega) (by omega) (by omega) hvb2 (fun i h1 h2 u hu=>by
        obtain rfl:i=tt-1:=by omega
        rw[hva]at hu;cases hu;exact O.asym (g2 (qb-1-1) (by omega) vb2 (by rw[Nat.zero_add];exact hvb2))) (push1 _ QA1 (by omega) hva)
       refine wpS_bind (wpS_elem hva ?_)
       by_cases e3:tt-1=0
       ·rw[if_pos (by simpa using e3)]
        exact wpS_pure (.inl ⟨_,_,_,_,_,_,_,rfl,mdone _ _ _ _ m6 e3 (by omega) ss2⟩)
       rw[if_neg (by simpa using e3)]
       split
       ·exact wpS_pure (.inr ⟨ss2,_,_,_,_,_,_,rfl,m6,by omega,by omega,by omega,by omega,by omega⟩)
       ·exact wpS_pure ⟨ss2,_,_,_,_,_,_,rfl,m6,by omega,by omega,by omega,by omega,by omega⟩
     ·rw[if_neg kp]
      have et0:tt=qa:=by omega
      have M3:=m
      have QA1:1≤qa:=f1
      obtain⟨va,hva⟩:=at1 (x:=xa) (j:=qa-1) (by omega)
      have hle:leB ltb va vb:=hk2 (qa-1) (by omega) va (by rw[Nat.zero_add];exact hva)
      have m4:=M3.chB O sa sb f4 (t:=qb-1) (by omega) QA1 (by omega) hva (fun i h1 h2 u hu=>by
       obtain rfl:i=qb-1:=by omega
       rw[hvb]at hu;cases hu;exact hle) (push1 _ (by omega) f4 hvb)
      refine wpS_bind (wpS_elem hvb ?_)
      by_cases e1:qb-1=1
      ·rw[if_pos (by simpa using e1)]
       exact wpS_pure (.inl ⟨_,_,_,_,_,_,_,rfl,mfirst _ _ _ _ m4 e1 (by omega) ss2⟩)
      rw[if_neg (by simpa using e1)]
      refine wpS_bind (wpS_elem hva (wpS_bind (wpS_galL O hO ss2.kind (Sa _ (arr_mem hva)) Sb (sxb (qb-1)) (by omega) (by omega) fun t2 g1 g2 g3=>?_)))
      have ht2:0<t2:=by
       rcases Nat.eq_zero_or_pos t2 with q|q
       ·have:=g3 0 (by omega) (by omega) z (by rw[Nat.zero_add];exact hz)
        unfold leB at this
        rw[hfst va (arr_mem hva)]at this;cases this
       ·exact q
      dsimp only
      by_cases k2p:qb-1-t2 > 0
      ·rw[if_pos k2p]
       have m5:=m4.chB O sa sb (by omega) (t:=t2) (by omega) QA1 (by omega) hva (fun i h1 h2 u hu=>g3 i h1 (by omega) u (by rw[Nat.zero_add];exact hu)) (ext1 _ xb t2 (qb-1))
       by_cases e2:t2=1
       ·rw[if_pos (by simpa using e2)]
        exact wpS_pure (.inl ⟨_,_,_,_,_,_,_,rfl,mfirst _ _ _ _ m5 e2 (by omega) ss2⟩)
       rw[if_neg (by simpa using e2),if_neg (by simp;omega)]
       obtain⟨vb2,hvb2⟩:=at1 (x:=xb) (j:=t2-1) (by omega)
       have m6:=m5.chA O sa sb (by omega) (t:=qa-1) (by omega) (by omega) (by omega) hvb2 (fun i h1 h2 u hu=>by
        obtain rfl:i=qa-1:=by omega
        rw[hva]at hu;cases hu;exact O.asym (g2 (t2-1) (by omega) vb2 (by rw[Nat.zero_add];exact hvb2))) (push1 _ QA1 (by omega) hva)
       refine wpS_bind (wpS_elem hva ?_)
       by_cases e3:qa-1=0
       ·rw[if_pos (by simpa using e3)]
        exact wpS_pure (.inl ⟨_,_,_,_,_,_,_,rfl,mdone _ _ _ _ m6 e3 (by omega) ss2⟩)
       rw[if_neg (by simpa using e3)]
       split
       ·exact wpS_pure (.inr ⟨ss2,_,_,_,_,_,_,rfl,m6,by omega,by omega,by omega,by omega,by omega⟩)
       ·exact wpS_pure ⟨ss2,_,_,_,_,_,_,rfl,m6,by omega,by omega,by omega,by omega,by omega⟩
      ·rw[if_neg k2p]
       have et:t2=qb-1:=by omega
       obtain⟨vb2,hvb2⟩:=at1 (x:=xb) (j:=qb-1-1) (by omega)
       have m6:=m4.chA O sa sb (by omega) (t:=qa-1) (by omega) (by omega) (by omega) hvb2 (fun i h1 h2 u hu=>by
        obtain rfl:i=qa-1:=by omega
        rw[hva]at hu;cases hu;exact O.asym (g2 (qb-1-1) (by omega) vb2 (by rw[Nat.zero_add];exact hvb2))) (push1 _ QA1 (by omega) hva)
       refine wpS_bind (wpS_elem hva ?_)
       by_cases e3:qa-1=0
       ·rw[if_pos (by simpa using e3)]
        exact wpS_pure (.inl ⟨_,_,_,_,_,_,_,rfl,mdone _ _ _ _ m6 e3 (by omega) ss2⟩)
       rw[if_neg (by simpa using e3)]
       split
       ·exact wpS_pure (.inr ⟨ss2,_,_,_,_,_,_,rfl,m6,by omega,by omega,by omega,by omega,by omega⟩)
       ·exact wpS_pure ⟨ss2,_,_,_,_,_,_,rfl,m6,by omega,by omega,by omega,by omega,by omega⟩
    ·rw[if_neg hg]
     refine wpS_bind (wpS_modify ?_)
     have ss2:=ss.smg mg2
     refine wpS_bind (wpS_elem hvb (wpS_bind (wpS_galR O hO ss2.kind (Sb _ (arr_mem hvb)) Sa (sxa qa) (by omega) (by omega) fun tt hk1 hk2 hk3=>?_)))
     dsimp only
     by_cases kp:qa-tt > 0
     ·rw[if_pos kp]
      have M3:=m.chA O sa sb f2 (t:=tt) (by omega) (by omega) f4 hvb (fun i h1 h2 u hu=>O.asym (hk3 i h1 h2 u (by rw[Nat.zero_add];exact hu))) (ext1 _ xa tt qa)
      by_cases e0:tt=0
      ·rw[if_pos (by simpa using e0)]
       exact wpS_pure (.inl ⟨_,_,_,_,_,_,_,rfl,mdone _ _ _ _ M3 e0 f4 ss2⟩)
      rw[if_neg (by simpa using e0)]
      have QA1:1≤tt:=by omega
      obtain⟨va,hva⟩:=at1 (x:=xa) (j:=tt-1) (by omega)
      have hle:leB ltb va vb:=hk2 (tt-1) (by omega) va (by rw[Nat.zero_add];exact hva)
      have m4:=M3.chB O sa sb f4 (t:=qb-1) (by omega) QA1 (by omega) hva (fun i h1 h2 u hu=>by
       obtain rfl:i=qb-1:=by omega
       rw[hvb]at hu;cases hu;exact hle) (push1 _ (by omega) f4 hvb)
      refine wpS_bind (wpS_elem hvb ?_)
      by_cases e1:qb-1=1
      ·rw[if_pos (by simpa using e1)]
       exact wpS_pure (.inl ⟨_,_,_,_,_,_,_,rfl,mfirst _ _ _ _ m4 e1 (by omega) ss2⟩)
      rw[if_neg (by simpa using e1)]
      refine wpS_bind (wpS_elem hva (wpS_bind (wpS_galL O hO ss2.kind (Sa _ (arr_mem hva)) Sb (sxb (qb-1)) (by omega) (by omega) fun t2 g1 g2 g3=>?_)))
      have ht2:0<t2:=by
       rcases Nat.eq_zero_or_pos t2 with q|q
       ·have:=g3 0 (by omega) (by omega) z (by rw[Nat.zero_add];exact hz)
        unfold leB at this
        rw[hfst va (arr_mem hva)]at this;cases this
       ·exact q
      dsimp only
      by_cases k2p:qb-1-t2 > 0
      ·rw[if_pos k2p]
       have m5:=m4.chB O sa sb (by omega) (t:=t2) (by omega) QA1 (by omega) hva (fun i h1 h2 u hu=>g3 i h1 (by omega) u (by rw[Nat.zero_add];exact hu)) (ext1 _ xb t2 (qb-1))
       by_cases e2:t2=1
       ·rw[if_pos (by simpa using e2)]
        exact wpS_pure (.inl ⟨_,_,_,_,_,_,_,rfl,mfirst _ _ _ _ m5 e2 (by omega) ss2⟩)
       rw[if_neg (by simpa using e2),if_neg (by simp;omega)]
       obtain⟨vb2,hvb2⟩:=at1 (x:=xb) (j:=t2-1) (by omega)
       have m6:=m5.chA O sa sb (by omega) (t:=tt-1) (by omega) (by omega) (by omega) hvb2 (fun i h1 h2 u hu=>by
        obtain rfl:i=tt-1:=by omega
        rw[hva]at hu;cases hu;exact O.asym (g2 (t2-1) (by omega) vb2 (by rw[Nat.zero_add];exact hvb2))) (push1 _ QA1 (by omega) hva)
       refine wpS_bind (wpS_elem hva ?_)
       by_cases e3:tt-1=0
       ·rw[if_pos (by simpa using e3)]
        exact wpS_pure (.inl ⟨_,_,_,_,_,_,_,rfl,mdone _ _ _ _ m6 e3 (by omega) ss2⟩)
       rw[if_neg (by simpa using e3)]
       split
       ·exact wpS_pure (.inr ⟨ss2,_,_,_,_,_,_,rfl,m6,by omega,by omega,by omega,by omega,by omega⟩)
       ·exact wpS_pure ⟨ss2,_,_,_,_,_,_,rfl,m6,by omega,by omega,by omega,by omega,by omega⟩
      ·rw[if_neg k2p]
       have et:t2=qb-1:=by omega
       obtain⟨vb2,hvb2⟩:=at1 (x:=xb) (j:=qb-1-1) (by omega)
       have m6:=m4.chA O sa sb (by omega) (t:=tt-1) (by omega) (by omega) (by omega) hvb2 (fun i h1 h2 u hu=>by
        obtain rfl:i=tt-1:=by omega
        rw[hva]at hu;cases hu;exact O.asym (g2 (qb-1-1) (by omega) vb2 (by rw[Nat.zero_add];exact hvb2))) (push1 _ QA1 (by omega) hva)
       refine wpS_bind (wpS_elem hva ?_)
       by_cases e3:tt-1=0
       ·rw[if_pos (by simpa using e3)]
        exact wpS_pure (.inl ⟨_,_,_,_,_,_,_,rfl,mdone _ _ _ _ m6 e3 (by omega) ss2⟩)
       rw[if_neg (by simpa using e3)]
       split
       ·exact wpS_pure (.inr ⟨ss2,_,_,_,_,_,_,rfl,m6,by omega,by omega,by omega,by omega,by omega⟩)
       ·exact wpS_pure ⟨ss2,_,_,_,_,_,_,rfl,m6,by omega,by omega,by omega,by omega,by omega⟩
     ·rw[if_neg kp]
      have et0:tt=qa:=by omega
      have M3:=m
      have QA1:1≤qa:=f1
      obtain⟨va,hva⟩:=at1 (x:=xa) (j:=qa-1) (by omega)
      have hle:leB ltb va vb:=hk2 (qa-1) (by omega) va (by rw[Nat.zero_add];exact hva)
      have m4:=M3.chB O sa sb f4 (t:=qb-1) (by omega) QA1 (by omega) hva (fun i h1 h2 u hu=>by
       obtain rfl:i=qb-1:=by omega
       rw[hvb]at hu;cases hu;exact hle) (push1 _ (by omega) f4 hvb)
      refine wpS_bind (wpS_elem hvb ?_)
      by_cases e1:qb-1=1
      ·rw[if_pos (by simpa using e1)]
       exact wpS_pure (.inl ⟨_,_,_,_,_,_,_,rfl,mfirst _ _ _ _ m4 e1 (by omega) ss2⟩)
      rw[if_neg (by simpa using e1)]
      refine wpS_bind (wpS_elem hva (wpS_bind (wpS_galL O hO ss2.kind (Sa _ (arr_mem hva)) Sb (sxb (qb-1)) (by omega) (by omega) fun t2 g1 g2 g3=>?_)))
      have ht2:0<t2:=by
       rcases Nat.eq_zero_or_pos t2 with q|q
       ·have:=g3 0 (by omega) (by omega) z (by rw[Nat.zero_add];exact hz)
        unfold leB at this
        rw[hfst va (arr_mem hva)]at this;cases this
       ·exact q
      dsimp only
      by_cases k2p:qb-1-t2 > 0
      ·rw[if_pos k2p]
       have m5:=m4.chB O sa sb (by omega) (t:=t2) (by omega) QA1 (by omega) hva (fun i h1 h2 u hu=>g3 i h1 (by omega) u (by rw[Nat.zero_add];exact hu)) (ext1 _ xb t2 (qb-1))
       by_cases e2:t2=1
       ·rw[if_pos (by simpa using e2)]
        exact wpS_pure (.inl ⟨_,_,_,_,_,_,_,rfl,mfirst _ _ _ _ m5 e2 (by omega) ss2⟩)
       rw[if_neg (by simpa using e2),if_neg (by simp;omega)]
       obtain⟨vb2,hvb2⟩:=at1 (x:=xb) (j:=t2-1) (by omega)
       have m6:=m5.chA O sa sb (by omega) (t:=qa-1) (by omega) (by omega) (by omega) hvb2 (fun i h1 h2 u hu=>by
        obtain rfl:i=qa-1:=by omega
        rw[hva]at hu;cases hu;exact O.asym (g2 (t2-1) (by omega) vb2 (by rw[Nat.zero_add];exact hvb2))) (push1 _ QA1 (by omega) hva)
       refine wpS_bind (wpS_elem hva ?_)
       by_cases e3:qa-1=0
       ·rw[if_pos (by simpa using e3)]
        exact wpS_pure (.inl ⟨_,_,_,_,_,_,_,rfl,mdone _ _ _ _ m6 e3 (by omega) ss2⟩)
       rw[if_neg (by simpa using e3)]
       split
       ·exact wpS_pure (.inr ⟨ss2,_,_,_,_,_,_,rfl,m6,by omega,by omega,by omega,by omega,by omega⟩)
       ·exact wpS_pure ⟨ss2,_,_,_,_,_,_,rfl,m6,by omega,by omega,by omega,by omega,by omega⟩
      ·rw[if_neg k2p]
       have et:t2=qb-1:=by omega
       obtain⟨vb2,hvb2⟩:=at1 (x:=xb) (j:=qb-1-1) (by omega)
       have m6:=m4.chA O sa sb (by omega) (t:=qa-1) (by omega) (by omega) (by omega) hvb2 (fun i h1 h2 u hu=>by
        obtain rfl:i=qa-1:=by omega
        rw[hva]at hu;cases hu;exact O.asym (g2 (qb-1-1) (by omega) vb2 (by rw[Nat.zero_add];exact hvb2))) (push1 _ QA1 (by omega) hva)
       refine wpS_bind (wpS_elem hva ?_)
       by_cases e3:qa-1=0
       ·rw[if_pos (by simpa using e3)]
        exact wpS_pure (.inl ⟨_,_,_,_,_,_,_,rfl,mdone _ _ _ _ m6 e3 (by omega) ss2⟩)
       rw[if_neg (by simpa using e3)]
       split
       ·exact wpS_pure (.inr ⟨ss2,_,_,_,_,_,_,rfl,m6,by omega,by omega,by omega,by omega,by omega⟩)
       ·exact wpS_pure ⟨ss2,_,_,_,_,_,_,rfl,m6,by omega,by omega,by omega,by omega,by omega⟩
end
end L2
namespace L2
open PySem PySem.Spec PyProof.Rows
def layS (M:Array Keyed) (o:Nat) (ar:Array Keyed):Array Keyed:=M.toList.zipIdx.foldl (fun z q=>z.setIfInBounds (o+q.2) q.1) ar
theorem lay_list:∀(M:List Keyed) (n o:Nat) (ar:Array Keyed),o+n+M.length≤ar.size→((M.zipIdx n).foldl (fun z q=>z.setIfInBounds (o+q.2) q.1) ar).toList=ar.toList.take (o+n)++M++ar.toList.drop (o+n+M.length)
 | [],n,o,ar,h=>by simp
 | p::M,n,o,ar,h=>by
  rw[List.length_cons]at h
  have hs:(ar.setIfInBounds (o+n) p).size=ar.size:=by simp
  have ih:=lay_list M (n+1) o (ar.setIfInBounds (o+n) p) (by rw[hs];omega)
  rw[List.zipIdx_cons,List.foldl_cons,ih,Array.toList_setIfInBounds]
  have hl:o+n<ar.toList.length:=by rw[Array.length_toList];omega
  rw[show o+(n+1)=o+n+1 by omega,List.take_succ_eq_append_getElem (by rw[List.length_set];exact hl),List.getElem_set_self,List.take_set_of_le (by omega),List.drop_set_of_lt (by omega),List.length_cons]
  rw[show o+n+1+M.length=o+n+(M.length+1) by omega]
  simp
theorem lay_eq (M ar:Array Keyed) (o:Nat) (h:o+M.size≤ar.size):(layS M o ar).toList=ar.toList.take o++M.toList++ar.toList.drop (o+M.size):=by
 have:=lay_list M.toList 0 o ar (by rw[Array.length_toList];omega)
 rw[Nat.add_zero,Array.length_toList]at this
 exact this
theorem mergeAt_eq (ii:Nat):mergeAt' ii =(do
 let z ← get
 let (some (ba,ka,pw),some (bb,kb,_)):=((pendingOf z)[ii]?,(pendingOf z)[ii+1]?)|unsupported "internal:list.sort.pending"
 set (setPending z (((pendingOf z).setIfInBounds ii (ba,ka+kb,pw)).eraseIdxIfInBounds (ii+1)))
 let some kk ← galS false (← elem' (arrOf z) bb) (arrOf z) ba ka 0|return false
 let (ba,ka):=(ba+kk,ka-kk)
 if ka == 0 then return true
 let some kb ← galS true (← elem' (arrOf z) (ba+ka-1)) (arrOf z) bb kb (kb-1)|return false
 if kb == 0 then return true
 let mm ← if ka≤kb then mloS ((arrOf z).extract ba bb) ((arrOf z).extract bb (bb+kb)) else mhiS ((arrOf z).extract ba bb) ((arrOf z).extract bb (bb+kb))
 modify fun z=>setArr z (layS mm ba (arrOf z))
 return (failedOf (← get)).isNone):=rfl
theorem app4 {α:Type}(a b c d:List α):a++(b++c)++d =(a++b)++(c++d):=by simp
section
variable {prog:Program}{w:World}{A:Around}{E:Value→Shared→Prop}{s:Shared}{ltb:Keyed→Keyed→Bool}{S:Keyed→Prop}{κ:SortKind}
theorem at_seg {ar:Array Keyed}{P R T:List Keyed}(h:ar.toList=P++R++T) (i:Nat) (hi:i<R.length):ar[P.length+i]? = R[i]?:=by
 have:ar.toList[P.length+i]? = R[i]?:=by
  rw[h,List.append_assoc,List.getElem?_append_right (by omega),Nat.add_sub_cancel_left,List.getElem?_append_left hi]
 simpa using this
theorem wpS_set {α:Type}{st st2:α}{Q:PUnit→α→Prop}(q:Q ⟨⟩ st2):wpS (model prog w) A E s (set st2:StateT α Sem PUnit) Q st:=by
 unfold wpS
 show wpAny _ _ ((StateT.set st2:StateT α Sem PUnit).run st) _ _ _
 exact wpAny_pure ⟨rfl,q⟩
theorem wpS_mergeAt (O:OrdB ltb) (hO:LtOk prog w A E s ltb S κ) {st:SortSt}{Q:Bool→SortSt→Prop}{ii ba ka bb kb pw pv:Nat}{P R1 R2 T:List Keyed}(hk:kindOf st=κ) (hf:failedOf st=none)
  (hp1:(pendingOf st)[ii]? = some (ba,ka,pw)) (hp2:(pendingOf st)[ii+1]? = some (bb,kb,pv)) (harr:(arrOf st).toList=P++R1++R2++T) (eba:ba=P.length) (eka:ka=R1.length) (ebb:bb=P.length+R1.length) (ekb:kb=R2.length)
  (h1:R1 ≠ []) (h2:R2 ≠ []) (s1:R1.Pairwise (leB ltb)) (s2:R2.Pairwise (leB ltb)) (hSa:∀x∈(arrOf st).toList,S x)
  (h:∀(st':SortSt) (R:List Keyed),R.Pairwise (leB ltb)→R.Perm (R1++R2)→(arrOf st').toList=P++R++T→kindOf st'=κ→failedOf st'=none→pendingOf st' =((pendingOf st).setIfInBounds ii (ba,ka+kb,pw)).eraseIdxIfInBounds (ii+1)→Q true st') :
  wpS (model prog w) A E s (mergeAt' ii) Q st:=by
 have l1:0<R1.length:=List.length_pos_iff.mpr h1
 have l2:0<R2.length:=List.length_pos_iff.mpr h2
 have hA1:(arrOf st).toList=P++R1++(R2++T):=by rw[harr];simp
 have hA2:(arrOf st).toList =(P++R1)++R2++T:=by rw[harr]
 have hsz:(arrOf st).size=P.length+R1.length+R2.length+T.length:=by
  have:=congrArg List.length harr
  rw[Array.length_toList]at this
  simp at this;omega
 have g1:∀i,i<R1.length→(arrOf st)[ba+i]? = R1[i]?:=fun i hi=>by rw[eba];exact at_seg hA1 i hi
 have g2:∀i,i<R2.length→(arrOf st)[bb+i]? = R2[i]?:=fun i hi=>by
  have:=at_seg hA2 i hi
  rw[List.length_append]at this
  rw[ebb];exact this
 obtain⟨b0,hb0⟩ : ∃b,R2[0]? = some b:=⟨_,List.getElem?_eq_getElem l2⟩
 have hb0':(arrOf st)[bb]? = some b0:=by have:=g2 0 l2;rw[Nat.add_zero]at this;rw[this];exact hb0
 have b0le:∀y∈R2,leB ltb b0 y∨y=b0:=fun y hy=>by
  obtain⟨i,hi,e⟩:=List.getElem_of_mem hy
  by_cases h0:i=0
  ·subst h0;rw[List.getElem?_eq_getElem l2]at hb0;right;rw[← e];exact Option.some.inj hb0
  ·left;exact rise_le s2 (i:=0) (j:=i) (by omega) hb0 (by rw[List.getElem?_eq_getElem hi,e])
 rw[mergeAt_eq]
 refine wpS_bind (wpS_get ?_)
 rw[hp1,hp2]
 dsimp only
 refine wpS_bind (wpS_set ?_)
 refine wpS_bind (wpS_elem hb0' (wpS_bind (wpS_galR O hO (st:=setPending st _) hk (hSa _ (arr_mem hb0')) hSa (fun i j u v hij hj hu hv=>?_) (by omega) (by omega) fun k k1 k2 k3=>?_)))
 ·rw[g1 i (by omega)]at hu
  rw[g1 j (by omega)]at hv
  exact rise_le s1 hij hu hv
 dsimp only
 have k2':∀i,i<k→∀u,R1[i]? = some u→leB ltb u b0:=fun i hi u hu=>k2 i hi u (by rw[g1 i (by omega)];exact hu)
 by_cases c1:ka-k=0
 ·rw[if_pos (by simpa using c1)]
  refine wpS_pure (h (setPending st _) (R1++R2) ?_ (List.Perm.refl _) (by show(arrOf st).toList=_;rw[harr];simp) hk hf rfl)
  rw[List.pairwise_append]
  refine⟨s1,s2,fun x hx y hy=>?_⟩
  obtain⟨i,hi,e⟩:=List.getElem_of_mem hx
  have hxb:=k2' i (by omega) x (by rw[List.getElem?_eq_getElem hi,e])
  rcases b0le y hy with q|q
  ·exact O.tr hxb q
  ·rw[q];exact hxb
 rw[if_neg (by simpa using c1)]
 have hk:kindOf st=κ:=hk
 obtain⟨al,hal⟩ : ∃a,R1[ka-1]? = some a:=⟨_,List.getElem?_eq_getElem (by omega)⟩
 have hal':(arrOf st)[ba+k+(ka-k)-1]? = some al:=by
  rw[show ba+k+(ka-k)-1=ba+(ka-1) by omega,g1 (ka-1) (by omega)];exact hal
 have alge:∀x∈R1,leB ltb x al∨x=al:=fun x hx=>by
  obtain⟨i,hi,e⟩:=List.getElem_of_mem hx
  by_cases h0:i=ka-1
  ·subst h0;rw[List.getElem?_eq_getElem hi]at hal;right;rw[← e];exact Option.some.inj hal
  ·left;exact rise_le s1 (i:=i) (j:=ka-1) (by omega) (by rw[List.getElem?_eq_getElem hi,e]) hal
 refine wpS_bind (wpS_elem hal' (wpS_bind (wpS_galL O hO (st:=setPending st _) hk (hSa _ (arr_mem hal')) hSa (fun i j u v hij hj hu hv=>?_) (by omega) (by omega) fun n n1 n2 n3=>?_)))
 ·rw[g2 i (by omega)]at hu
  rw[g2 j (by omega)]at hv
  exact rise_le s2 hij hu hv
 dsimp only
 have n3':∀y∈R2.drop n,leB ltb al y:=fun y hy=>by
  obtain⟨i,hi,e⟩:=List.getElem_of_mem hy
  rw[List.length_drop]at hi
  rw[List.getElem_drop]at e
  exact n3 (n+i) (by omega) (by omega) y (by rw[g2 (n+i) (by omega),List.getElem?_eq_getElem (by omega),e])
 by_cases c2:n=0
 ·rw[if_pos (by simpa using c2)]
  refine wpS_pure (h (setPending st _) (R1++R2) ?_ (List.Perm.refl _) (by show(arrOf st).toList=_;rw[harr];simp) hk hf rfl)
  rw[List.pairwise_append]
  refine⟨s1,s2,fun x hx y hy=>?_⟩
  have hy2:=n3' y (by rw[c2];exact hy)
  rcases alge x hx with q|q
  ·exact O.tr q hy2
  ·rw[q];exact hy2
 rw[if_neg (by simpa using c2)]
 have exA:((arrOf st).extract (ba+k) bb).toList=R1.drop k:=by
  rw[show bb=ba+k+(ka-k) by omega,ext_part,hA1]
  rw[show ba+k=P.length+k by omega,List.append_assoc,← List.drop_drop,List.drop_left,List.drop_append_of_le_length (by omega),List.take_append_of_le_length (by rw[List.length_drop];omega),List.take_of_length_le (by rw[List.length_drop];omega)]
 have exB:((arrOf st).extract bb (bb+n)).toList=R2.take n:=by
  rw[ext_part,hA2,show bb =(P++R1).length by rw[List.length_append];omega,List.append_assoc,List.drop_left,List.take_append_of_le_length (by omega)]
 have szA:((arrOf st).extract (ba+k) bb).size=ka-k:=by
  have:=congrArg List.length exA
  rw[Array.length_toList,List.length_drop]at this;omega
 have szB:((arrOf st).extract bb (bb+n)).size=n:=by
  have:=congrArg List.length exB
  rw[Array.length_toList,List.length_take]at this;omega
 have hSA:∀x∈((arrOf st).extract (ba+k) bb).toList,S x:=fun x hx=>by
  rw[exA]at hx
  exact hSa x (by rw[hA1];exact List.mem_append_left _ (List.mem_append_right _ (List.mem_of_mem_drop hx)))
 have hSB:∀x∈((arrOf st).extract bb (bb+n)).toList,S x:=fun x hx=>by
  rw[exB]at hx
  exact hSa x (by rw[hA2];exact List.mem_append_left _ (List.mem_append_right _ (List.mem_of_mem_take hx)))
 have rA:((arrOf st).extract (ba+k) bb).toList.Pairwise (leB ltb):=by rw[exA];exact s1.drop
 have rB:((arrOf st).extract bb (bb+n)).toList.Pairwise (leB ltb):=by rw[exB];exact s2.take
 have zB:((arrOf st).extract bb (bb+n))[0]? = some b0:=by
  have e:((arrOf st).extract bb (bb+n)).toList[0]? = some b0:=by rw[exB,List.getElem?_take,if_pos (by omega)];exact hb0
  rw[← Array.getElem?_toList];exact e
 have zA:((arrOf st).extract (ba+k) bb)[((arrOf st).extract (ba+k) bb).size-1]? = some al:=by
  have e:((arrOf st).extract (ba+k) bb).toList[((arrOf st).extract (ba+k) bb).size-1]? = some al:=by
   rw[exA,szA,List.getElem?_drop,show k+(ka-k-1)=ka-1 by omega];exact hal
  rw[← Array.getElem?_toList];exact e
 have fst:∀y∈((arrOf st).extract (ba+k) bb).toList,ltb b0 y=true:=fun y hy=>by
  rw[exA]at hy
  obtain⟨i,hi,e⟩:=List.getElem_of_mem hy
  rw[List.length_drop]at hi
  rw[List.getElem_drop]at e
  exact k3 (k+i) (by omega) (by omega) y (by rw[g1 (k+i) (by omega),List.getElem?_eq_getElem (by omega),e])
 have lst:∀x∈((arrOf st).extract bb (bb+n)).toList,ltb x al=true:=fun x hx=>by
  rw[exB]at hx
  obtain⟨i,hi,e⟩:=List.getElem_of_mem hx
  rw[List.length_take]at hi
  rw[List.getElem_take]at e
  exact n2 i (by omega) x (by rw[g2 i (by omega),List.getElem?_eq_getElem (by omega),e])
 have fin:∀(r:Array Keyed) (st':SortSt),r.toList.Pairwise (leB ltb)→r.toList.Perm (((arrOf st).extract (ba+k) bb).toList++((arrOf st).extract bb (bb+n)).toList)→SS κ (setPending st (((pendingOf st).setIfInBounds ii (ba,ka+kb,pw)).eraseIdxIfInBounds (ii+1))) st' →
   Q true (setArr st' (layS r (ba+k) (arrOf st'))):=fun r st' rs rp ss=>by
  rw[exA,exB]at rp
  have rsz:r.size=ka-k+n:=by
   have:=rp.length_eq
   rw[Array.length_toList,List.length_append,List.length_drop,List.length_take]at this;omega
  have earr:arrOf st'=arrOf st:=ss.arr
  refine h _ (R1.take k++r.toList++R2.drop n) ?_ ?_ ?_ ss.kind ss.fail ss.pend
  ·have m1:∀x∈R1.take k,leB ltb x b0:=fun x hx=>by
    obtain⟨i,hi,e⟩:=List.getElem_of_mem hx
    rw[List.length_take]at hi
    rw[List.getElem_take]at e
    exact k2' i (by omega) x (by rw[List.getElem?_eq_getElem (by omega),e])
   have m2:∀x∈R1.take k,∀y∈R2,leB ltb x y:=fun x hx y hy=>by
    rcases b0le y hy with q|q
    ·exact O.tr (m1 x hx) q
    ·rw[q];exact m1 x hx
   have m3:∀x∈R1,∀y∈R2.drop n,leB ltb x y:=fun x hx y hy=>by
    rcases alge x hx with q|q
    ·exact O.tr q (n3' y hy)
    ·rw[q];exact n3' y hy
   have d1:=(rise_parts s1 0 k).2
   rw[List.drop_zero,Nat.zero_add]at d1
   have d2:=(rise_parts s2 0 n).2
   rw[List.drop_zero,Nat.zero_add]at d2
   rw[List.pairwise_append,List.pairwise_append]
   refine⟨⟨s1.take,rs,fun x hx y hy=>?_⟩,s2.drop,fun x hx y hy=>?_⟩
   ·rcases List.mem_append.mp (rp.mem_iff.mp hy) with q|q
    ·exact d1 x hx y q
    ·exact m2 x hx y (List.mem_of_mem_take q)
   ·rcases List.mem_append.mp hx with q|q
    ·exact m3 x (List.mem_of_mem_take q) y hy
    ·rcases List.mem_append.mp (rp.mem_iff.mp q) with q|q
     ·exact m3 x (List.mem_of_mem_drop q) y hy
     ·exact d2 x q y hy
  ·have e1:=List.take_append_drop k R1
   have e2:=List.take_append_drop n R2
   have:(R1.take k++r.toList++R2.drop n).Perm (R1.take k++(R1.drop k++R2.take n)++R2.drop n):=List.Perm.append_right _ (List.Perm.append_left _ rp)
   refine this.trans (List.Perm.of_eq ?_)
   rw[app4,e1,e2]
  ·show(layS r (ba+k) (arrOf st')).toList=_
   rw[earr,lay_eq r _ _ (by rw[rsz];omega),rsz,show ba+k+(ka-k+n)=bb+n by omega]
   have t1:(arrOf st).toList.take (ba+k)=P++R1.take k:=by
    rw[hA1,eba,List.append_assoc,List.take_length_add_append,List.take_append_of_le_length (by omega)]
   have t2:(arrOf st).toList.drop (bb+n)=R2.drop n++T:=by
    rw[hA2,show bb =(P++R1).length by rw[List.length_append];omega,List.append_assoc,← List.drop_drop,List.drop_left,List.drop_append_of_le_length (by omega)]
   rw[t1,t2];simp
 have hSS:SS κ (setPending st (((pendingOf st).setIfInBounds ii (ba,ka+kb,pw)).eraseIdxIfInBounds (ii+1))) (setPending st (((pendingOf st).setIfInBounds ii (ba,ka+kb,pw)).eraseIdxIfInBounds (ii+1))):=⟨hk,hf,rfl,rfl⟩
 have after:∀(r:Array Keyed) (st':SortSt),Q true (setArr st' (layS r (ba+k) (arrOf st')))→failedOf st'=none→wpS (model prog w) A E s (do
   modify fun z=>setArr z (layS r (ba+k) (arrOf z))
   return (failedOf (← get)).isNone) Q st':=fun r st' q hfl=>by
  refine wpS_bind (wpS_modify ?_)
  refine wpS_bind (wpS_get ?_)
  refine wpS_pure ?_
  have:(failedOf (setArr st' (layS r (ba+k) (arrOf st')))).isNone=true:=by
   show(failedOf st').isNone=true
   rw[hfl];rfl
  rw[this];exact q
 by_cases c3:ka-k≤n
 ·rw[if_pos c3]
  refine wpS_bind (wpS_mlo O hO hSA hSB rA rB zB (fun y hy=>O.asym (fst y hy)) (by rw[szA];omega) (fun x hx y hy=>by rw[zA]at hy;cases hy;exact lst x hx) hSS fun r st' q1 q2 q3=>?_)
  exact after r st' (fin r st' q1 q2 q3) q3.fail
 ·rw[if_neg c3]
  refine wpS_bind (wpS_mhi O hO hSA hSB rA rB zB fst zA lst hSS fun r st' q1 q2 q3=>?_)
  exact after r st' (fin r st' q1 q2 q3) q3.fail
end
end L2
namespace L2
open PySem PySem.Spec PyProof.Rows
def insB (R:List Keyed) (k l:Nat):List Keyed:=R.take l++((R.drop k).take 1++((R.take k).drop l++R.drop (k+1)))
theorem insB_perm (R:List Keyed) {k l:Nat}(h:l≤k):(insB R k l).Perm R:=by
 unfold insB
 have e1:R.take k=R.take l++(R.take k).drop l:=by
  conv=>lhs;rw[← List.take_append_drop l (R.take k)]
  rw[List.take_take,Nat.min_eq_left h]
 have e2:R=R.take k++((R.drop k).take 1++R.drop (k+1)):=by
  conv=>lhs;rw[← List.take_append_drop k R,drop_take_split R k 1]
 conv=>rhs;rw[e2]
 rw[e1,List.append_assoc]
 refine List.Perm.append_left _ ?_
 have e3:List.drop l (R.take l++(R.take k).drop l) =(R.take k).drop l:=by rw[← e1]
 rw[e3]
 rw[← List.append_assoc,← List.append_assoc]
 exact List.Perm.append_right _ List.perm_append_comm
theorem insB_get (R:List Keyed) {k l:Nat}(hk:k<R.length) (hl:l≤k) (p:Nat):(insB R k l)[p]? = if p=l then R[k]? else if l<p∧p≤k then R[p-1]? else R[p]?:=by
 unfold insB
 have len1:(R.take l).length=l:=by rw[List.length_take];omega
 have len2:((R.drop k).take 1).length=1:=by rw[List.length_take,List.length_drop];omega
 have len3:((R.take k).drop l).length=k-l:=by rw[List.length_drop,List.length_take];omega
 by_cases c1:p<l
 ·rw[List.getElem?_append_left (by omega),if_neg (by omega),if_neg (by omega),List.getElem?_take,if_pos c1]
 rw[List.getElem?_append_right (by omega),len1]
 by_cases c2:p=l
 ·rw[if_pos c2,List.getElem?_append_left (by omega),List.getElem?_take,if_pos (by omega),List.getElem?_drop]
  congr 1;omega
 rw[if_neg c2,List.getElem?_append_right (by omega),len2]
 by_cases c3:p≤k
 ·rw[if_pos ⟨by omega,c3⟩,List.getElem?_append_left (by omega),List.getElem?_drop,List.getElem?_take,if_pos (by omega)]
  congr 1;omega
 ·rw[if_neg (by omega),List.getElem?_append_right (by omega),len3,List.getElem?_drop]
  congr 1;omega
theorem bubble_list {ar:Array Keyed}{P R T:List Keyed}(h:ar.toList=P++R++T) {k l:Nat}(hk:k<R.length) (hl:l≤k):(bubble ar (P.length+k) (k-l)).toList=P++insB R k l++T:=by
 have hsz:ar.size=P.length+R.length+T.length:=by
  have:=congrArg List.length h
  rw[Array.length_toList]at this
  simp at this;omega
 have hil:(insB R k l).length=R.length:=(insB_perm R hl).length_eq
 apply List.ext_getElem?
 intro p
 rw[Array.getElem?_toList,getElem?_bubble (by omega) _ (by omega) p,show P.length+k-(k-l)=P.length+l by omega]
 have get:∀q,ar[q]? =(P++R++T)[q]?:=fun q=>by rw[← h,Array.getElem?_toList]
 by_cases c1:p<P.length
 ·rw[if_neg (by omega),if_neg (by omega),get,List.append_assoc,List.append_assoc,List.getElem?_append_left c1,List.getElem?_append_left c1]
 ·by_cases c2:p<P.length+R.length
  ·have eR:(P++insB R k l++T)[p]? =(insB R k l)[p-P.length]?:=by
    rw[List.append_assoc,List.getElem?_append_right (by omega),List.getElem?_append_left (by omega)]
   have eg:∀q,P.length≤q→q<P.length+R.length→ar[q]? = R[q-P.length]?:=fun q h1 h2=>by
    rw[get,List.append_assoc,List.getElem?_append_right h1,List.getElem?_append_left (by omega)]
   rw[eR,insB_get R hk hl]
   by_cases c3:p=P.length+l
   ·rw[if_pos c3,if_pos (show p-P.length=l by omega),eg _ (by omega) (by omega)];congr 1;omega
   ·rw[if_neg c3,if_neg (show ¬ p-P.length=l by omega)]
    by_cases c4:P.length+l<p∧p≤P.length+k
    ·rw[if_pos c4,if_pos (show l<p-P.length∧p-P.length≤k by omega),eg _ (by omega) (by omega)];congr 1;omega
    ·rw[if_neg c4,if_neg (show ¬(l<p-P.length∧p-P.length≤k) by omega),eg _ (by omega) (by omega)]
  ·rw[if_neg (by omega),if_neg (by omega),get,List.append_assoc,List.append_assoc,List.getElem?_append_right (by omega),List.getElem?_append_right (by omega),List.getElem?_append_right (by omega),List.getElem?_append_right (by omega),hil]
section
variable {prog:Program}{w:World}{A:Around}{E:Value→Shared→Prop}{s:Shared}{ltb:Keyed→Keyed→Bool}{S:Keyed→Prop}{κ:SortKind}
theorem wpS_ltAtB (hO:LtOk prog w A E s ltb S κ) {st:SortSt}{i j:Nat}{x y:Keyed}{Q:Option Bool→SortSt→Prop}(hk:kindOf st=κ) (hi:(arrOf st)[i]? = some x) (hj:(arrOf st)[j]? = some y) (Sx:S x) (Sy:S y) (q:Q (some (ltb x y)) st):wpS (model prog w) A E s (ltAt' i j) Q st:=by
 rw[ltAt'_eq]
 refine wpS_bind (wpS_get ?_)
 exact wpS_bind (wpS_elem hi (wpS_bind (wpS_elem hj (hO x y st Q Sx Sy hk q))))
def RiseTo (ltb:Keyed→Keyed→Bool) (R:List Keyed) (k:Nat):Prop:=∀i j x y,i<j→j<k→R[i]? = some x→R[j]? = some y→leB ltb x y
theorem wpS_binB (O:OrdB ltb) (hO:LtOk prog w A E s ltb S κ) {st:SortSt}{Q:Bool→SortSt→Prop}{P R T:List Keyed}{ok:Nat}(hk:kindOf st=κ) (hf:failedOf st=none) (harr:(arrOf st).toList=P++R++T) (hok:ok≤R.length) (hr:RiseTo ltb R ok) (hSa:∀x∈R,S x)
  (h:∀(st':SortSt) (R':List Keyed),(arrOf st').toList=P++R'++T→R'.Perm R→RiseTo ltb R' R'.length→kindOf st'=κ→failedOf st'=none→pendingOf st'=pendingOf st→Q true st'):wpS (model prog w) A E s (binarySort' P.length R.length ok) Q st:=by
 rw[binarySort'_eq]
 refine wpS_bind (wpS_mono (wpS_forRange (I:=fun k c st'=>c =(none,())∧kindOf st'=κ∧failedOf st'=none∧pendingOf st'=pendingOf st∧∃R',(arrOf st').toList=P++R'++T∧R'.Perm R∧RiseTo ltb R' (min k R.length))
  (Q:=fun c st'=>c =(none,())∧kindOf st'=κ∧failedOf st'=none∧pendingOf st'=pendingOf st∧∃R',(arrOf st').toList=P++R'++T∧R'.Perm R∧RiseTo ltb R' R.length) ?step ?fin ⟨rfl,hk,hf,rfl,R,harr,List.Perm.refl _,?init⟩) ?post)
 case init =>
  intro i j x y hij hj hx hy
  exact hr i j x y hij (by omega) hx hy
 case fin =>
  rintro c st' ⟨hc,k1,k2,k3,R',a1,a2,a3⟩
  exact⟨hc,k1,k2,k3,R',a1,a2,fun i j x y hij hj=>a3 i j x y hij (by omega)⟩
 case post =>
  rintro c st' ⟨rfl,k1,k2,k3,R',a1,a2,a3⟩
  exact wpS_pure (h st' R' a1 a2 (by rw[a2.length_eq];exact a3) k1 k2 k3)
 case step =>
  rintro k c st' h1 hkn ⟨rfl,k1,k2,k3,R',a1,a2,a3⟩
  rw[show min k R.length=k by omega]at a3
  have hlen:=a2.length_eq
  have hS':∀x∈R',S x:=fun x hx=>hSa x (a2.mem_iff.mp hx)
  have gt:∀i,i<R'.length→(arrOf st')[P.length+i]? = R'[i]?:=fun i hi=>at_seg a1 i hi
  obtain⟨v,hv⟩ : ∃v,R'[k]? = some v:=⟨_,List.getElem?_eq_getElem (by omega)⟩
  have Sv:=hS' v (List.mem_of_getElem? hv)
  refine wpS_bind (wpS_mono (wpS_forRange (I:=fun x c st''=>st''=st'∧∃l r,c =(none,l,r)∧l≤r∧r≤k∧r-l≤k-x∧(∀i x,i<l→R'[i]? = some x→leB ltb x v)∧(∀i x,r≤i→i<k→R'[i]? = some x→ltb v x=true))
   (Q:=fun c st''=>st''=st'∧∃l r,c =(none,l,r)∧l≤k∧(∀i x,i<l→R'[i]? = some x→leB ltb x v)∧(∀i x,l≤i→i<k→R'[i]? = some x→ltb v x=true)) ?istep ?ifin ⟨rfl,0,k,rfl,by omega,by omega,by omega,fun i x hi=>by omega,fun i x h1 h2=>by omega⟩) ?ipost)
  case ifin =>
   rintro c st'' ⟨rfl,l,r,rfl,b1,b2,b3,b4,b5⟩
   have:l=r:=by omega
   subst this
   exact⟨rfl,l,l,rfl,b2,b4,b5⟩
  case istep =>
   rintro x c st'' _ hxk ⟨e,l,r,rfl,b1,b2,b3,b4,b5⟩
   rw[e]
   dsimp only
   by_cases hge:l ≥ r
   ·rw[if_pos hge]
    have:l=r:=by omega
    subst this
    exact wpS_pure ⟨rfl,l,l,rfl,b2,b4,b5⟩
   ·rw[if_neg hge]
    obtain⟨u,hu⟩ : ∃u,R'[(l+r) / 2]? = some u:=⟨_,List.getElem?_eq_getElem (by omega)⟩
    refine wpS_bind (wpS_ltAtB hO k1 (by rw[gt k (by omega)];exact hv) (by rw[gt _ (by omega)];exact hu) Sv (hS' u (List.mem_of_getElem? hu)) ?_)
    dsimp only
    cases hw:ltb v u with
    | true =>
     simp only[if_true]
     refine wpS_pure ⟨rfl,l,(l+r) / 2,rfl,by omega,by omega,by omega,b4,fun i y q1 q2 hy=>?_⟩
     by_cases ei:i =(l+r) / 2
     ·subst ei;rw[hu]at hy;cases hy;exact hw
     ·have le1:=a3 ((l+r) / 2) i u y (by omega) q2 hu hy
      cases q:ltb v y with
      | true=>rfl
      | false=>have:=O.tr le1 q;rw[hw]at this;cases this
    | false =>
     simp only[Bool.false_eq_true,if_false]
     refine wpS_pure ⟨rfl,(l+r) / 2+1,r,rfl,by omega,by omega,by omega,fun i y q1 hy=>?_,b5⟩
     by_cases ei:i =(l+r) / 2
     ·subst ei;rw[hu]at hy;cases hy;exact hw
     ·exact O.tr (a3 i ((l+r) / 2) y u (by omega) (by omega) hy hu) hw
  case ipost =>
   rintro c st'' ⟨e,l,r,rfl,b1,b4,b5⟩
   rw[e]
   show wpS _ _ _ _ (do moveDown' (P.length+k) (P.length+l);pure (ForInStep.yield (none,()))) _ _
   rw[moveDown'_eq]
   refine wpS_bind (wpS_modify (wpS_pure ⟨rfl,k1,k2,k3,insB R' k l,?_,(insB_perm R' b1).trans a2,?_⟩))
   ·show(bubble (arrOf st') (P.length+k) (P.length+k-(P.length+l))).toList=_
    rw[show P.length+k-(P.length+l)=k-l by omega]
    exact bubble_list a1 (by omega) b1
   ·rw[show min (k+1) R.length=k+1 by omega]
    intro i j x y hij hj hx hy
    rw[insB_get R' (by omega) b1]at hx hy
    by_cases i1:i=l
    ·rw[if_pos i1,hv]at hx
     cases hx
     rw[if_neg (by omega),if_pos (by omega)]at hy
     exact O.asym (b5 (j-1) y (by omega) (by omega) hy)
    rw[if_neg i1]at hx
    by_cases i2:l<i∧i≤k
    ·rw[if_pos i2]at hx
     rw[if_neg (by omega),if_pos (by omega)]at hy
     exact a3 (i-1) (j-1) x y (by omega) (by omega) hx hy
    rw[if_neg i2]at hx
    by_cases j1:j=l
    ·rw[if_pos j1,hv]at hy
     cases hy
     exact b4 i x (by omega) hx
    rw[if_neg j1]at hy
    by_cases j2:l<j∧j≤k
    ·rw[if_pos j2]at hy
     exact a3 i (j-1) x y (by omega) (by omega) hx hy
    ·rw[if_neg j2]at hy
     exact a3 i j x y hij (by omega) hx hy
end
end L2
namespace L2
open PySem PySem.Spec PyProof.Rows
def revB (R:List Keyed) (i j:Nat):List Keyed:=R.take i++(((R.take j).drop i).reverse++R.drop j)
theorem revB_perm (R:List Keyed) {i j:Nat}(h:i≤j):(revB R i j).Perm R:=by
 unfold revB
 have e1:R.take j=R.take i++(R.take j).drop i:=by
  conv=>lhs;rw[← List.take_append_drop i (R.take j)]
  rw[List.take_take,Nat.min_eq_left h]
 have:(R.take i++(((R.take j).drop i).reverse++R.drop j)).Perm (R.take i++((R.take j).drop i++R.drop j)):=List.Perm.append_left _ (List.Perm.append_right _ (List.reverse_perm _))
 refine this.trans (List.Perm.of_eq ?_)
 rw[← List.append_assoc,← e1,List.take_append_drop]
theorem revB_get (R:List Keyed) {i j:Nat}(hj:j≤R.length) (h:i≤j) (p:Nat):(revB R i j)[p]? = if i≤p∧p<j then R[i+j-1-p]? else R[p]?:=by
 unfold revB
 have len1:(R.take i).length=i:=by rw[List.length_take];omega
 have len2:((R.take j).drop i).length=j-i:=by rw[List.length_drop,List.length_take];omega
 by_cases c1:p<i
 ·rw[List.getElem?_append_left (by omega),if_neg (by omega),List.getElem?_take,if_pos c1]
 rw[List.getElem?_append_right (by omega),len1]
 by_cases c2:p<j
 ·rw[if_pos ⟨by omega,c2⟩,List.getElem?_append_left (by rw[List.length_reverse];omega),List.getElem?_reverse (by omega),len2,List.getElem?_drop,List.getElem?_take,if_pos (by omega)]
  congr 1;omega
 ·rw[if_neg (by omega),List.getElem?_append_right (by rw[List.length_reverse];omega),List.length_reverse,len2,List.getElem?_drop]
  congr 1;omega
theorem mirror_list {ar:Array Keyed}{P R:List Keyed}(h:ar.toList=P++R) {i j:Nat}(hj:j≤R.length) (hi:i≤j):(mirror ar (P.length+i) (P.length+j) ((P.length+j-(P.length+i)) / 2)).toList=P++revB R i j:=by
 have hsz:ar.size=P.length+R.length:=by
  have:=congrArg List.length h
  rw[Array.length_toList]at this
  simp at this;omega
 apply List.ext_getElem?
 intro p
 rw[Array.getElem?_toList,getElem?_mirror_all (by omega) p]
 have get:∀q,ar[q]? =(P++R)[q]?:=fun q=>by rw[← h,Array.getElem?_toList]
 by_cases c1:p<P.length
 ·rw[if_neg (by omega),get,List.getElem?_append_left c1,List.getElem?_append_left c1]
 ·rw[List.getElem?_append_right (by omega),revB_get R hj hi]
  by_cases c2:P.length+i≤p∧p<P.length+j
  ·rw[if_pos c2,if_pos (show i≤p-P.length∧p-P.length<j by omega),get,List.getElem?_append_right (by omega)]
   congr 1;omega
  ·rw[if_neg c2,if_neg (show ¬(i≤p-P.length∧p-P.length<j) by omega),get,List.getElem?_append_right (by omega)]
theorem OrdB.refl {ltb:Keyed→Keyed→Bool}(O:OrdB ltb) (x:Keyed):leB ltb x x:=by
 unfold leB
 cases q:ltb x x with
 | false=>rfl
 | true=>have:=O.asym q;rw[q]at this;cases this
def FallTo (ltb:Keyed→Keyed→Bool) (R:List Keyed) (k:Nat):Prop:=∀i j x y,i<j→j<k→R[i]? = some x→R[j]? = some y→leB ltb y x
def EqSeg (ltb:Keyed→Keyed→Bool) (R:List Keyed) (a b:Nat):Prop:=∀i j x y,a≤i→i<b→a≤j→j<b→R[i]? = some x→R[j]? = some y→leB ltb x y
section
variable {ltb:Keyed→Keyed→Bool}{R:List Keyed}
theorem RiseTo.more (O:OrdB ltb) {n:Nat}(h:RiseTo ltb R n) (hn:1≤n) {u v:Keyed}(hu:R[n-1]? = some u) (hv:R[n]? = some v) (c:leB ltb u v):RiseTo ltb R (n+1):=by
 intro i j x y hij hj hx hy
 by_cases e:j=n
 ·subst e
  rw[hv]at hy;cases hy
  by_cases e2:i=j-1
  ·subst e2;rw[hu]at hx;cases hx;exact c
  ·exact O.tr (h i (j-1) x u (by omega) (by omega) hx hu) c
 ·exact h i j x y hij (by omega) hx hy
theorem FallTo.more (O:OrdB ltb) {n:Nat}(h:FallTo ltb R n) (hn:1≤n) {u v:Keyed}(hu:R[n-1]? = some u) (hv:R[n]? = some v) (c:leB ltb v u):FallTo ltb R (n+1):=by
 intro i j x y hij hj hx hy
 by_cases e:j=n
 ·subst e
  rw[hv]at hy;cases hy
  by_cases e2:i=j-1
  ·subst e2;rw[hu]at hx;cases hx;exact c
  ·exact O.tr c (h i (j-1) x u (by omega) (by omega) hx hu)
 ·exact h i j x y hij (by omega) hx hy
theorem FallTo.seg {n a:Nat}(h:FallTo ltb R n) (ha:a≤n) (hn:n≤R.length) (e:EqSeg ltb R a n):FallTo ltb (revB R a n) n:=by
 intro i j x y hij hj hx hy
 rw[revB_get R hn ha]at hx hy
 by_cases c1:a≤i
 ·rw[if_pos ⟨c1,by omega⟩]at hx
  rw[if_pos ⟨by omega,hj⟩]at hy
  exact e _ _ y x (by omega) (by omega) (by omega) (by omega) hy hx
 ·rw[if_neg (by omega)]at hx
  by_cases c2:a≤j
  ·rw[if_pos ⟨c2,hj⟩]at hy
   exact h i _ x y (by omega) (by omega) hx hy
  ·rw[if_neg (by omega)]at hy
   exact h i j x y hij hj hx hy
theorem FallTo.turn {n:Nat}(h:FallTo ltb R n) (hn:n≤R.length):RiseTo ltb (revB R 0 n) n:=by
 intro i j x y hij hj hx hy
 rw[revB_get R hn (Nat.zero_le _),if_pos ⟨Nat.zero_le _,by omega⟩]at hx
 rw[revB_get R hn (Nat.zero_le _),if_pos ⟨Nat.zero_le _,hj⟩]at hy
 exact h _ _ y x (by omega) (by omega) hy hx
end
section
variable {prog:Program}{w:World}{A:Around}{E:Value→Shared→Prop}{s:Shared}{ltb:Keyed→Keyed→Bool}{S:Keyed→Prop}{κ:SortKind}
structure ZS (κ:SortKind) (st:SortSt) (P R:List Keyed) (st':SortSt) (R':List Keyed):Prop where
 kind:kindOf st'=κ
 fail:failedOf st'=none
 pend:pendingOf st'=pendingOf st
 arr:(arrOf st').toList=P++R'
 perm:R'.Perm R
theorem ZS.rev {st st':SortSt}{P R R':List Keyed}(z:ZS κ st P R st' R') {i j:Nat}(hj:j≤R'.length) (hi:i≤j):ZS κ st P R (setArr st' (mirror (arrOf st') (P.length+i) (P.length+j) ((P.length+j-(P.length+i)) / 2))) (revB R' i j) :=
 ⟨z.kind,z.fail,z.pend,mirror_list z.arr hj hi,(revB_perm R' hi).trans z.perm⟩
theorem ZS.at {st st':SortSt}{P R R':List Keyed}(z:ZS κ st P R st' R') (i:Nat) (hi:i<R'.length):(arrOf st')[P.length+i]? = R'[i]?:=at_seg (T:=[]) (by rw[List.append_nil];exact z.arr) i hi
theorem ZS.ask (hO:LtOk prog w A E s ltb S κ) {st st':SortSt}{P R R':List Keyed}(z:ZS κ st P R st' R') (hS:∀x∈R,S x) {a b i j:Nat}(ea:a=P.length+i) (eb:b=P.length+j) (hi:i<R'.length) (hj:j<R'.length) {Q:Option Bool→SortSt→Prop}(q:∀x y,R'[i]? = some x→R'[j]? = some y→Q (some (ltb x y)) st') :
  wpS (model prog w) A E s (ltAt' a b) Q st':=by
 have m:∀x,x∈R'→S x:=fun x hx=>hS x (z.perm.mem_iff.mp hx)
 obtain⟨x,hx⟩ : ∃x,R'[i]? = some x:=⟨_,List.getElem?_eq_getElem hi⟩
 obtain⟨y,hy⟩ : ∃y,R'[j]? = some y:=⟨_,List.getElem?_eq_getElem hj⟩
 exact wpS_ltAtB hO z.kind (by rw[ea,z.at i hi];exact hx) (by rw[eb,z.at j hj];exact hy) (m x (List.mem_of_getElem? hx)) (m y (List.mem_of_getElem? hy)) (q x y hx hy)
theorem wpS_runB (O:OrdB ltb) (hO:LtOk prog w A E s ltb S κ) {st:SortSt}{Q:Option Nat→SortSt→Prop}{P R:List Keyed}(hk:kindOf st=κ) (hf:failedOf st=none) (harr:(arrOf st).toList=P++R) (hR:1≤R.length) (hS:∀x∈R,S x)
  (h:∀(st':SortSt) (R':List Keyed) (n:Nat),ZS κ st P R st' R'→1≤n→n≤R.length→RiseTo ltb R' n→Q (some n) st'):wpS (model prog w) A E s (countRun' P.length R.length) Q st:=by
 have z0:ZS κ st P R st R:=⟨hk,hf,rfl,harr,List.Perm.refl _⟩
 rw[countRun'_eq]
 refine wpS_bind (wpS_mono (wpS_forRange (I:=fun x c st'=>st'=st∧c =(none,x)∧RiseTo ltb R x∧x≤R.length)
  (Q:=fun c st'=>st'=st∧∃n,c =(none,n)∧1≤n∧n≤R.length∧RiseTo ltb R n∧(n<R.length→∀u v,R[n-1]? = some u→R[n]? = some v→ltb v u=true)) ?stp ?fin ⟨rfl,rfl,fun i j x y hij hj=>by omega,hR⟩) ?post)
 case fin =>
  rintro c st' ⟨rfl,rfl,a1,a2⟩
  exact⟨rfl,_,rfl,by omega,a2,a1,fun q=>by omega⟩
 case stp =>
  rintro x c st' hx1 hx2 ⟨est,rfl,a1,a2⟩
  rw[est]
  dsimp only
  refine wpS_bind (z0.ask hO hS (i:=x) (j:=x-1) rfl (by omega) hx2 (by omega) fun v u hv hu=>?_)
  dsimp only
  cases hw:ltb v u with
  | true =>
   simp only[if_true]
   exact wpS_pure ⟨rfl,x,rfl,hx1,a2,a1,fun _ u' v' hu' hv'=>by rw[hu]at hu';rw[hv]at hv';cases hu';cases hv';exact hw⟩
  | false =>
   simp only[Bool.false_eq_true,if_false]
   exact wpS_pure ⟨rfl,rfl,a1.more O hx1 hu hv hw,by omega⟩
 case post =>
  rintro c st' ⟨est,n,rfl,a1,a2,a3,a4⟩
  rw[est]
  dsimp only
  by_cases c1:n=R.length
  ·rw[if_pos (by simpa using c1)]
   exact wpS_pure (h st R n z0 a1 a2 a3)
  rw[if_neg (by simpa using c1)]
  have a4:=a4 (by omega)
  obtain⟨u0,hu0⟩ : ∃u,R[n-1]? = some u:=⟨_,List.getElem?_eq_getElem (by omega)⟩
  obtain⟨v0,hv0⟩ : ∃v,R[n]? = some v:=⟨_,List.getElem?_eq_getElem (by omega)⟩
  have hw0:=a4 u0 v0 hu0 hv0
  by_cases c2:n > 1
  ·rw[if_pos c2]
   refine wpS_bind (z0.ask hO hS (i:=0) (j:=n-1) rfl (by omega) (by omega) (by omega) fun f l hf0 hl0=>?_)
   rw[hu0]at hl0;cases hl0
   dsimp only
   cases hw1:ltb f u0 with
   | true =>
    simp only[if_true]
    exact wpS_pure (h st R n z0 a1 a2 a3)
   | false =>
    simp only[Bool.false_eq_true,if_false]
    rw[reverseSlice'_eq]
    refine wpS_bind (wpS_modify ?_)
    have z1:=z0.rev (i:=0) (j:=n) (by omega) (Nat.zero_le _)
    rw[Nat.add_zero]at z1
    have eq0:EqSeg ltb R 0 n:=fun i j x y _ i2 _ j2 hx hy=>by
     have t1:leB ltb x u0:=by
      by_cases e:i=n-1
      ·subst e;rw[hu0]at hx;cases hx;exact O.refl _
      ·exact a3 i (n-1) x u0 (by omega) (by omega) hx hu0
     have t2:leB ltb f y:=by
      by_cases e:j=0
      ·subst e;rw[hf0]at hy;cases hy;exact O.refl _
      ·exact a3 0 j f y (by omega) j2 hf0 hy
     exact O.tr (O.tr t1 hw1) t2
    have f1:FallTo ltb (revB R 0 n) (n+1):=by
     have ff:FallTo ltb R n:=fun i j x y hij hj hx hy=>eq0 j i y x (by omega) hj (by omega) (by omega) hy hx
     have fr:=ff.seg (a:=0) (by omega) (by omega) eq0
     obtain⟨u2,hu2⟩ : ∃u2,(revB R 0 n)[n-1]? = some u2:=⟨_,List.getElem?_eq_getElem (by rw[(revB_perm R (by omega)).length_eq];omega)⟩
     have hu3:=hu2
     rw[revB_get R (by omega) (by omega),if_pos (by omega)]at hu3
     refine fr.more O (by omega) hu2 (by rw[revB_get R (by omega) (by omega),if_neg (by omega)];exact hv0) (O.tr (O.asym hw0) (eq0 (n-1) _ u0 u2 (by omega) (by omega) (by omega) (by omega) hu0 hu3))
    generalize setArr st (mirror (arrOf st) P.length (P.length+n) ((P.length+n-P.length) / 2))=st1 at z1 ⊢
    generalize hR1:revB R 0 n=R1 at z1 f1
    refine wpS_bind (wpS_lift (wpAny_rule ⟨rfl,?_⟩))
    refine wpS_bind (wpS_mono (wpS_forRange (I:=fun x c st'=>∃R' q,c =(none,x,q)∧ZS κ st P R st' R'∧q+1≤x∧x≤R.length∧FallTo ltb R' x∧EqSeg ltb R' (x-(q+1)) x)
     (Q:=fun c st'=>∃R' m q,c =(none,m,q)∧ZS κ st P R st' R'∧q+1≤m∧m≤R.length∧FallTo ltb R' m∧EqSeg ltb R' (m-(q+1)) m) ?stp3 ?fin3 ⟨R1,0,rfl,z1,by omega,by omega,f1,fun i j x y i1 i2 j1 j2 hx hy=>by
      have e1:i=j:=by omega
      subst e1;rw[hx]at hy;cases hy;exact O.refl x⟩) ?post3)
    case fin3 =>
     rintro c st' ⟨R',q,rfl,b1,b2,b3,b4,b5⟩
     exact⟨R',_,q,rfl,b1,b2,b3,b4,b5⟩
    case stp3 =>
     rintro x c st' hx1 hx2 ⟨R',q,rfl,b1,b2,b3,b4,b5⟩
     have hl:=b1.perm.length_eq
     dsimp only
     refine wpS_bind (b1.ask hO hS (i:=x) (j:=x-1) rfl (by omega) (by omega) (by omega) fun v u hv hu=>?_)
     dsimp only
     cases hw:ltb v u with
     | true =>
      simp only[if_true]
      by_cases c6:q > 0
      ·rw[if_pos c6,reverseSlice'_eq]
       refine wpS_bind (wpS_modify ?_)
       have zr:=b1.rev (i:=x-(q+1)) (j:=x) (by omega) (by omega)
       have fr:=b4.seg (a:=x-(q+1)) (by omega) (by omega) b5
       have hv2:(revB R' (x-(q+1)) x)[x]? = some v:=by rw[revB_get R' (by omega) (by omega),if_neg (by omega)];exact hv
       obtain⟨u2,hu2⟩ : ∃u2,(revB R' (x-(q+1)) x)[x-1]? = some u2:=⟨_,List.getElem?_eq_getElem (by rw[(revB_perm R' (by omega)).length_eq];omega)⟩
       have hu3:=hu2
       rw[revB_get R' (by omega) (by omega),if_pos (by omega)]at hu3
       have cc:leB ltb v u2:=O.tr (O.asym hw) (b5 (x-1) _ u u2 (by omega) (by omega) (by omega) (by omega) hu hu3)
       refine wpS_pure ⟨_,0,rfl,?_,by omega,by omega,fr.more O (by omega) hu2 hv2 cc,fun i j x y i1 i2 j1 j2 hx hy=>by
        have e1:i=j:=by omega
        subst e1;rw[hx]at hy;cases hy;exact O.refl x⟩
       rw[show P.length+x-(q+1)=P.length+(x-(q+1)) by omega]
       exact zr
      ·rw[if_neg c6]
       exact wpS_pure ⟨R',0,rfl,b1,by omega,by omega,b4.more O (by omega) hu hv (O.asym hw),fun i j x y i1 i2 j1 j2 hx hy=>by
        have e1:i=j:=by omega
        subst e1;rw[hx]at hy;cases hy;exact O.refl x⟩
     | false =>
      simp only[Bool.false_eq_true,if_false]
      refine wpS_bind (b1.ask hO hS (i:=x-1) (j:=x) (by omega) rfl (by omega) (by omega) fun u' v' hu' hv'=>?_)
      rw[hu]at hu';cases hu'
      rw[hv]at hv';cases hv'
      dsimp only
      cases hw2:ltb u v with
      | true =>
       simp only[if_true]
       exact wpS_pure ⟨R',x,q,rfl,b1,b2,b3,b4,b5⟩
      | false =>
       simp only[Bool.false_eq_true,if_false]
       refine wpS_pure ⟨R',q+1,rfl,b1,by omega,by omega,b4.more O (by omega) hu hv hw2,fun i j p r i1 i2 j1 j2 hp hr=>?_⟩
       have toU:∀i p,x+1-(q+1+1)≤i→i<x+1→R'[i]? = some p→leB ltb p u∧leB ltb u p:=fun i p g1 g2 hp=>by
        by_cases e:i=x
        ·subst e;rw[hv]at hp;cases hp;exact⟨hw2,hw⟩
        ·exact⟨b5 i (x-1) p u (by omega) (by omega) (by omega) (by omega) hp hu,b5 (x-1) i u p (by omega) (by omega) (by omega) (by omega) hu hp⟩
       exact O.tr (toU i p (by omega) i2 hp).1 (toU j r (by omega) j2 hr).2
    case post3 =>
     rintro c st3 ⟨R',m,q,rfl,b1,b2,b3,b4,b5⟩
     have hl:=b1.perm.length_eq
     dsimp only
     by_cases c7:q > 0
     ·rw[if_pos c7,reverseSlice'_eq]
      refine wpS_bind (wpS_modify ?_)
      have zr:=b1.rev (i:=m-(q+1)) (j:=m) (by omega) (by omega)
      rw[show P.length+(m-(q+1))=P.length+m-(q+1) by omega]at zr
      have fr:=b4.seg (a:=m-(q+1)) (by omega) (by omega) b5
      have hl2:=zr.perm.length_eq
      generalize setArr st3 (mirror (arrOf st3) (P.length+m-(q+1)) (P.length+m) ((P.length+m-(P.length+m-(q+1))) / 2))=st4 at zr ⊢
      generalize revB R' (m-(q+1)) m=R4 at zr fr hl2
      rw[reverseSlice'_eq]
      refine wpS_bind (wpS_modify ?_)
      have z5:=zr.rev (i:=0) (j:=m) (by omega) (Nat.zero_le _)
      rw[Nat.add_zero]at z5
      have r5:=fr.turn (by omega)
      generalize setArr st4 (mirror (arrOf st4) P.length (P.length+m) ((P.length+m-P.length) / 2))=st5 at z5 ⊢
      refine wpS_bind (wpS_mono (wpS_forRange (I:=fun x c st'=>st'=st5∧c =(none,x)∧RiseTo ltb (revB R4 0 m) x∧x≤R.length)
       (Q:=fun c st'=>st'=st5∧∃n,c =(none,n)∧1≤n∧n≤R.length∧RiseTo ltb (revB R4 0 m) n) ?stp5 ?fin5 ⟨rfl,rfl,r5,by omega⟩) ?post5)
      case fin5 =>
       rintro c st' ⟨est,rfl,b1,b2⟩
       exact⟨est,_,rfl,by omega,b2,b1⟩
      case post5 =>
       rintro c st' ⟨est,n5,rfl,b1,b2,b3⟩
       rw[est]
       exact wpS_pure (h _ _ n5 z5 b1 b2 b3)
      case stp5 =>
       rintro x c st' hx1 hx2 ⟨est,rfl,b1,b2⟩
       rw[est]
       dsimp only
       refine wpS_bind (z5.ask hO hS (i:=x) (j:=x-1) rfl (by omega) (by rw[z5.perm.length_eq];exact hx2) (by rw[z5.perm.length_eq];omega) fun v u hv hu=>?_)
       dsimp only
       cases hw:ltb v u with
       | true =>
        simp only[if_true]
        exact wpS_pure ⟨rfl,x,rfl,by omega,b2,b1⟩
       | false =>
        simp only[Bool.false_eq_true,if_false]
        exact wpS_pure ⟨rfl,rfl,b1.more O (by omega) hu hv hw,by omega⟩
     ·rw[if_neg c7,reverseSlice'_eq]
      refine wpS_bind (wpS_modify ?_)
      have z5:=b1.rev (i:=0) (j:=m) (by omega) (Nat.zero_le _)
      rw[Nat.add_zero]at z5
      have r5:=b4.turn (by omega)
      generalize setArr st3 (mirror (arrOf st3) P.length (P.length+m) ((P.length+m-P.length) / 2))=st5 at z5 ⊢
      refine wpS_bind (wpS_mono (wpS_forRange (I:=fun x c st'=>st'=st5∧c =(none,x)∧RiseTo ltb (revB R' 0 m) x∧x≤R.length)
       (Q:=fun c st'=>st'=st5∧∃n,c =(none,n)∧1≤n∧n≤R.length∧RiseTo ltb (revB R' 0 m) n) ?stp5 ?fin5 ⟨rfl,rfl,r5,by omega⟩) ?post5)
      case fin5 =>
       rintro c st' ⟨est,rfl,b1,b2⟩
       exact⟨est,_,rfl,by omega,b2,b1⟩
      case post5 =>
       rintro c st' ⟨est,n5,rfl,b1,b2,b3⟩
       rw[est]
       exact wpS_pure (h _ _ n5 z5 b1 b2 b3)
      case stp5 =>
       rintro x c st' hx1 hx2 ⟨est,rfl,b1,b2⟩
       rw[est]
       dsimp only
       refine wpS_bind (z5.ask hO hS (i:=x) (j:=x-1) rfl (by omega) (by rw[z5.perm.length_eq];exact hx2) (by rw[z5.perm.length_eq];omega) fun v u hv hu=>?_)
       dsimp only
       cases hw:ltb v u with
       | true =>
        simp only[if_true]
        exact wpS_pure ⟨rfl,x,rfl,by omega,b2,b1⟩
       | false =>
        simp only[Bool.false_eq_true,if_false]
        exact wpS_pure ⟨rfl,rfl,b1.more O (by omega) hu hv hw,by omega⟩
  ·rw[if_neg c2]
   have e1:n=1:=by omega
   have f1:FallTo ltb R (n+1):=by
    have ff:FallTo ltb R n:=fun i j x y hij hj hx hy=>by omega
    exact ff.more O a1 hu0 hv0 (O.asym hw0)
   have z1:=z0
   have hR1:∃R1,R1=R:=⟨_,rfl⟩
   refine wpS_bind (wpS_lift (wpAny_rule ⟨rfl,?_⟩))
   refine wpS_bind (wpS_mono (wpS_forRange (I:=fun x c st'=>∃R' q,c =(none,x,q)∧ZS κ st P R st' R'∧q+1≤x∧x≤R.length∧FallTo ltb R' x∧EqSeg ltb R' (x-(q+1)) x)
    (Q:=fun c st'=>∃R' m q,c =(none,m,q)∧ZS κ st P R st' R'∧q+1≤m∧m≤R.length∧FallTo ltb R' m∧EqSeg ltb R' (m-(q+1)) m) ?stp3 ?fin3 ⟨R,0,rfl,z1,by omega,by omega,f1,fun i j x y i1 i2 j1 j2 hx hy=>by
     have e1:i=j:=by omega
     subst e1;rw[hx]at hy;cases hy;exact O.refl x⟩) ?post3)
   case fin3 =>
    rintro c st' ⟨R',q,rfl,b1,b2,b3,b4,b5⟩
    exact⟨R',_,q,rfl,b1,b2,b3,b4,b5⟩
   case stp3 =>
    rintro x c st' hx1 hx2 ⟨R',q,rfl,b1,b2,b3,b4,b5⟩
    have hl:=b1.perm.length_eq
    dsimp only
    refine wpS_bind (b1.ask hO hS (i:=x) (j:=x-1) rfl (by omega) (by omega) (by omega) fun v u hv hu=>?_)
    dsimp only
    cases hw:ltb v u with
    | true =>
     simp only[if_true]
     by_cases c6:q > 0
     ·rw[if_pos c6,reverseSlice'_eq]
      refine wpS_bind (wpS_modify ?_)
      have zr:=b1.rev (i:=x-(q+1)) (j:=x) (by omega) (by omega)
      have fr:=b4.seg (a:=x-(q+1)) (by omega) (by omega) b5
      have hv2:(revB R' (x-(q+1)) x)[x]? = some v:=by rw[revB_get R' (by omega) (by omega),if_neg (by omega)];exact hv
      obtain⟨u2,hu2⟩ : ∃u2,(revB R' (x-(q+1)) x)[x-1]? = some u2:=⟨_,List.getElem?_eq_getElem (by rw[(revB_perm R' (by omega)).length_eq];omega)⟩
      have hu3:=hu2
      rw[revB_get R' (by omega) (by omega),if_pos (by omega)]at hu3
      have cc:leB ltb v u2:=O.tr (O.asym hw) (b5 (x-1) _ u u2 (by omega) (by omega) (by omega) (by omega) hu hu3)
      refine wpS_pure ⟨_,0,rfl,?_,by omega,by omega,fr.more O (by omega) hu2 hv2 cc,fun i j x y i1 i2 j1 j2 hx hy=>by
       have e1:i=j:=by omega
       subst e1;rw[hx]at hy;cases hy;exact O.refl x⟩
      rw[show P.length+x-(q+1)=P.length+(x-(q+1)) by omega]
      exact zr
     ·rw[if_neg c6]
      exact wpS_pure ⟨R',0,rfl,b1,by omega,by omega,b4.more O (by omega) hu hv (O.asym hw),fun i j x y i1 i2 j1 j2 hx hy=>by
       have e1:i=j:=by omega
       subst e1;rw[hx]at hy;cases hy;exact O.refl x⟩
    | false =>
     simp only[Bool.false_eq_true,if_false]
     refine wpS_bind (b1.ask hO hS (i:=x-1) (j:=x) (by omega) rfl (by omega) (by omega) fun u' v' hu' hv'=>?_)
     rw[hu]at hu';cases hu'
     rw[hv]at hv';cases hv'
     dsimp only
     cases hw2:ltb u v with
     | true =>
      simp only[if_true]
      exact wpS_pure ⟨R',x,q,rfl,b1,b2,b3,b4,b5⟩
     | false =>
      simp only[Bool.false_eq_true,if_false]
      refine wpS_pure ⟨R',q+1,rfl,b1,by omega,by omega,b4.more O (by omega) hu hv hw2,fun i j p r i1 i2 j1 j2 hp hr=>?_⟩
      have toU:∀i p,x+1-(q+1+1)≤i→i<x+1→R'[i]? = some p→leB ltb p u∧leB ltb u p:=fun i p g1 g2 hp=>by
       by_cases e:i=x
       ·subst e;rw[hv]at hp;cases hp;exact⟨hw2,hw⟩
       ·exact⟨b5 i (x-1) p u (by omega) (by omega) (by omega) (by omega) hp hu,b5 (x-1) i u p (by omega) (by omega) (by omega) (by omega) hu hp⟩
      exact O.tr (toU i p (by omega) i2 hp).1 (toU j r (by omega) j2 hr).2
   case post3 =>
    rintro c st3 ⟨R',m,q,rfl,b1,b2,b3,b4,b5⟩
    have hl:=b1.perm.length_eq
    dsimp only
    by_cases c7:q > 0
    ·rw[if_pos c7,reverseSlice'_eq]
     refine wpS_bind (wpS_modify ?_)
     have zr:=b1.rev (i:=m-(q+1)) (j:=m) (by omega) (by omega)
     rw[show P.length+(m-(q+1))=P.length+m-(q+1) by omega]at zr
     have fr:=b4.seg (a:=m-(q+1)) (by omega) (by omega) b5
     have hl2:=zr.perm.length_eq
     generalize setArr st3 (mirror (arrOf st3) (P.length+m-(q+1)) (P.length+m) ((P.length+m-(P.length+m-(q+1))) / 2))=st4 at zr ⊢
     generalize revB R' (m-(q+1)) m=R4 at zr fr hl2
     rw[reverseSlice'_eq]
     refine wpS_bind (wpS_modify ?_)
     have z5:=zr.rev (i:=0) (j:=m) (by omega) (Nat.zero_le _)
     rw[Nat.add_zero]at z5
     have r5:=fr.turn (by omega)
     generalize setArr st4 (mirror (arrOf st4) P.length (P.length+m) ((P.length+m-P.length) / 2))=st5 at z5 ⊢
     refine wpS_bind (wpS_mono (wpS_forRange (I:=fun x c st'=>st'=st5∧c =(none,x)∧RiseTo ltb (revB R4 0 m) x∧x≤R.length)
      (Q:=fun c st'=>st'=st5∧∃n,c =(none,n)∧1≤n∧n≤R.length∧RiseTo ltb (revB R4 0 m) n) ?stp5 ?fin5 ⟨rfl,rfl,r5,by omega⟩) ?post5)
     case fin5 =>
      rintro c st' ⟨est,rfl,b1,b2⟩
      exact⟨est,_,rfl,by omega,b2,b1⟩
     case post5 =>
      rintro c st' ⟨est,n5,rfl,b1,b2,b3⟩
      rw[est]
      exact wpS_pure (h _ _ n5 z5 b1 b2 b3)
     case stp5 =>
      rintro x c st' hx1 hx2 ⟨est,rfl,b1,b2⟩
      rw[est]
      dsimp only
      refine wpS_bind (z5.ask hO hS (i:=x) (j:=x-1) rfl (by omega) (by rw[z5.perm.length_eq];exact hx2) (by rw[z5.perm.length_eq];omega) fun v u hv hu=>?_)
      dsimp only
      cases hw:ltb v u with
      | true =>
       simp only[if_true]
       exact wpS_pure ⟨rfl,x,rfl,by omega,b2,b1⟩
      | false =>
       simp only[Bool.false_eq_true,if_false]
       exact wpS_pure ⟨rfl,rfl,b1.more O (by omega) hu hv hw,by omega⟩
    ·rw[if_neg c7,reverseSlice'_eq]
     refine wpS_bind (wpS_modify ?_)
     have z5:=b1.rev (i:=0) (j:=m) (by omega) (Nat.zero_le _)
     rw[Nat.add_zero]at z5
     have r5:=b4.turn (by omega)
     generalize setArr st3 (mirror (arrOf st3) P.length (P.length+m) ((P.length+m-P.length) / 2))=st5 at z5 ⊢
     refine wpS_bind (wpS_mono (wpS_forRange (I:=fun x c st'=>st'=st5∧c =(none,x)∧RiseTo ltb (revB R' 0 m) x∧x≤R.length)
      (Q:=fun c st'=>st'=st5∧∃n,c =(none,n)∧1≤n∧n≤R.length∧RiseTo ltb (revB R' 0 m) n) ?stp5 ?fin5 ⟨rfl,rfl,r5,by omega⟩) ?post5)
     case fin5 =>
      rintro c st' ⟨est,rfl,b1,b2⟩
      exact⟨est,_,rfl,by omega,b2,b1⟩
     case post5 =>
      rintro c st' ⟨est,n5,rfl,b1,b2,b3⟩
      rw[est]
      exact wpS_pure (h _ _ n5 z5 b1 b2 b3)
     case stp5 =>
      rintro x c st' hx1 hx2 ⟨est,rfl,b1,b2⟩
      rw[est]
      dsimp only
      refine wpS_bind (z5.ask hO hS (i:=x) (j:=x-1) rfl (by omega) (by rw[z5.perm.length_eq];exact hx2) (by rw[z5.perm.length_eq];omega) fun v u hv hu=>?_)
      dsimp only
      cases hw:ltb v u with
      | true =>
       simp only[if_true]
       exact wpS_pure ⟨rfl,x,rfl,by omega,b2,b1⟩
      | false =>
       simp only[Bool.false_eq_true,if_false]
       exact wpS_pure ⟨rfl,rfl,b1.more O (by omega) hu hv hw,by omega⟩
end
end L2
namespace L2
open PySem PySem.Spec PyProof.Rows
def Offs:Nat→List (List Keyed)→List (Nat×Nat×Nat)→Prop
 | _,[],[]=>True
 | o,r::rs,p::ps=>p.1=o∧p.2.1=r.length∧Offs (o+r.length) rs ps
 | _,_,_=>False
theorem Offs.len:∀{o:Nat}{rs:List (List Keyed)}{ps:List (Nat×Nat×Nat)},Offs o rs ps→rs.length=ps.length
 | _,[],[],_=>rfl
 | _,_::_,_::_,⟨_,_,t⟩=>congrArg (· + 1) (Offs.len t)
theorem Offs.app:∀{o:Nat}{rs ts:List (List Keyed)}{ps qs:List (Nat×Nat×Nat)},Offs o rs ps→Offs (o+rs.flatten.length) ts qs→Offs o (rs++ts) (ps++qs)
 | o,[],ts,[],qs,_,h=>by simpa using h
 | o,r::rs,ts,p::ps,qs,⟨a,b,t⟩,h=>⟨a,b,Offs.app t (by rw[List.flatten_cons,List.length_append]at h;rw[Nat.add_assoc];exact h)⟩
theorem Offs.split:∀{o:Nat}{rs ts:List (List Keyed)}{ps:List (Nat×Nat×Nat)},Offs o (rs++ts) ps→∃p1 p2,ps=p1++p2∧p1.length=rs.length∧Offs o rs p1∧Offs (o+rs.flatten.length) ts p2
 | o,[],ts,ps,h=>⟨[],ps,rfl,rfl,trivial,by simpa using h⟩
 | o,r::rs,ts,[],h=>h.elim
 | o,r::rs,ts,p::ps,⟨a,b,t⟩=>by
  obtain⟨p1,p2,rfl,e,f,g⟩:=Offs.split t
  exact⟨p::p1,p2,rfl,congrArg (· + 1) e,⟨a,b,f⟩,by rw[List.flatten_cons,List.length_append,← Nat.add_assoc];exact g⟩
section
variable {ltb:Keyed→Keyed→Bool}{κ:SortKind}
structure RI (ltb:Keyed→Keyed→Bool) (κ:SortKind) (a0:List Keyed) (st:SortSt) (rs:List (List Keyed)) (U:List Keyed):Prop where
 kind:kindOf st=κ
 fail:failedOf st=none
 arr:(arrOf st).toList=rs.flatten++U
 perm:(arrOf st).toList.Perm a0
 offs:Offs 0 rs (pendingOf st).toList
 rise:∀r∈rs,r.Pairwise (leB ltb)∧r ≠ []
theorem flat_len:∀{rs:List (List Keyed)},(∀r∈rs,r ≠ [])→rs.length≤rs.flatten.length
 | [],_=>Nat.le_refl _
 | r::rs,h=>by
  have:=flat_len (rs:=rs) fun x hx=>h x (List.mem_cons_of_mem _ hx)
  have l:=List.length_pos_iff.mpr (h r List.mem_cons_self)
  rw[List.flatten_cons,List.length_append,List.length_cons];omega
end
section
variable {prog:Program}{w:World}{A:Around}{E:Value→Shared→Prop}{s:Shared}{ltb:Keyed→Keyed→Bool}{S:Keyed→Prop}{κ:SortKind}
theorem two_at {α:Type}{l:List α}{i:Nat}(h:i+1<l.length):∃pre x y post,l=pre ++ [x,y]++post∧pre.length=i:=by
 refine⟨l.take i,l[i],l[i+1],l.drop (i+2),?_,by rw[List.length_take];omega⟩
 have e1:=List.drop_eq_getElem_cons (show i<l.length by omega)
 have e2:=List.drop_eq_getElem_cons h
 conv=>lhs;rw[← List.take_append_drop i l,e1,e2]
 simp
theorem wpS_mergeR (O:OrdB ltb) (hO:LtOk prog w A E s ltb S κ) {st:SortSt}{Q:Bool→SortSt→Prop}{a0:List Keyed}{rs:List (List Keyed)}{U:List Keyed}{i:Nat}(hS:∀x∈a0,S x) (ri:RI ltb κ a0 st rs U) (hi:i+1<rs.length)
  (h:∀st' rs',RI ltb κ a0 st' rs' U→rs'.length+1=rs.length→rs'.flatten.length=rs.flatten.length→Q true st'):wpS (model prog w) A E s (mergeAt' i) Q st:=by
 obtain⟨pre,r1,r2,post,rfl,hpre⟩:=two_at hi
 have off:=ri.offs
 rw[List.append_assoc]at off
 obtain⟨p1,p2,ep,lp,o1,o2⟩:=off.split
 cases p2 with
 | nil=>exact o2.elim
 | cons x p2 =>
  cases p2 with
  | nil=>exact o2.2.2.elim
  | cons y p3 =>
   obtain⟨x1,x2,y1,y2,o3⟩:=o2
   obtain⟨ba,ka,pw⟩:=x
   obtain⟨bb,kb,pv⟩:=y
   dsimp only at x1 x2 y1 y2
   have lp':p1.length=i:=by omega
   have g1:(pendingOf st)[i]? = some (ba,ka,pw):=by
    rw[← Array.getElem?_toList,ep,List.getElem?_append_right (by omega),lp',Nat.sub_self];rfl
   have g2:(pendingOf st)[i+1]? = some (bb,kb,pv):=by
    rw[← Array.getElem?_toList,ep,List.getElem?_append_right (by omega),lp',Nat.add_sub_cancel_left];rfl
   have q1:=ri.rise r1 (by simp)
   have q2:=ri.rise r2 (by simp)
   refine wpS_mergeAt O hO (P:=pre.flatten) (R1:=r1) (R2:=r2) (T:=post.flatten++U) ri.kind ri.fail g1 g2 (by rw[ri.arr];simp) (by omega) x2 (by omega) y2 q1.2 q2.2 q1.1 q2.1 (fun x hx=>hS x (ri.perm.mem_iff.mp hx)) fun st' R s1 s2 s3 s4 s5 s6=>?_
   have lR:R.length=r1.length+r2.length:=by rw[s2.length_eq,List.length_append]
   refine h st' (pre ++ [R]++post) ⟨s4,s5,by rw[s3];simp,?_,?_,?_⟩ (by simp;omega) (by simp[lR];omega)
   ·rw[s3]
    refine List.Perm.trans ?_ ri.perm
    rw[ri.arr]
    have:(pre.flatten++R++(post.flatten++U)).Perm (pre.flatten++(r1++r2)++(post.flatten++U)):=List.Perm.append_right _ (List.Perm.append_left _ s2)
    refine this.trans (List.Perm.of_eq (by simp))
   ·have e6:(pendingOf st').toList=p1++((ba,ka+kb,pw)::p3):=by
     rw[s6,Array.toList_eraseIdxIfInBounds,Array.toList_setIfInBounds,ep]
     rw[List.set_append_right _ _ (by omega),lp',Nat.sub_self]
     rw[List.eraseIdx_append_of_length_le (by omega),lp',Nat.add_sub_cancel_left]
     rfl
    rw[e6,List.append_assoc]
    refine Offs.app o1 ⟨x1,by show ka+kb=R.length;omega,?_⟩
    have e7:0+pre.flatten.length+R.length=0+pre.flatten.length+r1.length+r2.length:=by omega
    rw[e7];exact o3
   ·intro r hr
    rcases List.mem_append.mp hr with z|z
    ·rcases List.mem_append.mp z with z|z
     ·exact ri.rise r (by simp[z])
     ·simp at z
      rw[z]
      refine⟨s1,fun e=>?_⟩
      rw[e]at lR
      have:=List.length_pos_iff.mpr q1.2
      simp at lR;omega
    ·exact ri.rise r (by simp[z])
end
end L2
namespace L2
open PySem PySem.Spec PyProof.Rows
theorem Offs.mod {f:Nat×Nat×Nat→Nat×Nat×Nat}(hf:∀p,(f p).1=p.1∧(f p).2.1=p.2.1):∀{o:Nat}{rs:List (List Keyed)}{ps:List (Nat×Nat×Nat)}(k:Nat),Offs o rs ps→Offs o rs (ps.modify k f)
 | _,[],[],k,_=>by cases k <;> exact trivial
 | o,r::rs,p::ps,0,⟨a,b,t⟩=>⟨(hf p).1.trans a,(hf p).2.trans b,t⟩
 | o,r::rs,p::ps,k+1,⟨a,b,t⟩=>⟨a,b,Offs.mod hf k t⟩
section
variable {ltb:Keyed→Keyed→Bool}{κ:SortKind}{a0:List Keyed}{st:SortSt}{rs:List (List Keyed)}
theorem RI.push {run U2:List Keyed}{lo n:Nat}(ri:RI ltb κ a0 st rs (run++U2)) (h1:run.Pairwise (leB ltb)) (h2:run ≠ []) (el:lo=rs.flatten.length) (en:n=run.length):RI ltb κ a0 (setPending st ((pendingOf st).push (lo,n,0))) (rs ++ [run]) U2:=by
 refine⟨ri.kind,ri.fail,by show(arrOf st).toList=_;rw[ri.arr];simp,ri.perm,?_,fun r hr=>?_⟩
 ·show Offs 0 _ ((pendingOf st).push _).toList
  rw[Array.toList_push]
  exact Offs.app ri.offs ⟨by show lo=0+_;omega,en,trivial⟩
 ·rcases List.mem_append.mp hr with z|z
  ·exact ri.rise r z
  ·simp at z;rw[z];exact⟨h1,h2⟩
theorem RI.mod {U:List Keyed}(ri:RI ltb κ a0 st rs U) (pw k:Nat):RI ltb κ a0 (setPending st ((pendingOf st).modify k fun q=>(q.1,q.2.1,pw))) rs U :=
 ⟨ri.kind,ri.fail,ri.arr,ri.perm,by
  show Offs 0 rs ((pendingOf st).modify k _).toList
  rw[Array.toList_modify]
  exact Offs.mod (f:=fun q=>(q.1,q.2.1,pw)) (fun p=>⟨rfl,rfl⟩) k ri.offs,ri.rise⟩
end
theorem flat_snoc (rs:List (List Keyed)) (r:List Keyed):(rs ++ [r]).flatten.length=rs.flatten.length+r.length:=by simp
theorem rise_all {ltb:Keyed→Keyed→Bool}{R:List Keyed}(h:RiseTo ltb R R.length):R.Pairwise (leB ltb):=by
 rw[List.pairwise_iff_getElem]
 intro i j hi hj hij
 exact h i j _ _ hij hj (List.getElem?_eq_getElem hi) (List.getElem?_eq_getElem hj)
theorem rise_take {ltb:Keyed→Keyed→Bool}{R:List Keyed}{n:Nat}(h:RiseTo ltb R n) (hn:n≤R.length):(R.take n).Pairwise (leB ltb):=by
 apply rise_all
 intro i j x y hij hj hx hy
 rw[List.length_take]at hj
 rw[List.getElem?_take,if_pos (by omega)]at hx hy
 exact h i j x y hij (by omega) hx hy
theorem minRun_pos:∀(f n r:Nat),1≤n→1≤minRun' f n r
 | 0,n,r,h=>by show 1≤n+r;omega
 | f+1,n,r,h=>by
  rw[minRun'_succ]
  split
  ·omega
  ·exact minRun_pos f (n / 2) _ (by omega)
section
variable {prog:Program}{w:World}{A:Around}{E:Value→Shared→Prop}{s:Shared}{ltb:Keyed→Keyed→Bool}{S:Keyed→Prop}{κ:SortKind}
theorem wpS_sortB (O:OrdB ltb) (hO:LtOk prog w A E s ltb S κ) {st:SortSt}{Q:Unit→SortSt→Prop}{a0:List Keyed}(hk:kindOf st=κ) (hf:failedOf st=none) (harr:(arrOf st).toList=a0) (hp:pendingOf st = #[]) (hS:∀x∈a0,S x)
  (h:∀st',(arrOf st').toList.Perm a0→(arrOf st').toList.Pairwise (leB ltb)→failedOf st'=none→Q () st'):wpS (model prog w) A E s sortRuns' Q st:=by
 have hN:(arrOf st).size=a0.length:=by rw[← harr,Array.length_toList]
 rw[sortRuns'_eq]
 refine wpS_bind (wpS_get ?_)
 dsimp only
 rw[hN]
 have ri0:RI ltb κ a0 st [] a0:=⟨hk,hf,by rw[harr];rfl,by rw[harr],by rw[hp];exact trivial,fun r hr=>by cases hr⟩
 have split:∀{st' rs U},RI ltb κ a0 st' rs U→rs.flatten.length+U.length=a0.length:=fun {st' rs U} ri=>by
  have:=ri.perm.length_eq
  rw[ri.arr,List.length_append]at this;exact this
 refine wpS_bind (wpS_mono (wpS_forRange (I:=fun x c st'=>∃rs U,c =(none,rs.flatten.length)∧RI ltb κ a0 st' rs U∧x≤rs.flatten.length)
  (Q:=fun c st'=>∃rs,c =(none,a0.length)∧RI ltb κ a0 st' rs []∧rs.flatten.length=a0.length) ?stp ?fin ⟨[],a0,rfl,ri0,Nat.zero_le _⟩) ?post)
 case fin =>
  rintro c st' ⟨rs,U,rfl,ri,hx⟩
  have:=split ri
  have hU:U=[]:=List.length_eq_zero_iff.mp (by omega)
  subst hU
  refine⟨rs,?_,ri,by omega⟩
  rw[show rs.flatten.length=a0.length by omega]
 case post =>
  rintro c st1 ⟨rs,rfl,ri,hfl⟩
  dsimp only
  have hrl:=flat_len (rs:=rs) fun r hr=>(ri.rise r hr).2
  refine wpS_bind (wpS_mono (wpS_forRange (I:=fun x c st'=>∃rs,c =(none,())∧RI ltb κ a0 st' rs []∧rs.length+x≤a0.length)
   (Q:=fun c st'=>∃rs,c =(none,())∧RI ltb κ a0 st' rs []∧rs.length≤1) ?stp9 ?fin9 ⟨rs,rfl,ri,by omega⟩) ?post9)
  case fin9 =>
   rintro c st' ⟨rs,rfl,ri,hx⟩
   exact⟨rs,rfl,ri,by omega⟩
  case post9 =>
   rintro c st' ⟨rs,rfl,ri,hl⟩
   refine wpS_pure (h st' ri.perm ?_ ri.fail)
   rw[ri.arr,List.append_nil]
   cases rs with
   | nil=>exact List.Pairwise.nil
   | cons r rs =>
    have:rs=[]:=by simp at hl;exact hl
    subst this
    simp
    exact(ri.rise r (by simp)).1
  case stp9 =>
   rintro x c st' _ hx ⟨rs,rfl,ri,hl⟩
   have hpl:(pendingOf st').size=rs.length:=by rw[← Array.length_toList,← ri.offs.len]
   refine wpS_bind (wpS_get ?_)
   try dsimp only
   by_cases c1:(pendingOf st').size≤1
   ·rw[if_pos c1]
    exact wpS_pure ⟨rs,rfl,ri,by omega⟩
   rw[if_neg c1]
   refine wpS_bind (wpS_mergeR O hO hS ri ?_ fun st2 rs2 ri2 e1 e2=>?_)
   ·(repeat' split) <;> omega
   ·simp only[Bool.not_true,Bool.false_eq_true,if_false]
    exact wpS_pure ⟨rs2,rfl,ri2,by omega⟩
 case stp =>
  rintro x c st1 _ hx ⟨rs,U,rfl,ri,hxl⟩
  have hsp:=split ri
  dsimp only
  by_cases c1:rs.flatten.length ≥ a0.length
  ·rw[if_pos c1]
   have hU:U=[]:=List.length_eq_zero_iff.mp (by omega)
   subst hU
   refine wpS_pure ⟨rs,?_,ri,by omega⟩
   rw[show rs.flatten.length=a0.length by omega]
  rw[if_neg c1,show a0.length-rs.flatten.length=U.length by omega]
  have hSU:∀x∈U,S x:=fun x hx=>hS x (ri.perm.mem_iff.mp (by rw[ri.arr];exact List.mem_append_right _ hx))
  refine wpS_bind (wpS_runB O hO (P:=rs.flatten) (R:=U) ri.kind ri.fail ri.arr (by omega) hSU fun st2 R' n z n1 n2 rise=>?_)
  have lR':=z.perm.length_eq
  dsimp only
  by_cases c2:n<minRun' a0.length a0.length 0
  ·rw[if_pos c2]
   refine wpS_bind (wpS_lift (wpAny_rule ⟨rfl,?_⟩))
   have mp:=minRun_pos a0.length a0.length 0 (by omega)
   generalize minRun' a0.length a0.length 0=mr at c2 mp
   obtain⟨fo,efo⟩ : ∃fo,min U.length mr=fo:=⟨_,rfl⟩
   rw[efo]
   have lT:(R'.take fo).length=fo:=by rw[List.length_take];omega
   rw[show binarySort' rs.flatten.length fo n=binarySort' rs.flatten.length (R'.take fo).length n by rw[lT]]
   refine wpS_bind (wpS_binB O hO (P:=rs.flatten) (R:=R'.take fo) (T:=R'.drop fo) z.kind z.fail (by rw[z.arr,List.append_assoc,List.take_append_drop]) (by omega) (fun i j x y hij hj hx hy=>by
     rw[List.getElem?_take,if_pos (by omega)]at hx hy
     exact rise i j x y hij hj hx hy) (fun x hx=>hSU x (z.perm.mem_iff.mp (List.mem_of_mem_take hx))) fun st3 R3 a1 a2 a3 a4 a5 a6=>?_)
   simp only[Bool.not_true,Bool.false_eq_true,if_false]
   have l3:R3.length=fo:=by rw[a2.length_eq,lT]
   have r1:=rise_all a3
   have r2:R3 ≠ []:=fun e=>by rw[e]at l3;simp at l3;omega
   have rj:RI ltb κ a0 st3 rs (R3++R'.drop fo):=⟨a4,a5,by rw[a1,List.append_assoc],by
    rw[a1]
    refine List.Perm.trans ?_ ri.perm
    rw[ri.arr,List.append_assoc]
    refine List.Perm.append_left _ ((List.Perm.append_right _ a2).trans ?_)
    rw[List.take_append_drop];exact z.perm,by rw[a6,z.pend];exact ri.offs,ri.rise⟩
   refine wpS_bind (wpS_get ?_)
   cases hb:(pendingOf st3).back? with
   | none =>
    dsimp only
    refine wpS_bind (wpS_modify (wpS_pure ⟨rs ++ [R3],R'.drop fo,?_,rj.push r1 r2 rfl l3.symm,?_⟩))
    ·simp[l3]
    ·have:=List.length_pos_iff.mpr r2
     rw[flat_snoc];omega
   | some t =>
    obtain⟨s1,k1,p1⟩:=t
    dsimp only
    refine wpS_bind (wpS_mono (wpS_forRange (I:=fun x c st'=>∃rs',c =(none,())∧RI ltb κ a0 st' rs' (R3++R'.drop fo)∧rs'.flatten.length=rs.flatten.length)
     (Q:=fun c st'=>∃rs',c =(none,())∧RI ltb κ a0 st' rs' (R3++R'.drop fo)∧rs'.flatten.length=rs.flatten.length) ?stp7 ?fin7 ⟨rs,rfl,rj,rfl⟩) ?post7)
    case fin7 =>
     rintro c st' hh
     exact hh
    case post7 =>
     rintro c st4 ⟨rs',rfl,rk,ef⟩
     dsimp only
     refine wpS_bind (wpS_modify (wpS_bind (wpS_modify (wpS_pure ⟨rs' ++ [R3],R'.drop fo,?_,(rk.mod _ _).push r1 r2 ef.symm l3.symm,?_⟩))))
     ·simp[l3,ef]
     ·have:=List.length_pos_iff.mpr r2
      rw[flat_snoc];omega
    case stp7 =>
     rintro x c st4 _ hx ⟨rs',rfl,rk,ef⟩
     have hpl:(pendingOf st4).size=rs'.length:=by rw[← Array.length_toList,← rk.offs.len]
     refine wpS_bind (wpS_get ?_)
     try dsimp only
     by_cases c5:(pendingOf st4).size > 1
     ·rw[if_pos c5]
      cases hq:(pendingOf st4)[(pendingOf st4).size-2]? with
      | none=>exact wpS_pure ⟨rs',rfl,rk,ef⟩
      | some t =>
       obtain⟨t1,t2,t3⟩:=t
       dsimp only
       split
       ·exact wpS_pure ⟨rs',rfl,rk,ef⟩
       ·refine wpS_bind (wpS_mergeR O hO hS rk (by omega) fun st5 rs5 r5 e1 e2=>?_)
        simp only[Bool.not_true,Bool.false_eq_true,if_false]
        exact wpS_pure ⟨rs5,rfl,r5,by omega⟩
     ·rw[if_neg c5]
      exact wpS_pure ⟨rs',rfl,rk,ef⟩
  ·rw[if_neg c2]
   have lT:(R'.take n).length=n:=by rw[List.length_take];omega
   have r1:=rise_take rise (by omega)
   have r2:R'.take n ≠ []:=fun e=>by rw[e]at lT;simp at lT;omega
   have rj:RI ltb κ a0 st2 rs (R'.take n++R'.drop n):=⟨z.kind,z.fail,by rw[z.arr,List.take_append_drop],by
    rw[z.arr]
    refine List.Perm.trans ?_ ri.perm
    rw[ri.arr]
    exact List.Perm.append_left _ z.perm,by rw[z.pend];exact ri.offs,ri.rise⟩
   refine wpS_bind (wpS_get ?_)
   cases hb:(pendingOf st2).back? with
   | none =>
    dsimp only
    refine wpS_bind (wpS_modify (wpS_pure ⟨rs ++ [R'.take n],R'.drop n,?_,rj.push r1 r2 rfl lT.symm,?_⟩))
    ·simp[lT]
    ·have:=List.length_pos_iff.mpr r2
     rw[flat_snoc];omega
   | some t =>
    obtain⟨s1,k1,p1⟩:=t
    dsimp only
    refine wpS_bind (wpS_mono (wpS_forRange (I:=fun x c st'=>∃rs',c =(none,())∧RI ltb κ a0 st' rs' (R'.take n++R'.drop n)∧rs'.flatten.length=rs.flatten.length)
     (Q:=fun c st'=>∃rs',c =(none,())∧RI ltb κ a0 st' rs' (R'.take n++R'.drop n)∧rs'.flatten.length=rs.flatten.length) ?stp7 ?fin7 ⟨rs,rfl,rj,rfl⟩) ?post7)
    case fin7 =>
     rintro c st' hh
     exact hh
    case post7 =>
     rintro c st4 ⟨rs',rfl,rk,ef⟩
     dsimp only
     refine wpS_bind (wpS_modify (wpS_bind (wpS_modify (wpS_pure ⟨rs' ++ [R'.take n],R'.drop n,?_,(rk.mod _ _).push r1 r2 ef.symm lT.symm,?_⟩))))
     ·simp[lT,ef]
     ·have:=List.length_pos_iff.mpr r2
      rw[flat_snoc];omega
    case stp7 =>
     rintro x c st4 _ hx ⟨rs',rfl,rk,ef⟩
     have hpl:(pendingOf st4).size=rs'.length:=by rw[← Array.length_toList,← rk.offs.len]
     refine wpS_bind (wpS_get ?_)
     try dsimp only
     by_cases c5:(pendingOf st4).size > 1
     ·rw[if_pos c5]
      cases hq:(pendingOf st4)[(pendingOf st4).size-2]? with
      | none=>exact wpS_pure ⟨rs',rfl,rk,ef⟩
      | some t =>
       obtain⟨t1,t2,t3⟩:=t
       dsimp only
       split
       ·exact wpS_pure ⟨rs',rfl,rk,ef⟩
       ·refine wpS_bind (wpS_mergeR O hO hS rk (by omega) fun st5 rs5 r5 e1 e2=>?_)
        simp only[Bool.not_true,Bool.false_eq_true,if_false]
        exact wpS_pure ⟨rs5,rfl,r5,by omega⟩
     ·rw[if_neg c5]
      exact wpS_pure ⟨rs',rfl,rk,ef⟩
end
end L2
namespace L2
open PySem PySem.Spec PyProof.Rows
def ltI (x y:Keyed):Bool:=decide (numOf x.1<numOf y.1)
def isI (x:Keyed):Prop:=∃n t,x.1=Value.int n t
theorem ordI:OrdB ltI:=⟨fun {x y} h=>by
 have:numOf x.1<numOf y.1:=of_decide_eq_true h
 exact decide_eq_false (by omega),fun {x y z} h1 h2=>by
 have a1:¬ numOf y.1<numOf x.1:=of_decide_eq_false h1
 have a2:¬ numOf z.1<numOf y.1:=of_decide_eq_false h2
 exact decide_eq_false (by omega)⟩
section
variable {prog:Program}{w:World}{A:Around}{E:Value→Shared→Prop}{s:Shared}
theorem ltOkI:LtOk prog w A E s ltI isI oneType':=by
 intro x y st Q hx hy hk q
 obtain⟨n,t,e1⟩:=hx
 obtain⟨m,u,e2⟩:=hy
 rw[lt'_eq]
 refine wpS_bind (wpS_get ?_)
 rw[hk,keyLt'_oneType,e1,e2]
 refine wpS_bind (wpS_lift (wpAny_attempt (oneLt_int ⟨rfl,wpS_pure ?_⟩)))
 have:ltI x y=decide (n<m):=by unfold ltI;rw[e1,e2];rfl
 rw[← this];exact q
theorem riseK {xs:Array Keyed}(h:xs.toList.Pairwise (leB ltI)) (k:Nat) (hk:k=xs.size):SortedTo xs k:=by
 intro i j hij hj
 subst hk
 rw[K_eq (by omega),K_eq hj]
 by_cases e:i=j
 ·subst e;exact Int.le_refl _
 ·have:=List.pairwise_iff_getElem.mp h i j (by simp;omega) (by simpa using hj) (by omega)
  have q:¬ numOf xs[j].1<numOf xs[i].1:=by
   have:=of_decide_eq_false this
   simpa using this
  omega
theorem lsort_any {a:Addr}{vs:List Value}{ns:List Int}{n:Nat}{Z:Fin→Shared→Prop}(ho:s.heap.get? a=some (seqObj "list" vs.toArray n)) (hI:IntsAre vs ns) (hv:vs.length≤100000)
  (hZ:∀(out:Array Value) (ms:List Int),IntsAre out.toList ms→ms.Perm ns→ms.Pairwise (· ≤ ·)→Z (.done (.ret .none)) { s with heap:=sortedHeap s.heap a vs out }) :
  wpAny (model prog w) A (Builtin.«list.sort» ⟨[.ref a],[]⟩) Z E s:=by
 by_cases h64:vs.length<64
 ·exact list_sort_tree ho hI h64 hZ
 have hline:(100000:Nat)<sizeLine:=by decide
 have lt0:=Heap.lt_size ho
 rw[list_sort_plain]
 refine(wpAny_bind (listItems_at ho rfl ?_))
 refine(wpAny_bind (listUpdate_at ho rfl ?_ (by simp;omega)))
 obtain⟨k1,hk1⟩ : ∃k1,(s.heap.update a (Obj.mapSeq fun _=>#[])).get? a=some (seqObj "list" #[] k1):=⟨_,(get?_update_seq ho (fun _=>#[]))⟩
 refine(wpAny_bind (seqEpoch_at hk1 rfl ?_))
 refine(wpAny_bind (wpAny_newTuple ?_ (by simp;omega)))
 refine(wpAny_bind (wpAny_newList ?_))
 refine(wpAny_holding ?_)
 have hk6:(((s.heap.update a (Obj.mapSeq fun _=>#[])).push (seqObj "tuple" vs.toArray 0)).push (seqObj "list" #[] 0)).get? a=some (seqObj "list" #[] k1):=(by
  rw[Heap.get?_push_ne _ _ _ (by rw[size_push',Heap.size_update];exact Nat.ne_of_lt (Nat.lt_succ_of_lt lt0)),Heap.get?_push_ne _ _ _ (by rw[Heap.size_update];exact Nat.ne_of_lt lt0)]
  exact hk1)
 show wpAny (model prog w) A _ Z E { s with heap:=((s.heap.update a (Obj.mapSeq fun _=>#[])).push (seqObj "tuple" vs.toArray 0)).push (seqObj "list" #[] 0) }
 dsimp only
 have two:¬ vs.toArray.size<2:=by simp;omega
 rw[if_neg two,if_neg two]
 obtain⟨v,u,r,rfl⟩ : ∃v u r,vs=v::u::r:=by
  cases vs with
  | nil=>simp at h64
  | cons v vs=>cases vs with
   | nil=>simp at h64
   | cons u r=>exact⟨v,u,r,rfl⟩
 rw[keyKind_ints hI]
 refine(wpAny_bind (wpAny_pure ?_))
 have a0S:∀x∈(pairsOf (v::u::r)).toList,isI x:=hI.intKeys
 refine wpAny_bind (wpAny_mono (wpS_sortB ordI ltOkI (st:=SortSt.mk' oneType' ((v::u::r).toArray.zip (v::u::r).toArray) #[] 7 none) (a0:=(pairsOf (v::u::r)).toList) (Q:=fun _ st'=>(arrOf st').toList.Perm (pairsOf (v::u::r)).toList∧(arrOf st').toList.Pairwise (leB ltI)∧failedOf st'=none) rfl rfl rfl rfl a0S fun st' b1 b2 b3=>⟨b1,b2,b3⟩) ?_ fun _ _ e=>e)
 rintro⟨⟨⟩,st'⟩ s' ⟨rfl,b1,b2,b3⟩
 dsimp only
 have hp:(arrOf st').Perm (pairsOf (v::u::r)):=Array.perm_iff_toList_perm.mpr b1
 have hsz:=hp.size_eq
 refine(wpAny_bind (seqEpoch_at hk6 rfl ?_))
 refine wpAny_bind (listUpdate_at hk6 rfl ?_ (hsz2:=by
  rw[Array.size_map,hsz,pairsOf_size];omega))
 rw[b3]
 simp only[bne_self_eq_false,Bool.false_eq_true,if_false]
 obtain⟨ms,c1,c2,c3⟩:=sorted_out hI hp (riseK b2 _ hsz.symm)
 exact wpAny_pure (hZ _ ms c1 c2 c3)
theorem sorted_any {l:Addr}{vs:List Value}{ns:List Int}{Q:Value→Shared→Prop}(hl:s.heap.IsList l vs.toArray) (hI:IntsAre vs ns) (hv:vs.length≤100000)
  (hQ:∀(out:Array Value) (ms:List Int),IntsAre out.toList ms→ms.Perm ns→ms.Pairwise (· ≤ ·)→Q (.ref (s.heap.objs.size+1)) { s with heap:=sortedAll s.heap vs out }) :
  wpAny (model prog w) A (call (.builtin "sorted") [.ref l]) Q E s:=by
 have hline:(100000:Nat)<sizeLine:=by decide
 refine(Calls.call_function_entry kind_sorted plain_sorted entry_sorted (args_sorted1 _) ?_)
 unfold Builtin.«sorted»
 refine(wpAny_bind (m:=checkCount "sorted" 1 1 _) (wpAny_pure ?_))
 refine(wpAny_bind (collect_list hl ?_ (by omega)))
 refine(wpAny_bind (wpAny_newList ?_ (by first|omega|(simp;omega))))
 have sz1:((s.heap.push (seqObj "list" #[] 0)).update s.heap.objs.size (Obj.mapSeq (· ++ vs.toArray))).objs.size=s.heap.objs.size+1:=(by rw[Heap.size_update,size_push'])
 have at1:(((s.heap.push (seqObj "list" #[] 0)).update s.heap.objs.size (Obj.mapSeq (· ++ vs.toArray))).push (seqObj "list" vs.toArray 0)).get? (s.heap.objs.size+1)=some (seqObj "list" vs.toArray 0):=(by
  rw[← sz1];exact Heap.get?_push_size _ rfl)
 show wpAny _ _ _ _ E { s with heap:=((s.heap.push (seqObj "list" #[] 0)).update s.heap.objs.size (Obj.mapSeq (· ++ vs.toArray))).push (seqObj "list" vs.toArray 0) }
 rw[sz1]
 refine wpAny_bind (wpAny_holding (wpAny_call_entry slot_list_sort ⟨_,at1,rfl⟩ entry_list_sort (lsort_any at1 hI hv fun out ms c1 c2 c3=>⟨_,rfl,?_⟩) (args_list_sort _)))
 exact wpAny_pure ⟨_,rfl,hQ out ms c1 c2 c3⟩
end
section
variable {X:Cx}
def rSortL (K:PySem.W.Frag):List V→Hp→VK→Prop:=fun xs H Q=>∃a ns,xs=[.ref a]∧SqL K H a (List.map V.int ns)∧ns.length≤100000∧∀ms l,ms.Perm ns→ms.Pairwise (· ≤ ·)→H l=none→Q (.ref l) (upd H l (.lst (List.map V.int ms)))
theorem call_sortL:CallR X (.builtin "sorted") (rSortL X.K):=by
 intro pins s σ H xs us Q I r h
 obtain⟨a,ns,rfl,hq,hn,q⟩:=h
 obtain⟨u,rfl,r1⟩:=vals1 r
 cases (show u=Value.ref a from r1)
 obtain⟨its,rv,pl,hz⟩:=I.list hq
 have hi:IntsAre its ns:=intsAre_of rv
 refine sorted_any pl.isList hi (by rw[hi.length];exact hn) fun out ms c1 c2 c3=>?_
 obtain⟨e,he⟩:=sortedAll_at s.heap its out
 have hz2:(List.map V.int ms).length≤sizeLine:=by
  have hline:(100000:Nat)<sizeLine:=by decide
  rw[List.length_map,c2.length_eq];omega
 exact⟨.ref (s.heap.objs.size+1),_,I.laid (t':=s.toks) (fun b o hb=>sortedAll_old hb) (Nat.le_succ _) (o:=.lst (List.map V.int ms)) ⟨hz2,out.toList,e,vals_ints c1,by simpa using he⟩,rfl,q ms _ c2 c3 (I.hok.fresh (Nat.le_succ _))⟩
end
end L2
namespace L2
open PySem PySem.Spec PyProof.Rows
section
variable {X:Cx}{K:PySem.W.Frag}
end
section
variable {X:Cx}{K:PySem.W.Frag}{pos:Pos}
theorem pg_tupK {es:List Expr}{k:Nat}{t:TGs}{n:Nat}(h:X.K=K) (hc:X.calm=true) (hp:PGs X es t)
  (hn:(assignEach es X.env).length=n:=by rfl) (hst:(assignEach es X.env).findIdx? (·.1)=none:=by rfl):PG X (.Tuple es k pos) (gTup K n t):=by subst h;exact pg_tup hc hp hn hst
end
section
variable {σ:St}{H:Hp}{Q:VK}{D:Ends}
theorem rd_dnewK (h:∀p,H p=none→Q (.ref p) (upd H p (.dK []))):tDNewK σ H Q:=h
end
section
variable {X:Cx}{elts:List Expr}{x1:_}{tpos:Pos}
end
section
variable {K:PySem.W.Frag}{H:Hp}{Q:VK}{σ:St}
end
end L2
namespace L2
open PySem PySem.Spec PyProof.Rows
section
variable {X:Cx}{pins:List (Addr×Obj)}{σ:St}{H:Hp}{s:Shared}{h':Heap}
theorem Inv.adopt {t':Nat}{ch:List Addr}{a:Addr}{o:HO}(I:Inv X pins σ H s) (k:∀b o,b∉ch→s.heap.get? b=some o→h'.get? b=some o) (f:∀b∈ch,FpOk X pins H b)
  (ha:a∈ch) (new:ObjOk X.prog X.w (upd H a o) h' a o):Inv X pins σ (upd H a o) { s with heap:=h',toks:=t' }:=by
 have nit:∀b u,H b=some u→b∉ch:=fun b u e z=>by rw[(f b z).1]at e;cases e
 have hn:=(f a ha).1
 have up:∀b u,H b=some u→upd H a o b=some u:=fun b u q=>by rw[upd_ne (ne_of_none q hn)];exact q
 refine I.step (g':=s.gens) (d':=s.drawn) (ch:=ch) (fun b hb=>?_) (fun b o _ _ hc e _=>k b o hc e) (fun b o _ _ hc e _=>⟨o.slots,k b o hc e⟩) (fun b ob hc e n=>by rw[upd_ne (show b≠a from fun z=>hc (by rw[z];exact ha))];exact n) (fun b o hc e=>⟨o,k b o hc e⟩) (fun b xs e=>up _ _ e) (fun b ob u e=>up _ _ e)
  (fun b ps e=>⟨#[],by rw[up _ _ e];simp⟩) (fun m hm=>?_) (fun b u e=>?_) I.bare
 ·obtain⟨f0,f1,f2,f3,f4,f5⟩:=f b hb
  exact⟨f3,f1,f4,f5⟩
 ·obtain⟨o,es,ep,ho,r⟩:=hm
  exact⟨o,es,ep,k _ o (fun z=>(f _ z).2.1 rfl) ho,r⟩
 ·by_cases hb:b=a
  ·subst hb;rw[upd_same]at e;cases e;exact new
  ·rw[upd_ne hb]at e
   refine(I.hok b u e).stay (fun c v hc q=>k c v ?_ q) (fun c q=>up _ _ q) fun c xs q=>up _ _ q
   rcases hc with z|z
   ·rw[z];exact nit b u e
   ·exact nit c _ z
variable {A:Around}{E:Value→Shared→Prop}
end
section
variable {prog:Program}{w:World}{A:Around}{E:Value→Shared→Prop}{s:Shared}
end
section
variable {X:Cx}{pins:List (Addr×Obj)}{σ:St}{H:Hp}{s:Shared}{E:Value→Shared→Prop}
end
section
variable {X:Cx}{e:Expr}{t:TA}{y:Str}{ps:List Str}{k:Nat}{sp:Sp}{p p2 kpos pos:Pos}
end
section
variable {X:Cx}
end
end L2
namespace L2
open PySem PySem.Spec PyProof.Rows
def CodeO (c:Addr) (qual:Str):HO:=.ext fun h=>h.CodeRec (.ref c) qual
def FnO (f:Addr) (o:Obj):HO:=.ext fun h=>h.get? f=some o
def Tb (P:Addr) (pos:Pos) (qual:Str) (H:Hp):Prop :=
 ∃ps:Array Value,H P=some (.tbl ps)∧TriplesOk ps.toList∧(codeAmong pos ps.toList=none ∨ ∃c,codeAmong pos ps.toList=some (.ref c)∧H c=some (CodeO c qual))
structure Sm (H H':Hp):Prop where
 nt:∀b o,H b=some o→(∀ps,o ≠ .tbl ps)→H' b=some o
 tb:∀b ps,H b=some (.tbl ps)→∃ps',H' b=some (.tbl ps')
theorem Sm.refl (H:Hp):Sm H H:=⟨fun _ _ h _=>h,fun _ ps h=>⟨ps,h⟩⟩
theorem Sm.trans {H H1 H2:Hp}(a:Sm H H1) (b:Sm H1 H2):Sm H H2:=⟨fun c o h n=>b.nt c o (a.nt c o h n) n,fun c ps h=>by
 obtain⟨ps',e⟩:=a.tb c ps h
 exact b.tb c ps' e⟩
theorem Same.sm {H H1:Hp}(a:Same H H1):Sm H H1:=⟨fun c o h _=>a c o h,fun c ps h=>⟨ps,a _ _ h⟩⟩
theorem Sm.lst {H H1:Hp}(a:Sm H H1) {b:Addr}{xs:List V}(h:H b=some (.lst xs)):H1 b=some (.lst xs):=a.nt _ _ h fun _=>nofun
theorem Sm.tup {H H1:Hp}(a:Sm H H1) {b:Addr}{xs:List V}(h:H b=some (.tup xs)):H1 b=some (.tup xs):=a.nt _ _ h fun _=>nofun
theorem Sm.free {H H':Hp}(e:Sm H H') {l:Addr}(h:H' l=Option.none):H l=Option.none:=by
 cases q:H l with
 | none=>rfl
 | some o =>
  by_cases t:∃ps,o = .tbl ps
  ·obtain⟨ps,rfl⟩:=t
   obtain⟨ps',z⟩:=e.tb _ _ q
   rw[z]at h;cases h
  ·rw[e.nt l o q fun ps z=>t ⟨ps,z⟩]at h
   cases h
theorem Tb.same {P:Addr}{pos:Pos}{qual:Str}{H H1:Hp}(t:Tb P pos qual H) (s:Same H H1):Tb P pos qual H1:=by
 obtain⟨ps,e,h1,h2⟩:=t
 refine⟨ps,s _ _ e,h1,?_⟩
 rcases h2 with z|⟨c,z,hc⟩
 ·exact .inl z
 ·exact .inr ⟨c,z,s _ _ hc⟩
def BM (mg:Str→Option Value) (base:Heap):Prop:=∃bm o,mg "__builtins__" = some (.ref bm)∧bm≠builtinsNs∧base.get? bm=some o∧o.cls = .type "module"∧o.dict=some builtinsNs∧o.data = .plain
def tbP (K:PySem.W.Frag) (x:Str):Addr:=match PySem.W.tabIn K x with
 | some (_,P)=>P
 | none=>0
structure Lam (K:PySem.W.Frag) (mg:Str→Option Value) (base:Heap) (x:Str) (f:Addr) (fd:FuncData):Prop where
 bm:BM mg base
 code:∃c,fd.code = .ref c∧PySem.W.codeHdIn K c (tbP K x)=true
def tbC (K:PySem.W.Frag) (x:Str):Addr:=match PySem.W.tabIn K x with
 | some (c,_)=>c
 | none=>0
theorem lam_mk {K:PySem.W.Frag}{mg:Str→Option Value}{base:Heap}{x:Str}{f c P:Addr}{fd:FuncData}{oc:Value}{od:Option Addr}{sl:Array (Option Value)}(b:BM mg base) (a:PySem.W.nsIn K mainGlobals x=some (some (.ref f))) (l:K.lookup f=some ⟨oc,od,.func fd,sl⟩)
  (t:PySem.W.tabIn K x=some (c,P)) (h:PySem.W.codeHdIn K c P=true):Lam K mg base x f fd:=by
 have e:tbP K x=P:=by unfold tbP;rw[t]
 refine⟨b,c,?_,by rw[e];exact h⟩
 unfold PySem.W.tabIn at t
 rw[a]at t
 simp only[l]at t
 split at t
 ·rename_i c2 hc
  split at t
  ·split at t
   ·cases t;exact hc
   ·cases t
  ·cases t
 ·cases t
theorem Fun.okC {P:Program}{w:World}{K:PySem.W.Frag}{mg:Str→Option Value}{base:Heap}{x qual:Str}{st:Stmt}{f:Addr}{fd:FuncData}{N ps:List Str}{k:Nat}{sp:Sp}(F:Fun K x qual st f fd) (S:FnScope N ps (defScope st)) (len:∀vs H Q E,sp vs H Q E→vs.length=ps.length)
  (hbody:∀(cdv:Value) (A:Around) (outer:List Env) (s:Shared) (H:Hp) (vs:List V) (Q:VK) (E:XK),cdv=fd.code→Room k (A.deeper (envOfC qual (defScope st) s.heap.objs.size f cdv))→sp vs H Q E →
   ∃t,PSs (cxOf CX0 P w K mg base N qual (defScope st) f cdv A outer s H E).nox (defBody st) t∧t { nx:=fun _ H'=>Q .non H',rt:=Q } (start N vs) H):FnOk P w K mg base CX0 (k+1) f fd ps sp:=by
 obtain⟨oc,od,kV,doc,pm,an,cdv,ct,osl,rfl,lk,hcd⟩:=F.ex
 refine fn_of lk hcd S len fun A outer s H vs Q E hr hsp=>?_
 obtain⟨t,h,q⟩:=hbody cdv A outer s H vs Q E rfl hr hsp
 exact⟨t,h.nox,q⟩
theorem Cal.ofC {P:Program}{w:World}{K:PySem.W.Frag}{mg:Str→Option Value}{base:Heap}{x:Str}{st:Stmt}{f:Addr}{fd:FuncData}{N ps:List Str}{k:Nat}{sp:Sp}(F:Fun K x x st f fd) (mF:mg x=some (.ref f)) (bF:Binds K fd ps []) (S:FnScope N ps (defScope st)) (len:∀vs H Q E,sp vs H Q E→vs.length=ps.length)
  (hbody:∀(cdv:Value) (A:Around) (outer:List Env) (s:Shared) (H:Hp) (vs:List V) (Q:VK) (E:XK),cdv=fd.code→Room k (A.deeper (envOfC x (defScope st) s.heap.objs.size f cdv))→sp vs H Q E →
   ∃t,PSs (cxOf CX0 P w K mg base N x (defScope st) f cdv A outer s H E).nox (defBody st) t∧t { nx:=fun _ H'=>Q .non H',rt:=Q } (start N vs) H):Cal P w K mg base x ps (k+1) sp :=
 ⟨f,fd,F.okC S len hbody,bF,mF,F.kp⟩
section
variable {X:Cx}{pins:List (Addr×Obj)}{σ:St}{H:Hp}{s:Shared}
abbrev lamObj (X:Cx) (params:Arguments) (body:Expr) (scope:Scope) (c:Addr) (ctv:Value):Obj :=
 { cls:=.type "function",data:=.func (PySem.W.kla_fn "<lambda>" (X.env.qual ++ "<lambda>") params body scope (clOf X.env scope.names []) ((X.mg "__name__").getD .none) (.ref c) ctv) }
def tLam (X:Cx) (P:Addr) (params:Arguments) (body:Expr) (scope:Scope) (pos:Pos):TE:=fun σ H Q=>Tb P pos (X.env.qual ++ "<lambda>") H ∧
 ∀f c ctv H',Sm H H'→Tb P pos (X.env.qual ++ "<lambda>") H'→H f=none→H' f=some (FnO f (lamObj X params body scope c ctv))→H' c=some (CodeO c (X.env.qual ++ "<lambda>"))→Q (.ref f) H'
theorem objOk_code {pr:Program}{w:World}{H:Hp}{h:Heap}{c:Addr}{qual:Str}(x:h.CodeRec (.ref c) qual):ObjOk pr w H h c (CodeO c qual):=by
 refine⟨x,?_,fun h1 h2 y k=>?_⟩
 ·obtain⟨c',o,vs,t,e,g,_⟩:=x
  cases e;exact⟨o,g⟩
 ·obtain⟨c',o,vs,t,e,g,r⟩:=y
  cases e
  exact⟨c,o,vs,t,rfl,k _ g,r⟩
theorem objOk_fn {pr:Program}{w:World}{H:Hp}{h:Heap}{f:Addr}{o:Obj}(x:h.get? f=some o):ObjOk pr w H h f (FnO f o):=⟨x,⟨o,x⟩,fun h1 h2 y k=>k _ y⟩
theorem triples_snoc:∀(l:List Value) {a b:Int}{t u:Tok}{c:Value},TriplesOk l→TriplesOk (l ++ [.int a t,.int b u,c])
 | [],_,_,_,_,_,_=>trivial
 | [_],_,_,_,_,_,h=>by simp[TriplesOk]at h
 | [_,_],_,_,_,_,_,h=>by simp[TriplesOk]at h
 | x::y::z::r,a,b,t,u,c,h=>by
  cases x with
  | int i ti =>
   cases y with
   | int j tj=>exact triples_snoc r (show TriplesOk r from h)
   | _=>exact False.elim h
  | _=>exact False.elim h
theorem pe_lam {P c:Addr}{params:Arguments}{body:Expr}{scope:Scope}{pos:Pos}(hdef:defaultsOf params X.env =([],[])) (hf:∀y∈scope.names,y.2 = .free→X.env.kindOf y.1=some .cell∨X.env.kindOf y.1=some .free)
  (hcode:X.env.code = .ref c) (C:PySem.W.codeHdIn X.K c P=true) (B:BM X.mg X.base):PE X (.Lambda params body scope pos) (tLam X P params body scope pos):=by
 intro pins s σ H Q I h
 obtain⟨⟨ps,eP,ht,hc⟩,q⟩:=h
 refine PySem.W.kla_eval hdef ?_
 have hcl:closureFor scope X.env=pure (clOf X.env scope.names []):=closure_eq fun y hy hk=>I.ok.has y.1 (hf y hy hk)
 have hg:s.heap.Ns mainGlobals X.mg:=I.ok.mod.glob.keeps I.bk
 have CH:PySem.W.CodeHd s.heap c P:=(PySem.W.codeHd_of_K I.ok.mod.kin C).keeps I.bk
 have hP:s.heap.get? P=some (PySem.W.tabObj ps):=I.hok _ _ eP
 have hgP:mainGlobals≠P:=fun z=>by
  obtain⟨o,es,ep,e,hd,_⟩:=hg
  rw[z,hP]at e;cases e;cases hd
 have hB:s.heap.BuiltinsAt X.mg P:=by
  obtain⟨bm,o,b1,b2,b3,b4,b5,b6⟩:=B
  refine⟨bm,o,b1,b2,fun z=>?_,fun z=>?_,I.bk _ _ b3,b4,b5,b6⟩
  ·obtain⟨o',es,ep,e,hd,_⟩:=I.ok.mod.glob
   rw[z,e]at b3;cases b3;rw[hd]at b6;cases b6
  ·have:=(I.bs _ _ b3).2
   rw[z,eP]at this;cases this
 have tup_ne:∀{b:Addr}{o:HO},H b=some o→(∀ps,o ≠ .tbl ps)→b≠P:=fun {b o} e n z=>by rw[z,eP]at e;cases e;exact n _ rfl
 rcases hc with hn|⟨c',hc',eC⟩
 ·refine PySem.W.kla_makeFunction (mg:=X.mg) hcl I.ok.glob hg hcode CH hP ht hn hgP hB fun c' ctv h' tk hx hge hlt hrec htb=>?_
  have lt':s.heap.objs.size≤h'.objs.size:=Nat.le_trans hge (Nat.le_of_lt hlt)
  have nc:H c'=none:=I.hok.fresh hge
  have nf:H h'.objs.size=none:=I.hok.fresh lt'
  have cf:c'≠h'.objs.size:=Nat.ne_of_lt hlt
  have cP:c'≠P:=fun z=>by rw[z,eP]at nc;cases nc
  have fP:h'.objs.size≠P:=fun z=>by rw[z,eP]at nf;cases nf
  generalize hfa:h'.objs.size=f at cf nf fP lt' ⊢
  generalize hob:(PySem.W.kla_obj "<lambda>" (X.env.qual ++ "<lambda>") params body scope (clOf X.env scope.names []) ((X.mg "__name__").getD .none) c' ctv:Obj)=ob
  have kp:∀b o,b≠P→s.heap.get? b=some o→(h'.push ob).get? b=some o:=fun b o hb e=>Heap.get?_push_of_some _ (hx b o hb e)
  have gf:(h'.push ob).get? f=some ob:=by rw[← hfa];exact Heap.get?_push_size _ (by rw[← hob];rfl)
  have gP:(h'.push ob).get? P=some (PySem.W.tabObj (ps ++ #[rawInt pos.line,rawInt pos.col,.ref c'])):=Heap.get?_push_of_some _ htb
  have gC:=hrec.push ob
  generalize hH2:upd (upd (upd H P (.tbl (ps ++ #[rawInt pos.line,rawInt pos.col,.ref c']))) c' (CodeO c' (X.env.qual ++ "<lambda>"))) f (FnO f ob)=H2
  have e2f:H2 f=some (FnO f ob):=by rw[← hH2,upd_same]
  have e2c:H2 c'=some (CodeO c' (X.env.qual ++ "<lambda>")):=by rw[← hH2,upd_ne cf,upd_same]
  have e2P:H2 P=some (.tbl (ps ++ #[rawInt pos.line,rawInt pos.col,.ref c'])):=by rw[← hH2,upd_ne (Ne.symm fP),upd_ne (Ne.symm cP),upd_same]
  have e2o:∀b,b≠P→b≠c'→b≠f→H2 b=H b:=fun b h1 h2 h3=>by rw[← hH2,upd_ne h3,upd_ne h2,upd_ne h1]
  have old:∀b o,H b=some o→b≠P→H2 b=some o:=fun b o e hb=>by rw[e2o b hb (ne_of_none e nc) (ne_of_none e nf)];exact e
  have sm:Sm H H2:=⟨fun b o e n=>old b o e (tup_ne e n),fun b ps' e=>by
   by_cases h1:b=P
   ·exact⟨_,by rw[h1];exact e2P⟩
   ·exact⟨ps',old b _ e h1⟩⟩
  have hok2:HOk X.prog X.w H2 (h'.push ob):=fun b o e=>by
   by_cases h3:b=f
   ·subst h3;rw[e2f]at e;cases e;exact objOk_fn gf
   ·by_cases h2:b=c'
    ·subst h2;rw[e2c]at e;cases e;exact objOk_code gC
    ·by_cases h1:b=P
     ·subst h1;rw[e2P]at e;cases e;exact gP
     ·rw[e2o b h1 h2 h3]at e
      refine(I.hok b o e).stay (fun c u hc g=>kp c u ?_ g) (fun c z=>old c _ z (tup_ne z fun _=>nofun)) fun c xs z=>old c _ z (tup_ne z fun _=>nofun)
      rcases hc with z|z
      ·rw[z];exact h1
      ·exact tup_ne z fun _=>nofun
  have u:Un X.fs [] H H2 s.heap (h'.push ob):=by
   have neP:∀b,H b=none→b≠P:=fun b n z=>by rw[z,eP]at n;cases n
   refine⟨fun b o e n _ _=>kp b o (neP b n) e,fun b o e n _ _=>⟨o.slots,kp b o (neP b n) e⟩,fun b o e n _=>?_,fun b o e _=>?_,fun b xs e=>sm.nt _ _ e fun _=>nofun,fun b ob' u' e=>sm.nt _ _ e fun _=>nofun,fun b ps' e=>?_⟩
   ·have l:=Heap.lt_size e
    rw[e2o b (neP b n) (Nat.ne_of_lt (Nat.lt_of_lt_of_le l hge)) (Nat.ne_of_lt (Nat.lt_of_lt_of_le l lt'))];exact n
   ·by_cases h1:b=P
    ·subst h1;exact⟨_,gP⟩
    ·exact⟨o,kp b o h1 e⟩
   ·by_cases h1:b=P
    ·subst h1;rw[eP]at e;cases e;exact⟨_,e2P⟩
    ·exact⟨#[],by rw[old b _ e h1];simp⟩
  have tb2:Tb P pos (X.env.qual ++ "<lambda>") H2:=by
   refine⟨_,e2P,?_,.inr ⟨c',?_,e2c⟩⟩
   ·rw[Array.toList_append];exact triples_snoc _ ht
   ·rw[Array.toList_append];exact codeAmong_snoc _ ht hn
  refine⟨.ref f,H2,I.un (t':=tk) u hok2,rfl,q f c' ctv H2 sm tb2 nf ?_ e2c⟩
  rw[e2f,← hob]
 ·refine PySem.W.kla_makeFunctionHit (mg:=X.mg) hcl I.ok.glob hg hcode CH hP ht hc' hB fun ctv h' tk hk hsz=>?_
  have nf:H h'.objs.size=none:=I.hok.fresh hsz
  generalize hfa:h'.objs.size=f at nf hsz ⊢
  generalize hob:({ cls:=.type "function",data:=.func (PySem.W.kla_fn "<lambda>" (X.env.qual ++ "<lambda>") params body scope (clOf X.env scope.names []) ((X.mg "__name__").getD .none) (.ref c') ctv) }:Obj)=ob
  have kp:∀b o,s.heap.get? b=some o→(h'.push ob).get? b=some o:=fun b o e=>Heap.get?_push_of_some _ (hk b o e)
  have gf:(h'.push ob).get? f=some ob:=by rw[← hfa];exact Heap.get?_push_size _ (by rw[← hob];rfl)
  have sm:Same H (upd H f (FnO f ob)):=fun b o e=>by rw[upd_ne (ne_of_none e nf)];exact e
  refine⟨.ref f,upd H f (FnO f ob),I.laid (t':=tk) kp hsz (objOk_fn gf),rfl,q f c' ctv _ sm.sm ?_ nf (by rw[upd_same,← hob]) (sm _ _ eC)⟩
  exact Tb.same ⟨ps,eP,ht,.inr ⟨c',hc',eC⟩⟩ sm
end
end L2
namespace L2
open PySem PySem.Spec PyProof.Rows
def lamEnv (X:Cx) (scope:Scope) (L f c:Addr):Env:=PySem.W.envX (X.env.qual ++ "<lambda>") scope L f (.ref c) (clOf X.env scope.names [])
def cxLam (X:Cx) (scope:Scope) (N:List Str) (L f c:Addr) (s:Shared) (H:Hp):Cx :=
 { X with A:=X.A.in1.in1.deeper (lamEnv X scope L f c),N:=N,s₀:=s,H₀:=H,env:=lamEnv X scope L f c,outer:=X.stack,stack:=lamEnv X scope L f c::X.stack,ex:=[],fn:=fun _=>false,pn:=[],xe:=fun _ _=>False }
structure LamOk (X:Cx) (scope:Scope) (y:Str) (fs:List Str) (js:List Nat):Prop where
 kind:scope.kind = .function
 co:scope.isCoroutine=false
 gen:scope.isGenerator=false
 cell:∀z∈scope.names,z.2 ≠ .cell
 free:∀z∈scope.names,z.2 = .free→X.env.kindOf z.1=some .cell∨X.env.kindOf z.1=some .free
 own:scope.names.lookup y=some .local
 cap:∀z∈fs,scope.names.lookup z=some .free
 ix:js.map (fun j=>X.N[j]?)=fs.map some
def lamB (sc scope:Scope) (N:List Str) (y:Str) (fs:List Str) (js:List Nat):Bool :=
 (scope.kind == .function) && !scope.isCoroutine && !scope.isGenerator && scope.names.all (fun z=>z.2 != .cell) && scope.names.all (fun z=>z.2 != .free || sc.names.lookup z.1 == some .cell || sc.names.lookup z.1 == some .free) &&
 (scope.names.lookup y == some .local) && fs.all (fun z=>scope.names.lookup z == some .free) && (js.map (fun j=>N[j]?) == fs.map some)
theorem lamOk {X:Cx}{sc scope:Scope}{N:List Str}{y:Str}{fs:List Str}{js:List Nat}(h:lamB sc scope N y fs js=true) (hs:X.env.scope=sc) (hN:X.N=N):LamOk X scope y fs js:=by
 unfold lamB at h
 simp only[Bool.and_eq_true,List.all_eq_true,beq_iff_eq,bne_iff_ne,Bool.or_eq_true,Bool.not_eq_true']at h
 obtain⟨⟨⟨⟨⟨⟨⟨h1,h2⟩,h3⟩,h4⟩,h5⟩,h6⟩,h7⟩,h8⟩:=h
 refine⟨h1,h2,h3,h4,fun z hz hf=>?_,h6,h7,by rw[hN];exact h8⟩
 unfold Env.kindOf
 rw[hs]
 rcases h5 z hz with(q|q)|q
 ·exact absurd hf q
 ·exact .inl q
 ·exact .inr q
def lamSt (v:V) (js:List Nat) (σ:St):St:=some v::js.map (fun j=>(σ[j]?).join)
section
variable {X:Cx}{pins:List (Addr×Obj)}{σ:St}{H:Hp}{s:Shared}{scope:Scope}{y:Str}{fs:List Str}{js:List Nat}
theorem lam_start {h₁:Heap}{tk:Nat}{f c:Addr}{v:V}{u:Value}{m:Str→Option Value}(I:Inv X pins σ H s) (B:LamOk X scope y fs js) (hn:h₁.Ns s.heap.objs.size m) (hm:m y=some u) (rv:RelV v u)
  (hk:∀b o,s.heap.get? b=some o→h₁.get? b=some o):Inv (cxLam X scope (y::fs) s.heap.objs.size f c s H) [] (lamSt v js σ) H { s with heap:=h₁,toks:=tk }:=by
 have hasX:∀z∈scope.names,z.2 = .free→∃c,X.env.cells.lookup z.1=some c:=fun z hz hf=>I.ok.has z.1 (B.free z hz hf)
 have snd:∀{z:Str}{c:Addr},(clOf X.env scope.names []).lookup z=some c→X.env.cells.lookup z=some c:=fun h=>clOf_sound hasX (fun p hp=>absurd hp (by simp)) h
 have noA:∀b:Addr,b∉(cxLam X scope (y::fs) s.heap.objs.size f c s H).ex:=fun b z=>absurd (show b∈([]:List Addr) from z) (by simp)
 have hlen:js.length=fs.length:=by have:=congrArg List.length B.ix;simpa using this
 refine⟨⟨I.ok.mod,B.kind,rfl,rfl,Nat.le_refl _,fun y z c h1 h2=>I.ok.inj y z c (snd h1) (snd h2),fun z hz=>?_,fun z c q _=>absurd (show false=true from q) Bool.false_ne_true,I.ok.hd,Around.frames_deeper I.ok.frames,.inr ⟨rfl,rfl⟩,fun b z=>absurd z (noA b),I.bs,Nat.le_trans I.ok.bsz I.sz,fun b _ _=>noA b,fun b z=>absurd z (noA b),I.stack,I.stkFree⟩,
  rfl,I.bare,Un.kept hk,⟨m,hn,fun i z v' h1 h2 h3=>?_⟩,fun z c h=>?_,I.hok.fresh (Nat.le_refl _),fun z c h=>I.freeC z c (snd h),fun p hp=>absurd (show p∈([]:List (Addr×Obj)) from hp) (by simp),I.hok.kept hk,?_⟩
 ·have hz:scope.names.lookup z=some .cell∨scope.names.lookup z=some .free:=hz
  rcases hz with q|q
  ·exact absurd rfl (B.cell _ (PySem.mem_of_lookup q))
  ·exact lookup_mono_isSome (clOf_has (PySem.mem_of_lookup q))
 ·cases i with
  | zero =>
   have e1:y=z:=by simpa [cxLam] using h1
   have e2:v=v':=by simpa [lamSt] using h2
   subst e1 e2
   exact⟨u,rv,.inl ⟨B.own,hm⟩⟩
  | succ i =>
   have h1':fs[i]? = some z:=by simpa [cxLam] using h1
   have h2':(js[i]?).map (fun j=>(σ[j]?).join)=some (some v'):=by simpa [lamSt] using h2
   cases ej:js[i]? with
   | none=>rw[ej]at h2';cases h2'
   | some j =>
    rw[ej]at h2'
    have hσ:σ[j]? = some (some v'):=by
     have z:(σ[j]?).join=some v':=Option.some.inj h2'
     cases q:σ[j]? with
     | none=>rw[q]at z;cases z
     | some o=>rw[q]at z;have z':o=some v':=z;rw[z']
    have hNj:X.N[j]? = some z:=by
     have q:=congrArg (fun l=>l[i]?) B.ix
     simp only[List.getElem?_map,ej,h1',Option.map_some]at q
     exact Option.some.inj q
    have hcap:=B.cap z (List.mem_of_getElem? h1')
    have hmem:(z,NameKind.free)∈scope.names:=PySem.mem_of_lookup hcap
    have hkX:=B.free _ hmem rfl
    have vis:Vis X.env.scope z:=by
     rcases hkX with q|q
     ·exact .inr (.inl q)
     ·exact .inr (.inr q)
    obtain⟨m0,hn0,hl0⟩:=I.loc
    obtain⟨u',r,l⟩:=hl0 j z v' hNj hσ vis
    refine⟨u',r,.inr ⟨.inr hcap,?_⟩⟩
    rcases l with⟨q,_⟩|⟨_,c,hc,hcell⟩
    ·rcases hkX with w|w <;> (rw[w]at q;cases q)
    ·obtain⟨c',hc'⟩:=lookup_mono_isSome (clOf_has (env:=X.env) (cs:=[]) hmem)
     have e:=snd hc'
     rw[hc]at e
     cases e
     exact⟨c,hc',hcell.keeps hk⟩
 ·obtain⟨v,z⟩:=I.cell z c (snd h)
  exact⟨v,z.keeps hk⟩
 ·show(some v::js.map _).length =(y::fs).length
  rw[List.length_cons,List.length_cons,List.length_map,hlen]
theorem lam_run {k:Nat}{params:Arguments}{body:Expr}{f c:Addr}{ctv:Value}{te:TE}{Q:VK}{v:V}{u:Value}(B:LamOk X scope y fs js) (hr:Room (k+3) X.A)
  (hb:∀(L f c:Addr) (s:Shared) (H:Hp),PE (cxLam X scope (y::fs) L f c s H) body te)
  (hbind:∀(pm cv ct:Value) (u:Value),bindArgs (PySem.W.kla_fn "<lambda>" (X.env.qual ++ "<lambda>") params body scope (clOf X.env scope.names []) pm cv ct) ⟨[u],[]⟩=pure [(y,u)])
  (I:Inv X pins σ H s) (hf:H f=some (FnO f (lamObj X params body scope c ctv))) (hc:H c=some (CodeO c (X.env.qual ++ "<lambda>"))) (rv:RelV v u) (h:te (lamSt v js σ) H Q) :
  wpAny (model X.prog X.w) X.A.in1.in1 (call (.ref f) [u]) (EP X pins σ Q) (fun _ _=>False) s:=by
 have ho:s.heap.get? f=some (lamObj X params body scope c ctv):=(I.hok _ _ hf).1
 have hcd:s.heap.CodeRec (.ref c) (X.env.qual ++ "<lambda>"):=(I.hok _ _ hc).1
 refine wpAny_call (PySem.W.kla_callFunE hr.in1.in1.depth ho rfl B.co B.gen rfl hcd ?_)
 rw[hbind]
 refine wpAny_pure (wpAny_newFunctionEnv B.cell (by intro z hz;simp at hz;subst hz;exact B.own) (fun h₁ hns hsb=>⟨(I.nolimit).fresh _ hsb,?_⟩) B.kind)
 have hk₁:∀b o,s.heap.get? b=some o→h₁.get? b=some o:=fun b o e=>hsb.extBut b o (Nat.ne_of_lt (Heap.lt_size e)) (Heap.get?_push_of_some _ e)
 show codeAny _ _ (.expr body (lamEnv X scope s.heap.objs.size f c)) _ _
 refine PySem.W.kla_codeExpr ?_
 have J:=lam_start (f:=f) (c:=c) (tk:=s.toks + [(y,u)].length) I B hns (by simp) rv hk₁
 refine wpAny_mono (hb _ f c s H [] _ _ H Q J h) (fun r s' hq=>?_) (fun e s' hq=>(show False from hq).elim)
 obtain⟨x,H',J',rx,qx⟩:=hq
 exact I.after ⟨x,H',J'.os,J'.bare,J'.base,J'.hok,rx,qx⟩
end
section
variable {X:Cx}{e body:Expr}{t:TA}{te:TE}{k:Nat}{p kpos pos lpos:Pos}{params:Arguments}{scope:Scope}{y:Str}{fs:List Str}{js:List Nat}{P c:Addr}
theorem Sm.seq {K:PySem.W.Frag}{H H':Hp}{a:Addr}{xs:List V}(e:Sm H H') (h:SqL K H a xs):SqL K H' a xs:=by
 rcases h with(h|⟨o,h⟩)|h
 ·exact .inl (.inl (e.nt _ _ h fun _=>nofun))
 ·exact .inl (.inr ⟨o,e.nt _ _ h fun _=>nofun⟩)
 ·exact .inr h
end
section
variable {X:Cx}{a b:Expr}{rest:List Expr}{ta tb:TE}{pos:Pos}
end
def OnlyT (P:Addr) (H:Hp):Prop:=∀b,H b=none ∨(∃o xs,H b=some (.frz o (.lst xs))) ∨(b=P∧H b=some (.tbl #[]))
theorem law_callT {P:Program}{w:World}{K:PySem.W.Frag}{mg mb:Str→Option Value}{CX:CXT}{k:Nat}{fa a tP tc:Addr}{fd:FuncData}{x:Str}{sp:Sp}{s₁:Shared}{vs:List Value}{ns:List Int}
  (KX:K.In s₁.heap) (hns:s₁.heap.Ns mainGlobals mg) (hb:s₁.heap.Ns builtinsNs mb) (hbb:∀x:Str,x ≠ "__name__"→mb x=bootBuiltins x) (hlim:s₁.heap.NoLimit) (hg:s₁.gens = #[])
  (hT:s₁.heap.get? tP=some (PySem.W.tabObj #[])) (hTc:PySem.W.codeHdIn K tc tP=true) (hKP:K.lookup tP=none) (hBM:BM mg s₁.heap)
  (ha:s₁.heap.get? a=some { cls:=.type "list",data:=.seq vs.toArray }) (hi:IntsAre vs ns) (hl:ns.length≤sizeLine) (hr:Room k callerA)
  (F:∀base:Heap,K.In base→base.Ns mainGlobals mg→BM mg base→FnOk P w K mg base CX k fa fd [x] sp) (hbind:∀(s:Shared) (u:Value),BindsTo s fd ⟨[u],[]⟩ [(x,u)])
  (hsp:∀H:Hp,OnlyT tP H→H tP=some (.tbl #[])→SqL K H a (ns.map V.int)→sp [.ref a] H (fun v _=>v = .bl true) fun _ _ _=>False)
  (hCX:∀H e s',CX [] H s₁ (fun _ _ _=>False) e s'→False) :
  codeAny (model P w) callerA (.call (.ref fa) ⟨[.ref a],[]⟩) (fun r s'=>r = .ok (.ret (.bool true))∧OldK s₁.heap s'.heap∧s'.os=s₁.os∧AllBare s'.gens) s₁:=by
 have rv:=vals_ints hi
 have lenV:=hi.length
 have aP:a≠tP:=fun z=>by rw[z,hT]at ha;cases ha
 have core:∀H:Hp,OnlyT tP H→H tP=some (.tbl #[])→SqL K H a (ns.map V.int)→HOk P w H s₁.heap→(∀b,H b≠none→b=a∨b=tP)→(H a≠none→K.lookup a=none) →
   codeAny (model P w) callerA (.call (.ref fa) ⟨[.ref a],[]⟩) (fun r s'=>r = .ok (.ret (.bool true))∧OldK s₁.heap s'.heap∧s'.os=s₁.os∧AllBare s'.gens) s₁:=by
  intro H hO hHP hS hok hA hK
  have base_of:∀{b:Addr}{o:Obj},s₁.heap.get? b=some o→H b=none→(hidT s₁.heap H).get? b=some o:=fun e n=>hidT_get e n
  have noC:∀{b:Addr}{o:Obj},s₁.heap.get? b=some o→o.cls ≠ .none→o.cls ≠ .type "list"→H b=none:=fun {b o} e d d2=>by
   cases q:H b with
   | none=>rfl
   | some u =>
    rcases hA b (by rw[q];simp) with e'|e'
    ·subst e';rw[ha]at e;cases e;exact absurd rfl d2
    ·subst e';rw[hT]at e;cases e;exact absurd rfl d
  have noA:∀{b:Addr}{o:Obj}{es:Array DictEntry}{ep:Nat},s₁.heap.get? b=some o→o.data = .dict es ep→H b=none:=fun {b o es ep} e d=>by
   cases q:H b with
   | none=>rfl
   | some u =>
    rcases hA b (by rw[q];simp) with e'|e'
    ·subst e'
     rw[ha]at e;cases e
     have d':Data.seq vs.toArray _=Data.dict es ep:=d
     cases d'
    ·subst e'
     rw[hT]at e;cases e
     have d':Data.fields _=Data.dict es ep:=d
     cases d'
  have nsK:∀{b:Addr}{m:Str→Option Value},s₁.heap.Ns b m→(hidT s₁.heap H).Ns b m:=fun {b m} ⟨o,es,ep,e,d,r⟩=>⟨o,es,ep,base_of e (noA e d),d,r⟩
  have hKb:K.In (hidT s₁.heap H):=fun b o e=>base_of (KX b o e) (by
   cases q:H b with
   | none=>rfl
   | some u =>
    rcases hA b (by rw[q];simp) with e'|e'
    ·subst e'
     rw[hK (by rw[q];simp)]at e;cases e
    ·subst e'
     rw[hKP]at e;cases e)
  have hBb:BM mg (hidT s₁.heap H):=by
   obtain⟨bm,o,b1,b2,b3,b4,b5,b6⟩:=hBM
   exact⟨bm,o,b1,b2,base_of b3 (noC b3 (by rw[b4];nofun) (by rw[b4];decide)),b4,b5,b6⟩
  have hM:Mod K mg (hidT s₁.heap H):=⟨hKb,nsK hns,⟨mb,nsK hb,hbb⟩,let ⟨mc,h1,h2⟩:=hlim;⟨mc,nsK h1,h2⟩⟩
  have e0:Env0 P w K mg (hidT s₁.heap H) callerA [] s₁ H:=⟨rfl,hM,fun b o e=>of_hidT e,Nat.le_of_eq (hidT_size _ _),trivial,fun b hb=>absurd (show b∈([]:List Addr) from hb) (by simp),hok,.of_eq hg⟩
  refine codeAny_mono ((F _ hKb (nsK hns) hBb).run callerA [] s₁ H ⟨[.ref a],[]⟩ [.ref a] [.ref a] _ _ hr e0 (hbind s₁ (.ref a)) (.cons rfl .nil) (hsp H hO hHP hS)) fun r s' h=>?_
  cases r with
  | error e=>exact(hCX H e s' h).elim
  | ok fl =>
   cases fl with
   | next=>exact False.elim h
   | brk=>exact False.elim h
   | cont=>exact False.elim h
   | ret u =>
    obtain⟨v,H',os,bare,un,hok',r',q⟩:=h
    have q':v = .bl true:=q
    subst q'
    obtain rfl:u=Value.bool true:=r'
    have tb:PySem.isCodeTable s₁.heap tP:=((PySem.W.codeHd_of_K KX hTc).tab hT).isCodeTable
    have grown:∃more,s'.heap.get? tP=some (PySem.W.tabObj (#[]++more)):=by
     obtain⟨more,e⟩:=un.tbls tP _ hHP
     exact⟨more,hok' _ _ e⟩
    have keep:∀b o,b≠tP→s₁.heap.get? b=some o→s'.heap.get? b=some o:=fun b o hb' e=>by
     cases q:H b with
     | none=>exact un.keep b o e q (by intro z;exact absurd (show b∈([]:List Addr) from z) (by simp)) (by simp)
     | some u =>
      rcases hO b with z|⟨ob,xs,z⟩|⟨z,_⟩
      ·rw[q]at z;cases z
      ·have z2:=un.frzs b ob _ z
       obtain⟨e1,_⟩:=hok b _ z
       obtain⟨e2,_⟩:=hok' b _ z2
       rw[e]at e1;cases e1
       exact e2
      ·exact absurd z hb'
    refine⟨rfl,⟨fun b o e=>?_,fun b o e=>?_⟩,os,bare⟩
    ·by_cases hb':b=tP
     ·subst hb'
      rw[hT]at e;cases e
      obtain⟨more,hP⟩:=grown
      exact .inr (.inl ⟨tb,rfl,#[],more,rfl,hP⟩)
     ·exact .inl (keep b o hb' e)
    ·by_cases hb':b=tP
     ·subst hb'
      obtain⟨more,hP⟩:=grown
      exact⟨_,hP⟩
     ·exact⟨o,keep b o hb' e⟩
 have okT:∀H:Hp,ObjOk P w H s₁.heap tP (.tbl #[]):=fun H=>hT
 cases hk:K.lookup a with
 | some o =>
  have e:=KX a o hk
  rw[ha]at e
  cases e
  refine core (fun b=>if b=tP then some (.tbl #[]) else none) (fun b=>?_) (if_pos rfl) (.inr ⟨_,vs.toArray,_,hk,rfl,rfl,rfl,by rw[List.size_toArray,lenV];exact hl,by simpa using rv⟩) (fun b u z=>?_) (fun b z=>?_) fun z=>absurd (if_neg aP) z
  ·by_cases hb':b=tP
   ·exact .inr (.inr ⟨hb',if_pos hb'⟩)
   ·exact .inl (if_neg hb')
  ·by_cases hb':b=tP
   ·have z':=(if_pos hb').symm.trans z
    cases z';subst hb';exact okT _
   ·have z':=(if_neg hb').symm.trans z
    cases z'
  ·by_cases hb':b=tP
   ·exact .inr hb'
   ·exact absurd (if_neg hb') z
 | none =>
  have e3:∀b,b=tP→(fun b=>if b=tP then some (HO.tbl #[]) else if b=a then some (HO.frz { cls:=.type "list",data:=.seq vs.toArray } (.lst (ns.map V.int))) else none) b=some (.tbl #[]):=fun b e=>if_pos e
  have e4:∀b,b≠tP→b=a→(fun b=>if b=tP then some (HO.tbl #[]) else if b=a then some (HO.frz { cls:=.type "list",data:=.seq vs.toArray } (.lst (ns.map V.int))) else none) b=some (HO.frz { cls:=.type "list",data:=.seq vs.toArray } (.lst (ns.map V.int))):=fun b e1 e2=>(if_neg e1).trans (if_pos e2)
  have e5:∀b,b≠tP→b≠a→(fun b=>if b=tP then some (HO.tbl #[]) else if b=a then some (HO.frz { cls:=.type "list",data:=.seq vs.toArray } (.lst (ns.map V.int))) else none) b=none:=fun b e1 e2=>(if_neg e1).trans (if_neg e2)
  generalize (fun b=>if b=tP then some (HO.tbl #[]) else if b=a then some (HO.frz { cls:=.type "list",data:=.seq vs.toArray } (.lst (ns.map V.int))) else none)=H at e3 e4 e5
  refine core H (fun b=>?_) (e3 _ rfl) (.inl (.inr ⟨{ cls:=.type "list",data:=.seq vs.toArray },e4 _ aP rfl⟩)) (fun b u z=>?_) (fun b z=>?_) fun _=>hk
  ·by_cases h1:b=tP
   ·exact .inr (.inr ⟨h1,e3 b h1⟩)
   ·by_cases h2:b=a
    ·exact .inr (.inl ⟨_,_,e4 b h1 h2⟩)
    ·exact .inl (e5 b h1 h2)
  ·by_cases h1:b=tP
   ·rw[e3 b h1]at z;cases z;subst h1;exact okT _
   ·by_cases h2:b=a
    ·rw[e4 b h1 h2]at z;cases z;subst h2
     exact⟨ha,by rw[List.length_map];exact hl,vs,_,rv,ha⟩
    ·rw[e5 b h1 h2]at z;cases z
  ·by_cases h1:b=tP
   ·exact .inr h1
   ·by_cases h2:b=a
    ·exact .inl h2
    ·exact absurd (e5 b h1 h2) z
theorem walk_ofT {l:PySem.W.OpenLaw}{n k:Nat}{q:Program}{loose:List Str}{XP:(Str→Option Value)→Heap→Prop}{YP:World→Heap→Prop}{d:DefRec}{K:Params→PySem.W.Frag}{CX:World→CXT}{sp:World→Sp}{x:Str}{tP:Addr}
  (hn:l.most=some n) (hn2:n≤sizeLine) (hdf:d.params.defaults=[]) (hr:Room k callerA)
  (hY:∀(w:World) (h:Heap),YP w h→(K w.params).In h) (hT:∀(w:World) (h:Heap),YP w h→h.get? tP=some (PySem.W.tabObj #[])) (hTc:∀w:World,∃tc,PySem.W.codeHdIn (K w.params) tc tP=true) (hKP:∀w:World,(K w.params).lookup tP=none)
  (F:∀(w:World) (mg:Str→Option Value) (fa:Addr) (h:Heap),(K w.params).In h→h.Ns mainGlobals mg→mg d.name=some (.ref fa) →
   ∃fd:FuncData,(∀(s:Shared) (u:Value),BindsTo s fd ⟨[u],[]⟩ [(x,u)]) ∧
    ∀base:Heap,(K w.params).In base→base.Ns mainGlobals mg→BM mg base→FnOk l.prog w (K w.params) mg base (CX w) k fa fd [x] (sp w))
  (hsp:∀(w:World) (H:Hp) (a:Addr) (ns:List Int),ns.length≤n→OnlyT tP H→H tP=some (.tbl #[])→SqL (K w.params) H a (ns.map V.int)→sp w [.ref a] H (fun v _=>v = .bl true) fun _ _ _=>False)
  (hCX:∀(w:World) (H:Hp) (s:Shared) (e:Value) (s':Shared),CX w [] H s (fun _ _ _=>False) e s'→False) :
  PySem.W.WalkO q loose XP YP l.row.toRowW d [] (fun f vs=>PySem.call f vs):=by
 refine Att.attach_call hn hdf fun w s₀ s₁ mg mb fa o pm cd doc a vs ns G Y ho hd hcd hmg hobj hints hlen hg=>?_
 have KX:=hY w _ Y
 obtain⟨fd,hb,hF⟩:=F w mg fa _ KX G.T.g hmg
 obtain⟨bm,ob,b1,b2,b3,b4,b5,b6⟩:=G.T.bmain
 obtain⟨tc,hTc⟩:=hTc w
 exact law_callT KX G.T.g G.T.b G.T.builtins G.T.nolimit hg (hT w _ Y) hTc (hKP w) ⟨bm,ob,b1,b2,b3,b4,b5,b6⟩ hobj hints (Nat.le_trans hlen hn2) hr hF hb (fun H hO hP hS=>hsp w H a ns hlen hO hP hS) fun H e s'=>hCX w H s₁ e s'
end L2
namespace L2
open PySem PySem.Spec PyProof.Rows
section
variable {X:Cx}
end
end L2
namespace L2
open PySem PySem.Spec PyProof.Rows
section
variable {X:Cx}
end
end L2
namespace L2
open PySem PySem.Spec PyProof.Rows
def TupI (h:Heap) (v:Value) (k:Int):Prop:=∃(a:Addr) (o:Obj) (n:Nat) (t:Tok) (rest:List Value),v = .ref a∧h.get? a=some o∧o.cls = .type "tuple"∧o.data = .seq (Value.int k t::rest).toArray n
def ltT (kf:Value→Int) (x y:Keyed):Bool:=decide (kf x.1<kf y.1)
theorem ordT (kf:Value→Int):OrdB (ltT kf):=⟨fun {x y} h=>by
 have:kf x.1<kf y.1:=of_decide_eq_true h
 exact decide_eq_false (by omega),fun {x y z} h1 h2=>by
 have a1:¬ kf y.1<kf x.1:=of_decide_eq_false h1
 have a2:¬ kf z.1<kf y.1:=of_decide_eq_false h2
 exact decide_eq_false (by omega)⟩
theorem keyLt'_tuples (b:Bool) (x y:Value):keyLt' (tuples' b) x y =(do
  let xs ← Builtin.List.listItems x;let ys ← Builtin.List.listItems y
  for ((p,q),i) in(xs.toList.zip ys.toList).zipIdx do
   if !(← eqBool p q) then return ← oneLt' (b && i == 0) p q
  return decide (xs.size<ys.size)):=rfl
section
variable {prog:Program}{w:World}{A:Around}{E:Value→Shared→Prop}{s:Shared}
theorem eqBool_self {v:Value}{Q:Bool→Shared→Prop}(q:Q true s):wpAny (model prog w) A (eqBool v v) Q E s:=by
 unfold eqBool
 refine wpAny_holding ?_
 rw[if_pos (by simp)]
 refine wpAny_bind (wpAny_rule ?_)
 exact wpAny_pure q
theorem loop_same {b:Bool}{E':Value→Shared→Prop}:∀(l:List Value) (i:Nat) (Q:Option Bool×Unit→Shared→Prop),Q (none,()) s→wpAny (model prog w) A (forIn ((l.zip l).zipIdx i) ((none,()):Option Bool×Unit) fun x __s=>do
   let __do_lift ← eqBool x.1.fst x.1.snd
   if (!__do_lift)=true then do
     let __do_lift ← oneLt' (b && x.snd == 0) x.1.fst x.1.snd
     pure (ForInStep.done (some __do_lift,()))
    else pure (ForInStep.yield (none,()))) Q E' s
 | [],i,Q,q=>by
  show wpAny (model prog w) A (pure (none,())) Q E' s
  exact wpAny_pure q
 | v::l,i,Q,q=>by
  simp only[List.zip_cons_cons,List.zipIdx_cons,List.forIn_cons]
  refine wpAny_bind (wpAny_bind (eqBool_self ?_))
  rw[if_neg (by simp)]
  refine wpAny_pure ?_
  exact loop_same l (i+1) Q q
theorem ltOkT {kf:Value→Int}{a0:List Keyed}(hT:∀x∈a0,TupI s.heap x.1 (kf x.1)) (hN:∀x∈a0,∀y∈a0,kf x.1=kf y.1→x.1=y.1):LtOk prog w A E s (ltT kf) (fun x=>x∈a0) (tuples' true):=by
 intro x y st Q hx hy hk q
 obtain⟨a,o,n,t,rest,e1,g1,c1,d1⟩:=hT x hx
 obtain⟨a',o',n',t',rest',e2,g2,c2,d2⟩:=hT y hy
 have hxy:=hN x hx y hy
 rw[lt'_eq]
 refine wpS_bind (wpS_get ?_)
 rw[hk,keyLt'_tuples]
 have hq:ltT kf x y=decide (kf x.1<kf y.1):=rfl
 generalize kf x.1=k1 at *
 generalize kf y.1=k2 at *
 rw[e1,e2]
 refine wpS_bind (wpS_lift (wpAny_attempt (wpAny_bind (listItems_at g1 d1 (wpAny_bind (listItems_at g2 d2 ?_))))))
 simp only[List.zip_cons_cons,List.zipIdx_cons,List.forIn_cons]
 by_cases c:k1=k2
 ·have exy:=hxy c
  rw[e1,e2]at exy
  cases exy
  rw[g1]at g2
  cases g2
  rw[d1]at d2
  cases d2
  refine wpAny_bind (wpAny_bind (wpAny_bind (eqBool_self ?_)))
  rw[if_neg (by simp)]
  refine wpAny_pure (loop_same rest _ _ ?_)
  refine wpAny_pure ⟨rfl,wpS_pure ?_⟩
  have e:decide ((Value.int k1 t::rest).toArray.size <(Value.int k1 t::rest).toArray.size)=ltT kf x y:=by rw[hq];simp
  rw[e];exact q
 ·refine wpAny_bind (wpAny_bind (wpAny_bind (wpAny_eqBool_int ?_)))
  rw[if_pos (by simp[c])]
  refine wpAny_bind (oneLt_int (wpAny_pure ?_))
  refine wpAny_pure (wpAny_pure ⟨rfl,wpS_pure ?_⟩)
  rw[← hq];exact q
theorem first_tup {v:Value}{k:Int}{Q:Option Value→Shared→Prop}(h:TupI s.heap v k) (q:∀t,Q (some (.int k t)) s):wpAny (model prog w) A (firstOfTuple' v) Q E s:=by
 obtain⟨a,o,n,t,rest,rfl,g1,c1,d1⟩:=h
 show wpAny (model prog w) A (do
  if (← typeOf (.ref a)) != .type "tuple" then return none
  return (← Builtin.List.listItems (.ref a))[0]?) Q E s
 refine wpAny_bind (wpAny_typeOf_ref g1 ?_)
 rw[c1,if_neg (by simp)]
 refine wpAny_bind (listItems_at g1 d1 (wpAny_pure ?_))
 exact q t
theorem firsts_tup:∀{vs:List Value}{ks:List Int}{Q:List (Option Value)→Shared→Prop},(∀p∈vs.zip ks,TupI s.heap p.1 p.2)→vs.length=ks.length→(∀us:List Value,IntsAre us ks→Q (us.map some) s)→wpAny (model prog w) A (vs.mapM firstOfTuple') Q E s
 | [],[],Q,_,_,q=>by
  rw[List.mapM_nil]
  exact wpAny_pure (q [] .nil)
 | [],_::_,_,_,l,_=>by cases l
 | _::_,[],_,_,l,_=>by cases l
 | v::vs,k::ks,Q,h,l,q=>by
  rw[List.mapM_cons]
  refine wpAny_bind (first_tup (h (v,k) (by simp)) fun t=>?_)
  refine wpAny_bind (firsts_tup (ks:=ks) (fun p hp=>h p (by simp[hp])) (by simpa using l) fun us hu=>?_)
  exact wpAny_pure (q (.int k t::us) (.cons k t hu))
theorem one_int {us:List Value}{k:Int}{ks:List Int}(h:IntsAre us (k::ks)):oneTypeOnly' us.toArray=pure (some (.type "int")):=by
 rw[oneTypeOnly'_eq,List.mapM_toArray,mapM_typeOf_ints h]
 simp only[map_pure,pure_bind]
 cases h with
 | cons n t h =>
  have hall:∀l:List Value,((List.map (fun _=>Value.type "int") l).toArray.all fun x=>x == Value.type "int")=true:=fun l=>by
   simp only[List.all_toArray,List.all_map,List.all_eq_true]
   intro _ _
   rfl
  have h0:∀(u:Value) (l:List Value),(List.map (fun _=>Value.type "int") (u::l)).toArray[0]? = some (Value.type "int"):=fun _ _=>by simp
  rw[h0]
  simp only[hall,if_true]
theorem keyKind_tups {vs:List Value}{k:Int}{ks:List Int}{Q:SortKind→Shared→Prop}(h:∀p∈vs.zip (k::ks),TupI s.heap p.1 p.2) (l:vs.length =(k::ks).length) (q:Q (tuples' true) s):wpAny (model prog w) A (keyKind' vs.toArray) Q E s:=by
 rw[keyKind'_eq,List.mapM_toArray]
 refine wpAny_bind ?_
 refine wpAny_map ?_
 refine firsts_tup h l fun us hu=>?_
 rw[if_pos (by simp)]
 refine wpAny_bind (wpAny_rule ?_)
 have e:(us.map some).toArray.filterMap id=us.toArray:=by simp
 rw[e,one_int hu]
 refine wpAny_bind (wpAny_pure ?_)
 exact wpAny_pure q
theorem TupI.keep {h h':Heap}{v:Value}{k:Int}(t:TupI h v k) (f:∀a o,o.cls = .type "tuple"→h.get? a=some o→h'.get? a=some o):TupI h' v k:=by
 obtain⟨a,o,n,t,rest,e,g,c,d⟩:=t
 exact⟨a,o,n,t,rest,e,f a o c g,c,d⟩
theorem zip_self {vs:List Value}:∀{p:Value×Value},p∈vs.zip vs→p.1=p.2∧p.1∈vs:=fun h=>mem_zip_self h
theorem zipk {kf:Value→Int}:∀{l:List Value}{p:Value×Int},p∈l.zip (l.map kf)→p.1∈l∧p.2=kf p.1
 | [],_,h=>by simp at h
 | v::l,p,h=>by
  rw[List.map_cons,List.zip_cons_cons]at h
  rcases List.mem_cons.mp h with z|z
  ·rw[z];exact⟨List.mem_cons_self,rfl⟩
  ·obtain⟨a,b⟩:=zipk z
   exact⟨List.mem_cons_of_mem _ a,b⟩
theorem lsort_tups {kf:Value→Int}{a:Addr}{vs:List Value}{n:Nat}{Z:Fin→Shared→Prop}(ho:s.heap.get? a=some (seqObj "list" vs.toArray n)) (hT:∀v∈vs,TupI s.heap v (kf v)) (hN:∀v∈vs,∀u∈vs,kf v=kf u→v=u) (hv:vs.length≤100000)
  (hZ:∀out:Array Value,out.toList.Perm vs→out.toList.Pairwise (fun u v=>kf u≤kf v)→Z (.done (.ret .none)) { s with heap:=sortedHeap s.heap a vs out }) :
  wpAny (model prog w) A (Builtin.«list.sort» ⟨[.ref a],[]⟩) Z E s:=by
 have hline:(100000:Nat)<sizeLine:=by decide
 have lt0:=Heap.lt_size ho
 rw[list_sort_plain]
 refine(wpAny_bind (listItems_at ho rfl ?_))
 refine(wpAny_bind (listUpdate_at ho rfl ?_ (by simp;omega)))
 obtain⟨k1,hk1⟩ : ∃k1,(s.heap.update a (Obj.mapSeq fun _=>#[])).get? a=some (seqObj "list" #[] k1):=⟨_,(get?_update_seq ho (fun _=>#[]))⟩
 refine(wpAny_bind (seqEpoch_at hk1 rfl ?_))
 refine(wpAny_bind (wpAny_newTuple ?_ (by simp;omega)))
 refine(wpAny_bind (wpAny_newList ?_))
 refine(wpAny_holding ?_)
 have hk6:(((s.heap.update a (Obj.mapSeq fun _=>#[])).push (seqObj "tuple" vs.toArray 0)).push (seqObj "list" #[] 0)).get? a=some (seqObj "list" #[] k1):=(by
  rw[Heap.get?_push_ne _ _ _ (by rw[size_push',Heap.size_update];exact Nat.ne_of_lt (Nat.lt_succ_of_lt lt0)),Heap.get?_push_ne _ _ _ (by rw[Heap.size_update];exact Nat.ne_of_lt lt0)]
  exact hk1)
 have keep:∀b o,o.cls = .type "tuple"→s.heap.get? b=some o→(((s.heap.update a (Obj.mapSeq fun _=>#[])).push (seqObj "tuple" vs.toArray 0)).push (seqObj "list" #[] 0)).get? b=some o:=fun b o hc hb=>by
  have hlt:=Heap.lt_size hb
  have nb:b≠a:=fun z=>by
   subst z
   rw[ho]at hb
   cases hb
   exact absurd (show Value.type "list" = Value.type "tuple" from hc) (by decide)
  rw[Heap.get?_push_ne _ _ _ (by rw[size_push',Heap.size_update];exact Nat.ne_of_lt (Nat.lt_succ_of_lt hlt)),Heap.get?_push_ne _ _ _ (by rw[Heap.size_update];exact Nat.ne_of_lt hlt),Heap.get?_update_ne _ _ _ _ nb]
  exact hb
 show wpAny (model prog w) A _ Z E { s with heap:=((s.heap.update a (Obj.mapSeq fun _=>#[])).push (seqObj "tuple" vs.toArray 0)).push (seqObj "list" #[] 0) }
 dsimp only
 by_cases two:vs.toArray.size<2
 ·rw[if_pos two,if_pos two]
  refine(wpAny_bind (wpAny_pure ?_))
  refine wpAny_bind ?_
  show wpAny (model prog w) A (pure ((),SortSt.mk' general' (vs.toArray.zip vs.toArray) #[] 7 none)) _ _ _
  refine wpAny_pure ?_
  refine(wpAny_bind (seqEpoch_at hk6 rfl ?_))
  have ev:(vs.toArray.zip vs.toArray).map (·.2)=vs.toArray:=by
   apply Array.ext'
   rw[Array.toList_map,Array.toList_zip,List.map_snd_zip (by simp)]
  refine wpAny_bind (listUpdate_at hk6 rfl ?_ (hsz2:=by
   rw[show arrOf (SortSt.mk' general' (vs.toArray.zip vs.toArray) #[] 7 none)=vs.toArray.zip vs.toArray from rfl,ev];simp;omega))
  dsimp only
  rw[show arrOf (SortSt.mk' general' (vs.toArray.zip vs.toArray) #[] 7 none)=vs.toArray.zip vs.toArray from rfl,ev]
  simp only[bne_self_eq_false,Bool.false_eq_true,if_false]
  refine wpAny_pure (hZ _ (by simp) ?_)
  match vs,two with
  | [],_=>simp
  | [_],_=>simp
  | _::_::_,h=>simp at h;omega
 ·rw[if_neg two,if_neg two]
  obtain⟨v,r,rfl⟩ : ∃v r,vs=v::r:=by
   cases vs with
   | nil=>simp at two
   | cons v r=>exact⟨v,r,rfl⟩
  refine wpAny_bind (keyKind_tups (k:=kf v) (ks:=r.map kf) (fun p hp=>?_) (by simp) ?_)
  ·obtain⟨m1,m2⟩:=zipk (l:=v::r) (p:=p) (by simpa using hp)
   rw[m2]
   exact(hT _ m1).keep keep
  have a0T:∀x∈(pairsOf (v::r)).toList,TupI (((s.heap.update a (Obj.mapSeq fun _=>#[])).push (seqObj "tuple" (v::r).toArray 0)).push (seqObj "list" #[] 0)) x.1 (kf x.1):=fun x hx=>by
   rw[pairsOf_toList]at hx
   exact(hT _ (zip_self hx).2).keep keep
  have a0N:∀x∈(pairsOf (v::r)).toList,∀y∈(pairsOf (v::r)).toList,kf x.1=kf y.1→x.1=y.1:=fun x hx y hy=>by
   rw[pairsOf_toList]at hx hy
   exact hN _ (zip_self hx).2 _ (zip_self hy).2
  refine wpAny_bind (wpAny_mono (wpS_sortB (ordT kf) (ltOkT a0T a0N) (st:=SortSt.mk' (tuples' true) ((v::r).toArray.zip (v::r).toArray) #[] 7 none) (a0:=(pairsOf (v::r)).toList) (Q:=fun _ st'=>(arrOf st').toList.Perm (pairsOf (v::r)).toList∧(arrOf st').toList.Pairwise (leB (ltT kf))∧failedOf st'=none) rfl rfl rfl rfl (fun x hx=>hx) fun st' b1 b2 b3=>⟨b1,b2,b3⟩) ?_ fun _ _ e=>e)
  rintro⟨⟨⟩,st'⟩ s' ⟨rfl,b1,b2,b3⟩
  dsimp only
  have hp:(arrOf st').Perm (pairsOf (v::r)):=Array.perm_iff_toList_perm.mpr b1
  have hsz:=hp.size_eq
  refine(wpAny_bind (seqEpoch_at hk6 rfl ?_))
  refine wpAny_bind (listUpdate_at hk6 rfl ?_ (hsz2:=by
   rw[Array.size_map,hsz,pairsOf_size];omega))
  rw[b3]
  simp only[bne_self_eq_false,Bool.false_eq_true,if_false]
  refine wpAny_pure (hZ _ ?_ ?_)
  ·rw[Array.toList_map]
   have:=b1.map (·.2)
   rw[pairsOf_toList]at this
   refine this.trans ?_
   rw[List.map_snd_zip (by simp)]
  ·rw[Array.toList_map,List.pairwise_map]
   refine b2.imp_of_mem fun {x y} hx hy h=>?_
   have ex:=zip_self (by rw[← pairsOf_toList];exact b1.mem_iff.mp hx)
   have ey:=zip_self (by rw[← pairsOf_toList];exact b1.mem_iff.mp hy)
   rw[← ex.1,← ey.1]
   have:=of_decide_eq_false h
   omega
theorem sorted_tups {kf:Value→Int}{l:Addr}{vs:List Value}{Q:Value→Shared→Prop}(hl:s.heap.IsList l vs.toArray) (hT:∀v∈vs,TupI s.heap v (kf v)) (hN:∀v∈vs,∀u∈vs,kf v=kf u→v=u) (hv:vs.length≤100000)
  (hQ:∀out:Array Value,out.toList.Perm vs→out.toList.Pairwise (fun u v=>kf u≤kf v)→Q (.ref (s.heap.objs.size+1)) { s with heap:=sortedAll s.heap vs out }) :
  wpAny (model prog w) A (call (.builtin "sorted") [.ref l]) Q E s:=by
 have hline:(100000:Nat)<sizeLine:=by decide
 refine(Calls.call_function_entry kind_sorted plain_sorted entry_sorted (args_sorted1 _) ?_)
 unfold Builtin.«sorted»
 refine(wpAny_bind (m:=checkCount "sorted" 1 1 _) (wpAny_pure ?_))
 refine(wpAny_bind (collect_list hl ?_ (by omega)))
 refine(wpAny_bind (wpAny_newList ?_ (by first|omega|(simp;omega))))
 have sz1:((s.heap.push (seqObj "list" #[] 0)).update s.heap.objs.size (Obj.mapSeq (· ++ vs.toArray))).objs.size=s.heap.objs.size+1:=(by rw[Heap.size_update,size_push'])
 have at1:(((s.heap.push (seqObj "list" #[] 0)).update s.heap.objs.size (Obj.mapSeq (· ++ vs.toArray))).push (seqObj "list" vs.toArray 0)).get? (s.heap.objs.size+1)=some (seqObj "list" vs.toArray 0):=(by
  rw[← sz1];exact Heap.get?_push_size _ rfl)
 have keep:∀b o,o.cls = .type "tuple"→s.heap.get? b=some o→(((s.heap.push (seqObj "list" #[] 0)).update s.heap.objs.size (Obj.mapSeq (· ++ vs.toArray))).push (seqObj "list" vs.toArray 0)).get? b=some o:=fun b o _ hb=>by
  have hlt:=Heap.lt_size hb
  rw[Heap.get?_push_ne _ _ _ (by rw[Heap.size_update,size_push'];exact Nat.ne_of_lt (Nat.lt_succ_of_lt hlt)),Heap.get?_update_ne _ _ _ _ (Nat.ne_of_lt hlt),Heap.get?_push_ne _ _ _ (Nat.ne_of_lt hlt)]
  exact hb
 show wpAny _ _ _ _ E { s with heap:=((s.heap.push (seqObj "list" #[] 0)).update s.heap.objs.size (Obj.mapSeq (· ++ vs.toArray))).push (seqObj "list" vs.toArray 0) }
 rw[sz1]
 refine wpAny_bind (wpAny_holding (wpAny_call_entry slot_list_sort ⟨_,at1,rfl⟩ entry_list_sort (lsort_tups (kf:=kf) at1 (fun v hv=>(hT v hv).keep keep) hN hv fun out c1 c2=>⟨_,rfl,?_⟩) (args_list_sort _)))
 exact wpAny_pure ⟨_,rfl,hQ out c1 c2⟩
end
section
variable {X:Cx}
def rSortT (K:PySem.W.Frag):List V→Hp→VK→Prop:=fun xs H Q=>∃(a:Addr) (ts:List Addr) (kf:Addr→Int),xs=[.ref a]∧SqL K H a (ts.map V.ref)∧ts.length≤100000∧(∀t∈ts,∃rest,H t=some (.tup (V.int (kf t)::rest)))∧(∀t∈ts,∀u∈ts,kf t=kf u→t=u) ∧
 ∀(us:List Addr) (l:Addr),us.Perm ts→us.Pairwise (fun t u=>kf t≤kf u)→H l=none→Q (.ref l) (upd H l (.lst (us.map V.ref)))
theorem vals_refs:∀{ts:List Addr}{its:List Value},Vals (ts.map V.ref) its→its=ts.map Value.ref
 | [],_,r=>by cases r;rfl
 | t::ts,_,r=>by
  cases r with
  | cons r1 r2 =>
   rw[vals_refs r2]
   cases (show _=Value.ref t from r1)
   rfl
theorem refs_vals:∀(ts:List Addr),Vals (ts.map V.ref) (ts.map Value.ref)
 | []=>.nil
 | t::ts=>.cons rfl (refs_vals ts)
def kfV (kf:Addr→Int):Value→Int
 | .ref a=>kf a
 | _=>0
theorem call_sortT:CallR X (.builtin "sorted") (rSortT X.K):=by
 intro pins s σ H xs us Q I r h
 obtain⟨a,ts,kf,rfl,hq,hn,hT,hN,q⟩:=h
 obtain⟨u,rfl,r1⟩:=vals1 r
 cases (show u=Value.ref a from r1)
 obtain⟨its,rv,pl,hz⟩:=I.list hq
 have ei:=vals_refs rv
 subst ei
 refine sorted_tups (kf:=kfV kf) pl.isList (fun v hv=>?_) (fun v hv u hu e=>?_) (by rw[List.length_map];exact hn) fun out c1 c2=>?_
 ·obtain⟨t,ht,rfl⟩:=List.mem_map.mp hv
  obtain⟨rest,hr⟩:=hT t ht
  obtain⟨its2,rv2,⟨o,e,c,n,d⟩,_⟩:=I.tuple (SqT.of hr)
  cases rv2 with
  | cons r1 r2 =>
   obtain⟨tk,rfl⟩:=r1
   exact⟨t,o,n,tk,_,rfl,e,c,d⟩
 ·obtain⟨t,ht,rfl⟩:=List.mem_map.mp hv
  obtain⟨t',ht',rfl⟩:=List.mem_map.mp hu
  exact congrArg Value.ref (hN t ht t' ht' e)
 ·obtain⟨e,he⟩:=sortedAll_at s.heap (ts.map Value.ref) out
  obtain⟨us2,p1,p2⟩ : ∃us2:List Addr,us2.Perm ts∧out.toList=us2.map Value.ref:=by
   refine⟨out.toList.map fun v=>match v with | .ref a=>a|_=>0,?_,?_⟩
   ·have:=c1.map (fun v=>match v with|Value.ref a=>a|_=>0)
    refine this.trans ?_
    rw[List.map_map]
    exact List.Perm.of_eq (by simp[Function.comp_def])
   ·rw[List.map_map]
    refine(List.map_id _).symm.trans (List.map_congr_left fun v hv=>?_)
    obtain⟨t,_,rfl⟩:=List.mem_map.mp (c1.mem_iff.mp hv)
    rfl
  have hz2:(us2.map V.ref).length≤sizeLine:=by
   have hline:(100000:Nat)<sizeLine:=by decide
   rw[List.length_map,p1.length_eq];omega
  rw[p2,List.pairwise_map]at c2
  exact⟨.ref (s.heap.objs.size+1),_,I.laid (t':=s.toks) (fun b o hb=>sortedAll_old hb) (Nat.le_succ _) (o:=.lst (us2.map V.ref)) ⟨hz2,out.toList,e,by rw[p2];exact refs_vals us2,by simpa using he⟩,rfl,q us2 _ p1 c2 (I.hok.fresh (Nat.le_succ _))⟩
end
end L2
namespace PySem
namespace F
end F
end PySem
namespace L2
open PySem PySem.Spec PyProof.Rows
section
variable {prog:Program}{w:World}{κ:Type} [DecidableEq κ] {knd:KeyKind prog w κ}{A:Around}{E:Value→Shared→Prop}{s:Shared}
inductive PairsAt (knd:KeyKind prog w κ) (h:Heap):List Value→List (κ×Value)→Prop
 | nil:PairsAt knd h [] []
 | cons {a:Addr}{o:Obj}{n:Nat}{key val:Value}{k:κ}{vs:List Value}{rs:List (κ×Value)}:h.get? a=some o→o.cls = .type "tuple"→o.data = .seq #[key,val] n→knd.is k key=true→PairsAt knd h vs rs→PairsAt knd h (.ref a::vs) ((k,val)::rs)
end
section
variable {X:Cx}
end
end L2
namespace L2
open PySem PySem.Spec PyProof.Rows
section
variable {prog:Program}{w:World}{κ:Type} [DecidableEq κ] {knd:KeyKind prog w κ}{A:Around}{E:Value→Shared→Prop}{s:Shared}
end
section
variable {X:Cx}
end
end L2
namespace L2
open PySem PySem.Spec PyProof.Rows
inductive NumU:Value→Int→Prop
 | int (i:Int) (t:Tok):NumU (.int i t) i
 | bl (b:Bool):NumU (.bool b) (if b=true then(1:Int) else 0)
section
variable {prog:Program}{w:World}{A:Around}{E:Value→Shared→Prop}{s:Shared}{Q:Value→Shared→Prop}{a b:Value}{i j:Int}
end
section
variable {prog:Program}{w:World}{A:Around}{E:Value→Shared→Prop}{s:Shared}{Q:Value→Shared→Prop}{a b:Value}{i j:Int}
end
inductive Num:V→Int→Prop
 | int (i:Int):Num (.int i) i
 | bl (b:Bool):Num (.bl b) (if b=true then(1:Int) else 0)
section
variable {X:Cx}
end
end L2
namespace L2
open PySem PySem.Spec PyProof.Rows
theorem forIn0 {β:Type}(b:β) (f:Nat→β→Sem (ForInStep β)):(forIn (m:=Sem) [:0] b f)=pure b:=by
 rw[Std.Legacy.Range.forIn_eq_forIn_range']
 rfl
section
variable {X:Cx}
def rInsert:V→List V→Hp→VK→Prop:=fun x vs H Q=>∃l xs i y,x = .ref l∧vs=[.int i,y]∧H l=some (.lst xs)∧0≤i∧i≤xs.length∧xs.length+1≤100000∧Q .non (upd H l (.lst (xs.take i.toNat++y::xs.drop i.toNat)))
theorem ins_list (its:List Value) (u:Value) (i:Int) (h0:0≤i) (h1:i≤its.length):(fun xs:Array Value=>have k:=if i<0 then(i+((xs.size:Nat):Int)).toNat else min i.toNat xs.size;(xs.extract 0 k).push u++xs.extract k) its.toArray =(its.take i.toNat++u::its.drop i.toNat).toArray:=by
 have hk:(if i<0 then(i+((its.toArray.size:Nat):Int)).toNat else min i.toNat its.toArray.size)=i.toNat:=by
  rw[if_neg (by omega),List.size_toArray]
  omega
 show(its.toArray.extract 0 (if i<0 then(i+((its.toArray.size:Nat):Int)).toNat else min i.toNat its.toArray.size)).push u++its.toArray.extract (if i<0 then(i+((its.toArray.size:Nat):Int)).toNat else min i.toNat its.toArray.size)=_
 rw[hk]
 apply Array.toList_inj.mp
 simp
 apply List.take_of_length_le
 rw[List.length_drop];omega
theorem mt_insert:MtM X "list.insert" rInsert:=by
 intro pins s σ H x vs v us Q I rx rv h
 obtain⟨l,xs,i,y,rfl,rfl,hH,h0,h1,hz0,q⟩:=h
 cases rx
 obtain⟨u,u2,rfl,⟨t,rfl⟩,ru⟩:=vals2 rv
 obtain⟨z,its,n,r,hl,e⟩:=I.lstM hH
 have hz1:xs.length+1≤sizeLine:=Nat.le_trans hz0 (by rw[sizeLine_eq];decide)
 have hfit:¬(!Builtin.List.listFitsIndex i)=true:=by
  rw[fitsIndex_both (k:=i) (by omega) (by omega)];simp
 have hsz:its.toArray.size≤sizeLine:=by rw[List.size_toArray,← hl];omega
 refine call_meets F.slot_list_insert ⟨_,e,rfl⟩ F.entry_list_insert (F.args_list_insert_3 _ _ _) (@AutoListH.list_insert_list_int_val_1 l its.toArray n i t u2 hfit hsz) ⟨e,?_⟩
 refine⟨.non,_,I.lset (its':=its.take i.toNat++u2::its.drop i.toNat) hH e (ins_list its u2 i h0 (by omega)) ((r.take i.toNat).append (.cons ru (r.drop i.toNat))) ?_,rfl,q⟩
 simp only[List.length_append,List.length_cons,List.length_take,List.length_drop]
 omega
end
end L2
namespace L2
open PySem PySem.Spec PyProof.Rows
section
variable {X:Cx}
end
end L2
namespace L2
open PySem PySem.Spec PyProof.Rows
section
variable {prog:Program}{w:World}{A:Around}{R:Result→Shared→Prop}{s:Shared}{elt t1 i1 t2 i2:Expr}{fs1 fs2:List Expr}{scope:Scope}{pos:Pos}{it acc:Value}{env:Env}
end
section
variable {X:Cx}{pins:List (Addr×Obj)}{σ:St}{H:Hp}{s:Shared}{scope:Scope}{vs fs:List Str}{js:List Nat}
end
section
variable {X:Cx}{pins:List (Addr×Obj)}{σ:St}{H:Hp}{s:Shared}{scope:Scope}{vs fs:List Str}{js:List Nat}
end
section
variable {vs:List Str}{js:List Nat}{σ:St}{H:Hp}{Q:VK}
end
end L2
namespace L2
open PySem PySem.Spec PyProof.Rows
section
variable {X:Cx}
def rIsntB:R2:=fun x y H Q=>∃a b,x = .bl a∧y = .bl b∧Q (.bl (!decide (a=b))) H
theorem op_isntB:OpR X (compareOp .IsNot) rIsntB:=by
 intro pins s σ H x y v u Q I rx ry h
 obtain⟨a,b,rfl,rfl,q⟩:=h
 cases rx
 cases ry
 have e:compareOp .IsNot (.bool a) (.bool b)=pure (.bool (!decide (a=b))):=by cases a <;> cases b <;> rfl
 rw[e]
 exact wpAny_pure ⟨.bl _,H,I,rfl,q⟩
theorem rd_isntB {H:Hp}{Q:VK}{a b:Bool}(q:Q (.bl (!decide (a=b))) H):rIsntB (.bl a) (.bl b) H Q:=⟨a,b,rfl,rfl,q⟩
end
end L2
namespace L2
open PySem PySem.Spec PyProof.Rows
section
variable {X:Cx}{x m:Str}{C:Addr}{ps:List Str}{k:Nat}{sp:Sp}{e o:Expr}{es:List Expr}{t:TA}{ta:TE}{p pos apos:Pos}
end
section
variable {σ:St}{H:Hp}{Q:VK}
end
section
variable {X:Cx}
end
section
variable {X:Cx}{pins:List (Addr×Obj)}{σ:St}{H:Hp}{s:Shared}{d:Addr}{o:Obj}{kvs:List (Key×V)}
end
section
variable {X:Cx}
end
end L2
namespace L2
open PySem PySem.Spec PyProof.Rows
section
variable {prog:Program}{w:World}{A:Around}{E:Value→Shared→Prop}{s:Shared}{κ:Type} [DecidableEq κ] {knd:KeyKind prog w κ}
end
section
variable {X:Cx}
end
end L2
namespace L2
open PySem PySem.Spec PyProof.Rows
section
variable {σ:St}{H:Hp}{Q:VK}{D:Ends}
def IsT (R t:TS):Prop:=R=t
theorem rd_seqO {t u:TS}(h:∀R,IsT R u→t { D with nx:=R D } σ H):tSeq t u D σ H:=h u rfl
theorem rd_ifSO {c:TT}{t u:TS}(h:∀R S,IsT R t→IsT S u→c σ H fun b H1=>if b=true then R D σ H1 else S D σ H1):tIfS c t u D σ H:=h t u rfl rfl
theorem rd_forO {wi:TI}{g:TG}{tb:TS}(h:∀R,IsT R tb→wi σ H fun J H1=>∃W:Nat→Nat→St→Hp→Prop,(∃m,W 0 m σ H1)∧∀i m σ H,W i m σ H →
 (J.stop i H∧D.nx σ H) ∨(J.go i H∧∃N:St→Hp→Prop,(∀σ' H',N σ' H'→∃m',m'<m∧W (i+1) m' σ' H')∧∀x H',J.yld i H x H'→g x σ H' fun σ2 H2=>R { D with nx:=N,ct:=N,bk:=D.nx } σ2 H2)):tFor wi g tb D σ H:=h tb rfl
theorem rd_tx {R t:TS}(e:IsT R t) (h:t D σ H):R D σ H:=by cases e;exact h
def IsN (N I:St→Hp→Prop):Prop:=∀σ H,I σ H→N σ H
def AllN (I:St→Hp→Prop) (t:(St→Hp→Prop)→Prop):Prop:=∀N,IsN N I→t N
theorem rd_allN {I:St→Hp→Prop}{t:(St→Hp→Prop)→Prop}(h:∀N,IsN N I→t N):AllN I t:=h
theorem rd_isN {N I:St→Hp→Prop}(e:IsN N I) (h:I σ H):N σ H:=e σ H h
theorem for_rangeO {lo:Int}{n:Nat}{g:TG}{tb:TS}(Pv:Nat→St→Hp→Prop) (h0:Pv 0 σ H)
  (hs:∀i σ H,i<n→Pv i σ H→AllN (Pv (i+1)) fun N=>g (.int (lo+i)) σ H fun σ2 H2=>tb { D with nx:=N,ct:=N,bk:=D.nx } σ2 H2) (hd:∀σ H,Pv n σ H→D.nx σ H) :
  ∃W:Nat→Nat→St→Hp→Prop,(∃m,W 0 m σ H)∧∀i m σ H,W i m σ H →
   ((Itr lo n).stop i H∧D.nx σ H) ∨((Itr lo n).go i H∧∃N:St→Hp→Prop,(∀σ' H',N σ' H'→∃m',m'<m∧W (i+1) m' σ' H')∧∀x H',(Itr lo n).yld i H x H'→g x σ H' fun σ2 H2=>tb { D with nx:=N,ct:=N,bk:=D.nx } σ2 H2) :=
 for_range Pv h0 (fun i σ H a b=>hs i σ H a b _ fun _ _ z=>z) hd
theorem for_listO {K:PySem.W.Frag}{a:Addr}{xs:List V}{g:TG}{tb:TS}(Pv:Nat→St→Hp→Prop) (h0:Pv 0 σ H) (hl:∀i σ H,i≤xs.length→Pv i σ H→SqL K H a xs)
  (hs:∀i x σ H,xs[i]? = some x→Pv i σ H→AllN (Pv (i+1)) fun N=>g x σ H fun σ2 H2=>tb { D with nx:=N,ct:=N,bk:=D.nx } σ2 H2) (hd:∀σ H,Pv xs.length σ H→D.nx σ H) :
  ∃W:Nat→Nat→St→Hp→Prop,(∃m,W 0 m σ H)∧∀i m σ H,W i m σ H →
   ((Itl K a).stop i H∧D.nx σ H) ∨((Itl K a).go i H∧∃N:St→Hp→Prop,(∀σ' H',N σ' H'→∃m',m'<m∧W (i+1) m' σ' H')∧∀x H',(Itl K a).yld i H x H'→g x σ H' fun σ2 H2=>tb { D with nx:=N,ct:=N,bk:=D.nx } σ2 H2) :=
 for_list Pv h0 hl (fun i x σ H a b=>hs i x σ H a b _ fun _ _ z=>z) hd
end
end L2
namespace L2
open PySem PySem.Spec PyProof.Rows
section
variable {X:Cx}{σ:St}{H:Hp}{Q:VK}{D:DK}
end
section
variable {K:PySem.W.Frag}
def Ga (K:PySem.W.Frag) (x:Str) (st:Stmt):Prop:=∃f:Addr,PySem.W.nsIn K mainGlobals x=some (some (.ref f))∧∃fd:FuncData,Fun K x x st f fd
def Ga2 (K:PySem.W.Frag) (x y:Str) (st:Stmt):Prop:=∃f:Addr,PySem.W.nsIn K mainGlobals x=some (some (.ref f))∧PySem.W.nsIn K mainGlobals y=some (some (.ref f))∧∃fd:FuncData,Fun K x x st f fd
def Me (K:PySem.W.Frag) (C:Addr) (m q:Str) (st:Stmt):Prop:=∃f:Addr,PySem.W.findIn K (.ref C) m=some (some (.ref f))∧PySem.W.isFn K (.ref f)=true∧PySem.W.keepIn K (.ref f)=true∧∃fd:FuncData,Fun K m q st f fd
end
end L2
namespace L2
open PySem PySem.Spec PyProof.Rows
mutual
inductive DW (H:Hp):V→PyData→Prop
 | non:DW H .non .none
 | bl (b:Bool):DW H (.bl b) (.bool b)
 | int (i:Int):DW H (.int i) (.int i)
 | str (x:Str):DW H (.str x) (.str x)
 | lst {a:Addr}{xs:List V}{ds:List PyData}:H a=some (.lst xs)→DWs H xs ds→DW H (.ref a) (.list ds)
 | tup {a:Addr}{xs:List V}{ds:List PyData}:H a=some (.tup xs)→DWs H xs ds→DW H (.ref a) (.tuple ds)
 | dic {a:Addr}:H a=some (.dK [])→DW H (.ref a) (.dict [])
inductive DWs (H:Hp):List V→List PyData→Prop
 | nil:DWs H [] []
 | cons {x:V}{d:PyData}{xs:List V}{ds:List PyData}:DW H x d→DWs H xs ds→DWs H (x::xs) (d::ds)
end
mutual
def nlD:PyData→Bool
 | .list _=>false
 | .tuple xs=>nlDs xs
 | _=>true
def nlDs:List PyData→Bool
 | []=>true
 | x::xs=>nlD x && nlDs xs
end
section
variable {X:Cx}{pins:List (Addr×Obj)}{σ:St}{H:Hp}{s:Shared}
end
section
variable {X:Cx}
end
section
variable {X:Cx}
end
def hide (M:Addr→Bool) (H:Hp):Hp:=fun a=>if M a then none else H a
def Sub (M:Addr→Bool) (H H':Hp):Prop:=∀a o,M a=false→H a=some o→H' a=some o
end L2
namespace L2
open PySem PySem.Spec PyProof.Rows
section
variable {K:PySem.W.Frag}{σ:St}{H:Hp}{Q:VK}
end
section
variable {X:Cx}
end
end L2
namespace L2
open PySem PySem.Spec PyProof.Rows
section
variable {X:Cx}{pins:List (Addr×Obj)}{σ:St}{H:Hp}{s:Shared}{a:Addr}{kvs:List (Key×V)}{k:Key}{u r:Value}{A:Around}{E:Value→Shared→Prop}
end
section
variable {X:Cx}
end
end L2
namespace L2
open PySem PySem.Spec PyProof.Rows
section
variable {X:Cx}{K:PySem.W.Frag}{C:Addr}
end
end L2
namespace PySem
open Sem (wp)
section
variable {prog:Program}{w:World}{A:Around}{E:Value→Shared→Prop}{h:Heap}{g:Array GenState}{d:Drawn}{t:Nat}{os:OsState}
variable {nm q:Str}{C N:Addr}{bs bm bmB:List Value}{hdct:Bool}{sn:List Str}{sub:List Value}{ab:Bool}{col:Option Bool}{dd:Option Addr}{k0 k1 k2 k3 k5:Option Value}{B newId initId:String}
end
end PySem
namespace PySem
open Sem (wp)
open Builtin Builtin.ObjectAttr
inductive TlN (h:Heap) (bmB:List Value) (P:Str→Prop):List Value→Prop
 | base:TlN h bmB P bmB
 | own {A:Addr}{c0:Value}{dd:Option Addr}{cd:ClassData}{sl:Array (Option Value)}{mA:Str→Option Value}{tl:List Value} :
   h.get? A=some { cls:=c0,dict:=dd,data:=.cls cd,slots:=sl }→h.Ns cd.ns mA→(∀n,P n→mA n=none)→TlN h bmB P tl→TlN h bmB P (.ref A::tl)
section
variable {M:Model}{prog:Program}{w:World}{A:Around}{E:Value→Shared→Prop}{h:Heap}{g:Array GenState}{d:Drawn}{t:Nat}{os:OsState}{P:Str→Prop}
variable {nm q:Str}{C N x:Addr}{bs bm bmB:List Value}{hdct:Bool}{sn:List Str}{sub:List Value}{ab:Bool}{col:Option Bool}{dd:Option Addr}{k0 k1 k2 k3 k5:Option Value}{B newId sa owner:String}{mN:Str→Option Value}{name:Str}{v:Value}
end
end PySem
namespace L2
open PySem PySem.Spec PyProof.Rows
section
variable {P:Program}{w:World}{K:PySem.W.Frag}{A:Around}{s:Shared}{k:Nat}{f e C N:Addr}{name qual at_:Str}{params:Arguments}{scope:Scope}{dV kV doc pm cdv ct oc u:Value}{an od:Option Addr}
 {osl:Array (Option Value)}{nm q:Str}{bs bm bmB:List Value}{sn:List Str}{sub:List Value}{ab:Bool}{col:Option Bool}{dd:Option Addr}{k0 k1 k2 k3 k5:Option Value}{B newId sa owner:String}{mN:Str→Option Value}{oe:Obj}{Pn:Str→Prop}{p1 p2 p3 p4:Pos}
end
end L2
namespace PySem
open Sem (wp)
section
variable {M:Model}{prog:Program}{w:World}{A:Around}{E:Value→Shared→Prop}{s:Shared}{env:Env}
variable {nm q:Str}{C N:Addr}{bs bm bmB:List Value}{hdct:Bool}{sn:List Str}{sub:List Value}{ab:Bool}{col:Option Bool}{dd:Option Addr}{k0 k1 k2 k3 k5:Option Value}{B newId initId:String}
end
end PySem
namespace PySem
open Sem (wp)
section
variable {M:Model}{A:Around}{E:Value→Shared→Prop}{s:Shared}
end
end PySem
namespace L2
open PySem PySem.Spec PyProof.Rows
section
variable {X:Cx}{pins:List (Addr×Obj)}{σ:St}{H H':Hp}{s:Shared}{h':Heap}
end
end L2
namespace L2
open PySem PySem.Spec PyProof.Rows
section
variable {P:Program}{w:World}{K:PySem.W.Frag}{mg:Str→Option Value}{base:Heap}{N:List Str}{qual:Str}{scope:Scope}{f:Addr}{cd:Value}{A:Around}{outer:List Env}{s0:Shared}{H00:Hp}{E:XK}
end
end L2
namespace L2
open PySem PySem.Spec PyProof.Rows
section
variable {X:Cx}{E:XK}{C:Addr}{a x:Str}{k:Nat}{arg:Expr}{ta:TA}{np cpos pos:Pos}
end
end L2
namespace PySem
section
variable {M:Model}{A:Around}{E:Value→Shared→Prop}{h:Heap}{g:Array GenState}{d:Drawn}{t:Nat}{os:OsState}
variable {nm q nm' q':Str}{C N C' N' e:Addr}{bs bm bs' bm':List Value}{hdct hdct':Bool}{sn sn':List Str}{sub sub':List Value}{ab ab':Bool}{col col':Option Bool}{dd dd':Option Addr}{k0 k1 k2 k3 k5 k0' k1' k2' k3' k5':Option Value}{newId newId':String}{oe:Obj}
end
end PySem
namespace L2
open PySem PySem.Spec PyProof.Rows
section
variable {X:Cx}{pins:List (Addr×Obj)}{σ:St}{H:Hp}{s:Shared}
def Cx.suite (X:Cx) (e:Addr):Cx:={ X with A:=X.A.mark (some (.ref e)),calm:=false,xe:=fun _ _=>False }
end
end L2
namespace L2
open PySem PySem.Spec PyProof.Rows
section
variable {X:Cx}{pins:List (Addr×Obj)}{σ:St}{H:Hp}{s:Shared}
end
section
variable {X:Cx}{body suite:List Stmt}{b0:Stmt}{np hpos pos:Pos}{xc n:Str}{i:Nat}{C':Addr}{tb:XK→TS}{th:TS}
end
end L2
namespace L2
open PySem PySem.Spec PyProof.Rows
section
variable {X:Cx}{E:XK}{x m:Str}{C:Addr}{ps:List Str}{k:Nat}{sp:Sp}{e o:Expr}{es:List Expr}{t:TA}{ta:TE}{p pos apos:Pos}
end
section
variable {P:Program}{w:World}{K:PySem.W.Frag}{mg:Str→Option Value}{base:Heap}{C:Addr}{x y qual:Str}{st:Stmt}{f:Addr}{fd:FuncData}{N ps:List Str}{k:Nat}{sp:Sp}
end
end L2
namespace L2
open PySem PySem.Spec PyProof.Rows
def nsK (K:PySem.W.Frag) (N:Addr):Bool:=match K.lookup N with
 | some ⟨_,_,.dict es _,_⟩=>es.all (fun e=>match e.key with | .str _ _=>true|_=>false)
 | _=>false
end L2
namespace PySem
open Builtin
section
variable {M:Model}{prog:Program}{w:World}{A:Around}{E:Value→Shared→Prop}{h:Heap}{g:Array GenState}{d:Drawn}{t:Nat}{os:OsState}{P:Str→Prop}
variable {nm q:Str}{C N x D:Addr}{bs bm bmB:List Value}{hdct:Bool}{sn:List Str}{sub:List Value}{ab:Bool}{col:Option Bool}{dd:Option Addr}{k0 k1 k2 k3 k5:Option Value}{B newId:String}{mN mA:Str→Option Value}{name:Str}{v:Value}{vs:Array Value}{sl:Array (Option Value)}{od:Obj}
end
end PySem
namespace L2
open PySem PySem.Spec PyProof.Rows
section
variable {X:Cx}{pins:List (Addr×Obj)}{σ:St}{H:Hp}{s:Shared}{e C:Addr}{a:Str}{v:V}
end
end L2
namespace PySem
open Builtin
section
variable {M:Model}{prog:Program}{w:World}{A:Around}{E:Value→Shared→Prop}{h:Heap}{g:Array GenState}{d:Drawn}{t:Nat}{os:OsState}{P:Str→Prop}
variable {nm q:Str}{C N x D:Addr}{bs bm bmB:List Value}{hdct:Bool}{sn:List Str}{sub:List Value}{ab:Bool}{col:Option Bool}{dd:Option Addr}{k0 k1 k2 k3 k5:Option Value}{B newId:String}{mN:Str→Option Value}{vs:Array Value}{sl:Array (Option Value)}{K:PySem.W.Frag}{od:Obj}
end
end PySem
namespace L2
open PySem PySem.Spec PyProof.Rows
section
variable {X:Cx}
end
end L2
namespace L2
open PySem PySem.Spec PyProof.Rows
section
variable {X:Cx}
end
end L2
namespace L2
open PySem PySem.Spec PyProof.Rows
end L2
namespace L2
open PySem PySem.Spec PyProof.Rows
section
variable {σ:St}{H:Hp}{Q:VK}{D:Ends}
end
end L2
namespace L2
open PySem PySem.Spec PyProof.Rows
end L2
namespace L2
open PySem PySem.Spec PyProof.Rows
section
variable {X:Cx}
end
structure PAS (X:Cx) (es:List Expr) (t:TA):Prop where
 out:PA X es t
theorem pas_nil {X:Cx}:PAS X [] tNil:=⟨pa_nil⟩
theorem pas_cons {X:Cx}{e:Expr}{es:List Expr}{te:TE}{t:TA}(ha:PE X e te) (hr:PAS X es t) (hs:starEach (e::es) X.env =(false,eval e X.env)::starEach es X.env):PAS X (e::es) (tCons te t):=⟨pa_cons ha hr.out hs⟩
theorem pe_lstS {X:Cx}{es:List Expr}{t:TA}{pos:Pos}(h:PAS X es t):PE X (.List es pos) (tLst t):=pe_lst h.out
end L2
namespace L2
open PySem PySem.Spec PyProof.Rows
def gV (u:Value):V:=(absV u).getD .non
theorem gV_of {x:V}{u:Value}(r:RelV x u):gV u=x:=by unfold gV;rw[r.abs];rfl
theorem vals_g:∀{xs:List V}{us:List Value},Vals xs us→xs=us.map gV∧∀u∈us,RelV (gV u) u
 | _,_,.nil=>⟨rfl,fun _ h=>by cases h⟩
 | _,_,.cons (a:=x) (b:=u) r t=>by
  obtain⟨h1,h2⟩:=vals_g t
  refine⟨by rw[List.map_cons,gV_of r,← h1],fun w hw=>?_⟩
  rcases List.mem_cons.mp hw with rfl|hw
  ·rw[gV_of r];exact r
  ·exact h2 w hw
theorem vals_gV:∀{us:List Value},(∀u∈us,RelV (gV u) u)→Vals (us.map gV) us
 | [],_=>.nil
 | u::us,h=>.cons (h u (List.mem_cons_self ..)) (vals_gV fun w hw=>h w (List.mem_cons_of_mem _ hw))
theorem key_outV {vs:List Value}{xs:List V}{κ:V→Int}{out:List Value}(hI:Vals xs vs) (h:KskOut false (xs.map κ) vs out):∃ys,Vals ys out∧ys.Perm xs∧ys.Pairwise (fun x y=>κ x≤κ y):=by
 obtain⟨ps,h1,h2,h3⟩:=h
 obtain⟨en,all⟩:=vals_g hI
 have mem:∀p∈ps,RelV (gV p.2) p.2∧p.1=κ (gV p.2):=fun p hp=>by
  have hz:=h1.mem_iff.mp hp
  rw[en,List.map_map]at hz
  obtain⟨i,hi⟩:=List.getElem?_of_mem hz
  rw[List.getElem?_zip_eq_some,List.getElem?_map]at hi
  obtain⟨e1,e2⟩:=hi
  rw[e2]at e1
  exact⟨all _ (List.mem_of_getElem? e2),(Option.some.inj e1).symm⟩
 have hall:∀v∈out,RelV (gV v) v:=fun v hv=>by
  rw[h2]at hv
  obtain⟨p,hp,rfl⟩:=List.mem_map.mp hv
  exact(mem p hp).1
 refine⟨out.map gV,vals_gV hall,?_,?_⟩
 ·rw[h2,List.map_map]
  have:=h1.map (fun p:Int×Value=>gV p.2)
  refine this.trans (List.Perm.of_eq ?_)
  rw[en,List.map_map]
  refine List.ext_getElem? fun i=>?_
  rw[List.getElem?_map,List.getElem?_map]
  cases e:vs[i]? with
  | none =>
   have:((vs.map (κ ∘ gV)).zip vs)[i]? = none:=by
    rw[List.getElem?_eq_none_iff]at e ⊢
    rw[List.length_zip,List.length_map];omega
   rw[this];rfl
  | some v =>
   have:((vs.map (κ ∘ gV)).zip vs)[i]? = some (κ (gV v),v):=by
    rw[List.getElem?_zip_eq_some,List.getElem?_map,e]
    exact⟨rfl,rfl⟩
   rw[this];rfl
 ·rw[h2,List.map_map,List.pairwise_map]
  refine h3.imp_of_mem fun {p q} hp hq h=>?_
  show κ (gV p.2)≤κ (gV q.2)
  rw[←(mem p hp).2,←(mem q hq).2]
  simpa using h
section
variable {X:Cx}{pins:List (Addr×Obj)}{σ:St}{H:Hp}{s:Shared}{h':Heap}
variable {A:Around}{E:Value→Shared→Prop}
set_option maxHeartbeats 1000000 in
theorem lsort_keyV {a:Addr}{vs:List Value}{ns:List V}{n:Nat}{f:Value}{κ:V→Int}{Z:Fin→Shared→Prop}(I:Inv X pins σ H s) (ho:s.heap.get? a=some (seqObj "list" vs.toArray n)) (hfa:FpOk X pins H a) (hI:Vals ns vs) (hv:vs.length≤100000)
  (turn:∀(z:V) (u:Value) (pins':List (Addr×Obj)) (s':Shared),z∈ns→RelV z u→Inv X pins' σ H s'→wpAny (model X.prog X.w) A (call f [u]) (fun r s''=>(∃t',r = .int (κ z) t')∧Inv X pins' σ H s'') (fun _ _=>False) s')
  (hZ:∀(s':Shared) (ms:List V),ms.Perm ns→ms.Pairwise (fun x y=>κ x≤κ y)→Inv X pins σ (upd H a (.lst ms)) s'→Z (.done (.ret .none)) s') :
  wpAny (model X.prog X.w) A (ksk_tree a f false) Z E s:=by
 have hline:(100000:Nat)<sizeLine:=by decide
 have lt0:=Heap.lt_size ho
 obtain⟨e1,ho1⟩ : ∃e1,(s.heap.update a (Obj.mapSeq fun _=>(#[]:Array Value))).get? a=some (seqObj "list" #[] e1):=⟨_,get?_update_seq ho fun _=>#[]⟩
 have hkS:((s.heap.update a (Obj.mapSeq fun _=>(#[]:Array Value))).push (seqObj "tuple" vs.toArray 0)).objs.size=s.heap.objs.size+1:=by rw[size_push',Heap.size_update]
 unfold ksk_tree
 refine wpAny_bind (listItems_at ho rfl ?_)
 refine wpAny_bind (listUpdate_at ho rfl ?_ (by rw[List.size_toArray];omega) (Nat.zero_le _))
 refine wpAny_bind (seqEpoch_at ho1 rfl ?_)
 refine wpAny_bind (wpAny_newTuple ?_ (by show vs.length≤_;omega))
 refine wpAny_bind (wpAny_newList ?_ (Nat.zero_le _))
 refine wpAny_holding ?_
 have sb:=Heap.SameBut.update s.heap a (Obj.mapSeq fun _=>(#[]:Array Value))
 have I1:Inv X pins σ H { s with heap:=((s.heap.update a (Obj.mapSeq fun _=>(#[]:Array Value))).push (seqObj "tuple" vs.toArray 0)).push (seqObj "list" #[] 0) } :=
  I.turnedL (t':=s.toks) (ch:=[a]) (fun b o hb e=>Heap.get?_push_of_some _ (Heap.get?_push_of_some _ ((sb.2 b (fun z=>hb (by simp[z]))).trans e))) fun b hb=>by rw[List.mem_singleton.mp hb];exact hfa
 generalize hkk:((s.heap.update a (Obj.mapSeq fun _=>(#[]:Array Value))).push (seqObj "tuple" vs.toArray 0)).objs.size=kS at hkS
 have hk1:(((s.heap.update a (Obj.mapSeq fun _=>(#[]:Array Value))).push (seqObj "tuple" vs.toArray 0)).push (seqObj "list" #[] 0)).get? kS=some (seqObj "list" #[] 0):=by rw[← hkk];exact Heap.get?_push_size _ rfl
 have ha1:(((s.heap.update a (Obj.mapSeq fun _=>(#[]:Array Value))).push (seqObj "tuple" vs.toArray 0)).push (seqObj "list" #[] 0)).get? a=some (seqObj "list" #[] e1):=Heap.get?_push_of_some _ (Heap.get?_push_of_some _ ho1)
 have ka:kS≠a:=by rw[hkS];exact Nat.ne_of_gt (Nat.lt_succ_of_lt lt0)
 have hfk:FpOk X pins H kS:=by
  have hle:s.heap.objs.size≤kS:=by rw[hkS];exact Nat.le_succ _
  exact I.fpOk hle (I.hok.fresh hle)
 clear hkk hkS
 generalize hs1:({ s with heap:=((s.heap.update a (Obj.mapSeq fun _=>(#[]:Array Value))).push (seqObj "tuple" vs.toArray 0)).push (seqObj "list" #[] 0) }:Shared)=s1 at I1
 have hk1:s1.heap.get? kS=some (seqObj "list" #[] 0):=by rw[← hs1];exact hk1
 have ha1:s1.heap.get? a=some (seqObj "list" #[] e1):=by rw[← hs1];exact ha1
 clear hs1 sb ho1 I
 have fp2:∀b ∈ [kS,a],FpOk X pins H b:=fun b hb=>by
  have:b=kS∨b=a:=by simpa using hb
  rcases this with rfl|rfl <;> assumption
 unfold ksk_rest
 refine wpAny_bind (wpAny_rule ?_)
 first
  | rw[List.forIn_toArray]
  | (rw[← Array.forIn_toList];simp only[List.toList_toArray])
  | rw[← Array.forIn_toList]
 refine wpAny_bind (ksk_fold (fun i s'=>Inv X pins σ H s'∧∃kA e,s'.heap.get? kS=some (seqObj "list" kA e)∧s'.heap.get? a=some (seqObj "list" #[] e1)∧IntsAre kA.toList ((ns.map κ).take i)) vs 0 s1 ⟨I1,#[],0,hk1,ha1,by simpa using IntsAre.nil⟩ ?step ?done)
 case step =>
  rintro j x s' hx ⟨I',kA,e,hk,ha,hks⟩
  simp only[Nat.zero_add]at hks ⊢
  have hj:j<vs.length:=(List.getElem?_eq_some_iff.mp hx).1
  obtain⟨en,all⟩:=vals_g hI
  obtain⟨z,ez⟩ : ∃z,gV x=z:=⟨_,rfl⟩
  have rz:=all x (List.mem_of_getElem? hx)
  rw[ez]at rz
  have hz:ns[j]? = some z:=by rw[en,List.getElem?_map,hx];exact congrArg some ez
  have hzs:kA.size≤vs.length:=by
   have h1:=hks.length
   rw[Array.length_toList,List.length_take]at h1
   omega
  have Ip:=I'.pinned (fp:=[kS,a]) fp2 fun b hb=>by
   have:b=kS∨b=a:=by simpa using hb
   rcases this with rfl|rfl
   ·exact⟨_,hk,fun v q=>by cases q⟩
   ·exact⟨_,ha,fun v q=>by cases q⟩
  refine wpAny_bind (wpAny_attempt (wpAny_mono (turn z x _ s' (List.mem_of_getElem? hz) rz Ip) (fun v s'' he=>?_) fun _ _ hF=>hF.elim))
  obtain⟨⟨t2,rfl⟩,I2⟩:=he
  have gk:s''.heap.get? kS=some (seqObj "list" kA e):=(I2.pin (kS,_) (List.mem_append_right _ (List.mem_append_right _ (mem_pinsAt (by simp) hk)))).1
  have ga:s''.heap.get? a=some (seqObj "list" #[] e1):=(I2.pin (a,_) (List.mem_append_right _ (List.mem_append_right _ (mem_pinsAt (by simp) ha)))).1
  try dsimp only
  obtain⟨c2,hc2⟩ : ∃c2,(s''.heap.update kS (Obj.mapSeq (·.push (.int (κ z) t2)))).get? kS=some (seqObj "list" (kA.push (.int (κ z) t2)) c2):=⟨_,get?_update_seq gk (·.push (.int (κ z) t2))⟩
  have s1':=Heap.SameBut.update s''.heap kS (Obj.mapSeq (·.push (.int (κ z) t2)))
  have ek:(ns.map κ).take (j+1) =(ns.map κ).take j ++ [κ z]:=by
   rw[List.take_add_one,List.getElem?_map,hz];simp
  have ea:(kA.push (Value.int (κ z) t2)).toList=kA.toList ++ [Value.int (κ z) t2]:=by simp
  refine wpAny_bind (listUpdate_at gk rfl ?_ (by omega) (Nat.le_trans (Nat.le_of_eq (Array.size_push ..)) (by omega)))
  refine wpAny_pure ⟨rfl,I2.unpinned.turnedL (t':=s''.toks) (ch:=[kS]) (fun b o hb e=>(s1'.2 b (fun z=>hb (by simp[z]))).trans e) (fun b hb=>by rw[List.mem_singleton.mp hb];exact hfk),_,c2,hc2,(s1'.2 a ka.symm).trans ga,by rw[ea,ek];exact ksk_snoc hks⟩
 case done =>
  rintro s' ⟨I',kA,e,hk,ha,hks⟩
  have nl:ns.length=vs.length:=hI.length
  have e3:(ns.map κ).take (0+vs.length)=ns.map κ:=List.take_of_length_le (by rw[List.length_map];omega)
  rw[e3]at hks
  have hsz:kA.size=vs.length:=by
   have h1:=hks.length
   rw[Array.length_toList,List.length_map]at h1
   omega
  have hzs:(kA.zip vs.toArray).size=vs.length:=by rw[Array.size_zip,hsz,List.size_toArray,Nat.min_self]
  refine wpAny_bind (listItems_at hk rfl ?_)
  unfold ksk_end
  try dsimp only
  have tail:∀st:SortSt,(arrOf st).Perm (kA.zip vs.toArray)→SortedTo (arrOf st) (arrOf st).size→failedOf st=none→wpAny (model X.prog X.w) A (ksk_tail a false e1 (.ref kS) st) Z E s':=fun st hp hs hfl=>by
   have hsz2:(arrOf st).size=vs.length:=by rw[hp.size_eq,hzs]
   have hout:((arrOf st).map (·.2)).size=vs.length:=by rw[Array.size_map];exact hsz2
   obtain⟨ms,m1,m2,m3⟩:=key_outV hI (by have:=ksk_out (b:=false) hks hp hs;simpa using this)
   have s1':=Heap.SameBut.update s'.heap kS (Obj.mapSeq fun _=>(#[]:Array Value))
   have na1:(s'.heap.update kS (Obj.mapSeq fun _=>(#[]:Array Value))).get? a=some (seqObj "list" #[] e1):=(s1'.2 a ka.symm).trans ha
   have s2':=Heap.SameBut.update (s'.heap.update kS (Obj.mapSeq fun _=>(#[]:Array Value))) a (Obj.mapSeq fun _=>(arrOf st).map (·.2))
   obtain⟨c2,hc2⟩ : ∃c2,((s'.heap.update kS (Obj.mapSeq fun _=>(#[]:Array Value))).update a (Obj.mapSeq fun _=>(arrOf st).map (·.2))).get? a=some (seqObj "list" ((arrOf st).map (·.2)) c2):=⟨_,get?_update_seq na1 fun _=>(arrOf st).map (·.2)⟩
   have IA:Inv X pins σ (upd H a (.lst ms)) { s' with heap:=(s'.heap.update kS (Obj.mapSeq fun _=>(#[]:Array Value))).update a (Obj.mapSeq fun _=>(arrOf st).map (·.2)),toks:=s'.toks }:=by
    refine I'.adopt (ch:=[kS,a]) (fun b o hb q=>?_) fp2 (by simp) ?_
    ·exact(s2'.2 b (fun z=>hb (by simp[z]))).trans ((s1'.2 b (fun z=>hb (by simp[z]))).trans q)
    ·have m1':Vals ms ((arrOf st).map (fun x=>x.2)).toList:=by rw[Array.toList_map];exact m1
     refine⟨by rw[m2.length_eq,nl];omega,((arrOf st).map (fun x=>x.2)).toList,c2,m1',?_⟩
     rw[Array.toArray_toList]
     exact hc2
   generalize hh9:(s'.heap.update kS (Obj.mapSeq fun _=>(#[]:Array Value))).update a (Obj.mapSeq fun _=>(arrOf st).map (·.2))=h9 at IA
   unfold ksk_tail
   try dsimp only
   refine wpAny_bind (listUpdate_at hk rfl ?_ (by rw[hsz];omega) (Nat.zero_le _))
   refine wpAny_bind (wpAny_letGo ?_)
   refine wpAny_bind (seqEpoch_at na1 rfl ?_)
   refine wpAny_bind (listUpdate_at na1 rfl ?_ (Nat.zero_le _) (Nat.le_trans (Nat.le_of_eq (by simpa using hout)) (Nat.le_succ_of_le (Nat.le_of_lt (Nat.lt_of_le_of_lt hv hline)))))
   rw[hfl]
   simp only[bne_self_eq_false,Bool.false_eq_true,if_false]
   rw[hh9]
   exact wpAny_pure (hZ _ ms m2 m3 IA)
  by_cases h2:vs.toArray.size<2
  ·rw[if_neg (by decide),if_pos h2,if_pos h2]
   refine wpAny_bind (wpAny_pure ?_)
   rw[StateT.run_pure]
   refine wpAny_bind (wpAny_pure ?_)
   try dsimp only
   refine tail (SortSt.mk' general' (kA.zip vs.toArray) #[] 7 none) (Array.Perm.refl _) ?_ rfl
   intro i j hij hj
   have hj2:j <(kA.zip vs.toArray).size:=hj
   rw[hzs]at hj2
   rw[List.size_toArray]at h2
   have:i=j:=by omega
   subst this
   exact Int.le_refl _
  ·rw[if_neg (by decide),if_neg h2,if_neg h2]
   rw[List.size_toArray]at h2
   rw[ksk_kind hks (by rw[hsz];omega)]
   refine wpAny_bind (wpAny_pure ?_)
   have a0S:∀x∈(kA.zip vs.toArray).toList,isI x:=ksk_intKeys hks
   refine wpAny_bind (wpAny_mono (wpS_sortB ordI ltOkI (st:=SortSt.mk' oneType' (kA.zip vs.toArray) #[] 7 none) (a0:=(kA.zip vs.toArray).toList) (Q:=fun _ st'=>(arrOf st').toList.Perm (kA.zip vs.toArray).toList∧(arrOf st').toList.Pairwise (leB ltI)∧failedOf st'=none) rfl rfl rfl rfl a0S fun st' b1 b2 b3=>⟨b1,b2,b3⟩) ?_ fun _ _ e=>e)
   rintro⟨⟨⟩,st'⟩ s'' ⟨rfl,b1,b2,b3⟩
   try dsimp only
   exact tail st' (Array.perm_iff_toList_perm.mpr b1) (riseK b2 _ rfl) b3
end
section
variable {X:Cx}{pins:List (Addr×Obj)}{σ:St}{H:Hp}{s:Shared}{E:Value→Shared→Prop}
theorem sorted_tailV {vs:List Value}{ns:List V}{f:Addr}{κ:V→Int}{Z:Fin→Shared→Prop}(I:Inv X pins σ H s) (hI:Vals ns vs) (hv:vs.length≤100000)
  (turn:∀(z:V) (u:Value) (pins':List (Addr×Obj)) (s':Shared),z∈ns→RelV z u→Inv X pins' σ H s'→wpAny (model X.prog X.w) X.A.in1.in1 (call (.ref f) [u]) (fun r s''=>(∃t',r = .int (κ z) t')∧Inv X pins' σ H s'') (fun _ _=>False) s')
  (hZ:∀(s':Shared) (l:Addr) (ms:List V),H l=none→ms.Perm ns→ms.Pairwise (fun x y=>κ x≤κ y)→Inv X pins σ (upd H l (.lst ms)) s'→Z (.done (.ret (.ref l))) s') :
  wpAny (model X.prog X.w) X.A.in1 (do
   let l ← newList vs
   let _ ← holding [l] (call (.builtin "list.sort") [l] [(Str.ofString "key",.ref f)])
   ret l) Z E s:=by
 have hline:(100000:Nat)<sizeLine:=by decide
 refine wpAny_bind (wpAny_newList ?_ (by omega))
 have at1:(s.heap.push (seqObj "list" vs.toArray 0)).get? s.heap.objs.size=some (seqObj "list" vs.toArray 0):=Heap.get?_push_size _ rfl
 have I1:Inv X pins σ H { s with heap:=s.heap.push (seqObj "list" vs.toArray 0) }:=I.kept (t':=s.toks) fun b o e=>Heap.get?_push_of_some _ e
 have hfa:=I.fpOk (Nat.le_refl _) (I.hok.fresh (Nat.le_refl _))
 refine wpAny_bind (wpAny_holding (wpAny_call_entry_kw slot_list_sort ⟨_,at1,rfl⟩ entry_list_sort ?body (ksk_l1 _ _)))
 case body =>
  show wpAny (model X.prog X.w) X.A.in1.in1 (Builtin.«list.sort» ⟨[.ref s.heap.objs.size],[(Str.ofString "key",.ref f)]⟩) _ _ _
  rw[ksk_t1]
  refine lsort_keyV I1 at1 hfa hI hv turn fun s' ms m1 m2 I2=>⟨_,rfl,wpAny_pure (hZ s' _ ms (I.hok.fresh (Nat.le_refl _)) m1 m2 I2)⟩
end
section
variable {X:Cx}{e body:Expr}{t:TA}{te:TE}{k:Nat}{p kpos pos lpos:Pos}{params:Arguments}{scope:Scope}{y:Str}{fs:List Str}{js:List Nat}{P c:Addr}
def tSortLV (K:PySem.W.Frag) (P:Addr) (lpos:Pos) (qual:Str) (js:List Nat) (te:TE) (t:TA):TE:=fun σ H Q=>t σ H fun vs H1=>∃(a:Addr) (ns:List V) (κ:V→Int),vs=[.ref a]∧SqL K H1 a ns∧ns.length≤100000∧Tb P lpos qual H1 ∧
 ∀H2,Sm H1 H2→Tb P lpos qual H2→(∀z∈ns,∀R:VK,R (.int (κ z)) H2→te (lamSt z js σ) H2 R)∧∀(ms:List V) (l:Addr),ms.Perm ns→ms.Pairwise (fun x y=>κ x≤κ y)→H2 l=none→Q (.ref l) (upd H2 l (.lst ms))
theorem rd_sortLamV {K:PySem.W.Frag}{P:Addr}{lpos:Pos}{qual:Str}{js:List Nat}{te:TE}{t:TA}{σ:St}{H:Hp}{Q:VK}(h:t σ H fun vs H1=>∃(a:Addr) (ns:List V) (κ:V→Int),vs=[.ref a]∧SqL K H1 a ns∧ns.length≤100000∧Tb P lpos qual H1 ∧
 ∀H2,Sm H1 H2→Tb P lpos qual H2→(∀z∈ns,∀R:VK,R (.int (κ z)) H2→te (lamSt z js σ) H2 R)∧∀(ms:List V) (l:Addr),ms.Perm ns→ms.Pairwise (fun x y=>κ x≤κ y)→H2 l=none→Q (.ref l) (upd H2 l (.lst ms))):tSortLV K P lpos qual js te t σ H Q:=h
theorem pe_sortLV (B:LamOk X scope y fs js) (hr:Room (k+3) X.A) (hg:Gl X "sorted") (hm:X.mg "sorted" = none) (hcl:X.calm=true) (ha:PA X [e] t)
  (hdef:defaultsOf params X.env =([],[])) (hcode:X.env.code = .ref c) (C:PySem.W.codeHdIn X.K c P=true) (BB:BM X.mg X.base)
  (hb:∀(L f c:Addr) (s:Shared) (H:Hp),PE (cxLam X scope (y::fs) L f c s H) body te)
  (hbind:∀(pm cv ct:Value) (u:Value),bindArgs (PySem.W.kla_fn "<lambda>" (X.env.qual ++ "<lambda>") params body scope (clOf X.env scope.names []) pm cv ct) ⟨[u],[]⟩=pure [(y,u)])
  (he:backTo pos (starEach [e] X.env) =(false,eval e X.env)::backTo pos (starEach [] X.env):=by rfl) (hpl:(backTo pos (starEach [e] X.env)).any (·.1)=false:=by rfl)
  (hs:(backToKw pos (keywordEach [⟨some "key",.Lambda params body scope lpos,kpos⟩] X.env)).filterMap (·.1)=[Str.ofString "key"]:=by rfl) (hall:(backToKw pos (keywordEach [⟨some "key",.Lambda params body scope lpos,kpos⟩] X.env)).all (·.1.isSome)=true:=by rfl)
  (hkw:(backToKw pos (keywordEach [⟨some "key",.Lambda params body scope lpos,kpos⟩] X.env)).any (·.1.isNone)=false:=by rfl) :
  PE X (.Call (.Name "sorted" p) [e] [⟨some "key",.Lambda params body scope lpos,kpos⟩] pos) (tSortLV X.K P lpos (X.env.qual ++ "<lambda>") js te t):=by
 intro pins s σ H Q I h
 refine wpAny_Call_Name_kw (ld_blt I hg hm bt_sorted ?_)
 refine PyProof.Rows.callWith_kw (thn (ha pos pins s σ H _ I h) fun us s1 ⟨vs,H1,I1,r1,q1⟩=>?_) he hpl hall hkw
 obtain⟨a,ns,κ,rfl,hsrc,hn,tb1,q⟩:=q1
 refine thn ((pk_cons (pe_lam hdef B.free hcode C BB) pk_nil) pos pins s1 σ H1 (fun zs H2=>∃f c ctv,zs=[.ref f]∧Sm H1 H2∧Tb P lpos (X.env.qual ++ "<lambda>") H2∧H2 f=some (FnO f (lamObj X params body scope c ctv))∧H2 c=some (CodeO c (X.env.qual ++ "<lambda>"))) I1
  ⟨tb1,fun f c ctv H2 s2 t2 _ e1 e2=>⟨f,c,ctv,rfl,s2,t2,e1,e2⟩⟩) fun ws s2 ⟨zs,H2,I2,rz,f,c',ctv,ez,sm2,tb2,ef,ec⟩=>?_
 subst ez
 obtain⟨w1,rfl,rw1⟩:=vals1 rz
 cases (show w1=Value.ref f from rw1)
 rw[hs]
 obtain⟨hte,q⟩:=q H2 sm2 tb2
 obtain⟨u,rfl,ru⟩:=vals1 r1
 cases (show u=Value.ref a from ru)
 show wpAny (model X.prog X.w) X.A (call (.builtin "sorted") [.ref a] [(Str.ofString "key",.ref f)]) _ _ s2
 refine call_function_entry_kw kind_sorted plain_sorted entry_sorted (ksk_s1 _ _) ?_
 unfold Builtin.«sorted»
 refine wpAny_bind (m:=checkCount "sorted" 1 1 _) (wpAny_pure ?_)
 have turn:∀(z:V) (u:Value) (pins':List (Addr×Obj)) (s':Shared),z∈ns→RelV z u→Inv X pins' σ H2 s'→wpAny (model X.prog X.w) X.A.in1.in1 (call (.ref f) [u]) (fun r s''=>(∃t',r = .int (κ z) t')∧Inv X pins' σ H2 s'') (fun _ _=>False) s':=fun z u pins' s' hz rz I'=>by
  refine wpAny_mono (lam_run (Q:=fun x H'=>x = .int (κ z)∧H'=H2) (v:=z) B hr hb hbind I' ef ec rz (hte z hz _ ⟨rfl,rfl⟩)) (fun r s'' hr'=>?_) fun _ _ e=>e
  obtain⟨x,H',I'',rx,rfl,rfl⟩:=hr'
  exact⟨rx,I''⟩
 have hline:(100000:Nat)<sizeLine:=by decide
 have fin:∀(s':Shared) (l:Addr) (ms:List V),H2 l=none→ms.Perm ns→ms.Pairwise (fun x y=>κ x≤κ y)→Inv X pins σ (upd H2 l (.lst ms)) s'→∃v,Fin.done (Flow.ret (.ref l)) = .done (.ret v)∧EP X pins σ Q v s':=fun s' l ms nl m1 m2 I'=>⟨_,rfl,.ref l,_,I',rfl,q ms l m1 m2 nl⟩
 obtain⟨its,rv,pl,hz⟩:=I2.list (sm2.seq hsrc)
 have il:its.length≤100000:=by rw[← rv.length];exact hn
 refine wpAny_bind (collect_list pl.isList ?_ (by omega))
 have I3:Inv X pins σ H2 { s2 with heap:=(s2.heap.push (seqObj "list" #[] 0)).update s2.heap.objs.size (Obj.mapSeq (· ++ its.toArray)) } :=
  I2.kept (t':=s2.toks) fun b o e=>by
   have hlt:b<s2.heap.objs.size:=Heap.lt_size e
   rw[Heap.get?_update_ne _ _ _ _ (Nat.ne_of_lt hlt),Heap.get?_push_ne _ _ _ (Nat.ne_of_lt hlt)]
   exact e
 exact sorted_tailV I3 rv il turn fin
end
end L2
namespace PySem.SeqAt
open AutoSeq1 (wpAny_loadPart')
open MeetsSeq
end PySem.SeqAt
namespace L2
open PySem PySem.Spec PyProof.Rows
section
variable {X:Cx}
end
end L2
namespace L2
open PySem PySem.Spec PyProof.Rows
section
variable {X:Cx}
end
end L2
namespace L2
open PySem PySem.Spec PyProof.Rows
section
variable {X:Cx}
open PySem.Builtin PySem.Builtin.Str in
end
section
variable {X:Cx}
end
abbrev TF:=St→Hp→Str→VK→Prop
section
variable {X:Cx}{e e1 e2:Expr}{es:List Expr}{te:TE}{t:TF}{pos:Pos}
end
section
variable {prog:Program}{w:World}{A:Around}{E:Value→Shared→Prop}{s:Shared}
end
section
variable {X:Cx}{pos:Pos}
end
end L2
namespace L2
open PySem PySem.Spec PyProof.Rows
section
variable {prog:Program}{w:World}{A:Around}{E:Value→Shared→Prop}{s:Shared}
section
variable {z TI TO i1 i2:Addr}{o1 o2:List Addr}{S1 S2:Nat→Heap→Prop}{v1 v2:Nat→Option Value}{k:Nat}
end
end
section
variable {X:Cx}{elts:List Expr}{x1:_}{tpos:Pos}
def iSeq (K:PySem.W.Frag) (tl:TE):TI:=fun σ H R=>tl σ H fun x H1=>∃a,x = .ref a∧(((∃xs,SqL K H1 a xs)∧R (Itl K a) H1) ∨((∃xs,SqT K H1 a xs)∧R (Itt K a) H1))
theorem pi_seq {tg l:Expr}{tl:TE}(hl:PE X l tl):PI X tg l (iSeq X.K tl):=by
 intro pins s σ H R I h
 refine thn (hl pins s σ H _ I h) fun v s1 ⟨x,H1,I1,r1,q1⟩=>?_
 obtain⟨a,rfl,q1⟩:=q1
 cases r1
 have fp:∀b ∈ [s1.heap.objs.size],FpOk X pins H1 b:=fun b hb=>by
  have e:b=s1.heap.objs.size:=by simpa using hb
  subst e
  exact I1.fpOk (Nat.le_refl _) (I1.hok.fresh (Nat.le_refl _))
 rcases q1 with⟨⟨xs,hq⟩,q⟩|⟨⟨xs,hq⟩,q⟩
 ·obtain⟨its,rv,p,hz⟩:=I1.list hq
  refine wpAny_pyIter_list p.isList ?_
  exact⟨s1.heap.objs.size,[s1.heap.objs.size],_,_,H1,rfl,I1.kept (t':=s1.toks) fun b o e=>Heap.get?_push_of_some _ e,turn_list a _,⟨_,Heap.get?_push_size _ rfl,rfl,rfl⟩,fp,q⟩
 ·obtain⟨its,rv,p,hz⟩:=I1.tuple hq
  refine wpAny_pyIter_tuple (show s1.heap.IsTuple a its.toArray from p) ?_
  exact⟨s1.heap.objs.size,[s1.heap.objs.size],_,_,H1,rfl,I1.kept (t':=s1.toks) fun b o e=>Heap.get?_push_of_some _ e,turn_tuple a _,⟨_,Heap.get?_push_size _ rfl,rfl,rfl⟩,fp,q⟩
theorem rd_iseq {K:PySem.W.Frag}{tl:TE}{σ:St}{H:Hp}{R:It→Hp→Prop}(h:tl σ H fun x H1=>∃a,x = .ref a∧(((∃xs,SqL K H1 a xs)∧R (Itl K a) H1) ∨((∃xs,SqT K H1 a xs)∧R (Itt K a) H1))):iSeq K tl σ H R:=h
end
section
variable {K:PySem.W.Frag}{H:Hp}{Q:VK}{σ:St}
end
end L2
namespace L2
open PySem PySem.Spec PyProof.Rows
section
variable {X:Cx}{o lo hi:Expr}{to:TE}{tl th:TO}{pos p2:Pos}
def gSlS (to:TE) (tl th:TO):TG:=fun v σ H Q=>to σ H fun x H1=>tl σ H1 fun a H2=>th σ H2 fun c H3=>∃l b xs ys i j,x = .ref l∧v = .ref b∧a=some i∧c=some j∧H3 l=some (.lst xs)∧H3 b=some (.lst ys)∧l≠b∧0≤i∧i≤j∧j ≤(xs.length:Int)∧xs.length+ys.length≤sizeLine∧Q σ (upd H3 l (.lst (xs.take i.toNat++ys++xs.drop j.toNat)))
theorem pg_slset (ho:PE X o to) (hl:PO X (some lo) tl) (hh:PO X (some hi) th)
  (ha:∀v,assign (.Subscript o (.Slice (some lo) (some hi) none p2) pos) X.env v =(do
   let ov ← holding [v] (eval o X.env)
   let iv ← holding [v,ov] (eval (.Slice (some lo) (some hi) none p2) X.env)
   standAt pos
   holding [v,ov,iv] (setItem ov iv v)
   release [iv,v,ov] []):=by intro _;rfl):PG X (.Subscript o (.Slice (some lo) (some hi) none p2) pos) (gSlS to tl th):=by
 intro pins s σ H v u Q I r h
 rw[ha]
 refine wpAny_bind (wpAny_holding (thn (ho pins s σ H _ I h) fun ov s1 ⟨x,H1,I1,r1,q1⟩=>?_))
 refine wpAny_bind (wpAny_holding ?_)
 refine wpAny_Slice (thn (hl pins s1 σ H1 _ I1 q1) fun vl s2 ⟨a,H2,I2,pl,q2⟩=>thn (hh pins s2 σ H2 _ I2 q2) fun vu s3 ⟨c,H3,I3,pu,q3⟩=>?_)
 rw[evalPart_none]
 refine wpAny_pure ?_
 obtain⟨l,b,xs,ys,i,j,rfl,rfl,rfl,rfl,h1,h2,h3,h4,h5,h6,h7,q⟩:=q3
 cases r1
 cases r
 have I4:Inv X pins σ H3 { s3 with heap:=s3.heap.push { cls:=.type "slice",data:=.fields #[vl,vu,.none] } }:=I3.kept (t':=s3.toks) fun b ob q=>Heap.get?_push_of_some _ q
 cases pl with
 | int _ t1 =>
  cases pu with
  | int _ t2 =>
   refine wpAny_bind (wpAny_standAt (wpAny_bind (wpAny_holding (set_slice I4 h1 h2 h3 (Heap.IsSliceOf.new ..) ⟨t1,rfl⟩ ⟨t2,rfl⟩ h4 h5 h6 h7 fun s' I'=>?_))))
   exact wpAny_release ⟨σ,_,I',q⟩
theorem rd_slset {v:V}{σ:St}{H:Hp}{Q:St→Hp→Prop}(h:to σ H fun x H1=>tl σ H1 fun a H2=>th σ H2 fun c H3=>∃l b xs ys i j,x = .ref l∧v = .ref b∧a=some i∧c=some j∧H3 l=some (.lst xs)∧H3 b=some (.lst ys)∧l≠b∧0≤i∧i≤j∧j ≤(xs.length:Int)∧xs.length+ys.length≤sizeLine∧Q σ (upd H3 l (.lst (xs.take i.toNat++ys++xs.drop j.toNat)))):gSlS to tl th v σ H Q:=h
end
theorem dict_ne0 (d:Addr) (ep:Nat) (hs:(d == sysModules)=false) :
  Meets (Builtin.«dict.__ne__» ⟨[.ref d,.ref d],[]⟩) (fun _ R s=>s.heap.get? d=some { cls:=.type "dict",dict:=none,data:=.dict #[] ep,slots:=#[] }∧R (.ok (.ret (.bool false))) s) :=
 .of_wp fun prog w A R s h=>by
  obtain⟨hp,g,d',tk,os⟩:=s;obtain⟨hl,h⟩:=h
  have f1:=F.sub_dict_dict
  wp_walk using wpAny_loadPart' hl,wpAny_load hl
  refine wpAny_of_eq (a:=(none,())) (forIn0 _ _) ?_
  exact wpAny_pure (wpAny_pure ⟨_,rfl,h⟩)
section
variable {X:Cx}
def rNeW (K:PySem.W.Frag):R2:=fun x y H Q=>(∃p,x = .ref p∧y = .ref p∧H p=some (.dK [])∧Q (.bl false) H)∨rNeD K x y H Q
theorem op_neW (hu:X.A.units+64<cLine):OpR X (compareOp .NotEq) (rNeW X.K):=by
 intro pins s σ H x y v u Q I rx ry h
 rcases h with⟨p,rfl,rfl,hD,q⟩|h
 ·cases rx
  cases ry
  obtain⟨hz,lo,vs,rk,o,es,ep,h1,h2,h3,h4,h5,h6⟩ : ([]:List (Key×V)).length≤sizeLine∧(p == sysModules)=false∧∃vs,KV [] vs∧s.heap.DictOf (mixKind X.prog X.w) p vs:=I.hok p _ hD
  have e0:vs=[]:=List.eq_nil_of_length_eq_zero (Paired.length rk).symm
  subst e0
  have e1:es.toList=[]:=List.eq_nil_of_length_eq_zero (by have:=h5.length;simpa using this)
  have e2:es = #[]:=Array.toList_inj.mp e1
  obtain⟨cls,dd,dat,sl⟩:=o
  obtain⟨c1,c2,c3⟩:=h2
  simp only at c1 c2 c3 h3
  subst c1 c2 c3 h3 e2
  exact richCompare_meets_room (op:=.NotEq) ⟨_,h1,rfl⟩ ⟨_,h1,rfl⟩ F.slot_dict_ne F.entry_dict_ne (F.args_dict_ne_2 _ _) (dict_ne0 p ep lo)
   ⟨h1,show Value.bool false≠Value.notImplemented∧EP X pins σ Q (.bool false) s from⟨(fun x=>nomatch x),⟨.bl _,H,I,rfl,q⟩⟩⟩ (by omega)
 ·exact op_neD hu pins s σ H x y v u Q I rx ry h
end
end L2
set_option maxHeartbeats 4000000
local macro_rules | `(tactic| walk_at"rdc")=>`(tactic| first
  | (show (0:Int) < _; omega)
  | (show (0:Int) ≤ _; omega)
  | (show (0:Int) < _∧_ < 2 ^ 100; omega)
  | (show (-(2 ^ 64) < _∧_ < 2 ^ 64) ∨ (-(2 ^ 64) < _∧_ < 2 ^ 64); omega)
  | (show (0:Int) ≤ _∧_ ≤ 1000000∧Int.natAbs _ < 2 ^ 64; omega))
local macro_rules | `(tactic| walk_at"rd1")=>`(tactic| first
  | (with_reducible refine' L2.rd_allN (fun _ _=>?_)) | (with_reducible refine' L2.rd_seqO (fun _ _=>?_)) | (with_reducible refine' L2.rd_asg ?_) | ((with_reducible refine' L2.rd_gname ?_); (try dsimp only [List.set_cons_zero,List.set_cons_succ])) | (with_reducible refine' L2.rd_ret ?_) | (with_reducible refine' L2.rd_retN ?_) | (with_reducible refine' L2.rd_next ?_) | (with_reducible refine' L2.rd_drop ?_) | (with_reducible refine' L2.rd_ifSO (fun _ _ _ _=>?_))
  | (with_reducible refine' L2.rd_op ?_) | (with_reducible refine' L2.rd_un ?_) | (with_reducible refine' L2.rd_c ?_) | ((with_reducible refine' L2.rd_var ?rdv ?_); (case rdv=>rfl))
  | (with_reducible refine' L2.rd_I0 ?_) | (with_reducible refine' L2.rd_U ?_) | (with_reducible refine' L2.rd_eqI ?_) | (with_reducible refine' L2.rd_neI ?_) | (with_reducible refine' L2.rd_eqB ?_) | (with_reducible refine' L2.rd_neB ?_)
  | (with_reducible refine' L2.rd_test ?_) | (with_reducible refine' L2.rd_tB ?_) | (with_reducible refine' L2.rd_and ?_) | (with_reducible refine' L2.rd_or ?_) | (with_reducible refine' L2.rd_not ?_) | (with_reducible refine' L2.rd_andV ?_) | (with_reducible refine' L2.rd_orV ?_) | (with_reducible refine' L2.rd_notV ?_) | (with_reducible refine' L2.rd_chain ?_) | (with_reducible refine' L2.rd_ifE ?_)
  | (with_reducible refine' L2.rd_nil ?_) | (with_reducible refine' L2.rd_cons ?_) | (with_reducible refine' L2.rd_call ?_) | (with_reducible refine' L2.rd_cb ?_) | (with_reducible refine' L2.rd_lst ?_) | (with_reducible refine' L2.rd_tup ?_) | (with_reducible refine' L2.rd_bm0 ?_) | (with_reducible refine' L2.rd_bm ?_) | (with_reducible refine' L2.rd_augS ?_) | ((with_reducible refine' L2.rd_ip ?_); (try dsimp only [List.set_cons_zero,List.set_cons_succ])) | ((with_reducible refine' L2.rd_aug ?rdv ?_); (case rdv=>rfl)) | (with_reducible refine' L2.rd_izip ?_) | (with_reducible refine' L2.rd_ivals ?_) | (with_reducible refine' L2.rd_dget2 ?_) | (with_reducible refine' L2.rd_dput ?_) | (with_reducible refine' L2.rd_dget ?_) | (with_reducible refine' L2.rd_dnewK ?_) | (with_reducible refine' L2.rd_sortK ?_) | (with_reducible refine' L2.rd_sortLam ?_) | (with_reducible refine' L2.rd_orG ?_) | (with_reducible refine' L2.rd_isB ?_) | (with_reducible refine' L2.rd_gsub ?_) | (with_reducible refine' L2.rd_meth ?_) | (with_reducible refine' L2.rd_make ?_) | (with_reducible refine' L2.rd_fld ?_) | (with_reducible refine' L2.rd_sfld ?_) | (with_reducible refine' L2.rd_din ?_) | (with_reducible refine' L2.rd_dnin ?_) | (with_reducible refine' L2.rd_idict ?_) | (with_reducible refine' L2.rd_dpop ?_) | (with_reducible refine' L2.rd_raise ?_) | (with_reducible refine' L2.rd_sortLamV ?_) | (with_reducible refine' L2.rd_xat ?_)
  | (with_reducible refine' L2.rd_sl ?_) | (with_reducible refine' L2.rd_nop ?_) | (with_reducible refine' L2.rd_part ?_) | (with_reducible refine' L2.rd_bl ?_) | (with_reducible refine' L2.rd_int ?_)
  | (with_reducible refine' L2.rd_iteT ?_) | (with_reducible refine' L2.rd_iteF ?_) | (with_reducible refine' L2.rd_iteNF ?_) | (with_reducible refine' L2.rd_iteNT ?_)
  | (with_reducible refine' L2.rd_forO (fun _ _=>?_)) | (with_reducible refine' L2.rd_rng1 ?_) | (with_reducible refine' L2.rd_rng2 ?_) | (with_reducible refine' L2.rd_ilist ?_) | (with_reducible refine' L2.rd_comp ?_) | (with_reducible refine' L2.rd_yes ?_)
  | (with_reducible refine' L2.rd_itup ?_) | (with_reducible refine' L2.rd_istr ?_) | (with_reducible refine' L2.rd_leS ?_) | (with_reducible refine' L2.rd_inS ?_)
  | (with_reducible refine' L2.rd_abs ?_) | (with_reducible refine' L2.rd_max ?_) | (with_reducible refine' L2.rd_min ?_) | (with_reducible refine' L2.rd_bitlen ?_)
  | (with_reducible refine' L2.rd_tF ?_) | (with_reducible refine' L2.rd_tfV ?_) | (with_reducible refine' L2.rd_izip2 ?_) | (with_reducible refine' L2.rd_iseq ?_)
  | (with_reducible refine' L2.rd_rev ?_) | (with_reducible refine' L2.rd_ienum ?_) | (with_reducible refine' L2.rd_intB ?_)
  | ((with_reducible refine' L2.rd_ixL (L2.SqL.of ?rdh) ?rde ?_); (case rdh=>assumption); (case rde=>rfl))
  | ((with_reducible refine' L2.rd_set0 ?rdh ?_); (case rdh=>assumption))
  | ((with_reducible refine' L2.rd_set1 ?rdh ?_); (case rdh=>assumption))
  | ((with_reducible refine' L2.rd_setL ?rdh ?rde ?_); (case rdh=>assumption); (case rde=>rfl))
  | ((with_reducible refine' L2.rd_ixT (L2.SqT.of ?rdh) ?rde ?_); (case rdh=>assumption); (case rde=>rfl))
  | ((with_reducible refine' L2.rd_lenL (L2.SqL.of ?rdh) ?_); (case rdh=>assumption))
  | ((with_reducible refine' L2.rd_I ?rdc ?_); (case rdc=>walk_at"rdc"))
  | ((with_reducible refine' L2.rd_tx ?rdt ?_); (case rdt=>assumption); (try dsimp only [List.set_cons_zero,List.set_cons_succ]))
  | (dsimp only; (with_reducible refine' L2.rd_tx ?rdt ?_); (case rdt=>assumption); (try dsimp only [List.set_cons_zero,List.set_cons_succ]))
  | ((with_reducible refine' L2.rd_isN ?rdt ?_); (case rdt=>assumption); (try dsimp only))
  | (dsimp only; (with_reducible refine' L2.rd_isN ?rdt ?_); (case rdt=>assumption); (try dsimp only)))
local macro_rules | `(tactic| walk_at"rd")=>`(tactic| repeat walk_at"rd1")
local macro_rules | `(tactic| walk_at"lk")=>`(tactic| first | k_is | ((refine' L2.Ga.mk ?lka ?lkl ?lkc ?lkk); (case lka=>k_is); (case lkl=>k_is); (case lkc=>k_is); (case lkk=>k_is)) | ((refine' L2.Ga2.mk ?lka ?lkb ?lkl ?lkc ?lkk); (case lka=>k_is); (case lkb=>k_is); (case lkl=>k_is); (case lkc=>k_is); (case lkk=>k_is)) | ((refine' L2.Me.mk ?lka ?lkb ?lkl ?lkc ?lkk); (case lka=>k_is); (case lkb=>k_is); (case lkl=>k_is); (case lkc=>k_is); (case lkk=>k_is)))
namespace Law
open PySem PySem.Spec PyProof.Rows L2
def top (i:Nat):Stmt:=PySem.Challenge.pw_tailrooms_k75_walks_looked_at.main.body.getD i (.Pass ⟨0,0,0,0⟩)
abbrev s_turned:Stmt:=top 2
abbrev s_is_whole:Stmt:=top 4
abbrev s_between:Stmt:=top 7
abbrev s_is_walk:Stmt:=top 8
abbrev s_is_page:Stmt:=top 9
abbrev s_is_like_entry:Stmt:=top 10
abbrev s__law_open:Stmt:=top 12
abbrev s__law_draw:Stmt:=top 13
abbrev s__law_far:Stmt:=top 14
abbrev s__law_power:Stmt:=top 15
abbrev s__law_key:Stmt:=top 16
abbrev s__law_keys:Stmt:=top 17
abbrev s__law_thing:Stmt:=top 18
abbrev s__law_turned:Stmt:=top 19
abbrev s__law_places:Stmt:=top 20
abbrev s__law_pages:Stmt:=top 21
abbrev s__law_inside:Stmt:=top 22
abbrev s__law_shifted:Stmt:=top 23
abbrev s__law_spoilt:Stmt:=top 24
abbrev s__law_whole_number:Stmt:=top 25
abbrev s__law_is_entry:Stmt:=top 26
abbrev s__law_is_walk:Stmt:=top 27
abbrev s__law_kept:Stmt:=top 28
abbrev s_law:Stmt:=top 29
theorem sc_turned:FnScope ["key", "told", "place"] ["key"] (defScope s_turned):=⟨rfl,rfl,rfl,by decide +kernel,rfl,by decide +kernel,by decide +kernel⟩
theorem sc_is_whole:FnScope ["thing"] ["thing"] (defScope s_is_whole):=⟨rfl,rfl,rfl,by decide +kernel,rfl,by decide +kernel,by decide +kernel⟩
theorem sc_between:FnScope ["entries", "mark", "onward", "within"] ["entries", "mark", "onward"] (defScope s_between):=⟨rfl,rfl,rfl,by decide +kernel,rfl,by decide +kernel,by decide +kernel⟩
theorem sc_is_walk:FnScope ["entries", "thing", "mark", "told"] ["entries", "thing"] (defScope s_is_walk):=⟨rfl,rfl,rfl,by decide +kernel,rfl,by decide +kernel,by decide +kernel⟩
theorem sc_is_page:FnScope ["entries", "mark", "thing", "first", "own", "onward"] ["entries", "mark", "thing"] (defScope s_is_page):=⟨rfl,rfl,rfl,by decide +kernel,rfl,by decide +kernel,by decide +kernel⟩
theorem sc_is_like_entry:FnScope ["thing"] ["thing"] (defScope s_is_like_entry):=⟨rfl,rfl,rfl,by decide +kernel,rfl,by decide +kernel,by decide +kernel⟩
theorem sc__law_open:FnScope ["_law_script", "_law_place", "_law_cells", "_law_at", "_law_digits"] ["_law_script", "_law_place"] (defScope s__law_open):=⟨rfl,rfl,rfl,by decide +kernel,rfl,by decide +kernel,by decide +kernel⟩
theorem sc__law_draw:FnScope ["_law_hand", "_law_many", "_law_got", "_law_k", "_law_number"] ["_law_hand", "_law_many"] (defScope s__law_draw):=⟨rfl,rfl,rfl,by decide +kernel,rfl,by decide +kernel,by decide +kernel⟩
theorem sc__law_far:FnScope ["_law_hand", "_law_many", "_law_number", "_law_k"] ["_law_hand", "_law_many"] (defScope s__law_far):=⟨rfl,rfl,rfl,by decide +kernel,rfl,by decide +kernel,by decide +kernel⟩
theorem sc__law_power:FnScope ["_law_many", "_law_number", "_law_k"] ["_law_many"] (defScope s__law_power):=⟨rfl,rfl,rfl,by decide +kernel,rfl,by decide +kernel,by decide +kernel⟩
theorem sc__law_key:FnScope ["_law_hand", "_law_way", "_law_low"] ["_law_hand"] (defScope s__law_key):=⟨rfl,rfl,rfl,by decide +kernel,rfl,by decide +kernel,by decide +kernel⟩
theorem sc__law_keys:FnScope ["_law_hand", "_law_many", "_law_keys_here", "_law_k", "_law_key_here"] ["_law_hand", "_law_many"] (defScope s__law_keys):=⟨rfl,rfl,rfl,by decide +kernel,rfl,by decide +kernel,by decide +kernel⟩
theorem sc__law_thing:FnScope ["_law_hand", "_law_letters"] ["_law_hand"] (defScope s__law_thing):=⟨rfl,rfl,rfl,by decide +kernel,rfl,by decide +kernel,by decide +kernel⟩
theorem sc__law_turned:FnScope ["_law_key_here", "_law_mark", "_law_k"] ["_law_key_here"] (defScope s__law_turned):=⟨rfl,rfl,rfl,by decide +kernel,rfl,by decide +kernel,by decide +kernel⟩
theorem sc__law_places:FnScope ["_law_script", "_law_least", "_law_most"] ["_law_script", "_law_least", "_law_most"] (defScope s__law_places):=⟨rfl,rfl,rfl,by decide +kernel,rfl,by decide +kernel,by decide +kernel⟩
theorem sc__law_pages:FnScope ["_law_hand", "_law_entries", "_law_some", "_law_marks", "_law_k", "_law_way", "_law_mark", "_law_ends", "_law_pages_here", "_law_first", "_law_end", "_law_inside_here"] ["_law_hand", "_law_entries"] (defScope s__law_pages):=⟨rfl,rfl,rfl,by decide +kernel,rfl,by decide +kernel,by decide +kernel⟩
theorem sc__law_inside:FnScope ["_law_hand", "_law_leaf", "_law_mark", "_law_inside_here", "_law_end", "_law_way", "_law_some", "_law_at", "_law_key_here", "_law_thing_here", "_law_odd"] ["_law_hand", "_law_leaf"] (defScope s__law_inside):=⟨rfl,rfl,rfl,by decide +kernel,rfl,by decide +kernel,by decide +kernel⟩
theorem sc__law_shifted:FnScope ["_law_one", "_law_other", "_law_way"] ["_law_one", "_law_other", "_law_way"] (defScope s__law_shifted):=⟨rfl,rfl,rfl,by decide +kernel,rfl,by decide +kernel,by decide +kernel⟩
theorem sc__law_spoilt:FnScope ["_law_hand", "_law_pages_here", "_law_way", "_law_some", "_law_at", "_law_mark", "_law_inside_here", "_law_end", "_law_odd"] ["_law_hand", "_law_pages_here"] (defScope s__law_spoilt):=⟨rfl,rfl,rfl,by decide +kernel,rfl,by decide +kernel,by decide +kernel⟩
theorem sc__law_whole_number:FnScope ["_law_thing_here"] ["_law_thing_here"] (defScope s__law_whole_number):=⟨rfl,rfl,rfl,by decide +kernel,rfl,by decide +kernel,by decide +kernel⟩
theorem sc__law_is_entry:FnScope ["_law_entry"] ["_law_entry"] (defScope s__law_is_entry):=⟨rfl,rfl,rfl,by decide +kernel,rfl,by decide +kernel,by decide +kernel⟩
theorem sc__law_is_walk:FnScope ["_law_entries", "_law_thing_here", "_law_mark", "_law_one", "_law_some", "_law_due"] ["_law_entries", "_law_thing_here"] (defScope s__law_is_walk):=⟨rfl,rfl,rfl,by decide +kernel,rfl,by decide +kernel,by decide +kernel⟩
theorem sc__law_kept:FnScope ["_law_thing_here"] ["_law_thing_here"] (defScope s__law_kept):=⟨rfl,rfl,rfl,by decide +kernel,rfl,by decide +kernel,by decide +kernel⟩
theorem sc_law:FnScope ["_law_script", "_law_place", "_law_hand", "_law_entries", "_law_pages_here", "_law_things", "_law_thing_here", "_law_handed", "_law_kept_here", "_law_got"] ["_law_script"] (defScope s_law):=⟨rfl,rfl,rfl,by decide +kernel,rfl,by decide +kernel,by decide +kernel⟩
theorem st_turned (x0:V):start ["key", "told", "place"] [x0]=[some x0,none,none]:=rfl
theorem st_is_whole (x0:V):start ["thing"] [x0]=[some x0]:=rfl
theorem st_between (x0 x1 x2:V):start ["entries", "mark", "onward", "within"] [x0,x1,x2]=[some x0,some x1,some x2,none]:=rfl
theorem st_is_walk (x0 x1:V):start ["entries", "thing", "mark", "told"] [x0,x1]=[some x0,some x1,none,none]:=rfl
theorem st_is_page (x0 x1 x2:V):start ["entries", "mark", "thing", "first", "own", "onward"] [x0,x1,x2]=[some x0,some x1,some x2,none,none,none]:=rfl
theorem st_is_like_entry (x0:V):start ["thing"] [x0]=[some x0]:=rfl
theorem st__law_open (x0 x1:V):start ["_law_script", "_law_place", "_law_cells", "_law_at", "_law_digits"] [x0,x1]=[some x0,some x1,none,none,none]:=rfl
theorem st__law_draw (x0 x1:V):start ["_law_hand", "_law_many", "_law_got", "_law_k", "_law_number"] [x0,x1]=[some x0,some x1,none,none,none]:=rfl
theorem st__law_far (x0 x1:V):start ["_law_hand", "_law_many", "_law_number", "_law_k"] [x0,x1]=[some x0,some x1,none,none]:=rfl
theorem st__law_power (x0:V):start ["_law_many", "_law_number", "_law_k"] [x0]=[some x0,none,none]:=rfl
theorem st__law_key (x0:V):start ["_law_hand", "_law_way", "_law_low"] [x0]=[some x0,none,none]:=rfl
theorem st__law_keys (x0 x1:V):start ["_law_hand", "_law_many", "_law_keys_here", "_law_k", "_law_key_here"] [x0,x1]=[some x0,some x1,none,none,none]:=rfl
theorem st__law_thing (x0:V):start ["_law_hand", "_law_letters"] [x0]=[some x0,none]:=rfl
theorem st__law_turned (x0:V):start ["_law_key_here", "_law_mark", "_law_k"] [x0]=[some x0,none,none]:=rfl
theorem st__law_places (x0 x1 x2:V):start ["_law_script", "_law_least", "_law_most"] [x0,x1,x2]=[some x0,some x1,some x2]:=rfl
theorem st__law_pages (x0 x1:V):start ["_law_hand", "_law_entries", "_law_some", "_law_marks", "_law_k", "_law_way", "_law_mark", "_law_ends", "_law_pages_here", "_law_first", "_law_end", "_law_inside_here"] [x0,x1]=[some x0,some x1,none,none,none,none,none,none,none,none,none,none]:=rfl
theorem st__law_inside (x0 x1:V):start ["_law_hand", "_law_leaf", "_law_mark", "_law_inside_here", "_law_end", "_law_way", "_law_some", "_law_at", "_law_key_here", "_law_thing_here", "_law_odd"] [x0,x1]=[some x0,some x1,none,none,none,none,none,none,none,none,none]:=rfl
theorem st__law_shifted (x0 x1 x2:V):start ["_law_one", "_law_other", "_law_way"] [x0,x1,x2]=[some x0,some x1,some x2]:=rfl
theorem st__law_spoilt (x0 x1:V):start ["_law_hand", "_law_pages_here", "_law_way", "_law_some", "_law_at", "_law_mark", "_law_inside_here", "_law_end", "_law_odd"] [x0,x1]=[some x0,some x1,none,none,none,none,none,none,none]:=rfl
theorem st__law_whole_number (x0:V):start ["_law_thing_here"] [x0]=[some x0]:=rfl
theorem st__law_is_entry (x0:V):start ["_law_entry"] [x0]=[some x0]:=rfl
theorem st__law_is_walk (x0 x1:V):start ["_law_entries", "_law_thing_here", "_law_mark", "_law_one", "_law_some", "_law_due"] [x0,x1]=[some x0,some x1,none,none,none,none]:=rfl
theorem st__law_kept (x0:V):start ["_law_thing_here"] [x0]=[some x0]:=rfl
theorem st_law (x0:V):start ["_law_script", "_law_place", "_law_hand", "_law_entries", "_law_pages_here", "_law_things", "_law_thing_here", "_law_handed", "_law_kept_here", "_law_got"] [x0]=[some x0,none,none,none,none,none,none,none,none,none]:=rfl
abbrev lp_between:Pos:=⟨15,30,15,60⟩
abbrev TB_between (K:PySem.W.Frag) (H:Hp):Prop:=Tb (tbP K "between") lp_between (("between" : Str) ++ ".<locals>." ++ "<lambda>") H
structure Bl (mg:Str→Option Value):Prop where
 range:mg "range" = none
 isinstance:mg "isinstance" = none
 int:mg "int" = none
 bool:mg "bool" = none
 sorted:mg "sorted" = none
 list:mg "list" = none
 tuple:mg "tuple" = none
 len:mg "len" = none
 all:mg "all" = none
 abs:mg "abs" = none
 max:mg "max" = none
 min:mg "min" = none
 c_KEY_BITS:∃t,mg "KEY_BITS" = some (.int 60 t)
 c_END:∃t,mg "END" = some (.int 1152921504606846976 t)
structure Hand (H:Hp) (p:Addr) (N:Nat):Prop where
 ex:∃(l:Addr) (d c:Int) (ns:List Int),H p=some (.lst [.int d,.int c,.ref l])∧H l=some (.lst (ns.map V.int))∧0≤c∧c≤N∧ns ≠ []
theorem Hand.mono {H:Hp}{p:Addr}{N M:Nat}(h:Hand H p N) (hm:N≤M):Hand H p M:=by
 obtain⟨l,d,c,ns,h1,h2,h3,h4,h5⟩:=h.ex
 exact⟨l,d,c,ns,h1,h2,h3,by omega,h5⟩
def cellsOf (H:Hp) (p:Addr):Option Addr:=match H p with
 | some (.lst [_,_,.ref l])=>some l
 | _=>none
theorem cells_of {H:Hp}{p l:Addr}{a b:V}(h:H p=some (.lst [a,b,.ref l])):cellsOf H p=some l:=by unfold cellsOf;rw[h]
def Kp (H H':Hp) (p:Addr):Prop:=(∀b o,H b=some o→b≠p→H' b=some o)∧cellsOf H' p=cellsOf H p
theorem Kp.refl (H:Hp) (p:Addr):Kp H H p:=⟨fun _ _ h _=>h,rfl⟩
theorem Kp.trans {H H1 H2:Hp}{p:Addr}(a:Kp H H1 p) (b:Kp H1 H2 p):Kp H H2 p:=⟨fun c o h n=>b.1 c o (a.1 c o h n) n,b.2.trans a.2⟩
theorem Kp.hand {H:Hp}{p l:Addr}{a b a' b':V}(h:H p=some (.lst [a,b,.ref l])):Kp H (upd H p (.lst [a',b',.ref l])) p :=
 ⟨fun b u h n=>by rw[upd_ne n];exact h,by rw[cells_of upd_same,cells_of h]⟩
theorem Kp.of {H H':Hp}{p:Addr}{N:Nat}(h:Same H H') (hh:Hand H p N):Kp H H' p:=by
 obtain⟨l,d,c,ns,h1,_⟩:=hh.ex
 exact⟨fun b o q _=>h b o q,by rw[cells_of h1,cells_of (h _ _ h1)]⟩
theorem Kp.free {H H':Hp}{p l:Addr}(k:Kp H H' p) (n:H' l=none) (h:l≠p):H l=none:=by
 cases e:H l with
 | none=>rfl
 | some o=>rw[k.1 _ _ e h]at n;cases n
theorem Hand.upd {H:Hp}{p c:Addr}{N:Nat}{o:HO}(h:Hand H p N) (n:c≠p) (nl:cellsOf H p≠some c):Hand (L2.upd H c o) p N:=by
 obtain⟨l,d,k,ns,h1,h2,r⟩:=h.ex
 have ne:l≠c:=fun z=>nl (by rw[cells_of h1,z])
 exact⟨l,d,k,ns,by rw[upd_ne n.symm];exact h1,by rw[upd_ne ne];exact h2,r⟩
theorem cells_new {H:Hp}{p c:Addr}{N:Nat}(h:Hand H p N) (n:H c=none):cellsOf H p≠some c:=by
 obtain⟨l,d,k,ns,h1,h2,r⟩:=h.ex
 rw[cells_of h1]
 intro z
 exact ne_of_none h2 n (Option.some.inj z)
theorem cells_upd {H:Hp}{p c:Addr}{o:HO}(n:c≠p):cellsOf (L2.upd H c o) p=cellsOf H p:=by unfold cellsOf;rw[upd_ne n.symm]
theorem Hand.same {H H':Hp}{p:Addr}{N:Nat}(h:Hand H p N) (s:Same H H'):Hand H' p N:=by
 obtain⟨l,d,c,ns,h1,h2,r⟩:=h.ex
 exact⟨l,d,c,ns,s _ _ h1,s _ _ h2,r⟩
theorem nsMod {ns:List Int}(h:ns ≠ []) (k:Int):∃v,atI (ns.map V.int) (k%((ns.map V.int).length:Int))=some (.int v):=by
 have hl:0<ns.length:=List.length_pos_iff.mpr h
 rw[List.length_map]
 have h0:0≤k%(ns.length:Int):=Int.emod_nonneg _ (by omega)
 have h1:k%(ns.length:Int)<ns.length:=Int.emod_lt_of_pos _ (by omega)
 have ek:k%(ns.length:Int) =(((k%(ns.length:Int)).toNat:Nat):Int):=by omega
 have hk:(k%(ns.length:Int)).toNat<ns.length:=by omega
 obtain⟨j,hj⟩ : ∃j:Nat,k%(ns.length:Int) =(j:Int):=⟨_,ek⟩
 have hk2:j<ns.length:=by omega
 refine⟨ns[j],?_⟩
 rw[hj]
 exact atI_nat (by rw[List.getElem?_map,List.getElem?_eq_getElem hk2] <;> rfl)
theorem hand_ne {H:Hp}{p l:Addr}{d c:Int}{ns:List Int}(hp:H p=some (.lst [.int d,.int c,.ref l])) (hl:H l=some (.lst (ns.map V.int))):l≠p:=by
 refine ne_of hl hp fun z=>?_
 injection z with z
 have q:=congrArg (fun x=>x[2]?) z
 rw[List.getElem?_map]at q
 cases e:ns[2]? with
 | none=>rw[e]at q;cases q
 | some v=>rw[e]at q;cases q
theorem len_pos {ns:List Int}(h:ns ≠ []):(0:Int) <((ns.map V.int).length:Int):=by
 rw[List.length_map]
 have:=List.length_pos_iff.mpr h
 omega
theorem pow2_cast (a:Nat):(2:Int)^a =((2^a:Nat):Int):=by
 induction a with
 | zero=>rfl
 | succ a ih=>rw[Int.pow_succ,Nat.pow_succ,ih];push_cast;rfl
theorem pow2_le {a b:Nat}(h:a≤b):(2:Int)^a≤2^b:=by
 rw[pow2_cast,pow2_cast]
 exact Int.ofNat_le.mpr (Nat.pow_le_pow_right (by decide) h)
theorem pow2_pos (a:Nat):(0:Int)<2^a:=by
 rw[pow2_cast]
 have:=Nat.two_pow_pos a
 omega
theorem newo {H1 H2:Hp}{l:Addr}{o:HO}(n:H1 l=none) (e:L2.upd H1 l o=H2):H2 l=some o∧Same H1 H2:=by
 subst e;exact⟨upd_same,same_new n _⟩
theorem Hand.ne {H:Hp}{p l:Addr}{N:Nat}(hh:Hand H p N) (n:H l=none):l≠p:=by
 obtain⟨l1,d,c,ns,h1,_⟩:=hh.ex
 exact(ne_of_none h1 n).symm
structure CK (H0:Hp) (p D:Addr) (N:Nat) (ys:List V) (H':Hp):Prop where
 hh:Hand H' p N
 lat:H' D=some (.lst ys)
 kp:Kp H0 H' p
 n0:H0 D=none
 np:D≠p
 nc:cellsOf H0 p≠some D
theorem CK.start {H0:Hp}{p D:Addr}{N:Nat}(hh:Hand H0 p N) (n:H0 D=none) {ys:List V}:CK H0 p D N ys (L2.upd H0 D (.lst ys)) where
 hh:=hh.same (same_new n _)
 lat:=upd_same
 kp:=Kp.of (same_new n _) hh
 n0:=n
 np:=by
  obtain⟨l1,d,c,ns,h1,_⟩:=hh.ex
  exact(ne_of_none h1 n).symm
 nc:=cells_new hh n
theorem CK.draw {H0 H' H2:Hp}{p D:Addr}{N M:Nat}{ys:List V}(c:CK H0 p D N ys H') (k:Kp H' H2 p) (hh:Hand H2 p M):CK H0 p D M ys H2 :=
 ⟨hh,k.1 _ _ c.lat c.np,c.kp.trans k,c.n0,c.np,c.nc⟩
theorem CK.push {H0 H':Hp}{p D:Addr}{N:Nat}{ys zs:List V}(c:CK H0 p D N ys H'):CK H0 p D N zs (L2.upd H' D (.lst zs)) where
 hh:=c.hh.upd c.np (by rw[c.kp.2];exact c.nc)
 lat:=upd_same
 kp:=⟨fun b o h n=>by rw[upd_ne (ne_of_none h c.n0)];exact c.kp.1 _ _ h n,by rw[cells_upd c.np];exact c.kp.2⟩
 n0:=c.n0
 np:=c.np
 nc:=c.nc
theorem CK.new {H0 H' H2:Hp}{p D l:Addr}{N:Nat}{ys:List V}{o:HO}(c:CK H0 p D N ys H') (n:H' l=none) (e:L2.upd H' l o=H2):CK H0 p D N ys H2∧H2 l=some o∧l≠p∧l≠D:=by
 subst e
 exact⟨⟨c.hh.same (same_new n _),same_new n _ _ _ c.lat,c.kp.trans (Kp.of (same_new n _) c.hh),c.n0,c.np,c.nc⟩,upd_same,c.hh.ne n,(ne_of_none c.lat n).symm⟩
def sp__law_draw (K:PySem.W.Frag):Sp:=fun vs H Q _=>∃(p:Addr) (N:Nat) (n:Int),vs=[.ref p,.int n]∧Hand H p N∧N<2^60∧0<n∧n<2^100 ∧
 ∀(r:Int) (H':Hp),0≤r→r<n→Hand H' p (N+1)→Kp H H' p→Q (.int r) H'
def sp__law_far (K:PySem.W.Frag):Sp:=fun vs H Q _=>∃(p:Addr) (N:Nat) (n:Int),vs=[.ref p,.int n]∧Hand H p N∧N+10<2^60∧0<n∧n<2^100 ∧
 ∀(r:Int) (H':Hp),0≤r→r<n→Hand H' p (N+7)→Kp H H' p→Q (.int r) H'
def sp__law_power (K:PySem.W.Frag):Sp:=fun vs H Q _=>∃(m:Nat),vs=[.int m]∧m≤1000∧Q (.int (2^m)) H
def sp__law_open (K:PySem.W.Frag):Sp:=fun vs H Q _=>∃(a:Addr) (ns:List Int) (pl:Int),vs=[.ref a,.int pl]∧SqL K H a (ns.map V.int)∧ns.length≤63∧0≤pl∧pl≤1000 ∧
 ∀(p:Addr) (H':Hp),H p=none→Same H H'→Hand H' p 1100000→Q (.ref p) H'
def sp__law_key (K:PySem.W.Frag):Sp:=fun vs H Q _=>∃(p:Addr) (N:Nat),vs=[.ref p]∧Hand H p N∧N+30<2^60 ∧
 ∀(r:Int) (H':Hp),0≤r→r<2^60→Hand H' p (N+20)→Kp H H' p→Q (.int r) H'
def sp_law (K:PySem.W.Frag):Sp:=fun vs H Q _=>∃(a:Addr) (ns:List Int),vs=[.ref a]∧SqL K H a (ns.map V.int)∧ns.length≤63∧TB_between K H∧∀H',Q (.bl true) H'
theorem sub_len:∀{L K:List Int},L.Nodup→(∀x∈L,x∈K)→L.length≤K.length
 | [],_,_,_=>Nat.zero_le _
 | a::L,K,hn,hs=>by
  rw[List.nodup_cons]at hn
  have ha:=hs a List.mem_cons_self
  have ih:=sub_len (L:=L) (K:=K.erase a) hn.2 fun x hx=>by
   have:x≠a:=fun e=>hn.1 (e ▸ hx)
   exact(List.mem_erase_of_ne this).mpr (hs x (List.mem_cons_of_mem _ hx))
  rw[List.length_erase_of_mem ha]at ih
  have:=List.length_pos_of_mem ha
  rw[List.length_cons];omega
theorem free_key {ks:List Int}(hl:ks.length<1000) (v:Int):∃m:Nat,(v+m)%1152921504606846976∉ks:=by
 by_cases c:∃m:Nat,(v+m)%1152921504606846976∉ks
 ·exact c
 ·have all:∀m:Nat,(v+m)%1152921504606846976∈ks:=fun m=>Classical.not_not.mp fun z=>c ⟨m,z⟩
  have hn:((List.range (ks.length+1)).map fun(j:Nat)=>(v+j)%1152921504606846976).Nodup:=by
   rw[List.nodup_iff_pairwise_ne,List.pairwise_map]
   refine List.Pairwise.imp_of_mem ?_ List.nodup_range
   intro a b ha hb hab e
   have h1:=List.mem_range.mp ha
   have h2:=List.mem_range.mp hb
   omega
  have:=sub_len hn (fun x hx=>by
   obtain⟨j,_,rfl⟩:=List.mem_map.mp hx
   exact all j)
  rw[List.length_map,List.length_range]at this
  omega
def sp__law_keys (K:PySem.W.Frag):Sp:=fun vs H Q _=>∃(p:Addr) (N:Nat) (n:Int),vs=[.ref p,.int n]∧Hand H p N∧N+5000<2^60∧0≤n∧n≤125 ∧
 ∀(l:Addr) (ns:List Int) (H':Hp),H l=none→H' l=some (.lst (ns.map V.int))→ns.Nodup→(ns.length:Int)=n→(∀k∈ns,0≤k∧k<1152921504606846976)→Hand H' p (N+3000)→Kp H H' p→Q (.ref l) H'
def bitV (k:Int) (j:Nat):Int:=k / 2^j%2
def rev (k:Int):Nat→Int
 | 0=>0
 | i+1=>rev k i*2+bitV k i
theorem bitV_01 (k:Int) (j:Nat):0≤bitV k j∧bitV k j<2:=by unfold bitV;omega
theorem rev_div (k:Int) (m:Nat):∀d:Nat,rev k (m+d) / 2^d=rev k m
 | 0=>by simp
 | d+1=>by
  have ih:=rev_div k m d
  have b:=bitV_01 k (m+d)
  show(rev k (m+d)*2+bitV k (m+d)) / 2^(d+1)=_
  rw[Int.pow_succ,Int.mul_comm (2^d) 2,← Int.ediv_ediv_of_nonneg (by decide:(0:Int)≤2)]
  have e:(rev k (m+d)*2+bitV k (m+d)) / 2=rev k (m+d):=by omega
  rw[e,ih]
theorem bit_rev (k:Int) (n j:Nat) (h:j<n):bitV (rev k n) j=bitV k (n-1-j):=by
 have e:n =(n-1-j)+1+j:=by omega
 unfold bitV
 conv=>lhs;rw[e]
 rw[rev_div]
 show(rev k (n-1-j)*2+bitV k (n-1-j))%2=k / 2^(n-1-j)%2
 have b:=bitV_01 k (n-1-j)
 unfold bitV at b ⊢
 omega
theorem rev_rev (k:Int) (n:Nat):∀i:Nat,i≤n→rev (rev k n) i=k / 2^(n-i)%2^i
 | 0,_=>by simp[rev,Int.emod_one]
 | i+1,h=>by
  have ih:=rev_rev k n i (by omega)
  rw[rev,ih,bit_rev k n i (by omega)]
  have e1:n-i =(n-(i+1))+1:=by omega
  have e2:n-1-i=n-(i+1):=by omega
  rw[e1,e2]
  unfold bitV
  generalize n-(i+1)=d
  rw[Int.pow_succ 2 d,← Int.ediv_ediv_of_nonneg (Int.le_of_lt (pow2_pos d)),Int.pow_succ 2 i]
  generalize k / 2^d=x
  have p:=pow2_pos i
  generalize (2:Int)^i=w at p
  have d1:=Int.emod_add_mul_ediv (x / 2) w
  have d2:=Int.emod_add_mul_ediv x 2
  have r1:=Int.emod_nonneg (x / 2) (show w≠0 by omega)
  have r2:=Int.emod_lt_of_pos (x / 2) p
  have e3:x =((x / 2%w)*2+x%2)+(w*2)*(x / 2 / w):=by
   have:w*2*(x / 2 / w)=2*(w*(x / 2 / w)):=by rw[Int.mul_comm w 2,Int.mul_assoc]
   rw[this]
   omega
  conv=>rhs;rw[e3]
  rw[Int.add_mul_emod_self_left]
  exact(Int.emod_eq_of_lt (by omega) (by omega)).symm
theorem rev_back {k:Int}{n:Nat}(h0:0≤k) (h1:k<2^n):rev (rev k n) n=k:=by
 rw[rev_rev k n n (Nat.le_refl _),Nat.sub_self,Int.pow_zero,Int.ediv_one]
 exact Int.emod_eq_of_lt h0 h1
def sp_turned (K:PySem.W.Frag):Sp:=fun vs H Q _=>∃(k:Int),vs=[.int k]∧Q (.int (rev k 60)) H
def P1 {α:Type}(p:Addr→α→Prop) (as:List Addr) (xs:List α):Prop:=as.length=xs.length∧∀(i:Nat) (a:Addr) (x:α),as[i]? = some a→xs[i]? = some x→p a x
section
variable {α:Type}{p p':Addr→α→Prop}{as bs:List Addr}{xs ys:List α}{a b:Addr}{x y:α}{i:Nat}
theorem P1.imp (f:∀a x,p a x→p' a x) (h:P1 p as xs):P1 p' as xs:=⟨h.1,fun i a x e1 e2=>f a x (h.2 i a x e1 e2)⟩
theorem P1.nil:P1 p [] []:=⟨rfl,fun i a x e=>by simp at e⟩
theorem P1.get (h:P1 p as xs) (e:as[i]? = some a):∃x,xs[i]? = some x∧p a x:=by
 have il:=(List.getElem?_eq_some_iff.mp e).1
 rw[h.1]at il
 exact⟨_,List.getElem?_eq_getElem il,h.2 i a _ e (List.getElem?_eq_getElem il)⟩
theorem P1.at' (h:P1 p as xs) (e:xs[i]? = some x):∃a,as[i]? = some a∧p a x:=by
 have il:=(List.getElem?_eq_some_iff.mp e).1
 rw[← h.1]at il
 exact⟨_,List.getElem?_eq_getElem il,h.2 i _ x (List.getElem?_eq_getElem il) e⟩
theorem P1.app (h:P1 p as xs) (h':P1 p bs ys):P1 p (as++bs) (xs++ys):=by
 refine⟨by rw[List.length_append,List.length_append,h.1,h'.1],fun i a x e1 e2=>?_⟩
 have hl:=h.1
 by_cases z:i<as.length
 ·rw[List.getElem?_append_left z]at e1
  rw[List.getElem?_append_left (by omega)]at e2
  exact h.2 i a x e1 e2
 ·rw[List.getElem?_append_right (by omega)]at e1
  rw[List.getElem?_append_right (by omega),← hl]at e2
  exact h'.2 _ a x e1 e2
theorem P1.one (hb:p b y):P1 p [b] [y]:=by
 refine⟨rfl,fun i a x e1 e2=>?_⟩
 cases i with
 | zero=>cases e1;cases e2;exact hb
 | succ i=>simp at e1
theorem P1.snoc (h:P1 p as xs) (hb:p b y):P1 p (as ++ [b]) (xs ++ [y]):=h.app (P1.one hb)
end
theorem ixN_in {n j:Nat}(h:j<n):ixN n (j:Int)=some j:=by
 unfold ixN
 rw[if_pos (by omega),if_pos (by omega),Int.toNat_natCast]
theorem str_app (a b:Str):(a++b).cps=a.cps++b.cps:=rfl
theorem str_applen (a b:Str):(a++b).length=a.length+b.length:=by
 show(a.cps++b.cps).size=_
 rw[Array.size_append];rfl
def nm (z:Str):Prop:=1≤z.length∧z.length≤8∧∀c∈z.cps,97≤c∧c≤122
theorem nm_ok {z:Str}(h:nm z):PyData.strOk z=true∧z.length≤100:=by
 refine⟨?_,by have:=h.2.1;omega⟩
 unfold PyData.strOk
 rw[Array.all_eq_true_iff_forall_mem]
 intro c hc
 have:=h.2.2 c hc
 simp;omega
theorem join_nm:∀ys:List Str,(∀y∈ys,y.length=1∧∀c∈y.cps,97≤c∧c≤122)→(Str.join ⟨#[]⟩ ys).length=ys.length∧∀c∈(Str.join ⟨#[]⟩ ys).cps,97≤c∧c≤122
 | [],_=>⟨rfl,fun c hc=>absurd hc (by simp[Str.join,Str.empty])⟩
 | y::r,h=>by
  obtain⟨h1,h2⟩:=join_nm r fun z hz=>h z (List.mem_cons_of_mem _ hz)
  obtain⟨g1,g2⟩:=h y List.mem_cons_self
  rw[PyProof.Rows.join_nil_cons]
  refine⟨by rw[str_applen,h1,g1,List.length_cons];omega,fun c hc=>?_⟩
  rw[str_app]at hc
  rcases Array.mem_append.mp hc with z|z
  ·exact g2 c z
  ·exact h2 c z
theorem sum_nm:∀ys:List Str,(∀y∈ys,y.length=1∧∀c∈y.cps,97≤c∧c≤122)→(ys.map (·.length)).sum=ys.length
 | [],_=>rfl
 | y::r,h=>by
  rw[List.map_cons,List.sum_cons,sum_nm r fun z hz=>h z (List.mem_cons_of_mem _ hz),(h y List.mem_cons_self).1,List.length_cons];omega
theorem let26b {r:Int}(h0:0≤r) (h1:r<26):∃c,atI (Str.ofString "abcdefghijklmnopqrstuvwxyz").cps.toList r=some c∧97≤c∧c≤122:=by
 obtain⟨n,rfl⟩ : ∃n:Nat,r =(n:Int):=⟨r.toNat,by omega⟩
 have hl:(Str.ofString "abcdefghijklmnopqrstuvwxyz").cps.toList.length=26:=by decide +kernel
 have ha:∀c∈(Str.ofString "abcdefghijklmnopqrstuvwxyz").cps.toList,97≤c∧c≤122:=by decide +kernel
 have hi:=List.getElem?_eq_getElem (l:=(Str.ofString "abcdefghijklmnopqrstuvwxyz").cps.toList) (i:=n) (by omega)
 exact⟨_,atI_nat hi,ha _ (List.mem_of_getElem? hi)⟩
theorem joinT (ys:List Str):Txt.join (Str.ofString "") ys=Str.join ⟨#[]⟩ ys:=by
 have e:Str.ofString "" =⟨#[]⟩:=by decide
 rw[e]
 exact StrLaws.glued_eq_join _ _
def sp__law_thing (K:PySem.W.Frag):Sp:=fun vs H Q _=>∃(p:Addr) (N:Nat),vs=[.ref p]∧Hand H p N∧N+30<2^60 ∧
 ∀(z:Str) (H':Hp),nm z→Hand H' p (N+20)→Kp H H' p→Q (.str z) H'
theorem take_get {α:Type}{xs:List α}{i:Nat}{x:α}(h:xs[i]? = some x):xs.take (i+1)=xs.take i ++ [x]:=by
 obtain⟨hi,e⟩:=List.getElem?_eq_some_iff.mp h
 rw[List.take_succ_eq_append_getElem hi,e]
theorem refs_get {as:List Addr}{i:Nat}{x:V}(hx:(as.map V.ref)[i]? = some x):∃a,as[i]? = some a∧x = .ref a:=by
 rw[List.getElem?_map]at hx
 cases e:as[i]? with
 | none=>rw[e]at hx;cases hx
 | some a=>rw[e]at hx;exact⟨a,rfl,(Option.some.inj hx).symm⟩
theorem ints_get {ns:List Int}{i:Nat}{x:V}(hx:(ns.map V.int)[i]? = some x):∃z,ns[i]? = some z∧x = .int z:=by
 rw[List.getElem?_map]at hx
 cases e:ns[i]? with
 | none=>rw[e]at hx;cases hx
 | some a=>rw[e]at hx;exact⟨a,rfl,(Option.some.inj hx).symm⟩
def EL (H:Hp) (ts:List Addr) (es:List (Int×Str)):Prop:=P1 (fun t e=>H t=some (.tup [.int e.1,.str e.2])∧PyData.strOk e.2=true∧0≤e.1∧e.1<1152921504606846976∧e.2.length≤100) ts es
theorem EL.same {H H':Hp}{ts:List Addr}{es:List (Int×Str)}(s:Same H H') (h:EL H ts es):EL H' ts es:=h.imp fun t e z=>⟨s _ _ z.1,z.2⟩
def hid (D:Addr) (H:Hp):Hp:=fun b=>if b=D then none else H b
theorem hid_ne {D b:Addr}{H:Hp}(n:b≠D):hid D H b=H b:=if_neg n
theorem hid_le {D:Addr}{H:Hp}:Same (hid D H) H:=fun b o e=>by
 unfold hid at e
 by_cases c:b=D
 ·rw[if_pos c]at e;cases e
 ·rw[if_neg c]at e;exact e
def eAt (H:Hp) (t:Addr):Int×Str:=match H t with
 | some (.tup [.int k,.str z])=>(k,z)
 | _=>(0,Str.ofString "")
theorem EL.eat {H:Hp}{ts:List Addr}{es:List (Int×Str)}(h:EL H ts es):es=ts.map (eAt H):=by
 refine List.ext_getElem? fun i=>?_
 rw[List.getElem?_map]
 cases c:ts[i]? with
 | none =>
  have:=List.getElem?_eq_none_iff.mp c
  rw[List.getElem?_eq_none (by rw[← h.1];exact this)];rfl
 | some t =>
  obtain⟨e,he,h1,_⟩:=h.get c
  rw[he,Option.map_some]
  unfold eAt
  rw[h1]
theorem EL.turn {H:Hp}{ts us:List Addr}{es:List (Int×Str)}(h:EL H ts es) (p:us.Perm ts):∃eu,EL H us eu∧eu.Perm es:=by
 refine⟨us.map (eAt H),⟨by rw[List.length_map],fun i u e h1 h2=>?_⟩,by rw[h.eat];exact p.map _⟩
 rw[List.getElem?_map,h1]at h2
 cases h2
 obtain⟨j,hj⟩:=List.getElem?_of_mem (p.mem_iff.mp (List.mem_of_getElem? h1))
 obtain⟨e,_,he⟩:=h.get hj
 have:eAt H u=e:=by unfold eAt;rw[he.1]
 rw[this];exact he
def sp__law_turned (K:PySem.W.Frag):Sp:=fun vs H Q _=>∃(k:Int),vs=[.int k]∧Q (.int (rev k 60)) H
def sp__law_places (K:PySem.W.Frag):Sp:=fun vs H Q _=>∃(a:Addr) (ns:List Int) (lo hi:Int),vs=[.ref a,.int lo,.int hi]∧SqL K H a (ns.map V.int)∧ns.length≤63∧0≤lo∧lo≤1000∧hi≤1000 ∧
 ∀(n:Nat) (l:Addr) (H':Hp),H l=none→H' l=some (.lst ((upN n).map V.int))→n≤1000→Same H H'→Q (.ref l) H'
theorem inj_of {α:Type}{f:Addr→α}{ts:List Addr}(n:(ts.map f).Nodup):∀t∈ts,∀u∈ts,f t=f u→t=u:=fun t ht u hu e=>by
 obtain⟨i,hi⟩:=List.getElem?_of_mem ht
 obtain⟨j,hj⟩:=List.getElem?_of_mem hu
 have e1:(ts.map f)[i]? =(ts.map f)[j]?:=by rw[List.getElem?_map,List.getElem?_map,hi,hj];exact congrArg some e
 have il:i <(ts.map f).length:=by rw[List.length_map];exact(List.getElem?_eq_some_iff.mp hi).1
 have ij:=(List.getElem?_inj il n).mp e1
 subst ij
 rw[hi]at hj
 exact Option.some.inj hj
def keyAt (H:Hp) (v:V):Int:=match v with
 | .ref u=>(match H u with
  | some (.tup (.int k::_))=>rev k 60
  | _=>0)
 | _=>0
theorem keyAt_of {H:Hp}{u:Addr}{k:Int}{xs:List V}(h:H u=some (.tup (.int k::xs))):keyAt H (.ref u)=rev k 60:=by unfold keyAt;simp only[h]
def inB (m o:Int) (e:Int×Str):Bool:=decide (m≤rev e.1 60) && decide (rev e.1 60<o)
def RvS (qs:List (Int×Str)):Prop:=qs.Pairwise fun a b=>rev a.1 60≤rev b.1 60
def sp_between (K:PySem.W.Frag):Sp:=fun vs H Q _=>∃(l:Addr) (ts:List Addr) (ps:List (Int×Str)) (m o:Int),vs=[.ref l,.int m,.int o]∧H l=some (.lst (ts.map V.ref))∧EL H ts ps∧ps.length≤64∧TB_between K H ∧
 ∀(l':Addr) (us:List Addr) (qs:List (Int×Str)) (H':Hp),H l'=none→H' l'=some (.lst (us.map V.ref))→EL H' us qs→qs.Perm (ps.filter (inB m o))→RvS qs→Sm H H'→TB_between K H'→Q (.ref l') H'
def unR:V→Addr
 | .ref a=>a
 | _=>0
theorem refs_perm {ms:List V}{us:List Addr}(p:ms.Perm (us.map V.ref)):∃vs:List Addr,ms=vs.map V.ref∧vs.Perm us:=by
 refine⟨ms.map unR,?_,?_⟩
 ·rw[List.map_map]
  have:∀x∈ms,x =(V.ref ∘ unR) x:=fun x hx=>by
   obtain⟨a,_,rfl⟩:=List.mem_map.mp (p.mem_iff.mp hx);rfl
  rw[← List.map_congr_left this,List.map_id']
 ·have:=p.map unR
  rw[List.map_map]at this
  have e:us.map (unR ∘ V.ref)=us:=by rw[show(unR ∘ V.ref)=id from rfl,List.map_id]
  rw[e]at this;exact this
theorem EL.rv {H:Hp}{us:List Addr}{qs:List (Int×Str)}(h:EL H us qs) (p:(us.map V.ref).Pairwise fun x y=>keyAt H x≤keyAt H y):RvS qs:=by
 unfold RvS
 rw[List.pairwise_iff_getElem]at p ⊢
 intro i j hi hj hij
 have l:=h.1
 have a:=h.2 i us[i] qs[i] (List.getElem?_eq_getElem (by omega)) (List.getElem?_eq_getElem hi)
 have b:=h.2 j us[j] qs[j] (List.getElem?_eq_getElem (by omega)) (List.getElem?_eq_getElem hj)
 have:=p i j (by rw[List.length_map];omega) (by rw[List.length_map];omega) hij
 rw[List.getElem_map,List.getElem_map,keyAt_of a.1,keyAt_of b.1]at this
 exact this
theorem rev_inj {a b:Int}(a0:0≤a) (a1:a<1152921504606846976) (b0:0≤b) (b1:b<1152921504606846976) (h:rev a 60=rev b 60):a=b:=by
 have e60:(2:Int)^60=1152921504606846976:=by decide
 rw[← rev_back (n:=60) a0 (by omega),← rev_back (n:=60) b0 (by omega),h]
structure PV (R:V→PyData→Prop) (xs:List V) (ds:List PyData):Prop where
 l1:xs.length=ds.length
 at':∀(i:Nat) (x:V) (d:PyData),xs[i]? = some x→ds[i]? = some d→R x d
def VLf (v:V) (d:PyData):Prop:=(∃i:Int,v = .int i∧d = .int i) ∨(∃z:Str,v = .str z∧d = .str z∧PyData.strOk z=true) ∨(∃b:Bool,v = .bl b∧d = .bool b) ∨(v = .non∧d = .none)
def TV (H:Hp):Nat→V→PyData→Prop
 | 0=>fun v d=>VLf v d
 | n+1=>fun v d=>VLf v d ∨(∃t xs ds,v = .ref t∧d = .tuple ds∧H t=some (.tup xs)∧xs.length≤500∧PV (TV H n) xs ds) ∨(∃l xs ds,v = .ref l∧d = .list ds∧H l=some (.lst xs)∧xs.length≤500∧PV (TV H n) xs ds)
def dI:PyData→Bool
 | .int _=>true
 | _=>false
def dB:PyData→Bool
 | .bool _=>true
 | _=>false
def dT:PyData→Bool
 | .tuple _=>true
 | _=>false
def dL:PyData→Bool
 | .list _=>true
 | _=>false
theorem len2 {α:Type}{xs:List α}(h:xs.length=2):∃x y,xs=[x,y]:=by
 match xs,h with
 | [x,y],_=>exact⟨x,y,rfl⟩
theorem len3 {α:Type}{xs:List α}(h:xs.length=3):∃x y z,xs=[x,y,z]:=by
 match xs,h with
 | [x,y,z],_=>exact⟨x,y,z,rfl⟩
section
variable {R R':V→PyData→Prop}{H H':Hp}{n:Nat}{v x:V}{d:PyData}{xs ys:List V}{ds es:List PyData}{i:Nat}
theorem PV.nil:PV R [] []:=⟨rfl,fun i x d e=>by simp at e⟩
theorem PV.imp (h:PV R xs ds) (f:∀x d,R x d→R' x d):PV R' xs ds:=⟨h.l1,fun i x d e1 e2=>f x d (h.at' i x d e1 e2)⟩
theorem PV.get (h:PV R xs ds) (e:xs[i]? = some x):∃d,ds[i]? = some d∧R x d:=by
 have il:=(List.getElem?_eq_some_iff.mp e).1
 have a:=h.l1
 exact⟨_,List.getElem?_eq_getElem (by omega),h.at' i _ _ e (List.getElem?_eq_getElem (by omega))⟩
theorem PV.app (h:PV R xs ds) (g:PV R ys es):PV R (xs++ys) (ds++es):=by
 have a:=h.l1
 refine⟨by simp[h.l1,g.l1],fun i x d e1 e2=>?_⟩
 by_cases c:i<xs.length
 ·rw[List.getElem?_append_left c]at e1
  rw[List.getElem?_append_left (by omega)]at e2
  exact h.at' i x d e1 e2
 ·rw[List.getElem?_append_right (by omega)]at e1
  rw[List.getElem?_append_right (by omega),← a]at e2
  exact g.at' _ x d e1 e2
theorem PV.one (r:R x d):PV R [x] [d]:=⟨rfl,fun i y e e1 e2=>by
 match i with
 | 0=>cases e1;cases e2;exact r
 | i+1=>simp at e1⟩
theorem PV.cons (r:R x d) (h:PV R xs ds):PV R (x::xs) (d::ds):=(PV.one r).app h
theorem PV.ex:∀{xs:List V},(∀x∈xs,∃d,R x d)→∃ds,PV R xs ds
 | [],_=>⟨[],PV.nil⟩
 | x::xs,h=>by
  obtain⟨d,r⟩:=h x List.mem_cons_self
  obtain⟨ds,t⟩:=PV.ex (xs:=xs) fun y hy=>h y (List.mem_cons_of_mem _ hy)
  exact⟨d::ds,PV.cons r t⟩
theorem VLf.tv (h:VLf v d):TV H n v d:=by
 cases n with
 | zero=>exact h
 | succ n=>exact .inl h
theorem TV.int (i:Int):TV H n (.int i) (.int i):=VLf.tv (.inl ⟨i,rfl,rfl⟩)
theorem TV.str {z:Str}(h:PyData.strOk z=true):TV H n (.str z) (.str z):=VLf.tv (.inr (.inl ⟨z,rfl,rfl,h⟩))
theorem TV.bl (b:Bool):TV H n (.bl b) (.bool b):=VLf.tv (.inr (.inr (.inl ⟨b,rfl,rfl⟩)))
theorem TV.non:TV H n .non .none:=VLf.tv (.inr (.inr (.inr ⟨rfl,rfl⟩)))
theorem TV.tup {t:Addr}(h:H t=some (.tup xs)) (l:xs.length≤500) (p:PV (TV H n) xs ds):TV H (n+1) (.ref t) (.tuple ds):=.inr (.inl ⟨t,xs,ds,rfl,rfl,h,l,p⟩)
theorem TV.lst {t:Addr}(h:H t=some (.lst xs)) (l:xs.length≤500) (p:PV (TV H n) xs ds):TV H (n+1) (.ref t) (.list ds):=.inr (.inr ⟨t,xs,ds,rfl,rfl,h,l,p⟩)
theorem TV.keep:∀{n:Nat}{v:V}{d:PyData},TV H n v d→(∀b xs,H b=some (.tup xs)→H' b=some (.tup xs))→(∀b xs,H b=some (.lst xs)→H' b=some (.lst xs))→TV H' n v d
 | 0,_,_,h,_,_=>h
 | n+1,v,d,h,k1,k2=>by
  rcases h with h|⟨t,xs,ds,rfl,rfl,h1,h2,h3⟩|⟨t,xs,ds,rfl,rfl,h1,h2,h3⟩
  ·exact .inl h
  ·exact .inr (.inl ⟨t,xs,ds,rfl,rfl,k1 _ _ h1,h2,h3.imp fun x d r=>TV.keep r k1 k2⟩)
  ·exact .inr (.inr ⟨t,xs,ds,rfl,rfl,k2 _ _ h1,h2,h3.imp fun x d r=>TV.keep r k1 k2⟩)
theorem TV.same (s:Same H H') (h:TV H n v d):TV H' n v d:=h.keep (fun _ _ e=>s _ _ e) fun _ _ e=>s _ _ e
theorem TV.up:∀{n m:Nat}{v:V}{d:PyData},TV H n v d→n≤m→TV H m v d
 | 0,_,_,_,h,_=>VLf.tv h
 | n+1,0,_,_,_,l=>absurd l (by omega)
 | n+1,m+1,v,d,h,l=>by
  rcases h with h|⟨t,xs,ds,rfl,rfl,h1,h2,h3⟩|⟨t,xs,ds,rfl,rfl,h1,h2,h3⟩
  ·exact .inl h
  ·exact .inr (.inl ⟨t,xs,ds,rfl,rfl,h1,h2,h3.imp fun x d r=>TV.up r (by omega)⟩)
  ·exact .inr (.inr ⟨t,xs,ds,rfl,rfl,h1,h2,h3.imp fun x d r=>TV.up r (by omega)⟩)
theorem TV.ways (h:TV H n v d):VLf v d ∨(∃j t xs ds,n=j+1∧v = .ref t∧d = .tuple ds∧H t=some (.tup xs)∧xs.length≤500∧PV (TV H j) xs ds) ∨(∃j l xs ds,n=j+1∧v = .ref l∧d = .list ds∧H l=some (.lst xs)∧xs.length≤500∧PV (TV H j) xs ds):=by
 cases n with
 | zero=>exact .inl h
 | succ j =>
  rcases h with h|⟨t,xs,ds,h⟩|⟨t,xs,ds,h⟩
  ·exact .inl h
  ·exact .inr (.inl ⟨j,t,xs,ds,rfl,h⟩)
  ·exact .inr (.inr ⟨j,t,xs,ds,rfl,h⟩)
theorem TV.ty {K:PySem.W.Frag}(h:TV H n v d):∃t,TyOf K H v t∧PySem.W.kitOne K t (.type "int")=some (dI d || dB d)∧PySem.W.kitOne K t (.type "bool")=some (dB d)∧PySem.W.kitOne K t (.type "tuple")=some (dT d)∧PySem.W.kitOne K t (.type "list")=some (dL d):=by
 rcases h.ways with(⟨i,rfl,rfl⟩|⟨z,rfl,rfl,_⟩|⟨b,rfl,rfl⟩|⟨rfl,rfl⟩)|⟨j,t,xs,ds,rfl,rfl,rfl,h1,_⟩|⟨j,t,xs,ds,rfl,rfl,rfl,h1,_⟩
 ·exact⟨_,.int i,rfl,rfl,rfl,rfl⟩
 ·exact⟨_,.str z,rfl,rfl,rfl,rfl⟩
 ·exact⟨_,.bl b,rfl,rfl,rfl,rfl⟩
 ·exact⟨_,.non,rfl,rfl,rfl,rfl⟩
 ·exact⟨_,.tup h1,rfl,rfl,rfl,rfl⟩
 ·exact⟨_,.lst h1,rfl,rfl,rfl,rfl⟩
theorem TV.asT (h:TV H n v (.tuple ds)):∃j t xs,n=j+1∧v = .ref t∧H t=some (.tup xs)∧xs.length≤500∧PV (TV H j) xs ds:=by
 rcases h.ways with(⟨i,_,e⟩|⟨z,_,e,_⟩|⟨b,_,e⟩|⟨_,e⟩)|⟨j,t,xs,es,e0,e1,e,h1,h2,h3⟩|⟨j,t,xs,es,e0,e1,e,h1,h2,h3⟩ <;> cases e
 exact⟨j,t,xs,e0,e1,h1,h2,h3⟩
theorem TV.asL (h:TV H n v (.list ds)):∃j t xs,n=j+1∧v = .ref t∧H t=some (.lst xs)∧xs.length≤500∧PV (TV H j) xs ds:=by
 rcases h.ways with(⟨i,_,e⟩|⟨z,_,e,_⟩|⟨b,_,e⟩|⟨_,e⟩)|⟨j,t,xs,es,e0,e1,e,h1,h2,h3⟩|⟨j,t,xs,es,e0,e1,e,h1,h2,h3⟩ <;> cases e
 exact⟨j,t,xs,e0,e1,h1,h2,h3⟩
theorem TV.asI {i:Int}(h:TV H n v (.int i)):v = .int i:=by
 rcases h.ways with(⟨i,e1,e⟩|⟨z,_,e,_⟩|⟨b,_,e⟩|⟨_,e⟩)|⟨j,t,xs,es,e0,e1,e,h1,h2,h3⟩|⟨j,t,xs,es,e0,e1,e,h1,h2,h3⟩ <;> cases e
 exact e1
theorem PV.gd {K:PySem.W.Frag}(ih:∀{v:V}{d:PyData},TV H n v d→DV K H v d∧PyData.canLay0 d=true∧PyData.depth d≤n):∀{xs:List V}{ds:List PyData},PV (TV H n) xs ds→DVs K H xs ds∧PyData.canLayAll0 ds=true∧PyData.depthAll ds≤n
 | [],[],_=>⟨.nil,rfl,by simp[PyData.depthAll]⟩
 | [],_::_,h=>by cases h.l1
 | _::_,[],h=>by cases h.l1
 | x::xs,d::ds,h=>by
  have h0:=ih (h.at' 0 x d rfl rfl)
  have ht:=PV.gd ih (xs:=xs) (ds:=ds) ⟨by have:=h.l1;simpa using this,fun i y e e1 e2=>h.at' (i+1) y e (by simpa using e1) (by simpa using e2)⟩
  refine⟨.cons h0.1 ht.1,?_,?_⟩
  ·rw[PyData.canLayAll0,h0.2.1,ht.2.1];rfl
  ·rw[PyData.depthAll];exact Nat.max_le.mpr ⟨h0.2.2,ht.2.2⟩
theorem VLf.gd {K:PySem.W.Frag}(h:VLf v d):DV K H v d∧PyData.canLay0 d=true∧PyData.depth d≤n:=by
 rcases h with⟨i,rfl,rfl⟩|⟨z,rfl,rfl,hz⟩|⟨b,rfl,rfl⟩|⟨rfl,rfl⟩
 ·exact⟨.int i,rfl,by simp[PyData.depth]⟩
 ·exact⟨.str z,by rw[PyData.canLay0];exact hz,by simp[PyData.depth]⟩
 ·exact⟨.bl b,rfl,by simp[PyData.depth]⟩
 ·exact⟨.non,rfl,by simp[PyData.depth]⟩
end
theorem TV.gd {K:PySem.W.Frag}{H:Hp}:∀{n:Nat}{v:V}{d:PyData},TV H n v d→DV K H v d∧PyData.canLay0 d=true∧PyData.depth d≤n:=by
 intro n
 induction n with
 | zero=>intro v d h;exact VLf.gd h
 | succ n ih =>
  rintro v d (h|⟨t,xs,ds,rfl,rfl,h1,h2,h3⟩|⟨l,xs,ds,rfl,rfl,h1,h2,h3⟩)
  ·exact VLf.gd h
  ·have g:=PV.gd (K:=K) ih h3
   exact⟨.tup (SqT.of h1) g.1,by rw[PyData.canLay0];exact g.2.1,by rw[PyData.depth];have:=g.2.2;omega⟩
  ·have g:=PV.gd (K:=K) ih h3
   exact⟨.lst (SqL.of h1) g.1,by rw[PyData.canLay0];exact g.2.1,by rw[PyData.depth];have:=g.2.2;omega⟩
theorem TV.shaped {H:Hp}{n:Nat}{v:V}{d:PyData}(K:PySem.W.Frag) (h:TV H n v d) (l:n≤60):SeqAt.shaped d=true:=by
 obtain⟨_,a,b⟩:=TV.gd (K:=K) h
 simp[SeqAt.shaped,a];omega
theorem TV.refl {H:Hp}{n:Nat}{v:V}{d:PyData}(K:PySem.W.Frag) (h:TV H n v d):PyData.eqv d d=true:=SeqAt.eqv_refl d (TV.gd (K:=K) h).2.1
def eD (e:Int×Str):PyData:=.tuple [.int e.1,.str e.2]
def entOk:PyData→Bool
 | .tuple [.int _,_]=>true
 | _=>false
def okP (pe:List (Int×Str)):Prop:=(pe.map (·.1)).Nodup∧(∀e∈pe,0≤e.1∧e.1<1152921504606846976∧PyData.strOk e.2=true∧e.2.length≤100)∧pe.length≤60
noncomputable def btw (pe:List (Int×Str)) (m o:Int):List (Int×Str):=(pe.filter (inB m o)).mergeSort (fun a b=>decide (rev a.1 60≤rev b.1 60))
theorem btw_perm (pe:List (Int×Str)) (m o:Int):(btw pe m o).Perm (pe.filter (inB m o)):=List.mergeSort_perm _ _
theorem btw_rv (pe:List (Int×Str)) (m o:Int):RvS (btw pe m o):=(List.pairwise_mergeSort (by intro a b c;simp;omega) (by intro a b;simp;omega) _).imp fun h=>by simpa using h
theorem key_inj {pe:List (Int×Str)}(ok:okP pe):∀a∈pe,∀b∈pe,a.1=b.1→a=b:=by
 have:∀l:List (Int×Str),(l.map (·.1)).Nodup→∀a∈l,∀b∈l,a.1=b.1→a=b:=by
  intro l
  induction l with
  | nil=>intro _ a h;cases h
  | cons e l ih =>
   intro nd a ha b hb h
   rw[List.map_cons,List.nodup_cons]at nd
   rcases List.mem_cons.mp ha with rfl|ha'
   ·rcases List.mem_cons.mp hb with rfl|hb'
    ·rfl
    ·exact absurd (List.mem_map.mpr ⟨b,hb',h.symm⟩) nd.1
   ·rcases List.mem_cons.mp hb with rfl|hb'
    ·exact absurd (show b.1∈l.map (·.1) from List.mem_map.mpr ⟨a,ha',h⟩) nd.1
    ·exact ih nd.2 a ha' b hb' h
 exact this pe ok.1
theorem btw_eq {pe qs:List (Int×Str)}{m o:Int}(ok:okP pe) (p:qs.Perm (pe.filter (inB m o))) (r:RvS qs):qs=btw pe m o:=by
 have mem:∀{ps:List (Int×Str)},ps.Perm (pe.filter (inB m o))→∀e∈ps,e∈pe:=fun p e he=>(List.mem_filter.mp (p.mem_iff.mp he)).1
 have r2:=btw_rv pe m o
 unfold RvS at r r2
 refine List.Perm.eq_of_pairwise (fun a b ha hb x y=>?_) r r2 (p.trans (btw_perm pe m o).symm)
 have x:rev a.1 60≤rev b.1 60:=x
 have y:rev b.1 60≤rev a.1 60:=y
 have oa:=ok.2.1 a (mem p a ha)
 have ob:=ok.2.1 b (mem (btw_perm pe m o) b hb)
 exact key_inj ok a (mem p a ha) b (mem (btw_perm pe m o) b hb) (rev_inj oa.1 oa.2.1 ob.1 ob.2.1 (Int.le_antisymm x y))
theorem btw_cong {pe pe':List (Int×Str)}(ok:okP pe) (p:pe'.Perm pe) (m o:Int):btw pe' m o=btw pe m o:=btw_eq ok ((btw_perm pe' m o).trans (p.filter _)) (btw_rv pe' m o)
noncomputable def pageN (pe:List (Int×Str)) (m:Int):PyData→Option Int
 | .tuple [.int a,.list own,.int b]=>if a=m∧m<b∧own.all entOk=true∧PyData.eqv (.list own) (.list ((btw pe m b).map eD))=true then some b else none
 | _=>none
theorem pageN_at {pe:List (Int×Str)}{m a b:Int}{own:List PyData}:pageN pe m (.tuple [.int a,.list own,.int b])=if a=m∧m<b∧own.all entOk=true∧PyData.eqv (.list own) (.list ((btw pe m b).map eD))=true then some b else none:=rfl
noncomputable def walkL (pe:List (Int×Str)):Int→List PyData→Bool
 | m,[]=>decide (m=1152921504606846976)
 | m,p::ps=>match pageN pe m p with
  | some b=>walkL pe b ps
  | none=>false
noncomputable def walkB (pe:List (Int×Str)):PyData→Bool
 | .list ps=>walkL pe 0 ps
 | _=>false
theorem pageN_up {pe:List (Int×Str)}{m b:Int}{d:PyData}(h:pageN pe m d=some b):m<b:=by
 unfold pageN at h
 split at h
 ·split at h
  ·rename_i c;cases h;exact c.2.1
  ·cases h
 ·cases h
theorem walkL_big {pe:List (Int×Str)}:∀{ps:List PyData}{m:Int},1152921504606846976<m→walkL pe m ps=false
 | [],m,h=>by
  unfold walkL
  exact decide_eq_false (by omega)
 | p::ps,m,h=>by
  unfold walkL
  cases c:pageN pe m p with
  | none=>rfl
  | some b=>exact walkL_big (by have:=pageN_up c;omega)
noncomputable def pgD (pe:List (Int×Str)) (x:Int×Int):PyData:=.tuple [.int x.1,.list ((btw pe x.1 x.2).map eD),.int x.2]
theorem eD_lay {e:Int×Str}(h:PyData.strOk e.2=true):PyData.canLay0 (eD e)=true:=by
 unfold eD
 rw[PyData.canLay0,PyData.canLayAll0,PyData.canLay0,PyData.canLayAll0,PyData.canLay0,h];rfl
theorem eDs_lay:∀{qs:List (Int×Str)},(∀e∈qs,PyData.strOk e.2=true)→PyData.canLayAll0 (qs.map eD)=true
 | [],_=>rfl
 | e::qs,h=>by
  rw[List.map_cons,PyData.canLayAll0,eD_lay (h e List.mem_cons_self),eDs_lay fun x hx=>h x (List.mem_cons_of_mem _ hx)];rfl
theorem page_good {pe:List (Int×Str)}(ok:okP pe) {x:Int×Int}(h:x.1<x.2):pageN pe x.1 (pgD pe x)=some x.2:=by
 unfold pgD
 rw[pageN_at,if_pos]
 refine⟨rfl,h,?_,?_⟩
 ·rw[List.all_map,List.all_eq_true]
  intro e _
  rfl
 ·refine SeqAt.eqv_refl _ ?_
  rw[PyData.canLay0]
  exact eDs_lay fun e he=>(ok.2.1 e (List.mem_filter.mp ((btw_perm pe x.1 x.2).mem_iff.mp he)).1).2.2.1
def ChM:Int→List (Int×Int)→Prop
 | m,[]=>m=1152921504606846976
 | m,x::pg=>x.1=m∧x.1<x.2∧ChM x.2 pg
theorem walk_good {pe:List (Int×Str)}(ok:okP pe):∀{pg:List (Int×Int)}{m:Int},ChM m pg→walkL pe m (pg.map (pgD pe))=true
 | [],m,h=>by
  unfold walkL
  exact decide_eq_true h
 | x::pg,m,⟨h1,h2,h3⟩=>by
  subst h1
  rw[List.map_cons]
  unfold walkL
  rw[page_good ok h2]
  exact walk_good ok h3
noncomputable def pageL (pe:List (Int×Str)) (m:Int):PyData→Option Int
 | .tuple [.int a,.list own,.int b]=>if a=m∧m<b∧b≤1152921504606846976∧PyData.eqv (.list own) (.list ((btw pe m b).map eD))=true∧own.all entOk=true then some b else none
 | _=>none
theorem pageL_at {pe:List (Int×Str)}{m a b:Int}{own:List PyData}:pageL pe m (.tuple [.int a,.list own,.int b])=if a=m∧m<b∧b≤1152921504606846976∧PyData.eqv (.list own) (.list ((btw pe m b).map eD))=true∧own.all entOk=true then some b else none:=rfl
noncomputable def lawL (pe:List (Int×Str)):Int→List PyData→Bool
 | m,[]=>decide (m=1152921504606846976)
 | m,p::ps=>match pageL pe m p with
  | some b=>lawL pe b ps
  | none=>false
theorem law_walk {pe:List (Int×Str)}:∀{ps:List PyData}{m:Int},lawL pe m ps=walkL pe m ps
 | [],m=>rfl
 | p::ps,m=>by
  unfold lawL walkL
  by_cases c:∃a own b,p = .tuple [.int a,.list own,.int b]
  ·obtain⟨a,own,b,rfl⟩:=c
   rw[pageL_at,pageN_at]
   by_cases h:a=m∧m<b∧own.all entOk=true∧PyData.eqv (.list own) (.list ((btw pe m b).map eD))=true
   ·rw[if_pos h]
    by_cases g:b≤1152921504606846976
    ·rw[if_pos ⟨h.1,h.2.1,g,h.2.2.2,h.2.2.1⟩]
     exact law_walk
    ·rw[if_neg (fun z=>g z.2.2.1)]
     exact(walkL_big (by omega)).symm
   ·rw[if_neg h,if_neg (fun z=>h ⟨z.1,z.2.1,z.2.2.2.2,z.2.2.2.1⟩)]
  ·have e1:pageL pe m p=none:=by
    unfold pageL
    split
    ·rename_i a own b;exact absurd ⟨a,own,b,rfl⟩ c
    ·rfl
   have e2:pageN pe m p=none:=by
    unfold pageN
    split
    ·rename_i a own b;exact absurd ⟨a,own,b,rfl⟩ c
    ·rfl
   rw[e1,e2]
theorem eqv_ent {d:PyData}{e:Int×Str}(h:PyData.eqv d (eD e)=true):∃a b,d = .tuple [a,b]:=by
 unfold eD at h
 cases d with
 | tuple ds =>
  rw[PyData.eqv]at h
  match ds,h with
  | [a,b],_=>exact⟨a,b,rfl⟩
  | [],h=>simp[PyData.eqvAll]at h
  | [a],h=>simp[PyData.eqvAll]at h
  | a::b::c::r,h=>simp[PyData.eqvAll]at h
 | _=>simp[PyData.eqv]at h
theorem eqv_ents:∀{own:List PyData}{qs:List (Int×Str)},PyData.eqvAll own (qs.map eD)=true→∀d∈own,∃a b,d = .tuple [a,b]
 | [],_,_,d,h=>by cases h
 | x::own,[],h,d,hd=>by simp[PyData.eqvAll]at h
 | x::own,e::qs,h,d,hd=>by
  rw[List.map_cons,PyData.eqvAll,Bool.and_eq_true]at h
  rcases List.mem_cons.mp hd with rfl|hd
  ·exact eqv_ent h.1
  ·exact eqv_ents h.2 d hd
def sp_is_whole (K:PySem.W.Frag):Sp:=fun vs H Q _=>∃(v:V) (d:PyData) (n:Nat),vs=[v]∧TV H n v d∧Q (.bl (dI d)) H
def sp__law_whole_number (K:PySem.W.Frag):Sp:=sp_is_whole K
def sp_is_like_entry (K:PySem.W.Frag):Sp:=fun vs H Q _=>∃(v:V) (d:PyData) (n:Nat),vs=[v]∧TV H n v d∧Q (.bl (entOk d)) H
def sp__law_is_entry (K:PySem.W.Frag):Sp:=fun vs H Q _=>∃(v:V) (a b:PyData) (n:Nat),vs=[v]∧TV H n v (.tuple [a,b])∧Q (.bl (dI a)) H
def EP (H:Hp) (le:Addr) (pe:List (Int×Str)):Prop:=∃te:List Addr,H le=some (.lst (te.map V.ref))∧EL H te pe
def sp_is_page (K:PySem.W.Frag):Sp:=fun vs H Q _=>∃(le:Addr) (pe:List (Int×Str)) (m:Int) (v:V) (d:PyData),vs=[.ref le,.int m,v]∧EP H le pe∧okP pe∧TB_between K H∧TV H 4 v d ∧
 ∀H',Sm H H'→TB_between K H'→Q (.bl (pageN pe m d).isSome) H'
def AV (H:Hp) (n:Nat) (v:V) (o:Option PyData):Prop:=(∃d,o=some d∧TV H n v d) ∨(o=none∧∃dd,v = .ref dd∧H dd=some (.dK []))
noncomputable def walkO (pe:List (Int×Str)) (o:Option PyData):Bool:=o.elim false (walkB pe)
def sp_is_walk (K:PySem.W.Frag):Sp:=fun vs H Q _=>∃(le:Addr) (pe:List (Int×Str)) (v:V) (o:Option PyData),vs=[.ref le,v]∧EP H le pe∧okP pe∧TB_between K H∧AV H 5 v o ∧
 ∀H',Sm H H'→TB_between K H'→Q (.bl (walkO pe o)) H'
theorem EP.sm {H H':Hp}{le:Addr}{pe:List (Int×Str)}(s:Sm H H') (h:EP H le pe):EP H' le pe:=by
 obtain⟨te,h1,h2⟩:=h
 exact⟨te,s.lst h1,h2.imp fun _ _ z=>⟨s.tup z.1,z.2⟩⟩
theorem TV.sm {H H':Hp}{n:Nat}{v:V}{d:PyData}(s:Sm H H') (h:TV H n v d):TV H' n v d:=h.keep (fun _ _ e=>s.tup e) fun _ _ e=>s.lst e
theorem el_dv {H:Hp}{n:Nat}{l:Addr}{us:List Addr}{qs:List (Int×Str)}(hl:H l=some (.lst (us.map V.ref))) (h:EL H us qs) (ln:qs.length≤500):TV H (n+2) (.ref l) (.list (qs.map eD)):=by
 refine TV.lst hl (by rw[List.length_map,h.1];exact ln) ⟨by rw[List.length_map,List.length_map,h.1],fun i x d e1 e2=>?_⟩
 obtain⟨u,hu,rfl⟩:=refs_get e1
 obtain⟨e,he,ht,ok,_⟩:=h.get hu
 rw[List.getElem?_map,he]at e2
 cases e2
 exact TV.tup ht (by simp) (.cons (TV.int _) (.cons (TV.str ok) PV.nil))
theorem ntl {xs:List V}:∀ps,HO.lst xs ≠ .tbl ps:=fun _=>nofun
theorem ntt {xs:List V}:∀ps,HO.tup xs ≠ .tbl ps:=fun _=>nofun
structure GH (G:Hp) (p:Addr) (N:Nat) (H0 H:Hp):Prop where
 s:Same G H
 np:G p=none
 hh:Hand H p N
 kp:Kp H0 H p
 nt:∀b ps,G b≠some (.tbl ps)
structure GC (G:Hp) (p D:Addr) (N:Nat) (ys:List V) (H0 H:Hp):Prop where
 ck:CK H0 p D N ys H
 s:Same G H
 np:G p=none
 nD:G D=none
 nt:∀b ps,G b≠some (.tbl ps)
section
variable {G H0 H H':Hp}{p D l:Addr}{N M:Nat}{ys zs:List V}{o:HO}
theorem GH.draw (g:GH G p N H0 H) (k:Kp H H' p) (hh:Hand H' p M):GH G p M H0 H':=⟨fun b o e=>k.1 b o (g.s b o e) (ne_of_none e g.np),g.np,hh,g.kp.trans k,g.nt⟩
theorem GH.mono (g:GH G p N H0 H) (h:N≤M):GH G p M H0 H:=⟨g.s,g.np,g.hh.mono h,g.kp,g.nt⟩
theorem GH.same (g:GH G p N H0 H) (s:Same H H'):GH G p N H0 H':=⟨g.s.trans s,g.np,g.hh.same s,g.kp.trans (Kp.of s g.hh),g.nt⟩
theorem GH.new (g:GH G p N H0 H) (n:H l=none) (e:upd H l o=H') (no:∀ps,o ≠ .tbl ps):GH (upd G l o) p N H0 H'∧Same G (upd G l o)∧H' l=some o:=by
 have lp:=g.hh.ne n
 have gl:G l=none:=g.s.free n
 subst e
 refine⟨⟨fun b x e=>?_,by rw[upd_ne lp.symm];exact g.np,g.hh.same (same_new n _),g.kp.trans (Kp.of (same_new n _) g.hh),fun b ps=>?_⟩,same_new gl _,upd_same⟩
 ·by_cases c:b=l
  ·subst c;rw[upd_same]at e ⊢;exact e
  ·rw[upd_ne c]at e ⊢;exact g.s _ _ e
 ·by_cases c:b=l
  ·subst c;rw[upd_same];exact fun z=>no ps (Option.some.inj z)
  ·rw[upd_ne c];exact g.nt b ps
theorem GC.start (g:GH G p N H0 H) (n:H D=none) (n0:H0 D=none):GC G p D N ys H0 (upd H D (.lst ys)):=by
 have c:=CK.start (ys:=ys) g.hh n
 refine⟨⟨c.hh,c.lat,g.kp.trans c.kp,n0,c.np,by rw[← g.kp.2];exact c.nc⟩,g.s.trans (same_new n _),g.np,g.s.free n,g.nt⟩
theorem GC.gh (c:GC G p D N ys H0 H):GH G p N H0 H:=⟨c.s,c.np,c.ck.hh,c.ck.kp,c.nt⟩
theorem GC.draw (c:GC G p D N ys H0 H) (k:Kp H H' p) (hh:Hand H' p M):GC G p D M ys H0 H':=⟨c.ck.draw k hh,(c.gh.draw k hh).s,c.np,c.nD,c.nt⟩
theorem GC.push (c:GC G p D N ys H0 H):GC G p D N zs H0 (upd H D (.lst zs)):=⟨c.ck.push,fun b o e=>by rw[upd_ne (ne_of_none e c.nD)];exact c.s _ _ e,c.np,c.nD,c.nt⟩
theorem GC.new (c:GC G p D N ys H0 H) (n:H l=none) (e:upd H l o=H') (no:∀ps,o ≠ .tbl ps):GC (upd G l o) p D N ys H0 H'∧Same G (upd G l o)∧H' l=some o:=by
 obtain⟨g,s,h⟩:=c.gh.new n e no
 have lD:l≠D:=fun z=>by rw[z,c.ck.lat]at n;cases n
 exact⟨⟨(c.ck.new n e).1,g.s,g.np,by rw[upd_ne lD.symm];exact c.nD,g.nt⟩,s,h⟩
theorem GC.mono (c:GC G p D N ys H0 H) (h:N≤M):GC G p D M ys H0 H:=⟨⟨c.ck.hh.mono h,c.ck.lat,c.ck.kp,c.ck.n0,c.ck.np,c.ck.nc⟩,c.s,c.np,c.nD,c.nt⟩
theorem GC.same (c:GC G p D N ys H0 H) (s:Same H H'):GC G p D N ys H0 H':=⟨⟨c.ck.hh.same s,s _ _ c.ck.lat,c.ck.kp.trans (Kp.of s c.ck.hh),c.ck.n0,c.ck.np,c.ck.nc⟩,c.s.trans s,c.np,c.nD,c.nt⟩
theorem GC.done (c:GC G p D N ys H0 H):GH (upd G D (.lst ys)) p N H0 H∧Same G (upd G D (.lst ys)):=by
 refine⟨⟨fun b x e=>?_,by rw[upd_ne c.ck.np.symm];exact c.np,c.ck.hh,c.ck.kp,fun b ps=>?_⟩,same_new c.nD _⟩
 ·by_cases z:b=D
  ·subst z;rw[upd_same]at e;cases e;exact c.ck.lat
  ·rw[upd_ne z]at e;exact c.s _ _ e
 ·by_cases z:b=D
  ·subst z;rw[upd_same];nofun
  ·rw[upd_ne z];exact c.nt b ps
end
theorem GC.hide {G H0 H:Hp}{p D:Addr}{N:Nat}{ys:List V}(c:GC G p D N ys H0 H) {G':Hp}(s:Same G' H) (s2:Same G G') (np:G' p=none) (nt:∀b ps,G' b≠some (.tbl ps)):GC (hid D G') p D N ys H0 H∧Same G (hid D G'):=by
 refine⟨⟨c.ck,fun b o e=>s _ _ (hid_le _ _ e),hid_le.free np,by unfold hid;rw[if_pos rfl],fun b ps e=>nt b ps (hid_le _ _ e)⟩,fun b o e=>?_⟩
 rw[hid_ne (ne_of_none e c.nD)]
 exact s2 _ _ e
def vis (p:Addr) (H:Hp):Hp:=fun b=>if b=p then none else match H b with
 | some (.tbl _)=>none
 | x=>x
section
variable {G H0 H:Hp}{p b:Addr}{N:Nat}{xs:List V}
theorem vis_some {o:HO}(h:H b=some o) (n:b≠p) (nt:∀ps,o ≠ .tbl ps):vis p H b=some o:=by
 unfold vis
 rw[if_neg n,h]
 cases o <;> first|rfl|exact absurd rfl (nt _)
theorem vis_lst (h:H b=some (.lst xs)) (n:b≠p):vis p H b=some (.lst xs):=vis_some h n fun _=>nofun
theorem vis_tup (h:H b=some (.tup xs)) (hh:Hand H p N):vis p H b=some (.tup xs):=by
 obtain⟨l,a,c,ns,h1,_⟩:=hh.ex
 exact vis_some h (ne_of h h1 nofun) fun _=>nofun
theorem vis_le:Same (vis p H) H:=fun b o e=>by
 unfold vis at e
 by_cases c:b=p
 ·rw[if_pos c]at e;cases e
 ·rw[if_neg c]at e
  cases z:H b with
  | none=>rw[z]at e;cases e
  | some x =>
   rw[z]at e
   cases x <;> first|exact e|cases e
theorem GH.vis (g:GH G p N H0 H):GH (vis p H) p N H0 H∧Same G (vis p H) :=
 ⟨⟨vis_le,by unfold Law.vis;rw[if_pos rfl],g.hh,g.kp,fun b ps e=>by
  unfold Law.vis at e
  by_cases c:b=p
  ·rw[if_pos c]at e;cases e
  ·rw[if_neg c]at e
   cases z:H b with
   | none=>rw[z]at e;cases e
   | some x=>rw[z]at e;cases x <;> cases e⟩,fun b o e=>vis_some (g.s _ _ e) (ne_of_none e g.np) fun ps z=>by rw[z]at e;exact g.nt b ps e⟩
end
theorem GC.vis {G H0 H:Hp}{p D:Addr}{N:Nat}{ys:List V}(c:GC G p D N ys H0 H):GC (hid D (vis p H)) p D N ys H0 H∧Same G (hid D (Law.vis p H)) :=
 c.hide vis_le c.gh.vis.2 c.gh.vis.1.np c.gh.vis.1.nt
theorem AV.same {H H':Hp}{n:Nat}{v:V}{o:Option PyData}(s:Same H H') (h:AV H n v o):AV H' n v o:=by
 rcases h with⟨d,e,t⟩|⟨e,dd,e2,h⟩
 ·exact .inl ⟨d,e,t.same s⟩
 ·exact .inr ⟨e,dd,e2,s _ _ h⟩
theorem EP.same {H H':Hp}{le:Addr}{pe:List (Int×Str)}(s:Same H H') (h:EP H le pe):EP H' le pe:=EP.sm s.sm h
def spr__law_kept (K:PySem.W.Frag):Nat→Sp
 | 0=>fun _ _ _ _=>False
 | j+1=>fun vs H Q _=>∃(v:V) (o:Option PyData) (G:Hp),vs=[v]∧AV G j v o∧Same G H ∧
  ∀(v':V) (G' H':Hp),AV G' j v' o→(o=none→v'=v)→Same G' H'→Same G G'→Same H H'→(∀b,G b=none→G' b≠none→H b=none)→Q v' H'
def sp__law_kept (K:PySem.W.Frag):Sp:=spr__law_kept K 6
def sp__law_is_walk (K:PySem.W.Frag):Sp:=fun vs H Q _=>∃(le:Addr) (pe:List (Int×Str)) (v:V) (o:Option PyData),vs=[.ref le,v]∧EP H le pe∧okP pe∧AV H 5 v o ∧
 ∀H',Same H H'→Q (.bl (walkO pe o)) H'
def T3 (H:Hp) (t:Addr) (e:Int×Str):Prop:=H t=some (.tup [.int (rev e.1 60),.int e.1,.str e.2])
def tA (H:Hp) (t:Addr):Int×Str:=match H t with
 | some (.tup [_,.int k,.str z])=>(k,z)
 | _=>(0,Str.ofString "")
theorem T3.at {H:Hp}{t:Addr}{e:Int×Str}(h:T3 H t e):tA H t=e:=by
 unfold T3 at h;unfold tA;rw[h]
theorem t3_map {H:Hp}{ts:List Addr}{es:List (Int×Str)}(h:P1 (T3 H) ts es):es=ts.map (tA H):=by
 refine List.ext_getElem? fun i=>?_
 rw[List.getElem?_map]
 cases e:ts[i]? with
 | none =>
  have:=List.getElem?_eq_none_iff.mp e
  rw[h.1]at this
  rw[List.getElem?_eq_none this];rfl
 | some t =>
  obtain⟨k,hk,tk⟩:=h.get e
  rw[hk,Option.map_some,tk.at]
theorem t3_mem {H:Hp}{ts:List Addr}{es:List (Int×Str)}(h:P1 (T3 H) ts es) {t:Addr}(ht:t∈ts):T3 H t (tA H t)∧tA H t∈es:=by
 obtain⟨i,hi⟩:=List.getElem?_of_mem ht
 obtain⟨k,hk,tk⟩:=h.get hi
 rw[tk.at];exact⟨tk,List.mem_of_getElem? hk⟩
theorem t3_sort {H:Hp}{ts:List Addr}{pe:List (Int×Str)}(h:P1 (T3 H) ts pe) (ok:okP pe):(∀t∈ts,∃rest,H t=some (.tup (V.int (rev (tA H t).1 60)::rest)))∧(∀t∈ts,∀u∈ts,rev (tA H t).1 60=rev (tA H u).1 60→t=u) ∧
  ∀us:List Addr,us.Perm ts→us.Pairwise (fun a b=>rev (tA H a).1 60≤rev (tA H b).1 60)→∃qs,P1 (T3 H) us qs∧qs.Perm pe∧RvS qs:=by
 have em:=t3_map h
 refine⟨fun t ht=>⟨_,(t3_mem h ht).1⟩,fun t ht u hu e=>?_,fun us p1 p2=>⟨us.map (tA H),⟨by rw[List.length_map],fun i a x e1 e2=>?_⟩,by rw[em];exact p1.map _,?_⟩⟩
 ·have a:=ok.2.1 _ (t3_mem h ht).2
  have b:=ok.2.1 _ (t3_mem h hu).2
  have e2:=rev_inj a.1 a.2.1 b.1 b.2.1 e
  have nd:=ok.1
  rw[em,List.map_map]at nd
  exact inj_of nd t ht u hu e2
 ·rw[List.getElem?_map,e1]at e2
  cases e2
  exact(t3_mem h (p1.mem_iff.mp (List.mem_of_getElem? e1))).1
 ·unfold RvS
  rw[List.pairwise_map]
  exact p2
theorem t3_btw {pe qs:List (Int×Str)}(ok:okP pe) (p:qs.Perm pe) (r:RvS qs) (m o:Int):qs.filter (inB m o)=btw pe m o:=btw_eq ok (p.filter _) (r.filter _)
def PgT (H:Hp) (pe:List (Int×Str)) (t:Addr) (x:Int×Int):Prop:=∃(l:Addr) (us:List Addr),H t=some (.tup [.int x.1,.ref l,.int x.2])∧H l=some (.lst (us.map V.ref))∧EL H us (btw pe x.1 x.2)
def WkL (H:Hp) (pe:List (Int×Str)) (lp:Addr) (pg:List (Int×Int)):Prop:=∃ts:List Addr,H lp=some (.lst (ts.map V.ref))∧P1 (PgT H pe) ts pg
theorem PgT.same {H H':Hp}{pe:List (Int×Str)}{t:Addr}{x:Int×Int}(s:Same H H') (h:PgT H pe t x):PgT H' pe t x:=by
 obtain⟨l,us,h1,h2,h3⟩:=h
 exact⟨l,us,s _ _ h1,s _ _ h2,h3.same s⟩
theorem WkL.same {H H':Hp}{pe:List (Int×Str)}{lp:Addr}{pg:List (Int×Int)}(s:Same H H') (h:WkL H pe lp pg):WkL H' pe lp pg:=by
 obtain⟨ts,h1,h2⟩:=h
 exact⟨ts,s _ _ h1,h2.imp fun _ _ z=>z.same s⟩
theorem btw_len {pe:List (Int×Str)}{m o:Int}:(btw pe m o).length≤pe.length:=by
 rw[(btw_perm pe m o).length_eq]
 exact List.length_filter_le _ _
theorem PgT.tv {H:Hp}{pe:List (Int×Str)}{t:Addr}{x:Int×Int}(h:PgT H pe t x) (ok:okP pe):TV H 3 (.ref t) (pgD pe x):=by
 obtain⟨l,us,h1,h2,h3⟩:=h
 have:=btw_len (pe:=pe) (m:=x.1) (o:=x.2)
 have:=ok.2.2
 exact TV.tup h1 (by simp) (.cons (TV.int _) (.cons (el_dv h2 h3 (by omega)) (.cons (TV.int _) PV.nil)))
theorem WkL.tv {H:Hp}{pe:List (Int×Str)}{lp:Addr}{pg:List (Int×Int)}(h:WkL H pe lp pg) (ok:okP pe) (l:pg.length≤20):TV H 4 (.ref lp) (.list (pg.map (pgD pe))):=by
 obtain⟨ts,h1,h2⟩:=h
 have tl:=h2.1
 refine TV.lst h1 (by rw[List.length_map];omega) ⟨by rw[List.length_map,List.length_map,h2.1],fun i x d e1 e2=>?_⟩
 obtain⟨t,ht,rfl⟩:=refs_get e1
 obtain⟨x,hx,hp⟩:=h2.get ht
 rw[List.getElem?_map,hx]at e2
 cases e2
 exact hp.tv ok
def sp__law_pages (K:PySem.W.Frag):Sp:=fun vs H Q _=>∃(p le:Addr) (N:Nat) (pe:List (Int×Str)) (G:Hp),vs=[.ref p,.ref le]∧GH G p N H H∧N+300<2^60∧EP G le pe∧okP pe ∧
 ∀(lp:Addr) (pg:List (Int×Int)) (G' H':Hp),GH G' p (N+200) H H'→Same G G'→WkL G' pe lp pg→ChM 0 pg→pg.length≤10→Q (.ref lp) H'
theorem t3_tv {H:Hp}{l:Addr}{us:List Addr}{qs:List (Int×Str)}(hl:H l=some (.lst (us.map V.ref))) (h:P1 (T3 H) us qs) (ok:∀e∈qs,PyData.strOk e.2=true) (ln:qs.length≤60):TV H 2 (.ref l) (.list (qs.map fun e=>.tuple [.int (rev e.1 60),.int e.1,.str e.2])):=by
 refine TV.lst hl (by rw[List.length_map,h.1];omega) ⟨by rw[List.length_map,List.length_map,h.1],fun i x d e1 e2=>?_⟩
 obtain⟨u,hu,rfl⟩:=refs_get e1
 obtain⟨e,he,ht⟩:=h.get hu
 rw[List.getElem?_map,he]at e2
 cases e2
 exact TV.tup ht (by simp) (.cons (TV.int _) (.cons (TV.int _) (.cons (TV.str (ok e (List.mem_of_getElem? he))) PV.nil)))
theorem at_in {xs:List V}{i:Int}(h0:0≤i) (h1:i <(xs.length:Int)):∃x,atI xs i=some x∧xs[i.toNat]? = some x:=by
 obtain⟨k,rfl⟩:=Int.eq_ofNat_of_zero_le h0
 have hk:k<xs.length:=by omega
 refine⟨xs[k],?_,by rw[Int.toNat_natCast];exact List.getElem?_eq_getElem hk⟩
 unfold atI
 rw[ixN_in hk]
 exact List.getElem?_eq_getElem hk
theorem TV.nilL {H:Hp}{l:Addr}(h:H l=some (.lst [])):TV H 1 (.ref l) (.list []):=TV.lst h (by simp) PV.nil
def Fr (G G' H:Hp):Prop:=∀b,G b=none→G' b≠none→H b=none
def nv (G H0:Hp) (p D:Addr) (H:Hp):Hp:=fun b=>if (G b).isNone && (H0 b).isSome then none else hid D (vis p H) b
section
variable {G H0 H:Hp}{p D b:Addr}{N:Nat}{xs ys:List V}
theorem nv_some {o:HO}(h:H b=some o) (nt:∀ps,o ≠ .tbl ps) (n1:b≠p) (n2:b≠D) (f:H0 b=none∨G b≠none):nv G H0 p D H b=some o:=by
 unfold nv
 rw[if_neg,hid_ne n2]
 ·exact vis_some h n1 nt
 ·rcases f with f|f
  ·rw[f];simp
  ·cases c:G b with
   | none=>exact absurd c f
   | some x=>simp
theorem nv_in {o:HO}(e:nv G H0 p D H b=some o):H b=some o∧(G b=none→H0 b=none)∧b≠p∧b≠D∧∀ps,o ≠ .tbl ps:=by
 unfold nv at e
 by_cases c:((G b).isNone && (H0 b).isSome)=true
 ·rw[if_pos c]at e;cases e
 ·rw[if_neg c]at e
  have e2:=hid_le _ _ e
  have e3:=vis_le _ _ e2
  refine⟨e3,fun g=>?_,fun z=>?_,fun z=>?_,fun ps z=>?_⟩
  ·rw[g]at c
   cases z:H0 b with
   | none=>rfl
   | some x=>rw[z]at c;exact absurd rfl c
  ·rw[z]at e2;unfold vis at e2;rw[if_pos rfl]at e2;cases e2
  ·rw[z]at e;unfold hid at e;rw[if_pos rfl]at e;cases e
  ·subst z
   unfold vis at e2
   by_cases z:b=p
   ·rw[if_pos z]at e2;cases e2
   ·rw[if_neg z,e3]at e2;cases e2
theorem nv_fr:Fr G (nv G H0 p D H) H0:=fun b g n=>by
 cases c:nv G H0 p D H b with
 | none=>exact absurd c n
 | some o=>exact(nv_in c).2.1 g
theorem nv_same (s:Same G H) (np:G p=none) (nD:G D=none) (nt:∀b ps,G b≠some (.tbl ps)):Same G (nv G H0 p D H):=fun b o e=>nv_some (s _ _ e) (fun ps z=>by rw[z]at e;exact nt b ps e) (ne_of_none e np) (ne_of_none e nD) (.inr (by rw[e];nofun))
theorem nv_none (h:b=p∨b=D):nv G H0 p D H b=none:=by
 cases c:nv G H0 p D H b with
 | none=>rfl
 | some o =>
  have:=nv_in c
  rcases h with h|h
  ·exact absurd h this.2.2.1
  ·exact absurd h this.2.2.2.1
theorem nv_nt:∀b ps,nv G H0 p D H b≠some (.tbl ps):=fun b ps e=>(nv_in e).2.2.2.2 ps rfl
theorem GC.nv (c:GC G p D N ys H0 H):GC (nv G H0 p D H) p D N ys H0 H∧Same G (Law.nv G H0 p D H):=⟨⟨c.ck,fun b o e=>(nv_in e).1,nv_none (.inl rfl),nv_none (.inr rfl),nv_nt⟩,nv_same c.s c.np c.nD c.nt⟩
theorem GC.lst (c:GC G p D N ys H0 H) (h:H b=some (.lst xs)) (f:H0 b=none) (n1:b≠p) (n2:b≠D):Law.nv G H0 p D H b=some (.lst xs):=nv_some h ntl n1 n2 (.inl f)
theorem GC.free (c:GC G p D N ys H0 H) (h:H b=none):H0 b=none∧b≠p∧b≠D:=⟨c.ck.kp.free h (c.ck.hh.ne h),c.ck.hh.ne h,fun z=>by rw[z,c.ck.lat]at h;cases h⟩
theorem GC.tup (c:GC G p D N ys H0 H) (h:H b=some (.tup xs)) (f:H0 b=none):Law.nv G H0 p D H b=some (.tup xs):=by
 obtain⟨l,a,z,ns,h1,_⟩:=c.ck.hh.ex
 exact nv_some h ntt (ne_of h h1 nofun) (ne_of h c.ck.lat nofun) (.inl f)
end
def EnX (G:Hp) (w:V):Prop:=∃u k z,w = .ref u∧G u=some (.tup [.int k,.str z])∧PyData.strOk z=true∧z.length≤100
theorem EnX.same {G G':Hp}{w:V}(s:Same G G') (h:EnX G w):EnX G' w:=by
 obtain⟨u,k,z,e,h1,h2⟩:=h
 exact⟨u,k,z,e,s _ _ h1,h2⟩
theorem EnX.tv {G:Hp}{w:V}(h:EnX G w):∃d,TV G 1 w d:=by
 obtain⟨u,k,z,rfl,h1,h2,_⟩:=h
 exact⟨_,TV.tup h1 (by simp) (.cons (TV.int _) (.cons (TV.str h2) PV.nil))⟩
def PgX (G:Hp) (t:Addr) (m:Int) (l:Addr) (o:Int) (ws:List V):Prop:=G t=some (.tup [.int m,.ref l,.int o])∧G l=some (.lst ws)∧ws.length≤60∧∀w∈ws,EnX G w
theorem PgX.same {G G':Hp}{t l:Addr}{m o:Int}{ws:List V}(s:Same G G') (h:PgX G t m l o ws):PgX G' t m l o ws:=⟨s _ _ h.1,s _ _ h.2.1,h.2.2.1,fun w hw=>(h.2.2.2 w hw).same s⟩
theorem lst_tv {G:Hp}{n:Nat}{l:Addr}{ws:List V}(h:G l=some (.lst ws)) (ln:ws.length≤500) (a:∀w∈ws,∃d,TV G n w d):∃ds,TV G (n+1) (.ref l) (.list ds):=by
 obtain⟨ds,p⟩:=PV.ex a
 exact⟨ds,TV.lst h ln p⟩
theorem tup_tv {G:Hp}{n:Nat}{l:Addr}{ws:List V}(h:G l=some (.tup ws)) (ln:ws.length≤500) (a:∀w∈ws,∃d,TV G n w d):∃ds,TV G (n+1) (.ref l) (.tuple ds):=by
 obtain⟨ds,p⟩:=PV.ex a
 exact⟨ds,TV.tup h ln p⟩
theorem any2 {G:Hp}{n:Nat}{a b:V}(ha:∃d,TV G n a d) (hb:∃d,TV G n b d):∀w ∈ [a,b],∃d,TV G n w d:=fun w hw=>by
 rcases List.mem_cons.mp hw with rfl|hw
 ·exact ha
 ·cases List.mem_singleton.mp hw;exact hb
theorem any3 {G:Hp}{n:Nat}{a b c:V}(ha:∃d,TV G n a d) (hb:∃d,TV G n b d) (hc:∃d,TV G n c d):∀w ∈ [a,b,c],∃d,TV G n w d:=fun w hw=>by
 rcases List.mem_cons.mp hw with rfl|hw
 ·exact ha
 ·exact any2 hb hc w hw
theorem iT {G:Hp}{n:Nat}(i:Int):∃d,TV G n (.int i) d:=⟨_,TV.int i⟩
theorem PgX.in {G:Hp}{t l:Addr}{m o:Int}{ws:List V}(h:PgX G t m l o ws):∃d,TV G 2 (.ref l) d:=by
 obtain⟨ds,h⟩:=lst_tv h.2.1 (by have:=h.2.2.1;omega) fun w hw=>(h.2.2.2 w hw).tv
 exact⟨_,h⟩
theorem PgX.tv {G:Hp}{t l:Addr}{m o:Int}{ws:List V}(h:PgX G t m l o ws):∃d,TV G 3 (.ref t) d:=by
 obtain⟨ds,z⟩:=tup_tv h.1 (by simp) (any3 (iT _) h.in (iT _))
 exact⟨_,z⟩
theorem PgT.px {H:Hp}{pe:List (Int×Str)}{t:Addr}{x:Int×Int}(h:PgT H pe t x) (ok:okP pe):∃l ws,PgX H t x.1 l x.2 ws:=by
 obtain⟨l,us,h1,h2,h3⟩:=h
 have:=btw_len (pe:=pe) (m:=x.1) (o:=x.2)
 have:=ok.2.2
 have:=h3.1
 refine⟨l,_,h1,h2,by rw[List.length_map];omega,fun w hw=>?_⟩
 obtain⟨u,hu,rfl⟩:=List.mem_map.mp hw
 obtain⟨i,hi⟩:=List.getElem?_of_mem hu
 obtain⟨e,_,he,e1,_,_,e2⟩:=h3.get hi
 exact⟨u,e.1,e.2,rfl,he,e1,e2⟩
theorem cut_in {xs:List V}{a b:Option Int}:(cutV xs a b).length≤xs.length∧∀x∈cutV xs a b,x∈xs:=by
 unfold cutV
 refine⟨?_,fun x h=>List.mem_of_mem_drop (List.mem_of_mem_take h)⟩
 rw[List.length_take,List.length_drop];omega
theorem strOk_app {a b:Str}(ha:PyData.strOk a=true) (hb:PyData.strOk b=true):PyData.strOk (a++b)=true:=by
 unfold PyData.strOk at ha hb ⊢
 rw[Array.all_eq_true_iff_forall_mem]at ha hb ⊢
 intro c hc
 rcases Array.mem_append.mp hc with h|h
 ·exact ha c h
 ·exact hb c h
theorem sI {G:Hp}{n:Nat}{z:Str}(h:PyData.strOk z=true):∃d,TV G n (.str z) d:=⟨_,TV.str h⟩
def sp__law_inside (K:PySem.W.Frag):Sp:=fun vs H Q _=>∃(p t l:Addr) (N:Nat) (m o:Int) (ws:List V) (G:Hp),vs=[.ref p,.ref t]∧GH G p N H H∧N+20<2^60∧PgX G t m l o ws ∧
 ∀(v:V) (d:PyData) (G' H':Hp),TV G' 3 v d→GH G' p (N+10) H H'→Same G G'→Fr G G' H→Q v H'
def sp__law_shifted (K:PySem.W.Frag):Sp:=fun vs H Q _=>∃(t1 l1 t2 l2:Addr) (m1 o1 m2 o2 way:Int) (ws1 ws2:List V) (G:Hp),vs=[.ref t1,.ref t2,.int way]∧Same G H∧(∀b ps,G b≠some (.tbl ps))∧PgX G t1 m1 l1 o1 ws1∧PgX G t2 m2 l2 o2 ws2 ∧
 ∀(l:Addr) (a b:V) (d1 d2:PyData) (G' H':Hp),H l=none→H' l=some (.lst [a,b])→TV G' 3 a d1→TV G' 3 b d2→Same G' H'→Same G G'→Fr G G' H→(∀b ps,G' b≠some (.tbl ps))→Same H H'→Q (.ref l) H'
def sp__law_spoilt (K:PySem.W.Frag):Sp:=fun vs H Q _=>∃(p lp:Addr) (N:Nat) (pe:List (Int×Str)) (pg:List (Int×Int)) (G:Hp),vs=[.ref p,.ref lp]∧GH G p N H H∧N+50<2^60∧WkL G pe lp pg∧okP pe∧pg ≠ []∧pg.length≤10 ∧
 ∀(v:V) (o:Option PyData) (G' H':Hp),AV G' 5 v o→GH G' p (N+40) H H'→Same G G'→Q v H'
def SpI (G H:Hp) (p lp D:Addr) (N:Nat) (way m o:Int) (a:Nat) (l:Addr):L2.St→Hp→Prop:=fun σ' H'=>∃(x8:Option V) (ys:List V) (G':Hp),σ'=[some (.ref p),some (.ref lp),some (.int way),some (.ref D),some (.int a),some (.int m),some (.ref l),some (.int o),x8]∧GC G' p D (N+30) ys H H'∧Same G G'∧ys.length≤20∧(∀x∈ys,∃d,TV G' 3 x d)
theorem SpI.mk {G G' H H':Hp}{p lp D l:Addr}{N M a:Nat}{way m o:Int}{x8:Option V}{W ys:List V}(we:∀x∈W,∃d,TV G 3 x d) (c:GC G' p D M ys H H') (h:M≤N+30) (s:Same G G') (yl:ys.length≤20) (ye:∀x∈ys,x∈W ∨ ∃d,TV G' 3 x d):SpI G H p lp D N way m o a l [some (.ref p),some (.ref lp),some (.int way),some (.ref D),some (.int a),some (.int m),some (.ref l),some (.int o),x8] H' :=
 ⟨x8,ys,G',rfl,c.mono h,s,yl,fun x hx=>by
  rcases ye x hx with z|z
  ·obtain⟨d,hd⟩:=we x z
   exact⟨d,hd.same s⟩
  ·exact z⟩
theorem GC.more {G G' H0 H H':Hp}{p D:Addr}{N:Nat}{ys:List V}(c:GC G p D N ys H0 H) (s:Same H H') (s1:Same G' H') (fr:Fr G G' H) (nt:∀b ps,G' b≠some (.tbl ps)):GC G' p D N ys H0 H':=by
 have h1:∀b,H b≠none→G b=none→G' b=none:=fun b hb g=>by
  cases c:G' b with
  | none=>rfl
  | some x=>exact absurd (fr b g (by rw[c];nofun)) hb
 obtain⟨l,a,z,ns,h2,_⟩:=c.ck.hh.ex
 exact⟨(c.same s).ck,s1,h1 _ (by rw[h2];nofun) c.np,h1 _ (by rw[c.ck.lat];nofun) c.nD,nt⟩
theorem GC.moreH {G G' H0 H H':Hp}{p D:Addr}{N M:Nat}{ys:List V}(c:GC G p D N ys H0 H) (g:GH G' p M H H') (fr:Fr G G' H):GC G' p D M ys H0 H':=by
 refine⟨c.ck.draw g.kp g.hh,g.s,g.np,?_,g.nt⟩
 cases z:G' D with
 | none=>rfl
 | some x=>exact absurd (fr D c.nD (by rw[z];nofun)) (by rw[c.ck.lat];nofun)
theorem set_or {W:List V}{x y:V}{a:Nat}(h:x∈W.set a y):x∈W∨x=y:=List.mem_or_eq_of_mem_set h
theorem GH.base {G H0 H:Hp}{p:Addr}{N:Nat}(g:GH G p N H0 H):GH G p N H H:=⟨g.s,g.np,g.hh,Kp.refl _ _,g.nt⟩
theorem AV.sm {H H':Hp}{n:Nat}{v:V}{o:Option PyData}(s:Sm H H') (h:AV H n v o):AV H' n v o:=by
 rcases h with⟨d,e,t⟩|⟨e,dd,e2,h⟩
 ·exact .inl ⟨d,e,t.sm s⟩
 ·exact .inr ⟨e,dd,e2,s.nt _ _ h fun _=>nofun⟩
theorem pg_turn {pe pe':List (Int×Str)}(ok:okP pe) (p:pe'.Perm pe) (pg:List (Int×Int)):pg.map (pgD pe)=pg.map (pgD pe'):=List.map_congr_left fun x _=>by
 unfold pgD
 rw[btw_cong ok p]
theorem ok_turn {pe pe':List (Int×Str)}(ok:okP pe) (p:pe'.Perm pe):okP pe':=⟨(p.map _).nodup_iff.mpr ok.1,fun e he=>ok.2.1 e (p.mem_iff.mp he),by rw[p.length_eq];exact ok.2.2⟩
theorem walk_pg {pe:List (Int×Str)}(ok:okP pe) {pg:List (Int×Int)}(ch:ChM 0 pg):walkO pe (some (.list (pg.map (pgD pe))))=true:=walk_good ok ch
theorem EL.rev {H:Hp}{ts:List Addr}{es:List (Int×Str)}(h:EL H ts es):EL H ts.reverse es.reverse:=by
 have hl:=h.1
 refine⟨by rw[List.length_reverse,List.length_reverse,hl],fun i t e e1 e2=>?_⟩
 have i1:=(List.getElem?_eq_some_iff.mp e1).1
 rw[List.length_reverse]at i1
 rw[List.getElem?_reverse i1]at e1
 rw[List.getElem?_reverse (by omega),← hl]at e2
 exact h.2 _ t e e1 e2
theorem EL.kp {H H':Hp}{p:Addr}{N:Nat}{ts:List Addr}{es:List (Int×Str)}(hh:Hand H p N) (k:Kp H H' p) (h:EL H ts es):EL H' ts es:=h.imp fun t e y=>⟨k.1 _ _ y.1 (by
 obtain⟨l,a,c,ns,h1,_⟩:=hh.ex
 exact ne_of y.1 h1 nofun),y.2⟩
theorem okP_nil:okP []:=⟨List.nodup_nil,fun _ h=>(by cases h),by simp⟩
theorem pgD_nil:pgD [] (0,1152921504606846976) = .tuple [.int 0,.list [],.int 1152921504606846976]:=by simp[pgD,btw]
section
variable {P:Program}{w:World}{K:PySem.W.Frag}{mg:Str→Option Value}{base:Heap}
theorem ok_turned {f:Addr}{fd:FuncData}(F:Fun K "turned" "turned" s_turned f fd) (mF:mg "turned" = some (.ref f)) (bF:Binds K fd ["key"] []) (T:Bl mg)  : Cal P w K mg base "turned" ["key"] 1 (sp_turned K):=by
 refine Cal.of F mF bF sc_turned (fun vs H Q E h=>?_) (fun cdv A outer s H vs Q E hr h=>?_)
 ·obtain⟨k,rfl,_⟩:=h;rfl
 obtain⟨k,rfl,q⟩:=h
 refine⟨_,(pss_cons (ps_set (i:=1) sc_turned.nd rfl (Or.inl rfl) pe_int)
   (pss_cons (ps_for PassesOwn.never rfl (pi_range1 rfl T.range (pa_cons (pe_gint rfl T.c_KEY_BITS) pa_nil stx_Name)) (pg_name (i:=2) sc_turned.nd rfl (Or.inl rfl)) (pss_one (ps_set (i:=1) sc_turned.nd rfl (Or.inl rfl) (pe_op op_add (pe_op op_mul (pv 1) pe_int) (pe_op op_mod (pe_op op_shr (pv 0) (pv 2)) pe_int)))))
   (pss_one (ps_ret (pv 1))))),?_⟩
 rw[st_turned]
 walk_at"rd"
 refine⟨60,rfl,by omega,by omega,?_⟩
 refine for_rangeO (n:=60) (fun i σ H'=>(∃x,σ=[some (.int k),some (.int (rev k i)),x])∧H'=H) ⟨⟨_,rfl⟩,rfl⟩ ?_ ?_
 ·rintro i σ H' hi ⟨⟨x,rfl⟩,rfl⟩
  walk_at"rd"
  refine⟨⟨some (.int (0+(i:Int))),?_⟩,rfl⟩
  rw[show(0+(i:Int)).toNat=i by omega]
  rfl
 ·rintro σ H' ⟨⟨x,rfl⟩,rfl⟩
  walk_at"rd"
  exact q
theorem ok_is_whole {f:Addr}{fd:FuncData}(F:Fun K "is_whole" "is_whole" s_is_whole f fd) (mF:mg "is_whole" = some (.ref f)) (bF:Binds K fd ["thing"] []) (T:Bl mg)  : Cal P w K mg base "is_whole" ["thing"] 1 (sp_is_whole K):=by
 refine Cal.of F mF bF sc_is_whole (fun vs H Q E h=>?_) (fun cdv A outer s H vs Q E hr h=>?_)
 ·obtain⟨v,d,n,rfl,_⟩:=h;rfl
 obtain⟨v,d,n,rfl,td,q⟩:=h
 obtain⟨ty,h0,h1,h2,_⟩:=TV.ty (K:=K) td
 refine⟨_,(pss_one (ps_ret (pe_and (pe_callB call_isinst rfl T.isinstance bt_isinstance (pa_cons (pv 0) (pa_cons (pe_bltn (v:=.ty "int") rfl T.int bt_int rfl) pa_nil stx_Name) stx_Name)) (pe_one (pe_not (pe_callB call_isinst rfl T.isinstance bt_isinstance (pa_cons (pv 0) (pa_cons (pe_bltn (v:=.ty "bool") rfl T.bool bt_bool rfl) pa_nil stx_Name) stx_Name))))))),?_⟩
 rw[st_is_whole]
 walk_at"rd"
 by_cases c:(dI d || dB d)=true
 ·rw[c]at h1
  refine rd_isi h0 h1 ?_
  walk_at"rd"
  refine rd_isi h0 h2 ?_
  walk_at"rd"
  have e:(!dB d)=dI d:=by cases d <;> first|rfl|cases c
  rw[e]
  exact q
 ·have c:(dI d || dB d)=false:=by simpa using c
  rw[c]at h1
  refine rd_isi h0 h1 ?_
  walk_at"rd"
  have e:dI d=false:=by cases d <;> first|rfl|cases c
  rw[e]at q
  exact q
theorem ok_between {f:Addr}{fd:FuncData}(F:Fun K "between" "between" s_between f fd) (mF:mg "between" = some (.ref f)) (bF:Binds K fd ["entries", "mark", "onward"] []) (T:Bl mg) (LM:Lam K mg base "between" f fd) (C_turned:Cal P w K mg base "turned" ["key"] 1 (sp_turned K)):Cal P w K mg base "between" ["entries", "mark", "onward"] 5 (sp_between K):=by
 refine Cal.ofC F mF bF sc_between (fun vs H Q E h=>?_) (fun cdv A outer s H vs Q E hcd hr h=>?_)
 ·obtain⟨l,ts,ps,m,o,rfl,_⟩:=h;rfl
 obtain⟨l,ts,ps,m,o,rfl,hl,el,pl,tb,q⟩:=h
 obtain⟨c0,hc0,hC0⟩:=LM.code
 have hcode:=hcd.trans hc0
 refine⟨_,(pss_cons (ps_setc (i:=3) sc_between.nd rfl rfl rfl (blkOk (sc:=defScope s_between) (N:=["entries", "mark", "onward", "within"]) (vs:=["entry"]) (fs:=["mark", "onward"]) (js:=[1,2]) (by decide +kernel) rfl rfl) (pi_list (pv 0)) (fun _ _ _ _=>pg_name (i:=0) (show(["entry", "mark", "onward"]:List Str).Nodup by decide +kernel) rfl (Or.inl rfl)) (fun _ _ _ _=>pif1 (pt_chain op_le op_lt (pv 1) (pcl C_turned (hr.mono (by decide)) (pa_cons (pe_ix (ix_tupK (K:=K) rfl) (pv 0) pe_int (fun _ _=>rfl)) pa_nil stx_Subscript)) (pv 2))) (fun _ _ _ _=>(pv 0)))
   (pss_one (ps_ret (pe_sortLV (k:=1) (P:=tbP K "between") (lamOk (sc:=defScope s_between) (N:=["entries", "mark", "onward", "within"]) (y := "entry") (fs:=[]) (js:=[]) (by decide +kernel) rfl rfl) (hr.mono (by decide)) rfl T.sorted rfl (pa_cons (pv 3) pa_nil stx_Name) rfl hcode hC0 LM.bm (fun _ _ _ _ _=>(pcl C_turned ((hr.mono (j:=4) (by decide)).in1.in1.deeper _) (pa_cons (pe_ix (ix_tupK (K:=K) rfl) (pv 0) pe_int (fun _ _=>rfl)) pa_nil stx_Subscript))) (fun _ _ _ _=>rfl))))),?_⟩
 rw[st_between]
 walk_at"rd"
 refine⟨l,rfl,⟨_,SqL.of hl⟩,fun D nD=>?_⟩
 refine comp_list (xs:=ts.map V.ref) (fun i σ' ys H'=>(∃x,σ'=[x,some (.int m),some (.int o)])∧Same H H'∧H' D=some (.lst ys)∧∃us:List Addr,ys=us.map V.ref∧EL H us ((ps.take i).filter (inB m o))) D ⟨⟨_,rfl⟩,same_new nD _,upd_same,[],rfl,P1.nil⟩ (fun i σ' ys H' _ h=>SqL.of (h.2.1 _ _ hl)) ?_ ?_
 ·rintro i x σ' ys H1 hx ⟨⟨x1,rfl⟩,s1,hD,us,rfl,eu⟩
  obtain⟨u,hu,rfl⟩:=refs_get hx
  have il:i<ps.length:=by rw[← el.1];exact(List.getElem?_eq_some_iff.mp hu).1
  obtain⟨e,he⟩ : ∃e,ps[i]? = some e:=⟨_,List.getElem?_eq_getElem il⟩
  have hte:=el.2 i u e hu he
  have ht1:=s1 _ _ hte.1
  have fl:=List.length_filter_le (inB m o) (ps.take i)
  rw[List.length_take,← eu.1]at fl
  have es:(ps.take (i+1)).filter (inB m o) =(ps.take i).filter (inB m o)++(if inB m o e then [e] else []):=by
   rw[take_get he,List.filter_append];congr 1
   by_cases c:inB m o e=true
   ·simp[c]
   ·simp[c]
  walk_at"rd"
  refine⟨_,rfl,?_⟩
  walk_at"rd"
  by_cases c1:m≤rev e.1 60
  ·rw[decide_eq_true c1]
   walk_at"rd"
   by_cases c2:rev e.1 60<o
   ·rw[decide_eq_true c2]
    walk_at"rd"
    refine⟨hD,small1000 (by rw[List.length_map];omega),⟨_,rfl⟩,fun c o e=>by rw[upd_ne (ne_of_none e nD)];exact s1 _ _ e,upd_same,us ++ [u],by rw[List.map_append];rfl,?_⟩
    rw[es,if_pos (by unfold inB;rw[decide_eq_true c1,decide_eq_true c2];rfl)]
    exact eu.snoc hte
   ·rw[decide_eq_false c2]
    walk_at"rd"
    refine⟨⟨_,rfl⟩,s1,hD,us,rfl,?_⟩
    rw[es,if_neg (by unfold inB;rw[decide_eq_false c2,Bool.and_false];simp),List.append_nil];exact eu
  ·rw[decide_eq_false c1]
   walk_at"rd"
   refine⟨⟨_,rfl⟩,s1,hD,us,rfl,?_⟩
   rw[es,if_neg (by unfold inB;rw[decide_eq_false c1,Bool.false_and];simp),List.append_nil];exact eu
 ·rintro σ' ys H1 ⟨⟨x1,rfl⟩,s1,hD,us,rfl,eu⟩
  rw[List.length_map,el.1,List.take_length]at eu
  have fl:=List.length_filter_le (inB m o) ps
  have ul:=eu.1
  walk_at"rd"
  refine⟨D,us.map V.ref,keyAt H,rfl,SqL.of hD,by rw[List.length_map];omega,tb.same s1,fun H2 s2 tb2=>⟨fun z hz R hR=>?_,fun ms l' m1 m2 nl=>?_⟩⟩
  ·obtain⟨u,hu,rfl⟩:=List.mem_map.mp hz
   obtain⟨j,hj⟩:=List.getElem?_of_mem hu
   obtain⟨e,_,hte,_⟩:=eu.get hj
   have hu2:=s2.tup (s1 _ _ hte)
   show tCall (sp_turned K) [] E0 (tCons (tOp (rIxT K) (tVar 0) (tC (V.int 0))) tNil) [some (.ref u)] H2 R
   walk_at"rd"
   refine⟨e.1,rfl,?_⟩
   rw[keyAt_of hte]at hR;exact hR
  ·obtain⟨vs,rfl,vp⟩:=refs_perm m1
   obtain⟨qs,eq,qp⟩:=eu.turn vp
   generalize hE:upd H2 l' _=H3
   obtain⟨h3,s3⟩:=newo nl hE
   clear hE
   have s13:=(s1.sm.trans s2).trans s3.sm
   exact q l' vs qs H3 (s1.free (s2.free nl)) h3 (eq.imp fun _ _ z=>⟨s13.tup z.1,z.2⟩) qp (eq.rv m2) s13 (tb2.same s3)
theorem ok_is_walk {f:Addr}{fd:FuncData}(F:Fun K "is_walk" "is_walk" s_is_walk f fd) (mF:mg "is_walk" = some (.ref f)) (bF:Binds K fd ["entries", "thing"] []) (T:Bl mg) (C_is_page:Cal P w K mg base "is_page" ["entries", "mark", "thing"] 6 (sp_is_page K)):Cal P w K mg base "is_walk" ["entries", "thing"] 7 (sp_is_walk K):=by
 refine Cal.of F mF bF sc_is_walk (fun vs H Q E h=>?_) (fun cdv A outer s H vs Q E hr h=>?_)
 ·obtain⟨le,pe,v,o,rfl,_⟩:=h;rfl
 obtain⟨le,pe,v,o,rfl,ep,ok,tb,av,q⟩:=h
 have hu:=hr.units
 refine⟨_,(pss_cons (ps_if (pt_not (pt_val (pe_callB call_isinst rfl T.isinstance bt_isinstance (pa_cons (pv 1) (pa_cons (pe_bltn (v:=.ty "list") rfl T.list bt_list rfl) pa_nil stx_Name) stx_Name)))) (pss_one (ps_ret pe_bl)) pss_nil)
   (pss_cons (ps_set (i:=2) sc_is_walk.nd rfl (Or.inl rfl) pe_int)
   (pss_cons (ps_for PassesOwn.never rfl (pi_list (pv 1)) (pg_name (i:=3) sc_is_walk.nd rfl (Or.inl rfl)) (pss_cons (ps_if (pt_not (pt_val (pcl C_is_page (hr.mono (by decide)) (pa_cons (pv 0) (pa_cons (pv 2) (pa_cons (pv 3) pa_nil stx_Name) stx_Name) stx_Name)))) (pss_one (ps_ret pe_bl)) pss_nil)
   (pss_one (ps_set (i:=2) sc_is_walk.nd rfl (Or.inl rfl) (pe_ix ix_tup (pv 3) pe_int (fun _ _=>rfl))))))
   (pss_one (ps_ret (pe_cmpR op_eq (pv 2) (pe_gint rfl T.c_END) (nomark _))))))),?_⟩
 rw[st_is_walk]
 walk_at"rd"
 rcases av with⟨d,rfl,td⟩|⟨rfl,dd,rfl,hdd⟩
 ·obtain⟨ty,h0,_,_,_,h4⟩:=TV.ty (K:=K) td
  have q:∀H',Sm H H'→TB_between K H'→Q (.bl (walkB pe d)) H':=q
  by_cases c:dL d=true
  ·obtain⟨ds,rfl⟩ : ∃ds,d = .list ds:=by
    cases d <;> first|exact⟨_,rfl⟩|cases c
   refine rd_isi h0 (b:=true) h4 ?_
   walk_at"rd"
   obtain⟨j,lp,xs,ej,rfl,hlp,xl,pw⟩:=td.asL
   have ej:j=4:=by omega
   subst ej
   have ol:=pw.l1
   refine⟨lp,rfl,⟨_,SqL.of hlp⟩,?_⟩
   refine for_listO (xs:=xs) (fun i σ H'=>(∃m y3,σ=[some (.ref le),some (.ref lp),some (.int m),y3]∧walkL pe 0 ds=walkL pe m (ds.drop i))∧Sm H H'∧TB_between K H') ⟨⟨_,_,rfl,rfl⟩,Sm.refl _,tb⟩ (fun _ _ _ _ h=>SqL.of (h.2.1.lst hlp)) ?_ ?_
   ·rintro i x σ H1 hx ⟨⟨m,y3,rfl,hw⟩,s1,tb1⟩
    obtain⟨d,hd,r⟩:=pw.get hx
    have il:=(List.getElem?_eq_some_iff.mp hd).1
    rw[List.drop_eq_getElem_cons il,(List.getElem?_eq_some_iff.mp hd).2]at hw
    have st:walkL pe m (d::ds.drop (i+1))=match pageN pe m d with
     | some b=>walkL pe b (ds.drop (i+1))
     | none=>false:=by
     conv=>lhs;unfold walkL
    walk_at"rd"
    refine⟨le,pe,m,x,d,rfl,EP.sm s1 ep,ok,tb1,r.sm s1,fun H2 s2 tb2=>?_⟩
    have r2:=(r.sm s1).sm s2
    cases cp:pageN pe m d with
    | none =>
     rw[cp]at st
     rw[Option.isSome_none]
     walk_at"rd"
     have q:Q (.bl (walkL pe 0 ds)) H2:=q H2 (s1.trans s2) tb2
     rw[hw,st]at q
     exact q
    | some b =>
     rw[cp]at st
     rw[Option.isSome_some]
     obtain⟨t,x0,x1,ht⟩ : ∃t x0 x1,x = .ref t∧H2 t=some (.tup [x0,x1,.int b]):=by
      unfold pageN at cp
      split at cp
      ·split at cp
       ·cases cp
        obtain⟨_,t,ys,_,e,ht,_,p⟩:=r2.asT
        obtain⟨x0,x1,x2,rfl⟩:=len3 (xs:=ys) p.l1
        obtain rfl:=(p.at' 2 x2 _ rfl rfl).asI
        exact⟨t,x0,x1,e,ht⟩
       ·cases cp
      ·cases cp
     obtain⟨rfl,ht⟩:=ht
     walk_at"rd"
     exact⟨⟨b,_,rfl,hw.trans st⟩,s1.trans s2,tb2⟩
   ·rintro σ H1 ⟨⟨m,y3,rfl,hw⟩,s1,tb1⟩
    rw[ol,List.drop_length]at hw
    walk_at"rd"
    have q:Q (.bl (walkL pe 0 ds)) H1:=q H1 s1 tb1
    rw[hw]at q
    unfold walkL at q
    exact q
  ·have c:dL d=false:=by simpa using c
   rw[c]at h4
   refine rd_isi h0 h4 ?_
   walk_at"rd"
   have e:walkB pe d=false:=by cases d <;> first|rfl|cases c
   rw[e]at q
   exact q H (Sm.refl _) tb
 ·refine rd_isi (.dK hdd) (b:=false) rfl ?_
  walk_at"rd"
  exact q H (Sm.refl _) tb
theorem ok_is_page {f:Addr}{fd:FuncData}(F:Fun K "is_page" "is_page" s_is_page f fd) (mF:mg "is_page" = some (.ref f)) (bF:Binds K fd ["entries", "mark", "thing"] []) (T:Bl mg) (C_between:Cal P w K mg base "between" ["entries", "mark", "onward"] 5 (sp_between K)) (C_is_whole:Cal P w K mg base "is_whole" ["thing"] 1 (sp_is_whole K)) (C_is_like_entry:Cal P w K mg base "is_like_entry" ["thing"] 2 (sp_is_like_entry K)):Cal P w K mg base "is_page" ["entries", "mark", "thing"] 6 (sp_is_page K):=by
 refine Cal.of F mF bF sc_is_page (fun vs H Q E h=>?_) (fun cdv A outer s H vs Q E hr h=>?_)
 ·obtain⟨le,pe,m,v,d,rfl,_⟩:=h;rfl
 obtain⟨le,pe,m,v,d,rfl,ep,ok,tb,td,q⟩:=h
 have hu:=hr.units
 obtain⟨ty,h0,_,_,h3,_⟩:=TV.ty (K:=K) td
 refine⟨_,(pss_cons (ps_if (PW.pt (pw_or (pt_not (pt_val (pe_callB call_isinst rfl T.isinstance bt_isinstance (pa_cons (pv 2) (pa_cons (pe_bltn (v:=.ty "tuple") rfl T.tuple bt_tuple rfl) pa_nil stx_Name) stx_Name)))) (pw_or1 (pt_cmpR op_ne (pe_callB call_lenL rfl T.len bt_len (pa_cons (pv 2) pa_nil stx_Name)) pe_int (nomark _))))) (pss_one (ps_ret pe_bl)) pss_nil)
   (pss_cons (ps_asg (pv 2) (pg_tup rfl (pgs_cons (pg_name (i:=3) sc_is_page.nd rfl (Or.inl rfl)) (pgs_cons (pg_name (i:=4) sc_is_page.nd rfl (Or.inl rfl)) (pgs_cons (pg_name (i:=5) sc_is_page.nd rfl (Or.inl rfl)) pgs_nil)))))
   (pss_cons (ps_if (PW.pt (pw_or (pt_not (pt_val (pcl C_is_whole (hr.mono (by decide)) (pa_cons (pv 3) pa_nil stx_Name)))) (pw_or (pt_not (pt_val (pcl C_is_whole (hr.mono (by decide)) (pa_cons (pv 5) pa_nil stx_Name)))) (pw_or (pt_cmpR op_ne (pv 3) (pv 1) (nomark _)) (pw_or1 (pt_cmpR op_le (pv 5) (pv 1) (nomark _))))))) (pss_one (ps_ret pe_bl)) pss_nil)
   (pss_cons (ps_if (PW.pt (pw_or (pt_not (pt_val (pe_callB call_isinst rfl T.isinstance bt_isinstance (pa_cons (pv 4) (pa_cons (pe_bltn (v:=.ty "list") rfl T.list bt_list rfl) pa_nil stx_Name) stx_Name)))) (pw_or1 (pt_not (pt_val (pe_callB (call_allL rfl) rfl T.all bt_all (pa_cons (pe_comp rfl (blkOk (sc:=defScope s_is_page) (N:=["entries", "mark", "thing", "first", "own", "onward"]) (vs:=["entry"]) (fs:=[]) (js:=[]) (by decide +kernel) rfl rfl) (pi_list (pv 4)) (fun _ _ _ _=>pg_name (i:=0) (show(["entry"]:List Str).Nodup by decide +kernel) rfl (Or.inl rfl)) (fun _ _ _ _=>pif0) (fun _ _ _ _=>(pcl C_is_like_entry (hr.mono (by decide)) (pa_cons (pv 0) pa_nil stx_Name)))) pa_nil stx_ListComp))))))) (pss_one (ps_ret pe_bl)) pss_nil)
   (pss_one (ps_ret (pe_cmpR (op_eqD hu) (pv 4) (pcl C_between (hr.mono (by decide)) (pa_cons (pv 0) (pa_cons (pv 1) (pa_cons (pv 5) pa_nil stx_Name) stx_Name) stx_Name)) (nomark _)))))))),?_⟩
 rw[st_is_page]
 have none_of:(∀a own b,d ≠ .tuple [.int a,.list own,.int b])→(pageN pe m d).isSome=false:=fun n=>by
  unfold pageN
  split
  ·exact absurd rfl (n _ _ _)
  ·rfl
 walk_at"rd"
 by_cases c:dT d=true
 ·obtain⟨ds,rfl⟩ : ∃ds,d = .tuple ds:=by
   cases d <;> first|exact⟨_,rfl⟩|cases c
  refine rd_isi h0 (b:=true) h3 ?_
  obtain⟨j,t,xs,ej,rfl,ht,xl,pw⟩:=td.asT
  have ej:j=3:=by omega
  subst ej
  have ln:=pw.l1
  walk_at"rd"
  refine⟨t,_,rfl,.inr (SqT.of ht),?_⟩
  walk_at"rd"
  by_cases c2:ds.length=3
  ·obtain⟨a,b,e,rfl⟩:=len3 c2
   obtain⟨x,y,z,rfl⟩:=len3 (xs:=xs) (by omega)
   have p0:=pw.at' 0 x a rfl rfl
   have p1:=pw.at' 1 y b rfl rfl
   have p2:=pw.at' 2 z e rfl rfl
   refine rd_ifn (fun c=>absurd rfl c) (fun _=>?_)
   walk_at"rd"
   refine⟨t,_,rfl,SqT.of ht,rfl,_,_,rfl,_,_,rfl,_,_,rfl,rfl,?_⟩
   walk_at"rd"
   refine⟨x,a,3,rfl,p0,?_⟩
   by_cases ca:dI a=true
   ·rw[ca]
    obtain⟨a,rfl⟩ : ∃i,a = .int i:=by
     cases a <;> first|exact⟨_,rfl⟩|cases ca
    obtain rfl:=p0.asI
    walk_at"rd"
    refine⟨z,e,3,rfl,p2,?_⟩
    by_cases ce:dI e=true
    ·rw[ce]
     obtain⟨o,rfl⟩ : ∃i,e = .int i:=by
      cases e <;> first|exact⟨_,rfl⟩|cases ce
     obtain rfl:=p2.asI
     walk_at"rd"
     by_cases cm:a=m
     ·subst cm
      rw[if_neg (by simp)]
      walk_at"rd"
      by_cases co:o≤a
      ·rw[decide_eq_true co]
       walk_at"rd"
       have e:(pageN pe a (.tuple [.int a,b,.int o])).isSome=false:=by
        unfold pageN
        split
        ·rename_i h;cases h;rw[if_neg (by omega)];rfl
        ·rfl
       rw[e]at q
       exact q H (Sm.refl _) tb
      ·rw[decide_eq_false co]
       walk_at"rd"
       obtain⟨ty1,k0,_,_,_,k4⟩:=TV.ty (K:=K) p1
       by_cases cb:dL b=true
       ·obtain⟨own,rfl⟩ : ∃ds,b = .list ds:=by
         cases b <;> first|exact⟨_,rfl⟩|cases cb
        refine rd_isi k0 (b:=true) k4 ?_
        walk_at"rd"
        obtain⟨j,l,ys,ej,rfl,hl,yl,pl⟩:=p1.asL
        have ej:j=2:=by omega
        subst ej
        have ol:=pl.l1
        refine⟨l,rfl,⟨_,SqL.of hl⟩,fun D nD=>?_⟩
        refine comp_list (xs:=ys) (fun i σ' zs H'=>(∃x,σ'=[x])∧zs =((own.take i).map entOk).map V.bl∧Same H H'∧H' D=some (.lst zs)) D ⟨⟨_,rfl⟩,rfl,same_new nD _,upd_same⟩ (fun i σ' ys H' _ h=>SqL.of (h.2.2.1 _ _ hl)) ?_ ?_
        ·rintro i x σ' zs H1 hx ⟨⟨z1,rfl⟩,rfl,s1,hD⟩
         obtain⟨d,hd,r⟩:=pl.get hx
         have il:=(List.getElem?_eq_some_iff.mp hx).1
         walk_at"rd"
         refine⟨x,d,2,rfl,r.same s1,?_⟩
         refine⟨hD,by rw[List.length_map,List.length_map,List.length_take];exact small1000 (by omega),⟨_,rfl⟩,?_,fun c o e=>by rw[upd_ne (ne_of_none e nD)];exact s1 _ _ e,upd_same⟩
         rw[take_get hd,List.map_append,List.map_append];rfl
        rintro σ' zs H1 ⟨⟨z1,rfl⟩,rfl,s1,hD⟩
        rw[ol,List.take_length]at hD
        walk_at"rd"
        refine rd_allL (SqL.of hD) ?_
        by_cases cl:own.all entOk=true
        ·rw[show(own.map entOk).all id=true by rw[List.all_map];exact cl]
         walk_at"rd"
         obtain⟨te,hle,eL⟩:=ep
         have el:=eL.1
         refine⟨le,te,pe,a,o,rfl,s1 _ _ hle,eL.same s1,by have:=ok.2.2;omega,tb.same s1,fun l' vs qs2 H2 nl' hl' eq2 qp2 qv2 s2 tb2=>?_⟩
         have eqs:=btw_eq ok qp2 qv2
         subst eqs
         have s12:=s1.sm.trans s2
         have ql:(btw pe a o).length≤500:=by
          rw[qp2.length_eq]
          have:=List.length_filter_le (inB a o) pe
          have:=ok.2.2
          omega
         have g1:=p1.sm s12
         have g2:TV H2 2 (.ref l') (.list ((btw pe a o).map eD)):=el_dv hl' eq2 ql
         walk_at"rd"
         refine⟨_,_,g1.gd.1,g2.gd.1,g1.shaped K (by omega),g2.shaped K (by omega),?_⟩
         walk_at"rd"
         have e:(pageN pe a (.tuple [.int a,.list own,.int o])).isSome=PyData.eqv (.list own) (.list ((btw pe a o).map eD)):=by
          rw[pageN_at]
          by_cases c:PyData.eqv (.list own) (.list ((btw pe a o).map eD))=true
          ·rw[if_pos ⟨rfl,by omega,cl,c⟩,c];rfl
          ·rw[if_neg (fun h=>c h.2.2.2)]
           simpa using c
         rw[e]at q
         exact q H2 s12 tb2
        ·have cl:own.all entOk=false:=by simpa using cl
         rw[show(own.map entOk).all id=false by rw[List.all_map];exact cl]
         walk_at"rd"
         have e:(pageN pe a (.tuple [.int a,.list own,.int o])).isSome=false:=by
          rw[pageN_at,if_neg (fun h=>by rw[cl]at h;cases h.2.2.1)];rfl
         rw[e]at q
         exact q H1 s1.sm (tb.same s1)
       ·have cb:dL b=false:=by simpa using cb
        rw[cb]at k4
        refine rd_isi k0 k4 ?_
        walk_at"rd"
        rw[none_of (fun a own b h=>by cases h;cases cb)]at q
        exact q H (Sm.refl _) tb
     ·rw[if_pos (by simpa using cm)]
      walk_at"rd"
      have e:(pageN pe m (.tuple [.int a,b,.int o])).isSome=false:=by
       unfold pageN
       split
       ·rename_i h;cases h;rw[if_neg (fun h=>cm h.1)];rfl
       ·rfl
      rw[e]at q
      exact q H (Sm.refl _) tb
    ·have ce:dI e=false:=by simpa using ce
     rw[ce]
     walk_at"rd"
     rw[none_of (fun a own b h=>by cases h;cases ce)]at q
     exact q H (Sm.refl _) tb
   ·have ca:dI a=false:=by simpa using ca
    rw[ca]
    walk_at"rd"
    rw[none_of (fun a own b h=>by cases h;cases ca)]at q
    exact q H (Sm.refl _) tb
  ·refine rd_ifn (fun _=>?_) (fun c=>absurd (by omega) c2)
   walk_at"rd"
   rw[none_of (fun a own b e=>c2 (by cases e;rfl))]at q
   exact q H (Sm.refl _) tb
 ·have c:dT d=false:=by simpa using c
  rw[c]at h3
  refine rd_isi h0 h3 ?_
  walk_at"rd"
  rw[none_of (fun a own b e=>by rw[e]at c;cases c)]at q
  exact q H (Sm.refl _) tb
theorem ok_is_like_entry {f:Addr}{fd:FuncData}(F:Fun K "is_like_entry" "is_like_entry" s_is_like_entry f fd) (mF:mg "is_like_entry" = some (.ref f)) (bF:Binds K fd ["thing"] []) (T:Bl mg) (C_is_whole:Cal P w K mg base "is_whole" ["thing"] 1 (sp_is_whole K)):Cal P w K mg base "is_like_entry" ["thing"] 2 (sp_is_like_entry K):=by
 refine Cal.of F mF bF sc_is_like_entry (fun vs H Q E h=>?_) (fun cdv A outer s H vs Q E hr h=>?_)
 ·obtain⟨v,d,n,rfl,_⟩:=h;rfl
 obtain⟨v,d,n,rfl,td,q⟩:=h
 obtain⟨ty,h0,_,_,h3,_⟩:=TV.ty (K:=K) td
 refine⟨_,(pss_one (ps_ret (pe_and (pe_callB call_isinst rfl T.isinstance bt_isinstance (pa_cons (pv 0) (pa_cons (pe_bltn (v:=.ty "tuple") rfl T.tuple bt_tuple rfl) pa_nil stx_Name) stx_Name)) (pe_and (pe_cmpR op_eq (pe_callB call_lenL rfl T.len bt_len (pa_cons (pv 0) pa_nil stx_Name)) pe_int (nomark _)) (pe_one (pcl C_is_whole (hr.mono (by decide)) (pa_cons (pe_ix ix_tup (pv 0) pe_int (fun _ _=>rfl)) pa_nil stx_Subscript))))))),?_⟩
 rw[st_is_like_entry]
 walk_at"rd"
 by_cases c:dT d=true
 ·obtain⟨ds,rfl⟩ : ∃ds,d = .tuple ds:=by
   cases d <;> first|exact⟨_,rfl⟩|cases c
  refine rd_isi h0 (b:=true) h3 ?_
  obtain⟨j,t,xs,rfl,rfl,ht,xl,pw⟩:=td.asT
  have ln:=pw.l1
  walk_at"rd"
  refine⟨t,_,rfl,.inr (SqT.of ht),?_⟩
  walk_at"rd"
  by_cases c2:ds.length=2
  ·obtain⟨a,b,rfl⟩:=len2 c2
   obtain⟨x,y,rfl⟩:=len2 (xs:=xs) (by omega)
   rw[if_pos (by simp)]
   walk_at"rd"
   refine⟨x,a,j,rfl,pw.at' 0 x a rfl rfl,?_⟩
   have e:entOk (.tuple [a,b])=dI a:=by cases a <;> rfl
   rw[e]at q
   exact q
  ·rw[if_neg (by simp;omega)]
   walk_at"rd"
   have e:entOk (.tuple ds)=false:=by
    match ds,c2 with
    | [],_=>rfl
    | [a],_=>cases a <;> rfl
    | [a,b],h=>exact absurd rfl h
    | a::b::c::r,_=>cases a <;> rfl
   rw[e]at q
   exact q
 ·have c:dT d=false:=by simpa using c
  rw[c]at h3
  refine rd_isi h0 h3 ?_
  walk_at"rd"
  have e:entOk d=false:=by cases d <;> first|rfl|cases c
  rw[e]at q
  exact q
theorem ok__law_open {f:Addr}{fd:FuncData}(F:Fun K "_law_open" "_law_open" s__law_open f fd) (mF:mg "_law_open" = some (.ref f)) (bF:Binds K fd ["_law_script", "_law_place"] []) (T:Bl mg)  : Cal P w K mg base "_law_open" ["_law_script", "_law_place"] 1 (sp__law_open K):=by
 refine Cal.of F mF bF sc__law_open (fun vs H Q E h=>?_) (fun cdv A outer s H vs Q E hr h=>?_)
 ·obtain⟨a,ns,pl,rfl,_⟩:=h;rfl
 obtain⟨a,ns,pl,rfl,hS,hlen,h0,h1,q⟩:=h
 have hu:=hr.units
 refine⟨_,(pss_cons (ps_setc (i:=2) sc__law_open.nd rfl rfl rfl (blkOk (sc:=defScope s__law_open) (N:=["_law_script", "_law_place", "_law_cells", "_law_at", "_law_digits"]) (vs:=["_law_cell"]) (fs:=[]) (js:=[]) (by decide +kernel) rfl rfl) (pi_list (pe_slice sl_list (pv 0) po_none (po_some pe_int))) (fun _ _ _ _=>pg_name (i:=0) (show(["_law_cell"]:List Str).Nodup by decide +kernel) rfl (Or.inl rfl)) (fun _ _ _ _=>pif0) (fun _ _ _ _=>(pe_callB call_abs1 rfl T.abs bt_abs (pa_cons (pv 0) pa_nil stx_Name))))
   (pss_cons (ps_cut (ps_if (pt_cmpR (op_eqD hu) (pv 2) (pe_lst pa_nil) (nomark _)) (pss_one (ps_set (i:=2) sc__law_open.nd rfl (Or.inl rfl) (pe_lst (pa_cons pe_int pa_nil stx_Constant)))) pss_nil))
   (pss_cons (ps_set (i:=3) sc__law_open.nd rfl (Or.inl rfl) (pe_op op_mod (pv 1) (pe_callB call_lenL rfl T.len bt_len (pa_cons (pv 2) pa_nil stx_Name))))
   (pss_cons (ps_set (i:=4) sc__law_open.nd rfl (Or.inl rfl) pe_int)
   (pss_cons (ps_cut (ps_if (PW.pt (pw_and (pt_cmpR op_ge (pe_ix ix_list (pv 2) (pv 3) (fun _ _=>rfl)) (pe_powC (c:=1000000000000000000) (by decide +kernel) ⟨by decide,by decide,by decide⟩) (nomark _)) (pw_and1 (pt_cmpR op_lt (pv 1) (pe_callB call_lenL rfl T.len bt_len (pa_cons (pv 2) pa_nil stx_Name)) (nomark _))))) (pss_one (ps_set (i:=4) sc__law_open.nd rfl (Or.inl rfl) (pe_ix ix_list (pv 2) (pv 3) (fun _ _=>rfl)))) pss_nil))
   (pss_one (ps_ret (pe_lst (pa_cons (pv 4) (pa_cons (pe_op op_add pe_int (pe_op op_mul pe_int (pv 1))) (pa_cons (pe_op op_cat (pe_slice sl_list (pv 2) (po_some (pv 3)) po_none) (pe_slice sl_list (pv 2) po_none (po_some (pv 3)))) pa_nil stx_BinOp) stx_BinOp) stx_Name))))))))),?_⟩
 rw[st__law_open]
 walk_at"rd"
 refine rd_slL hS fun p1 n1=>?_
 have hcut:cutV (ns.map V.int) none (some 63)=ns.map V.int:=by
  have:=cut_hi (ms:=ns) (k:=63)
  rw[List.take_of_length_le hlen]at this
  exact this
 rw[hcut]
 have s1:=same_new n1 (.lst (ns.map V.int))
 have hp1:(upd H p1 (.lst (ns.map V.int))) p1=some (.lst (ns.map V.int)):=upd_same
 generalize upd H p1 (.lst (ns.map V.int))=H1 at s1 hp1 ⊢
 refine⟨p1,rfl,⟨_,SqL.of hp1⟩,fun D nD=>?_⟩
 have nD0:H D=none:=s1.free nD
 have npD:p1≠D:=ne_of_none hp1 nD
 refine comp_list (xs:=ns.map V.int) (fun i σ' ys H'=>(∃x,σ'=[x])∧(∃ms:List Int,ys=ms.map V.int∧ms.length=i)∧Same H H'∧H' p1=some (.lst (ns.map V.int))∧H' D=some (.lst ys)) D ?_ (fun i σ' ys H' _ h=>SqL.of h.2.2.2.1) ?_ ?_
 ·exact⟨⟨_,rfl⟩,⟨[],rfl,rfl⟩,s1.trans (same_new nD _),by rw[upd_ne npD];exact hp1,upd_same⟩
 ·rintro i x σ' ys H' hx ⟨⟨y,rfl⟩,⟨ms,rfl,hms⟩,g1,g2,g3⟩
  have hil:i <(ns.map V.int).length:=(List.getElem?_eq_some_iff.mp hx).1
  rw[List.length_map]at hil
  obtain⟨z,rfl⟩ : ∃z,x=V.int z:=by
   rw[List.getElem?_map]at hx
   cases e:ns[i]? with
   | none=>rw[e]at hx;cases hx
   | some z=>rw[e]at hx;exact⟨z,(Option.some.inj hx).symm⟩
  walk_at"rd"
  refine⟨g3,by rw[List.length_map];exact small1000 (by omega),⟨_,rfl⟩,⟨ms ++ [_],(by rw[List.map_append];rfl),by rw[List.length_append,hms];rfl⟩,fun b o e=>?_,?_,upd_same⟩
  ·rw[upd_ne (ne_of_none e nD0)];exact g1 _ _ e
  ·rw[upd_ne npD];exact g2
 ·rintro σ' ys H' ⟨⟨y,rfl⟩,⟨ms,rfl,hms⟩,g1,g2,g3⟩
  walk_at"rd"
  refine⟨fun σ H2=>∃C ms,σ=[some (.ref a),some (.int pl),some (.ref C),none,none]∧ms ≠ []∧ms.length≤63∧H2 C=some (.lst (List.map V.int ms))∧Same H H2,?_,?_⟩
  ·walk_at"rd"
   refine⟨by decide,fun p2 n2=>?_⟩
   refine⟨.list (ms.map PyData.int),.list [],DV.lst (SqL.of (by rw[upd_ne (ne_of_none g3 n2)];exact g3)) (DVs.ints ms),DV.lst (SqL.of upd_same) .nil,shaped_ints ms,rfl,?_⟩
   have e:PyData.eqv (.list (ms.map PyData.int)) (.list [])=decide (ms=[]):=by
    have:=eqv_ints ms []
    rw[← this,PyData.eqv];rfl
   rw[e]
   have s2:=g1.trans (same_new n2 (.lst []))
   have g32:(upd H' p2 (.lst [])) D=some (.lst (ms.map V.int)):=by rw[upd_ne (ne_of_none g3 n2)];exact g3
   generalize upd H' p2 (.lst [])=H2 at s2 g32 ⊢
   walk_at"rd"
   refine rd_if (fun h=>?_) (fun h=>?_)
   ·walk_at"rd"
    refine⟨by decide,fun p3 n3=>?_⟩
    walk_at"rd"
    exact⟨p3,[0],rfl,by simp,by simp,upd_same,s2.trans (same_new n3 _)⟩
   ·walk_at"rd"
    exact⟨D,ms,rfl,h,by rw[hms,List.length_map];exact hlen,g32,s2⟩
  ·rintro σ H2 ⟨C,ms,rfl,hne,hml,hC,s2⟩
   have hnl:=len_pos hne
   obtain⟨v,hv⟩:=nsMod hne pl
   walk_at"rd"
   refine⟨fun σ H3=>H3=H2∧∃d,σ=[some (.ref a),some (.int pl),some (.ref C),some (.int (pl%((ms.map V.int).length:Int))),some (.int d)],?_,?_⟩
   ·walk_at"rd"
    refine rd_ixL (SqL.of hC) hv ?_
    walk_at"rd"
    refine rd_if (fun h=>?_) (fun h=>?_)
    ·walk_at"rd"
     refine rd_if (fun h=>?_) (fun h=>?_)
     ·walk_at"rd"
      refine rd_ixL (SqL.of hC) hv ?_
      walk_at"rd"
      exact⟨rfl,_,rfl⟩
     ·walk_at"rd"
      exact⟨rfl,_,rfl⟩
    ·walk_at"rd"
     exact⟨rfl,_,rfl⟩
   ·rintro σ H3 ⟨rfl,d,rfl⟩
    obtain⟨k,hk,hk2⟩ : ∃k:Nat,pl%((ms.map V.int).length:Int) =(k:Int)∧k<ms.length:=by
     have z0:=Int.emod_nonneg pl (show((ms.map V.int).length:Int)≠0 by omega)
     have z1:=Int.emod_lt_of_pos pl hnl
     rw[List.length_map]at z0 z1 ⊢
     exact⟨(pl%(ms.length:Int)).toNat,by omega,by omega⟩
    rw[hk]
    walk_at"rd"
    refine rd_slL (SqL.of hC) fun p4 n4=>?_
    walk_at"rd"
    have hC4:(upd H3 p4 (.lst (cutV (ms.map V.int) (some (k:Int)) none))) C=some (.lst (ms.map V.int)):=by rw[upd_ne (ne_of_none hC n4)];exact hC
    refine rd_slL (SqL.of hC4) fun p5 n5=>?_
    rw[cut_lo,cut_hi]
    rw[cut_lo]at hC4 n5
    have s4:=s2.trans (same_new n4 (.lst ((ms.drop k).map V.int)))
    have hp4:(upd H3 p4 (.lst ((ms.drop k).map V.int))) p4=some (.lst ((ms.drop k).map V.int)):=upd_same
    generalize upd H3 p4 (.lst ((ms.drop k).map V.int))=H4 at s4 hp4 hC4 n5 ⊢
    have s5:=s4.trans (same_new n5 (.lst ((ms.take k).map V.int)))
    have hp5:(upd H4 p5 (.lst ((ms.take k).map V.int))) p5=some (.lst ((ms.take k).map V.int)):=upd_same
    have hp45:(upd H4 p5 (.lst ((ms.take k).map V.int))) p4=some (.lst ((ms.drop k).map V.int)):=by rw[upd_ne (ne_of_none hp4 n5)];exact hp4
    generalize upd H4 p5 (.lst ((ms.take k).map V.int))=H5 at s5 hp5 hp45 ⊢
    refine⟨p4,p5,_,_,rfl,rfl,hp45,hp5,(by rw[List.length_map,List.length_map,List.length_drop,List.length_take];exact Nat.le_of_lt (small1000 (by omega))),fun p6 n6=>?_⟩
    walk_at"rd"
    refine⟨(by show 3≤sizeLine;decide),fun p7 n7=>?_⟩
    have s6:=s5.trans (same_new n6 (.lst ((ms.drop k).map V.int++(ms.take k).map V.int)))
    refine q p7 _ (s6.free n7) (s6.trans (same_new n7 _)) ⟨p6,d,1+1009*pl,ms.drop k++ms.take k,upd_same,?_,by omega,by omega,?_⟩
    ·rw[upd_ne (ne_of_none upd_same n7),upd_same,List.map_append]
    ·intro e
     have:=congrArg List.length e
     rw[List.length_append,List.length_drop]at this
     simp at this
     omega
theorem ok__law_draw {f:Addr}{fd:FuncData}(F:Fun K "_law_draw" "_law_draw" s__law_draw f fd) (mF:mg "_law_draw" = some (.ref f)) (bF:Binds K fd ["_law_hand", "_law_many"] []) (T:Bl mg)  : Cal P w K mg base "_law_draw" ["_law_hand", "_law_many"] 1 (sp__law_draw K):=by
 refine Cal.of F mF bF sc__law_draw (fun vs H Q E h=>?_) (fun cdv A outer s H vs Q E hr h=>?_)
 ·obtain⟨p,N,n,rfl,_⟩:=h;rfl
 obtain⟨p,N,n,rfl,hh,hN,hn,hn2,q⟩:=h
 obtain⟨l,d,c,ns,hp,hl,hc0,hcN,hns⟩:=hh.ex
 have npl:l≠p:=hand_ne hp hl
 have hnl:=len_pos hns
 refine⟨_,(pss_cons (ps_if (pt_cmpR op_gt (pe_ix ix_list (pv 0) pe_int (fun _ _=>rfl)) pe_int (nomark _)) (pss_cons (ps_set (i:=2) sc__law_draw.nd rfl (Or.inl rfl) (pe_op op_mod (pe_ix ix_list (pv 0) pe_int (fun _ _=>rfl)) (pv 1)))
   (pss_cons (ps_asg (pe_op op_fdivB (pe_ix ix_list (pv 0) pe_int (fun _ _=>rfl)) (pv 1)) (pg_sub (pv 0) pe_int set_list))
   (pss_one (ps_ret (pv 2))))) pss_nil)
   (pss_cons (ps_augS (pv 0) pe_int get_list pe_int ip_add set_list)
   (pss_cons (ps_set (i:=3) sc__law_draw.nd rfl (Or.inl rfl) (pe_ix ix_list (pv 0) pe_int (fun _ _=>rfl)))
   (pss_cons (ps_set (i:=4) sc__law_draw.nd rfl (Or.inl rfl) (pe_op op_mod (pe_op op_add (pe_op op_mod (pe_ix ix_list (pe_ix ix_list (pv 0) pe_int (fun _ _=>rfl)) (pe_op op_mod (pv 3) (pe_callB call_lenL rfl T.len bt_len (pa_cons (pe_ix ix_list (pv 0) pe_int (fun _ _=>rfl)) pa_nil stx_Subscript))) (fun _ _=>rfl)) pe_int) (pe_op op_mul pe_int (pv 3))) pe_int))
   (pss_cons (ps_set (i:=4) sc__law_draw.nd rfl (Or.inl rfl) (pe_op op_mod (pe_op op_add (pe_op op_add (pe_op op_pow (pv 4) pe_int) (pe_op op_mul (pe_op op_mul pe_int (pv 3)) (pv 3))) pe_int) pe_int))
   (pss_cons (ps_set (i:=4) sc__law_draw.nd rfl (Or.inl rfl) (pe_op op_mod (pe_op op_add (pe_op op_mul (pe_op op_pow (pv 4) pe_int) (pe_op op_add (pe_op op_mul pe_int (pv 3)) pe_int)) pe_int) pe_int))
   (pss_one (ps_ret (pe_op op_mod (pe_op op_fdivB (pe_op op_mod (pe_op op_mul (pv 4) pe_int) pe_int) pe_int) (pv 1)))))))))),?_⟩
 rw[st__law_draw]
 walk_at"rd"
 refine rd_if (fun h=>?_) (fun h=>?_)
 ·walk_at"rd"
  refine q _ _ (Int.emod_nonneg _ (by omega)) (Int.emod_lt_of_pos _ hn) ⟨l,d / n,c,ns,upd_same,?_,hc0,by omega,hns⟩ (Kp.hand hp)
  rw[upd_ne npl];exact hl
 ·walk_at"rd"
  have hp1:(upd H p (.lst [V.int d,.int (c+1),.ref l])) p=some (.lst [.int d,.int (c+1),.ref l]):=upd_same
  have hl1:(upd H p (.lst [V.int d,.int (c+1),.ref l])) l=some (.lst (ns.map V.int)):=by rw[upd_ne npl];exact hl
  have k1:Kp H (upd H p (.lst [V.int d,.int (c+1),.ref l])) p:=Kp.hand hp
  generalize upd H p (.lst [V.int d,.int (c+1),.ref l])=H1 at hp1 hl1 k1 ⊢
  walk_at"rd"
  obtain⟨v,hv⟩:=nsMod hns (c+1)
  refine rd_ixL (SqL.of hl1) hv ?_
  walk_at"rd"
  have hn0:n≠0:=by omega
  exact q _ _ (Int.emod_nonneg _ hn0) (Int.emod_lt_of_pos _ hn) ⟨l,d,c+1,ns,hp1,hl1,by omega,by omega,hns⟩ k1
theorem ok__law_far {f:Addr}{fd:FuncData}(F:Fun K "_law_far" "_law_far" s__law_far f fd) (mF:mg "_law_far" = some (.ref f)) (bF:Binds K fd ["_law_hand", "_law_many"] []) (T:Bl mg) (C__law_draw:Cal P w K mg base "_law_draw" ["_law_hand", "_law_many"] 1 (sp__law_draw K)):Cal P w K mg base "_law_far" ["_law_hand", "_law_many"] 2 (sp__law_far K):=by
 refine Cal.of F mF bF sc__law_far (fun vs H Q E h=>?_) (fun cdv A outer s H vs Q E hr h=>?_)
 ·obtain⟨p,N,n,rfl,_⟩:=h;rfl
 obtain⟨p,N,n,rfl,hh,hN,hn,hn2,q⟩:=h
 obtain⟨l,d,c,ns,hp,hl,hc0,hcN,hns⟩:=hh.ex
 refine⟨_,(pss_cons (ps_if (pt_cmpR op_gt (pe_ix ix_list (pv 0) pe_int (fun _ _=>rfl)) pe_int (nomark _)) (pss_one (ps_ret (pcl C__law_draw (hr.mono (by decide)) (pa_cons (pv 0) (pa_cons (pv 1) pa_nil stx_Name) stx_Name)))) pss_nil)
   (pss_cons (ps_set (i:=2) sc__law_far.nd rfl (Or.inl rfl) pe_int)
   (pss_cons (ps_for PassesOwn.never rfl (pi_range1 rfl T.range (pa_cons pe_int pa_nil stx_Constant)) (pg_name (i:=3) sc__law_far.nd rfl (Or.inl rfl)) (pss_one (ps_set (i:=2) sc__law_far.nd rfl (Or.inl rfl) (pe_op op_add (pe_op op_mul (pv 2) (pe_powC (c:=1000000) (by decide +kernel) ⟨by decide,by decide,by decide⟩)) (pcl C__law_draw (hr.mono (by decide)) (pa_cons (pv 0) (pa_cons (pe_powC (c:=1000000) (by decide +kernel) ⟨by decide,by decide,by decide⟩) pa_nil stx_BinOp) stx_Name))))))
   (pss_one (ps_ret (pe_op op_mod (pv 2) (pv 1))))))),?_⟩
 rw[st__law_far]
 walk_at"rd"
 refine rd_if (fun h=>?_) (fun h=>?_)
 ·walk_at"rd"
  exact⟨p,N,n,rfl,hh,by omega,hn,hn2,fun r H' h0 h1 h2 h3=>q r H' h0 h1 (h2.mono (by omega)) h3⟩
 ·walk_at"rd"
  refine⟨7,rfl,by omega,by omega,?_⟩
  refine for_rangeO (n:=7) (fun i σ H'=>(∃v x,σ=[some (.ref p),some (.int n),some (.int v),x])∧Hand H' p (N+i)∧Kp H H' p∧i≤7) ⟨⟨_,_,rfl⟩,hh,Kp.refl _ _,by omega⟩ ?_ ?_
  ·rintro i σ H' hi ⟨⟨v,x,rfl⟩,h1,h2,h3⟩
   walk_at"rd"
   exact⟨p,N+i,_,rfl,h1,by omega,by decide,by decide,fun r H2 h0 h4 h5 h6=>by
    walk_at"rd"
    exact⟨⟨_,_,rfl⟩,h5,h2.trans h6,by omega⟩⟩
  ·rintro σ H' ⟨⟨v,x,rfl⟩,h1,h2,h3⟩
   walk_at"rd"
   exact q _ _ (Int.emod_nonneg _ (by omega)) (Int.emod_lt_of_pos _ hn) h1 h2
theorem ok__law_power {f:Addr}{fd:FuncData}(F:Fun K "_law_power" "_law_power" s__law_power f fd) (mF:mg "_law_power" = some (.ref f)) (bF:Binds K fd ["_law_many"] []) (T:Bl mg)  : Cal P w K mg base "_law_power" ["_law_many"] 1 (sp__law_power K):=by
 refine Cal.of F mF bF sc__law_power (fun vs H Q E h=>?_) (fun cdv A outer s H vs Q E hr h=>?_)
 ·obtain⟨m,rfl,_⟩:=h;rfl
 obtain⟨m,rfl,hm,q⟩:=h
 refine⟨_,(pss_cons (ps_set (i:=1) sc__law_power.nd rfl (Or.inl rfl) pe_int)
   (pss_cons (ps_for PassesOwn.never rfl (pi_range1 rfl T.range (pa_cons (pv 0) pa_nil stx_Name)) (pg_name (i:=2) sc__law_power.nd rfl (Or.inl rfl)) (pss_one (ps_set (i:=1) sc__law_power.nd rfl (Or.inl rfl) (pe_op op_mul (pv 1) pe_int))))
   (pss_one (ps_ret (pv 1))))),?_⟩
 rw[st__law_power]
 walk_at"rd"
 refine⟨(m:Int),rfl,by omega,by omega,?_⟩
 rw[show((m:Int)).toNat=m from by omega]
 refine for_rangeO (n:=m) (fun i σ H'=>(∃x,σ=[some (.int m),some (.int (2^i)),x])∧H'=H) ⟨⟨_,rfl⟩,rfl⟩ ?_ ?_
 ·rintro i σ H' hi ⟨⟨x,rfl⟩,rfl⟩
  walk_at"rd"
  exact⟨⟨_,by rw[Int.pow_succ]⟩,rfl⟩
 ·rintro σ H' ⟨⟨x,rfl⟩,rfl⟩
  walk_at"rd"
  exact q
theorem ok__law_key {f:Addr}{fd:FuncData}(F:Fun K "_law_key" "_law_key" s__law_key f fd) (mF:mg "_law_key" = some (.ref f)) (bF:Binds K fd ["_law_hand"] []) (T:Bl mg) (C__law_draw:Cal P w K mg base "_law_draw" ["_law_hand", "_law_many"] 1 (sp__law_draw K)) (C__law_far:Cal P w K mg base "_law_far" ["_law_hand", "_law_many"] 2 (sp__law_far K)) (C__law_power:Cal P w K mg base "_law_power" ["_law_many"] 1 (sp__law_power K)):Cal P w K mg base "_law_key" ["_law_hand"] 3 (sp__law_key K):=by
 refine Cal.of F mF bF sc__law_key (fun vs H Q E h=>?_) (fun cdv A outer s H vs Q E hr h=>?_)
 ·obtain⟨p,N,rfl,_⟩:=h;rfl
 obtain⟨p,N,rfl,hh,hN,q⟩:=h
 refine⟨_,(pss_cons (ps_set (i:=1) sc__law_key.nd rfl (Or.inl rfl) (pcl C__law_draw (hr.mono (by decide)) (pa_cons (pv 0) (pa_cons pe_int pa_nil stx_Constant) stx_Name)))
   (pss_cons (ps_set (i:=2) sc__law_key.nd rfl (Or.inl rfl) (pcl C__law_draw (hr.mono (by decide)) (pa_cons (pv 0) (pa_cons (pe_ix ix_list (pe_lst (pa_cons pe_int (pa_cons pe_int (pa_cons pe_int pa_nil stx_Constant) stx_Constant) stx_Constant)) (pcl C__law_draw (hr.mono (by decide)) (pa_cons (pv 0) (pa_cons pe_int pa_nil stx_Constant) stx_Name)) (fun _ _=>rfl)) pa_nil stx_Subscript) stx_Name)))
   (pss_cons (ps_if (pt_cmpR op_lt (pv 1) pe_int (nomark _)) (pss_one (ps_ret (pv 2))) pss_nil)
   (pss_cons (ps_if (pt_cmpR op_eq (pv 1) pe_int (nomark _)) (pss_one (ps_ret (pe_op op_sub (pe_op op_sub (pe_powC (c:=1152921504606846976) (by decide +kernel) ⟨by decide,by decide,by decide⟩) pe_int) (pv 2)))) pss_nil)
   (pss_cons (ps_if (pt_cmpR op_eq (pv 1) pe_int (nomark _)) (pss_one (ps_ret (pe_op op_add (pv 2) (pcl C__law_power (hr.mono (by decide)) (pa_cons (pe_op op_add pe_int (pcl C__law_draw (hr.mono (by decide)) (pa_cons (pv 0) (pa_cons pe_int pa_nil stx_Constant) stx_Name))) pa_nil stx_BinOp))))) pss_nil)
   (pss_cons (ps_if (pt_cmpR op_eq (pv 1) pe_int (nomark _)) (pss_one (ps_ret (pe_op op_add (pe_op op_mod (pv 2) pe_int) (pe_op op_mul pe_int (pcl C__law_far (hr.mono (by decide)) (pa_cons (pv 0) (pa_cons (pe_powC (c:=72057594037927936) (by decide +kernel) ⟨by decide,by decide,by decide⟩) pa_nil stx_BinOp) stx_Name)))))) pss_nil)
   (pss_one (ps_ret (pcl C__law_far (hr.mono (by decide)) (pa_cons (pv 0) (pa_cons (pe_powC (c:=1152921504606846976) (by decide +kernel) ⟨by decide,by decide,by decide⟩) pa_nil stx_BinOp) stx_Name)))))))))),?_⟩
 rw[st__law_key]
 walk_at"rd"
 refine⟨p,N,7,rfl,hh,by omega,by decide,by decide,fun way H1 w0 w1 hh1 k1=>?_⟩
 walk_at"rd"
 refine⟨(by show 3≤sizeLine;decide),fun l nl=>?_⟩
 walk_at"rd"
 have k2:=k1.trans (Kp.of (same_new nl (.lst [V.int 4,V.int 16,V.int 200])) hh1)
 have hh2:=hh1.same (same_new nl (.lst [V.int 4,V.int 16,V.int 200]))
 have hl:(upd H1 l (.lst [V.int 4,V.int 16,V.int 200])) l=some (.lst [V.int 4,V.int 16,V.int 200]):=upd_same
 have nlp:l≠p:=by
  obtain⟨l1,d,c,ns,h1,_⟩:=hh1.ex
  exact(ne_of_none h1 nl).symm
 generalize upd H1 l (.lst [V.int 4,V.int 16,V.int 200])=H2 at k2 hh2 hl ⊢
 refine⟨p,N+1,3,rfl,hh2,by omega,by decide,by decide,fun r H3 r0 r1 hh3 k3=>?_⟩
 have hl3:=k3.1 _ _ hl nlp
 obtain⟨b,hb,b0,b1⟩ : ∃b:Int,atI [V.int 4,V.int 16,V.int 200] r=some (.int b)∧0<b∧b≤200:=by
  have:r=0∨r=1∨r=2:=by omega
  rcases this with rfl|rfl|rfl
  ·exact⟨4,rfl,by decide,by decide⟩
  ·exact⟨16,rfl,by decide,by decide⟩
  ·exact⟨200,rfl,by decide,by decide⟩
 refine rd_ixL (SqL.of hl3) hb ?_
 walk_at"rd"
 refine⟨p,N+1+1,b,rfl,hh3,by omega,b0,by omega,fun low H4 l0 l1 hh4 k4=>?_⟩
 have k5:=(k2.trans k3).trans k4
 walk_at"rd"
 refine rd_if (fun c1=>?_) (fun c1=>?_)
 ·walk_at"rd"
  exact q _ _ l0 (by omega) (hh4.mono (by omega)) k5
 walk_at"rd"
 refine rd_if (fun c2=>?_) (fun c2=>?_)
 ·walk_at"rd"
  exact q _ _ (by omega) (by omega) (hh4.mono (by omega)) k5
 walk_at"rd"
 refine rd_if (fun c3=>?_) (fun c3=>?_)
 ·walk_at"rd"
  refine⟨p,N+1+1+1,52,rfl,hh4,by omega,by decide,by decide,fun e H5 e0 e1 hh5 k6=>?_⟩
  walk_at"rd"
  obtain⟨m,rfl⟩ : ∃m:Nat,e =(m:Int):=⟨e.toNat,by omega⟩
  refine⟨8+m,(by show [V.int (8+(m:Int))]=[V.int ((8+m:Nat):Int)];rw[show(8+(m:Int)) =((8+m:Nat):Int) by omega]),by omega,?_⟩
  walk_at"rd"
  have h1:(2:Int)^(8+m)≤2^59:=pow2_le (by omega)
  have h2:(0:Int)<2^(8+m):=Int.pow_pos (by decide)
  have h3:(2:Int)^59=576460752303423488:=by decide
  exact q _ _ (by omega) (by omega) (hh5.mono (by omega)) (k5.trans k6)
 walk_at"rd"
 refine rd_if (fun c4=>?_) (fun c4=>?_)
 ·walk_at"rd"
  refine⟨p,N+1+1+1,_,rfl,hh4,by omega,by decide,by decide,fun e H5 e0 e1 hh5 k6=>?_⟩
  walk_at"rd"
  exact q _ _ (by omega) (by omega) (hh5.mono (by omega)) (k5.trans k6)
 ·walk_at"rd"
  exact⟨p,N+1+1+1,_,rfl,hh4,by omega,by decide,by decide,fun e H5 e0 e1 hh5 k6=>q _ _ e0 e1 (hh5.mono (by omega)) (k5.trans k6)⟩
theorem ok__law_keys {f:Addr}{fd:FuncData}(F:Fun K "_law_keys" "_law_keys" s__law_keys f fd) (mF:mg "_law_keys" = some (.ref f)) (bF:Binds K fd ["_law_hand", "_law_many"] []) (T:Bl mg) (C__law_key:Cal P w K mg base "_law_key" ["_law_hand"] 3 (sp__law_key K)):Cal P w K mg base "_law_keys" ["_law_hand", "_law_many"] 4 (sp__law_keys K):=by
 refine Cal.of F mF bF sc__law_keys (fun vs H Q E h=>?_) (fun cdv A outer s H vs Q E hr h=>?_)
 ·obtain⟨p,N,n,rfl,_⟩:=h;rfl
 obtain⟨p,N,n,rfl,hh,hN,n0,n1,q⟩:=h
 have e60:(2:Int)^60=1152921504606846976:=by decide
 refine⟨_,(pss_cons (ps_set (i:=2) sc__law_keys.nd rfl (Or.inl rfl) (pe_lst pa_nil))
   (pss_cons (ps_for PassesOwn.never rfl (pi_range1 rfl T.range (pa_cons (pv 1) pa_nil stx_Name)) (pg_name (i:=3) sc__law_keys.nd rfl (Or.inl rfl)) (pss_cons (ps_set (i:=4) sc__law_keys.nd rfl (Or.inl rfl) (pcl C__law_key (hr.mono (by decide)) (pa_cons (pv 0) pa_nil stx_Name)))
   (pss_cons (ps_while PassesOwn.never (pt_cmpR op_in_seq (pv 4) (pv 2) (by with_unfolding_all rfl)) (pss_one (ps_set (i:=4) sc__law_keys.nd rfl (Or.inl rfl) (pe_op op_mod (pe_op op_add (pv 4) pe_int) (pe_powC (c:=1152921504606846976) (by decide +kernel) ⟨by decide,by decide,by decide⟩)))))
   (pss_one (ps_expr (pe_bm PySem.F.plainAttrs_list PySem.F.slot_list_append PySem.F.type_list_append mt_append (pv 2) (pa_cons (pv 4) pa_nil stx_Name)))))))
   (pss_one (ps_ret (pv 2))))),?_⟩
 rw[st__law_keys]
 walk_at"rd"
 refine⟨by decide,fun D nD=>?_⟩
 have ck:=CK.start (ys:=[]) hh nD
 generalize upd H D _=H1 at ck ⊢
 walk_at"rd"
 refine⟨n,rfl,by omega,by omega,?_⟩
 refine for_rangeO (n:=n.toNat) (fun i σ H'=>(∃x1 x2,σ=[some (.ref p),some (.int n),some (.ref D),x1,x2])∧∃ns:List Int,ns.Nodup∧(∀k∈ns,0≤k∧k<1152921504606846976)∧ns.length=i∧CK H p D (N+20*i) (ns.map V.int) H') ⟨⟨_,_,rfl⟩,[],List.nodup_nil,by simp,rfl,ck⟩ ?_ ?_
 ·rintro i σ H2 hi ⟨⟨x1,x2,rfl⟩,ns,nd,bd,len,ck⟩
  walk_at"rd"
  refine⟨p,_,rfl,ck.hh,by omega,fun v H3 v0 v1 hh3 k3=>?_⟩
  have ck:=ck.draw k3 hh3
  have hD:=ck.lat
  walk_at"rd"
  obtain⟨m0,hm0⟩:=free_key (ks:=ns) (by omega) v
  refine⟨fun m σ H'=>H'=H3∧∃v,σ=[some (.ref p),some (.int n),some (.ref D),some (.int (0+i)),some (.int v)]∧0≤v∧v<1152921504606846976∧(v+m)%1152921504606846976∉ns,⟨m0,rfl,v,rfl,v0,by omega,hm0⟩,?_⟩
  rintro m σ H' ⟨rfl,v,rfl,u0,u1,hm⟩
  walk_at"rd"
  refine rd_inI (SqL.of hD) ?_
  walk_at"rd"
  refine rd_if (fun c=>?_) (fun c=>?_)
  ·refine⟨_,fun σ' H'' h=>h,?_⟩
   walk_at"rd"
   have hm1:m≠0:=fun e=>by
    subst e
    rw[show((0:Nat):Int)=0 from rfl,Int.add_zero,Int.emod_eq_of_lt u0 u1]at hm
    exact hm c
   refine⟨m-1,by omega,rfl,(v+1)%1152921504606846976,rfl,by omega,by omega,?_⟩
   have e:((v+1)%1152921504606846976+((m-1:Nat):Int))%1152921504606846976 =(v+m)%1152921504606846976:=by omega
   rw[e];exact hm
  ·walk_at"rd"
   refine⟨.inl ⟨rfl,_,SqL.of hD⟩,?_⟩
   walk_at"rd"
   refine⟨D,_,_,rfl,rfl,hD,by rw[List.length_map];exact small1000 (by omega),?_⟩
   walk_at"rd"
   refine⟨⟨_,_,rfl⟩,ns ++ [v],?_,fun k hk=>?_,by rw[List.length_append,len];rfl,?_⟩
   ·rw[List.nodup_append]
    exact⟨nd,by simp,fun a ha b hb e=>by simp at hb;rw[hb]at e;exact c (e ▸ ha)⟩
   ·rcases List.mem_append.mp hk with z|z
    ·exact bd k z
    ·simp at z;rw[z];exact⟨u0,u1⟩
   ·rw[List.map_append]
    exact ck.push
 ·rintro σ H2 ⟨⟨x1,x2,rfl⟩,ns,nd,bd,len,ck⟩
  walk_at"rd"
  exact q D ns _ nD ck.lat nd (by omega) bd (ck.hh.mono (by omega)) ck.kp
theorem ok__law_thing {f:Addr} {fd:FuncData} (F:Fun K "_law_thing" "_law_thing" s__law_thing f fd) (mF:mg "_law_thing" = some (.ref f)) (bF:Binds K fd ["_law_hand"] []) (T:Bl mg) (C__law_draw:Cal P w K mg base "_law_draw" ["_law_hand", "_law_many"] 1 (sp__law_draw K)) : Cal P w K mg base "_law_thing" ["_law_hand"] 2 (sp__law_thing K):=by
  refine Cal.of F mF bF sc__law_thing (fun vs H Q E h=>?_) (fun cdv A outer s H vs Q E hr h=>?_)
  · obtain ⟨p,N,rfl,_⟩:=h; rfl
  obtain ⟨p,N,rfl,hh,hN,q⟩:=h
  refine ⟨_,(pss_cons (ps_set (i:=1) sc__law_thing.nd rfl (Or.inr rfl) pe_str)
      (pss_one (ps_ret (pe_bm PySem.F.plainAttrs_str PySem.F.slot_str_join PySem.F.type_str_join mt_join pe_str (pa_cons (pe_comp rfl (blkOk (sc:=defScope s__law_thing) (N:=["_law_hand", "_law_letters"]) (vs:=["_law_k"]) (fs:=["_law_letters", "_law_hand"]) (js:=[1,0]) (by decide +kernel) rfl rfl) (pi_range1 rfl T.range (pa_cons (pe_op op_add pe_int (pcl C__law_draw (hr.mono (by decide)) (pa_cons (pv 0) (pa_cons pe_int pa_nil stx_Constant) stx_Name))) pa_nil stx_BinOp)) (fun _ _ _ _=>pg_name (i:=0) (show (["_law_k", "_law_letters", "_law_hand"] : List Str).Nodup by decide +kernel) rfl (Or.inl rfl)) (fun _ _ _ _=>pif0) (fun _ _ _ _=>(pe_ix ix_str (pv 1) (pcl C__law_draw (hr.mono (by decide)) (pa_cons (pv 2) (pa_cons pe_int pa_nil stx_Constant) stx_Name)) (fun _ _=>rfl)))) pa_nil stx_ListComp))))),?_⟩
  rw [st__law_thing]
  walk_at"rd"
  refine ⟨rfl,?_⟩
  walk_at"rd"
  refine ⟨p,_,8,rfl,hh,by omega,by decide,by decide,fun n H1 n0 n1 hh1 k1=>?_⟩
  walk_at"rd"
  refine ⟨_,rfl,by omega,by omega,fun D nD=>?_⟩
  refine comp_range (n:=(1 + n).toNat) (fun j σ' ys H'=>(∃ x,σ' = [x,some (.str (Str.ofString "abcdefghijklmnopqrstuvwxyz")),some (.ref p)])∧(∃ zs:List Str,ys = zs.map V.str∧zs.length = j∧∀ y ∈ zs,y.length = 1∧∀ c ∈ y.cps,97 ≤ c∧c ≤ 122)∧j ≤ 8∧CK H1 p D (N + 1 + j) ys H') D ⟨⟨_,rfl⟩,⟨[],rfl,rfl,fun _ h=>(by cases h)⟩,by omega,CK.start hh1 nD⟩ ?_ ?_
  · rintro j σ' ys H2 hj ⟨⟨x,rfl⟩,⟨zs,rfl,zl,zc⟩,j8,ck⟩
    walk_at"rd"
    refine ⟨p,_,26,rfl,ck.hh,by omega,by decide,by decide,fun v H3 v0 v1 hh3 k3=>?_⟩
    have ck:=ck.draw k3 hh3
    obtain ⟨c,hc,c1⟩:=let26b v0 v1
    refine rd_ixS (by decide +kernel) hc ?_
    refine ⟨ck.lat,by rw [List.length_map]; exact small1000 (by omega),⟨_,rfl⟩,⟨zs ++ [⟨#[c]⟩],by rw [List.map_append]; rfl,by rw [List.length_append,zl]; rfl,fun y hy=>?_⟩,by omega,ck.push⟩
    rcases List.mem_append.mp hy with h | h
    · exact zc y h
    · have e:y = ⟨#[c]⟩:=by simpa using h
      subst e
      exact ⟨rfl, fun d hd => by have : d = c := by simpa using hd
                                 omega⟩
  · rintro σ' ys H2 ⟨⟨x,rfl⟩,⟨zs,rfl,zl,zc⟩,j8,ck⟩
    walk_at"rd"
    refine ⟨_,D,zs,rfl,rfl,SqL.of ck.lat,?_,?_⟩
    · rw [sum_nm zs zc,show (Str.ofString "").length = 0 by decide]; omega
    obtain ⟨w1,w2⟩:=join_nm zs zc
    rw [joinT]
    exact q _ _ ⟨by rw [w1]; omega,by rw [w1]; omega,w2⟩ (ck.hh.mono (by omega)) (k1.trans ck.kp)
theorem ok__law_turned {f:Addr}{fd:FuncData}(F:Fun K "_law_turned" "_law_turned" s__law_turned f fd) (mF:mg "_law_turned" = some (.ref f)) (bF:Binds K fd ["_law_key_here"] []) (T:Bl mg)  : Cal P w K mg base "_law_turned" ["_law_key_here"] 1 (sp__law_turned K):=by
 refine Cal.of F mF bF sc__law_turned (fun vs H Q E h=>?_) (fun cdv A outer s H vs Q E hr h=>?_)
 ·obtain⟨k,rfl,_⟩:=h;rfl
 obtain⟨k,rfl,q⟩:=h
 refine⟨_,(pss_cons (ps_set (i:=1) sc__law_turned.nd rfl (Or.inl rfl) pe_int)
   (pss_cons (ps_for PassesOwn.never rfl (pi_range1 rfl T.range (pa_cons pe_int pa_nil stx_Constant)) (pg_name (i:=2) sc__law_turned.nd rfl (Or.inl rfl)) (pss_cons (ps_set (i:=1) sc__law_turned.nd rfl (Or.inl rfl) (pe_op op_add (pe_op op_mul (pv 1) pe_int) (pe_op op_mod (pv 0) pe_int)))
   (pss_one (ps_set (i:=0) sc__law_turned.nd rfl (Or.inl rfl) (pe_op op_fdivB (pv 0) pe_int)))))
   (pss_one (ps_ret (pv 1))))),?_⟩
 rw[st__law_turned]
 walk_at"rd"
 refine⟨60,rfl,by omega,by omega,?_⟩
 refine for_rangeO (n:=60) (fun i σ H'=>(∃x,σ=[some (.int (k / 2^i)),some (.int (rev k i)),x])∧H'=H) ⟨⟨none,by simp[rev]⟩,rfl⟩ ?_ ?_
 ·rintro i σ H' hi ⟨⟨x,rfl⟩,rfl⟩
  have pj:=pow2_pos i
  have ed:k / 2^i / 2=k / 2^(i+1):=by rw[Int.pow_succ,Int.ediv_ediv_of_nonneg (by omega)]
  walk_at"rd"
  exact⟨⟨_,by rw[ed];rfl⟩,rfl⟩
 ·rintro σ H' ⟨⟨x,rfl⟩,rfl⟩
  walk_at"rd"
  exact q
theorem ok__law_places {f:Addr}{fd:FuncData}(F:Fun K "_law_places" "_law_places" s__law_places f fd) (mF:mg "_law_places" = some (.ref f)) (bF:Binds K fd ["_law_script", "_law_least", "_law_most"] []) (T:Bl mg)  : Cal P w K mg base "_law_places" ["_law_script", "_law_least", "_law_most"] 1 (sp__law_places K):=by
 refine Cal.of F mF bF sc__law_places (fun vs H Q E h=>?_) (fun cdv A outer s H vs Q E hr h=>?_)
 ·obtain⟨a,ns,lo,hi,rfl,_⟩:=h;rfl
 obtain⟨a,ns,lo,hi,rfl,hS,hl,l0,l1,h1,q⟩:=h
 refine⟨_,(pss_one (ps_ret (pe_callTy (call_listR rfl) rfl T.list bt_list (pa_cons (pe_callTy call_rng1 rfl T.range bt_range (pa_cons (pe_callB (call_maxI rfl) rfl T.max bt_max (pa_cons (pv 1) (pa_cons (pe_callB (call_minI rfl) rfl T.min bt_min (pa_cons (pe_callB call_lenL rfl T.len bt_len (pa_cons (pv 0) pa_nil stx_Name)) (pa_cons (pv 2) pa_nil stx_Name) stx_Call)) pa_nil stx_Call) stx_Name)) pa_nil stx_Call)) pa_nil stx_Call)))),?_⟩
 rw[st__law_places]
 walk_at"rd"
 refine rd_lenL hS ?_
 walk_at"rd"
 rw[List.length_map]
 obtain⟨n,hn,n1⟩ : ∃n:Nat,max lo (min (ns.length:Int) hi) =(n:Int)∧n≤1000:=⟨(max lo (min (ns.length:Int) hi)).toNat,by omega,by omega⟩
 rw[hn]
 refine rd_rngV fun r nr=>?_
 generalize hE:upd H r _=H1
 obtain⟨hr1,s1⟩:=newo nr hE
 clear hE
 walk_at"rd"
 refine⟨r,(n:Int),rfl,hr1,by omega,by omega,fun l nl=>?_⟩
 rw[Int.toNat_natCast]
 exact q n l _ (s1.free nl) upd_same n1 (s1.trans (same_new nl _))
theorem ok__law_pages {f:Addr}{fd:FuncData}(F:Fun K "_law_pages" "_law_pages" s__law_pages f fd) (mF:mg "_law_pages" = some (.ref f)) (bF:Binds K fd ["_law_hand", "_law_entries"] []) (T:Bl mg) (C__law_draw:Cal P w K mg base "_law_draw" ["_law_hand", "_law_many"] 1 (sp__law_draw K)) (C__law_far:Cal P w K mg base "_law_far" ["_law_hand", "_law_many"] 2 (sp__law_far K)) (C__law_turned:Cal P w K mg base "_law_turned" ["_law_key_here"] 1 (sp__law_turned K)):Cal P w K mg base "_law_pages" ["_law_hand", "_law_entries"] 3 (sp__law_pages K):=by
 refine Cal.of F mF bF sc__law_pages (fun vs H Q E h=>?_) (fun cdv A outer s H vs Q E hr h=>?_)
 ·obtain⟨p,le,N,pe,G,rfl,_⟩:=h;rfl
 obtain⟨p,le,N,pe,G,rfl,g0,hN,⟨te,hle,eL⟩,ok,q⟩:=h
 have hu:=hr.units
 have hle0:=g0.s _ _ hle
 have eL0:=eL.same g0.s
 have el:=eL.1
 have pl60:=ok.2.2
 refine⟨_,(pss_cons (ps_set (i:=2) sc__law_pages.nd rfl (Or.inl rfl) (pe_callB call_sortT rfl T.sorted bt_sorted (pa_cons (pe_comp rfl (blkOk (sc:=defScope s__law_pages) (N:=["_law_hand", "_law_entries", "_law_some", "_law_marks", "_law_k", "_law_way", "_law_mark", "_law_ends", "_law_pages_here", "_law_first", "_law_end", "_law_inside_here"]) (vs:=["_law_key_here", "_law_thing_here"]) (fs:=[]) (js:=[]) (by decide +kernel) rfl rfl) (pi_list (pv 1)) (fun _ _ _ _=>pg_tupK (K:=K) (n:=2) rfl rfl (pgs_cons (pg_name (i:=0) (show(["_law_key_here", "_law_thing_here"]:List Str).Nodup by decide +kernel) rfl (Or.inl rfl)) (pgs_cons (pg_name (i:=1) (show(["_law_key_here", "_law_thing_here"]:List Str).Nodup by decide +kernel) rfl (Or.inl rfl)) pgs_nil))) (fun _ _ _ _=>pif0) (fun _ _ _ _=>(pe_tup (pa_cons (pcl C__law_turned (hr.mono (by decide)) (pa_cons (pv 0) pa_nil stx_Name)) (pa_cons (pv 0) (pa_cons (pv 1) pa_nil stx_Name) stx_Name) stx_Call)))) pa_nil stx_ListComp)))
   (pss_cons (ps_set (i:=3) sc__law_pages.nd rfl (Or.inl rfl) (pe_lst pa_nil))
   (pss_cons (ps_for PassesOwn.never rfl (pi_range1 rfl T.range (pa_cons (pcl C__law_draw (hr.mono (by decide)) (pa_cons (pv 0) (pa_cons pe_int pa_nil stx_Constant) stx_Name)) pa_nil stx_Call)) (pg_name (i:=4) sc__law_pages.nd rfl (Or.inl rfl)) (pss_cons (ps_set (i:=5) sc__law_pages.nd rfl (Or.inl rfl) (pcl C__law_draw (hr.mono (by decide)) (pa_cons (pv 0) (pa_cons pe_int pa_nil stx_Constant) stx_Name)))
   (pss_cons (ps_set (i:=6) sc__law_pages.nd rfl (Or.inl rfl) (pcl C__law_far (hr.mono (by decide)) (pa_cons (pv 0) (pa_cons (pe_powC (c:=1152921504606846976) (by decide +kernel) ⟨by decide,by decide,by decide⟩) pa_nil stx_BinOp) stx_Name)))
   (pss_cons (ps_cut (ps_if (PW.pt (pw_and (pt_cmpR op_eq (pv 5) pe_int (nomark _)) (pw_and1 (pt_cmpR (op_neD hu) (pv 2) (pe_lst pa_nil) (nomark _))))) (pss_one (ps_set (i:=6) sc__law_pages.nd rfl (Or.inl rfl) (pe_op op_add (pe_ix ix_tup (pe_ix ix_list (pv 2) (pe_op op_mod (pcl C__law_draw (hr.mono (by decide)) (pa_cons (pv 0) (pa_cons pe_int pa_nil stx_Constant) stx_Name)) (pe_callB call_lenL rfl T.len bt_len (pa_cons (pv 2) pa_nil stx_Name))) (fun _ _=>rfl)) pe_int (fun _ _=>rfl)) (pcl C__law_draw (hr.mono (by decide)) (pa_cons (pv 0) (pa_cons pe_int pa_nil stx_Constant) stx_Name))))) pss_nil))
   (pss_cons (ps_cut (ps_if (pt_cmpR op_eq (pv 5) pe_int (nomark _)) (pss_one (ps_set (i:=6) sc__law_pages.nd rfl (Or.inl rfl) (pe_op op_mul (pe_op op_fdivB (pe_powC (c:=1152921504606846976) (by decide +kernel) ⟨by decide,by decide,by decide⟩) pe_int) (pe_op op_add pe_int (pcl C__law_draw (hr.mono (by decide)) (pa_cons (pv 0) (pa_cons pe_int pa_nil stx_Constant) stx_Name)))))) pss_nil))
   (pss_one (ps_if (PW.pt (pw_and (pt_cmpR op_lt pe_int (pv 6) (nomark _)) (pw_and (pt_cmpR op_lt (pv 6) (pe_powC (c:=1152921504606846976) (by decide +kernel) ⟨by decide,by decide,by decide⟩) (nomark _)) (pw_and1 (pt_cmpR op_notIn_seq (pv 6) (pv 3) (by with_unfolding_all rfl)))))) (pss_one (ps_expr (pe_bm PySem.F.plainAttrs_list PySem.F.slot_list_append PySem.F.type_list_append mt_append (pv 3) (pa_cons (pv 6) pa_nil stx_Name)))) pss_nil)))))))
   (pss_cons (ps_set (i:=7) sc__law_pages.nd rfl (Or.inl rfl) (pe_op op_cat (pe_callB call_sortL rfl T.sorted bt_sorted (pa_cons (pv 3) pa_nil stx_Name)) (pe_lst (pa_cons (pe_powC (c:=1152921504606846976) (by decide +kernel) ⟨by decide,by decide,by decide⟩) pa_nil stx_BinOp))))
   (pss_cons (ps_set (i:=8) sc__law_pages.nd rfl (Or.inl rfl) (pe_lst pa_nil))
   (pss_cons (ps_set (i:=9) sc__law_pages.nd rfl (Or.inr rfl) pe_int)
   (pss_cons (ps_for PassesOwn.never rfl (pi_list (pv 7)) (pg_name (i:=10) sc__law_pages.nd rfl (Or.inr rfl)) (pss_cons (ps_setc (i:=11) sc__law_pages.nd rfl rfl rfl (blkOk (sc:=defScope s__law_pages) (N:=["_law_hand", "_law_entries", "_law_some", "_law_marks", "_law_k", "_law_way", "_law_mark", "_law_ends", "_law_pages_here", "_law_first", "_law_end", "_law_inside_here"]) (vs:=["_law_at", "_law_key_here", "_law_thing_here"]) (fs:=["_law_first", "_law_end"]) (js:=[9,10]) (by decide +kernel) rfl rfl) (pi_list (pv 2)) (fun _ _ _ _=>pg_tupK (K:=K) (n:=3) rfl rfl (pgs_cons (pg_name (i:=0) (show(["_law_at", "_law_key_here", "_law_thing_here", "_law_first", "_law_end"]:List Str).Nodup by decide +kernel) rfl (Or.inl rfl)) (pgs_cons (pg_name (i:=1) (show(["_law_at", "_law_key_here", "_law_thing_here", "_law_first", "_law_end"]:List Str).Nodup by decide +kernel) rfl (Or.inl rfl)) (pgs_cons (pg_name (i:=2) (show(["_law_at", "_law_key_here", "_law_thing_here", "_law_first", "_law_end"]:List Str).Nodup by decide +kernel) rfl (Or.inl rfl)) pgs_nil)))) (fun _ _ _ _=>pif1 (PW.pt (pw_and (pt_cmpR op_le (pv 3) (pv 0) (nomark _)) (pw_and1 (pt_cmpR op_lt (pv 0) (pv 4) (nomark _)))))) (fun _ _ _ _=>(pe_tup (pa_cons (pv 1) (pa_cons (pv 2) pa_nil stx_Name) stx_Name))))
   (pss_cons (ps_expr (pe_bm PySem.F.plainAttrs_list PySem.F.slot_list_append PySem.F.type_list_append mt_append (pv 8) (pa_cons (pe_tup (pa_cons (pv 9) (pa_cons (pv 11) (pa_cons (pv 10) pa_nil stx_Name) stx_Name) stx_Name)) pa_nil stx_Tuple)))
   (pss_one (ps_set (i:=9) sc__law_pages.nd rfl (Or.inr rfl) (pv 10))))))
   (pss_one (ps_ret (pv 8)))))))))),?_⟩
 rw[st__law_pages]
 walk_at"rd"
 refine⟨le,rfl,⟨_,SqL.of hle0⟩,fun D nD=>?_⟩
 refine comp_list (xs:=te.map V.ref) (fun i σ' ys H'=>(∃x y,σ'=[x,y])∧Same H H'∧H' D=some (.lst ys)∧∃ts:List Addr,ys=ts.map V.ref∧P1 (T3 H') ts (pe.take i)) D ⟨⟨_,_,rfl⟩,same_new nD _,upd_same,[],rfl,P1.nil⟩ (fun i σ' ys H' _ h=>SqL.of (h.2.1 _ _ hle0)) ?_ ?_
 ·rintro i x σ' ys H2 hx ⟨⟨x1,x2,rfl⟩,s2,hD,ts,rfl,pt⟩
  obtain⟨u,hu,rfl⟩:=refs_get hx
  obtain⟨en,hen,htu,_⟩:=eL0.get hu
  have htu:=s2 _ _ htu
  have il:=(List.getElem?_eq_some_iff.mp hen).1
  have tl:=pt.1
  rw[List.length_take]at tl
  walk_at"rd"
  refine⟨u,_,rfl,SqT.of htu,rfl,_,_,rfl,_,_,rfl,rfl,?_⟩
  walk_at"rd"
  refine⟨en.1,rfl,?_⟩
  walk_at"rd"
  refine⟨(by show 3≤sizeLine;decide),fun t3 nt3=>?_⟩
  generalize hE:upd H2 t3 _=H3
  obtain⟨ht3,s3⟩:=newo nt3 hE
  clear hE
  have tD:t3≠D:=fun z=>by rw[z,hD]at nt3;cases nt3
  refine⟨s3 _ _ hD,by rw[List.length_map];exact small1000 (by omega),⟨_,_,rfl⟩,fun b o e=>by rw[upd_ne (ne_of_none e nD)];exact s3 _ _ (s2 _ _ e),upd_same,ts ++ [t3],by rw[List.map_append];rfl,?_⟩
  rw[take_get hen]
  refine P1.snoc (pt.imp fun b y z=>?_) ?_
  ·unfold T3 at z ⊢
   rw[upd_ne (ne_of z hD (by intro q;cases q))];exact s3 _ _ z
  ·unfold T3
   rw[upd_ne tD];exact ht3
 rintro σ' ys H2 ⟨⟨x1,x2,rfl⟩,s2,hD,ts,rfl,pt⟩
 rw[List.length_map,el,List.take_length]at pt
 obtain⟨q1,q2,q3⟩:=t3_sort pt ok
 have tl:=pt.1
 walk_at"rd"
 refine⟨D,ts,fun t=>rev (tA H2 t).1 60,rfl,SqL.of hD,by omega,q1,q2,fun us l3 u1 u2 nl3=>?_⟩
 obtain⟨qs,pq,qp,qv⟩:=q3 us u1 u2
 generalize hE:upd H2 l3 _=H3
 obtain⟨hl3,s3⟩:=newo nl3 hE
 clear hE
 have pq:=pq.imp (p':=T3 H3) fun b y z=>s3 _ _ z
 have s13:=s2.trans s3
 have ul:=pq.1
 have qn:qs.length≤60:=by rw[qp.length_eq];omega
 have g3:=g0.same s13
 have l3p:l3≠p:=(g0.hh.same s2).ne nl3
 obtain⟨g3,sG⟩:=g3.vis
 have hl3G:vis p H3 l3=some (.lst (us.map V.ref)):=vis_lst hl3 l3p
 have pqG:P1 (T3 (vis p H3)) us qs:=pq.imp fun b y z=>vis_tup z g3.hh
 have okq:∀e∈qs,PyData.strOk e.2=true:=fun e he=>(ok.2.1 e (qp.mem_iff.mp he)).2.2.1
 generalize hG:vis p H3=G3 at g3 sG hl3G pqG
 clear q1 q2 q3 u1 u2 hD pt hG
 walk_at"rd"
 refine⟨(by show 0≤sizeLine;decide),fun Dm nDm=>?_⟩
 have n0:H Dm=none:=s13.free nDm
 have c0:GC G3 p Dm N (([]:List Int).map V.int) H _:=GC.start g3 nDm n0
 walk_at"rd"
 refine⟨p,_,9,rfl,c0.ck.hh,by omega,by decide,by decide,fun n H5 n0 n1 hh5 k5=>?_⟩
 have c5:=c0.draw k5 hh5
 clear c0 k5 hh5
 walk_at"rd"
 refine⟨_,rfl,by omega,by omega,?_⟩
 refine for_rangeO (n:=n.toNat) (fun i σ H'=>(∃x4 x5 x6,σ=[some (.ref p),some (.ref le),some (.ref l3),some (.ref Dm),x4,x5,x6,none,none,none,none,none])∧∃ms:List Int,ms.Nodup∧(∀k∈ms,0<k∧k<1152921504606846976)∧ms.length≤i∧i≤8∧GC G3 p Dm (N+1+11*i) (ms.map V.int) H H') ⟨⟨_,_,_,rfl⟩,[],List.nodup_nil,by simp,by simp,by omega,c5⟩ ?_ ?_
 ·rintro i σ H6 hi ⟨⟨x4,x5,x6,rfl⟩,ms,nd,bd,ml,i8,c6⟩
  walk_at"rd"
  refine⟨p,_,3,rfl,c6.ck.hh,by omega,by decide,by decide,fun way H7 w0 w1 hh7 k7=>?_⟩
  have c7:=c6.draw k7 hh7
  clear c6 k7 hh7
  walk_at"rd"
  refine⟨p,_,_,rfl,c7.ck.hh,by omega,by decide,by decide,fun mk H8 m0 m1 hh8 k8=>?_⟩
  have c8:=c7.draw k8 hh8
  clear c7 k8 hh8
  walk_at"rd"
  refine⟨fun σ' H'=>(∃(x4:Option V) (mk:Int),σ'=[some (.ref p),some (.ref le),some (.ref l3),some (.ref Dm),x4,some (.int way),some (.int mk),none,none,none,none,none])∧GC G3 p Dm (N+1+11*i+10) (ms.map V.int) H H',?_,?_⟩
  ·walk_at"rd"
   by_cases c:way=0
   ·rw[decide_eq_true c]
    walk_at"rd"
    refine⟨(by show 0≤sizeLine;decide),fun l9 nl9=>?_⟩
    obtain⟨c9,s9,hl9⟩:=GC.new (o:=.lst []) c8 nl9 rfl ntl
    have t1:TV (upd G3 l9 (.lst [])) 2 (.ref l3) _:=(t3_tv hl3G pqG okq qn).same s9
    have t2:=TV.nilL (H:=upd G3 l9 (.lst [])) (l:=l9) upd_same
    have t1:=t1.same c9.s
    have t2:=t2.same c9.s
    refine⟨_,_,t1.gd.1,t2.gd.1,t1.shaped K (by omega),t2.shaped K (by omega),?_⟩
    have hl39:=c9.s _ _ (s9 _ _ hl3G)
    cases qs with
    | nil =>
     walk_at"rd"
     rw[if_neg (by simp[PyData.eqv,PyData.eqvAll])]
     walk_at"rd"
     exact⟨⟨_,mk,rfl⟩,(c8.same (same_new nl9 _)).mono (by omega)⟩
    | cons e0 qs =>
     walk_at"rd"
     rw[if_pos (by simp[PyData.eqv,PyData.eqvAll])]
     walk_at"rd"
     refine⟨p,_,24,rfl,c9.ck.hh,by omega,by decide,by decide,fun v HA v0 v1 hhA kA=>?_⟩
     have cA:=c9.draw kA hhA
     have hlA:=cA.s _ _ (s9 _ _ hl3G)
     have uln:us.length =(e0::qs).length:=ul
     have ub:0 <((us.map V.ref).length:Int):=by rw[List.length_map,uln,List.length_cons];omega
     walk_at"rd"
     obtain⟨x,hx,hx2⟩:=at_in (xs:=us.map V.ref) (Int.emod_nonneg v (by omega)) (Int.emod_lt_of_pos v ub)
     obtain⟨u,hu,rfl⟩:=refs_get hx2
     obtain⟨en,_,htu⟩:=pqG.get hu
     have htu:=cA.s _ _ (s9 _ _ htu)
     refine rd_ixL (SqL.of hlA) hx ?_
     walk_at"rd"
     refine⟨p,_,2,rfl,cA.ck.hh,by omega,by decide,by decide,fun v2 HB v20 v21 hhB kB=>?_⟩
     walk_at"rd"
     have cB:=(c8.same (same_new nl9 _)).draw (kA.trans kB) hhB
     exact⟨⟨_,_,rfl⟩,cB.mono (by omega)⟩
   ·rw[decide_eq_false c]
    walk_at"rd"
    exact⟨⟨_,mk,rfl⟩,c8.mono (by omega)⟩
  rintro σ' H9 ⟨⟨x4,mk,rfl⟩,c9⟩
  clear c8
  walk_at"rd"
  refine⟨fun σ' H'=>(∃(x4:Option V) (mk:Int),σ'=[some (.ref p),some (.ref le),some (.ref l3),some (.ref Dm),x4,some (.int way),some (.int mk),none,none,none,none,none])∧GC G3 p Dm (N+1+11*i+11) (ms.map V.int) H H',?_,?_⟩
  ·walk_at"rd"
   by_cases c:way=1
   ·rw[decide_eq_true c]
    walk_at"rd"
    refine⟨p,_,7,rfl,c9.ck.hh,by omega,by decide,by decide,fun v HA v0 v1 hhA kA=>?_⟩
    walk_at"rd"
    exact⟨⟨_,_,rfl⟩,c9.draw kA hhA⟩
   ·rw[decide_eq_false c]
    walk_at"rd"
    exact⟨⟨_,_,rfl⟩,c9.mono (by omega)⟩
  rintro σ' HA ⟨⟨x4,mk,rfl⟩,cA⟩
  clear c9
  walk_at"rd"
  by_cases d1:0<mk
  ·rw[decide_eq_true d1]
   walk_at"rd"
   by_cases d2:mk<1152921504606846976
   ·rw[decide_eq_true d2]
    walk_at"rd"
    refine rd_ninI (SqL.of cA.ck.lat) ?_
    by_cases d3:mk∈ms
    ·rw[decide_eq_true d3]
     walk_at"rd"
     exact⟨⟨_,_,_,rfl⟩,ms,nd,bd,by omega,by omega,cA.mono (by omega)⟩
    ·rw[decide_eq_false d3]
     walk_at"rd"
     refine⟨.inl ⟨rfl,_,SqL.of cA.ck.lat⟩,?_⟩
     walk_at"rd"
     refine⟨Dm,_,_,rfl,rfl,cA.ck.lat,by rw[List.length_map];exact small1000 (by omega),?_⟩
     walk_at"rd"
     refine⟨⟨_,_,_,rfl⟩,ms ++ [mk],?_,fun k hk=>?_,by rw[List.length_append];simp;omega,by omega,?_⟩
     ·rw[List.nodup_append]
      exact⟨nd,by simp,fun a ha b hb e=>by simp at hb;rw[hb]at e;exact d3 (e ▸ ha)⟩
     ·rcases List.mem_append.mp hk with z|z
      ·exact bd k z
      ·simp at z;rw[z];exact⟨d1,d2⟩
     ·rw[List.map_append]
      exact cA.push.mono (by omega)
   ·rw[decide_eq_false d2]
    walk_at"rd"
    exact⟨⟨_,_,_,rfl⟩,ms,nd,bd,by omega,by omega,cA.mono (by omega)⟩
  ·rw[decide_eq_false d1]
   walk_at"rd"
   exact⟨⟨_,_,_,rfl⟩,ms,nd,bd,by omega,by omega,cA.mono (by omega)⟩
 ·rintro σ H6 ⟨⟨x4,x5,x6,rfl⟩,ms,nd,bd,ml,i8,c6⟩
  walk_at"rd"
  refine⟨Dm,ms,rfl,SqL.of c6.ck.lat,by omega,fun es l7 ep1 ep2 nl7=>?_⟩
  have en:es.length≤8:=by rw[ep1.length_eq];omega
  have el2:es.Pairwise (· < ·):=by
   have nd2:=ep1.nodup_iff.mpr nd
   refine(List.pairwise_and_iff.mpr ⟨ep2,nd2⟩).imp fun {a b} h=>by
    have:=h.1;have:=h.2;omega
  have eb:∀m∈es,0<m∧m<1152921504606846976:=fun m hm=>bd m (ep1.mem_iff.mp hm)
  generalize hE:upd H6 l7 _=H7
  obtain⟨hl7,s7⟩:=newo nl7 hE
  clear hE
  walk_at"rd"
  refine⟨(by show 1≤sizeLine;decide),fun l8 nl8=>?_⟩
  generalize hE:upd H7 l8 _=H8
  obtain⟨hl8,s8⟩:=newo nl8 hE
  clear hE
  refine⟨l7,l8,_,_,rfl,rfl,s8 _ _ hl7,hl8,small1000 (by simp;omega),fun lE nlE=>?_⟩
  generalize hE:upd H8 lE _=H9
  obtain⟨hlE,s9⟩:=newo nlE hE
  clear hE
  rw[show es.map V.int ++ [V.int 1152921504606846976] =(es ++ [1152921504606846976]).map V.int by rw[List.map_append];rfl]at hlE
  have inc:(0::(es ++ [1152921504606846976])).Pairwise (· < ·):=by
   rw[List.pairwise_cons,List.pairwise_append]
   refine⟨fun m hm=>?_,el2,by simp,fun a ha b hb=>?_⟩
   ·rcases List.mem_append.mp hm with z|z
    ·exact(eb m z).1
    ·simp at z;omega
   ·simp at hb;have:=eb a ha;omega
  have eln:(es ++ [1152921504606846976]).length≤9:=by rw[List.length_append];simp;omega
  have las:(0::(es ++ [1152921504606846976]))[(es ++ [1152921504606846976]).length]? = some 1152921504606846976:=by
   rw[List.length_append,List.length_singleton,List.getElem?_cons_succ,List.getElem?_concat_length]
  generalize es ++ [1152921504606846976]=ends at hlE inc eln las
  obtain⟨g9,sG9⟩:=(c6.gh.same (s7.trans (s8.trans s9))).vis
  have lEp:lE≠p:=(c6.ck.hh.same (s7.trans s8)).ne nlE
  have hlEG:=vis_lst hlE lEp
  have hl3':=sG9 _ _ hl3G
  have pq':P1 (T3 (vis p H9)) us qs:=pqG.imp fun b y z=>sG9 _ _ z
  have sG':=sG.trans sG9
  generalize hG:vis p H9=G9 at g9 sG9 hlEG hl3' pq' sG'
  clear hG sG9 c6 hlE hl7 hl8
  walk_at"rd"
  refine⟨(by show 0≤sizeLine;decide),fun Dp nDp=>?_⟩
  have n0:H Dp=none:=g9.kp.free nDp (g9.hh.ne nDp)
  have c0:GC G9 p Dp _ (([]:List Addr).map V.ref) H _:=GC.start g9 nDp n0
  walk_at"rd"
  refine⟨lE,rfl,⟨_,SqL.of (c0.s _ _ hlEG)⟩,?_⟩
  refine for_listO (xs:=ends.map V.int) (fun i σ H'=>∃(x4 x5 x6 x10 x11:Option V) (fi:Int) (pg:List (Int×Int)) (ts:List Addr) (G':Hp),σ=[some (.ref p),some (.ref le),some (.ref l3),some (.ref Dm),x4,x5,x6,some (.ref lE),some (.ref Dp),some (.int fi),x10,x11]∧GC G' p Dp (N+1+11*n.toNat) (ts.map V.ref) H H'∧Same G9 G'∧P1 (PgT G' pe) ts pg∧pg.length=i∧(0::ends)[i]? = some fi∧∀rest,ChM fi rest→ChM 0 (pg++rest)) ⟨_,_,_,_,_,0,[],[],G9,rfl,c0,fun _ _ e=>e,P1.nil,rfl,rfl,fun _ h=>h⟩ (fun _ _ _ _ h=>by
   obtain⟨_,_,_,_,_,_,_,_,G',_,c,s,_⟩:=h
   exact SqL.of (c.s _ _ (s _ _ hlEG))) ?_ ?_
  ·rintro i z σ HA hz ⟨x4,x5,x6,x10,x11,fi,pg,ts,G',rfl,cA,sA,pgs,pl,hfi,hch⟩
   obtain⟨oe,hoe,rfl⟩:=ints_get hz
   have il:=(List.getElem?_eq_some_iff.mp hoe).1
   have fo:fi<oe:=by
    have:=List.pairwise_iff_getElem.mp inc i (i+1) (by simp;omega) (by simp;omega) (by omega)
    rw[(List.getElem?_eq_some_iff.mp hfi).2]at this
    rw[List.getElem_cons_succ,(List.getElem?_eq_some_iff.mp hoe).2]at this
    exact this
   have hl3A:=cA.s _ _ (sA _ _ hl3')
   have pqA:P1 (T3 HA) us qs:=pq'.imp fun b y z=>cA.s _ _ (sA _ _ z)
   have bt:=t3_btw ok qp qv fi oe
   walk_at"rd"
   refine⟨l3,rfl,⟨_,SqL.of hl3A⟩,fun D2 nD2=>?_⟩
   refine comp_list (xs:=us.map V.ref) (fun i σ' ys H'=>(∃x y z,σ'=[x,y,z,some (.int fi),some (.int oe)])∧Same HA H'∧H' D2=some (.lst ys)∧∃vs:List Addr,ys=vs.map V.ref∧EL H' vs ((qs.take i).filter (inB fi oe))) D2 ⟨⟨_,_,_,rfl⟩,same_new nD2 _,upd_same,[],rfl,P1.nil⟩ (fun i σ' ys H' _ h=>SqL.of (h.2.1 _ _ hl3A)) ?_ ?_
   ·rintro i x σ' ys H4 hx ⟨⟨x1,x2,x3,rfl⟩,s4,hD2,vs,rfl,ev⟩
    obtain⟨u,hu,rfl⟩:=refs_get hx
    obtain⟨en,hen,htu⟩:=pqA.get hu
    have htu:=s4 _ _ htu
    have il:=(List.getElem?_eq_some_iff.mp hen).1
    have ei:=ok.2.1 _ (qp.mem_iff.mp (List.mem_of_getElem? hen))
    have vl:=ev.1
    have fl:=List.length_filter_le (inB fi oe) (qs.take i)
    rw[List.length_take]at fl
    have stp:(qs.take (i+1)).filter (inB fi oe) =(qs.take i).filter (inB fi oe)++(if inB fi oe en then [en] else []):=by
     rw[take_get hen,List.filter_append];congr 1
     by_cases c:inB fi oe en=true
     ·simp[c]
     ·simp[c]
    walk_at"rd"
    refine⟨u,_,rfl,SqT.of htu,rfl,_,_,rfl,_,_,rfl,_,_,rfl,rfl,?_⟩
    walk_at"rd"
    by_cases c1:fi≤rev en.1 60
    ·rw[decide_eq_true c1]
     walk_at"rd"
     by_cases c2:rev en.1 60<oe
     ·rw[decide_eq_true c2]
      walk_at"rd"
      refine⟨(by show 2≤sizeLine;decide),fun t6 nt6=>?_⟩
      generalize hE:upd H4 t6 _=H6
      obtain⟨ht6,s6⟩:=newo nt6 hE
      clear hE
      have tD:t6≠D2:=fun z=>by rw[z,hD2]at nt6;cases nt6
      refine⟨s6 _ _ hD2,by rw[List.length_map];exact small1000 (by omega),⟨_,_,_,rfl⟩,fun b o e=>by rw[upd_ne (ne_of_none e nD2)];exact s6 _ _ (s4 _ _ e),upd_same,vs ++ [t6],by rw[List.map_append];rfl,?_⟩
      rw[stp,if_pos (by unfold inB;rw[decide_eq_true c1,decide_eq_true c2];rfl)]
      refine P1.snoc (ev.imp fun b y z=>⟨?_,z.2⟩) ⟨by rw[upd_ne tD];exact ht6,ei.2.2.1,ei.1,ei.2.1,ei.2.2.2⟩
      rw[upd_ne (ne_of z.1 hD2 (by intro q;cases q))];exact s6 _ _ z.1
     ·rw[decide_eq_false c2]
      walk_at"rd"
      refine⟨⟨_,_,_,rfl⟩,s4,hD2,vs,rfl,?_⟩
      rw[stp,if_neg (by unfold inB;rw[decide_eq_false c2,Bool.and_false];simp),List.append_nil];exact ev
    ·rw[decide_eq_false c1]
     walk_at"rd"
     refine⟨⟨_,_,_,rfl⟩,s4,hD2,vs,rfl,?_⟩
     rw[stp,if_neg (by unfold inB;rw[decide_eq_false c1,Bool.false_and];simp),List.append_nil];exact ev
   rintro σ' ys H4 ⟨⟨x1,x2,x3,rfl⟩,s4,hD2,vs,rfl,ev⟩
   rw[List.length_map,ul,List.take_length,bt]at ev
   walk_at"rd"
   refine⟨.inl ⟨rfl,_,SqL.of (s4 _ _ cA.ck.lat)⟩,?_⟩
   walk_at"rd"
   refine⟨(by show 3≤sizeLine;decide),fun t6 nt6=>?_⟩
   generalize hE:upd H4 t6 _=H6
   obtain⟨ht6,s6⟩:=newo nt6 hE
   clear hE
   have c6:=cA.same (s4.trans s6)
   obtain⟨c6,sG6⟩:=c6.vis
   have D2p:D2≠p:=cA.ck.hh.ne nD2
   have D2D:D2≠Dp:=fun z=>by rw[z,cA.ck.lat]at nD2;cases nD2
   have ev6:=ev.same s6
   have tl:=pgs.1
   have pt:PgT (hid Dp (vis p H6)) pe t6 (fi,oe):=⟨D2,vs,by rw[hid_ne (ne_of ht6 c6.ck.lat nofun)];exact vis_tup ht6 c6.ck.hh,by rw[hid_ne D2D];exact vis_lst (s6 _ _ hD2) D2p,ev6.imp fun b y z=>⟨by rw[hid_ne (ne_of z.1 c6.ck.lat nofun)];exact vis_tup z.1 c6.ck.hh,z.2⟩⟩
   generalize hid Dp (vis p H6)=G6 at c6 sG6 pt
   walk_at"rd"
   refine⟨Dp,_,_,rfl,rfl,c6.ck.lat,by rw[List.length_map];exact small1000 (by omega),?_⟩
   walk_at"rd"
   refine⟨_,_,_,_,_,oe,pg ++ [(fi,oe)],ts ++ [t6],G6,rfl,by rw[List.map_append];exact c6.push,sA.trans sG6,P1.snoc (pgs.imp fun _ _ z=>z.same sG6) pt,by rw[List.length_append,pl];rfl,by rw[List.getElem?_cons_succ];exact hoe,fun rest hr=>?_⟩
   rw[List.append_assoc]
   exact hch _ ⟨rfl,fo,hr⟩
  ·rintro σ HA ⟨x4,x5,x6,x10,x11,fi,pg,ts,G',rfl,cA,sA,pgs,pl,hfi,hch⟩
   rw[List.length_map]at hfi pl
   rw[las]at hfi
   cases hfi
   walk_at"rd"
   obtain⟨gD,sD⟩:=cA.done
   exact q Dp pg _ HA (gD.mono (by omega)) (sG'.trans (sA.trans sD)) ⟨ts,upd_same,pgs.imp fun _ _ z=>z.same sD⟩ (by have:=hch [] rfl;rwa [List.append_nil]at this) (by omega)
theorem ok__law_inside {f:Addr}{fd:FuncData}(F:Fun K "_law_inside" "_law_inside" s__law_inside f fd) (mF:mg "_law_inside" = some (.ref f)) (bF:Binds K fd ["_law_hand", "_law_leaf"] []) (T:Bl mg) (C__law_draw:Cal P w K mg base "_law_draw" ["_law_hand", "_law_many"] 1 (sp__law_draw K)):Cal P w K mg base "_law_inside" ["_law_hand", "_law_leaf"] 2 (sp__law_inside K):=by
 refine Cal.of F mF bF sc__law_inside (fun vs H Q E h=>?_) (fun cdv A outer s H vs Q E hr h=>?_)
 ·obtain⟨p,t,l,N,m,o,ws,G,rfl,_⟩:=h;rfl
 obtain⟨p,t,l,N,m,o,ws,G,rfl,g0,hN,px,q⟩:=h
 have hu:=hr.units
 refine⟨_,(pss_cons (ps_asg (pv 1) (pg_tup rfl (pgs_cons (pg_name (i:=2) sc__law_inside.nd rfl (Or.inl rfl)) (pgs_cons (pg_name (i:=3) sc__law_inside.nd rfl (Or.inl rfl)) (pgs_cons (pg_name (i:=4) sc__law_inside.nd rfl (Or.inl rfl)) pgs_nil)))))
   (pss_cons (ps_set (i:=5) sc__law_inside.nd rfl (Or.inl rfl) (pcl C__law_draw (hr.mono (by decide)) (pa_cons (pv 0) (pa_cons pe_int pa_nil stx_Constant) stx_Name)))
   (pss_cons (ps_set (i:=6) sc__law_inside.nd rfl (Or.inl rfl) (pe_callTy call_list_of rfl T.list bt_list (pa_cons (pv 3) pa_nil stx_Name)))
   (pss_cons (ps_set (i:=7) sc__law_inside.nd rfl (Or.inl rfl) (pe_op op_mod (pcl C__law_draw (hr.mono (by decide)) (pa_cons (pv 0) (pa_cons pe_int pa_nil stx_Constant) stx_Name)) (pe_callB (call_maxI rfl) rfl T.max bt_max (pa_cons pe_int (pa_cons (pe_callB call_lenL rfl T.len bt_len (pa_cons (pv 6) pa_nil stx_Name)) pa_nil stx_Call) stx_Constant))))
   (pss_cons (ps_if (pt_cmpR (op_eqD hu) (pv 6) (pe_lst pa_nil) (nomark _)) (pss_one (ps_ret (pe_tup (pa_cons (pv 2) (pa_cons (pe_lst (pa_cons (pe_tup (pa_cons pe_int (pa_cons pe_str pa_nil stx_Constant) stx_Constant)) pa_nil stx_Tuple)) (pa_cons (pv 4) pa_nil stx_Name) stx_List) stx_Name)))) pss_nil)
   (pss_cons (ps_asg (pe_ix ix_list (pv 6) (pv 7) (fun _ _=>rfl)) (pg_tup rfl (pgs_cons (pg_name (i:=8) sc__law_inside.nd rfl (Or.inl rfl)) (pgs_cons (pg_name (i:=9) sc__law_inside.nd rfl (Or.inl rfl)) pgs_nil))))
   (pss_cons (ps_cut (ps_if (pt_cmpR op_eq (pv 5) pe_int (nomark _)) (pss_one (ps_expr (pe_bm PySem.F.plainAttrs_list PySem.F.slot_list_pop PySem.F.type_list_pop mt_popAt (pv 6) (pa_cons (pv 7) pa_nil stx_Name)))) (pss_one (ps_if (pt_cmpR op_eq (pv 5) pe_int (nomark _)) (pss_one (ps_expr (pe_bm PySem.F.plainAttrs_list PySem.F.slot_list_insert PySem.F.type_list_insert mt_insert (pv 6) (pa_cons (pe_op op_mod (pcl C__law_draw (hr.mono (by decide)) (pa_cons (pv 0) (pa_cons pe_int pa_nil stx_Constant) stx_Name)) (pe_callB call_lenL rfl T.len bt_len (pa_cons (pv 6) pa_nil stx_Name))) (pa_cons (pe_bm PySem.F.plainAttrs_list PySem.F.slot_list_pop PySem.F.type_list_pop mt_popAt (pv 6) (pa_cons (pv 7) pa_nil stx_Name)) pa_nil stx_Call) stx_BinOp)))) (pss_one (ps_if (pt_cmpR op_eq (pv 5) pe_int (nomark _)) (pss_one (ps_expr (pe_bm PySem.F.plainAttrs_list PySem.F.slot_list_append PySem.F.type_list_append mt_append (pv 6) (pa_cons (pe_ix ix_list (pv 6) (pv 7) (fun _ _=>rfl)) pa_nil stx_Subscript)))) (pss_cons (ps_set (i:=10) sc__law_inside.nd rfl (Or.inl rfl) (pe_lstS (pas_cons (pe_tup (pa_cons (pv 8) (pa_cons (pe_op op_catS (pv 9) pe_str) pa_nil stx_BinOp) stx_Name)) (pas_cons (pe_lst (pa_cons (pv 8) (pa_cons (pv 9) pa_nil stx_Name) stx_Name)) (pas_cons (pe_tup (pa_cons (pe_op op_add (pv 8) pe_int) (pa_cons (pv 9) pa_nil stx_Name) stx_BinOp)) (pas_cons pe_non (pas_cons (pe_tup (pa_cons (pv 8) pa_nil stx_Name)) (pas_cons (pe_tup (pa_cons (pv 8) (pa_cons (pv 9) (pa_cons pe_int pa_nil stx_Constant) stx_Name) stx_Name)) (pas_cons pe_int pas_nil stx_Constant) stx_Tuple) stx_Tuple) stx_Constant) stx_Tuple) stx_List) stx_Tuple)))
   (pss_one (ps_asg (pe_ix ix_list (pe_op op_cat (pv 10) (pe_lst (pa_cons (pe_tup (pa_cons (pe_cmpR op_eq (pv 8) pe_int (nomark _)) (pa_cons (pv 9) pa_nil stx_Name) stx_Compare)) pa_nil stx_Tuple))) (pe_op op_sub (pv 5) pe_int) (fun _ _=>rfl)) (pg_sub (pv 6) (pv 7) set_list))))))))))
   (pss_one (ps_ret (pe_tup (pa_cons (pv 2) (pa_cons (pv 6) (pa_cons (pv 4) pa_nil stx_Name) stx_Name) stx_Name))))))))))),?_⟩
 rw[st__law_inside]
 obtain⟨ht,hl,wn,we⟩:=px
 have ht0:=g0.s _ _ ht
 walk_at"rd"
 refine⟨t,_,rfl,SqT.of ht0,rfl,_,_,rfl,_,_,rfl,_,_,rfl,rfl,?_⟩
 walk_at"rd"
 refine⟨p,_,11,rfl,g0.hh,by omega,by decide,by decide,fun way H1 w0 w1 hh1 k1=>?_⟩
 have g1:=g0.draw k1 hh1
 have hl1:=g1.s _ _ hl
 walk_at"rd"
 refine⟨l,ws,rfl,.inl (SqL.of hl1),fun D nD=>?_⟩
 have n0:H D=none:=g1.kp.free nD (g1.hh.ne nD)
 have c1:GC G p D _ ws H _:=GC.start g1 nD n0
 walk_at"rd"
 refine⟨p,_,24,rfl,c1.ck.hh,by omega,by decide,by decide,fun v H2 v0 v1 hh2 k2=>?_⟩
 have c2:=c1.draw k2 hh2
 have hD2:=c2.ck.lat
 clear c1 g1 k1 k2 hh1 hh2 hl1 nD
 walk_at"rd"
 refine⟨(by show 0≤sizeLine;decide),fun l3 nl3=>?_⟩
 have fl3:=c2.free nl3
 generalize hE:upd _ l3 _=HN
 obtain⟨hl3,sl3⟩:=newo nl3 hE
 clear hE
 have c2:=c2.same sl3
 obtain⟨ds,pd⟩:=PV.ex (xs:=ws) fun w hw=>((we w hw).same c2.s).tv
 have tD:=TV.lst c2.ck.lat (by omega) pd
 have tN:=TV.nilL hl3
 have dl:=pd.l1
 refine⟨_,_,tD.gd.1,tN.gd.1,tD.shaped K (by omega),tN.shaped K (by omega),?_⟩
 walk_at"rd"
 clear tD tN
 cases ws with
 | nil =>
  have e:ds=[]:=List.eq_nil_of_length_eq_zero dl.symm
  subst e
  rw[if_pos (by simp[PyData.eqv,PyData.eqvAll])]
  walk_at"rd"
  refine⟨(by show 2≤sizeLine;decide),fun t5 nt5=>?_⟩
  have ft5:=c2.free nt5
  generalize hE:upd _ t5 _=HN
  obtain⟨ht5,st5⟩:=newo nt5 hE
  clear hE
  have c2:=c2.same st5
  walk_at"rd"
  refine⟨(by show 1≤sizeLine;decide),fun l6 nl6=>?_⟩
  have fl6:=c2.free nl6
  generalize hE:upd _ l6 _=HN
  obtain⟨hl6,sl6⟩:=newo nl6 hE
  clear hE
  have ht5:=sl6 _ _ ht5
  have c2:=c2.same sl6
  walk_at"rd"
  refine⟨(by show 3≤sizeLine;decide),fun t7 nt7=>?_⟩
  have ft7:=c2.free nt7
  generalize hE:upd _ t7 _=HN
  obtain⟨ht7,st7⟩:=newo nt7 hE
  clear hE
  have ht5:=st7 _ _ ht5
  have hl6:=st7 _ _ hl6
  have c2:=c2.same st7
  walk_at"rd"
  obtain⟨cz,sz⟩:=c2.nv
  obtain⟨d5,z5⟩:=tup_tv (n:=0) (c2.tup ht5 ft5.1) (by simp) (any2 (iT _) ⟨_,TV.str (by decide +kernel)⟩)
  obtain⟨d6,z6⟩:=lst_tv (c2.lst hl6 fl6.1 fl6.2.1 fl6.2.2) (by simp) fun w hw=>by cases List.mem_singleton.mp hw;exact⟨_,z5⟩
  obtain⟨d7,z7⟩:=tup_tv (c2.tup ht7 ft7.1) (by simp) (any3 (iT _) ⟨_,z6⟩ (iT _))
  exact q _ _ _ _ z7 (cz.gh.mono (by omega)) sz nv_fr
 | cons w0 ws0 =>
  obtain⟨d0,ds0,e⟩ : ∃d0 ds0,ds=d0::ds0:=by
   cases ds with
   | nil=>cases dl
   | cons a b=>exact⟨a,b,rfl⟩
  subst e
  rw[if_neg (by simp[PyData.eqv,PyData.eqvAll])]
  walk_at"rd"
  obtain⟨a,ha,al⟩ : ∃a:Nat,v%max 1 ((w0::ws0).length:Int)=a∧a <(w0::ws0).length:=by
   have h1:max 1 ((w0::ws0).length:Int) =((w0::ws0).length:Int):=by rw[List.length_cons];omega
   rw[h1]
   have h2:=Int.emod_nonneg v (b:=((w0::ws0).length:Int)) (by rw[List.length_cons];omega)
   have h3:=Int.emod_lt_of_pos v (b:=((w0::ws0).length:Int)) (by rw[List.length_cons];omega)
   exact⟨(v%((w0::ws0).length:Int)).toNat,by omega,by omega⟩
  rw[ha]
  generalize w0::ws0=ws at *
  clear pd dl ha
  obtain⟨u,k,z,hw,hu0,zok,zl⟩:=we ws[a] (List.getElem_mem al)
  have hat:ws[a]? = some (.ref u):=by rw[List.getElem?_eq_getElem al,hw]
  have hu1:=c2.s _ _ hu0
  refine rd_ixL (SqL.of c2.ck.lat) (atI_nat hat) ?_
  walk_at"rd"
  refine⟨u,_,rfl,SqT.of hu1,rfl,_,_,rfl,_,_,rfl,rfl,?_⟩
  walk_at"rd"
  refine⟨fun σ' H'=>∃(x8 x9 x10:Option V) (ys:List V) (G':Hp),σ'=[some (.ref p),some (.ref t),some (.int m),some (.ref l),some (.int o),some (.int way),some (.ref D),some (.int a),x8,x9,x10]∧GC G' p D (N+4) ys H H'∧Same G G'∧Fr G G' H∧ys.length≤61∧(∀x∈ys,∃d,TV G' 1 x d),?_,?_⟩
  ·have fr0:Fr G G H:=fun b e n=>absurd e n
   have we1:∀x∈ws,∃d,TV G 1 x d:=fun x hx=>(we x hx).tv
   walk_at"rd"
   by_cases c:way=0
   ·rw[decide_eq_true c]
    walk_at"rd"
    refine⟨.inl ⟨rfl,_,SqL.of c2.ck.lat⟩,?_⟩
    walk_at"rd"
    refine⟨D,ws,a,a,_,rfl,rfl,c2.ck.lat,by omega,by omega,(ixN_seq (ixN_in al)).1,hat,?_⟩
    walk_at"rd"
    exact⟨_,_,_,_,G,rfl,c2.push.mono (by omega),fun _ _ e=>e,fr0,by have:=List.length_eraseIdx_le ws a;omega,fun x hx=>we1 x (List.mem_of_mem_eraseIdx hx)⟩
   rw[decide_eq_false c]
   walk_at"rd"
   by_cases c:way=1
   ·rw[decide_eq_true c]
    walk_at"rd"
    refine⟨.inl ⟨rfl,_,SqL.of c2.ck.lat⟩,?_⟩
    walk_at"rd"
    refine⟨p,_,24,rfl,c2.ck.hh,by omega,by decide,by decide,fun v2 H5 v20 v21 hh5 k5=>?_⟩
    have c5:=c2.draw k5 hh5
    have hD5:=c5.ck.lat
    have ub:0 <(ws.length:Int):=by omega
    walk_at"rd"
    refine⟨.inl ⟨rfl,_,SqL.of c5.ck.lat⟩,?_⟩
    walk_at"rd"
    refine⟨D,ws,a,a,_,rfl,rfl,c5.ck.lat,by omega,by omega,(ixN_seq (ixN_in al)).1,hat,?_⟩
    have c6:=c5.push (zs:=ws.eraseIdx a)
    have el:=List.length_eraseIdx_of_lt al
    have i0:=Int.emod_nonneg v2 (b:=(ws.length:Int)) (by omega)
    have i1:=Int.emod_lt_of_pos v2 ub
    walk_at"rd"
    refine⟨D,_,_,_,rfl,rfl,c6.ck.lat,i0,by omega,by omega,?_⟩
    walk_at"rd"
    refine⟨_,_,_,_,G,rfl,c6.push.mono (by omega),fun _ _ e=>e,fr0,?_,fun x hx=>?_⟩
    ·rw[List.length_append,List.length_cons,List.length_take,List.length_drop];omega
    ·rcases List.mem_append.mp hx with z|z
     ·exact we1 x (List.mem_of_mem_eraseIdx (List.mem_of_mem_take z))
     ·rcases List.mem_cons.mp z with rfl|z
      ·exact we1 _ (List.mem_of_getElem? hat)
      ·exact we1 x (List.mem_of_mem_eraseIdx (List.mem_of_mem_drop z))
   rw[decide_eq_false c]
   walk_at"rd"
   by_cases c:way=2
   ·rw[decide_eq_true c]
    walk_at"rd"
    refine⟨.inl ⟨rfl,_,SqL.of c2.ck.lat⟩,?_⟩
    walk_at"rd"
    refine rd_ixL (SqL.of c2.ck.lat) (atI_nat hat) ?_
    walk_at"rd"
    refine⟨D,_,_,rfl,rfl,c2.ck.lat,small1000 (by omega),?_⟩
    walk_at"rd"
    refine⟨_,_,_,_,G,rfl,c2.push.mono (by omega),fun _ _ e=>e,fr0,by rw[List.length_append];simp;omega,fun x hx=>?_⟩
    rcases List.mem_append.mp hx with z|z
    ·exact we1 x z
    ·cases List.mem_singleton.mp z;exact we1 _ (List.mem_of_getElem? hat)
   rw[decide_eq_false c]
   walk_at"rd"
   have xl:(Str.ofString "x").length=1:=by decide
   have xo:PyData.strOk (Str.ofString "x")=true:=by decide +kernel
   refine⟨_,_,rfl,rfl,Nat.le_trans (m:=1000) (by omega) (Nat.le_of_lt (small1000 (Nat.le_refl 1000))),?_⟩
   walk_at"rd"
   refine⟨(by show 2≤sizeLine;decide),fun a1 na1=>?_⟩
   have fa1:=c2.free na1
   generalize hE:upd _ a1 _=HN
   obtain⟨ha1,sa1⟩:=newo na1 hE
   clear hE
   have c2:=c2.same sa1
   walk_at"rd"
   refine⟨(by show 2≤sizeLine;decide),fun a2 na2=>?_⟩
   have fa2:=c2.free na2
   generalize hE:upd _ a2 _=HN
   obtain⟨ha2,sa2⟩:=newo na2 hE
   clear hE
   have ha1:=sa2 _ _ ha1
   have c2:=c2.same sa2
   walk_at"rd"
   refine⟨(by show 2≤sizeLine;decide),fun a3 na3=>?_⟩
   have fa3:=c2.free na3
   generalize hE:upd _ a3 _=HN
   obtain⟨ha3,sa3⟩:=newo na3 hE
   clear hE
   have ha1:=sa3 _ _ ha1
   have ha2:=sa3 _ _ ha2
   have c2:=c2.same sa3
   walk_at"rd"
   refine⟨(by show 1≤sizeLine;decide),fun a4 na4=>?_⟩
   have fa4:=c2.free na4
   generalize hE:upd _ a4 _=HN
   obtain⟨ha4,sa4⟩:=newo na4 hE
   clear hE
   have ha1:=sa4 _ _ ha1
   have ha2:=sa4 _ _ ha2
   have ha3:=sa4 _ _ ha3
   have c2:=c2.same sa4
   walk_at"rd"
   refine⟨(by show 3≤sizeLine;decide),fun a5 na5=>?_⟩
   have fa5:=c2.free na5
   generalize hE:upd _ a5 _=HN
   obtain⟨ha5,sa5⟩:=newo na5 hE
   clear hE
   have ha1:=sa5 _ _ ha1
   have ha2:=sa5 _ _ ha2
   have ha3:=sa5 _ _ ha3
   have ha4:=sa5 _ _ ha4
   have c2:=c2.same sa5
   walk_at"rd"
   have hD7:=c2.ck.lat
   refine⟨(by show 7≤sizeLine;decide),fun lo nlo=>?_⟩
   have flo:=c2.free nlo
   generalize hE:upd _ lo _=HN
   obtain⟨hlo,slo⟩:=newo nlo hE
   clear hE
   have ha1:=slo _ _ ha1
   have ha2:=slo _ _ ha2
   have ha3:=slo _ _ ha3
   have ha4:=slo _ _ ha4
   have ha5:=slo _ _ ha5
   have c2:=c2.same slo
   walk_at"rd"
   refine⟨(by show 2≤sizeLine;decide),fun a6 na6=>?_⟩
   have fa6:=c2.free na6
   generalize hE:upd _ a6 _=HN
   obtain⟨ha6,sa6⟩:=newo na6 hE
   clear hE
   have ha1:=sa6 _ _ ha1
   have ha2:=sa6 _ _ ha2
   have ha3:=sa6 _ _ ha3
   have ha4:=sa6 _ _ ha4
   have ha5:=sa6 _ _ ha5
   have hlo:=sa6 _ _ hlo
   have c2:=c2.same sa6
   walk_at"rd"
   refine⟨(by show 1≤sizeLine;decide),fun l7 nl7=>?_⟩
   have fl7:=c2.free nl7
   generalize hE:upd _ l7 _=HN
   obtain⟨hl7,sl7⟩:=newo nl7 hE
   clear hE
   have ha1:=sl7 _ _ ha1
   have ha2:=sl7 _ _ ha2
   have ha3:=sl7 _ _ ha3
   have ha4:=sl7 _ _ ha4
   have ha5:=sl7 _ _ ha5
   have hlo:=sl7 _ _ hlo
   have ha6:=sl7 _ _ ha6
   have c2:=c2.same sl7
   refine⟨lo,l7,_,_,rfl,rfl,hlo,hl7,(by show 8≤sizeLine;decide),fun l8 nl8=>?_⟩
   have fl8:=c2.free nl8
   generalize hE:upd _ l8 _=HN
   obtain⟨hl8,sl8⟩:=newo nl8 hE
   clear hE
   have ha1:=sl8 _ _ ha1
   have ha2:=sl8 _ _ ha2
   have ha3:=sl8 _ _ ha3
   have ha4:=sl8 _ _ ha4
   have ha5:=sl8 _ _ ha5
   have hlo:=sl8 _ _ hlo
   have ha6:=sl8 _ _ ha6
   have hl7:=sl8 _ _ hl7
   have c2:=c2.same sl8
   walk_at"rd"
   obtain⟨cz,sz⟩:=c2.nv
   have zo:=strOk_app zok xo
   have od:∀x∈([V.ref a1,.ref a2,.ref a3,.non,.ref a4,.ref a5,.int 7] ++ [V.ref a6]:List V),∃d,TV (nv G H p D _) 1 x d:=fun x hx=>by
    obtain⟨d1,z1⟩:=tup_tv (n:=0) (c2.tup ha1 fa1.1) (by simp) (any2 (iT _) (sI zo))
    obtain⟨d2,z2⟩:=lst_tv (n:=0) (c2.lst ha2 fa2.1 fa2.2.1 fa2.2.2) (by simp) (any2 (iT _) (sI zok))
    obtain⟨d3,z3⟩:=tup_tv (n:=0) (c2.tup ha3 fa3.1) (by simp) (any2 (iT _) (sI zok))
    obtain⟨d4,z4⟩:=tup_tv (n:=0) (c2.tup ha4 fa4.1) (by simp) (fun w hw=>by cases List.mem_singleton.mp hw;exact iT _)
    obtain⟨d5,z5⟩:=tup_tv (n:=0) (c2.tup ha5 fa5.1) (by simp) (any3 (iT _) (sI zok) (iT _))
    obtain⟨d6,z6⟩:=tup_tv (n:=0) (c2.tup ha6 fa6.1) (by simp) (any2 ⟨_,TV.bl _⟩ (sI zok))
    rcases List.mem_append.mp hx with hx|hx
    ·simp only[List.mem_cons,List.not_mem_nil,or_false]at hx
     rcases hx with rfl|rfl|rfl|rfl|rfl|rfl|rfl
     ·exact⟨_,z1⟩
     ·exact⟨_,z2⟩
     ·exact⟨_,z3⟩
     ·exact⟨_,TV.non⟩
     ·exact⟨_,z4⟩
     ·exact⟨_,z5⟩
     ·exact iT _
    ·cases List.mem_singleton.mp hx;exact⟨_,z6⟩
   obtain⟨y,hy,hy2⟩:=at_in (xs:=[V.ref a1,.ref a2,.ref a3,.non,.ref a4,.ref a5,.int 7] ++ [V.ref a6]) (i:=way-3) (by omega) (by simp;omega)
   refine rd_ixL (SqL.of hl8) hy ?_
   walk_at"rd"
   refine⟨D,ws,a,a,rfl,rfl,c2.ck.lat,ixN_in al,?_⟩
   walk_at"rd"
   refine⟨_,_,_,_,_,rfl,cz.push.mono (by omega),sz,nv_fr,by rw[List.length_set];omega,fun x hx=>?_⟩
   rcases List.mem_or_eq_of_mem_set hx with z|rfl
   ·exact((we x z).same sz).tv
   ·exact od _ (List.mem_of_getElem? hy2)
  ·rintro σ' H9 ⟨x8,x9,x10,ys,G',rfl,c9,sG,fr,yl,ye⟩
   walk_at"rd"
   refine⟨(by show 3≤sizeLine;decide),fun t9 nt9=>?_⟩
   obtain⟨gD,sD⟩:=c9.done
   obtain⟨d6,z6⟩:=lst_tv (G:=upd G' D (.lst ys)) upd_same (by omega) fun w hw=>by
    obtain⟨d,hd⟩:=ye w hw
    exact⟨d,hd.same sD⟩
   obtain⟨g9,s9,ht9⟩:=gD.new (o:=.tup [.int m,.ref D,.int o]) nt9 rfl ntt
   obtain⟨d7,z7⟩:=tup_tv (G:=upd (upd G' D (.lst ys)) t9 (.tup [.int m,.ref D,.int o])) upd_same (by simp) (any3 (iT _) ⟨_,z6.same s9⟩ (iT _))
   walk_at"rd"
   refine q _ _ _ _ z7 (g9.mono (by omega)) (sG.trans (sD.trans s9)) fun b e n=>?_
   by_cases z1:b=t9
   ·subst z1;exact(c9.free nt9).1
   ·rw[upd_ne z1]at n
    by_cases z2:b=D
    ·subst z2;exact c9.ck.n0
    ·rw[upd_ne z2]at n;exact fr b e n
theorem ok__law_shifted {f:Addr}{fd:FuncData}(F:Fun K "_law_shifted" "_law_shifted" s__law_shifted f fd) (mF:mg "_law_shifted" = some (.ref f)) (bF:Binds K fd ["_law_one", "_law_other", "_law_way"] []) (T:Bl mg)  : Cal P w K mg base "_law_shifted" ["_law_one", "_law_other", "_law_way"] 1 (sp__law_shifted K):=by
 refine Cal.of F mF bF sc__law_shifted (fun vs H Q E h=>?_) (fun cdv A outer s H vs Q E hr h=>?_)
 ·obtain⟨t1,l1,t2,l2,m1,o1,m2,o2,way,ws1,ws2,G,rfl,_⟩:=h;rfl
 obtain⟨t1,l1,t2,l2,m1,o1,m2,o2,way,ws1,ws2,G,rfl,sG,nt,x1,x2,q⟩:=h
 refine⟨_,(pss_cons (ps_if (pt_cmpR op_eq (pv 2) pe_int (nomark _)) (pss_one (ps_ret (pe_lst (pa_cons (pe_tup (pa_cons (pe_ix ix_tup (pv 0) pe_int (fun _ _=>rfl)) (pa_cons (pe_op op_cat (pe_ix ix_tup (pv 0) pe_int (fun _ _=>rfl)) (pe_slice sl_list (pe_ix ix_tup (pv 1) pe_int (fun _ _=>rfl)) po_none (po_some pe_int))) (pa_cons (pe_ix ix_tup (pv 0) pe_int (fun _ _=>rfl)) pa_nil stx_Subscript) stx_BinOp) stx_Subscript)) (pa_cons (pe_tup (pa_cons (pe_ix ix_tup (pv 1) pe_int (fun _ _=>rfl)) (pa_cons (pe_slice sl_list (pe_ix ix_tup (pv 1) pe_int (fun _ _=>rfl)) (po_some pe_int) po_none) (pa_cons (pe_ix ix_tup (pv 1) pe_int (fun _ _=>rfl)) pa_nil stx_Subscript) stx_Subscript) stx_Subscript)) pa_nil stx_Tuple) stx_Tuple)))) pss_nil)
   (pss_one (ps_ret (pe_lst (pa_cons (pe_tup (pa_cons (pe_ix ix_tup (pv 0) pe_int (fun _ _=>rfl)) (pa_cons (pe_slice sl_list (pe_ix ix_tup (pv 0) pe_int (fun _ _=>rfl)) po_none (po_some (pe_un un_neg pe_int))) (pa_cons (pe_ix ix_tup (pv 0) pe_int (fun _ _=>rfl)) pa_nil stx_Subscript) stx_Subscript) stx_Subscript)) (pa_cons (pe_tup (pa_cons (pe_ix ix_tup (pv 1) pe_int (fun _ _=>rfl)) (pa_cons (pe_op op_cat (pe_slice sl_list (pe_ix ix_tup (pv 0) pe_int (fun _ _=>rfl)) (po_some (pe_un un_neg pe_int)) po_none) (pe_ix ix_tup (pv 1) pe_int (fun _ _=>rfl))) (pa_cons (pe_ix ix_tup (pv 1) pe_int (fun _ _=>rfl)) pa_nil stx_Subscript) stx_BinOp) stx_Subscript)) pa_nil stx_Tuple) stx_Tuple))))),?_⟩
 rw[st__law_shifted]
 obtain⟨ha1,hb1,n1,e1⟩:=x1.same sG
 obtain⟨ha2,hb2,n2,e2⟩:=x2.same sG
 have sz:Same H H:=fun _ _ e=>e
 have fin:∀(l ta la tb lc:Addr) (v1 v2:List V) (HN:Hp),H l=none→Same H HN→HN l=some (.lst [.ref ta,.ref tb])→HN ta=some (.tup [.int m1,.ref la,.int o1])→HN la=some (.lst v1)→HN tb=some (.tup [.int m2,.ref lc,.int o2])→HN lc=some (.lst v2)→H ta=none→H la=none→H tb=none→H lc=none→v1.length≤500→v2.length≤500→(∀w∈v1,EnX G w)→(∀w∈v2,EnX G w)→la≠l→lc≠l→Q (.ref l) HN:=fun l ta la tb lc v1 v2 HN fl sz hl hta hla htb hlc fta fla ftb flc ln1 ln2 en1 en2 n1 n2=>by
  have gl:G l=none:=sG.free fl
  have sn:Same G (nv G H l l HN):=nv_same (sG.trans sz) gl gl nt
  have k1:nv G H l l HN ta=_:=nv_some hta ntt (ne_of hta hl nofun) (ne_of hta hl nofun) (.inl fta)
  have k2:nv G H l l HN tb=_:=nv_some htb ntt (ne_of htb hl nofun) (ne_of htb hl nofun) (.inl ftb)
  have k3:nv G H l l HN la=_:=nv_some hla ntl n1 n1 (.inl fla)
  have k4:nv G H l l HN lc=_:=nv_some hlc ntl n2 n2 (.inl flc)
  obtain⟨d1,z1⟩:=lst_tv k3 ln1 fun w hw=>((en1 w hw).same sn).tv
  obtain⟨d2,z2⟩:=lst_tv k4 ln2 fun w hw=>((en2 w hw).same sn).tv
  obtain⟨d3,z3⟩:=tup_tv k1 (by simp) (any3 (iT _) ⟨_,z1⟩ (iT _))
  obtain⟨d4,z4⟩:=tup_tv k2 (by simp) (any3 (iT _) ⟨_,z2⟩ (iT _))
  exact q l _ _ _ _ _ HN fl hl z3 z4 (fun b o e=>(nv_in e).1) sn nv_fr nv_nt sz
 walk_at"rd"
 by_cases c:way=0
 ·rw[decide_eq_true c]
  walk_at"rd"
  refine rd_slL (SqL.of hb2) (fun la nla=>?_)
  have fla:=sz.free nla
  generalize hE:upd _ la _=HN
  obtain⟨hla,sla⟩:=newo nla hE
  clear hE
  have ha1:=sla _ _ ha1
  have hb1:=sla _ _ hb1
  have ha2:=sla _ _ ha2
  have hb2:=sla _ _ hb2
  have sz:=sz.trans sla
  have ca:=cut_in (xs:=ws2) (a:=none) (b:=some 1)
  walk_at"rd"
  refine⟨l1,la,ws1,cutV ws2 none (some 1),rfl,rfl,hb1,hla,Nat.le_trans (m:=1000) (by omega) (Nat.le_of_lt (small1000 (Nat.le_refl 1000))),fun lb nlb=>?_⟩
  have flb:=sz.free nlb
  generalize hE:upd _ lb _=HN
  obtain⟨hlb,slb⟩:=newo nlb hE
  clear hE
  have ha1:=slb _ _ ha1
  have hb1:=slb _ _ hb1
  have ha2:=slb _ _ ha2
  have hb2:=slb _ _ hb2
  have hla:=slb _ _ hla
  have sz:=sz.trans slb
  walk_at"rd"
  refine⟨(by show 3≤sizeLine;decide),fun ta nta=>?_⟩
  have fta:=sz.free nta
  generalize hE:upd _ ta _=HN
  obtain⟨hta,sta⟩:=newo nta hE
  clear hE
  have ha1:=sta _ _ ha1
  have hb1:=sta _ _ hb1
  have ha2:=sta _ _ ha2
  have hb2:=sta _ _ hb2
  have hla:=sta _ _ hla
  have hlb:=sta _ _ hlb
  have sz:=sz.trans sta
  walk_at"rd"
  refine rd_slL (SqL.of hb2) (fun lc nlc=>?_)
  have flc:=sz.free nlc
  generalize hE:upd _ lc _=HN
  obtain⟨hlc,slc⟩:=newo nlc hE
  clear hE
  have ha1:=slc _ _ ha1
  have hb1:=slc _ _ hb1
  have ha2:=slc _ _ ha2
  have hb2:=slc _ _ hb2
  have hla:=slc _ _ hla
  have hlb:=slc _ _ hlb
  have hta:=slc _ _ hta
  have sz:=sz.trans slc
  have cc:=cut_in (xs:=ws2) (a:=some 1) (b:=none)
  walk_at"rd"
  refine⟨(by show 3≤sizeLine;decide),fun tb ntb=>?_⟩
  have ftb:=sz.free ntb
  generalize hE:upd _ tb _=HN
  obtain⟨htb,stb⟩:=newo ntb hE
  clear hE
  have ha1:=stb _ _ ha1
  have hb1:=stb _ _ hb1
  have ha2:=stb _ _ ha2
  have hb2:=stb _ _ hb2
  have hla:=stb _ _ hla
  have hlb:=stb _ _ hlb
  have hta:=stb _ _ hta
  have hlc:=stb _ _ hlc
  have sz:=sz.trans stb
  walk_at"rd"
  have hla0:=hla
  have hlb0:=hlb
  have hlc0:=hlc
  refine⟨(by show 2≤sizeLine;decide),fun l nl=>?_⟩
  have fl:=sz.free nl
  generalize hE:upd _ l _=HN
  obtain⟨hl,sl⟩:=newo nl hE
  clear hE
  have ha1:=sl _ _ ha1
  have hb1:=sl _ _ hb1
  have ha2:=sl _ _ ha2
  have hb2:=sl _ _ hb2
  have hla:=sl _ _ hla
  have hlb:=sl _ _ hlb
  have hta:=sl _ _ hta
  have hlc:=sl _ _ hlc
  have htb:=sl _ _ htb
  have sz:=sz.trans sl
  walk_at"rd"
  have en1:∀w∈ws1++cutV ws2 none (some 1),EnX G w:=fun w hw=>by
   rcases List.mem_append.mp hw with z|z
   ·exact x1.2.2.2 w z
   ·exact x2.2.2.2 w (ca.2 w z)
  have en2:∀w∈cutV ws2 (some 1) none,EnX G w:=fun w hw=>x2.2.2.2 w (cc.2 w hw)
  have ln1:(ws1++cutV ws2 none (some 1)).length≤500:=by rw[List.length_append];omega
  have ln2:(cutV ws2 (some 1) none).length≤500:=by omega
  exact fin l ta lb tb lc _ _ _ fl sz hl hta hlb htb hlc fta flb ftb flc ln1 ln2 en1 en2 (ne_of_none hlb0 nl) (ne_of_none hlc0 nl)
 ·rw[decide_eq_false c]
  walk_at"rd"
  refine rd_slL (SqL.of hb1) (fun la nla=>?_)
  have fla:=sz.free nla
  generalize hE:upd _ la _=HN
  obtain⟨hla,sla⟩:=newo nla hE
  clear hE
  have ha1:=sla _ _ ha1
  have hb1:=sla _ _ hb1
  have ha2:=sla _ _ ha2
  have hb2:=sla _ _ hb2
  have sz:=sz.trans sla
  have ca:=cut_in (xs:=ws1) (a:=none) (b:=some (-1))
  walk_at"rd"
  refine⟨(by show 3≤sizeLine;decide),fun ta nta=>?_⟩
  have fta:=sz.free nta
  generalize hE:upd _ ta _=HN
  obtain⟨hta,sta⟩:=newo nta hE
  clear hE
  have ha1:=sta _ _ ha1
  have hb1:=sta _ _ hb1
  have ha2:=sta _ _ ha2
  have hb2:=sta _ _ hb2
  have hla:=sta _ _ hla
  have sz:=sz.trans sta
  walk_at"rd"
  refine rd_slL (SqL.of hb1) (fun lb nlb=>?_)
  have flb:=sz.free nlb
  generalize hE:upd _ lb _=HN
  obtain⟨hlb,slb⟩:=newo nlb hE
  clear hE
  have ha1:=slb _ _ ha1
  have hb1:=slb _ _ hb1
  have ha2:=slb _ _ ha2
  have hb2:=slb _ _ hb2
  have hla:=slb _ _ hla
  have hta:=slb _ _ hta
  have sz:=sz.trans slb
  have cc:=cut_in (xs:=ws1) (a:=some (-1)) (b:=none)
  walk_at"rd"
  refine⟨lb,l2,cutV ws1 (some (-1)) none,ws2,rfl,rfl,hlb,hb2,Nat.le_trans (m:=1000) (by omega) (Nat.le_of_lt (small1000 (Nat.le_refl 1000))),fun lc nlc=>?_⟩
  have flc:=sz.free nlc
  generalize hE:upd _ lc _=HN
  obtain⟨hlc,slc⟩:=newo nlc hE
  clear hE
  have ha1:=slc _ _ ha1
  have hb1:=slc _ _ hb1
  have ha2:=slc _ _ ha2
  have hb2:=slc _ _ hb2
  have hla:=slc _ _ hla
  have hta:=slc _ _ hta
  have hlb:=slc _ _ hlb
  have sz:=sz.trans slc
  walk_at"rd"
  refine⟨(by show 3≤sizeLine;decide),fun tb ntb=>?_⟩
  have ftb:=sz.free ntb
  generalize hE:upd _ tb _=HN
  obtain⟨htb,stb⟩:=newo ntb hE
  clear hE
  have ha1:=stb _ _ ha1
  have hb1:=stb _ _ hb1
  have ha2:=stb _ _ ha2
  have hb2:=stb _ _ hb2
  have hla:=stb _ _ hla
  have hta:=stb _ _ hta
  have hlb:=stb _ _ hlb
  have hlc:=stb _ _ hlc
  have sz:=sz.trans stb
  walk_at"rd"
  have hla0:=hla
  have hlb0:=hlb
  have hlc0:=hlc
  refine⟨(by show 2≤sizeLine;decide),fun l nl=>?_⟩
  have fl:=sz.free nl
  generalize hE:upd _ l _=HN
  obtain⟨hl,sl⟩:=newo nl hE
  clear hE
  have ha1:=sl _ _ ha1
  have hb1:=sl _ _ hb1
  have ha2:=sl _ _ ha2
  have hb2:=sl _ _ hb2
  have hla:=sl _ _ hla
  have hta:=sl _ _ hta
  have hlb:=sl _ _ hlb
  have hlc:=sl _ _ hlc
  have htb:=sl _ _ htb
  have sz:=sz.trans sl
  walk_at"rd"
  have en1:∀w∈cutV ws1 none (some (-1)),EnX G w:=fun w hw=>x1.2.2.2 w (ca.2 w hw)
  have en2:∀w∈cutV ws1 (some (-1)) none++ws2,EnX G w:=fun w hw=>by
   rcases List.mem_append.mp hw with z|z
   ·exact x1.2.2.2 w (cc.2 w z)
   ·exact x2.2.2.2 w z
  have ln1:(cutV ws1 none (some (-1))).length≤500:=by omega
  have ln2:(cutV ws1 (some (-1)) none++ws2).length≤500:=by rw[List.length_append];omega
  exact fin l ta la tb lc _ _ _ fl sz hl hta hla htb hlc fta fla ftb flc ln1 ln2 en1 en2 (ne_of_none hla0 nl) (ne_of_none hlc0 nl)
theorem ok__law_spoilt {f:Addr}{fd:FuncData}(F:Fun K "_law_spoilt" "_law_spoilt" s__law_spoilt f fd) (mF:mg "_law_spoilt" = some (.ref f)) (bF:Binds K fd ["_law_hand", "_law_pages_here"] []) (T:Bl mg) (C__law_draw:Cal P w K mg base "_law_draw" ["_law_hand", "_law_many"] 1 (sp__law_draw K)) (C__law_shifted:Cal P w K mg base "_law_shifted" ["_law_one", "_law_other", "_law_way"] 1 (sp__law_shifted K)) (C__law_inside:Cal P w K mg base "_law_inside" ["_law_hand", "_law_leaf"] 2 (sp__law_inside K)):Cal P w K mg base "_law_spoilt" ["_law_hand", "_law_pages_here"] 3 (sp__law_spoilt K):=by
 refine Cal.of F mF bF sc__law_spoilt (fun vs H Q E h=>?_) (fun cdv A outer s H vs Q E hr h=>?_)
 ·obtain⟨p,lp,N,pe,pg,G,rfl,_⟩:=h;rfl
 obtain⟨p,lp,N,pe,pg,G,rfl,g0,hN,⟨ts,hlp,pts⟩,ok,pn,pl,q⟩:=h
 have hu:=hr.units
 have tl:=pts.1
 have hpx:∀t∈ts,∃m l o ws,PgX G t m l o ws:=fun t ht=>by
  obtain⟨i,hi⟩:=List.getElem?_of_mem ht
  obtain⟨x,_,px⟩:=pts.get hi
  obtain⟨l,ws,h⟩:=px.px ok
  exact⟨_,l,_,ws,h⟩
 have tn:0<ts.length:=by
  rw[tl]
  exact List.length_pos_iff.mpr pn
 refine⟨_,(pss_cons (ps_set (i:=2) sc__law_spoilt.nd rfl (Or.inl rfl) (pcl C__law_draw (hr.mono (by decide)) (pa_cons (pv 0) (pa_cons pe_int pa_nil stx_Constant) stx_Name)))
   (pss_cons (ps_set (i:=3) sc__law_spoilt.nd rfl (Or.inl rfl) (pe_callTy call_list_of rfl T.list bt_list (pa_cons (pv 1) pa_nil stx_Name)))
   (pss_cons (ps_set (i:=4) sc__law_spoilt.nd rfl (Or.inl rfl) (pe_op op_mod (pcl C__law_draw (hr.mono (by decide)) (pa_cons (pv 0) (pa_cons pe_int pa_nil stx_Constant) stx_Name)) (pe_callB call_lenL rfl T.len bt_len (pa_cons (pv 3) pa_nil stx_Name))))
   (pss_cons (ps_asg (pe_ix ix_list (pv 3) (pv 4) (fun _ _=>rfl)) (pg_tup rfl (pgs_cons (pg_name (i:=5) sc__law_spoilt.nd rfl (Or.inl rfl)) (pgs_cons (pg_name (i:=6) sc__law_spoilt.nd rfl (Or.inl rfl)) (pgs_cons (pg_name (i:=7) sc__law_spoilt.nd rfl (Or.inl rfl)) pgs_nil)))))
   (pss_cons (ps_cut (ps_if (pt_cmpR op_eq (pv 2) pe_int (nomark _)) (pss_one (ps_expr (pe_bm PySem.F.plainAttrs_list PySem.F.slot_list_pop PySem.F.type_list_pop mt_popAt (pv 3) (pa_cons (pv 4) pa_nil stx_Name)))) (pss_one (ps_if (pt_cmpR op_eq (pv 2) pe_int (nomark _)) (pss_one (ps_expr (pe_bm PySem.F.plainAttrs_list PySem.F.slot_list_insert PySem.F.type_list_insert mt_insert (pv 3) (pa_cons (pv 4) (pa_cons (pe_ix ix_list (pv 3) (pv 4) (fun _ _=>rfl)) pa_nil stx_Subscript) stx_Name)))) (pss_one (ps_if (pt_cmpR op_eq (pv 2) pe_int (nomark _)) (pss_one (ps_expr (pe_bm PySem.F.plainAttrs_list PySem.F.slot_list_insert PySem.F.type_list_insert mt_insert (pv 3) (pa_cons pe_int (pa_cons (pe_bm PySem.F.plainAttrs_list PySem.F.slot_list_pop PySem.F.type_list_pop mt_popAt (pv 3) (pa_cons (pv 4) pa_nil stx_Name)) pa_nil stx_Call) stx_Constant)))) (pss_one (ps_if (pt_cmpR op_eq (pv 2) pe_int (nomark _)) (pss_one (ps_asg (pe_tup (pa_cons (pe_op op_sub (pe_op op_add (pv 5) pe_int) (pe_op op_mul pe_int (pcl C__law_draw (hr.mono (by decide)) (pa_cons (pv 0) (pa_cons pe_int pa_nil stx_Constant) stx_Name)))) (pa_cons (pv 6) (pa_cons (pv 7) pa_nil stx_Name) stx_Name) stx_BinOp)) (pg_sub (pv 3) (pv 4) set_list))) (pss_one (ps_if (pt_cmpR op_eq (pv 2) pe_int (nomark _)) (pss_one (ps_asg (pe_tup (pa_cons (pv 5) (pa_cons (pv 6) (pa_cons (pe_op op_sub (pe_op op_add (pv 7) pe_int) (pe_op op_mul pe_int (pcl C__law_draw (hr.mono (by decide)) (pa_cons (pv 0) (pa_cons pe_int pa_nil stx_Constant) stx_Name)))) pa_nil stx_BinOp) stx_Name) stx_Name)) (pg_sub (pv 3) (pv 4) set_list))) (pss_one (ps_if (pt_cmpR op_eq (pv 2) pe_int (nomark _)) (pss_cons (ps_set (i:=8) sc__law_spoilt.nd rfl (Or.inl rfl) (pe_lst (pa_cons (pe_lst (pa_cons (pv 5) (pa_cons (pv 6) (pa_cons (pv 7) pa_nil stx_Name) stx_Name) stx_Name)) (pa_cons (pe_tup (pa_cons (pv 5) (pa_cons (pv 6) pa_nil stx_Name) stx_Name)) (pa_cons (pe_tup (pa_cons (pv 5) (pa_cons (pe_callTy call_tuple_of rfl T.tuple bt_tuple (pa_cons (pv 6) pa_nil stx_Name)) (pa_cons (pv 7) pa_nil stx_Name) stx_Call) stx_Name)) (pa_cons pe_non (pa_cons (pe_tup (pa_cons (pv 5) (pa_cons (pv 6) (pa_cons (pv 7) (pa_cons pe_int pa_nil stx_Constant) stx_Name) stx_Name) stx_Name)) pa_nil stx_Tuple) stx_Constant) stx_Tuple) stx_Tuple) stx_List)))
   (pss_one (ps_asg (pe_ix ix_list (pv 8) (pcl C__law_draw (hr.mono (by decide)) (pa_cons (pv 0) (pa_cons pe_int pa_nil stx_Constant) stx_Name)) (fun _ _=>rfl)) (pg_sub (pv 3) (pv 4) set_list)))) (pss_one (ps_if (pt_cmpR op_eq (pv 2) pe_int (nomark _)) (pss_one (ps_asg (pe_ix ix_list (pe_lst (pa_cons (pe_tup (pa_cons (pe_cmpR op_gt (pv 5) pe_int (nomark _)) (pa_cons (pv 6) (pa_cons (pv 7) pa_nil stx_Name) stx_Name) stx_Compare)) (pa_cons (pe_tup (pa_cons (pv 5) (pa_cons (pv 6) (pa_cons pe_str pa_nil stx_Constant) stx_Name) stx_Name)) (pa_cons (pe_tup (pa_cons pe_non (pa_cons (pv 6) (pa_cons (pv 7) pa_nil stx_Name) stx_Name) stx_Constant)) pa_nil stx_Tuple) stx_Tuple) stx_Tuple)) (pcl C__law_draw (hr.mono (by decide)) (pa_cons (pv 0) (pa_cons pe_int pa_nil stx_Constant) stx_Name)) (fun _ _=>rfl)) (pg_sub (pv 3) (pv 4) set_list))) (pss_one (ps_if (pt_cmpR op_eq (pv 2) pe_int (nomark _)) (pss_one (ps_ret (pe_ix ix_list (pe_lst (pa_cons (pe_callTy call_tuple_of rfl T.tuple bt_tuple (pa_cons (pv 3) pa_nil stx_Name)) (pa_cons pe_non (pa_cons pe_int (pa_cons pe_dnewK (pa_cons pe_str pa_nil stx_Constant) stx_Dict) stx_Constant) stx_Constant) stx_Call)) (pcl C__law_draw (hr.mono (by decide)) (pa_cons (pv 0) (pa_cons pe_int pa_nil stx_Constant) stx_Name)) (fun _ _=>rfl)))) (pss_one (ps_if (PW.pt (pw_and (pt_cmpR op_lt (pv 2) pe_int (nomark _)) (pw_and1 (pt_cmpR op_lt (pe_op op_add (pv 4) pe_int) (pe_callB call_lenL rfl T.len bt_len (pa_cons (pv 3) pa_nil stx_Name)) (nomark _))))) (pss_one (ps_asg (pcl C__law_shifted (hr.mono (by decide)) (pa_cons (pe_ix ix_list (pv 3) (pv 4) (fun _ _=>rfl)) (pa_cons (pe_ix ix_list (pv 3) (pe_op op_add (pv 4) pe_int) (fun _ _=>rfl)) (pa_cons (pe_op op_sub (pv 2) pe_int) pa_nil stx_BinOp) stx_Subscript) stx_Subscript)) (pg_slset (pv 3) (po_some (pv 4)) (po_some (pe_op op_add (pv 4) pe_int))))) (pss_one (ps_if (pt_cmpR op_eq (pv 2) pe_int (nomark _)) (pss_one (ps_expr (pe_bm PySem.F.plainAttrs_list PySem.F.slot_list_insert PySem.F.type_list_insert mt_insert (pv 3) (pa_cons (pe_op op_add (pv 4) pe_int) (pa_cons (pe_tup (pa_cons (pv 7) (pa_cons (pe_lst pa_nil) (pa_cons (pv 7) pa_nil stx_Name) stx_List) stx_Name)) pa_nil stx_Tuple) stx_BinOp)))) (pss_one (ps_if (pt_cmpR op_eq (pv 2) pe_int (nomark _)) (pss_one (ps_asg (pe_lst (pa_cons (pe_tup (pa_cons (pv 7) (pa_cons (pe_lst pa_nil) (pa_cons (pv 5) pa_nil stx_Name) stx_List) stx_Name)) (pa_cons (pe_ix ix_list (pv 3) (pv 4) (fun _ _=>rfl)) pa_nil stx_Subscript) stx_Tuple)) (pg_slset (pv 3) (po_some (pe_op op_add (pv 4) pe_int)) (po_some (pe_op op_add (pv 4) pe_int))))) (pss_one (ps_asg (pcl C__law_inside (hr.mono (by decide)) (pa_cons (pv 0) (pa_cons (pe_ix ix_list (pv 3) (pv 4) (fun _ _=>rfl)) pa_nil stx_Subscript) stx_Name)) (pg_sub (pv 3) (pv 4) set_list)))))))))))))))))))))))))
   (pss_one (ps_ret (pv 3)))))))),?_⟩
 rw[st__law_spoilt]
 walk_at"rd"
 refine⟨p,_,14,rfl,g0.hh,by omega,by decide,by decide,fun way H1 w0 w1 hh1 k1=>?_⟩
 have g1:=g0.draw k1 hh1
 have hl1:=g1.s _ _ hlp
 walk_at"rd"
 refine⟨lp,_,rfl,.inl (SqL.of hl1),fun D nD=>?_⟩
 have n0:H D=none:=g1.kp.free nD (g1.hh.ne nD)
 have c1:GC G p D _ (ts.map V.ref) H _:=GC.start g1 nD n0
 walk_at"rd"
 refine⟨p,_,24,rfl,c1.ck.hh,by omega,by decide,by decide,fun v H2 v0 v1 hh2 k2=>?_⟩
 have c2:=c1.draw k2 hh2
 have hD2:=c2.ck.lat
 clear c1 g1 k1 k2 hh1 hh2 hl1 nD
 have ub:0 <((ts.map V.ref).length:Int):=by rw[List.length_map];omega
 walk_at"rd"
 obtain⟨a,ha,al⟩ : ∃a:Nat,v%((ts.map V.ref).length:Int)=a∧a<ts.length:=by
  have h2:=Int.emod_nonneg v (b:=((ts.map V.ref).length:Int)) (by omega)
  have h3:=Int.emod_lt_of_pos v ub
  rw[List.length_map]at h2 h3 ⊢
  exact⟨(v%(ts.length:Int)).toNat,by omega,by omega⟩
 rw[ha]
 clear ha
 obtain⟨t,ht⟩ : ∃t,ts[a]? = some t:=⟨_,List.getElem?_eq_getElem al⟩
 obtain⟨m,l,o,ws,px⟩:=hpx t (List.mem_of_getElem? ht)
 obtain⟨ht0,hl0,wn,we⟩:=px.same c2.s
 have hat:(ts.map V.ref)[a]? = some (.ref t):=by rw[List.getElem?_map,ht];rfl
 refine rd_ixL (SqL.of c2.ck.lat) (atI_nat hat) ?_
 walk_at"rd"
 refine⟨t,_,rfl,SqT.of ht0,rfl,_,_,rfl,_,_,rfl,_,_,rfl,rfl,?_⟩
 walk_at"rd"
 have al2:a <(ts.map V.ref).length:=by rw[List.length_map];exact al
 have wl:(ts.map V.ref).length≤10:=by rw[List.length_map];omega
 have we1:∀x∈ts.map V.ref,∃d,TV G 3 x d:=fun x hx=>by
  obtain⟨t,ht,rfl⟩:=List.mem_map.mp hx
  obtain⟨_,_,_,_,h⟩:=hpx t ht
  exact h.tv
 have pin:=px.in
 refine⟨SpI G H p lp D N way m o a l,?_,?_⟩
 ·walk_at"rd"
  by_cases c:way=0
  ·rw[decide_eq_true c]
   walk_at"rd"
   refine⟨.inl ⟨rfl,_,SqL.of c2.ck.lat⟩,?_⟩
   walk_at"rd"
   refine⟨D,ts.map V.ref,a,a,_,rfl,rfl,c2.ck.lat,by omega,by omega,(ixN_seq (ixN_in al2)).1,hat,?_⟩
   walk_at"rd"
   exact SpI.mk we1 c2.push (by omega) (fun _ _ e=>e) (by have:=List.length_eraseIdx_le (ts.map V.ref) a;omega) fun x hx=>.inl (List.mem_of_mem_eraseIdx hx)
  rw[decide_eq_false c]
  walk_at"rd"
  by_cases c:way=1
  ·rw[decide_eq_true c]
   walk_at"rd"
   refine⟨.inl ⟨rfl,_,SqL.of c2.ck.lat⟩,?_⟩
   walk_at"rd"
   refine rd_ixL (SqL.of c2.ck.lat) (atI_nat hat) ?_
   walk_at"rd"
   refine⟨D,_,_,_,rfl,rfl,c2.ck.lat,by omega,by omega,by omega,?_⟩
   walk_at"rd"
   refine SpI.mk we1 c2.push (by omega) (fun _ _ e=>e) (by rw[List.length_append,List.length_cons,List.length_take,List.length_drop];omega) fun x hx=>.inl ?_
   rcases List.mem_append.mp hx with z|z
   ·exact List.mem_of_mem_take z
   ·rcases List.mem_cons.mp z with rfl|z
    ·exact List.mem_of_getElem? hat
    ·exact List.mem_of_mem_drop z
  rw[decide_eq_false c]
  walk_at"rd"
  by_cases c:way=2
  ·rw[decide_eq_true c]
   walk_at"rd"
   refine⟨.inl ⟨rfl,_,SqL.of c2.ck.lat⟩,?_⟩
   walk_at"rd"
   refine⟨.inl ⟨rfl,_,SqL.of c2.ck.lat⟩,?_⟩
   walk_at"rd"
   refine⟨D,ts.map V.ref,a,a,_,rfl,rfl,c2.ck.lat,by omega,by omega,(ixN_seq (ixN_in al2)).1,hat,?_⟩
   have c6:=c2.push (zs:=(ts.map V.ref).eraseIdx a)
   have el:=List.length_eraseIdx_of_lt al2
   walk_at"rd"
   refine⟨D,_,_,_,rfl,rfl,c6.ck.lat,by omega,by omega,by omega,?_⟩
   walk_at"rd"
   refine SpI.mk we1 c6.push (by omega) (fun _ _ e=>e) (by rw[List.length_append,List.length_cons,List.length_take,List.length_drop];omega) fun x hx=>.inl ?_
   rcases List.mem_append.mp hx with z|z
   ·exact List.mem_of_mem_eraseIdx (List.mem_of_mem_take z)
   ·rcases List.mem_cons.mp z with rfl|z
    ·exact List.mem_of_getElem? hat
    ·exact List.mem_of_mem_eraseIdx (List.mem_of_mem_drop z)
  rw[decide_eq_false c]
  walk_at"rd"
  by_cases c:way=3
  ·rw[decide_eq_true c]
   walk_at"rd"
   refine⟨p,_,2,rfl,c2.ck.hh,by omega,by decide,by decide,fun v2 HM v20 v21 hhM kM=>?_⟩
   have c2:=c2.draw kM hhM
   clear kM hhM
   walk_at"rd"
   refine⟨(by show 3≤sizeLine;decide),fun b1 nb1=>?_⟩
   have fb1:=c2.free nb1
   generalize hE:upd _ b1 _=HN
   obtain⟨hb1,sb1⟩:=newo nb1 hE
   clear hE
   have c2:=c2.same sb1
   walk_at"rd"
   obtain⟨cz,sz⟩:=c2.nv
   obtain⟨di,zi⟩:=pin.imp fun d hd=>hd.same sz
   obtain⟨d1,z1⟩:=tup_tv (n:=2) (c2.tup hb1 fb1.1) (by simp) (any3 (iT _) ⟨_,zi⟩ (iT _))
   refine⟨D,ts.map V.ref,a,a,rfl,rfl,c2.ck.lat,ixN_in al2,?_⟩
   walk_at"rd"
   refine SpI.mk we1 cz.push (by omega) sz (by rw[List.length_set];omega) fun x hx=>?_
   rcases set_or hx with z|rfl
   ·exact .inl z
   ·exact .inr (⟨_,z1⟩)
  rw[decide_eq_false c]
  walk_at"rd"
  by_cases c:way=4
  ·rw[decide_eq_true c]
   walk_at"rd"
   refine⟨p,_,2,rfl,c2.ck.hh,by omega,by decide,by decide,fun v2 HM v20 v21 hhM kM=>?_⟩
   have c2:=c2.draw kM hhM
   clear kM hhM
   walk_at"rd"
   refine⟨(by show 3≤sizeLine;decide),fun b1 nb1=>?_⟩
   have fb1:=c2.free nb1
   generalize hE:upd _ b1 _=HN
   obtain⟨hb1,sb1⟩:=newo nb1 hE
   clear hE
   have c2:=c2.same sb1
   walk_at"rd"
   obtain⟨cz,sz⟩:=c2.nv
   obtain⟨di,zi⟩:=pin.imp fun d hd=>hd.same sz
   obtain⟨d1,z1⟩:=tup_tv (n:=2) (c2.tup hb1 fb1.1) (by simp) (any3 (iT _) ⟨_,zi⟩ (iT _))
   refine⟨D,ts.map V.ref,a,a,rfl,rfl,c2.ck.lat,ixN_in al2,?_⟩
   walk_at"rd"
   refine SpI.mk we1 cz.push (by omega) sz (by rw[List.length_set];omega) fun x hx=>?_
   rcases set_or hx with z|rfl
   ·exact .inl z
   ·exact .inr (⟨_,z1⟩)
  rw[decide_eq_false c]
  walk_at"rd"
  by_cases c:way=5
  ·rw[decide_eq_true c]
   walk_at"rd"
   refine⟨(by show 3≤sizeLine;decide),fun b1 nb1=>?_⟩
   have fb1:=c2.free nb1
   generalize hE:upd _ b1 _=HN
   obtain⟨hb1,sb1⟩:=newo nb1 hE
   clear hE
   have c2:=c2.same sb1
   walk_at"rd"
   refine⟨(by show 2≤sizeLine;decide),fun b2 nb2=>?_⟩
   have fb2:=c2.free nb2
   generalize hE:upd _ b2 _=HN
   obtain⟨hb2,sb2⟩:=newo nb2 hE
   clear hE
   have hb1:=sb2 _ _ hb1
   have c2:=c2.same sb2
   walk_at"rd"
   refine⟨l,ws,rfl,.inl ⟨SqL.of (c2.s _ _ px.2.1),fun b3 nb3=>?_⟩⟩
   have fb3:=c2.free nb3
   generalize hE:upd _ b3 _=HN
   obtain⟨hb3,sb3⟩:=newo nb3 hE
   clear hE
   have hb1:=sb3 _ _ hb1
   have hb2:=sb3 _ _ hb2
   have c2:=c2.same sb3
   walk_at"rd"
   refine⟨(by show 3≤sizeLine;decide),fun b4 nb4=>?_⟩
   have fb4:=c2.free nb4
   generalize hE:upd _ b4 _=HN
   obtain⟨hb4,sb4⟩:=newo nb4 hE
   clear hE
   have hb1:=sb4 _ _ hb1
   have hb2:=sb4 _ _ hb2
   have hb3:=sb4 _ _ hb3
   have c2:=c2.same sb4
   walk_at"rd"
   refine⟨(by show 4≤sizeLine;decide),fun b5 nb5=>?_⟩
   have fb5:=c2.free nb5
   generalize hE:upd _ b5 _=HN
   obtain⟨hb5,sb5⟩:=newo nb5 hE
   clear hE
   have hb1:=sb5 _ _ hb1
   have hb2:=sb5 _ _ hb2
   have hb3:=sb5 _ _ hb3
   have hb4:=sb5 _ _ hb4
   have c2:=c2.same sb5
   walk_at"rd"
   refine⟨(by show 5≤sizeLine;decide),fun lo nlo=>?_⟩
   have flo:=c2.free nlo
   generalize hE:upd _ lo _=HN
   obtain⟨hlo,slo⟩:=newo nlo hE
   clear hE
   have hb1:=slo _ _ hb1
   have hb2:=slo _ _ hb2
   have hb3:=slo _ _ hb3
   have hb4:=slo _ _ hb4
   have hb5:=slo _ _ hb5
   have c2:=c2.same slo
   walk_at"rd"
   refine⟨p,_,5,rfl,c2.ck.hh,by omega,by decide,by decide,fun v2 HM v20 v21 hhM kM=>?_⟩
   have c2:=c2.draw kM hhM
   have hb1:=kM.1 _ _ hb1 fb1.2.1
   have hb2:=kM.1 _ _ hb2 fb2.2.1
   have hb3:=kM.1 _ _ hb3 fb3.2.1
   have hb4:=kM.1 _ _ hb4 fb4.2.1
   have hb5:=kM.1 _ _ hb5 fb5.2.1
   have hlo:=kM.1 _ _ hlo flo.2.1
   clear kM hhM
   walk_at"rd"
   obtain⟨cz,sz⟩:=c2.nv
   obtain⟨di,zi⟩:=pin.imp fun d hd=>hd.same sz
   have od:∀x ∈ [V.ref b1,.ref b2,.ref b4,.non,.ref b5],∃d,TV (nv G H p D HM) 3 x d:=fun x hx=>by
    obtain⟨d1,z1⟩:=lst_tv (n:=2) (c2.lst hb1 fb1.1 fb1.2.1 fb1.2.2) (by simp) (any3 (iT _) ⟨_,zi⟩ (iT _))
    obtain⟨d2,z2⟩:=tup_tv (n:=2) (c2.tup hb2 fb2.1) (by simp) (any2 (iT _) ⟨_,zi⟩)
    obtain⟨d3,z3⟩:=tup_tv (n:=1) (c2.tup hb3 fb3.1) (by omega) fun w hw=>((px.2.2.2 w hw).same sz).tv
    obtain⟨d4,z4⟩:=tup_tv (n:=2) (c2.tup hb4 fb4.1) (by simp) (any3 (iT _) ⟨_,z3⟩ (iT _))
    obtain⟨d5,z5⟩:=tup_tv (n:=2) (c2.tup hb5 fb5.1) (by simp) (fun w hw=>by
     rcases List.mem_cons.mp hw with rfl|hw
     ·exact iT _
     ·exact any3 ⟨_,zi⟩ (iT _) (iT _) w hw)
    simp only[List.mem_cons,List.not_mem_nil,or_false]at hx
    rcases hx with rfl|rfl|rfl|rfl|rfl
    ·exact⟨_,z1⟩
    ·exact⟨_,z2⟩
    ·exact⟨_,z4⟩
    ·exact⟨_,TV.non⟩
    ·exact⟨_,z5⟩
   obtain⟨y,hy,hy2⟩:=at_in (xs:=[V.ref b1,.ref b2,.ref b4,.non,.ref b5]) v20 (by simp;omega)
   refine rd_ixL (SqL.of hlo) hy ?_
   walk_at"rd"
   refine⟨D,ts.map V.ref,a,a,rfl,rfl,c2.ck.lat,ixN_in al2,?_⟩
   walk_at"rd"
   refine SpI.mk we1 cz.push (by omega) sz (by rw[List.length_set];omega) fun x hx=>?_
   rcases set_or hx with z|rfl
   ·exact .inl z
   ·exact .inr (od _ (List.mem_of_getElem? hy2))
  rw[decide_eq_false c]
  walk_at"rd"
  by_cases c:way=6
  ·rw[decide_eq_true c]
   walk_at"rd"
   refine⟨(by show 3≤sizeLine;decide),fun b1 nb1=>?_⟩
   have fb1:=c2.free nb1
   generalize hE:upd _ b1 _=HN
   obtain⟨hb1,sb1⟩:=newo nb1 hE
   clear hE
   have c2:=c2.same sb1
   walk_at"rd"
   refine⟨(by show 3≤sizeLine;decide),fun b2 nb2=>?_⟩
   have fb2:=c2.free nb2
   generalize hE:upd _ b2 _=HN
   obtain⟨hb2,sb2⟩:=newo nb2 hE
   clear hE
   have hb1:=sb2 _ _ hb1
   have c2:=c2.same sb2
   walk_at"rd"
   refine⟨(by show 3≤sizeLine;decide),fun b3 nb3=>?_⟩
   have fb3:=c2.free nb3
   generalize hE:upd _ b3 _=HN
   obtain⟨hb3,sb3⟩:=newo nb3 hE
   clear hE
   have hb1:=sb3 _ _ hb1
   have hb2:=sb3 _ _ hb2
   have c2:=c2.same sb3
   walk_at"rd"
   refine⟨(by show 3≤sizeLine;decide),fun lo nlo=>?_⟩
   have flo:=c2.free nlo
   generalize hE:upd _ lo _=HN
   obtain⟨hlo,slo⟩:=newo nlo hE
   clear hE
   have hb1:=slo _ _ hb1
   have hb2:=slo _ _ hb2
   have hb3:=slo _ _ hb3
   have c2:=c2.same slo
   walk_at"rd"
   refine⟨p,_,3,rfl,c2.ck.hh,by omega,by decide,by decide,fun v2 HM v20 v21 hhM kM=>?_⟩
   have c2:=c2.draw kM hhM
   have hb1:=kM.1 _ _ hb1 fb1.2.1
   have hb2:=kM.1 _ _ hb2 fb2.2.1
   have hb3:=kM.1 _ _ hb3 fb3.2.1
   have hlo:=kM.1 _ _ hlo flo.2.1
   clear kM hhM
   walk_at"rd"
   obtain⟨cz,sz⟩:=c2.nv
   obtain⟨di,zi⟩:=pin.imp fun d hd=>hd.same sz
   have od:∀x ∈ [V.ref b1,.ref b2,.ref b3],∃d,TV (nv G H p D HM) 3 x d:=fun x hx=>by
    obtain⟨d1,z1⟩:=tup_tv (n:=2) (c2.tup hb1 fb1.1) (by simp) (any3 ⟨_,TV.bl _⟩ ⟨_,zi⟩ (iT _))
    obtain⟨d2,z2⟩:=tup_tv (n:=2) (c2.tup hb2 fb2.1) (by simp) (any3 (iT _) ⟨_,zi⟩ (sI (by decide +kernel)))
    obtain⟨d3,z3⟩:=tup_tv (n:=2) (c2.tup hb3 fb3.1) (by simp) (any3 ⟨_,TV.non⟩ ⟨_,zi⟩ (iT _))
    simp only[List.mem_cons,List.not_mem_nil,or_false]at hx
    rcases hx with rfl|rfl|rfl
    ·exact⟨_,z1⟩
    ·exact⟨_,z2⟩
    ·exact⟨_,z3⟩
   obtain⟨y,hy,hy2⟩:=at_in (xs:=[V.ref b1,.ref b2,.ref b3]) v20 (by simp;omega)
   refine rd_ixL (SqL.of hlo) hy ?_
   walk_at"rd"
   refine⟨D,ts.map V.ref,a,a,rfl,rfl,c2.ck.lat,ixN_in al2,?_⟩
   walk_at"rd"
   refine SpI.mk we1 cz.push (by omega) sz (by rw[List.length_set];omega) fun x hx=>?_
   rcases set_or hx with z|rfl
   ·exact .inl z
   ·exact .inr (od _ (List.mem_of_getElem? hy2))
  rw[decide_eq_false c]
  walk_at"rd"
  by_cases c:way=7
  ·rw[decide_eq_true c]
   walk_at"rd"
   refine⟨D,_,rfl,.inl ⟨SqL.of c2.ck.lat,fun b1 nb1=>?_⟩⟩
   have fb1:=c2.free nb1
   generalize hE:upd _ b1 _=HN
   obtain⟨hb1,sb1⟩:=newo nb1 hE
   clear hE
   have c2:=c2.same sb1
   walk_at"rd"
   refine fun b2 nb2=>?_
   have fb2:=c2.free nb2
   generalize hE:upd _ b2 _=HN
   obtain⟨hb2,sb2⟩:=newo nb2 hE
   clear hE
   have hb1:=sb2 _ _ hb1
   have c2:=c2.same sb2
   walk_at"rd"
   refine⟨(by show 5≤sizeLine;decide),fun lo nlo=>?_⟩
   have flo:=c2.free nlo
   generalize hE:upd _ lo _=HN
   obtain⟨hlo,slo⟩:=newo nlo hE
   clear hE
   have hb1:=slo _ _ hb1
   have hb2:=slo _ _ hb2
   have c2:=c2.same slo
   walk_at"rd"
   refine⟨p,_,5,rfl,c2.ck.hh,by omega,by decide,by decide,fun v2 HM v20 v21 hhM kM=>?_⟩
   have c2:=c2.draw kM hhM
   have hb1:=kM.1 _ _ hb1 fb1.2.1
   have hb2:=kM.1 _ _ hb2 fb2.2.1
   have hlo:=kM.1 _ _ hlo flo.2.1
   clear kM hhM
   walk_at"rd"
   obtain⟨cz,sz⟩:=c2.nv
   have od:∀x ∈ [V.ref b1,.non,.int 7,.ref b2,.str (Str.ofString "")],∃o,AV (nv G H p D HM) 5 x o:=fun x hx=>by
    obtain⟨d1,z1⟩:=tup_tv (n:=3) (c2.tup hb1 fb1.1) (by omega) fun w hw=>by
     obtain⟨d,hd⟩:=we1 w hw
     exact⟨d,hd.same sz⟩
    simp only[List.mem_cons,List.not_mem_nil,or_false]at hx
    rcases hx with rfl|rfl|rfl|rfl|rfl
    ·exact⟨_,.inl ⟨_,rfl,z1.up (by omega)⟩⟩
    ·exact⟨_,.inl ⟨_,rfl,TV.non⟩⟩
    ·exact⟨_,.inl ⟨_,rfl,TV.int _⟩⟩
    ·exact⟨_,.inr ⟨rfl,b2,rfl,nv_some hb2 (fun _=>nofun) fb2.2.1 fb2.2.2 (.inl fb2.1)⟩⟩
    ·exact⟨_,.inl ⟨_,rfl,TV.str (by decide +kernel)⟩⟩
   obtain⟨y,hy,hy2⟩:=at_in (xs:=[V.ref b1,.non,.int 7,.ref b2,.str (Str.ofString "")]) v20 (by simp;omega)
   refine rd_ixL (SqL.of hlo) hy ?_
   walk_at"rd"
   obtain⟨o,ho⟩:=od _ (List.mem_of_getElem? hy2)
   exact q _ _ _ _ ho (cz.gh.mono (by omega)) sz
  rw[decide_eq_false c]
  walk_at"rd"
  by_cases c:way<10
  ·rw[decide_eq_true c]
   walk_at"rd"
   by_cases c3:(a:Int)+1 <((ts.map V.ref).length:Int)
   ·rw[decide_eq_true c3]
    walk_at"rd"
    refine rd_ixL (SqL.of c2.ck.lat) (atI_nat hat) ?_
    walk_at"rd"
    obtain⟨t2,ht2⟩ : ∃t,ts[a+1]? = some t:=⟨_,List.getElem?_eq_getElem (by rw[List.length_map]at c3;omega)⟩
    obtain⟨m2,l2,o2,ws2,px2⟩:=hpx t2 (List.mem_of_getElem? ht2)
    have hat2:(ts.map V.ref)[a+1]? = some (.ref t2):=by rw[List.getElem?_map,ht2];rfl
    refine rd_ixL (SqL.of c2.ck.lat) (atI_nat (j:=a+1) hat2) ?_
    walk_at"rd"
    refine⟨t,l,t2,l2,m,o,m2,o2,way-8,ws,ws2,G,rfl,c2.s,c2.nt,px,px2,fun ls x y d1 d2 G' HM nls hls tx ty s1 s2 fr nt' sH=>?_⟩
    have cM:=c2.more sH s1 fr nt'
    have lD:=(c2.free nls).2.2
    walk_at"rd"
    refine rd_slset ?_
    walk_at"rd"
    refine⟨D,ls,ts.map V.ref,_,_,_,rfl,rfl,rfl,rfl,cM.ck.lat,hls,lD.symm,by omega,by omega,by omega,(by exact Nat.le_trans (m:=1000) (by simp;omega) (Nat.le_of_lt (small1000 (Nat.le_refl 1000)))),?_⟩
    walk_at"rd"
    refine SpI.mk we1 cM.push (by omega) s2 (by simp;omega) fun x hx=>?_
    rcases List.mem_append.mp hx with z|z
    ·rcases List.mem_append.mp z with z|z
     ·exact .inl (List.mem_of_mem_take z)
     ·simp only[List.mem_cons,List.not_mem_nil,or_false]at z
      rcases z with rfl|rfl
      ·exact .inr ⟨_,tx⟩
      ·exact .inr ⟨_,ty⟩
    ·exact .inl (List.mem_of_mem_drop z)
   ·rw[decide_eq_false c3]
    walk_at"rd"
    by_cases c:way=10
    ·rw[decide_eq_true c]
     walk_at"rd"
     refine⟨.inl ⟨rfl,_,SqL.of c2.ck.lat⟩,?_⟩
     walk_at"rd"
     refine⟨(by show 0≤sizeLine;decide),fun e1 ne1=>?_⟩
     have fe1:=c2.free ne1
     generalize hE:upd _ e1 _=HN
     obtain⟨he1,se1⟩:=newo ne1 hE
     clear hE
     have c2:=c2.same se1
     walk_at"rd"
     refine⟨(by show 3≤sizeLine;decide),fun e2 ne2=>?_⟩
     have fe2:=c2.free ne2
     generalize hE:upd _ e2 _=HN
     obtain⟨he2,se2⟩:=newo ne2 hE
     clear hE
     have he1:=se2 _ _ he1
     have c2:=c2.same se2
     walk_at"rd"
     obtain⟨cz,sz⟩:=c2.nv
     obtain⟨d1,z1⟩:=tup_tv (n:=2) (c2.tup he2 fe2.1) (by simp) (any3 (iT _) ⟨_,TV.lst (c2.lst he1 fe1.1 fe1.2.1 fe1.2.2) (by simp) PV.nil⟩ (iT _))
     refine⟨D,_,_,_,rfl,rfl,c2.ck.lat,by omega,by omega,by omega,?_⟩
     walk_at"rd"
     refine SpI.mk we1 cz.push (by omega) sz (by rw[List.length_append,List.length_cons,List.length_take,List.length_drop];omega) fun x hx=>?_
     rcases List.mem_append.mp hx with z|z
     ·exact .inl (List.mem_of_mem_take z)
     ·rcases List.mem_cons.mp z with rfl|z
      ·exact .inr ⟨_,z1⟩
      ·exact .inl (List.mem_of_mem_drop z)
    rw[decide_eq_false c]
    walk_at"rd"
    by_cases c:way=11
    ·rw[decide_eq_true c]
     walk_at"rd"
     refine⟨(by show 0≤sizeLine;decide),fun e1 ne1=>?_⟩
     have fe1:=c2.free ne1
     generalize hE:upd _ e1 _=HN
     obtain⟨he1,se1⟩:=newo ne1 hE
     clear hE
     have c2:=c2.same se1
     walk_at"rd"
     refine⟨(by show 3≤sizeLine;decide),fun e2 ne2=>?_⟩
     have fe2:=c2.free ne2
     generalize hE:upd _ e2 _=HN
     obtain⟨he2,se2⟩:=newo ne2 hE
     clear hE
     have he1:=se2 _ _ he1
     have c2:=c2.same se2
     walk_at"rd"
     refine rd_ixL (SqL.of c2.ck.lat) (atI_nat hat) ?_
     walk_at"rd"
     refine⟨(by show 2≤sizeLine;decide),fun e3 ne3=>?_⟩
     have fe3:=c2.free ne3
     generalize hE:upd _ e3 _=HN
     obtain⟨he3,se3⟩:=newo ne3 hE
     clear hE
     have he1:=se3 _ _ he1
     have he2:=se3 _ _ he2
     have c2:=c2.same se3
     walk_at"rd"
     obtain⟨cz,sz⟩:=c2.nv
     obtain⟨d1,z1⟩:=tup_tv (n:=2) (c2.tup he2 fe2.1) (by simp) (any3 (iT _) ⟨_,TV.lst (c2.lst he1 fe1.1 fe1.2.1 fe1.2.2) (by simp) PV.nil⟩ (iT _))
     refine rd_slset ?_
     walk_at"rd"
     refine⟨D,e3,ts.map V.ref,_,_,_,rfl,rfl,rfl,rfl,c2.ck.lat,he3,fe3.2.2.symm,by omega,by omega,by omega,(by exact Nat.le_trans (m:=1000) (by simp;omega) (Nat.le_of_lt (small1000 (Nat.le_refl 1000)))),?_⟩
     walk_at"rd"
     refine SpI.mk we1 cz.push (by omega) sz (by simp;omega) fun x hx=>?_
     rcases List.mem_append.mp hx with z|z
     ·rcases List.mem_append.mp z with z|z
      ·exact .inl (List.mem_of_mem_take z)
      ·simp only[List.mem_cons,List.not_mem_nil,or_false]at z
       rcases z with rfl|rfl
       ·exact .inr ⟨_,z1⟩
       ·exact .inl (List.mem_of_getElem? hat)
     ·exact .inl (List.mem_of_mem_drop z)
    rw[decide_eq_false c]
    walk_at"rd"
    refine rd_ixL (SqL.of c2.ck.lat) (atI_nat hat) ?_
    walk_at"rd"
    refine⟨p,t,l,_,m,o,ws,G,rfl,⟨c2.s,c2.np,c2.ck.hh,Kp.refl _ _,c2.nt⟩,by omega,px,fun x d G' HM tx gM sM fr=>?_⟩
    have cM:=c2.moreH gM fr
    walk_at"rd"
    refine⟨D,ts.map V.ref,a,a,rfl,rfl,cM.ck.lat,ixN_in al2,?_⟩
    walk_at"rd"
    refine SpI.mk we1 cM.push (by omega) sM (by rw[List.length_set];omega) fun y hy=>?_
    rcases set_or hy with z|rfl
    ·exact .inl z
    ·exact .inr ⟨_,tx⟩
  rw[decide_eq_false c]
  walk_at"rd"
  by_cases c:way=10
  ·rw[decide_eq_true c]
   walk_at"rd"
   refine⟨.inl ⟨rfl,_,SqL.of c2.ck.lat⟩,?_⟩
   walk_at"rd"
   refine⟨(by show 0≤sizeLine;decide),fun e1 ne1=>?_⟩
   have fe1:=c2.free ne1
   generalize hE:upd _ e1 _=HN
   obtain⟨he1,se1⟩:=newo ne1 hE
   clear hE
   have c2:=c2.same se1
   walk_at"rd"
   refine⟨(by show 3≤sizeLine;decide),fun e2 ne2=>?_⟩
   have fe2:=c2.free ne2
   generalize hE:upd _ e2 _=HN
   obtain⟨he2,se2⟩:=newo ne2 hE
   clear hE
   have he1:=se2 _ _ he1
   have c2:=c2.same se2
   walk_at"rd"
   obtain⟨cz,sz⟩:=c2.nv
   obtain⟨d1,z1⟩:=tup_tv (n:=2) (c2.tup he2 fe2.1) (by simp) (any3 (iT _) ⟨_,TV.lst (c2.lst he1 fe1.1 fe1.2.1 fe1.2.2) (by simp) PV.nil⟩ (iT _))
   refine⟨D,_,_,_,rfl,rfl,c2.ck.lat,by omega,by omega,by omega,?_⟩
   walk_at"rd"
   refine SpI.mk we1 cz.push (by omega) sz (by rw[List.length_append,List.length_cons,List.length_take,List.length_drop];omega) fun x hx=>?_
   rcases List.mem_append.mp hx with z|z
   ·exact .inl (List.mem_of_mem_take z)
   ·rcases List.mem_cons.mp z with rfl|z
    ·exact .inr ⟨_,z1⟩
    ·exact .inl (List.mem_of_mem_drop z)
  rw[decide_eq_false c]
  walk_at"rd"
  by_cases c:way=11
  ·rw[decide_eq_true c]
   walk_at"rd"
   refine⟨(by show 0≤sizeLine;decide),fun e1 ne1=>?_⟩
   have fe1:=c2.free ne1
   generalize hE:upd _ e1 _=HN
   obtain⟨he1,se1⟩:=newo ne1 hE
   clear hE
   have c2:=c2.same se1
   walk_at"rd"
   refine⟨(by show 3≤sizeLine;decide),fun e2 ne2=>?_⟩
   have fe2:=c2.free ne2
   generalize hE:upd _ e2 _=HN
   obtain⟨he2,se2⟩:=newo ne2 hE
   clear hE
   have he1:=se2 _ _ he1
   have c2:=c2.same se2
   walk_at"rd"
   refine rd_ixL (SqL.of c2.ck.lat) (atI_nat hat) ?_
   walk_at"rd"
   refine⟨(by show 2≤sizeLine;decide),fun e3 ne3=>?_⟩
   have fe3:=c2.free ne3
   generalize hE:upd _ e3 _=HN
   obtain⟨he3,se3⟩:=newo ne3 hE
   clear hE
   have he1:=se3 _ _ he1
   have he2:=se3 _ _ he2
   have c2:=c2.same se3
   walk_at"rd"
   obtain⟨cz,sz⟩:=c2.nv
   obtain⟨d1,z1⟩:=tup_tv (n:=2) (c2.tup he2 fe2.1) (by simp) (any3 (iT _) ⟨_,TV.lst (c2.lst he1 fe1.1 fe1.2.1 fe1.2.2) (by simp) PV.nil⟩ (iT _))
   refine rd_slset ?_
   walk_at"rd"
   refine⟨D,e3,ts.map V.ref,_,_,_,rfl,rfl,rfl,rfl,c2.ck.lat,he3,fe3.2.2.symm,by omega,by omega,by omega,(by exact Nat.le_trans (m:=1000) (by simp;omega) (Nat.le_of_lt (small1000 (Nat.le_refl 1000)))),?_⟩
   walk_at"rd"
   refine SpI.mk we1 cz.push (by omega) sz (by simp;omega) fun x hx=>?_
   rcases List.mem_append.mp hx with z|z
   ·rcases List.mem_append.mp z with z|z
    ·exact .inl (List.mem_of_mem_take z)
    ·simp only[List.mem_cons,List.not_mem_nil,or_false]at z
     rcases z with rfl|rfl
     ·exact .inr ⟨_,z1⟩
     ·exact .inl (List.mem_of_getElem? hat)
   ·exact .inl (List.mem_of_mem_drop z)
  rw[decide_eq_false c]
  walk_at"rd"
  refine rd_ixL (SqL.of c2.ck.lat) (atI_nat hat) ?_
  walk_at"rd"
  refine⟨p,t,l,_,m,o,ws,G,rfl,⟨c2.s,c2.np,c2.ck.hh,Kp.refl _ _,c2.nt⟩,by omega,px,fun x d G' HM tx gM sM fr=>?_⟩
  have cM:=c2.moreH gM fr
  walk_at"rd"
  refine⟨D,ts.map V.ref,a,a,rfl,rfl,cM.ck.lat,ixN_in al2,?_⟩
  walk_at"rd"
  refine SpI.mk we1 cM.push (by omega) sM (by rw[List.length_set];omega) fun y hy=>?_
  rcases set_or hy with z|rfl
  ·exact .inl z
  ·exact .inr ⟨_,tx⟩
 ·rintro σ' H9 ⟨x8,ys,G',rfl,c9,sG,yl,ye⟩
  walk_at"rd"
  obtain⟨gD,sD⟩:=c9.done
  obtain⟨d6,z6⟩:=lst_tv (G:=upd G' D (.lst ys)) upd_same (by omega) fun w hw=>by
   obtain⟨d,hd⟩:=ye w hw
   exact⟨d,hd.same sD⟩
  exact q _ _ _ _ (.inl ⟨_,rfl,z6.up (by omega)⟩) (gD.mono (by omega)) (sG.trans sD)
theorem ok__law_whole_number {f:Addr}{fd:FuncData}(F:Fun K "_law_whole_number" "_law_whole_number" s__law_whole_number f fd) (mF:mg "_law_whole_number" = some (.ref f)) (bF:Binds K fd ["_law_thing_here"] []) (T:Bl mg)  : Cal P w K mg base "_law_whole_number" ["_law_thing_here"] 1 (sp__law_whole_number K):=by
 refine Cal.of F mF bF sc__law_whole_number (fun vs H Q E h=>?_) (fun cdv A outer s H vs Q E hr h=>?_)
 ·obtain⟨v,d,n,rfl,_⟩:=h;rfl
 obtain⟨v,d,n,rfl,td,q⟩:=h
 obtain⟨ty,h0,h1,h2,_⟩:=TV.ty (K:=K) td
 refine⟨_,(pss_one (ps_ret (pe_and (pe_callB call_isinst rfl T.isinstance bt_isinstance (pa_cons (pv 0) (pa_cons (pe_bltn (v:=.ty "int") rfl T.int bt_int rfl) pa_nil stx_Name) stx_Name)) (pe_one (pe_not (pe_callB call_isinst rfl T.isinstance bt_isinstance (pa_cons (pv 0) (pa_cons (pe_bltn (v:=.ty "bool") rfl T.bool bt_bool rfl) pa_nil stx_Name) stx_Name))))))),?_⟩
 rw[st__law_whole_number]
 walk_at"rd"
 by_cases c:(dI d || dB d)=true
 ·rw[c]at h1
  refine rd_isi h0 h1 ?_
  walk_at"rd"
  refine rd_isi h0 h2 ?_
  walk_at"rd"
  have e:(!dB d)=dI d:=by cases d <;> first|rfl|cases c
  rw[e]
  exact q
 ·have c:(dI d || dB d)=false:=by simpa using c
  rw[c]at h1
  refine rd_isi h0 h1 ?_
  walk_at"rd"
  have e:dI d=false:=by cases d <;> first|rfl|cases c
  rw[e]at q
  exact q
theorem ok__law_is_entry {f:Addr}{fd:FuncData}(F:Fun K "_law_is_entry" "_law_is_entry" s__law_is_entry f fd) (mF:mg "_law_is_entry" = some (.ref f)) (bF:Binds K fd ["_law_entry"] []) (T:Bl mg) (C__law_whole_number:Cal P w K mg base "_law_whole_number" ["_law_thing_here"] 1 (sp__law_whole_number K)):Cal P w K mg base "_law_is_entry" ["_law_entry"] 2 (sp__law_is_entry K):=by
 refine Cal.of F mF bF sc__law_is_entry (fun vs H Q E h=>?_) (fun cdv A outer s H vs Q E hr h=>?_)
 ·obtain⟨v,a,b,n,rfl,_⟩:=h;rfl
 obtain⟨v,a,b,n,rfl,td,q⟩:=h
 obtain⟨j,t,xs,rfl,rfl,ht,xl,pw⟩:=td.asT
 refine⟨_,(pss_one (ps_ret (pe_and (pe_callB call_isinst rfl T.isinstance bt_isinstance (pa_cons (pv 0) (pa_cons (pe_bltn (v:=.ty "tuple") rfl T.tuple bt_tuple rfl) pa_nil stx_Name) stx_Name)) (pe_one (pcl C__law_whole_number (hr.mono (by decide)) (pa_cons (pe_ix ix_tup (pv 0) pe_int (fun _ _=>rfl)) pa_nil stx_Subscript)))))),?_⟩
 rw[st__law_is_entry]
 walk_at"rd"
 refine rd_isi (.tup ht) (b:=true) rfl ?_
 obtain⟨x,y,rfl⟩:=len2 (xs:=xs) pw.l1
 walk_at"rd"
 exact⟨x,a,j,rfl,pw.at' 0 x a rfl rfl,q⟩
theorem ok__law_is_walk {f:Addr}{fd:FuncData}(F:Fun K "_law_is_walk" "_law_is_walk" s__law_is_walk f fd) (mF:mg "_law_is_walk" = some (.ref f)) (bF:Binds K fd ["_law_entries", "_law_thing_here"] []) (T:Bl mg) (C__law_whole_number:Cal P w K mg base "_law_whole_number" ["_law_thing_here"] 1 (sp__law_whole_number K)) (C__law_turned:Cal P w K mg base "_law_turned" ["_law_key_here"] 1 (sp__law_turned K)) (C__law_is_entry:Cal P w K mg base "_law_is_entry" ["_law_entry"] 2 (sp__law_is_entry K)):Cal P w K mg base "_law_is_walk" ["_law_entries", "_law_thing_here"] 3 (sp__law_is_walk K):=by
 refine Cal.of F mF bF sc__law_is_walk (fun vs H Q E h=>?_) (fun cdv A outer s H vs Q E hr h=>?_)
 ·obtain⟨le,pe,v,o,rfl,_⟩:=h;rfl
 obtain⟨le,pe,v,o,rfl,ep,ok,av,q⟩:=h
 have hu:=hr.units
 refine⟨_,(pss_cons (ps_if (pt_not (pt_val (pe_callB call_isinst rfl T.isinstance bt_isinstance (pa_cons (pv 1) (pa_cons (pe_bltn (v:=.ty "list") rfl T.list bt_list rfl) pa_nil stx_Name) stx_Name)))) (pss_one (ps_ret pe_bl)) pss_nil)
   (pss_cons (ps_set (i:=2) sc__law_is_walk.nd rfl (Or.inr rfl) pe_int)
   (pss_cons (ps_for PassesOwn.never rfl (pi_list (pv 1)) (pg_name (i:=3) sc__law_is_walk.nd rfl (Or.inr rfl)) (pss_cons (ps_if (PW.pt (pw_or (pt_not (pt_val (pe_callB call_isinst rfl T.isinstance bt_isinstance (pa_cons (pv 3) (pa_cons (pe_bltn (v:=.ty "tuple") rfl T.tuple bt_tuple rfl) pa_nil stx_Name) stx_Name)))) (pw_or (pt_cmpR op_ne (pe_callB call_lenL rfl T.len bt_len (pa_cons (pv 3) pa_nil stx_Name)) pe_int (nomark _)) (pw_or1 (pt_not (pt_val (pe_callB call_isinst rfl T.isinstance bt_isinstance (pa_cons (pe_ix ix_tup (pv 3) pe_int (fun _ _=>rfl)) (pa_cons (pe_bltn (v:=.ty "list") rfl T.list bt_list rfl) pa_nil stx_Name) stx_Subscript)))))))) (pss_one (ps_ret pe_bl)) pss_nil)
   (pss_cons (ps_if (PW.pt (pw_or (pt_not (pt_val (pcl C__law_whole_number (hr.mono (by decide)) (pa_cons (pe_ix ix_tup (pv 3) pe_int (fun _ _=>rfl)) pa_nil stx_Subscript)))) (pw_or1 (pt_not (pt_val (pcl C__law_whole_number (hr.mono (by decide)) (pa_cons (pe_ix ix_tup (pv 3) pe_int (fun _ _=>rfl)) pa_nil stx_Subscript))))))) (pss_one (ps_ret pe_bl)) pss_nil)
   (pss_cons (ps_if (PW.pt (pw_or (pt_cmpR op_ne (pe_ix ix_tup (pv 3) pe_int (fun _ _=>rfl)) (pv 2) (nomark _)) (pw_or (pt_cmpR op_le (pe_ix ix_tup (pv 3) pe_int (fun _ _=>rfl)) (pv 2) (nomark _)) (pw_or1 (pt_cmpR op_gt (pe_ix ix_tup (pv 3) pe_int (fun _ _=>rfl)) (pe_powC (c:=1152921504606846976) (by decide +kernel) ⟨by decide,by decide,by decide⟩) (nomark _)))))) (pss_one (ps_ret pe_bl)) pss_nil)
   (pss_cons (ps_set (i:=4) sc__law_is_walk.nd rfl (Or.inl rfl) (pe_callB call_sortT rfl T.sorted bt_sorted (pa_cons (pe_comp rfl (blkOk (sc:=defScope s__law_is_walk) (N:=["_law_entries", "_law_thing_here", "_law_mark", "_law_one", "_law_some", "_law_due"]) (vs:=["_law_key_here", "_law_word"]) (fs:=[]) (js:=[]) (by decide +kernel) rfl rfl) (pi_list (pv 0)) (fun _ _ _ _=>pg_tupK (K:=K) (n:=2) rfl rfl (pgs_cons (pg_name (i:=0) (show(["_law_key_here", "_law_word"]:List Str).Nodup by decide +kernel) rfl (Or.inl rfl)) (pgs_cons (pg_name (i:=1) (show(["_law_key_here", "_law_word"]:List Str).Nodup by decide +kernel) rfl (Or.inl rfl)) pgs_nil))) (fun _ _ _ _=>pif0) (fun _ _ _ _=>(pe_tup (pa_cons (pcl C__law_turned (hr.mono (by decide)) (pa_cons (pv 0) pa_nil stx_Name)) (pa_cons (pv 0) (pa_cons (pv 1) pa_nil stx_Name) stx_Name) stx_Call)))) pa_nil stx_ListComp)))
   (pss_cons (ps_setc (i:=5) sc__law_is_walk.nd rfl rfl rfl (blkOk (sc:=defScope s__law_is_walk) (N:=["_law_entries", "_law_thing_here", "_law_mark", "_law_one", "_law_some", "_law_due"]) (vs:=["_law_at", "_law_key_here", "_law_word"]) (fs:=["_law_mark", "_law_one"]) (js:=[2,3]) (by decide +kernel) rfl rfl) (pi_list (pv 4)) (fun _ _ _ _=>pg_tupK (K:=K) (n:=3) rfl rfl (pgs_cons (pg_name (i:=0) (show(["_law_at", "_law_key_here", "_law_word", "_law_mark", "_law_one"]:List Str).Nodup by decide +kernel) rfl (Or.inl rfl)) (pgs_cons (pg_name (i:=1) (show(["_law_at", "_law_key_here", "_law_word", "_law_mark", "_law_one"]:List Str).Nodup by decide +kernel) rfl (Or.inl rfl)) (pgs_cons (pg_name (i:=2) (show(["_law_at", "_law_key_here", "_law_word", "_law_mark", "_law_one"]:List Str).Nodup by decide +kernel) rfl (Or.inl rfl)) pgs_nil)))) (fun _ _ _ _=>pif1 (PW.pt (pw_and (pt_cmpR op_le (pv 3) (pv 0) (nomark _)) (pw_and1 (pt_cmpR op_lt (pv 0) (pe_ix (ix_tupK (K:=K) rfl) (pv 4) pe_int (fun _ _=>rfl)) (nomark _)))))) (fun _ _ _ _=>(pe_tup (pa_cons (pv 1) (pa_cons (pv 2) pa_nil stx_Name) stx_Name))))
   (pss_cons (ps_if (PW.pt (pw_or (pt_cmpR (op_neD hu) (pe_ix ix_tup (pv 3) pe_int (fun _ _=>rfl)) (pv 5) (nomark _)) (pw_or1 (pt_not (pt_val (pe_callB (call_allL rfl) rfl T.all bt_all (pa_cons (pe_comp rfl (blkOk (sc:=defScope s__law_is_walk) (N:=["_law_entries", "_law_thing_here", "_law_mark", "_law_one", "_law_some", "_law_due"]) (vs:=["_law_entry"]) (fs:=[]) (js:=[]) (by decide +kernel) rfl rfl) (pi_list (pe_ix ix_tup (pv 3) pe_int (fun _ _=>rfl))) (fun _ _ _ _=>pg_name (i:=0) (show(["_law_entry"]:List Str).Nodup by decide +kernel) rfl (Or.inl rfl)) (fun _ _ _ _=>pif0) (fun _ _ _ _=>(pcl C__law_is_entry (hr.mono (by decide)) (pa_cons (pv 0) pa_nil stx_Name)))) pa_nil stx_ListComp))))))) (pss_one (ps_ret pe_bl)) pss_nil)
   (pss_one (ps_set (i:=2) sc__law_is_walk.nd rfl (Or.inr rfl) (pe_ix ix_tup (pv 3) pe_int (fun _ _=>rfl)))))))))))
   (pss_one (ps_ret (pe_cmpR op_eq (pv 2) (pe_powC (c:=1152921504606846976) (by decide +kernel) ⟨by decide,by decide,by decide⟩) (nomark _))))))),?_⟩
 rw[st__law_is_walk]
 walk_at"rd"
 rcases av with⟨d,rfl,td⟩|⟨rfl,dd,rfl,hdd⟩
 ·obtain⟨ty,h0,_,_,_,h4⟩:=TV.ty (K:=K) td
  have q:∀H',Same H H'→Q (.bl (walkB pe d)) H':=q
  by_cases c:dL d=true
  ·obtain⟨ds,rfl⟩ : ∃ds,d = .list ds:=by
    cases d <;> first|exact⟨_,rfl⟩|cases c
   refine rd_isi h0 (b:=true) h4 ?_
   walk_at"rd"
   obtain⟨j,lp,xs,ej,rfl,hlp,xl,pw⟩:=td.asL
   have ej:j=4:=by omega
   subst ej
   have ol:=pw.l1
   refine⟨lp,rfl,⟨_,SqL.of hlp⟩,?_⟩
   refine for_listO (xs:=xs) (fun i σ H'=>(∃m y3 y4 y5,σ=[some (.ref le),some (.ref lp),some (.int m),y3,y4,y5]∧lawL pe 0 ds=lawL pe m (ds.drop i))∧Same H H') ⟨⟨_,_,_,_,rfl,rfl⟩,fun _ _ e=>e⟩ (fun _ _ _ _ h=>SqL.of (h.2 _ _ hlp)) ?_ ?_
   ·rintro i x σ H1 hx ⟨⟨m,y3,y4,y5,rfl,hw⟩,s1⟩
    obtain⟨d,hd,r⟩:=pw.get hx
    have il:=(List.getElem?_eq_some_iff.mp hd).1
    rw[List.drop_eq_getElem_cons il,(List.getElem?_eq_some_iff.mp hd).2]at hw
    have st:lawL pe m (d::ds.drop (i+1))=match pageL pe m d with
     | some b=>lawL pe b (ds.drop (i+1))
     | none=>false:=by
     conv=>lhs;unfold lawL
    have no:pageL pe m d=none→∀H',Same H H'→Q (.bl false) H':=fun e H' s=>by
     rw[e]at st
     have q:Q (.bl (walkL pe 0 ds)) H':=q H' s
     rw[← law_walk,hw,st]at q
     exact q
    have none_of:(∀a own b,d ≠ .tuple [.int a,.list own,.int b])→pageL pe m d=none:=fun n=>by
     unfold pageL
     split
     ·exact absurd rfl (n _ _ _)
     ·rfl
    have r:=r.same s1
    obtain⟨ty,h0,_,_,h3,_⟩:=TV.ty (K:=K) r
    walk_at"rd"
    by_cases c:dT d=true
    ·obtain⟨es,rfl⟩ : ∃ds,d = .tuple ds:=by
      cases d <;> first|exact⟨_,rfl⟩|cases c
     refine rd_isi h0 (b:=true) h3 ?_
     walk_at"rd"
     obtain⟨j,t,zs,ej,rfl,ht,zl,pz⟩:=r.asT
     have ej:j=3:=by omega
     subst ej
     have ln:=pz.l1
     refine⟨t,_,rfl,.inr (SqT.of ht),?_⟩
     walk_at"rd"
     by_cases c2:es.length=3
     ·obtain⟨a,b,e,rfl⟩:=len3 c2
      obtain⟨x,y,z,rfl⟩:=len3 (xs:=zs) (by omega)
      have p0:=pz.at' 0 x a rfl rfl
      have p1:=pz.at' 1 y b rfl rfl
      have p2:=pz.at' 2 z e rfl rfl
      obtain⟨ty1,k0,_,_,_,k4⟩:=TV.ty (K:=K) p1
      rw[if_neg (by simp)]
      walk_at"rd"
      by_cases cb:dL b=true
      ·obtain⟨own,rfl⟩ : ∃ds,b = .list ds:=by
        cases b <;> first|exact⟨_,rfl⟩|cases cb
       refine rd_isi k0 (b:=true) k4 ?_
       walk_at"rd"
       refine⟨x,a,3,rfl,p0,?_⟩
       by_cases ca:dI a=true
       ·rw[ca]
        obtain⟨a,rfl⟩ : ∃i,a = .int i:=by
         cases a <;> first|exact⟨_,rfl⟩|cases ca
        obtain rfl:=p0.asI
        walk_at"rd"
        refine⟨z,e,3,rfl,p2,?_⟩
        by_cases ce:dI e=true
        ·rw[ce]
         obtain⟨o,rfl⟩ : ∃i,e = .int i:=by
          cases e <;> first|exact⟨_,rfl⟩|cases ce
         obtain rfl:=p2.asI
         walk_at"rd"
         have neg:(¬(a=m∧m<o∧o≤1152921504606846976∧PyData.eqv (.list own) (.list ((btw pe m o).map eD))=true∧own.all entOk=true))→pageL pe m (.tuple [.int a,.list own,.int o])=none:=fun n=>by rw[pageL_at,if_neg n]
         by_cases cm:a=m
         ·subst cm
          rw[if_neg (by simp)]
          walk_at"rd"
          by_cases co:o≤a
          ·rw[if_pos (by simpa using co)]
           walk_at"rd"
           exact no (neg fun h=>by omega) H1 s1
          ·rw[if_neg (by simpa using co)]
           walk_at"rd"
           by_cases cp:o > 1152921504606846976
           ·rw[if_pos (by simpa using cp)]
            walk_at"rd"
            exact no (neg fun h=>by omega) H1 s1
           ·rw[if_neg (by simpa using cp)]
            walk_at"rd"
            obtain⟨te,hle,eL⟩:=EP.same s1 ep
            have el:=eL.1
            have pl60:=ok.2.2
            refine⟨le,rfl,⟨_,SqL.of hle⟩,fun D nD=>?_⟩
            refine comp_list (xs:=te.map V.ref) (fun i σ' ys H'=>(∃x y,σ'=[x,y])∧Same H1 H'∧H' D=some (.lst ys)∧∃ts:List Addr,ys=ts.map V.ref∧P1 (T3 H') ts (pe.take i)) D ⟨⟨_,_,rfl⟩,same_new nD _,upd_same,[],rfl,P1.nil⟩ (fun i σ' ys H' _ h=>SqL.of (h.2.1 _ _ hle)) ?_ ?_
            ·rintro i x σ' ys H2 hx ⟨⟨x1,x2,rfl⟩,s2,hD,ts,rfl,pt⟩
             obtain⟨u,hu,rfl⟩:=refs_get hx
             obtain⟨en,hen,htu,_⟩:=eL.get hu
             have htu:=s2 _ _ htu
             have il:=(List.getElem?_eq_some_iff.mp hen).1
             have tl:=pt.1
             rw[List.length_take]at tl
             walk_at"rd"
             refine⟨u,_,rfl,SqT.of htu,rfl,_,_,rfl,_,_,rfl,rfl,?_⟩
             walk_at"rd"
             refine⟨en.1,rfl,?_⟩
             walk_at"rd"
             refine⟨(by show 3≤sizeLine;decide),fun t3 nt3=>?_⟩
             generalize hE:upd H2 t3 _=H3
             obtain⟨ht3,s3⟩:=newo nt3 hE
             clear hE
             have tD:t3≠D:=fun z=>by rw[z,hD]at nt3;cases nt3
             refine⟨s3 _ _ hD,by rw[List.length_map];exact small1000 (by omega),⟨_,_,rfl⟩,fun b o e=>by rw[upd_ne (ne_of_none e nD)];exact s3 _ _ (s2 _ _ e),upd_same,ts ++ [t3],by rw[List.map_append];rfl,?_⟩
             rw[take_get hen]
             refine P1.snoc (pt.imp fun b y z=>?_) ?_
             ·unfold T3 at z ⊢
              rw[upd_ne (ne_of z hD (by intro q;cases q))];exact s3 _ _ z
             ·unfold T3
              rw[upd_ne tD];exact ht3
            rintro σ' ys H2 ⟨⟨x1,x2,rfl⟩,s2,hD,ts,rfl,pt⟩
            rw[List.length_map,el,List.take_length]at pt
            obtain⟨q1,q2,q3⟩:=t3_sort pt ok
            have tl:=pt.1
            walk_at"rd"
            refine⟨D,ts,fun t=>rev (tA H2 t).1 60,rfl,SqL.of hD,by omega,q1,q2,fun us l3 u1 u2 nl3=>?_⟩
            obtain⟨qs,pq,qp,qv⟩:=q3 us u1 u2
            generalize hE:upd H2 l3 _=H3
            obtain⟨hl3,s3⟩:=newo nl3 hE
            clear hE
            have pq:=pq.imp (p':=T3 H3) fun b y z=>s3 _ _ z
            have s13:=s2.trans s3
            have ul:=pq.1
            have qn:qs.length≤60:=by rw[qp.length_eq];omega
            have bt:=t3_btw ok qp qv a o
            have ht3:=s13 _ _ ht
            clear q1 q2 q3 u1 u2 hD pt nl3
            walk_at"rd"
            refine⟨l3,rfl,⟨_,SqL.of hl3⟩,fun D2 nD2=>?_⟩
            refine comp_list (xs:=us.map V.ref) (fun i σ' ys H'=>(∃x y z,σ'=[x,y,z,some (.int a),some (.ref t)])∧Same H3 H'∧H' D2=some (.lst ys)∧∃vs:List Addr,ys=vs.map V.ref∧EL H' vs ((qs.take i).filter (inB a o))) D2 ⟨⟨_,_,_,rfl⟩,same_new nD2 _,upd_same,[],rfl,P1.nil⟩ (fun i σ' ys H' _ h=>SqL.of (h.2.1 _ _ hl3)) ?_ ?_
            ·rintro i x σ' ys H4 hx ⟨⟨x1,x2,x3,rfl⟩,s4,hD2,vs,rfl,ev⟩
             obtain⟨u,hu,rfl⟩:=refs_get hx
             obtain⟨en,hen,htu⟩:=pq.get hu
             have htu:=s4 _ _ htu
             have ht4:=s4 _ _ ht3
             have il:=(List.getElem?_eq_some_iff.mp hen).1
             have ei:=ok.2.1 _ (qp.mem_iff.mp (List.mem_of_getElem? hen))
             have vl:=ev.1
             have fl:=List.length_filter_le (inB a o) (qs.take i)
             rw[List.length_take]at fl
             have stp:(qs.take (i+1)).filter (inB a o) =(qs.take i).filter (inB a o)++(if inB a o en then [en] else []):=by
              rw[take_get hen,List.filter_append];congr 1
              by_cases c:inB a o en=true
              ·simp[c]
              ·simp[c]
             walk_at"rd"
             refine⟨u,_,rfl,SqT.of htu,rfl,_,_,rfl,_,_,rfl,_,_,rfl,rfl,?_⟩
             walk_at"rd"
             by_cases c1:a≤rev en.1 60
             ·rw[decide_eq_true c1]
              walk_at"rd"
              by_cases c2:rev en.1 60<o
              ·rw[decide_eq_true c2]
               walk_at"rd"
               refine⟨(by show 2≤sizeLine;decide),fun t6 nt6=>?_⟩
               generalize hE:upd H4 t6 _=H6
               obtain⟨ht6,s6⟩:=newo nt6 hE
               clear hE
               have tD:t6≠D2:=fun z=>by rw[z,hD2]at nt6;cases nt6
               refine⟨s6 _ _ hD2,by rw[List.length_map];exact small1000 (by omega),⟨_,_,_,rfl⟩,fun b o e=>by rw[upd_ne (ne_of_none e nD2)];exact s6 _ _ (s4 _ _ e),upd_same,vs ++ [t6],by rw[List.map_append];rfl,?_⟩
               rw[stp,if_pos (by unfold inB;rw[decide_eq_true c1,decide_eq_true c2];rfl)]
               refine P1.snoc (ev.imp fun b y z=>⟨?_,z.2⟩) ⟨by rw[upd_ne tD];exact ht6,ei.2.2.1,ei.1,ei.2.1,ei.2.2.2⟩
               rw[upd_ne (ne_of z.1 hD2 (by intro q;cases q))];exact s6 _ _ z.1
              ·rw[decide_eq_false c2]
               walk_at"rd"
               refine⟨⟨_,_,_,rfl⟩,s4,hD2,vs,rfl,?_⟩
               rw[stp,if_neg (by unfold inB;rw[decide_eq_false c2,Bool.and_false];simp),List.append_nil];exact ev
             ·rw[decide_eq_false c1]
              walk_at"rd"
              refine⟨⟨_,_,_,rfl⟩,s4,hD2,vs,rfl,?_⟩
              rw[stp,if_neg (by unfold inB;rw[decide_eq_false c1,Bool.false_and];simp),List.append_nil];exact ev
            rintro σ' ys H4 ⟨⟨x1,x2,x3,rfl⟩,s4,hD2,vs,rfl,ev⟩
            rw[List.length_map,ul,List.take_length,bt]at ev
            have s14:=s13.trans s4
            have ql:(btw pe a o).length≤500:=by
             rw[← bt]
             have:=List.length_filter_le (inB a o) qs
             omega
            have ht4:=s14 _ _ ht
            have g1:=p1.same s14
            have g2:TV H4 2 (.ref D2) (.list ((btw pe a o).map eD)):=el_dv hD2 ev ql
            walk_at"rd"
            refine⟨_,_,g1.gd.1,g2.gd.1,g1.shaped K (by omega),g2.shaped K (by omega),?_⟩
            walk_at"rd"
            by_cases cq:PyData.eqv (.list own) (.list ((btw pe a o).map eD))=true
            ·rw[cq]
             walk_at"rd"
             have two:=eqv_ents (own:=own) (qs:=btw pe a o) (by rw[PyData.eqv]at cq;exact cq)
             obtain⟨j,lo,ys,ej,rfl,hlo,yl,po⟩:=g1.asL
             have ej:j=2:=by omega
             subst ej
             have ol2:=po.l1
             refine⟨lo,rfl,⟨_,SqL.of hlo⟩,fun D3 nD3=>?_⟩
             refine comp_list (xs:=ys) (fun i σ' zs H'=>(∃x,σ'=[x])∧zs =((own.take i).map entOk).map V.bl∧Same H4 H'∧H' D3=some (.lst zs)) D3 ⟨⟨_,rfl⟩,rfl,same_new nD3 _,upd_same⟩ (fun i σ' ys H' _ h=>SqL.of (h.2.2.1 _ _ hlo)) ?_ ?_
             ·rintro i x σ' zs H5 hx ⟨⟨z1,rfl⟩,rfl,s5,hD3⟩
              obtain⟨d,hd,r⟩:=po.get hx
              have il:=(List.getElem?_eq_some_iff.mp hx).1
              obtain⟨d1,d2,rfl⟩:=two d (List.mem_of_getElem? hd)
              walk_at"rd"
              refine⟨x,d1,d2,2,rfl,r.same s5,?_⟩
              refine⟨hD3,by rw[List.length_map,List.length_map,List.length_take];exact small1000 (by omega),⟨_,rfl⟩,?_,fun c o e=>by rw[upd_ne (ne_of_none e nD3)];exact s5 _ _ e,upd_same⟩
              rw[take_get hd,List.map_append,List.map_append]
              have e:entOk (.tuple [d1,d2])=dI d1:=by cases d1 <;> rfl
              rw[← e];rfl
             rintro σ' zs H5 ⟨⟨z1,rfl⟩,rfl,s5,hD3⟩
             rw[ol2,List.take_length]at hD3
             have s15:=s14.trans s5
             have ht5:=s15 _ _ ht
             walk_at"rd"
             refine rd_allL (SqL.of hD3) ?_
             by_cases cl:own.all entOk=true
             ·rw[show(own.map entOk).all id=true by rw[List.all_map];exact cl]
              walk_at"rd"
              refine⟨⟨o,_,_,_,rfl,hw.trans ?_⟩,s1.trans s15⟩
              rw[st,pageL_at,if_pos ⟨rfl,by omega,by omega,cq,cl⟩]
             ·have cl:own.all entOk=false:=by simpa using cl
              rw[show(own.map entOk).all id=false by rw[List.all_map];exact cl]
              walk_at"rd"
              exact no (neg fun h=>by rw[cl]at h;cases h.2.2.2.2) H5 (s1.trans s15)
            ·have cq:PyData.eqv (.list own) (.list ((btw pe a o).map eD))=false:=by simpa using cq
             rw[cq]
             walk_at"rd"
             exact no (neg fun h=>by rw[cq]at h;cases h.2.2.2.1) H4 (s1.trans s14)
         ·rw[if_pos (by simpa using cm)]
          walk_at"rd"
          exact no (neg fun h=>cm h.1) H1 s1
        ·have ce:dI e=false:=by simpa using ce
         rw[ce]
         walk_at"rd"
         exact no (none_of (fun a own b h=>by cases h;cases ce)) H1 s1
       ·have ca:dI a=false:=by simpa using ca
        rw[ca]
        walk_at"rd"
        exact no (none_of (fun a own b h=>by cases h;cases ca)) H1 s1
      ·have cb:dL b=false:=by simpa using cb
       rw[cb]at k4
       refine rd_isi k0 k4 ?_
       walk_at"rd"
       exact no (none_of (fun a own b h=>by cases h;cases cb)) H1 s1
     ·rw[if_pos (by simp;omega)]
      walk_at"rd"
      exact no (none_of (fun a own b e=>c2 (by cases e;rfl))) H1 s1
    ·have c:dT d=false:=by simpa using c
     rw[c]at h3
     refine rd_isi h0 h3 ?_
     walk_at"rd"
     exact no (none_of (fun a own b e=>by rw[e]at c;cases c)) H1 s1
   ·rintro σ H1 ⟨⟨m,y3,y4,y5,rfl,hw⟩,s1⟩
    rw[ol,List.drop_length]at hw
    walk_at"rd"
    have q:Q (.bl (walkL pe 0 ds)) H1:=q H1 s1
    rw[← law_walk,hw]at q
    unfold lawL at q
    exact q
  ·have c:dL d=false:=by simpa using c
   rw[c]at h4
   refine rd_isi h0 h4 ?_
   walk_at"rd"
   have e:walkB pe d=false:=by cases d <;> first|rfl|cases c
   rw[e]at q
   exact q H fun _ _ e=>e
 ·refine rd_isi (.dK hdd) (b:=false) rfl ?_
  walk_at"rd"
  exact q H fun _ _ e=>e
theorem ok__law_kept {f:Addr}{fd:FuncData}(F:Fun K "_law_kept" "_law_kept" s__law_kept f fd) (mF:mg "_law_kept" = some (.ref f)) (bF:Binds K fd ["_law_thing_here"] []) (T:Bl mg) {kk jj:Nat}(C__law_kept:Cal P w K mg base "_law_kept" ["_law_thing_here"] kk (spr__law_kept K jj)):Cal P w K mg base "_law_kept" ["_law_thing_here"] (kk+1) (spr__law_kept K (jj+1)):=by
 refine Cal.of F mF bF sc__law_kept (fun vs H Q E h=>?_) (fun cdv A outer s H vs Q E hr h=>?_)
 ·obtain⟨v,o,G,rfl,_⟩:=h;rfl
 obtain⟨v,o,G,rfl,av,sG,q⟩:=h
 refine⟨_,(pss_cons (ps_if (pt_val (pe_callB call_isinst rfl T.isinstance bt_isinstance (pa_cons (pv 0) (pa_cons (pe_bltn (v:=.ty "list") rfl T.list bt_list rfl) pa_nil stx_Name) stx_Name))) (pss_one (ps_ret (pe_comp rfl (blkOk (sc:=defScope s__law_kept) (N:=["_law_thing_here"]) (vs:=["_law_one"]) (fs:=[]) (js:=[]) (by decide +kernel) rfl rfl) (pi_seq (pv 0)) (fun _ _ _ _=>pg_name (i:=0) (show(["_law_one"]:List Str).Nodup by decide +kernel) rfl (Or.inl rfl)) (fun _ _ _ _=>pif0) (fun _ _ _ _=>(pcl C__law_kept hr (pa_cons (pv 0) pa_nil stx_Name)))))) pss_nil)
   (pss_cons (ps_if (pt_val (pe_callB call_isinst rfl T.isinstance bt_isinstance (pa_cons (pv 0) (pa_cons (pe_bltn (v:=.ty "tuple") rfl T.tuple bt_tuple rfl) pa_nil stx_Name) stx_Name))) (pss_one (ps_ret (pe_callTy call_tuple_of rfl T.tuple bt_tuple (pa_cons (pe_comp rfl (blkOk (sc:=defScope s__law_kept) (N:=["_law_thing_here"]) (vs:=["_law_one"]) (fs:=[]) (js:=[]) (by decide +kernel) rfl rfl) (pi_seq (pv 0)) (fun _ _ _ _=>pg_name (i:=0) (show(["_law_one"]:List Str).Nodup by decide +kernel) rfl (Or.inl rfl)) (fun _ _ _ _=>pif0) (fun _ _ _ _=>(pcl C__law_kept hr (pa_cons (pv 0) pa_nil stx_Name)))) pa_nil stx_ListComp)))) pss_nil)
   (pss_one (ps_ret (pv 0))))),?_⟩
 rw[st__law_kept]
 rcases av with⟨d,rfl,td⟩|⟨rfl,dd,rfl,hdd⟩
 ·rcases td.ways with lf|⟨j,t,xs,ds,rfl,rfl,rfl,h1,h2,h3⟩|⟨j,l,xs,ds,rfl,rfl,rfl,h1,h2,h3⟩
  ·obtain⟨ty,k0,_,_,k3,k4⟩:=TV.ty (K:=K) (td.same sG)
   have e:dL d=false∧dT d=false:=by
    rcases lf with⟨i,rfl,rfl⟩|⟨z,rfl,rfl,hz⟩|⟨b,rfl,rfl⟩|⟨rfl,rfl⟩ <;> exact⟨rfl,rfl⟩
   rw[e.1]at k4
   rw[e.2]at k3
   walk_at"rd"
   refine rd_isi k0 k4 ?_
   walk_at"rd"
   refine rd_isi k0 k3 ?_
   walk_at"rd"
   exact q v G H (.inl ⟨d,rfl,td⟩) nofun sG (fun _ _ e=>e) (fun _ _ e=>e) fun b e n=>absurd e n
  ·have xl:=h3.l1
   have h1':=sG _ _ h1
   walk_at"rd"
   refine rd_isi (.tup h1') (b:=false) rfl ?_
   walk_at"rd"
   refine rd_isi (.tup h1') (b:=true) rfl ?_
   walk_at"rd"
   refine⟨t,rfl,.inr ⟨⟨_,SqT.of h1'⟩,fun D nD=>?_⟩⟩
   have gD:G D=none:=sG.free nD
   refine comp_tup (xs:=xs) (fun i σ' ys H'=>(∃x,σ'=[x])∧Same H H'∧H' D=some (.lst ys)∧ys.length=i∧∃G',Same G G'∧Same G' H'∧G' D=none∧(∀b,G b=none→G' b≠none→H b=none)∧PV (TV G' j) ys (ds.take i)) D ⟨⟨_,rfl⟩,same_new nD _,upd_same,rfl,G,fun _ _ e=>e,sG.trans (same_new nD _),gD,fun b e n=>absurd e n,PV.nil⟩ (fun i σ' ys H' _ h=>SqT.of (h.2.1 _ _ h1')) ?_ ?_
   ·rintro i x σ' ys H1 hx ⟨⟨x1,rfl⟩,s1,hD,yl,G1,g1,g2,g3,g4,pw⟩
    obtain⟨d,hd,r⟩:=h3.get hx
    have il:=(List.getElem?_eq_some_iff.mp hx).1
    walk_at"rd"
    refine⟨x,some d,G1,rfl,.inl ⟨d,rfl,r.same g1⟩,g2,fun v' G2 H2 av2 _ t1 t2 t3 t4=>?_⟩
    obtain⟨d',e,r'⟩ : ∃d',some d=some d'∧TV G2 j v' d':=by
     rcases av2 with h|⟨e,_⟩
     ·exact h
     ·cases e
    cases e
    have gD2:G2 D=none:=by
     cases c:G2 D with
     | none=>rfl
     | some o=>have:=t4 D g3 (by rw[c];nofun);rw[hD]at this;cases this
    refine⟨t3 _ _ hD,small1000 (by omega),⟨_,rfl⟩,fun b o e=>by rw[upd_ne (ne_of_none e nD)];exact t3 _ _ (s1 _ _ e),upd_same,by rw[List.length_append,yl];rfl,G2,g1.trans t2,fun b o e=>by rw[upd_ne (ne_of_none e gD2)];exact t1 _ _ e,gD2,fun b e n=>?_,?_⟩
    ·by_cases c:G1 b=none
     ·exact s1.free (t4 b c n)
     ·exact g4 b e c
    ·rw[take_get hd]
     exact(pw.imp fun _ _ z=>z.same t2).app (PV.one r')
   ·rintro σ' ys H1 ⟨⟨x1,rfl⟩,s1,hD,yl,G1,g1,g2,g3,g4,pw⟩
    rw[xl,List.take_length]at pw
    walk_at"rd"
    refine⟨D,ys,rfl,.inl ⟨SqL.of hD,fun t' nt=>?_⟩⟩
    generalize hE:upd H1 t' _=H2
    obtain⟨ht',s2⟩:=newo nt hE
    clear hE
    walk_at"rd"
    have gt:G1 t'=none:=g2.free nt
    refine q (.ref t') (upd G1 t' (.tup ys)) H2 (.inl ⟨_,rfl,TV.tup upd_same (by omega) (pw.imp fun _ _ z=>z.same (same_new gt _))⟩) nofun (fun b o e=>?_) (g1.trans (same_new gt _)) (s1.trans s2) fun b e n=>?_
    ·by_cases c:b=t'
     ·subst c;rw[upd_same]at e;cases e;exact ht'
     ·rw[upd_ne c]at e;exact s2 _ _ (g2 _ _ e)
    ·by_cases c:b=t'
     ·subst c;exact s1.free nt
     ·rw[upd_ne c]at n;exact g4 b e n
  ·have xl:=h3.l1
   have h1':=sG _ _ h1
   walk_at"rd"
   refine rd_isi (.lst h1') (b:=true) rfl ?_
   walk_at"rd"
   refine⟨l,rfl,.inl ⟨⟨_,SqL.of h1'⟩,fun D nD=>?_⟩⟩
   have gD:G D=none:=sG.free nD
   refine comp_list (xs:=xs) (fun i σ' ys H'=>(∃x,σ'=[x])∧Same H H'∧H' D=some (.lst ys)∧ys.length=i∧∃G',Same G G'∧Same G' H'∧G' D=none∧(∀b,G b=none→G' b≠none→H b=none)∧PV (TV G' j) ys (ds.take i)) D ⟨⟨_,rfl⟩,same_new nD _,upd_same,rfl,G,fun _ _ e=>e,sG.trans (same_new nD _),gD,fun b e n=>absurd e n,PV.nil⟩ (fun i σ' ys H' _ h=>SqL.of (h.2.1 _ _ h1')) ?_ ?_
   ·rintro i x σ' ys H1 hx ⟨⟨x1,rfl⟩,s1,hD,yl,G1,g1,g2,g3,g4,pw⟩
    obtain⟨d,hd,r⟩:=h3.get hx
    have il:=(List.getElem?_eq_some_iff.mp hx).1
    walk_at"rd"
    refine⟨x,some d,G1,rfl,.inl ⟨d,rfl,r.same g1⟩,g2,fun v' G2 H2 av2 _ t1 t2 t3 t4=>?_⟩
    obtain⟨d',e,r'⟩ : ∃d',some d=some d'∧TV G2 j v' d':=by
     rcases av2 with h|⟨e,_⟩
     ·exact h
     ·cases e
    cases e
    have gD2:G2 D=none:=by
     cases c:G2 D with
     | none=>rfl
     | some o=>have:=t4 D g3 (by rw[c];nofun);rw[hD]at this;cases this
    refine⟨t3 _ _ hD,small1000 (by omega),⟨_,rfl⟩,fun b o e=>by rw[upd_ne (ne_of_none e nD)];exact t3 _ _ (s1 _ _ e),upd_same,by rw[List.length_append,yl];rfl,G2,g1.trans t2,fun b o e=>by rw[upd_ne (ne_of_none e gD2)];exact t1 _ _ e,gD2,fun b e n=>?_,?_⟩
    ·by_cases c:G1 b=none
     ·exact s1.free (t4 b c n)
     ·exact g4 b e c
    ·rw[take_get hd]
     exact(pw.imp fun _ _ z=>z.same t2).app (PV.one r')
   ·rintro σ' ys H1 ⟨⟨x1,rfl⟩,s1,hD,yl,G1,g1,g2,g3,g4,pw⟩
    rw[xl,List.take_length]at pw
    walk_at"rd"
    refine q (.ref D) (upd G1 D (.lst ys)) H1 (.inl ⟨_,rfl,TV.lst upd_same (by omega) (pw.imp fun _ _ z=>z.same (same_new g3 _))⟩) nofun (fun b o e=>?_) (g1.trans (same_new g3 _)) s1 fun b e n=>?_
    ·by_cases c:b=D
     ·subst c;rw[upd_same]at e;cases e;exact hD
     ·rw[upd_ne c]at e;exact g2 _ _ e
    ·by_cases c:b=D
     ·subst c;exact nD
     ·rw[upd_ne c]at n;exact g4 b e n
 ·walk_at"rd"
  refine rd_isi (.dK (sG _ _ hdd)) (b:=false) rfl ?_
  walk_at"rd"
  refine rd_isi (.dK (sG _ _ hdd)) (b:=false) rfl ?_
  walk_at"rd"
  exact q _ G H (.inr ⟨rfl,dd,rfl,hdd⟩) (fun _=>rfl) sG (fun _ _ e=>e) (fun _ _ e=>e) fun b e n=>absurd e n
theorem ok_law {f:Addr}{fd:FuncData}(F:Fun K "law" "law" s_law f fd) (T:Bl mg) (C__law_places:Cal P w K mg base "_law_places" ["_law_script", "_law_least", "_law_most"] 1 (sp__law_places K)) (C__law_open:Cal P w K mg base "_law_open" ["_law_script", "_law_place"] 1 (sp__law_open K)) (C__law_pages:Cal P w K mg base "_law_pages" ["_law_hand", "_law_entries"] 3 (sp__law_pages K)) (C__law_spoilt:Cal P w K mg base "_law_spoilt" ["_law_hand", "_law_pages_here"] 3 (sp__law_spoilt K)) (C__law_kept:Cal P w K mg base "_law_kept" ["_law_thing_here"] 7 (sp__law_kept K)) (C_is_walk:Cal P w K mg base "is_walk" ["entries", "thing"] 7 (sp_is_walk K)) (C__law_thing:Cal P w K mg base "_law_thing" ["_law_hand"] 2 (sp__law_thing K)) (C__law_keys:Cal P w K mg base "_law_keys" ["_law_hand", "_law_many"] 4 (sp__law_keys K)) (C__law_draw:Cal P w K mg base "_law_draw" ["_law_hand", "_law_many"] 1 (sp__law_draw K)) (C__law_is_walk:Cal P w K mg base "_law_is_walk" ["_law_entries", "_law_thing_here"] 3 (sp__law_is_walk K)):FnOk P w K mg base CX0 8 f fd ["_law_script"] (sp_law K):=by
 refine F.ok sc_law (fun vs H Q E h=>?_) (fun cdv A outer s H vs Q E hr h=>?_)
 ·obtain⟨a,ns,rfl,_⟩:=h;rfl
 obtain⟨a,ms,rfl,hS,hlen,tb,q⟩:=h
 have hu:=hr.units
 have hu1:=hu_of hr
 refine⟨_,(pss_cons (ps_for PassesOwn.never rfl (pi_list (pcl C__law_places (hr.mono (by decide)) (pa_cons (pv 0) (pa_cons pe_int (pa_cons pe_int pa_nil stx_Constant) stx_Constant) stx_Name))) (pg_name (i:=1) sc_law.nd rfl (Or.inl rfl)) (pss_cons (ps_set (i:=2) sc_law.nd rfl (Or.inr rfl) (pcl C__law_open (hr.mono (by decide)) (pa_cons (pv 0) (pa_cons (pv 1) pa_nil stx_Name) stx_Name)))
   (pss_cons (ps_setc (i:=3) sc_law.nd rfl rfl rfl (blkOk (sc:=defScope s_law) (N:=["_law_script", "_law_place", "_law_hand", "_law_entries", "_law_pages_here", "_law_things", "_law_thing_here", "_law_handed", "_law_kept_here", "_law_got"]) (vs:=["_law_key_here"]) (fs:=["_law_hand"]) (js:=[2]) (by decide +kernel) rfl rfl) (pi_list (pcl C__law_keys (hr.mono (by decide)) (pa_cons (pv 2) (pa_cons (pcl C__law_draw (hr.mono (by decide)) (pa_cons (pv 2) (pa_cons pe_int pa_nil stx_Constant) stx_Name)) pa_nil stx_Call) stx_Name))) (fun _ _ _ _=>pg_name (i:=0) (show(["_law_key_here", "_law_hand"]:List Str).Nodup by decide +kernel) rfl (Or.inl rfl)) (fun _ _ _ _=>pif0) (fun _ _ _ _=>(pe_tup (pa_cons (pv 0) (pa_cons (pcl C__law_thing (hr.mono (by decide)) (pa_cons (pv 1) pa_nil stx_Name)) pa_nil stx_Call) stx_Name))))
   (pss_cons (ps_set (i:=4) sc_law.nd rfl (Or.inl rfl) (pcl C__law_pages (hr.mono (by decide)) (pa_cons (pv 2) (pa_cons (pv 3) pa_nil stx_Name) stx_Name)))
   (pss_cons (ps_set (i:=5) sc_law.nd rfl (Or.inl rfl) (pe_lst (pa_cons (pv 4) (pa_cons (pcl C__law_spoilt (hr.mono (by decide)) (pa_cons (pv 2) (pa_cons (pv 4) pa_nil stx_Name) stx_Name)) (pa_cons (pcl C__law_spoilt (hr.mono (by decide)) (pa_cons (pv 2) (pa_cons (pv 4) pa_nil stx_Name) stx_Name)) (pa_cons (pe_lst pa_nil) (pa_cons (pv 4) pa_nil stx_Name) stx_List) stx_Call) stx_Call) stx_Name)))
   (pss_cons (ps_for PassesOwn.never rfl (pi_list (pe_op op_cat (pv 5) (pe_lst (pa_cons (pcl C__law_spoilt (hr.mono (by decide)) (pa_cons (pv 2) (pa_cons (pv 4) pa_nil stx_Name) stx_Name)) pa_nil stx_Call)))) (pg_name (i:=6) sc_law.nd rfl (Or.inl rfl)) (pss_cons (ps_set (i:=7) sc_law.nd rfl (Or.inl rfl) (pe_callTy call_list_of rfl T.list bt_list (pa_cons (pv 3) pa_nil stx_Name)))
   (pss_cons (ps_set (i:=8) sc_law.nd rfl (Or.inl rfl) (pcl C__law_kept (hr.mono (by decide)) (pa_cons (pv 6) pa_nil stx_Name)))
   (pss_cons (ps_set (i:=9) sc_law.nd rfl (Or.inl rfl) (pcl C_is_walk (hr.mono (by decide)) (pa_cons (pv 7) (pa_cons (pv 6) pa_nil stx_Name) stx_Name)))
   (pss_cons (ps_if (PW.pt (pw_or (pt_not (pt_val (pe_callB call_isinst rfl T.isinstance bt_isinstance (pa_cons (pv 9) (pa_cons (pe_bltn (v:=.ty "bool") rfl T.bool bt_bool rfl) pa_nil stx_Name) stx_Name)))) (pw_or1 (pt_cmpR op_ne (pv 9) (pcl C__law_is_walk (hr.mono (by decide)) (pa_cons (pv 3) (pa_cons (pv 8) pa_nil stx_Name) stx_Name)) (nomark _))))) (pss_one (ps_ret pe_bl)) pss_nil)
   (pss_one (ps_if (PW.pt (pw_or (pt_cmpR (op_neD hu) (pv 7) (pv 3) (nomark _)) (pw_or1 (pt_cmpR (op_neW hu) (pv 6) (pv 8) (nomark _))))) (pss_one (ps_ret pe_bl)) pss_nil)))))))
   (pss_one (ps_if (PW.pt (pw_or (pt_cmpR op_isntB (pcl C_is_walk (hr.mono (by decide)) (pa_cons (pe_rev (pv 3)) (pa_cons (pv 4) pa_nil stx_Name) stx_Subscript)) pe_bl (nomark _)) (pw_or1 (pt_cmpR op_isntB (pcl C_is_walk (hr.mono (by decide)) (pa_cons (pe_lst pa_nil) (pa_cons (pe_lst (pa_cons (pe_tup (pa_cons pe_int (pa_cons (pe_lst pa_nil) (pa_cons (pe_powC (c:=1152921504606846976) (by decide +kernel) ⟨by decide,by decide,by decide⟩) pa_nil stx_BinOp) stx_List) stx_Constant)) pa_nil stx_Tuple)) pa_nil stx_List) stx_List)) pe_bl (nomark _))))) (pss_one (ps_ret pe_bl)) pss_nil))))))))
   (pss_one (ps_ret pe_bl))),?_⟩
 rw[st_law]
 walk_at"rd"
 refine⟨a,ms,8,16,rfl,hS,hlen,by omega,by omega,by omega,fun n lpl HB nlpl hlpl hn sB=>?_⟩
 walk_at"rd"
 refine⟨lpl,rfl,⟨_,SqL.of hlpl⟩,?_⟩
 refine for_listO (xs:=(upN n).map V.int) (fun i σ H'=>(∃y1 y2 y3 y4 y5 y6 y7 y8 y9:Option V,σ=[some (.ref a),y1,y2,y3,y4,y5,y6,y7,y8,y9])∧Sm HB H'∧TB_between K H') ⟨⟨_,_,_,_,_,_,_,_,_,rfl⟩,Sm.refl _,tb.same sB⟩ (fun _ _ _ _ h=>SqL.of (h.2.1.lst hlpl)) ?_ ?_
 ·rintro i z σ HC hz ⟨⟨y1,y2,y3,y4,y5,y6,y7,y8,y9,rfl⟩,sC,tbC⟩
  obtain⟨iln,rfl⟩:=upN_get hz
  have hSC:SqL K HC a (ms.map V.int):=by
   rcases sB.seq hS with(h|⟨o,h⟩)|h
   ·exact .inl (.inl (sC.lst h))
   ·exact .inl (.inr ⟨o,sC.nt _ _ h fun _=>nofun⟩)
   ·exact .inr h
  walk_at"rd"
  refine⟨a,ms,i,rfl,hSC,hlen,by omega,by omega,fun p HD np sD hhD=>?_⟩
  have hD0:∀b o,HC b=some o→b≠p:=fun b o e=>ne_of_none e np
  walk_at"rd"
  refine⟨p,_,25,rfl,hhD,by decide,by decide,by decide,fun kn HE kn0 kn1 hhE kE=>?_⟩
  walk_at"rd"
  refine⟨p,_,kn,rfl,hhE,by decide,by omega,by omega,fun lk ks HF nlk hlk knd kl kb hhF kF=>?_⟩
  have sF:Same HC HF:=fun b o e=>kF.1 _ _ (kE.1 _ _ (sD _ _ e) (hD0 _ _ e)) (hD0 _ _ e)
  have lkp:lk≠p:=hhE.ne nlk
  clear hhD kE hhE kF
  walk_at"rd"
  refine⟨lk,rfl,⟨_,SqL.of hlk⟩,fun D nD=>?_⟩
  refine comp_list (xs:=ks.map V.int) (fun i σ' ys H'=>(∃x,σ'=[x,some (.ref p)])∧CK HF p D (1200000+20*i) ys H'∧∃(ts:List Addr) (pe:List (Int×Str)),ys=ts.map V.ref∧EL H' ts pe∧pe.map (·.1)=ks.take i) D ⟨⟨_,rfl⟩,CK.start (hhF.mono (by omega)) nD,[],[],rfl,P1.nil,rfl⟩ (fun i σ' ys H' _ h=>SqL.of (h.2.1.kp.1 _ _ hlk lkp)) ?_ ?_
  ·rintro i x σ' ys HG hx ⟨⟨x1,rfl⟩,ck,ts,pe,rfl,eL,ek⟩
   obtain⟨ky,hky,rfl⟩:=ints_get hx
   have il:=(List.getElem?_eq_some_iff.mp hky).1
   have kbb:=kb ky (List.mem_of_getElem? hky)
   have tl:=eL.1
   have pl:=congrArg List.length ek
   rw[List.length_map,List.length_take]at pl
   walk_at"rd"
   refine⟨p,_,rfl,ck.hh,by omega,fun z HI zn hhI kI=>?_⟩
   have eL:=EL.kp ck.hh kI eL
   have ck:=ck.draw kI hhI
   have zo:=nm_ok zn
   walk_at"rd"
   refine⟨(by show 2≤sizeLine;decide),fun t6 nt6=>?_⟩
   generalize hE:upd HI t6 _=HJ
   obtain⟨ck,ht6,_,tD⟩:=ck.new nt6 hE
   have s6:Same HI HJ:=(newo nt6 hE).2
   clear hE
   refine⟨ck.lat,by rw[List.length_map];exact small1000 (by omega),⟨_,rfl⟩,⟨(ck.push.hh.mono (by omega)),ck.push.lat,ck.push.kp,ck.n0,ck.np,ck.nc⟩,ts ++ [t6],pe ++ [(ky,z)],by rw[List.map_append];rfl,?_,by rw[List.map_append,ek,take_get hky];rfl⟩
   refine P1.snoc (eL.imp fun b y w=>⟨?_,w.2⟩) ⟨by rw[upd_ne tD];exact ht6,zo.1,kbb.1,kbb.2,zo.2⟩
   have w1:=s6 _ _ w.1
   rw[upd_ne (ne_of w1 ck.lat (by intro q;cases q))];exact w1
  rintro σ' ys HG ⟨⟨x1,rfl⟩,ck,ts,pe,rfl,eL,ek⟩
  rw[List.length_map,List.take_length]at ek
  have ok:okP pe:=by
   refine⟨by rw[ek];exact knd,fun e he=>?_,?_⟩
   ·obtain⟨j,hj⟩:=List.getElem?_of_mem he
    obtain⟨t,_,ht⟩:=eL.at' hj
    exact⟨ht.2.2.1,ht.2.2.2.1,ht.2.1,ht.2.2.2.2⟩
   ·have:=congrArg List.length ek
    rw[List.length_map]at this
    omega
  have sG:Same HC HG:=fun b o e=>ck.kp.1 _ _ (sF _ _ e) (hD0 _ _ e)
  have g0:GH (fun _=>none) p _ HG HG:=⟨fun _ _ e=>(by cases e),rfl,ck.hh,Kp.refl _ _,fun _ _ e=>by cases e⟩
  obtain⟨g0,_⟩:=g0.vis
  have ep:EP (vis p HG) D pe:=⟨ts,vis_lst ck.lat ck.np,eL.imp fun t e y=>⟨vis_tup y.1 ck.hh,y.2⟩⟩
  have n25:ks.length≤25:=by omega
  have hhN:1200000+20*(ks.map V.int).length≤1201000:=by rw[List.length_map];omega
  have g0:=g0.mono hhN
  generalize vis p HG=G0 at g0 ep
  clear ck eL
  walk_at"rd"
  refine⟨p,D,_,pe,G0,rfl,g0,by decide,ep,ok,fun lp pg G1 H1 g1 s1 wk ch pl=>?_⟩
  have pn:pg ≠ []:=fun e=>by subst e;exact absurd ch (by unfold ChM;decide)
  have sN1:Same HC H1:=fun b o e=>g1.kp.1 _ _ (sG _ _ e) (hD0 _ _ e)
  walk_at"rd"
  refine⟨p,lp,_,pe,pg,G1,rfl,g1.base,by decide,wk,ok,pn,pl,fun v2 o2 G2 H2 a2 g2 s2=>?_⟩
  have wk:=wk.same s2
  have sN2:Same HC H2:=fun b o e=>g2.kp.1 _ _ (sN1 _ _ e) (hD0 _ _ e)
  walk_at"rd"
  refine⟨p,lp,_,pe,pg,G2,rfl,g2.base,by decide,wk,ok,pn,pl,fun v3 o3 G3 H3 a3 g3 s3=>?_⟩
  have wk:=wk.same s3
  have sN3:Same HC H3:=fun b o e=>g3.kp.1 _ _ (sN2 _ _ e) (hD0 _ _ e)
  walk_at"rd"
  refine⟨(by show 0≤sizeLine;decide),fun l4 nl4=>?_⟩
  obtain⟨g4,s4,hl4⟩:=g3.base.new (o:=.lst []) nl4 rfl ntl
  walk_at"rd"
  refine⟨(by show 5≤sizeLine;decide),fun l5 nl5=>?_⟩
  obtain⟨g5,s5,hl5⟩:=g4.new (o:=.lst [.ref lp,v2,v3,.ref l4,.ref lp]) nl5 rfl ntl
  have wk:=(wk.same s4).same s5
  have sN5:Same HC _:=fun b o e=>g5.kp.1 _ _ (sN3 _ _ e) (hD0 _ _ e)
  walk_at"rd"
  refine⟨p,lp,_,pe,pg,_,rfl,g5.base,by decide,wk,ok,pn,pl,fun v6 o6 G6 H6 a6 g6 s6=>?_⟩
  have wk:=wk.same s6
  have sN6:Same HC H6:=fun b o e=>g6.kp.1 _ _ (sN5 _ _ e) (hD0 _ _ e)
  walk_at"rd"
  refine⟨(by show 1≤sizeLine;decide),fun l7 nl7=>?_⟩
  obtain⟨g7,s7,hl7⟩:=g6.base.new (o:=.lst [v6]) nl7 rfl ntl
  refine⟨l5,l7,_,_,rfl,rfl,g7.s _ _ (s7 _ _ (s6 _ _ upd_same)),hl7,(by show 6≤sizeLine;decide),fun l8 nl8=>?_⟩
  obtain⟨g8,s8,hl8⟩:=g7.new (o:=.lst ([.ref lp,v2,v3,.ref l4,.ref lp] ++ [v6])) nl8 rfl ntl
  have sN8:Same HC _:=fun b o e=>g8.kp.1 _ _ (sN6 _ _ e) (hD0 _ _ e)
  have wk:=(wk.same s7).same s8
  have ep:=EP.same s8 (EP.same s7 (EP.same s6 (EP.same s5 (EP.same s4 (EP.same s3 (EP.same s2 (EP.same s1 ep)))))))
  have al:∀x∈([.ref lp,v2,v3,.ref l4,.ref lp] ++ [v6]:List V),∃o,AV (upd (upd G6 l7 (.lst [v6])) l8 (.lst ([.ref lp,v2,v3,.ref l4,.ref lp] ++ [v6]))) 5 x o:=fun x hx=>by
   rcases List.mem_append.mp hx with hx|hx
   ·simp only[List.mem_cons,List.not_mem_nil,or_false]at hx
    rcases hx with rfl|rfl|rfl|rfl|rfl
    ·exact⟨_,.inl ⟨_,rfl,(wk.tv ok (by omega)).up (by omega)⟩⟩
    ·exact⟨_,AV.same s8 (AV.same s7 (AV.same s6 (AV.same s5 (AV.same s4 (AV.same s3 a2)))))⟩
    ·exact⟨_,AV.same s8 (AV.same s7 (AV.same s6 (AV.same s5 (AV.same s4 a3))))⟩
    ·exact⟨_,.inl ⟨_,rfl,(TV.nilL (s8 _ _ (s7 _ _ (s6 _ _ (s5 _ _ upd_same))))).up (by omega)⟩⟩
    ·exact⟨_,.inl ⟨_,rfl,(wk.tv ok (by omega)).up (by omega)⟩⟩
   ·cases List.mem_singleton.mp hx;exact⟨_,AV.same s8 (AV.same s7 a6)⟩
  have key:∃G8:Hp,Same G8 _∧(∀b ps,G8 b≠some (.tbl ps))∧EP G8 D pe∧WkL G8 pe lp pg∧G8 l8=some (.lst ([.ref lp,v2,v3,.ref l4,.ref lp] ++ [v6]))∧∀x∈([.ref lp,v2,v3,.ref l4,.ref lp] ++ [v6]:List V),∃o,AV G8 5 x o:=⟨_,g8.s,g8.nt,ep,wk,upd_same,al⟩
  clear ep wk al a2 a3 a6 g0 g1 g2 g3 g4 g5 g6 g7 g8 hl4 hl5 hl7 hl8
  generalize upd _ l8 _=H8 at key sN8 ⊢
  generalize [V.ref lp,v2,v3,.ref l4,.ref lp] ++ [v6]=xs8 at key ⊢
  obtain⟨G8,sG8,nt8,⟨te,hDe,eLe⟩,wk,hl8G,al⟩:=key
  have smG:∀{H':Hp},Sm H8 H'→Same G8 H':=fun s b o e=>s.nt _ _ (sG8 _ _ e) (fun ps z=>by rw[z]at e;exact nt8 b ps e)
  have tb8:=tbC.same sN8
  have tel:=eLe.1
  have okl:=ok.2.2
  walk_at"rd"
  refine⟨l8,rfl,⟨_,SqL.of (sG8 _ _ hl8G)⟩,?_⟩
  refine for_listO (xs:=xs8) (fun j σ H'=>(∃y6 y7 y8 y9:Option V,σ=[some (.ref a),some (.int i),some (.ref p),some (.ref D),some (.ref lp),some (.ref l5),y6,y7,y8,y9])∧Sm H8 H'∧TB_between K H') ⟨⟨_,_,_,_,rfl⟩,Sm.refl _,tb8⟩ (fun _ _ _ _ h=>SqL.of (smG h.2.1 _ _ hl8G)) ?_ ?_
  ·rintro j x σ H9 hx ⟨⟨y6,y7,y8,y9,rfl⟩,s9,tb9⟩
   obtain⟨o,av⟩:=al x (List.mem_of_getElem? hx)
   have sG9:=smG s9
   walk_at"rd"
   refine⟨D,_,rfl,.inl (SqL.of (sG9 _ _ hDe)),fun lh nlh=>?_⟩
   generalize hE:upd H9 lh _=HI
   obtain⟨hlh,sI⟩:=newo nlh hE
   clear hE
   have sGI:=sG9.trans sI
   walk_at"rd"
   refine⟨x,o,G8,rfl,av,sGI,fun v' G' HJ av' ve sJ sGG sIJ _=>?_⟩
   have sGJ:=sGI.trans sIJ
   walk_at"rd"
   refine⟨lh,pe,x,o,rfl,⟨te,sIJ _ _ hlh,eLe.same sGJ⟩,ok,tb9.same (sI.trans sIJ),AV.same sGJ av,fun HK sK tbK=>?_⟩
   walk_at"rd"
   refine rd_isi (.bl _) (b:=true) rfl ?_
   walk_at"rd"
   have avK:=AV.sm sK (AV.same sJ av')
   have axK:=AV.sm sK (AV.same sGJ av)
   refine⟨D,pe,v',o,rfl,EP.sm sK ⟨te,sGJ _ _ hDe,eLe.same sGJ⟩,ok,avK,fun HL sL=>?_⟩
   walk_at"rd"
   rw[if_neg (by simp)]
   walk_at"rd"
   have sKL:=sK.trans sL.sm
   have g1:TV HL 2 (.ref lh) (.list (pe.map eD)):=el_dv (sKL.lst (sIJ _ _ hlh)) ((eLe.same sGJ).imp fun _ _ z=>⟨sKL.tup z.1,z.2⟩) (by omega)
   have g2:TV HL 2 (.ref D) (.list (pe.map eD)):=el_dv (sKL.lst (sGJ _ _ hDe)) ((eLe.same sGJ).imp fun _ _ z=>⟨sKL.tup z.1,z.2⟩) (by omega)
   refine⟨_,_,g1.gd.1,g2.gd.1,g1.shaped K (by omega),g2.shaped K (by omega),?_⟩
   rw[g1.refl K]
   walk_at"rd"
   have avL:=AV.same sL avK
   have axL:=AV.same sL axK
   rcases axL with⟨d,rfl,tx⟩|⟨rfl,dd,rfl,hdd⟩
   ·obtain⟨d',e,tv⟩ : ∃d',some d=some d'∧TV HL 5 v' d':=by
     rcases avL with h|⟨e,_⟩
     ·exact h
     ·cases e
    cases e
    refine .inr ⟨_,_,tx.gd.1,tv.gd.1,tx.shaped K (by omega),tv.shaped K (by omega),?_⟩
    rw[tx.refl K]
    walk_at"rd"
    exact⟨⟨_,_,_,_,rfl⟩,(s9.trans (sI.trans sIJ).sm).trans sKL,tbK.same sL⟩
   ·have e:=ve rfl
    subst e
    refine .inl ⟨dd,rfl,rfl,hdd,?_⟩
    walk_at"rd"
    exact⟨⟨_,_,_,_,rfl⟩,(s9.trans (sI.trans sIJ).sm).trans sKL,tbK.same sL⟩
  ·rintro σ H9 ⟨⟨y6,y7,y8,y9,rfl⟩,s9,tb9⟩
   have sG9:=smG s9
   walk_at"rd"
   refine⟨D,_,rfl,SqL.of (sG9 _ _ hDe),fun lr nlr=>?_⟩
   generalize hE:upd H9 lr _=HI
   obtain⟨hlr,sI⟩:=newo nlr hE
   clear hE
   have sGI:=sG9.trans sI
   rw[← List.map_reverse]at hlr
   have pp:pe.reverse.Perm pe:=List.reverse_perm pe
   have okr:=ok_turn ok pp
   have tw:TV HI 5 (.ref lp) (.list (pg.map (pgD pe))):=((wk.same sGI).tv ok (by omega)).up (by omega)
   rw[pg_turn ok pp]at tw
   walk_at"rd"
   refine⟨lr,pe.reverse,.ref lp,_,rfl,⟨te.reverse,hlr,(eLe.same sGI).rev⟩,okr,tb9.same sI,.inl ⟨_,rfl,tw⟩,fun HJ sJ tbJ=>?_⟩
   rw[walk_pg okr ch]
   walk_at"rd"
   refine rd_isntB ?_
   rw[show(!decide (true=true))=false from rfl]
   walk_at"rd"
   refine⟨(by show 0≤sizeLine;decide),fun e1 ne1=>?_⟩
   generalize hE:upd _ e1 _=H2
   obtain⟨he1,t1⟩:=newo ne1 hE
   clear hE
   walk_at"rd"
   refine⟨(by show 0≤sizeLine;decide),fun e2 ne2=>?_⟩
   generalize hE:upd _ e2 _=H3
   obtain⟨he2,t2⟩:=newo ne2 hE
   clear hE
   walk_at"rd"
   refine⟨(by show 3≤sizeLine;decide),fun e3 ne3=>?_⟩
   generalize hE:upd _ e3 _=H4
   obtain⟨he3,t3⟩:=newo ne3 hE
   clear hE
   walk_at"rd"
   refine⟨(by show 1≤sizeLine;decide),fun e4 ne4=>?_⟩
   generalize hE:upd _ e4 _=H5
   obtain⟨he4,t4⟩:=newo ne4 hE
   clear hE
   have t15:=t1.trans (t2.trans (t3.trans t4))
   have tv:TV H5 5 (.ref e4) (.list ([((0:Int),(1152921504606846976:Int))].map (pgD []))):=by
    rw[List.map_cons,pgD_nil]
    exact(TV.lst (n:=2) he4 (by simp) (.cons (TV.tup (t4 _ _ he3) (by simp) (.cons (TV.int _) (.cons (TV.nilL (t4 _ _ (t3 _ _ he2))) (.cons (TV.int _) PV.nil)))) PV.nil)).up (by omega)
   walk_at"rd"
   refine⟨e1,[],.ref e4,_,rfl,⟨[],t4 _ _ (t3 _ _ (t2 _ _ he1)),P1.nil⟩,okP_nil,tbJ.same t15,.inl ⟨_,rfl,tv⟩,fun H6 s6 tb6=>?_⟩
   rw[walk_pg (pg:=[((0:Int),(1152921504606846976:Int))]) okP_nil ⟨rfl,(by decide),rfl⟩]
   walk_at"rd"
   refine rd_isntB ?_
   rw[show(!decide (true=true))=false from rfl]
   walk_at"rd"
   exact⟨⟨_,_,_,_,_,_,_,_,_,rfl⟩,sC.trans (sN8.sm.trans (s9.trans (sI.sm.trans (sJ.trans (t15.sm.trans s6))))),tb6⟩
 ·rintro σ H1 ⟨⟨y1,y2,y3,y4,y5,y6,y7,y8,y9,rfl⟩,s1,tb1⟩
  walk_at"rd"
  exact q H1
end
theorem all_mk {l:PySem.W.OpenLaw}{w:World}{K:PySem.W.Frag}{h:Heap}{mg:Str→Option Value}{fa:Addr}(X:K.In h) (G:h.Ns mainGlobals mg) (hfa:mg "law" = some (.ref fa))
  {f0:Addr}{od0 an0:Option Addr}{sl0:Array (Option Value)}{oc0 kV0 dc0 pm0 cd0 ct0:Value}(a0:PySem.W.nsIn K mainGlobals "turned" = some (some (.ref f0))) (l0:K.lookup f0=some ⟨oc0,od0,.func (PySem.W.fnOf "turned" "turned" (defArgs s_turned) (defBody s_turned) (defScope s_turned) .none kV0 dc0 pm0 an0 cd0 ct0),sl0⟩) (c0:PySem.W.codeIn K cd0 "turned" = true) (k0:PySem.W.keepIn K (.ref f0)=true)
  {f1:Addr}{od1 an1:Option Addr}{sl1:Array (Option Value)}{oc1 kV1 dc1 pm1 cd1 ct1:Value}(a1:PySem.W.nsIn K mainGlobals "is_whole" = some (some (.ref f1))) (l1:K.lookup f1=some ⟨oc1,od1,.func (PySem.W.fnOf "is_whole" "is_whole" (defArgs s_is_whole) (defBody s_is_whole) (defScope s_is_whole) .none kV1 dc1 pm1 an1 cd1 ct1),sl1⟩) (c1:PySem.W.codeIn K cd1 "is_whole" = true) (k1:PySem.W.keepIn K (.ref f1)=true)
  {f2:Addr}{od2 an2:Option Addr}{sl2:Array (Option Value)}{oc2 kV2 dc2 pm2 cd2 ct2:Value}(a2:PySem.W.nsIn K mainGlobals "between" = some (some (.ref f2))) (l2:K.lookup f2=some ⟨oc2,od2,.func (PySem.W.fnOf "between" "between" (defArgs s_between) (defBody s_between) (defScope s_between) .none kV2 dc2 pm2 an2 cd2 ct2),sl2⟩) (c2:PySem.W.codeIn K cd2 "between" = true) (k2:PySem.W.keepIn K (.ref f2)=true)
  {f3:Addr}{od3 an3:Option Addr}{sl3:Array (Option Value)}{oc3 kV3 dc3 pm3 cd3 ct3:Value}(a3:PySem.W.nsIn K mainGlobals "is_walk" = some (some (.ref f3))) (l3:K.lookup f3=some ⟨oc3,od3,.func (PySem.W.fnOf "is_walk" "is_walk" (defArgs s_is_walk) (defBody s_is_walk) (defScope s_is_walk) .none kV3 dc3 pm3 an3 cd3 ct3),sl3⟩) (c3:PySem.W.codeIn K cd3 "is_walk" = true) (k3:PySem.W.keepIn K (.ref f3)=true)
  {f4:Addr}{od4 an4:Option Addr}{sl4:Array (Option Value)}{oc4 kV4 dc4 pm4 cd4 ct4:Value}(a4:PySem.W.nsIn K mainGlobals "is_page" = some (some (.ref f4))) (l4:K.lookup f4=some ⟨oc4,od4,.func (PySem.W.fnOf "is_page" "is_page" (defArgs s_is_page) (defBody s_is_page) (defScope s_is_page) .none kV4 dc4 pm4 an4 cd4 ct4),sl4⟩) (c4:PySem.W.codeIn K cd4 "is_page" = true) (k4:PySem.W.keepIn K (.ref f4)=true)
  {f5:Addr}{od5 an5:Option Addr}{sl5:Array (Option Value)}{oc5 kV5 dc5 pm5 cd5 ct5:Value}(a5:PySem.W.nsIn K mainGlobals "is_like_entry" = some (some (.ref f5))) (l5:K.lookup f5=some ⟨oc5,od5,.func (PySem.W.fnOf "is_like_entry" "is_like_entry" (defArgs s_is_like_entry) (defBody s_is_like_entry) (defScope s_is_like_entry) .none kV5 dc5 pm5 an5 cd5 ct5),sl5⟩) (c5:PySem.W.codeIn K cd5 "is_like_entry" = true) (k5:PySem.W.keepIn K (.ref f5)=true)
  {f6:Addr}{od6 an6:Option Addr}{sl6:Array (Option Value)}{oc6 kV6 dc6 pm6 cd6 ct6:Value}(a6:PySem.W.nsIn K mainGlobals "_law_open" = some (some (.ref f6))) (l6:K.lookup f6=some ⟨oc6,od6,.func (PySem.W.fnOf "_law_open" "_law_open" (defArgs s__law_open) (defBody s__law_open) (defScope s__law_open) .none kV6 dc6 pm6 an6 cd6 ct6),sl6⟩) (c6:PySem.W.codeIn K cd6 "_law_open" = true) (k6:PySem.W.keepIn K (.ref f6)=true)
  {f7:Addr}{od7 an7:Option Addr}{sl7:Array (Option Value)}{oc7 kV7 dc7 pm7 cd7 ct7:Value}(a7:PySem.W.nsIn K mainGlobals "_law_draw" = some (some (.ref f7))) (l7:K.lookup f7=some ⟨oc7,od7,.func (PySem.W.fnOf "_law_draw" "_law_draw" (defArgs s__law_draw) (defBody s__law_draw) (defScope s__law_draw) .none kV7 dc7 pm7 an7 cd7 ct7),sl7⟩) (c7:PySem.W.codeIn K cd7 "_law_draw" = true) (k7:PySem.W.keepIn K (.ref f7)=true)
  {f8:Addr}{od8 an8:Option Addr}{sl8:Array (Option Value)}{oc8 kV8 dc8 pm8 cd8 ct8:Value}(a8:PySem.W.nsIn K mainGlobals "_law_far" = some (some (.ref f8))) (l8:K.lookup f8=some ⟨oc8,od8,.func (PySem.W.fnOf "_law_far" "_law_far" (defArgs s__law_far) (defBody s__law_far) (defScope s__law_far) .none kV8 dc8 pm8 an8 cd8 ct8),sl8⟩) (c8:PySem.W.codeIn K cd8 "_law_far" = true) (k8:PySem.W.keepIn K (.ref f8)=true)
  {f9:Addr}{od9 an9:Option Addr}{sl9:Array (Option Value)}{oc9 kV9 dc9 pm9 cd9 ct9:Value}(a9:PySem.W.nsIn K mainGlobals "_law_power" = some (some (.ref f9))) (l9:K.lookup f9=some ⟨oc9,od9,.func (PySem.W.fnOf "_law_power" "_law_power" (defArgs s__law_power) (defBody s__law_power) (defScope s__law_power) .none kV9 dc9 pm9 an9 cd9 ct9),sl9⟩) (c9:PySem.W.codeIn K cd9 "_law_power" = true) (k9:PySem.W.keepIn K (.ref f9)=true)
  {f10:Addr}{od10 an10:Option Addr}{sl10:Array (Option Value)}{oc10 kV10 dc10 pm10 cd10 ct10:Value}(a10:PySem.W.nsIn K mainGlobals "_law_key" = some (some (.ref f10))) (l10:K.lookup f10=some ⟨oc10,od10,.func (PySem.W.fnOf "_law_key" "_law_key" (defArgs s__law_key) (defBody s__law_key) (defScope s__law_key) .none kV10 dc10 pm10 an10 cd10 ct10),sl10⟩) (c10:PySem.W.codeIn K cd10 "_law_key" = true) (k10:PySem.W.keepIn K (.ref f10)=true)
  {f11:Addr}{od11 an11:Option Addr}{sl11:Array (Option Value)}{oc11 kV11 dc11 pm11 cd11 ct11:Value}(a11:PySem.W.nsIn K mainGlobals "_law_keys" = some (some (.ref f11))) (l11:K.lookup f11=some ⟨oc11,od11,.func (PySem.W.fnOf "_law_keys" "_law_keys" (defArgs s__law_keys) (defBody s__law_keys) (defScope s__law_keys) .none kV11 dc11 pm11 an11 cd11 ct11),sl11⟩) (c11:PySem.W.codeIn K cd11 "_law_keys" = true) (k11:PySem.W.keepIn K (.ref f11)=true)
  {f12:Addr}{od12 an12:Option Addr}{sl12:Array (Option Value)}{oc12 kV12 dc12 pm12 cd12 ct12:Value}(a12:PySem.W.nsIn K mainGlobals "_law_thing" = some (some (.ref f12))) (l12:K.lookup f12=some ⟨oc12,od12,.func (PySem.W.fnOf "_law_thing" "_law_thing" (defArgs s__law_thing) (defBody s__law_thing) (defScope s__law_thing) .none kV12 dc12 pm12 an12 cd12 ct12),sl12⟩) (c12:PySem.W.codeIn K cd12 "_law_thing" = true) (k12:PySem.W.keepIn K (.ref f12)=true)
  {f13:Addr}{od13 an13:Option Addr}{sl13:Array (Option Value)}{oc13 kV13 dc13 pm13 cd13 ct13:Value}(a13:PySem.W.nsIn K mainGlobals "_law_turned" = some (some (.ref f13))) (l13:K.lookup f13=some ⟨oc13,od13,.func (PySem.W.fnOf "_law_turned" "_law_turned" (defArgs s__law_turned) (defBody s__law_turned) (defScope s__law_turned) .none kV13 dc13 pm13 an13 cd13 ct13),sl13⟩) (c13:PySem.W.codeIn K cd13 "_law_turned" = true) (k13:PySem.W.keepIn K (.ref f13)=true)
  {f14:Addr}{od14 an14:Option Addr}{sl14:Array (Option Value)}{oc14 kV14 dc14 pm14 cd14 ct14:Value}(a14:PySem.W.nsIn K mainGlobals "_law_places" = some (some (.ref f14))) (l14:K.lookup f14=some ⟨oc14,od14,.func (PySem.W.fnOf "_law_places" "_law_places" (defArgs s__law_places) (defBody s__law_places) (defScope s__law_places) .none kV14 dc14 pm14 an14 cd14 ct14),sl14⟩) (c14:PySem.W.codeIn K cd14 "_law_places" = true) (k14:PySem.W.keepIn K (.ref f14)=true)
  {f15:Addr}{od15 an15:Option Addr}{sl15:Array (Option Value)}{oc15 kV15 dc15 pm15 cd15 ct15:Value}(a15:PySem.W.nsIn K mainGlobals "_law_pages" = some (some (.ref f15))) (l15:K.lookup f15=some ⟨oc15,od15,.func (PySem.W.fnOf "_law_pages" "_law_pages" (defArgs s__law_pages) (defBody s__law_pages) (defScope s__law_pages) .none kV15 dc15 pm15 an15 cd15 ct15),sl15⟩) (c15:PySem.W.codeIn K cd15 "_law_pages" = true) (k15:PySem.W.keepIn K (.ref f15)=true)
  {f16:Addr}{od16 an16:Option Addr}{sl16:Array (Option Value)}{oc16 kV16 dc16 pm16 cd16 ct16:Value}(a16:PySem.W.nsIn K mainGlobals "_law_inside" = some (some (.ref f16))) (l16:K.lookup f16=some ⟨oc16,od16,.func (PySem.W.fnOf "_law_inside" "_law_inside" (defArgs s__law_inside) (defBody s__law_inside) (defScope s__law_inside) .none kV16 dc16 pm16 an16 cd16 ct16),sl16⟩) (c16:PySem.W.codeIn K cd16 "_law_inside" = true) (k16:PySem.W.keepIn K (.ref f16)=true)
  {f17:Addr}{od17 an17:Option Addr}{sl17:Array (Option Value)}{oc17 kV17 dc17 pm17 cd17 ct17:Value}(a17:PySem.W.nsIn K mainGlobals "_law_shifted" = some (some (.ref f17))) (l17:K.lookup f17=some ⟨oc17,od17,.func (PySem.W.fnOf "_law_shifted" "_law_shifted" (defArgs s__law_shifted) (defBody s__law_shifted) (defScope s__law_shifted) .none kV17 dc17 pm17 an17 cd17 ct17),sl17⟩) (c17:PySem.W.codeIn K cd17 "_law_shifted" = true) (k17:PySem.W.keepIn K (.ref f17)=true)
  {f18:Addr}{od18 an18:Option Addr}{sl18:Array (Option Value)}{oc18 kV18 dc18 pm18 cd18 ct18:Value}(a18:PySem.W.nsIn K mainGlobals "_law_spoilt" = some (some (.ref f18))) (l18:K.lookup f18=some ⟨oc18,od18,.func (PySem.W.fnOf "_law_spoilt" "_law_spoilt" (defArgs s__law_spoilt) (defBody s__law_spoilt) (defScope s__law_spoilt) .none kV18 dc18 pm18 an18 cd18 ct18),sl18⟩) (c18:PySem.W.codeIn K cd18 "_law_spoilt" = true) (k18:PySem.W.keepIn K (.ref f18)=true)
  {f19:Addr}{od19 an19:Option Addr}{sl19:Array (Option Value)}{oc19 kV19 dc19 pm19 cd19 ct19:Value}(a19:PySem.W.nsIn K mainGlobals "_law_whole_number" = some (some (.ref f19))) (l19:K.lookup f19=some ⟨oc19,od19,.func (PySem.W.fnOf "_law_whole_number" "_law_whole_number" (defArgs s__law_whole_number) (defBody s__law_whole_number) (defScope s__law_whole_number) .none kV19 dc19 pm19 an19 cd19 ct19),sl19⟩) (c19:PySem.W.codeIn K cd19 "_law_whole_number" = true) (k19:PySem.W.keepIn K (.ref f19)=true)
  {f20:Addr}{od20 an20:Option Addr}{sl20:Array (Option Value)}{oc20 kV20 dc20 pm20 cd20 ct20:Value}(a20:PySem.W.nsIn K mainGlobals "_law_is_entry" = some (some (.ref f20))) (l20:K.lookup f20=some ⟨oc20,od20,.func (PySem.W.fnOf "_law_is_entry" "_law_is_entry" (defArgs s__law_is_entry) (defBody s__law_is_entry) (defScope s__law_is_entry) .none kV20 dc20 pm20 an20 cd20 ct20),sl20⟩) (c20:PySem.W.codeIn K cd20 "_law_is_entry" = true) (k20:PySem.W.keepIn K (.ref f20)=true)
  {f21:Addr}{od21 an21:Option Addr}{sl21:Array (Option Value)}{oc21 kV21 dc21 pm21 cd21 ct21:Value}(a21:PySem.W.nsIn K mainGlobals "_law_is_walk" = some (some (.ref f21))) (l21:K.lookup f21=some ⟨oc21,od21,.func (PySem.W.fnOf "_law_is_walk" "_law_is_walk" (defArgs s__law_is_walk) (defBody s__law_is_walk) (defScope s__law_is_walk) .none kV21 dc21 pm21 an21 cd21 ct21),sl21⟩) (c21:PySem.W.codeIn K cd21 "_law_is_walk" = true) (k21:PySem.W.keepIn K (.ref f21)=true)
  {f22:Addr}{od22 an22:Option Addr}{sl22:Array (Option Value)}{oc22 kV22 dc22 pm22 cd22 ct22:Value}(a22:PySem.W.nsIn K mainGlobals "_law_kept" = some (some (.ref f22))) (l22:K.lookup f22=some ⟨oc22,od22,.func (PySem.W.fnOf "_law_kept" "_law_kept" (defArgs s__law_kept) (defBody s__law_kept) (defScope s__law_kept) .none kV22 dc22 pm22 an22 cd22 ct22),sl22⟩) (c22:PySem.W.codeIn K cd22 "_law_kept" = true) (k22:PySem.W.keepIn K (.ref f22)=true)
  {f23:Addr}{od23 an23:Option Addr}{sl23:Array (Option Value)}{oc23 kV23 dc23 pm23 cd23 ct23:Value}(a23:PySem.W.nsIn K mainGlobals "law" = some (some (.ref f23))) (l23:K.lookup f23=some ⟨oc23,od23,.func (PySem.W.fnOf "law" "law" (defArgs s_law) (defBody s_law) (defScope s_law) .none kV23 dc23 pm23 an23 cd23 ct23),sl23⟩) (c23:PySem.W.codeIn K cd23 "law" = true) (k23:PySem.W.keepIn K (.ref f23)=true)
  (z_range:PySem.W.nsIn K mainGlobals "range" = some none)
  (z_isinstance:PySem.W.nsIn K mainGlobals "isinstance" = some none)
  (z_int:PySem.W.nsIn K mainGlobals "int" = some none)
  (z_bool:PySem.W.nsIn K mainGlobals "bool" = some none)
  (z_sorted:PySem.W.nsIn K mainGlobals "sorted" = some none)
  (z_list:PySem.W.nsIn K mainGlobals "list" = some none)
  (z_tuple:PySem.W.nsIn K mainGlobals "tuple" = some none)
  (z_len:PySem.W.nsIn K mainGlobals "len" = some none)
  (z_all:PySem.W.nsIn K mainGlobals "all" = some none)
  (z_abs:PySem.W.nsIn K mainGlobals "abs" = some none)
  (z_max:PySem.W.nsIn K mainGlobals "max" = some none)
  (z_min:PySem.W.nsIn K mainGlobals "min" = some none)
  {t_KEY_BITS:Tok}(z_KEY_BITS:PySem.W.nsIn K mainGlobals "KEY_BITS" = some (some (.int 60 t_KEY_BITS)))
  {t_END:Tok}(z_END:PySem.W.nsIn K mainGlobals "END" = some (some (.int 1152921504606846976 t_END)))
  (tL_between:PySem.W.tabIn K "between" = some (tbC K "between",tbP K "between")) (hL_between:PySem.W.codeHdIn K (tbC K "between") (tbP K "between")=true)
  : ∃fd:FuncData,(∀(s:Shared) (v:Value),BindsTo s fd ⟨[v],[]⟩ [("_law_script",v)])∧∀base:Heap,K.In base→base.Ns mainGlobals mg→BM mg base→FnOk l.prog w K mg base CX0 8 fa fd ["_law_script"] (sp_law K):=by
 have e:=hfa.symm.trans (PySem.W.mg_of X G a23)
 cases e
 have T:Bl mg:=⟨PySem.W.mg_none_of X G z_range,PySem.W.mg_none_of X G z_isinstance,PySem.W.mg_none_of X G z_int,PySem.W.mg_none_of X G z_bool,PySem.W.mg_none_of X G z_sorted,PySem.W.mg_none_of X G z_list,PySem.W.mg_none_of X G z_tuple,PySem.W.mg_none_of X G z_len,PySem.W.mg_none_of X G z_all,PySem.W.mg_none_of X G z_abs,PySem.W.mg_none_of X G z_max,PySem.W.mg_none_of X G z_min,⟨_,PySem.W.mg_of X G z_KEY_BITS⟩,⟨_,PySem.W.mg_of X G z_END⟩⟩
 refine⟨PySem.W.fnOf "law" "law" (defArgs s_law) (defBody s_law) (defScope s_law) .none kV23 dc23 pm23 an23 cd23 ct23,fun s v=>.of_eq rfl,fun base _ _ hBM=>?_⟩
 have F0:=fun_mk (st:=s_turned) l0 c0 k0
 have b0:=F0.binds (ps:=["key"]) fun _ _ _ _ _ _ us hl=>match us,hl with | [_],_=>rfl
 have C_turned:=ok_turned (P:=l.prog) (w:=w) (base:=base) F0 (PySem.W.mg_of X G a0) b0 T
 have F1:=fun_mk (st:=s_is_whole) l1 c1 k1
 have b1:=F1.binds (ps:=["thing"]) fun _ _ _ _ _ _ us hl=>match us,hl with | [_],_=>rfl
 have C_is_whole:=ok_is_whole (P:=l.prog) (w:=w) (base:=base) F1 (PySem.W.mg_of X G a1) b1 T
 have F6:=fun_mk (st:=s__law_open) l6 c6 k6
 have b6:=F6.binds (ps:=["_law_script", "_law_place"]) fun _ _ _ _ _ _ us hl=>match us,hl with | [_,_],_=>rfl
 have C__law_open:=ok__law_open (P:=l.prog) (w:=w) (base:=base) F6 (PySem.W.mg_of X G a6) b6 T
 have F7:=fun_mk (st:=s__law_draw) l7 c7 k7
 have b7:=F7.binds (ps:=["_law_hand", "_law_many"]) fun _ _ _ _ _ _ us hl=>match us,hl with | [_,_],_=>rfl
 have C__law_draw:=ok__law_draw (P:=l.prog) (w:=w) (base:=base) F7 (PySem.W.mg_of X G a7) b7 T
 have F9:=fun_mk (st:=s__law_power) l9 c9 k9
 have b9:=F9.binds (ps:=["_law_many"]) fun _ _ _ _ _ _ us hl=>match us,hl with | [_],_=>rfl
 have C__law_power:=ok__law_power (P:=l.prog) (w:=w) (base:=base) F9 (PySem.W.mg_of X G a9) b9 T
 have F13:=fun_mk (st:=s__law_turned) l13 c13 k13
 have b13:=F13.binds (ps:=["_law_key_here"]) fun _ _ _ _ _ _ us hl=>match us,hl with | [_],_=>rfl
 have C__law_turned:=ok__law_turned (P:=l.prog) (w:=w) (base:=base) F13 (PySem.W.mg_of X G a13) b13 T
 have F14:=fun_mk (st:=s__law_places) l14 c14 k14
 have b14:=F14.binds (ps:=["_law_script", "_law_least", "_law_most"]) fun _ _ _ _ _ _ us hl=>match us,hl with | [_,_,_],_=>rfl
 have C__law_places:=ok__law_places (P:=l.prog) (w:=w) (base:=base) F14 (PySem.W.mg_of X G a14) b14 T
 have F17:=fun_mk (st:=s__law_shifted) l17 c17 k17
 have b17:=F17.binds (ps:=["_law_one", "_law_other", "_law_way"]) fun _ _ _ _ _ _ us hl=>match us,hl with | [_,_,_],_=>rfl
 have C__law_shifted:=ok__law_shifted (P:=l.prog) (w:=w) (base:=base) F17 (PySem.W.mg_of X G a17) b17 T
 have F19:=fun_mk (st:=s__law_whole_number) l19 c19 k19
 have b19:=F19.binds (ps:=["_law_thing_here"]) fun _ _ _ _ _ _ us hl=>match us,hl with | [_],_=>rfl
 have C__law_whole_number:=ok__law_whole_number (P:=l.prog) (w:=w) (base:=base) F19 (PySem.W.mg_of X G a19) b19 T
 have F5:=fun_mk (st:=s_is_like_entry) l5 c5 k5
 have b5:=F5.binds (ps:=["thing"]) fun _ _ _ _ _ _ us hl=>match us,hl with | [_],_=>rfl
 have C_is_like_entry:=ok_is_like_entry (P:=l.prog) (w:=w) (base:=base) F5 (PySem.W.mg_of X G a5) b5 T C_is_whole
 have F8:=fun_mk (st:=s__law_far) l8 c8 k8
 have b8:=F8.binds (ps:=["_law_hand", "_law_many"]) fun _ _ _ _ _ _ us hl=>match us,hl with | [_,_],_=>rfl
 have C__law_far:=ok__law_far (P:=l.prog) (w:=w) (base:=base) F8 (PySem.W.mg_of X G a8) b8 T C__law_draw
 have F12:=fun_mk (st:=s__law_thing) l12 c12 k12
 have b12:=F12.binds (ps:=["_law_hand"]) fun _ _ _ _ _ _ us hl=>match us,hl with | [_],_=>rfl
 have C__law_thing:=ok__law_thing (P:=l.prog) (w:=w) (base:=base) F12 (PySem.W.mg_of X G a12) b12 T C__law_draw
 have F16:=fun_mk (st:=s__law_inside) l16 c16 k16
 have b16:=F16.binds (ps:=["_law_hand", "_law_leaf"]) fun _ _ _ _ _ _ us hl=>match us,hl with | [_,_],_=>rfl
 have C__law_inside:=ok__law_inside (P:=l.prog) (w:=w) (base:=base) F16 (PySem.W.mg_of X G a16) b16 T C__law_draw
 have F20:=fun_mk (st:=s__law_is_entry) l20 c20 k20
 have b20:=F20.binds (ps:=["_law_entry"]) fun _ _ _ _ _ _ us hl=>match us,hl with | [_],_=>rfl
 have C__law_is_entry:=ok__law_is_entry (P:=l.prog) (w:=w) (base:=base) F20 (PySem.W.mg_of X G a20) b20 T C__law_whole_number
 have F10:=fun_mk (st:=s__law_key) l10 c10 k10
 have b10:=F10.binds (ps:=["_law_hand"]) fun _ _ _ _ _ _ us hl=>match us,hl with | [_],_=>rfl
 have C__law_key:=ok__law_key (P:=l.prog) (w:=w) (base:=base) F10 (PySem.W.mg_of X G a10) b10 T C__law_draw C__law_far C__law_power
 have F15:=fun_mk (st:=s__law_pages) l15 c15 k15
 have b15:=F15.binds (ps:=["_law_hand", "_law_entries"]) fun _ _ _ _ _ _ us hl=>match us,hl with | [_,_],_=>rfl
 have C__law_pages:=ok__law_pages (P:=l.prog) (w:=w) (base:=base) F15 (PySem.W.mg_of X G a15) b15 T C__law_draw C__law_far C__law_turned
 have F18:=fun_mk (st:=s__law_spoilt) l18 c18 k18
 have b18:=F18.binds (ps:=["_law_hand", "_law_pages_here"]) fun _ _ _ _ _ _ us hl=>match us,hl with | [_,_],_=>rfl
 have C__law_spoilt:=ok__law_spoilt (P:=l.prog) (w:=w) (base:=base) F18 (PySem.W.mg_of X G a18) b18 T C__law_draw C__law_shifted C__law_inside
 have F21:=fun_mk (st:=s__law_is_walk) l21 c21 k21
 have b21:=F21.binds (ps:=["_law_entries", "_law_thing_here"]) fun _ _ _ _ _ _ us hl=>match us,hl with | [_,_],_=>rfl
 have C__law_is_walk:=ok__law_is_walk (P:=l.prog) (w:=w) (base:=base) F21 (PySem.W.mg_of X G a21) b21 T C__law_whole_number C__law_turned C__law_is_entry
 have F11:=fun_mk (st:=s__law_keys) l11 c11 k11
 have b11:=F11.binds (ps:=["_law_hand", "_law_many"]) fun _ _ _ _ _ _ us hl=>match us,hl with | [_,_],_=>rfl
 have C__law_keys:=ok__law_keys (P:=l.prog) (w:=w) (base:=base) F11 (PySem.W.mg_of X G a11) b11 T C__law_key
 have F2:=fun_mk (st:=s_between) l2 c2 k2
 have b2:=F2.binds (ps:=["entries", "mark", "onward"]) fun _ _ _ _ _ _ us hl=>match us,hl with | [_,_,_],_=>rfl
 have C_between:=ok_between (P:=l.prog) (w:=w) (base:=base) F2 (PySem.W.mg_of X G a2) b2 T (lam_mk hBM a2 l2 tL_between hL_between) C_turned
 have F4:=fun_mk (st:=s_is_page) l4 c4 k4
 have b4:=F4.binds (ps:=["entries", "mark", "thing"]) fun _ _ _ _ _ _ us hl=>match us,hl with | [_,_,_],_=>rfl
 have C_is_page:=ok_is_page (P:=l.prog) (w:=w) (base:=base) F4 (PySem.W.mg_of X G a4) b4 T C_between C_is_whole C_is_like_entry
 have F3:=fun_mk (st:=s_is_walk) l3 c3 k3
 have b3:=F3.binds (ps:=["entries", "thing"]) fun _ _ _ _ _ _ us hl=>match us,hl with | [_,_],_=>rfl
 have C_is_walk:=ok_is_walk (P:=l.prog) (w:=w) (base:=base) F3 (PySem.W.mg_of X G a3) b3 T C_is_page
 have F22:=fun_mk (st:=s__law_kept) l22 c22 k22
 have b22:=F22.binds (ps:=["_law_thing_here"]) fun _ _ _ _ _ _ us hl=>match us,hl with | [_],_=>rfl
 have C__law_kept0:Cal l.prog w K mg base "_law_kept" ["_law_thing_here"] 1 (spr__law_kept K 0):=Cal.of (k:=0) F22 (PySem.W.mg_of X G a22) b22 sc__law_kept (fun _ _ _ _ h=>h.elim) (fun _ _ _ _ _ _ _ _ _ h=>h.elim)
 have C__law_kept1:=ok__law_kept (P:=l.prog) (w:=w) (base:=base) F22 (PySem.W.mg_of X G a22) b22 T C__law_kept0
 have C__law_kept2:=ok__law_kept (P:=l.prog) (w:=w) (base:=base) F22 (PySem.W.mg_of X G a22) b22 T C__law_kept1
 have C__law_kept3:=ok__law_kept (P:=l.prog) (w:=w) (base:=base) F22 (PySem.W.mg_of X G a22) b22 T C__law_kept2
 have C__law_kept4:=ok__law_kept (P:=l.prog) (w:=w) (base:=base) F22 (PySem.W.mg_of X G a22) b22 T C__law_kept3
 have C__law_kept5:=ok__law_kept (P:=l.prog) (w:=w) (base:=base) F22 (PySem.W.mg_of X G a22) b22 T C__law_kept4
 have C__law_kept6:=ok__law_kept (P:=l.prog) (w:=w) (base:=base) F22 (PySem.W.mg_of X G a22) b22 T C__law_kept5
 have C__law_kept:Cal l.prog w K mg base "_law_kept" ["_law_thing_here"] 7 (sp__law_kept K):=C__law_kept6
 have F23:=fun_mk (st:=s_law) l23 c23 k23
 exact ok_law F23 T C__law_places C__law_open C__law_pages C__law_spoilt C__law_kept C_is_walk C__law_thing C__law_keys C__law_draw C__law_is_walk
theorem walk {l:PySem.W.OpenLaw}{q:Program}{loose:List Str}{XP:(Str→Option Value)→Heap→Prop}{YP:World→Heap→Prop}{d:DefRec}{K:Params→PySem.W.Frag}(hn:l.most=some 63) (hdf:d.params.defaults=[])
  (hY:∀(w:World) (h:Heap),YP w h→(K w.params).In h)
  (tP:Addr) (hT:∀(w:World) (h:Heap),YP w h→h.get? tP=some (PySem.W.tabObj #[])) (hTb:∀w:World,tbP (K w.params) "between" = tP) (hTc:∀w:World,PySem.W.codeHdIn (K w.params) (tbC (K w.params) "between") (tbP (K w.params) "between")=true) (hKP:∀w:World,(K w.params).lookup (tbP (K w.params) "between")=none)
  (F:∀(w:World) (mg:Str→Option Value) (fa:Addr) (h:Heap),(K w.params).In h→h.Ns mainGlobals mg→mg d.name=some (.ref fa) →
   ∃fd:FuncData,(∀(s:Shared) (u:Value),BindsTo s fd ⟨[u],[]⟩ [("_law_script",u)])∧∀base:Heap,(K w.params).In base→base.Ns mainGlobals mg→BM mg base→FnOk l.prog w (K w.params) mg base CX0 8 fa fd ["_law_script"] (sp_law (K w.params))) :
  PySem.W.WalkO q loose XP YP l.row.toRowW d [] (fun f vs=>PySem.call f vs) :=
 L2.walk_ofT (n:=63) (k:=8) (x := "_law_script") (CX:=fun _=>CX0) (sp:=fun w=>sp_law (K w.params)) (tP:=tP) hn (by decide) hdf ⟨rfl,by decide,by decide,rfl⟩ hY hT (fun w=>⟨_,hTb w ▸ hTc w⟩) (fun w=>hTb w ▸ hKP w) F (fun w H a ns hl hO hP hS=>⟨a,ns,rfl,hS,hl,⟨#[],(hTb w).symm ▸ hP,trivial,.inl rfl⟩,fun _=>rfl⟩) fun _ _ _ _ _ z=>z
end Law
namespace HD
open PySem PySem.W PySem.PyData
noncomputable def pB:List Stmt:=PySem.Challenge.pw_tailrooms_k75_walks_looked_at.main.body
noncomputable def nS:List Stmt→Nat→Stmt
 | s::_,0=>s
 | _::r,n+1=>nS r n
 | [],_=>.Pass ⟨0,0,0,0⟩
noncomputable def bS:Stmt→List Stmt
 | .FunctionDef _ _ b ..=>b
 | .ClassDef _ _ _ b ..=>b
 | _=>[]
noncomputable def aS:Stmt→Arguments
 | .FunctionDef _ a ..=>a
 | _=>⟨[],[],none,[],[],none,[]⟩
noncomputable def sS:Stmt→Scope
 | .FunctionDef _ _ _ _ _ _ s ..=>s
 | _=>⟨.function,[],false,false,[]⟩
noncomputable def f (i:Nat):Stmt:=nS pB i
noncomputable def m (i j:Nat):Stmt:=nS (bS (f i)) j
abbrev O:=Params→Obj
noncomputable def E (P:Params) (x:Str) (n:Nat) (v:Value):DictEntry:=⟨keyHash P x,.str x n,v⟩
abbrev B:=Params→BT
noncomputable def n (o:O) (l r:B):B:=fun P=>.node (o P) (l P) (r P)
noncomputable def w (o:O):B:=fun P=>.node (o P) .nil .nil
noncomputable def u:B:=fun _=>.nil
noncomputable def c0 (P:Params) (r:List DictEntry):List DictEntry:=(E P "__name__" 165 (.str "law_tailrooms_k75_walks_looked_at" 244))::(E P "__doc__" 166 .none)::(E P "__package__" 167 .none)::(E P "__loader__" 168 (.builtin "__main__.__loader__#opaque"))::(E P "__spec__" 169 .none)::(E P "__annotations__" 170 (.ref 6))::(E P "__builtins__" 171 (.ref 4))::(E P "__file__" 173 (.str "/claim/cut.py" 172))::r
noncomputable def c1 (P:Params) (r:List DictEntry):List DictEntry:=(E P "__cached__" 174 .none)::(E P "KEY_BITS" 190 (.int 60 189))::(E P "turned" 199 (.ref 21))::(E P "is_whole" 208 (.ref 28))::(E P "END" 212 (.int 1152921504606846976 211))::(E P "between" 220 (.ref 33))::(E P "is_walk" 230 (.ref 40))::(E P "is_page" 236 (.ref 45))::r
noncomputable def c2 (P:Params) (r:List DictEntry):List DictEntry:=(E P "is_like_entry" 243 (.ref 52))::(E P "_law_open" 251 (.ref 57))::(E P "_law_draw" 262 (.ref 64))::(E P "_law_far" 272 (.ref 71))::(E P "_law_power" 281 (.ref 78))::(E P "_law_key" 290 (.ref 85))::(E P "_law_keys" 301 (.ref 92))::(E P "_law_thing" 307 (.ref 97))::r
noncomputable def c3 (P:Params) (r:List DictEntry):List DictEntry:=(E P "_law_turned" 316 (.ref 104))::(E P "_law_places" 325 (.ref 111))::(E P "_law_pages" 331 (.ref 116))::(E P "_law_inside" 348 (.ref 123))::(E P "_law_shifted" 357 (.ref 130))::(E P "_law_spoilt" 372 (.ref 137))::(E P "_law_whole_number" 379 (.ref 144))::(E P "_law_is_entry" 386 (.ref 151))::r
noncomputable def c4 (P:Params) (r:List DictEntry):List DictEntry:=(E P "_law_is_walk" 392 (.ref 156))::(E P "_law_kept" 398 (.ref 161))::(E P "law" 404 (.ref 166))::r
noncomputable def c5 (P:Params) (r:List Value):List Value:=(.int 3 0)::(.int 0 0)::(.ref 20)::(.int 9 0)::(.int 0 0)::(.ref 27)::(.int 13 0)::(.int 0 0)::(.ref 32)::(.int 16 0)::(.int 0 0)::(.ref 39)::(.int 25 0)::(.int 0 0)::(.ref 44)::(.int 34 0)::(.int 0 0)::(.ref 51)::r
noncomputable def c6 (P:Params) (r:List Value):List Value:=(.int 37 0)::(.int 0 0)::(.ref 56)::(.int 46 0)::(.int 0 0)::(.ref 63)::(.int 57 0)::(.int 0 0)::(.ref 70)::(.int 64 0)::(.int 0 0)::(.ref 77)::(.int 69 0)::(.int 0 0)::(.ref 84)::(.int 81 0)::(.int 0 0)::(.ref 91)::r
noncomputable def c7 (P:Params) (r:List Value):List Value:=(.int 89 0)::(.int 0 0)::(.ref 96)::(.int 92 0)::(.int 0 0)::(.ref 103)::(.int 98 0)::(.int 0 0)::(.ref 110)::(.int 100 0)::(.int 0 0)::(.ref 115)::(.int 120 0)::(.int 0 0)::(.ref 122)::(.int 138 0)::(.int 0 0)::(.ref 129)::r
noncomputable def c8 (P:Params) (r:List Value):List Value:=(.int 142 0)::(.int 0 0)::(.ref 136)::(.int 173 0)::(.int 0 0)::(.ref 143)::(.int 175 0)::(.int 0 0)::(.ref 150)::(.int 177 0)::(.int 0 0)::(.ref 155)::(.int 194 0)::(.int 0 0)::(.ref 160)::(.int 200 0)::(.int 0 0)::(.ref 165)::r
noncomputable def t9 (a0:Str) (a1:Stmt) (P:Params):Obj:=⟨.none,none,(.func ⟨a0,a0,(aS a1),(.stmts (bS a1)),(sS a1),0,[],.none,.none,.none,.none,none,.none,.none,0⟩),#[]⟩
noncomputable def t10 (a0:Str) (a1:Stmt) (a2:Str) (a3:Nat) (a4:Nat) (P:Params):Obj:=⟨(.type "function"),none,(.func ⟨a0,a0,(aS a1),(.stmts (bS a1)),(sS a1),3,[],.none,.none,.none,(.str a2 a3),none,(.ref a4),.none,0⟩),#[]⟩
noncomputable def t11 (a0:Str) (a1:Nat) (a2:Int) (a3:Int) (a4:Nat) (a5:Int) (a6:Nat) (P:Params):Obj:=⟨(.type "code"),none,(.fields #[(.str a0 a1),(.str a0 (a1+1)),(.str "/claim/cut.py" (a1+2)),(.int a2 0),(.int a3 0),(.int 0 0),(.int 0 0),(.int 3 0),(.ref a4),(.bool .true),(.int 181 0),(.ref (a4+1)),.none,(.ref (a4+2)),(.ref (a4+3)),(.ref (a4+4)),(.int a5 0),(.int a2 0),(.str "/claim/cut.py" a6)]),#[]⟩
noncomputable def t12 (a0:Str) (a1:Nat) (a2:Int) (a3:Int) (a4:Nat) (a5:Int) (P:Params):Obj:=⟨(.type "code"),none,(.fields #[(.str a0 a1),(.str a0 (a1+1)),(.str "/claim/cut.py" (a1+2)),(.int a2 0),(.int a3 0),(.int 0 0),(.int 0 0),(.int 3 0),(.ref a4),(.bool .true),(.int 181 0),(.ref (a4+1)),.none,.none,.none,(.ref (a4+2)),(.int a5 0),(.int a2 0),(.str "/claim/cut.py" (a1+4))]),#[]⟩
noncomputable def t13 (a0:Str) (a1:Nat) (a2:Str) (a3:Str) (P:Params):Obj:=⟨(.type "tuple"),none,(.seq #[(.str a0 a1),(.str a2 (a1+1)),(.str a3 (a1+2))] 0),#[]⟩
noncomputable def t14 (a0:Str) (a1:Nat) (P:Params):Obj:=⟨(.type "tuple"),none,(.seq #[(.str a0 a1)] 0),#[]⟩
noncomputable def o0:O:=fun P=>⟨(.type "dict"),none,(.dict (c0 P (c1 P (c2 P (c3 P (c4 P []))))).toArray 35),#[]⟩
noncomputable def o1:O:=fun P=>⟨(.type "tuple"),none,(.seq #[] 0),#[]⟩
noncomputable def o2:O:=fun P=>⟨.none,none,(.fields (c5 P (c6 P (c7 P (c8 P [])))).toArray),#[]⟩
noncomputable def o3:O:=fun P=>⟨(.type "code"),none,(.fields #[(.str "<module>" 182),(.str "<module>" 183),(.str "/claim/cut.py" 184),(.int 1 0),(.int 0 0),(.int 0 0),(.int 0 0),(.int 0 0),(.ref 11),(.bool .false),(.int 181 0),(.ref 12),.none,.none,.none,.none,(.int 185 0),(.int 1 0),(.str "/claim/cut.py" 186)]),#[]⟩
noncomputable def o4:O:=fun P=>⟨(.type "frame"),none,.plain,#[(some (.ref 13)),(some (.ref 3)),(some (.ref 3)),none,(some (.str "__main__" 164)),none,(some (.ref 0))]⟩
noncomputable def o5:O:=fun P=>⟨.none,none,(.fields #[]),#[]⟩
noncomputable def o6:O:=t13 "key" 194 "told" "place"
noncomputable def o7:O:=t9 "turned" (f 2)
noncomputable def o8:O:=t11 "turned" 191 3 1 15 197 198
noncomputable def o9:O:=t10 "turned" (f 2) "tailrooms.bits" 187 20
noncomputable def o10:O:=t14 "thing" 205
noncomputable def o11:O:=t9 "is_whole" (f 4)
noncomputable def o12:O:=t11 "is_whole" 202 9 1 22 206 207
noncomputable def o13:O:=t10 "is_whole" (f 4) "tailrooms.kinds" 200 27
noncomputable def o14:O:=t9 "between" (f 7)
noncomputable def o15:O:=t12 "between" 215 13 3 29 218
noncomputable def o16:O:=t10 "between" (f 7) "tailrooms.walks" 213 32
noncomputable def o17:O:=fun P=>⟨(.type "tuple"),none,(.seq #[(.str "entries" 224),(.str "thing" 225),(.str "mark" 226),(.str "told" 227)] 0),#[]⟩
noncomputable def o18:O:=t9 "is_walk" (f 8)
noncomputable def o19:O:=t11 "is_walk" 221 16 2 34 228 229
noncomputable def o20:O:=t10 "is_walk" (f 8) "tailrooms.walks" 213 39
noncomputable def o21:O:=t9 "is_page" (f 9)
noncomputable def o22:O:=t12 "is_page" 231 25 3 41 234
noncomputable def o23:O:=t10 "is_page" (f 9) "tailrooms.walks" 213 44
noncomputable def o24:O:=t14 "thing" 240
noncomputable def o25:O:=t9 "is_like_entry" (f 10)
noncomputable def o26:O:=t11 "is_like_entry" 237 34 1 46 241 242
noncomputable def o27:O:=t10 "is_like_entry" (f 10) "tailrooms.walks" 213 51
noncomputable def o28:O:=t9 "_law_open" (f 12)
noncomputable def o29:O:=t12 "_law_open" 246 37 2 53 249
noncomputable def o30:O:=t10 "_law_open" (f 12) "law_tailrooms_k75_walks_looked_at" 244 56
noncomputable def o31:O:=fun P=>⟨(.type "tuple"),none,(.seq #[(.str "_law_hand" 255),(.str "_law_many" 256),(.str "_law_got" 257),(.str "_law_k" 258),(.str "_law_number" 259)] 0),#[]⟩
noncomputable def o32:O:=t9 "_law_draw" (f 13)
noncomputable def o33:O:=t11 "_law_draw" 252 46 2 58 260 261
noncomputable def o34:O:=t10 "_law_draw" (f 13) "law_tailrooms_k75_walks_looked_at" 244 63
noncomputable def o35:O:=fun P=>⟨(.type "tuple"),none,(.seq #[(.str "_law_hand" 266),(.str "_law_many" 267),(.str "_law_number" 268),(.str "_law_k" 269)] 0),#[]⟩
noncomputable def o36:O:=t9 "_law_far" (f 14)
noncomputable def o37:O:=t11 "_law_far" 263 57 2 65 270 271
noncomputable def o38:O:=t10 "_law_far" (f 14) "law_tailrooms_k75_walks_looked_at" 244 70
noncomputable def o39:O:=t13 "_law_many" 276 "_law_number" "_law_k"
noncomputable def o40:O:=t9 "_law_power" (f 15)
noncomputable def o41:O:=t11 "_law_power" 273 64 1 72 279 280
noncomputable def o42:O:=t10 "_law_power" (f 15) "law_tailrooms_k75_walks_looked_at" 244 77
noncomputable def o43:O:=t13 "_law_hand" 285 "_law_way" "_law_low"
noncomputable def o44:O:=t9 "_law_key" (f 16)
noncomputable def o45:O:=t11 "_law_key" 282 69 1 79 288 289
noncomputable def o46:O:=t10 "_law_key" (f 16) "law_tailrooms_k75_walks_looked_at" 244 84
noncomputable def o47:O:=fun P=>⟨(.type "tuple"),none,(.seq #[(.str "_law_hand" 294),(.str "_law_many" 295),(.str "_law_keys_here" 296),(.str "_law_k" 297),(.str "_law_key_here" 298)] 0),#[]⟩
noncomputable def o48:O:=t9 "_law_keys" (f 17)
noncomputable def o49:O:=t11 "_law_keys" 291 81 2 86 299 300
noncomputable def o50:O:=t10 "_law_keys" (f 17) "law_tailrooms_k75_walks_looked_at" 244 91
noncomputable def o51:O:=t9 "_law_thing" (f 18)
noncomputable def o52:O:=t12 "_law_thing" 302 89 1 93 305
noncomputable def o53:O:=t10 "_law_thing" (f 18) "law_tailrooms_k75_walks_looked_at" 244 96
noncomputable def o54:O:=t13 "_law_key_here" 311 "_law_mark" "_law_k"
noncomputable def o55:O:=t9 "_law_turned" (f 19)
noncomputable def o56:O:=t11 "_law_turned" 308 92 1 98 314 315
noncomputable def o57:O:=t10 "_law_turned" (f 19) "law_tailrooms_k75_walks_looked_at" 244 103
noncomputable def o58:O:=t13 "_law_script" 320 "_law_least" "_law_most"
noncomputable def o59:O:=t9 "_law_places" (f 20)
noncomputable def o60:O:=t11 "_law_places" 317 98 3 105 323 324
noncomputable def o61:O:=t10 "_law_places" (f 20) "law_tailrooms_k75_walks_looked_at" 244 110
noncomputable def o62:O:=t9 "_law_pages" (f 21)
noncomputable def o63:O:=t12 "_law_pages" 326 100 2 112 329
noncomputable def o64:O:=t10 "_law_pages" (f 21) "law_tailrooms_k75_walks_looked_at" 244 115
noncomputable def o65:O:=fun P=>⟨(.type "tuple"),none,(.seq #[(.str "_law_hand" 335),(.str "_law_leaf" 336),(.str "_law_mark" 337),(.str "_law_inside_here" 338),(.str "_law_end" 339),(.str "_law_way" 340),(.str "_law_some" 341),(.str "_law_at" 342),(.str "_law_key_here" 343),(.str "_law_thing_here" 344),(.str "_law_odd" 345)] 0),#[]⟩
noncomputable def o66:O:=t9 "_law_inside" (f 22)
noncomputable def o67:O:=t11 "_law_inside" 332 120 2 117 346 347
noncomputable def o68:O:=t10 "_law_inside" (f 22) "law_tailrooms_k75_walks_looked_at" 244 122
noncomputable def o69:O:=t13 "_law_one" 352 "_law_other" "_law_way"
noncomputable def o70:O:=t9 "_law_shifted" (f 23)
noncomputable def o71:O:=t11 "_law_shifted" 349 138 3 124 355 356
noncomputable def o72:O:=t10 "_law_shifted" (f 23) "law_tailrooms_k75_walks_looked_at" 244 129
noncomputable def o73:O:=fun P=>⟨(.type "tuple"),none,(.seq #[(.str "_law_hand" 361),(.str "_law_pages_here" 362),(.str "_law_way" 363),(.str "_law_some" 364),(.str "_law_at" 365),(.str "_law_mark" 366),(.str "_law_inside_here" 367),(.str "_law_end" 368),(.str "_law_odd" 369)] 0),#[]⟩
noncomputable def o74:O:=t9 "_law_spoilt" (f 24)
noncomputable def o75:O:=t11 "_law_spoilt" 358 142 2 131 370 371
noncomputable def o76:O:=t10 "_law_spoilt" (f 24) "law_tailrooms_k75_walks_looked_at" 244 136
noncomputable def o77:O:=t14 "_law_thing_here" 376
noncomputable def o78:O:=t9 "_law_whole_number" (f 25)
noncomputable def o79:O:=t11 "_law_whole_number" 373 173 1 138 377 378
noncomputable def o80:O:=t10 "_law_whole_number" (f 25) "law_tailrooms_k75_walks_looked_at" 244 143
noncomputable def o81:O:=t14 "_law_entry" 383
noncomputable def o82:O:=t9 "_law_is_entry" (f 26)
noncomputable def o83:O:=t11 "_law_is_entry" 380 175 1 145 384 385
noncomputable def o84:O:=t10 "_law_is_entry" (f 26) "law_tailrooms_k75_walks_looked_at" 244 150
noncomputable def o85:O:=t9 "_law_is_walk" (f 27)
noncomputable def o86:O:=t12 "_law_is_walk" 387 177 2 152 390
noncomputable def o87:O:=t10 "_law_is_walk" (f 27) "law_tailrooms_k75_walks_looked_at" 244 155
noncomputable def o88:O:=t9 "_law_kept" (f 28)
noncomputable def o89:O:=t12 "_law_kept" 393 194 1 157 396
noncomputable def o90:O:=t10 "_law_kept" (f 28) "law_tailrooms_k75_walks_looked_at" 244 160
noncomputable def o91:O:=t9 "law" (f 29)
noncomputable def o92:O:=t12 "law" 399 200 1 162 402
noncomputable def o93:O:=t10 "law" (f 29) "law_tailrooms_k75_walks_looked_at" 244 165
noncomputable def qB (_:Params→BT):Bool:=true
noncomputable def qH (_:Params→Heap):Bool:=true
noncomputable def qP (_:Program):Bool:=true
noncomputable def qS (_:List Stmt):Bool:=true
noncomputable def X_view_39:Program:={ PySem.Challenge.pw_tailrooms_k75_walks_looked_at with main:={ PySem.Challenge.pw_tailrooms_k75_walks_looked_at.main with body:=[f 1,f 2,f 4,f 5,f 7,f 8,f 9,f 10,f 12,f 13,f 14,f 15,f 16,f 17,f 18,f 19,f 20,f 21,f 22,f 23,f 24,f 25,f 26,f 27,f 28,f 29] } }
noncomputable def c15:B:=n o14 (n o33 (w o1) u) (n o51 (w o88) u)
noncomputable def c16:B:=n o5 (n o1 (w o79) u) (w o61)
noncomputable def c17:B:=n o19 (n o38 (w o74) u) (w o56)
noncomputable def c18:B:=n o28 (n o5 (w o84) u) (w o65)
noncomputable def c19:B:=n o5 (n o35 (w o1) u) (n o5 (w o5) u)
noncomputable def c20:B:=n o26 (n o44 (w o81) u) (w o63)
noncomputable def c21:B:=n o21 (n o1 (w o5) u) (w o58)
noncomputable def c22:B:=n o5 (n o49 (w o86) u) (w o68)
noncomputable def c23:B:=n o16 (n o1 (w o71) u) (n o53 (w o90) u)
noncomputable def c24:B:=n o1 (n o43 (w o1) u) (w o5)
noncomputable def c25:B:=n o1 (n o5 (w o76) u) (w o1)
noncomputable def c26:B:=n o30 (n o1 (w o5) u) (w o66)
noncomputable def c27:B:=n o1 (n o36 (w o73) u) (n o1 (w o92) u)
noncomputable def c28:B:=n o1 (n o46 (w o82) u) (w o1)
noncomputable def c29:B:=n o23 (n o41 (w o1) u) (w o59)
noncomputable def c30:B:=n o1 (n o1 (w o1) u) (w o5)
noncomputable def c31:B:=n o15 (n o34 (w o70) u) (n o52 (w o89) u)
noncomputable def c32:B:=n o24 (n o5 (w o80) u) (w o1)
noncomputable def c33:B:=n o20 (n o1 (w o75) u) (w o57)
noncomputable def c34:B:=n o29 (n o47 (w o1) u) (w o1)
noncomputable def c35:B:=n o17 (n o1 (w o5) u) (n o54 (w o91) u)
noncomputable def c36:B:=n o27 (n o45 (w o1) u) (w o64)
noncomputable def c37:B:=n o22 (n o40 (w o77) u) (w o1)
noncomputable def c38:B:=n o31 (n o50 (w o87) u) (w o1)
noncomputable def c39:B:=n o1 (n o5 (w o72) u) (n o1 (w o1) u)
noncomputable def c40:B:=n o25 (n o1 (w o5) u) (w o62)
noncomputable def c41:B:=n o5 (n o39 (w o1) u) (w o5)
noncomputable def c42:B:=n o1 (n o48 (w o85) u) (w o67)
noncomputable def c43:B:=n o18 (n o37 (w o1) u) (n o55 (w o93) u)
noncomputable def c44:B:=n o5 (n o1 (w o83) u) (w o5)
noncomputable def c45:B:=n o1 (n o42 (w o78) u) (w o60)
noncomputable def c46:B:=n o32 (n o5 (w o5) u) (w o69)
noncomputable def X_tree_204:Params→BT:=(n boot_o_0 (n boot_o_1 (n o0 (n boot_o_7 (n o1 c15 c16) (n o5 c17 c18)) (n o1 (n o7 c19 c20) (n o12 c21 c22))) (n boot_o_5 (n boot_o_9 (n o6 c23 c24) (n o1 c25 c26)) (n o3 (n o9 c27 c28) (n o1 c29 c30)))) (n boot_o_2 (n boot_o_4 (n boot_o_8 (n o5 c31 c32) (n o10 c33 c34)) (n o2 (n o8 c35 c36) (n o13 c37 c38))) (n boot_o_6 (n boot_o_10 (n o1 c39 c40) (n o11 c41 c42)) (n o4 (n o1 c43 c44) (n o5 c45 c46)))))
noncomputable def c47 (P:Params) (r:List Obj):List Obj:=boot_o_0 P::boot_o_1 P::boot_o_2 P::o0 P::boot_o_4 P::boot_o_5 P::boot_o_6 P::boot_o_7 P::boot_o_8 P::boot_o_9 P::boot_o_10 P::o1 P::o2 P::o3 P::o4 P::o1 P::r
noncomputable def c48 (P:Params) (r:List Obj):List Obj:=o5 P::o6 P::o1 P::o7 P::o8 P::o9 P::o1 P::o5 P::o10 P::o1 P::o11 P::o12 P::o13 P::o1 P::o5 P::o14 P::r
noncomputable def c49 (P:Params) (r:List Obj):List Obj:=o15 P::o16 P::o1 P::o5 P::o17 P::o1 P::o18 P::o19 P::o20 P::o1 P::o5 P::o21 P::o22 P::o23 P::o1 P::o5 P::r
noncomputable def c50 (P:Params) (r:List Obj):List Obj:=o24 P::o1 P::o25 P::o26 P::o27 P::o1 P::o5 P::o28 P::o29 P::o30 P::o1 P::o5 P::o31 P::o1 P::o32 P::o33 P::r
noncomputable def c51 (P:Params) (r:List Obj):List Obj:=o34 P::o1 P::o5 P::o35 P::o1 P::o36 P::o37 P::o38 P::o1 P::o5 P::o39 P::o1 P::o40 P::o41 P::o42 P::o1 P::r
noncomputable def c52 (P:Params) (r:List Obj):List Obj:=o5 P::o43 P::o1 P::o44 P::o45 P::o46 P::o1 P::o5 P::o47 P::o1 P::o48 P::o49 P::o50 P::o1 P::o5 P::o51 P::r
noncomputable def c53 (P:Params) (r:List Obj):List Obj:=o52 P::o53 P::o1 P::o5 P::o54 P::o1 P::o55 P::o56 P::o57 P::o1 P::o5 P::o58 P::o1 P::o59 P::o60 P::o61 P::r
noncomputable def c54 (P:Params) (r:List Obj):List Obj:=o1 P::o5 P::o62 P::o63 P::o64 P::o1 P::o5 P::o65 P::o1 P::o66 P::o67 P::o68 P::o1 P::o5 P::o69 P::o1 P::r
noncomputable def c55 (P:Params) (r:List Obj):List Obj:=o70 P::o71 P::o72 P::o1 P::o5 P::o73 P::o1 P::o74 P::o75 P::o76 P::o1 P::o5 P::o77 P::o1 P::o78 P::o79 P::r
noncomputable def c56 (P:Params) (r:List Obj):List Obj:=o80 P::o1 P::o5 P::o81 P::o1 P::o82 P::o83 P::o84 P::o1 P::o5 P::o85 P::o86 P::o87 P::o1 P::o5 P::o88 P::r
noncomputable def c57 (P:Params) (r:List Obj):List Obj:=o89 P::o90 P::o1 P::o5 P::o91 P::o92 P::o93 P::r
noncomputable def X_heap_205:Params→Heap:=fun P=>⟨⟨(c47 P (c48 P (c49 P (c50 P (c51 P (c52 P (c53 P (c54 P (c55 P (c56 P (c57 P [])))))))))))⟩,⟨[],[],[],0,[],[],.false,#[],[],0,.false,.false,.false,0,[2000,10,10],.false,0,.true,[],[],0,.false⟩⟩
noncomputable def X_sts_122:List Stmt:=[f 17,f 18,f 19,f 20,f 21,f 22,f 23,f 24,f 25,f 26,f 27,f 28,f 29]
noncomputable def X_sts_49:List Stmt:=[f 0,f 1,f 2,f 3,f 4,f 5,f 6,f 7,f 8,f 9,f 10,f 11,f 12,f 13,f 14,f 15,f 16]
theorem z:(qP X_view_39 && qB X_tree_204 && qH X_heap_205 && qS X_sts_122 && qS X_sts_49)=true:=by k_qdec
end HD
noncomputable def PySem.W.Fast.tw4509374999969553724:PySem.Program:=PySem.W.Fast.tw18025189030367128546
theorem PySem.W.Fast.te4509374999969553724:HD.X_view_39=PySem.W.Fast.tw4509374999969553724:=PySem.W.Fast.te18025189030367128546
noncomputable def PySem.W.Fast.tw4452735603186645780:PySem.Params→PySem.W.BT:=PySem.W.Fast.tw13316510307397919643
theorem PySem.W.Fast.te4452735603186645780:HD.X_tree_204=PySem.W.Fast.tw4452735603186645780:=PySem.W.Fast.te13316510307397919643
noncomputable def PySem.W.Fast.tw11202650391748336577:Nat:=0
theorem PySem.W.Fast.te11202650391748336577:True:=trivial
noncomputable def PySem.W.Fast.tw1875107029580335457:PySem.Params→PySem.Heap:=PySem.W.Fast.tw2816312997197699249
theorem PySem.W.Fast.te1875107029580335457:HD.X_heap_205=PySem.W.Fast.tw1875107029580335457:=PySem.W.Fast.te2816312997197699249
noncomputable def PySem.W.Fast.tw12702781573316911851:List PySem.Stmt:=PySem.W.Fast.tw679581997549648900
theorem PySem.W.Fast.te12702781573316911851:HD.X_sts_122=PySem.W.Fast.tw12702781573316911851:=PySem.W.Fast.te679581997549648900
noncomputable def PySem.W.Fast.tw7209509042611188952:List PySem.Stmt:=PySem.W.Fast.tw5485031703581270831
theorem PySem.W.Fast.te7209509042611188952:HD.X_sts_49=PySem.W.Fast.tw7209509042611188952:=PySem.W.Fast.te5485031703581270831
open PySem PySem.W PyProof.Rows
set_option maxRecDepth 100000 in
set_option maxHeartbeats 0 in
theorem PySem.Challenge.cw_tailrooms_k75_walks_looked_at_holds : PySem.Challenge.rw_tailrooms_k75_walks_looked_at.Holds := by
  w_on; o_law; k_head; (case hw=>w_witness2)
  k_fill
  refine' Law.walk (l:=PySem.Challenge.rw_tailrooms_k75_walks_looked_at) rfl rfl (fun w h Y=>PySem.W.km_in_of Y) _ (fun w h Y=>PySem.W.km_tabs_of Y _ (.head _)) ?tb ?tc ?kp ?F
  case tb=>intro w; kernel_rfl
  case tc=>intro w; kernel_rfl
  case kp=>intro w; kernel_rfl
  case F =>
    intro w mg fa h KX G hmg
    refine' Law.all_mk KX G hmg ?a0 ?l0 ?c0 ?k0 ?a1 ?l1 ?c1 ?k1 ?a2 ?l2 ?c2 ?k2 ?a3 ?l3 ?c3 ?k3 ?a4 ?l4 ?c4 ?k4 ?a5 ?l5 ?c5 ?k5 ?a6 ?l6 ?c6 ?k6 ?a7 ?l7 ?c7 ?k7 ?a8 ?l8 ?c8 ?k8 ?a9 ?l9 ?c9 ?k9 ?a10 ?l10 ?c10 ?k10 ?a11 ?l11 ?c11 ?k11 ?a12 ?l12 ?c12 ?k12 ?a13 ?l13 ?c13 ?k13 ?a14 ?l14 ?c14 ?k14 ?a15 ?l15 ?c15 ?k15 ?a16 ?l16 ?c16 ?k16 ?a17 ?l17 ?c17 ?k17 ?a18 ?l18 ?c18 ?k18 ?a19 ?l19 ?c19 ?k19 ?a20 ?l20 ?c20 ?k20 ?a21 ?l21 ?c21 ?k21 ?a22 ?l22 ?c22 ?k22 ?a23 ?l23 ?c23 ?k23 ?z_range ?z_isinstance ?z_int ?z_bool ?z_sorted ?z_list ?z_tuple ?z_len ?z_all ?z_abs ?z_max ?z_min ?z_KEY_BITS ?z_END ?tL_between ?hL_between
    (case tL_between=>kernel_rfl)
    (case hL_between=>kernel_rfl)
    (case a0=>k_is)
    (case l0=>k_is)
    (case c0=>k_is)
    (case k0=>k_is)
    (case a1=>k_is)
    (case l1=>k_is)
    (case c1=>k_is)
    (case k1=>k_is)
    (case a2=>k_is)
    (case l2=>k_is)
    (case c2=>k_is)
    (case k2=>k_is)
    (case a3=>k_is)
    (case l3=>k_is)
    (case c3=>k_is)
    (case k3=>k_is)
    (case a4=>k_is)
    (case l4=>k_is)
    (case c4=>k_is)
    (case k4=>k_is)
    (case a5=>k_is)
    (case l5=>k_is)
    (case c5=>k_is)
    (case k5=>k_is)
    (case a6=>k_is)
    (case l6=>k_is)
    (case c6=>k_is)
    (case k6=>k_is)
    (case a7=>k_is)
    (case l7=>k_is)
    (case c7=>k_is)
    (case k7=>k_is)
    (case a8=>k_is)
    (case l8=>k_is)
    (case c8=>k_is)
    (case k8=>k_is)
    (case a9=>k_is)
    (case l9=>k_is)
    (case c9=>k_is)
    (case k9=>k_is)
    (case a10=>k_is)
    (case l10=>k_is)
    (case c10=>k_is)
    (case k10=>k_is)
    (case a11=>k_is)
    (case l11=>k_is)
    (case c11=>k_is)
    (case k11=>k_is)
    (case a12=>k_is)
    (case l12=>k_is)
    (case c12=>k_is)
    (case k12=>k_is)
    (case a13=>k_is)
    (case l13=>k_is)
    (case c13=>k_is)
    (case k13=>k_is)
    (case a14=>k_is)
    (case l14=>k_is)
    (case c14=>k_is)
    (case k14=>k_is)
    (case a15=>k_is)
    (case l15=>k_is)
    (case c15=>k_is)
    (case k15=>k_is)
    (case a16=>k_is)
    (case l16=>k_is)
    (case c16=>k_is)
    (case k16=>k_is)
    (case a17=>k_is)
    (case l17=>k_is)
    (case c17=>k_is)
    (case k17=>k_is)
    (case a18=>k_is)
    (case l18=>k_is)
    (case c18=>k_is)
    (case k18=>k_is)
    (case a19=>k_is)
    (case l19=>k_is)
    (case c19=>k_is)
    (case k19=>k_is)
    (case a20=>k_is)
    (case l20=>k_is)
    (case c20=>k_is)
    (case k20=>k_is)
    (case a21=>k_is)
    (case l21=>k_is)
    (case c21=>k_is)
    (case k21=>k_is)
    (case a22=>k_is)
    (case l22=>k_is)
    (case c22=>k_is)
    (case k22=>k_is)
    (case a23=>k_is)
    (case l23=>k_is)
    (case c23=>k_is)
    (case k23=>k_is)
    (case z_range=>k_is)
    (case z_isinstance=>k_is)
    (case z_int=>k_is)
    (case z_bool=>k_is)
    (case z_sorted=>k_is)
    (case z_list=>k_is)
    (case z_tuple=>k_is)
    (case z_len=>k_is)
    (case z_all=>k_is)
    (case z_abs=>k_is)
    (case z_max=>k_is)
    (case z_min=>k_is)
    (case z_KEY_BITS=>k_is)
    (case z_END=>k_is)
