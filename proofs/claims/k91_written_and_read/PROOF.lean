import PyProof.Rows.All
import Wide.All
import OpenK.AllK
import Wide.FinOn
import PyProof.EqAt
import PyProof.EqKinds
import PyProof.TupleCall
import PyProof.ExcArgsOwn
import PyProof.ExcAttrAll.ValueError
import PyProof.ExcBaseAll.ValueError
import PyProof.ExcClass2
import PyProof.ExcInit
import PyProof.InstStore
import PyProof.InstStoreFacts
import PyProof.NsDelKeeps
import PyProof.NsMap
import PyProof.Rows.CatchOwn
import PyProof.StationsW
import PySem.Challenge.RW_tailrooms_k91_written_and_read
set_option Elab.async false
set_option linter.all false
set_option maxRecDepth 100000
local macro_rules | `(tactic| omega)=>`(tactic| first | lia | omega (config:={}))
namespace L2
open PySem PySem.Spec PyProof.Rows
abbrev Key:=Sum Int Str
def keyIs:Key→Value→Bool
 | .inl k,v=>Value.isInt k v
 | .inr x,v=>Value.isStrOf x v
def keyH (w:World):Key→Int
 | .inl k=>hashInt k
 | .inr x=>hashStr w x
theorem keyIs_shape:∀{k:Key}{v:Value},keyIs k v=true→(∃i t,k=Sum.inl i∧v=Value.int i t) ∨(∃x t,k=Sum.inr x∧v=Value.str x t)
 | .inl i,v,h=>by
  obtain⟨t,e⟩:=Value.isInt_shape (k:=i) (v:=v) h
  exact .inl ⟨i,t,rfl,e⟩
 | .inr x,v,h=>by
  obtain⟨t,e⟩:=Value.isStrOf_shape (x:=x) (v:=v) h
  exact .inr ⟨x,t,rfl,e⟩
theorem key_ll (a b:Int):decide ((Sum.inl a:Key)=Sum.inl b) =(a == b):=by
 by_cases e:a=b
 ·subst e;simp
 ·have h:¬(Sum.inl a:Key)=Sum.inl b:=fun q=>e (Sum.inl.inj q)
  rw[decide_eq_false h]
  exact(beq_eq_false_iff_ne.mpr e).symm
theorem key_rr (a b:Str):decide ((Sum.inr a:Key)=Sum.inr b)=decide (a=b):=by
 by_cases e:a=b
 ·subst e;simp
 ·have h:¬(Sum.inr a:Key)=Sum.inr b:=fun q=>e (Sum.inr.inj q)
  rw[decide_eq_false h,decide_eq_false e]
theorem key_lr (a:Int) (b:Str):decide ((Sum.inl a:Key)=Sum.inr b)=false:=decide_eq_false (fun q=>nomatch q)
theorem key_rl (a:Str) (b:Int):decide ((Sum.inr a:Key)=Sum.inl b)=false:=decide_eq_false (fun q=>nomatch q)
def mixKind (prog:Program) (w:World):PySem.KeyKind prog w Key where
 is:=keyIs
 hash:=keyH w
 inj:=fun v a b ha hb=>by
  rcases keyIs_shape ha with⟨i,t,rfl,rfl⟩|⟨x,t,rfl,rfl⟩
  ·rcases keyIs_shape hb with⟨j,u,rfl,e⟩|⟨y,u,rfl,e⟩
   ·injection e with e1 _;rw[e1]
   ·exact nomatch e
  ·rcases keyIs_shape hb with⟨j,u,rfl,e⟩|⟨y,u,rfl,e⟩
   ·exact nomatch e
   ·injection e with e1 _;rw[e1]
 byValue:=fun k v h=>by
  rcases keyIs_shape h with⟨i,t,rfl,rfl⟩|⟨x,t,rfl,rfl⟩ <;> rfl
 pyHash:=fun hv h=>by
  rcases keyIs_shape hv with⟨i,t,rfl,rfl⟩|⟨x,t,rfl,rfl⟩
  ·exact wpAny_pyHash_int h
  ·exact wpAny_pyHash_str h
 eqBool:=fun hu hv h=>by
  rcases keyIs_shape hu with⟨i,t,rfl,rfl⟩|⟨x,t,rfl,rfl⟩
  ·rcases keyIs_shape hv with⟨j,u,rfl,rfl⟩|⟨y,u,rfl,rfl⟩
   ·rw[key_ll]at h;exact wpAny_eqBool_int h
   ·rw[key_lr]at h;exact SeqAt.EqAt.int_str i t y u _ _ _ _ h
  ·rcases keyIs_shape hv with⟨j,u,rfl,rfl⟩|⟨y,u,rfl,rfl⟩
   ·rw[key_rl]at h;exact SeqAt.EqAt.str_int x t j u _ _ _ _ h
   ·rw[key_rr]at h;exact wpAny_eqBool_str h
 «strs»:=fun k x t v h=>by
  rcases keyIs_shape h with⟨i,u,rfl,e⟩|⟨y,u,rfl,e⟩
  ·exact nomatch e
  ·injection e with e1 _
   subst e1
   cases v <;> rfl
end L2
namespace L2
open PySem PySem.Spec PyProof.Rows
inductive V where
 | non|bl (b:Bool)|int (i:Int)|str (x:Str)|byt (b:Array UInt8)|flt (b:UInt64)|ref (a:Addr)|ty (n:String)
 deriving DecidableEq
def RelV:V→Value→Prop
 | .non,u=>u=Value.none
 | .bl b,u=>u=Value.bool b
 | .int i,u=>∃t,u=Value.int i t
 | .str x,u=>∃t,u=Value.str x t
 | .byt b,u=>∃t,u=Value.bytes b t
 | .flt b,u=>∃t,u=Value.float b t
 | .ref a,u=>u=Value.ref a
 | .ty n,u=>u=Value.type n
abbrev Vals:List V→List Value→Prop:=Paired RelV
theorem Vals.length {xs:List V}{us:List Value}(r:Vals xs us):xs.length=us.length:=Paired.length r
theorem Vals.get:∀{xs:List V}{us:List Value}{i:Nat}{x:V},Vals xs us→xs[i]? = some x→∃u,us[i]? = some u∧RelV x u
 | _,_,_,_,.nil,e=>by simp at e
 | _,_,0,_,.cons r _,e=>by simp at e;subst e;exact⟨_,rfl,r⟩
 | _,_,i+1,x,.cons _ t,e=>by
  obtain⟨u,h1,h2⟩:=Vals.get (i:=i) (x:=x) t (by simpa using e)
  exact⟨u,by simpa using h1,h2⟩
theorem Vals.set {x:V}{u:Value}(r:RelV x u):∀{xs:List V}{us:List Value}(i:Nat),Vals xs us→Vals (xs.set i x) (us.set i u)
 | _,_,_,.nil=>.nil
 | _,_,0,.cons _ t=>.cons r t
 | _,_,i+1,.cons q t=>.cons q (Vals.set r i t)
theorem Vals.append:∀{xs ys:List V}{us ws:List Value},Vals xs us→Vals ys ws→Vals (xs++ys) (us++ws)
 | _,_,_,_,.nil,s=>s
 | _,_,_,_,.cons r t,s=>.cons r (Vals.append t s)
theorem Vals.take:∀{xs:List V}{us:List Value}(n:Nat),Vals xs us→Vals (xs.take n) (us.take n)
 | _,_,0,_=>.nil
 | _,_,_+1,.nil=>.nil
 | _,_,n+1,.cons r t=>.cons r (Vals.take n t)
theorem Vals.drop:∀{xs:List V}{us:List Value}(n:Nat),Vals xs us→Vals (xs.drop n) (us.drop n)
 | _,_,0,r=>r
 | _,_,_+1,.nil=>.nil
 | _,_,n+1,.cons _ t=>Vals.drop n t
def RelO:Option V→Option Value→Prop
 | some v,some u=>RelV v u
 | none,none=>True
 | _,_=>False
def KV {κ:Type}:List (κ×V)→List (κ×Value)→Prop:=Paired fun(p:κ×V) (q:κ×Value)=>p.1=q.1∧RelV p.2 q.2
def kV:Key→V
 | .inl i=>.int i
 | .inr x=>.str x
inductive HO where
 | lst (xs:List V)
 | tup (xs:List V)
 | dK (kvs:List (Key×V))|dT (kvs:List (List Key×V))
 | set (S:Int→Bool) (n:Nat)
 | ins (C dx:Addr) (fs:List (Str×V))
 | own (x:Addr)
 | xd (fs:List (Str×V))
 | met (f x:Addr)
 | rng (lo hi:Int)
 | frz (o:Obj) (u:HO)
 | tbl (ps:Array Value)
 | ext (φ:Heap→Prop)
abbrev Hp:=Addr→Option HO
def upd (H:Hp) (a:Addr) (o:HO):Hp:=fun b=>if b=a then some o else H b
theorem upd_same {H:Hp}{a:Addr}{o:HO}:upd H a o a=some o:=by unfold upd;rw[if_pos rfl]
theorem upd_ne {H:Hp}{a b:Addr}{o:HO}(h:b≠a):upd H a o b=H b:=by unfold upd;rw[if_neg h]
theorem ne_of {H:Hp}{a b:Addr}{o u:HO}(h:H a=some o) (h':H b=some u) (d:o≠u):a≠b:=by
 intro e;subst e;rw[h]at h';exact d (Option.some.inj h')
theorem ne_of_none {H:Hp}{a b:Addr}{o:HO}(h:H a=some o) (h':H b=none):a≠b:=by
 intro e;subst e;rw[h]at h';cases h'
section
variable (P:Program) (w:World)
def ObjOk (H:Hp) (h:Heap) (a:Addr):HO→Prop
 | .lst xs=>xs.length≤sizeLine∧∃(its:List Value) (n:Nat),Vals xs its∧h.get? a=some { cls:=.type "list",data:=.seq its.toArray n }
 | .tup xs=>xs.length≤sizeLine∧∃its:List Value,Vals xs its∧IsTup h a its.toArray
 | .dK kvs=>kvs.length≤sizeLine∧(a == sysModules)=false∧∃vs,KV kvs vs∧h.DictOf (mixKind P w) a vs
 | .dT kvs=>kvs.length≤sizeLine∧(a == sysModules)=false∧∃xs:List (List Key×Addr×Value),
   Paired (fun(p:List Key×V) (q:List Key×Addr×Value)=>p.1=q.1∧H q.2.1=some (.tup (p.1.map kV))∧RelV p.2 q.2.2) kvs xs ∧
   ∃o es ep,h.get? a=some o∧o.ExactDict∧o.data = .dict es ep∧es.toList=xs.map (entryOfKey (tupleKind (mixKind P w)))∧(xs.map (·.1)).Nodup
 | .set S n=>h.SetOf (intKind P w) a S n
 | .ins C dx fs=>H dx=some (.own a)∧fs.length≤1000∧dx≠a∧h.get? a=some (PySem.W.instObj C dx) ∧
   ∃mA,h.Ns1 dx mA∧(∀f,RelO (fs.lookup f) (mA f))∧PySem.Within mA (fs.map (·.1))
 | .own _=>∃o,h.get? a=some o
 | .xd fs=>∃mA,h.Ns1 a mA∧∀f,RelO (fs.lookup f) (mA f)
 | .rng lo hi=>∃t u v,h.get? a=some { cls:=.type "range",data:=.fields #[.int lo t,.int hi u,.int 1 v] }
 | .frz o u=>h.get? a=some o∧ObjOk H h a u
 | .tbl ps=>h.get? a=some { cls:=.none,data:=.fields ps }
 | .met f x=>h.get? a=some (PySem.W.methodObj (.ref f) (.ref x))
 | .ext φ=>φ h∧(∃o,h.get? a=some o)∧∀h1 h2:Heap,φ h1→(∀o,h1.get? a=some o→h2.get? a=some o)→φ h2
def HOk (H:Hp) (h:Heap):Prop:=∀a o,H a=some o→ObjOk P w H h a o
end
section
variable {P:Program}{w:World}{H H':Hp}{h h':Heap}{a:Addr}{o:HO}
theorem ObjOk.lt (x:ObjOk P w H h a o):a<h.objs.size:=by
 cases o with
 | lst xs=>obtain⟨_,_,_,_,e⟩:=x;exact Heap.lt_size e
 | tup xs=>obtain⟨_,_,_,p⟩:=x;exact p.lt
 | dK kvs=>obtain⟨_,_,_,_,o,_,_,e,_⟩:=x;exact Heap.lt_size e
 | dT kvs=>obtain⟨_,_,_,_,o,_,_,e,_⟩:=x;exact Heap.lt_size e
 | set S n=>obtain⟨o,_,_,_,e,_⟩:=x;exact Heap.lt_size e
 | ins C dx fs=>obtain⟨_,_,_,e,_⟩:=x;exact Heap.lt_size e
 | own y=>obtain⟨_,e⟩:=x;exact Heap.lt_size e
 | xd fs=>obtain⟨_,⟨_,_,_,e,_⟩,_⟩:=x;exact Heap.lt_size e
 | rng lo hi=>obtain⟨_,_,_,e⟩:=x;exact Heap.lt_size e
 | frz ob u=>obtain⟨e,_⟩:=x;exact Heap.lt_size e
 | tbl ps=>exact Heap.lt_size (show h.get? a=some _ from x)
 | met f y=>exact Heap.lt_size (show h.get? a=some _ from x)
 | ext φ=>obtain⟨_,⟨_,e⟩,_⟩:=x;exact Heap.lt_size e
theorem Paired.mapP {α β:Type}{F G:α→β→Prop}:∀{l₁:List α}{l₂:List β},Paired F l₁ l₂→(∀a b,F a b→G a b)→Paired G l₁ l₂
 | _,_,.nil,_=>.nil
 | _,_,.cons r t,f=>.cons (f _ _ r) (Paired.mapP t f)
theorem ObjOk.stay (x:ObjOk P w H h a o) (k:∀b u,(b=a∨H b=some (.own a))→h.get? b=some u→h'.get? b=some u)
  (ho:∀b,H b=some (.own a)→H' b=some (.own a)) (ht:∀b xs,H b=some (.tup xs)→H' b=some (.tup xs)):ObjOk P w H' h' a o:=by
 induction o with
 | lst xs=>obtain⟨z,its,n,r,e⟩:=x;exact⟨z,its,n,r,k _ _ (.inl rfl) e⟩
 | tup xs=>obtain⟨z,its,r,ob,e,c⟩:=x;exact⟨z,its,r,ob,k _ _ (.inl rfl) e,c⟩
 | dK kvs=>obtain⟨z,y,vs,r,ob,es,ep,e,c⟩:=x;exact⟨z,y,vs,r,ob,es,ep,k _ _ (.inl rfl) e,c⟩
 | dT kvs =>
  obtain⟨z,y,xs,r,ob,es,ep,e,c⟩:=x
  exact⟨z,y,xs,Paired.mapP r fun p q z=>⟨z.1,ht _ _ z.2.1,z.2.2⟩,ob,es,ep,k _ _ (.inl rfl) e,c⟩
 | set S n=>obtain⟨ob,es,ep,t,e,c⟩:=x;exact⟨ob,es,ep,t,k _ _ (.inl rfl) e,c⟩
 | ins C dx fs =>
  obtain⟨d,z,ne,e,mA,⟨od,es,ep,e2,c⟩,r⟩:=x
  exact⟨ho _ d,z,ne,k _ _ (.inl rfl) e,mA,⟨od,es,ep,k _ _ (.inr d) e2,c⟩,r⟩
 | own y=>obtain⟨ob,e⟩:=x;exact⟨ob,k _ _ (.inl rfl) e⟩
 | xd fs=>obtain⟨mA,⟨od,es,ep,e,c⟩,r⟩:=x;exact⟨mA,⟨od,es,ep,k _ _ (.inl rfl) e,c⟩,r⟩
 | rng lo hi=>obtain⟨t,u,v,e⟩:=x;exact⟨t,u,v,k _ _ (.inl rfl) e⟩
 | frz ob u ih=>obtain⟨e,q⟩:=x;exact⟨k _ _ (.inl rfl) e,ih q⟩
 | tbl ps =>
  have e:h.get? a=some { cls:=.none,data:=.fields ps }:=x
  show h'.get? a=some { cls:=.none,data:=.fields ps }
  exact k a _ (.inl rfl) e
 | met f y =>
  have e:h.get? a=some (PySem.W.methodObj (.ref f) (.ref y)):=x
  show h'.get? a=some (PySem.W.methodObj (.ref f) (.ref y))
  exact k a _ (.inl rfl) e
 | ext φ=>obtain⟨p,⟨o,e⟩,st⟩:=x;exact⟨st _ _ p fun o q=>k _ _ (.inl rfl) q,⟨o,k _ _ (.inl rfl) e⟩,st⟩
theorem HOk.lt (x:HOk P w H h) (e:H a=some o):a<h.objs.size:=(x a o e).lt
theorem HOk.fresh (x:HOk P w H h) (e:h.objs.size≤a):H a=none:=by
 cases q:H a with
 | none=>rfl
 | some u=>exact absurd (Nat.lt_of_lt_of_le (x.lt q) e) (Nat.lt_irrefl _)
theorem HOk.kept (x:HOk P w H h) (k:∀b u,h.get? b=some u→h'.get? b=some u):HOk P w H h':=fun a o e =>
 (x a o e).stay (fun b u _ q=>k b u q) (fun _ q=>q) fun _ _ q=>q
theorem HOk.laid (x:HOk P w H h) (k:∀b u,h.get? b=some u→h'.get? b=some u) (hp:h.objs.size≤a) (new:ObjOk P w (upd H a o) h' a o):HOk P w (upd H a o) h':=fun b u e=>by
 have hn:=x.fresh hp
 by_cases hb:b=a
 ·subst hb;rw[upd_same]at e;cases e;exact new
 ·rw[upd_ne hb]at e
  exact(x b u e).stay (fun c v _ q=>k c v q) (fun c q=>by rw[upd_ne (ne_of_none q hn)];exact q) fun c xs q=>by rw[upd_ne (ne_of_none q hn)];exact q
end
def Rd (H:Hp) (a:Addr) (u:HO):Prop:=H a=some u ∨ ∃o,H a=some (.frz o u)
theorem Rd.ok {P:Program}{w:World}{H:Hp}{h:Heap}{a:Addr}{u:HO}(r:Rd H a u) (x:HOk P w H h):ObjOk P w H h a u:=by
 rcases r with r|⟨o,r⟩
 ·exact x a u r
 ·obtain⟨_,q⟩:=x a _ r
  exact q
def Mut:Option HO→Prop
 | some (.lst _)=>True
 | some (.dK _)=>True
 | some (.dT _)=>True
 | some (.set _ _)=>True
 | some (.ins _ _ _)=>True
 | some (.ext _)=>True
 | _=>False
section
variable {P:Program}{w:World}{H:Hp}{h h':Heap}{x e:Addr}{o':HO}
theorem HOk.write (ok:HOk P w H h) (mu:Mut (H x)) (he:e=x∨H e=some (.own x)) (k:∀b u,b≠e→h.get? b=some u→h'.get? b=some u) (heo:∃u,h'.get? e=some u)
  (new:ObjOk P w (upd H x o') h' x o'):HOk P w (upd H x o') h':=fun b u q=>by
 have nown:∀c y,H c=some (.own y)→c≠x:=fun c y r z=>by subst z;rw[r]at mu;exact mu
 have ntup:∀c xs,H c=some (.tup xs)→c≠x:=fun c xs r z=>by subst z;rw[r]at mu;exact mu
 by_cases hb:b=x
 ·subst hb;rw[upd_same]at q;cases q;exact new
 ·rw[upd_ne hb]at q
  by_cases hbe:b=e
  ·have q':H b=some (.own x):=by
    rcases he with z|z
    ·exact absurd (hbe.trans z) hb
    ·rw[hbe];exact z
   rw[q]at q';cases q'
   obtain⟨v,hv⟩:=heo
   exact⟨v,by rw[hbe];exact hv⟩
  ·refine(ok b u q).stay (fun c v hc r=>k c v ?_ r) (fun c r=>by rw[upd_ne (nown c b r)];exact r) fun c xs r=>by rw[upd_ne (ntup c xs r)];exact r
   rcases hc with rfl|hc
   ·exact hbe
   ·rintro rfl
    rcases he with z|z
    ·exact nown c b hc z
    ·rw[hc]at z;cases z;exact hb rfl
end
structure Un (fs ex:List Addr) (H H':Hp) (h h':Heap):Prop where
 keep:∀b o,h.get? b=some o→H b=none→b∉fs→b∉ex→h'.get? b=some o
 slot:∀b o,h.get? b=some o→H b=none→b∈fs→b∉ex→∃sl,h'.get? b=some { o with slots:=sl }
 free:∀b o,h.get? b=some o→H b=none→b∉ex→H' b=none
 there:∀b o,h.get? b=some o→b∉ex→∃o',h'.get? b=some o'
 tups:∀b xs,H b=some (.tup xs)→H' b=some (.tup xs)
 frzs:∀b o u,H b=some (.frz o u)→H' b=some (.frz o u)
 tbls:∀b ps,H b=some (.tbl ps)→∃more,H' b=some (.tbl (ps++more))
section
variable {fs fs' ex ex':List Addr}{H H1 H2:Hp}{h h1 h2 h':Heap}{a x e:Addr}{o:HO}
theorem Un.any (u:Un fs ex H H1 h h1) {b:Addr}{ob:Obj}(q:h.get? b=some ob) (n:H b=none) (hx:b∉ex):∃sl,h1.get? b=some { ob with slots:=sl }:=by
 by_cases hb:b∈fs
 ·exact u.slot b ob q n hb hx
 ·exact⟨ob.slots,u.keep b ob q n hb hx⟩
theorem Un.kept (k:∀b u,h.get? b=some u→h'.get? b=some u):Un fs ex H H h h' :=
 ⟨fun b ob q _ _ _=>k b ob q,fun b ob q _ _ _=>⟨ob.slots,k b ob q⟩,fun _ _ _ n _=>n,fun b ob q _=>⟨ob,k b ob q⟩,fun _ _ q=>q,fun _ _ _ q=>q,fun _ ps q=>⟨#[],by rw[q];simp⟩⟩
theorem Un.refl:Un fs ex H H h h:=Un.kept fun _ _ q=>q
theorem Un.laid (k:∀b u,h.get? b=some u→h'.get? b=some u) (hp:h.objs.size≤a) (hn:H a=none):Un fs ex H (upd H a o) h h' where
 keep:=fun b u q _ _ _=>k b u q
 slot:=fun b u q _ _ _=>⟨u.slots,k b u q⟩
 free:=fun b u q n _=>by rw[upd_ne (Nat.ne_of_lt (Nat.lt_of_lt_of_le (Heap.lt_size q) hp))];exact n
 there:=fun b u q _=>⟨u,k b u q⟩
 tups:=fun b xs q=>by rw[upd_ne (ne_of_none q hn)];exact q
 frzs:=fun b u xs q=>by rw[upd_ne (ne_of_none q hn)];exact q
 tbls:=fun b ps q=>⟨#[],by rw[upd_ne (ne_of_none q hn),q];simp⟩
theorem Un.write (mu:Mut (H x)) (he:e=x∨H e=some (.own x)) (k:∀b u,b≠e→h.get? b=some u→h'.get? b=some u) (heo:∃u,h'.get? e=some u):Un fs ex H (upd H x o) h h':=by
 have hx:∀b,H b=none→b≠x:=fun b n z=>by subst z;rw[n]at mu;exact mu
 have hb:∀b,H b=none→b≠e:=fun b n z=>by
  subst z
  rcases he with r|r
  ·exact hx b n r
  ·rw[n]at r;cases r
 have hm:∀b u,H b=some u→¬ Mut (some u)→b≠x:=fun b u q nm z=>by subst z;rw[q]at mu;exact nm mu
 refine⟨fun b u q n _ _=>k b u (hb b n) q,fun b u q n _ _=>⟨u.slots,k b u (hb b n) q⟩,fun b u q n _=>by rw[upd_ne (hx b n)];exact n,fun b u q _=>?_,
  fun b xs q=>by rw[upd_ne (hm b _ q fun z=>z)];exact q,fun b u xs q=>by rw[upd_ne (hm b _ q fun z=>z)];exact q,fun b ps q=>⟨#[],by rw[upd_ne (hm b _ q fun z=>z),q];simp⟩⟩
 by_cases hbe:b=e
 ·subst hbe;exact heo
 ·exact⟨u,k b u hbe q⟩
end
def trk (h:Heap) (H:Hp):List Addr:=(List.range h.objs.size).filter fun a=>(H a).isSome
def hidT (h:Heap) (H:Hp):Heap:=PySem.W.hideAll h (trk h H)
theorem hidT_size (h:Heap) (H:Hp):(hidT h H).objs.size=h.objs.size:=PySem.W.hideAll_size _ _
theorem hidT_get {h:Heap}{H:Hp}{b:Addr}{o:Obj}(e:h.get? b=some o) (n:H b=none):(hidT h H).get? b=some o :=
 PySem.W.hideAll_get _ e fun hm=>by
  have q:(H b).isSome=true:=(List.mem_filter.mp hm).2
  rw[n]at q;simp at q
theorem of_hidT {h:Heap}{H:Hp}{b:Addr}{o:Obj}(e:(hidT h H).get? b=some o):h.get? b=some o∧H b=none:=by
 have e':h.get? b=some o:=PySem.W.of_hideAll (trk h H) e
 refine⟨e',?_⟩
 cases q:H b with
 | none=>rfl
 | some x =>
  have hm:b∈trk h H:=List.mem_filter.mpr ⟨List.mem_range.mpr (Heap.lt_size e'),by simp[q]⟩
  have z:(hidT h H).get? b=none:=PySem.W.hideAll_none (trk h H) hm
  rw[z]at e;cases e
def allNews (g h:Heap) (L:Addr):List (Addr×Obj):=(List.range h.objs.size).filterMap fun a=>if a=L ∨(g.get? a).isSome=true then none else(h.get? a).map fun o=>(a,o)
def rest (g h:Heap) (L d:Addr):List (Addr×Obj):=(allNews g h L).filter fun p=>decide (p.1≠d)
end L2
namespace L2
open PySem PySem.Spec PyProof.Rows
structure Mod (K:PySem.W.Frag) (mg:Str→Option Value) (base:Heap):Prop where
 kin:K.In base
 glob:base.Ns mainGlobals mg
 blt:∃mb,base.Ns builtinsNs mb∧∀x:Str,x ≠ "__name__"→mb x=bootBuiltins x
 nolimit:base.NoLimit
structure Cx where
 prog:Program
 w:World
 K:PySem.W.Frag
 mg:Str→Option Value
 base:Heap
 A:Around
 N:List Str
 s₀:Shared
 H₀:Hp
 env:Env
 outer:List Env
 stack:List Env
 ex:List Addr
 fn:Str→Bool
 calm:Bool
 pn:List (Addr×Obj)
 xe:Value→Shared→Prop
def frs (l:List Env):List Addr:=l.filterMap (·.frame)
abbrev Cx.fs (X:Cx):List Addr:=frs X.outer
def Vis (sc:Scope) (x:Str):Prop:=sc.names.lookup x=some .local∨sc.names.lookup x=some .cell∨sc.names.lookup x=some .free
def Loc (sc:Scope) (x:Str):Prop:=sc.names.lookup x=some .local∨sc.names.lookup x=some .cell
def Look (env:Env) (h:Heap) (m:Str→Option Value) (x:Str) (u:Value):Prop :=
 (env.kindOf x=some .local∧m x=some u) ∨((env.kindOf x=some .cell∨env.kindOf x=some .free)∧∃c,env.cells.lookup x=some c∧h.IsCell c (some u))
structure Cx.Ok (X:Cx):Prop where
 mod:Mod X.K X.mg X.base
 kind:X.env.scope.kind = .function
 glob:X.env.globals=mainGlobals
 blt:X.env.builtins=builtinsNs
 above:X.s₀.heap.objs.size≤X.env.locals
 inj:∀x y c,X.env.cells.lookup x=some c→X.env.cells.lookup y=some c→x=y
 has:∀x,(X.env.kindOf x=some .cell∨X.env.kindOf x=some .free)→∃c,X.env.cells.lookup x=some c
 cab:∀x c,X.fn x=true→X.env.cells.lookup x=some c→X.s₀.heap.objs.size≤c
 hd:X.calm=true→X.A.handled=none
 frames:X.A.frames=some X.stack
 stk:X.stack=X.outer ∨(X.stack=X.env::X.outer∧X.env.frame=some X.env.locals)
 exf:∀b∈X.ex,b≠X.env.locals∧∀x c,X.env.cells.lookup x=some c→c≠b
 bs:∀b o,X.base.get? b=some o→X.s₀.heap.get? b=some o∧X.H₀ b=none
 bsz:X.base.objs.size≤X.s₀.heap.objs.size
 noex:∀b o,X.base.get? b=some o→b∉X.ex
 exfs:∀b∈X.ex,b∉X.fs
 funs:X.s₀.heap.FunFrames X.base X.outer
 frf:∀b∈X.fs,X.H₀ b=none
structure Inv (X:Cx) (pins:List (Addr×Obj)) (σ:List (Option V)) (H:Hp) (s:Shared):Prop where
 ok:X.Ok
 os:s.os=X.s₀.os
 bare:AllBare s.gens
 base:Un X.fs X.ex X.H₀ H X.s₀.heap s.heap
 loc:∃m,s.heap.Ns X.env.locals m∧∀(i:Nat) (x:Str) (v:V),X.N[i]? = some x→σ[i]? = some (some v)→Vis X.env.scope x→∃u,RelV v u∧Look X.env s.heap m x u
 cell:∀x c,X.env.cells.lookup x=some c→∃v,s.heap.IsCell c v
 free:H X.env.locals=none
 freeC:∀x c,X.env.cells.lookup x=some c→H c=none
 pin:∀p∈X.pn++pins,s.heap.get? p.1=some p.2∧H p.1=none∧p.1≠X.env.locals∧p.1∉X.fs∧∀v,p.2.data ≠ .cell v
 hok:HOk X.prog X.w H s.heap
 len:σ.length=X.N.length
section
variable {X:Cx}{pins:List (Addr×Obj)}{σ:List (Option V)}{H H':Hp}{s:Shared}{h':Heap}
theorem Cx.Ok.nofr (ok:X.Ok) {b:Addr}{o:Obj}(e:X.base.get? b=some o):b∉X.fs:=fun hb=>by
 have:=(ok.funs.mem hb).1
 rw[e]at this;cases this
theorem Inv.bs (I:Inv X pins σ H s):∀b o,X.base.get? b=some o→s.heap.get? b=some o∧H b=none:=fun b o e =>
 ⟨I.base.keep b o (I.ok.bs b o e).1 (I.ok.bs b o e).2 (I.ok.nofr e) (I.ok.noex b o e),I.base.free b o (I.ok.bs b o e).1 (I.ok.bs b o e).2 (I.ok.noex b o e)⟩
theorem Inv.bk (I:Inv X pins σ H s):∀b o,X.base.get? b=some o→s.heap.get? b=some o:=fun b o e=>(I.bs b o e).1
theorem Inv.mod (I:Inv X pins σ H s):Mod X.K X.mg X.base:=I.ok.mod
theorem Inv.kIn (I:Inv X pins σ H s):X.K.In s.heap:=I.ok.mod.kin.keeps I.bk
theorem Inv.lt (I:Inv X pins σ H s):X.env.locals<s.heap.objs.size:=let ⟨_,hn,_⟩:=I.loc;hn.lt
theorem Inv.sz (I:Inv X pins σ H s):X.s₀.heap.objs.size≤s.heap.objs.size:=Nat.le_trans I.ok.above (Nat.le_of_lt I.lt)
theorem Inv.nofs (I:Inv X pins σ H s) {a:Addr}(h:s.heap.objs.size≤a):a∉X.fs:=fun hb=>by
 obtain⟨_,o,ho,_⟩:=I.ok.funs.mem hb
 exact absurd (Nat.lt_of_lt_of_le (Heap.lt_size ho) (Nat.le_trans I.sz h)) (Nat.lt_irrefl _)
theorem Inv.cne (I:Inv X pins σ H s):∀x c,X.env.cells.lookup x=some c→c≠X.env.locals:=fun x c e z=>by
 obtain⟨v,o,ho,hd⟩:=I.cell x c e
 obtain⟨m,⟨o',es,ep,ho',hd',_⟩,_⟩:=I.loc
 rw[z,ho']at ho;cases ho;rw[hd']at hd;cases hd
theorem Inv.funs (I:Inv X pins σ H s):s.heap.FunFrames X.base X.outer:=by
 have all:∀(l:List Env),(∀b∈frs l,b∈X.fs)→X.s₀.heap.FunFrames X.base l→s.heap.FunFrames X.base l:=by
  intro l
  induction l with
  | nil=>intro _ _;trivial
  | cons env r ih =>
   intro hs hl
   obtain⟨hk,⟨L,o,hf,hn,ho,hd⟩,hr⟩:=hl
   have hL:L∈X.fs:=hs L (by unfold frs;rw[List.filterMap_cons,hf];exact List.mem_cons_self)
   obtain⟨sl,e⟩:=I.base.slot L o ho (I.ok.frf L hL) hL fun z=>I.ok.exfs L z hL
   exact⟨hk,⟨L,_,hf,hn,e,hd⟩,ih (fun b hb=>hs b (by unfold frs;rw[List.filterMap_cons,hf];exact List.mem_cons_of_mem _ hb)) hr⟩
 exact all X.outer (fun _ hb=>hb) I.ok.funs
theorem Inv.stack (I:Inv X pins σ H s):s.heap.FunFrames X.base X.stack:=by
 rcases I.ok.stk with e|⟨e,hf⟩
 ·rw[e];exact I.funs
 ·rw[e]
  obtain⟨m,hn,_⟩:=I.loc
  refine .cons (by rw[I.ok.kind];decide) hf hn ?_ I.funs
  exact Heap.get?_none_of_le (Nat.le_trans I.ok.bsz I.ok.above)
theorem Inv.stkSub (I:Inv X pins σ H s):∀b∈frs X.stack,b∈X.env.locals::X.fs:=fun b hb=>by
 rcases I.ok.stk with e|⟨e,hf⟩
 ·rw[e]at hb;exact List.mem_cons_of_mem _ hb
 ·rw[e]at hb
  unfold frs at hb
  rw[List.filterMap_cons,hf]at hb
  exact hb
theorem Inv.stkFree (I:Inv X pins σ H s):∀b∈frs X.stack,H b=none:=fun b hb=>by
 rcases List.mem_cons.mp (I.stkSub b hb) with e|hb
 ·rw[e];exact I.free
 ·obtain⟨_,o,ho,_⟩:=I.ok.funs.mem hb
  exact I.base.free b o ho (I.ok.frf b hb) fun z=>I.ok.exfs b z hb
theorem Inv.step {g':Array GenState}{t':Nat}{d':Drawn}{ch:List Addr}(I:Inv X pins σ H s)
  (hch:∀b∈ch,(b∈X.ex∨X.s₀.heap.objs.size≤b)∧b≠X.env.locals∧(∀x c,X.env.cells.lookup x=some c→c≠b)∧∀p∈X.pn++pins,p.1≠b)
  (keep:∀b o,b≠X.env.locals→b∉X.fs→b∉ch→s.heap.get? b=some o→H b=none→h'.get? b=some o)
  (slot:∀b o,b≠X.env.locals→b∈X.fs→b∉ch→s.heap.get? b=some o→H b=none→∃sl,h'.get? b=some { o with slots:=sl }) (free:∀b o,b∉ch→s.heap.get? b=some o→H b=none→H' b=none)
  (there:∀b o,b∉ch→s.heap.get? b=some o→∃o',h'.get? b=some o')
  (tups:∀b xs,H b=some (.tup xs)→H' b=some (.tup xs)) (frzs:∀b o u,H b=some (.frz o u)→H' b=some (.frz o u)) (tbls:∀b ps,H b=some (.tbl ps)→∃more,H' b=some (.tbl (ps++more)))
  (ns:∀m,s.heap.Ns X.env.locals m→h'.Ns X.env.locals m) (hok:HOk X.prog X.w H' h') (hg:AllBare g') :
  Inv X pins σ H' { s with heap:=h',gens:=g',drawn:=d',toks:=t' }:=by
 have neL:∀b o,X.s₀.heap.get? b=some o→b≠X.env.locals:=fun b o e=>Nat.ne_of_lt (Nat.lt_of_lt_of_le (Heap.lt_size e) I.ok.above)
 have neC:∀b o,X.s₀.heap.get? b=some o→b∉X.ex→b∉ch:=fun b o e hx hb=>by
  rcases(hch b hb).1 with z|z
  ·exact hx z
  ·exact absurd (Nat.lt_of_lt_of_le (Heap.lt_size e) z) (Nat.lt_irrefl _)
 have cellK:∀x c,X.env.cells.lookup x=some c→∀v,s.heap.IsCell c v→h'.IsCell c v:=fun x c e v ⟨o,ho,hd⟩=>by
  have nch:c∉ch:=fun z=>(hch c z).2.2.1 x c e rfl
  by_cases hc:c∈X.fs
  ·obtain⟨sl,q⟩:=slot c o (I.cne x c e) hc nch ho (I.freeC x c e)
   exact⟨_,q,hd⟩
  ·exact⟨o,keep c o (I.cne x c e) hc nch ho (I.freeC x c e),hd⟩
 refine⟨I.ok,I.os,hg,⟨fun b o e n hb hx=>?_,fun b o e n hb hx=>?_,fun b o e n hx=>?_,fun b o e hx=>?_,fun b xs e=>tups b xs (I.base.tups b xs e),fun b o xs e=>frzs b o xs (I.base.frzs b o xs e),fun b ps e=>?_⟩,?_,fun x c e=>?_,?_,fun x c e=>?_,fun p hp=>?_,hok,I.len⟩
 ·exact keep b o (neL b o e) hb (neC b o e hx) (I.base.keep b o e n hb hx) (I.base.free b o e n hx)
 ·obtain⟨sl,e1⟩:=I.base.slot b o e n hb hx
  obtain⟨sl',e2⟩:=slot b _ (neL b o e) hb (neC b o e hx) e1 (I.base.free b o e n hx)
  exact⟨sl',e2⟩
 ·obtain⟨o',e1⟩:=I.base.there b o e hx
  exact free b o' (neC b o e hx) e1 (I.base.free b o e n hx)
 ·obtain⟨o',e1⟩:=I.base.there b o e hx
  exact there b o' (neC b o e hx) e1
 ·obtain⟨m1,e1⟩:=I.base.tbls b ps e
  obtain⟨m2,e2⟩:=tbls b _ e1
  exact⟨m1++m2,by rw[e2,Array.append_assoc]⟩
 ·obtain⟨m,hn,hl⟩:=I.loc
  refine⟨m,ns m hn,fun i x v e1 e2 e3=>?_⟩
  obtain⟨u,r,l⟩:=hl i x v e1 e2 e3
  refine⟨u,r,?_⟩
  rcases l with l|⟨k,c,e,z⟩
  ·exact .inl l
  ·exact .inr ⟨k,c,e,cellK x c e _ z⟩
 ·obtain⟨v,z⟩:=I.cell x c e
  exact⟨v,cellK x c e v z⟩
 ·obtain⟨m,⟨o,_,_,ho,_⟩,_⟩:=I.loc
  exact free _ o (fun z=>(hch _ z).2.1 rfl) ho I.free
 ·obtain⟨v,o,ho,hd⟩:=I.cell x c e
  exact free c o (fun z=>(hch c z).2.2.1 x c e rfl) ho (I.freeC x c e)
 ·obtain⟨e,n,ne,nf,d⟩:=I.pin p hp
  have nch:p.1∉ch:=fun z=>(hch p.1 z).2.2.2 p hp rfl
  exact⟨keep p.1 p.2 ne nf nch e n,free p.1 p.2 nch e n,ne,nf,d⟩
theorem Inv.un {t':Nat}(I:Inv X pins σ H s) (u:Un X.fs [] H H' s.heap h') (hok:HOk X.prog X.w H' h'):Inv X pins σ H' { s with heap:=h',toks:=t' }:=by
 obtain⟨m,⟨o,es,ep,ho,r⟩,_⟩:=id I.loc
 obtain⟨sl,hL⟩:=u.any ho I.free (by simp)
 exact I.step (g':=s.gens) (d':=s.drawn) (ch:=[]) (fun _ z=>nomatch z) (fun b o _ hb _ e n=>u.keep b o e n hb (by simp)) (fun b o _ hb _ e n=>u.slot b o e n hb (by simp)) (fun b o _ e n=>u.free b o e n (by simp)) (fun b o _ e=>u.there b o e (by simp)) u.tups u.frzs u.tbls (fun m' hm=>by
  obtain⟨o',es',ep',ho',r'⟩:=hm
  rw[ho]at ho';cases ho'
  exact⟨_,es',ep',hL,r'⟩) hok I.bare
theorem Inv.call {g':Array GenState}{t':Nat}{d':Drawn}{ch:List Addr}(I:Inv X pins σ H s) (u:Un (frs X.stack) ch H H' s.heap h') (hok:HOk X.prog X.w H' h') (hg:AllBare g')
  (hch:∀b∈ch,(b∈X.ex∨X.s₀.heap.objs.size≤b)∧b≠X.env.locals∧(∀x c,X.env.cells.lookup x=some c→c≠b)∧∀p∈X.pn++pins,p.1≠b) :
  Inv X pins σ H' { s with heap:=h',gens:=g',drawn:=d',toks:=t' }:=by
 obtain⟨m,⟨o,es,ep,ho,r⟩,_⟩:=id I.loc
 obtain⟨sl,hL⟩:=u.any ho I.free fun z=>(hch _ z).2.1 rfl
 exact I.step (ch:=ch) hch (fun b o hL hb hc e n=>u.keep b o e n (fun z=>(List.mem_cons.mp (I.stkSub b z)).elim hL hb) hc) (fun b o _ _ hc e n=>u.any e n hc) (fun b o hc e n=>u.free b o e n hc) (fun b o hc e=>u.there b o e hc) u.tups u.frzs u.tbls (fun m' hm=>by
  obtain⟨o',es',ep',ho',r'⟩:=hm
  rw[ho]at ho';cases ho'
  exact⟨_,es',ep',hL,r'⟩) hok hg
theorem Inv.turned {t':Nat}{it:Addr}(I:Inv X pins σ H s) (k:∀b o,b≠it→s.heap.get? b=some o→h'.get? b=some o) (hn:H it=none) (hL:it≠X.env.locals)
  (h1:it∈X.ex∨X.s₀.heap.objs.size≤it) (h2:∀x c,X.env.cells.lookup x=some c→c≠it) (h3:∀p∈X.pn++pins,p.1≠it):Inv X pins σ H { s with heap:=h',toks:=t' }:=by
 have nit:∀b u,H b=some u→b≠it:=fun b u e z=>by rw[z,hn]at e;cases e
 refine I.step (g':=s.gens) (d':=s.drawn) (ch:=[it]) (fun b hb=>?_) (fun b o _ _ hc e _=>k b o (fun z=>hc (by simp[z])) e) (fun b o _ _ hc e _=>⟨o.slots,k b o (fun z=>hc (by simp[z])) e⟩) (fun _ _ _ _ n=>n)
  (fun b o hc e=>⟨o,k b o (fun z=>hc (by simp[z])) e⟩) (fun _ _ e=>e) (fun _ _ _ e=>e) (fun b ps e=>⟨#[],by rw[e];simp⟩) (fun m hm=>?_) (fun b u e=>?_) I.bare
 ·have e:b=it:=by simpa using hb
  subst e
  exact⟨h1,hL,h2,h3⟩
 ·obtain⟨o,es,ep,ho,r⟩:=hm
  exact⟨o,es,ep,k _ o (Ne.symm hL) ho,r⟩
 ·refine(I.hok b u e).stay (fun c v hc q=>k c v ?_ q) (fun _ q=>q) fun _ _ q=>q
  rcases hc with z|z
  ·rw[z];exact nit b u e
  ·exact nit c _ z
theorem Inv.tok (I:Inv X pins σ H s) (t:Nat):Inv X pins σ H { s with toks:=t }:=I.un (h':=s.heap) (t':=t) Un.refl I.hok
theorem Inv.kept {t':Nat}(I:Inv X pins σ H s) (k:∀b u,s.heap.get? b=some u→h'.get? b=some u):Inv X pins σ H { s with heap:=h',toks:=t' }:=I.un (Un.kept k) (I.hok.kept k)
theorem Inv.laid {a:Addr}{o:HO}{t':Nat}(I:Inv X pins σ H s) (k:∀b u,s.heap.get? b=some u→h'.get? b=some u) (hp:s.heap.objs.size≤a) (new:ObjOk X.prog X.w (upd H a o) h' a o) :
  Inv X pins σ (upd H a o) { s with heap:=h',toks:=t' }:=I.un (Un.laid k hp (I.hok.fresh hp)) (I.hok.laid k hp new)
theorem Inv.write {x e:Addr}{o:HO}{t':Nat}(I:Inv X pins σ H s) (mu:Mut (H x)) (he:e=x∨H e=some (.own x)) (k:∀b u,b≠e→s.heap.get? b=some u→h'.get? b=some u) (heo:∃u,h'.get? e=some u)
  (new:ObjOk X.prog X.w (upd H x o) h' x o):Inv X pins σ (upd H x o) { s with heap:=h',toks:=t' }:=I.un (Un.write mu he k heo) (I.hok.write mu he k heo new)
theorem Inv.pins_of {pins':List (Addr×Obj)}(I:Inv X pins σ H s) (h:∀p∈pins',s.heap.get? p.1=some p.2∧H p.1=none∧p.1≠X.env.locals∧p.1∉X.fs∧∀v,p.2.data ≠ .cell v):Inv X pins' σ H s :=
 ⟨I.ok,I.os,I.bare,I.base,I.loc,I.cell,I.free,I.freeC,fun p hp=>(List.mem_append.mp hp).elim (fun z=>I.pin p (List.mem_append_left _ z)) (h p),I.hok,I.len⟩
theorem nodup_ix {N:List Str}(hN:N.Nodup) {i j:Nat}{x:Str}(a:N[i]? = some x) (b:N[j]? = some x):i=j:=by
 obtain⟨h1,e1⟩:=List.getElem?_eq_some_iff.mp a
 obtain⟨h2,e2⟩:=List.getElem?_eq_some_iff.mp b
 exact(List.getElem_inj hN).mp (e1.trans e2.symm)
theorem store_ok2 {M:Model}{A:Around}{E:Value→Shared→Prop}{i:Nat}{x:Str}{v:V}{u:Value}{Q:Unit→Shared→Prop}(I:Inv X pins σ H s) (hN:X.N.Nodup) (hi:X.N[i]? = some x) (hx:Loc X.env.scope x) (r:RelV v u)
  (h:∀s',Inv X pins (σ.set i (some v)) H s'→(∃a,Heap.SameBut a s.heap s'.heap∧(a=X.env.locals∨X.env.cells.lookup x=some a))→Q () s') (hf:X.fn x=true∨X.env.scope.names.lookup x=some .local:=by first|exact .inl rfl|exact .inr rfl|assumption):wpAny M A (storeName X.env x u) Q E s:=by
 obtain⟨m,hn,hl⟩:=id I.loc
 have hcls:(X.env.scope.kind == .class || (X.env.scope.kind == .module && X.env.locals != X.env.globals))=false:=by rw[I.ok.kind];rfl
 have hiσ:i<σ.length:=by rw[I.len];exact(List.getElem?_eq_some_iff.mp hi).1
 have cne:=I.cne
 have tracked:∀{a:Addr}{h':Heap},(∃o,s.heap.get? a=some o∧H a=none)→Heap.SameBut a s.heap h'→HOk X.prog X.w H h':=fun {a h'} ha hs b ob e=>by
  obtain⟨_,_,hfree⟩:=ha
  refine(I.hok b ob e).stay (fun c w' hc q=>(hs.2 c ?_).trans q) (fun _ q=>q) fun _ _ q=>q
  rintro rfl
  rcases hc with rfl|hc
  ·rw[hfree]at e;cases e
  ·rw[hfree]at hc;cases hc
 rcases hx with hk|hk
 ·refine wpAny_storeName_local hk hn (fun h' hn' hs=>?_) hcls
  obtain⟨oL,_,_,hoL,_⟩:=id hn
  refine h _ ⟨I.ok,I.os,I.bare,⟨fun b o e n hb hx=>?_,fun b o e n hb hx=>?_,I.base.free,fun b o e hx=>?_,I.base.tups,I.base.frzs,I.base.tbls⟩,⟨_,hn',fun j y v' e1 e2 e3=>?_⟩,fun y c e=>?_,I.free,I.freeC,fun p hp=>?_,tracked ⟨oL,hoL,I.free⟩ hs,by simpa using I.len⟩ ⟨_,hs,.inl rfl⟩
  ·exact(hs.2 b (Nat.ne_of_lt (Nat.lt_of_lt_of_le (Heap.lt_size e) I.ok.above))).trans (I.base.keep b o e n hb hx)
  ·obtain⟨sl,e1⟩:=I.base.slot b o e n hb hx
   exact⟨sl,(hs.2 b (Nat.ne_of_lt (Nat.lt_of_lt_of_le (Heap.lt_size e) I.ok.above))).trans e1⟩
  ·obtain⟨o',e1⟩:=I.base.there b o e hx
   exact⟨o',(hs.2 b (Nat.ne_of_lt (Nat.lt_of_lt_of_le (Heap.lt_size e) I.ok.above))).trans e1⟩
  ·by_cases hj:j=i
   ·subst hj
    rw[hi]at e1;cases e1
    rw[List.getElem?_set_self hiσ]at e2
    cases e2
    exact⟨u,r,.inl ⟨hk,by simp⟩⟩
   ·rw[List.getElem?_set_ne (Ne.symm hj)]at e2
    obtain⟨u',r',q⟩:=hl j y v' e1 e2 e3
    refine⟨u',r',?_⟩
    rcases q with⟨k,e⟩|⟨k,c,e,z⟩
    ·refine .inl ⟨k,?_⟩
     have:y≠x:=fun e=>hj (nodup_ix hN e1 (e ▸ hi))
     simp[this,e]
    ·exact .inr ⟨k,c,e,z.sameBut hs (cne y c e)⟩
  ·obtain⟨w',z⟩:=I.cell y c e
   exact⟨w',z.sameBut hs (cne y c e)⟩
  ·obtain⟨e,n,ne,nf,d⟩:=I.pin p hp
   exact⟨(hs.2 p.1 ne).trans e,n,ne,nf,d⟩
 ·have hfn:X.fn x=true:=by
   rcases hf with z|z
   ·exact z
   ·rw[z]at hk;cases hk
  obtain⟨c,hc⟩:=I.ok.has x (.inl hk)
  obtain⟨w',z⟩:=I.cell x c hc
  refine wpAny_storeName_cell I.ok.kind hk hc z (fun h' hc' hs=>?_)
  obtain⟨oc,hoc,hocd⟩:=id z
  refine h { s with heap:=h' } ⟨I.ok,I.os,I.bare,⟨fun b o e n hb hx=>?_,fun b o e n hb hx=>?_,I.base.free,fun b o e hx=>?_,I.base.tups,I.base.frzs,I.base.tbls⟩,⟨m,hn.sameBut hs (Ne.symm (cne x c hc)),fun j y v' e1 e2 e3=>?_⟩,fun y c' e=>?_,I.free,I.freeC,fun p hp=>?_,tracked ⟨oc,hoc,I.freeC x c hc⟩ hs,by simpa using I.len⟩ ⟨c,hs,.inr hc⟩
  ·exact(hs.2 b (Nat.ne_of_lt (Nat.lt_of_lt_of_le (Heap.lt_size e) (I.ok.cab x c hfn hc)))).trans (I.base.keep b o e n hb hx)
  ·obtain⟨sl,e1⟩:=I.base.slot b o e n hb hx
   exact⟨sl,(hs.2 b (Nat.ne_of_lt (Nat.lt_of_lt_of_le (Heap.lt_size e) (I.ok.cab x c hfn hc)))).trans e1⟩
  ·obtain⟨o',e1⟩:=I.base.there b o e hx
   exact⟨o',(hs.2 b (Nat.ne_of_lt (Nat.lt_of_lt_of_le (Heap.lt_size e) (I.ok.cab x c hfn hc)))).trans e1⟩
  ·by_cases hj:j=i
   ·subst hj
    rw[hi]at e1;cases e1
    rw[List.getElem?_set_self hiσ]at e2
    cases e2
    exact⟨u,r,.inr ⟨.inl hk,c,hc,hc'⟩⟩
   ·rw[List.getElem?_set_ne (Ne.symm hj)]at e2
    obtain⟨u',r',q⟩:=hl j y v' e1 e2 e3
    refine⟨u',r',?_⟩
    rcases q with q|⟨k,c',e,z'⟩
    ·exact .inl q
    ·refine .inr ⟨k,c',e,z'.sameBut hs ?_⟩
     rintro rfl
     exact hj (nodup_ix hN e1 (I.ok.inj _ _ _ e hc ▸ hi))
  ·by_cases hcc:c'=c
   ·subst hcc;exact⟨_,hc'⟩
   ·obtain⟨w2,z2⟩:=I.cell y c' e
    exact⟨w2,z2.sameBut hs hcc⟩
  ·obtain⟨e,n,ne,nf,d⟩:=I.pin p hp
   refine⟨(hs.2 p.1 ?_).trans e,n,ne,nf,d⟩
   intro q
   rw[q,hoc]at e
   have q':oc=p.2:=Option.some.inj e
   exact d w' (by rw[← q'];exact hocd)
theorem store_ok {M:Model}{A:Around}{E:Value→Shared→Prop}{i:Nat}{x:Str}{v:V}{u:Value}{Q:Unit→Shared→Prop}(I:Inv X pins σ H s) (hN:X.N.Nodup) (hi:X.N[i]? = some x) (hx:Loc X.env.scope x) (r:RelV v u)
  (h:∀s',Inv X pins (σ.set i (some v)) H s'→Q () s') (hf:X.fn x=true∨X.env.scope.names.lookup x=some .local:=by first|exact .inl rfl|exact .inr rfl|assumption):wpAny M A (storeName X.env x u) Q E s :=
 store_ok2 I hN hi hx r (fun s' I' _=>h s' I') hf
theorem Inv.call' {s':Shared}{ch:List Addr}(I:Inv X pins σ H s) (ho:s'.os=s.os) (u:Un (frs X.stack) ch H H' s.heap s'.heap) (hok:HOk X.prog X.w H' s'.heap) (hg:AllBare s'.gens)
  (hch:∀b∈ch,(b∈X.ex∨X.s₀.heap.objs.size≤b)∧b≠X.env.locals∧(∀x c,X.env.cells.lookup x=some c→c≠b)∧∀p∈X.pn++pins,p.1≠b):Inv X pins σ H' s':=by
 obtain⟨h',g',d',t',o'⟩:=s'
 have e:o'=s.os:=ho
 subst e
 exact I.call (g':=g') (t':=t') (d':=d') u hok hg hch
end
abbrev XK:=Value→Option Addr→Hp→Prop
abbrev St:=List (Option V)
abbrev VK:=V→Hp→Prop
abbrev TE:=St→Hp→VK→Prop
abbrev TT:=St→Hp→(Bool→Hp→Prop)→Prop
abbrev TA:=St→Hp→(List V→Hp→Prop)→Prop
structure Ends where
 nx:St→Hp→Prop
 rt:VK
 bk:St→Hp→Prop:=fun _ _=>False
 ct:St→Hp→Prop:=fun _ _=>False
abbrev TS:=Ends→St→Hp→Prop
def EP (X:Cx) (pins:List (Addr×Obj)) (σ:St) (Q:VK) (u:Value) (s':Shared):Prop:=∃v H',Inv X pins σ H' s'∧RelV v u∧Q v H'
def TP (X:Cx) (pins:List (Addr×Obj)) (σ:St) (Q:Bool→Hp→Prop) (b:Bool) (s':Shared):Prop:=∃H',Inv X pins σ H' s'∧Q b H'
def AP (X:Cx) (pins:List (Addr×Obj)) (σ:St) (Q:List V→Hp→Prop) (us:List Value) (s':Shared):Prop:=∃vs H',Inv X pins σ H' s'∧Vals vs us∧Q vs H'
def SP (X:Cx) (pins:List (Addr×Obj)) (D:Ends) (f:Flow) (s':Shared):Prop :=
 match f with
 | .next=>∃σ' H',Inv X pins σ' H' s'∧D.nx σ' H'
 | .brk=>∃σ' H',Inv X pins σ' H' s'∧D.bk σ' H'
 | .cont=>∃σ' H',Inv X pins σ' H' s'∧D.ct σ' H'
 | .ret u=>∃v σ' H',Inv X pins σ' H' s'∧RelV v u∧D.rt v H'
def PE (X:Cx) (e:Expr) (t:TE):Prop :=
 ∀(pins:List (Addr×Obj)) (s:Shared) (σ:St) (H:Hp) (Q:VK),Inv X pins σ H s→t σ H Q→wpAny (model X.prog X.w) X.A (eval e X.env) (EP X pins σ Q) X.xe s
def PT (X:Cx) (e:Expr) (t:TT):Prop :=
 ∀(pins:List (Addr×Obj)) (s:Shared) (σ:St) (H:Hp) (Q:Bool→Hp→Prop),Inv X pins σ H s→t σ H Q→wpAny (model X.prog X.w) X.A (isTrue e X.env (eval e X.env)) (TP X pins σ Q) X.xe s
def PW (X:Cx) (e:Expr) (t:TT):Prop :=
 ∀(whole:Sem Value) (pins:List (Addr×Obj)) (s:Shared) (σ:St) (H:Hp) (Q:Bool→Hp→Prop),Inv X pins σ H s→t σ H Q→wpAny (model X.prog X.w) X.A (isTrue e X.env whole) (TP X pins σ Q) X.xe s
theorem PW.pt {X:Cx}{e:Expr}{t:TT}(h:PW X e t):PT X e t:=h _
def PA (X:Cx) (es:List Expr) (t:TA):Prop :=
 ∀(pos:Pos) (pins:List (Addr×Obj)) (s:Shared) (σ:St) (H:Hp) (Q:List V→Hp→Prop),Inv X pins σ H s→t σ H Q→wpAny (model X.prog X.w) X.A (spliced (backTo pos (starEach es X.env))) (AP X pins σ Q) X.xe s
def PS (X:Cx) (st:Stmt) (t:TS):Prop :=
 ∀(pins:List (Addr×Obj)) (s:Shared) (σ:St) (H:Hp) (D:Ends),Inv X pins σ H s→t D σ H→wpAny (model X.prog X.w) X.A (exec st X.env) (SP X pins D) X.xe s
def PSs (X:Cx) (st:List Stmt) (t:TS):Prop :=
 ∀(pins:List (Addr×Obj)) (s:Shared) (σ:St) (H:Hp) (D:Ends),Inv X pins σ H s→t D σ H→wpAny (model X.prog X.w) X.A (execs st X.env) (SP X pins D) X.xe s
theorem thn {α:Type}{t:Sem α}{Q Q':α→Shared→Prop}{M:Model}{A:Around}{E:Value→Shared→Prop}{s:Shared}(h:wpAny M A t Q E s) (hQ:∀a s,Q a s→Q' a s):wpAny M A t Q' E s:=wpAny_mono h hQ fun _ _ x=>x
end L2
namespace L2
open PySem PySem.Spec PyProof.Rows
section
variable {X:Cx}
theorem bin {a b:Expr}{ta tb:TE}(ha:PE X a ta) (hb:PE X b tb) {pins:List (Addr×Obj)}{s:Shared}{σ:St}{H:Hp}{R:V→V→Hp→Prop}(I:Inv X pins σ H s) (h:ta σ H fun x H1=>tb σ H1 fun y H2=>R x y H2)
  {α:Type}{Q:α→Shared→Prop}{f:Value→Value→Sem α}
  (hf:∀v u s2 x y H2,Inv X pins σ H2 s2→RelV x v→RelV y u→R x y H2→wpAny (model X.prog X.w) X.A (f v u) Q X.xe s2) :
  wpAny (model X.prog X.w) X.A (eval a X.env) (fun v s₁=>wpAny (model X.prog X.w) X.A (eval b X.env) (fun u s₂=>wpAny (model X.prog X.w) X.A (f v u) Q X.xe s₂) X.xe s₁) X.xe s:=by
 refine thn (ha pins s σ H _ I h) fun v s1 ⟨x,H1,I1,r1,q1⟩=>?_
 refine thn (hb pins s1 σ H1 _ I1 q1) fun u s2 ⟨y,H2,I2,r2,q2⟩=>?_
 exact hf v u s2 x y H2 I2 r1 r2 q2
def tVar (i:Nat):TE:=fun σ H Q=>∃v,σ[i]? = some (some v)∧Q v H
def tC (v:V):TE:=fun _ H Q=>Q v H
theorem pe_var {i:Nat}{x:Str}{pos:Pos}(hN:X.N[i]? = some x) (hv:Vis X.env.scope x) (hd:(x ==("__debug__" : Str))=false:=by decide) (hcd:(x ==("__classdict__" : Str))=false:=by decide):PE X (.Name x pos) (tVar i):=by
 intro pins s σ H Q I h
 obtain⟨v,e,h⟩:=h
 obtain⟨m,hn,hl⟩:=I.loc
 obtain⟨u,r,l⟩:=hl i x v hN e hv
 have fin:EP X pins σ Q u s:=⟨v,H,I,r,h⟩
 rcases l with⟨hk,hm⟩|⟨hk,c,hc,hcell⟩
 ·exact wpAny_Name (wpAny_loadName_local I.ok.kind hk hn hm fin) hd
 ·rcases hk with hk|hk
  ·exact wpAny_Name (wpAny_loadName_cell I.ok.kind hk hc hcell fin) hd
  ·exact wpAny_Name (wpAny_loadName_free I.ok.kind hk hc hcell fin hcd) hd
theorem pe_int {i j pos}:PE X (.Constant (.int i) j pos) (tC (.int i)):=fun _ _ _ H _ I h=>wpAny_Constant_int ⟨.int i,H,I.tok _,⟨_,rfl⟩,h⟩
theorem pe_bl {b j pos}:PE X (.Constant (.bool b) j pos) (tC (.bl b)):=fun _ _ _ H _ I h=>Constant_bool ⟨.bl b,H,I,rfl,h⟩
theorem pe_str {x j pos}:PE X (.Constant (.str x) j pos) (tC (.str x)):=fun _ _ _ H _ I h=>Calls.Constant_str ⟨.str x,H,I.tok _,⟨_,rfl⟩,h⟩
def Gl (X:Cx) (x:Str):Prop:=X.env.kindOf x=some .globalImplicit
theorem ld_glob {E:Value→Shared→Prop}{pins:List (Addr×Obj)}{s:Shared}{σ:St}{H:Hp}{x:Str}{u:Value}{pos:Pos}{Q:Value→Shared→Prop}(I:Inv X pins σ H s) (hg:Gl X x) (hm:X.mg x=some u) (h:Q u s)
  (hd:(x ==("__debug__" : Str))=false:=by decide):wpAny (model X.prog X.w) X.A (eval (.Name x pos) X.env) Q E s :=
 Calls.Name_function_global I.ok.kind hg (Calls.loadGlobal_global (by rw[I.ok.glob];exact I.mod.glob.keeps I.bk) hm h) hd
theorem ld_blt {E:Value→Shared→Prop}{pins:List (Addr×Obj)}{s:Shared}{σ:St}{H:Hp}{x:Str}{u:Value}{pos:Pos}{Q:Value→Shared→Prop}(I:Inv X pins σ H s) (hg:Gl X x) (hm:X.mg x=none) (hv:bootBuiltins x=some u) (h:Q u s)
  (hn:x ≠ "__name__" := by decide) (hd:(x ==("__debug__" : Str))=false:=by decide):wpAny (model X.prog X.w) X.A (eval (.Name x pos) X.env) Q E s:=by
 obtain⟨mb,h1,h2⟩:=I.mod.blt
 exact Calls.Name_function_global I.ok.kind hg (Calls.loadGlobal_builtin (by rw[I.ok.glob];exact I.mod.glob.keeps I.bk) hm (by rw[I.ok.blt];exact h1.keeps I.bk) ((h2 x hn).trans hv) h) hd
theorem pe_glob {x:Str}{v:V}{u:Value}{pos:Pos}(hg:Gl X x) (hm:X.mg x=some u) (r:RelV v u) (hd:(x ==("__debug__" : Str))=false:=by decide):PE X (.Name x pos) (tC v) :=
 fun _ _ _ H _ I h=>ld_glob I hg hm ⟨v,H,I,r,h⟩ hd
theorem pe_bltn {x:Str}{v:V}{u:Value}{pos:Pos}(hg:Gl X x) (hm:X.mg x=none) (hv:bootBuiltins x=some u) (r:RelV v u) (hn:x ≠ "__name__" := by decide) (hd:(x ==("__debug__" : Str))=false:=by decide):PE X (.Name x pos) (tC v) :=
 fun _ _ _ H _ I h=>ld_blt I hg hm hv ⟨v,H,I,r,h⟩ hn hd
variable {a b:Expr}{ta tb:TE}{pos:Pos}
def PC (X:Cx) (op:CmpOp) (a b:Expr) (t:TE):Prop :=
 ∀(pins:List (Addr×Obj)) (s:Shared) (σ:St) (H:Hp) (Q:VK),Inv X pins σ H s→t σ H Q →
  wpAny (model X.prog X.w) X.A (eval a X.env) (fun v s₁=>wpAny (model X.prog X.w) X.A (eval b X.env) (fun u s₂=>wpAny (model X.prog X.w) X.A (compareOp op v u) (EP X pins σ Q) X.xe s₂) X.xe s₁) X.xe s
def tB (t:TE):TT:=fun σ H Q=>t σ H fun x H1=>∃c,x = .bl c∧Q c H1
theorem pt_cmp {op:CmpOp}{t:TE}(h:PC X op a b t) (h1:behindInMarks op b=false:=by first|exact nobehind _ (by decide) (by decide)|rfl):PT X (.Compare a [op] [b] pos) (tB t):=by
 intro pins s σ H Q I hw
 refine wpAny_isTrue_Compare1 (thn (h pins s σ H _ I hw) fun v s1 h1=>thn h1 fun u s2 h2=>thn h2 fun c s3 ⟨x,H1,I1,r1,q1⟩=>?_) h1
 obtain⟨d,rfl,q⟩:=q1
 cases r1
 exact wpAny_truthy_bool ⟨H1,I1,q⟩
theorem pt_val {e:Expr}{t:TE}(h:PE X e t) (he:∀whole,isTrue e X.env whole =(do let v ← whole;standAt e.pos;holding [v] (truthy v)):=by intro _;rfl):PT X e (tB t):=by
 intro pins s σ H Q I hw
 refine isTrue_plain (thn (h pins s σ H _ I hw) fun v s1 ⟨x,H1,I1,r1,q1⟩=>?_) (he _)
 obtain⟨d,rfl,q⟩:=q1
 cases r1
 exact wpAny_truthy_bool ⟨H1,I1,q⟩
variable {tA tB':TT}{rest:List Expr}
def tAnd (t u:TT):TT:=fun σ H Q=>t σ H fun c H1=>if c=true then u σ H1 Q else Q false H1
def tOr (t u:TT):TT:=fun σ H Q=>t σ H fun c H1=>if c=true then Q true H1 else u σ H1 Q
def tNot (t:TT):TT:=fun σ H Q=>t σ H fun c H1=>Q (!c) H1
theorem pw_and1 (ha:PT X a tA):PW X (.BoolOp .And [a] pos) tA:=by
 intro wh pins s σ H Q I h
 refine isTrue_and (thn (ha pins s σ H Q I h) fun c s1 e=>?_)
 cases c with
 | true=>exact isTrue_and_nil e
 | false=>exact e
theorem pw_or1 (ha:PT X a tA):PW X (.BoolOp .Or [a] pos) tA:=by
 intro wh pins s σ H Q I h
 refine isTrue_or (thn (ha pins s σ H Q I h) fun c s1 e=>?_)
 cases c with
 | false=>exact isTrue_or_nil e
 | true=>exact e
theorem pw_and (ha:PT X a tA) (hb:PW X (.BoolOp .And (b::rest) pos) tB'):PW X (.BoolOp .And (a::b::rest) pos) (tAnd tA tB'):=by
 intro wh pins s σ H Q I h
 refine isTrue_and (thn (ha pins s σ H _ I h) fun c s1 ⟨H1,I1,q1⟩=>?_)
 cases c with
 | true=>exact hb wh pins s1 σ H1 Q I1 q1
 | false=>exact⟨H1,I1,q1⟩
theorem pw_or (ha:PT X a tA) (hb:PW X (.BoolOp .Or (b::rest) pos) tB'):PW X (.BoolOp .Or (a::b::rest) pos) (tOr tA tB'):=by
 intro wh pins s σ H Q I h
 refine isTrue_or (thn (ha pins s σ H _ I h) fun c s1 ⟨H1,I1,q1⟩=>?_)
 cases c with
 | true=>exact⟨H1,I1,q1⟩
 | false=>exact hb wh pins s1 σ H1 Q I1 q1
theorem pt_not (ha:PT X a tA):PT X (.UnaryOp .Not a pos) (tNot tA):=by
 intro pins s σ H Q I h
 exact isTrue_not (ha pins s σ H (fun c H1=>Q (!c) H1) I h)
def tAndV (ta tb:TE):TE:=fun σ H Q=>ta σ H fun x H1=>∃c,x = .bl c∧if c=true then tb σ H1 Q else Q (.bl false) H1
def tOrV (ta tb:TE):TE:=fun σ H Q=>ta σ H fun x H1=>∃c,x = .bl c∧if c=true then Q (.bl true) H1 else tb σ H1 Q
theorem pe_one {op}{t:TE}(h:PE X a t):PE X (.BoolOp op [a] pos) t:=fun pins s σ H Q I hw=>BoolOp_one (h pins s σ H Q I hw)
theorem pe_and (ha:PE X a ta) (hb:PE X (.BoolOp .And (b::rest) pos) tb):PE X (.BoolOp .And (a::b::rest) pos) (tAndV ta tb):=by
 intro pins s σ H Q I h
 refine BoolOp_and (thn (ha pins s σ H _ I h) fun v s1 ⟨x,H1,I1,r1,q1⟩=>?_)
 obtain⟨c,rfl,q1⟩:=q1
 cases r1
 refine wpAny_truthy_bool ?_
 cases c with
 | true=>exact hb pins s1 σ H1 Q I1 q1
 | false=>exact⟨.bl false,H1,I1,rfl,q1⟩
theorem pe_or (ha:PE X a ta) (hb:PE X (.BoolOp .Or (b::rest) pos) tb):PE X (.BoolOp .Or (a::b::rest) pos) (tOrV ta tb):=by
 intro pins s σ H Q I h
 refine BoolOp_or (thn (ha pins s σ H _ I h) fun v s1 ⟨x,H1,I1,r1,q1⟩=>?_)
 obtain⟨c,rfl,q1⟩:=q1
 cases r1
 refine wpAny_truthy_bool ?_
 cases c with
 | false=>exact hb pins s1 σ H1 Q I1 q1
 | true=>exact⟨.bl true,H1,I1,rfl,q1⟩
end
end L2
namespace L2
open PySem PySem.Spec PyProof.Rows
def SqL (K:PySem.W.Frag) (H:Hp) (a:Addr) (xs:List V):Prop :=
 Rd H a (.lst xs) ∨
  ∃(o:Obj) (its:Array Value) (n:Nat),K.lookup a=some o∧o.cls = .type "list"∧o.dict=none∧o.data = .seq its n∧its.size≤sizeLine∧Vals xs its.toList
def SqT (K:PySem.W.Frag) (H:Hp) (a:Addr) (xs:List V):Prop :=
 Rd H a (.tup xs) ∨
  ∃(o:Obj) (its:Array Value) (n:Nat),K.lookup a=some o∧o.cls = .type "tuple"∧o.data = .seq its n∧its.size≤sizeLine∧Vals xs its.toList
def absV:Value→Option V
 | .none=>some .non
 | .bool b=>some (.bl b)
 | .int i _=>some (.int i)
 | .str x _=>some (.str x)
 | .bytes b _=>some (.byt b)
 | .float b _=>some (.flt b)
 | .ref a=>some (.ref a)
 | .type n=>some (.ty n)
 | _=>none
theorem RelV.abs {x:V}{u:Value}(r:RelV x u):absV u=some x:=by
 cases x with
 | non=>cases r;rfl
 | bl _=>cases r;rfl
 | int _=>obtain⟨t,rfl⟩:=r;rfl
 | str _=>obtain⟨t,rfl⟩:=r;rfl
 | byt _=>obtain⟨t,rfl⟩:=r;rfl
 | flt _=>obtain⟨t,rfl⟩:=r;rfl
 | ref _=>cases r;rfl
 | ty _=>cases r;rfl
theorem RelV.inj {x y:V}{u:Value}(r:RelV x u) (q:RelV y u):x=y:=Option.some.inj (r.abs.symm.trans q.abs)
theorem Vals.inj:∀{xs ys:List V}{us:List Value},Vals xs us→Vals ys us→xs=ys
 | _,_,_,.nil,.nil=>rfl
 | _,_,_,.cons r t,.cons r' t'=>by rw[r.inj r',Vals.inj t t']
section
variable {X:Cx}{pins:List (Addr×Obj)}{σ:St}{H:Hp}{s:Shared}{a:Addr}{xs ys:List V}
theorem SqL.of {K:PySem.W.Frag}(h:H a=some (.lst xs)):SqL K H a xs:=.inl (.inl h)
theorem SqT.of {K:PySem.W.Frag}(h:H a=some (.tup xs)):SqT K H a xs:=.inl (.inl h)
theorem Inv.list (I:Inv X pins σ H s) (h:SqL X.K H a xs):∃its:List Value,Vals xs its∧PlainL s.heap a its.toArray∧xs.length≤sizeLine:=by
 rcases h with h|⟨o,its,n,hk,hc,hd,hs,hz,r⟩
 ·obtain⟨z,its,n,r,e⟩:=h.ok I.hok
  exact⟨its,r,⟨_,n,e,rfl,rfl,rfl⟩,z⟩
 ·refine⟨its.toList,r,⟨o,n,I.kIn a o hk,hc,hd,by simpa using hs⟩,?_⟩
  have e:=r.length
  simp only[Array.length_toList]at e
  omega
theorem Inv.tuple (I:Inv X pins σ H s) (h:SqT X.K H a xs):∃its:List Value,Vals xs its∧IsTup s.heap a its.toArray∧xs.length≤sizeLine:=by
 rcases h with h|⟨o,its,n,hk,hc,hs,hz,r⟩
 ·obtain⟨z,its,r,p⟩:=h.ok I.hok
  exact⟨its,r,p,z⟩
 ·refine⟨its.toList,r,⟨o,I.kIn a o hk,hc,n,by simpa using hs⟩,?_⟩
  have e:=r.length
  simp only[Array.length_toList]at e
  omega
theorem Inv.list_inj (I:Inv X pins σ H s) (h:SqL X.K H a xs) (h':SqL X.K H a ys):xs=ys:=by
 obtain⟨its,r,⟨o,n,e,_,_,d⟩,_⟩:=I.list h
 obtain⟨its',r',⟨o',n',e',_,_,d'⟩,_⟩:=I.list h'
 rw[e]at e';cases e'
 rw[d]at d'
 injection d' with d1 _
 have:its=its':=by simpa using congrArg Array.toList d1
 subst this
 exact r.inj r'
theorem Inv.tuple_inj (I:Inv X pins σ H s) (h:SqT X.K H a xs) (h':SqT X.K H a ys):xs=ys:=by
 obtain⟨its,r,⟨o,e,_,n,d⟩,_⟩:=I.tuple h
 obtain⟨its',r',⟨o',e',_,n',d'⟩,_⟩:=I.tuple h'
 rw[e]at e';cases e'
 rw[d]at d'
 injection d' with d1 _
 have:its=its':=by simpa using congrArg Array.toList d1
 subst this
 exact r.inj r'
end
abbrev Cx.wish (X:Cx) (E:Value→Shared→Prop):Cx:={ X with xe:=E }
abbrev Cx.nox (X:Cx):Cx:=X.wish fun _ _=>False
theorem Cx.Ok.wish {X:Cx}(ok:X.Ok) (E:Value→Shared→Prop):(X.wish E).Ok :=
 ⟨ok.mod,ok.kind,ok.glob,ok.blt,ok.above,ok.inj,ok.has,ok.cab,ok.hd,ok.frames,ok.stk,ok.exf,ok.bs,ok.bsz,ok.noex,ok.exfs,ok.funs,ok.frf⟩
theorem Cx.Ok.unwish {X:Cx}{E:Value→Shared→Prop}(ok:(X.wish E).Ok):X.Ok :=
 ⟨ok.mod,ok.kind,ok.glob,ok.blt,ok.above,ok.inj,ok.has,ok.cab,ok.hd,ok.frames,ok.stk,ok.exf,ok.bs,ok.bsz,ok.noex,ok.exfs,ok.funs,ok.frf⟩
section
variable {X:Cx}{pins:List (Addr×Obj)}{σ:St}{H:Hp}{s:Shared}{E:Value→Shared→Prop}
theorem Inv.wish (I:Inv X pins σ H s) (E:Value→Shared→Prop):Inv (X.wish E) pins σ H s:=⟨I.ok.wish E,I.os,I.bare,I.base,I.loc,I.cell,I.free,I.freeC,I.pin,I.hok,I.len⟩
theorem Inv.unwish (I:Inv (X.wish E) pins σ H s):Inv X pins σ H s:=⟨I.ok.unwish,I.os,I.bare,I.base,I.loc,I.cell,I.free,I.freeC,I.pin,I.hok,I.len⟩
theorem SP.unwish {D:Ends}{f:Flow}{s':Shared}(h:SP (X.wish E) pins D f s'):SP X pins D f s':=by
 cases f with
 | next=>obtain⟨σ',H',I,q⟩:=h;exact⟨σ',H',I.unwish,q⟩
 | brk=>obtain⟨σ',H',I,q⟩:=h;exact⟨σ',H',I.unwish,q⟩
 | cont=>obtain⟨σ',H',I,q⟩:=h;exact⟨σ',H',I.unwish,q⟩
 | ret u=>obtain⟨v,σ',H',I,r,q⟩:=h;exact⟨v,σ',H',I.unwish,r,q⟩
theorem PSs.nox {st:List Stmt}{t:TS}(h:PSs X.nox st t):PSs X st t:=fun pins s σ H D I hw =>
 wpAny_mono (h pins s σ H D (I.wish _) hw) (fun _ _ q=>q.unwish) fun _ _ z=>False.elim z
end
section
variable {X:Cx}{st:Stmt}{rest:List Stmt}{t u:TS}{e:Expr}{te:TE}{pos:Pos}
def tNext:TS:=fun D σ H=>D.nx σ H
def tSeq (t u:TS):TS:=fun D σ H=>t { D with nx:=u D } σ H
theorem pss_nil:PSs X [] tNext:=fun _ _ σ H _ I h=>wpAny_execs_nil ⟨σ,H,I,h⟩
theorem pss_cons (h1:PS X st t) (h2:PSs X rest u):PSs X (st::rest) (tSeq t u):=by
 intro pins s σ H D I h
 refine wpAny_execs_cons (thn (h1 pins s σ H { D with nx:=u D } I h) fun f s1 q=>?_)
 cases f with
 | next =>
  obtain⟨σ',H',I',q⟩:=q
  exact h2 pins s1 σ' H' D I' q
 | ret v=>exact q
 | brk=>exact q
 | cont=>exact q
theorem pss_one (h1:PS X st t):PSs X [st] t:=by
 intro pins s σ H D I h
 refine wpAny_execs_cons (thn (h1 pins s σ H D I h) fun f s1 q=>?_)
 cases f with
 | next=>exact wpAny_execs_nil q
 | ret v=>exact q
 | brk=>exact q
 | cont=>exact q
theorem Inv.quiet {pins:List (Addr×Obj)}{σ:St}{H:Hp}{s:Shared}(I:Inv X pins σ H s):interactive X.env=false:=by simp[interactive,I.ok.kind]
def tDrop (te:TE):TS:=fun D σ H=>te σ H fun _ H1=>D.nx σ H1
theorem ps_expr (he:PE X e te) (hs:swapsWith e none pos.line X.env=pure false:=by rfl):PS X (.Expr e pos) (tDrop te):=by
 intro pins s σ H D I h
 exact wpAny_Expr_any (thn (he pins s σ H _ I h) fun v s1 ⟨x,H1,I1,r1,q1⟩=>⟨σ,H1,I1,q1⟩) I.quiet hs
def tRet (te:TE):TS:=fun D σ H=>te σ H D.rt
theorem ps_ret (he:PE X e te):PS X (.Return (some e) pos) (tRet te):=by
 intro pins s σ H D I h
 exact wpAny_Return_some (thn (he pins s σ H _ I h) fun v s1 ⟨x,H1,I1,r1,q1⟩=>⟨x,σ,H1,I1,r1,q1⟩)
def tIfS (c:TT) (t u:TS):TS:=fun D σ H=>c σ H fun b H1=>if b=true then t D σ H1 else u D σ H1
theorem ps_if {c:Expr}{a b:List Stmt}{tc:TT}(hc:PT X c tc) (ha:PSs X a t) (hb:PSs X b u):PS X (.If c a b pos) (tIfS tc t u):=by
 intro pins s σ H D I h
 refine wpAny_If (thn (hc pins s σ H _ I h) fun d s1 ⟨H1,I1,q1⟩=>?_)
 cases d with
 | true=>exact ha pins s1 σ H1 D I1 q1
 | false=>exact hb pins s1 σ H1 D I1 q1
end
abbrev TG:=V→St→Hp→(St→Hp→Prop)→Prop
abbrev TGs:=List V→St→Hp→(St→Hp→Prop)→Prop
def PG (X:Cx) (target:Expr) (t:TG):Prop :=
 ∀(pins:List (Addr×Obj)) (s:Shared) (σ:St) (H:Hp) (v:V) (u:Value) (Q:St→Hp→Prop),Inv X pins σ H s→RelV v u→t v σ H Q →
  wpAny (model X.prog X.w) X.A (assign target X.env u) (fun _ s'=>∃σ' H',Inv X pins σ' H' s'∧Q σ' H') X.xe s
def PGs (X:Cx) (ts:List Expr) (t:TGs):Prop :=
 ∀(pins:List (Addr×Obj)) (s:Shared) (σ:St) (H:Hp) (vs:List V) (us:List Value) (Q:St→Hp→Prop),Inv X pins σ H s→Vals vs us→t vs σ H Q →
  wpAny (model X.prog X.w) X.A (assignInOrder ((assignEach ts X.env).map (·.2)) us) (fun _ s'=>∃σ' H',Inv X pins σ' H' s'∧Q σ' H') X.xe s
abbrev TSet:=V→V→V→Hp→(Hp→Prop)→Prop
def PSet (X:Cx) (t:TSet):Prop :=
 ∀(pins:List (Addr×Obj)) (s:Shared) (σ:St) (H:Hp) (o i v:V) (ov iv u:Value) (Q:Hp→Prop),Inv X pins σ H s→RelV o ov→RelV i iv→RelV v u→t o i v H Q →
  wpAny (model X.prog X.w) X.A (setItem ov iv u) (fun _ s'=>∃H',Inv X pins σ H' s'∧Q H') X.xe s
abbrev TIp:=V→V→Hp→VK→Prop
def PIp (X:Cx) (op:Operator) (t:TIp):Prop :=
 ∀(pins:List (Addr×Obj)) (s:Shared) (σ:St) (H:Hp) (x y:V) (v u:Value) (Q:VK),Inv X pins σ H s→RelV x v→RelV y u→t x y H Q →
  wpAny (model X.prog X.w) X.A (inplaceOp op v u) (EP X pins σ Q) X.xe s
section
variable {X:Cx}{pos:Pos}
def gName (i:Nat):TG:=fun v σ H Q=>Q (σ.set i (some v)) H
theorem pg_name {i:Nat}{x:Str}(hN:X.N.Nodup) (hi:X.N[i]? = some x) (hx:Loc X.env.scope x) (hf:X.fn x=true∨X.env.scope.names.lookup x=some .local:=by first|exact .inl rfl|exact .inr rfl|assumption):PG X (.Name x pos) (gName i):=by
 intro pins s σ H v u Q I r h
 exact wpAny_assign_Name (store_ok I hN hi hx r (fun s' I'=>⟨_,H,I',h⟩) hf)
def gNil:TGs:=fun vs σ H Q=>vs=[]∧Q σ H
def gCons (t:TG) (u:TGs):TGs:=fun vs σ H Q=>∃v r,vs=v::r∧t v σ H fun σ' H'=>u r σ' H' Q
theorem pgs_nil:PGs X [] gNil:=by
 intro pins s σ H vs us Q I r h
 obtain⟨e,h⟩:=h
 subst e
 cases r
 exact assignInOrder_nil ⟨σ,H,I,h⟩
theorem pgs_cons {e:Expr}{es:List Expr}{t:TG}{u:TGs}(h1:PG X e t) (h2:PGs X es u)
  (hs:(assignEach (e::es) X.env).map (·.2)=assign e X.env::(assignEach es X.env).map (·.2):=by rfl):PGs X (e::es) (gCons t u):=by
 intro pins s σ H vs us Q I r h
 obtain⟨v,vr,e1,h⟩:=h
 subst e1
 cases r with
 | cons r rr =>
  rw[hs]
  refine assignInOrder_cons (thn (h1 pins s σ H _ _ _ I r h) fun _ s1 ⟨σ1,H1,I1,q1⟩=>?_)
  exact h2 pins s1 σ1 H1 _ _ Q I1 rr q1
def gTup (K:PySem.W.Frag) (n:Nat) (t:TGs):TG:=fun v σ H Q=>∃a xs,v = .ref a∧SqT K H a xs∧xs.length=n∧t xs σ H Q
theorem pg_tup {es:List Expr}{k:Nat}{t:TGs}{n:Nat}(hc:X.calm=true) (h:PGs X es t)
  (hn:(assignEach es X.env).length=n:=by rfl) (hst:(assignEach es X.env).findIdx? (·.1)=none:=by rfl):PG X (.Tuple es k pos) (gTup X.K n t):=by
 intro pins s σ H v u Q I r hw
 obtain⟨a,xs,e1,hq,hl,hw⟩:=hw
 subst e1
 cases r
 obtain⟨its,rv,ht,hz⟩:=I.tuple hq
 refine assign_Tuple_tuple (I.ok.hd hc) ht (by simp[hn,← hl,rv.length]) hst fun h' hx=>?_
 have I1:Inv X pins σ H { s with heap:=h' }:=I.kept (t':=s.toks) fun b o e=>hx b o (Nat.ne_of_lt (Heap.lt_size e)) e
 exact h pins _ σ H xs _ Q I1 (by simpa using rv) hw
def gSub (to ti:TE) (t:TSet):TG:=fun v σ H Q=>to σ H fun o H1=>ti σ H1 fun i H2=>t o i v H2 fun H3=>Q σ H3
theorem pg_sub {o i:Expr}{to ti:TE}{t:TSet}(ho:PE X o to) (hi:PE X i ti) (hs:PSet X t)
  (ha:∀v,assign (.Subscript o i pos) X.env v =(do
   let ov ← holding [v] (eval o X.env)
   let iv ← holding [v,ov] (eval i X.env)
   standAt pos
   holding [v,ov,iv] (setItem ov iv v)
   release [v,ov,iv] []):=by intro _;rfl):PG X (.Subscript o i pos) (gSub to ti t):=by
 intro pins s σ H v u Q I r h
 rw[ha]
 refine wpAny_bind (wpAny_holding (thn (ho pins s σ H _ I h) fun ov s1 ⟨x,H1,I1,r1,q1⟩=>?_))
 refine wpAny_bind (wpAny_holding (thn (hi pins s1 σ H1 _ I1 q1) fun iv s2 ⟨y,H2,I2,r2,q2⟩=>?_))
 refine wpAny_bind (wpAny_standAt (wpAny_bind (wpAny_holding (thn (hs pins s2 σ H2 x y v ov iv u _ I2 r1 r2 r q2) fun _ s3 ⟨H3,I3,q3⟩=>?_))))
 exact wpAny_release ⟨σ,H3,I3,q3⟩
def tAsg (te:TE) (g:TG):TS:=fun D σ H=>te σ H fun x H1=>g x σ H1 D.nx
theorem ps_asg {tg e:Expr}{te:TE}{g:TG}(he:PE X e te) (hg:PG X tg g) (hs:swapsWithSole [tg] e pos.line X.env=pure false:=by rfl) (hw:swappedStores [tg] e X.env=pure none:=by rfl)
  (h1:(assignEach [tg] X.env).map (·.2)=[assign tg X.env]:=by rfl):PS X (.Assign [tg] e pos) (tAsg te g):=by
 intro pins s σ H D I h
 refine wpAny_Assign_stores (thn (he pins s σ H _ I h) fun v s1 ⟨x,H1,I1,r1,q1⟩=>?_) hs hw
 rw[h1]
 exact thn (hg pins s1 σ H1 x v _ I1 r1 q1) fun _ s2 q=>q
theorem ps_set {i:Nat}{x:Str}{e:Expr}{te:TE}{pos':Pos}(hN:X.N.Nodup) (hi:X.N[i]? = some x) (hx:Loc X.env.scope x) (he:PE X e te) (hs:swapsWith e (some (.Name x pos')) pos.line X.env=pure false:=by rfl) (hf:X.fn x=true∨X.env.scope.names.lookup x=some .local:=by first|exact .inl rfl|exact .inr rfl|assumption) :
  PS X (.Assign [.Name x pos'] e pos) (tAsg te (gName i)):=by
 intro pins s σ H D I h
 refine wpAny_Assign_Name (thn (he pins s σ H _ I h) fun v s1 ⟨y,H1,I1,r1,q1⟩=>?_) hs
 exact store_ok I1 hN hi hx r1 (fun s2 I2=>⟨_,H1,I2,q1⟩) hf
def tPar (i j:Nat) (ta:TA):TS:=fun D σ H=>ta σ H fun vs H1=>∃v w,vs=[v,w]∧D.nx ((σ.set i (some v)).set j (some w)) H1
theorem ps_par {i j:Nat}{x y:Str}{a b:Expr}{ta:TA}{px py pt:Pos}{kt k2 pt2}(hc:X.calm=true) (hN:X.N.Nodup) (hi:X.N[i]? = some x) (hj:X.N[j]? = some y) (hij:i≠j)
  (hx:X.env.scope.names.lookup x=some .local) (hy:X.env.scope.names.lookup y=some .local) (ha:PA X [a,b] ta)
  (hw:swappedStores [.Tuple [.Name x px,.Name y py] kt pt] (.Tuple [a,b] k2 pt2) X.env=pure (some [x,y]))
  (hs:swapsWithSole [.Tuple [.Name x px,.Name y py] kt pt] (.Tuple [a,b] k2 pt2) pos.line X.env=pure false:=by rfl) :
  PS X (.Assign [.Tuple [.Name x px,.Name y py] kt pt] (.Tuple [a,b] k2 pt2) pos) (tPar i j ta):=by
 intro pins s σ H D I h
 rw[exec_Assign_arm]
 refine wpAny_bind (wpAny_standAt ?_)
 rw[hs]
 refine wpAny_bind (wpAny_pure ?_)
 rw[if_neg (by decide)]
 refine wpAny_bind (Tuple_ (thn (ha _ pins s σ H _ I h) fun us s1 ⟨vs,H1,I1,r1,q1⟩=>?_))
 obtain⟨v,w,e1,q1⟩:=q1
 subst e1
 obtain⟨u1,u2,rfl,rv,rw'⟩ : ∃u1 u2,us=[u1,u2]∧RelV v u1∧RelV w u2:=by
  cases r1 with
  | cons p q =>
   cases q with
   | cons p' q' =>
    cases q'
    exact⟨_,_,rfl,p,p'⟩
 refine wpAny_newObj_type ?_ (by show 2≤sizeLine;decide)
 have I2:Inv X pins σ H1 { s1 with heap:=s1.heap.push { cls:=.type "tuple",data:=.seq [u1,u2].toArray } }:=I1.kept (t':=s1.toks) fun b o e=>Heap.get?_push_of_some _ e
 rw[hw]
 refine wpAny_bind (wpAny_pure ?_)
 show wpAny (model X.prog X.w) X.A (do rule "assign.swapped-stores";let items ← unpackItems (.ref s1.heap.objs.size) 2 none;assignInOrder [fun v=>bindName X.env y v,fun v=>bindName X.env x v] items.reverse;pure Flow.next) _ _ _
 refine wpAny_bind (wpAny_rule (wpAny_bind (unpackItems_tuple (items:=#[u1,u2]) (I.ok.hd hc) (IsTup.new s1.heap _) fun h' hx'=>?_)))
 have I3:=I2.kept (h':=h') (t':=s1.toks) fun b o e=>hx' b o (Nat.ne_of_lt (Heap.lt_size e)) e
 show wpAny _ _ (assignInOrder [fun v=>bindName X.env y v,fun v=>bindName X.env x v] [u2,u1] >>= fun _=>pure Flow.next) _ _ _
 refine wpAny_bind (assignInOrder_cons (wpAny_bindName (store_ok I3 hN hj (.inl hy) rw' (fun s2 I4=>?_) (.inr hy))))
 refine assignInOrder_cons (wpAny_bindName (store_ok I4 hN hi (.inl hx) rv (fun s3 I5=>assignInOrder_nil (wpAny_pure ?_)) (.inr hx)))
 rw[List.set_comm _ _ (Ne.symm hij)]at I5
 exact⟨_,H1,I5,q1⟩
def tAugS (to ti te:TE) (tget:V→V→Hp→VK→Prop) (tip:TIp) (tset:TSet):TS:=fun D σ H=>to σ H fun o H1=>ti σ H1 fun i H2=>tget o i H2 fun x H3=>te σ H3 fun y H4=>tip x y H4 fun z H5=>tset o i z H5 fun H6=>D.nx σ H6
def PGet (X:Cx) (t:V→V→Hp→VK→Prop):Prop :=
 ∀(pins:List (Addr×Obj)) (s:Shared) (σ:St) (H:Hp) (o i:V) (ov iv:Value) (Q:VK),Inv X pins σ H s→RelV o ov→RelV i iv→t o i H Q →
  wpAny (model X.prog X.w) X.A (getItem ov iv) (EP X pins σ Q) X.xe s
theorem ps_augS {o i e:Expr}{to ti te:TE}{tget:V→V→Hp→VK→Prop}{tip:TIp}{tset:TSet}{op:Operator}{tpos:Pos}(ho:PE X o to) (hi:PE X i ti) (hg:PGet X tget) (he:PE X e te) (hp:PIp X op tip) (hs:PSet X tset)
  (ha:∀ov iv new,augStore i ov iv new =(do holding [new,ov,iv] (setItem ov iv new);release [new,ov,iv] [];pure .next):=by intros;rfl):PS X (.AugAssign (.Subscript o i tpos) op e pos) (tAugS to ti te tget tip tset):=by
 intro pins s σ H D I h
 refine wpAny_AugAssign_SubscriptAny (thn (ho pins s σ H _ I h) fun ov s1 ⟨x1,H1,I1,r1,q1⟩=>?_) ha
 refine thn (hi pins s1 σ H1 _ I1 q1) fun iv s2 ⟨x2,H2,I2,r2,q2⟩=>?_
 refine thn (hg pins s2 σ H2 x1 x2 ov iv _ I2 r1 r2 q2) fun old s3 ⟨x3,H3,I3,r3,q3⟩=>?_
 refine thn (he pins s3 σ H3 _ I3 q3) fun v s4 ⟨x4,H4,I4,r4,q4⟩=>?_
 refine thn (hp pins s4 σ H4 x3 x4 old v _ I4 r3 r4 q4) fun new s5 ⟨x5,H5,I5,r5,q5⟩=>?_
 exact thn (hs pins s5 σ H5 x1 x2 x5 ov iv new _ I5 r1 r2 r5 q5) fun _ s6 ⟨H6,I6,q6⟩=>⟨σ,H6,I6,q6⟩
def ipI (f:Int→Int→Int):TIp:=fun x y H Q=>∃i j,x = .int i∧y = .int j∧Q (.int (f i j)) H
theorem ip_add:PIp X .Add (ipI fun i j=>i+j):=by
 intro pins s σ H x y v u Q I r1 r2 h
 obtain⟨i,j,e1,e2,q⟩:=h
 subst e1;subst e2
 obtain⟨t,rfl⟩:=r1
 obtain⟨t',rfl⟩:=r2
 exact iadd_int ⟨.int _,H,I.tok _,⟨_,rfl⟩,q⟩
end
section
variable {X:Cx}{pos:Pos}
end
structure It where
 go:Nat→Hp→Prop
 yld:Nat→Hp→V→Hp→Prop
 stop:Nat→Hp→Prop
def FpOk (X:Cx) (pins:List (Addr×Obj)) (H:Hp) (b:Addr):Prop :=
 H b=none∧b≠X.env.locals∧b∉X.fs∧(b∈X.ex∨X.s₀.heap.objs.size≤b)∧(∀x c,X.env.cells.lookup x=some c→c≠b)∧∀p∈X.pn++pins,p.1≠b
theorem Inv.fpOk {X:Cx}{pins:List (Addr×Obj)}{σ:St}{H H':Hp}{s:Shared}{b:Addr}(I:Inv X pins σ H s) (hb:s.heap.objs.size≤b) (hn:H' b=none):FpOk X pins H' b:=by
 refine⟨hn,Nat.ne_of_gt (Nat.lt_of_lt_of_le I.lt hb),I.nofs hb,.inr (Nat.le_trans I.sz hb),fun x c e z=>?_,fun p hp z=>?_⟩
 ·obtain⟨v,q⟩:=I.cell x c e
  exact absurd (Nat.lt_of_lt_of_le q.lt (by rw[z];exact hb)) (Nat.lt_irrefl _)
 ·exact absurd (Nat.lt_of_lt_of_le (Heap.lt_size (I.pin p hp).1) (by rw[z];exact hb)) (Nat.lt_irrefl _)
structure Turn (P:Program) (w:World) (K:PySem.W.Frag) (tg:Expr) (J:It) (fp:List Addr) (it:Addr) (tn:Nat→Heap→Prop):Prop where
 mem:it∈fp
 obj:∀i h,tn i h→∀b∈fp,∃o,h.get? b=some o∧∀v,o.data ≠ .cell v
 keep:∀i h h',tn i h→(∀b∈fp,∀o,h.get? b=some o→h'.get? b=some o)→tn i h'
 item:∀(X:Cx),X.prog=P→X.w=w→X.K=K→X.calm=true→∀(i:Nat) (pins:List (Addr×Obj)) (s:Shared) (σ:St) (H:Hp) (E:Value→Shared→Prop),Inv X pins σ H s→(∀b∈fp,FpOk X pins H b)→tn i s.heap→J.go i H →
  wpAny (model P w) X.A (pyNext (.ref it)) (fun r s1=>∃u,r=some u ∧
   wpAny (model P w) X.A (letOwnedTupleGo tg (.ref it) u) (fun _ s2=>∃x H',Inv X pins σ H' s2∧RelV x u∧J.yld i H x H'∧tn (i+1) s2.heap∧∀b∈fp,H' b=none) E s1) E s
 done:∀(X:Cx),X.prog=P→X.w=w→X.K=K→X.calm=true→∀(i:Nat) (pins:List (Addr×Obj)) (s:Shared) (σ:St) (H:Hp) (E:Value→Shared→Prop),Inv X pins σ H s→(∀b∈fp,FpOk X pins H b)→tn i s.heap→J.stop i H →
  wpAny (model P w) X.A (pyNext (.ref it)) (fun r s1=>r=none∧Inv X pins σ H s1) E s
 self:∀(A:Around) (i:Nat) (s:Shared) (Q:Value→Shared→Prop) (E:Value→Shared→Prop),tn i s.heap→Q (.ref it) s→wpAny (model P w) A (pyIter (.ref it)) Q E s
abbrev TI:=St→Hp→(It→Hp→Prop)→Prop
def PIE (X:Cx) (pins:List (Addr×Obj)) (σ:St) (tg:Expr) (R:It→Hp→Prop) (itv:Value) (s2:Shared):Prop :=
 ∃(it:Addr) (fp:List Addr) (tn:Nat→Heap→Prop) (J:It) (H':Hp),itv = .ref it∧Inv X pins σ H' s2∧Turn X.prog X.w X.K tg J fp it tn∧tn 0 s2.heap∧(∀b∈fp,FpOk X pins H' b)∧R J H'
def PI (X:Cx) (tg iter:Expr) (wi:TI):Prop :=
 ∀(pins:List (Addr×Obj)) (s:Shared) (σ:St) (H:Hp) (R:It→Hp→Prop),Inv X pins σ H s→wi σ H R →
  wpAny (model X.prog X.w) X.A (eval iter X.env) (fun v s1=>wpAny (model X.prog X.w) X.A (pyIter v) (PIE X pins σ tg R) X.xe s1) X.xe s
theorem go_of {M:Model} {A:Around} {E:Value→Shared→Prop} {s:Shared} {tg:Expr} {it:Addr} {u:Value} {o:Obj} {n:String} {vs:Array Value} {Q:Unit→Shared→Prop} (ho:s.heap.get? it = some o) (hc:o.cls = .type n) (hd:o.data = .fields vs)
    (hn:["enumerate", "zip", "dict_itemiterator", "dict_reverseitemiterator", "odict_iterator", "itertools.zip_longest", "itertools.pairwise"].contains n = false) (hQ:Q () s) : wpAny M A (letOwnedTupleGo tg (.ref it) u) Q E s:=by
  unfold letOwnedTupleGo
  cases tg <;> first
    | exact wpAny_pure hQ
    | (cases u <;> first
        | exact wpAny_pure hQ
        | (refine wpAny_bind (wpAny_load ho ?_)
           rw [hc,hd]
           show wpAny M A (if (["enumerate", "zip", "dict_itemiterator", "dict_reverseitemiterator", "odict_iterator", "itertools.zip_longest", "itertools.pairwise"].contains n && vs[0]? == some (rawInt _)) = true then _ else _) Q E s
           rw [if_neg (by intro h; rw [hn,Bool.false_and] at h; cases h)]
           exact wpAny_pure hQ))
def Itl (K:PySem.W.Frag) (a:Addr):It :=
 ⟨fun i H=>∃xs x,SqL K H a xs∧xs[i]? = some x,fun i H x H'=>H'=H∧∀xs,SqL K H a xs→xs[i]? = some x,fun i H=>∃xs,SqL K H a xs∧xs.length≤i⟩
def Itt (K:PySem.W.Frag) (a:Addr):It :=
 ⟨fun i H=>∃xs x,SqT K H a xs∧xs[i]? = some x,fun i H x H'=>H'=H∧∀xs,SqT K H a xs→xs[i]? = some x,fun i H=>∃xs,SqT K H a xs∧xs.length≤i⟩
def Itr (lo:Int) (n:Nat):It:=⟨fun i _=>i<n,fun i H x H'=>H'=H∧x = .int (lo+i),fun i _=>n≤i⟩
theorem turn_list {P:Program}{w:World}{K:PySem.W.Frag}{tg:Expr}(a it:Addr):Turn P w K tg (Itl K a) [it] it (fun i h=>h.IsListIter it a i) where
 mem:=by simp
 obj:=fun i h st b hb=>by
  have e:b=it:=by simpa using hb
  subst e
  obtain⟨o,e,c,d⟩:=st
  exact⟨o,e,fun v z=>by rw[d]at z;cases z⟩
 keep:=fun i h h' st k=>st.at fun o e=>k it (by simp) o e
 item:=by
  intro X hP hw hK hc i pins s σ H E I hf st hg
  subst hP hw hK
  obtain⟨xs,x,hq,hx⟩:=hg
  obtain⟨its,rv,p,hz⟩:=I.list hq
  obtain⟨u,hu,ru⟩:=rv.get hx
  obtain⟨f0,f1,f2,f3,f4,f5⟩:=hf it (by simp)
  refine wpAny_pyNext_list_item st p.isList (x:=u) (by simpa using hu) fun h' st' sb=>?_
  have I1:Inv X pins σ H { s with heap:=h' }:=I.turned (t':=s.toks) (fun b o hb e=>(sb.2 b hb).trans e) f0 f1 f3 f4 f5
  obtain⟨o,e,c,d⟩:=id st'
  exact⟨u,rfl,go_of (s:={ s with heap:=h' }) e c d (by decide) ⟨x,H,I1,ru,⟨rfl,fun ys hy=>by rw[I.list_inj hy hq];exact hx⟩,st',fun b hb=>(hf b hb).1⟩⟩
 done:=by
  intro X hP hw hK hc i pins s σ H E I hf st hg
  subst hP hw hK
  obtain⟨xs,hq,hx⟩:=hg
  obtain⟨its,rv,p,hz⟩:=I.list hq
  obtain⟨f0,f1,f2,f3,f4,f5⟩:=hf it (by simp)
  have hl:=rv.length
  exact wpAny_pyNext_list_end (I.ok.hd hc) st p.isList (by simp;omega) fun h' eb=>⟨rfl,I.turned (t':=s.toks) (fun b o hb e=>eb b o hb e) f0 f1 f3 f4 f5⟩
 self:=fun _ _ _ _ _ st h=>wpAny_pyIter_listiter st h
theorem turn_tuple {P:Program}{w:World}{K:PySem.W.Frag}{tg:Expr}(a it:Addr):Turn P w K tg (Itt K a) [it] it (fun i h=>h.IsTupleIter it a i) where
 mem:=by simp
 obj:=fun i h st b hb=>by
  have e:b=it:=by simpa using hb
  subst e
  obtain⟨o,e,c,d⟩:=st
  exact⟨o,e,fun v z=>by rw[d]at z;cases z⟩
 keep:=fun i h h' st k=>st.at fun o e=>k it (by simp) o e
 item:=by
  intro X hP hw hK hc i pins s σ H E I hf st hg
  subst hP hw hK
  obtain⟨xs,x,hq,hx⟩:=hg
  obtain⟨its,rv,p,hz⟩:=I.tuple hq
  obtain⟨u,hu,ru⟩:=rv.get hx
  obtain⟨f0,f1,f2,f3,f4,f5⟩:=hf it (by simp)
  refine wpAny_pyNext_tuple_item st (show s.heap.IsTuple a its.toArray from p) (x:=u) (by simpa using hu) fun h' st' sb=>?_
  have I1:Inv X pins σ H { s with heap:=h' }:=I.turned (t':=s.toks) (fun b o hb e=>(sb.2 b hb).trans e) f0 f1 f3 f4 f5
  obtain⟨o,e,c,d⟩:=id st'
  exact⟨u,rfl,go_of (s:={ s with heap:=h' }) e c d (by decide) ⟨x,H,I1,ru,⟨rfl,fun ys hy=>by rw[I.tuple_inj hy hq];exact hx⟩,st',fun b hb=>(hf b hb).1⟩⟩
 done:=by
  intro X hP hw hK hc i pins s σ H E I hf st hg
  subst hP hw hK
  obtain⟨xs,hq,hx⟩:=hg
  obtain⟨its,rv,p,hz⟩:=I.tuple hq
  obtain⟨f0,f1,f2,f3,f4,f5⟩:=hf it (by simp)
  have hl:=rv.length
  exact wpAny_pyNext_tuple_end (I.ok.hd hc) st (show s.heap.IsTuple a its.toArray from p) (by simp;omega) fun h' eb=>⟨rfl,I.turned (t':=s.toks) (fun b o hb e=>eb b o hb e) f0 f1 f3 f4 f5⟩
 self:=fun _ _ _ _ _ st h=>wpAny_pyIter_tupleiter st h
theorem turn_range {P:Program}{w:World}{K:PySem.W.Frag}{tg:Expr}(it:Addr) (lo:Int) (n:Nat):Turn P w K tg (Itr lo n) [it] it (fun i h=>IsRangeIter h it (lo+(i:Nat)*1) ((n:Int)-(i:Nat)) 1) where
 mem:=by simp
 obj:=fun i h st b hb=>by
  have e:b=it:=by simpa using hb
  subst e
  exact⟨_,st,fun v z=>by
   have z':Data.fields _=Data.cell v:=z
   cases z'⟩
 keep:=fun i h h' st k=>k it (by simp) _ st
 item:=by
  intro X hP hw hK hc i pins s σ H E I hf st hg
  subst hP hw hK
  obtain⟨f0,f1,f2,f3,f4,f5⟩:=hf it (by simp)
  have W:=Walks.range (prog:=X.prog) (w:=X.w) (I.ok.hd hc) it lo 1 n
  refine W.item i s _ _ hg st fun v h' tk hv st' kk=>?_
  obtain⟨t,rfl⟩:=hv
  have I1:Inv X pins σ H { s with heap:=h',toks:=tk }:=I.turned (fun b o hb e=>kk b o (by simpa using hb) e) f0 f1 f3 f4 f5
  refine⟨_,rfl,go_of (s:={ s with heap:=h',toks:=tk }) (n := "range_iterator") st' rfl rfl (by decide) ⟨.int (lo+i),H,I1,⟨t,?_⟩,⟨rfl,rfl⟩,st',fun b hb=>(hf b hb).1⟩⟩
  rw[Int.mul_one]
 done:=by
  intro X hP hw hK hc i pins s σ H E I hf st hg
  subst hP hw hK
  obtain⟨f0,f1,f2,f3,f4,f5⟩:=hf it (by simp)
  exact wpAny_pyNext_range_end (I.ok.hd hc) st (by have:n≤i:=hg;omega) fun h' eb=>⟨rfl,I.turned (t':=s.toks) (fun b o hb e=>eb b o hb e) f0 f1 f3 f4 f5⟩
 self:=fun _ _ _ _ _ st h=>wpAny_pyIter_rangeiter st h
end L2
namespace L2
open PySem PySem.Spec PyProof.Rows
section
variable {X:Cx}{tg:Expr}
def iList (K:PySem.W.Frag) (tl:TE):TI:=fun σ H R=>tl σ H fun x H1=>∃a,x = .ref a∧(∃xs,SqL K H1 a xs)∧R (Itl K a) H1
def iTup (K:PySem.W.Frag) (tl:TE):TI:=fun σ H R=>tl σ H fun x H1=>∃a,x = .ref a∧(∃xs,SqT K H1 a xs)∧R (Itt K a) H1
theorem pi_list {l:Expr}{tl:TE}(hl:PE X l tl):PI X tg l (iList X.K tl):=by
 intro pins s σ H R I h
 refine thn (hl pins s σ H _ I h) fun v s1 ⟨x,H1,I1,r1,q1⟩=>?_
 obtain⟨a,e,⟨xs,hq⟩,q⟩:=q1
 subst e
 cases r1
 obtain⟨its,rv,p,hz⟩:=I1.list hq
 refine wpAny_pyIter_list p.isList ?_
 refine⟨s1.heap.objs.size,[s1.heap.objs.size],_,_,H1,rfl,I1.kept (t':=s1.toks) fun b o e=>Heap.get?_push_of_some _ e,turn_list a _,⟨_,Heap.get?_push_size _ rfl,rfl,rfl⟩,fun b hb=>?_,q⟩
 have e:b=s1.heap.objs.size:=by simpa using hb
 subst e
 exact I1.fpOk (Nat.le_refl _) (I1.hok.fresh (Nat.le_refl _))
theorem pi_tup {l:Expr}{tl:TE}(hl:PE X l tl):PI X tg l (iTup X.K tl):=by
 intro pins s σ H R I h
 refine thn (hl pins s σ H _ I h) fun v s1 ⟨x,H1,I1,r1,q1⟩=>?_
 obtain⟨a,e,⟨xs,hq⟩,q⟩:=q1
 subst e
 cases r1
 obtain⟨its,rv,p,hz⟩:=I1.tuple hq
 refine wpAny_pyIter_tuple (show s1.heap.IsTuple a its.toArray from p) ?_
 refine⟨s1.heap.objs.size,[s1.heap.objs.size],_,_,H1,rfl,I1.kept (t':=s1.toks) fun b o e=>Heap.get?_push_of_some _ e,turn_tuple a _,⟨_,Heap.get?_push_size _ rfl,rfl,rfl⟩,fun b hb=>?_,q⟩
 have e:b=s1.heap.objs.size:=by simpa using hb
 subst e
 exact I1.fpOk (Nat.le_refl _) (I1.hok.fresh (Nat.le_refl _))
theorem range_it {pins:List (Addr×Obj)}{σ:St}{H:Hp}{s:Shared}{R:It→Hp→Prop}{E:Value→Shared→Prop}{lo hi:Int}{t u v:Tok}{tk:Nat}(I:Inv X pins σ H s) (h1:-(2^62)≤lo) (h2:lo<2^62) (h3:-(2^62)≤hi) (h4:hi<2^62)
  (q:R (Itr lo (hi-lo).toNat) H):wpAny (model X.prog X.w) X.A (pyIter (.ref s.heap.objs.size)) (PIE X pins σ tg R) E { s with heap:=s.heap.push { cls:=.type "range",data:=.fields #[.int lo t,.int hi u,.int 1 v] },toks:=tk }:=by
 refine wpAny_pyIter_range (IsRange.new ..) (small_one h1 h2 h3 h4) ?_
 have I1:Inv X pins σ H { s with heap:=s.heap.push { cls:=.type "range",data:=.fields #[.int lo t,.int hi u,.int 1 v] },toks:=tk }:=I.kept fun b o e=>Heap.get?_push_of_some _ e
 refine⟨(s.heap.push { cls:=.type "range",data:=.fields #[.int lo t,.int hi u,.int 1 v] }).objs.size,[(s.heap.push { cls:=.type "range",data:=.fields #[.int lo t,.int hi u,.int 1 v] }).objs.size],_,_,H,rfl,
  I1.kept (t':=tk) fun b o e=>Heap.get?_push_of_some _ e,turn_range _ lo (hi-lo).toNat,?_,fun b hb=>?_,q⟩
 ·have e1:lo+((0:Nat):Int)*1=lo:=by simp
  have e2:(((hi-lo).toNat:Nat):Int)-((0:Nat):Int)=Builtin.Range.rangeSize lo hi 1:=by rw[rangeSize_one];split <;> omega
  show IsRangeIter _ _ (lo+((0:Nat):Int)*1) ((((hi-lo).toNat:Nat):Int)-((0:Nat):Int)) 1
  rw[e1,e2]
  exact Heap.get?_push_size _ rfl
 ·have e:b =(s.heap.push { cls:=.type "range",data:=.fields #[.int lo t,.int hi u,.int 1 v] }).objs.size:=by simpa using hb
  subst e
  exact I1.fpOk (Nat.le_refl _) (I1.hok.fresh (Nat.le_refl _))
def iRng1 (ta:TA):TI:=fun σ H R=>ta σ H fun vs H1=>∃j:Int,vs=[.int j]∧-(2^62)≤j∧j<2^62∧R (Itr 0 j.toNat) H1
theorem pi_range1 {a:Expr}{ta:TA}{p pos:Pos}(hg:Gl X "range") (hm:X.mg "range" = none) (ha:PA X [a] ta) (hs:starEach [a] X.env=[(false,eval a X.env)]:=by rfl):PI X tg (.Call (.Name "range" p) [a] [] pos) (iRng1 ta):=by
 intro pins s σ H R I h
 refine Call_ (ld_blt I hg hm boot_range (PyProof.Rows.callWith_type1 (thn (ha pos pins s σ H _ I h) fun us s1 ⟨vs,H1,I1,r1,q1⟩=>?_) hs rfl))
 obtain⟨j,e,q1,q2,q⟩:=q1
 subst e
 cases r1 with
 | cons r rr =>
  cases rr
  obtain⟨t,rfl⟩:=r
  exact call_range_1 (range_it I1 (by omega) (by omega) q1 q2 (by simpa using q))
def tFor (wi:TI) (g:TG) (tb:TS):TS:=fun D σ H=>wi σ H fun J H1=>∃W:Nat→Nat→St→Hp→Prop,(∃m,W 0 m σ H1)∧∀i m σ H,W i m σ H →
 (J.stop i H∧D.nx σ H) ∨(J.go i H∧∃N:St→Hp→Prop,(∀σ' H',N σ' H'→∃m',m'<m∧W (i+1) m' σ' H')∧∀x H',J.yld i H x H'→g x σ H' fun σ2 H2=>tb { D with nx:=N,ct:=N,bk:=D.nx } σ2 H2)
def pinsAt (fp:List Addr) (h:Heap):List (Addr×Obj):=fp.filterMap fun b=>(h.get? b).map fun o=>(b,o)
theorem mem_pinsAt {fp:List Addr}{h:Heap}{b:Addr}{o:Obj}(hb:b∈fp) (e:h.get? b=some o):(b,o)∈pinsAt fp h:=List.mem_filterMap.mpr ⟨b,hb,by rw[e];rfl⟩
theorem of_pinsAt {fp:List Addr}{h:Heap}{p:Addr×Obj}(hp:p∈pinsAt fp h):p.1∈fp∧h.get? p.1=some p.2:=by
 obtain⟨b,hb,e⟩:=List.mem_filterMap.mp hp
 cases q:h.get? b with
 | none=>rw[q]at e;cases e
 | some o =>
  rw[q]at e
  have e':(b,o)=p:=Option.some.inj e
  subst e'
  exact⟨hb,q⟩
theorem Inv.pinned {pins:List (Addr×Obj)}{σ:St}{H:Hp}{s:Shared}{fp:List Addr}(I:Inv X pins σ H s) (hf:∀b∈fp,FpOk X pins H b) (ho:∀b∈fp,∃o,s.heap.get? b=some o∧∀v,o.data ≠ .cell v):Inv X (pins++pinsAt fp s.heap) σ H s :=
 I.pins_of fun p hp=>(List.mem_append.mp hp).elim (fun z=>I.pin p (List.mem_append_right _ z)) fun z=>by
  obtain⟨hb,e⟩:=of_pinsAt z
  obtain⟨f0,f1,f2,_⟩:=hf p.1 hb
  obtain⟨o,e',d⟩:=ho p.1 hb
  rw[e]at e';cases e'
  exact⟨e,f0,f1,f2,d⟩
theorem Inv.unpinned {pins pl:List (Addr×Obj)}{σ:St}{H:Hp}{s:Shared}(I:Inv X (pins++pl) σ H s):Inv X pins σ H s:=I.pins_of fun p hp=>I.pin p (List.mem_append_right _ (List.mem_append_left _ hp))
theorem ps_for {iter:Expr}{body:List Stmt}{wi:TI}{g:TG}{tb:TS}{pos:Pos}(hp:PassesOwn (model X.prog X.w) X.A X.env X.xe) (hc:X.calm=true) (hi:PI X tg iter wi) (hg:PG X tg g) (hb:PSs X body tb)
  (hs:∀x,foldedSetIterable iter X.env x=pure x:=by intro _;rfl):PS X (.For tg iter body [] pos) (tFor wi g tb):=by
 intro pins s σ H D I h
 refine wpAny_For (thn (hi pins s σ H _ I h) fun v s1 h1=>thn h1 fun itv s2 h2=>?_) hs
 obtain⟨it,fp,tn,J,H2,e,I2,T,st2,f2,W,⟨m0,w0⟩,turn⟩:=h2
 subst e
 have stat:∀{H':Hp},(∀b∈fp,H' b=none)→∀b∈fp,FpOk X pins H' b:=fun hn b hb=>⟨hn b hb,(f2 b hb).2⟩
 refine codeAny_forLoop_any (fun n s'=>∃i σ' H',Inv X pins σ' H' s'∧tn i s'.heap∧(∀b∈fp,H' b=none)∧W i n σ' H') ?_ m0 ⟨0,σ,H2,I2,st2,fun b hb=>(f2 b hb).1,w0⟩
 rintro n s3 ⟨i,σ3,H3,I3,st3,fr3,w3⟩
 rcases turn i n σ3 H3 w3 with⟨stop,qn⟩|⟨go,N,hN,step⟩
 ·refine wpAny_passesOwn hp (thn (T.done X rfl rfl rfl hc i pins s3 σ3 H3 X.xe I3 (stat fr3) st3 stop) fun r s4 ⟨hr,I4⟩=>?_)
  subst hr
  exact wpAny_execs_nil ⟨σ3,H3,I4,qn⟩
 ·refine wpAny_passesOwn hp (thn (T.item X rfl rfl rfl hc i pins s3 σ3 H3 X.xe I3 (stat fr3) st3 go) fun r s4 ⟨u,hr,h4⟩=>?_)
  subst hr
  refine wpAny_passesOwn hp (thn h4 fun _ s5 ⟨x,H5,I5,r5,y5,st5,fr5⟩=>?_)
  have I5':=I5.pinned (stat fr5) (T.obj _ _ st5)
  refine wpAny_passesOwn hp (thn (hg _ s5 σ3 H5 x u _ I5' r5 (step x H5 y5)) fun _ s6 ⟨σ6,H6,I6,q6⟩=>?_)
  refine wpAny_passesOwn hp (thn (hb _ s6 σ6 H6 _ I6 q6) fun f s7 q7=>?_)
  have again:∀{σ7:St}{H7:Hp},Inv X (pins++pinsAt fp s5.heap) σ7 H7 s7→N σ7 H7→∃m,m<n∧∃i σ' H',Inv X pins σ' H' s7∧tn i s7.heap∧(∀b∈fp,H' b=none)∧W i m σ' H':=fun {σ7 H7} I7 n7=>by
   obtain⟨m',hm,w7⟩:=hN σ7 H7 n7
   refine⟨m',hm,i+1,σ7,H7,I7.unpinned,T.keep _ _ _ st5 fun b hb o e=>(I7.pin (b,o) (List.mem_append_right _ (List.mem_append_right _ (mem_pinsAt hb e)))).1,fun b hb=>?_,w7⟩
   obtain⟨o,e,d⟩:=T.obj _ _ st5 b hb
   exact(I7.pin (b,o) (List.mem_append_right _ (List.mem_append_right _ (mem_pinsAt hb e)))).2.1
  cases f with
  | next=>obtain⟨σ7,H7,I7,n7⟩:=q7;exact again I7 n7
  | cont=>obtain⟨σ7,H7,I7,n7⟩:=q7;exact again I7 n7
  | brk=>obtain⟨σ7,H7,I7,q7⟩:=q7;exact⟨σ7,H7,I7.unpinned,q7⟩
  | ret v=>obtain⟨x7,σ7,H7,I7,r7,q7⟩:=q7;exact⟨x7,σ7,H7,I7.unpinned,r7,q7⟩
end
theorem for_list {K:PySem.W.Frag}{a:Addr}{xs:List V}{g:TG}{tb:TS}{D:Ends}{σ:St}{H:Hp}(Pv:Nat→St→Hp→Prop) (h0:Pv 0 σ H) (hl:∀i σ H,i≤xs.length→Pv i σ H→SqL K H a xs)
  (hs:∀i x σ H,xs[i]? = some x→Pv i σ H→g x σ H fun σ2 H2=>tb { D with nx:=Pv (i+1),ct:=Pv (i+1),bk:=D.nx } σ2 H2) (hd:∀σ H,Pv xs.length σ H→D.nx σ H) :
  ∃W:Nat→Nat→St→Hp→Prop,(∃m,W 0 m σ H)∧∀i m σ H,W i m σ H →
   ((Itl K a).stop i H∧D.nx σ H) ∨((Itl K a).go i H∧∃N:St→Hp→Prop,(∀σ' H',N σ' H'→∃m',m'<m∧W (i+1) m' σ' H')∧∀x H',(Itl K a).yld i H x H'→g x σ H' fun σ2 H2=>tb { D with nx:=N,ct:=N,bk:=D.nx } σ2 H2):=by
 refine⟨fun i m σ H=>m=xs.length-i∧i≤xs.length∧Pv i σ H,⟨xs.length,by simp,Nat.zero_le _,h0⟩,?_⟩
 rintro i m σ H ⟨rfl,hi,p⟩
 have q:=hl i σ H hi p
 by_cases hlt:i<xs.length
 ·refine .inr ⟨⟨xs,xs[i],q,by simp[hlt]⟩,Pv (i+1),fun σ' H' p'=>⟨xs.length-(i+1),by omega,rfl,hlt,p'⟩,fun x H' y=>?_⟩
  obtain⟨e,y⟩:=y
  subst e
  exact hs i x σ _ (y xs q) p
 ·have e:i=xs.length:=by omega
  subst e
  exact .inl ⟨⟨xs,q,Nat.le_refl _⟩,hd σ H p⟩
theorem for_tup {K:PySem.W.Frag}{a:Addr}{xs:List V}{g:TG}{tb:TS}{D:Ends}{σ:St}{H:Hp}(Pv:Nat→St→Hp→Prop) (h0:Pv 0 σ H) (hl:∀i σ H,i≤xs.length→Pv i σ H→SqT K H a xs)
  (hs:∀i x σ H,xs[i]? = some x→Pv i σ H→g x σ H fun σ2 H2=>tb { D with nx:=Pv (i+1),ct:=Pv (i+1),bk:=D.nx } σ2 H2) (hd:∀σ H,Pv xs.length σ H→D.nx σ H) :
  ∃W:Nat→Nat→St→Hp→Prop,(∃m,W 0 m σ H)∧∀i m σ H,W i m σ H →
   ((Itt K a).stop i H∧D.nx σ H) ∨((Itt K a).go i H∧∃N:St→Hp→Prop,(∀σ' H',N σ' H'→∃m',m'<m∧W (i+1) m' σ' H')∧∀x H',(Itt K a).yld i H x H'→g x σ H' fun σ2 H2=>tb { D with nx:=N,ct:=N,bk:=D.nx } σ2 H2):=by
 refine⟨fun i m σ H=>m=xs.length-i∧i≤xs.length∧Pv i σ H,⟨xs.length,by simp,Nat.zero_le _,h0⟩,?_⟩
 rintro i m σ H ⟨rfl,hi,p⟩
 have q:=hl i σ H hi p
 by_cases hlt:i<xs.length
 ·refine .inr ⟨⟨xs,xs[i],q,by simp[hlt]⟩,Pv (i+1),fun σ' H' p'=>⟨xs.length-(i+1),by omega,rfl,hlt,p'⟩,fun x H' y=>?_⟩
  obtain⟨e,y⟩:=y
  subst e
  exact hs i x σ _ (y xs q) p
 ·have e:i=xs.length:=by omega
  subst e
  exact .inl ⟨⟨xs,q,Nat.le_refl _⟩,hd σ H p⟩
theorem for_range {lo:Int}{n:Nat}{g:TG}{tb:TS}{D:Ends}{σ:St}{H:Hp}(Pv:Nat→St→Hp→Prop) (h0:Pv 0 σ H)
  (hs:∀i σ H,i<n→Pv i σ H→g (.int (lo+i)) σ H fun σ2 H2=>tb { D with nx:=Pv (i+1),ct:=Pv (i+1),bk:=D.nx } σ2 H2) (hd:∀σ H,Pv n σ H→D.nx σ H) :
  ∃W:Nat→Nat→St→Hp→Prop,(∃m,W 0 m σ H)∧∀i m σ H,W i m σ H →
   ((Itr lo n).stop i H∧D.nx σ H) ∨((Itr lo n).go i H∧∃N:St→Hp→Prop,(∀σ' H',N σ' H'→∃m',m'<m∧W (i+1) m' σ' H')∧∀x H',(Itr lo n).yld i H x H'→g x σ H' fun σ2 H2=>tb { D with nx:=N,ct:=N,bk:=D.nx } σ2 H2):=by
 refine⟨fun i m σ H=>m=n-i∧i≤n∧Pv i σ H,⟨n,by simp,Nat.zero_le _,h0⟩,?_⟩
 rintro i m σ H ⟨rfl,hi,p⟩
 by_cases hlt:i<n
 ·refine .inr ⟨hlt,Pv (i+1),fun σ' H' p'=>⟨n-(i+1),by omega,rfl,hlt,p'⟩,fun x H' y=>?_⟩
  obtain⟨e,y⟩:=y
  subst e y
  exact hs i σ _ hlt p
 ·have e:i=n:=by omega
  subst e
  exact .inl ⟨Nat.le_refl _,hd σ H p⟩
end L2
namespace L2
open PySem PySem.Spec PyProof.Rows
abbrev R2:=V→V→Hp→VK→Prop
def OpR (X:Cx) (f:Value→Value→Sem Value) (r:R2):Prop :=
 ∀(pins:List (Addr×Obj)) (s:Shared) (σ:St) (H:Hp) (x y:V) (v u:Value) (Q:VK),Inv X pins σ H s→RelV x v→RelV y u→r x y H Q →
  wpAny (model X.prog X.w) X.A (f v u) (EP X pins σ Q) X.xe s
def UnR (X:Cx) (f:Value→Sem Value) (r:V→Hp→VK→Prop):Prop :=
 ∀(pins:List (Addr×Obj)) (s:Shared) (σ:St) (H:Hp) (x:V) (v:Value) (Q:VK),Inv X pins σ H s→RelV x v→r x H Q →
  wpAny (model X.prog X.w) X.A (f v) (EP X pins σ Q) X.xe s
def CallR (X:Cx) (f:Value) (r:List V→Hp→VK→Prop):Prop :=
 ∀(pins:List (Addr×Obj)) (s:Shared) (σ:St) (H:Hp) (xs:List V) (us:List Value) (Q:VK),Inv X pins σ H s→Vals xs us→r xs H Q →
  wpAny (model X.prog X.w) X.A (call f us) (EP X pins σ Q) X.xe s
def TruR (X:Cx) (r:V→Hp→(Bool→Hp→Prop)→Prop):Prop :=
 ∀(pins:List (Addr×Obj)) (s:Shared) (σ:St) (H:Hp) (x:V) (v:Value) (Q:Bool→Hp→Prop),Inv X pins σ H s→RelV x v→r x H Q →
  wpAny (model X.prog X.w) X.A (truthy v) (TP X pins σ Q) X.xe s
def tOp (r:R2) (ta tb:TE):TE:=fun σ H Q=>ta σ H fun x H1=>tb σ H1 fun y H2=>r x y H2 Q
def tUn (r:V→Hp→VK→Prop) (ta:TE):TE:=fun σ H Q=>ta σ H fun x H1=>r x H1 Q
def rI (C:Int→Int→Prop) (g:Int→Int→V):R2:=fun x y H Q=>∃i j,x = .int i∧y = .int j∧C i j∧Q (g i j) H
def rI0 (g:Int→Int→V):R2:=fun x y H Q=>∃i j,x = .int i∧y = .int j∧Q (g i j) H
def rU (g:Int→V):V→Hp→VK→Prop:=fun x H Q=>∃i,x = .int i∧Q (g i) H
section
variable {X:Cx}{a b c:Expr}{ta tb tc:TE}{pos:Pos}
theorem binT (ha:PE X a ta) (hb:PE X b tb) {pins:List (Addr×Obj)}{s:Shared}{σ:St}{H:Hp}{R:V→V→Hp→Prop}(I:Inv X pins σ H s)
  (h:ta σ H fun x H1=>tb σ H1 fun y H2=>R x y H2) {Q:Value→Shared→Prop}{f:Value→Value→Sem Value}
  (hf:∀v u s2 x y H2,Inv X pins σ H2 s2→RelV x v→RelV y u→R x y H2→wpAny (model X.prog X.w) X.A (f v u) Q X.xe s2) :
  wpAny (model X.prog X.w) X.A (eval a X.env) (fun v s₁=>wpAny (model X.prog X.w) X.A (eval b X.env) (fun u s₂=>wpAny (model X.prog X.w) X.A (f v u) Q X.xe s₂) X.xe s₁) X.xe s:=by
 refine thn (ha pins s σ H _ I h) fun v s1 ⟨x,H1,I1,r1,q1⟩=>?_
 refine thn (hb pins s1 σ H1 _ I1 q1) fun u s2 ⟨y,H2,I2,r2,q2⟩=>?_
 exact hf v u s2 x y H2 I2 r1 r2 q2
theorem pe_op {op:Operator}{r:R2}(ho:OpR X (binaryOp op) r) (ha:PE X a ta) (hb:PE X b tb):PE X (.BinOp a op b pos) (tOp r ta tb):=by
 intro pins s σ H Q I h
 exact wpAny_BinOp (binT ha hb I h fun v u s2 x y H2 I2 rx ry q=>ho pins s2 σ H2 x y v u Q I2 rx ry q)
theorem pe_un {op:UnaryOp}{r:V→Hp→VK→Prop}(ho:UnR X (unaryOp op) r) (ha:PE X a ta):PE X (.UnaryOp op a pos) (tUn r ta):=by
 intro pins s σ H Q I h
 exact UnaryOp_ (thn (ha pins s σ H _ I h) fun v s1 ⟨x,H1,I1,r1,q1⟩=>ho pins s1 σ H1 x v Q I1 r1 q1)
theorem opI {f:Value→Value→Sem Value}{C:Int→Int→Prop}{g:Int→Int→Int}
  (rule:∀(i j:Int) (t u:Tok) (s:Shared) (Q:Value→Shared→Prop) (E:Value→Shared→Prop),C i j→Q (.int (g i j) s.toks) { s with toks:=s.toks+1 }→wpAny (model X.prog X.w) X.A (f (.int i t) (.int j u)) Q E s) :
  OpR X f (rI C fun i j=>.int (g i j)):=by
 intro pins s σ H x y v u Q I rx ry h
 obtain⟨i,j,rfl,rfl,hc,q⟩:=h
 obtain⟨t,rfl⟩:=rx
 obtain⟨t',rfl⟩:=ry
 exact rule i j t t' s _ _ hc ⟨.int (g i j),H,I.tok _,⟨_,rfl⟩,q⟩
theorem opI0 {f:Value→Value→Sem Value}{g:Int→Int→Int}
  (rule:∀(i j:Int) (t u:Tok) (s:Shared) (Q:Value→Shared→Prop) (E:Value→Shared→Prop),Q (.int (g i j) s.toks) { s with toks:=s.toks+1 }→wpAny (model X.prog X.w) X.A (f (.int i t) (.int j u)) Q E s) :
  OpR X f (rI0 fun i j=>.int (g i j)):=by
 intro pins s σ H x y v u Q I rx ry h
 obtain⟨i,j,rfl,rfl,q⟩:=h
 obtain⟨t,rfl⟩:=rx
 obtain⟨t',rfl⟩:=ry
 exact rule i j t t' s _ _ ⟨.int (g i j),H,I.tok _,⟨_,rfl⟩,q⟩
theorem opB0 {f:Value→Value→Sem Value}{g:Int→Int→Bool}
  (rule:∀(i j:Int) (t u:Tok) (s:Shared) (Q:Value→Shared→Prop) (E:Value→Shared→Prop),Q (.bool (g i j)) s→wpAny (model X.prog X.w) X.A (f (.int i t) (.int j u)) Q E s) :
  OpR X f (rI0 fun i j=>.bl (g i j)):=by
 intro pins s σ H x y v u Q I rx ry h
 obtain⟨i,j,rfl,rfl,q⟩:=h
 obtain⟨t,rfl⟩:=rx
 obtain⟨t',rfl⟩:=ry
 exact rule i j t t' s _ _ ⟨.bl (g i j),H,I,rfl,q⟩
def CPow (i j:Int):Prop:=0≤j∧j≤1000000∧i.natAbs<2^64
def CMul (i j:Int):Prop:=(-(2^64)<i∧i<2^64) ∨(-(2^64)<j∧j<2^64)
theorem CMul.ok {i j:Int}(h:CMul i j):IntMulOk i j:=by
 rcases h with⟨h1,h2⟩|⟨h1,h2⟩
 ·exact .of_left (intBits_le_64 h1 h2)
 ·exact .of_right (intBits_le_64 h1 h2)
theorem op_add:OpR X (binaryOp .Add) (rI0 fun i j=>.int (i+j)):=opI0 fun _ _ _ _ _ _ _ q=>add_int q
theorem op_sub:OpR X (binaryOp .Sub) (rI0 fun i j=>.int (i-j)):=opI0 fun _ _ _ _ _ _ _ q=>sub_int q
theorem op_mul:OpR X (binaryOp .Mult) (rI CMul fun i j=>.int (i*j)):=opI fun _ _ _ _ _ _ _ hc q=>mul_int q hc.ok
theorem op_mod:OpR X (binaryOp .Mod) (rI (fun _ j=>0<j) fun i j=>.int (i%j)):=opI fun i j _ _ _ _ _ hc q=>by
 have h1:(0:Int)<j:=hc
 exact mod_int' (by omega) (by rw[Int.fmod_eq_emod_of_nonneg i (by omega)];exact q)
theorem op_pow:OpR X (binaryOp .Pow) (rI CPow fun i j=>.int (i^j.toNat)):=opI fun _ _ _ _ _ _ _ hc q=>pow_int_small hc.1 hc.2.1 hc.2.2 q
theorem unI {f:Value→Sem Value}{g:Int→Int}
  (rule:∀(i:Int) (t:Tok) (s:Shared) (Q:Value→Shared→Prop) (E:Value→Shared→Prop),Q (.int (g i) s.toks) { s with toks:=s.toks+1 }→wpAny (model X.prog X.w) X.A (f (.int i t)) Q E s) :
  UnR X f (rU fun i=>.int (g i)):=by
 intro pins s σ H x v Q I rx h
 obtain⟨i,rfl,q⟩:=h
 obtain⟨t,rfl⟩:=rx
 exact rule i t s _ _ ⟨.int (g i),H,I.tok _,⟨_,rfl⟩,q⟩
theorem un_neg:UnR X (unaryOp .USub) (rU fun i=>.int (-i)):=unI fun _ _ _ _ _ q=>neg_int q
end
def scal:V→V→Bool
 | .non,.non=>true | .non,.int _=>true | .int _,.non=>true | .non,.bl _=>true | .bl _,.non=>true | .non,.str _=>true | .str _,.non=>true
 | .int _,.int _=>true | .bl _,.bl _=>true | .str _,.str _=>true | .byt _,.byt _=>true
 | .int _,.str _=>true | .str _,.int _=>true | .bl _,.str _=>true | .str _,.bl _=>true
 | _,_=>false
def rEq:R2:=fun x y H Q=>scal x y=true∧Q (.bl (decide (x=y))) H
def rNe:R2:=fun x y H Q=>scal x y=true∧Q (.bl (!decide (x=y))) H
theorem dec_int {i j:Int}:decide (V.int i=V.int j) =(i == j):=by
 rw[Bool.eq_iff_iff]
 simp
theorem dec_bl {i j:Bool}:decide (V.bl i=V.bl j) =(i == j):=by
 rw[Bool.eq_iff_iff]
 simp
theorem dec_str {i j:Str}:decide (V.str i=V.str j) =(i == j):=by
 rw[Bool.eq_iff_iff]
 simp
theorem dec_byt {i j:Array UInt8}:decide (V.byt i=V.byt j) =(i.toList == j.toList):=by
 rw[Bool.eq_iff_iff]
 cases i
 cases j
 simp
section
variable {X:Cx}{a b c:Expr}{ta tb tc:TE}{pos:Pos}
theorem fin_bl {pins:List (Addr×Obj)}{σ:St}{H:Hp}{s:Shared}{Q:VK}{k k':Bool}(I:Inv X pins σ H s) (q:Q (.bl k) H) (e:k=k'):EP X pins σ Q (.bool k') s:=by
 subst e
 exact⟨.bl k,H,I,rfl,q⟩
theorem op_eq:OpR X (compareOp .Eq) rEq:=by
 intro pins s σ H x y v u Q I rx ry h
 obtain⟨hs,q⟩:=h
 cases x with
 | non =>
  cases rx
  cases y with
  | non=>cases ry;exact PySem.EqNone.eq_none_none (fin_bl I q (by simp))
  | bl j=>cases ry;exact PySem.EqNone.eq_none_bool (fin_bl I q (by simp))
  | int j=>obtain⟨t',rfl⟩:=ry;exact PySem.EqNone.eq_none_int (fin_bl I q (by simp))
  | str j=>obtain⟨t',rfl⟩:=ry;exact PySem.EqNone.eq_none_str (fin_bl I q (by simp))
  | _=>exact absurd (show false=true from hs) Bool.false_ne_true
 | bl i =>
  cases rx
  cases y with
  | non=>cases ry;exact PySem.EqNone.eq_bool_none (fin_bl I q (by simp))
  | bl j=>cases ry;exact eq_bool (fin_bl I q dec_bl)
  | str j=>obtain⟨t',rfl⟩:=ry;exact PySem.EqMixed.eq_bool_str (fin_bl I q (by simp))
  | _=>exact absurd (show false=true from hs) Bool.false_ne_true
 | int i =>
  obtain⟨t,rfl⟩:=rx
  cases y with
  | non=>cases ry;exact PySem.EqNone.eq_int_none (fin_bl I q (by simp))
  | int j=>obtain⟨t',rfl⟩:=ry;exact eq_int (fin_bl I q dec_int)
  | str j=>obtain⟨t',rfl⟩:=ry;exact PySem.EqMixed.eq_int_str (fin_bl I q (by simp))
  | _=>exact absurd (show false=true from hs) Bool.false_ne_true
 | str i =>
  obtain⟨t,rfl⟩:=rx
  cases y with
  | non=>cases ry;exact PySem.EqNone.eq_str_none (fin_bl I q (by simp))
  | bl j=>cases ry;exact PySem.EqMixed.eq_str_bool (fin_bl I q (by simp))
  | int j=>obtain⟨t',rfl⟩:=ry;exact PySem.EqMixed.eq_str_int (fin_bl I q (by simp))
  | str j=>obtain⟨t',rfl⟩:=ry;exact eq_str (fin_bl I q dec_str)
  | _=>exact absurd (show false=true from hs) Bool.false_ne_true
 | byt i =>
  obtain⟨t,rfl⟩:=rx
  cases y with
  | byt j=>obtain⟨t',rfl⟩:=ry;exact PySem.W.eq_bytes (fin_bl I q dec_byt)
  | _=>exact absurd (show false=true from hs) Bool.false_ne_true
 | _=>cases y <;> exact absurd (show false=true from hs) Bool.false_ne_true
theorem op_ne:OpR X (compareOp .NotEq) rNe:=by
 intro pins s σ H x y v u Q I rx ry h
 obtain⟨hs,q⟩:=h
 cases x with
 | non =>
  cases rx
  cases y with
  | non=>cases ry;exact PySem.EqNone.ne_none_none (fin_bl I q (by simp))
  | bl j=>cases ry;exact PySem.EqNone.ne_none_bool (fin_bl I q (by simp))
  | int j=>obtain⟨t',rfl⟩:=ry;exact PySem.EqNone.ne_none_int (fin_bl I q (by simp))
  | str j=>obtain⟨t',rfl⟩:=ry;exact PySem.EqNone.ne_none_str (fin_bl I q (by simp))
  | _=>exact absurd (show false=true from hs) Bool.false_ne_true
 | bl i =>
  cases rx
  cases y with
  | non=>cases ry;exact PySem.EqNone.ne_bool_none (fin_bl I q (by simp))
  | bl j=>cases ry;exact ne_bool (fin_bl I q (congrArg not dec_bl))
  | str j=>obtain⟨t',rfl⟩:=ry;exact PySem.EqMixed.ne_bool_str (fin_bl I q (by simp))
  | _=>exact absurd (show false=true from hs) Bool.false_ne_true
 | int i =>
  obtain⟨t,rfl⟩:=rx
  cases y with
  | non=>cases ry;exact PySem.EqNone.ne_int_none (fin_bl I q (by simp))
  | int j=>obtain⟨t',rfl⟩:=ry;exact ne_int (fin_bl I q (congrArg not dec_int))
  | str j=>obtain⟨t',rfl⟩:=ry;exact PySem.EqMixed.ne_int_str (fin_bl I q (by simp))
  | _=>exact absurd (show false=true from hs) Bool.false_ne_true
 | str i =>
  obtain⟨t,rfl⟩:=rx
  cases y with
  | non=>cases ry;exact PySem.EqNone.ne_str_none (fin_bl I q (by simp))
  | bl j=>cases ry;exact PySem.EqMixed.ne_str_bool (fin_bl I q (by simp))
  | int j=>obtain⟨t',rfl⟩:=ry;exact PySem.EqMixed.ne_str_int (fin_bl I q (by simp))
  | str j=>obtain⟨t',rfl⟩:=ry;exact ne_str (fin_bl I q (congrArg not dec_str))
  | _=>exact absurd (show false=true from hs) Bool.false_ne_true
 | byt i =>
  obtain⟨t,rfl⟩:=rx
  cases y with
  | byt j=>obtain⟨t',rfl⟩:=ry;exact PySem.W.ne_bytes (fin_bl I q (congrArg not dec_byt))
  | _=>exact absurd (show false=true from hs) Bool.false_ne_true
 | _=>cases y <;> exact absurd (show false=true from hs) Bool.false_ne_true
theorem op_lt:OpR X (compareOp .Lt) (rI0 fun i j=>.bl (decide (i<j))):=opB0 fun _ _ _ _ _ _ _ q=>lt_int q
theorem op_le:OpR X (compareOp .LtE) (rI0 fun i j=>.bl (decide (i≤j))):=opB0 fun _ _ _ _ _ _ _ q=>le_int q
theorem op_gt:OpR X (compareOp .Gt) (rI0 fun i j=>.bl (decide (j<i))):=opB0 fun _ _ _ _ _ _ _ q=>gt_int q
theorem op_ge:OpR X (compareOp .GtE) (rI0 fun i j=>.bl (decide (j≤i))):=opB0 fun _ _ _ _ _ _ _ q=>ge_int q
theorem nomark (b:Expr) {op:CmpOp}(h:op ≠ .In:=by decide) (h2:op ≠ .NotIn:=by decide):behindInMarks op b=false:=by
 have e1:(op == CmpOp.In)=false:=by cases op <;> first|rfl|exact absurd rfl h
 have e2:(op == CmpOp.NotIn)=false:=by cases op <;> first|rfl|exact absurd rfl h2
 cases b <;> simp[behindInMarks,e1,e2]
theorem pe_cmpR {op:CmpOp}{r:R2}(ho:OpR X (compareOp op) r) (ha:PE X a ta) (hb:PE X b tb) (hm:behindInMarks op b=false):PE X (.Compare a [op] [b] pos) (tOp r ta tb):=by
 intro pins s σ H Q I h
 exact wpAny_Compare1 (binT ha hb I h fun v u s2 x y H2 I2 rx ry q=>ho pins s2 σ H2 x y v u Q I2 rx ry q) hm
def tTest (t:TE):TT:=fun σ H Q=>t σ H fun x H'=>∃k,x = .bl k∧Q k H'
theorem pt_cmpR {op:CmpOp}{r:R2}(ho:OpR X (compareOp op) r) (ha:PE X a ta) (hb:PE X b tb) (hm:behindInMarks op b=false):PT X (.Compare a [op] [b] pos) (tTest (tOp r ta tb)):=by
 intro pins s σ H Q I h
 refine wpAny_isTrue_Compare1 (thn (ha pins s σ H _ I h) fun v s1 ⟨x,H1,I1,r1,q1⟩=>thn (hb pins s1 σ H1 _ I1 q1) fun u s2 ⟨y,H2,I2,r2,q2⟩ =>
  thn (ho pins s2 σ H2 x y v u _ I2 r1 r2 q2) fun c s3 ⟨z,H3,I3,r3,k,e,q3⟩=>?_) hm
 subst e
 cases r3
 exact wpAny_truthy_bool ⟨H3,I3,q3⟩
def tChain (r r':R2) (ta tb tc:TE):TE:=fun σ H Q=>ta σ H fun x H1=>tb σ H1 fun y H2=>r x y H2 fun z H3=>∃k,z = .bl k ∧
 (if k=true then tc σ H3 fun w' H4=>r' y w' H4 Q else Q (.bl false) H3)
theorem pe_chain {op op':CmpOp}{r r':R2}(ho:OpR X (compareOp op) r) (ho':OpR X (compareOp op') r') (ha:PE X a ta) (hb:PE X b tb) (hc:PE X c tc)
  (hm:lastMarks [op,op'] [b,c]=false:=by with_unfolding_all rfl):PE X (.Compare a [op,op'] [b,c] pos) (tChain r r' ta tb tc):=by
 intro pins s σ H Q I h
 refine Compare_chain (thn (ha pins s σ H _ I h) fun v s1 ⟨x,H1,I1,r1,q1⟩=>chain_link (thn (hb pins s1 σ H1 _ I1 q1) fun u s2 ⟨y,H2,I2,r2,q2⟩ =>
  thn (ho pins s2 σ H2 x y v u _ I2 r1 r2 q2) fun d s3 ⟨z,H3,I3,r3,k,e,q3⟩=>?_)) hm
 subst e
 cases r3
 refine wpAny_truthy_bool ?_
 cases k with
 | false=>exact ite_ff ⟨.bl false,H3,I3,rfl,q3⟩
 | true=>exact ite_tt (chain_last (thn (hc pins s3 σ H3 _ I3 q3) fun w' s4 ⟨z',H4,I4,r4,q4⟩=>ho' pins s4 σ H4 y z' u w' Q I4 r2 r4 q4))
theorem pt_chain {op op':CmpOp}{r r':R2}(ho:OpR X (compareOp op) r) (ho':OpR X (compareOp op') r') (ha:PE X a ta) (hb:PE X b tb) (hc:PE X c tc)
  (hm:lastMarks [op,op'] [b,c]=false:=by with_unfolding_all rfl):PT X (.Compare a [op,op'] [b,c] pos) (tTest (tChain r r' ta tb tc)):=by
 intro pins s σ H Q I h
 refine isTrue_chain (thn (ha pins s σ H _ I h) fun v s1 ⟨x,H1,I1,r1,q1⟩=>test_link (thn (hb pins s1 σ H1 _ I1 q1) fun u s2 ⟨y,H2,I2,r2,q2⟩ =>
  thn (ho pins s2 σ H2 x y v u _ I2 r1 r2 q2) fun d s3 ⟨z,H3,I3,r3,k,e,q3⟩=>?_)) hm
 subst e
 cases r3
 refine wpAny_truthy_bool ?_
 cases k with
 | false =>
  obtain⟨k',e',q'⟩:=q3
  cases e'
  exact ite_ff ⟨H3,I3,q'⟩
 | true =>
  refine ite_tt (test_last (thn (hc pins s3 σ H3 _ I3 q3) fun w' s4 ⟨z',H4,I4,r4,q4⟩=>thn (ho' pins s4 σ H4 y z' u w' _ I4 r2 r4 q4) fun d' s5 ⟨z2,H5,I5,r5,k2,e2,q5⟩=>?_))
  subst e2
  cases r5
  exact wpAny_truthy_bool ⟨H5,I5,q5⟩
def TruV (K:PySem.W.Frag) (x:V) (H:Hp) (k:Bool):Prop :=
 match x with
 | .non=>k=false
 | .bl b=>k=b
 | .int i=>k =(i != 0)
 | .str y=>y.length≤sizeLine∧k =((y.length:Int) != 0)
 | .byt y=>y.size≤sizeLine∧k =((y.size:Int) != 0)
 | .ref p=>(∃xs,SqL K H p xs∧k = !xs.isEmpty) ∨(∃xs,SqT K H p xs∧k = !xs.isEmpty) ∨ ∃kvs,H p=some (.dK kvs)∧k = !kvs.isEmpty
 | _=>False
theorem isEmpty_kv {κ:Type}{kvs:List (κ×V)}{vs:List (κ×Value)}(r:KV kvs vs):(!vs.isEmpty) = !kvs.isEmpty:=by
 cases r <;> rfl
theorem isEmpty_of {xs:List V}{its:List Value}(r:Vals xs its):(!its.toArray.isEmpty) = !xs.isEmpty:=by
 cases r <;> simp
theorem line63:(sizeLine:Nat)<2^63:=by rw[sizeLine_eq];decide
theorem tru_ok:TruR X (fun x H Q=>∃k,TruV X.K x H k∧Q k H):=by
 intro pins s σ H x v Q I rx h
 obtain⟨k,e,q⟩:=h
 have hl:=line63
 have hs:sizeLine=16777216:=sizeLine_eq
 cases x with
 | non =>
  cases rx
  have e':k=false:=e
  subst e'
  exact truthy_none ⟨H,I,q⟩
 | bl b =>
  cases rx
  have e':k=b:=e
  subst e'
  exact wpAny_truthy_bool ⟨H,I,q⟩
 | int i =>
  obtain⟨t,rfl⟩:=rx
  have e':k =(i != 0):=e
  subst e'
  exact PySem.P.truthy_int ⟨H,I,q⟩
 | str y =>
  obtain⟨t,rfl⟩:=rx
  obtain⟨hy,e'⟩ : y.length≤sizeLine∧k =((y.length:Int) != 0):=e
  subst e'
  exact PySem.P.truthy_str (by omega) ⟨H,I.tok _,q⟩
 | byt y =>
  obtain⟨t,rfl⟩:=rx
  obtain⟨hy,e'⟩ : y.size≤sizeLine∧k =((y.size:Int) != 0):=e
  subst e'
  exact PySem.W.truthy_bytes (by omega) ⟨H,I.tok _,q⟩
 | ref p =>
  cases rx
  have e':(∃xs,SqL X.K H p xs∧k = !xs.isEmpty) ∨(∃xs,SqT X.K H p xs∧k = !xs.isEmpty) ∨ ∃kvs,H p=some (.dK kvs)∧k = !kvs.isEmpty:=e
  rcases e' with⟨xs,hx,e'⟩|⟨xs,hx,e'⟩|⟨kvs,hx,e'⟩
  ·subst e'
   obtain⟨its,r,pl,hz⟩:=I.list hx
   have hlen:=r.length
   exact wpAny_truthy_list pl.isList (by simp only[List.size_toArray];omega) ⟨H,I.tok _,by rw[isEmpty_of r];exact q⟩
  ·subst e'
   obtain⟨its,r,pl,hz⟩:=I.tuple hx
   have hlen:=r.length
   exact truthy_tuple pl (by simp only[List.size_toArray];omega) ⟨H,I.tok _,by rw[isEmpty_of r];exact q⟩
  ·subst e'
   obtain⟨hz,hS,vs,r,m⟩ : kvs.length≤sizeLine∧(p == sysModules)=false∧∃vs,KV kvs vs∧s.heap.DictOf (mixKind X.prog X.w) p vs:=I.hok p _ hx
   have hlen:kvs.length=vs.length:=Paired.length r
   exact wpAny_truthy_dict hS m (by omega) ⟨H,I.tok _,by rw[isEmpty_kv r];exact q⟩
 | _=>exact(show False from e).elim
theorem pt_truth (ha:PE X a ta) (he:∀whole,isTrue a X.env whole =(do let v ← whole;standAt a.pos;holding [v] (truthy v))) :
  PT X a (fun σ H Q=>ta σ H fun x H'=>∃k,TruV X.K x H' k∧Q k H'):=by
 intro pins s σ H Q I h
 exact isTrue_plain (thn (ha pins s σ H _ I h) fun v s1 ⟨x,H1,I1,r1,q1⟩=>tru_ok pins s1 σ H1 x v Q I1 r1 q1) (he _)
theorem op_add_str:OpR X (binaryOp .Add) (fun x y H Q=>∃i j,x = .str i∧y = .str j∧i.length+j.length≤sizeLine∧Q (.str (i++j)) H):=by
 intro pins s σ H x y v u Q I rx ry h
 obtain⟨i,j,rfl,rfl,hz,q⟩:=h
 obtain⟨t,rfl⟩:=rx
 obtain⟨t',rfl⟩:=ry
 exact add_str (fun t' tk=>⟨.str (i++j),H,I.tok _,⟨_,rfl⟩,q⟩) hz
theorem vals1 {x:V}{us:List Value}(r:Vals [x] us):∃u,us=[u]∧RelV x u:=by
 cases r with
 | cons r1 r2=>cases r2;exact⟨_,rfl,r1⟩
theorem vals2 {x y:V}{us:List Value}(r:Vals [x,y] us):∃u w',us=[u,w']∧RelV x u∧RelV y w':=by
 cases r with
 | cons r1 r2 =>
  cases r2 with
  | cons r3 r4=>cases r4;exact⟨_,_,rfl,r1,r3⟩
theorem call_abs:CallR X (.builtin "abs") (fun xs H Q=>∃i,xs=[.int i]∧Q (.int (if i<0 then -i else i)) H):=by
 intro pins s σ H xs us Q I r h
 obtain⟨i,rfl,q⟩:=h
 obtain⟨u,rfl,t,rfl⟩:=vals1 r
 exact call_abs_int fun u tk=>⟨.int (if i<0 then -i else i),H,I.tok _,⟨_,rfl⟩,q⟩
theorem call_max2 (hc:X.calm=true):CallR X (.builtin "max") (fun xs H Q=>∃i j,xs=[.int i,.int j]∧Q (.int (if j > i then j else i)) H):=by
 intro pins s σ H xs us Q I r h
 obtain⟨i,j,rfl,q⟩:=h
 obtain⟨u,w',rfl,⟨t,rfl⟩,⟨t',rfl⟩⟩:=vals2 r
 refine max_two_ints (I.ok.hd hc) fun h' tk k=>⟨_,H,I.kept k,?_,q⟩
 by_cases hj:j > i
 ·rw[if_pos hj,if_pos hj];exact⟨_,rfl⟩
 ·rw[if_neg hj,if_neg hj];exact⟨_,rfl⟩
theorem call_int1:CallR X (.type "int") (fun xs H Q=>(∃i,xs=[.int i]∧Q (.int i) H) ∨ ∃k,xs=[.bl k]∧Q (.int (if k then 1 else 0)) H):=by
 intro pins s σ H xs us Q I r h
 rcases h with⟨i,rfl,q⟩|⟨k,rfl,q⟩
 ·obtain⟨u,rfl,t,rfl⟩:=vals1 r
  exact call_int_int ⟨.int i,H,I,⟨_,rfl⟩,q⟩
 ·obtain⟨u,rfl,r1⟩:=vals1 r
  cases r1
  exact call_int_bool ⟨.int (if k then 1 else 0),H,I.tok _,⟨_,rfl⟩,q⟩
theorem call_str_int:CallR X (.type "str") (fun xs H Q=>∃i,xs=[.int i]∧i.natAbs.log2<1920∧Q (.str (toString i)) H):=by
 intro pins s σ H xs us Q I r h
 obtain⟨i,rfl,hz,q⟩:=h
 obtain⟨u,rfl,t,rfl⟩:=vals1 r
 exact PySem.P.str_of_int hz ⟨.str _,H,I.tok _,⟨_,rfl⟩,q⟩
end
end L2
namespace L2
open PySem PySem.Spec PyProof.Rows
structure ObjM (h:Heap) (x dx C:Addr) (mA:Str→Option Value):Prop where
 obj:h.get? x=some (PySem.W.instObj C dx)
 ns:h.Ns1 dx mA
 ne:dx≠x
theorem lookIn_ns {h:Heap}{dx:Addr}{mA:Str→Option Value}(n:h.Ns1 dx mA):∃od,h.get? dx=some od∧∀name,PySem.W.lookIn name od=some (mA name):=by
 obtain⟨o,es,ep,ho,hd,hk,_,hm⟩:=n
 refine⟨o,ho,fun name=>?_⟩
 have e:=hm name
 unfold nsFind findBy at e
 rw[← Array.find?_toList]at e
 unfold PySem.W.lookIn
 rw[hd]
 dsimp only
 split
 ·rename_i y q
  rw[q]at e
  exact congrArg some e
 ·rename_i q
  rw[q]at e
  have a:es.toList.any (·.refKey)=false:=by
   rw[List.any_eq_false]
   intro y hy
   obtain⟨z,t,hkey⟩:=hk y (Array.mem_toList_iff.mp hy)
   simp[DictEntry.refKey,hkey]
  have a':¬ es.toList.any (·.refKey)=true:=by rw[a];exact Bool.false_ne_true
  rw[if_neg a']
  exact congrArg some e
theorem ObjM.look {h:Heap}{x dx C:Addr}{mA:Str→Option Value}(I:ObjM h x dx C mA):∃od,PySem.W.InstAt h x (PySem.W.instObj C dx) C (some od)∧∀name,PySem.W.lookIn name od=some (mA name) :=
 let ⟨od,ho,hl⟩:=lookIn_ns I.ns
 ⟨od,⟨I.obj,rfl,rfl,ho⟩,hl⟩
section
variable {prog:Program}{w:World}{A:Around}{E:Value→Shared→Prop}{s:Shared}{K:PySem.W.Frag}{x dx C f:Addr}{mA:Str→Option Value}{name:Str}{v:Value}
end
section
variable {P:Program}{w:World}{H H':Hp}{h h':Heap}{a C dx:Addr}{fs fs':List (Str×V)}
theorem ins_get (hok:HOk P w H h) (e:H a=some (.ins C dx fs)):∃mA,ObjM h a dx C mA∧(∀f,RelO (fs.lookup f) (mA f))∧PySem.Within mA (fs.map (·.1))∧fs.length≤1000∧H dx=some (.own a):=by
 obtain⟨d,z,ne,ob,mA,n,r,q⟩:=(show ObjOk P w H h a (.ins C dx fs) from hok a _ e)
 exact⟨mA,⟨ob,n,ne⟩,r,q,z,d⟩
end
structure Cls (K:PySem.W.Frag) (C:Addr):Prop where
 pg:PySem.W.plainGet K C Str.empty=true
 hd:PySem.W.hasDictIn K C=true
 po:PySem.W.plainOver K C=true
 sa:PySem.W.findIn K (.ref C) "__setattr__" = some (some (.builtin "object.__setattr__"))
theorem Cls.get {K:PySem.W.Frag}{C:Addr}(c:Cls K C) (f:Str):PySem.W.plainGet K C f=true:=c.pg
section
variable {X:Cx}{pins:List (Addr×Obj)}{σ:St}{H:Hp}{s:Shared}{a C dx:Addr}{fs:List (Str×V)}{f:Str}{v:V}{A:Around}{E:Value→Shared→Prop}
end
section
variable {X:Cx}{o e value:Expr}{f:Str}{pos pos' tpos:Pos}{ta tv:TE}
end
section
variable {X:Cx}{pins:List (Addr×Obj)}{σ:St}{H:Hp}{s:Shared}{A:Around}{E:Value→Shared→Prop}{Q:Value→Shared→Prop}{c:Value}{b:Bool}
inductive TyOf (K:PySem.W.Frag) (H:Hp):V→Value→Prop where
 | non:TyOf K H .non (.type "NoneType")
 | bl (x:Bool):TyOf K H (.bl x) (.type "bool")
 | int (i:Int):TyOf K H (.int i) (.type "int")
 | str (x:Str):TyOf K H (.str x) (.type "str")
 | flt (x:UInt64):TyOf K H (.flt x) (.type "float")
 | lst {a:Addr}{xs:List V}(e:H a=some (.lst xs)):TyOf K H (.ref a) (.type "list")
 | frz {a:Addr}{o:Obj}{xs:List V}(e:H a=some (.frz o (.lst xs))):TyOf K H (.ref a) (.type "list")
 | tup {a:Addr}{xs:List V}(e:H a=some (.tup xs)):TyOf K H (.ref a) (.type "tuple")
 | dK {a:Addr}{kvs:List (Key×V)}(e:H a=some (.dK kvs)):TyOf K H (.ref a) (.type "dict")
 | dT {a:Addr}{kvs:List (List Key×V)}(e:H a=some (.dT kvs)):TyOf K H (.ref a) (.type "dict")
 | ins {a C dx:Addr}{fs:List (Str×V)}(e:H a=some (.ins C dx fs)) (cl:Cls K C) (ha:PySem.W.findIn K (.ref C) "__class__" = some (some (.builtin "object.__class__")))
   (hn:PySem.W.specialIn K (.builtin "object.__class__") "__get__" = some (some (.builtin "getset_descriptor.__get__"))) (htk:PySem.W.takesIn K (.builtin "object.__class__")=some true)
   (hm:PySem.W.mroIn K C (.type "object")=some true):TyOf K H (.ref a) (.ref C)
theorem isinst_ok {x:V}{u t:Value}(I:Inv X pins σ H s) (rx:RelV x u) (ty:TyOf X.K H x t) (e:PySem.W.kitOne X.K t c=some b) (h:∀tk,Q (.bool b) { s with toks:=tk }) :
  wpAny (model X.prog X.w) A (call (.builtin "isinstance") [u,c]) Q E s:=by
 cases ty with
 | non=>cases (show u=Value.none from rx);exact PySem.W.kia_one PySem.W.kitx_none I.kIn True.intro e (fun z=>nomatch z) h
 | bl y=>cases (show u=Value.bool y from rx);exact PySem.W.kia_one PySem.W.kitx_bool I.kIn True.intro e (fun z=>nomatch z) h
 | int i=>obtain⟨t,q⟩:=(show ∃t,u=Value.int i t from rx);cases q;exact PySem.W.kia_one PySem.W.kitx_int I.kIn True.intro e (fun z=>nomatch z) h
 | str y=>obtain⟨t,q⟩:=(show ∃t,u=Value.str y t from rx);cases q;exact PySem.W.kia_one PySem.W.kitx_str I.kIn True.intro e (fun z=>nomatch z) h
 | flt y=>obtain⟨t,q⟩:=(show ∃t,u=Value.float y t from rx);cases q;exact PySem.W.kia_one PySem.W.kitx_float I.kIn True.intro e (fun z=>nomatch z) h
 | @lst a xs ea =>
  cases (show u=Value.ref a from rx)
  obtain⟨_,_,n,_,h1⟩:=(show ObjOk X.prog X.w H s.heap a (.lst xs) from I.hok a _ ea)
  exact PySem.W.kia_one PySem.W.kitx_list I.kIn ⟨_,h1,rfl⟩ e (fun z=>nomatch z) h
 | @frz a ob xs ea =>
  cases (show u=Value.ref a from rx)
  obtain⟨_,_,_,n,_,h1⟩:=(show ObjOk X.prog X.w H s.heap a (.frz ob (.lst xs)) from I.hok a _ ea)
  exact PySem.W.kia_one PySem.W.kitx_list I.kIn ⟨_,h1,rfl⟩ e (fun z=>nomatch z) h
 | @tup a xs ea =>
  cases (show u=Value.ref a from rx)
  obtain⟨_,_,_,p⟩:=(show ObjOk X.prog X.w H s.heap a (.tup xs) from I.hok a _ ea)
  obtain⟨o,h1,h2,_⟩:=p
  exact PySem.W.kia_one PySem.W.kitx_tuple I.kIn ⟨o,h1,h2⟩ e (fun z=>nomatch z) h
 | @dK a kvs ea =>
  cases (show u=Value.ref a from rx)
  obtain⟨_,_,vs,_,p⟩:=(show ObjOk X.prog X.w H s.heap a (.dK kvs) from I.hok a _ ea)
  obtain⟨o,es,ep,h1,h2,_⟩:=p
  exact PySem.W.kia_one PySem.W.kitx_dict I.kIn ⟨o,h1,h2.1⟩ e (fun z=>nomatch z) h
 | @dT a kvs ea =>
  cases (show u=Value.ref a from rx)
  obtain⟨_,_,xs,_,o,es,ep,h1,h2,_⟩:=(show ObjOk X.prog X.w H s.heap a (.dT kvs) from I.hok a _ ea)
  exact PySem.W.kia_one PySem.W.kitx_dict I.kIn ⟨o,h1,h2.1⟩ e (fun z=>nomatch z) h
 | @ins a C dx fs ea cl ha hn htk hm =>
  cases (show u=Value.ref a from rx)
  obtain⟨mA,O,_⟩:=ins_get I.hok ea
  obtain⟨od,J,_⟩:=O.look
  exact PySem.W.kia_one (PySem.W.kitx_own (cl.get _) cl.hd ha hn htk hm) I.kIn J e (fun z=>nomatch z) h
end
end L2
namespace L2
open PySem PySem.Spec PyProof.Rows
structure Room (k:Nat) (A:Around):Prop where
 hd:A.handled=none
 dp:A.depth+3*k+5<recursionLimit
 un:A.units+16*k+200<cLine
 gd:A.guards=some []
theorem Room.mono {j k:Nat}{A:Around}(r:Room k A) (h:j≤k):Room j A:=⟨r.hd,by have:=r.dp;omega,by have:=r.un;omega,r.gd⟩
theorem guards_deeper {A:Around}{env:Env}(h:A.guards=some []):(A.deeper env).guards=some []:=by
 first|exact h|simp[Around.deeper,Around.under,Code.guards,Code.isGuard,pushGuards,h]
theorem Room.deeper {k:Nat}{A:Around}(r:Room (k+1) A) (env:Env):Room k (A.deeper env) :=
 ⟨r.hd,by have:=r.dp;show A.depth+1+3*k+5<_;omega,by have:=r.un;show A.units+3+16*k+200<_;omega,guards_deeper r.gd⟩
theorem Room.depth {k:Nat}{A:Around}(r:Room k A):A.depth<recursionLimit:=by have:=r.dp;omega
theorem Room.units {k:Nat}{A:Around}(r:Room k A):A.units+64<cLine:=by have:=r.un;omega
def tNil:TA:=fun _ H Q=>Q [] H
def tCons (ta:TE) (tr:TA):TA:=fun σ H Q=>ta σ H fun x H1=>tr σ H1 fun xs H2=>Q (x::xs) H2
section
variable {X:Cx}{e:Expr}{es:List Expr}{te:TE}{t:TA}{pos:Pos}
theorem pa_nil:PA X [] tNil:=fun _ _ _ _ H Q I h=>Calls.spliced_nil ⟨[],H,I,.nil,h⟩
theorem pa_cons (ha:PE X e te) (hr:PA X es t) (hs:starEach (e::es) X.env =(false,eval e X.env)::starEach es X.env:=by rfl):PA X (e::es) (tCons te t):=by
 intro pos pins s σ H Q I h
 rw[hs]
 show wpAny _ _ (spliced ((false,eval e X.env)::backTo pos (starEach es X.env))) _ _ s
 refine Calls.spliced_cons (thn (ha pins s σ H _ I h) fun u s1 ⟨x,H1,I1,r1,q1⟩=>?_)
 exact thn (hr pos pins s1 σ H1 _ I1 q1) fun us s2 ⟨xs,H2,I2,r2,q2⟩=>⟨x::xs,H2,I2,.cons r1 r2,q2⟩
def tTup (t:TA):TE:=fun σ H Q=>t σ H fun xs H1=>xs.length≤sizeLine∧∀p,H1 p=none→Q (.ref p) (upd H1 p (.tup xs))
def tLst (t:TA):TE:=fun σ H Q=>t σ H fun xs H1=>xs.length≤sizeLine∧∀p,H1 p=none→Q (.ref p) (upd H1 p (.lst xs))
theorem pe_tup {x1}(h:PA X es t):PE X (.Tuple es x1 pos) (tTup t):=by
 intro pins s σ H Q I hq
 refine wpAny_Tuple_spliced (thn (h pos pins s σ H _ I hq) fun us s1 ⟨xs,H1,I1,r,z,q⟩=>⟨by rw[← r.length];exact z,?_⟩)
 have hf:H1 s1.heap.objs.size=none:=I1.hok.fresh (Nat.le_refl _)
 refine⟨.ref s1.heap.objs.size,upd H1 s1.heap.objs.size (.tup xs),I1.laid (t':=s1.toks) (fun b u e=>Heap.get?_push_of_some _ e) (Nat.le_refl _) ?_,rfl,q _ hf⟩
 exact⟨z,us,r,⟨_,Heap.get?_push_size _ rfl,rfl,_,rfl⟩⟩
theorem pe_lst (h:PA X es t):PE X (.List es pos) (tLst t):=by
 intro pins s σ H Q I hq
 refine wpAny_List_spliced (thn (h pos pins s σ H _ I hq) fun us s1 ⟨xs,H1,I1,r,z,q⟩=>⟨by rw[← r.length];exact z,?_⟩)
 have hf:H1 s1.heap.objs.size=none:=I1.hok.fresh (Nat.le_refl _)
 refine⟨.ref s1.heap.objs.size,upd H1 s1.heap.objs.size (.lst xs),I1.laid (t':=s1.toks) (fun b u e=>Heap.get?_push_of_some _ e) (Nat.le_refl _) ?_,rfl,q _ hf⟩
 exact⟨z,us,0,r,Heap.get?_push_size _ rfl⟩
end
abbrev Sp:=List V→Hp→VK→XK→Prop
abbrev CXT:=List Env→Hp→Shared→XK→Value→Shared→Prop
structure Env0 (P:Program) (w:World) (K:PySem.W.Frag) (mg:Str→Option Value) (base:Heap) (A:Around) (outer:List Env) (s:Shared) (H:Hp):Prop where
 frames:A.frames=some outer
 mod:Mod K mg base
 bs:∀b o,base.get? b=some o→s.heap.get? b=some o∧H b=none
 bsz:base.objs.size≤s.heap.objs.size
 funs:s.heap.FunFrames base outer
 frf:∀b∈frs outer,H b=none
 hok:HOk P w H s.heap
 bare:AllBare s.gens
def CE (outer:List Env) (P:Program) (w:World) (H:Hp) (s:Shared) (Q:VK) (u:Value) (s':Shared):Prop :=
 ∃v H',s'.os=s.os∧AllBare s'.gens∧Un (frs outer) [] H H' s.heap s'.heap∧HOk P w H' s'.heap∧RelV v u∧Q v H'
def CR (CX:CXT) (outer:List Env) (P:Program) (w:World) (H:Hp) (s:Shared) (Q:VK) (E:XK) (r:Result) (s':Shared):Prop :=
 match r with
 | .ok (.ret u)=>CE outer P w H s Q u s'
 | .ok _=>False
 | .error e=>CX outer H s E e s'
structure FnOk (P:Program) (w:World) (K:PySem.W.Frag) (mg:Str→Option Value) (base:Heap) (CX:CXT) (k:Nat) (f:Addr) (fd:FuncData) (ps:List Str) (sp:Sp):Prop where
 len:∀vs H Q E,sp vs H Q E→vs.length=ps.length
 run:∀(A:Around) (outer:List Env) (s:Shared) (H:Hp) (args:Args) (us:List Value) (vs:List V) (Q:VK) (E:XK),Room k A→Env0 P w K mg base A outer s H→BindsTo s fd args (ps.zip us)→Vals vs us→sp vs H Q E →
  codeAny (model P w) A (.call (.ref f) args) (CR CX outer P w H s Q E) s
section
variable {X:Cx}{pins:List (Addr×Obj)}{σ:St}{H:Hp}{s s':Shared}
theorem Inv.env0 (I:Inv X pins σ H s):Env0 X.prog X.w X.K X.mg X.base X.A X.stack s H :=
 ⟨I.ok.frames,I.ok.mod,I.bs,Nat.le_trans I.ok.bsz I.sz,I.stack,I.stkFree,I.hok,I.bare⟩
theorem Inv.after {Q:VK}{u:Value}(I:Inv X pins σ H s) (h:CE X.stack X.prog X.w H s Q u s'):EP X pins σ Q u s':=by
 obtain⟨v,H',os,bare,un,hok,r,q⟩:=h
 obtain⟨hh,g,d,t,os'⟩:=s'
 obtain rfl:os'=s.os:=os
 exact⟨v,H',I.call (h':=hh) (g':=g) (d':=d) (t':=t) (ch:=[]) un hok bare (fun b z=>absurd z (by simp)),r,q⟩
end
def tCall (sp:Sp) (dvs:List V) (E:XK) (t:TA):TE:=fun σ H Q=>t σ H fun vs H1=>sp (vs++dvs) H1 Q E
def Binds (K:PySem.W.Frag) (fd:FuncData) (ps:List Str) (ds:List Value):Prop :=
 ∀(s:Shared) (us:List Value),K.In s.heap→(us++ds).length=ps.length→BindsTo s fd ⟨us,[]⟩ (ps.zip (us++ds))
theorem Binds.all {K:PySem.W.Frag}{fd:FuncData}{ps:List Str}(h:∀us:List Value,us.length=ps.length→bindArgs fd ⟨us,[]⟩=pure (ps.zip us)):Binds K fd ps []:=fun s us _ hl=>by
 rw[List.append_nil]at hl ⊢
 exact .of_eq (h us hl)
def Passes (CX:CXT) (X:Cx) (E:XK):Prop:=∀(pins:List (Addr×Obj)) (σ:St) (H:Hp) (s:Shared) (e:Value) (s':Shared),Inv X pins σ H s→CX X.stack H s E e s'→X.xe e s'
section
variable {X:Cx}{CX:CXT}{k:Nat}{f C:Addr}{fd:FuncData}{ps:List Str}{sp:Sp}{dvs:List V}{ds:List Value}{E:XK}{x m:Str}{p pos apos:Pos}{e o:Expr}{es:List Expr}{ta:TE}{t:TA}
theorem run_fn {pins:List (Addr×Obj)}{σ:St}{H:Hp}{s:Shared}{Q:VK}{us:List Value}{vs:List V}(F:FnOk X.prog X.w X.K X.mg X.base CX k f fd ps sp) (hr:Room k X.A) (hb:Binds X.K fd ps ds) (hd:Vals dvs ds) (hx:Passes CX X E)
  (I:Inv X pins σ H s) (r:Vals vs us) (h:sp (vs++dvs) H Q E):wpAny (model X.prog X.w) X.A (call (.ref f) us) (EP X pins σ Q) X.xe s:=by
 have r2:Vals (vs++dvs) (us++ds):=r.append hd
 have hl:(us++ds).length=ps.length:=by rw[← r2.length];exact F.len _ _ _ _ h
 refine wpAny_call (codeAny_mono (F.run X.A X.stack s H ⟨us,[]⟩ (us++ds) (vs++dvs) Q E hr I.env0 (hb s us I.kIn hl) r2 h) fun r s' hq=>?_)
 cases r with
 | error e=>exact hx pins σ H s e s' I hq
 | ok fl =>
  cases fl with
  | ret u=>exact I.after hq
  | next=>exact False.elim hq
  | brk=>exact False.elim hq
  | cont=>exact False.elim hq
theorem pe_call (F:FnOk X.prog X.w X.K X.mg X.base CX k f fd ps sp) (hr:Room k X.A) (hg:Gl X x) (hm:X.mg x=some (.ref f)) (hk:PySem.W.keepIn X.K (.ref f)=true) (hb:Binds X.K fd ps ds) (hd:Vals dvs ds) (hx:Passes CX X E)
  (ha:PA X (e::es) t) (hdb:(x ==("__debug__" : Str))=false:=by decide) (he:starEach (e::es) X.env =(false,eval e X.env)::starEach es X.env:=by rfl) (hpl:(backTo pos (starEach es X.env)).any (·.1)=false:=by rfl) :
  PE X (.Call (.Name x p) (e::es) [] pos) (tCall sp dvs E t):=by
 intro pins s σ H Q I h
 refine wpAny_Call_Name_kw (ld_glob I hg hm ?_ hdb)
 refine PySem.W.callWith_K (h₀:=X.base) I.ok.mod.kin hk (thn (ha pos pins s σ H _ I h) fun us s1 ⟨vs,H1,I1,r,q⟩=>⟨I1.kIn,?_⟩) he hpl
 exact run_fn F hr hb hd hx I1 r q
end
section
variable {X:Cx}{CX:CXT}{k:Nat}{f C:Addr}{fd:FuncData}{ps ks:List Str}{sp:Sp}{E:XK}{x m:Str}{p pos apos kpos:Pos}{e o:Expr}{es:List Expr}{kws:List Keyword}{te ta:TE}{t tk:TA}{nm:Option Str}
variable {g:List Value→List Value→List Value}{gV:List V→List V→List V}
end
structure FnScope (N P:List Str) (sc:Scope):Prop where
 kind:sc.kind = .function
 co:sc.isCoroutine=false
 gen:sc.isGenerator=false
 nd:N.Nodup
 pre:N.take P.length=P
 par:∀x∈P,sc.names.lookup x=some .local∨sc.names.lookup x=some .cell
 nofree:∀y∈sc.names,y.2 ≠ .free
theorem bindL_out {kindOf:Str→Option NameKind}{x:Str}:∀{binds:List (Str×Value)}{m:Str→Option Value},(∀v,(x,v)∉binds)→bindL kindOf binds m x=m x
 | [],_,_=>rfl
 | (n,v)::r,m,h=>by
  unfold bindL
  rw[bindL_out fun w hw=>h w (List.mem_cons_of_mem _ hw)]
  split
  ·have:x≠n:=by rintro rfl;exact h v List.mem_cons_self
   simp[this]
  ·rfl
theorem bindC_out {kindOf:Str→Option NameKind}{x:Str}:∀{binds:List (Str×Value)}{m:Str→Option Value},(∀v,(x,v)∉binds)→bindC kindOf binds m x=m x
 | [],_,_=>rfl
 | (n,v)::r,m,h=>by
  unfold bindC
  rw[bindC_out fun w hw=>h w (List.mem_cons_of_mem _ hw)]
  split
  ·rfl
  ·have:x≠n:=by rintro rfl;exact h v List.mem_cons_self
   simp[this]
theorem bindL_get {kindOf:Str→Option NameKind}{x:Str}{v:Value}:∀{P:List Str}{vs:List Value}{i:Nat}{m:Str→Option Value},P.Nodup→P[i]? = some x→vs[i]? = some v→kindOf x=some .local →
  bindL kindOf (P.zip vs) m x=some v
 | [],_,_,_,_,h,_,_=>by simp at h
 | _::_,[],_,_,_,_,h,_=>by simp at h
 | p::P,w::vs,0,m,nd,h1,h2,hk=>by
  simp at h1 h2;subst h1;subst h2
  show bindL kindOf ((p,w)::P.zip vs) m p=_
  unfold bindL
  rw[bindL_out fun v hv=>(List.nodup_cons.mp nd).1 (List.of_mem_zip hv).1,if_pos hk]
  simp
 | p::P,w::vs,i+1,m,nd,h1,h2,hk=>by
  show bindL kindOf ((p,w)::P.zip vs) m x=_
  unfold bindL
  exact bindL_get (i:=i) (List.nodup_cons.mp nd).2 (by simpa using h1) (by simpa using h2) hk
theorem bindC_get {kindOf:Str→Option NameKind}{x:Str}{v:Value}:∀{P:List Str}{vs:List Value}{i:Nat}{m:Str→Option Value},P.Nodup→P[i]? = some x→vs[i]? = some v→kindOf x≠some .local →
  bindC kindOf (P.zip vs) m x=some v
 | [],_,_,_,_,h,_,_=>by simp at h
 | _::_,[],_,_,_,_,h,_=>by simp at h
 | p::P,w::vs,0,m,nd,h1,h2,hk=>by
  simp at h1 h2;subst h1;subst h2
  show bindC kindOf ((p,w)::P.zip vs) m p=_
  unfold bindC
  rw[bindC_out fun v hv=>(List.nodup_cons.mp nd).1 (List.of_mem_zip hv).1,if_neg hk]
  simp
 | p::P,w::vs,i+1,m,nd,h1,h2,hk=>by
  show bindC kindOf ((p,w)::P.zip vs) m x=_
  unfold bindC
  exact bindC_get (i:=i) (List.nodup_cons.mp nd).2 (by simpa using h1) (by simpa using h2) hk
def start (N:List Str) (vs:List V):St:=vs.map some++List.replicate (N.length-vs.length) none
def cxOf (CX:CXT) (P:Program) (w:World) (K:PySem.W.Frag) (mg:Str→Option Value) (base:Heap) (N:List Str) (qual:Str) (scope:Scope) (f:Addr) (cd:Value) (A:Around) (outer:List Env) (s:Shared) (H:Hp) (E:XK):Cx where
 prog:=P
 w:=w
 K:=K
 mg:=mg
 base:=base
 A:=A.deeper (envOfC qual scope s.heap.objs.size f cd)
 N:=N
 s₀:=s
 H₀:=H
 env:=envOfC qual scope s.heap.objs.size f cd
 outer:=outer
 stack:=envOfC qual scope s.heap.objs.size f cd::outer
 ex:=[]
 calm:=true
 fn:=fun _=>true
 pn:=[]
 xe:=fun e s'=>wpAny (model P w) (A.deeper (envOfC qual scope s.heap.objs.size f cd)) (leaving (envOfC qual scope s.heap.objs.size f cd) e) (fun _ s''=>CX outer H s E e s'') (fun e' s''=>CX outer H s E e' s'') s'
theorem cell_has {sc:Scope}{n:Nat}{x:Str}(h:sc.names.lookup x=some .cell):∃c,(cellsFrom n sc.names []).lookup x=some c:=by
 have q:=PySem.W.cellsFrom_some sc.names n [] (.inl h)
 exact Option.isSome_iff_exists.mp q
theorem inv_start {CX:CXT}{P:Program}{w:World}{K:PySem.W.Frag}{mg:Str→Option Value}{base:Heap}{N ps:List Str}{qual:Str}{scope:Scope}{f:Addr}{cd:Value}{A:Around}{outer:List Env}{s s1:Shared}{H:Hp}{E:XK}{us:List Value}{vs:List V}
  (S:FnScope N ps scope) (hd:A.handled=none) (e0:Env0 P w K mg base A outer s H) (hl:vs.length=ps.length) (r:Vals vs us)
  (x:InCallC s s.heap.objs.size (bindL (envOfC qual scope s.heap.objs.size f cd).kindOf (ps.zip us) fun _=>none) (cellsFrom (s.heap.objs.size+1) scope.names []) (bindC (envOfC qual scope s.heap.objs.size f cd).kindOf (ps.zip us) fun _=>none) s1) :
  Inv (cxOf CX P w K mg base N qual scope f cd A outer s H E) [] (start N vs) H s1:=by
 have hpl:ps.length≤N.length:=by have:=congrArg List.length S.pre;rw[List.length_take]at this;omega
 obtain⟨h1,tk,rfl,hk⟩:=x.done
 have noA:∀b:Addr,b∉(cxOf CX P w K mg base N qual scope f cd A outer s H E).ex:=fun b z=>absurd (show b∈([]:List Addr) from z) (by simp)
 refine⟨⟨e0.mod,S.kind,rfl,rfl,Nat.le_refl _,fun y z c h1 h2=>?_,fun y hy=>?_,fun y c _ h=>?_,fun _=>hd,Around.frames_deeper e0.frames,.inr ⟨rfl,rfl⟩,fun b z=>absurd z (noA b),e0.bs,e0.bsz,fun b _ _=>noA b,fun b z=>absurd z (noA b),e0.funs,e0.frf⟩,
  rfl,e0.bare,Un.kept hk,⟨_,x.toInCall.ns,fun i y v h1 h2 h3=>?_⟩,fun y c h=>⟨_,x.cell y c h⟩,e0.hok.fresh (Nat.le_refl _),fun y c h=>?_,fun p hp=>absurd (show p∈([]:List (Addr×Obj)) from hp) (by simp),e0.hok.kept hk,?_⟩
 ·exact name_of_addr x.apart (PySem.mem_of_lookup h1) (PySem.mem_of_lookup h2)
 ·have hy:scope.names.lookup y=some .cell∨scope.names.lookup y=some .free:=hy
  rcases hy with hy|hy
  ·exact cell_has hy
  ·exact absurd rfl (S.nofree _ (PySem.mem_of_lookup hy))
 ·exact Nat.le_of_lt (x.above y c (PySem.mem_of_lookup h))
 ·have hi:i<vs.length:=by
   unfold start at h2
   by_cases hi:i<vs.length
   ·exact hi
   ·rw[List.getElem?_append_right (by simpa using hi)]at h2
    rw[List.getElem?_replicate]at h2
    split at h2 <;> cases h2
  have ha:vs[i]? = some v:=by
   unfold start at h2
   rw[List.getElem?_append_left (by simpa using hi),List.getElem?_map]at h2
   cases e:vs[i]? with
   | none=>rw[e]at h2;cases h2
   | some a=>rw[e]at h2;cases h2;rfl
  obtain⟨u,hu,rv⟩:=r.get ha
  have hp:ps[i]? = some y:=by
   rw[← S.pre,List.getElem?_take_of_lt (by omega)];exact h1
  have ndP:ps.Nodup:=by rw[← S.pre];exact S.nd.sublist (List.take_sublist _ _)
  refine⟨u,rv,?_⟩
  rcases S.par y (List.mem_of_getElem? hp) with k|k
  ·exact .inl ⟨k,bindL_get ndP hp hu k⟩
  ·obtain⟨c,e⟩:=cell_has (n:=s.heap.objs.size+1) k
   refine .inr ⟨.inl k,c,e,?_⟩
   have q:=x.cell y c e
   rw[bindC_get ndP hp hu (by show scope.names.lookup y≠_;rw[k];decide)]at q
   exact q
 ·exact e0.hok.fresh (Nat.le_of_lt (x.above y c (PySem.mem_of_lookup h)))
 ·unfold start
  show _=N.length
  rw[List.length_append,List.length_map,List.length_replicate]
  omega
theorem fn_of {CX:CXT}{P:Program}{w:World}{K:PySem.W.Frag}{mg:Str→Option Value}{base:Heap}{k:Nat}{f:Addr}{name qual:Str}{params:Arguments}{body:List Stmt}{scope:Scope}{dV kV doc pm cdv ct oc:Value}{an od:Option Addr}
  {osl:Array (Option Value)}{N ps:List Str}{sp:Sp}(lk:K.lookup f=some ⟨oc,od,.func (PySem.W.fnOf name qual params body scope dV kV doc pm an cdv ct),osl⟩) (hcd:PySem.W.codeIn K cdv qual=true) (S:FnScope N ps scope)
  (len:∀vs H Q E,sp vs H Q E→vs.length=ps.length)
  (hbody:∀(A:Around) (outer:List Env) (s:Shared) (H:Hp) (vs:List V) (Q:VK) (E:XK),Room k (A.deeper (envOfC qual scope s.heap.objs.size f cdv))→sp vs H Q E →
   ∃t,PSs (cxOf CX P w K mg base N qual scope f cdv A outer s H E) body t∧t { nx:=fun _ H'=>Q .non H',rt:=Q } (start N vs) H) :
  FnOk P w K mg base CX (k+1) f (PySem.W.fnOf name qual params body scope dV kV doc pm an cdv ct) ps sp:=by
 refine⟨len,fun A outer s H args us vs Q E hr e0 hb r hsp=>?_⟩
 have hl:=len _ _ _ _ hsp
 have KX:K.In s.heap:=e0.mod.kin.keeps fun b o e=>(e0.bs b o e).1
 have lim:s.heap.NoLimit:=e0.mod.nolimit.keeps fun b o e=>(e0.bs b o e).1
 have hkind:∀y∈ps.zip us,scope.names.lookup y.1=some .local ∨(scope.names.lookup y.1=some .cell∧((cellsFrom (s.heap.objs.size+1) scope.names []).lookup y.1).isSome=true):=fun⟨n,v⟩ hy=>by
  rcases S.par n (List.of_mem_zip hy).1 with q|q
  ·exact .inl q
  ·exact .inr ⟨q,PySem.W.cellsFrom_some _ _ _ (.inl q)⟩
 refine codeAny_call_function hr.depth (KX _ _ lk) rfl S.co S.gen rfl (PySem.W.codeRec_of KX hcd) (hb _ _ _ _ ?_)
 refine wpAny_newFunctionEnv_cells S.kind hkind fun env he s1 x=>?_
 subst he
 refine⟨lim.keeps x.toInCall.keep,codeAny_func ?_⟩
 obtain⟨t,ht,hq⟩:=hbody A outer s H vs Q E (hr.deeper _) hsp
 have I:Inv (cxOf CX P w K mg base N qual scope f cdv A outer s H E) [] (start N vs) H s1:=inv_start S hr.hd e0 hl r x
 refine wpAny_mono (ht [] s1 (start N vs) H _ I hq) (fun fl s' hs=>?_) fun e s' hs=>hs
 have fin:∀{σ':St}{H':Hp}{v:V}{u:Value},Inv (cxOf CX P w K mg base N qual scope f cdv A outer s H E) [] σ' H' s'→RelV v u→Q v H'→CE outer P w H s Q u s' :=
  fun {σ' H' v u} J rv q=>⟨v,H',J.os,J.bare,J.base,J.hok,rv,q⟩
 cases fl with
 | ret u =>
  obtain⟨v,σ',H',J,rv,q⟩:=hs
  exact fin J rv q
 | next =>
  obtain⟨σ',H',J,q⟩:=hs
  exact fin (v:=V.non) (u:=Value.none) J rfl q
 | brk =>
  obtain⟨_,_,_,q⟩:=hs
  exact False.elim q
 | cont =>
  obtain⟨_,_,_,q⟩:=hs
  exact False.elim q
end L2
namespace L2
open PySem PySem.Spec PyProof.Rows
section
variable {X:Cx}{x:Str}{p pos:Pos}{e:Expr}{es:List Expr}{t:TA}{id T:String}{r:List V→Hp→VK→Prop}
def tCB (r:List V→Hp→VK→Prop) (t:TA):TE:=fun σ H Q=>t σ H fun vs H1=>r vs H1 Q
theorem pe_callB (hc:CallR X (.builtin id) r) (hg:Gl X x) (hm:X.mg x=none) (hv:bootBuiltins x=some (.builtin id)) (ha:PA X (e::es) t) (hn:x ≠ "__name__" := by decide) (hdb:(x ==("__debug__" : Str))=false:=by decide)
  (he:starEach (e::es) X.env =(false,eval e X.env)::starEach es X.env:=by rfl) (hpl:(backTo pos (starEach es X.env)).any (·.1)=false:=by rfl):PE X (.Call (.Name x p) (e::es) [] pos) (tCB r t):=by
 intro pins s σ H Q I h
 refine wpAny_Call_Name_kw (ld_blt I hg hm hv ?_ hn hdb)
 exact PyProof.Rows.callWith_builtin1 (thn (ha pos pins s σ H _ I h) fun us s1 ⟨vs,H1,I1,r1,q1⟩=>hc pins s1 σ H1 vs us Q I1 r1 q1) he hpl
theorem pe_callTy (hc:CallR X (.type T) r) (hg:Gl X x) (hm:X.mg x=none) (hv:bootBuiltins x=some (.type T)) (ha:PA X (e::es) t) (hn:x ≠ "__name__" := by decide) (hdb:(x ==("__debug__" : Str))=false:=by decide)
  (he:starEach (e::es) X.env =(false,eval e X.env)::starEach es X.env:=by rfl) (hpl:(backTo pos (starEach es X.env)).any (·.1)=false:=by rfl):PE X (.Call (.Name x p) (e::es) [] pos) (tCB r t):=by
 intro pins s σ H Q I h
 refine wpAny_Call_Name_kw (ld_blt I hg hm hv ?_ hn hdb)
 exact PyProof.Rows.callWith_type1 (thn (ha pos pins s σ H _ I h) fun us s1 ⟨vs,H1,I1,r1,q1⟩=>hc pins s1 σ H1 vs us Q I1 r1 q1) he hpl
end
end L2
namespace HT
open PySem PyProof.Rows
section
open PySem.SeqAt
open PySem.AutoSeq1 (wpAny_loadPart')
open PySem.MeetsSeq PySem.MeetsSeq2 PySem.MeetsSeq3
end
section
variable {prog:Program}{w:World}{A:Around}{E:Value→Shared→Prop}{s:Shared}
def sIx (n d:Nat):Option Int→Nat
 | none=>d
 | some v=>if v<0 then(v+(n:Int)).toNat else min v.toNat n
theorem sIx_none (n d:Nat):sIx n d none=d:=rfl
theorem sIx_nat (n d k:Nat):sIx n d (some (k:Int))=min k n:=by
 show(if (k:Int)<0 then((k:Int)+(n:Int)).toNat else min (k:Int).toNat n)=min k n
 rw[if_neg (by omega),Int.toNat_natCast]
theorem sIx_le (n d:Nat) (hd:d≤n) (o:Option Int):sIx n d o≤n:=by
 cases o with
 | none=>exact hd
 | some v =>
  show(if v<0 then(v+(n:Int)).toNat else min v.toNat n)≤n
  by_cases hv:v<0
  ·rw[if_pos hv];omega
  ·rw[if_neg hv];exact Nat.min_le_right _ _
theorem clip_eq (v:Int) (n d:Nat):(if v<0 then max (v+(n:Int)) 0 else min v (n:Int)) =((sIx n d (some v):Nat):Int):=by
 show(if v<0 then max (v+(n:Int)) 0 else min v (n:Int)) =(((if v<0 then(v+(n:Int)).toNat else min v.toNat n):Nat):Int)
 by_cases hv:v<0
 ·simp only[if_pos hv];omega
 ·simp only[if_neg hv];omega
theorem adjust_gen (lo hi:Option Int) (n:Nat):Builtin.Slice.sliceAdjust lo hi 1 (n:Int) =(((sIx n 0 lo:Nat):Int),((sIx n n hi:Nat):Int)):=by
 have h1:¬((1:Int)<0):=by omega
 unfold Builtin.Slice.sliceAdjust
 simp only[h1,if_false]
 refine Prod.ext ?_ ?_
 ·cases lo with
  | none=>rfl
  | some v=>exact clip_eq v n 0
 ·cases hi with
  | none=>rfl
  | some v=>exact clip_eq v n n
theorem places_gen (i j:Nat):Builtin.Slice.slicePlaces (i:Int) (j:Int) 1=j-i:=by
 unfold Builtin.Slice.slicePlaces
 have h1:(1:Int) > 0:=by omega
 simp only[h1,if_true,Int.ediv_one]
 split <;> omega
theorem slicePart_ {v:Value}{o:Option Int}{Q:Option Int→Shared→Prop}(p:IsPart v o) (h:Q o s):wpAny (model prog w) A (Builtin.Slice.slicePartIndex v) Q E s:=by
 cases p with
 | none=>exact slicePart_none h
 | int i t=>exact slicePart_int h
theorem sliceApplied_gen {sl:Addr}{vl vu:Value}{lo hi:Option Int}{n:Nat}{Q:Int×Int×Nat→Shared→Prop}(hs:s.heap.IsSliceOf sl vl vu .none) (pl:IsPart vl lo) (pu:IsPart vu hi)
  (h:Q (((sIx n 0 lo:Nat):Int),1,sIx n n hi-sIx n 0 lo) s):wpAny (model prog w) A (Builtin.Slice.sliceApplied (.ref sl) (pure (n:Int))) Q E s:=by
 obtain⟨os,hos,hcs,hds⟩:=id hs
 unfold Builtin.Slice.sliceApplied Builtin.Slice.sliceFields
 refine wpAny_bind (wpAny_bind (wpAny_field hos hds (x:=vl) rfl (wpAny_bind (wpAny_field hos hds (x:=vu) rfl (wpAny_bind (wpAny_field hos hds (x:=.none) rfl (wpAny_pure ?_)))))))
 refine wpAny_bind (slicePart_none ?_)
 show wpAny _ _ (if ((1:Int) == 0)=true then _ else _) _ _ s
 rw[if_neg (by decide)]
 refine wpAny_bind (slicePart_ pl (wpAny_bind (slicePart_ pu (wpAny_bind (wpAny_pure ?_)))))
 show wpAny _ _ (match Builtin.Slice.sliceAdjust lo hi 1 (n:Int) with|(lo,hi)=>pure (lo,(1:Int),Builtin.Slice.slicePlaces lo hi 1)) _ _ s
 rw[adjust_gen lo hi n]
 show wpAny _ _ (pure (((sIx n 0 lo:Nat):Int),(1:Int),Builtin.Slice.slicePlaces ((sIx n 0 lo:Nat):Int) ((sIx n n hi:Nat):Int) 1)) _ _ s
 rw[places_gen]
 exact wpAny_pure h
theorem pick_gen (xs:Array Value) (i k:Nat):((List.range k).filterMap fun(m:Nat)=>xs[((i:Int)+(m:Int)*1).toNat]?).toArray =((xs.toList.drop i).take k).toArray:=by
 have e:(fun(m:Nat)=>xs[((i:Int)+(m:Int)*1).toNat]?)=fun m=>xs[i+m]?:=by
  funext m
  have:((i:Int)+(m:Int)*1).toNat=i+m:=by omega
  rw[this]
 rw[e]
 have:=pick_run xs i k
 rw[List.filterMap_map]at this
 have e2:((fun x=>xs[x]?) ∘ fun x=>i+x)=fun m=>xs[i+m]?:=rfl
 rw[e2]at this
 rw[this]
theorem getItem_tuple_cut {t sl:Addr}{items:Array Value}{vl vu:Value}{lo hi:Option Int}{Q:Value→Shared→Prop}(ht:IsTup s.heap t items) (hs:s.heap.IsSliceOf sl vl vu .none) (pl:IsPart vl lo) (pu:IsPart vu hi)
  (hw:¬(sIx items.size 0 lo=0∧sIx items.size items.size hi=items.size))
  (h:Q (.ref s.heap.objs.size) { s with heap:=s.heap.push { cls:=.type "tuple",data:=.seq ((items.toList.drop (sIx items.size 0 lo)).take (sIx items.size items.size hi-sIx items.size 0 lo)).toArray } })
  (hsz:items.size≤sizeLine):wpAny (model prog w) A (getItem (.ref t) (.ref sl)) Q E s:=by
 have htake:sizeOk (.seq ((items.toList.drop (sIx items.size 0 lo)).take (sIx items.size items.size hi-sIx items.size 0 lo)).toArray):=by
  show((items.toList.drop (sIx items.size 0 lo)).take (sIx items.size items.size hi-sIx items.size 0 lo)).toArray.size≤sizeLine
  rw[List.size_toArray,List.length_take,List.length_drop,Array.length_toList]
  omega
 have hj:sIx items.size items.size hi≤items.size:=sIx_le _ _ (Nat.le_refl _) hi
 obtain⟨os,hos,hcs,hds⟩:=id hs
 have hTs:s.TypeIs (.ref sl) "slice" :=⟨os,hos,hcs⟩
 unfold getItem
 try with_reducible refine wpAny_holding ?_
 first|refine wpAny_bind (wpAny_pure ?_)|skip
 refine wpAny_bind (wpAny_sequenceKey ht.typeIs (by decide) ?_)
 refine wpAny_bind (wpAny_callSpecial?_slot (name:=Str.ofString "__getitem__") ht.typeIs PyProof.Rows.slot_tuple_getitem
  (wpAny_call_entry PyProof.Rows.slot_tuple_getitem ht.typeIs entry_tuple_getitem ?_ (args_tuple_getitem _ _)))
 show wpAny _ _ (Builtin.Tuple.tupleItemsOf (.ref t) >>= _) _ _ s
 refine wpAny_bind (tupleItemsOf_ ht ?_)
 refine wpAny_bind (wpAny_typeOf hTs ?_)
 rw[if_pos (by decide)]
 refine wpAny_bind (sliceApplied_gen hs pl pu ?_)
 have hno:¬((((sIx items.size 0 lo:Nat):Int) == 0 && (1:Int) == 1 && (sIx items.size items.size hi-sIx items.size 0 lo) == items.size)=true):=by
  intro q
  rw[Bool.and_eq_true,Bool.and_eq_true]at q
  have q1:((sIx items.size 0 lo:Nat):Int)=0:=eq_of_beq q.1.1
  have q2:sIx items.size items.size hi-sIx items.size 0 lo=items.size:=eq_of_beq q.2
  exact hw ⟨by omega,by omega⟩
 show wpAny _ _ (if (((sIx items.size 0 lo:Nat):Int) == 0 && (1:Int) == 1 && (sIx items.size items.size hi-sIx items.size 0 lo) == items.size)=true then _ else _) _ _ s
 rw[if_neg hno,pick_gen]
 first
  | exact wpAny_bind (m:=Builtin.Tuple.tupleExact _) (wpAny_newObj_type (wpAny_pure ⟨_,rfl,wpAny_pure h⟩) htake)
  | exact wpAny_bind (m:=Builtin.Tuple.tupleExact _) (wpAny_newObj_type (wpAny_bind (wpAny_pure (wpAny_pure ⟨_,rfl,wpAny_pure h⟩))) htake)
  | exact wpAny_bind (wpAny_bind (m:=Builtin.Tuple.tupleExact _) (wpAny_newObj_type (wpAny_pure (wpAny_pure ⟨_,rfl,wpAny_pure h⟩)) htake))
  | exact wpAny_bind (wpAny_bind (m:=Builtin.Tuple.tupleExact _) (wpAny_newObj_type (wpAny_pure ⟨_,rfl,wpAny_pure h⟩) htake))
end
end HT
namespace L2
open PySem PySem.Spec PyProof.Rows
abbrev TO:=St→Hp→(Option Int→Hp→Prop)→Prop
def PO (X:Cx) (e:Option Expr) (t:TO):Prop :=
 ∀(pins:List (Addr×Obj)) (s:Shared) (σ:St) (H:Hp) (Q:Option Int→Hp→Prop),Inv X pins σ H s→t σ H Q →
  wpAny (model X.prog X.w) X.A (evalPart e X.env) (fun u s'=>∃o H',Inv X pins σ H' s'∧IsPart u o∧Q o H') X.xe s
def tNoPart:TO:=fun _ H Q=>Q none H
def tPart (t:TE):TO:=fun σ H Q=>t σ H fun x H1=>∃i,x = .int i∧Q (some i) H1
section
variable {X:Cx}{e:Expr}{te:TE}{lo hi:Option Expr}{tl th:TO}{pos p2:Pos}
theorem po_none:PO X none tNoPart:=by
 intro pins s σ H Q I h
 rw[evalPart_none]
 exact wpAny_pure ⟨none,H,I,.none,h⟩
theorem po_some (h:PE X e te):PO X (some e) (tPart te):=by
 intro pins s σ H Q I hw
 rw[evalPart_some]
 refine thn (h pins s σ H _ I hw) fun u s1 ⟨x,H1,I1,r1,q1⟩=>?_
 obtain⟨i,rfl,q⟩:=q1
 obtain⟨t,rfl⟩:=r1
 exact⟨some i,H1,I1,.int i t,q⟩
def SlR (X:Cx) (r:V→Option Int→Option Int→Hp→VK→Prop):Prop :=
 ∀(pins:List (Addr×Obj)) (s:Shared) (σ:St) (H:Hp) (x:V) (v vl vu:Value) (lo hi:Option Int) (sl:Addr) (Q:VK),Inv X pins σ H s→RelV x v→s.heap.IsSliceOf sl vl vu .none→IsPart vl lo→IsPart vu hi→r x lo hi H Q →
  ∃T id,typeLookup (.type T) "__getitem__" = pure (some (.builtin id))∧s.TypeIs v T∧wpAny (model X.prog X.w) X.A (getItem v (.ref sl)) (EP X pins σ Q) X.xe s
def tSl (r:V→Option Int→Option Int→Hp→VK→Prop) (te:TE) (tl th:TO):TE:=fun σ H Q=>te σ H fun x H1=>tl σ H1 fun l H2=>th σ H2 fun u H3=>r x l u H3 Q
theorem pe_slice {r:V→Option Int→Option Int→Hp→VK→Prop}(hr:SlR X r) (he:PE X e te) (hl:PO X lo tl) (hu:PO X hi th):PE X (.Subscript e (.Slice lo hi none p2) pos) (tSl r te tl th):=by
 intro pins s σ H Q I h
 refine Subscript_ (thn (he pins s σ H _ I h) fun v s1 ⟨x,H1,I1,r1,q1⟩=>?_)
 refine wpAny_Slice (thn (hl pins s1 σ H1 _ I1 q1) fun vl s2 ⟨l,H2,I2,pl,q2⟩=>thn (hu pins s2 σ H2 _ I2 q2) fun vu s3 ⟨u,H3,I3,pu,q3⟩=>?_)
 rw[evalPart_none]
 refine wpAny_pure ?_
 have I4:Inv X pins σ H3 { s3 with heap:=s3.heap.push { cls:=.type "slice",data:=.fields #[vl,vu,.none] } }:=I3.kept (t':=s3.toks) fun b ob q=>Heap.get?_push_of_some _ q
 obtain⟨T,id,hT,ht,hg⟩:=hr pins { s3 with heap:=s3.heap.push { cls:=.type "slice",data:=.fields #[vl,vu,.none] } } σ H3 x v vl vu l u s3.heap.objs.size Q I4 r1 (Heap.IsSliceOf.new ..) pl pu q3
 show wpAny (model X.prog X.w) X.A (subscriptTail e (.Slice lo hi none p2) v (.ref s3.heap.objs.size)) (EP X pins σ Q) X.xe { s3 with heap:=s3.heap.push { cls:=.type "slice",data:=.fields #[vl,vu,.none] } }
 exact tail_any (ops:=[.ref s3.heap.objs.size,v]) ht hT hg (by with_unfolding_all rfl)
def cutV (xs:List V) (lo hi:Option Int):List V:=(xs.drop (HT.sIx xs.length 0 lo)).take (HT.sIx xs.length xs.length hi-HT.sIx xs.length 0 lo)
theorem cutV_length (xs:List V) (lo hi:Option Int):(cutV xs lo hi).length≤xs.length:=by
 unfold cutV
 rw[List.length_take,List.length_drop]
 omega
def rSlT (K:PySem.W.Frag):V→Option Int→Option Int→Hp→VK→Prop:=fun x lo hi H Q=>∃a xs,x = .ref a∧SqT K H a xs ∧
 ¬(HT.sIx xs.length 0 lo=0∧HT.sIx xs.length xs.length hi=xs.length)∧∀p,H p=none→Q (.ref p) (upd H p (.tup (cutV xs lo hi)))
theorem sl_tup:SlR X (rSlT X.K):=by
 intro pins s σ H x v vl vu lo hi sl Q I rx hs pl pu h
 obtain⟨a,xs,rfl,hx,hw,q⟩:=h
 cases rx
 obtain⟨its,r,ht,hz⟩:=I.tuple hx
 have hlen:its.toArray.size=xs.length:=by rw[List.size_toArray];exact r.length.symm
 refine⟨"tuple",_,PyProof.Rows.slot_tuple_getitem.lookup,ht.typeIs,?_⟩
 refine HT.getItem_tuple_cut ht hs pl pu (by rw[hlen];exact hw) ?_ (by rw[hlen];exact hz)
 rw[hlen]
 refine⟨.ref s.heap.objs.size,_,I.laid (t':=s.toks) (o:=.tup (cutV xs lo hi)) (fun b ob q=>Heap.get?_push_of_some _ q) (Nat.le_refl _) ?_,rfl,q _ (I.hok.fresh (Nat.le_refl _))⟩
 exact⟨Nat.le_trans (cutV_length xs lo hi) hz,_,(r.drop (HT.sIx xs.length 0 lo)).take (HT.sIx xs.length xs.length hi-HT.sIx xs.length 0 lo),IsTup.new _ _⟩
end
end L2
namespace L2
open PySem PySem.Spec PyProof.Rows
def ixN (n:Nat) (i:Int):Option Nat:=if 0≤i then(if i<n then some i.toNat else none) else if -(n:Int)≤i then some (i+n).toNat else none
def atI {α:Type}(xs:List α) (i:Int):Option α:=(ixN xs.length i).bind fun j=>xs[j]?
theorem ixN_seq {n:Nat}{i:Int}{j:Nat}(h:ixN n i=some j):seqIndex? i n=some j∧j<n∧-(n:Int)≤i∧i<n:=by
 unfold ixN at h
 by_cases h0:0≤i
 ·rw[if_pos h0]at h
  by_cases h1:i<n
  ·rw[if_pos h1]at h
   have e:i.toNat=j:=Option.some.inj h
   exact⟨by rw[seqIndex_of h0 h1,e],by omega,by omega,h1⟩
  ·rw[if_neg h1]at h;cases h
 ·rw[if_neg h0]at h
  by_cases h1:-(n:Int)≤i
  ·rw[if_pos h1]at h
   have e:(i+n).toNat=j:=Option.some.inj h
   exact⟨by rw[seqIndex_neg (by omega) h1,e],by omega,h1,by omega⟩
  ·rw[if_neg h1]at h;cases h
theorem atI_get {α:Type}{xs:List α}{i:Int}{v:α}(h:atI xs i=some v):∃j,seqIndex? i xs.length=some j∧xs[j]? = some v∧j<xs.length∧-(xs.length:Int)≤i∧i<xs.length:=by
 unfold atI at h
 cases e:ixN xs.length i with
 | none=>rw[e]at h;cases h
 | some j =>
  rw[e]at h
  obtain⟨h1,h2,h3,h4⟩:=ixN_seq e
  exact⟨j,h1,h,h2,h3,h4⟩
theorem atI_nat {α:Type}{xs:List α}{j:Nat}{v:α}(h:xs[j]? = some v):atI xs (j:Int)=some v:=by
 have hj:j<xs.length:=(List.getElem?_eq_some_iff.mp h).1
 have e:ixN xs.length (j:Int)=some j:=by
  unfold ixN
  rw[if_pos (by omega),if_pos (by omega)];simp
 unfold atI;rw[e];exact h
theorem atI_last {α:Type}(xs:List α) (v:α):atI (xs ++ [v]) (-1)=some v:=by
 have hl:(xs ++ [v]).length=xs.length+1:=by simp
 have e:ixN (xs ++ [v]).length (-1)=some xs.length:=by
  unfold ixN
  rw[hl,if_neg (by decide),if_pos (by omega)]
  congr 1
  omega
 unfold atI
 rw[e]
 show(xs ++ [v])[xs.length]? = some v
 simp
def PlainIx (b:Expr):Prop:=∀o i,subscripted b false o i=operate [o,i] (getItem o i)
def IxR (X:Cx) (r:R2):Prop :=
 ∀(value slice:Expr) (pins:List (Addr×Obj)) (s:Shared) (σ:St) (H:Hp) (x y:V) (v u:Value) (Q:VK),Inv X pins σ H s→RelV x v→RelV y u→r x y H Q →
  subscripted slice false v u=operate [v,u] (getItem v u)→wpAny (model X.prog X.w) X.A (subscriptTail value slice v u) (EP X pins σ Q) X.xe s
def MtR (X:Cx) (id:String) (r:V→List V→Hp→VK→Prop):Prop :=
 ∀(pins:List (Addr×Obj)) (s:Shared) (σ:St) (H:Hp) (x:V) (xs:List V) (v:Value) (us:List Value) (Q:VK),Inv X pins σ H s→RelV x v→Vals xs us→r x xs H Q →
  wpAny (model X.prog X.w) X.A (call (.builtin id) (v::us)) (EP X pins σ Q) X.xe s
section
variable {X:Cx}{a b:Expr}{ta tb:TE}{pos:Pos}
theorem pe_ix {r:R2}(hr:IxR X r) (ha:PE X a ta) (hb:PE X b tb) (hs:PlainIx b):PE X (.Subscript a b pos) (tOp r ta tb):=by
 intro pins s σ H Q I h
 exact Subscript_ (binT ha hb I h fun v u s2 x y H2 I2 rx ry q=>hr a b pins s2 σ H2 x y v u Q I2 rx ry q (hs _ _))
def rIxL (K:PySem.W.Frag):R2:=fun x y H Q=>∃p xs i v,x = .ref p∧y = .int i∧SqL K H p xs∧atI xs i=some v∧Q v H
def rIxT (K:PySem.W.Frag):R2:=fun x y H Q=>∃p xs i v,x = .ref p∧y = .int i∧SqT K H p xs∧atI xs i=some v∧Q v H
def rIxS:R2:=fun x y H Q=>∃z i c,x = .str z∧y = .int i∧z.length≤sizeLine∧atI z.cps.toList i=some c∧Q (.str ⟨#[c]⟩) H
theorem ix_list:IxR X (rIxL X.K):=by
 intro value slice pins s σ H x y v u Q I rx ry h hs
 obtain⟨p,xs,i,z,rfl,rfl,hq,he,q⟩:=h
 cases rx
 obtain⟨t,rfl⟩:=ry
 obtain⟨its,r,pl,hz⟩:=I.list hq
 obtain⟨j,h1,h2,h3,h4,h5⟩:=atI_get he
 obtain⟨w,ew,rw'⟩:=r.get h2
 have hl:=r.length
 have hn:=line63
 have fin:EP X pins σ Q w s:=⟨z,H,I,rw',q⟩
 by_cases h0:0≤i
 ·have hj:i.toNat=j:=by
   rw[seqIndex_of h0 h5]at h1
   exact Option.some.inj h1
  exact item_listR pl.isList h0 (by omega) (by rw[hj];simpa using ew) fin hs
 ·have hj:(i+(its.toArray.size:Int)).toNat=j:=by
   rw[seqIndex_neg (by omega) h4]at h1
   rw[List.size_toArray,← hl]
   exact Option.some.inj h1
  exact subscriptTail_builtinR (x:=w) pl.isList.typeIs slot_list_getitem.lookup
   (wpAny_getItem_list_neg (Q:=fun r s'=>r=w∧EP X pins σ Q r s') pl.isList (by omega) (by rw[List.size_toArray] <;> omega) (by omega) (by rw[hj];simpa using ew) ⟨rfl,fin⟩) hs
theorem ix_tup:IxR X (rIxT X.K):=by
 intro value slice pins s σ H x y v u Q I rx ry h hs
 obtain⟨p,xs,i,z,rfl,rfl,hq,he,q⟩:=h
 cases rx
 obtain⟨t,rfl⟩:=ry
 obtain⟨its,r,pl,hz⟩:=I.tuple hq
 obtain⟨j,h1,h2,h3,h4,h5⟩:=atI_get he
 obtain⟨w,ew,rw'⟩:=r.get h2
 have hl:=r.length
 have hn:=line63
 have fin:EP X pins σ Q w s:=⟨z,H,I,rw',q⟩
 exact subscriptTail_builtinR (x:=w) pl.typeIs slot_tuple_getitem.lookup
  (getItem_tuple (j:=j) (Q:=fun r s'=>r=w∧EP X pins σ Q r s') pl (by omega) (by omega) (by rw[List.size_toArray,← hl];exact h1) (by simpa using ew) ⟨rfl,fin⟩) hs
theorem ix_str:IxR X rIxS:=by
 intro value slice pins s σ H x y v u Q I rx ry h hs
 obtain⟨z,i,c,rfl,rfl,hz,he,q⟩:=h
 obtain⟨t,rfl⟩:=rx
 obtain⟨t',rfl⟩:=ry
 obtain⟨j,h1,h2,h3,h4,h5⟩:=atI_get he
 have hl:z.cps.toList.length=z.length:=by simp[Str.length]
 rw[hl]at h1 h4 h5
 have hn:=line63
 exact tail_any (typeIs_str s z t) slot_str_getitem.lookup (getItem_str (c:=c) (by
  have e1:decide (i < -(2^63:Int))=false:=decide_eq_false (by omega)
  have e2:decide (i ≥ 2^63)=false:=decide_eq_false (by omega)
  rw[e1,e2,Bool.or_false]) (by rw[h1];simpa using h2) ⟨.str ⟨#[c]⟩,H,I.tok _,⟨_,rfl⟩,q⟩) hs
theorem mapSeq_set (its:List Value) (n j:Nat) (u:Value):Obj.mapSeq (·.setIfInBounds j u) { cls:=.type "list",data:=.seq its.toArray n } = { cls:=.type "list",data:=.seq (its.set j u).toArray n }:=by
 simp[Obj.mapSeq]
theorem Inv.lst {pins:List (Addr×Obj)}{σ:St}{H:Hp}{s:Shared}{p:Addr}{xs:List V}(I:Inv X pins σ H s) (h:H p=some (.lst xs)) :
  ∃(its:List Value) (n:Nat),Vals xs its∧s.heap.get? p=some { cls:=.type "list",data:=.seq its.toArray n }∧xs.length≤sizeLine:=by
 obtain⟨z,its,n,r,e⟩:=I.hok p _ h
 exact⟨its,n,r,e,z⟩
theorem Inv.lstUpd {pins:List (Addr×Obj)}{σ:St}{H:Hp}{s:Shared}{p:Addr}{xs ys:List V}{its its':List Value}{n n':Nat}{f:Obj→Obj}(I:Inv X pins σ H s) (h:H p=some (.lst xs))
  (ho:s.heap.get? p=some { cls:=.type "list",data:=.seq its.toArray n }) (hf:f { cls:=.type "list",data:=.seq its.toArray n } = { cls:=.type "list",data:=.seq its'.toArray n' }) (r:Vals ys its') (hz:ys.length≤sizeLine) (t:Nat) :
  Inv X pins σ (upd H p (.lst ys)) { s with heap:=s.heap.update p f,toks:=t }:=by
 have e:(s.heap.update p f).get? p=some { cls:=.type "list",data:=.seq its'.toArray n' }:=by
  rw[Heap.get?_update_self f ho (by rw[hf] <;> rfl),hf]
 refine I.write (x:=p) (e:=p) (by rw[h];trivial) (.inl rfl) (fun b u hb q=>(Heap.get?_update_other _ _ (Ne.symm hb)).trans q) ⟨_,e⟩ ?_
 exact⟨hz,its',n',r,e⟩
def rSetL:V→V→V→Hp→(Hp→Prop)→Prop:=fun o i v H Q=>∃p xs k j,o = .ref p∧i = .int k∧H p=some (.lst xs)∧ixN xs.length k=some j∧Q (upd H p (.lst (xs.set j v)))
theorem set_list:PSet X rSetL:=by
 intro pins s σ H o i v ov iv u Q I ro ri rv h
 obtain⟨p,xs,k,j,rfl,rfl,hp,hj,q⟩:=h
 cases ro
 obtain⟨t,rfl⟩:=ri
 obtain⟨its,n,r,ho,hz⟩:=I.lst hp
 obtain⟨h1,h2,h3,h4⟩:=ixN_seq hj
 have hl:=r.length
 have hn:=line63
 have I':Inv X pins σ (upd H p (.lst (xs.set j v))) { s with heap:=s.heap.update p (Obj.mapSeq (·.setIfInBounds j u)) } :=
  I.lstUpd hp ho (mapSeq_set its n j u) (r.set rv j) (by rw[List.length_set];exact hz) s.toks
 by_cases h0:0≤k
 ·have hk:k.toNat=j:=by
   rw[seqIndex_of h0 h4]at h1
   exact Option.some.inj h1
  exact PySem.W.ki_setAt ho h0 (by omega) (by rw[List.size_toArray,← hl];exact h4) (by rw[hk];exact⟨_,I',q⟩)
 ·have hk:(k+(its.toArray.size:Int)).toNat=j:=by
   rw[seqIndex_neg (by omega) h3]at h1
   rw[List.size_toArray,← hl]
   exact Option.some.inj h1
  exact PySem.W.ki_setBack ho (by omega) (by rw[List.size_toArray,← hl];exact h3) (by omega) (by rw[hk];exact⟨_,I',q⟩)
theorem slice_bounds (lo hi:Option Int) (n:Nat):(sliceBounds lo hi none n).1 =((HT.sIx n 0 lo:Nat):Int)∧(sliceBounds lo hi none n).2.1 =((HT.sIx n n hi:Nat):Int)∧(sliceBounds lo hi none n).2.2=1:=by
 refine⟨?_,?_,rfl⟩
 ·cases lo with
  | none=>simp[sliceBounds,HT.sIx]
  | some i =>
   simp only[sliceBounds,HT.sIx,Option.getD_none,show(1:Int) > 0 by decide,if_true]
   by_cases h:i<0
   ·simp only[h,if_true] <;> omega
   ·simp only[h,if_false] <;> omega
 ·cases hi with
  | none=>simp[sliceBounds,HT.sIx]
  | some i =>
   simp only[sliceBounds,HT.sIx,Option.getD_none,show(1:Int) > 0 by decide,if_true]
   by_cases h:i<0
   ·simp only[h,if_true] <;> omega
   ·simp only[h,if_false] <;> omega
theorem slicePick_cut (its:List Value) (lo hi:Option Int):slicePick its.toArray lo hi none =((its.drop (HT.sIx its.length 0 lo)).take (HT.sIx its.length its.length hi-HT.sIx its.length 0 lo)).toArray:=by
 obtain⟨h1,h2,h3⟩:=slice_bounds lo hi its.toArray.size
 unfold slicePick
 rw[h1,h2,h3]
 simp only[sliceRange_one,pick_run,List.size_toArray] <;> rfl
def rSlL (K:PySem.W.Frag):V→Option Int→Option Int→Hp→VK→Prop:=fun x lo hi H Q=>∃a xs,x = .ref a∧SqL K H a xs∧∀p,H p=none→Q (.ref p) (upd H p (.lst (cutV xs lo hi)))
theorem sl_list:SlR X (rSlL X.K):=by
 intro pins s σ H x v vl vu lo hi sl Q I rx hs pl pu h
 obtain⟨a,xs,rfl,hx,q⟩:=h
 cases rx
 obtain⟨its,r,ht,hz⟩:=I.list hx
 have hlen:=r.length
 refine⟨"list",_,slot_list_getitem.lookup,ht.isList.typeIs,?_⟩
 refine wpAny_getItem_list_slice ht.isList hs pl pu .none (by simp) ?_ (by rw[List.size_toArray] <;> omega)
 rw[slicePick_cut,← hlen]
 refine⟨.ref s.heap.objs.size,_,I.laid (t':=s.toks) (o:=.lst (cutV xs lo hi)) (fun b ob q=>Heap.get?_push_of_some _ q) (Nat.le_refl _) ?_,rfl,q _ (I.hok.fresh (Nat.le_refl _))⟩
 exact⟨Nat.le_trans (cutV_length xs lo hi) hz,_,0,(r.drop (HT.sIx xs.length 0 lo)).take (HT.sIx xs.length xs.length hi-HT.sIx xs.length 0 lo),Heap.get?_push_size _ rfl⟩
theorem call_len_seq:CallR X (.builtin "len") (fun xs H Q=>∃p ys,xs=[.ref p]∧(SqL X.K H p ys∨SqT X.K H p ys)∧Q (.int ys.length) H):=by
 intro pins s σ H xs us Q I r h
 obtain⟨p,ys,rfl,hq,q⟩:=h
 obtain⟨u,rfl,rx⟩:=vals1 r
 cases rx
 have hn:=line63
 rcases hq with hq|hq
 ·obtain⟨its,r',pl,hz⟩:=I.list hq
  have hlen:=r'.length
  exact Calls.call_len_list pl.isList (by simp only[List.size_toArray] <;> omega) ⟨.int ys.length,H,I.tok _,⟨s.toks+1,by rw[List.size_toArray,hlen]⟩,q⟩
 ·obtain⟨its,r',pl,hz⟩:=I.tuple hq
  have hlen:=r'.length
  exact len_tuple pl (by simp only[List.size_toArray] <;> omega) ⟨.int ys.length,H,I.tok _,⟨s.toks+1,by rw[List.size_toArray,hlen]⟩,q⟩
theorem call_len_str:CallR X (.builtin "len") (fun xs H Q=>∃z,xs=[.str z]∧z.length≤sizeLine∧Q (.int z.length) H):=by
 intro pins s σ H xs us Q I r h
 obtain⟨z,rfl,hz,q⟩:=h
 obtain⟨u,rfl,t,rfl⟩:=vals1 r
 have hn:=line63
 exact len_str (by omega) ⟨.int z.length,H,I.tok _,⟨_,rfl⟩,q⟩
theorem call_tuple_of:CallR X (.type "tuple") (fun xs H Q=>∃p ys,xs=[.ref p]∧((SqL X.K H p ys∧∀l,H l=none→Q (.ref l) (upd H l (.tup ys))) ∨(SqT X.K H p ys∧Q (.ref p) H))):=by
 intro pins s σ H xs us Q I r h
 obtain⟨p,ys,rfl,h⟩:=h
 obtain⟨u,rfl,rx⟩:=vals1 r
 cases rx
 rcases h with⟨hq,q⟩|⟨hq,q⟩
 ·obtain⟨its,r',pl,hz⟩:=I.list hq
  have hlen:=r'.length
  refine call_tuple_list pl.isList (fun h' kp=>?_) (by simp only[List.size_toArray] <;> omega)
  have I1:Inv X pins σ H { s with heap:=h' }:=I.kept (t':=s.toks) kp
  have I2:Inv X pins σ (upd H h'.objs.size (.tup ys)) { s with heap:=h'.push { cls:=.type "tuple",data:=.seq its.toArray } } :=
   I1.laid (t':=s.toks) (fun b o e=>Heap.get?_push_of_some _ e) (Nat.le_refl _) (show ObjOk X.prog X.w _ _ _ (.tup ys) from⟨hz,its,r',IsTup.new _ _⟩)
  exact⟨.ref h'.objs.size,_,I2,rfl,q _ (I1.hok.fresh (Nat.le_refl _))⟩
 ·obtain⟨its,r',pl,hz⟩:=I.tuple hq
  exact call_tuple_same pl ⟨.ref p,H,I,rfl,q⟩
def tyV (K:PySem.W.Frag) (T:String) (x:V) (H:Hp):Prop:=match x with
 | .str _=>T = "str"
 | .int _=>T = "int"
 | .ref p=>(T = "list"∧∃xs,SqL K H p xs) ∨(T = "tuple"∧∃o,K.lookup p=some o∧o.cls = .type "tuple"∧o.dict=none) ∨
   (T = "dict"∧((∃kvs,H p=some (.dK kvs)) ∨ ∃kvs,H p=some (.dT kvs))) ∨(T = "set"∧∃S n,H p=some (.set S n))
 | _=>False
theorem tyV_is {pins:List (Addr×Obj)}{σ:St}{H:Hp}{s:Shared}{T:String}{x:V}{v:Value}(I:Inv X pins σ H s) (r:RelV x v) (ty:tyV X.K T x H) :
  s.TypeIs v T∧∀a,v = .ref a→∃ob,s.heap.get? a=some ob∧ob.dict=none:=by
 cases x with
 | str z =>
  obtain⟨t,rfl⟩:=r
  cases (show T = "str" from ty)
  exact⟨typeIs_str s z t,fun _ e=>nomatch e⟩
 | int i =>
  obtain⟨t,rfl⟩:=r
  cases (show T = "int" from ty)
  exact⟨typeIs_int s i t,fun _ e=>nomatch e⟩
 | ref p =>
  cases r
  rcases ty with⟨rfl,xs,hq⟩|⟨rfl,o,hk,hc,hd⟩|⟨rfl,hk⟩|⟨rfl,S,n,hk⟩
  ·obtain⟨its,_,pl,_⟩:=I.list hq
   refine⟨pl.isList.typeIs,fun a e=>?_⟩
   cases e
   obtain⟨o,n,e,c,hd,_⟩:=pl
   exact⟨o,e,hd⟩
  ·refine⟨⟨o,I.kIn p o hk,hc⟩,fun a e=>?_⟩
   cases e
   exact⟨o,I.kIn _ o hk,hd⟩
  ·have z:∃o,s.heap.get? p=some o∧o.ExactDict:=by
    rcases hk with⟨kvs,hk⟩|⟨kvs,hk⟩
    ·obtain⟨_,_,_,_,o,_,_,e,ex,_⟩:=I.hok p _ hk
     exact⟨o,e,ex⟩
    ·obtain⟨_,_,_,_,o,_,_,e,ex,_⟩:=I.hok p _ hk
     exact⟨o,e,ex⟩
   obtain⟨o,e,ex⟩:=z
   refine⟨⟨o,e,ex.1⟩,fun a e2=>?_⟩
   cases e2
   exact⟨o,e,ex.2.1⟩
  ·obtain⟨o,_,_,_,e,ex,_⟩:=I.hok p _ hk
   refine⟨⟨o,e,ex.1⟩,fun a e2=>?_⟩
   cases e2
   exact⟨o,e,ex.2.1⟩
 | _=>exact False.elim ty
def tBM (K:PySem.W.Frag) (T:String) (r:V→List V→Hp→VK→Prop) (to:TE) (t:TA):TE:=fun σ H Q=>to σ H fun x H1=>tyV K T x H1∧t σ H1 fun xs H2=>r x xs H2 Q
variable {o e:Expr}{es:List Expr}{to:TE}{t:TA}{name:Str}{apos cpos:Pos}{T id:String}{r:V→List V→Hp→VK→Prop}
theorem pe_bm (pa:PlainAttrs T) (slot:Slot T name id) (hty:typeOf (.builtin id)=pure (.type "method_descriptor")) (hm:MtR X id r) (ho:PE X o to) (ha:PA X (e::es) t)
  (hbase:attributeBase o name X.env (eval o X.env)=eval o X.env:=by rfl)
  (hfew:((backTo cpos (starEach (e::es) X.env)).all (fun x=>!x.1) && (backToKw cpos (keywordEach [] X.env)).all (fun x=>x.1.isSome)
   && decide ((e::es).length+([]:List Keyword).length+(if ([]:List Keyword).isEmpty then 0 else 1)<30))=true:=by rfl)
  (hline:(apos.endLine == cpos.line)=true:=by rfl) (hs:starEach (e::es) X.env =(false,eval e X.env)::starEach es X.env:=by rfl) (hplain:(backTo cpos (starEach es X.env)).any (·.1)=false:=by rfl) :
  PE X (.Call (.Attribute o name apos) (e::es) [] cpos) (tBM X.K T r to t):=by
 intro pins s σ H Q I h
 refine wpAny_Call_method_late hbase hfew hline rfl (thn (ho pins s σ H _ I h) fun v s1 ⟨x,H1,I1,r1,ty,q1⟩=>?_)
 obtain⟨h1,h2⟩:=tyV_is I1 r1 ty
 refine⟨T,id,pa,slot,hty,h1,h2,?_⟩
 have hA:=ha cpos pins s1 σ H1 _ I1 q1
 rw[hs]at hA ⊢
 refine Calls.callWith_builtin (by show(false || (backTo cpos (starEach es X.env)).any (·.1))=false;rw[hplain] <;> rfl) (Calls.evalArgs_plain ?_)
 exact thn hA fun us s2 ⟨vs,H2,I2,r2,q2⟩=>hm pins s2 σ H2 x vs v us Q I2 r1 r2 q2
end
end L2
namespace L2
open PySem PySem.Spec PyProof.Rows
def MtM (X:Cx) (id:String) (r:V→List V→Hp→VK→Prop):Prop :=
 ∀(pins:List (Addr×Obj)) (s:Shared) (σ:St) (H:Hp) (x:V) (xs:List V) (v:Value) (us:List Value) (Q:VK),Inv X pins σ H s→RelV x v→Vals xs us→r x xs H Q →
  wpAny (model X.prog X.w) X.A (call (.builtin id) (v::us)) (EP X pins σ Q) X.xe s
theorem Vals.one:∀{x:V}{us:List Value},Vals [x] us→∃u,us=[u]∧RelV x u
 | _,_,.cons r .nil=>⟨_,rfl,r⟩
theorem Vals.dropLast {xs:List V}{us:List Value}(h:Vals xs us):Vals xs.dropLast us.dropLast:=by
 induction h with
 | nil=>exact .nil
 | cons r t ih =>
  cases t with
  | nil=>exact .nil
  | cons q t'=>exact .cons r ih
theorem erase_last {α:Type}(l:List α):l.eraseIdx (l.length-1)=l.dropLast:=by
 induction l with
 | nil=>rfl
 | cons a r ih =>
  cases r with
  | nil=>rfl
  | cons b r =>
   have e:(a::b::r).length-1 =((b::r).length-1)+1:=by
    have h1:(a::b::r).length=r.length+2:=rfl
    have h2:(b::r).length=r.length+1:=rfl
    omega
   rw[e,List.eraseIdx_cons_succ,ih]
   all_goals rfl
section
variable {X:Cx}{pins:List (Addr×Obj)}{σ:St}{H:Hp}{s:Shared}{l b:Addr}{xs ys zs:List V}
theorem Inv.lset {its its':List Value}{n:Nat}{f:Array Value→Array Value}{t':Nat}(I:Inv X pins σ H s) (hH:H l=some (.lst xs))
  (e:s.heap.get? l=some { cls:=.type "list",data:=.seq its.toArray n }) (hf:f its.toArray=its'.toArray) (hv:Vals ys its') (hz:ys.length≤sizeLine) :
  Inv X pins σ (upd H l (.lst ys)) { s with heap:=s.heap.update l (Obj.mapSeq f),toks:=t' }:=by
 have q:=PySem.IsL.update e f
 rw[hf]at q
 refine I.write (x:=l) (e:=l) (by rw[hH];exact trivial) (.inl rfl) (fun b' u hb hu=>(Heap.get?_update_other s.heap (Obj.mapSeq f) (Ne.symm hb)).trans hu) ⟨_,q⟩ ?_
 exact⟨hz,its',_,hv,q⟩
theorem Inv.lnew {its:List Value}{t':Nat}(I:Inv X pins σ H s) (hv:Vals ys its) (hz:ys.length≤sizeLine) :
  Inv X pins σ (upd H s.heap.objs.size (.lst ys)) { s with heap:=s.heap.push { cls:=.type "list",data:=.seq its.toArray },toks:=t' } :=
 I.laid (fun _ _ q=>Heap.get?_push_of_some _ q) (Nat.le_refl _) ⟨hz,its,0,hv,Heap.get?_push_size _ rfl⟩
theorem Inv.fresh (I:Inv X pins σ H s):H s.heap.objs.size=none:=I.hok.fresh (Nat.le_refl _)
theorem Inv.lstM (I:Inv X pins σ H s) (hH:H l=some (.lst xs)):xs.length≤sizeLine∧∃(its:List Value) (n:Nat),Vals xs its∧xs.length=its.length∧s.heap.get? l=some { cls:=.type "list",data:=.seq its.toArray n }:=by
 obtain⟨z,its,n,r,e⟩:=I.hok l _ hH
 exact⟨z,its,n,r,r.length,e⟩
theorem notLongL {n:Nat}(h:n≤sizeLine):Builtin.List.listTooLong n=false:=by
 unfold Builtin.List.listTooLong
 exact decide_eq_false (by omega)
end
section
variable {X:Cx}
def rAppend:V→List V→Hp→VK→Prop:=fun x vs H Q=>∃l xs y,x = .ref l∧vs=[y]∧H l=some (.lst xs)∧xs.length<sizeLine∧Q .non (upd H l (.lst (xs ++ [y])))
theorem mt_append:MtM X "list.append" rAppend:=by
 intro pins s σ H x vs v us Q I rx rv h
 obtain⟨l,xs,y,rfl,rfl,hH,hz,q⟩:=h
 cases rx
 obtain⟨u,rfl,ru⟩:=rv.one
 obtain⟨z,its,n,r,hl,e⟩:=I.lstM hH
 refine call_meets F.slot_list_append ⟨_,e,rfl⟩ F.entry_list_append (F.args_list_append_2 _ _) (PySem.list_append l its.toArray n u (by rw[List.size_toArray];omega)) ⟨e,?_⟩
 refine⟨.non,_,I.lset (its':=its ++ [u]) hH e (by simp) (r.append (.cons ru .nil)) ?_,rfl,q⟩
 rw[List.length_append,List.length_singleton]
 omega
def rExtend:V→List V→Hp→VK→Prop:=fun x vs H Q=>∃l b xs zs,x = .ref l∧vs=[.ref b]∧H l=some (.lst xs)∧H b=some (.lst zs)∧xs.length+zs.length≤sizeLine∧Q .non (upd H l (.lst (xs++zs)))
theorem mt_extend:MtM X "list.extend" rExtend:=by
 intro pins s σ H x vs v us Q I rx rv h
 obtain⟨l,b,xs,zs,rfl,rfl,hH,hB,hz,q⟩:=h
 cases rx
 obtain⟨u,rfl,ru⟩:=rv.one
 cases ru
 obtain⟨z,its,n,r,hl,e⟩:=I.lstM hH
 obtain⟨z2,its2,n2,r2,hl2,e2⟩:=I.lstM hB
 have hsz:its.toArray.size+its2.toArray.size≤sizeLine:=by rw[List.size_toArray,List.size_toArray];omega
 have hlong:¬(!its.toArray.isEmpty && Builtin.List.listTooLong (its.toArray.size+its2.toArray.size))=true:=by
  rw[notLongL hsz,Bool.and_false]
  exact Bool.false_ne_true
 refine call_meets F.slot_list_extend ⟨_,e,rfl⟩ F.entry_list_extend (F.args_list_extend_2 _ _)
  (AutoSeq1.list_extend_list_list_0 l its.toArray n b its2.toArray n2 hlong (by rw[List.size_toArray];omega) (by omega)) ⟨e,e2,?_⟩
 refine⟨.non,_,I.lset (its':=its++its2) hH e (by simp) (r.append r2) ?_,rfl,q⟩
 rw[List.length_append]
 omega
def rCat:R2:=fun x y H Q=>∃l b xs zs,x = .ref l∧y = .ref b∧H l=some (.lst xs)∧H b=some (.lst zs)∧xs.length+zs.length≤sizeLine∧∀p,H p=none→Q (.ref p) (upd H p (.lst (xs++zs)))
theorem op_cat:OpR X (binaryOp .Add) rCat:=by
 intro pins s σ H x y v u Q I rx ry h
 obtain⟨l,b,xs,zs,rfl,rfl,hH,hB,hz,q⟩:=h
 cases rx
 cases ry
 obtain⟨z,its,n,r,hl,e⟩:=I.lstM hH
 obtain⟨z2,its2,n2,r2,hl2,e2⟩:=I.lstM hB
 refine PySem.P.add_list e e2 ?_ (by rw[List.size_toArray,List.size_toArray];omega)
 have ea:its.toArray++its2.toArray =(its++its2).toArray:=by simp
 rw[ea]
 exact⟨.ref _,_,I.lnew (t':=s.toks) (r.append r2) (by rw[List.length_append];omega),rfl,q _ I.fresh⟩
end
section
variable {prog:Program}{w:World}{A:Around}{E:Value→Shared→Prop}{s:Shared}
end
section
variable {X:Cx}
end
end L2
namespace Att
open PySem PySem.W PySem.Calls PyProof.Rows
theorem ints_of_wellAll {P:Params}{h:Heap}:∀(ns:List Int) (vs:List Value),WellAll P h vs (ns.map WData.int)→IntsAre vs ns:=by
 intro ns
 induction ns with
 | nil =>
  intro vs w
  rw[List.map_nil]at w
  cases w
  exact .nil
 | cons n ns ih =>
  intro vs w
  rw[List.map_cons]at w
  cases w with
  | cons a b =>
   cases a
   exact .cons _ _ (ih _ b)
theorem script_of {l:OpenLaw}{n:Nat}(hn:l.most=some n) {P:Params}{h:Heap}{args:List WData}{vals:List Value}
  (hpre:l.row.toRowW.claim.pre args=true) (hwl:WellAll P h vals args) :
  ∃a vs ns,vals=[Value.ref a]∧args=[WData.list (ns.map WData.int)]∧h.get? a=some { cls:=.type "list",data:=.seq vs.toArray }∧IntsAre vs ns∧ns.length≤n:=by
 have hsh:WShape.hasAll [] args [.list .int]=true:=(pre_splitW hpre).1
 have hc:l.pre.holds [] { args:=args } = true:=(pre_splitW hpre).2
 obtain⟨d,r,rfl,h1,h2⟩:=hasAllW_cons hsh
 obtain rfl:=hasAllW_nil h2
 obtain⟨xs,rfl,h3⟩:=hasW_list h1
 obtain⟨ns,rfl⟩:=items_int h3
 have hlen:ns.length≤n:=by
  unfold OpenLaw.pre at hc
  have h4:(WTm.not (.lt (.lit (.int (n:Int))) (.len (.arg 0)))).holds [] { args:=[.list (ns.map .int)] } = true:=by
   have h4:=(holds_andW hc).1
   rw[hn]at h4
   exact h4
  have h5:=condW_of h4 (w_not (w_lt w_lit (w_len_list (w_arg rfl))))
  rw[List.length_map]at h5
  refine Nat.le_of_not_lt fun q=>?_
  have q':(n:Int) <((ns.length:Nat):Int):=by omega
  first
   | (rw[decide_eq_true q']at h5;exact absurd h5 (by decide))
   | (simp at h5;omega)
 cases hwl with
 | cons w1 w2 =>
  cases w2
  cases w1 with
  | list ho hall=>exact⟨_,_,ns,rfl,rfl,ho,ints_of_wellAll ns _ hall,hlen⟩
theorem post_true (l:OpenLaw) (args:List WData):l.row.toRowW.claim.post args (.bool true) args=true :=
 postW_of (r:=l.row.toRowW) (X:=(true == true))
  (show WShape.has [] (.bool true) .bool=true by first|rfl|decide|simp[WShape.has,WShape.arms,WShape.armsAll])
  (show(WTm.eq .res (.lit (.bool true))).value [] { args:=args,res:=some (.bool true),after:=args } = some (.bool (true == true)) from w_eq_bool (w_res rfl) w_lit) rfl
theorem attach_call {l:OpenLaw}{n:Nat}{q:Program}{loose:List Str}{XP:(Str→Option Value)→Heap→Prop}{YP:World→Heap→Prop}{d:DefRec}
  (hn:l.most=some n) (hdf:d.params.defaults=[])
  (call:∀(w:World) (s₀ s₁:Shared) (mg mb:Str→Option Value) (fa:Addr) (o:Obj) (pm cd doc:Value) (a:Addr) (vs:List Value) (ns:List Int),
   Ground q loose [] XP w s₀ mg mb s₁.heap→YP w s₁.heap →
   s₁.heap.get? fa=some o→o.data = .func (docDef d.name d.params d.body d.scope pm cd doc)→s₁.heap.CodeRec cd d.name→mg d.name=some (.ref fa) →
   s₁.heap.get? a=some { cls:=.type "list",data:=.seq vs.toArray }→IntsAre vs ns→ns.length≤n→s₁.gens = #[] →
   codeAny (model l.prog w) callerA (.call (.ref fa) ⟨[.ref a],[]⟩) (fun r s'=>r = .ok (.ret (.bool true))∧OldK s₁.heap s'.heap∧s'.os=s₁.os∧AllBare s'.gens) s₁) :
  WalkO q loose XP YP l.row.toRowW d [] (fun f vs=>PySem.call f vs):=by
 intro w s₀ s₁ mg mb G Y fa o pm cd doc dV kV ho hd hcd hD hmg hg args vals as hpre hlay hrd hwl hlo
 obtain rfl:dV = .none:=Dflts.none hD hdf
 obtain rfl:kV = .none:=Dflts.noKw hD
 obtain⟨a,vs,ns,rfl,rfl,hobj,hints,hlen⟩:=script_of hn hpre hwl
 refine enter_call (codeAny_mono (call w s₀ s₁ mg mb fa o pm cd doc a vs ns G Y ho (fd_plain hd) hcd hmg hobj hints hlen hg) fun r s' hq=>?_)
 obtain⟨rfl,h2,h3,h4⟩:=hq
 exact⟨.inl ⟨.bool true,.bool true,[],rfl,fun _=>rfl,.bool true,post_true l _,fun _=>⟨List.Pairwise.nil,fun _ hm=>(nomatch hm)⟩⟩,h2,h3,h4⟩
section
variable {prog:Program}{w:World}{A:Around}{E:Value→Shared→Prop}{s:Shared}{K:Frag}
end
end Att
namespace L2
open PySem PySem.Spec PyProof.Rows
theorem vals_ints:∀{vs:List Value}{ns:List Int},IntsAre vs ns→Vals (ns.map V.int) vs
 | _,_,.nil=>.nil
 | _,_,.cons n t h=>.cons ⟨t,rfl⟩ (vals_ints h)
def Only (H:Hp):Prop:=∀b,H b=none ∨ ∃o xs,H b=some (.frz o (.lst xs))
theorem law_call {P:Program}{w:World}{K:PySem.W.Frag}{mg mb:Str→Option Value}{CX:CXT}{k:Nat}{fa a:Addr}{fd:FuncData}{x:Str}{sp:Sp}{s₁:Shared}{vs:List Value}{ns:List Int}
  (KX:K.In s₁.heap) (hns:s₁.heap.Ns mainGlobals mg) (hb:s₁.heap.Ns builtinsNs mb) (hbb:∀x:Str,x ≠ "__name__"→mb x=bootBuiltins x) (hlim:s₁.heap.NoLimit) (hg:s₁.gens = #[])
  (ha:s₁.heap.get? a=some { cls:=.type "list",data:=.seq vs.toArray }) (hi:IntsAre vs ns) (hl:ns.length≤sizeLine) (hr:Room k callerA)
  (F:∀base:Heap,K.In base→base.Ns mainGlobals mg→FnOk P w K mg base CX k fa fd [x] sp) (hbind:∀(s:Shared) (u:Value),BindsTo s fd ⟨[u],[]⟩ [(x,u)])
  (hsp:∀H:Hp,Only H→SqL K H a (ns.map V.int)→sp [.ref a] H (fun v _=>v = .bl true) fun _ _ _=>False)
  (hCX:∀H e s',CX [] H s₁ (fun _ _ _=>False) e s'→False) :
  codeAny (model P w) callerA (.call (.ref fa) ⟨[.ref a],[]⟩) (fun r s'=>r = .ok (.ret (.bool true))∧OldK s₁.heap s'.heap∧s'.os=s₁.os∧AllBare s'.gens) s₁:=by
 have rv:=vals_ints hi
 have lenV:=hi.length
 have core:∀H:Hp,Only H→SqL K H a (ns.map V.int)→HOk P w H s₁.heap→(∀b,H b≠none→b=a)→(H a≠none→K.lookup a=none) →
   codeAny (model P w) callerA (.call (.ref fa) ⟨[.ref a],[]⟩) (fun r s'=>r = .ok (.ret (.bool true))∧OldK s₁.heap s'.heap∧s'.os=s₁.os∧AllBare s'.gens) s₁:=by
  intro H hO hS hok hA hK
  have base_of:∀{b:Addr}{o:Obj},s₁.heap.get? b=some o→H b=none→(hidT s₁.heap H).get? b=some o:=fun e n=>hidT_get e n
  have noA:∀{b:Addr}{o:Obj}{es:Array DictEntry}{ep:Nat},s₁.heap.get? b=some o→o.data = .dict es ep→H b=none:=fun {b o es ep} e d=>by
   cases q:H b with
   | none=>rfl
   | some u =>
    have e':b=a:=hA b (by rw[q];simp)
    subst e'
    rw[ha]at e;cases e
    have d':Data.seq vs.toArray _=Data.dict es ep:=d
    cases d'
  have nsK:∀{b:Addr}{m:Str→Option Value},s₁.heap.Ns b m→(hidT s₁.heap H).Ns b m:=fun {b m} ⟨o,es,ep,e,d,r⟩=>⟨o,es,ep,base_of e (noA e d),d,r⟩
  have hKb:K.In (hidT s₁.heap H):=fun b o e=>base_of (KX b o e) (by
   cases q:H b with
   | none=>rfl
   | some u =>
    have e':b=a:=hA b (by rw[q];simp)
    subst e'
    rw[hK (by rw[q];simp)]at e;cases e)
  have hM:Mod K mg (hidT s₁.heap H):=⟨hKb,nsK hns,⟨mb,nsK hb,hbb⟩,let ⟨mc,h1,h2⟩:=hlim;⟨mc,nsK h1,h2⟩⟩
  have e0:Env0 P w K mg (hidT s₁.heap H) callerA [] s₁ H:=⟨rfl,hM,fun b o e=>of_hidT e,Nat.le_of_eq (hidT_size _ _),trivial,fun b hb=>absurd (show b∈([]:List Addr) from hb) (by simp),hok,.of_eq hg⟩
  refine codeAny_mono ((F _ hKb (nsK hns)).run callerA [] s₁ H ⟨[.ref a],[]⟩ [.ref a] [.ref a] _ _ hr e0 (hbind s₁ (.ref a)) (.cons rfl .nil) (hsp H hO hS)) fun r s' h=>?_
  cases r with
  | error e=>exact(hCX H e s' h).elim
  | ok fl =>
   cases fl with
   | next=>exact False.elim h
   | brk=>exact False.elim h
   | cont=>exact False.elim h
   | ret u =>
    obtain⟨v,H',os,bare,un,hok',r',q⟩:=h
    have q':v = .bl true:=q
    subst q'
    obtain rfl:u=Value.bool true:=r'
    refine⟨rfl,OldK.of_keep fun b o e=>?_,os,bare⟩
    cases q:H b with
    | none=>exact un.keep b o e q (by intro z;exact absurd (show b∈([]:List Addr) from z) (by simp)) (by simp)
    | some u =>
     rcases hO b with z|⟨ob,xs,z⟩
     ·rw[q]at z;cases z
     ·have z2:=un.frzs b ob _ z
      obtain⟨e1,_⟩:=hok b _ z
      obtain⟨e2,_⟩:=hok' b _ z2
      rw[e]at e1;cases e1
      exact e2
 cases hk:K.lookup a with
 | some o =>
  have e:=KX a o hk
  rw[ha]at e
  cases e
  refine core (fun _=>none) (fun _=>.inl rfl) (.inr ⟨_,vs.toArray,_,hk,rfl,rfl,rfl,by rw[List.size_toArray,lenV];exact hl,by simpa using rv⟩) (fun b u z=>by have z':(none:Option HO)=some u:=z;cases z') (fun b z=>absurd rfl z) fun z=>absurd rfl z
 | none =>
  refine core (fun b=>if b=a then some (.frz { cls:=.type "list",data:=.seq vs.toArray } (.lst (ns.map V.int))) else none) (fun b=>?_) (.inl (.inr ⟨{ cls:=.type "list",data:=.seq vs.toArray },if_pos rfl⟩)) (fun b u z=>?_) (fun b z=>?_) fun _=>hk
  ·by_cases hb:b=a
   ·exact .inr ⟨_,_,if_pos hb⟩
   ·exact .inl (if_neg hb)
  ·by_cases hb:b=a
   ·have z':=(if_pos hb).symm.trans z
    cases z'
    subst hb
    exact⟨ha,by rw[List.length_map];exact hl,vs,_,rv,ha⟩
   ·have z':=(if_neg hb).symm.trans z
    cases z'
  ·by_cases hb:b=a
   ·exact hb
   ·exact absurd (if_neg hb) z
end L2
namespace L2
open PySem PySem.Spec PyProof.Rows
theorem walk_of {l:PySem.W.OpenLaw}{n k:Nat}{q:Program}{loose:List Str}{XP:(Str→Option Value)→Heap→Prop}{YP:World→Heap→Prop}{d:DefRec}{K:Params→PySem.W.Frag}{CX:World→CXT}{sp:World→Sp}{x:Str}
  (hn:l.most=some n) (hn2:n≤sizeLine) (hdf:d.params.defaults=[]) (hr:Room k callerA)
  (hY:∀(w:World) (h:Heap),YP w h→(K w.params).In h)
  (F:∀(w:World) (mg:Str→Option Value) (fa:Addr) (h:Heap),(K w.params).In h→h.Ns mainGlobals mg→mg d.name=some (.ref fa) →
   ∃fd:FuncData,(∀(s:Shared) (u:Value),BindsTo s fd ⟨[u],[]⟩ [(x,u)]) ∧
    ∀base:Heap,(K w.params).In base→base.Ns mainGlobals mg→FnOk l.prog w (K w.params) mg base (CX w) k fa fd [x] (sp w))
  (hsp:∀(w:World) (H:Hp) (a:Addr) (ns:List Int),ns.length≤n→Only H→SqL (K w.params) H a (ns.map V.int)→sp w [.ref a] H (fun v _=>v = .bl true) fun _ _ _=>False)
  (hCX:∀(w:World) (H:Hp) (s:Shared) (e:Value) (s':Shared),CX w [] H s (fun _ _ _=>False) e s'→False) :
  PySem.W.WalkO q loose XP YP l.row.toRowW d [] (fun f vs=>PySem.call f vs):=by
 refine Att.attach_call hn hdf fun w s₀ s₁ mg mb fa o pm cd doc a vs ns G Y ho hd hcd hmg hobj hints hlen hg=>?_
 have KX:=hY w _ Y
 obtain⟨fd,hb,hF⟩:=F w mg fa _ KX G.T.g hmg
 exact law_call KX G.T.g G.T.b G.T.builtins G.T.nolimit hg hobj hints (Nat.le_trans hlen hn2) hr hF hb (fun H hO hS=>hsp w H a ns hlen hO hS) fun H e s'=>hCX w H s₁ e s'
end L2
namespace L2
open PySem PySem.Spec PyProof.Rows
def defArgs (s:Stmt):Arguments:=match s with
 | .FunctionDef _ a _ _ _ _ _ _ _ _=>a
 | _=>{ posonlyargs:=[],args:=[],vararg:=none,kwonlyargs:=[],kw_defaults:=[],kwarg:=none,defaults:=[] }
def defBody (s:Stmt):List Stmt:=match s with
 | .FunctionDef _ _ b _ _ _ _ _ _ _=>b
 | _=>[]
def defScope (s:Stmt):Scope:=match s with
 | .FunctionDef _ _ _ _ _ _ sc _ _ _=>sc
 | _=>{ kind:=.function,names:=[],isGenerator:=false,isCoroutine:=false }
abbrev CX0:CXT:=fun _ _ _ _ _ _=>False
abbrev E0:XK:=fun _ _ _=>False
theorem pass0 {X:Cx}:Passes CX0 X E0:=fun _ _ _ _ _ _ _ h=>h.elim
structure Fun (K:PySem.W.Frag) (x qual:Str) (st:Stmt) (f:Addr) (fd:FuncData):Prop where
 ex:∃(oc:Value) (od:Option Addr) (kV doc pm:Value) (an:Option Addr) (cdv ct:Value) (osl:Array (Option Value)),
  fd=PySem.W.fnOf x qual (defArgs st) (defBody st) (defScope st) .none kV doc pm an cdv ct∧K.lookup f=some ⟨oc,od,.func fd,osl⟩∧PySem.W.codeIn K cdv qual=true
 kp:PySem.W.keepIn K (.ref f)=true
section
variable {P:Program}{w:World}{K:PySem.W.Frag}{mg:Str→Option Value}{base:Heap}
theorem Fun.ok {x qual:Str}{st:Stmt}{f:Addr}{fd:FuncData}{N ps:List Str}{k:Nat}{sp:Sp}(F:Fun K x qual st f fd) (S:FnScope N ps (defScope st)) (len:∀vs H Q E,sp vs H Q E→vs.length=ps.length)
  (hbody:∀(cdv:Value) (A:Around) (outer:List Env) (s:Shared) (H:Hp) (vs:List V) (Q:VK) (E:XK),Room k (A.deeper (envOfC qual (defScope st) s.heap.objs.size f cdv))→sp vs H Q E →
   ∃t,PSs (cxOf CX0 P w K mg base N qual (defScope st) f cdv A outer s H E).nox (defBody st) t∧t { nx:=fun _ H'=>Q .non H',rt:=Q } (start N vs) H):FnOk P w K mg base CX0 (k+1) f fd ps sp:=by
 obtain⟨oc,od,kV,doc,pm,an,cdv,ct,osl,rfl,lk,hcd⟩:=F.ex
 refine fn_of lk hcd S len fun A outer s H vs Q E hr hsp=>?_
 obtain⟨t,h,q⟩:=hbody cdv A outer s H vs Q E hr hsp
 exact⟨t,h.nox,q⟩
theorem Fun.binds {x qual:Str}{st:Stmt}{f:Addr}{fd:FuncData}{ps:List Str}(F:Fun K x qual st f fd)
  (h:∀(kV doc pm:Value) (an:Option Addr) (cdv ct:Value) (us:List Value),us.length=ps.length→bindArgs (PySem.W.fnOf x qual (defArgs st) (defBody st) (defScope st) .none kV doc pm an cdv ct) ⟨us,[]⟩=pure (ps.zip us)):Binds K fd ps []:=by
 obtain⟨oc,od,kV,doc,pm,an,cdv,ct,osl,rfl,lk,hcd⟩:=F.ex
 exact .all (h kV doc pm an cdv ct)
theorem fun_mk {x qual:Str}{st:Stmt}{f:Addr}{oc:Value}{od an:Option Addr}{osl:Array (Option Value)}{kV doc pm cdv ct:Value}(l:K.lookup f=some ⟨oc,od,.func (PySem.W.fnOf x qual (defArgs st) (defBody st) (defScope st) .none kV doc pm an cdv ct),osl⟩)
  (c:PySem.W.codeIn K cdv qual=true) (k:PySem.W.keepIn K (.ref f)=true):Fun K x qual st f (PySem.W.fnOf x qual (defArgs st) (defBody st) (defScope st) .none kV doc pm an cdv ct):=⟨⟨oc,od,kV,doc,pm,an,cdv,ct,osl,rfl,l,c⟩,k⟩
end
theorem small1000 {n:Nat}(h:n≤1000):n<sizeLine:=Nat.lt_of_le_of_lt h (by decide)
section
variable {X:Cx}
theorem pv (i:Nat) {x:Str}{pos:Pos}(hN:X.N[i]? = some x:=by rfl) (hv:Vis X.env.scope x:=by first|exact Or.inl rfl|exact Or.inr (Or.inl rfl)|exact Or.inr (Or.inr rfl)) (hd:(x ==("__debug__" : Str))=false:=by decide)
  (hcd:(x ==("__classdict__" : Str))=false:=by decide):PE X (.Name x pos) (tVar i):=pe_var hN hv hd hcd
end
theorem iteF {A B:Prop}(h:B):if false=true then A else B:=by
 rw[if_neg Bool.false_ne_true]
 exact h
theorem iteT {A B:Prop}(h:A):if true=true then A else B:=by
 rw[if_pos rfl]
 exact h
def Same (H H':Hp):Prop:=∀b o,H b=some o→H' b=some o
theorem Same.trans {H H1 H2:Hp}(a:Same H H1) (b:Same H1 H2):Same H H2:=fun c o h=>b c o (a c o h)
theorem Same.free {H H':Hp}(e:Same H H') {l:Addr}(h:H' l=Option.none):H l=Option.none:=by
 cases q:H l with
 | none=>rfl
 | some o =>
  rw[e l o q]at h
  cases h
theorem Same.seq {K:PySem.W.Frag}{H H':Hp}{a:Addr}{xs:List V}(e:Same H H') (h:SqL K H a xs):SqL K H' a xs:=by
 rcases h with(h|⟨o,h⟩)|h
 ·exact .inl (.inl (e _ _ h))
 ·exact .inl (.inr ⟨o,e _ _ h⟩)
 ·exact .inr h
end L2
namespace L2
open PySem PySem.Spec PyProof.Rows
def clOf (env:Env):List (Str×NameKind)→List (Str×Addr)→List (Str×Addr)
 | [],cs=>cs
 | (n,k)::r,cs=>clOf env r (if k == .free then(n,(env.cells.lookup n).getD 0)::cs else cs)
def clStep (env:Env) (x:Str×NameKind) (s:List (Str×Addr)):Sem (ForInStep (List (Str×Addr))):=if (x.2 == NameKind.free)=true then cellOf env x.1 >>= fun c=>pure (ForInStep.yield ((x.1,c)::s)) else pure (ForInStep.yield s)
theorem clStep_run {env:Env}:∀{ns:List (Str×NameKind)}(cs:List (Str×Addr)),(∀y∈ns,y.2 = .free→∃c,env.cells.lookup y.1=some c)→(forIn ns cs (clStep env):Sem (List (Str×Addr)))=pure (clOf env ns cs)
 | [],cs,_=>rfl
 | (n,k)::r,cs,h=>by
  rw[List.forIn_cons]
  have hr:∀y∈r,y.2 = .free→∃c,env.cells.lookup y.1=some c:=fun z hz=>h z (List.mem_cons_of_mem _ hz)
  cases hk:(k == NameKind.free) with
  | false =>
   have e1:clStep env (n,k) cs=pure (ForInStep.yield cs):=by
    unfold clStep
    exact if_neg (by rw[show(n,k).2=k from rfl,hk];decide)
   rw[e1,pure_bind]
   show forIn r cs (clStep env)=_
   rw[clStep_run cs hr]
   show pure (clOf env r cs)=pure (clOf env r (if (k == NameKind.free)=true then(n,(List.lookup n env.cells).getD 0)::cs else cs))
   rw[hk]
   rfl
  | true =>
   have hk':k = .free:=by simpa using hk
   obtain⟨c,hc⟩:=h (n,k) List.mem_cons_self hk'
   have hc':env.cells.lookup n=some c:=hc
   have q:cellOf env n=pure c:=by unfold cellOf;rw[hc']
   have e1:clStep env (n,k) cs=pure (ForInStep.yield ((n,c)::cs)):=by
    unfold clStep
    rw[if_pos (by rw[show(n,k).2=k from rfl,hk]),show(n,k).1=n from rfl,q,pure_bind]
   rw[e1,pure_bind]
   show forIn r ((n,c)::cs) (clStep env)=_
   rw[clStep_run _ hr]
   show pure (clOf env r ((n,c)::cs))=pure (clOf env r (if (k == NameKind.free)=true then(n,(List.lookup n env.cells).getD 0)::cs else cs))
   rw[hk,hc']
   rfl
theorem closure_eq {scope:Scope}{env:Env}(h:∀y∈scope.names,y.2 = .free→∃c,env.cells.lookup y.1=some c):closureFor scope env=pure (clOf env scope.names []):=by
 show(forIn scope.names ([]:List (Str×Addr)) (clStep env) >>= fun s=>(pure s:Sem (List (Str×Addr))))=_
 rw[clStep_run [] h,pure_bind]
theorem clOf_sound {env:Env}{n:Str}{c:Addr}:∀{ns:List (Str×NameKind)}{cs:List (Str×Addr)},(∀y∈ns,y.2 = .free→∃c,env.cells.lookup y.1=some c)→(∀p∈cs,env.cells.lookup p.1=some p.2)→(clOf env ns cs).lookup n=some c→env.cells.lookup n=some c
 | [],cs,_,hc,h=>hc _ (PySem.mem_of_lookup h)
 | (m,k)::r,cs,hn,hc,h=>by
  unfold clOf at h
  refine clOf_sound (fun y hy=>hn y (List.mem_cons_of_mem _ hy)) ?_ h
  intro p hp
  split at hp
  ·rename_i hk
   have hk':k = .free:=by simpa using hk
   obtain⟨c',hc'⟩:=hn (m,k) List.mem_cons_self hk'
   have hc2:env.cells.lookup m=some c':=hc'
   rw[hc2]at hp
   rcases List.mem_cons.mp hp with rfl|hp
   ·exact hc2
   ·exact hc p hp
  ·exact hc p hp
theorem lookup_mono_isSome {n:Str}:∀{cs:List (Str×Addr)},(∃c,(n,c)∈cs)→∃c,cs.lookup n=some c
 | [],⟨_,h⟩=>absurd h (by simp)
 | (m,d)::r,⟨c,h⟩=>by
  rw[List.lookup_cons]
  by_cases e:n=m
  ·subst e;exact⟨d,by simp⟩
  ·have:(n == m)=false:=beq_eq_false_iff_ne.mpr e
   rw[this]
   rcases List.mem_cons.mp h with z|z
   ·cases z;exact absurd rfl e
   ·exact lookup_mono_isSome ⟨c,z⟩
theorem clOf_keeps {env:Env}{p:Str×Addr}:∀{ns:List (Str×NameKind)}{cs:List (Str×Addr)},p∈cs→p∈clOf env ns cs
 | [],_,h=>h
 | (m,k)::r,cs,h=>by
  unfold clOf
  refine clOf_keeps ?_
  split
  ·exact List.mem_cons_of_mem _ h
  ·exact h
theorem clOf_has {env:Env}{n:Str}:∀{ns:List (Str×NameKind)}{cs:List (Str×Addr)},(n,NameKind.free)∈ns→∃c,(n,c)∈clOf env ns cs
 | [],_,h=>absurd h (by simp)
 | (m,k)::r,cs,h=>by
  unfold clOf
  rcases List.mem_cons.mp h with z|z
  ·cases z
   exact⟨(env.cells.lookup n).getD 0,clOf_keeps (by simp)⟩
  ·exact clOf_has z
def cxBlk (X:Cx) (scope:Scope) (N:List Str) (C:Addr) (s:Shared) (H:Hp) (ex:List Addr):Cx :=
 { X with N:=N,s₀:=s,H₀:=H,env:=compEnvC scope (clOf X.env scope.names []) C X.env,outer:=X.stack,ex:=ex,fn:=fun _=>false,pn:=[],xe:=fun _ _=>False }
structure BlkOk (X:Cx) (scope:Scope) (vs fs:List Str) (js:List Nat):Prop where
 kind:scope.kind = .function
 cell:∀y∈scope.names,y.2 ≠ .cell
 names:∀y∈scope.names,y.2 = .local→scope.names.lookup y.1=some .local
 free:∀y∈scope.names,y.2 = .free→X.env.kindOf y.1=some .cell∨X.env.kindOf y.1=some .free
 own:∀y∈vs,scope.names.lookup y=some .local
 cap:∀y∈fs,scope.names.lookup y=some .free
 ix:js.map (fun j=>X.N[j]?)=fs.map some
def blkSt (vs:List Str) (js:List Nat) (σ:St):St:=vs.map (fun _=>none)++js.map (fun j=>(σ[j]?).join)
theorem lookup_relabel_free {env:Env}{names:List (Str×NameKind)}{x:Str}(h:names.lookup x=some .free) :
  (names.map fun(n,k)=>if (k == NameKind.free && env.scope.kind == .function && env.kindOf n == some .cell) then(n,NameKind.cell) else(n,k)).lookup x=some .cell ∨
  (names.map fun(n,k)=>if (k == NameKind.free && env.scope.kind == .function && env.kindOf n == some .cell) then(n,NameKind.cell) else(n,k)).lookup x=some .free:=by
 induction names with
 | nil=>cases h
 | cons y r ih =>
  obtain⟨n,k⟩:=y
  rw[List.map_cons]
  show List.lookup x ((if (k == NameKind.free && env.scope.kind == .function && env.kindOf n == some .cell)=true then(n,NameKind.cell) else(n,k))::_)=_∨List.lookup x ((if (k == NameKind.free && env.scope.kind == .function && env.kindOf n == some .cell)=true then(n,NameKind.cell) else(n,k))::_)=_
  rw[List.lookup_cons]at h
  cases e:x == n with
  | true =>
   rw[e]at h
   have h':k = .free:=by simpa using h
   subst h'
   split
   ·left;rw[List.lookup_cons,e]
   ·right;rw[List.lookup_cons,e]
  | false =>
   rw[e]at h
   have h':=ih h
   split
   ·rw[List.lookup_cons,e];exact h'
   ·rw[List.lookup_cons,e];exact h'
theorem relabel_back {env:Env}{names:List (Str×NameKind)}{x:Str}{kk:NameKind}
  (h:(names.map fun(n,k)=>if (k == NameKind.free && env.scope.kind == .function && env.kindOf n == some .cell) then(n,NameKind.cell) else(n,k)).lookup x=some kk) :
  (kk = .cell∧(x,NameKind.free)∈names) ∨(x,kk)∈names:=by
 induction names with
 | nil=>cases h
 | cons y r ih =>
  obtain⟨n,k⟩:=y
  rw[List.map_cons]at h
  have h2:List.lookup x ((if (k == NameKind.free && env.scope.kind == .function && env.kindOf n == some .cell)=true then(n,NameKind.cell) else(n,k))::(r.map fun(n,k)=>if (k == NameKind.free && env.scope.kind == .function && env.kindOf n == some .cell) then(n,NameKind.cell) else(n,k)))=some kk:=h
  cases e:x == n with
  | true =>
   have e':x=n:=by simpa using e
   subst e'
   split at h2
   ·rename_i hc
    rw[List.lookup_cons,e]at h2
    have h3:kk = .cell:=by simpa using h2.symm
    have hk:k = .free:=by
     have:=(Bool.and_eq_true _ _ ▸ hc).1
     have:=(Bool.and_eq_true _ _ ▸ this).1
     simpa using this
    subst hk
    exact .inl ⟨h3,List.mem_cons_self⟩
   ·rw[List.lookup_cons,e]at h2
    have h3:kk=k:=by simpa using h2.symm
    subst h3
    exact .inr List.mem_cons_self
  | false =>
   have h3:(r.map fun(n,k)=>if (k == NameKind.free && env.scope.kind == .function && env.kindOf n == some .cell) then(n,NameKind.cell) else(n,k)).lookup x=some kk:=by
    split at h2
    ·rw[List.lookup_cons,e]at h2;exact h2
    ·rw[List.lookup_cons,e]at h2;exact h2
   rcases ih h3 with⟨a,b⟩|b
   ·exact .inl ⟨a,List.mem_cons_of_mem _ b⟩
   ·exact .inr (List.mem_cons_of_mem _ b)
section
variable {prog:Program}{w:World}{A:Around}{R:Result→Shared→Prop}{s:Shared}
theorem codeAny_compLoop_gen {elt target iter:Expr}{ifs:List Expr}{scope:Scope}{pos:Pos}{it acc:Value}{env:Env}(I:Nat→Shared→Prop)
  (turn:∀n s,I n s→wpAny (model prog w) A (pyNext it) (fun r s₁=>match r with
   | none=>R (.ok .next) s₁
   | some v=>wpAny (model prog w) A (letOwnedTupleGo target it v) (fun _ s₁'=>wpAny (model prog w) A (assign target env v) (fun _ s₂ =>
     wpAny (model prog w) A (forIn ifs true fun c r=>if r=true then do let ok ← isTrue c env (eval c env);pure (ForInStep.yield ok) else pure (ForInStep.yield r)) (fun ok s₃ =>
      if ok=true then wpAny (model prog w) A (eval elt env) (fun x s₄ =>
       wpAny (model prog w) A (call (.builtin "list.append") [acc,x]) (fun _ s₅=>∃m,m<n∧I m s₅) (fun _ _=>False) s₄) (fun _ _=>False) s₃
      else ∃m,m<n∧I m s₃) (fun _ _=>False) s₂) (fun _ _=>False) s₁') (fun _ _=>False) s₁) (fun _ _=>False) s)
  (n:Nat) (h:I n s) :
  codeAny (model prog w) A (.compLoop (.ListComp elt [⟨target,iter,ifs,0⟩] scope pos) 0 it acc env) R s:=by
 refine codeAny_loop rfl I (fun n s hI=>?_) n h
 show wpAny _ A ((compTurn (.ListComp elt [⟨target,iter,ifs,0⟩] scope pos) 0 it acc env).onRaise (fun x=>do noteFrame x env;theTreesLotGoes x)) _ _ s
 refine wpAny_noted ?_
 rw[compTurn_list]
 refine wpAny_bind (wpAny_standAt (wpAny_bind (wpAny_mono (turn n s hI) (fun r s₁ h₁=>?_) fun _ _ h'=>h'.elim)))
 cases r with
 | none=>exact wpAny_pure h₁
 | some v =>
  refine wpAny_bind (wpAny_mono h₁ (fun _ s₁' h₁'=>?_) fun _ _ h'=>h'.elim)
  refine wpAny_bind (wpAny_mono h₁' (fun _ s₂ h₂=>wpAny_bind (wpAny_mono h₂ (fun ok s₃ h₃=>?_) fun _ _ h'=>h'.elim)) fun _ _ h'=>h'.elim)
  cases ok with
  | false=>exact wpAny_pure ⟨rfl,h₃⟩
  | true =>
   exact wpAny_bind (wpAny_bind (wpAny_mono h₃ (fun x s₄ h₄=>wpAny_bind (wpAny_mono h₄ (fun _ s₅ h₅=>wpAny_pure (wpAny_pure ⟨rfl,h₅⟩)) fun _ _ h'=>h'.elim)) fun _ _ h'=>h'.elim))
end
def PIfs (X:Cx) (ifs:List Expr) (t:TT):Prop :=
 ∀(pins:List (Addr×Obj)) (s:Shared) (σ:St) (H:Hp) (Q:Bool→Hp→Prop),Inv X pins σ H s→t σ H Q →
  wpAny (model X.prog X.w) X.A (forIn ifs true fun c r=>if r=true then do let ok ← isTrue c X.env (eval c X.env);pure (ForInStep.yield ok) else pure (ForInStep.yield r)) (TP X pins σ Q) X.xe s
def tYes:TT:=fun _ H Q=>Q true H
theorem pif0 {X:Cx}:PIfs X [] tYes:=fun _ _ _ H _ I h=>wpAny_tests_nil ⟨H,I,h⟩
def CompW (J:It) (vs:List Str) (js:List Nat) (σ:St) (g:TG) (tt:TT) (te:TE) (Q:VK) (D:Addr) (H1:Hp):Prop :=
 ∃W:Nat→Nat→St→List V→Hp→Prop,(∃m,W 0 m (blkSt vs js σ) [] (upd H1 D (.lst [])))∧∀i m σ' ys H',W i m σ' ys H' →
  (J.stop i H'∧Q (.ref D) H') ∨(J.go i H'∧∃N:St→List V→Hp→Prop,(∀σ2 zs H2,N σ2 zs H2→∃m',m'<m∧W (i+1) m' σ2 zs H2) ∧
   ∀x H2,J.yld i H' x H2→g x σ' H2 fun σ3 H3=>tt σ3 H3 fun b H4=>if b=true then te σ3 H4 fun y H5=>H5 D=some (.lst ys)∧ys.length<sizeLine∧N σ3 (ys ++ [y]) (upd H5 D (.lst (ys ++ [y]))) else N σ3 ys H4)
def tComp (vs:List Str) (js:List Nat) (wi:TI) (g:TG) (tt:TT) (te:TE):TE:=fun σ H Q=>wi σ H fun J H1=>∀D,H1 D=none→CompW J vs js σ g tt te Q D H1
section
variable {X:Cx}{pins:List (Addr×Obj)}{σ:St}{H:Hp}{s:Shared}{scope:Scope}{vs fs:List Str}{js:List Nat}
theorem blk_start {fp:List Addr}{C D:Addr}{h₁:Heap}{tk:Nat}{m:Str→Option Value}(I:Inv X pins σ H s) (B:BlkOk X scope vs fs js) (hf:∀b∈fp,FpOk X pins H b) (hfp:∀b∈fp,b<s.heap.objs.size)
  (hn:h₁.Ns C m) (hk:∀b o,s.heap.get? b=some o→h₁.get? b=some o) (hD:D=s.heap.objs.size) (hC:s.heap.objs.size<C)
  (hl:h₁.get? D=some { cls:=.type "list",data:=.seq ([]:List Value).toArray }) :
  Inv (cxBlk X scope (vs++fs) C s H fp) [] (blkSt vs js σ) (upd H D (.lst [])) { s with heap:=h₁,toks:=tk }:=by
 have hasX:∀y∈scope.names,y.2 = .free→∃c,X.env.cells.lookup y.1=some c:=fun y hy hf=>I.ok.has y.1 (B.free y hy hf)
 have snd:∀{y:Str}{c:Addr},(clOf X.env scope.names []).lookup y=some c→X.env.cells.lookup y=some c:=fun h=>clOf_sound hasX (fun p hp=>absurd hp (by simp)) h
 have clt:∀{y:Str}{c:Addr},X.env.cells.lookup y=some c→c<s.heap.objs.size:=fun {y c} h=>by
  obtain⟨v,o,ho,_⟩:=I.cell y c h
  exact Heap.lt_size ho
 have hfr:H D=none:=by rw[hD];exact I.hok.fresh (Nat.le_refl _)
 have hfC:H C=none:=I.hok.fresh (Nat.le_of_lt hC)
 have nCD:C≠D:=by rw[hD];exact Nat.ne_of_gt hC
 refine⟨⟨I.ok.mod,B.kind,I.ok.glob,I.ok.blt,Nat.le_of_lt hC,fun y z c h1 h2=>I.ok.inj y z c (snd h1) (snd h2),fun y hy=>?_,fun y c z _=>absurd (show false=true from z) Bool.false_ne_true,I.ok.hd,I.ok.frames,.inl rfl,fun b hb=>⟨?_,fun y c h=>(hf b hb).2.2.2.2.1 y c (snd h)⟩,I.bs,Nat.le_trans I.ok.bsz I.sz,fun b o e hb=>?_,fun b hb z=>?_,I.stack,I.stkFree⟩,
  rfl,I.bare,Un.laid hk (Nat.le_of_eq hD.symm) hfr,⟨m,hn,fun i y v h1 h2 h3=>?_⟩,fun y c h=>?_,?_,fun y c h=>?_,fun p hp=>absurd (show p∈([]:List (Addr×Obj)) from hp) (by simp),I.hok.laid hk (Nat.le_of_eq hD.symm) ⟨by simp,[],0,.nil,hl⟩,?_⟩
 ·-- has
  have key:(y,NameKind.free)∈scope.names:=by
   rcases hy with hy|hy
   ·rcases relabel_back hy with⟨_,z⟩|z
    ·exact z
    ·exact absurd rfl (B.cell _ z)
   ·rcases relabel_back hy with⟨z,_⟩|z
    ·cases z
    ·exact z
  exact lookup_mono_isSome (clOf_has key)
 ·exact Nat.ne_of_lt (Nat.lt_trans (hfp b hb) hC)
 ·rcases(hf b hb).2.2.2.1 with z|z
  ·exact I.ok.noex b o e z
  ·exact absurd (Nat.lt_of_lt_of_le (Heap.lt_size e) (Nat.le_trans I.ok.bsz z)) (Nat.lt_irrefl _)
 ·rcases List.mem_cons.mp (I.stkSub b z) with e|e
  ·exact(hf b hb).2.1 e
  ·exact(hf b hb).2.2.1 e
 ·-- loc
  have hlen:js.length=fs.length:=by have:=congrArg List.length B.ix;simpa using this
  have hi:¬ i<vs.length:=fun hi=>by
   unfold blkSt at h2
   rw[List.getElem?_append_left (by simpa using hi),List.getElem?_map]at h2
   cases e:vs[i]? with
   | none=>rw[e]at h2;cases h2
   | some a=>rw[e]at h2;cases h2
  have hi':vs.length≤i:=Nat.le_of_not_lt hi
  have h1':fs[i-vs.length]? = some y:=by
   have:=h1
   rw[show(cxBlk X scope (vs++fs) C s H fp).N=vs++fs from rfl,List.getElem?_append_right hi']at this
   exact this
  have h2':(js[i-vs.length]?).map (fun j=>(σ[j]?).join)=some (some v):=by
   unfold blkSt at h2
   rw[List.getElem?_append_right (by simpa using hi'),List.length_map,List.getElem?_map]at h2
   exact h2
  cases ej:js[i-vs.length]? with
  | none=>rw[ej]at h2';cases h2'
  | some j =>
   rw[ej]at h2'
   have hσ:σ[j]? = some (some v):=by
    have z:(σ[j]?).join=some v:=Option.some.inj h2'
    cases q:σ[j]? with
    | none=>rw[q]at z;cases z
    | some o=>rw[q]at z;have z':o=some v:=z;rw[z']
   have hNj:X.N[j]? = some y:=by
    have q:=congrArg (fun l=>l[i-vs.length]?) B.ix
    simp only[List.getElem?_map,ej,h1',Option.map_some]at q
    exact Option.some.inj q
   have hcap:=B.cap y (List.mem_of_getElem? h1')
   have hmem:(y,NameKind.free)∈scope.names:=PySem.mem_of_lookup hcap
   have hkX:=B.free _ hmem rfl
   have vis:Vis X.env.scope y:=by
    rcases hkX with z|z
    ·exact .inr (.inl z)
    ·exact .inr (.inr z)
   obtain⟨m0,hn0,hl0⟩:=I.loc
   obtain⟨u,r,l⟩:=hl0 j y v hNj hσ vis
   refine⟨u,r,.inr ⟨lookup_relabel_free hcap,?_⟩⟩
   rcases l with⟨z,_⟩|⟨_,c,hc,hcell⟩
   ·rcases hkX with q|q <;> (rw[q]at z;cases z)
   ·obtain⟨c',hc'⟩:=lookup_mono_isSome (clOf_has (env:=X.env) (cs:=[]) hmem)
    have e:=snd hc'
    rw[hc]at e
    cases e
    exact⟨c,hc',hcell.keeps hk⟩
 ·obtain⟨v,z⟩:=I.cell y c (snd h)
  exact⟨v,z.keeps hk⟩
 ·rw[show(cxBlk X scope (vs++fs) C s H fp).env.locals=C from rfl,upd_ne nCD]
  exact hfC
 ·have q:=snd h
  have ne:c≠D:=by rw[hD];exact Nat.ne_of_lt (clt q)
  rw[upd_ne ne]
  exact I.freeC y c q
 ·have hlen:js.length=fs.length:=by have:=congrArg List.length B.ix;simpa using this
  show(vs.map _++js.map _).length =(vs++fs).length
  rw[List.length_append,List.length_append,List.length_map,List.length_map,hlen]
theorem Inv.goneC {H':Hp}{s':Shared}{C:Addr}{h'':Heap}(I2:Inv X pins σ H s) {σ':St}(I':Inv X pins σ' H' s') (hC:H' C=none) (hle:s.heap.objs.size≤C) (hs:Heap.SameBut C s'.heap h''):Inv X pins σ' H' { s' with heap:=h'' }:=by
 refine I'.turned (t':=s'.toks) (fun b o hb e=>(hs.2 b hb).trans e) hC (Nat.ne_of_gt (Nat.lt_of_lt_of_le I2.lt hle)) (.inr (Nat.le_trans I2.sz hle)) (fun y c e z=>?_) fun p hp z=>?_
 ·obtain⟨v,o,ho,_⟩:=I2.cell y c e
  have:=Heap.lt_size ho
  rw[z]at this
  exact absurd (Nat.lt_of_lt_of_le this hle) (Nat.lt_irrefl _)
 ·have:=Heap.lt_size (I2.pin p hp).1
  rw[z]at this
  exact absurd (Nat.lt_of_lt_of_le this hle) (Nat.lt_irrefl _)
theorem blk_run {tg iter elt:Expr}{ifs:List Expr}{pos:Pos}{g:TG}{tt:TT}{te:TE}(hc:X.calm=true) (B:BlkOk X scope vs fs js)
  (hg:∀C s H ex,PG (cxBlk X scope (vs++fs) C s H ex) tg g) (ht:∀C s H ex,PIfs (cxBlk X scope (vs++fs) C s H ex) ifs tt) (he:∀C s H ex,PE (cxBlk X scope (vs++fs) C s H ex) elt te)
  {it:Addr}{fp:List Addr}{tn:Nat→Heap→Prop}{J:It}{Q:VK}{E:Value→Shared→Prop}(I2:Inv X pins σ H s) (T:Turn X.prog X.w X.K tg J fp it tn) (st2:tn 0 s.heap) (f2:∀b∈fp,FpOk X pins H b)
  (hW:∀D,H D=none→CompW J vs js σ g tt te Q D H)
  {RR:Value→Addr→Result→Shared→Prop}
  (hR:∀D C H' s',Inv X pins σ H' s'→(∃m,s'.heap.Ns C m)→H' C=none→s.heap.objs.size≤C→Q (.ref D) H'→RR (.ref D) C (.ok .next) s') :
  wpAny (model X.prog X.w) X.A (newList []) (fun acc s₃=>wpAny (model X.prog X.w) X.A (newFunctionEnv scope X.env.globals (clOf X.env scope.names []) [] X.env.qual none .none (some X.env)) (fun cenv s₄ =>
   codeAny (model X.prog X.w) X.A (.compStart (.ListComp elt [⟨tg,iter,ifs,0⟩] scope pos) 0 (.ref it) acc { cenv with scope:=relabel scope X.env }) (RR acc cenv.locals) s₄) E s₃) E s:=by
 have hfp:∀b∈fp,b<s.heap.objs.size:=fun b hb=>by
  obtain⟨o,e,_⟩:=T.obj _ _ st2 b hb
  exact Heap.lt_size e
 refine wpAny_newObj_type (wpAny_newFunctionEnv B.cell (by intro y hy;simp at hy) (fun h₁ hns₁ hsb₁=>?_) B.kind)
 dsimp only at hns₁ hsb₁ ⊢
 generalize hH2:s.heap.push { cls:=.type "list",dict:=none,data:=.seq ([]:List Value).toArray } = HH at hns₁ hsb₁ ⊢
 have hC:HH.objs.size=s.heap.objs.size+1:=by rw[← hH2,Heap.size_push]
 have hlt:s.heap.objs.size<HH.objs.size:=by rw[hC];exact Nat.lt_succ_self _
 have old:∀b o,s.heap.get? b=some o→h₁.get? b=some o:=fun b o e=>hsb₁.extBut b o (Nat.ne_of_lt (Nat.lt_trans (Heap.lt_size e) hlt)) (Heap.get?_push_of_some _ (hH2 ▸ Heap.get?_push_of_some _ e))
 have hacc:h₁.get? s.heap.objs.size=some { cls:=.type "list",data:=.seq ([]:List Value).toArray }:=hsb₁.extBut _ _ (Nat.ne_of_lt hlt) (Heap.get?_push_of_some _ (hH2 ▸ Heap.get?_push_size _ rfl))
 have I0:Inv (cxBlk X scope (vs++fs) HH.objs.size s H fp) [] (blkSt vs js σ) (upd H s.heap.objs.size (.lst [])) { s with heap:=h₁,toks:=s.toks+([]:List (Str×Value)).length }:=blk_start I2 B f2 hfp hns₁ old rfl hlt hacc
 obtain⟨W,⟨m0,w0⟩,turn⟩:=hW s.heap.objs.size (I2.hok.fresh (Nat.le_refl _))
 have st1:tn 0 h₁:=T.keep _ _ _ st2 fun b hb o e=>old b o e
 have hch:∀b∈fp,(b∈X.ex∨X.s₀.heap.objs.size≤b)∧b≠X.env.locals∧(∀x c,X.env.cells.lookup x=some c→c≠b)∧∀p∈X.pn++pins,p.1≠b:=fun b hb=>by
  obtain⟨_,a2,_,a4,a5,a6⟩:=f2 b hb
  exact⟨a4,a2,a5,a6⟩
 have back:∀{pl:List (Addr×Obj)}{σ':St}{H':Hp}{s':Shared},Inv (cxBlk X scope (vs++fs) HH.objs.size s H fp) pl σ' H' s'→Inv X pins σ H' s':=fun {pl σ' H' s'} J'=>I2.call' (ch:=fp) J'.os J'.base J'.hok J'.bare hch
 have nD:∀b∈fp,b≠s.heap.objs.size:=fun b hb=>Nat.ne_of_lt (hfp b hb)
 have stat:∀{H':Hp},(∀b∈fp,H' b=none)→∀b∈fp,FpOk (cxBlk X scope (vs++fs) HH.objs.size s H fp) [] H' b:=fun {H'} hn b hb=>by
  have z:=I0.ok
  refine⟨hn b hb,(z.exf b hb).1,z.exfs b hb,.inl hb,(z.exf b hb).2,fun p hp=>absurd (show p∈([]:List (Addr×Obj)) from hp) (by simp)⟩
 have loop:∀s₃:Shared,s₃ = { s with heap:=h₁,toks:=s.toks+([]:List (Str×Value)).length } →
   codeAny (model X.prog X.w) X.A (.compLoop (.ListComp elt [⟨tg,iter,ifs,0⟩] scope pos) 0 (.ref it) (.ref s.heap.objs.size) (compEnvC scope (clOf X.env scope.names []) HH.objs.size X.env)) (RR (.ref s.heap.objs.size) HH.objs.size) s₃:=by
  rintro s₃ rfl
  refine codeAny_compLoop_gen (fun n s'=>∃i σ' ys H',Inv (cxBlk X scope (vs++fs) HH.objs.size s H fp) [] σ' H' s'∧tn i s'.heap∧(∀b∈fp,H' b=none)∧W i n σ' ys H') ?_ m0
   ⟨0,_,_,_,I0,st1,fun b hb=>by rw[upd_ne (nD b hb)];exact(f2 b hb).1,w0⟩
  rintro n s3 ⟨i,σ3,ys,H3,I3,st3,fr3,w3⟩
  rcases turn i n σ3 ys H3 w3 with⟨stop,q⟩|⟨go,N,hN,step⟩
  ·refine thn (T.done (cxBlk X scope (vs++fs) HH.objs.size s H fp) rfl rfl rfl hc i [] s3 σ3 H3 _ I3 (stat fr3) st3 stop) fun r s4 ⟨hr,I4⟩=>?_
   subst hr
   obtain⟨m,hm,_⟩:=I4.loc
   exact hR _ _ H3 s4 (back I4) ⟨m,hm⟩ I4.free (Nat.le_of_lt hlt) q
  ·refine thn (T.item (cxBlk X scope (vs++fs) HH.objs.size s H fp) rfl rfl rfl hc i [] s3 σ3 H3 _ I3 (stat fr3) st3 go) fun r s4 ⟨u,hr,h4⟩=>?_
   subst hr
   refine thn h4 fun _ s5 ⟨x,H5,I5,r5,y5,st5,fr5⟩=>?_
   have I5':=I5.pinned (stat fr5) (T.obj _ _ st5)
   have again:∀{σ7:St}{H7:Hp}{s7:Shared}{zs:List V},Inv (cxBlk X scope (vs++fs) HH.objs.size s H fp) ([]++pinsAt fp s5.heap) σ7 H7 s7→N σ7 zs H7→∃m,m<n∧∃i σ' ys H',Inv (cxBlk X scope (vs++fs) HH.objs.size s H fp) [] σ' H' s7∧tn i s7.heap∧(∀b∈fp,H' b=none)∧W i m σ' ys H':=fun {σ7 H7 s7 zs} I7 n7=>by
    obtain⟨m',hm,w7⟩:=hN σ7 zs H7 n7
    refine⟨m',hm,i+1,σ7,zs,H7,I7.unpinned,T.keep _ _ _ st5 fun b hb o e=>(I7.pin (b,o) (List.mem_append_right _ (List.mem_append_right _ (mem_pinsAt hb e)))).1,fun b hb=>?_,w7⟩
    obtain⟨o,e,d⟩:=T.obj _ _ st5 b hb
    exact(I7.pin (b,o) (List.mem_append_right _ (List.mem_append_right _ (mem_pinsAt hb e)))).2.1
   refine thn (hg _ _ _ _ _ s5 σ3 H5 x u _ I5' r5 (step x H5 y5)) fun _ s6 ⟨σ6,H6,I6,q6⟩=>?_
   refine thn (ht _ _ _ _ _ s6 σ6 H6 _ I6 q6) fun ok s7 ⟨H7,I7,q7⟩=>?_
   cases ok with
   | false =>
    rw[if_neg Bool.false_ne_true]at q7 ⊢
    exact again I7 q7
   | true =>
    rw[if_pos rfl]at q7 ⊢
    refine thn (he _ _ _ _ _ s7 σ6 H7 _ I7 q7) fun y s8 ⟨yv,H8,I8,r8,hD8,hz,n8⟩=>?_
    refine thn (mt_append _ s8 σ6 H8 (.ref s.heap.objs.size) [yv] (.ref s.heap.objs.size) [y] (fun _ H9=>N σ6 (ys ++ [yv]) H9) I8 rfl (.cons r8 .nil) ⟨_,ys,yv,rfl,rfl,hD8,hz,n8⟩) fun _ s9 ⟨_,H9,I9,_,n9⟩=>?_
    exact again I9 n9
 exact codeAny_compStart_list (loop _ rfl) (T.self X.A 0 _ _ _ st1 (loop _ rfl))
theorem pe_comp {tg iter elt:Expr}{ifs:List Expr}{pos:Pos}{wi:TI}{g:TG}{tt:TT}{te:TE}(hc:X.calm=true) (B:BlkOk X scope vs fs js) (hi:PI X tg iter wi)
  (hg:∀C s H ex,PG (cxBlk X scope (vs++fs) C s H ex) tg g) (ht:∀C s H ex,PIfs (cxBlk X scope (vs++fs) C s H ex) ifs tt) (he:∀C s H ex,PE (cxBlk X scope (vs++fs) C s H ex) elt te)
  (hs:∀x,foldedSetIterable iter X.env x=pure x:=by intro _;rfl):PE X (.ListComp elt [⟨tg,iter,ifs,0⟩] scope pos) (tComp vs js wi g tt te):=by
 intro pins s σ H Q I h
 rw[eval_ListComp]
 refine wpAny_comprehension_free (use:=none) rfl hs (closure_eq fun y hy hf=>I.ok.has y.1 (B.free y hy hf)) B.kind B.names (thn (hi pins s σ H _ I h) fun v s1 h1=>thn h1 fun itv s2 h2=>?_)
 obtain⟨it,fp,tn,J,H2,e,I2,T,st2,f2,hW⟩:=h2
 subst e
 refine blk_run (RR:=fun acc C=>compPost (model X.prog X.w) X.A X.xe none (EP X pins σ Q) acc C) hc B hg ht he I2 T st2 f2 hW ?_
 intro D C H' s' I' hn hC hle q
 obtain⟨m,hn⟩:=hn
 exact⟨m,hn,fun h'' hs''=>⟨.ref D,H',I2.goneC I' hC hle hs'',rfl,q⟩⟩
theorem ps_setc {i:Nat}{y:Str}{py spos:Pos}{tg iter elt:Expr}{ifs:List Expr}{pos:Pos}{wi:TI}{g:TG}{tt:TT}{te:TE}(hN:X.N.Nodup) (hi':X.N[i]? = some y) (hy:X.env.scope.names.lookup y=some .local) (hc:X.calm=true) (B:BlkOk X scope vs fs js) (hi:PI X tg iter wi)
  (hg:∀C s H ex,PG (cxBlk X scope (vs++fs) C s H ex) tg g) (ht:∀C s H ex,PIfs (cxBlk X scope (vs++fs) C s H ex) ifs tt) (he:∀C s H ex,PE (cxBlk X scope (vs++fs) C s H ex) elt te)
  (hsw:swapsWith (.ListComp elt [⟨tg,iter,ifs,0⟩] scope pos) (some (.Name y py)) spos.line X.env=pure true:=by rfl)
  (hs:∀x,foldedSetIterable iter X.env x=pure x:=by intro _;rfl):PS X (.Assign [.Name y py] (.ListComp elt [⟨tg,iter,ifs,0⟩] scope pos) spos) (tAsg (tComp vs js wi g tt te) (gName i)):=by
 intro pins s σ H D I h
 rw[exec_Assign_Name_used _ _ _ _ hsw]
 refine wpAny_bind (wpAny_standAt (wpAny_bind ?_))
 show wpAny _ X.A (do let _ ← comprehension (.ListComp elt [⟨tg,iter,ifs,0⟩] scope pos) scope X.env _ (newList []) false (eval iter X.env) (some (assign (.Name y py) X.env))) _ _ s
 refine wpAny_bind (wpAny_mono (wpAny_comprehension_free (use:=some (assign (.Name y py) X.env)) (Q:=fun _ s'=>SP X pins D .next s') rfl hs (closure_eq fun y hy hf=>I.ok.has y.1 (B.free y hy hf)) B.kind B.names
  (thn (hi pins s σ H _ I h) fun v s1 h1=>thn h1 fun itv s2 h2=>?_)) (fun _ s' hq=>wpAny_pure (wpAny_pure hq)) fun _ _ e=>e)
 obtain⟨it,fp,tn,J,H2,e,I2,T,st2,f2,hW⟩:=h2
 subst e
 refine blk_run (Q:=fun x H1=>gName i x σ H1 D.nx) (RR:=fun acc C=>compPost (model X.prog X.w) X.A X.xe (some (assign (.Name y py) X.env)) (fun _ s'=>SP X pins D .next s') acc C) hc B hg ht he I2 T st2 f2 hW ?_
 intro D' C H' s' I' hn hC hle q
 obtain⟨m,hn⟩:=hn
 show wpAny _ X.A (assign (.Name y py) X.env (.ref D')) _ _ _
 refine wpAny_assign_Name (store_ok2 I' hN hi' (.inl hy) (v:=.ref D') rfl (fun s'' I'' hsb=>?_) (.inr hy))
 obtain⟨a,hsb,ha⟩:=hsb
 have nCa:C≠a:=by
  rcases ha with z|z
  ·rw[z];exact Nat.ne_of_gt (Nat.lt_of_lt_of_le I2.lt hle)
  ·obtain⟨v,o,ho,_⟩:=I2.cell y a z
   exact Nat.ne_of_gt (Nat.lt_of_lt_of_le (Heap.lt_size ho) hle)
 exact⟨m,hn.sameBut hsb nCa,fun h'' hs''=>⟨_,H',I2.goneC I'' hC hle hs'',q⟩⟩
end
section
variable {vs:List Str}{js:List Nat}{σ:St}{g:TG}{tt:TT}{te:TE}{Q:VK}
theorem comp_range {lo:Int}{n:Nat}{H:Hp}(Pv:Nat→St→List V→Hp→Prop) (D:Addr) (h0:Pv 0 (blkSt vs js σ) [] (upd H D (.lst [])))
  (hs:∀i σ' ys H',i<n→Pv i σ' ys H'→g (.int (lo+i)) σ' H' fun σ3 H3=>tt σ3 H3 fun b H4=>if b=true then te σ3 H4 fun y H5=>H5 D=some (.lst ys)∧ys.length<sizeLine∧Pv (i+1) σ3 (ys ++ [y]) (upd H5 D (.lst (ys ++ [y]))) else Pv (i+1) σ3 ys H4)
  (hd:∀σ' ys H',Pv n σ' ys H'→Q (.ref D) H') :
  CompW (Itr lo n) vs js σ g tt te Q D H:=by
 refine⟨fun i m σ' ys H'=>m=n-i∧i≤n∧Pv i σ' ys H',⟨n,by simp,Nat.zero_le _,h0⟩,?_⟩
 rintro i m σ' ys H' ⟨rfl,hi,p⟩
 by_cases hlt:i<n
 ·refine .inr ⟨hlt,Pv (i+1),fun σ2 zs H2 p'=>⟨n-(i+1),by omega,rfl,hlt,p'⟩,fun x H2 y=>?_⟩
  obtain⟨e,y⟩:=y
  subst e y
  exact hs i σ' ys _ hlt p
 ·have e:i=n:=by omega
  subst e
  exact .inl ⟨Nat.le_refl _,hd σ' ys H' p⟩
theorem comp_list {K:PySem.W.Frag}{a:Addr}{xs:List V}{H:Hp}(Pv:Nat→St→List V→Hp→Prop) (D:Addr) (h0:Pv 0 (blkSt vs js σ) [] (upd H D (.lst []))) (hl:∀i σ' ys H',i≤xs.length→Pv i σ' ys H'→SqL K H' a xs)
  (hs:∀i x σ' ys H',xs[i]? = some x→Pv i σ' ys H'→g x σ' H' fun σ3 H3=>tt σ3 H3 fun b H4=>if b=true then te σ3 H4 fun y H5=>H5 D=some (.lst ys)∧ys.length<sizeLine∧Pv (i+1) σ3 (ys ++ [y]) (upd H5 D (.lst (ys ++ [y]))) else Pv (i+1) σ3 ys H4)
  (hd:∀σ' ys H',Pv xs.length σ' ys H'→Q (.ref D) H') :
  CompW (Itl K a) vs js σ g tt te Q D H:=by
 refine⟨fun i m σ' ys H'=>m=xs.length-i∧i≤xs.length∧Pv i σ' ys H',⟨xs.length,by simp,Nat.zero_le _,h0⟩,?_⟩
 rintro i m σ' ys H' ⟨rfl,hi,p⟩
 have q:=hl i σ' ys H' hi p
 by_cases hlt:i<xs.length
 ·refine .inr ⟨⟨xs,xs[i],q,by simp[hlt]⟩,Pv (i+1),fun σ2 zs H2 p'=>⟨xs.length-(i+1),by omega,rfl,hlt,p'⟩,fun x H2 y=>?_⟩
  obtain⟨e,y⟩:=y
  subst e
  exact hs i x σ' ys _ (y xs q) p
 ·have e:i=xs.length:=by omega
  subst e
  exact .inl ⟨⟨xs,q,Nat.le_refl _⟩,hd σ' ys H' p⟩
end
end L2
namespace L2
open PySem PySem.Spec PyProof.Rows
theorem bt_len:bootBuiltins "len" = some (.builtin "len"):=by decide +kernel
theorem bt_abs:bootBuiltins "abs" = some (.builtin "abs"):=by decide +kernel
theorem bt_max:bootBuiltins "max" = some (.builtin "max"):=by decide +kernel
theorem bt_all:bootBuiltins "all" = some (.builtin "all"):=by decide +kernel
theorem bt_isinstance:bootBuiltins "isinstance" = some (.builtin "isinstance"):=by decide +kernel
theorem bt_int:bootBuiltins "int" = some (.type "int"):=by decide +kernel
theorem bt_bool:bootBuiltins "bool" = some (.type "bool"):=by decide +kernel
theorem bt_str:bootBuiltins "str" = some (.type "str"):=by decide +kernel
theorem bt_list:bootBuiltins "list" = some (.type "list"):=by decide +kernel
theorem bt_tuple:bootBuiltins "tuple" = some (.type "tuple"):=by decide +kernel
theorem bt_zip:bootBuiltins "zip" = some (.type "zip"):=by decide +kernel
structure Cal (P:Program) (w:World) (K:PySem.W.Frag) (mg:Str→Option Value) (base:Heap) (x:Str) (ps:List Str) (k:Nat) (sp:Sp):Prop where
 ex:∃(f:Addr) (fd:FuncData),FnOk P w K mg base CX0 k f fd ps sp∧Binds K fd ps []∧mg x=some (.ref f)∧PySem.W.keepIn K (.ref f)=true
section
variable {X:Cx}{x:Str}{ps:List Str}{k:Nat}{sp:Sp}{e:Expr}{es:List Expr}{t:TA}{p pos:Pos}
theorem pcl (C:Cal X.prog X.w X.K X.mg X.base x ps k sp) (hr:Room k X.A) (ha:PA X (e::es) t) (hg:Gl X x:=by rfl) (hdb:(x ==("__debug__" : Str))=false:=by decide) (he:starEach (e::es) X.env =(false,eval e X.env)::starEach es X.env:=by rfl) (hpl:(backTo pos (starEach es X.env)).any (·.1)=false:=by rfl) :
  PE X (.Call (.Name x p) (e::es) [] pos) (tCall sp [] E0 t):=by
 obtain⟨f,fd,F,hb,hm,hk⟩:=C.ex
 exact pe_call F hr hg hm hk hb .nil pass0 ha hdb he hpl
end
theorem Cal.of {P:Program}{w:World}{K:PySem.W.Frag}{mg:Str→Option Value}{base:Heap}{x:Str}{st:Stmt}{f:Addr}{fd:FuncData}{N ps:List Str}{k:Nat}{sp:Sp}(F:Fun K x x st f fd) (mF:mg x=some (.ref f)) (bF:Binds K fd ps []) (S:FnScope N ps (defScope st)) (len:∀vs H Q E,sp vs H Q E→vs.length=ps.length)
  (hbody:∀(cdv:Value) (A:Around) (outer:List Env) (s:Shared) (H:Hp) (vs:List V) (Q:VK) (E:XK),Room k (A.deeper (envOfC x (defScope st) s.heap.objs.size f cdv))→sp vs H Q E →
   ∃t,PSs (cxOf CX0 P w K mg base N x (defScope st) f cdv A outer s H E).nox (defBody st) t∧t { nx:=fun _ H'=>Q .non H',rt:=Q } (start N vs) H):Cal P w K mg base x ps (k+1) sp :=
 ⟨f,fd,F.ok S len hbody,bF,mF,F.kp⟩
def blkB (sc scope:Scope) (N vs fs:List Str) (js:List Nat):Bool :=
 (scope.kind == .function) && scope.names.all (fun y=>y.2 != .cell) && scope.names.all (fun y=>y.2 != .local || scope.names.lookup y.1 == some .local) &&
 scope.names.all (fun y=>y.2 != .free || sc.names.lookup y.1 == some .cell || sc.names.lookup y.1 == some .free) && vs.all (fun y=>scope.names.lookup y == some .local) && fs.all (fun y=>scope.names.lookup y == some .free) &&
 (js.map (fun j=>N[j]?) == fs.map some)
theorem blkOk {X:Cx}{sc scope:Scope}{N vs fs:List Str}{js:List Nat}(h:blkB sc scope N vs fs js=true) (hs:X.env.scope=sc) (hN:X.N=N):BlkOk X scope vs fs js:=by
 unfold blkB at h
 simp only[Bool.and_eq_true,List.all_eq_true,beq_iff_eq,bne_iff_ne,Bool.or_eq_true]at h
 obtain⟨⟨⟨⟨⟨⟨h1,h2⟩,h3⟩,h4⟩,h5⟩,h6⟩,h7⟩:=h
 refine⟨h1,h2,fun y hy hl=>?_,fun y hy hf=>?_,h5,h6,?_⟩
 ·rcases h3 y hy with z|z
  ·exact absurd hl z
  ·exact z
 ·unfold Env.kindOf
  rw[hs]
  rcases h4 y hy with(z|z)|z
  ·exact absurd hf z
  ·exact .inl z
  ·exact .inr z
 ·rw[hN];exact h7
def tCut (t:TS):TS:=fun D σ H=>∃R:St→Hp→Prop,t { D with nx:=R } σ H∧∀σ' H',R σ' H'→D.nx σ' H'
theorem ps_cut {X:Cx}{st:Stmt}{t:TS}(h:PS X st t):PS X st (tCut t):=by
 intro pins s σ H D I hw
 obtain⟨R,h1,h2⟩:=hw
 refine thn (h pins s σ H _ I h1) fun f s' q=>?_
 cases f with
 | next =>
  obtain⟨σ',H',I',q⟩:=q
  exact⟨σ',H',I',h2 _ _ q⟩
 | brk=>exact q
 | cont=>exact q
 | ret u=>exact q
section
variable {X:Cx}
def CDivB (i j:Int):Prop:=0<j∧j<2^100
theorem op_fdivB:OpR X (binaryOp .FloorDiv) (rI CDivB fun i j=>.int (i / j)):=opI fun i j _ _ _ _ _ hc q=>by
 have h1:(0:Int)<j:=hc.1
 have h2:j<2^100:=hc.2
 refine floordiv_int (by omega) (by rw[Int.fdiv_eq_ediv_of_nonneg i (by omega)];exact q) (.inl (PyProof.noPylong_of_log2 ?_))
 have h0:j.natAbs≠0:=by omega
 have h3:j.natAbs.log2<100:=(Nat.log2_lt h0).mpr (by omega)
 omega
theorem pe_powC {a b c:Int}{j1 j2:Nat}{p1 p2 pos:Pos}(h:a^b.toNat=c) (h1:CPow a b):PE X (.BinOp (.Constant (.int a) j1 p1) .Pow (.Constant (.int b) j2 p2) pos) (tC (.int c)):=by
 intro pins s σ H Q I q
 subst h
 exact pe_op op_pow pe_int pe_int pins s σ H Q I ⟨a,b,rfl,rfl,h1,q⟩
theorem get_list:PGet X (rIxL X.K):=by
 intro pins s σ H x y v u Q I rx ry h
 obtain⟨p,xs,i,z,rfl,rfl,hq,he,q⟩:=h
 cases rx
 obtain⟨t,rfl⟩:=ry
 obtain⟨its,r,pl,hz⟩:=I.list hq
 obtain⟨j,h1,h2,h3,h4,h5⟩:=atI_get he
 obtain⟨w,ew,rw'⟩:=r.get h2
 have hl:=r.length
 have hn:=line63
 have fin:EP X pins σ Q w s:=⟨z,H,I,rw',q⟩
 by_cases h0:0≤i
 ·have hj:i.toNat=j:=by
   rw[seqIndex_of h0 h5]at h1
   exact Option.some.inj h1
  exact wpAny_getItem_list pl.isList h0 (by omega) (by rw[hj];simpa using ew) fin
 ·have hj:(i+(its.toArray.size:Int)).toNat=j:=by
   rw[seqIndex_neg (by omega) h4]at h1
   rw[List.size_toArray,← hl]
   exact Option.some.inj h1
  exact wpAny_getItem_list_neg pl.isList (by omega) (by rw[List.size_toArray] <;> omega) (by omega) (by rw[hj];simpa using ew) fin
def rLenL (K:PySem.W.Frag):List V→Hp→VK→Prop:=fun xs H Q=>∃p ys,xs=[.ref p]∧(SqL K H p ys∨SqT K H p ys)∧Q (.int ys.length) H
theorem call_lenL:CallR X (.builtin "len") (rLenL X.K):=call_len_seq
def rAbs1:List V→Hp→VK→Prop:=fun xs H Q=>∃i,xs=[.int i]∧Q (.int (if i<0 then -i else i)) H
theorem call_abs1:CallR X (.builtin "abs") rAbs1:=call_abs
def rMaxI:List V→Hp→VK→Prop:=fun xs H Q=>∃i j,xs=[.int i,.int j]∧Q (.int (if j > i then j else i)) H
theorem call_maxI (hc:X.calm=true):CallR X (.builtin "max") rMaxI:=call_max2 hc
def rIsi (K:PySem.W.Frag):List V→Hp→VK→Prop:=fun xs H Q=>∃x t T b,xs=[x,.ty T]∧TyOf K H x t∧PySem.W.kitOne K t (.type T)=some b∧Q (.bl b) H
theorem call_isinst:CallR X (.builtin "isinstance") (rIsi X.K):=by
 intro pins s σ H xs us Q I r h
 obtain⟨x,t,T,b,rfl,ty,e,q⟩:=h
 obtain⟨u,w',rfl,r1,r2⟩:=vals2 r
 cases (show w'=Value.type T from r2)
 exact isinst_ok I r1 ty e fun tk=>⟨.bl b,H,I.tok _,rfl,q⟩
end
section
variable {σ:St}{H:Hp}{Q:VK}{D:Ends}
theorem rd_var {i:Nat}{v:V}(h:σ[i]? = some (some v)) (q:Q v H):tVar i σ H Q:=⟨v,h,q⟩
theorem rd_c {v:V}(q:Q v H):tC v σ H Q:=q
theorem rd_op {r:R2}{ta tb:TE}(h:ta σ H fun x H1=>tb σ H1 fun y H2=>r x y H2 Q):tOp r ta tb σ H Q:=h
theorem rd_un {r:V→Hp→VK→Prop}{ta:TE}(h:ta σ H fun x H1=>r x H1 Q):tUn r ta σ H Q:=h
theorem rd_I0 {g:Int→Int→V}{i j:Int}(q:Q (g i j) H):rI0 g (.int i) (.int j) H Q:=⟨i,j,rfl,rfl,q⟩
theorem rd_I {C:Int→Int→Prop}{g:Int→Int→V}{i j:Int}(c:C i j) (q:Q (g i j) H):rI C g (.int i) (.int j) H Q:=⟨i,j,rfl,rfl,c,q⟩
theorem rd_U {g:Int→V}{i:Int}(q:Q (g i) H):rU g (.int i) H Q:=⟨i,rfl,q⟩
theorem dec_int' {i j:Int}:decide (V.int i=V.int j)=decide (i=j):=by
 rw[Bool.eq_iff_iff];simp
theorem rd_eqI {i j:Int}(q:Q (.bl (decide (i=j))) H):rEq (.int i) (.int j) H Q:=⟨rfl,by rw[dec_int'];exact q⟩
theorem rd_eqB {i j:Bool}(q:Q (.bl (decide (i=j))) H):rEq (.bl i) (.bl j) H Q:=⟨rfl,by
 have e:decide (V.bl i=V.bl j)=decide (i=j):=by rw[Bool.eq_iff_iff];simp
 rw[e];exact q⟩
theorem rd_neB {i j:Bool}(q:Q (.bl (!decide (i=j))) H):rNe (.bl i) (.bl j) H Q:=⟨rfl,by
 have e:decide (V.bl i=V.bl j)=decide (i=j):=by rw[Bool.eq_iff_iff];simp
 rw[e];exact q⟩
theorem rd_bl {c:Bool}{P:Bool→Prop}(h:P c):∃k,V.bl c=V.bl k∧P k:=⟨c,rfl,h⟩
theorem rd_test {t:TE}{R:Bool→Hp→Prop}(h:t σ H fun x H'=>∃k,x = .bl k∧R k H'):tTest t σ H R:=h
theorem rd_tB {t:TE}{R:Bool→Hp→Prop}(h:t σ H fun x H'=>∃k,x = .bl k∧R k H'):tB t σ H R:=h
theorem rd_and {t u:TT}{R:Bool→Hp→Prop}(h:t σ H fun c H1=>if c=true then u σ H1 R else R false H1):tAnd t u σ H R:=h
theorem rd_or {t u:TT}{R:Bool→Hp→Prop}(h:t σ H fun c H1=>if c=true then R true H1 else u σ H1 R):tOr t u σ H R:=h
theorem rd_not {t:TT}{R:Bool→Hp→Prop}(h:t σ H fun c H1=>R (!c) H1):tNot t σ H R:=h
theorem rd_andV {ta tb:TE}(h:ta σ H fun x H1=>∃c,x = .bl c∧if c=true then tb σ H1 Q else Q (.bl false) H1):tAndV ta tb σ H Q:=h
theorem rd_orV {ta tb:TE}(h:ta σ H fun x H1=>∃c,x = .bl c∧if c=true then Q (.bl true) H1 else tb σ H1 Q):tOrV ta tb σ H Q:=h
theorem rd_chain {r r':R2}{ta tb tc:TE}(h:ta σ H fun x H1=>tb σ H1 fun y H2=>r x y H2 fun z H3=>∃k,z = .bl k∧(if k=true then tc σ H3 fun w' H4=>r' y w' H4 Q else Q (.bl false) H3)):tChain r r' ta tb tc σ H Q:=h
theorem rd_nil {R:List V→Hp→Prop}(h:R [] H):tNil σ H R:=h
theorem rd_cons {ta:TE}{tr:TA}{R:List V→Hp→Prop}(h:ta σ H fun x H1=>tr σ H1 fun xs H2=>R (x::xs) H2):tCons ta tr σ H R:=h
theorem rd_call {sp:Sp}{dvs:List V}{E:XK}{t:TA}(h:t σ H fun vs H1=>sp (vs++dvs) H1 Q E):tCall sp dvs E t σ H Q:=h
theorem rd_cb {r:List V→Hp→VK→Prop}{t:TA}(h:t σ H fun vs H1=>r vs H1 Q):tCB r t σ H Q:=h
theorem rd_lst {t:TA}(h:t σ H fun xs H1=>xs.length≤sizeLine∧∀p,H1 p=none→Q (.ref p) (upd H1 p (.lst xs))):tLst t σ H Q:=h
theorem rd_tup {t:TA}(h:t σ H fun xs H1=>xs.length≤sizeLine∧∀p,H1 p=none→Q (.ref p) (upd H1 p (.tup xs))):tTup t σ H Q:=h
theorem rd_asg {te:TE}{g:TG}(h:te σ H fun x H1=>g x σ H1 D.nx):tAsg te g D σ H:=h
theorem rd_gname {i:Nat}{v:V}{R:St→Hp→Prop}(h:R (σ.set i (some v)) H):gName i v σ H R:=h
theorem rd_ret {te:TE}(h:te σ H D.rt):tRet te D σ H:=h
theorem rd_next (h:D.nx σ H):tNext D σ H:=h
theorem rd_drop {te:TE}(h:te σ H fun _ H1=>D.nx σ H1):tDrop te D σ H:=h
theorem rd_ixL {K:PySem.W.Frag}{p:Addr}{xs:List V}{i:Int}{v:V}(h:SqL K H p xs) (e:atI xs i=some v) (q:Q v H):rIxL K (.ref p) (.int i) H Q:=⟨p,xs,i,v,rfl,rfl,h,e,q⟩
theorem rd_bm {K:PySem.W.Frag}{T:String}{r:V→List V→Hp→VK→Prop}{to:TE}{t:TA}(h:to σ H fun x H1=>tyV K T x H1∧t σ H1 fun xs H2=>r x xs H2 Q):tBM K T r to t σ H Q:=h
theorem rd_augS {to ti te:TE}{tget:V→V→Hp→VK→Prop}{tip:TIp}{tset:TSet}(h:to σ H fun o H1=>ti σ H1 fun i H2=>tget o i H2 fun x H3=>te σ H3 fun y H4=>tip x y H4 fun z H5=>tset o i z H5 fun H6=>D.nx σ H6):tAugS to ti te tget tip tset D σ H:=h
theorem rd_ip {f:Int→Int→Int}{i j:Int}(q:Q (.int (f i j)) H):ipI f (.int i) (.int j) H Q:=⟨i,j,rfl,rfl,q⟩
theorem rd_set0 {p:Addr}{a:V}{r:List V}{v:V}{R:Hp→Prop}(h:H p=some (.lst (a::r))) (q:R (upd H p (.lst (v::r)))):rSetL (.ref p) (.int 0) v H R :=
 ⟨p,_,0,0,rfl,rfl,h,by unfold ixN;rw[if_pos (by decide),if_pos (by rw[List.length_cons];omega)];rfl,q⟩
theorem rd_set1 {p:Addr}{a b:V}{r:List V}{v:V}{R:Hp→Prop}(h:H p=some (.lst (a::b::r))) (q:R (upd H p (.lst (a::v::r)))):rSetL (.ref p) (.int 1) v H R :=
 ⟨p,_,1,1,rfl,rfl,h,by unfold ixN;rw[if_pos (by decide),if_pos (by rw[List.length_cons,List.length_cons];omega)];rfl,q⟩
theorem rd_gsub {to ti:TE}{t:TSet}{v:V}{R:St→Hp→Prop}(h:to σ H fun o H1=>ti σ H1 fun i H2=>t o i v H2 fun H3=>R σ H3):gSub to ti t v σ H R:=h
theorem rd_sl {r:V→Option Int→Option Int→Hp→VK→Prop}{te:TE}{tl th:TO}(h:te σ H fun x H1=>tl σ H1 fun l H2=>th σ H2 fun u H3=>r x l u H3 Q):tSl r te tl th σ H Q:=h
theorem rd_nop {R:Option Int→Hp→Prop}(h:R none H):tNoPart σ H R:=h
theorem rd_part {t:TE}{R:Option Int→Hp→Prop}(h:t σ H fun x H1=>∃i,x = .int i∧R (some i) H1):tPart t σ H R:=h
theorem rd_int {i:Int}{P:Int→Prop}(h:P i):∃k,V.int i=V.int k∧P k:=⟨i,rfl,h⟩
theorem rd_slL {K:PySem.W.Frag}{a:Addr}{xs:List V}{lo hi:Option Int}(h:SqL K H a xs) (q:∀p,H p=none→Q (.ref p) (upd H p (.lst (cutV xs lo hi)))):rSlL K (.ref a) lo hi H Q:=⟨a,xs,rfl,h,q⟩
theorem rd_lenL {K:PySem.W.Frag}{a:Addr}{ys:List V}(h:SqL K H a ys) (q:Q (.int ys.length) H):rLenL K [.ref a] H Q:=⟨a,ys,rfl,.inl h,q⟩
theorem rd_abs {i:Int}(q:Q (.int (if i<0 then -i else i)) H):rAbs1 [.int i] H Q:=⟨i,rfl,q⟩
theorem rd_max {i j:Int}(q:Q (.int (max i j)) H):rMaxI [.int i,.int j] H Q:=⟨i,j,rfl,by
 have e:(if j > i then j else i)=max i j:=by omega
 rw[e];exact q⟩
theorem rd_isi {K:PySem.W.Frag}{x:V}{t:Value}{T:String}{b:Bool}(h:TyOf K H x t) (e:PySem.W.kitOne K t (.type T)=some b) (q:Q (.bl b) H):rIsi K [x,.ty T] H Q:=⟨x,t,T,b,rfl,h,e,q⟩
theorem rd_if {c:Prop} [Decidable c] {A B:Prop}(h1:c→A) (h2:¬ c→B):if decide c=true then A else B:=by
 by_cases h:c
 ·rw[decide_eq_true h,if_pos rfl];exact h1 h
 ·rw[decide_eq_false h,if_neg Bool.false_ne_true];exact h2 h
theorem rd_ifn {c:Prop} [Decidable c] {A B:Prop}(h1:¬ c→A) (h2:c→B):if (!decide c)=true then A else B:=by
 by_cases h:c
 ·rw[decide_eq_true h];exact(if_neg (by decide)).mpr (h2 h)
 ·rw[decide_eq_false h];exact(if_pos rfl).mpr (h1 h)
theorem rd_rng1 {ta:TA}{R:It→Hp→Prop}(h:ta σ H fun vs H1=>∃j:Int,vs=[.int j]∧-(2^62)≤j∧j<2^62∧R (Itr 0 j.toNat) H1):iRng1 ta σ H R:=h
theorem rd_ilist {K:PySem.W.Frag}{tl:TE}{R:It→Hp→Prop}(h:tl σ H fun x H1=>∃a,x = .ref a∧(∃xs,SqL K H1 a xs)∧R (Itl K a) H1):iList K tl σ H R:=h
theorem rd_comp {vs:List Str}{js:List Nat}{wi:TI}{g:TG}{tt:TT}{te:TE}(h:wi σ H fun J H1=>∀D,H1 D=none→CompW J vs js σ g tt te Q D H1):tComp vs js wi g tt te σ H Q:=h
theorem rd_yes {R:Bool→Hp→Prop}(h:R true H):tYes σ H R:=h
theorem rd_iteT {A B:Prop}(h:A):if true=true then A else B:=iteT h
theorem rd_iteF {A B:Prop}(h:B):if false=true then A else B:=iteF h
theorem rd_iteNF {A B:Prop}(h:A):if (!false)=true then A else B:=iteT h
theorem rd_iteNT {A B:Prop}(h:B):if (!true)=true then A else B:=iteF h
theorem cut_lo {ms:List Int}{k:Nat}:cutV (ms.map V.int) (some (k:Int)) none =(ms.drop k).map V.int:=by
 unfold cutV
 rw[HT.sIx_nat,HT.sIx_none,List.length_map,← List.map_drop]
 by_cases h:k≤ms.length
 ·rw[Nat.min_eq_left h,List.take_of_length_le (by rw[List.length_map,List.length_drop];omega)]
 ·rw[List.drop_eq_nil_of_le (by omega:ms.length≤min k ms.length),List.drop_eq_nil_of_le (by omega:ms.length≤k)]
  simp
theorem cut_hi {ms:List Int}{k:Nat}:cutV (ms.map V.int) none (some (k:Int)) =(ms.take k).map V.int:=by
 unfold cutV
 rw[HT.sIx_nat,HT.sIx_none,List.length_map,List.drop_zero,Nat.sub_zero,← List.map_take]
 by_cases h:k≤ms.length
 ·rw[Nat.min_eq_left h]
 ·rw[Nat.min_eq_right (by omega),List.take_of_length_le (Nat.le_refl _),List.take_of_length_le (by omega)]
theorem same_new {H:Hp}{p:Addr}(h:H p=none) (o:HO):Same H (upd H p o):=fun b u q=>by rw[upd_ne (ne_of_none q h)];exact q
end
end L2
namespace L2
open PySem PySem.Spec PyProof.Rows
mutual
inductive DV (K:PySem.W.Frag) (H:Hp):V→PyData→Prop
 | non:DV K H .non .none
 | bl (b:Bool):DV K H (.bl b) (.bool b)
 | int (i:Int):DV K H (.int i) (.int i)
 | str (x:Str):DV K H (.str x) (.str x)
 | lst {a:Addr}{xs:List V}{ds:List PyData}:SqL K H a xs→DVs K H xs ds→DV K H (.ref a) (.list ds)
 | tup {a:Addr}{xs:List V}{ds:List PyData}:SqT K H a xs→DVs K H xs ds→DV K H (.ref a) (.tuple ds)
inductive DVs (K:PySem.W.Frag) (H:Hp):List V→List PyData→Prop
 | nil:DVs K H [] []
 | cons {x:V}{d:PyData}{xs:List V}{ds:List PyData}:DV K H x d→DVs K H xs ds→DVs K H (x::xs) (d::ds)
end
section
variable {X:Cx}{pins:List (Addr×Obj)}{σ:St}{H:Hp}{s:Shared}
mutual
theorem DV.reads (I:Inv X pins σ H s):∀{x:V}{d:PyData}{v:Value},DV X.K H x d→RelV x v→∃as,Reads s.heap v d as
 | _,_,_,.non,r=>by cases r;exact⟨_,.none⟩
 | _,_,_,.bl b,r=>by cases r;exact⟨_,.bool b⟩
 | _,_,_,.int i,r=>by obtain⟨t,rfl⟩:=r;exact⟨_,.int i t⟩
 | _,_,_,.str x,r=>by obtain⟨t,rfl⟩:=r;exact⟨_,.str x t⟩
 | _,_,_,.lst (a:=a) h ds,r=>by
  cases r
  obtain⟨its,rv,⟨o,n,e,c,_,d⟩,_⟩:=I.list h
  obtain⟨as,q⟩:=DVs.reads I ds rv
  exact⟨_,.list e c d (by simpa using q)⟩
 | _,_,_,.tup (a:=a) h ds,r=>by
  cases r
  obtain⟨its,rv,⟨o,e,c,n,d⟩,_⟩:=I.tuple h
  obtain⟨as,q⟩:=DVs.reads I ds rv
  exact⟨_,.tuple e c d (by simpa using q)⟩
theorem DVs.reads (I:Inv X pins σ H s):∀{xs:List V}{ds:List PyData}{vs:List Value},DVs X.K H xs ds→Vals xs vs→∃as,ReadsAll s.heap vs ds as
 | _,_,_,.nil,r=>by cases r;exact⟨_,.nil⟩
 | _,_,_,.cons h t,r=>by
  cases r with
  | cons r1 r2 =>
   obtain⟨as,q⟩:=DV.reads I h r1
   obtain⟨bs,p⟩:=DVs.reads I t r2
   exact⟨_,.cons q p⟩
end
end
theorem DVs.ints {K:PySem.W.Frag}{H:Hp}:∀ns:List Int,DVs K H (ns.map V.int) (ns.map PyData.int)
 | []=>.nil
 | n::r=>.cons (.int n) (DVs.ints r)
theorem lay_ints:∀ns:List Int,PyData.canLayAll0 (ns.map PyData.int)=true∧PyData.depthAll (ns.map PyData.int)=0
 | []=>⟨rfl,rfl⟩
 | n::r=>by
  obtain⟨h1,h2⟩:=lay_ints r
  simp[PyData.canLayAll0,PyData.canLay0,PyData.depthAll,PyData.depth,h1,h2]
theorem shaped_ints (ns:List Int):SeqAt.shaped (.list (ns.map PyData.int))=true:=by
 obtain⟨h1,h2⟩:=lay_ints ns
 simp[SeqAt.shaped,PyData.canLay0,PyData.depth,h1,h2]
theorem eqv_ints:∀ns ms:List Int,PyData.eqvAll (ns.map PyData.int) (ms.map PyData.int)=decide (ns=ms)
 | [],[]=>rfl
 | [],_::_=>rfl
 | _::_,[]=>rfl
 | n::ns,m::ms=>by
  rw[List.map_cons,List.map_cons,PyData.eqvAll,PyData.eqv,eqv_ints ns ms,Bool.eq_iff_iff]
  simp
section
variable {X:Cx}
def rEqD (K:PySem.W.Frag):R2:=fun x y H Q=>∃d e,DV K H x d∧DV K H y e∧SeqAt.shaped d=true∧SeqAt.shaped e=true∧Q (.bl (PyData.eqv d e)) H
def rNeD (K:PySem.W.Frag):R2:=fun x y H Q=>∃d e,DV K H x d∧DV K H y e∧SeqAt.shaped d=true∧SeqAt.shaped e=true∧Q (.bl (!PyData.eqv d e)) H
theorem op_eqD (hu:X.A.units+64<cLine):OpR X (compareOp .Eq) (rEqD X.K):=by
 intro pins s σ H x y v u Q I rx ry h
 obtain⟨d,e,h1,h2,h3,h4,q⟩:=h
 obtain⟨as,r1⟩:=h1.reads I rx
 obtain⟨bs,r2⟩:=h2.reads I ry
 exact eq_dataH r1 r2 h3 h4 hu ⟨.bl _,H,I,rfl,q⟩
theorem op_neD (hu:X.A.units+64<cLine):OpR X (compareOp .NotEq) (rNeD X.K):=by
 intro pins s σ H x y v u Q I rx ry h
 obtain⟨d,e,h1,h2,h3,h4,q⟩:=h
 obtain⟨as,r1⟩:=h1.reads I rx
 obtain⟨bs,r2⟩:=h2.reads I ry
 exact ne_dataH r1 r2 h3 h4 hu ⟨.bl _,H,I,rfl,q⟩
end
end L2
namespace L2
open PySem PySem.Spec PyProof.Rows
section
variable {X:Cx}
theorem pe_gint {x:Str}{i:Int}{pos:Pos}(hg:Gl X x) (hm:∃t,X.mg x=some (.int i t)) (hd:(x ==("__debug__" : Str))=false:=by decide):PE X (.Name x pos) (tC (.int i)):=by
 obtain⟨t,hm⟩:=hm
 exact pe_glob hg hm ⟨_,rfl⟩ hd
theorem bools_get:∀{bs:List Bool}{its:List Value}{i:Nat}{v:Value},Vals (bs.map V.bl) its→its[i]? = some v→∃b,bs[i]? = some b∧v = .bool b
 | [],_,i,v,.nil,e=>by simp at e
 | b::bs,_,0,v,.cons r t,e=>by
  simp at e;subst e
  exact⟨b,rfl,r⟩
 | b::bs,_,i+1,v,.cons r t,e=>by
  obtain⟨c,h1,h2⟩:=bools_get (i:=i) (v:=v) t (by simpa using e)
  exact⟨c,by simpa using h1,h2⟩
theorem all_range (bs:List Bool):(List.range bs.length).all (fun i=>bs.getD i true)=bs.all id:=by
 rw[Bool.eq_iff_iff,List.all_eq_true,List.all_eq_true]
 constructor
 ·intro h b hb
  obtain⟨i,hi,rfl⟩:=List.mem_iff_getElem.mp hb
  have:=h i (List.mem_range.mpr hi)
  simpa [List.getD,hi] using this
 ·intro h i hi
  have hi':=List.mem_range.mp hi
  have:=h bs[i] (List.getElem_mem hi')
  simpa [List.getD,hi'] using this
theorem it_list {s:Shared}{l:Addr}{items:Array Value}{A:Around}{E:Value→Shared→Prop}{Q:Value→Shared→Prop}{prog:Program}{w:World}(hl:s.heap.IsList l items)
  (h:∀s₂:Shared,s₂ = { s with heap:=s.heap.push { cls:=.type "list_iterator",data:=.fields #[.ref l,.int 0 0] } }→(s₂.heap.IsListIter s.heap.objs.size l 0∧s₂.heap.IsList l items)→l≠s.heap.objs.size→Q (.ref s.heap.objs.size) s₂) :
  wpAny (model prog w) A (pyIter (.ref l)) Q E s:=by
 have hlt:l<s.heap.objs.size:=by obtain⟨_,e,_⟩:=hl;exact Heap.lt_size e
 exact wpAny_pyIter_list hl (h _ rfl ⟨⟨_,Heap.get?_push_size _ rfl,rfl,rfl⟩,hl.push _⟩ (Nat.ne_of_lt hlt))
def rAllL (K:PySem.W.Frag):List V→Hp→VK→Prop:=fun xs H Q=>∃a bs,xs=[.ref a]∧SqL K H a (List.map V.bl bs)∧Q (.bl (bs.all id)) H
theorem call_allL (hc:X.calm=true):CallR X (.builtin "all") (rAllL X.K):=by
 intro pins s σ H xs us Q I r h
 obtain⟨a,bs,rfl,hq,q⟩:=h
 obtain⟨u,rfl,r1⟩:=vals1 r
 cases (show u=Value.ref a from r1)
 obtain⟨its,rv,pl,hz⟩:=I.list hq
 have hlen:bs.length=its.length:=by simpa using rv.length
 refine call_all_walk (it_list pl.isList fun s₂ e st hne=>?_)
 subst e
 refine⟨_,_,_,_,_,_,fun i=>bs.getD i true,rfl,Walks.list (A:=X.A.in1) (I.ok.hd hc) _ a hne its.toArray,st,fun i v s' Q' E' hP hQ=>?_,fun h' tk hk=>?_⟩
 ·obtain⟨b,h1,rfl⟩:=bools_get rv (by simpa using hP)
  have e:bs.getD i true=b:=by simp[List.getD,h1]
  exact wpAny_truthy_bool (by have hQ2:=hQ;dsimp only at hQ2;rw[e]at hQ2;exact hQ2)
 ·refine⟨.bl (bs.all id),H,I.kept (fun b o e=>hk b o (fun z=>?_) (Heap.get?_push_of_some _ e)),?_,q⟩
  ·have z':b=s.heap.objs.size:=by simpa using z
   rw[z']at e
   exact absurd (Heap.lt_size e) (Nat.lt_irrefl _)
  ·show Value.bool _=Value.bool _
   rw[List.size_toArray,← hlen,all_range]
end
section
variable {X:Cx}{K:PySem.W.Frag}
theorem ix_listK (h:X.K=K):IxR X (rIxL K):=by subst h;exact ix_list
end
section
variable {σ:St}{H:Hp}{Q:VK}{D:Ends}
theorem rd_allL {K:PySem.W.Frag}{a:Addr}{bs:List Bool}(h:SqL K H a (bs.map V.bl)) (q:Q (.bl (bs.all id)) H):rAllL K [.ref a] H Q:=⟨a,bs,rfl,h,q⟩
theorem rd_itup {K:PySem.W.Frag}{tl:TE}{R:It→Hp→Prop}(h:tl σ H fun x H1=>∃a,x = .ref a∧(∃xs,SqT K H1 a xs)∧R (Itt K a) H1):iTup K tl σ H R:=h
theorem rd_ixT {K:PySem.W.Frag}{p:Addr}{xs:List V}{i:Int}{v:V}(h:SqT K H p xs) (e:atI xs i=some v) (q:Q v H):rIxT K (.ref p) (.int i) H Q:=⟨p,xs,i,v,rfl,rfl,h,e,q⟩
theorem comp_tup {vs:List Str}{js:List Nat}{g:TG}{tt:TT}{te:TE}{K:PySem.W.Frag}{a:Addr}{xs:List V}(Pv:Nat→St→List V→Hp→Prop) (D:Addr) (h0:Pv 0 (blkSt vs js σ) [] (upd H D (.lst []))) (hl:∀i σ' ys H',i≤xs.length→Pv i σ' ys H'→SqT K H' a xs)
  (hs:∀i x σ' ys H',xs[i]? = some x→Pv i σ' ys H'→g x σ' H' fun σ3 H3=>tt σ3 H3 fun b H4=>if b=true then te σ3 H4 fun y H5=>H5 D=some (.lst ys)∧ys.length<sizeLine∧Pv (i+1) σ3 (ys ++ [y]) (upd H5 D (.lst (ys ++ [y]))) else Pv (i+1) σ3 ys H4)
  (hd:∀σ' ys H',Pv xs.length σ' ys H'→Q (.ref D) H'):CompW (Itt K a) vs js σ g tt te Q D H:=by
 refine⟨fun i m σ' ys H'=>m=xs.length-i∧i≤xs.length∧Pv i σ' ys H',⟨xs.length,by simp,Nat.zero_le _,h0⟩,?_⟩
 rintro i m σ' ys H' ⟨rfl,hi,p⟩
 have q:=hl i σ' ys H' hi p
 by_cases hlt:i<xs.length
 ·refine .inr ⟨⟨xs,xs[i],q,by simp[hlt]⟩,Pv (i+1),fun σ2 zs H2 p'=>⟨xs.length-(i+1),by omega,rfl,hlt,p'⟩,fun x H2 y=>?_⟩
  obtain⟨e,y⟩:=y
  subst e
  exact hs i x σ' ys _ (y xs q) p
 ·have e:i=xs.length:=by omega
  subst e
  exact .inl ⟨⟨xs,q,Nat.le_refl _⟩,hd σ' ys H' p⟩
end
end L2
namespace L2
open PySem PySem.Spec PyProof.Rows
section
variable {κ:Type} [DecidableEq κ]
end
section
variable {P:Program}{w:World}{H:Hp}{h:Heap}{a:Addr}
end
section
variable {X:Cx}{pins:List (Addr×Obj)}{σ:St}{H:Hp}{s:Shared}{a:Addr}{y v:V}{u r:Value}{o:Option V}{A:Around}{E:Value→Shared→Prop}
end
section
variable {X:Cx}{pins:List (Addr×Obj)}{σ:St}{H:Hp}{s:Shared}{a:Addr}{kvs:List (Key×V)}{k:Key}{u:Value}{A:Around}{E:Value→Shared→Prop}
end
section
variable {X:Cx}{o i e value:Expr}{pos pos' tpos:Pos}{td ty tv:TE}
end
section
variable {X:Cx}{pos:Pos}
end
section
variable {X:Cx}{pins:List (Addr×Obj)}{σ:St}{H:Hp}{s:Shared}{a:Addr}{y d:V}{u r:Value}{o:Option V}{A:Around}{E:Value→Shared→Prop}
end
section
variable {X:Cx}{o e f:Expr}{apos cpos:Pos}{td ty tx:TE}
end
section
variable {X:Cx}{pins:List (Addr×Obj)}{σ:St}{H:Hp}{s:Shared}{a:Addr}{kvs:List (Key×V)}{A:Around}{E:Value→Shared→Prop}
end
section
variable {X:Cx}{pins:List (Addr×Obj)}{σ:St}{H:Hp}{s:Shared}{a:Addr}{y:V}{u:Value}{A:Around}{E:Value→Shared→Prop}
end
end L2
namespace L2
open PySem PySem.Spec PyProof.Rows
section
variable {X:Cx}
def rLeS:R2:=fun x y H Q=>∃i j,x = .str i∧y = .str j∧Q (.bl (!decide (j.cps.toList<i.cps.toList))) H
def rLenS:List V→Hp→VK→Prop:=fun xs H Q=>∃z,xs=[.str z]∧z.length≤sizeLine∧Q (.int z.length) H
theorem call_lenS:CallR X (.builtin "len") rLenS:=call_len_str
def rCatS:R2:=fun x y H Q=>∃i j,x = .str i∧y = .str j∧i.length+j.length≤sizeLine∧Q (.str (i++j)) H
theorem op_catS:OpR X (binaryOp .Add) rCatS:=op_add_str
theorem op_le_str:OpR X (compareOp .LtE) rLeS:=by
 intro pins s σ H x y v u Q I rx ry h
 obtain⟨i,j,rfl,rfl,q⟩:=h
 obtain⟨t,rfl⟩:=rx
 obtain⟨t',rfl⟩:=ry
 exact PySem.P.le_str (fin_bl I q rfl)
theorem strsAre_of {ns:List Str}:∀{us:List Value},Vals (ns.map V.str) us→StrsAre us ns:=by
 induction ns with
 | nil=>intro us r;cases r;exact .nil
 | cons n ns ih =>
  intro us r
  cases r with
  | cons r t =>
   obtain⟨tk,rfl⟩:=r
   exact .cons n tk (ih t)
def rJoin (K:PySem.W.Frag):V→List V→Hp→VK→Prop:=fun x vs H Q=>∃z a ys,x = .str z∧vs=[.ref a]∧SqL K H a (List.map V.str ys)∧(ys.map (·.length)).sum+ys.length*z.length≤16777216∧Q (.str (Txt.join z ys)) H
theorem mt_join:MtR X "str.join" (rJoin X.K):=by
 intro pins s σ H x xs v us Q I rx rs h
 obtain⟨z,a,ys,rfl,rfl,hq,hz,q⟩:=h
 obtain⟨t,rfl⟩:=rx
 obtain⟨u,rfl,ru⟩:=vals1 rs
 cases (show u=Value.ref a from ru)
 obtain⟨its,rv,pl,_⟩:=I.list hq
 exact join_list pl.isList (by simpa using strsAre_of rv) hz fun t' k=>⟨.str _,H,I.tok _,⟨_,rfl⟩,q⟩
end
def Its (x:Str):It:=⟨fun i _=>i<x.cps.size,fun i H v H'=>H'=H∧∃c,x.cps[i]? = some c∧v = .str ⟨#[c]⟩,fun i _=>x.cps.size≤i⟩
theorem go_str (tg:Expr) (it:Addr) (x:Str) (t:Tok):letOwnedTupleGo tg (.ref it) (.str x t)=pure ():=by
 cases tg <;> rfl
theorem turn_strG {P:Program}{w:World}{K:PySem.W.Frag}{tg:Expr}(it:Addr) (ty:String) (x:Str) (t:Tok)
  (W:∀A':Around,A'.handled=none→Walks P w A' it [it] [it] x.cps.size (SignAt x) (fun i h=>h.IsStrIter it ty x t i))
  (S:∀(A':Around) (i:Nat) (s:Shared) (Q:Value→Shared→Prop) (E:Value→Shared→Prop),s.heap.IsStrIter it ty x t i→Q (.ref it) s→wpAny (model P w) A' (pyIter (.ref it)) Q E s):Turn P w K tg (Its x) [it] it (fun i h=>h.IsStrIter it ty x t i∧i≤x.cps.size) where
 mem:=by simp
 obj:=fun i h st b hb=>by
  have e:b=it:=by simpa using hb
  subst e
  obtain⟨o,e,c,d⟩:=st.1
  exact⟨o,e,fun v z=>by rw[d]at z;cases z⟩
 keep:=fun i h h' st k=>⟨let ⟨o,ho,r⟩:=st.1;⟨o,k it (by simp) o ho,r⟩,st.2⟩
 item:=by
  intro X hP hw hK hc i pins s σ H E I hf st hg
  subst hP hw hK
  obtain⟨f0,f1,f2,f3,f4,f5⟩:=hf it (by simp)
  refine(W X.A (I.ok.hd hc)).item i s _ _ hg st.1 fun v h' tk hv st' kk=>?_
  obtain⟨c,u,hcx,rfl⟩:=hv
  have I1:Inv X pins σ H { s with heap:=h',toks:=tk }:=I.turned (fun b o hb e=>kk b o (by simpa using hb) e) f0 f1 f3 f4 f5
  refine⟨_,rfl,?_⟩
  rw[go_str tg]
  have hg':i<x.cps.size:=hg
  exact wpAny_pure ⟨.str ⟨#[c]⟩,H,I1,⟨u,rfl⟩,⟨rfl,c,hcx,rfl⟩,⟨st',hg'⟩,fun b hb=>(hf b hb).1⟩
 done:=by
  intro X hP hw hK hc i pins s σ H E I hf st hg
  subst hP hw hK
  obtain⟨f0,f1,f2,f3,f4,f5⟩:=hf it (by simp)
  have e:i=x.cps.size:=Nat.le_antisymm st.2 hg
  subst e
  exact(W X.A (I.ok.hd hc)).done s _ _ st.1 fun h' tk kk=>⟨rfl,I.turned (fun b o hb e=>kk b o (by simpa using hb) e) f0 f1 f3 f4 f5⟩
 self:=fun A' i s Q E st h=>S A' i s Q E st.1 h
section
variable {X:Cx}{tg:Expr}
def iStr (tl:TE):TI:=fun σ H R=>tl σ H fun x H1=>∃z,x = .str z∧R (Its z) H1
theorem pi_str {l:Expr}{tl:TE}(hl:PE X l tl):PI X tg l (iStr tl):=by
 intro pins s σ H R I h
 refine thn (hl pins s σ H _ I h) fun v s1 ⟨x,H1,I1,r1,q1⟩=>?_
 obtain⟨z,rfl,q⟩:=q1
 obtain⟨t,rfl⟩:=r1
 have fp:∀(o:Obj),∀b ∈ [s1.heap.objs.size],FpOk X pins H1 b:=fun o b hb=>by
  have e:b=s1.heap.objs.size:=by simpa using hb
  subst e
  exact I1.fpOk (Nat.le_refl _) (I1.hok.fresh (Nat.le_refl _))
 cases ha:z.cps.all (· < 128)
 ·refine wpAny_pyIter_wide ha ?_
  exact⟨s1.heap.objs.size,[s1.heap.objs.size],_,_,H1,rfl,I1.kept (t':=s1.toks) fun b o e=>Heap.get?_push_of_some _ e,
   turn_strG s1.heap.objs.size "str_iterator" z t (fun A' hA=>Walks.strWide hA _ z t) (fun _ _ _ _ _ st h=>wpAny_pyIter_striter_wide st h),⟨⟨_,Heap.get?_push_size _ rfl,rfl,rfl⟩,Nat.zero_le _⟩,fp default,q⟩
 ·refine wpAny_pyIter_ascii ha ?_
  exact⟨s1.heap.objs.size,[s1.heap.objs.size],_,_,H1,rfl,I1.kept (t':=s1.toks) fun b o e=>Heap.get?_push_of_some _ e,
   turn_strG s1.heap.objs.size "str_ascii_iterator" z t (fun A' hA=>Walks.strAscii hA _ z t) (fun _ _ _ _ _ st h=>wpAny_pyIter_striter_ascii st h),⟨⟨_,Heap.get?_push_size _ rfl,rfl,rfl⟩,Nat.zero_le _⟩,fp default,q⟩
end
section
variable {σ:St}{H:Hp}{Q:VK}{D:Ends}
theorem rd_leS {i j:Str}(q:Q (.bl (!decide (j.cps.toList<i.cps.toList))) H):rLeS (.str i) (.str j) H Q:=⟨i,j,rfl,rfl,q⟩
theorem rd_lenS {z:Str}(h:z.length≤sizeLine) (q:Q (.int z.length) H):rLenS [.str z] H Q:=⟨z,rfl,h,q⟩
theorem rd_catS {i j:Str}(h:i.length+j.length≤sizeLine) (q:Q (.str (i++j)) H):rCatS (.str i) (.str j) H Q:=⟨i,j,rfl,rfl,h,q⟩
theorem rd_ixS {z:Str}{i:Int}{c:Nat}(h:z.length≤sizeLine) (e:atI z.cps.toList i=some c) (q:Q (.str ⟨#[c]⟩) H):rIxS (.str z) (.int i) H Q:=⟨z,i,c,rfl,rfl,h,e,q⟩
theorem rd_istr {tl:TE}{R:It→Hp→Prop}(h:tl σ H fun x H1=>∃z,x = .str z∧R (Its z) H1):iStr tl σ H R:=h
theorem comp_str {vs:List Str}{js:List Nat}{g:TG}{tt:TT}{te:TE}{z:Str}(Pv:Nat→St→List V→Hp→Prop) (D:Addr) (h0:Pv 0 (blkSt vs js σ) [] (upd H D (.lst [])))
  (hs:∀i c σ' ys H',z.cps[i]? = some c→Pv i σ' ys H'→g (.str ⟨#[c]⟩) σ' H' fun σ3 H3=>tt σ3 H3 fun b H4=>if b=true then te σ3 H4 fun y H5=>H5 D=some (.lst ys)∧ys.length<sizeLine∧Pv (i+1) σ3 (ys ++ [y]) (upd H5 D (.lst (ys ++ [y]))) else Pv (i+1) σ3 ys H4)
  (hd:∀σ' ys H',Pv z.cps.size σ' ys H'→Q (.ref D) H'):CompW (Its z) vs js σ g tt te Q D H:=by
 refine⟨fun i m σ' ys H'=>m=z.cps.size-i∧i≤z.cps.size∧Pv i σ' ys H',⟨z.cps.size,by simp,Nat.zero_le _,h0⟩,?_⟩
 rintro i m σ' ys H' ⟨rfl,hi,p⟩
 by_cases hlt:i<z.cps.size
 ·refine .inr ⟨hlt,Pv (i+1),fun σ2 zs H2 p'=>⟨z.cps.size-(i+1),by omega,rfl,hlt,p'⟩,fun x H2 y=>?_⟩
  obtain⟨e,c,hc,y⟩:=y
  subst e y
  exact hs i c σ' ys _ hc p
 ·have e:i=z.cps.size:=by omega
  subst e
  exact .inl ⟨Nat.le_refl _,hd σ' ys H' p⟩
end
end L2
namespace L2
open PySem PySem.Spec PyProof.Rows
section
variable {es:List Expr}{env:Env}
theorem stx_Constant {c j p}:starEach (.Constant c j p::es) env =(false,eval (.Constant c j p) env)::starEach es env:=rfl
theorem stx_Name {x p}:starEach (.Name x p::es) env =(false,eval (.Name x p) env)::starEach es env:=rfl
theorem stx_BinOp {a o b p}:starEach (.BinOp a o b p::es) env =(false,eval (.BinOp a o b p) env)::starEach es env:=rfl
theorem stx_Compare {a o b p}:starEach (.Compare a o b p::es) env =(false,eval (.Compare a o b p) env)::starEach es env:=rfl
theorem stx_Call {a o b p}:starEach (.Call a o b p::es) env =(false,eval (.Call a o b p) env)::starEach es env:=rfl
theorem stx_Subscript {a o p}:starEach (.Subscript a o p::es) env =(false,eval (.Subscript a o p) env)::starEach es env:=rfl
theorem stx_List {a p}:starEach (.List a p::es) env =(false,eval (.List a p) env)::starEach es env:=rfl
theorem stx_Tuple {a k p}:starEach (.Tuple a k p::es) env =(false,eval (.Tuple a k p) env)::starEach es env:=rfl
theorem stx_ListComp {a b c p}:starEach (.ListComp a b c p::es) env =(false,eval (.ListComp a b c p) env)::starEach es env:=rfl
end
end L2
namespace L2
open PySem PySem.Spec PyProof.Rows
section
variable {X:Cx}
end
end L2
namespace L2
open PySem PySem.Spec PyProof.Rows
section
variable {X:Cx}
def rIntB:List V→Hp→VK→Prop:=fun xs H Q=>∃k,xs=[.bl k]∧Q (.int (if k then 1 else 0)) H
theorem call_intB:CallR X (.type "int") rIntB:=by
 intro pins s σ H xs us Q I r h
 exact call_int1 pins s σ H xs us Q I r (.inr h)
end
section
variable {K:PySem.W.Frag}{H:Hp}{Q:VK}{σ:St}
theorem rd_intB {k:Bool}(q:Q (.int (if k then 1 else 0)) H):rIntB [.bl k] H Q:=⟨k,rfl,q⟩
end
end L2
namespace L2
open PySem PySem.Spec PyProof.Rows
section
variable {X:Cx}{pins:List (Addr×Obj)}{σ:St}{H:Hp}{s:Shared}{h':Heap}
theorem Inv.turnedL {t':Nat}{ch:List Addr}(I:Inv X pins σ H s) (k:∀b o,b∉ch→s.heap.get? b=some o→h'.get? b=some o) (f:∀b∈ch,FpOk X pins H b):Inv X pins σ H { s with heap:=h',toks:=t' }:=by
 have nit:∀b u,H b=some u→b∉ch:=fun b u e z=>by rw[(f b z).1]at e;cases e
 refine I.step (g':=s.gens) (d':=s.drawn) (ch:=ch) (fun b hb=>?_) (fun b o _ _ hc e _=>k b o hc e) (fun b o _ _ hc e _=>⟨o.slots,k b o hc e⟩) (fun _ _ _ _ n=>n) (fun b o hc e=>⟨o,k b o hc e⟩) (fun _ _ e=>e) (fun _ _ _ e=>e)
  (fun b ps e=>⟨#[],by rw[e];simp⟩) (fun m hm=>?_) (fun b u e=>?_) I.bare
 ·obtain⟨f0,f1,f2,f3,f4,f5⟩:=f b hb
  exact⟨f3,f1,f4,f5⟩
 ·obtain⟨o,es,ep,ho,r⟩:=hm
  exact⟨o,es,ep,k _ o (fun z=>(f _ z).2.1 rfl) ho,r⟩
 ·refine(I.hok b u e).stay (fun c v hc q=>k c v ?_ q) (fun _ q=>q) fun _ _ q=>q
  rcases hc with z|z
  ·rw[z];exact nit b u e
  ·exact nit c _ z
theorem Inv.turnedN {t':Nat}{ch:List Addr}{a:Addr}{o:HO}(I:Inv X pins σ H s) (k:∀b o,b∉ch→s.heap.get? b=some o→h'.get? b=some o) (f:∀b∈ch,FpOk X pins H b)
  (ha:s.heap.objs.size≤a) (new:ObjOk X.prog X.w (upd H a o) h' a o):Inv X pins σ (upd H a o) { s with heap:=h',toks:=t' }:=by
 have nit:∀b u,H b=some u→b∉ch:=fun b u e z=>by rw[(f b z).1]at e;cases e
 have hn:=I.hok.fresh ha
 have old:∀b ob,s.heap.get? b=some ob→b≠a:=fun b ob q=>Nat.ne_of_lt (Nat.lt_of_lt_of_le (Heap.lt_size q) ha)
 have up:∀b u,H b=some u→upd H a o b=some u:=fun b u q=>by rw[upd_ne (ne_of_none q hn)];exact q
 refine I.step (g':=s.gens) (d':=s.drawn) (ch:=ch) (fun b hb=>?_) (fun b o _ _ hc e _=>k b o hc e) (fun b o _ _ hc e _=>⟨o.slots,k b o hc e⟩) (fun b ob _ e n=>by rw[upd_ne (old b ob e)];exact n) (fun b o hc e=>⟨o,k b o hc e⟩) (fun b xs e=>up _ _ e) (fun b ob u e=>up _ _ e)
  (fun b ps e=>⟨#[],by rw[up _ _ e];simp⟩) (fun m hm=>?_) (fun b u e=>?_) I.bare
 ·obtain⟨f0,f1,f2,f3,f4,f5⟩:=f b hb
  exact⟨f3,f1,f4,f5⟩
 ·obtain⟨o,es,ep,ho,r⟩:=hm
  exact⟨o,es,ep,k _ o (fun z=>(f _ z).2.1 rfl) ho,r⟩
 ·by_cases hb:b=a
  ·subst hb;rw[upd_same]at e;cases e;exact new
  ·rw[upd_ne hb]at e
   refine(I.hok b u e).stay (fun c v hc q=>k c v ?_ q) (fun c q=>up _ _ q) fun c xs q=>up _ _ q
   rcases hc with z|z
   ·rw[z];exact nit b u e
   ·exact nit c _ z
end
section
variable {X:Cx}{elts:List Expr}{x1:_}{tpos:Pos}
end
section
variable {K:PySem.W.Frag}{H:Hp}{Q:VK}{σ:St}
end
end L2
namespace L2
open PySem PySem.Spec PyProof.Rows
section
variable {X:Cx}{K:PySem.W.Frag}{tg:Expr}
end
end L2
namespace L2
open PySem PySem.Spec PyProof.Rows
section
variable {prog:Program}{w:World}{A:Around}{E:Value→Shared→Prop}{s:Shared}
variable {ltb:Keyed→Keyed→Bool}{S:Keyed→Prop}{κ:SortKind}
end
end L2
namespace L2
open PySem PySem.Spec PyProof.Rows
section
variable {ltb:Keyed→Keyed→Bool}{xa xb ou:List Keyed}{ja jb k:Nat}
end
end L2
namespace L2
open PySem PySem.Spec PyProof.Rows
section
variable {ltb:Keyed→Keyed→Bool}{xa xb ou:Array Keyed}{ja jb k:Nat}
end
section
variable {prog:Program}{w:World}{A:Around}{E:Value→Shared→Prop}{s:Shared}{ltb:Keyed→Keyed→Bool}{S:Keyed→Prop}{κ:SortKind}
end
section
variable {prog:Program}{w:World}{A:Around}{E:Value→Shared→Prop}{s:Shared}{ltb:Keyed→Keyed→Bool}{S:Keyed→Prop}{κ:SortKind}
end
end L2
namespace L2
open PySem PySem.Spec PyProof.Rows
section
variable {ltb:Keyed→Keyed→Bool}{xa xb ou:Array Keyed}{na nb k:Nat}
end
end L2
namespace L2
open PySem PySem.Spec PyProof.Rows
section
variable {prog:Program}{w:World}{A:Around}{E:Value→Shared→Prop}{s:Shared}{ltb:Keyed→Keyed→Bool}{S:Keyed→Prop}{κ:SortKind}
end
end L2
namespace L2
open PySem PySem.Spec PyProof.Rows
section
variable {prog:Program}{w:World}{A:Around}{E:Value→Shared→Prop}{s:Shared}{ltb:Keyed→Keyed→Bool}{S:Keyed→Prop}{κ:SortKind}
end
end L2
namespace L2
open PySem PySem.Spec PyProof.Rows
section
variable {prog:Program}{w:World}{A:Around}{E:Value→Shared→Prop}{s:Shared}{ltb:Keyed→Keyed→Bool}{S:Keyed→Prop}{κ:SortKind}
end
end L2
namespace L2
open PySem PySem.Spec PyProof.Rows
section
variable {ltb:Keyed→Keyed→Bool}{R:List Keyed}
end
section
variable {prog:Program}{w:World}{A:Around}{E:Value→Shared→Prop}{s:Shared}{ltb:Keyed→Keyed→Bool}{S:Keyed→Prop}{κ:SortKind}
end
end L2
namespace L2
open PySem PySem.Spec PyProof.Rows
section
variable {ltb:Keyed→Keyed→Bool}{κ:SortKind}
end
section
variable {prog:Program}{w:World}{A:Around}{E:Value→Shared→Prop}{s:Shared}{ltb:Keyed→Keyed→Bool}{S:Keyed→Prop}{κ:SortKind}
end
end L2
namespace L2
open PySem PySem.Spec PyProof.Rows
section
variable {ltb:Keyed→Keyed→Bool}{κ:SortKind}{a0:List Keyed}{st:SortSt}{rs:List (List Keyed)}
end
section
variable {prog:Program}{w:World}{A:Around}{E:Value→Shared→Prop}{s:Shared}{ltb:Keyed→Keyed→Bool}{S:Keyed→Prop}{κ:SortKind}
end
end L2
namespace L2
open PySem PySem.Spec PyProof.Rows
section
variable {prog:Program}{w:World}{A:Around}{E:Value→Shared→Prop}{s:Shared}
end
section
variable {X:Cx}
end
end L2
namespace L2
open PySem PySem.Spec PyProof.Rows
def tDead:TS:=fun _ _ _=>False
theorem ps_dead {X:Cx}{st:Stmt}:PS X st tDead:=fun _ _ _ _ _ _ h=>h.elim
section
variable {X:Cx}{K:PySem.W.Frag}
end
section
variable {X:Cx}{K:PySem.W.Frag}{pos:Pos}
theorem pg_tupK {es:List Expr}{k:Nat}{t:TGs}{n:Nat}(h:X.K=K) (hc:X.calm=true) (hp:PGs X es t)
  (hn:(assignEach es X.env).length=n:=by rfl) (hst:(assignEach es X.env).findIdx? (·.1)=none:=by rfl):PG X (.Tuple es k pos) (gTup K n t):=by subst h;exact pg_tup hc hp hn hst
end
section
variable {σ:St}{H:Hp}{Q:VK}{D:Ends}
end
def Itz (K:PySem.W.Frag) (a b:Addr) : It :=
  ⟨fun i H=>∃ xs x ys y,SqL K H a xs∧xs[i]? = some x∧SqL K H b ys∧ys[i]? = some y,
   fun i H x H'=>∃ t u v,H t = none∧H' = upd H t (.tup [u,v])∧x = .ref t∧(∀ xs,SqL K H a xs→xs[i]? = some u)∧(∀ ys,SqL K H b ys→ys[i]? = some v),
   fun i H=>∃ xs ys,SqL K H a xs∧SqL K H b ys∧(xs.length ≤ i ∨ ys.length ≤ i)⟩
theorem turn_zip {P:Program}{w:World}{K:PySem.W.Frag}{elts:List Expr}{x1}{tpos:Pos}{a1 a2 z TI TO i1 i2:Addr}(D:ZipApart z TI TO i1 i2 a1 a2) :
  Turn P w K (.Tuple elts x1 tpos) (Itz K a1 a2) [z,TO,i1,i2,TI] z (fun i h=>IsZip h z TI TO .none∧IsPair h TI (.ref i1) (.ref i2)∧(∃a b,IsPair h TO a b)∧h.IsListIter i1 a1 i∧h.IsListIter i2 a2 i) where
 mem:=by simp
 obj:=fun i h st b hb=>by
  obtain⟨hz,hTI,⟨x,y,hTO⟩,⟨o1,e1,c1,d1⟩,⟨o2,e2,c2,d2⟩⟩:=st
  have:b=z∨b=TO∨b=i1∨b=i2∨b=TI:=by simpa using hb
  rcases this with rfl|rfl|rfl|rfl|rfl
  ·exact⟨_,hz,fun v q=>by cases q⟩
  ·exact⟨_,hTO,fun v q=>by cases q⟩
  ·exact⟨o1,e1,fun v q=>by rw[d1]at q;cases q⟩
  ·exact⟨o2,e2,fun v q=>by rw[d2]at q;cases q⟩
  ·exact⟨_,hTI,fun v q=>by cases q⟩
 keep:=fun i h h' st k=>by
  obtain⟨hz,hTI,⟨x,y,hTO⟩,h1,h2⟩:=st
  exact⟨k z (by simp) _ hz,k TI (by simp) _ hTI,⟨x,y,k TO (by simp) _ hTO⟩,h1.at fun o q=>k i1 (by simp) o q,h2.at fun o q=>k i2 (by simp) o q⟩
 item:=by
  intro X hP hw hK hc i pins s σ H E I hf st hg
  subst hP hw hK
  obtain⟨xs,x,ys,y,hq1,hx,hq2,hy⟩:=hg
  obtain⟨hz,hTI,⟨ao,bo,hTO⟩,h1,h2⟩:=st
  obtain⟨its1,rv1,p1,hz1⟩:=I.list hq1
  obtain⟨its2,rv2,p2,hz2⟩:=I.list hq2
  obtain⟨u,hu,ru⟩:=rv1.get hx
  obtain⟨v,hv,rv⟩:=rv2.get hy
  have lz:z<s.heap.objs.size:=Heap.lt_size hz
  have lTO:TO<s.heap.objs.size:=Heap.lt_size hTO
  have lTI:TI<s.heap.objs.size:=Heap.lt_size hTI
  obtain⟨o1,e1,c1,d1⟩:=id h1
  obtain⟨o2,e2,c2,d2⟩:=id h2
  have l1:i1<s.heap.objs.size:=Heap.lt_size e1
  have l2:i2<s.heap.objs.size:=Heap.lt_size e2
  have lt:∀b ∈ [z,TO,i1,i2,TI],b<s.heap.objs.size:=fun b hb=>by
   have:b=z∨b=TO∨b=i1∨b=i2∨b=TI:=by simpa using hb
   rcases this with rfl|rfl|rfl|rfl|rfl <;> assumption
  refine wpAny_pyNext_zip_item D hz hTI hTO h1 h2 p1.isList p2.isList (x:=u) (y:=v) (by simpa using hu) (by simpa using hv) fun h₁ hz₁ hTO₁ hi1 hi2 hT₁ hsz₁ hk₁=>⟨_,rfl,?_⟩
  refine wpAny_letOwnedTupleGo_zip hz₁ fun h₂ hz₂ hs₂=>?_
  replace hs₂:Heap.SameBut z h₁ h₂:=hs₂
  have hnew:h₂.get? s.heap.objs.size=some { cls:=.type "tuple",data:=.seq #[u,v] }:=(hs₂.2 _ (Nat.ne_of_gt lz)).trans hT₁
  have hkeep:∀b o,b ∉ [z,TO,i1,i2,TI]→s.heap.get? b=some o→h₂.get? b=some o:=fun b o hb q=>by
   have n1:b≠z:=fun e=>hb (by simp[e])
   have n2:b≠TO:=fun e=>hb (by simp[e])
   have n3:b≠i1:=fun e=>hb (by simp[e])
   have n4:b≠i2:=fun e=>hb (by simp[e])
   exact(hs₂.2 b n1).trans (hk₁ b o n1 n2 n3 n4 q)
  have free0:=I.hok.fresh (Nat.le_refl s.heap.objs.size)
  have hT:ObjOk X.prog X.w (upd H s.heap.objs.size (.tup [x,y])) h₂ s.heap.objs.size (.tup [x,y]) :=
   ⟨(by show 2≤sizeLine;decide),[u,v],.cons ru (.cons rv .nil),⟨_,hnew,rfl,_,rfl⟩⟩
  have I2:Inv X pins σ (upd H s.heap.objs.size (.tup [x,y])) { s with heap:=h₂,toks:=s.toks }:=I.turnedN (t':=s.toks) hkeep hf (Nat.le_refl _) hT
  refine⟨.ref s.heap.objs.size,upd H s.heap.objs.size (.tup [x,y]),I2,rfl,⟨s.heap.objs.size,x,y,free0,rfl,rfl,fun ys' hy'=>by rw[I.list_inj hy' hq1];exact hx,fun ys' hy'=>by rw[I.list_inj hy' hq2];exact hy⟩,⟨hz₂,?_,⟨u,v,?_⟩,?_,?_⟩,fun b hb=>?_⟩
  ·exact hs₂.extBut _ _ D.TIz (hk₁ _ _ D.TIz D.TITO D.TIi1 D.TIi2 hTI)
  ·exact hs₂.extBut _ _ D.TOz hTO₁
  ·exact hi1.extBut hs₂.extBut D.i1z
  ·exact hi2.extBut hs₂.extBut D.i2z
  ·rw[upd_ne (Nat.ne_of_lt (lt b hb))]
   exact(hf b hb).1
 done:=by
  intro X hP hw hK hc i pins s σ H E I hf st hg
  subst hP hw hK
  obtain⟨xs,ys,hq1,hq2,hx⟩:=hg
  obtain⟨hz,hTI,⟨ao,bo,hTO⟩,h1,h2⟩:=st
  obtain⟨its1,rv1,p1,hz1⟩:=I.list hq1
  obtain⟨its2,rv2,p2,hz2⟩:=I.list hq2
  have hl1:=rv1.length
  have hl2:=rv2.length
  have hend:its1.toArray[i]? = none∨its2.toArray[i]? = none:=by
   rcases hx with c|c
   ·left;simp;omega
   ·right;simp;omega
  refine wpAny_pyNext_zip_end (I.ok.hd hc) D hz hTI hTO h1 h2 p1.isList p2.isList hend fun h' eb=>⟨rfl,I.turnedL (t':=s.toks) (ch:=[z,TO,i1,i2,TI]) (fun b o hb e=>?_) hf⟩
  exact eb b o (fun e=>hb (by simp[e])) (fun e=>hb (by simp[e])) (fun e=>hb (by simp[e])) (fun e=>hb (by simp[e])) e
 self:=fun _ _ _ _ _ st h=>wpAny_pyIter_zip st.1 h
section
variable {X:Cx}{elts:List Expr}{x1:_}{tpos:Pos}
end
section
variable {K:PySem.W.Frag}{H:Hp}{Q:VK}{σ:St}
theorem comp_zip {vs:List Str}{js:List Nat}{g:TG}{tt:TT}{te:TE}{a b:Addr}{xs zs:List V}(Pv:Nat→St→List V→Hp→Prop) (D:Addr) (hlen:xs.length=zs.length) (h0:Pv 0 (blkSt vs js σ) [] (upd H D (.lst [])))
  (hl:∀i σ' ys H',i≤xs.length→Pv i σ' ys H'→SqL K H' a xs∧SqL K H' b zs)
  (hs:∀i x z σ' ys H' t,xs[i]? = some x→zs[i]? = some z→Pv i σ' ys H'→H' t=none→g (.ref t) σ' (upd H' t (.tup [x,z])) fun σ3 H3=>tt σ3 H3 fun b H4=>if b=true then te σ3 H4 fun y H5=>H5 D=some (.lst ys)∧ys.length<sizeLine∧Pv (i+1) σ3 (ys ++ [y]) (upd H5 D (.lst (ys ++ [y]))) else Pv (i+1) σ3 ys H4)
  (hd:∀σ' ys H',Pv xs.length σ' ys H'→Q (.ref D) H'):CompW (Itz K a b) vs js σ g tt te Q D H:=by
 refine⟨fun i m σ' ys H'=>m=xs.length-i∧i≤xs.length∧Pv i σ' ys H',⟨xs.length,by simp,Nat.zero_le _,h0⟩,?_⟩
 rintro i m σ' ys H' ⟨rfl,hi,p⟩
 obtain⟨q1,q2⟩:=hl i σ' ys H' hi p
 by_cases hlt:i<xs.length
 ·refine .inr ⟨⟨xs,xs[i],zs,zs[i],q1,by simp[hlt],q2,by simp[hlen ▸ hlt]⟩,Pv (i+1),fun σ2 zs H2 p'=>⟨xs.length-(i+1),by omega,rfl,hlt,p'⟩,fun x H2 y=>?_⟩
  obtain⟨t,u,v,nt,rfl,rfl,y1,y2⟩:=y
  exact hs i u v σ' ys _ t (y1 xs q1) (y2 zs q2) p nt
 ·have e:i=xs.length:=by omega
  subst e
  exact .inl ⟨⟨xs,zs,q1,q2,.inl (Nat.le_refl _)⟩,hd σ' ys H' p⟩
end
end L2
namespace L2
open PySem PySem.Spec PyProof.Rows
section
variable {X:Cx}{pins:List (Addr×Obj)}{σ:St}{H:Hp}{s:Shared}{h':Heap}
variable {A:Around}{E:Value→Shared→Prop}
end
section
variable {prog:Program}{w:World}{A:Around}{E:Value→Shared→Prop}{s:Shared}
end
section
variable {X:Cx}{pins:List (Addr×Obj)}{σ:St}{H:Hp}{s:Shared}{E:Value→Shared→Prop}
end
section
variable {X:Cx}{e:Expr}{t:TA}{y:Str}{ps:List Str}{k:Nat}{sp:Sp}{p p2 kpos pos:Pos}
end
section
variable {X:Cx}
end
end L2
namespace L2
open PySem PySem.Spec PyProof.Rows
section
variable {X:Cx}{pins:List (Addr×Obj)}{σ:St}{H:Hp}{s:Shared}
end
end L2
namespace L2
open PySem PySem.Spec PyProof.Rows
section
variable {X:Cx}{pins:List (Addr×Obj)}{σ:St}{H:Hp}{s:Shared}{scope:Scope}{y:Str}{fs:List Str}{js:List Nat}
end
section
variable {X:Cx}{e body:Expr}{t:TA}{te:TE}{k:Nat}{p kpos pos lpos:Pos}{params:Arguments}{scope:Scope}{y:Str}{fs:List Str}{js:List Nat}{P c:Addr}
end
section
variable {X:Cx}{a b:Expr}{rest:List Expr}{ta tb:TE}{pos:Pos}
def tOrG (K:PySem.W.Frag) (ta tb:TE):TE:=fun σ H Q=>ta σ H fun x H1=>∃k,TruV K x H1 k∧if k=true then Q x H1 else tb σ H1 Q
theorem rd_orG {K:PySem.W.Frag}{σ:St}{H:Hp}{Q:VK}(h:ta σ H fun x H1=>∃k,TruV K x H1 k∧if k=true then Q x H1 else tb σ H1 Q):tOrG K ta tb σ H Q:=h
theorem pe_orG (ha:PE X a ta) (hb:PE X (.BoolOp .Or (b::rest) pos) tb):PE X (.BoolOp .Or (a::b::rest) pos) (tOrG X.K ta tb):=by
 intro pins s σ H Q I h
 refine BoolOp_or (thn (ha pins s σ H _ I h) fun v s1 ⟨x,H1,I1,r1,k,tk,q1⟩=>?_)
 refine thn (tru_ok pins s1 σ H1 x v (fun k' H'=>k'=k∧H'=H1) I1 r1 ⟨k,tk,rfl,rfl⟩) fun k' s2 ⟨H2,I2,e1,e2⟩=>?_
 subst e1 e2
 cases k' with
 | false=>exact hb pins s2 σ H2 Q I2 q1
 | true=>exact⟨x,H2,I2,r1,q1⟩
end
end L2
namespace L2
open PySem PySem.Spec PyProof.Rows
section
variable {X:Cx}
end
end L2
namespace L2
open PySem PySem.Spec PyProof.Rows
section
variable {X:Cx}
end
end L2
namespace L2
open PySem PySem.Spec PyProof.Rows
section
variable {prog:Program}{w:World}{A:Around}{E:Value→Shared→Prop}{s:Shared}
end
section
variable {X:Cx}
end
end L2
namespace PySem
namespace F
end F
end PySem
namespace L2
open PySem PySem.Spec PyProof.Rows
section
variable {prog:Program}{w:World}{κ:Type} [DecidableEq κ] {knd:KeyKind prog w κ}{A:Around}{E:Value→Shared→Prop}{s:Shared}
inductive PairsAt (knd:KeyKind prog w κ) (h:Heap):List Value→List (κ×Value)→Prop
 | nil:PairsAt knd h [] []
 | cons {a:Addr}{o:Obj}{n:Nat}{key val:Value}{k:κ}{vs:List Value}{rs:List (κ×Value)}:h.get? a=some o→o.cls = .type "tuple"→o.data = .seq #[key,val] n→knd.is k key=true→PairsAt knd h vs rs→PairsAt knd h (.ref a::vs) ((k,val)::rs)
end
section
variable {X:Cx}
end
end L2
namespace L2
open PySem PySem.Spec PyProof.Rows
section
variable {prog:Program}{w:World}{κ:Type} [DecidableEq κ] {knd:KeyKind prog w κ}{A:Around}{E:Value→Shared→Prop}{s:Shared}
end
section
variable {X:Cx}
end
end L2
namespace L2
open PySem PySem.Spec PyProof.Rows
inductive NumU:Value→Int→Prop
 | int (i:Int) (t:Tok):NumU (.int i t) i
 | bl (b:Bool):NumU (.bool b) (if b=true then(1:Int) else 0)
section
variable {prog:Program}{w:World}{A:Around}{E:Value→Shared→Prop}{s:Shared}{Q:Value→Shared→Prop}{a b:Value}{i j:Int}
end
section
variable {prog:Program}{w:World}{A:Around}{E:Value→Shared→Prop}{s:Shared}{Q:Value→Shared→Prop}{a b:Value}{i j:Int}
end
inductive Num:V→Int→Prop
 | int (i:Int):Num (.int i) i
 | bl (b:Bool):Num (.bl b) (if b=true then(1:Int) else 0)
section
variable {X:Cx}
end
end L2
namespace L2
open PySem PySem.Spec PyProof.Rows
section
variable {X:Cx}
end
end L2
namespace L2
open PySem PySem.Spec PyProof.Rows
section
variable {X:Cx}
def rEqE (K:PySem.W.Frag):R2:=fun x y H Q=>∃p q xs,x = .ref p∧y = .ref q∧SqL K H p xs∧SqL K H q []∧Q (.bl (decide (xs=[]))) H
theorem op_eqE (hu:X.A.units+64<cLine):OpR X (compareOp .Eq) (rEqE X.K):=by
 intro pins s σ H x y v u Q I rx ry h
 obtain⟨p,p',xs,rfl,rfl,h1,h2,q⟩:=h
 cases rx
 cases ry
 obtain⟨its,r1,pl1,_⟩:=I.list h1
 obtain⟨its2,r2,pl2,_⟩:=I.list h2
 have l1:=r1.length
 have l2:=r2.length
 have e2:its2=[]:=List.eq_nil_of_length_eq_zero (by simpa using l2.symm)
 subst e2
 by_cases c:xs=[]
 ·subst c
  have e1:its=[]:=List.eq_nil_of_length_eq_zero (by simpa using l1.symm)
  subst e1
  refine SeqAt.eq_listAt (e:=fun _=>true) pl1.isList pl2.isList rfl (by omega) (fun j g1 g2=>absurd g1 (by simp)) ⟨.bl _,H,I,rfl,?_⟩
  rw[decide_eq_true rfl]at q
  exact q
 ·have hl:0<xs.length:=List.length_pos_iff.mpr c
  refine SeqAt.eq_list_lengthsAt pl1.isList pl2.isList ?_ (by omega) ⟨.bl _,H,I,rfl,?_⟩
  ·simp;intro e;rw[e]at l1;exact c (List.eq_nil_of_length_eq_zero l1)
  ·rw[decide_eq_false c]at q;exact q
end
end L2
namespace L2
open PySem PySem.Spec PyProof.Rows
section
variable {prog:Program}{w:World}{A:Around}{R:Result→Shared→Prop}{s:Shared}{elt t1 i1 t2 i2:Expr}{fs1 fs2:List Expr}{scope:Scope}{pos:Pos}{it acc:Value}{env:Env}
end
section
variable {X:Cx}{pins:List (Addr×Obj)}{σ:St}{H:Hp}{s:Shared}{scope:Scope}{vs fs:List Str}{js:List Nat}
end
section
variable {X:Cx}{pins:List (Addr×Obj)}{σ:St}{H:Hp}{s:Shared}{scope:Scope}{vs fs:List Str}{js:List Nat}
end
section
variable {vs:List Str}{js:List Nat}{σ:St}{H:Hp}{Q:VK}
end
end L2
namespace L2
open PySem PySem.Spec PyProof.Rows
section
variable {X:Cx}
end
end L2
namespace L2
open PySem PySem.Spec PyProof.Rows
section
variable {X:Cx}{x m:Str}{C:Addr}{ps:List Str}{k:Nat}{sp:Sp}{e o:Expr}{es:List Expr}{t:TA}{ta:TE}{p pos apos:Pos}
end
section
variable {σ:St}{H:Hp}{Q:VK}
end
section
variable {X:Cx}
end
section
variable {X:Cx}{pins:List (Addr×Obj)}{σ:St}{H:Hp}{s:Shared}{d:Addr}{o:Obj}{kvs:List (Key×V)}
end
section
variable {X:Cx}
end
end L2
namespace L2
open PySem PySem.Spec PyProof.Rows
section
variable {prog:Program}{w:World}{A:Around}{E:Value→Shared→Prop}{s:Shared}{κ:Type} [DecidableEq κ] {knd:KeyKind prog w κ}
end
section
variable {X:Cx}
end
end L2
namespace L2
open PySem PySem.Spec PyProof.Rows
section
variable {σ:St}{H:Hp}{Q:VK}{D:Ends}
def IsT (R t:TS):Prop:=R=t
theorem rd_seqO {t u:TS}(h:∀R,IsT R u→t { D with nx:=R D } σ H):tSeq t u D σ H:=h u rfl
theorem rd_ifSO {c:TT}{t u:TS}(h:∀R S,IsT R t→IsT S u→c σ H fun b H1=>if b=true then R D σ H1 else S D σ H1):tIfS c t u D σ H:=h t u rfl rfl
theorem rd_forO {wi:TI}{g:TG}{tb:TS}(h:∀R,IsT R tb→wi σ H fun J H1=>∃W:Nat→Nat→St→Hp→Prop,(∃m,W 0 m σ H1)∧∀i m σ H,W i m σ H →
 (J.stop i H∧D.nx σ H) ∨(J.go i H∧∃N:St→Hp→Prop,(∀σ' H',N σ' H'→∃m',m'<m∧W (i+1) m' σ' H')∧∀x H',J.yld i H x H'→g x σ H' fun σ2 H2=>R { D with nx:=N,ct:=N,bk:=D.nx } σ2 H2)):tFor wi g tb D σ H:=h tb rfl
theorem rd_tx {R t:TS}(e:IsT R t) (h:t D σ H):R D σ H:=by cases e;exact h
def IsN (N I:St→Hp→Prop):Prop:=∀σ H,I σ H→N σ H
def AllN (I:St→Hp→Prop) (t:(St→Hp→Prop)→Prop):Prop:=∀N,IsN N I→t N
theorem rd_allN {I:St→Hp→Prop}{t:(St→Hp→Prop)→Prop}(h:∀N,IsN N I→t N):AllN I t:=h
theorem rd_isN {N I:St→Hp→Prop}(e:IsN N I) (h:I σ H):N σ H:=e σ H h
theorem for_rangeO {lo:Int}{n:Nat}{g:TG}{tb:TS}(Pv:Nat→St→Hp→Prop) (h0:Pv 0 σ H)
  (hs:∀i σ H,i<n→Pv i σ H→AllN (Pv (i+1)) fun N=>g (.int (lo+i)) σ H fun σ2 H2=>tb { D with nx:=N,ct:=N,bk:=D.nx } σ2 H2) (hd:∀σ H,Pv n σ H→D.nx σ H) :
  ∃W:Nat→Nat→St→Hp→Prop,(∃m,W 0 m σ H)∧∀i m σ H,W i m σ H →
   ((Itr lo n).stop i H∧D.nx σ H) ∨((Itr lo n).go i H∧∃N:St→Hp→Prop,(∀σ' H',N σ' H'→∃m',m'<m∧W (i+1) m' σ' H')∧∀x H',(Itr lo n).yld i H x H'→g x σ H' fun σ2 H2=>tb { D with nx:=N,ct:=N,bk:=D.nx } σ2 H2) :=
 for_range Pv h0 (fun i σ H a b=>hs i σ H a b _ fun _ _ z=>z) hd
theorem for_listO {K:PySem.W.Frag}{a:Addr}{xs:List V}{g:TG}{tb:TS}(Pv:Nat→St→Hp→Prop) (h0:Pv 0 σ H) (hl:∀i σ H,i≤xs.length→Pv i σ H→SqL K H a xs)
  (hs:∀i x σ H,xs[i]? = some x→Pv i σ H→AllN (Pv (i+1)) fun N=>g x σ H fun σ2 H2=>tb { D with nx:=N,ct:=N,bk:=D.nx } σ2 H2) (hd:∀σ H,Pv xs.length σ H→D.nx σ H) :
  ∃W:Nat→Nat→St→Hp→Prop,(∃m,W 0 m σ H)∧∀i m σ H,W i m σ H →
   ((Itl K a).stop i H∧D.nx σ H) ∨((Itl K a).go i H∧∃N:St→Hp→Prop,(∀σ' H',N σ' H'→∃m',m'<m∧W (i+1) m' σ' H')∧∀x H',(Itl K a).yld i H x H'→g x σ H' fun σ2 H2=>tb { D with nx:=N,ct:=N,bk:=D.nx } σ2 H2) :=
 for_list Pv h0 hl (fun i x σ H a b=>hs i x σ H a b _ fun _ _ z=>z) hd
end
end L2
namespace L2
open PySem PySem.Spec PyProof.Rows
section
variable {X:Cx}{σ:St}{H:Hp}{Q:VK}{D:DK}
end
section
variable {K:PySem.W.Frag}
def Ga (K:PySem.W.Frag) (x:Str) (st:Stmt):Prop:=∃f:Addr,PySem.W.nsIn K mainGlobals x=some (some (.ref f))∧∃fd:FuncData,Fun K x x st f fd
def Ga2 (K:PySem.W.Frag) (x y:Str) (st:Stmt):Prop:=∃f:Addr,PySem.W.nsIn K mainGlobals x=some (some (.ref f))∧PySem.W.nsIn K mainGlobals y=some (some (.ref f))∧∃fd:FuncData,Fun K x x st f fd
def Me (K:PySem.W.Frag) (C:Addr) (m q:Str) (st:Stmt):Prop:=∃f:Addr,PySem.W.findIn K (.ref C) m=some (some (.ref f))∧PySem.W.isFn K (.ref f)=true∧PySem.W.keepIn K (.ref f)=true∧∃fd:FuncData,Fun K m q st f fd
end
end L2
namespace L2
open PySem PySem.Spec PyProof.Rows
mutual
inductive DW (H:Hp):V→PyData→Prop
 | non:DW H .non .none
 | bl (b:Bool):DW H (.bl b) (.bool b)
 | int (i:Int):DW H (.int i) (.int i)
 | str (x:Str):DW H (.str x) (.str x)
 | lst {a:Addr}{xs:List V}{ds:List PyData}:H a=some (.lst xs)→DWs H xs ds→DW H (.ref a) (.list ds)
 | tup {a:Addr}{xs:List V}{ds:List PyData}:H a=some (.tup xs)→DWs H xs ds→DW H (.ref a) (.tuple ds)
 | dic {a:Addr}:H a=some (.dK [])→DW H (.ref a) (.dict [])
inductive DWs (H:Hp):List V→List PyData→Prop
 | nil:DWs H [] []
 | cons {x:V}{d:PyData}{xs:List V}{ds:List PyData}:DW H x d→DWs H xs ds→DWs H (x::xs) (d::ds)
end
mutual
def nlD:PyData→Bool
 | .list _=>false
 | .tuple xs=>nlDs xs
 | _=>true
def nlDs:List PyData→Bool
 | []=>true
 | x::xs=>nlD x && nlDs xs
end
section
variable {X:Cx}{pins:List (Addr×Obj)}{σ:St}{H:Hp}{s:Shared}
end
section
variable {X:Cx}
end
section
variable {X:Cx}
end
def Sub (M:Addr→Bool) (H H':Hp):Prop:=∀a o,M a=false→H a=some o→H' a=some o
end L2
namespace L2
open PySem PySem.Spec PyProof.Rows
section
variable {K:PySem.W.Frag}{σ:St}{H:Hp}{Q:VK}
end
section
variable {X:Cx}
end
end L2
namespace L2
open PySem PySem.Spec PyProof.Rows
section
variable {X:Cx}{pins:List (Addr×Obj)}{σ:St}{H:Hp}{s:Shared}{a:Addr}{kvs:List (Key×V)}{k:Key}{u r:Value}{A:Around}{E:Value→Shared→Prop}
end
section
variable {X:Cx}
end
end L2
namespace L2
open PySem PySem.Spec PyProof.Rows
section
variable {X:Cx}{K:PySem.W.Frag}{C:Addr}
end
end L2
namespace PySem
open Sem (wp)
section
variable {prog:Program}{w:World}{A:Around}{E:Value→Shared→Prop}{h:Heap}{g:Array GenState}{d:Drawn}{t:Nat}{os:OsState}
variable {nm q:Str}{C N:Addr}{bs bm bmB:List Value}{hdct:Bool}{sn:List Str}{sub:List Value}{ab:Bool}{col:Option Bool}{dd:Option Addr}{k0 k1 k2 k3 k5:Option Value}{B newId initId:String}
end
end PySem
namespace PySem
open Sem (wp)
open Builtin Builtin.ObjectAttr
inductive TlN (h:Heap) (bmB:List Value) (P:Str→Prop):List Value→Prop
 | base:TlN h bmB P bmB
 | own {A:Addr}{c0:Value}{dd:Option Addr}{cd:ClassData}{sl:Array (Option Value)}{mA:Str→Option Value}{tl:List Value} :
   h.get? A=some { cls:=c0,dict:=dd,data:=.cls cd,slots:=sl }→h.Ns cd.ns mA→(∀n,P n→mA n=none)→TlN h bmB P tl→TlN h bmB P (.ref A::tl)
section
variable {M:Model}{prog:Program}{w:World}{A:Around}{E:Value→Shared→Prop}{h:Heap}{g:Array GenState}{d:Drawn}{t:Nat}{os:OsState}{P:Str→Prop}
variable {nm q:Str}{C N x:Addr}{bs bm bmB:List Value}{hdct:Bool}{sn:List Str}{sub:List Value}{ab:Bool}{col:Option Bool}{dd:Option Addr}{k0 k1 k2 k3 k5:Option Value}{B newId sa owner:String}{mN:Str→Option Value}{name:Str}{v:Value}
end
end PySem
namespace L2
open PySem PySem.Spec PyProof.Rows
section
variable {P:Program}{w:World}{K:PySem.W.Frag}{A:Around}{s:Shared}{k:Nat}{f e C N:Addr}{name qual at_:Str}{params:Arguments}{scope:Scope}{dV kV doc pm cdv ct oc u:Value}{an od:Option Addr}
 {osl:Array (Option Value)}{nm q:Str}{bs bm bmB:List Value}{sn:List Str}{sub:List Value}{ab:Bool}{col:Option Bool}{dd:Option Addr}{k0 k1 k2 k3 k5:Option Value}{B newId sa owner:String}{mN:Str→Option Value}{oe:Obj}{Pn:Str→Prop}{p1 p2 p3 p4:Pos}
end
end L2
namespace PySem
open Sem (wp)
section
variable {M:Model}{prog:Program}{w:World}{A:Around}{E:Value→Shared→Prop}{s:Shared}{env:Env}
variable {nm q:Str}{C N:Addr}{bs bm bmB:List Value}{hdct:Bool}{sn:List Str}{sub:List Value}{ab:Bool}{col:Option Bool}{dd:Option Addr}{k0 k1 k2 k3 k5:Option Value}{B newId initId:String}
end
end PySem
namespace PySem
open Sem (wp)
section
variable {M:Model}{A:Around}{E:Value→Shared→Prop}{s:Shared}
end
end PySem
namespace L2
open PySem PySem.Spec PyProof.Rows
section
variable {X:Cx}{pins:List (Addr×Obj)}{σ:St}{H H':Hp}{s:Shared}{h':Heap}
end
end L2
namespace L2
open PySem PySem.Spec PyProof.Rows
section
variable {P:Program}{w:World}{K:PySem.W.Frag}{mg:Str→Option Value}{base:Heap}{N:List Str}{qual:Str}{scope:Scope}{f:Addr}{cd:Value}{A:Around}{outer:List Env}{s0:Shared}{H00:Hp}{E:XK}
end
end L2
namespace L2
open PySem PySem.Spec PyProof.Rows
section
variable {X:Cx}{E:XK}{C:Addr}{a x:Str}{k:Nat}{arg:Expr}{ta:TA}{np cpos pos:Pos}
end
end L2
namespace PySem
section
variable {M:Model}{A:Around}{E:Value→Shared→Prop}{h:Heap}{g:Array GenState}{d:Drawn}{t:Nat}{os:OsState}
variable {nm q nm' q':Str}{C N C' N' e:Addr}{bs bm bs' bm':List Value}{hdct hdct':Bool}{sn sn':List Str}{sub sub':List Value}{ab ab':Bool}{col col':Option Bool}{dd dd':Option Addr}{k0 k1 k2 k3 k5 k0' k1' k2' k3' k5':Option Value}{newId newId':String}{oe:Obj}
end
end PySem
namespace L2
open PySem PySem.Spec PyProof.Rows
section
variable {X:Cx}{pins:List (Addr×Obj)}{σ:St}{H:Hp}{s:Shared}
def Cx.suite (X:Cx) (e:Addr):Cx:={ X with A:=X.A.mark (some (.ref e)),calm:=false,xe:=fun _ _=>False }
end
end L2
namespace L2
open PySem PySem.Spec PyProof.Rows
section
variable {X:Cx}{pins:List (Addr×Obj)}{σ:St}{H:Hp}{s:Shared}
end
section
variable {X:Cx}{body suite:List Stmt}{b0:Stmt}{np hpos pos:Pos}{xc n:Str}{i:Nat}{C':Addr}{tb:XK→TS}{th:TS}
end
end L2
namespace L2
open PySem PySem.Spec PyProof.Rows
section
variable {X:Cx}{E:XK}{x m:Str}{C:Addr}{ps:List Str}{k:Nat}{sp:Sp}{e o:Expr}{es:List Expr}{t:TA}{ta:TE}{p pos apos:Pos}
end
section
variable {P:Program}{w:World}{K:PySem.W.Frag}{mg:Str→Option Value}{base:Heap}{C:Addr}{x y qual:Str}{st:Stmt}{f:Addr}{fd:FuncData}{N ps:List Str}{k:Nat}{sp:Sp}
end
end L2
namespace L2
open PySem PySem.Spec PyProof.Rows
def nsK (K:PySem.W.Frag) (N:Addr):Bool:=match K.lookup N with
 | some ⟨_,_,.dict es _,_⟩=>es.all (fun e=>match e.key with | .str _ _=>true|_=>false)
 | _=>false
end L2
namespace PySem
open Builtin
section
variable {M:Model}{prog:Program}{w:World}{A:Around}{E:Value→Shared→Prop}{h:Heap}{g:Array GenState}{d:Drawn}{t:Nat}{os:OsState}{P:Str→Prop}
variable {nm q:Str}{C N x D:Addr}{bs bm bmB:List Value}{hdct:Bool}{sn:List Str}{sub:List Value}{ab:Bool}{col:Option Bool}{dd:Option Addr}{k0 k1 k2 k3 k5:Option Value}{B newId:String}{mN mA:Str→Option Value}{name:Str}{v:Value}{vs:Array Value}{sl:Array (Option Value)}{od:Obj}
end
end PySem
namespace L2
open PySem PySem.Spec PyProof.Rows
section
variable {X:Cx}{pins:List (Addr×Obj)}{σ:St}{H:Hp}{s:Shared}{e C:Addr}{a:Str}{v:V}
end
end L2
namespace PySem
open Builtin
section
variable {M:Model}{prog:Program}{w:World}{A:Around}{E:Value→Shared→Prop}{h:Heap}{g:Array GenState}{d:Drawn}{t:Nat}{os:OsState}{P:Str→Prop}
variable {nm q:Str}{C N x D:Addr}{bs bm bmB:List Value}{hdct:Bool}{sn:List Str}{sub:List Value}{ab:Bool}{col:Option Bool}{dd:Option Addr}{k0 k1 k2 k3 k5:Option Value}{B newId:String}{mN:Str→Option Value}{vs:Array Value}{sl:Array (Option Value)}{K:PySem.W.Frag}{od:Obj}
end
end PySem
namespace L2
open PySem PySem.Spec PyProof.Rows
section
variable {X:Cx}
end
end L2
namespace L2
open PySem PySem.Spec PyProof.Rows
section
variable {X:Cx}
end
end L2
namespace L2
open PySem PySem.Spec PyProof.Rows
end L2
namespace L2
open PySem PySem.Spec PyProof.Rows
section
variable {σ:St}{H:Hp}{Q:VK}{D:Ends}
end
end L2
namespace L2
open PySem PySem.Spec PyProof.Rows
end L2
namespace L2
open PySem PySem.Spec PyProof.Rows
section
variable {X:Cx}
end
end L2
namespace L2
open PySem PySem.Spec PyProof.Rows
def gV (u:Value):V:=(absV u).getD .non
section
variable {X:Cx}{pins:List (Addr×Obj)}{σ:St}{H:Hp}{s:Shared}{h':Heap}
variable {A:Around}{E:Value→Shared→Prop}
end
section
variable {X:Cx}{pins:List (Addr×Obj)}{σ:St}{H:Hp}{s:Shared}{E:Value→Shared→Prop}
end
section
variable {X:Cx}{e body:Expr}{t:TA}{te:TE}{k:Nat}{p kpos pos lpos:Pos}{params:Arguments}{scope:Scope}{y:Str}{fs:List Str}{js:List Nat}{P c:Addr}
end
end L2
namespace PySem.SeqAt
open AutoSeq1 (wpAny_loadPart')
open MeetsSeq
end PySem.SeqAt
namespace L2
open PySem PySem.Spec PyProof.Rows
section
variable {X:Cx}
end
end L2
namespace L2
open PySem PySem.Spec PyProof.Rows
section
variable {X:Cx}
end
end L2
namespace L2
open PySem PySem.Spec PyProof.Rows
theorem vals_texts:∀(l:List (Str×Tok)),Vals ((l.map (·.1)).map V.str) (strValues l)
 | []=>.nil
 | (z,t)::r=>.cons ⟨t,rfl⟩ (vals_texts r)
section
variable {X:Cx}
open PySem.Builtin PySem.Builtin.Str in
def rSplit:V→List V→Hp→VK→Prop:=fun x vs H Q=>∃z y,x = .str z∧vs=[.str y]∧(y.length == 0)=false∧z.length+2≤sizeLine∧∀l,H l=none→Q (.ref l) (upd H l (.lst ((Txt.split z y).map V.str)))
open PySem.Builtin PySem.Builtin.Str in
theorem mt_split:MtR X "str.split" rSplit:=by
 intro pins s σ H x xs v us Q I rx rs h
 obtain⟨z,y,rfl,rfl,hy,hz,q⟩:=h
 obtain⟨t,rfl⟩:=rx
 obtain⟨u,rfl,ru⟩:=vals1 rs
 obtain⟨t',rfl⟩:=ru
 have hf:H s.heap.objs.size=none:=I.hok.fresh (Nat.le_refl _)
 have hl:(Txt.split z y).length≤sizeLine:=Nat.le_trans (split_le z y) hz
 have fin:∀(l:List (Str×Tok)) (k:Nat),l.map (·.1)=Txt.split z y→∃x H',Inv X pins σ H' { s with heap:=s.heap.push { cls:=.type "list",data:=.seq (strValues l).toArray },toks:=k }∧RelV x (.ref s.heap.objs.size)∧Q x H':=fun l k e=>by
  refine⟨.ref s.heap.objs.size,_,I.laid (t':=k) (fun b u e=>Heap.get?_push_of_some _ e) (Nat.le_refl _) ?_,rfl,q _ hf⟩
  refine⟨by rw[List.length_map];exact hl,strValues l,0,?_,Heap.get?_push_size _ rfl⟩
  rw[← e];exact vals_texts l
 have hn:(partsBetween z (occurrences z y 0 z.length (z.length+1)) y.length).length≤sizeLine:=by
  have e1:=StrLaws.occ_length_le z y 0 z.length (z.length+1)
  rw[length_partsBetween];omega
 cases h1:(decide (z.length<y.length) || decide (strKind z<strKind y))
 ·cases hf:(occurrences z y 0 z.length (z.length+1)).isEmpty
  ·refine call_meets F.slot_str_split (typeIs_str _ _ _) F.entry_str_split (F.args_str_split_2 _ _) (meets_str_split_sep z y t t' h1 hy hf (by omega) hn) ?_
   show wants _ _ _ { s with toks:=_,heap:=s.heap.push { cls:=.type "list",data:=.seq (strsFrom s.toks (partsBetween z (occurrences z y 0 z.length (z.length+1)) y.length)).toArray } }
   rw[strsFrom_eq]
   exact fin (numbered s.toks _) _ ((numbered_texts _ _).trans ((if_neg (ne_true_of_eq_false h1)).trans (if_neg (ne_true_of_eq_false hf))).symm)
  ·exact call_meets F.slot_str_split (typeIs_str _ _ _) F.entry_str_split (F.args_str_split_2 _ _) (meets_str_split_not_found z y t t' h1 hy hf) (fin [(z,t)] s.toks ((if_neg (ne_true_of_eq_false h1)).trans (if_pos hf)).symm)
 ·exact call_meets F.slot_str_split (typeIs_str _ _ _) F.entry_str_split (F.args_str_split_2 _ _) (meets_str_split_cannot_occur z y t t' h1) (fin [(z,t)] s.toks (if_pos h1).symm)
def rPart:V→List V→Hp→VK→Prop:=fun x vs H Q=>∃z y,x = .str z∧vs=[.str y]∧(y.length == 0)=false∧z.length≤sizeLine∧∀l,H l=none→Q (.ref l) (upd H l (.tup [.str (Txt.partition z y).1,.str (Txt.partition z y).2.1,.str (Txt.partition z y).2.2]))
open PySem.Builtin PySem.Builtin.Str in
theorem mt_part:MtR X "str.partition" rPart:=by
 intro pins s σ H x xs v us Q I rx rs h
 obtain⟨z,y,rfl,rfl,hy,hz,q⟩:=h
 obtain⟨t,rfl⟩:=rx
 obtain⟨u,rfl,ru⟩:=vals1 rs
 obtain⟨t',rfl⟩:=ru
 have hf:H s.heap.objs.size=none:=I.hok.fresh (Nat.le_refl _)
 have fin:∀(ta tb tc:Tok) (k:Nat),∃x H',Inv X pins σ H' { s with heap:=s.heap.push { cls:=.type "tuple",data:=.seq [.str (Txt.partition z y).1 ta,.str (Txt.partition z y).2.1 tb,.str (Txt.partition z y).2.2 tc].toArray },toks:=k }∧RelV x (.ref s.heap.objs.size)∧Q x H':=fun ta tb tc k=>by
  refine⟨.ref s.heap.objs.size,_,I.laid (t':=k) (fun b u e=>Heap.get?_push_of_some _ e) (Nat.le_refl _) ?_,rfl,q _ hf⟩
  exact⟨by show 3≤sizeLine;decide,_,.cons ⟨ta,rfl⟩ (.cons ⟨tb,rfl⟩ (.cons ⟨tc,rfl⟩ .nil)),⟨_,Heap.get?_push_size _ rfl,rfl,_,rfl⟩⟩
 refine call_meets F.slot_str_partition (typeIs_str _ _ _) F.entry_str_partition (F.args_str_partition_2 _ _) (meets_str_partition z y t t' hy hz) ?_
 unfold Txt.partition at fin
 revert fin
 cases occurrences z y 0 z.length 1 with
 | nil=>intro fin;exact fin _ _ _ _
 | cons i r=>intro fin;exact fin _ _ _ _
def rIntS:List V→Hp→VK→Prop:=fun xs H Q=>∃z n,xs=[.str z]∧PySem.intText? z=some n∧z.length≤640∧Q (.int n) H
theorem call_intS:CallR X (.type "int") rIntS:=by
 intro pins s σ H xs us Q I r h
 obtain⟨z,n,rfl,hn,hl,q⟩:=h
 obtain⟨u,rfl,t,rfl⟩:=vals1 r
 exact PySem.W.KIN.call_text hn hl ⟨.int _,H,I.tok _,⟨_,rfl⟩,q⟩
end
def rStrA:List V→Hp→VK→Prop:=fun xs H Q=>∃x z,xs=[x]∧(x = .str z ∨ ∃i:Int,x = .int i∧i.natAbs.log2<1920∧z=Str.ofString (toString i))∧Q (.str z) H
section
variable {X:Cx}
theorem call_strA:CallR X (.type "str") rStrA:=by
 intro pins s σ H xs us Q I r h
 obtain⟨x,z,rfl,hx,q⟩:=h
 obtain⟨u,rfl,ru⟩:=vals1 r
 rcases hx with rfl|⟨i,rfl,hi,rfl⟩
 ·obtain⟨t,rfl⟩:=ru
  exact PySem.P.str_of_str ⟨.str _,H,I,⟨_,rfl⟩,q⟩
 ·obtain⟨t,rfl⟩:=ru
  exact PySem.P.str_of_int hi ⟨.str _,H,I.tok _,⟨_,rfl⟩,q⟩
end
abbrev TF:=St→Hp→Str→VK→Prop
def PF (X:Cx) (es:List Expr) (t:TF):Prop:=∀(pins:List (Addr×Obj)) (s:Shared) (σ:St) (H:Hp) (out:Str) (Q:VK),Inv X pins σ H s→t σ H out Q →
 wpAny (model X.prog X.w) X.A (joinParts out (evalEach es X.env)) (fun v s'=>∃x H',Inv X pins σ H' s'∧RelV x v∧Q x H') X.xe s
def FmtV (x:V) (z:Str):Prop:=(x = .str z∧z.length≤sizeLine) ∨ ∃i:Int,x = .int i∧i.natAbs.log2<1920∧z=Str.ofString (toString i)
def tfNil:TF:=fun _ H out Q=>out.length≤sizeLine∧Q (.str out) H
def tfC (z:Str) (t:TF):TF:=fun σ H out Q=>(out++z).length≤sizeLine∧t σ H (out++z) Q
def tfV (te:TE) (t:TF):TF:=fun σ H out Q=>te σ H fun x H1=>∃z,FmtV x z∧(out++z).length≤sizeLine∧t σ H1 (out++z) Q
def tF (t:TF):TE:=fun σ H Q=>t σ H Str.empty Q
section
variable {X:Cx}{e e1 e2:Expr}{es:List Expr}{te:TE}{t:TF}{pos:Pos}
theorem pf_nil:PF X [] tfNil:=fun pins s σ H out Q I h=>joinParts_nil ⟨.str out,H,I.tok _,⟨_,rfl⟩,h.2⟩ h.1
theorem pf_cons_c {z:Str}{k:Nat}(ht:PF X es t):PF X (.Constant (.str z) k pos::es) (tfC z t):=by
 intro pins s σ H out Q I h
 show wpAny _ _ (joinParts out (eval (.Constant (.str z) k pos) X.env::evalEach es X.env)) _ _ s
 refine joinParts_cons (thn (pe_str (x:=z) (j:=k) (pos:=pos) pins s σ H (fun x H1=>x = .str z∧H1=H) I ⟨rfl,rfl⟩) fun v s1 ⟨x,H1,I1,r1,e1,e2⟩=>?_)
 subst e1 e2
 obtain⟨t',rfl⟩:=r1
 exact⟨h.1,ht pins s1 σ _ _ Q I1 h.2⟩
theorem pf_cons_v (he:PE X e te) (ht:PF X es t):PF X (.FormattedValue e (-1) none pos::es) (tfV te t):=by
 intro pins s σ H out Q I h
 show wpAny _ _ (joinParts out (eval (.FormattedValue e (-1) none pos) X.env::evalEach es X.env)) _ _ s
 refine joinParts_cons (FormattedValue_plain (thn (he pins s σ H _ I h) fun v s1 ⟨x,H1,I1,r1,z,hz,hl,q⟩=>?_))
 rcases hz with⟨rfl,hzl⟩|⟨i,rfl,hi,rfl⟩
 ·obtain⟨t',rfl⟩:=r1
  exact formatField_str (fun t2 tk=>⟨hl,ht pins _ σ _ _ Q (I1.tok _) q⟩) hzl
 ·obtain⟨t',rfl⟩:=r1
  exact formatField_int_small hi ⟨hl,ht pins _ σ _ _ Q (I1.tok _) q⟩
theorem rd_tF {σ:St}{H:Hp}{Q:VK}(h:t σ H Str.empty Q):tF t σ H Q:=h
theorem rd_tfV {σ:St}{H:Hp}{out:Str}{Q:VK}(h:te σ H fun x H1=>∃z,FmtV x z∧(out++z).length≤sizeLine∧t σ H1 (out++z) Q):tfV te t σ H out Q:=h
theorem rd_tfC {z:Str}{σ:St}{H:Hp}{out:Str}{Q:VK}(l:(out++z).length≤sizeLine) (h:t σ H (out++z) Q):tfC z t σ H out Q:=⟨l,h⟩
theorem pe_fstr (h:PF X (e1::e2::es) t):PE X (.JoinedStr (e1::e2::es) pos) (tF t):=fun pins s σ H Q I q=>JoinedStr_many (h pins s σ H _ Q I q)
end
section
variable {prog:Program}{w:World}{A:Around}{E:Value→Shared→Prop}{s:Shared}
theorem draw_list {it t:Addr}{items:Array Value}(hne:t≠it):∀(n i:Nat) (s:Shared) (Q:List Value→Shared→Prop),s.heap.IsListIter it t i→s.heap.IsList t items→i+n≤items.size →
  (∀h',h'.IsListIter it t (i+n)→Heap.SameBut it s.heap h'→Q ((items.toList.drop i).take n) { s with heap:=h' })→wpAny (model prog w) A (draw (.ref it) n) Q E s
 | 0,i,s,Q,hit,_,_,hQ=>by
  show wpAny _ _ (pure []) Q E s
  exact wpAny_pure (by simpa using hQ s.heap hit (Heap.SameBut.refl ..))
 | n+1,i,s,Q,hit,ht,hle,hQ=>by
  have hlt:i<items.size:=by omega
  show wpAny _ _ (pyNext (.ref it) >>= _) Q E s
  refine wpAny_bind (wpAny_pyNext_list_item hit ht (x:=items[i]) (by simp[hlt]) fun h₁ hit₁ hs₁=>?_)
  refine wpAny_bind (wpAny_holding (draw_list hne n (i+1) _ _ hit₁ (ht.extBut hs₁.extBut hne) (by omega) fun h₂ hit₂ hs₂=>wpAny_pure ?_))
  have hd:items.toList.drop i=items[i]::items.toList.drop (i+1):=by simp[List.drop_eq_getElem_cons,hlt]
  have:=hQ h₂ (by rw[show i+(n+1)=i+1+n by omega];exact hit₂) (hs₁.trans hs₂)
  rw[hd,List.take_succ_cons]at this
  exact this
theorem unpackItems_list {t:Addr}{items:Array Value}{Q:List Value→Shared→Prop}(hh:A.handled=none) (ht:s.heap.IsList t items)
  (hQ:∀h',Heap.ExtBut s.heap.objs.size s.heap h'→Q items.toList { s with heap:=h' }):wpAny (model prog w) A (unpackItems (.ref t) items.size none) Q E s:=by
 have hlt:t≠s.heap.objs.size:=by obtain⟨o,ho,_⟩:=ht;exact Nat.ne_of_lt (Heap.lt_size ho)
 unfold unpackItems
 refine wpAny_bind ?_
 unfold notIterableAtAll
 refine wpAny_bind (wpAny_specialOf ht.typeIs slot_list_iter.lookup ?_)
 refine wpAny_pure ?_
 simp only[Bool.false_eq_true,if_false]
 refine wpAny_bind (wpAny_holding (wpAny_pyIter_list ht ?_))
 have htp:(s.heap.push { cls:=.type "list_iterator",data:=.fields #[.ref t,.int 0 0] }).IsList t items:=by
  obtain⟨o,ho,r⟩:=ht
  exact⟨o,Heap.get?_push_of_some _ ho,r⟩
 refine wpAny_bind (wpAny_holding (draw_list hlt items.size 0 _ _ ⟨_,Heap.get?_push_size _ rfl,rfl,rfl⟩ htp (by omega) fun h₁ hit₁ hs₁=>?_))
 have hall:List.take items.size (List.drop 0 items.toList)=items.toList:=by
  rw[List.drop_zero];exact List.take_of_length_le (by simp)
 rw[hall]
 rw[if_neg (by simp)]
 have ht₁:h₁.IsList t items:=htp.extBut hs₁.extBut hlt
 refine wpAny_bind (wpAny_holding (wpAny_pyNext_list_end hh hit₁ ht₁ (by simp) fun h₂ he₂=>?_))
 simp only[Option.isSome_none,Bool.false_eq_true,if_false]
 refine wpAny_pure (hQ h₂ fun b o hb e=>he₂ b o hb (hs₁.extBut b o hb (Heap.get?_push_of_some _ e)))
theorem walk_from (hh:A.handled=none) (I ax:Addr) (hne:ax≠I) (items:Array Value) (i:Nat) (hi:i≤items.size) :
  Walks prog w A I [I,ax] [I] (items.size-i) (fun j v=>items[i+j]? = some v) (fun j h=>h.IsListIter I ax (i+j)∧h.IsList ax items) where
 sub:=fun b hb=>by simp at hb;simp[hb]
 frame:=fun _ _ _ st hk=>⟨st.1.at fun o e=>hk I (by simp) o e,st.2.at fun o e=>hk ax (by simp) o e⟩
 item:=fun j s Q E hj st hQ=>(Walks.list hh I ax hne items).item (i+j) s Q E (by omega) st fun v h' tk p st' k=>hQ v h' tk p st' k
 done:=fun s Q E st hQ=>(Walks.list hh I ax hne items).done s Q E (by have:=st;rw[show i+(items.size-i)=items.size by omega]at this;exact this) hQ
 self:=fun j s Q E st hQ=>(Walks.list hh I ax hne items).self (i+j) s Q E st hQ
theorem unpackItems_star {t:Addr}{items:Array Value}{n:Nat}{Q:List Value→Shared→Prop}(hh:A.handled=none) (ht:s.heap.IsList t items) (hn:n≤items.size) (hz:items.size≤sizeLine)
  (hQ:∀(h':Heap) (tk:Nat) (s':Shared),(∀b o,s.heap.get? b=some o→h'.get? b=some o)→s' = { s with heap:=h'.push { cls:=.type "list",data:=.seq (items.toList.drop n).toArray },toks:=tk }→Q (items.toList.take n ++ [.ref h'.objs.size]) s'):wpAny (model prog w) A (unpackItems (.ref t) (n+1) (some n)) Q E s:=by
 have hlt:t≠s.heap.objs.size:=by obtain⟨o,ho,_⟩:=ht;exact Nat.ne_of_lt (Heap.lt_size ho)
 unfold unpackItems
 refine wpAny_bind ?_
 unfold notIterableAtAll
 refine wpAny_bind (wpAny_specialOf ht.typeIs slot_list_iter.lookup ?_)
 refine wpAny_pure ?_
 simp only[Bool.false_eq_true,if_false]
 refine wpAny_bind (wpAny_holding (wpAny_pyIter_list ht ?_))
 have htp:(s.heap.push { cls:=.type "list_iterator",data:=.fields #[.ref t,.int 0 0] }).IsList t items:=by
  obtain⟨o,ho,r⟩:=ht
  exact⟨o,Heap.get?_push_of_some _ ho,r⟩
 refine wpAny_bind (wpAny_holding (draw_list hlt n 0 _ _ ⟨_,Heap.get?_push_size _ rfl,rfl,rfl⟩ htp (by omega) fun h₁ hit₁ hs₁=>?_))
 have hfl:(List.take n (List.drop 0 items.toList)).length=n:=by
  rw[List.drop_zero,List.length_take,Array.length_toList];omega
 rw[if_neg (by rw[hfl];omega)]
 have ht₁:h₁.IsList t items:=htp.extBut hs₁.extBut hlt
 have k1:∀b o,s.heap.get? b=some o→h₁.get? b=some o:=fun b o e=>hs₁.extBut b o (Nat.ne_of_lt (Heap.lt_size e)) (Heap.get?_push_of_some _ e)
 have hit2:h₁.IsListIter s.heap.objs.size t (n+0):=by rw[Nat.add_zero];rw[Nat.zero_add]at hit₁;exact hit₁
 refine wpAny_bind (wpAny_holding ?_)
 refine wpAny_collect_iter (T := "list_iterator") (.inr (.inr (.inl rfl))) (walk_from (A:=A.in1) hh s.heap.objs.size t hlt items n hn).toS (fun _ _ st=>st.1.typeIs) ⟨hit2,ht₁⟩ ?_ (by simp) (fun s' acc hm ha=>?_) (by omega)
 ·intro b hb
  simp only[List.mem_cons,List.not_mem_nil,or_false]at hb
  rcases hb with rfl|rfl
  ·obtain⟨o,ho,_⟩:=hit2;exact Heap.lt_size ho
  ·obtain⟨o,ho,_⟩:=ht₁;exact Heap.lt_size ho
 have e:acc.toList=items.toList.drop n:=by
  refine List.ext_getElem? fun j=>?_
  rw[List.getElem?_drop,Array.getElem?_toList,Array.getElem?_toList]
  cases c:acc[j]? with
  | some v=>exact(ha.2 j v c).symm
  | none =>
   have:=Array.getElem?_eq_none_iff.mp c
   rw[ha.1]at this
   exact(Array.getElem?_eq_none_iff.mpr (by omega)).symm
 rw[if_neg (by omega)]
 have t0:acc.toList.length-(n+1-1-n)=acc.toList.length:=by omega
 rw[t0,List.take_length,List.drop_length,e]
 have kk:∀b o,s.heap.get? b=some o→s'.heap.get? b=some o:=fun b o h=>hm.heap b o (fun z=>Nat.ne_of_lt (Heap.lt_size h) (by simpa using z)) (k1 b o h)
 have hsz:(items.toList.drop n).toArray.size≤sizeLine:=by simp;omega
 refine wpAny_bind (wpAny_newObj_type ?_ (show(items.toList.drop n).toArray.size≤sizeLine from hsz))
 refine wpAny_pure ?_
 rw[List.append_nil,List.drop_zero]
 obtain⟨hp,g,d,tk,os⟩:=s'
 have hg:=hm.gens
 have hd:=hm.drawn
 have ho:=hm.os
 simp only at hg hd ho kk
 subst hg hd ho
 exact hQ hp tk _ kk rfl
end
section
variable {X:Cx}{pos:Pos}
def gTupL (K:PySem.W.Frag) (n:Nat) (t:TGs):TG:=fun v σ H Q=>∃a xs,v = .ref a∧SqL K H a xs∧xs.length=n∧t xs σ H Q
theorem pg_tupL {es:List Expr}{k:Nat}{t:TGs}{n:Nat}(hc:X.calm=true) (h:PGs X es t)
  (hn:(assignEach es X.env).length=n:=by rfl) (hst:(assignEach es X.env).findIdx? (·.1)=none:=by rfl):PG X (.Tuple es k pos) (gTupL X.K n t):=by
 intro pins s σ H v u Q I r hw
 obtain⟨a,xs,e1,hq,hl,hw⟩:=hw
 subst e1
 cases r
 obtain⟨its,rv,pl,hz⟩:=I.list hq
 rw[assign_Tuple]
 refine wpAny_bind (wpAny_standAt ?_)
 unfold unpack
 have hs:(assignEach es X.env).length=its.toArray.size:=by rw[hn,← hl,rv.length];simp
 rw[hs,hst]
 refine wpAny_bind (wpAny_holding (unpackItems_list (I.ok.hd hc) pl.isList fun h' hx=>?_))
 have I1:Inv X pins σ H { s with heap:=h' }:=I.kept (t':=s.toks) fun b o e=>hx b o (Nat.ne_of_lt (Heap.lt_size e)) e
 exact h pins _ σ H xs _ Q I1 (by simpa using rv) hw
def gStar (K:PySem.W.Frag) (n:Nat) (t:TGs):TG:=fun v σ H Q=>∃a xs,v = .ref a∧SqL K H a xs∧n≤xs.length∧∀l,H l=none→t (xs.take n ++ [.ref l]) σ (upd H l (.lst (xs.drop n))) Q
theorem pg_star {es:List Expr}{k:Nat}{t:TGs}{n:Nat}(hc:X.calm=true) (h:PGs X es t)
  (hn:(assignEach es X.env).length=n+1:=by rfl) (hst:(assignEach es X.env).findIdx? (·.1)=some n:=by rfl):PG X (.Tuple es k pos) (gStar X.K n t):=by
 intro pins s σ H v u Q I r hw
 obtain⟨a,xs,e1,hq,hl,hw⟩:=hw
 subst e1
 cases r
 obtain⟨its,rv,pl,hz⟩:=I.list hq
 have il:=rv.length
 rw[assign_Tuple]
 refine wpAny_bind (wpAny_standAt ?_)
 unfold unpack
 rw[hn,hst]
 refine wpAny_bind (wpAny_holding (unpackItems_star (I.ok.hd hc) pl.isList (by simp;omega) (by simp;omega) fun h' tk s' kk e=>?_))
 subst e
 have I1:Inv X pins σ H { s with heap:=h',toks:=tk }:=I.kept (t':=tk) kk
 have hf:H h'.objs.size=none:=I1.hok.fresh (Nat.le_refl _)
 have I2:Inv X pins σ (upd H h'.objs.size (.lst (xs.drop n))) { s with heap:=h'.push { cls:=.type "list",data:=.seq (its.drop n).toArray },toks:=tk }:=by
  refine I1.laid (t':=tk) (fun b u e=>Heap.get?_push_of_some _ e) (Nat.le_refl _) ?_
  exact⟨by rw[List.length_drop];omega,its.drop n,0,rv.drop n,Heap.get?_push_size _ rfl⟩
 refine h pins _ σ _ _ _ Q I2 ?_ (hw _ hf)
 exact(rv.take n).append (.cons rfl .nil)
theorem pgs_star {e:Expr}{es:List Expr}{p:Pos}{t:TG}{u:TGs}(h1:PG X e t) (h2:PGs X es u)
  (hs:(assignEach (.Starred e p::es) X.env).map (·.2)=assign e X.env::(assignEach es X.env).map (·.2):=by rfl):PGs X (.Starred e p::es) (gCons t u):=by
 intro pins s σ H vs us Q I r h
 obtain⟨v,vr,e1,h⟩:=h
 subst e1
 cases r with
 | cons r rr =>
  rw[hs]
  refine assignInOrder_cons (thn (h1 pins s σ H _ _ _ I r h) fun _ s1 ⟨σ1,H1,I1,q1⟩=>?_)
  exact h2 pins s1 σ1 H1 _ _ Q I1 rr q1
end
end L2
namespace L2
open PySem PySem.Spec PyProof.Rows
section
variable {prog:Program}{w:World}{A:Around}{E:Value→Shared→Prop}{s:Shared}
structure Nx (prog:Program) (w:World) (A:Around) (i:Addr) (own:List Addr) (S:Nat→Heap→Prop) (val:Nat→Option Value):Prop where
 one:∀{k:Nat}{x:Value}{s:Shared}{E:Value→Shared→Prop}{Q:Value→Shared→Prop},S k s.heap→val k=some x→(∀g,S (k+1) g→Heap.SameBut i s.heap g→Q x { s with heap:=g })→wpAny (model prog w) A (Builtin.SmallTypes.nextOf (.ref i)) Q E s
 fin:∀{k:Nat}{s:Shared}{E:Value→Shared→Prop}{Q:Value→Shared→Prop},S k s.heap→val k=none→(∀g e,Heap.ExtBut i s.heap g→(∃o,g.get? e=some o∧o.cls = .type "StopIteration")→E (.ref e) { s with heap:=g })→wpAny (model prog w) A (Builtin.SmallTypes.nextOf (.ref i)) Q E s
 far:∀{k:Nat}{g g':Heap},S k g→(∀b∈own,∀o,g.get? b=some o→g'.get? b=some o)→S k g'
theorem Nx.tup (hh:A.handled=none) (i l:Addr) (ne:l≠i) (items:Array Value):Nx prog w A i [i,l] (fun k g=>IsTupIter g i l k∧IsTup g l items) (fun k=>items[k]?) where
 far:=fun st q=>by
  obtain⟨⟨o,ho,r⟩,⟨o2,ho2,r2⟩⟩:=st
  exact⟨⟨o,q i (by simp) o ho,r⟩,⟨o2,q l (by simp) o2 ho2,r2⟩⟩
 one:=by
  intro k x s E Q st hv hQ
  obtain⟨⟨o,ho,hc,hd⟩,⟨o2,ho2,hc2,n2,hd2⟩⟩:=id st
  unfold Builtin.SmallTypes.nextOf
  refine wpAny_bind (wpAny_callSpecial?_slot (name:=Str.ofString "__next__") st.1.typeIs slot_tupleiter_next (wpAny_call_entry slot_tupleiter_next st.1.typeIs entry_tupleiter_next ?_ (args_tupleiter_next _)))
  show wpAny _ _ (field (.ref i) 0 >>= _) _ _ s
  refine wpAny_bind (wpAny_field ho hd (x:=.ref l) rfl ?_)
  show wpAny _ _ (if (Value.ref l == Value.none)=true then _ else _) _ _ s
  rw[if_neg (by exact Bool.false_ne_true)]
  show wpAny _ _ (field (.ref i) 1 >>= _) _ _ s
  refine wpAny_bind (wpAny_field ho hd (x:=.int k 0) rfl ?_)
  show wpAny _ _ (seqItems? (.ref l) >>= _) _ _ s
  refine wpAny_bind (wpAny_seqItems ho2 hd2 ?_)
  simp only[Int.toNat_natCast,hv]
  have up:∀g,Heap.SameBut i s.heap g→IsTup g l items:=fun g sb=>⟨o2,sb.extBut _ _ ne ho2,hc2,n2,hd2⟩
  refine wpAny_bind (wpAny_setField ho hd (by simp) (wpAny_pure ⟨x,rfl,wpAny_pure (hQ _ ⟨?_,up _ (Heap.SameBut.update ..)⟩ (Heap.SameBut.update ..))⟩))
  exact⟨_,Heap.get?_update_self _ ho (Obj.isFreed_of_fields (Obj.data_mapFields hd _)),(Obj.cls_mapFields ..).trans hc,by rw[Obj.data_mapFields hd];simp[rawInt]⟩
 fin:=by
  intro k s E Q st hv hE
  obtain⟨⟨o,ho,hc,hd⟩,⟨o2,ho2,hc2,n2,hd2⟩⟩:=id st
  unfold Builtin.SmallTypes.nextOf
  refine wpAny_bind (wpAny_callSpecial?_slot (name:=Str.ofString "__next__") st.1.typeIs slot_tupleiter_next (wpAny_call_entry slot_tupleiter_next st.1.typeIs entry_tupleiter_next ?_ (args_tupleiter_next _)))
  show wpAny _ _ (field (.ref i) 0 >>= _) _ _ s
  refine wpAny_bind (wpAny_field ho hd (x:=.ref l) rfl ?_)
  show wpAny _ _ (if (Value.ref l == Value.none)=true then _ else _) _ _ s
  rw[if_neg (by exact Bool.false_ne_true)]
  show wpAny _ _ (field (.ref i) 1 >>= _) _ _ s
  refine wpAny_bind (wpAny_field ho hd (x:=.int k 0) rfl ?_)
  show wpAny _ _ (seqItems? (.ref l) >>= _) _ _ s
  refine wpAny_bind (wpAny_seqItems ho2 hd2 ?_)
  simp only[Int.toNat_natCast,hv]
  refine wpAny_bind (wpAny_rule (wpAny_bind (wpAny_setField ho hd (by simp) ?_)))
  show wpAny _ _ (newExc (.type "StopIteration") [] >>= _) _ _ _
  refine wpAny_bind ?_
  simp only[newExc,newTuple]
  refine wpAny_bind (wpAny_newObj_type ?_ (by size_fits))
  refine wpAny_bind (m:=firstArgMember _ _) (wpAny_of_eq (a:=Value.none) (by first|rfl|(simp only[firstArgMember];rfl)) ?_)
  refine wpAny_newObj_type ?_ (by size_fits)
  simp only[raiseNew]
  refine wpAny_bind (wpAny_handled ?_)
  first|rw[show A.in1.handled=none from hh] | rw[hh]
  refine wpAny_bind (wpAny_pure (wpAny_throw ?_))
  exact hE _ _ (((Heap.SameBut.update ..).extBut.push _).push _) ⟨_,Heap.get?_push_size _ rfl,rfl⟩
structure ZA (z TI TO i1 i2:Addr) (o1 o2:List Addr):Prop where
 nd:[z,TI,TO,i1,i2].Nodup
 a1:∀b∈o1,b≠z∧b≠TO∧b≠i2
 a2:∀b∈o2,b≠z∧b≠TO∧b≠i1
section
variable {z TI TO i1 i2:Addr}{o1 o2:List Addr}{S1 S2:Nat→Heap→Prop}{v1 v2:Nat→Option Value}{k:Nat}
theorem ZA.ne (D:ZA z TI TO i1 i2 o1 o2):(TI≠z∧TO≠z∧i1≠z∧i2≠z)∧(TI≠TO∧TI≠i1∧TI≠i2)∧(TO≠i1∧TO≠i2)∧i1≠i2:=by
 have:=D.nd
 simp only[List.nodup_cons,List.mem_cons,List.not_mem_nil,or_false,not_or]at this
 obtain⟨⟨a,b,c,d⟩,⟨e,f,g⟩,⟨h,i⟩,j,_⟩:=this
 exact⟨⟨Ne.symm a,Ne.symm b,Ne.symm c,Ne.symm d⟩,⟨e,f,g⟩,⟨h,i⟩,j⟩
theorem zipG_one (D:ZA z TI TO i1 i2 o1 o2) (N1:Nx prog w A i1 o1 S1 v1) (N2:Nx prog w A i2 o2 S2 v2) {x y a b:Value}{Q:Value→Shared→Prop}
  (hz:IsZip s.heap z TI TO .none) (hTI:IsPair s.heap TI (.ref i1) (.ref i2)) (hTO:IsPair s.heap TO a b) (c1:S1 k s.heap) (c2:S2 k s.heap) (e1:v1 k=some x) (e2:v2 k=some y)
  (hQ:∀g,IsZip g z TI TO (rawInt s.heap.objs.size)→IsPair g TO x y→S1 (k+1) g→S2 (k+1) g→IsPair g s.heap.objs.size x y→g.objs.size=s.heap.objs.size+1→(∀c o,c ∉ [z,TO,i1,i2]→s.heap.get? c=some o→g.get? c=some o)→Q (.ref s.heap.objs.size) { s with heap:=g }) :
  wpAny (model prog w) A (Builtin.«zip.__next__» ⟨[.ref z],[]⟩) (fun fin s'=>∃v,fin = .done (.ret v)∧Q v s') E s:=by
 obtain⟨⟨n1,n2,n3,n4⟩,⟨n5,n6,n7⟩,⟨n8,n9⟩,n10⟩:=D.ne
 show wpAny _ _ (field (.ref z) 2 >>= _) _ _ _
 refine wpAny_bind (wpAny_field hz rfl (x:=.bool false) rfl ?_)
 show wpAny _ _ (field (.ref z) 3 >>= _) _ _ _
 refine wpAny_bind (wpAny_field hz rfl (x:=.ref TI) rfl (wpAny_bind (wpAny_seqItems hTI rfl ?_)))
 show wpAny _ _ (Builtin.SmallTypes.ownedTupleIsFree (.ref z) >>= _) _ _ _
 refine wpAny_bind ?_
 unfold Builtin.SmallTypes.ownedTupleIsFree
 refine wpAny_bind (wpAny_field hz rfl (x:=.none) rfl (wpAny_pure ?_))
 simp only[if_true]
 refine wpAny_bind (wpAny_rule (wpAny_bind (wpAny_field hz rfl (x:=.ref TO) rfl (wpAny_bind (wpAny_setField_rec hz (by simp) fun g1 (z1:IsZip g1 z TI TO .ellipsis) b1=>wpAny_bind ?_)))))
 simp only[List.zipIdx_cons,List.zipIdx_nil,List.forIn_cons,List.forIn_nil]
 refine wpAny_bind (wpAny_bind (wpAny_onRaise ?_))
 show wpAny _ _ (Builtin.SmallTypes.nextOf (.ref i1) >>= _) _ _ _
 refine wpAny_bind (N1.one (N1.far c1 fun q hq o e=>b1.extBut _ _ (D.a1 q hq).1 e) e1 fun g2 t2 b2=>wpAny_pure ?_)
 have T2:IsPair g2 TO a b:=b2.extBut _ _ n8 (b1.extBut _ _ n2 hTO)
 refine wpAny_bind (wpAny_seqItems T2 rfl (wpAny_bind (wpAny_updateSeq_pair T2 fun g3 (T3:IsPair g3 TO x b) b3=>wpAny_bind (wpAny_letGo (wpAny_pure ?_)))))
 refine wpAny_bind (wpAny_bind (wpAny_onRaise ?_))
 show wpAny _ _ (Builtin.SmallTypes.nextOf (.ref i2) >>= _) _ _ _
 refine wpAny_bind (N2.one (N2.far c2 fun q hq o e=>b3.extBut _ _ (D.a2 q hq).2.1 (b2.extBut _ _ (D.a2 q hq).2.2 (b1.extBut _ _ (D.a2 q hq).1 e))) e2 fun g4 t4 b4=>wpAny_pure ?_)
 have T4:IsPair g4 TO x b:=b4.extBut _ _ n9 T3
 refine wpAny_bind (wpAny_seqItems T4 rfl (wpAny_bind (wpAny_updateSeq_pair T4 fun g5 (T5:IsPair g5 TO x y) b5=>wpAny_bind (wpAny_letGo (wpAny_pure (wpAny_pure ?_))))))
 refine wpAny_bind (wpAny_seqItems T5 rfl (wpAny_bind (wpAny_newTuple ?_)))
 have sz:g5.objs.size=s.heap.objs.size:=by rw[b5.1,b4.1,b3.1,b2.1,b1.1]
 have z5:IsZip g5 z TI TO .ellipsis:=b5.extBut _ _ n2.symm (b4.extBut _ _ n4.symm (b3.extBut _ _ n2.symm (b2.extBut _ _ n3.symm z1)))
 have lz:z<g5.objs.size:=Heap.lt_size z5
 show wpAny _ _ (Builtin.SmallTypes.ownedTupleHandOut (.ref z) (.ref g5.objs.size) >>= _) _ _ _
 refine wpAny_bind ?_
 unfold Builtin.SmallTypes.ownedTupleHandOut
 have z6:IsZip (g5.push { cls:=.type "tuple",data:=.seq #[x,y] }) z TI TO .ellipsis:=Heap.get?_push_of_some _ z5
 refine wpAny_bind (wpAny_setField_rec z6 (by simp) fun g7 (z7:IsZip g7 z TI TO (rawInt g5.objs.size)) b7=>?_)
 refine wpAny_setField_rec z7 (by simp) fun g8 (z8:IsZip g8 z TI TO (rawInt g5.objs.size)) b8=>?_
 have up:∀c o,c≠z→g5.get? c=some o→g8.get? c=some o:=fun c o q e=>b8.extBut _ _ q (b7.extBut _ _ q (Heap.get?_push_of_some _ e))
 have T8:IsPair g8 g5.objs.size x y:=b8.extBut _ _ (Nat.ne_of_gt lz) (b7.extBut _ _ (Nat.ne_of_gt lz) (Heap.get?_push_size _ rfl))
 have s8:g8.objs.size=g5.objs.size+1:=by rw[b8.1,b7.1,Heap.size_push]
 rw[sz]at z8 T8 s8
 refine wpAny_pure ⟨_,rfl,?_⟩
 show Q (.ref g5.objs.size) _
 rw[sz]
 refine hQ g8 z8 (up _ _ n2 T5) (N1.far t2 fun q hq o e=>?_) (N2.far t4 fun q hq o e=>?_) T8 s8 fun c o nc e=>?_
 ·obtain⟨q1,q2,q3⟩:=D.a1 q hq
  exact up _ _ q1 (b5.extBut _ _ q2 (b4.extBut _ _ q3 (b3.extBut _ _ q2 e)))
 ·obtain⟨q1,q2,q3⟩:=D.a2 q hq
  exact up _ _ q1 (b5.extBut _ _ q2 e)
 ·simp only[List.mem_cons,List.not_mem_nil,or_false,not_or]at nc
  obtain⟨m1,m2,m3,m4⟩:=nc
  exact up _ _ m1 (b5.extBut _ _ m2 (b4.extBut _ _ m4 (b3.extBut _ _ m2 (b2.extBut _ _ m3 (b1.extBut _ _ m1 e)))))
theorem zipG_fin (D:ZA z TI TO i1 i2 o1 o2) (N1:Nx prog w A i1 o1 S1 v1) {a b:Value}{Q:Fin→Shared→Prop}
  (hz:IsZip s.heap z TI TO .none) (hTI:IsPair s.heap TI (.ref i1) (.ref i2)) (hTO:IsPair s.heap TO a b) (c1:S1 k s.heap) (e1:v1 k=none)
  (hE:∀g e,(∀c o,c ∉ [z,TO,i1,i2]→s.heap.get? c=some o→g.get? c=some o)→(∃o,g.get? e=some o∧o.cls = .type "StopIteration")→E (.ref e) { s with heap:=g }) :
  wpAny (model prog w) A (Builtin.«zip.__next__» ⟨[.ref z],[]⟩) Q E s:=by
 obtain⟨⟨n1,n2,n3,n4⟩,⟨n5,n6,n7⟩,⟨n8,n9⟩,n10⟩:=D.ne
 show wpAny _ _ (field (.ref z) 2 >>= _) _ _ _
 refine wpAny_bind (wpAny_field hz rfl (x:=.bool false) rfl ?_)
 show wpAny _ _ (field (.ref z) 3 >>= _) _ _ _
 refine wpAny_bind (wpAny_field hz rfl (x:=.ref TI) rfl (wpAny_bind (wpAny_seqItems hTI rfl ?_)))
 show wpAny _ _ (Builtin.SmallTypes.ownedTupleIsFree (.ref z) >>= _) _ _ _
 refine wpAny_bind ?_
 unfold Builtin.SmallTypes.ownedTupleIsFree
 refine wpAny_bind (wpAny_field hz rfl (x:=.none) rfl (wpAny_pure ?_))
 simp only[if_true]
 refine wpAny_bind (wpAny_rule (wpAny_bind (wpAny_field hz rfl (x:=.ref TO) rfl (wpAny_bind (wpAny_setField_rec hz (by simp) fun g1 (z1:IsZip g1 z TI TO .ellipsis) b1=>wpAny_bind ?_)))))
 simp only[List.zipIdx_cons,List.zipIdx_nil,List.forIn_cons,List.forIn_nil]
 refine wpAny_bind (wpAny_bind (wpAny_onRaise ?_))
 show wpAny _ _ (Builtin.SmallTypes.nextOf (.ref i1) >>= _) _ _ _
 refine wpAny_bind (N1.fin (N1.far c1 fun q hq o e=>b1.extBut _ _ (D.a1 q hq).1 e) e1 fun g2 e b2 he=>?_)
 obtain⟨oe,hoe,hce⟩:=he
 have z2:IsZip g2 z TI TO .ellipsis:=b2 _ _ n3.symm z1
 have hez:e≠z:=fun q=>by subst q;rw[z2]at hoe;cases hoe;simp at hce
 refine wpAny_setField_rec z2 (by simp) fun g3 _ b3=>hE g3 e (fun c o nc q=>?_) ⟨oe,b3.extBut _ _ hez hoe,hce⟩
 simp only[List.mem_cons,List.not_mem_nil,or_false,not_or]at nc
 exact b3.extBut _ _ nc.1 (b2 _ _ nc.2.2.1 (b1.extBut _ _ nc.1 q))
theorem nextZ_one (D:ZA z TI TO i1 i2 o1 o2) (N1:Nx prog w A.in1 i1 o1 S1 v1) (N2:Nx prog w A.in1 i2 o2 S2 v2) {x y a b:Value}{Q:Option Value→Shared→Prop}
  (hz:IsZip s.heap z TI TO .none) (hTI:IsPair s.heap TI (.ref i1) (.ref i2)) (hTO:IsPair s.heap TO a b) (c1:S1 k s.heap) (c2:S2 k s.heap) (e1:v1 k=some x) (e2:v2 k=some y)
  (hQ:∀g,IsZip g z TI TO (rawInt s.heap.objs.size)→IsPair g TO x y→S1 (k+1) g→S2 (k+1) g→IsPair g s.heap.objs.size x y→g.objs.size=s.heap.objs.size+1→(∀c o,c ∉ [z,TO,i1,i2]→s.heap.get? c=some o→g.get? c=some o)→Q (some (.ref s.heap.objs.size)) { s with heap:=g }) :
  wpAny (model prog w) A (pyNext (.ref z)) Q E s:=by
 have ty:s.TypeIs (.ref z) "zip" :=⟨_,hz,rfl⟩
 unfold pyNext
 exact wpAny_bind (wpAny_attempt (wpAny_callSpecial?_slot (name:=Str.ofString "__next__") ty F.slot_zip_next (wpAny_call_entry F.slot_zip_next ty F.entry_zip_next (zipG_one D N1 N2 hz hTI hTO c1 c2 e1 e2 fun g q1 q2 q3 q4 q5 q6 q7=>wpAny_pure (hQ g q1 q2 q3 q4 q5 q6 q7)) (F.args_zip_next_1 _))))
theorem nextZ_fin (D:ZA z TI TO i1 i2 o1 o2) (N1:Nx prog w A.in1 i1 o1 S1 v1) {a b:Value}{Q:Option Value→Shared→Prop}
  (hz:IsZip s.heap z TI TO .none) (hTI:IsPair s.heap TI (.ref i1) (.ref i2)) (hTO:IsPair s.heap TO a b) (c1:S1 k s.heap) (e1:v1 k=none)
  (hQ:∀g,(∀c o,c ∉ [z,TO,i1,i2]→s.heap.get? c=some o→g.get? c=some o)→Q none { s with heap:=g }):wpAny (model prog w) A (pyNext (.ref z)) Q E s:=by
 have ty:s.TypeIs (.ref z) "zip" :=⟨_,hz,rfl⟩
 unfold pyNext
 refine wpAny_bind (wpAny_attempt (wpAny_callSpecial?_slot (name:=Str.ofString "__next__") ty F.slot_zip_next (wpAny_call_entry F.slot_zip_next ty F.entry_zip_next (zipG_fin D N1 hz hTI hTO c1 e1 fun g e q1 q2=>?_) (F.args_zip_next_1 _))))
 obtain⟨o,ho,hc⟩:=q2
 exact wpAny_bind (wpAny_isInstance (T := "StopIteration") (b:=true) ⟨o,ho,hc⟩ isSubtype_stop (wpAny_pure (hQ _ q1)))
end
def zt1 (h:Heap) (a:Addr):Heap:=h.push { cls:=.type "tuple_iterator",data:=.fields #[.ref a,.int 0 0] }
def zt2 (h:Heap) (a b:Addr):Heap:=(zt1 h a).push { cls:=.type "tuple_iterator",data:=.fields #[.ref b,.int 0 0] }
def zt3 (h:Heap) (a b:Addr):Heap:=(zt2 h a b).push { cls:=.type "tuple",data:=.seq #[.ref h.objs.size,.ref (zt1 h a).objs.size] }
def zt4 (h:Heap) (a b:Addr):Heap:=(zt3 h a b).push { cls:=.type "tuple",data:=.seq #[.none,.none] }
def zt5 (h:Heap) (a b:Addr):Heap:=(zt4 h a b).push { cls:=.type "zip",data:=.fields #[.none,.bool false,.bool false,.ref (zt2 h a b).objs.size,.ref (zt3 h a b).objs.size] }
theorem zipT_new (a b:Addr) (xs ys:Array Value):Meets (Builtin.«zip.__new__» ⟨[.type "zip",.ref a,.ref b],[]⟩) (fun _ R s=>IsTup s.heap a xs∧IsTup s.heap b ys∧R (.ok (.ret (.ref (zt4 s.heap a b).objs.size))) { s with heap:=zt5 s.heap a b }) :=
 .of_wp fun prog w A R s h=>by
  obtain⟨hp,g,d,tk,os⟩:=s
  obtain⟨ta,tb,h⟩:=h
  have hsub:=sub_zip
  have L1:IsTup (Shared.heap ⟨hp,g,d,tk,os⟩) a xs:=ta
  have L2':IsTup (Shared.heap ⟨hp.push { cls:=.type "tuple_iterator",data:=.fields #[.ref a,.int 0 0] },g,d,tk,os⟩) b ys:=IsTup.push tb _
  wp_walk using iter_tuple L1,iter_tuple L2'
  exact⟨_,rfl,h⟩
theorem call_zipT {a b:Addr}{xs ys:Array Value}{Q:Value→Shared→Prop}(ta:IsTup s.heap a xs) (tb:IsTup s.heap b ys)
  (h:∀g,IsZip g (s.heap.objs.size+4) (s.heap.objs.size+2) (s.heap.objs.size+3) .none→IsPair g (s.heap.objs.size+2) (.ref s.heap.objs.size) (.ref (s.heap.objs.size+1))→IsPair g (s.heap.objs.size+3) .none .none →
   IsTupIter g s.heap.objs.size a 0→IsTupIter g (s.heap.objs.size+1) b 0→(∀c o,s.heap.get? c=some o→g.get? c=some o)→Q (.ref (s.heap.objs.size+4)) { s with heap:=g }) :
  wpAny (model prog w) A (call (.type "zip") [.ref a,.ref b]) Q E s:=by
 refine callType_new F.called_zip (by decide) (F.typeCall_zip_2 _ _) (F.newCall_zip_2 _ _) (fun obj=>F.args_object_init_3 obj _ _) F.entry_zip_new (zipT_new a b xs ys) ⟨ta,tb,?_⟩
 have m1:(zt1 s.heap a).objs.size=s.heap.objs.size+1:=Heap.size_push ..
 have m2:(zt2 s.heap a b).objs.size=s.heap.objs.size+2:=by unfold zt2;rw[Heap.size_push,m1]
 have m3:(zt3 s.heap a b).objs.size=s.heap.objs.size+3:=by unfold zt3;rw[Heap.size_push,m2]
 have m4:(zt4 s.heap a b).objs.size=s.heap.objs.size+4:=by unfold zt4;rw[Heap.size_push,m3]
 have up:∀c o,(zt3 s.heap a b).get? c=some o→(zt5 s.heap a b).get? c=some o:=fun c o e=>Heap.get?_push_of_some _ (Heap.get?_push_of_some _ e)
 have g5:IsZip (zt5 s.heap a b) (zt4 s.heap a b).objs.size (zt2 s.heap a b).objs.size (zt3 s.heap a b).objs.size .none:=Heap.get?_push_size _ rfl
 have g4:IsPair (zt5 s.heap a b) (zt3 s.heap a b).objs.size .none .none:=Heap.get?_push_of_some _ (Heap.get?_push_size _ rfl)
 have g3:IsPair (zt5 s.heap a b) (zt2 s.heap a b).objs.size (.ref s.heap.objs.size) (.ref (zt1 s.heap a).objs.size):=up _ _ (Heap.get?_push_size _ rfl)
 have g2:IsTupIter (zt5 s.heap a b) (zt1 s.heap a).objs.size b 0:=⟨_,up _ _ (Heap.get?_push_of_some _ (Heap.get?_push_size _ rfl)),rfl,rfl⟩
 have g1:IsTupIter (zt5 s.heap a b) s.heap.objs.size a 0:=⟨_,up _ _ (Heap.get?_push_of_some _ (Heap.get?_push_of_some _ (Heap.get?_push_size _ rfl))),rfl,rfl⟩
 rw[m2,m3,m4]at g5
 rw[m1,m2]at g3
 rw[m3]at g4
 rw[m1]at g2
 show _∧_
 rw[m4]
 exact⟨⟨_,g5,rfl⟩,h _ g5 g3 g4 g1 g2 fun c o e=>up _ _ (Heap.get?_push_of_some _ (Heap.get?_push_of_some _ (Heap.get?_push_of_some _ e)))⟩
end
def ItzT (K:PySem.W.Frag) (a b:Addr) : It :=
  ⟨fun i H=>∃ xs x ys y,SqT K H a xs∧xs[i]? = some x∧SqT K H b ys∧ys[i]? = some y,
   fun i H x H'=>∃ t u v,H t = none∧H' = upd H t (.tup [u,v])∧x = .ref t∧(∀ xs,SqT K H a xs→xs[i]? = some u)∧(∀ ys,SqT K H b ys→ys[i]? = some v),
   fun i H=>∃ xs,SqT K H a xs∧xs.length ≤ i⟩
theorem turn_zipT {P:Program}{w:World}{K:PySem.W.Frag}{elts:List Expr}{x1}{tpos:Pos}{a1 a2 z TI TO i1 i2:Addr}(D:ZA z TI TO i1 i2 [i1,a1] [i2,a2]) (n1:a1≠i1) (n2:a2≠i2) :
  Turn P w K (.Tuple elts x1 tpos) (ItzT K a1 a2) [z,TO,i1,i2,TI] z (fun i h=>IsZip h z TI TO .none∧IsPair h TI (.ref i1) (.ref i2)∧(∃a b,IsPair h TO a b)∧IsTupIter h i1 a1 i∧IsTupIter h i2 a2 i) where
 mem:=by simp
 obj:=fun i h st b hb=>by
  obtain⟨hz,hTI,⟨x,y,hTO⟩,⟨o1,e1,c1,d1⟩,⟨o2,e2,c2,d2⟩⟩:=st
  have:b=z∨b=TO∨b=i1∨b=i2∨b=TI:=by simpa using hb
  rcases this with rfl|rfl|rfl|rfl|rfl
  ·exact⟨_,hz,fun v q=>by cases q⟩
  ·exact⟨_,hTO,fun v q=>by cases q⟩
  ·exact⟨o1,e1,fun v q=>by rw[d1]at q;cases q⟩
  ·exact⟨o2,e2,fun v q=>by rw[d2]at q;cases q⟩
  ·exact⟨_,hTI,fun v q=>by cases q⟩
 keep:=fun i h h' st k=>by
  obtain⟨hz,hTI,⟨x,y,hTO⟩,⟨o1,e1,r1⟩,⟨o2,e2,r2⟩⟩:=st
  exact⟨k z (by simp) _ hz,k TI (by simp) _ hTI,⟨x,y,k TO (by simp) _ hTO⟩,⟨o1,k i1 (by simp) o1 e1,r1⟩,⟨o2,k i2 (by simp) o2 e2,r2⟩⟩
 item:=by
  intro X hP hw hK hc i pins s σ H E I hf st hg
  subst hP hw hK
  obtain⟨xs,x,ys,y,hq1,hx,hq2,hy⟩:=hg
  obtain⟨hz,hTI,⟨ao,bo,hTO⟩,h1,h2⟩:=st
  obtain⟨its1,rv1,p1,hz1⟩:=I.tuple hq1
  obtain⟨its2,rv2,p2,hz2⟩:=I.tuple hq2
  obtain⟨u,hu,ru⟩:=rv1.get hx
  obtain⟨v,hv,rv⟩:=rv2.get hy
  have lz:z<s.heap.objs.size:=Heap.lt_size hz
  have lt:∀b ∈ [z,TO,i1,i2,TI],b<s.heap.objs.size:=fun b hb=>by
   have:b=z∨b=TO∨b=i1∨b=i2∨b=TI:=by simpa using hb
   obtain⟨o1,e1,_⟩:=h1
   obtain⟨o2,e2,_⟩:=h2
   rcases this with rfl|rfl|rfl|rfl|rfl
   ·exact lz
   ·exact Heap.lt_size hTO
   ·exact Heap.lt_size e1
   ·exact Heap.lt_size e2
   ·exact Heap.lt_size hTI
  obtain⟨⟨m1,m2,m3,m4⟩,⟨m5,m6,m7⟩,_⟩:=D.ne
  have hh:X.A.in1.handled=none:=I.ok.hd hc
  refine nextZ_one D (Nx.tup hh i1 a1 n1 its1.toArray) (Nx.tup hh i2 a2 n2 its2.toArray) hz hTI hTO ⟨h1,p1⟩ ⟨h2,p2⟩ (x:=u) (y:=v) (by simpa using hu) (by simpa using hv) fun g1 z1 t1 q1 q2 nw sz kp=>⟨_,rfl,?_⟩
  refine wpAny_letOwnedTupleGo_zip z1 fun g2 z2 b2=>?_
  replace b2:Heap.SameBut z g1 g2:=b2
  have hnew:g2.get? s.heap.objs.size=some { cls:=.type "tuple",data:=.seq #[u,v] }:=(b2.2 _ (Nat.ne_of_gt lz)).trans nw
  have hkeep:∀b o,b ∉ [z,TO,i1,i2,TI]→s.heap.get? b=some o→g2.get? b=some o:=fun b o hb q=>(b2.2 b (fun e=>hb (by simp[e]))).trans (kp b o (fun hm=>hb (by
   have:b=z∨b=TO∨b=i1∨b=i2:=by simpa using hm
   rcases this with e|e|e|e <;> simp[e])) q)
  have free0:=I.hok.fresh (Nat.le_refl s.heap.objs.size)
  have hT:ObjOk X.prog X.w (upd H s.heap.objs.size (.tup [x,y])) g2 s.heap.objs.size (.tup [x,y]) :=
   ⟨(by show 2≤sizeLine;decide),[u,v],.cons ru (.cons rv .nil),⟨_,hnew,rfl,_,rfl⟩⟩
  have I2:Inv X pins σ (upd H s.heap.objs.size (.tup [x,y])) { s with heap:=g2,toks:=s.toks }:=I.turnedN (t':=s.toks) hkeep hf (Nat.le_refl _) hT
  refine⟨.ref s.heap.objs.size,upd H s.heap.objs.size (.tup [x,y]),I2,rfl,⟨s.heap.objs.size,x,y,free0,rfl,rfl,fun ys' hy'=>by rw[I.tuple_inj hy' hq1];exact hx,fun ys' hy'=>by rw[I.tuple_inj hy' hq2];exact hy⟩,⟨z2,?_,⟨u,v,?_⟩,?_,?_⟩,fun b hb=>?_⟩
  ·exact b2.extBut _ _ m1 (kp _ _ (by simp[m1,m5,m6,m7]) hTI)
  ·exact b2.extBut _ _ m2 t1
  ·exact q1.1.extBut b2.extBut m3
  ·exact q2.1.extBut b2.extBut m4
  ·rw[upd_ne (Nat.ne_of_lt (lt b hb))]
   exact(hf b hb).1
 done:=by
  intro X hP hw hK hc i pins s σ H E I hf st hg
  subst hP hw hK
  obtain⟨xs,hq1,hx⟩:=hg
  obtain⟨hz,hTI,⟨ao,bo,hTO⟩,h1,h2⟩:=st
  obtain⟨its1,rv1,p1,hz1⟩:=I.tuple hq1
  have hl1:=rv1.length
  have hh:X.A.in1.handled=none:=I.ok.hd hc
  refine nextZ_fin D (Nx.tup hh i1 a1 n1 its1.toArray) hz hTI hTO ⟨h1,p1⟩ (by show its1.toArray[i]? = none;simp;omega) fun g kp=>⟨rfl,I.turnedL (t':=s.toks) (ch:=[z,TO,i1,i2,TI]) (fun b o hb e=>?_) hf⟩
  exact kp b o (fun hm=>hb (by
   have:b=z∨b=TO∨b=i1∨b=i2:=by simpa using hm
   rcases this with q|q|q|q <;> simp[q])) e
 self:=fun _ _ _ _ _ st h=>wpAny_pyIter_zip st.1 h
theorem ZA.of {z TI TO i1 i2 l1 l2:Addr}(D:ZipApart z TI TO i1 i2 l1 l2):ZA z TI TO i1 i2 [i1,l1] [i2,l2] where
 nd:=by
  simp only[List.nodup_cons,List.mem_cons,List.not_mem_nil,or_false,not_or,not_false_eq_true,List.nodup_nil,and_true]
  exact⟨⟨D.TIz.symm,D.TOz.symm,D.i1z.symm,D.i2z.symm⟩,⟨D.TITO,D.TIi1,D.TIi2⟩,⟨D.TOi1,D.TOi2⟩,D.i12⟩
 a1:=fun c hc=>by
  have:c=i1∨c=l1:=by simpa using hc
  rcases this with rfl|rfl
  ·exact⟨D.i1z,D.TOi1.symm,D.i12⟩
  ·exact⟨D.l1z,D.l1TO,D.l1i2⟩
 a2:=fun c hc=>by
  have:c=i2∨c=l2:=by simpa using hc
  rcases this with rfl|rfl
  ·exact⟨D.i2z,D.TOi2.symm,D.i12.symm⟩
  ·exact⟨D.l2z,D.l2TO,D.l2i1⟩
section
variable {X:Cx}{elts:List Expr}{x1:_}{tpos:Pos}
def iZip2 (K:PySem.W.Frag) (ta:TA):TI:=fun σ H R=>ta σ H fun vs H1=>∃a b,vs=[.ref a,.ref b]∧(((∃xs,SqL K H1 a xs)∧(∃ys,SqL K H1 b ys)∧R (Itz K a b) H1) ∨((∃xs,SqT K H1 a xs)∧(∃ys,SqT K H1 b ys)∧R (ItzT K a b) H1))
theorem pi_zip2 {x1}{l m:Expr}{ta:TA}{p pos:Pos}(hg:Gl X "zip") (hm:X.mg "zip" = none) (ha:PA X [l,m] ta) (hs:starEach (l::[m]) X.env =(false,eval l X.env)::starEach [m] X.env:=by rfl) (hs2:starEach [m] X.env=[(false,eval m X.env)]:=by rfl) :
  PI X (.Tuple elts x1 tpos) (.Call (.Name "zip" p) [l,m] [] pos) (iZip2 X.K ta):=by
 intro pins s σ H R I h
 refine Call_ (ld_blt I hg hm bt_zip (PyProof.Rows.callWith_type1 (thn (ha pos pins s σ H _ I h) fun us s1 ⟨vs,H1,I1,r1,q1⟩=>?_) hs (by rw[hs2];rfl)))
 obtain⟨a,b,rfl,q1⟩:=q1
 obtain⟨u,v,rfl,ru,rv⟩:=vals2 r1
 cases ru
 cases rv
 have fin:∀b ∈ [s1.heap.objs.size+4,s1.heap.objs.size+3,s1.heap.objs.size,s1.heap.objs.size+1,s1.heap.objs.size+2],FpOk X pins H1 b:=fun b hb=>by
  have hb2:s1.heap.objs.size≤b:=by
   have:b=s1.heap.objs.size+4∨b=s1.heap.objs.size+3∨b=s1.heap.objs.size∨b=s1.heap.objs.size+1∨b=s1.heap.objs.size+2:=by simpa using hb
   omega
  exact I1.fpOk hb2 (I1.hok.fresh hb2)
 rcases q1 with⟨⟨xs,hq⟩,⟨ys,hq2⟩,q⟩|⟨⟨xs,hq⟩,⟨ys,hq2⟩,q⟩
 ·obtain⟨its,r1',pl,hz⟩:=I1.list hq
  obtain⟨its2,r2',pl2,hz2⟩:=I1.list hq2
  have la:a<s1.heap.objs.size:=by obtain⟨_,e,_⟩:=pl.isList;exact Heap.lt_size e
  have lb:b<s1.heap.objs.size:=by obtain⟨_,e,_⟩:=pl2.isList;exact Heap.lt_size e
  refine call_zip_2 pl.isList pl2.isList fun h' hz hTI hTO hi1 hi2 hsz hk=>?_
  refine wpAny_pyIter_zip hz ?_
  have I2:Inv X pins σ H1 { s1 with heap:=h' }:=I1.kept (t':=s1.toks) hk
  exact⟨s1.heap.objs.size+4,[s1.heap.objs.size+4,s1.heap.objs.size+3,s1.heap.objs.size,s1.heap.objs.size+1,s1.heap.objs.size+2],_,_,H1,rfl,I2,turn_zip (zipApart_new la lb),⟨hz,hTI,⟨_,_,hTO⟩,hi1,hi2⟩,fin,q⟩
 ·obtain⟨its,r1',pl,hz⟩:=I1.tuple hq
  obtain⟨its2,r2',pl2,hz2⟩:=I1.tuple hq2
  have la:a<s1.heap.objs.size:=by obtain⟨_,e,_⟩:=pl;exact Heap.lt_size e
  have lb:b<s1.heap.objs.size:=by obtain⟨_,e,_⟩:=pl2;exact Heap.lt_size e
  refine call_zipT pl pl2 fun h' hz hTI hTO hi1 hi2 hk=>?_
  refine wpAny_pyIter_zip hz ?_
  have I2:Inv X pins σ H1 { s1 with heap:=h' }:=I1.kept (t':=s1.toks) hk
  have D:=zipApart_new la lb
  exact⟨s1.heap.objs.size+4,[s1.heap.objs.size+4,s1.heap.objs.size+3,s1.heap.objs.size,s1.heap.objs.size+1,s1.heap.objs.size+2],_,_,H1,rfl,I2,turn_zipT (ZA.of D) D.l1i1 D.l2i2,⟨hz,hTI,⟨_,_,hTO⟩,hi1,hi2⟩,fin,q⟩
def iSeq (K:PySem.W.Frag) (tl:TE):TI:=fun σ H R=>tl σ H fun x H1=>∃a,x = .ref a∧(((∃xs,SqL K H1 a xs)∧R (Itl K a) H1) ∨((∃xs,SqT K H1 a xs)∧R (Itt K a) H1))
theorem pi_seq {tg l:Expr}{tl:TE}(hl:PE X l tl):PI X tg l (iSeq X.K tl):=by
 intro pins s σ H R I h
 refine thn (hl pins s σ H _ I h) fun v s1 ⟨x,H1,I1,r1,q1⟩=>?_
 obtain⟨a,rfl,q1⟩:=q1
 cases r1
 have fp:∀b ∈ [s1.heap.objs.size],FpOk X pins H1 b:=fun b hb=>by
  have e:b=s1.heap.objs.size:=by simpa using hb
  subst e
  exact I1.fpOk (Nat.le_refl _) (I1.hok.fresh (Nat.le_refl _))
 rcases q1 with⟨⟨xs,hq⟩,q⟩|⟨⟨xs,hq⟩,q⟩
 ·obtain⟨its,rv,p,hz⟩:=I1.list hq
  refine wpAny_pyIter_list p.isList ?_
  exact⟨s1.heap.objs.size,[s1.heap.objs.size],_,_,H1,rfl,I1.kept (t':=s1.toks) fun b o e=>Heap.get?_push_of_some _ e,turn_list a _,⟨_,Heap.get?_push_size _ rfl,rfl,rfl⟩,fp,q⟩
 ·obtain⟨its,rv,p,hz⟩:=I1.tuple hq
  refine wpAny_pyIter_tuple (show s1.heap.IsTuple a its.toArray from p) ?_
  exact⟨s1.heap.objs.size,[s1.heap.objs.size],_,_,H1,rfl,I1.kept (t':=s1.toks) fun b o e=>Heap.get?_push_of_some _ e,turn_tuple a _,⟨_,Heap.get?_push_size _ rfl,rfl,rfl⟩,fp,q⟩
theorem rd_iseq {K:PySem.W.Frag}{tl:TE}{σ:St}{H:Hp}{R:It→Hp→Prop}(h:tl σ H fun x H1=>∃a,x = .ref a∧(((∃xs,SqL K H1 a xs)∧R (Itl K a) H1) ∨((∃xs,SqT K H1 a xs)∧R (Itt K a) H1))):iSeq K tl σ H R:=h
def rIsiT (K:PySem.W.Frag):List V→Hp→VK→Prop:=fun xs H Q=>∃x t tp T1 T2 b,xs=[x,.ref tp]∧H tp=some (.tup [.ty T1,.ty T2])∧TyOf K H x t∧PySem.W.kitAny K t [.type T1,.type T2]=some b∧Q (.bl b) H
theorem call_isinstT:CallR X (.builtin "isinstance") (rIsiT X.K):=by
 intro pins s σ H xs us Q I r h
 obtain⟨x,t,tp,T1,T2,b,rfl,htp,ty,e,q⟩:=h
 obtain⟨u,w',rfl,r1,r2⟩:=vals2 r
 cases (show w'=Value.ref tp from r2)
 obtain⟨_,its,vr,ot,ht,hcls,n,hd⟩:=(show ObjOk X.prog X.w H s.heap tp (.tup [.ty T1,.ty T2]) from I.hok tp _ htp)
 have ei:its=[.type T1,.type T2]:=by
  cases vr with
  | cons a vr =>
   cases vr with
   | cons b vr =>
    cases vr
    cases a;cases b;rfl
 subst ei
 obtain⟨c0,d0,dt,sl0⟩:=ot
 dsimp only at hcls hd
 subst hcls hd
 have fin:∀tk,∃x H',Inv X pins σ H' { s with toks:=tk }∧RelV x (.bool b)∧Q x H':=fun tk=>⟨.bl b,H,I.tok _,rfl,q⟩
 cases ty with
 | non=>cases (show u=Value.none from r1);exact PySem.W.kia_tup PySem.W.kitx_none I.kIn True.intro ht e (fun z=>nomatch z) fin
 | bl y=>cases (show u=Value.bool y from r1);exact PySem.W.kia_tup PySem.W.kitx_bool I.kIn True.intro ht e (fun z=>nomatch z) fin
 | int i=>obtain⟨t,q⟩:=(show ∃t,u=Value.int i t from r1);cases q;exact PySem.W.kia_tup PySem.W.kitx_int I.kIn True.intro ht e (fun z=>nomatch z) fin
 | str y=>obtain⟨t,q⟩:=(show ∃t,u=Value.str y t from r1);cases q;exact PySem.W.kia_tup PySem.W.kitx_str I.kIn True.intro ht e (fun z=>nomatch z) fin
 | flt y=>obtain⟨t,q⟩:=(show ∃t,u=Value.float y t from r1);cases q;exact PySem.W.kia_tup PySem.W.kitx_float I.kIn True.intro ht e (fun z=>nomatch z) fin
 | @lst a xs ea =>
  cases (show u=Value.ref a from r1)
  obtain⟨_,_,n,_,h1⟩:=(show ObjOk X.prog X.w H s.heap a (.lst xs) from I.hok a _ ea)
  exact PySem.W.kia_tup PySem.W.kitx_list I.kIn ⟨_,h1,rfl⟩ ht e (fun z=>nomatch z) fin
 | @frz a ob xs ea =>
  cases (show u=Value.ref a from r1)
  obtain⟨_,_,_,n,_,h1⟩:=(show ObjOk X.prog X.w H s.heap a (.frz ob (.lst xs)) from I.hok a _ ea)
  exact PySem.W.kia_tup PySem.W.kitx_list I.kIn ⟨_,h1,rfl⟩ ht e (fun z=>nomatch z) fin
 | @tup a xs ea =>
  cases (show u=Value.ref a from r1)
  obtain⟨_,_,_,p⟩:=(show ObjOk X.prog X.w H s.heap a (.tup xs) from I.hok a _ ea)
  obtain⟨o,h1,h2,_⟩:=p
  exact PySem.W.kia_tup PySem.W.kitx_tuple I.kIn ⟨o,h1,h2⟩ ht e (fun z=>nomatch z) fin
 | @dK a kvs ea =>
  cases (show u=Value.ref a from r1)
  obtain⟨_,_,vs,_,p⟩:=(show ObjOk X.prog X.w H s.heap a (.dK kvs) from I.hok a _ ea)
  obtain⟨o,es,ep,h1,h2,_⟩:=p
  exact PySem.W.kia_tup PySem.W.kitx_dict I.kIn ⟨o,h1,h2.1⟩ ht e (fun z=>nomatch z) fin
 | @dT a kvs ea =>
  cases (show u=Value.ref a from r1)
  obtain⟨_,_,xs,_,o,es,ep,h1,h2,_⟩:=(show ObjOk X.prog X.w H s.heap a (.dT kvs) from I.hok a _ ea)
  exact PySem.W.kia_tup PySem.W.kitx_dict I.kIn ⟨o,h1,h2.1⟩ ht e (fun z=>nomatch z) fin
 | @ins a C dx fs ea cl ha hn htk hm =>
  cases (show u=Value.ref a from r1)
  obtain⟨mA,O,_⟩:=ins_get I.hok ea
  obtain⟨od,J,_⟩:=O.look
  exact PySem.W.kia_tup (PySem.W.kitx_own (cl.get _) cl.hd ha hn htk hm) I.kIn J ht e (fun z=>nomatch z) fin
theorem rd_isiT {K:PySem.W.Frag}{H:Hp}{Q:VK}{x:V}{t:Value}{tp:Addr}{T1 T2:String}{b:Bool}(htp:H tp=some (.tup [.ty T1,.ty T2])) (ty:TyOf K H x t) (e:PySem.W.kitAny K t [.type T1,.type T2]=some b) (q:Q (.bl b) H):rIsiT K [x,.ref tp] H Q:=⟨x,t,tp,T1,T2,b,rfl,htp,ty,e,q⟩
end
section
variable {K:PySem.W.Frag}{H:Hp}{Q:VK}{σ:St}
theorem rd_izip2 {ta:TA}{R:It→Hp→Prop}(h:ta σ H fun vs H1=>∃a b,vs=[.ref a,.ref b]∧(((∃xs,SqL K H1 a xs)∧(∃ys,SqL K H1 b ys)∧R (Itz K a b) H1) ∨((∃xs,SqT K H1 a xs)∧(∃ys,SqT K H1 b ys)∧R (ItzT K a b) H1))):iZip2 K ta σ H R:=h
theorem comp_zipT {vs:List Str}{js:List Nat}{g:TG}{tt:TT}{te:TE}{a b:Addr}{xs zs:List V}(Pv:Nat→St→List V→Hp→Prop) (D:Addr) (hlen:xs.length=zs.length) (h0:Pv 0 (blkSt vs js σ) [] (upd H D (.lst [])))
  (hl:∀i σ' ys H',i≤xs.length→Pv i σ' ys H'→SqT K H' a xs∧SqT K H' b zs)
  (hs:∀i x z σ' ys H' t,xs[i]? = some x→zs[i]? = some z→Pv i σ' ys H'→H' t=none→g (.ref t) σ' (upd H' t (.tup [x,z])) fun σ3 H3=>tt σ3 H3 fun b H4=>if b=true then te σ3 H4 fun y H5=>H5 D=some (.lst ys)∧ys.length<sizeLine∧Pv (i+1) σ3 (ys ++ [y]) (upd H5 D (.lst (ys ++ [y]))) else Pv (i+1) σ3 ys H4)
  (hd:∀σ' ys H',Pv xs.length σ' ys H'→Q (.ref D) H'):CompW (ItzT K a b) vs js σ g tt te Q D H:=by
 refine⟨fun i m σ' ys H'=>m=xs.length-i∧i≤xs.length∧Pv i σ' ys H',⟨xs.length,by simp,Nat.zero_le _,h0⟩,?_⟩
 rintro i m σ' ys H' ⟨rfl,hi,p⟩
 obtain⟨q1,q2⟩:=hl i σ' ys H' hi p
 by_cases hlt:i<xs.length
 ·refine .inr ⟨⟨xs,xs[i],zs,zs[i],q1,by simp[hlt],q2,by simp[hlen ▸ hlt]⟩,Pv (i+1),fun σ2 zs H2 p'=>⟨xs.length-(i+1),by omega,rfl,hlt,p'⟩,fun x H2 y=>?_⟩
  obtain⟨t,u,v,nt,rfl,rfl,y1,y2⟩:=y
  exact hs i u v σ' ys _ t (y1 xs q1) (y2 zs q2) p nt
 ·have e:i=xs.length:=by omega
  subst e
  exact .inl ⟨⟨xs,q1,Nat.le_refl _⟩,hd σ' ys H' p⟩
end
end L2
set_option maxHeartbeats 4000000
local macro_rules | `(tactic| walk_at"rdc")=>`(tactic| first
  | (show (0:Int) < _; omega)
  | (show (0:Int) ≤ _; omega)
  | (show (0:Int) < _∧_ < 2 ^ 100; omega)
  | (show (-(2 ^ 64) < _∧_ < 2 ^ 64) ∨ (-(2 ^ 64) < _∧_ < 2 ^ 64); omega)
  | (show (0:Int) ≤ _∧_ ≤ 1000000∧Int.natAbs _ < 2 ^ 64; omega))
local macro_rules | `(tactic| walk_at"rd1")=>`(tactic| first
  | (with_reducible refine' L2.rd_allN (fun _ _=>?_)) | (with_reducible refine' L2.rd_seqO (fun _ _=>?_)) | (with_reducible refine' L2.rd_asg ?_) | ((with_reducible refine' L2.rd_gname ?_); (try dsimp only [List.set_cons_zero,List.set_cons_succ])) | (with_reducible refine' L2.rd_ret ?_) | (with_reducible refine' L2.rd_retN ?_) | (with_reducible refine' L2.rd_next ?_) | (with_reducible refine' L2.rd_drop ?_) | (with_reducible refine' L2.rd_ifSO (fun _ _ _ _=>?_))
  | (with_reducible refine' L2.rd_op ?_) | (with_reducible refine' L2.rd_un ?_) | (with_reducible refine' L2.rd_c ?_) | ((with_reducible refine' L2.rd_var ?rdv ?_); (case rdv=>rfl))
  | (with_reducible refine' L2.rd_I0 ?_) | (with_reducible refine' L2.rd_U ?_) | (with_reducible refine' L2.rd_eqI ?_) | (with_reducible refine' L2.rd_neI ?_) | (with_reducible refine' L2.rd_eqB ?_) | (with_reducible refine' L2.rd_neB ?_)
  | (with_reducible refine' L2.rd_test ?_) | (with_reducible refine' L2.rd_tB ?_) | (with_reducible refine' L2.rd_and ?_) | (with_reducible refine' L2.rd_or ?_) | (with_reducible refine' L2.rd_not ?_) | (with_reducible refine' L2.rd_andV ?_) | (with_reducible refine' L2.rd_orV ?_) | (with_reducible refine' L2.rd_notV ?_) | (with_reducible refine' L2.rd_chain ?_) | (with_reducible refine' L2.rd_ifE ?_)
  | (with_reducible refine' L2.rd_nil ?_) | (with_reducible refine' L2.rd_cons ?_) | (with_reducible refine' L2.rd_call ?_) | (with_reducible refine' L2.rd_cb ?_) | (with_reducible refine' L2.rd_lst ?_) | (with_reducible refine' L2.rd_tup ?_) | (with_reducible refine' L2.rd_bm0 ?_) | (with_reducible refine' L2.rd_bm ?_) | (with_reducible refine' L2.rd_augS ?_) | ((with_reducible refine' L2.rd_ip ?_); (try dsimp only [List.set_cons_zero,List.set_cons_succ])) | ((with_reducible refine' L2.rd_aug ?rdv ?_); (case rdv=>rfl)) | (with_reducible refine' L2.rd_izip ?_) | (with_reducible refine' L2.rd_ivals ?_) | (with_reducible refine' L2.rd_dget2 ?_) | (with_reducible refine' L2.rd_dput ?_) | (with_reducible refine' L2.rd_dget ?_) | (with_reducible refine' L2.rd_dnewK ?_) | (with_reducible refine' L2.rd_sortK ?_) | (with_reducible refine' L2.rd_sortLam ?_) | (with_reducible refine' L2.rd_orG ?_) | (with_reducible refine' L2.rd_isB ?_) | (with_reducible refine' L2.rd_gsub ?_) | (with_reducible refine' L2.rd_meth ?_) | (with_reducible refine' L2.rd_make ?_) | (with_reducible refine' L2.rd_fld ?_) | (with_reducible refine' L2.rd_sfld ?_) | (with_reducible refine' L2.rd_din ?_) | (with_reducible refine' L2.rd_dnin ?_) | (with_reducible refine' L2.rd_idict ?_) | (with_reducible refine' L2.rd_dpop ?_) | (with_reducible refine' L2.rd_raise ?_) | (with_reducible refine' L2.rd_sortLamV ?_) | (with_reducible refine' L2.rd_xat ?_)
  | (with_reducible refine' L2.rd_sl ?_) | (with_reducible refine' L2.rd_nop ?_) | (with_reducible refine' L2.rd_part ?_) | (with_reducible refine' L2.rd_bl ?_) | (with_reducible refine' L2.rd_int ?_)
  | (with_reducible refine' L2.rd_iteT ?_) | (with_reducible refine' L2.rd_iteF ?_) | (with_reducible refine' L2.rd_iteNF ?_) | (with_reducible refine' L2.rd_iteNT ?_)
  | (with_reducible refine' L2.rd_forO (fun _ _=>?_)) | (with_reducible refine' L2.rd_rng1 ?_) | (with_reducible refine' L2.rd_rng2 ?_) | (with_reducible refine' L2.rd_ilist ?_) | (with_reducible refine' L2.rd_comp ?_) | (with_reducible refine' L2.rd_yes ?_)
  | (with_reducible refine' L2.rd_itup ?_) | (with_reducible refine' L2.rd_istr ?_) | (with_reducible refine' L2.rd_leS ?_) | (with_reducible refine' L2.rd_inS ?_)
  | (with_reducible refine' L2.rd_abs ?_) | (with_reducible refine' L2.rd_max ?_) | (with_reducible refine' L2.rd_min ?_) | (with_reducible refine' L2.rd_bitlen ?_)
  | (with_reducible refine' L2.rd_tF ?_) | (with_reducible refine' L2.rd_tfV ?_) | (with_reducible refine' L2.rd_izip2 ?_) | (with_reducible refine' L2.rd_iseq ?_)
  | (with_reducible refine' L2.rd_rev ?_) | (with_reducible refine' L2.rd_ienum ?_) | (with_reducible refine' L2.rd_intB ?_)
  | ((with_reducible refine' L2.rd_ixL (L2.SqL.of ?rdh) ?rde ?_); (case rdh=>assumption); (case rde=>rfl))
  | ((with_reducible refine' L2.rd_set0 ?rdh ?_); (case rdh=>assumption))
  | ((with_reducible refine' L2.rd_set1 ?rdh ?_); (case rdh=>assumption))
  | ((with_reducible refine' L2.rd_setL ?rdh ?rde ?_); (case rdh=>assumption); (case rde=>rfl))
  | ((with_reducible refine' L2.rd_ixT (L2.SqT.of ?rdh) ?rde ?_); (case rdh=>assumption); (case rde=>rfl))
  | ((with_reducible refine' L2.rd_lenL (L2.SqL.of ?rdh) ?_); (case rdh=>assumption))
  | ((with_reducible refine' L2.rd_I ?rdc ?_); (case rdc=>walk_at"rdc"))
  | ((with_reducible refine' L2.rd_tx ?rdt ?_); (case rdt=>assumption); (try dsimp only [List.set_cons_zero,List.set_cons_succ]))
  | (dsimp only; (with_reducible refine' L2.rd_tx ?rdt ?_); (case rdt=>assumption); (try dsimp only [List.set_cons_zero,List.set_cons_succ]))
  | ((with_reducible refine' L2.rd_isN ?rdt ?_); (case rdt=>assumption); (try dsimp only))
  | (dsimp only; (with_reducible refine' L2.rd_isN ?rdt ?_); (case rdt=>assumption); (try dsimp only)))
local macro_rules | `(tactic| walk_at"rd")=>`(tactic| repeat walk_at"rd1")
local macro_rules | `(tactic| walk_at"lk")=>`(tactic| first | k_is | ((refine' L2.Ga.mk ?lka ?lkl ?lkc ?lkk); (case lka=>k_is); (case lkl=>k_is); (case lkc=>k_is); (case lkk=>k_is)) | ((refine' L2.Ga2.mk ?lka ?lkb ?lkl ?lkc ?lkk); (case lka=>k_is); (case lkb=>k_is); (case lkl=>k_is); (case lkc=>k_is); (case lkk=>k_is)) | ((refine' L2.Me.mk ?lka ?lkb ?lkl ?lkc ?lkk); (case lka=>k_is); (case lkb=>k_is); (case lkl=>k_is); (case lkc=>k_is); (case lkk=>k_is)))
namespace Law
open PySem PySem.Spec PyProof.Rows L2
def top (i:Nat):Stmt:=PySem.Challenge.pw_tailrooms_k91_written_and_read.main.body.getD i (.Pass ⟨0,0,0,0⟩)
abbrev s_is_name:Stmt:=top 4
abbrev s_show_rows:Stmt:=top 10
abbrev s_show_row:Stmt:=top 11
abbrev s_show_step:Stmt:=top 12
abbrev s_show_yard:Stmt:=top 13
abbrev s_read_rows:Stmt:=top 14
abbrev s_read_row:Stmt:=top 15
abbrev s_read_entry:Stmt:=top 16
abbrev s_read_step:Stmt:=top 17
abbrev s_read_yard:Stmt:=top 18
abbrev s_read_words:Stmt:=top 19
abbrev s_read_number:Stmt:=top 20
abbrev s_is_number:Stmt:=top 21
abbrev s_ask_text:Stmt:=top 22
abbrev s__law_open:Stmt:=top 24
abbrev s__law_draw:Stmt:=top 25
abbrev s__law_far:Stmt:=top 26
abbrev s__law_power:Stmt:=top 27
abbrev s__law_key:Stmt:=top 28
abbrev s__law_thing:Stmt:=top 29
abbrev s__law_row:Stmt:=top 30
abbrev s__law_rows:Stmt:=top 31
abbrev s__law_yard:Stmt:=top 32
abbrev s__law_step:Stmt:=top 33
abbrev s__law_row_text:Stmt:=top 34
abbrev s__law_rows_text:Stmt:=top 35
abbrev s__law_step_text:Stmt:=top 36
abbrev s__law_yard_text:Stmt:=top 37
abbrev s__law_same:Stmt:=top 38
abbrev s__law_copy:Stmt:=top 39
abbrev s__law_spoil:Stmt:=top 40
abbrev s__law_asked:Stmt:=top 41
abbrev s__law_right:Stmt:=top 42
abbrev s_law:Stmt:=top 43
theorem sc_is_name:FnScope ["thing"] ["thing"] (defScope s_is_name):=⟨rfl,rfl,rfl,by decide +kernel,rfl,by decide +kernel,by decide +kernel⟩
theorem sc_show_rows:FnScope ["rows"] ["rows"] (defScope s_show_rows):=⟨rfl,rfl,rfl,by decide +kernel,rfl,by decide +kernel,by decide +kernel⟩
theorem sc_show_row:FnScope ["row"] ["row"] (defScope s_show_row):=⟨rfl,rfl,rfl,by decide +kernel,rfl,by decide +kernel,by decide +kernel⟩
theorem sc_show_step:FnScope ["step"] ["step"] (defScope s_show_step):=⟨rfl,rfl,rfl,by decide +kernel,rfl,by decide +kernel,by decide +kernel⟩
theorem sc_show_yard:FnScope ["yard", "wide", "rooms", "held"] ["yard"] (defScope s_show_yard):=⟨rfl,rfl,rfl,by decide +kernel,rfl,by decide +kernel,by decide +kernel⟩
theorem sc_read_rows:FnScope ["text"] ["text"] (defScope s_read_rows):=⟨rfl,rfl,rfl,by decide +kernel,rfl,by decide +kernel,by decide +kernel⟩
theorem sc_read_row:FnScope ["text"] ["text"] (defScope s_read_row):=⟨rfl,rfl,rfl,by decide +kernel,rfl,by decide +kernel,by decide +kernel⟩
theorem sc_read_entry:FnScope ["text", "key", "sign", "thing"] ["text"] (defScope s_read_entry):=⟨rfl,rfl,rfl,by decide +kernel,rfl,by decide +kernel,by decide +kernel⟩
theorem sc_read_step:FnScope ["text", "kind", "others", "room", "at", "row", "many"] ["text"] (defScope s_read_step):=⟨rfl,rfl,rfl,by decide +kernel,rfl,by decide +kernel,by decide +kernel⟩
theorem sc_read_yard:FnScope ["text", "words", "wide", "rooms", "rest", "held"] ["text"] (defScope s_read_yard):=⟨rfl,rfl,rfl,by decide +kernel,rfl,by decide +kernel,by decide +kernel⟩
theorem sc_read_words:FnScope ["text"] ["text"] (defScope s_read_words):=⟨rfl,rfl,rfl,by decide +kernel,rfl,by decide +kernel,by decide +kernel⟩
theorem sc_read_number:FnScope ["text", "least", "most"] ["text", "least", "most"] (defScope s_read_number):=⟨rfl,rfl,rfl,by decide +kernel,rfl,by decide +kernel,by decide +kernel⟩
theorem sc_is_number:FnScope ["text"] ["text"] (defScope s_is_number):=⟨rfl,rfl,rfl,by decide +kernel,rfl,by decide +kernel,by decide +kernel⟩
theorem sc_ask_text:FnScope ["thing"] ["thing"] (defScope s_ask_text):=⟨rfl,rfl,rfl,by decide +kernel,rfl,by decide +kernel,by decide +kernel⟩
theorem sc__law_open:FnScope ["_law_script", "_law_place", "_law_cells", "_law_at", "_law_digits"] ["_law_script", "_law_place"] (defScope s__law_open):=⟨rfl,rfl,rfl,by decide +kernel,rfl,by decide +kernel,by decide +kernel⟩
theorem sc__law_draw:FnScope ["_law_hand", "_law_many", "_law_got", "_law_k", "_law_number"] ["_law_hand", "_law_many"] (defScope s__law_draw):=⟨rfl,rfl,rfl,by decide +kernel,rfl,by decide +kernel,by decide +kernel⟩
theorem sc__law_far:FnScope ["_law_hand", "_law_many", "_law_number", "_law_k"] ["_law_hand", "_law_many"] (defScope s__law_far):=⟨rfl,rfl,rfl,by decide +kernel,rfl,by decide +kernel,by decide +kernel⟩
theorem sc__law_power:FnScope ["_law_many", "_law_number", "_law_k"] ["_law_many"] (defScope s__law_power):=⟨rfl,rfl,rfl,by decide +kernel,rfl,by decide +kernel,by decide +kernel⟩
theorem sc__law_key:FnScope ["_law_hand", "_law_way", "_law_low"] ["_law_hand"] (defScope s__law_key):=⟨rfl,rfl,rfl,by decide +kernel,rfl,by decide +kernel,by decide +kernel⟩
theorem sc__law_thing:FnScope ["_law_hand", "_law_letters"] ["_law_hand"] (defScope s__law_thing):=⟨rfl,rfl,rfl,by decide +kernel,rfl,by decide +kernel,by decide +kernel⟩
theorem sc__law_row:FnScope ["_law_hand", "_law_row_here", "_law_k"] ["_law_hand"] (defScope s__law_row):=⟨rfl,rfl,rfl,by decide +kernel,rfl,by decide +kernel,by decide +kernel⟩
theorem sc__law_rows:FnScope ["_law_hand", "_law_most", "_law_rows_here", "_law_k"] ["_law_hand", "_law_most"] (defScope s__law_rows):=⟨rfl,rfl,rfl,by decide +kernel,rfl,by decide +kernel,by decide +kernel⟩
theorem sc__law_yard:FnScope ["_law_hand", "_law_wide", "_law_rooms", "_law_held", "_law_great", "_law_k"] ["_law_hand"] (defScope s__law_yard):=⟨rfl,rfl,rfl,by decide +kernel,rfl,by decide +kernel,by decide +kernel⟩
theorem sc__law_step:FnScope ["_law_hand", "_law_way", "_law_numbers", "_law_k", "_law_row_here"] ["_law_hand"] (defScope s__law_step):=⟨rfl,rfl,rfl,by decide +kernel,rfl,by decide +kernel,by decide +kernel⟩
theorem sc__law_row_text:FnScope ["_law_row_here", "_law_words", "_law_key_here", "_law_thing_here"] ["_law_row_here"] (defScope s__law_row_text):=⟨rfl,rfl,rfl,by decide +kernel,rfl,by decide +kernel,by decide +kernel⟩
theorem sc__law_rows_text:FnScope ["_law_rows_here"] ["_law_rows_here"] (defScope s__law_rows_text):=⟨rfl,rfl,rfl,by decide +kernel,rfl,by decide +kernel,by decide +kernel⟩
theorem sc__law_step_text:FnScope ["_law_step_here", "_law_words", "_law_part"] ["_law_step_here"] (defScope s__law_step_text):=⟨rfl,rfl,rfl,by decide +kernel,rfl,by decide +kernel,by decide +kernel⟩
theorem sc__law_yard_text:FnScope ["_law_yard_here", "_law_words", "_law_rows_here"] ["_law_yard_here"] (defScope s__law_yard_text):=⟨rfl,rfl,rfl,by decide +kernel,rfl,by decide +kernel,by decide +kernel⟩
theorem sc__law_same:FnScope ["_law_told", "_law_due"] ["_law_told", "_law_due"] (defScope s__law_same):=⟨rfl,rfl,rfl,by decide +kernel,rfl,by decide +kernel,by decide +kernel⟩
theorem sc__law_copy:FnScope ["_law_told"] ["_law_told"] (defScope s__law_copy):=⟨rfl,rfl,rfl,by decide +kernel,rfl,by decide +kernel,by decide +kernel⟩
theorem sc__law_spoil:FnScope ["_law_told", "_law_one"] ["_law_told"] (defScope s__law_spoil):=⟨rfl,rfl,rfl,by decide +kernel,rfl,by decide +kernel,by decide +kernel⟩
theorem sc__law_asked:FnScope ["_law_way", "_law_thing_here", "_law_text"] ["_law_way", "_law_thing_here", "_law_text"] (defScope s__law_asked):=⟨rfl,rfl,rfl,by decide +kernel,rfl,by decide +kernel,by decide +kernel⟩
theorem sc__law_right:FnScope ["_law_way", "_law_thing_here", "_law_text", "_law_handed", "_law_k", "_law_wrote", "_law_told"] ["_law_way", "_law_thing_here", "_law_text"] (defScope s__law_right):=⟨rfl,rfl,rfl,by decide +kernel,rfl,by decide +kernel,by decide +kernel⟩
theorem sc_law:FnScope ["_law_script", "_law_place", "_law_hand", "_law_most", "_law_step_here", "_law_yard_here", "_law_rows_here"] ["_law_script"] (defScope s_law):=⟨rfl,rfl,rfl,by decide +kernel,rfl,by decide +kernel,by decide +kernel⟩
theorem st_is_name (x0:V):start ["thing"] [x0]=[some x0]:=rfl
theorem st_show_rows (x0:V):start ["rows"] [x0]=[some x0]:=rfl
theorem st_show_row (x0:V):start ["row"] [x0]=[some x0]:=rfl
theorem st_show_step (x0:V):start ["step"] [x0]=[some x0]:=rfl
theorem st_show_yard (x0:V):start ["yard", "wide", "rooms", "held"] [x0]=[some x0,none,none,none]:=rfl
theorem st_read_rows (x0:V):start ["text"] [x0]=[some x0]:=rfl
theorem st_read_row (x0:V):start ["text"] [x0]=[some x0]:=rfl
theorem st_read_entry (x0:V):start ["text", "key", "sign", "thing"] [x0]=[some x0,none,none,none]:=rfl
theorem st_read_step (x0:V):start ["text", "kind", "others", "room", "at", "row", "many"] [x0]=[some x0,none,none,none,none,none,none]:=rfl
theorem st_read_yard (x0:V):start ["text", "words", "wide", "rooms", "rest", "held"] [x0]=[some x0,none,none,none,none,none]:=rfl
theorem st_read_words (x0:V):start ["text"] [x0]=[some x0]:=rfl
theorem st_read_number (x0 x1 x2:V):start ["text", "least", "most"] [x0,x1,x2]=[some x0,some x1,some x2]:=rfl
theorem st_is_number (x0:V):start ["text"] [x0]=[some x0]:=rfl
theorem st_ask_text (x0:V):start ["thing"] [x0]=[some x0]:=rfl
theorem st__law_open (x0 x1:V):start ["_law_script", "_law_place", "_law_cells", "_law_at", "_law_digits"] [x0,x1]=[some x0,some x1,none,none,none]:=rfl
theorem st__law_draw (x0 x1:V):start ["_law_hand", "_law_many", "_law_got", "_law_k", "_law_number"] [x0,x1]=[some x0,some x1,none,none,none]:=rfl
theorem st__law_far (x0 x1:V):start ["_law_hand", "_law_many", "_law_number", "_law_k"] [x0,x1]=[some x0,some x1,none,none]:=rfl
theorem st__law_power (x0:V):start ["_law_many", "_law_number", "_law_k"] [x0]=[some x0,none,none]:=rfl
theorem st__law_key (x0:V):start ["_law_hand", "_law_way", "_law_low"] [x0]=[some x0,none,none]:=rfl
theorem st__law_thing (x0:V):start ["_law_hand", "_law_letters"] [x0]=[some x0,none]:=rfl
theorem st__law_row (x0:V):start ["_law_hand", "_law_row_here", "_law_k"] [x0]=[some x0,none,none]:=rfl
theorem st__law_rows (x0 x1:V):start ["_law_hand", "_law_most", "_law_rows_here", "_law_k"] [x0,x1]=[some x0,some x1,none,none]:=rfl
theorem st__law_yard (x0:V):start ["_law_hand", "_law_wide", "_law_rooms", "_law_held", "_law_great", "_law_k"] [x0]=[some x0,none,none,none,none,none]:=rfl
theorem st__law_step (x0:V):start ["_law_hand", "_law_way", "_law_numbers", "_law_k", "_law_row_here"] [x0]=[some x0,none,none,none,none]:=rfl
theorem st__law_row_text (x0:V):start ["_law_row_here", "_law_words", "_law_key_here", "_law_thing_here"] [x0]=[some x0,none,none,none]:=rfl
theorem st__law_rows_text (x0:V):start ["_law_rows_here"] [x0]=[some x0]:=rfl
theorem st__law_step_text (x0:V):start ["_law_step_here", "_law_words", "_law_part"] [x0]=[some x0,none,none]:=rfl
theorem st__law_yard_text (x0:V):start ["_law_yard_here", "_law_words", "_law_rows_here"] [x0]=[some x0,none,none]:=rfl
theorem st__law_same (x0 x1:V):start ["_law_told", "_law_due"] [x0,x1]=[some x0,some x1]:=rfl
theorem st__law_copy (x0:V):start ["_law_told"] [x0]=[some x0]:=rfl
theorem st__law_spoil (x0:V):start ["_law_told", "_law_one"] [x0]=[some x0,none]:=rfl
theorem st__law_asked (x0 x1 x2:V):start ["_law_way", "_law_thing_here", "_law_text"] [x0,x1,x2]=[some x0,some x1,some x2]:=rfl
theorem st__law_right (x0 x1 x2:V):start ["_law_way", "_law_thing_here", "_law_text", "_law_handed", "_law_k", "_law_wrote", "_law_told"] [x0,x1,x2]=[some x0,some x1,some x2,none,none,none,none]:=rfl
theorem st_law (x0:V):start ["_law_script", "_law_place", "_law_hand", "_law_most", "_law_step_here", "_law_yard_here", "_law_rows_here"] [x0]=[some x0,none,none,none,none,none,none]:=rfl
structure Bl (mg:Str→Option Value):Prop where
 isinstance:mg "isinstance" = none
 str:mg "str" = none
 all:mg "all" = none
 len:mg "len" = none
 int:mg "int" = none
 abs:mg "abs" = none
 range:mg "range" = none
 max:mg "max" = none
 list:mg "list" = none
 tuple:mg "tuple" = none
 bool:mg "bool" = none
 zip:mg "zip" = none
 c_MOST:∃t,mg "MOST" = some (.int 130 t)
 c_MOST_FIGURES:∃t,mg "MOST_FIGURES" = some (.int 30 t)
 c_LAST_KEY:∃t,mg "LAST_KEY" = some (.int 1152921504606846975 t)
 c_MOST_WIDE:∃t,mg "MOST_WIDE" = some (.int 8 t)
structure Hand (H:Hp) (p:Addr) (N:Nat):Prop where
 ex:∃(l:Addr) (d c:Int) (ns:List Int),H p=some (.lst [.int d,.int c,.ref l])∧H l=some (.lst (ns.map V.int))∧0≤c∧c≤N∧ns ≠ []
theorem Hand.mono {H:Hp}{p:Addr}{N M:Nat}(h:Hand H p N) (hm:N≤M):Hand H p M:=by
 obtain⟨l,d,c,ns,h1,h2,h3,h4,h5⟩:=h.ex
 exact⟨l,d,c,ns,h1,h2,h3,by omega,h5⟩
def cellsOf (H:Hp) (p:Addr):Option Addr:=match H p with
 | some (.lst [_,_,.ref l])=>some l
 | _=>none
theorem cells_of {H:Hp}{p l:Addr}{a b:V}(h:H p=some (.lst [a,b,.ref l])):cellsOf H p=some l:=by unfold cellsOf;rw[h]
def Kp (H H':Hp) (p:Addr):Prop:=(∀b o,H b=some o→b≠p→H' b=some o)∧cellsOf H' p=cellsOf H p
theorem Kp.refl (H:Hp) (p:Addr):Kp H H p:=⟨fun _ _ h _=>h,rfl⟩
theorem Kp.trans {H H1 H2:Hp}{p:Addr}(a:Kp H H1 p) (b:Kp H1 H2 p):Kp H H2 p:=⟨fun c o h n=>b.1 c o (a.1 c o h n) n,b.2.trans a.2⟩
theorem Kp.hand {H:Hp}{p l:Addr}{a b a' b':V}(h:H p=some (.lst [a,b,.ref l])):Kp H (upd H p (.lst [a',b',.ref l])) p :=
 ⟨fun b u h n=>by rw[upd_ne n];exact h,by rw[cells_of upd_same,cells_of h]⟩
theorem Kp.of {H H':Hp}{p:Addr}{N:Nat}(h:Same H H') (hh:Hand H p N):Kp H H' p:=by
 obtain⟨l,d,c,ns,h1,_⟩:=hh.ex
 exact⟨fun b o q _=>h b o q,by rw[cells_of h1,cells_of (h _ _ h1)]⟩
theorem Kp.new {H H1 H2:Hp}{p:Addr}(a:Same H H1) (n:H p=none) (b:Kp H1 H2 p):Same H H2:=fun c o h=>b.1 c o (a c o h) (ne_of_none h n)
theorem Hand.upd {H:Hp}{p c:Addr}{N:Nat}{o:HO}(h:Hand H p N) (n:c≠p) (nl:cellsOf H p≠some c):Hand (L2.upd H c o) p N:=by
 obtain⟨l,d,k,ns,h1,h2,r⟩:=h.ex
 have ne:l≠c:=fun z=>nl (by rw[cells_of h1,z])
 exact⟨l,d,k,ns,by rw[upd_ne n.symm];exact h1,by rw[upd_ne ne];exact h2,r⟩
theorem cells_new {H:Hp}{p c:Addr}{N:Nat}(h:Hand H p N) (n:H c=none):cellsOf H p≠some c:=by
 obtain⟨l,d,k,ns,h1,h2,r⟩:=h.ex
 rw[cells_of h1]
 intro z
 exact ne_of_none h2 n (Option.some.inj z)
theorem cells_upd {H:Hp}{p c:Addr}{o:HO}(n:c≠p):cellsOf (L2.upd H c o) p=cellsOf H p:=by unfold cellsOf;rw[upd_ne n.symm]
theorem Hand.same {H H':Hp}{p:Addr}{N:Nat}(h:Hand H p N) (s:Same H H'):Hand H' p N:=by
 obtain⟨l,d,c,ns,h1,h2,r⟩:=h.ex
 exact⟨l,d,c,ns,s _ _ h1,s _ _ h2,r⟩
theorem nsMod {ns:List Int}(h:ns ≠ []) (k:Int):∃v,atI (ns.map V.int) (k%((ns.map V.int).length:Int))=some (.int v):=by
 have hl:0<ns.length:=List.length_pos_iff.mpr h
 rw[List.length_map]
 have h0:0≤k%(ns.length:Int):=Int.emod_nonneg _ (by omega)
 have h1:k%(ns.length:Int)<ns.length:=Int.emod_lt_of_pos _ (by omega)
 have ek:k%(ns.length:Int) =(((k%(ns.length:Int)).toNat:Nat):Int):=by omega
 have hk:(k%(ns.length:Int)).toNat<ns.length:=by omega
 obtain⟨j,hj⟩ : ∃j:Nat,k%(ns.length:Int) =(j:Int):=⟨_,ek⟩
 have hk2:j<ns.length:=by omega
 refine⟨ns[j],?_⟩
 rw[hj]
 exact atI_nat (by rw[List.getElem?_map,List.getElem?_eq_getElem hk2] <;> rfl)
theorem hand_ne {H:Hp}{p l:Addr}{d c:Int}{ns:List Int}(hp:H p=some (.lst [.int d,.int c,.ref l])) (hl:H l=some (.lst (ns.map V.int))):l≠p:=by
 refine ne_of hl hp fun z=>?_
 injection z with z
 have q:=congrArg (fun x=>x[2]?) z
 rw[List.getElem?_map]at q
 cases e:ns[2]? with
 | none=>rw[e]at q;cases q
 | some v=>rw[e]at q;cases q
theorem len_pos {ns:List Int}(h:ns ≠ []):(0:Int) <((ns.map V.int).length:Int):=by
 rw[List.length_map]
 have:=List.length_pos_iff.mpr h
 omega
theorem pow2_cast (a:Nat):(2:Int)^a =((2^a:Nat):Int):=by
 induction a with
 | zero=>rfl
 | succ a ih=>rw[Int.pow_succ,Nat.pow_succ,ih];push_cast;rfl
theorem pow2_le {a b:Nat}(h:a≤b):(2:Int)^a≤2^b:=by
 rw[pow2_cast,pow2_cast]
 exact Int.ofNat_le.mpr (Nat.pow_le_pow_right (by decide) h)
theorem newo {H1 H2:Hp}{l:Addr}{o:HO}(n:H1 l=none) (e:L2.upd H1 l o=H2):H2 l=some o∧Same H1 H2:=by
 subst e;exact⟨upd_same,same_new n _⟩
theorem Hand.ne {H:Hp}{p l:Addr}{N:Nat}(hh:Hand H p N) (n:H l=none):l≠p:=by
 obtain⟨l1,d,c,ns,h1,_⟩:=hh.ex
 exact(ne_of_none h1 n).symm
structure CK (H0:Hp) (p D:Addr) (N:Nat) (ys:List V) (H':Hp):Prop where
 hh:Hand H' p N
 lat:H' D=some (.lst ys)
 kp:Kp H0 H' p
 n0:H0 D=none
 np:D≠p
 nc:cellsOf H0 p≠some D
theorem CK.start {H0:Hp}{p D:Addr}{N:Nat}(hh:Hand H0 p N) (n:H0 D=none) {ys:List V}:CK H0 p D N ys (L2.upd H0 D (.lst ys)) where
 hh:=hh.same (same_new n _)
 lat:=upd_same
 kp:=Kp.of (same_new n _) hh
 n0:=n
 np:=by
  obtain⟨l1,d,c,ns,h1,_⟩:=hh.ex
  exact(ne_of_none h1 n).symm
 nc:=cells_new hh n
theorem CK.draw {H0 H' H2:Hp}{p D:Addr}{N M:Nat}{ys:List V}(c:CK H0 p D N ys H') (k:Kp H' H2 p) (hh:Hand H2 p M):CK H0 p D M ys H2 :=
 ⟨hh,k.1 _ _ c.lat c.np,c.kp.trans k,c.n0,c.np,c.nc⟩
theorem CK.push {H0 H':Hp}{p D:Addr}{N:Nat}{ys zs:List V}(c:CK H0 p D N ys H'):CK H0 p D N zs (L2.upd H' D (.lst zs)) where
 hh:=c.hh.upd c.np (by rw[c.kp.2];exact c.nc)
 lat:=upd_same
 kp:=⟨fun b o h n=>by rw[upd_ne (ne_of_none h c.n0)];exact c.kp.1 _ _ h n,by rw[cells_upd c.np];exact c.kp.2⟩
 n0:=c.n0
 np:=c.np
 nc:=c.nc
theorem CK.new {H0 H' H2:Hp}{p D l:Addr}{N:Nat}{ys:List V}{o:HO}(c:CK H0 p D N ys H') (n:H' l=none) (e:L2.upd H' l o=H2):CK H0 p D N ys H2∧H2 l=some o∧l≠p∧l≠D:=by
 subst e
 exact⟨⟨c.hh.same (same_new n _),same_new n _ _ _ c.lat,c.kp.trans (Kp.of (same_new n _) c.hh),c.n0,c.np,c.nc⟩,upd_same,c.hh.ne n,(ne_of_none c.lat n).symm⟩
def sp__law_draw (K:PySem.W.Frag):Sp:=fun vs H Q _=>∃(p:Addr) (N:Nat) (n:Int),vs=[.ref p,.int n]∧Hand H p N∧N<2^60∧0<n∧n<2^100 ∧
 ∀(r:Int) (H':Hp),0≤r→r<n→Hand H' p (N+1)→Kp H H' p→Q (.int r) H'
def sp__law_far (K:PySem.W.Frag):Sp:=fun vs H Q _=>∃(p:Addr) (N:Nat) (n:Int),vs=[.ref p,.int n]∧Hand H p N∧N+10<2^60∧0<n∧n<2^100 ∧
 ∀(r:Int) (H':Hp),0≤r→r<n→Hand H' p (N+7)→Kp H H' p→Q (.int r) H'
def sp__law_power (K:PySem.W.Frag):Sp:=fun vs H Q _=>∃(m:Nat),vs=[.int m]∧m≤1000∧Q (.int (2^m)) H
def sp__law_open (K:PySem.W.Frag):Sp:=fun vs H Q _=>∃(a:Addr) (ns:List Int) (pl:Int),vs=[.ref a,.int pl]∧SqL K H a (ns.map V.int)∧ns.length≤63∧0≤pl∧pl≤1000 ∧
 ∀(p:Addr) (H':Hp),H p=none→Same H H'→Hand H' p 1100000→Q (.ref p) H'
def sp__law_key (K:PySem.W.Frag):Sp:=fun vs H Q _=>∃(p:Addr) (N:Nat),vs=[.ref p]∧Hand H p N∧N+30<2^60 ∧
 ∀(r:Int) (H':Hp),0≤r→r<2^60→Hand H' p (N+20)→Kp H H' p→Q (.int r) H'
def sp_law (K:PySem.W.Frag):Sp:=fun vs H Q _=>∃(a:Addr) (ns:List Int),vs=[.ref a]∧SqL K H a (ns.map V.int)∧ns.length≤63∧∀H',Q (.bl true) H'
theorem str_app (a b:Str):(a++b).cps=a.cps++b.cps:=rfl
theorem str_applen (a b:Str):(a++b).length=a.length+b.length:=by
 show(a.cps++b.cps).size=_
 rw[Array.size_append];rfl
def nm (z:Str):Prop:=1≤z.length∧z.length≤8∧∀c∈z.cps,97≤c∧c≤122
theorem nm_ok {z:Str}(h:nm z):PyData.strOk z=true∧z.length≤100:=by
 refine⟨?_,by have:=h.2.1;omega⟩
 unfold PyData.strOk
 rw[Array.all_eq_true_iff_forall_mem]
 intro c hc
 have:=h.2.2 c hc
 simp;omega
theorem join_nm:∀ys:List Str,(∀y∈ys,y.length=1∧∀c∈y.cps,97≤c∧c≤122)→(Str.join ⟨#[]⟩ ys).length=ys.length∧∀c∈(Str.join ⟨#[]⟩ ys).cps,97≤c∧c≤122
 | [],_=>⟨rfl,fun c hc=>absurd hc (by simp[Str.join,Str.empty])⟩
 | y::r,h=>by
  obtain⟨h1,h2⟩:=join_nm r fun z hz=>h z (List.mem_cons_of_mem _ hz)
  obtain⟨g1,g2⟩:=h y List.mem_cons_self
  rw[PyProof.Rows.join_nil_cons]
  refine⟨by rw[str_applen,h1,g1,List.length_cons];omega,fun c hc=>?_⟩
  rw[str_app]at hc
  rcases Array.mem_append.mp hc with z|z
  ·exact g2 c z
  ·exact h2 c z
theorem sum_nm:∀ys:List Str,(∀y∈ys,y.length=1∧∀c∈y.cps,97≤c∧c≤122)→(ys.map (·.length)).sum=ys.length
 | [],_=>rfl
 | y::r,h=>by
  rw[List.map_cons,List.sum_cons,sum_nm r fun z hz=>h z (List.mem_cons_of_mem _ hz),(h y List.mem_cons_self).1,List.length_cons];omega
theorem let26b {r:Int}(h0:0≤r) (h1:r<26):∃c,atI (Str.ofString "abcdefghijklmnopqrstuvwxyz").cps.toList r=some c∧97≤c∧c≤122:=by
 obtain⟨n,rfl⟩ : ∃n:Nat,r =(n:Int):=⟨r.toNat,by omega⟩
 have hl:(Str.ofString "abcdefghijklmnopqrstuvwxyz").cps.toList.length=26:=by decide +kernel
 have ha:∀c∈(Str.ofString "abcdefghijklmnopqrstuvwxyz").cps.toList,97≤c∧c≤122:=by decide +kernel
 have hi:=List.getElem?_eq_getElem (l:=(Str.ofString "abcdefghijklmnopqrstuvwxyz").cps.toList) (i:=n) (by omega)
 exact⟨_,atI_nat hi,ha _ (List.mem_of_getElem? hi)⟩
theorem joinT (ys:List Str):Txt.join (Str.ofString "") ys=Str.join ⟨#[]⟩ ys:=by
 have e:Str.ofString "" =⟨#[]⟩:=by decide
 rw[e]
 exact StrLaws.glued_eq_join _ _
def sp__law_thing (K:PySem.W.Frag):Sp:=fun vs H Q _=>∃(p:Addr) (N:Nat),vs=[.ref p]∧Hand H p N∧N+30<2^60 ∧
 ∀(z:Str) (H':Hp),nm z→Hand H' p (N+20)→Kp H H' p→Q (.str z) H'
def sp_is_name (K:PySem.W.Frag):Sp:=fun vs H Q _=>∃(z:Str),vs=[.str z]∧nm z∧∀H',Same H H'→Q (.bl true) H'
theorem lo97 (c:Nat) (h1:97≤c) (h2:c≤122):(!decide ([c] < [97]))=true∧(!decide ([122] < [c]))=true:=by
 have h:∀c,c<123→97≤c→(!decide ([c] < [97]))=true∧(!decide ([122] < [c]))=true:=by decide +kernel
 exact h c (by omega) h1
theorem take_get {α:Type}{xs:List α}{i:Nat}{x:α}(h:xs[i]? = some x):xs.take (i+1)=xs.take i ++ [x]:=by
 obtain⟨hi,e⟩:=List.getElem?_eq_some_iff.mp h
 rw[List.take_succ_eq_append_getElem hi,e]
def sg (c:Nat):Str:=⟨#[c]⟩
theorem str_ext {a b:Str}(h:a.cps.toList=b.cps.toList):a=b:=by
 cases a;cases b
 congr 1
 exact Array.toList_inj.mp h
theorem cat_list (a b:Str):(a++b).cps.toList=a.cps.toList++b.cps.toList:=by
 show(a.cps++b.cps).toList=_
 rw[Array.toList_append]
theorem first_sep {c:Nat}:∀{a b r s:List Nat},c∉a→c∉b→a++c::r=b++c::s→a=b∧r=s
 | [],[],_,_,_,_,h=>⟨rfl,(List.cons.inj h).2⟩
 | [],y::b,_,_,_,hb,h=>absurd (by rw[(List.cons.inj h).1];exact List.mem_cons_self) hb
 | x::a,[],_,_,ha,_,h=>absurd (by rw[←(List.cons.inj h).1];exact List.mem_cons_self) ha
 | x::a,y::b,_,_,ha,hb,h=>by
  obtain⟨e1,e2⟩:=List.cons.inj h
  obtain⟨e3,e4⟩:=first_sep (fun z=>ha (List.mem_cons_of_mem _ z)) (fun z=>hb (List.mem_cons_of_mem _ z)) e2
  exact⟨by rw[e1,e3],e4⟩
theorem join_cons {c:Nat}{p q:Str}{r:List Str}:(Str.join (sg c) (p::q::r)).cps.toList=p.cps.toList++c::(Str.join (sg c) (q::r)).cps.toList:=by
 show(p++sg c++Str.join (sg c) (q::r)).cps.toList=_
 rw[cat_list,cat_list,List.append_assoc];rfl
theorem join_inj {c:Nat}:∀{ps qs:List Str},ps ≠ []→qs ≠ []→(∀p∈ps,c∉p.cps.toList)→(∀q∈qs,c∉q.cps.toList)→Str.join (sg c) ps=Str.join (sg c) qs→ps=qs
 | [],_,h,_,_,_,_=>absurd rfl h
 | _,[],_,h,_,_,_=>absurd rfl h
 | [p],[q],_,_,_,_,h=>by rw[show p=q from h]
 | [p],q::q'::qs,_,_,hp,_,h=>by
  have e:=congrArg (fun x:Str=>x.cps.toList) h
  simp only[join_cons]at e
  exact absurd (by show c∈(Str.join (sg c) [p]).cps.toList;rw[e];exact List.mem_append_right _ List.mem_cons_self) (hp p List.mem_cons_self)
 | p::p'::ps,[q],_,_,_,hq,h=>by
  have e:=congrArg (fun x:Str=>x.cps.toList) h
  simp only[join_cons]at e
  exact absurd (by show c∈(Str.join (sg c) [q]).cps.toList;rw[← e];exact List.mem_append_right _ List.mem_cons_self) (hq q List.mem_cons_self)
 | p::p'::ps,q::q'::qs,_,_,hp,hq,h=>by
  have e:=congrArg (fun x:Str=>x.cps.toList) h
  simp only[join_cons]at e
  obtain⟨e1,e2⟩:=first_sep (hp p List.mem_cons_self) (hq q List.mem_cons_self) e
  have:=join_inj (ps:=p'::ps) (qs:=q'::qs) (by simp) (by simp) (fun x hx=>hp x (List.mem_cons_of_mem _ hx)) (fun x hx=>hq x (List.mem_cons_of_mem _ hx)) (str_ext e2)
  rw[str_ext e1,this]
theorem split_join {c:Nat}{ps:List Str}(h:ps ≠ []) (hf:∀p∈ps,c∉p.cps.toList):Txt.split (Str.join (sg c) ps) (sg c)=ps :=
 join_inj (fun z=>by have:=split_pos (Str.join (sg c) ps) (sg c);rw[z]at this;simp at this) h (StrLaws.split_free _ c) hf (StrLaws.join_split _ _)
theorem join_txt (c:Nat) (ps:List Str):Txt.join (sg c) ps=Str.join (sg c) ps:=StrLaws.glued_eq_join _ _
theorem partn_at {c:Nat}{a b:Str}(h:c∉a.cps.toList):Txt.partition (a++sg c++b) (sg c) =(a,sg c,b):=by
 have xl:(a++sg c++b).cps.toList=a.cps.toList++c::b.cps.toList:=by rw[cat_list,cat_list,List.append_assoc];rfl
 have sum:=StrLaws.partition_sum (a++sg c++b) (sg c)
 unfold Txt.partition at sum ⊢
 rcases StrLaws.occ_head (a++sg c++b) (sg c) 1 (Nat.le_refl 1) with⟨h0,hn⟩|⟨i,r,h0,hi,hn⟩
 ·refine absurd ((StrLaws.subAt_one _ c a.cps.toList.length).mpr ?_) (hn _)
  rw[xl,List.getElem?_append_right (Nat.le_refl _),Nat.sub_self];rfl
 ·rw[h0]at sum ⊢
  simp only at sum ⊢
  have e:=congrArg (fun x:Str=>x.cps.toList) sum
  simp only[cat_list,xl,List.append_assoc]at e
  have hfree:c∉(Builtin.Str.strSub (a++sg c++b) 0 i).cps.toList:=by
   intro hm
   obtain⟨j,hj⟩:=List.getElem?_of_mem hm
   rw[StrLaws.strSub_toList,List.drop_zero,Nat.sub_zero]at hj
   have jl:j<i:=by
    rcases Nat.lt_or_ge j i with z|z
    ·exact z
    ·rw[List.getElem?_take_eq_none z]at hj;cases hj
   rw[List.getElem?_take_of_lt jl]at hj
   exact hn j jl ((StrLaws.subAt_one _ c j).mpr hj)
  obtain⟨e1,e2⟩:=first_sep hfree h (show _++c::_=_ from e)
  rw[str_ext e1,str_ext e2]
def numT (n:Int):Str:=Str.ofString (toString n)
theorem numT_list (m:Nat):(numT (m:Int)).cps.toList =(Nat.toDigits 10 m).map Char.toNat:=PySem.W.KIN.signs_num m
theorem numT_dig {m:Nat}:∀c∈(numT (m:Int)).cps.toList,48≤c∧c≤57:=by
 intro c hc
 rw[numT_list]at hc
 obtain⟨ch,hch,e⟩:=List.mem_map.mp hc
 have r:=digit_range (Nat.isDigit_of_mem_toDigits (by decide) (by decide) hch)
 rw[← e];exact r
theorem numT_pos (m:Nat):1 ≤(numT (m:Int)).cps.toList.length:=by
 rw[numT_list,List.length_map];exact toDigits_len_ge 10 m
theorem numT_len {m:Nat}(h:m<10^19):(numT (m:Int)).cps.toList.length≤19:=by
 rw[numT_list,List.length_map];exact toDigits_len_pow (by decide) (by decide) h
theorem numT_reads {m:Nat}(h:m<10^19):PySem.intText? (numT (m:Int))=some (m:Int):=by
 have hd:PySem.NumText.AllDigits (numT (m:Int)).cps.toList:=fun c hc=>numT_dig c hc
 have hne:(numT (m:Int)).cps.toList ≠ []:=fun e=>by have:=numT_pos m;rw[e]at this;exact absurd this (by decide)
 have e:=PySem.intText_digits hd hne (Nat.le_trans (numT_len h) (by decide))
 rw[numT_list,PySem.W.KIN.val_back]at e
 exact e
theorem toDigits_head:∀(m:Nat),0<m→(Nat.toDigits 10 m).head? ≠ some '0':=by
 intro m
 induction m using Nat.strongRecOn with
 | _ m ih =>
  intro h0
  by_cases h:m<10
  ·rw[Nat.toDigits_of_lt_base h]
   have:∀m:Nat,m<10→0<m→[Nat.digitChar m].head? ≠ some '0':=by decide
   exact this m h h0
  ·have hm:m%10<10:=Nat.mod_lt m (by decide)
   have t:Nat.toDigits 10 (m / 10)++Nat.toDigits 10 (m%10)=Nat.toDigits 10 (10*(m / 10)+m%10):=Nat.toDigits_append_toDigits (by decide) (by omega) hm
   rw[Nat.div_add_mod]at t
   rw[← t]
   have ih:=ih (m / 10) (by omega) (by omega)
   have l:=toDigits_len_ge 10 (m / 10)
   cases e:Nat.toDigits 10 (m / 10) with
   | nil=>rw[e]at l;exact absurd l (by decide)
   | cons x r=>rw[e]at ih;exact ih
theorem numT_head {m:Nat}(h:0<m):(numT (m:Int)).cps.toList[0]? ≠ some 48:=by
 rw[numT_list,List.getElem?_map]
 have:=toDigits_head m h
 cases e:Nat.toDigits 10 m with
 | nil=>simp
 | cons x r =>
  rw[e]at this
  simp only[List.getElem?_cons_zero,Option.map_some,ne_eq,Option.some.injEq]
  intro z
  apply this
  rw[List.head?_cons]
  congr 1
  exact Char.toNat_inj.mp z
theorem numT_zero:numT 0=Str.ofString "0" := rfl
structure TL (R:V→PyData→List Addr→Prop) (xs:List V) (ds:List PyData) (fs:List (List Addr)):Prop where
 l1:xs.length=ds.length
 l2:ds.length=fs.length
 at':∀(i:Nat) (x:V) (d:PyData) (f:List Addr),xs[i]? = some x→ds[i]? = some d→fs[i]? = some f→R x d f
def TLf (v:V) (d:PyData):Prop:=(∃i:Int,v = .int i∧d = .int i) ∨(∃z:Str,v = .str z∧d = .str z∧PyData.strOk z=true)
def TD (H:Hp):Nat→V→PyData→List Addr→Prop
 | 0=>fun v d fp=>TLf v d∧fp=[]
 | n+1=>fun v d fp=>(TLf v d∧fp=[]) ∨(∃t xs ds fs,v = .ref t∧d = .tuple ds∧fp=fs.flatten∧H t=some (.tup xs)∧xs.length≤1000∧TL (TD H n) xs ds fs) ∨(∃l xs ds fs,v = .ref l∧d = .list ds∧fp=l::fs.flatten∧H l=some (.lst xs)∧xs.length≤1000∧TL (TD H n) xs ds fs)
section
variable {R R':V→PyData→List Addr→Prop}{xs ys:List V}{ds es:List PyData}{fs gs:List (List Addr)}{H H':Hp}{n i:Nat}{v x:V}{d:PyData}{f fp:List Addr}
theorem TL.nil:TL R [] [] []:=⟨rfl,rfl,fun i x d f e=>by simp at e⟩
theorem TL.get (h:TL R xs ds fs) (e:xs[i]? = some x):∃d f,ds[i]? = some d∧fs[i]? = some f∧R x d f:=by
 have il:=(List.getElem?_eq_some_iff.mp e).1
 have a:=h.l1;have b:=h.l2
 exact⟨_,_,List.getElem?_eq_getElem (by omega),List.getElem?_eq_getElem (by omega),h.at' i _ _ _ e (List.getElem?_eq_getElem (by omega)) (List.getElem?_eq_getElem (by omega))⟩
theorem mem_flat (e:fs[i]? = some f) {b:Addr}(h:b∈f):b∈fs.flatten:=List.mem_flatten.mpr ⟨f,List.mem_of_getElem? e,h⟩
theorem TL.imp (h:TL R xs ds fs) (g:∀x d f,f∈fs→R x d f→R' x d f):TL R' xs ds fs:=⟨h.l1,h.l2,fun i x d f e1 e2 e3=>g x d f (List.mem_of_getElem? e3) (h.at' i x d f e1 e2 e3)⟩
theorem TL.snoc (h:TL R xs ds fs) (r:R x d f):TL R (xs ++ [x]) (ds ++ [d]) (fs ++ [f]):=by
 refine⟨by simp[h.l1],by simp[h.l2],fun i y e g h1 h2 h3=>?_⟩
 have a:=h.l1;have b:=h.l2
 by_cases c:i<xs.length
 ·rw[List.getElem?_append_left c]at h1
  rw[List.getElem?_append_left (by omega)]at h2 h3
  exact h.at' i y e g h1 h2 h3
 ·have il:=(List.getElem?_eq_some_iff.mp h1).1
  rw[List.length_append,List.length_singleton]at il
  have ei:i=xs.length:=by omega
  subst ei
  rw[List.getElem?_append_right (Nat.le_refl _),Nat.sub_self]at h1
  rw[a,List.getElem?_append_right (Nat.le_refl _),Nat.sub_self]at h2
  rw[a,b,List.getElem?_append_right (Nat.le_refl _),Nat.sub_self]at h3
  cases h1;cases h2;cases h3
  exact r
theorem TLf.keep (h:TLf v d):TD H n v d []:=by
 cases n with
 | zero=>exact⟨h,rfl⟩
 | succ n=>exact .inl ⟨h,rfl⟩
theorem TD.int (i:Int):TD H n (.int i) (.int i) []:=TLf.keep (.inl ⟨i,rfl,rfl⟩)
theorem TD.str {z:Str}(h:PyData.strOk z=true):TD H n (.str z) (.str z) []:=TLf.keep (.inr ⟨z,rfl,rfl,h⟩)
theorem TD.keep:∀{n:Nat}{v:V}{d:PyData}{fp:List Addr},TD H n v d fp→(∀b o,H b=some o→(b∈fp ∨ ∃xs,o = .tup xs)→H' b=some o)→TD H' n v d fp
 | 0,_,_,_,h,_=>h
 | n+1,v,d,fp,h,k=>by
  rcases h with h|⟨t,xs,ds,fs,rfl,rfl,rfl,h1,h2,h3⟩|⟨l,xs,ds,fs,rfl,rfl,rfl,h1,h2,h3⟩
  ·exact .inl h
  ·exact .inr (.inl ⟨t,xs,ds,fs,rfl,rfl,rfl,k _ _ h1 (.inr ⟨_,rfl⟩),h2,h3.imp fun x d f hf r=>TD.keep r fun b o e z=>k b o e (z.imp (fun hb=>List.mem_flatten.mpr ⟨f,hf,hb⟩) id)⟩)
  ·exact .inr (.inr ⟨l,xs,ds,fs,rfl,rfl,rfl,k _ _ h1 (.inl List.mem_cons_self),h2,h3.imp fun x d f hf r=>TD.keep r fun b o e z=>k b o e (z.imp (fun hb=>List.mem_cons_of_mem _ (List.mem_flatten.mpr ⟨f,hf,hb⟩)) id)⟩)
theorem TD.same (s:Same H H') (h:TD H n v d fp):TD H' n v d fp:=TD.keep h fun b o e _=>s b o e
theorem TD.is:∀{n:Nat}{v:V}{d:PyData}{fp:List Addr},TD H n v d fp→∀b∈fp,∃xs,H b=some (.lst xs)
 | 0,_,_,_,h,b,hb=>by rw[h.2]at hb;cases hb
 | n+1,v,d,fp,h,b,hb=>by
  rcases h with⟨_,rfl⟩|⟨t,xs,ds,fs,rfl,rfl,rfl,h1,h2,h3⟩|⟨l,xs,ds,fs,rfl,rfl,rfl,h1,h2,h3⟩
  ·cases hb
  ·obtain⟨f,hf,hb⟩:=List.mem_flatten.mp hb
   obtain⟨i,hi⟩:=List.getElem?_of_mem hf
   have il:=(List.getElem?_eq_some_iff.mp hi).1
   have a:=h3.l1;have c:=h3.l2
   exact TD.is (h3.at' i _ _ f (List.getElem?_eq_getElem (by omega)) (List.getElem?_eq_getElem (by omega)) hi) b hb
  ·rcases List.mem_cons.mp hb with rfl|hb
   ·exact⟨xs,h1⟩
   ·obtain⟨f,hf,hb⟩:=List.mem_flatten.mp hb
    obtain⟨i,hi⟩:=List.getElem?_of_mem hf
    have il:=(List.getElem?_eq_some_iff.mp hi).1
    have a:=h3.l1;have c:=h3.l2
    exact TD.is (h3.at' i _ _ f (List.getElem?_eq_getElem (by omega)) (List.getElem?_eq_getElem (by omega)) hi) b hb
theorem TD.upd {D:Addr}{ys:List V}{o:HO}(h:TD H n v d fp) (hD:H D=some (.lst ys)) (nD:D∉fp):TD (L2.upd H D o) n v d fp:=TD.keep h fun b o' e z=>by
 rw[upd_ne];· exact e
 rintro rfl
 rcases z with z|⟨xs,rfl⟩
 ·exact nD z
 ·rw[hD]at e;cases e
theorem TD.asL (h:TD H (n+1) v (.list ds) fp):∃l xs fs,v = .ref l∧fp=l::fs.flatten∧H l=some (.lst xs)∧xs.length≤1000∧TL (TD H n) xs ds fs:=by
 rcases h with⟨⟨i,_,e⟩|⟨z,_,e,_⟩,_⟩|⟨t,xs,es,fs,_,e,_⟩|⟨l,xs,es,fs,h1,e,h2,h3,h4,h5⟩
 ·cases e
 ·cases e
 ·cases e
 ·cases e;exact⟨l,xs,fs,h1,h2,h3,h4,h5⟩
theorem TD.asT (h:TD H (n+1) v (.tuple ds) fp):∃t xs fs,v = .ref t∧fp=fs.flatten∧H t=some (.tup xs)∧xs.length≤1000∧TL (TD H n) xs ds fs:=by
 rcases h with⟨⟨i,_,e⟩|⟨z,_,e,_⟩,_⟩|⟨t,xs,es,fs,h1,e,h2,h3,h4,h5⟩|⟨l,xs,es,fs,h1,e,h2,h3,h4,h5⟩
 ·cases e
 ·cases e
 ·cases e;exact⟨t,xs,fs,h1,h2,h3,h4,h5⟩
 ·cases e
theorem TD.asI {i:Int}(h:TD H n v (.int i) fp):v = .int i∧fp=[]:=by
 have f:∀{v fp},TLf v (.int i)∧fp =([]:List Addr)→v = .int i∧fp=[]:=by
  rintro v fp ⟨⟨j,rfl,e⟩|⟨z,_,e,_⟩,rfl⟩
  ·cases e;exact⟨rfl,rfl⟩
  ·cases e
 cases n with
 | zero=>exact f h
 | succ n =>
  rcases h with h|⟨t,xs,es,fs,h1,e,_⟩|⟨l,xs,es,fs,h1,e,_⟩
  ·exact f h
  ·cases e
  ·cases e
theorem TD.asS {z:Str}(h:TD H n v (.str z) fp):v = .str z∧fp=[]:=by
 have f:∀{v fp},TLf v (.str z)∧fp =([]:List Addr)→v = .str z∧fp=[]:=by
  rintro v fp ⟨⟨j,rfl,e⟩|⟨z,rfl,e,_⟩,rfl⟩
  ·cases e
  ·cases e;exact⟨rfl,rfl⟩
 cases n with
 | zero=>exact f h
 | succ n =>
  rcases h with h|⟨t,xs,es,fs,h1,e,_⟩|⟨l,xs,es,fs,h1,e,_⟩
  ·exact f h
  ·cases e
  ·cases e
theorem flat_apart (nd:fs.flatten.Nodup) (e:fs[i]? = some f):(∀b∈f,b∉(fs.take i).flatten)∧f.Nodup∧(fs.take (i+1)).flatten =(fs.take i).flatten++f:=by
 have il:=(List.getElem?_eq_some_iff.mp e).1
 have ef:=(List.getElem?_eq_some_iff.mp e).2
 have s1:(fs.take (i+1)).flatten =(fs.take i).flatten++f:=by
  rw[List.take_succ_eq_append_getElem il,ef,List.flatten_append];simp
 have s2:((fs.take i).flatten++f).Nodup:=by
  rw[← s1]
  refine nd.sublist ?_
  conv=>rhs;rw[← List.take_append_drop (i+1) fs,List.flatten_append]
  exact List.sublist_append_left _ _
 obtain⟨_,n2,n3⟩:=List.nodup_append.mp s2
 exact⟨fun b hb hc=>n3 b hc b hb rfl,n2,s1⟩
end
structure Gw (H0:Hp) (D:Addr) (j:Nat) (ys:List V) (ds:List PyData) (gs:List (List Addr)) (H:Hp):Prop where
 tl:TL (TD H j) ys ds gs
 nd:gs.flatten.Nodup
 fr:∀b∈gs.flatten,H0 b=none
 nD:D∉gs.flatten
 lat:H D=some (.lst ys)
section
variable {H0 H H':Hp}{D:Addr}{j:Nat}{ys:List V}{ds:List PyData}{gs:List (List Addr)}{v:V}{d:PyData}{f:List Addr}
theorem Gw.nil (h:H D=some (.lst [])):Gw H0 D j [] [] [] H:=⟨TL.nil,List.nodup_nil,fun _ z=>(by cases z),fun z=>(by cases z),h⟩
theorem TL.is (h:TL (TD H j) ys ds gs):∀b∈gs.flatten,∃xs,H b=some (.lst xs):=fun b hb=>by
 obtain⟨f,hf,hb⟩:=List.mem_flatten.mp hb
 obtain⟨i,hi⟩:=List.getElem?_of_mem hf
 have il:=(List.getElem?_eq_some_iff.mp hi).1
 have a:=h.l1;have c:=h.l2
 exact TD.is (h.at' i _ _ f (List.getElem?_eq_getElem (by omega)) (List.getElem?_eq_getElem (by omega)) hi) b hb
theorem TL.keep (h:TL (TD H j) ys ds gs) (k:∀b o,H b=some o→(b∈gs.flatten ∨ ∃xs,o = .tup xs)→H' b=some o):TL (TD H' j) ys ds gs:=h.imp fun x d f hf r=>TD.keep r fun b o e z=>k b o e (z.imp (fun hb=>List.mem_flatten.mpr ⟨f,hf,hb⟩) id)
theorem Gw.keep (g:Gw H0 D j ys ds gs H) (k:∀b o,H b=some o→(b=D∨b∈gs.flatten ∨ ∃xs,o = .tup xs)→H' b=some o):Gw H0 D j ys ds gs H':=⟨g.tl.keep fun b o e z=>k b o e (.inr z),g.nd,g.fr,g.nD,k _ _ g.lat (.inl rfl)⟩
theorem Gw.same (g:Gw H0 D j ys ds gs H) (s:Same H H'):Gw H0 D j ys ds gs H':=g.keep fun b o e _=>s b o e
theorem Gw.push (g:Gw H0 D j ys ds gs H) (k:∀b o,H b=some o→(b=D∨b∈gs.flatten ∨ ∃xs,o = .tup xs)→H' b=some o) (td:TD H' j v d f) (nf:f.Nodup) (fr:∀b∈f,H b=none) (fr0:∀b∈f,H0 b=none):Gw H0 D j (ys ++ [v]) (ds ++ [d]) (gs ++ [f]) (upd H' D (.lst (ys ++ [v]))):=by
 have g':=g.keep k
 have nDf:D∉f:=fun h=>by have:=fr D h;rw[g.lat]at this;cases this
 have e:(gs ++ [f]).flatten=gs.flatten++f:=by rw[List.flatten_append];simp
 refine⟨TL.snoc (g'.tl.imp fun x d f' hf r=>r.upd g'.lat fun h=>g.nD (List.mem_flatten.mpr ⟨f',hf,h⟩)) (td.upd g'.lat nDf),?_,fun b hb=>?_,?_,upd_same⟩
 ·rw[e,List.nodup_append]
  refine⟨g.nd,nf,fun a ha b hb z=>?_⟩
  subst z
  obtain⟨xs,h⟩:=g.tl.is a ha
  rw[fr a hb]at h;cases h
 ·rw[e]at hb
  rcases List.mem_append.mp hb with h|h
  ·exact g.fr b h
  ·exact fr0 b h
 ·rw[e]
  intro h
  rcases List.mem_append.mp h with h|h
  ·exact g.nD h
  ·exact nDf h
theorem Gw.done (g:Gw H0 D j ys ds gs H) (l:ys.length≤1000):TD H (j+1) (.ref D) (.list ds) (D::gs.flatten)∧(D::gs.flatten).Nodup:=⟨.inr (.inr ⟨D,ys,ds,gs,rfl,rfl,rfl,g.lat,l,g.tl⟩),List.nodup_cons.mpr ⟨g.nD,g.nd⟩⟩
end
theorem TD.leafT {K:PySem.W.Frag}{v:V}{d:PyData}(h:TLf v d):(∃t,(∀H,TyOf K H v t)∧PySem.W.kitOne K t (.type "list")=some false∧PySem.W.kitOne K t (.type "tuple")=some false∧PySem.W.kitAny K t [.type "list",.type "tuple"]=some false∧PySem.W.kitOne K t (.type "bool")=some false)∧(∀H,DV K H v d)∧SeqAt.shaped d=true∧PyData.eqv d d=true:=by
 rcases h with⟨i,rfl,rfl⟩|⟨z,rfl,rfl,hz⟩
 ·exact⟨⟨_,fun _=>.int i,rfl,rfl,rfl,rfl⟩,fun _=>.int i,rfl,SeqAt.eqv_refl _ rfl⟩
 ·have c:PyData.canLay0 (.str z)=true:=by rw[PyData.canLay0];exact hz
  exact⟨⟨_,fun _=>.str z,rfl,rfl,rfl,rfl⟩,fun _=>.str z,by simp[SeqAt.shaped,c,PyData.depth],SeqAt.eqv_refl _ c⟩
theorem TD.ways {H:Hp}{n:Nat}{v:V}{d:PyData}{fp:List Addr}(h:TD H n v d fp):(TLf v d∧fp=[]) ∨(∃j t xs ds fs,n=j+1∧v = .ref t∧d = .tuple ds∧fp=fs.flatten∧H t=some (.tup xs)∧xs.length≤1000∧TL (TD H j) xs ds fs) ∨(∃j l xs ds fs,n=j+1∧v = .ref l∧d = .list ds∧fp=l::fs.flatten∧H l=some (.lst xs)∧xs.length≤1000∧TL (TD H j) xs ds fs):=by
 cases n with
 | zero=>exact .inl h
 | succ j =>
  rcases h with h|⟨t,xs,ds,fs,h⟩|⟨t,xs,ds,fs,h⟩
  ·exact .inl h
  ·exact .inr (.inl ⟨j,t,xs,ds,fs,rfl,h⟩)
  ·exact .inr (.inr ⟨j,t,xs,ds,fs,rfl,h⟩)
def spr__law_copy (K:PySem.W.Frag):Nat→Sp
 | 0=>fun _ _ _ _=>False
 | j+1=>fun vs H Q _=>∃(v:V) (d:PyData) (fp:List Addr),vs=[v]∧TD H j v d fp∧∀(v':V) (fp':List Addr) (H':Hp),TD H' j v' d fp'→fp'.Nodup→(∀b∈fp',H b=none)→Same H H'→Q v' H'
def sp__law_copy (K:PySem.W.Frag):Sp:=spr__law_copy K 6
def spr__law_same (K:PySem.W.Frag):Nat→Sp
 | 0=>fun _ _ _ _=>False
 | j+1=>fun vs H Q _=>∃(v u:V) (d:PyData) (f g:List Addr),vs=[v,u]∧TD H j v d f∧TD H j u d g∧∀(H':Hp),Same H H'→Q (.bl true) H'
def sp__law_same (K:PySem.W.Frag):Sp:=spr__law_same K 6
def spr__law_spoil (K:PySem.W.Frag):Nat→Sp
 | 0=>fun _ _ _ _=>False
 | j+1=>fun vs H Q _=>∃(v:V) (d:PyData) (fp:List Addr),vs=[v]∧TD H j v d fp∧fp.Nodup∧∀(H':Hp),(∀b o,b∉fp→H b=some o→H' b=some o)→Q .non H'
def sp__law_spoil (K:PySem.W.Frag):Sp:=spr__law_spoil K 6
abbrev Row:=List (Int×Str)
def eD (e:Int×Str):PyData:=.tuple [.int e.1,.str e.2]
def rowD (es:Row):PyData:=.list (es.map eD)
def rowsD (rs:List Row):PyData:=.list (rs.map rowD)
def okE (e:Int×Str):Prop:=0≤e.1∧e.1<1152921504606846976∧nm e.2
def okR (es:Row):Prop:=(∀e∈es,okE e)∧es.length≤130
def okRs (rs:List Row):Prop:=(∀r∈rs,okR r)∧rs.length≤140
def entT (e:Int×Str):Str:=numT e.1++sg 61++e.2
def rowT (es:Row):Str:=if es=[] then sg 45 else Str.join (sg 44) (es.map entT)
def rowsT (rs:List Row):Str:=if rs=[] then Str.ofString "none" else Str.join (sg 59) (rs.map rowT)
theorem okE.num {e:Int×Str}(h:okE e):∃m:Nat,e.1 =(m:Int)∧m<10^19:=⟨e.1.toNat,by have:=h.1;omega,by have:=h.2.1;omega⟩
theorem join_len (c:Nat):∀ps:List Str,(Str.join (sg c) ps).length ≤(ps.map (·.length)).sum+ps.length
 | []=>Nat.zero_le _
 | [p]=>by simp[Str.join]
 | p::q::r=>by
  have:=join_len c (q::r)
  show(p++sg c++Str.join (sg c) (q::r)).length≤_
  rw[str_applen,str_applen,List.map_cons,List.sum_cons,List.length_cons,show(sg c).length=1 from rfl]
  omega
theorem join_mem {c x:Nat}:∀{ps:List Str},x∈(Str.join (sg c) ps).cps.toList→x=c ∨ ∃p∈ps,x∈p.cps.toList
 | [],h=>by cases h
 | [p],h=>.inr ⟨p,List.mem_cons_self,h⟩
 | p::q::r,h=>by
  rw[join_cons]at h
  rcases List.mem_append.mp h with h|h
  ·exact .inr ⟨p,List.mem_cons_self,h⟩
  ·rcases List.mem_cons.mp h with h|h
   ·exact .inl h
   ·exact(join_mem h).imp id fun⟨y,hy,z⟩=>⟨y,List.mem_cons_of_mem _ hy,z⟩
theorem join_head {c x:Nat}{p:Str}{r:List Str}(h:p.cps.toList[0]? = some x):(Str.join (sg c) (p::r)).cps.toList[0]? = some x:=by
 cases r with
 | nil=>exact h
 | cons q r =>
  rw[join_cons]
  have l:=(List.getElem?_eq_some_iff.mp h).1
  rw[List.getElem?_append_left l];exact h
theorem sum_le {α:Type}{f:α→Nat}{B:Nat}:∀{l:List α},(∀x∈l,f x≤B)→(l.map f).sum≤B*l.length
 | [],_=>by simp
 | x::l,h=>by
  have a:=h x List.mem_cons_self
  have b:=sum_le (l:=l) fun y hy=>h y (List.mem_cons_of_mem _ hy)
  rw[List.map_cons,List.sum_cons,List.length_cons,Nat.mul_succ];omega
theorem numT_length {e:Int}{m:Nat}(h:e =(m:Int)) (hm:m<10^19):(numT e).length≤19:=by
 subst h
 have:=numT_len hm
 rw[Array.length_toList]at this
 exact this
theorem entT_len {e:Int×Str}(h:okE e):(entT e).length≤28:=by
 obtain⟨m,h1,h2⟩:=h.num
 have a:=numT_length h1 h2
 have b:=h.2.2.2.1
 unfold entT
 rw[str_applen,str_applen,show(sg 61).length=1 from rfl];omega
theorem entT_sg {e:Int×Str}(h:okE e):∀c∈(entT e).cps.toList,(48≤c∧c≤57)∨c=61 ∨(97≤c∧c≤122):=by
 intro c hc
 obtain⟨m,h1,h2⟩:=h.num
 unfold entT at hc
 rw[cat_list,cat_list]at hc
 rcases List.mem_append.mp hc with hc|hc
 ·rcases List.mem_append.mp hc with hc|hc
  ·rw[h1]at hc;exact .inl (numT_dig c hc)
  ·exact .inr (.inl (by simpa [sg] using hc))
 ·exact .inr (.inr (h.2.2.2.2 c (by simpa using hc)))
theorem entT_head {e:Int×Str}(h:okE e):∃c,(entT e).cps.toList[0]? = some c∧48≤c∧c≤57:=by
 obtain⟨m,h1,h2⟩:=h.num
 have p:=numT_pos m
 unfold entT
 rw[cat_list,cat_list,h1,List.append_assoc,List.getElem?_append_left (by omega),List.getElem?_eq_getElem (by omega)]
 exact⟨_,rfl,numT_dig _ (List.getElem_mem _)⟩
theorem rowT_len {es:Row}{B:Nat}(h:∀e∈es,okE e) (l:es.length≤B):(rowT es).length≤29*B+1:=by
 unfold rowT
 split
 ·show 1≤_;omega
 ·have a:=join_len 44 (es.map entT)
  have b:=sum_le (f:=fun e=>(entT e).length) (B:=28) (l:=es) fun e he=>entT_len (h e he)
  rw[List.map_map]at a
  rw[show(es.map ((fun x:Str=>x.length) ∘ entT)).sum =(es.map fun e=>(entT e).length).sum from rfl,List.length_map]at a
  omega
theorem rowT_sg {es:Row}(h:∀e∈es,okE e):∀c∈(rowT es).cps.toList,(48≤c∧c≤57)∨c=61 ∨(97≤c∧c≤122)∨c=44∨c=45:=by
 intro c hc
 unfold rowT at hc
 split at hc
 ·have:c=45:=by simpa [sg] using hc
  omega
 ·rcases join_mem hc with e|⟨p,hp,hc⟩
  ·omega
  ·obtain⟨e,he,rfl⟩:=List.mem_map.mp hp
   rcases entT_sg (h e he) c hc with z|z|z
   ·exact .inl z
   ·exact .inr (.inl z)
   ·exact .inr (.inr (.inl z))
theorem rowT_head {es:Row}(h:∀e∈es,okE e):∃c,(rowT es).cps.toList[0]? = some c∧((c=45∧es=[]) ∨(48≤c∧c≤57∧es ≠ [])):=by
 unfold rowT
 split
 ·rename_i e;exact⟨45,rfl,.inl ⟨rfl,e⟩⟩
 ·rename_i n
  cases es with
  | nil=>exact absurd rfl n
  | cons e r =>
   obtain⟨c,hc,c1,c2⟩:=entT_head (h e List.mem_cons_self)
   exact⟨c,join_head hc,.inr ⟨c1,c2,n⟩⟩
theorem rowT_dash {es:Row}(h:∀e∈es,okE e):decide (rowT es=sg 45)=decide (es=[]):=by
 obtain⟨c,hc,z⟩:=rowT_head h
 by_cases n:es=[]
 ·subst n;rfl
 ·rw[decide_eq_false n,decide_eq_false]
  intro e
  rw[e]at hc
  have:c=45:=by simpa [sg] using hc.symm
  rcases z with z|z
  ·exact n z.2
  ·omega
theorem rowsT_none {rs:List Row}(h:∀r∈rs,∀e∈r,okE e):decide (rowsT rs=Str.ofString "none")=decide (rs=[]):=by
 unfold rowsT
 by_cases n:rs=[]
 ·rw[if_pos n,decide_eq_true rfl,decide_eq_true n]
 ·rw[if_neg n,decide_eq_false n,decide_eq_false]
  intro e
  cases rs with
  | nil=>exact n rfl
  | cons r t =>
   obtain⟨c,hc,z⟩:=rowT_head (h r List.mem_cons_self)
   have:=join_head (c:=59) (r:=t.map rowT) hc
   rw[show rowT r::t.map rowT =(r::t).map rowT from rfl,e]at this
   have e2:((Str.ofString "none").cps.toList)[0]? = some 110:=by decide
   rw[e2]at this
   have:=Option.some.inj this
   omega
theorem rowsT_len {rs:List Row}{B C:Nat}(h:∀r∈rs,(rowT r).length≤B) (l:rs.length≤C):(rowsT rs).length ≤(B+1)*C+4:=by
 unfold rowsT
 split
 ·show(Str.ofString "none").length≤_
  rw[show(Str.ofString "none").length=4 by decide];omega
 ·have a:=join_len 59 (rs.map rowT)
  have b:=sum_le (f:=fun r=>(rowT r).length) (B:=B) (l:=rs) h
  rw[List.map_map]at a
  rw[show(rs.map ((fun x:Str=>x.length) ∘ rowT)).sum =(rs.map fun e=>(rowT e).length).sum from rfl,List.length_map]at a
  have c:(B+1)*rs.length ≤(B+1)*C:=Nat.mul_le_mul_left _ l
  rw[Nat.add_mul]at c
  omega
theorem rowsT_sg {rs:List Row}(h:∀r∈rs,∀e∈r,okE e):32∉(rowsT rs).cps.toList:=by
 unfold rowsT
 split
 ·decide
 ·intro hc
  rcases join_mem hc with e|⟨p,hp,hc⟩
  ·omega
  ·obtain⟨r,hr,rfl⟩:=List.mem_map.mp hp
   have:=rowT_sg (h r hr) 32 hc
   omega
theorem row_split {es:Row}(h:∀e∈es,okE e) (n:es ≠ []):Txt.split (rowT es) (sg 44)=es.map entT:=by
 unfold rowT
 rw[if_neg n]
 refine split_join (fun z=>n (List.map_eq_nil_iff.mp z)) fun p hp hc=>?_
 obtain⟨e,he,rfl⟩:=List.mem_map.mp hp
 have:=entT_sg (h e he) 44 hc
 omega
theorem rows_split {rs:List Row}(h:∀r∈rs,∀e∈r,okE e) (n:rs ≠ []):Txt.split (rowsT rs) (sg 59)=rs.map rowT:=by
 unfold rowsT
 rw[if_neg n]
 refine split_join (fun z=>n (List.map_eq_nil_iff.mp z)) fun p hp hc=>?_
 obtain⟨r,hr,rfl⟩:=List.mem_map.mp hp
 have:=rowT_sg (h r hr) 59 hc
 omega
theorem ent_part {e:Int×Str}(h:okE e):Txt.partition (entT e) (sg 61) =(numT e.1,sg 61,e.2):=by
 obtain⟨m,h1,_⟩:=h.num
 refine partn_at fun hc=>?_
 rw[h1]at hc
 have:=numT_dig 61 hc
 omega
theorem s_comma:Str.ofString "," = sg 44:=by decide
theorem s_semi:Str.ofString ";" = sg 59:=by decide
theorem s_eq:Str.ofString "=" = sg 61:=by decide
theorem s_dash:Str.ofString "-" = sg 45:=by decide
theorem s_sp:Str.ofString " " = sg 32:=by decide
def sp_ask_text (K:PySem.W.Frag):Sp:=fun vs H Q _=>∃(z:Str),vs=[.str z]∧Q .non H
def sp_is_number (K:PySem.W.Frag):Sp:=fun vs H Q _=>∃(m:Nat),vs=[.str (numT m)]∧m<10^19∧∀H',Same H H'→Q (.bl true) H'
def sp_read_number (K:PySem.W.Frag):Sp:=fun vs H Q _=>∃(m:Nat) (lo hi:Int),vs=[.str (numT m),.int lo,.int hi]∧m<10^19∧lo≤m∧m≤hi∧∀H',Same H H'→Q (.int m) H'
def sp_read_words (K:PySem.W.Frag):Sp:=fun vs H Q _=>∃(z:Str),vs=[.str z]∧z.length+2≤sizeLine∧∀l,H l=none→Q (.ref l) (upd H l (.lst ((Txt.split z (sg 32)).map V.str)))
def sp_read_entry (K:PySem.W.Frag):Sp:=fun vs H Q _=>∃(e:Int×Str),vs=[.str (entT e)]∧okE e∧∀(t:Addr) (H':Hp),H' t=some (.tup [.int e.1,.str e.2])→Same H H'→Q (.ref t) H'
def sp_read_row (K:PySem.W.Frag):Sp:=fun vs H Q _=>∃(es:Row),vs=[.str (rowT es)]∧okR es∧∀(v:V) (fp:List Addr) (H':Hp),TD H' 2 v (rowD es) fp→fp.Nodup→(∀b∈fp,H b=none)→Same H H'→Q v H'
def sp_read_rows (K:PySem.W.Frag):Sp:=fun vs H Q _=>∃(rs:List Row),vs=[.str (rowsT rs)]∧okRs rs∧∀(v:V) (fp:List Addr) (H':Hp),TD H' 3 v (rowsD rs) fp→fp.Nodup→(∀b∈fp,H b=none)→Same H H'→Q v H'
def sp_show_row (K:PySem.W.Frag):Sp:=fun vs H Q _=>∃(v:V) (es:Row) (fp:List Addr),vs=[v]∧TD H 2 v (rowD es) fp∧okR es∧∀H',Same H H'→Q (.str (rowT es)) H'
def sp_show_rows (K:PySem.W.Frag):Sp:=fun vs H Q _=>∃(v:V) (rs:List Row) (fp:List Addr),vs=[v]∧TD H 3 v (rowsD rs) fp∧okRs rs∧∀H',Same H H'→Q (.str (rowsT rs)) H'
theorem TD.ent {H:Hp}{n:Nat}{v:V}{e:Int×Str}{fp:List Addr}(h:TD H (n+1) v (eD e) fp):∃t,v = .ref t∧H t=some (.tup [.int e.1,.str e.2])∧fp=[]:=by
 obtain⟨t,xs,fs,rfl,rfl,h1,h2,h3⟩:=TD.asT h
 have a:=h3.l1;have b:=h3.l2
 match xs,fs,a,b with
 | [x,y],[f,g],_,_ =>
  obtain⟨e1,e2⟩:=TD.asI (h3.at' 0 x _ f rfl rfl rfl)
  obtain⟨e3,e4⟩:=TD.asS (h3.at' 1 y _ g rfl rfl rfl)
  subst e1 e2 e3 e4
  exact⟨t,rfl,h1,rfl⟩
theorem TD.ofEnt {H:Hp}{n:Nat}{t:Addr}{e:Int×Str}(h:H t=some (.tup [.int e.1,.str e.2])) (ok:PyData.strOk e.2=true):TD H (n+1) (.ref t) (eD e) []:=by
 refine .inr (.inl ⟨t,_,_,[[],[]],rfl,rfl,rfl,h,(by show 2≤1000;decide),⟨rfl,rfl,fun i x d f e1 e2 e3=>?_⟩⟩)
 match i with
 | 0=>cases e1;cases e2;cases e3;exact TD.int _
 | 1=>cases e1;cases e2;cases e3;exact TD.str ok
 | i+2=>simp at e1
theorem lo48 (c:Nat) (h1:48≤c) (h2:c≤57):(!decide ([c] < [48]))=true∧(!decide ([57] < [c]))=true:=by
 have h:∀c,c<58→48≤c→(!decide ([c] < [48]))=true∧(!decide ([57] < [c]))=true:=by decide +kernel
 exact h c (by omega) h1
theorem rd_eqZ {H:Hp}{Q:VK}{i j:Str}(q:Q (.bl (decide (i=j))) H):rEq (.str i) (.str j) H Q:=⟨rfl,by
 have e:decide (V.str i=V.str j)=decide (i=j):=by rw[Bool.eq_iff_iff];simp
 rw[e];exact q⟩
theorem rd_neZ {H:Hp}{Q:VK}{i j:Str}(q:Q (.bl (!decide (i=j))) H):rNe (.str i) (.str j) H Q:=⟨rfl,by
 have e:decide (V.str i=V.str j)=decide (i=j):=by rw[Bool.eq_iff_iff];simp
 rw[e];exact q⟩
theorem log_small {m:Nat}(h:m<10^19):(m:Int).natAbs.log2<1920:=by
 rw[Int.natAbs_natCast]
 rcases Nat.lt_or_ge m.log2 1920 with z|z
 ·exact z
 ·exfalso
  have h0:m≠0:=fun e=>by subst e;simp at z
  have:=(Nat.le_log2 h0).mp z
  have b:(2:Nat)^64≤2^1920:=Nat.pow_le_pow_right (by decide) (by decide)
  have c:(10:Nat)^19<2^64:=by decide
  omega
inductive Stp where
 | row (r a:Nat) (es:Row)
 | cut (r m:Nat)
 | rooms (n:Nat)
def wRow:Str:=Str.ofString "row"
def wCut:Str:=Str.ofString "cut"
def wRooms:Str:=Str.ofString "rooms"
def stepD:Stp→PyData
 | .row r a es=>.tuple [.str wRow,.int r,.int a,rowD es]
 | .cut r m=>.tuple [.str wCut,.int r,.int m]
 | .rooms n=>.tuple [.str wRooms,.int n]
def okS:Stp→Prop
 | .row r a es=>r≤130∧a≤130∧okR es
 | .cut r m=>r≤130∧m≤130
 | .rooms n=>1≤n∧n≤130
def wordsS:Stp→List Str
 | .row r a es=>[wRow,numT r,numT a,rowT es]
 | .cut r m=>[wCut,numT r,numT m]
 | .rooms n=>[wRooms,numT n]
def stepT (s:Stp):Str:=Str.join (sg 32) (wordsS s)
def heldD (hs:List (List Row)):PyData:=.list (hs.map rowsD)
def yardD (w r:Nat) (hs:List (List Row)):PyData:=.tuple [.int w,.int r,heldD hs]
def wordsY (w r:Nat) (hs:List (List Row)):List Str:=numT w::numT r::hs.map rowsT
def yardT (w r:Nat) (hs:List (List Row)):Str:=Str.join (sg 32) (wordsY w r hs)
structure okY (w r:Nat) (hs:List (List Row)):Prop where
 w1:1≤w
 w2:w≤8
 r1:1≤r
 r2:r≤130
 ok:∀rs∈hs,okRs rs
 hl:hs.length≤140
 sm:(hs.map fun rs=>(rowsT rs).length).sum≤1000000
 last:∀rs,hs.getLast? = some rs→rs ≠ []
theorem num32 (m:Nat):32∉(numT (m:Int)).cps.toList:=fun h=>by have:=numT_dig 32 h;omega
theorem row32 {es:Row}(h:okR es):32∉(rowT es).cps.toList:=fun z=>by have:=rowT_sg h.1 32 z;omega
theorem step_split {s:Stp}(h:okS s):Txt.split (stepT s) (sg 32)=wordsS s:=by
 refine split_join (by cases s <;> simp[wordsS]) fun p hp=>?_
 cases s with
 | row r a es =>
  have:p=wRow∨p=numT r∨p=numT a∨p=rowT es:=by simpa [wordsS] using hp
  rcases this with rfl|rfl|rfl|rfl
  ·decide
  ·exact num32 r
  ·exact num32 a
  ·exact row32 h.2.2
 | cut r m =>
  have:p=wCut∨p=numT r∨p=numT m:=by simpa [wordsS] using hp
  rcases this with rfl|rfl|rfl
  ·decide
  ·exact num32 r
  ·exact num32 m
 | rooms n =>
  have:p=wRooms∨p=numT n:=by simpa [wordsS] using hp
  rcases this with rfl|rfl
  ·decide
  ·exact num32 n
theorem yard_split {w r:Nat}{hs:List (List Row)}(h:okY w r hs):Txt.split (yardT w r hs) (sg 32)=wordsY w r hs:=by
 refine split_join (by simp[wordsY]) fun p hp=>?_
 rcases List.mem_cons.mp hp with rfl|hp
 ·exact num32 w
 rcases List.mem_cons.mp hp with rfl|hp
 ·exact num32 r
 obtain⟨rs,hr,rfl⟩:=List.mem_map.mp hp
 exact rowsT_sg fun r hr'=>((h.ok rs hr).1 r hr').1
theorem small130 {m:Nat}(h:m≤130):m<10^19:=by omega
theorem numT_l {m:Nat}(h:m≤130):(numT (m:Int)).length≤19:=numT_length rfl (small130 h)
theorem words_len {s:Stp}(h:okS s):((wordsS s).map (·.length)).sum≤4000:=by
 cases s with
 | row r a es =>
  have a1:=numT_l h.1;have a2:=numT_l h.2.1;have a3:=rowT_len h.2.2.1 h.2.2.2
  simp[wordsS,show wRow.length=3 by decide];omega
 | cut r m =>
  have a1:=numT_l h.1;have a2:=numT_l h.2
  simp[wordsS,show wCut.length=3 by decide];omega
 | rooms n =>
  have a1:=numT_l h.2
  simp[wordsS,show wRooms.length=5 by decide];omega
theorem stepT_len {s:Stp}(h:okS s):(stepT s).length≤4010:=by
 have a:=join_len 32 (wordsS s)
 have b:=words_len h
 have c:(wordsS s).length≤4:=by cases s <;> simp[wordsS]
 unfold stepT;omega
theorem wordsY_len {w r:Nat}{hs:List (List Row)}(h:okY w r hs):((wordsY w r hs).map (·.length)).sum≤1000038∧(wordsY w r hs).length≤142:=by
 have a1:=numT_l (m:=w) (by have:=h.w2;omega)
 have a2:=numT_l (m:=r) h.r2
 have a3:=h.sm
 have a4:=h.hl
 refine⟨?_,by simp[wordsY];omega⟩
 unfold wordsY
 rw[List.map_cons,List.map_cons,List.sum_cons,List.sum_cons,List.map_map]
 have:(hs.map ((fun x:Str=>x.length) ∘ rowsT)).sum≤1000000:=a3
 omega
theorem yardT_len {w r:Nat}{hs:List (List Row)}(h:okY w r hs):(yardT w r hs).length≤1000200:=by
 have a:=join_len 32 (wordsY w r hs)
 have b:=wordsY_len h
 unfold yardT;omega
theorem TL.gd {K:PySem.W.Frag}{H:Hp}{j:Nat}(ih:∀{v:V}{d:PyData}{fp:List Addr},TD H j v d fp→DV K H v d∧PyData.canLay0 d=true∧PyData.depth d≤j):∀{xs:List V}{ds:List PyData}{fs:List (List Addr)},TL (TD H j) xs ds fs→DVs K H xs ds∧PyData.canLayAll0 ds=true∧PyData.depthAll ds≤j
 | [],[],_,_=>⟨.nil,rfl,by simp[PyData.depthAll]⟩
 | [],_::_,_,h=>by cases h.l1
 | _::_,[],_,h=>by cases h.l1
 | x::xs,d::ds,[],h=>by cases h.l2
 | x::xs,d::ds,f::fs,h=>by
  have h0:=ih (h.at' 0 x d f rfl rfl rfl)
  have t:TL (TD H j) xs ds fs:=⟨by have:=h.l1;simpa using this,by have:=h.l2;simpa using this,fun i y e g e1 e2 e3=>h.at' (i+1) y e g (by simpa using e1) (by simpa using e2) (by simpa using e3)⟩
  have ht:=TL.gd ih t
  refine⟨.cons h0.1 ht.1,?_,?_⟩
  ·rw[PyData.canLayAll0,h0.2.1,ht.2.1];rfl
  ·rw[PyData.depthAll];exact Nat.max_le.mpr ⟨h0.2.2,ht.2.2⟩
theorem TD.gd {K:PySem.W.Frag}{H:Hp}:∀{n:Nat}{v:V}{d:PyData}{fp:List Addr},TD H n v d fp→DV K H v d∧PyData.canLay0 d=true∧PyData.depth d≤n:=by
 intro n
 induction n with
 | zero =>
  rintro v d fp ⟨⟨i,rfl,rfl⟩|⟨z,rfl,rfl,hz⟩,_⟩
  ·exact⟨.int i,rfl,by simp[PyData.depth]⟩
  ·exact⟨.str z,by rw[PyData.canLay0];exact hz,by simp[PyData.depth]⟩
 | succ n ih =>
  rintro v d fp (⟨⟨i,rfl,rfl⟩|⟨z,rfl,rfl,hz⟩,_⟩|⟨t,xs,ds,fs,rfl,rfl,rfl,h1,h2,h3⟩|⟨l,xs,ds,fs,rfl,rfl,rfl,h1,h2,h3⟩)
  ·exact⟨.int i,rfl,by simp[PyData.depth]⟩
  ·exact⟨.str z,by rw[PyData.canLay0];exact hz,by simp[PyData.depth]⟩
  ·have g:=TL.gd (K:=K) ih h3
   exact⟨.tup (SqT.of h1) g.1,by rw[PyData.canLay0];exact g.2.1,by rw[PyData.depth];have:=g.2.2;omega⟩
  ·have g:=TL.gd (K:=K) ih h3
   exact⟨.lst (SqL.of h1) g.1,by rw[PyData.canLay0];exact g.2.1,by rw[PyData.depth];have:=g.2.2;omega⟩
theorem TD.shaped {K:PySem.W.Frag}{H:Hp}{n:Nat}{v:V}{d:PyData}{fp:List Addr}(h:TD H n v d fp) (l:n≤60):SeqAt.shaped d=true:=by
 obtain⟨_,a,b⟩:=TD.gd (K:=K) h
 simp[SeqAt.shaped,a];omega
theorem eqv_nil {α:Type}{f:α→PyData}{xs:List α}:PyData.eqv (.list (xs.map f)) (.list [])=decide (xs=[]):=by
 rw[PyData.eqv]
 cases xs with
 | nil=>rfl
 | cons x xs=>rw[List.map_cons,PyData.eqvAll];simp
theorem TD.ofT {H:Hp}{n:Nat}{t:Addr}{xs:List V}{ds:List PyData}{fs:List (List Addr)}(h:H t=some (.tup xs)) (l:xs.length≤1000) (tl:TL (TD H n) xs ds fs):TD H (n+1) (.ref t) (.tuple ds) fs.flatten:=.inr (.inl ⟨t,xs,ds,fs,rfl,rfl,rfl,h,l,tl⟩)
theorem TL.cons {R:V→PyData→List Addr→Prop}{x:V}{d:PyData}{f:List Addr}{xs:List V}{ds:List PyData}{fs:List (List Addr)}(r:R x d f) (t:TL R xs ds fs):TL R (x::xs) (d::ds) (f::fs):=by
 refine⟨by simp[t.l1],by simp[t.l2],fun i y e g h1 h2 h3=>?_⟩
 match i with
 | 0=>cases h1;cases h2;cases h3;exact r
 | i+1=>exact t.at' i y e g (by simpa using h1) (by simpa using h2) (by simpa using h3)
theorem TD.step3 {H:Hp}{n:Nat}{v:V}{k:Str}{a b:Int}{fp:List Addr}(h:TD H (n+1) v (.tuple [.str k,.int a,.int b]) fp):∃t,v = .ref t∧H t=some (.tup [.str k,.int a,.int b]):=by
 obtain⟨t,xs,fs,rfl,rfl,h1,h2,h3⟩:=TD.asT h
 have a':=h3.l1;have b':=h3.l2
 match xs,fs,a',b' with
 | [x,y,z],[f,g,i],_,_ =>
  obtain⟨e1,_⟩:=TD.asS (h3.at' 0 x _ f rfl rfl rfl)
  obtain⟨e2,_⟩:=TD.asI (h3.at' 1 y _ g rfl rfl rfl)
  obtain⟨e3,_⟩:=TD.asI (h3.at' 2 z _ i rfl rfl rfl)
  subst e1 e2 e3
  exact⟨t,rfl,h1⟩
theorem TD.step2 {H:Hp}{n:Nat}{v:V}{k:Str}{a:Int}{fp:List Addr}(h:TD H (n+1) v (.tuple [.str k,.int a]) fp):∃t,v = .ref t∧H t=some (.tup [.str k,.int a]):=by
 obtain⟨t,xs,fs,rfl,rfl,h1,h2,h3⟩:=TD.asT h
 have a':=h3.l1;have b':=h3.l2
 match xs,fs,a',b' with
 | [x,y],[f,g],_,_ =>
  obtain⟨e1,_⟩:=TD.asS (h3.at' 0 x _ f rfl rfl rfl)
  obtain⟨e2,_⟩:=TD.asI (h3.at' 1 y _ g rfl rfl rfl)
  subst e1 e2
  exact⟨t,rfl,h1⟩
theorem TD.step4 {H:Hp}{n:Nat}{v:V}{k:Str}{a b:Int}{d:PyData}{fp:List Addr}(h:TD H (n+1) v (.tuple [.str k,.int a,.int b,d]) fp):∃t x,v = .ref t∧H t=some (.tup [.str k,.int a,.int b,x])∧TD H n x d fp:=by
 obtain⟨t,xs,fs,rfl,rfl,h1,h2,h3⟩:=TD.asT h
 have a':=h3.l1;have b':=h3.l2
 match xs,fs,a',b' with
 | [x,y,z,u],[f,g,i,j],_,_ =>
  obtain⟨e1,f1⟩:=TD.asS (h3.at' 0 x _ f rfl rfl rfl)
  obtain⟨e2,f2⟩:=TD.asI (h3.at' 1 y _ g rfl rfl rfl)
  obtain⟨e3,f3⟩:=TD.asI (h3.at' 2 z _ i rfl rfl rfl)
  have r:=h3.at' 3 u _ j rfl rfl rfl
  subst e1 e2 e3 f1 f2 f3
  refine⟨t,u,rfl,h1,?_⟩
  simpa using r
theorem TD.yard3 {H:Hp}{n:Nat}{v:V}{a b:Int}{d:PyData}{fp:List Addr}(h:TD H (n+1) v (.tuple [.int a,.int b,d]) fp):∃t x,v = .ref t∧H t=some (.tup [.int a,.int b,x])∧TD H n x d fp:=by
 obtain⟨t,xs,fs,rfl,rfl,h1,h2,h3⟩:=TD.asT h
 have a':=h3.l1;have b':=h3.l2
 match xs,fs,a',b' with
 | [y,z,u],[g,i,j],_,_ =>
  obtain⟨e2,f2⟩:=TD.asI (h3.at' 0 y _ g rfl rfl rfl)
  obtain⟨e3,f3⟩:=TD.asI (h3.at' 1 z _ i rfl rfl rfl)
  have r:=h3.at' 2 u _ j rfl rfl rfl
  subst e2 e3 f2 f3
  refine⟨t,u,rfl,h1,?_⟩
  simpa using r
def sp_show_step (K:PySem.W.Frag):Sp:=fun vs H Q _=>∃(v:V) (st:Stp) (fp:List Addr),vs=[v]∧TD H 3 v (stepD st) fp∧okS st∧∀H',Same H H'→Q (.str (stepT st)) H'
def sp_show_yard (K:PySem.W.Frag):Sp:=fun vs H Q _=>∃(v:V) (w r:Nat) (hs:List (List Row)) (fp:List Addr),vs=[v]∧TD H 5 v (yardD w r hs) fp∧okY w r hs∧∀H',Same H H'→Q (.str (yardT w r hs)) H'
def sp_read_step (K:PySem.W.Frag):Sp:=fun vs H Q _=>∃(st:Stp),vs=[.str (stepT st)]∧okS st∧∀(v:V) (fp:List Addr) (H':Hp),TD H' 3 v (stepD st) fp→fp.Nodup→(∀b∈fp,H b=none)→Same H H'→Q v H'
def sp_read_yard (K:PySem.W.Frag):Sp:=fun vs H Q _=>∃(w r:Nat) (hs:List (List Row)),vs=[.str (yardT w r hs)]∧okY w r hs∧∀(v:V) (fp:List Addr) (H':Hp),TD H' 5 v (yardD w r hs) fp→fp.Nodup→(∀b∈fp,H b=none)→Same H H'→Q v H'
def sp__law_row_text (K:PySem.W.Frag):Sp:=sp_show_row K
def sp__law_rows_text (K:PySem.W.Frag):Sp:=sp_show_rows K
def sp__law_step_text (K:PySem.W.Frag):Sp:=sp_show_step K
def sp__law_yard_text (K:PySem.W.Frag):Sp:=sp_show_yard K
theorem at_end {ys:List V}{y:V}:atI (ys ++ [y]) (-1)=some y:=atI_last _ _
theorem line_small {n:Nat}(h:n≤10000):n≤sizeLine:=Nat.le_trans h (by decide)
theorem jn3 (a b c d:Str):Str.join (sg 32) [a,b,c,d]=a++sg 32++(b++sg 32++(c++sg 32++d)):=rfl
theorem pick01 {a b:Str}{c:Prop} [Decidable c]:atI [V.str a,V.str b] (if decide c=true then 1 else 0)=some (.str (if c then b else a)):=by
 by_cases h:c
 ·rw[decide_eq_true h,if_pos h];rfl
 ·rw[decide_eq_false h,if_neg h];rfl
def ok8 (es:Row):Prop:=(∀e∈es,okE e)∧es.length≤8
theorem ok8.r {es:Row}(h:ok8 es):okR es:=⟨h.1,by have:=h.2;omega⟩
def sp__law_row (K:PySem.W.Frag):Sp:=fun vs H Q _=>∃(p:Addr) (N:Nat),vs=[.ref p]∧Hand H p N∧N+1000<2^60 ∧
 ∀(v:V) (es:Row) (fp:List Addr) (H':Hp),TD H' 2 v (rowD es) fp→ok8 es→fp.Nodup→(∀b∈fp,H b=none)→Hand H' p (N+500)→Kp H H' p→Q v H'
def sp__law_rows (K:PySem.W.Frag):Sp:=fun vs H Q _=>∃(p:Addr) (N:Nat) (most:Int),vs=[.ref p,.int most]∧Hand H p N∧N+200000<2^60∧1≤most∧most≤131 ∧
 ∀(v:V) (rs:List Row) (fp:List Addr) (H':Hp),TD H' 3 v (rowsD rs) fp→(∀r∈rs,ok8 r)→(rs.length:Int)<most→fp.Nodup→(∀b∈fp,H b=none)→Hand H' p (N+100000)→Kp H H' p→Q v H'
theorem Gw.kp {H0 H H':Hp}{D p:Addr}{j N:Nat}{ys:List V}{ds:List PyData}{gs:List (List Addr)}(g:Gw H0 D j ys ds gs H) (hh:Hand H p N) (k:Kp H H' p) (h0:H0 p≠none) (Dp:D≠p):Gw H0 D j ys ds gs H':=g.keep fun b o e z=>k.1 b o e (by
  rintro rfl
  rcases z with z|z|⟨xs,rfl⟩
  ·exact Dp z.symm
  ·exact h0 (g.fr _ z)
  ·obtain⟨l,a,c,ns,h1,_⟩:=hh.ex
   rw[e]at h1;cases h1)
theorem hand_some {H:Hp}{p:Addr}{N:Nat}(hh:Hand H p N):H p≠none:=fun z=>by
 obtain⟨l,a,c,ns,h1,_⟩:=hh.ex
 rw[h1]at z;cases z
theorem TD.kp {H H':Hp}{p:Addr}{n N:Nat}{v:V}{d:PyData}{fp:List Addr}(h:TD H n v d fp) (hh:Hand H p N) (k:Kp H H' p) (np:p∉fp):TD H' n v d fp:=TD.keep h fun b o e z=>k.1 b o e (by
  rintro rfl
  rcases z with z|⟨xs,rfl⟩
  ·exact np z
  ·obtain⟨l,a,c,ns,h1,_⟩:=hh.ex
   rw[e]at h1;cases h1)
theorem three_at {v:Int}(v0:0≤v) (v1:v<3):∃c,atI [V.int 2,V.int 4,V.int 9] v=some (.int c)∧1≤c∧c≤9:=by
 have:v=0∨v=1∨v=2:=by omega
 rcases this with rfl|rfl|rfl
 ·exact⟨2,rfl,by omega,by omega⟩
 ·exact⟨4,rfl,by omega,by omega⟩
 ·exact⟨9,rfl,by omega,by omega⟩
theorem depthAll_le {k:Nat}:∀{ds:List PyData},(∀d∈ds,PyData.depth d≤k)→PyData.depthAll ds≤k
 | [],_=>by simp[PyData.depthAll]
 | d::ds,h=>by
  rw[PyData.depthAll]
  exact Nat.max_le.mpr ⟨h d List.mem_cons_self,depthAll_le fun e he=>h e (List.mem_cons_of_mem _ he)⟩
theorem depthAll_mem {k:Nat}:∀{ds:List PyData},PyData.depthAll ds≤k→∀d∈ds,PyData.depth d≤k
 | [],_,d,h=>by cases h
 | e::ds,h,d,hd=>by
  rw[PyData.depthAll]at h
  rcases List.mem_cons.mp hd with rfl|hd
  ·exact Nat.le_trans (Nat.le_max_left _ _) h
  ·exact depthAll_mem (Nat.le_trans (Nat.le_max_right _ _) h) d hd
theorem TD.to {H:Hp}:∀{n m:Nat}{v:V}{d:PyData}{fp:List Addr},TD H m v d fp→PyData.depth d≤n→TD H n v d fp
 | n,0,_,_,_,h,_=>by obtain⟨h,rfl⟩:=h;exact TLf.keep h
 | 0,m+1,v,d,fp,h,hd=>by
  rcases h with⟨h,rfl⟩|⟨t,xs,ds,fs,rfl,rfl,rfl,h1,h2,h3⟩|⟨l,xs,ds,fs,rfl,rfl,rfl,h1,h2,h3⟩
  ·exact TLf.keep h
  ·rw[PyData.depth]at hd;omega
  ·rw[PyData.depth]at hd;omega
 | n+1,m+1,v,d,fp,h,hd=>by
  rcases h with⟨h,rfl⟩|⟨t,xs,ds,fs,rfl,rfl,rfl,h1,h2,h3⟩|⟨l,xs,ds,fs,rfl,rfl,rfl,h1,h2,h3⟩
  ·exact TLf.keep h
  ·rw[PyData.depth]at hd
   exact .inr (.inl ⟨t,xs,ds,fs,rfl,rfl,rfl,h1,h2,h3.l1,h3.l2,fun i x e f e1 e2 e3=>TD.to (h3.at' i x e f e1 e2 e3) (depthAll_mem (by omega) e (List.mem_of_getElem? e2))⟩)
  ·rw[PyData.depth]at hd
   exact .inr (.inr ⟨l,xs,ds,fs,rfl,rfl,rfl,h1,h2,h3.l1,h3.l2,fun i x e f e1 e2 e3=>TD.to (h3.at' i x e f e1 e2 e3) (depthAll_mem (by omega) e (List.mem_of_getElem? e2))⟩)
theorem dep_map {α:Type}{f:α→PyData}{k:Nat}{l:List α}(h:∀x∈l,PyData.depth (f x)≤k):PyData.depth (.list (l.map f))≤k+1:=by
 rw[PyData.depth]
 have:=depthAll_le (k:=k) (ds:=l.map f) fun d hd=>by
  obtain⟨x,hx,rfl⟩:=List.mem_map.mp hd
  exact h x hx
 omega
theorem dep_e (e:Int×Str):PyData.depth (eD e)≤1:=by simp[eD,PyData.depth,PyData.depthAll]
theorem dep_row (es:Row):PyData.depth (rowD es)≤2:=dep_map fun e _=>dep_e e
theorem dep_rows (rs:List Row):PyData.depth (rowsD rs)≤3:=dep_map fun e _=>dep_row e
theorem dep_step (st:Stp):PyData.depth (stepD st)≤3:=by
 cases st with
 | row r a es =>
  have:=dep_row es
  simp[stepD,PyData.depth,PyData.depthAll];omega
 | cut r m=>simp[stepD,PyData.depth,PyData.depthAll]
 | rooms n=>simp[stepD,PyData.depth,PyData.depthAll]
def WD (way:Int) (d:PyData) (text:Str):Prop:=(way=0∧∃rs,okRs rs∧d=rowsD rs∧text=rowsT rs) ∨(way=1∧∃st,okS st∧d=stepD st∧text=stepT st) ∨(way=2∧∃w r hs,okY w r hs∧d=yardD w r hs∧text=yardT w r hs)
def sp__law_asked (K:PySem.W.Frag):Sp:=fun vs H Q _=>∃(way:Int) (v:V) (d:PyData) (fp:List Addr) (text:Str),vs=[.int way,v,.str text]∧TD H 5 v d fp∧WD way d text ∧
 ∀(t:Addr) (v':V) (fp':List Addr) (H':Hp),H' t=some (.tup [.str text,v'])→TD H' 5 v' d fp'→fp'.Nodup→(∀b∈fp',H b=none)→Same H H'→Q (.ref t) H'
def sp__law_right (K:PySem.W.Frag):Sp:=fun vs H Q _=>∃(way:Int) (v:V) (d:PyData) (fp:List Addr) (text:Str),vs=[.int way,v,.str text]∧TD H 5 v d fp∧WD way d text∧∀(H':Hp),Same H H'→Q (.bl true) H'
def sp__law_yard (K:PySem.W.Frag):Sp:=fun vs H Q _=>∃(p:Addr) (N:Nat),vs=[.ref p]∧Hand H p N∧N+30000000<2^60 ∧
 ∀(v:V) (w r:Nat) (hs:List (List Row)) (fp:List Addr) (H':Hp),TD H' 5 v (yardD w r hs) fp→okY w r hs→fp.Nodup→(∀b∈fp,H b=none)→Hand H' p (N+20000000)→Kp H H' p→Q v H'
def sp__law_step (K:PySem.W.Frag):Sp:=fun vs H Q _=>∃(p:Addr) (N:Nat),vs=[.ref p]∧Hand H p N∧N+30000<2^60 ∧
 ∀(v:V) (st:Stp) (fp:List Addr) (H':Hp),TD H' 3 v (stepD st) fp→okS st→fp.Nodup→(∀b∈fp,H b=none)→Hand H' p (N+10000)→Kp H H' p→Q v H'
theorem pickI {a b:Int}{c:Prop} [Decidable c]:atI [V.int a,V.int b] (if decide c=true then 1 else 0)=some (.int (if c then b else a)):=by
 by_cases h:c
 ·rw[decide_eq_true h,if_pos h];rfl
 ·rw[decide_eq_false h,if_neg h];rfl
theorem sum_lin {α:Type}{f g:α→Nat}{A B:Nat}:∀{l:List α},(∀x∈l,f x≤A*g x+B)→(l.map f).sum≤A*(l.map g).sum+B*l.length
 | [],_=>by simp
 | x::l,h=>by
  have a:=h x List.mem_cons_self
  have b:=sum_lin (l:=l) fun y hy=>h y (List.mem_cons_of_mem _ hy)
  rw[List.map_cons,List.sum_cons,List.map_cons,List.sum_cons,List.length_cons,Nat.mul_succ,Nat.mul_add];omega
structure HsOk (hs:List (List Row)):Prop where
 ok:∀rs∈hs,(∀r∈rs,ok8 r)∧rs.length≤130
 hl:hs.length≤132
 sm:(hs.map List.length).sum≤160
theorem HsOk.y {hs:List (List Row)}{w r:Nat}(h:HsOk hs) (w1:1≤w) (w2:w≤8) (r1:1≤r) (r2:r≤130) (la:∀rs,hs.getLast? = some rs→rs ≠ []):okY w r hs:=by
 refine⟨w1,w2,r1,r2,fun rs hr=>⟨fun r hr'=>((h.ok rs hr).1 r hr').r,by have:=(h.ok rs hr).2;omega⟩,by have:=h.hl;omega,?_,la⟩
 have:=sum_lin (f:=fun rs=>(rowsT rs).length) (g:=List.length) (A:=234) (B:=4) (l:=hs) fun rs hr=>rowsT_len (B:=233) (C:=rs.length) (fun r hr'=>rowT_len (B:=8) ((h.ok rs hr).1 r hr').1 ((h.ok rs hr).1 r hr').2) (Nat.le_refl _)
 have a:=h.hl
 have b:=h.sm
 omega
theorem Gw.fix {H0 H H1:Hp}{D l:Addr}{ys:List V}{ds:List PyData}{gs:List (List Addr)}{v:V}{es:Row}{f:List Addr}(g:Gw H0 D 3 (ys ++ [.ref l]) (ds ++ [.list []]) gs H) (k:∀b o,H b=some o→(b=D∨b∈gs.flatten ∨ ∃xs,o = .tup xs)→H1 b=some o) (td:TD H1 2 v (rowD es) f) (nf:f.Nodup) (fr:∀b∈f,H b=none) (fr0:∀b∈f,H0 b=none) :
  (H0 l=none∧l≠D∧H1 l=some (.lst []))∧∃gs',Gw H0 D 3 (ys ++ [.ref l]) (ds ++ [.list [rowD es]]) gs' (upd H1 l (.lst [v])):=by
 have g1:=g.keep k
 have l1:=g.tl.l1;have l2:=g.tl.l2
 rw[List.length_append,List.length_append]at l1
 rw[List.length_append]at l2
 simp at l1 l2
 rcases List.eq_nil_or_concat gs with z|⟨gs0,f1,z⟩
 ·rw[z]at l2;simp at l2
 have z:gs=gs0 ++ [f1]:=by simpa using z
 subst z
 have gl:gs0.length=ys.length:=by simp at l2;omega
 have last:=g1.tl.at' ys.length (.ref l) (.list []) f1 (by simp) (by rw[l1];simp) (by rw[← gl];simp)
 obtain⟨l',xs,fs,e1,e2,hl,_,tl⟩:=TD.asL last
 cases e1
 have x0:xs=[]:=List.eq_nil_of_length_eq_zero tl.l1
 have f0:fs=[]:=List.eq_nil_of_length_eq_zero tl.l2.symm
 subst x0 f0
 have e2:f1=[l]:=by simpa using e2
 subst e2
 have efl:(gs0 ++ [[l]]).flatten=gs0.flatten ++ [l]:=by rw[List.flatten_append];simp
 have nd:=g.nd
 rw[efl,List.nodup_append]at nd
 have lg:l∉gs0.flatten:=fun h=>nd.2.2 l h l (by simp) rfl
 have lm:l∈(gs0 ++ [[l]]).flatten:=by rw[efl];simp
 have lD:l≠D:=fun h=>g.nD (h ▸ lm)
 have l0:=g.fr l lm
 have hlH:∃xs,H l=some (.lst xs):=g.tl.is l lm
 have lf:l∉f:=fun h=>by obtain⟨xs,e⟩:=hlH;rw[fr l h]at e;cases e
 have efn:(gs0 ++ [l::f]).flatten=gs0.flatten++l::f:=by rw[List.flatten_append];simp
 refine⟨⟨l0,lD,hl⟩,gs0 ++ [l::f],?_,?_,fun b hb=>?_,?_,by rw[upd_ne lD.symm];exact g1.lat⟩
 ·have pre:TL (TD (upd H1 l (.lst [v])) 3) ys ds gs0:=⟨l1,by omega,fun i x d f e1 e2 e3=>by
   have il:=(List.getElem?_eq_some_iff.mp e1).1
   have r:=g1.tl.at' i x d f (by rw[List.getElem?_append_left il];exact e1) (by rw[List.getElem?_append_left (by omega)];exact e2) (by rw[List.getElem?_append_left (by omega)];exact e3)
   exact r.upd hl fun h=>lg (mem_flat e3 h)⟩
  refine TL.snoc pre ?_
  have:=TL.snoc (R:=TD (upd H1 l (.lst [v])) 2) TL.nil (td.upd hl lf)
  exact .inr (.inr ⟨l,[v],[rowD es],[f],rfl,rfl,by simp,upd_same,by simp,this⟩)
 ·rw[efn,List.nodup_append]
  refine⟨nd.1,List.nodup_cons.mpr ⟨lf,nf⟩,fun a ha b hb e=>?_⟩
  subst e
  rcases List.mem_cons.mp hb with rfl|hb
  ·exact lg ha
  ·obtain⟨xs,e⟩:=g.tl.is a (by rw[efl];exact List.mem_append_left _ ha)
   rw[fr a hb]at e;cases e
 ·rw[efn]at hb
  rcases List.mem_append.mp hb with h|h
  ·exact g.fr b (by rw[efl];exact List.mem_append_left _ h)
  ·rcases List.mem_cons.mp h with rfl|h
   ·exact l0
   ·exact fr0 b h
 ·rw[efn]
  intro h
  rcases List.mem_append.mp h with h|h
  ·exact g.nD (by rw[efl];exact List.mem_append_left _ h)
  ·rcases List.mem_cons.mp h with h|h
   ·exact lD h.symm
   ·have:=fr D h;rw[g.lat]at this;cases this
theorem CK.free0 {H0 H:Hp}{p D:Addr}{N:Nat}{ys:List V}(ck:CK H0 p D N ys H) {b:Addr}(h:H b=none):H0 b=none:=by
 cases c:H0 b with
 | none=>rfl
 | some o =>
  by_cases z:b=p
  ·rw[z]at h;exact absurd h (hand_some ck.hh)
  ·rw[ck.kp.1 _ _ c z]at h;cases h
theorem Kp.keepG {H0 H H':Hp}{D p:Addr}{j N:Nat}{ys:List V}{ds:List PyData}{gs:List (List Addr)}(g:Gw H0 D j ys ds gs H) (hh:Hand H p N) (k:Kp H H' p) (h0:H0 p≠none) (Dp:D≠p):∀b o,H b=some o→(b=D∨b∈gs.flatten ∨ ∃xs,o = .tup xs)→H' b=some o:=fun b o e z=>k.1 b o e (by
  rintro rfl
  rcases z with z|z|⟨xs,rfl⟩
  ·exact Dp z.symm
  ·exact h0 (g.fr _ z)
  ·obtain⟨l,a,c,ns,h1,_⟩:=hh.ex
   rw[e]at h1;cases h1)
theorem rd_par91 {i j:Nat}{ta:TA}{D:Ends}{σ:L2.St}{H:Hp}(h:ta σ H fun vs H1=>∃x y,vs=[x,y]∧D.nx ((σ.set i (some x)).set j (some y)) H1):tPar i j ta D σ H:=h
section
variable {P:Program}{w:World}{K:PySem.W.Frag}{mg:Str→Option Value}{base:Heap}
theorem ok_is_name {f:Addr}{fd:FuncData}(F:Fun K "is_name" "is_name" s_is_name f fd) (mF:mg "is_name" = some (.ref f)) (bF:Binds K fd ["thing"] []) (T:Bl mg)  : Cal P w K mg base "is_name" ["thing"] 1 (sp_is_name K):=by
 refine Cal.of F mF bF sc_is_name (fun vs H Q E h=>?_) (fun cdv A outer s H vs Q E hr h=>?_)
 ·obtain⟨z,rfl,_⟩:=h;rfl
 obtain⟨z,rfl,⟨z1,z2,zc⟩,q⟩:=h
 refine⟨_,(pss_one (ps_ret (pe_and (pe_callB call_isinst rfl T.isinstance bt_isinstance (pa_cons (pv 0) (pa_cons (pe_bltn (v:=.ty "str") rfl T.str bt_str rfl) pa_nil stx_Name) stx_Name)) (pe_and (pe_chain op_le op_le pe_int (pe_callB call_lenS rfl T.len bt_len (pa_cons (pv 0) pa_nil stx_Name)) pe_int) (pe_one (pe_callB (call_allL rfl) rfl T.all bt_all (pa_cons (pe_comp rfl (blkOk (sc:=defScope s_is_name) (N:=["thing"]) (vs:=["sign"]) (fs:=[]) (js:=[]) (by decide +kernel) rfl rfl) (pi_str (pv 0)) (fun _ _ _ _=>pg_name (i:=0) (show(["sign"]:List Str).Nodup by decide +kernel) rfl (Or.inl rfl)) (fun _ _ _ _=>pif0) (fun _ _ _ _=>(pe_chain op_le_str op_le_str pe_str (pv 0) pe_str))) pa_nil stx_ListComp))))))),?_⟩
 rw[st_is_name]
 walk_at"rd"
 refine rd_isi (.str z) (b:=true) rfl ?_
 walk_at"rd"
 refine rd_lenS (Nat.le_of_lt (small1000 (by omega))) ?_
 walk_at"rd"
 rw[decide_eq_true (show(1:Int) ≤(z.length:Int) by omega)]
 walk_at"rd"
 rw[decide_eq_true (show(z.length:Int)≤8 by omega)]
 walk_at"rd"
 refine⟨z,rfl,fun D nD=>?_⟩
 refine comp_str (fun i σ' ys H'=>(∃x,σ'=[x])∧i≤z.length∧ys=List.replicate i (V.bl true)∧Same H H'∧H' D=some (.lst ys)) D ?_ ?_ ?_
 ·exact⟨⟨_,rfl⟩,Nat.zero_le _,rfl,same_new nD _,upd_same⟩
 ·rintro i c σ' ys H' hi ⟨⟨y,rfl⟩,il,rfl,g1,g2⟩
  obtain⟨c1,c2⟩:=zc c (Array.mem_of_getElem? hi)
  have il2:i<z.length:=(Array.getElem?_eq_some_iff.mp hi).1
  obtain⟨d1,d2⟩:=lo97 c c1 c2
  walk_at"rd"
  rw[show((⟨#[c]⟩ : Str).cps.toList)=[c] from rfl,show((Str.ofString "a").cps.toList)=[97] by decide +kernel,d1]
  walk_at"rd"
  rw[show((⟨#[c]⟩ : Str).cps.toList)=[c] from rfl,show((Str.ofString "z").cps.toList)=[122] by decide +kernel,d2]
  refine⟨g2,by rw[List.length_replicate];exact small1000 (by omega),⟨_,rfl⟩,by omega,by rw[List.replicate_succ'],fun b o e=>?_,upd_same⟩
  rw[upd_ne (ne_of_none e nD)];exact g1 _ _ e
 ·rintro σ' ys H' ⟨⟨y,rfl⟩,_,rfl,g1,g2⟩
  walk_at"rd"
  rw[show List.replicate z.cps.size (V.bl true) =(List.replicate z.cps.size true).map V.bl by rw[List.map_replicate]]at g2
  refine rd_allL (SqL.of g2) ?_
  rw[List.all_replicate]
  simp
  exact q _ g1
theorem ok_show_rows {f:Addr}{fd:FuncData}(F:Fun K "show_rows" "show_rows" s_show_rows f fd) (mF:mg "show_rows" = some (.ref f)) (bF:Binds K fd ["rows"] []) (T:Bl mg) (C_show_row:Cal P w K mg base "show_row" ["row"] 1 (sp_show_row K)):Cal P w K mg base "show_rows" ["rows"] 2 (sp_show_rows K):=by
 refine Cal.of F mF bF sc_show_rows (fun vs H Q E h=>?_) (fun cdv A outer s H vs Q E hr h=>?_)
 ·obtain⟨v,es,fp,rfl,_⟩:=h;rfl
 obtain⟨v,rs,fp,rfl,td,⟨ok,rl⟩,q⟩:=h
 obtain⟨l,xs,fs,rfl,rfl,hl,xl,tl⟩:=TD.asL td
 have oke:∀r∈rs,∀e∈r,okE e:=fun r hr=>(ok r hr).1
 have ln:=tl.l1
 rw[List.length_map]at ln
 refine⟨_,(pss_one (ps_ret (pe_orG (pe_bm PySem.F.plainAttrs_str PySem.F.slot_str_join PySem.F.type_str_join mt_join pe_str (pa_cons (pe_comp rfl (blkOk (sc:=defScope s_show_rows) (N:=["rows"]) (vs:=["row"]) (fs:=[]) (js:=[]) (by decide +kernel) rfl rfl) (pi_list (pv 0)) (fun _ _ _ _=>pg_name (i:=0) (show(["row"]:List Str).Nodup by decide +kernel) rfl (Or.inl rfl)) (fun _ _ _ _=>pif0) (fun _ _ _ _=>(pcl C_show_row (hr.mono (by decide)) (pa_cons (pv 0) pa_nil stx_Name)))) pa_nil stx_ListComp)) (pe_one pe_str)))),?_⟩
 rw[st_show_rows]
 walk_at"rd"
 refine⟨rfl,?_⟩
 walk_at"rd"
 refine⟨l,rfl,⟨_,SqL.of hl⟩,fun D nD=>?_⟩
 refine comp_list (xs:=xs) (fun i σ' ys H'=>(∃x,σ'=[x])∧Same H H'∧ys =((rs.take i).map rowT).map V.str∧H' D=some (.lst ys)) D ⟨⟨_,rfl⟩,same_new nD _,rfl,upd_same⟩ (fun i σ' ys H' _ h=>SqL.of (h.2.1 _ _ hl)) ?_ ?_
 ·rintro i x σ' ys H2 hx ⟨⟨x1,rfl⟩,s2,rfl,hD⟩
  obtain⟨d,f,hd,hf,r⟩:=tl.get hx
  rw[List.getElem?_map]at hd
  have il:=(List.getElem?_eq_some_iff.mp hx).1
  obtain⟨e,he⟩ : ∃e,rs[i]? = some e:=⟨_,List.getElem?_eq_getElem (by omega)⟩
  rw[he]at hd
  cases hd
  walk_at"rd"
  refine⟨x,e,f,rfl,r.same s2,ok e (List.mem_of_getElem? he),fun H3 s3=>?_⟩
  refine⟨s3 _ _ hD,by rw[List.length_map,List.length_map,List.length_take];exact small1000 (by omega),⟨_,rfl⟩,fun b o e=>by rw[upd_ne (ne_of_none e nD)];exact s3 _ _ (s2 _ _ e),?_,upd_same⟩
  rw[take_get he,List.map_append,List.map_append];rfl
 ·rintro σ' ys H2 ⟨⟨x1,rfl⟩,s2,rfl,hD⟩
  rw[ln,List.take_length]at hD
  walk_at"rd"
  have sm:=sum_le (f:=fun e=>(rowT e).length) (B:=29*130+1) (l:=rs) fun r hr=>rowT_len (ok r hr).1 (ok r hr).2
  refine⟨_,D,rs.map rowT,rfl,rfl,SqL.of hD,?_,?_⟩
  ·rw[List.map_map,s_semi,show(sg 59).length=1 from rfl,List.length_map]
   show(rs.map fun e=>(rowT e).length).sum+_≤_
   omega
  rw[s_semi,join_txt]
  by_cases c:rs=[]
  ·subst c
   refine⟨false,⟨Nat.zero_le _,rfl⟩,?_⟩
   walk_at"rd"
   exact q H2 s2
  ·have e:rowsT rs=Str.join (sg 59) (rs.map rowT):=by unfold rowsT;rw[if_neg c]
   rw[← e]
   have rp:0 <(rowsT rs).length:=by
    rw[e]
    cases rs with
    | nil=>exact absurd rfl c
    | cons r t =>
     obtain⟨x,hx,_⟩:=rowT_head (oke r List.mem_cons_self)
     have:=(List.getElem?_eq_some_iff.mp (join_head (c:=59) (r:=t.map rowT) hx)).1
     rw[Array.length_toList]at this
     exact this
   have tl:=rowsT_len (rs:=rs) (B:=29*130+1) (C:=140) (fun r hr=>rowT_len (ok r hr).1 (ok r hr).2) rl
   refine⟨true,⟨by show _≤2^24;omega,by simp;omega⟩,?_⟩
   walk_at"rd"
   exact q H2 s2
theorem ok_show_row {f:Addr}{fd:FuncData}(F:Fun K "show_row" "show_row" s_show_row f fd) (mF:mg "show_row" = some (.ref f)) (bF:Binds K fd ["row"] []) (T:Bl mg)  : Cal P w K mg base "show_row" ["row"] 1 (sp_show_row K):=by
 refine Cal.of F mF bF sc_show_row (fun vs H Q E h=>?_) (fun cdv A outer s H vs Q E hr h=>?_)
 ·obtain⟨v,es,fp,rfl,_⟩:=h;rfl
 obtain⟨v,es,fp,rfl,td,⟨ok,el⟩,q⟩:=h
 obtain⟨l,xs,fs,rfl,rfl,hl,xl,tl⟩:=TD.asL td
 have ln:=tl.l1
 rw[List.length_map]at ln
 refine⟨_,(pss_one (ps_ret (pe_orG (pe_bm PySem.F.plainAttrs_str PySem.F.slot_str_join PySem.F.type_str_join mt_join pe_str (pa_cons (pe_comp rfl (blkOk (sc:=defScope s_show_row) (N:=["row"]) (vs:=["key", "thing"]) (fs:=[]) (js:=[]) (by decide +kernel) rfl rfl) (pi_list (pv 0)) (fun _ _ _ _=>pg_tupK (K:=K) (n:=2) rfl rfl (pgs_cons (pg_name (i:=0) (show(["key", "thing"]:List Str).Nodup by decide +kernel) rfl (Or.inl rfl)) (pgs_cons (pg_name (i:=1) (show(["key", "thing"]:List Str).Nodup by decide +kernel) rfl (Or.inl rfl)) pgs_nil))) (fun _ _ _ _=>pif0) (fun _ _ _ _=>(pe_fstr (pf_cons_v (pv 0) (pf_cons_c (pf_cons_v (pv 1) pf_nil)))))) pa_nil stx_ListComp)) (pe_one pe_str)))),?_⟩
 rw[st_show_row]
 walk_at"rd"
 refine⟨rfl,?_⟩
 walk_at"rd"
 refine⟨l,rfl,⟨_,SqL.of hl⟩,fun D nD=>?_⟩
 refine comp_list (xs:=xs) (fun i σ' ys H'=>(∃x y,σ'=[x,y])∧Same H H'∧ys =((es.take i).map entT).map V.str∧H' D=some (.lst ys)) D ⟨⟨_,_,rfl⟩,same_new nD _,rfl,upd_same⟩ (fun i σ' ys H' _ h=>SqL.of (h.2.1 _ _ hl)) ?_ ?_
 ·rintro i x σ' ys H2 hx ⟨⟨x1,y1,rfl⟩,s2,rfl,hD⟩
  obtain⟨d,f,hd,hf,r⟩:=tl.get hx
  rw[List.getElem?_map]at hd
  have il:=(List.getElem?_eq_some_iff.mp hx).1
  obtain⟨e,he⟩ : ∃e,es[i]? = some e:=⟨_,List.getElem?_eq_getElem (by omega)⟩
  rw[he]at hd
  cases hd
  obtain⟨t,rfl,ht,_⟩:=r.ent
  have oe:=ok e (List.mem_of_getElem? he)
  obtain⟨m,em,hm⟩:=oe.num
  have nl:=numT_length em hm
  have zl:=oe.2.2.2.1
  refine⟨t,_,rfl,SqT.of (s2 _ _ ht),rfl,_,_,rfl,_,_,rfl,rfl,?_⟩
  walk_at"rd"
  refine⟨numT e.1,.inr ⟨_,rfl,by rw[em];exact log_small hm,rfl⟩,?_,?_⟩
  ·rw[str_applen,show Str.empty.length=0 from rfl];exact Nat.le_of_lt (small1000 (by omega))
  refine rd_tfC ?_ ?_
  ·rw[str_applen,str_applen,show Str.empty.length=0 from rfl,s_eq,show(sg 61).length=1 from rfl];exact Nat.le_of_lt (small1000 (by omega))
  walk_at"rd"
  refine⟨e.2,.inl ⟨rfl,Nat.le_of_lt (small1000 (by omega))⟩,?_,?_⟩
  ·rw[str_applen,str_applen,str_applen,show Str.empty.length=0 from rfl,s_eq,show(sg 61).length=1 from rfl];exact Nat.le_of_lt (small1000 (by omega))
  have et:Str.empty++numT e.1++Str.ofString "=" ++ e.2=entT e:=by
   rw[s_eq];unfold entT
   apply str_ext
   rw[cat_list,cat_list,cat_list,cat_list,cat_list];rfl
  rw[et]
  refine⟨Nat.le_of_lt (small1000 (by have:=entT_len oe;omega)),hD,by rw[List.length_map,List.length_map,List.length_take];exact small1000 (by omega),⟨_,_,rfl⟩,fun b o e=>by rw[upd_ne (ne_of_none e nD)];exact s2 _ _ e,?_,upd_same⟩
  rw[take_get he,List.map_append,List.map_append];rfl
 ·rintro σ' ys H2 ⟨⟨x1,y1,rfl⟩,s2,rfl,hD⟩
  rw[ln,List.take_length]at hD
  walk_at"rd"
  have sm:=sum_le (f:=fun e=>(entT e).length) (B:=28) (l:=es) fun e he=>entT_len (ok e he)
  refine⟨_,D,es.map entT,rfl,rfl,SqL.of hD,?_,?_⟩
  ·rw[List.map_map,s_comma,show(sg 44).length=1 from rfl,List.length_map]
   show(es.map fun e=>(entT e).length).sum+_≤_
   omega
  rw[s_comma,join_txt]
  by_cases c:es=[]
  ·subst c
   refine⟨false,⟨Nat.zero_le _,rfl⟩,?_⟩
   walk_at"rd"
   rw[s_dash]
   exact q H2 s2
  ·have e:rowT es=Str.join (sg 44) (es.map entT):=by unfold rowT;rw[if_neg c]
   rw[← e]
   obtain⟨x,hx,_⟩:=rowT_head ok
   have rp:0 <(rowT es).length:=by
    have:=(List.getElem?_eq_some_iff.mp hx).1
    rw[Array.length_toList]at this
    exact this
   have rl:=rowT_len ok el
   refine⟨true,⟨Nat.le_of_lt (Nat.lt_of_le_of_lt rl (by decide)),by simp;omega⟩,?_⟩
   walk_at"rd"
   exact q H2 s2
theorem ok_show_step {f:Addr}{fd:FuncData}(F:Fun K "show_step" "show_step" s_show_step f fd) (mF:mg "show_step" = some (.ref f)) (bF:Binds K fd ["step"] []) (T:Bl mg) (C_show_row:Cal P w K mg base "show_row" ["row"] 1 (sp_show_row K)):Cal P w K mg base "show_step" ["step"] 2 (sp_show_step K):=by
 refine Cal.of F mF bF sc_show_step (fun vs H Q E h=>?_) (fun cdv A outer s H vs Q E hr h=>?_)
 ·obtain⟨v,st,fp,rfl,_⟩:=h;rfl
 obtain⟨v,st,fp,rfl,td,ok,q⟩:=h
 have tl:=stepT_len ok
 have wl:=words_len ok
 refine⟨_,(pss_cons (ps_if (pt_cmpR op_eq (pe_ix ix_tup (pv 0) pe_int (fun _ _=>rfl)) pe_str (nomark _)) (pss_one (ps_ret (pe_fstr (pf_cons_c (pf_cons_v (pe_ix ix_tup (pv 0) pe_int (fun _ _=>rfl)) (pf_cons_c (pf_cons_v (pe_ix ix_tup (pv 0) pe_int (fun _ _=>rfl)) (pf_cons_c (pf_cons_v (pcl C_show_row (hr.mono (by decide)) (pa_cons (pe_ix ix_tup (pv 0) pe_int (fun _ _=>rfl)) pa_nil stx_Subscript)) pf_nil))))))))) pss_nil)
   (pss_one (ps_ret (pe_bm PySem.F.plainAttrs_str PySem.F.slot_str_join PySem.F.type_str_join mt_join pe_str (pa_cons (pe_comp rfl (blkOk (sc:=defScope s_show_step) (N:=["step"]) (vs:=["part"]) (fs:=[]) (js:=[]) (by decide +kernel) rfl rfl) (pi_tup (pv 0)) (fun _ _ _ _=>pg_name (i:=0) (show(["part"]:List Str).Nodup by decide +kernel) rfl (Or.inl rfl)) (fun _ _ _ _=>pif0) (fun _ _ _ _=>(pe_callTy call_strA rfl T.str bt_str (pa_cons (pv 0) pa_nil stx_Name)))) pa_nil stx_ListComp))))),?_⟩
 rw[st_show_step]
 cases st with
 | row r a es =>
  obtain⟨t,x,rfl,ht,tx⟩:=TD.step4 td
  have n1:=numT_l ok.1
  have n2:=numT_l ok.2.1
  have n3:=rowT_len ok.2.2.1 ok.2.2.2
  walk_at"rd"
  refine rd_eqZ ?_
  rw[decide_eq_true (show wRow=Str.ofString "row" from rfl)]
  walk_at"rd"
  refine rd_tfC ?_ ?_
  ·rw[str_applen,show Str.empty.length=0 from rfl,show(Str.ofString "row ").length=4 by decide];decide
  walk_at"rd"
  refine⟨numT r,.inr ⟨_,rfl,log_small (small130 ok.1),rfl⟩,?_,?_⟩
  ·rw[str_applen,str_applen,show Str.empty.length=0 from rfl,show(Str.ofString "row ").length=4 by decide];exact line_small (by omega)
  refine rd_tfC ?_ ?_
  ·rw[str_applen,str_applen,str_applen,show Str.empty.length=0 from rfl,show(Str.ofString "row ").length=4 by decide,s_sp,show(sg 32).length=1 from rfl];exact line_small (by omega)
  walk_at"rd"
  refine⟨numT a,.inr ⟨_,rfl,log_small (small130 ok.2.1),rfl⟩,?_,?_⟩
  ·rw[str_applen,str_applen,str_applen,str_applen,show Str.empty.length=0 from rfl,show(Str.ofString "row ").length=4 by decide,s_sp,show(sg 32).length=1 from rfl];exact line_small (by omega)
  refine rd_tfC ?_ ?_
  ·rw[str_applen,str_applen,str_applen,str_applen,str_applen,show Str.empty.length=0 from rfl,show(Str.ofString "row ").length=4 by decide,s_sp,show(sg 32).length=1 from rfl];exact line_small (by omega)
  walk_at"rd"
  refine⟨x,es,fp,rfl,tx,ok.2.2,fun H1 s1=>?_⟩
  refine⟨rowT es,.inl ⟨rfl,line_small (by omega)⟩,?_,?_⟩
  ·rw[str_applen,str_applen,str_applen,str_applen,str_applen,str_applen,show Str.empty.length=0 from rfl,show(Str.ofString "row ").length=4 by decide,s_sp,show(sg 32).length=1 from rfl];exact line_small (by omega)
  have et:Str.empty++Str.ofString "row " ++ numT r++Str.ofString " " ++ numT a++Str.ofString " " ++ rowT es=stepT (.row r a es):=by
   show _=Str.join (sg 32) [wRow,numT r,numT a,rowT es]
   rw[jn3,s_sp]
   apply str_ext
   simp only[cat_list,List.append_assoc]
   have e1:(Str.ofString "row ").cps.toList=wRow.cps.toList++(sg 32).cps.toList:=by decide
   rw[e1,List.append_assoc];rfl
  rw[et]
  exact⟨line_small (by omega),q H1 s1⟩
 | cut r m =>
  obtain⟨t,rfl,ht⟩:=TD.step3 td
  walk_at"rd"
  refine rd_eqZ ?_
  rw[decide_eq_false (show ¬ wCut=Str.ofString "row" by decide)]
  walk_at"rd"
  refine⟨rfl,?_⟩
  walk_at"rd"
  refine⟨t,rfl,⟨_,SqT.of ht⟩,fun D nD=>?_⟩
  refine comp_tup (xs:=[V.str wCut,.int r,.int m]) (fun i σ' ys H'=>(∃x,σ'=[x])∧Same H H'∧ys =([wCut,numT r,numT m].take i).map V.str∧H' D=some (.lst ys)) D ⟨⟨_,rfl⟩,same_new nD _,rfl,upd_same⟩ (fun i σ' ys H' _ h=>SqT.of (h.2.1 _ _ ht)) ?_ ?_
  ·rintro i x σ' ys H2 hx ⟨⟨x1,rfl⟩,s2,rfl,hD⟩
   have il:i<3:=(List.getElem?_eq_some_iff.mp hx).1
   obtain⟨z,hz,hw⟩ : ∃z:Str,(x = .str z ∨ ∃j:Int,x = .int j∧j.natAbs.log2<1920∧z=Str.ofString (toString j))∧[wCut,numT r,numT m][i]? = some z:=by
    match i,il with
    | 0,_=>cases hx;exact⟨_,.inl rfl,rfl⟩
    | 1,_=>cases hx;exact⟨_,.inr ⟨_,rfl,log_small (small130 ok.1),rfl⟩,rfl⟩
    | 2,_=>cases hx;exact⟨_,.inr ⟨_,rfl,log_small (small130 ok.2),rfl⟩,rfl⟩
   walk_at"rd"
   refine⟨x,z,rfl,hz,?_⟩
   refine⟨hD,by rw[List.length_map,List.length_take];exact small1000 (by simp;omega),⟨_,rfl⟩,fun b o e=>by rw[upd_ne (ne_of_none e nD)];exact s2 _ _ e,?_,upd_same⟩
   rw[take_get hw,List.map_append];rfl
  ·rintro σ' ys H2 ⟨⟨x1,rfl⟩,s2,rfl,hD⟩
   walk_at"rd"
   refine⟨_,D,[wCut,numT r,numT m],rfl,rfl,SqL.of hD,?_,?_⟩
   ·rw[s_sp,show(sg 32).length=1 from rfl]
    have:([wCut,numT r,numT m].map (·.length)).sum≤4000:=wl
    simp at this ⊢
    omega
   rw[s_sp,join_txt]
   exact q H2 s2
 | rooms n =>
  obtain⟨t,rfl,ht⟩:=TD.step2 td
  walk_at"rd"
  refine rd_eqZ ?_
  rw[decide_eq_false (show ¬ wRooms=Str.ofString "row" by decide)]
  walk_at"rd"
  refine⟨rfl,?_⟩
  walk_at"rd"
  refine⟨t,rfl,⟨_,SqT.of ht⟩,fun D nD=>?_⟩
  refine comp_tup (xs:=[V.str wRooms,.int n]) (fun i σ' ys H'=>(∃x,σ'=[x])∧Same H H'∧ys =([wRooms,numT n].take i).map V.str∧H' D=some (.lst ys)) D ⟨⟨_,rfl⟩,same_new nD _,rfl,upd_same⟩ (fun i σ' ys H' _ h=>SqT.of (h.2.1 _ _ ht)) ?_ ?_
  ·rintro i x σ' ys H2 hx ⟨⟨x1,rfl⟩,s2,rfl,hD⟩
   have il:i<2:=(List.getElem?_eq_some_iff.mp hx).1
   obtain⟨z,hz,hw⟩ : ∃z:Str,(x = .str z ∨ ∃j:Int,x = .int j∧j.natAbs.log2<1920∧z=Str.ofString (toString j))∧[wRooms,numT n][i]? = some z:=by
    match i,il with
    | 0,_=>cases hx;exact⟨_,.inl rfl,rfl⟩
    | 1,_=>cases hx;exact⟨_,.inr ⟨_,rfl,log_small (small130 ok.2),rfl⟩,rfl⟩
   walk_at"rd"
   refine⟨x,z,rfl,hz,?_⟩
   refine⟨hD,by rw[List.length_map,List.length_take];exact small1000 (by simp;omega),⟨_,rfl⟩,fun b o e=>by rw[upd_ne (ne_of_none e nD)];exact s2 _ _ e,?_,upd_same⟩
   rw[take_get hw,List.map_append];rfl
  ·rintro σ' ys H2 ⟨⟨x1,rfl⟩,s2,rfl,hD⟩
   walk_at"rd"
   refine⟨_,D,[wRooms,numT n],rfl,rfl,SqL.of hD,?_,?_⟩
   ·rw[s_sp,show(sg 32).length=1 from rfl]
    have:([wRooms,numT n].map (·.length)).sum≤4000:=wl
    simp at this ⊢
    omega
   rw[s_sp,join_txt]
   exact q H2 s2
theorem ok_show_yard {f:Addr}{fd:FuncData}(F:Fun K "show_yard" "show_yard" s_show_yard f fd) (mF:mg "show_yard" = some (.ref f)) (bF:Binds K fd ["yard"] []) (T:Bl mg) (C_show_rows:Cal P w K mg base "show_rows" ["rows"] 2 (sp_show_rows K)):Cal P w K mg base "show_yard" ["yard"] 3 (sp_show_yard K):=by
 refine Cal.of F mF bF sc_show_yard (fun vs H Q E h=>?_) (fun cdv A outer s H vs Q E hr h=>?_)
 ·obtain⟨v,w,r,hs,fp,rfl,_⟩:=h;rfl
 obtain⟨v,w,r,hs,fp,rfl,td,ok,q⟩:=h
 obtain⟨t,x,rfl,ht,tx⟩:=TD.yard3 td
 obtain⟨l,xs,fs,rfl,rfl,hl,xl,tl⟩:=TD.asL tx
 have ln:=tl.l1
 rw[List.length_map]at ln
 have hl140:=ok.hl
 refine⟨_,(pss_cons (ps_asg (pv 0) (pg_tup rfl (pgs_cons (pg_name (i:=1) sc_show_yard.nd rfl (Or.inl rfl)) (pgs_cons (pg_name (i:=2) sc_show_yard.nd rfl (Or.inl rfl)) (pgs_cons (pg_name (i:=3) sc_show_yard.nd rfl (Or.inl rfl)) pgs_nil)))))
   (pss_one (ps_ret (pe_bm PySem.F.plainAttrs_str PySem.F.slot_str_join PySem.F.type_str_join mt_join pe_str (pa_cons (pe_op op_cat (pe_lst (pa_cons (pe_callTy call_str_int rfl T.str bt_str (pa_cons (pv 1) pa_nil stx_Name)) (pa_cons (pe_callTy call_str_int rfl T.str bt_str (pa_cons (pv 2) pa_nil stx_Name)) pa_nil stx_Call) stx_Call)) (pe_comp rfl (blkOk (sc:=defScope s_show_yard) (N:=["yard", "wide", "rooms", "held"]) (vs:=["rows"]) (fs:=[]) (js:=[]) (by decide +kernel) rfl rfl) (pi_list (pv 3)) (fun _ _ _ _=>pg_name (i:=0) (show(["rows"]:List Str).Nodup by decide +kernel) rfl (Or.inl rfl)) (fun _ _ _ _=>pif0) (fun _ _ _ _=>(pcl C_show_rows (hr.mono (by decide)) (pa_cons (pv 0) pa_nil stx_Name))))) pa_nil stx_BinOp))))),?_⟩
 rw[st_show_yard]
 walk_at"rd"
 refine⟨t,_,rfl,SqT.of ht,rfl,_,_,rfl,_,_,rfl,_,_,rfl,rfl,?_⟩
 walk_at"rd"
 refine⟨rfl,?_⟩
 walk_at"rd"
 refine⟨_,rfl,log_small (small130 (by have:=ok.w2;omega)),?_⟩
 walk_at"rd"
 refine⟨_,rfl,log_small (small130 ok.r2),?_⟩
 walk_at"rd"
 refine⟨(by show 2≤sizeLine;decide),fun l1 nl1=>?_⟩
 generalize hE:upd H l1 _=H1
 obtain⟨hl1,s1⟩:=newo nl1 hE
 clear hE
 walk_at"rd"
 refine⟨l,rfl,⟨_,SqL.of (s1 _ _ hl)⟩,fun D nD=>?_⟩
 refine comp_list (xs:=xs) (fun i σ' ys H'=>(∃x,σ'=[x])∧Same H1 H'∧ys =((hs.take i).map rowsT).map V.str∧H' D=some (.lst ys)) D ⟨⟨_,rfl⟩,same_new nD _,rfl,upd_same⟩ (fun i σ' ys H' _ h=>SqL.of (h.2.1 _ _ (s1 _ _ hl))) ?_ ?_
 ·rintro i x σ' ys H2 hx ⟨⟨x1,rfl⟩,s2,rfl,hD⟩
  obtain⟨d,f,hd,hf,r⟩:=tl.get hx
  rw[List.getElem?_map]at hd
  have il:=(List.getElem?_eq_some_iff.mp hx).1
  obtain⟨e,he⟩ : ∃e,hs[i]? = some e:=⟨_,List.getElem?_eq_getElem (by omega)⟩
  rw[he]at hd
  cases hd
  walk_at"rd"
  refine⟨x,e,f,rfl,r.same (s1.trans s2),ok.ok e (List.mem_of_getElem? he),fun H3 s3=>?_⟩
  refine⟨s3 _ _ hD,by rw[List.length_map,List.length_map,List.length_take];exact small1000 (by omega),⟨_,rfl⟩,fun b o e=>by rw[upd_ne (ne_of_none e nD)];exact s3 _ _ (s2 _ _ e),?_,upd_same⟩
  rw[take_get he,List.map_append,List.map_append];rfl
 ·rintro σ' ys H2 ⟨⟨x1,rfl⟩,s2,rfl,hD⟩
  rw[ln,List.take_length]at hD
  walk_at"rd"
  refine⟨l1,D,_,_,rfl,rfl,s2 _ _ hl1,hD,(by rw[List.length_map,List.length_map];exact line_small (by show 2+hs.length≤10000;omega)),fun l3 nl3=>?_⟩
  generalize hE:upd H2 l3 _=H3
  obtain⟨hl3,s3⟩:=newo nl3 hE
  clear hE
  have wy:[V.str (numT w),.str (numT r)]++(hs.map rowsT).map V.str =(wordsY w r hs).map V.str:=rfl
  have hl3':H3 l3=some (.lst ((wordsY w r hs).map V.str)):=hl3
  obtain⟨b1,b2⟩:=wordsY_len ok
  walk_at"rd"
  refine⟨_,l3,wordsY w r hs,rfl,rfl,SqL.of hl3',?_,?_⟩
  ·rw[s_sp,show(sg 32).length=1 from rfl];omega
  rw[s_sp,join_txt]
  exact q H3 (s1.trans (s2.trans s3))
theorem ok_read_rows {f:Addr}{fd:FuncData}(F:Fun K "read_rows" "read_rows" s_read_rows f fd) (mF:mg "read_rows" = some (.ref f)) (bF:Binds K fd ["text"] []) (T:Bl mg) (C_ask_text:Cal P w K mg base "ask_text" ["thing"] 1 (sp_ask_text K)) (C_read_row:Cal P w K mg base "read_row" ["text"] 4 (sp_read_row K)):Cal P w K mg base "read_rows" ["text"] 5 (sp_read_rows K):=by
 refine Cal.of F mF bF sc_read_rows (fun vs H Q E h=>?_) (fun cdv A outer s H vs Q E hr h=>?_)
 ·obtain⟨es,rfl,_⟩:=h;rfl
 obtain⟨rs,rfl,⟨ok,rl⟩,q⟩:=h
 have oke:∀r∈rs,∀e∈r,okE e:=fun r hr=>(ok r hr).1
 have tl:=rowsT_len (rs:=rs) (B:=29*130+1) (C:=140) (fun r hr=>rowT_len (ok r hr).1 (ok r hr).2) rl
 refine⟨_,(pss_cons (ps_expr (pcl C_ask_text (hr.mono (by decide)) (pa_cons (pv 0) pa_nil stx_Name)))
   (pss_cons (ps_if (pt_cmpR op_eq (pv 0) pe_str (nomark _)) (pss_one (ps_ret (pe_lst pa_nil))) pss_nil)
   (pss_one (ps_ret (pe_comp rfl (blkOk (sc:=defScope s_read_rows) (N:=["text"]) (vs:=["part"]) (fs:=[]) (js:=[]) (by decide +kernel) rfl rfl) (pi_list (pe_bm PySem.F.plainAttrs_str PySem.F.slot_str_split PySem.F.type_str_split mt_split (pv 0) (pa_cons pe_str pa_nil stx_Constant))) (fun _ _ _ _=>pg_name (i:=0) (show(["part"]:List Str).Nodup by decide +kernel) rfl (Or.inl rfl)) (fun _ _ _ _=>pif0) (fun _ _ _ _=>(pcl C_read_row (hr.mono (by decide)) (pa_cons (pv 0) pa_nil stx_Name)))))))),?_⟩
 rw[st_read_rows]
 walk_at"rd"
 refine⟨_,rfl,?_⟩
 walk_at"rd"
 refine rd_eqZ ?_
 rw[rowsT_none oke]
 walk_at"rd"
 refine rd_if (fun c=>?_) (fun c=>?_)
 ·subst c
  walk_at"rd"
  refine⟨by decide,fun D nD=>?_⟩
  obtain⟨td,nd⟩:=(Gw.nil (H0:=H) (j:=2) (D:=D) (H:=upd H D (.lst [])) upd_same).done (by simp)
  exact q _ _ _ td nd (fun b hb=>by
   have:b=D:=by simpa using hb
   rw[this];exact nD) (same_new nD _)
 ·walk_at"rd"
  refine⟨rfl,?_⟩
  walk_at"rd"
  refine⟨_,_,rfl,rfl,by decide,by show _≤2^24;omega,fun l nl=>?_⟩
  rw[s_semi,rows_split oke c]
  generalize hE:upd H l _=H1
  obtain⟨hl,s1⟩:=newo nl hE
  clear hE
  refine⟨l,rfl,⟨_,SqL.of hl⟩,fun D nD=>?_⟩
  refine comp_list (xs:=(rs.map rowT).map V.str) (fun i σ' ys H'=>(∃x,σ'=[x])∧Same H1 H'∧ys.length=i∧∃gs,Gw H D 2 ys ((rs.map rowD).take i) gs H') D ⟨⟨_,rfl⟩,same_new nD _,rfl,[],Gw.nil upd_same⟩ (fun i σ' ys H' _ h=>SqL.of (h.2.1 _ _ hl)) ?_ ?_
  ·rintro i x σ' ys H2 hx ⟨⟨x1,rfl⟩,s2,yl,gs,g⟩
   rw[List.map_map,List.getElem?_map]at hx
   cases he:rs[i]? with
   | none=>rw[he]at hx;cases hx
   | some e =>
    rw[he]at hx
    cases hx
    have il:=(List.getElem?_eq_some_iff.mp he).1
    have oe:=ok e (List.mem_of_getElem? he)
    have hd:(rs.map rowD)[i]? = some (rowD e):=by rw[List.getElem?_map,he];rfl
    walk_at"rd"
    refine⟨e,rfl,oe,fun v f H3 td nf fr s3=>?_⟩
    refine⟨s3 _ _ g.lat,small1000 (by omega),⟨_,rfl⟩,fun b o e=>by rw[upd_ne (ne_of_none e nD)];exact s3 _ _ (s2 _ _ e),by rw[List.length_append,yl];rfl,gs ++ [f],?_⟩
    rw[take_get hd]
    exact g.push (fun b o e _=>s3 _ _ e) td nf fr (fun b hb=>(s1.trans s2).free (fr b hb))
  ·rintro σ' ys H2 ⟨⟨x1,rfl⟩,s2,yl,gs,g⟩
   rw[List.length_map,List.length_map]at yl
   rw[List.length_map,List.length_map,← List.length_map (f:=rowD),List.take_length]at g
   walk_at"rd"
   obtain⟨td,nd⟩:=g.done (by omega)
   refine q _ _ _ td nd (fun b hb=>?_) (s1.trans s2)
   rcases List.mem_cons.mp hb with rfl|hb
   ·exact s1.free nD
   ·exact g.fr b hb
theorem ok_read_row {f:Addr}{fd:FuncData}(F:Fun K "read_row" "read_row" s_read_row f fd) (mF:mg "read_row" = some (.ref f)) (bF:Binds K fd ["text"] []) (T:Bl mg) (C_read_entry:Cal P w K mg base "read_entry" ["text"] 3 (sp_read_entry K)):Cal P w K mg base "read_row" ["text"] 4 (sp_read_row K):=by
 refine Cal.of F mF bF sc_read_row (fun vs H Q E h=>?_) (fun cdv A outer s H vs Q E hr h=>?_)
 ·obtain⟨es,rfl,_⟩:=h;rfl
 obtain⟨es,rfl,⟨ok,el⟩,q⟩:=h
 have tl:=rowT_len ok el
 refine⟨_,(pss_cons (ps_if (pt_cmpR op_eq (pv 0) pe_str (nomark _)) (pss_one (ps_ret (pe_lst pa_nil))) pss_nil)
   (pss_one (ps_ret (pe_comp rfl (blkOk (sc:=defScope s_read_row) (N:=["text"]) (vs:=["part"]) (fs:=[]) (js:=[]) (by decide +kernel) rfl rfl) (pi_list (pe_bm PySem.F.plainAttrs_str PySem.F.slot_str_split PySem.F.type_str_split mt_split (pv 0) (pa_cons pe_str pa_nil stx_Constant))) (fun _ _ _ _=>pg_name (i:=0) (show(["part"]:List Str).Nodup by decide +kernel) rfl (Or.inl rfl)) (fun _ _ _ _=>pif0) (fun _ _ _ _=>(pcl C_read_entry (hr.mono (by decide)) (pa_cons (pv 0) pa_nil stx_Name))))))),?_⟩
 rw[st_read_row]
 walk_at"rd"
 rw[s_dash]
 refine rd_eqZ ?_
 rw[rowT_dash ok]
 walk_at"rd"
 refine rd_if (fun c=>?_) (fun c=>?_)
 ·subst c
  walk_at"rd"
  refine⟨by decide,fun D nD=>?_⟩
  obtain⟨td,nd⟩:=(Gw.nil (H0:=H) (j:=1) (D:=D) (H:=upd H D (.lst [])) upd_same).done (by simp)
  exact q _ _ _ td nd (fun b hb=>by
   have:b=D:=by simpa using hb
   rw[this];exact nD) (same_new nD _)
 ·walk_at"rd"
  refine⟨rfl,?_⟩
  walk_at"rd"
  refine⟨_,_,rfl,rfl,by decide,by show _≤2^24;omega,fun l nl=>?_⟩
  rw[s_comma,row_split ok c]
  generalize hE:upd H l _=H1
  obtain⟨hl,s1⟩:=newo nl hE
  clear hE
  refine⟨l,rfl,⟨_,SqL.of hl⟩,fun D nD=>?_⟩
  refine comp_list (xs:=(es.map entT).map V.str) (fun i σ' ys H'=>(∃x,σ'=[x])∧Same H1 H'∧ys.length=i∧∃gs,Gw H D 1 ys ((es.map eD).take i) gs H') D ⟨⟨_,rfl⟩,same_new nD _,rfl,[],Gw.nil upd_same⟩ (fun i σ' ys H' _ h=>SqL.of (h.2.1 _ _ hl)) ?_ ?_
  ·rintro i x σ' ys H2 hx ⟨⟨x1,rfl⟩,s2,yl,gs,g⟩
   rw[List.map_map,List.getElem?_map]at hx
   cases he:es[i]? with
   | none=>rw[he]at hx;cases hx
   | some e =>
    rw[he]at hx
    cases hx
    have il:=(List.getElem?_eq_some_iff.mp he).1
    have oe:=ok e (List.mem_of_getElem? he)
    have hd:(es.map eD)[i]? = some (eD e):=by rw[List.getElem?_map,he];rfl
    walk_at"rd"
    refine⟨e,rfl,oe,fun t H3 ht s3=>?_⟩
    refine⟨s3 _ _ g.lat,small1000 (by omega),⟨_,rfl⟩,fun b o e=>by rw[upd_ne (ne_of_none e nD)];exact s3 _ _ (s2 _ _ e),by rw[List.length_append,yl];rfl,gs ++ [[]],?_⟩
    rw[take_get hd]
    exact g.push (fun b o e _=>s3 _ _ e) (TD.ofEnt ht (nm_ok oe.2.2).1) List.nodup_nil (fun _ h=>by cases h) (fun _ h=>by cases h)
  ·rintro σ' ys H2 ⟨⟨x1,rfl⟩,s2,yl,gs,g⟩
   rw[List.length_map,List.length_map]at yl
   rw[List.length_map,List.length_map,← List.length_map (f:=eD),List.take_length]at g
   walk_at"rd"
   obtain⟨td,nd⟩:=g.done (by omega)
   refine q _ _ _ td nd (fun b hb=>?_) (s1.trans s2)
   rcases List.mem_cons.mp hb with rfl|hb
   ·exact s1.free nD
   ·exact g.fr b hb
theorem ok_read_entry {f:Addr}{fd:FuncData}(F:Fun K "read_entry" "read_entry" s_read_entry f fd) (mF:mg "read_entry" = some (.ref f)) (bF:Binds K fd ["text"] []) (T:Bl mg) (C_is_name:Cal P w K mg base "is_name" ["thing"] 1 (sp_is_name K)) (C_read_number:Cal P w K mg base "read_number" ["text", "least", "most"] 2 (sp_read_number K)):Cal P w K mg base "read_entry" ["text"] 3 (sp_read_entry K):=by
 refine Cal.of F mF bF sc_read_entry (fun vs H Q E h=>?_) (fun cdv A outer s H vs Q E hr h=>?_)
 ·obtain⟨e,rfl,_⟩:=h;rfl
 obtain⟨e,rfl,ok,q⟩:=h
 have el:=entT_len ok
 obtain⟨m,em,hm⟩:=ok.num
 refine⟨_,(pss_cons (ps_asg (pe_bm PySem.F.plainAttrs_str PySem.F.slot_str_partition PySem.F.type_str_partition mt_part (pv 0) (pa_cons pe_str pa_nil stx_Constant)) (pg_tup rfl (pgs_cons (pg_name (i:=1) sc_read_entry.nd rfl (Or.inl rfl)) (pgs_cons (pg_name (i:=2) sc_read_entry.nd rfl (Or.inl rfl)) (pgs_cons (pg_name (i:=3) sc_read_entry.nd rfl (Or.inl rfl)) pgs_nil)))))
   (pss_cons (ps_if (pt_not (pt_val (pcl C_is_name (hr.mono (by decide)) (pa_cons (pv 3) pa_nil stx_Name)))) (pss_one ps_dead) pss_nil)
   (pss_one (ps_ret (pe_tup (pa_cons (pcl C_read_number (hr.mono (by decide)) (pa_cons (pv 1) (pa_cons pe_int (pa_cons (pe_gint rfl T.c_LAST_KEY) pa_nil stx_Name) stx_Constant) stx_Name)) (pa_cons (pv 3) pa_nil stx_Name) stx_Call)))))),?_⟩
 rw[st_read_entry]
 walk_at"rd"
 refine⟨rfl,?_⟩
 walk_at"rd"
 refine⟨_,_,rfl,rfl,by decide,Nat.le_of_lt (small1000 (by omega)),fun t nt=>?_⟩
 rw[s_eq,ent_part ok]
 generalize hE:upd H t _=H1
 obtain⟨ht,s1⟩:=newo nt hE
 clear hE
 walk_at"rd"
 refine⟨t,_,rfl,SqT.of ht,rfl,_,_,rfl,_,_,rfl,_,_,rfl,rfl,?_⟩
 walk_at"rd"
 refine⟨_,rfl,ok.2.2,fun H2 s2=>?_⟩
 walk_at"rd"
 refine⟨m,0,_,by rw[em];rfl,hm,by omega,?_,fun H3 s3=>?_⟩
 ·have:=ok.2.1;omega
 walk_at"rd"
 refine⟨(by show 2≤sizeLine;decide),fun t2 nt2=>?_⟩
 generalize hE:upd H3 t2 _=H4
 obtain⟨ht2,s4⟩:=newo nt2 hE
 clear hE
 walk_at"rd"
 exact q t2 H4 (by rw[em];exact ht2) (s1.trans (s2.trans (s3.trans s4)))
theorem ok_read_step {f:Addr}{fd:FuncData}(F:Fun K "read_step" "read_step" s_read_step f fd) (mF:mg "read_step" = some (.ref f)) (bF:Binds K fd ["text"] []) (T:Bl mg) (C_read_words:Cal P w K mg base "read_words" ["text"] 2 (sp_read_words K)) (C_read_number:Cal P w K mg base "read_number" ["text", "least", "most"] 2 (sp_read_number K)) (C_read_row:Cal P w K mg base "read_row" ["text"] 4 (sp_read_row K)):Cal P w K mg base "read_step" ["text"] 5 (sp_read_step K):=by
 refine Cal.of F mF bF sc_read_step (fun vs H Q E h=>?_) (fun cdv A outer s H vs Q E hr h=>?_)
 ·obtain⟨st,rfl,_⟩:=h;rfl
 obtain⟨st,rfl,ok,q⟩:=h
 have tl:=stepT_len ok
 refine⟨_,(pss_cons (ps_asg (pcl C_read_words (hr.mono (by decide)) (pa_cons (pv 0) pa_nil stx_Name)) (pg_star (n:=1) rfl (pgs_cons (pg_name (i:=1) sc_read_step.nd rfl (Or.inl rfl)) (pgs_star (pg_name (i:=2) sc_read_step.nd rfl (Or.inl rfl)) pgs_nil))))
   (pss_cons (ps_if (PW.pt (pw_and (pt_cmpR op_eq (pv 1) pe_str (nomark _)) (pw_and1 (pt_cmpR op_eq (pe_callB call_lenL rfl T.len bt_len (pa_cons (pv 2) pa_nil stx_Name)) pe_int (nomark _))))) (pss_cons (ps_asg (pv 2) (pg_tupL (n:=3) rfl (pgs_cons (pg_name (i:=3) sc_read_step.nd rfl (Or.inl rfl)) (pgs_cons (pg_name (i:=4) sc_read_step.nd rfl (Or.inl rfl)) (pgs_cons (pg_name (i:=5) sc_read_step.nd rfl (Or.inl rfl)) pgs_nil)))))
   (pss_one (ps_ret (pe_tup (pa_cons (pv 1) (pa_cons (pcl C_read_number (hr.mono (by decide)) (pa_cons (pv 3) (pa_cons pe_int (pa_cons (pe_gint rfl T.c_MOST) pa_nil stx_Name) stx_Constant) stx_Name)) (pa_cons (pcl C_read_number (hr.mono (by decide)) (pa_cons (pv 4) (pa_cons pe_int (pa_cons (pe_gint rfl T.c_MOST) pa_nil stx_Name) stx_Constant) stx_Name)) (pa_cons (pcl C_read_row (hr.mono (by decide)) (pa_cons (pv 5) pa_nil stx_Name)) pa_nil stx_Call) stx_Call) stx_Call) stx_Name))))) pss_nil)
   (pss_cons (ps_if (PW.pt (pw_and (pt_cmpR op_eq (pv 1) pe_str (nomark _)) (pw_and1 (pt_cmpR op_eq (pe_callB call_lenL rfl T.len bt_len (pa_cons (pv 2) pa_nil stx_Name)) pe_int (nomark _))))) (pss_cons (ps_asg (pv 2) (pg_tupL (n:=2) rfl (pgs_cons (pg_name (i:=3) sc_read_step.nd rfl (Or.inl rfl)) (pgs_cons (pg_name (i:=6) sc_read_step.nd rfl (Or.inl rfl)) pgs_nil))))
   (pss_one (ps_ret (pe_tup (pa_cons (pv 1) (pa_cons (pcl C_read_number (hr.mono (by decide)) (pa_cons (pv 3) (pa_cons pe_int (pa_cons (pe_gint rfl T.c_MOST) pa_nil stx_Name) stx_Constant) stx_Name)) (pa_cons (pcl C_read_number (hr.mono (by decide)) (pa_cons (pv 6) (pa_cons pe_int (pa_cons (pe_gint rfl T.c_MOST) pa_nil stx_Name) stx_Constant) stx_Name)) pa_nil stx_Call) stx_Call) stx_Name))))) pss_nil)
   (pss_cons (ps_if (PW.pt (pw_and (pt_cmpR op_eq (pv 1) pe_str (nomark _)) (pw_and1 (pt_cmpR op_eq (pe_callB call_lenL rfl T.len bt_len (pa_cons (pv 2) pa_nil stx_Name)) pe_int (nomark _))))) (pss_one (ps_ret (pe_tup (pa_cons (pv 1) (pa_cons (pcl C_read_number (hr.mono (by decide)) (pa_cons (pe_ix ix_list (pv 2) pe_int (fun _ _=>rfl)) (pa_cons pe_int (pa_cons (pe_gint rfl T.c_MOST) pa_nil stx_Name) stx_Constant) stx_Subscript)) pa_nil stx_Call) stx_Name)))) pss_nil)
   (pss_one ps_dead))))),?_⟩
 rw[st_read_step]
 walk_at"rd"
 refine⟨_,rfl,line_small (by omega),fun l nl=>?_⟩
 rw[step_split ok]
 generalize hE:upd H l _=H1
 obtain⟨hl,s1⟩:=newo nl hE
 clear hE
 cases st with
 | row r a es =>
  obtain⟨o1,o2,o3⟩:=ok
  walk_at"rd"
  refine⟨l,_,rfl,SqL.of hl,by show 1≤4;decide,fun l2 nl2=>⟨_,_,rfl,_,_,rfl,rfl,?_⟩⟩
  generalize hE:upd H1 l2 _=H2
  obtain⟨hl2,s2⟩:=newo nl2 hE
  clear hE
  walk_at"rd"
  refine rd_eqZ ?_
  rw[decide_eq_true (show wRow=Str.ofString "row" from rfl)]
  walk_at"rd"
  refine rd_tx ‹_› ?_
  walk_at"rd"
  refine⟨l2,_,rfl,SqL.of hl2,rfl,_,_,rfl,_,_,rfl,_,_,rfl,rfl,?_⟩
  walk_at"rd"
  refine⟨r,0,130,rfl,small130 o1,by omega,by omega,fun H3 s3=>?_⟩
  walk_at"rd"
  refine⟨a,0,130,rfl,small130 o2,by omega,by omega,fun H4 s4=>?_⟩
  walk_at"rd"
  refine⟨es,rfl,o3,fun v f H5 td nf fr s5=>?_⟩
  walk_at"rd"
  refine⟨(by show 4≤sizeLine;decide),fun t nt=>?_⟩
  generalize hE:upd H5 t _=H6
  obtain⟨ht,s6⟩:=newo nt hE
  clear hE
  have s04:=s1.trans (s2.trans (s3.trans s4))
  walk_at"rd"
  refine q (.ref t) f H6 ?_ nf (fun b hb=>s04.free (fr b hb)) (s04.trans (s5.trans s6))
  have:=TD.ofT (n:=2) ht (by show 4≤1000;decide) (.cons (TD.str (by decide +kernel)) (.cons (TD.int _) (.cons (TD.int _) (.cons (td.same s6) TL.nil))))
  show TD H6 3 (V.ref t) (.tuple [.str wRow,.int r,.int a,rowD es]) f
  simpa using this
 | cut r m =>
  obtain⟨o1,o2⟩:=ok
  walk_at"rd"
  refine⟨l,_,rfl,SqL.of hl,by show 1≤3;decide,fun l2 nl2=>⟨_,_,rfl,_,_,rfl,rfl,?_⟩⟩
  generalize hE:upd H1 l2 _=H2
  obtain⟨hl2,s2⟩:=newo nl2 hE
  clear hE
  walk_at"rd"
  refine rd_eqZ ?_
  rw[decide_eq_false (show ¬ wCut=Str.ofString "row" by decide)]
  walk_at"rd"
  refine rd_eqZ ?_
  rw[decide_eq_true (show wCut=Str.ofString "cut" from rfl)]
  walk_at"rd"
  refine rd_tx ‹_› ?_
  walk_at"rd"
  refine⟨l2,_,rfl,SqL.of hl2,rfl,_,_,rfl,_,_,rfl,rfl,?_⟩
  walk_at"rd"
  refine⟨r,0,130,rfl,small130 o1,by omega,by omega,fun H3 s3=>?_⟩
  walk_at"rd"
  refine⟨m,0,130,rfl,small130 o2,by omega,by omega,fun H4 s4=>?_⟩
  walk_at"rd"
  refine⟨(by show 3≤sizeLine;decide),fun t nt=>?_⟩
  generalize hE:upd H4 t _=H6
  obtain⟨ht,s6⟩:=newo nt hE
  clear hE
  walk_at"rd"
  refine q (.ref t) [] H6 ?_ List.nodup_nil (fun _ h=>by cases h) (s1.trans (s2.trans (s3.trans (s4.trans s6))))
  exact TD.ofT (n:=2) (fs:=[[],[],[]]) ht (by show 3≤1000;decide) (.cons (TD.str (by decide +kernel)) (.cons (TD.int _) (.cons (TD.int _) TL.nil)))
 | rooms n =>
  obtain⟨o1,o2⟩:=ok
  walk_at"rd"
  refine⟨l,_,rfl,SqL.of hl,by show 1≤2;decide,fun l2 nl2=>⟨_,_,rfl,_,_,rfl,rfl,?_⟩⟩
  generalize hE:upd H1 l2 _=H2
  obtain⟨hl2,s2⟩:=newo nl2 hE
  clear hE
  walk_at"rd"
  refine rd_eqZ ?_
  rw[decide_eq_false (show ¬ wRooms=Str.ofString "row" by decide)]
  walk_at"rd"
  refine rd_eqZ ?_
  rw[decide_eq_false (show ¬ wRooms=Str.ofString "cut" by decide)]
  walk_at"rd"
  refine rd_eqZ ?_
  rw[decide_eq_true (show wRooms=Str.ofString "rooms" from rfl)]
  walk_at"rd"
  refine rd_tx ‹_› ?_
  walk_at"rd"
  refine⟨n,1,130,rfl,small130 o2,by omega,by omega,fun H3 s3=>?_⟩
  walk_at"rd"
  refine⟨(by show 2≤sizeLine;decide),fun t nt=>?_⟩
  generalize hE:upd H3 t _=H6
  obtain⟨ht,s6⟩:=newo nt hE
  clear hE
  walk_at"rd"
  refine q (.ref t) [] H6 ?_ List.nodup_nil (fun _ h=>by cases h) (s1.trans (s2.trans (s3.trans s6)))
  exact TD.ofT (n:=2) (fs:=[[],[]]) ht (by show 2≤1000;decide) (.cons (TD.str (by decide +kernel)) (.cons (TD.int _) TL.nil))
theorem ok_read_yard {f:Addr}{fd:FuncData}(F:Fun K "read_yard" "read_yard" s_read_yard f fd) (mF:mg "read_yard" = some (.ref f)) (bF:Binds K fd ["text"] []) (T:Bl mg) (C_read_words:Cal P w K mg base "read_words" ["text"] 2 (sp_read_words K)) (C_read_rows:Cal P w K mg base "read_rows" ["text"] 5 (sp_read_rows K)) (C_read_number:Cal P w K mg base "read_number" ["text", "least", "most"] 2 (sp_read_number K)):Cal P w K mg base "read_yard" ["text"] 6 (sp_read_yard K):=by
 refine Cal.of F mF bF sc_read_yard (fun vs H Q E h=>?_) (fun cdv A outer s H vs Q E hr h=>?_)
 ·obtain⟨w,r,hs,rfl,_⟩:=h;rfl
 obtain⟨w,r,hs,rfl,ok,q⟩:=h
 have tl:=yardT_len ok
 have hl140:=ok.hl
 refine⟨_,(pss_cons (ps_set (i:=1) sc_read_yard.nd rfl (Or.inl rfl) (pcl C_read_words (hr.mono (by decide)) (pa_cons (pv 0) pa_nil stx_Name)))
   (pss_cons (ps_if (pt_cmpR op_lt (pe_callB call_lenL rfl T.len bt_len (pa_cons (pv 1) pa_nil stx_Name)) pe_int (nomark _)) (pss_one ps_dead) pss_nil)
   (pss_cons (ps_asg (pv 1) (pg_star (n:=2) rfl (pgs_cons (pg_name (i:=2) sc_read_yard.nd rfl (Or.inl rfl)) (pgs_cons (pg_name (i:=3) sc_read_yard.nd rfl (Or.inl rfl)) (pgs_star (pg_name (i:=4) sc_read_yard.nd rfl (Or.inl rfl)) pgs_nil)))))
   (pss_cons (ps_setc (i:=5) sc_read_yard.nd rfl rfl rfl (blkOk (sc:=defScope s_read_yard) (N:=["text", "words", "wide", "rooms", "rest", "held"]) (vs:=["word"]) (fs:=[]) (js:=[]) (by decide +kernel) rfl rfl) (pi_list (pv 4)) (fun _ _ _ _=>pg_name (i:=0) (show(["word"]:List Str).Nodup by decide +kernel) rfl (Or.inl rfl)) (fun _ _ _ _=>pif0) (fun _ _ _ _=>(pcl C_read_rows (hr.mono (by decide)) (pa_cons (pv 0) pa_nil stx_Name))))
   (pss_cons (ps_if (PW.pt (pw_and (pt_truth (pv 5) (fun _=>rfl)) (pw_and1 (pt_not (pt_truth (pe_ix ix_list (pv 5) (pe_un un_neg pe_int) (fun _ _=>rfl)) (fun _=>rfl)))))) (pss_one ps_dead) pss_nil)
   (pss_one (ps_ret (pe_tup (pa_cons (pcl C_read_number (hr.mono (by decide)) (pa_cons (pv 2) (pa_cons pe_int (pa_cons (pe_gint rfl T.c_MOST_WIDE) pa_nil stx_Name) stx_Constant) stx_Name)) (pa_cons (pcl C_read_number (hr.mono (by decide)) (pa_cons (pv 3) (pa_cons pe_int (pa_cons (pe_gint rfl T.c_MOST) pa_nil stx_Name) stx_Constant) stx_Name)) (pa_cons (pv 5) pa_nil stx_Name) stx_Call) stx_Call))))))))),?_⟩
 rw[st_read_yard]
 walk_at"rd"
 refine⟨_,rfl,by show _≤2^24;omega,fun l nl=>?_⟩
 rw[yard_split ok]
 generalize hE:upd H l _=H1
 obtain⟨hl,s1⟩:=newo nl hE
 clear hE
 walk_at"rd"
 refine rd_if (fun c=>?_) (fun c=>?_)
 ·exfalso
  rw[List.length_map]at c
  simp[wordsY]at c
  omega
 walk_at"rd"
 refine⟨l,_,rfl,SqL.of hl,by rw[List.length_map];simp[wordsY],fun l2 nl2=>⟨_,_,rfl,_,_,rfl,_,_,rfl,rfl,?_⟩⟩
 have dr:((wordsY w r hs).map V.str).drop 2 =(hs.map rowsT).map V.str:=rfl
 rw[dr]
 generalize hE:upd H1 l2 _=H2
 obtain⟨hl2,s2⟩:=newo nl2 hE
 clear hE
 walk_at"rd"
 refine⟨l2,rfl,⟨_,SqL.of hl2⟩,fun D nD=>?_⟩
 refine comp_list (xs:=(hs.map rowsT).map V.str) (fun i σ' ys H'=>(∃x,σ'=[x])∧Same H2 H'∧ys.length=i∧∃gs,Gw H D 3 ys ((hs.map rowsD).take i) gs H') D ⟨⟨_,rfl⟩,same_new nD _,rfl,[],Gw.nil upd_same⟩ (fun i σ' ys H' _ h=>SqL.of (h.2.1 _ _ hl2)) ?_ ?_
 ·rintro i x σ' ys H3 hx ⟨⟨x1,rfl⟩,s3,yl,gs,g⟩
  rw[List.map_map,List.getElem?_map]at hx
  cases he:hs[i]? with
  | none=>rw[he]at hx;cases hx
  | some e =>
   rw[he]at hx
   cases hx
   have il:=(List.getElem?_eq_some_iff.mp he).1
   have hd:(hs.map rowsD)[i]? = some (rowsD e):=by rw[List.getElem?_map,he];rfl
   walk_at"rd"
   refine⟨e,rfl,ok.ok e (List.mem_of_getElem? he),fun v f H4 td nf fr s4=>?_⟩
   refine⟨s4 _ _ g.lat,small1000 (by omega),⟨_,rfl⟩,fun b o e=>by rw[upd_ne (ne_of_none e nD)];exact s4 _ _ (s3 _ _ e),by rw[List.length_append,yl];rfl,gs ++ [f],?_⟩
   rw[take_get hd]
   exact g.push (fun b o e _=>s4 _ _ e) td nf fr (fun b hb=>(s1.trans (s2.trans s3)).free (fr b hb))
 ·rintro σ' ys H3 ⟨⟨x1,rfl⟩,s3,yl,gs,g⟩
  rw[List.length_map,List.length_map]at yl
  rw[List.length_map,List.length_map,← List.length_map (f:=rowsD),List.take_length]at g
  have s03:=s1.trans (s2.trans s3)
  obtain⟨td,nd⟩:=g.done (by omega)
  walk_at"rd"
  have gl:=g.tl.l1
  rw[List.length_map]at gl
  rcases List.eq_nil_or_concat hs with c|⟨hs',rs,c⟩
  ·subst c
   have y0:ys=[]:=List.eq_nil_of_length_eq_zero (by omega)
   subst y0
   refine⟨false,.inl ⟨[],SqL.of g.lat,rfl⟩,?_⟩
   walk_at"rd"
   refine⟨w,1,8,rfl,small130 (by have:=ok.w2;omega),by have:=ok.w1;omega,by have:=ok.w2;omega,fun H4 s4=>?_⟩
   walk_at"rd"
   refine⟨r,1,130,rfl,small130 ok.r2,by have:=ok.r1;omega,by have:=ok.r2;omega,fun H5 s5=>?_⟩
   walk_at"rd"
   refine⟨(by show 3≤sizeLine;decide),fun t nt=>?_⟩
   generalize hE:upd H5 t _=H6
   obtain⟨ht,s6⟩:=newo nt hE
   clear hE
   have s36:=s4.trans (s5.trans s6)
   walk_at"rd"
   refine q (.ref t) (D::gs.flatten) H6 ?_ nd (fun b hb=>?_) (s03.trans s36)
   ·have:=TD.ofT (n:=4) ht (by show 3≤1000;decide) (.cons (TD.int _) (.cons (TD.int _) (.cons (td.same s36) TL.nil)))
    unfold yardD heldD
    simpa using this
   ·rcases List.mem_cons.mp hb with rfl|hb
    ·exact(s1.trans s2).free nD
    ·exact g.fr b hb
  ·have hn:rs ≠ []:=ok.last rs (by rw[c];simp)
   have yn:ys ≠ []:=fun z=>by
    rw[z,c]at gl
    simp at gl
   obtain⟨ys',y,rfl⟩ : ∃ys' y,ys=ys' ++ [y]:=by
    rcases List.eq_nil_or_concat ys with z|⟨a,b,z⟩
    ·exact absurd z yn
    ·exact⟨a,b,by simpa using z⟩
   have hy:(ys' ++ [y])[ys'.length]? = some y:=by simp
   obtain⟨d,f,hd,hf,ry⟩:=g.tl.get hy
   have ed:d=rowsD rs:=by
    rw[List.getElem?_map,c]at hd
    have:ys'.length=hs'.length:=by rw[c]at gl;simp at gl;omega
    rw[this]at hd
    simp at hd
    exact hd.symm
   subst ed
   obtain⟨ly,xs,fs,rfl,rfl,hly,_,tly⟩:=TD.asL ry
   have xn:(!xs.isEmpty)=true:=by
    have:=tly.l1
    rw[List.length_map]at this
    cases xs with
    | nil=>exact absurd (List.eq_nil_of_length_eq_zero this.symm) hn
    | cons _ _=>rfl
   refine⟨true,.inl ⟨_,SqL.of g.lat,by cases ys' <;> rfl⟩,?_⟩
   walk_at"rd"
   refine rd_ixL (SqL.of g.lat) at_end ?_
   refine⟨true,.inl ⟨_,SqL.of hly,xn.symm⟩,?_⟩
   walk_at"rd"
   refine⟨w,1,8,rfl,small130 (by have:=ok.w2;omega),by have:=ok.w1;omega,by have:=ok.w2;omega,fun H4 s4=>?_⟩
   walk_at"rd"
   refine⟨r,1,130,rfl,small130 ok.r2,by have:=ok.r1;omega,by have:=ok.r2;omega,fun H5 s5=>?_⟩
   walk_at"rd"
   refine⟨(by show 3≤sizeLine;decide),fun t nt=>?_⟩
   generalize hE:upd H5 t _=H6
   obtain⟨ht,s6⟩:=newo nt hE
   clear hE
   have s36:=s4.trans (s5.trans s6)
   walk_at"rd"
   refine q (.ref t) (D::gs.flatten) H6 ?_ nd (fun b hb=>?_) (s03.trans s36)
   ·have:=TD.ofT (n:=4) ht (by show 3≤1000;decide) (.cons (TD.int _) (.cons (TD.int _) (.cons (td.same s36) TL.nil)))
    unfold yardD heldD
    simpa using this
   ·rcases List.mem_cons.mp hb with rfl|hb
    ·exact(s1.trans s2).free nD
    ·exact g.fr b hb
theorem ok_read_words {f:Addr}{fd:FuncData}(F:Fun K "read_words" "read_words" s_read_words f fd) (mF:mg "read_words" = some (.ref f)) (bF:Binds K fd ["text"] []) (T:Bl mg) (C_ask_text:Cal P w K mg base "ask_text" ["thing"] 1 (sp_ask_text K)):Cal P w K mg base "read_words" ["text"] 2 (sp_read_words K):=by
 refine Cal.of F mF bF sc_read_words (fun vs H Q E h=>?_) (fun cdv A outer s H vs Q E hr h=>?_)
 ·obtain⟨z,rfl,_⟩:=h;rfl
 obtain⟨z,rfl,hz,q⟩:=h
 refine⟨_,(pss_cons (ps_expr (pcl C_ask_text (hr.mono (by decide)) (pa_cons (pv 0) pa_nil stx_Name)))
   (pss_one (ps_ret (pe_bm PySem.F.plainAttrs_str PySem.F.slot_str_split PySem.F.type_str_split mt_split (pv 0) (pa_cons pe_str pa_nil stx_Constant))))),?_⟩
 rw[st_read_words]
 walk_at"rd"
 refine⟨z,rfl,?_⟩
 walk_at"rd"
 refine⟨rfl,?_⟩
 walk_at"rd"
 refine⟨z,_,rfl,rfl,by decide,hz,fun l nl=>?_⟩
 rw[s_sp]
 exact q l nl
theorem ok_read_number {f:Addr}{fd:FuncData}(F:Fun K "read_number" "read_number" s_read_number f fd) (mF:mg "read_number" = some (.ref f)) (bF:Binds K fd ["text", "least", "most"] []) (T:Bl mg) (C_is_number:Cal P w K mg base "is_number" ["text"] 1 (sp_is_number K)):Cal P w K mg base "read_number" ["text", "least", "most"] 2 (sp_read_number K):=by
 refine Cal.of F mF bF sc_read_number (fun vs H Q E h=>?_) (fun cdv A outer s H vs Q E hr h=>?_)
 ·obtain⟨m,lo,hi,rfl,_⟩:=h;rfl
 obtain⟨m,lo,hi,rfl,hm,h1,h2,q⟩:=h
 have ln:=numT_len hm
 rw[Array.length_toList]at ln
 have zl:(numT m).length≤640:=Nat.le_trans ln (by decide)
 refine⟨_,(pss_cons (ps_if (PW.pt (pw_or (pt_not (pt_val (pcl C_is_number (hr.mono (by decide)) (pa_cons (pv 0) pa_nil stx_Name)))) (pw_or1 (pt_not (pt_chain op_le op_le (pv 1) (pe_callTy call_intS rfl T.int bt_int (pa_cons (pv 0) pa_nil stx_Name)) (pv 2)))))) (pss_one ps_dead) pss_nil)
   (pss_one (ps_ret (pe_callTy call_intS rfl T.int bt_int (pa_cons (pv 0) pa_nil stx_Name))))),?_⟩
 rw[st_read_number]
 walk_at"rd"
 refine⟨m,rfl,hm,fun H1 s1=>?_⟩
 walk_at"rd"
 refine⟨_,_,rfl,numT_reads hm,zl,?_⟩
 walk_at"rd"
 rw[decide_eq_true h1]
 walk_at"rd"
 rw[decide_eq_true h2]
 walk_at"rd"
 refine⟨_,_,rfl,numT_reads hm,zl,?_⟩
 walk_at"rd"
 exact q H1 s1
theorem ok_is_number {f:Addr}{fd:FuncData}(F:Fun K "is_number" "is_number" s_is_number f fd) (mF:mg "is_number" = some (.ref f)) (bF:Binds K fd ["text"] []) (T:Bl mg)  : Cal P w K mg base "is_number" ["text"] 1 (sp_is_number K):=by
 refine Cal.of F mF bF sc_is_number (fun vs H Q E h=>?_) (fun cdv A outer s H vs Q E hr h=>?_)
 ·obtain⟨m,rfl,_⟩:=h;rfl
 obtain⟨m,rfl,hm,q⟩:=h
 have ln:=numT_len hm
 have lp:=numT_pos m
 rw[Array.length_toList]at ln lp
 have zl:(numT m).length≤19:=ln
 have zp:1 ≤(numT m).length:=lp
 refine⟨_,(pss_cons (ps_if (PW.pt (pw_or (pt_not (pt_chain op_le op_le pe_int (pe_callB call_lenS rfl T.len bt_len (pa_cons (pv 0) pa_nil stx_Name)) (pe_gint rfl T.c_MOST_FIGURES))) (pw_or1 (pt_not (pt_val (pe_callB (call_allL rfl) rfl T.all bt_all (pa_cons (pe_comp rfl (blkOk (sc:=defScope s_is_number) (N:=["text"]) (vs:=["sign"]) (fs:=[]) (js:=[]) (by decide +kernel) rfl rfl) (pi_str (pv 0)) (fun _ _ _ _=>pg_name (i:=0) (show(["sign"]:List Str).Nodup by decide +kernel) rfl (Or.inl rfl)) (fun _ _ _ _=>pif0) (fun _ _ _ _=>(pe_chain op_le_str op_le_str pe_str (pv 0) pe_str))) pa_nil stx_ListComp))))))) (pss_one (ps_ret pe_bl)) pss_nil)
   (pss_one (ps_ret (pe_or (pe_cmpR op_eq (pv 0) pe_str (nomark _)) (pe_one (pe_cmpR op_ne (pe_ix ix_str (pv 0) pe_int (fun _ _=>rfl)) pe_str (nomark _))))))),?_⟩
 rw[st_is_number]
 walk_at"rd"
 refine rd_lenS (Nat.le_of_lt (small1000 (by omega))) ?_
 walk_at"rd"
 rw[decide_eq_true (show(1:Int) ≤((numT m).length:Int) by omega)]
 walk_at"rd"
 rw[decide_eq_true (show((numT m).length:Int)≤30 by omega)]
 walk_at"rd"
 refine⟨_,rfl,fun D nD=>?_⟩
 refine comp_str (fun i σ' ys H'=>(∃x,σ'=[x])∧i ≤(numT m).length∧ys=List.replicate i (V.bl true)∧Same H H'∧H' D=some (.lst ys)) D ?_ ?_ ?_
 ·exact⟨⟨_,rfl⟩,Nat.zero_le _,rfl,same_new nD _,upd_same⟩
 ·rintro i c σ' ys H' hi ⟨⟨y,rfl⟩,il,rfl,g1,g2⟩
  obtain⟨c1,c2⟩:=numT_dig c (by simpa using Array.mem_of_getElem? hi)
  have il2:i <(numT m).length:=(Array.getElem?_eq_some_iff.mp hi).1
  obtain⟨d1,d2⟩:=lo48 c c1 c2
  walk_at"rd"
  rw[show((⟨#[c]⟩ : Str).cps.toList)=[c] from rfl,show((Str.ofString "0").cps.toList)=[48] by decide +kernel,d1]
  walk_at"rd"
  rw[show((⟨#[c]⟩ : Str).cps.toList)=[c] from rfl,show((Str.ofString "9").cps.toList)=[57] by decide +kernel,d2]
  refine⟨g2,by rw[List.length_replicate];exact small1000 (by omega),⟨_,rfl⟩,by omega,by rw[List.replicate_succ'],fun b o e=>?_,upd_same⟩
  rw[upd_ne (ne_of_none e nD)];exact g1 _ _ e
 ·rintro σ' ys H' ⟨⟨y,rfl⟩,_,rfl,g1,g2⟩
  walk_at"rd"
  refine rd_allL (bs:=List.replicate (numT m).cps.size true) (by rw[List.map_replicate];exact SqL.of g2) ?_
  rw[show(List.replicate (numT m).cps.size true).all id=true by rw[List.all_replicate];simp]
  walk_at"rd"
  refine rd_eqZ ?_
  walk_at"rd"
  refine rd_if (fun c=>?_) (fun c=>?_)
  ·exact q H' g1
  ·have m0:0<m:=by
    rcases Nat.eq_zero_or_pos m with z|z
    ·subst z;exact absurd numT_zero c
    ·exact z
   have hh:=numT_head m0
   obtain⟨x,hx⟩ : ∃x,(numT m).cps.toList[0]? = some x:=⟨_,List.getElem?_eq_getElem (by have:=numT_pos m;omega)⟩
   rw[hx]at hh
   walk_at"rd"
   refine rd_ixS (Nat.le_of_lt (small1000 (by omega))) (atI_nat (j:=0) hx) ?_
   refine rd_neZ ?_
   rw[decide_eq_false (fun e=>hh (by
    have:=congrArg (fun z:Str=>z.cps.toList[0]?) e
    exact this))]
   exact q H' g1
theorem ok_ask_text {f:Addr}{fd:FuncData}(F:Fun K "ask_text" "ask_text" s_ask_text f fd) (mF:mg "ask_text" = some (.ref f)) (bF:Binds K fd ["thing"] []) (T:Bl mg)  : Cal P w K mg base "ask_text" ["thing"] 1 (sp_ask_text K):=by
 refine Cal.of F mF bF sc_ask_text (fun vs H Q E h=>?_) (fun cdv A outer s H vs Q E hr h=>?_)
 ·obtain⟨z,rfl,_⟩:=h;rfl
 obtain⟨z,rfl,q⟩:=h
 refine⟨_,(pss_one (ps_if (pt_not (pt_val (pe_callB call_isinst rfl T.isinstance bt_isinstance (pa_cons (pv 0) (pa_cons (pe_bltn (v:=.ty "str") rfl T.str bt_str rfl) pa_nil stx_Name) stx_Name)))) (pss_one ps_dead) pss_nil)),?_⟩
 rw[st_ask_text]
 walk_at"rd"
 refine rd_isi (.str z) (b:=true) rfl ?_
 walk_at"rd"
 exact q
theorem ok__law_open {f:Addr}{fd:FuncData}(F:Fun K "_law_open" "_law_open" s__law_open f fd) (mF:mg "_law_open" = some (.ref f)) (bF:Binds K fd ["_law_script", "_law_place"] []) (T:Bl mg)  : Cal P w K mg base "_law_open" ["_law_script", "_law_place"] 1 (sp__law_open K):=by
 refine Cal.of F mF bF sc__law_open (fun vs H Q E h=>?_) (fun cdv A outer s H vs Q E hr h=>?_)
 ·obtain⟨a,ns,pl,rfl,_⟩:=h;rfl
 obtain⟨a,ns,pl,rfl,hS,hlen,h0,h1,q⟩:=h
 have hu:=hr.units
 refine⟨_,(pss_cons (ps_setc (i:=2) sc__law_open.nd rfl rfl rfl (blkOk (sc:=defScope s__law_open) (N:=["_law_script", "_law_place", "_law_cells", "_law_at", "_law_digits"]) (vs:=["_law_cell"]) (fs:=[]) (js:=[]) (by decide +kernel) rfl rfl) (pi_list (pe_slice sl_list (pv 0) po_none (po_some pe_int))) (fun _ _ _ _=>pg_name (i:=0) (show(["_law_cell"]:List Str).Nodup by decide +kernel) rfl (Or.inl rfl)) (fun _ _ _ _=>pif0) (fun _ _ _ _=>(pe_callB call_abs1 rfl T.abs bt_abs (pa_cons (pv 0) pa_nil stx_Name))))
   (pss_cons (ps_cut (ps_if (pt_cmpR (op_eqD hu) (pv 2) (pe_lst pa_nil) (nomark _)) (pss_one (ps_set (i:=2) sc__law_open.nd rfl (Or.inl rfl) (pe_lst (pa_cons pe_int pa_nil stx_Constant)))) pss_nil))
   (pss_cons (ps_set (i:=3) sc__law_open.nd rfl (Or.inl rfl) (pe_op op_mod (pv 1) (pe_callB call_lenL rfl T.len bt_len (pa_cons (pv 2) pa_nil stx_Name))))
   (pss_cons (ps_set (i:=4) sc__law_open.nd rfl (Or.inl rfl) pe_int)
   (pss_cons (ps_cut (ps_if (PW.pt (pw_and (pt_cmpR op_ge (pe_ix ix_list (pv 2) (pv 3) (fun _ _=>rfl)) (pe_powC (c:=1000000000000000000) (by decide +kernel) ⟨by decide,by decide,by decide⟩) (nomark _)) (pw_and1 (pt_cmpR op_lt (pv 1) (pe_callB call_lenL rfl T.len bt_len (pa_cons (pv 2) pa_nil stx_Name)) (nomark _))))) (pss_one (ps_set (i:=4) sc__law_open.nd rfl (Or.inl rfl) (pe_ix ix_list (pv 2) (pv 3) (fun _ _=>rfl)))) pss_nil))
   (pss_one (ps_ret (pe_lst (pa_cons (pv 4) (pa_cons (pe_op op_add pe_int (pe_op op_mul pe_int (pv 1))) (pa_cons (pe_op op_cat (pe_slice sl_list (pv 2) (po_some (pv 3)) po_none) (pe_slice sl_list (pv 2) po_none (po_some (pv 3)))) pa_nil stx_BinOp) stx_BinOp) stx_Name))))))))),?_⟩
 rw[st__law_open]
 walk_at"rd"
 refine rd_slL hS fun p1 n1=>?_
 have hcut:cutV (ns.map V.int) none (some 63)=ns.map V.int:=by
  have:=cut_hi (ms:=ns) (k:=63)
  rw[List.take_of_length_le hlen]at this
  exact this
 rw[hcut]
 have s1:=same_new n1 (.lst (ns.map V.int))
 have hp1:(upd H p1 (.lst (ns.map V.int))) p1=some (.lst (ns.map V.int)):=upd_same
 generalize upd H p1 (.lst (ns.map V.int))=H1 at s1 hp1 ⊢
 refine⟨p1,rfl,⟨_,SqL.of hp1⟩,fun D nD=>?_⟩
 have nD0:H D=none:=s1.free nD
 have npD:p1≠D:=ne_of_none hp1 nD
 refine comp_list (xs:=ns.map V.int) (fun i σ' ys H'=>(∃x,σ'=[x])∧(∃ms:List Int,ys=ms.map V.int∧ms.length=i)∧Same H H'∧H' p1=some (.lst (ns.map V.int))∧H' D=some (.lst ys)) D ?_ (fun i σ' ys H' _ h=>SqL.of h.2.2.2.1) ?_ ?_
 ·exact⟨⟨_,rfl⟩,⟨[],rfl,rfl⟩,s1.trans (same_new nD _),by rw[upd_ne npD];exact hp1,upd_same⟩
 ·rintro i x σ' ys H' hx ⟨⟨y,rfl⟩,⟨ms,rfl,hms⟩,g1,g2,g3⟩
  have hil:i <(ns.map V.int).length:=(List.getElem?_eq_some_iff.mp hx).1
  rw[List.length_map]at hil
  obtain⟨z,rfl⟩ : ∃z,x=V.int z:=by
   rw[List.getElem?_map]at hx
   cases e:ns[i]? with
   | none=>rw[e]at hx;cases hx
   | some z=>rw[e]at hx;exact⟨z,(Option.some.inj hx).symm⟩
  walk_at"rd"
  refine⟨g3,by rw[List.length_map];exact small1000 (by omega),⟨_,rfl⟩,⟨ms ++ [_],(by rw[List.map_append];rfl),by rw[List.length_append,hms];rfl⟩,fun b o e=>?_,?_,upd_same⟩
  ·rw[upd_ne (ne_of_none e nD0)];exact g1 _ _ e
  ·rw[upd_ne npD];exact g2
 ·rintro σ' ys H' ⟨⟨y,rfl⟩,⟨ms,rfl,hms⟩,g1,g2,g3⟩
  walk_at"rd"
  refine⟨fun σ H2=>∃C ms,σ=[some (.ref a),some (.int pl),some (.ref C),none,none]∧ms ≠ []∧ms.length≤63∧H2 C=some (.lst (List.map V.int ms))∧Same H H2,?_,?_⟩
  ·walk_at"rd"
   refine⟨by decide,fun p2 n2=>?_⟩
   refine⟨.list (ms.map PyData.int),.list [],DV.lst (SqL.of (by rw[upd_ne (ne_of_none g3 n2)];exact g3)) (DVs.ints ms),DV.lst (SqL.of upd_same) .nil,shaped_ints ms,rfl,?_⟩
   have e:PyData.eqv (.list (ms.map PyData.int)) (.list [])=decide (ms=[]):=by
    have:=eqv_ints ms []
    rw[← this,PyData.eqv];rfl
   rw[e]
   have s2:=g1.trans (same_new n2 (.lst []))
   have g32:(upd H' p2 (.lst [])) D=some (.lst (ms.map V.int)):=by rw[upd_ne (ne_of_none g3 n2)];exact g3
   generalize upd H' p2 (.lst [])=H2 at s2 g32 ⊢
   walk_at"rd"
   refine rd_if (fun h=>?_) (fun h=>?_)
   ·walk_at"rd"
    refine⟨by decide,fun p3 n3=>?_⟩
    walk_at"rd"
    exact⟨p3,[0],rfl,by simp,by simp,upd_same,s2.trans (same_new n3 _)⟩
   ·walk_at"rd"
    exact⟨D,ms,rfl,h,by rw[hms,List.length_map];exact hlen,g32,s2⟩
  ·rintro σ H2 ⟨C,ms,rfl,hne,hml,hC,s2⟩
   have hnl:=len_pos hne
   obtain⟨v,hv⟩:=nsMod hne pl
   walk_at"rd"
   refine⟨fun σ H3=>H3=H2∧∃d,σ=[some (.ref a),some (.int pl),some (.ref C),some (.int (pl%((ms.map V.int).length:Int))),some (.int d)],?_,?_⟩
   ·walk_at"rd"
    refine rd_ixL (SqL.of hC) hv ?_
    walk_at"rd"
    refine rd_if (fun h=>?_) (fun h=>?_)
    ·walk_at"rd"
     refine rd_if (fun h=>?_) (fun h=>?_)
     ·walk_at"rd"
      refine rd_ixL (SqL.of hC) hv ?_
      walk_at"rd"
      exact⟨rfl,_,rfl⟩
     ·walk_at"rd"
      exact⟨rfl,_,rfl⟩
    ·walk_at"rd"
     exact⟨rfl,_,rfl⟩
   ·rintro σ H3 ⟨rfl,d,rfl⟩
    obtain⟨k,hk,hk2⟩ : ∃k:Nat,pl%((ms.map V.int).length:Int) =(k:Int)∧k<ms.length:=by
     have z0:=Int.emod_nonneg pl (show((ms.map V.int).length:Int)≠0 by omega)
     have z1:=Int.emod_lt_of_pos pl hnl
     rw[List.length_map]at z0 z1 ⊢
     exact⟨(pl%(ms.length:Int)).toNat,by omega,by omega⟩
    rw[hk]
    walk_at"rd"
    refine rd_slL (SqL.of hC) fun p4 n4=>?_
    walk_at"rd"
    have hC4:(upd H3 p4 (.lst (cutV (ms.map V.int) (some (k:Int)) none))) C=some (.lst (ms.map V.int)):=by rw[upd_ne (ne_of_none hC n4)];exact hC
    refine rd_slL (SqL.of hC4) fun p5 n5=>?_
    rw[cut_lo,cut_hi]
    rw[cut_lo]at hC4 n5
    have s4:=s2.trans (same_new n4 (.lst ((ms.drop k).map V.int)))
    have hp4:(upd H3 p4 (.lst ((ms.drop k).map V.int))) p4=some (.lst ((ms.drop k).map V.int)):=upd_same
    generalize upd H3 p4 (.lst ((ms.drop k).map V.int))=H4 at s4 hp4 hC4 n5 ⊢
    have s5:=s4.trans (same_new n5 (.lst ((ms.take k).map V.int)))
    have hp5:(upd H4 p5 (.lst ((ms.take k).map V.int))) p5=some (.lst ((ms.take k).map V.int)):=upd_same
    have hp45:(upd H4 p5 (.lst ((ms.take k).map V.int))) p4=some (.lst ((ms.drop k).map V.int)):=by rw[upd_ne (ne_of_none hp4 n5)];exact hp4
    generalize upd H4 p5 (.lst ((ms.take k).map V.int))=H5 at s5 hp5 hp45 ⊢
    refine⟨p4,p5,_,_,rfl,rfl,hp45,hp5,(by rw[List.length_map,List.length_map,List.length_drop,List.length_take];exact Nat.le_of_lt (small1000 (by omega))),fun p6 n6=>?_⟩
    walk_at"rd"
    refine⟨(by show 3≤sizeLine;decide),fun p7 n7=>?_⟩
    have s6:=s5.trans (same_new n6 (.lst ((ms.drop k).map V.int++(ms.take k).map V.int)))
    refine q p7 _ (s6.free n7) (s6.trans (same_new n7 _)) ⟨p6,d,1+1009*pl,ms.drop k++ms.take k,upd_same,?_,by omega,by omega,?_⟩
    ·rw[upd_ne (ne_of_none upd_same n7),upd_same,List.map_append]
    ·intro e
     have:=congrArg List.length e
     rw[List.length_append,List.length_drop]at this
     simp at this
     omega
theorem ok__law_draw {f:Addr}{fd:FuncData}(F:Fun K "_law_draw" "_law_draw" s__law_draw f fd) (mF:mg "_law_draw" = some (.ref f)) (bF:Binds K fd ["_law_hand", "_law_many"] []) (T:Bl mg)  : Cal P w K mg base "_law_draw" ["_law_hand", "_law_many"] 1 (sp__law_draw K):=by
 refine Cal.of F mF bF sc__law_draw (fun vs H Q E h=>?_) (fun cdv A outer s H vs Q E hr h=>?_)
 ·obtain⟨p,N,n,rfl,_⟩:=h;rfl
 obtain⟨p,N,n,rfl,hh,hN,hn,hn2,q⟩:=h
 obtain⟨l,d,c,ns,hp,hl,hc0,hcN,hns⟩:=hh.ex
 have npl:l≠p:=hand_ne hp hl
 have hnl:=len_pos hns
 refine⟨_,(pss_cons (ps_if (pt_cmpR op_gt (pe_ix ix_list (pv 0) pe_int (fun _ _=>rfl)) pe_int (nomark _)) (pss_cons (ps_set (i:=2) sc__law_draw.nd rfl (Or.inl rfl) (pe_op op_mod (pe_ix ix_list (pv 0) pe_int (fun _ _=>rfl)) (pv 1)))
   (pss_cons (ps_asg (pe_op op_fdivB (pe_ix ix_list (pv 0) pe_int (fun _ _=>rfl)) (pv 1)) (pg_sub (pv 0) pe_int set_list))
   (pss_one (ps_ret (pv 2))))) pss_nil)
   (pss_cons (ps_augS (pv 0) pe_int get_list pe_int ip_add set_list)
   (pss_cons (ps_set (i:=3) sc__law_draw.nd rfl (Or.inl rfl) (pe_ix ix_list (pv 0) pe_int (fun _ _=>rfl)))
   (pss_cons (ps_set (i:=4) sc__law_draw.nd rfl (Or.inl rfl) (pe_op op_mod (pe_op op_add (pe_op op_mod (pe_ix ix_list (pe_ix ix_list (pv 0) pe_int (fun _ _=>rfl)) (pe_op op_mod (pv 3) (pe_callB call_lenL rfl T.len bt_len (pa_cons (pe_ix ix_list (pv 0) pe_int (fun _ _=>rfl)) pa_nil stx_Subscript))) (fun _ _=>rfl)) pe_int) (pe_op op_mul pe_int (pv 3))) pe_int))
   (pss_cons (ps_set (i:=4) sc__law_draw.nd rfl (Or.inl rfl) (pe_op op_mod (pe_op op_add (pe_op op_add (pe_op op_pow (pv 4) pe_int) (pe_op op_mul (pe_op op_mul pe_int (pv 3)) (pv 3))) pe_int) pe_int))
   (pss_cons (ps_set (i:=4) sc__law_draw.nd rfl (Or.inl rfl) (pe_op op_mod (pe_op op_add (pe_op op_mul (pe_op op_pow (pv 4) pe_int) (pe_op op_add (pe_op op_mul pe_int (pv 3)) pe_int)) pe_int) pe_int))
   (pss_one (ps_ret (pe_op op_mod (pe_op op_fdivB (pe_op op_mod (pe_op op_mul (pv 4) pe_int) pe_int) pe_int) (pv 1)))))))))),?_⟩
 rw[st__law_draw]
 walk_at"rd"
 refine rd_if (fun h=>?_) (fun h=>?_)
 ·walk_at"rd"
  refine q _ _ (Int.emod_nonneg _ (by omega)) (Int.emod_lt_of_pos _ hn) ⟨l,d / n,c,ns,upd_same,?_,hc0,by omega,hns⟩ (Kp.hand hp)
  rw[upd_ne npl];exact hl
 ·walk_at"rd"
  have hp1:(upd H p (.lst [V.int d,.int (c+1),.ref l])) p=some (.lst [.int d,.int (c+1),.ref l]):=upd_same
  have hl1:(upd H p (.lst [V.int d,.int (c+1),.ref l])) l=some (.lst (ns.map V.int)):=by rw[upd_ne npl];exact hl
  have k1:Kp H (upd H p (.lst [V.int d,.int (c+1),.ref l])) p:=Kp.hand hp
  generalize upd H p (.lst [V.int d,.int (c+1),.ref l])=H1 at hp1 hl1 k1 ⊢
  walk_at"rd"
  obtain⟨v,hv⟩:=nsMod hns (c+1)
  refine rd_ixL (SqL.of hl1) hv ?_
  walk_at"rd"
  have hn0:n≠0:=by omega
  exact q _ _ (Int.emod_nonneg _ hn0) (Int.emod_lt_of_pos _ hn) ⟨l,d,c+1,ns,hp1,hl1,by omega,by omega,hns⟩ k1
theorem ok__law_far {f:Addr}{fd:FuncData}(F:Fun K "_law_far" "_law_far" s__law_far f fd) (mF:mg "_law_far" = some (.ref f)) (bF:Binds K fd ["_law_hand", "_law_many"] []) (T:Bl mg) (C__law_draw:Cal P w K mg base "_law_draw" ["_law_hand", "_law_many"] 1 (sp__law_draw K)):Cal P w K mg base "_law_far" ["_law_hand", "_law_many"] 2 (sp__law_far K):=by
 refine Cal.of F mF bF sc__law_far (fun vs H Q E h=>?_) (fun cdv A outer s H vs Q E hr h=>?_)
 ·obtain⟨p,N,n,rfl,_⟩:=h;rfl
 obtain⟨p,N,n,rfl,hh,hN,hn,hn2,q⟩:=h
 obtain⟨l,d,c,ns,hp,hl,hc0,hcN,hns⟩:=hh.ex
 refine⟨_,(pss_cons (ps_if (pt_cmpR op_gt (pe_ix ix_list (pv 0) pe_int (fun _ _=>rfl)) pe_int (nomark _)) (pss_one (ps_ret (pcl C__law_draw (hr.mono (by decide)) (pa_cons (pv 0) (pa_cons (pv 1) pa_nil stx_Name) stx_Name)))) pss_nil)
   (pss_cons (ps_set (i:=2) sc__law_far.nd rfl (Or.inl rfl) pe_int)
   (pss_cons (ps_for PassesOwn.never rfl (pi_range1 rfl T.range (pa_cons pe_int pa_nil stx_Constant)) (pg_name (i:=3) sc__law_far.nd rfl (Or.inl rfl)) (pss_one (ps_set (i:=2) sc__law_far.nd rfl (Or.inl rfl) (pe_op op_add (pe_op op_mul (pv 2) (pe_powC (c:=1000000) (by decide +kernel) ⟨by decide,by decide,by decide⟩)) (pcl C__law_draw (hr.mono (by decide)) (pa_cons (pv 0) (pa_cons (pe_powC (c:=1000000) (by decide +kernel) ⟨by decide,by decide,by decide⟩) pa_nil stx_BinOp) stx_Name))))))
   (pss_one (ps_ret (pe_op op_mod (pv 2) (pv 1))))))),?_⟩
 rw[st__law_far]
 walk_at"rd"
 refine rd_if (fun h=>?_) (fun h=>?_)
 ·walk_at"rd"
  exact⟨p,N,n,rfl,hh,by omega,hn,hn2,fun r H' h0 h1 h2 h3=>q r H' h0 h1 (h2.mono (by omega)) h3⟩
 ·walk_at"rd"
  refine⟨7,rfl,by omega,by omega,?_⟩
  refine for_rangeO (n:=7) (fun i σ H'=>(∃v x,σ=[some (.ref p),some (.int n),some (.int v),x])∧Hand H' p (N+i)∧Kp H H' p∧i≤7) ⟨⟨_,_,rfl⟩,hh,Kp.refl _ _,by omega⟩ ?_ ?_
  ·rintro i σ H' hi ⟨⟨v,x,rfl⟩,h1,h2,h3⟩
   walk_at"rd"
   exact⟨p,N+i,_,rfl,h1,by omega,by decide,by decide,fun r H2 h0 h4 h5 h6=>by
    walk_at"rd"
    exact⟨⟨_,_,rfl⟩,h5,h2.trans h6,by omega⟩⟩
  ·rintro σ H' ⟨⟨v,x,rfl⟩,h1,h2,h3⟩
   walk_at"rd"
   exact q _ _ (Int.emod_nonneg _ (by omega)) (Int.emod_lt_of_pos _ hn) h1 h2
theorem ok__law_power {f:Addr}{fd:FuncData}(F:Fun K "_law_power" "_law_power" s__law_power f fd) (mF:mg "_law_power" = some (.ref f)) (bF:Binds K fd ["_law_many"] []) (T:Bl mg)  : Cal P w K mg base "_law_power" ["_law_many"] 1 (sp__law_power K):=by
 refine Cal.of F mF bF sc__law_power (fun vs H Q E h=>?_) (fun cdv A outer s H vs Q E hr h=>?_)
 ·obtain⟨m,rfl,_⟩:=h;rfl
 obtain⟨m,rfl,hm,q⟩:=h
 refine⟨_,(pss_cons (ps_set (i:=1) sc__law_power.nd rfl (Or.inl rfl) pe_int)
   (pss_cons (ps_for PassesOwn.never rfl (pi_range1 rfl T.range (pa_cons (pv 0) pa_nil stx_Name)) (pg_name (i:=2) sc__law_power.nd rfl (Or.inl rfl)) (pss_one (ps_set (i:=1) sc__law_power.nd rfl (Or.inl rfl) (pe_op op_mul (pv 1) pe_int))))
   (pss_one (ps_ret (pv 1))))),?_⟩
 rw[st__law_power]
 walk_at"rd"
 refine⟨(m:Int),rfl,by omega,by omega,?_⟩
 rw[show((m:Int)).toNat=m from by omega]
 refine for_rangeO (n:=m) (fun i σ H'=>(∃x,σ=[some (.int m),some (.int (2^i)),x])∧H'=H) ⟨⟨_,rfl⟩,rfl⟩ ?_ ?_
 ·rintro i σ H' hi ⟨⟨x,rfl⟩,rfl⟩
  walk_at"rd"
  exact⟨⟨_,by rw[Int.pow_succ]⟩,rfl⟩
 ·rintro σ H' ⟨⟨x,rfl⟩,rfl⟩
  walk_at"rd"
  exact q
theorem ok__law_key {f:Addr}{fd:FuncData}(F:Fun K "_law_key" "_law_key" s__law_key f fd) (mF:mg "_law_key" = some (.ref f)) (bF:Binds K fd ["_law_hand"] []) (T:Bl mg) (C__law_draw:Cal P w K mg base "_law_draw" ["_law_hand", "_law_many"] 1 (sp__law_draw K)) (C__law_far:Cal P w K mg base "_law_far" ["_law_hand", "_law_many"] 2 (sp__law_far K)) (C__law_power:Cal P w K mg base "_law_power" ["_law_many"] 1 (sp__law_power K)):Cal P w K mg base "_law_key" ["_law_hand"] 3 (sp__law_key K):=by
 refine Cal.of F mF bF sc__law_key (fun vs H Q E h=>?_) (fun cdv A outer s H vs Q E hr h=>?_)
 ·obtain⟨p,N,rfl,_⟩:=h;rfl
 obtain⟨p,N,rfl,hh,hN,q⟩:=h
 refine⟨_,(pss_cons (ps_set (i:=1) sc__law_key.nd rfl (Or.inl rfl) (pcl C__law_draw (hr.mono (by decide)) (pa_cons (pv 0) (pa_cons pe_int pa_nil stx_Constant) stx_Name)))
   (pss_cons (ps_set (i:=2) sc__law_key.nd rfl (Or.inl rfl) (pcl C__law_draw (hr.mono (by decide)) (pa_cons (pv 0) (pa_cons (pe_ix ix_list (pe_lst (pa_cons pe_int (pa_cons pe_int (pa_cons pe_int pa_nil stx_Constant) stx_Constant) stx_Constant)) (pcl C__law_draw (hr.mono (by decide)) (pa_cons (pv 0) (pa_cons pe_int pa_nil stx_Constant) stx_Name)) (fun _ _=>rfl)) pa_nil stx_Subscript) stx_Name)))
   (pss_cons (ps_if (pt_cmpR op_lt (pv 1) pe_int (nomark _)) (pss_one (ps_ret (pv 2))) pss_nil)
   (pss_cons (ps_if (pt_cmpR op_eq (pv 1) pe_int (nomark _)) (pss_one (ps_ret (pe_op op_sub (pe_op op_sub (pe_powC (c:=1152921504606846976) (by decide +kernel) ⟨by decide,by decide,by decide⟩) pe_int) (pv 2)))) pss_nil)
   (pss_cons (ps_if (pt_cmpR op_eq (pv 1) pe_int (nomark _)) (pss_one (ps_ret (pe_op op_add (pv 2) (pcl C__law_power (hr.mono (by decide)) (pa_cons (pe_op op_add pe_int (pcl C__law_draw (hr.mono (by decide)) (pa_cons (pv 0) (pa_cons pe_int pa_nil stx_Constant) stx_Name))) pa_nil stx_BinOp))))) pss_nil)
   (pss_cons (ps_if (pt_cmpR op_eq (pv 1) pe_int (nomark _)) (pss_one (ps_ret (pe_op op_add (pe_op op_mod (pv 2) pe_int) (pe_op op_mul pe_int (pcl C__law_far (hr.mono (by decide)) (pa_cons (pv 0) (pa_cons (pe_powC (c:=72057594037927936) (by decide +kernel) ⟨by decide,by decide,by decide⟩) pa_nil stx_BinOp) stx_Name)))))) pss_nil)
   (pss_one (ps_ret (pcl C__law_far (hr.mono (by decide)) (pa_cons (pv 0) (pa_cons (pe_powC (c:=1152921504606846976) (by decide +kernel) ⟨by decide,by decide,by decide⟩) pa_nil stx_BinOp) stx_Name)))))))))),?_⟩
 rw[st__law_key]
 walk_at"rd"
 refine⟨p,N,7,rfl,hh,by omega,by decide,by decide,fun way H1 w0 w1 hh1 k1=>?_⟩
 walk_at"rd"
 refine⟨(by show 3≤sizeLine;decide),fun l nl=>?_⟩
 walk_at"rd"
 have k2:=k1.trans (Kp.of (same_new nl (.lst [V.int 4,V.int 16,V.int 200])) hh1)
 have hh2:=hh1.same (same_new nl (.lst [V.int 4,V.int 16,V.int 200]))
 have hl:(upd H1 l (.lst [V.int 4,V.int 16,V.int 200])) l=some (.lst [V.int 4,V.int 16,V.int 200]):=upd_same
 have nlp:l≠p:=by
  obtain⟨l1,d,c,ns,h1,_⟩:=hh1.ex
  exact(ne_of_none h1 nl).symm
 generalize upd H1 l (.lst [V.int 4,V.int 16,V.int 200])=H2 at k2 hh2 hl ⊢
 refine⟨p,N+1,3,rfl,hh2,by omega,by decide,by decide,fun r H3 r0 r1 hh3 k3=>?_⟩
 have hl3:=k3.1 _ _ hl nlp
 obtain⟨b,hb,b0,b1⟩ : ∃b:Int,atI [V.int 4,V.int 16,V.int 200] r=some (.int b)∧0<b∧b≤200:=by
  have:r=0∨r=1∨r=2:=by omega
  rcases this with rfl|rfl|rfl
  ·exact⟨4,rfl,by decide,by decide⟩
  ·exact⟨16,rfl,by decide,by decide⟩
  ·exact⟨200,rfl,by decide,by decide⟩
 refine rd_ixL (SqL.of hl3) hb ?_
 walk_at"rd"
 refine⟨p,N+1+1,b,rfl,hh3,by omega,b0,by omega,fun low H4 l0 l1 hh4 k4=>?_⟩
 have k5:=(k2.trans k3).trans k4
 walk_at"rd"
 refine rd_if (fun c1=>?_) (fun c1=>?_)
 ·walk_at"rd"
  exact q _ _ l0 (by omega) (hh4.mono (by omega)) k5
 walk_at"rd"
 refine rd_if (fun c2=>?_) (fun c2=>?_)
 ·walk_at"rd"
  exact q _ _ (by omega) (by omega) (hh4.mono (by omega)) k5
 walk_at"rd"
 refine rd_if (fun c3=>?_) (fun c3=>?_)
 ·walk_at"rd"
  refine⟨p,N+1+1+1,52,rfl,hh4,by omega,by decide,by decide,fun e H5 e0 e1 hh5 k6=>?_⟩
  walk_at"rd"
  obtain⟨m,rfl⟩ : ∃m:Nat,e =(m:Int):=⟨e.toNat,by omega⟩
  refine⟨8+m,(by show [V.int (8+(m:Int))]=[V.int ((8+m:Nat):Int)];rw[show(8+(m:Int)) =((8+m:Nat):Int) by omega]),by omega,?_⟩
  walk_at"rd"
  have h1:(2:Int)^(8+m)≤2^59:=pow2_le (by omega)
  have h2:(0:Int)<2^(8+m):=Int.pow_pos (by decide)
  have h3:(2:Int)^59=576460752303423488:=by decide
  exact q _ _ (by omega) (by omega) (hh5.mono (by omega)) (k5.trans k6)
 walk_at"rd"
 refine rd_if (fun c4=>?_) (fun c4=>?_)
 ·walk_at"rd"
  refine⟨p,N+1+1+1,_,rfl,hh4,by omega,by decide,by decide,fun e H5 e0 e1 hh5 k6=>?_⟩
  walk_at"rd"
  exact q _ _ (by omega) (by omega) (hh5.mono (by omega)) (k5.trans k6)
 ·walk_at"rd"
  exact⟨p,N+1+1+1,_,rfl,hh4,by omega,by decide,by decide,fun e H5 e0 e1 hh5 k6=>q _ _ e0 e1 (hh5.mono (by omega)) (k5.trans k6)⟩
theorem ok__law_thing {f:Addr} {fd:FuncData} (F:Fun K "_law_thing" "_law_thing" s__law_thing f fd) (mF:mg "_law_thing" = some (.ref f)) (bF:Binds K fd ["_law_hand"] []) (T:Bl mg) (C__law_draw:Cal P w K mg base "_law_draw" ["_law_hand", "_law_many"] 1 (sp__law_draw K)) : Cal P w K mg base "_law_thing" ["_law_hand"] 2 (sp__law_thing K):=by
  refine Cal.of F mF bF sc__law_thing (fun vs H Q E h=>?_) (fun cdv A outer s H vs Q E hr h=>?_)
  · obtain ⟨p,N,rfl,_⟩:=h; rfl
  obtain ⟨p,N,rfl,hh,hN,q⟩:=h
  refine ⟨_,(pss_cons (ps_set (i:=1) sc__law_thing.nd rfl (Or.inr rfl) pe_str)
      (pss_one (ps_ret (pe_bm PySem.F.plainAttrs_str PySem.F.slot_str_join PySem.F.type_str_join mt_join pe_str (pa_cons (pe_comp rfl (blkOk (sc:=defScope s__law_thing) (N:=["_law_hand", "_law_letters"]) (vs:=["_law_k"]) (fs:=["_law_letters", "_law_hand"]) (js:=[1,0]) (by decide +kernel) rfl rfl) (pi_range1 rfl T.range (pa_cons (pe_op op_add pe_int (pcl C__law_draw (hr.mono (by decide)) (pa_cons (pv 0) (pa_cons pe_int pa_nil stx_Constant) stx_Name))) pa_nil stx_BinOp)) (fun _ _ _ _=>pg_name (i:=0) (show (["_law_k", "_law_letters", "_law_hand"] : List Str).Nodup by decide +kernel) rfl (Or.inl rfl)) (fun _ _ _ _=>pif0) (fun _ _ _ _=>(pe_ix ix_str (pv 1) (pcl C__law_draw (hr.mono (by decide)) (pa_cons (pv 2) (pa_cons pe_int pa_nil stx_Constant) stx_Name)) (fun _ _=>rfl)))) pa_nil stx_ListComp))))),?_⟩
  rw [st__law_thing]
  walk_at"rd"
  refine ⟨rfl,?_⟩
  walk_at"rd"
  refine ⟨p,_,8,rfl,hh,by omega,by decide,by decide,fun n H1 n0 n1 hh1 k1=>?_⟩
  walk_at"rd"
  refine ⟨_,rfl,by omega,by omega,fun D nD=>?_⟩
  refine comp_range (n:=(1 + n).toNat) (fun j σ' ys H'=>(∃ x,σ' = [x,some (.str (Str.ofString "abcdefghijklmnopqrstuvwxyz")),some (.ref p)])∧(∃ zs:List Str,ys = zs.map V.str∧zs.length = j∧∀ y ∈ zs,y.length = 1∧∀ c ∈ y.cps,97 ≤ c∧c ≤ 122)∧j ≤ 8∧CK H1 p D (N + 1 + j) ys H') D ⟨⟨_,rfl⟩,⟨[],rfl,rfl,fun _ h=>(by cases h)⟩,by omega,CK.start hh1 nD⟩ ?_ ?_
  · rintro j σ' ys H2 hj ⟨⟨x,rfl⟩,⟨zs,rfl,zl,zc⟩,j8,ck⟩
    walk_at"rd"
    refine ⟨p,_,26,rfl,ck.hh,by omega,by decide,by decide,fun v H3 v0 v1 hh3 k3=>?_⟩
    have ck:=ck.draw k3 hh3
    obtain ⟨c,hc,c1⟩:=let26b v0 v1
    refine rd_ixS (by decide +kernel) hc ?_
    refine ⟨ck.lat,by rw [List.length_map]; exact small1000 (by omega),⟨_,rfl⟩,⟨zs ++ [⟨#[c]⟩],by rw [List.map_append]; rfl,by rw [List.length_append,zl]; rfl,fun y hy=>?_⟩,by omega,ck.push⟩
    rcases List.mem_append.mp hy with h | h
    · exact zc y h
    · have e:y = ⟨#[c]⟩:=by simpa using h
      subst e
      exact ⟨rfl, fun d hd => by have : d = c := by simpa using hd
                                 omega⟩
  · rintro σ' ys H2 ⟨⟨x,rfl⟩,⟨zs,rfl,zl,zc⟩,j8,ck⟩
    walk_at"rd"
    refine ⟨_,D,zs,rfl,rfl,SqL.of ck.lat,?_,?_⟩
    · rw [sum_nm zs zc,show (Str.ofString "").length = 0 by decide]; omega
    obtain ⟨w1,w2⟩:=join_nm zs zc
    rw [joinT]
    exact q _ _ ⟨by rw [w1]; omega,by rw [w1]; omega,w2⟩ (ck.hh.mono (by omega)) (k1.trans ck.kp)
theorem ok__law_row {f:Addr}{fd:FuncData}(F:Fun K "_law_row" "_law_row" s__law_row f fd) (mF:mg "_law_row" = some (.ref f)) (bF:Binds K fd ["_law_hand"] []) (T:Bl mg) (C__law_draw:Cal P w K mg base "_law_draw" ["_law_hand", "_law_many"] 1 (sp__law_draw K)) (C__law_key:Cal P w K mg base "_law_key" ["_law_hand"] 3 (sp__law_key K)) (C__law_thing:Cal P w K mg base "_law_thing" ["_law_hand"] 2 (sp__law_thing K)):Cal P w K mg base "_law_row" ["_law_hand"] 4 (sp__law_row K):=by
 refine Cal.of F mF bF sc__law_row (fun vs H Q E h=>?_) (fun cdv A outer s H vs Q E hr h=>?_)
 ·obtain⟨p,N,rfl,_⟩:=h;rfl
 obtain⟨p,N,rfl,hh,hN,q⟩:=h
 refine⟨_,(pss_cons (ps_set (i:=1) sc__law_row.nd rfl (Or.inl rfl) (pe_lst pa_nil))
   (pss_cons (ps_for PassesOwn.never rfl (pi_range1 rfl T.range (pa_cons (pcl C__law_draw (hr.mono (by decide)) (pa_cons (pv 0) (pa_cons (pe_ix ix_list (pe_lst (pa_cons pe_int (pa_cons pe_int (pa_cons pe_int pa_nil stx_Constant) stx_Constant) stx_Constant)) (pcl C__law_draw (hr.mono (by decide)) (pa_cons (pv 0) (pa_cons pe_int pa_nil stx_Constant) stx_Name)) (fun _ _=>rfl)) pa_nil stx_Subscript) stx_Name)) pa_nil stx_Call)) (pg_name (i:=2) sc__law_row.nd rfl (Or.inl rfl)) (pss_one (ps_expr (pe_bm PySem.F.plainAttrs_list PySem.F.slot_list_append PySem.F.type_list_append mt_append (pv 1) (pa_cons (pe_tup (pa_cons (pcl C__law_key (hr.mono (by decide)) (pa_cons (pv 0) pa_nil stx_Name)) (pa_cons (pcl C__law_thing (hr.mono (by decide)) (pa_cons (pv 0) pa_nil stx_Name)) pa_nil stx_Call) stx_Call)) pa_nil stx_Tuple)))))
   (pss_one (ps_ret (pv 1))))),?_⟩
 rw[st__law_row]
 walk_at"rd"
 refine⟨by decide,fun D nD=>?_⟩
 have ck:=CK.start (ys:=[]) hh nD
 have g:Gw H D 1 [] [] [] (upd H D (.lst [])):=Gw.nil upd_same
 generalize upd H D _=H1 at ck g ⊢
 walk_at"rd"
 refine⟨(by show 3≤sizeLine;decide),fun q1 nq1=>?_⟩
 generalize hE:upd H1 q1 _=H2
 obtain⟨ck,hq1,q1p,q1D⟩:=ck.new nq1 hE
 have g:=g.same (newo nq1 hE).2
 clear hE
 walk_at"rd"
 refine⟨p,_,3,rfl,ck.hh,by omega,by decide,by decide,fun v H3 v0 v1 hh3 k3=>?_⟩
 obtain⟨c,hc,c1,c2⟩:=three_at v0 v1
 have hs:=hand_some hh
 have g:=g.kp ck.hh k3 hs ck.np
 have ck:=ck.draw k3 hh3
 walk_at"rd"
 refine rd_ixL (SqL.of (k3.1 _ _ hq1 q1p)) hc ?_
 walk_at"rd"
 refine⟨p,_,c,rfl,hh3,by omega,by omega,by omega,fun n H4 n0 n1 hh4 k4=>?_⟩
 have g:=g.kp ck.hh k4 hs ck.np
 have ck:=ck.draw k4 hh4
 walk_at"rd"
 obtain⟨nn,rfl⟩ : ∃nn:Nat,n =(nn:Int):=⟨n.toNat,by omega⟩
 refine⟨_,rfl,by omega,by omega,?_⟩
 rw[Int.toNat_natCast]
 refine for_rangeO (n:=nn) (fun i σ H'=>(∃x,σ=[some (.ref p),some (.ref D),x])∧∃(ys:List V) (es:Row) (gs:List (List Addr)),es.length=i∧ys.length=i∧(∀e∈es,okE e)∧CK H p D (N+10+50*i) ys H'∧Gw H D 1 ys (es.map eD) gs H') ⟨⟨_,rfl⟩,[],[],[],rfl,rfl,(fun _ h=>by cases h),⟨ck.hh.mono (by omega),ck.lat,ck.kp,ck.n0,ck.np,ck.nc⟩,g⟩ ?_ ?_
 ·clear g ck
  rintro i σ H5 hi ⟨⟨x1,rfl⟩,ys,es,gs,el,yl,ok,ck,g⟩
  walk_at"rd"
  refine⟨.inl ⟨rfl,_,SqL.of ck.lat⟩,?_⟩
  walk_at"rd"
  refine⟨p,_,rfl,ck.hh,by omega,fun k H6 k0 k1 hh6 k6=>?_⟩
  have g:=g.kp ck.hh k6 hs ck.np
  have ck:=ck.draw k6 hh6
  walk_at"rd"
  refine⟨p,_,rfl,ck.hh,by omega,fun z H7 zn hh7 k7=>?_⟩
  have g:=g.kp ck.hh k7 hs ck.np
  have ck:=ck.draw k7 hh7
  walk_at"rd"
  refine⟨(by show 2≤sizeLine;decide),fun t nt=>?_⟩
  generalize hE:upd H7 t _=H8
  obtain⟨ht,s8⟩:=newo nt hE
  obtain⟨ck,_,tp,tD⟩:=ck.new nt hE
  clear hE
  have oe:okE (k,z):=⟨k0,by simpa using k1,zn⟩
  walk_at"rd"
  refine⟨D,_,_,rfl,rfl,ck.lat,small1000 (by omega),?_⟩
  walk_at"rd"
  refine⟨⟨_,rfl⟩,ys ++ [.ref t],es ++ [(k,z)],gs ++ [[]],by rw[List.length_append,el];rfl,by rw[List.length_append,yl];rfl,fun e he=>?_,?_,?_⟩
  ·rcases List.mem_append.mp he with h|h
   ·exact ok e h
   ·have:e =(k,z):=by simpa using h
    rw[this];exact oe
  ·have:=ck.push (zs:=ys ++ [.ref t])
   exact⟨this.hh.mono (by omega),this.lat,this.kp,this.n0,this.np,this.nc⟩
  ·rw[List.map_append]
   exact g.push (fun b o e _=>s8 _ _ e) (TD.ofEnt (e:=(k,z)) ht (nm_ok zn).1) List.nodup_nil (fun _ h=>by cases h) (fun _ h=>by cases h)
 ·rintro σ H5 ⟨⟨x1,rfl⟩,ys,es,gs,el,yl,ok,ck,g⟩
  obtain⟨td,nd⟩:=g.done (by omega)
  walk_at"rd"
  refine q (.ref D) es _ H5 td ⟨ok,by omega⟩ nd (fun b hb=>?_) (ck.hh.mono (by omega)) ck.kp
  rcases List.mem_cons.mp hb with rfl|hb
  ·exact nD
  ·exact g.fr b hb
theorem ok__law_rows {f:Addr}{fd:FuncData}(F:Fun K "_law_rows" "_law_rows" s__law_rows f fd) (mF:mg "_law_rows" = some (.ref f)) (bF:Binds K fd ["_law_hand", "_law_most"] []) (T:Bl mg) (C__law_draw:Cal P w K mg base "_law_draw" ["_law_hand", "_law_many"] 1 (sp__law_draw K)) (C__law_row:Cal P w K mg base "_law_row" ["_law_hand"] 4 (sp__law_row K)):Cal P w K mg base "_law_rows" ["_law_hand", "_law_most"] 5 (sp__law_rows K):=by
 refine Cal.of F mF bF sc__law_rows (fun vs H Q E h=>?_) (fun cdv A outer s H vs Q E hr h=>?_)
 ·obtain⟨p,N,most,rfl,_⟩:=h;rfl
 obtain⟨p,N,most,rfl,hh,hN,m1,m2,q⟩:=h
 refine⟨_,(pss_cons (ps_set (i:=2) sc__law_rows.nd rfl (Or.inl rfl) (pe_lst pa_nil))
   (pss_cons (ps_for PassesOwn.never rfl (pi_range1 rfl T.range (pa_cons (pcl C__law_draw (hr.mono (by decide)) (pa_cons (pv 0) (pa_cons (pv 1) pa_nil stx_Name) stx_Name)) pa_nil stx_Call)) (pg_name (i:=3) sc__law_rows.nd rfl (Or.inl rfl)) (pss_one (ps_expr (pe_bm PySem.F.plainAttrs_list PySem.F.slot_list_append PySem.F.type_list_append mt_append (pv 2) (pa_cons (pcl C__law_row (hr.mono (by decide)) (pa_cons (pv 0) pa_nil stx_Name)) pa_nil stx_Call)))))
   (pss_one (ps_ret (pv 2))))),?_⟩
 rw[st__law_rows]
 walk_at"rd"
 refine⟨by decide,fun D nD=>?_⟩
 have ck:=CK.start (ys:=[]) hh nD
 have g:Gw H D 2 [] [] [] (upd H D (.lst [])):=Gw.nil upd_same
 generalize upd H D _=H1 at ck g ⊢
 have hs:=hand_some hh
 walk_at"rd"
 refine⟨p,_,most,rfl,ck.hh,by omega,by omega,by omega,fun n H4 n0 n1 hh4 k4=>?_⟩
 have g:=g.kp ck.hh k4 hs ck.np
 have ck:=ck.draw k4 hh4
 walk_at"rd"
 obtain⟨nn,rfl⟩ : ∃nn:Nat,n =(nn:Int):=⟨n.toNat,by omega⟩
 refine⟨_,rfl,by omega,by omega,?_⟩
 rw[Int.toNat_natCast]
 refine for_rangeO (n:=nn) (fun i σ H'=>(∃x,σ=[some (.ref p),some (.int most),some (.ref D),x])∧∃(ys:List V) (rs:List Row) (gs:List (List Addr)),rs.length=i∧ys.length=i∧(∀r∈rs,ok8 r)∧CK H p D (N+10+500*i) ys H'∧Gw H D 2 ys (rs.map rowD) gs H') ⟨⟨_,rfl⟩,[],[],[],rfl,rfl,(fun _ h=>by cases h),⟨ck.hh.mono (by omega),ck.lat,ck.kp,ck.n0,ck.np,ck.nc⟩,g⟩ ?_ ?_
 ·clear g ck
  rintro i σ H5 hi ⟨⟨x1,rfl⟩,ys,rs,gs,el,yl,ok,ck,g⟩
  walk_at"rd"
  refine⟨.inl ⟨rfl,_,SqL.of ck.lat⟩,?_⟩
  walk_at"rd"
  refine⟨p,_,rfl,ck.hh,by omega,fun v es f H6 td oes nf fr hh6 k6=>?_⟩
  have k6':∀b o,H5 b=some o→(b=D∨b∈gs.flatten ∨ ∃xs,o = .tup xs)→H6 b=some o:=fun b o e z=>k6.1 b o e (by
   rintro rfl
   rcases z with z|z|⟨xs,rfl⟩
   ·exact ck.np z.symm
   ·exact hs (g.fr _ z)
   ·obtain⟨l,a,c,ns,h1,_⟩:=ck.hh.ex
    rw[e]at h1;cases h1)
  have lat6:=k6.1 _ _ ck.lat ck.np
  have fr0:∀b∈f,H b=none:=fun b hb=>by
   cases c:H b with
   | none=>rfl
   | some o =>
    by_cases z:b=p
    ·rw[z]at hb;exact absurd (fr p hb) (hand_some ck.hh)
    ·have:=fr b hb;rw[ck.kp.1 _ _ c z]at this;cases this
  have ck':=ck.draw k6 hh6
  walk_at"rd"
  refine⟨D,_,_,rfl,rfl,lat6,small1000 (by omega),?_⟩
  walk_at"rd"
  refine⟨⟨_,rfl⟩,ys ++ [v],rs ++ [es],gs ++ [f],by rw[List.length_append,el];rfl,by rw[List.length_append,yl];rfl,fun e he=>?_,?_,?_⟩
  ·rcases List.mem_append.mp he with h|h
   ·exact ok e h
   ·have:e=es:=by simpa using h
    rw[this];exact oes
  ·have:=ck'.push (zs:=ys ++ [v])
   exact⟨this.hh.mono (by omega),this.lat,this.kp,this.n0,this.np,this.nc⟩
  ·rw[List.map_append]
   exact g.push k6' td nf fr fr0
 ·rintro σ H5 ⟨⟨x1,rfl⟩,ys,rs,gs,el,yl,ok,ck,g⟩
  obtain⟨td,nd⟩:=g.done (by omega)
  walk_at"rd"
  refine q (.ref D) rs _ H5 td ok (by omega) nd (fun b hb=>?_) (ck.hh.mono (by omega)) ck.kp
  rcases List.mem_cons.mp hb with rfl|hb
  ·exact nD
  ·exact g.fr b hb
theorem ok__law_yard {f:Addr} {fd:FuncData} (F:Fun K "_law_yard" "_law_yard" s__law_yard f fd) (mF:mg "_law_yard" = some (.ref f)) (bF:Binds K fd ["_law_hand"] []) (T:Bl mg) (C__law_draw:Cal P w K mg base "_law_draw" ["_law_hand", "_law_many"] 1 (sp__law_draw K)) (C__law_rows:Cal P w K mg base "_law_rows" ["_law_hand", "_law_most"] 5 (sp__law_rows K)) (C__law_row:Cal P w K mg base "_law_row" ["_law_hand"] 4 (sp__law_row K)) : Cal P w K mg base "_law_yard" ["_law_hand"] 6 (sp__law_yard K):=by
  refine Cal.of F mF bF sc__law_yard (fun vs H Q E h=>?_) (fun cdv A outer s H vs Q E hr h=>?_)
  · obtain ⟨p,N,rfl,_⟩:=h; rfl
  obtain ⟨p,N,rfl,hh,hN,q⟩:=h
  have hu:=hr.units
  have hs0:=hand_some hh
  refine ⟨_,(pss_cons (ps_set (i:=1) sc__law_yard.nd rfl (Or.inl rfl) (pe_op op_add pe_int (pcl C__law_draw (hr.mono (by decide)) (pa_cons (pv 0) (pa_cons pe_int pa_nil stx_Constant) stx_Name))))
      (pss_cons (ps_set (i:=2) sc__law_yard.nd rfl (Or.inl rfl) (pe_op op_add pe_int (pcl C__law_draw (hr.mono (by decide)) (pa_cons (pv 0) (pa_cons pe_int pa_nil stx_Constant) stx_Name))))
      (pss_cons (ps_set (i:=3) sc__law_yard.nd rfl (Or.inl rfl) (pe_lst pa_nil))
      (pss_cons (ps_set (i:=4) sc__law_yard.nd rfl (Or.inl rfl) (pcl C__law_draw (hr.mono (by decide)) (pa_cons (pv 0) (pa_cons pe_int pa_nil stx_Constant) stx_Name)))
      (pss_cons (ps_for PassesOwn.never rfl (pi_range1 rfl T.range (pa_cons (pcl C__law_draw (hr.mono (by decide)) (pa_cons (pv 0) (pa_cons (pe_ix ix_list (pe_lst (pa_cons pe_int (pa_cons pe_int pa_nil stx_Constant) stx_Constant)) (pe_callTy call_intB rfl T.int bt_int (pa_cons (pe_cmpR op_eq (pv 4) pe_int (nomark _)) pa_nil stx_Compare)) (fun _ _=>rfl)) pa_nil stx_Subscript) stx_Name)) pa_nil stx_Call)) (pg_name (i:=5) sc__law_yard.nd rfl (Or.inl rfl)) (pss_one (ps_expr (pe_bm PySem.F.plainAttrs_list PySem.F.slot_list_append PySem.F.type_list_append mt_append (pv 3) (pa_cons (pcl C__law_rows (hr.mono (by decide)) (pa_cons (pv 0) (pa_cons (pe_ix ix_list (pe_lst (pa_cons pe_int (pa_cons pe_int pa_nil stx_Constant) stx_Constant)) (pe_callTy call_intB rfl T.int bt_int (pa_cons (pe_cmpR op_eq (pv 4) pe_int (nomark _)) pa_nil stx_Compare)) (fun _ _=>rfl)) pa_nil stx_Subscript) stx_Name)) pa_nil stx_Call)))))
      (pss_cons (ps_cut (ps_if (pt_cmpR op_eq (pv 4) pe_int (nomark _)) (pss_one (ps_expr (pe_bm PySem.F.plainAttrs_list PySem.F.slot_list_append PySem.F.type_list_append mt_append (pv 3) (pa_cons (pcl C__law_rows (hr.mono (by decide)) (pa_cons (pv 0) (pa_cons pe_int pa_nil stx_Constant) stx_Name)) pa_nil stx_Call)))) pss_nil))
      (pss_cons (ps_cut (ps_if (PW.pt (pw_and (pt_cmpR (op_neD hu) (pv 3) (pe_lst pa_nil) (nomark _)) (pw_and1 (pt_cmpR (op_eqE hu) (pe_ix ix_list (pv 3) (pe_un un_neg pe_int) (fun _ _=>rfl)) (pe_lst pa_nil) (nomark _))))) (pss_one (ps_expr (pe_bm PySem.F.plainAttrs_list PySem.F.slot_list_append PySem.F.type_list_append mt_append (pe_ix ix_list (pv 3) (pe_un un_neg pe_int) (fun _ _=>rfl)) (pa_cons (pcl C__law_row (hr.mono (by decide)) (pa_cons (pv 0) pa_nil stx_Name)) pa_nil stx_Call)))) pss_nil))
      (pss_one (ps_ret (pe_tup (pa_cons (pv 1) (pa_cons (pv 2) (pa_cons (pv 3) pa_nil stx_Name) stx_Name) stx_Name))))))))))),?_⟩
  rw [st__law_yard]
  walk_at"rd"
  refine ⟨p,_,8,rfl,hh,by omega,by decide,by decide,fun w0 H1 w00 w01 hh1 k1=>?_⟩
  walk_at"rd"
  refine ⟨p,_,130,rfl,hh1,by omega,by decide,by decide,fun r0 H2 r00 r01 hh2 k2=>?_⟩
  have k02:=k1.trans k2
  walk_at"rd"
  refine ⟨by decide,fun D nD2=>?_⟩
  have nD:H D = none:=by
    cases c:H D with
    | none=>rfl
    | some o =>
      by_cases z:D = p
      · rw [z] at nD2; exact absurd nD2 (hand_some hh2)
      · rw [k02.1 _ _ c z] at nD2; cases nD2
  have ck:CK H p D (N + 2) [] (upd H2 D (.lst [])):=by
    have s:=same_new nD2 (.lst [])
    exact ⟨hh2.same s,upd_same,k02.trans (Kp.of s hh2),nD,hh.ne nD,cells_new hh nD⟩
  have g:Gw H D 3 [] [] [] (upd H2 D (.lst [])):=Gw.nil upd_same
  generalize upd H2 D _ = H3 at ck g ⊢
  walk_at"rd"
  refine ⟨p,_,8,rfl,ck.hh,by omega,by decide,by decide,fun gr H4 gr0 gr1 hh4 k4=>?_⟩
  have g:=g.kp ck.hh k4 hs0 ck.np
  have ck:=ck.draw k4 hh4
  walk_at"rd"
  refine ⟨(by show 2 ≤ sizeLine; decide),fun q1 nq1=>?_⟩
  generalize hE:upd H4 q1 _ = H5
  obtain ⟨ck,hq1,q1p,q1D⟩:=ck.new nq1 hE
  have g:=g.same (newo nq1 hE).2
  clear hE
  walk_at"rd"
  refine rd_ixL (SqL.of hq1) pickI ?_
  walk_at"rd"
  refine ⟨p,_,_,rfl,ck.hh,by omega,by split <;> omega,by split <;> omega,fun n H6 n0 n1 hh6 k6=>?_⟩
  have g:=g.kp ck.hh k6 hs0 ck.np
  have ck:=ck.draw k6 hh6
  obtain ⟨nn,rfl⟩ : ∃ nn:Nat,n = (nn:Int):=⟨n.toNat,by omega⟩
  have nn1:nn < 131:=by split at n1 <;> omega
  walk_at"rd"
  refine ⟨_,rfl,by omega,by omega,?_⟩
  rw [Int.toNat_natCast]
  refine for_rangeO (n:=nn) (fun i σ H'=>(∃ x,σ = [some (.ref p),some (.int (1 + w0)),some (.int (1 + r0)),some (.ref D),some (.int gr),x])∧∃ (ys:List V) (hs:List (List Row)) (gs:List (List Addr)),hs.length = i∧ys.length = i∧(∀ rs ∈ hs,(∀ r ∈ rs,ok8 r)∧(rs.length:Int) < if gr = 7 then 2 else 4)∧CK H p D (N + 10 + 100010 * i) ys H'∧Gw H D 3 ys (hs.map rowsD) gs H') ⟨⟨_,rfl⟩,[],[],[],rfl,rfl,(fun _ h=>by cases h),⟨ck.hh.mono (by omega),ck.lat,ck.kp,ck.n0,ck.np,ck.nc⟩,g⟩ ?_ ?_
  · clear g ck
    rintro i σ H7 hi ⟨⟨x1,rfl⟩,ys,hs,gs,el,yl,ok,ck,g⟩
    walk_at"rd"
    refine ⟨.inl ⟨rfl,_,SqL.of ck.lat⟩,?_⟩
    walk_at"rd"
    refine ⟨(by show 2 ≤ sizeLine; decide),fun q2 nq2=>?_⟩
    generalize hE:upd H7 q2 _ = H8
    obtain ⟨ck,hq2,q2p,q2D⟩:=ck.new nq2 hE
    have g:=g.same (newo nq2 hE).2
    clear hE
    walk_at"rd"
    refine rd_ixL (SqL.of hq2) pickI ?_
    walk_at"rd"
    refine ⟨p,_,_,rfl,ck.hh,by omega,by split <;> omega,by split <;> omega,fun v rs f H9 td ors rl nf fr hh9 k9=>?_⟩
    have lat9:=k9.1 _ _ ck.lat ck.np
    have ck':=ck.draw k9 hh9
    walk_at"rd"
    refine ⟨D,_,_,rfl,rfl,lat9,small1000 (by omega),?_⟩
    walk_at"rd"
    refine ⟨⟨_,rfl⟩,ys ++ [v],hs ++ [rs],gs ++ [f],by rw [List.length_append,el]; rfl,by rw [List.length_append,yl]; rfl,fun e he=>?_,?_,?_⟩
    · rcases List.mem_append.mp he with h | h
      · exact ok e h
      · have:e = rs:=by simpa using h
        rw [this]; exact ⟨ors,rl⟩
    · have:=ck'.push (zs:=ys ++ [v])
      exact ⟨this.hh.mono (by omega),this.lat,this.kp,this.n0,this.np,this.nc⟩
    · rw [List.map_append]
      exact g.push (Kp.keepG g ck.hh k9 hs0 ck.np) td nf fr fun b hb=>ck.free0 (fr b hb)
  clear g ck
  rintro σ H7 ⟨⟨x1,rfl⟩,ys,hs,gs,el,yl,ok,ck,g⟩
  have ho:HsOk hs∧(gr ≠ 7→hs.length ≤ 5∧(hs.map List.length).sum ≤ 15):=by
    by_cases c:gr = 7
    · rw [if_pos c] at n1
      have b:=sum_le (f:=List.length) (B:=1) (l:=hs) fun rs hr=>by have:=(ok rs hr).2; rw [if_pos c] at this; omega
      exact ⟨⟨fun rs hr=>⟨(ok rs hr).1,by have:=(ok rs hr).2; rw [if_pos c] at this; omega⟩,by omega,by omega⟩,fun z=>absurd c z⟩
    · rw [if_neg c] at n1
      have b:=sum_le (f:=List.length) (B:=3) (l:=hs) fun rs hr=>by have:=(ok rs hr).2; rw [if_neg c] at this; omega
      exact ⟨⟨fun rs hr=>⟨(ok rs hr).1,by have:=(ok rs hr).2; rw [if_neg c] at this; omega⟩,by omega,by omega⟩,fun _=>⟨by omega,by omega⟩⟩
  have ck:CK H p D (N + 14000000) ys H7:=⟨ck.hh.mono (by omega),ck.lat,ck.kp,ck.n0,ck.np,ck.nc⟩
  walk_at"rd"
  refine ⟨fun σ H'=>(∃ x,σ = [some (.ref p),some (.int (1 + w0)),some (.int (1 + r0)),some (.ref D),some (.int gr),x])∧∃ (ys:List V) (hs:List (List Row)) (gs:List (List Addr)),HsOk hs∧hs.length ≤ 131∧(hs.map List.length).sum ≤ 150∧ys.length = hs.length∧CK H p D (N + 15000000) ys H'∧Gw H D 3 ys (hs.map rowsD) gs H',?_,?_⟩
  · walk_at"rd"
    refine rd_if (fun c=>?_) (fun c=>?_)
    · walk_at"rd"
      refine ⟨.inl ⟨rfl,_,SqL.of ck.lat⟩,?_⟩
      walk_at"rd"
      refine ⟨p,_,131,rfl,ck.hh,by omega,by omega,by omega,fun v rs f H9 td ors rl nf fr hh9 k9=>?_⟩
      have lat9:=k9.1 _ _ ck.lat ck.np
      have ck':=ck.draw k9 hh9
      obtain ⟨h5,h15⟩:=ho.2 (by omega)
      walk_at"rd"
      refine ⟨D,_,_,rfl,rfl,lat9,small1000 (by omega),?_⟩
      walk_at"rd"
      have sm:((hs ++ [rs]).map List.length).sum ≤ 150:=by rw [List.map_append,List.sum_append]; simp; omega
      refine ⟨⟨_,rfl⟩,ys ++ [v],hs ++ [rs],gs ++ [f],⟨fun e he=>?_,by rw [List.length_append]; simp; omega,by omega⟩,by rw [List.length_append]; simp; omega,sm,by simp; omega,?_,?_⟩
      · rcases List.mem_append.mp he with h | h
        · exact ho.1.ok e h
        · have:e = rs:=by simpa using h
          rw [this]; exact ⟨ors,by omega⟩
      · have:=ck'.push (zs:=ys ++ [v])
        exact ⟨this.hh.mono (by omega),this.lat,this.kp,this.n0,this.np,this.nc⟩
      · rw [List.map_append]
        exact g.push (Kp.keepG g ck.hh k9 hs0 ck.np) td nf fr fun b hb=>ck.free0 (fr b hb)
    · walk_at"rd"
      have b:=ho.1.sm
      refine ⟨⟨_,rfl⟩,ys,hs,gs,ho.1,by omega,?_,by omega,⟨ck.hh.mono (by omega),ck.lat,ck.kp,ck.n0,ck.np,ck.nc⟩,g⟩
      by_cases c7:gr = 7
      · have b:=sum_le (f:=List.length) (B:=1) (l:=hs) fun rs hr=>by have:=(ok rs hr).2; rw [if_pos c7] at this; omega
        omega
      · have:=(ho.2 c7).2; omega
  clear g ck ho ok el yl
  rintro σ H8 ⟨⟨x1,rfl⟩,ys,hs,gs,ho,h131,h150,yl,ck,g⟩
  walk_at"rd"
  refine ⟨fun σ H'=>(∃ x,σ = [some (.ref p),some (.int (1 + w0)),some (.int (1 + r0)),some (.ref D),some (.int gr),x])∧∃ (ys:List V) (hs:List (List Row)) (gs:List (List Addr)),HsOk hs∧(∀ rs,hs.getLast? = some rs→rs ≠ [])∧ys.length = hs.length∧CK H p D (N + 16000000) ys H'∧Gw H D 3 ys (hs.map rowsD) gs H',?_,?_⟩
  · have gd:=TD.gd (K:=K) (g.done (by omega)).1
    have sh:=TD.shaped (K:=K) (g.done (by omega)).1 (by omega)
    walk_at"rd"
    refine ⟨by decide,fun p2 np2=>?_⟩
    generalize hE:upd H8 p2 _ = H9
    obtain ⟨ck,hp2,p2p,p2D⟩:=ck.new np2 hE
    have s9:=(newo np2 hE).2
    have g:=g.same s9
    clear hE
    have gd9:=TD.gd (K:=K) (g.done (by omega)).1
    refine ⟨_,_,gd9.1,.lst (SqL.of hp2) .nil,sh,rfl,?_⟩
    rw [eqv_nil]
    have hl132:=ho.hl
    rcases List.eq_nil_or_concat hs with c | ⟨hs',rs,c⟩
    · subst c
      walk_at"rd"
      refine rd_tx ‹_› ?_
      walk_at"rd"
      refine ⟨⟨_,rfl⟩,ys,[],gs,ho,fun rs h=>(by simp at h),yl,⟨ck.hh.mono (by omega),ck.lat,ck.kp,ck.n0,ck.np,ck.nc⟩,g⟩
    · have c:hs = hs' ++ [rs]:=by simpa using c
      subst c
      rw [decide_eq_false (by simp)]
      walk_at"rd"
      obtain ⟨ys',y,ey⟩ : ∃ ys' y,ys = ys' ++ [y]:=by
        rcases List.eq_nil_or_concat ys with z | ⟨a,b,z⟩
        · rw [z] at yl; simp at yl
        · exact ⟨a,b,by simpa using z⟩
      subst ey
      have yl':ys'.length = hs'.length:=by simpa using yl
      have last:∃ f,TD H9 3 y (rowsD rs) f∧∀ b ∈ f,b ∈ gs.flatten:=by
        obtain ⟨d,f,hd,hf,r⟩:=g.tl.get (i:=ys'.length) (x:=y) (by simp)
        rw [yl'] at hd
        simp at hd
        rw [hd]
        exact ⟨f,r,fun b hb=>mem_flat hf hb⟩
      obtain ⟨f1,tl1,_⟩:=last
      obtain ⟨l,xs,fs,rfl,rfl,hl,xl,tl⟩:=TD.asL tl1
      have xr:xs.length = rs.length:=by have:=tl.l1; rw [List.length_map] at this; exact this
      refine rd_ixL (SqL.of ck.lat) at_end ?_
      walk_at"rd"
      refine ⟨by decide,fun p3 np3=>?_⟩
      generalize hE:upd H9 p3 _ = HA
      obtain ⟨ck,hp3,p3p,p3D⟩:=ck.new np3 hE
      have sA:=(newo np3 hE).2
      have g:=g.same sA
      clear hE
      refine ⟨l,p3,xs,rfl,rfl,SqL.of (sA _ _ hl),SqL.of hp3,?_⟩
      walk_at"rd"
      refine rd_if (fun c3=>?_) (fun c3=>?_)
      · subst c3
        have r0:rs = []:=List.eq_nil_of_length_eq_zero xr.symm
        subst r0
        rw [List.map_append] at g
        walk_at"rd"
        refine rd_ixL (SqL.of ck.lat) at_end ?_
        refine ⟨.inl ⟨rfl,_,SqL.of (sA _ _ hl)⟩,?_⟩
        walk_at"rd"
        refine ⟨p,_,rfl,ck.hh,by omega,fun v es f HB td oes nf fr hhB kB=>?_⟩
        obtain ⟨⟨l0,lD,hlB⟩,gs',g'⟩:=g.fix (Kp.keepG g ck.hh kB hs0 ck.np) td nf fr fun b hb=>ck.free0 (fr b hb)
        have ck':=ck.draw kB hhB
        have lp:l ≠ p:=fun z=>hs0 (z ▸ l0)
        walk_at"rd"
        refine ⟨l,_,_,rfl,rfl,hlB,by decide,?_⟩
        walk_at"rd"
        have sm:=h150
        rw [List.map_append,List.sum_append] at sm
        refine ⟨⟨_,rfl⟩,ys' ++ [.ref l],hs' ++ [[es]],gs',⟨fun e he=>?_,by simpa using hl132,?_⟩,fun rs h=>?_,by simpa using yl',⟨?_,?_,⟨fun b o e n=>?_,?_⟩,ck.n0,ck.np,ck.nc⟩,by rw [List.map_append]; exact g'⟩
        · rcases List.mem_append.mp he with h | h
          · exact ho.ok e (List.mem_append_left _ h)
          · have:e = [es]:=by simpa using h
            rw [this]
            exact ⟨fun r hr => by have : r = es := by simpa using hr
                                  rw [this]; exact oes,by simp⟩
        · rw [List.map_append,List.sum_append]; simp at sm ⊢; omega
        · simp at h
          rw [← h]; simp
        · exact (ck'.hh.upd lp (by rw [ck'.kp.2]; exact cells_new hh l0)).mono (by omega)
        · rw [upd_ne lD.symm]; exact ck'.lat
        · rw [upd_ne (ne_of_none e l0)]; exact ck'.kp.1 _ _ e n
        · rw [cells_upd lp]; exact ck'.kp.2
      · walk_at"rd"
        refine ⟨⟨_,rfl⟩,ys' ++ [.ref l],hs' ++ [rs],gs,ho,fun rs' h=>?_,yl,⟨ck.hh.mono (by omega),ck.lat,ck.kp,ck.n0,ck.np,ck.nc⟩,g⟩
        simp at h
        rw [← h]
        intro z
        exact c3 (List.eq_nil_of_length_eq_zero (by rw [xr,z]; rfl))
  · clear g ck
    rintro σ H9 ⟨⟨x2,rfl⟩,ys,hs,gs,ho,la,yl,ck,g⟩
    have hl:=ho.hl
    walk_at"rd"
    refine ⟨(by show 3 ≤ sizeLine; decide),fun t nt=>?_⟩
    generalize hE:upd H9 t _ = HA
    obtain ⟨ck',ht,tp,tD⟩:=ck.new nt hE
    have sA:=(newo nt hE).2
    clear hE
    obtain ⟨td,nd⟩:=(g.same sA).done (by omega)
    obtain ⟨w,ew⟩ : ∃ w:Nat,1 + w0 = (w:Int):=⟨(1 + w0).toNat,by omega⟩
    obtain ⟨r,er⟩ : ∃ r:Nat,1 + r0 = (r:Int):=⟨(1 + r0).toNat,by omega⟩
    rw [ew,er] at ht
    walk_at"rd"
    refine q (.ref t) w r hs (D::gs.flatten) HA ?_ (ho.y (by omega) (by omega) (by omega) (by omega) la) nd (fun b hb=>?_) (ck'.hh.mono (by omega)) ck'.kp
    · have:=TD.ofT (n:=4) ht (by show 3 ≤ 1000; decide) (.cons (TD.int _) (.cons (TD.int _) (.cons td TL.nil)))
      unfold yardD heldD
      simpa using this
    · rcases List.mem_cons.mp hb with rfl | hb
      · exact nD
      · exact g.fr b hb
theorem ok__law_step {f:Addr}{fd:FuncData}(F:Fun K "_law_step" "_law_step" s__law_step f fd) (mF:mg "_law_step" = some (.ref f)) (bF:Binds K fd ["_law_hand"] []) (T:Bl mg) (C__law_draw:Cal P w K mg base "_law_draw" ["_law_hand", "_law_many"] 1 (sp__law_draw K)) (C__law_row:Cal P w K mg base "_law_row" ["_law_hand"] 4 (sp__law_row K)):Cal P w K mg base "_law_step" ["_law_hand"] 5 (sp__law_step K):=by
 refine Cal.of F mF bF sc__law_step (fun vs H Q E h=>?_) (fun cdv A outer s H vs Q E hr h=>?_)
 ·obtain⟨p,N,rfl,_⟩:=h;rfl
 obtain⟨p,N,rfl,hh,hN,q⟩:=h
 have hs0:=hand_some hh
 refine⟨_,(pss_cons (ps_set (i:=1) sc__law_step.nd rfl (Or.inl rfl) (pcl C__law_draw (hr.mono (by decide)) (pa_cons (pv 0) (pa_cons pe_int pa_nil stx_Constant) stx_Name)))
   (pss_cons (ps_setc (i:=2) sc__law_step.nd rfl rfl rfl (blkOk (sc:=defScope s__law_step) (N:=["_law_hand", "_law_way", "_law_numbers", "_law_k", "_law_row_here"]) (vs:=["_law_k"]) (fs:=["_law_hand"]) (js:=[0]) (by decide +kernel) rfl rfl) (pi_range1 rfl T.range (pa_cons pe_int pa_nil stx_Constant)) (fun _ _ _ _=>pg_name (i:=0) (show(["_law_k", "_law_hand"]:List Str).Nodup by decide +kernel) rfl (Or.inl rfl)) (fun _ _ _ _=>pif0) (fun _ _ _ _=>(pcl C__law_draw (hr.mono (by decide)) (pa_cons (pv 1) (pa_cons (pe_ix (ix_listK (K:=K) rfl) (pe_lst (pa_cons pe_int (pa_cons pe_int pa_nil stx_Constant) stx_Constant)) (pcl C__law_draw (hr.mono (by decide)) (pa_cons (pv 1) (pa_cons pe_int pa_nil stx_Constant) stx_Name)) (fun _ _=>rfl)) pa_nil stx_Subscript) stx_Name))))
   (pss_cons (ps_if (pt_cmpR op_eq (pv 1) pe_int (nomark _)) (pss_cons (ps_set (i:=4) sc__law_step.nd rfl (Or.inl rfl) (pcl C__law_row (hr.mono (by decide)) (pa_cons (pv 0) pa_nil stx_Name)))
   (pss_cons (ps_for PassesOwn.never rfl (pi_range1 rfl T.range (pa_cons (pe_op op_mul (pcl C__law_draw (hr.mono (by decide)) (pa_cons (pv 0) (pa_cons pe_int pa_nil stx_Constant) stx_Name)) (pe_callTy call_intB rfl T.int bt_int (pa_cons (pe_cmpR op_eq (pcl C__law_draw (hr.mono (by decide)) (pa_cons (pv 0) (pa_cons pe_int pa_nil stx_Constant) stx_Name)) pe_int (nomark _)) pa_nil stx_Compare))) pa_nil stx_BinOp)) (pg_name (i:=3) sc__law_step.nd rfl (Or.inl rfl)) (pss_one (ps_expr (pe_bm PySem.F.plainAttrs_list PySem.F.slot_list_append PySem.F.type_list_append mt_append (pv 4) (pa_cons (pe_tup (pa_cons (pcl C__law_draw (hr.mono (by decide)) (pa_cons (pv 0) (pa_cons (pe_powC (c:=1000000) (by decide +kernel) ⟨by decide,by decide,by decide⟩) pa_nil stx_BinOp) stx_Name)) (pa_cons pe_str pa_nil stx_Constant) stx_Call)) pa_nil stx_Tuple)))))
   (pss_one (ps_ret (pe_tup (pa_cons pe_str (pa_cons (pe_ix ix_list (pv 2) pe_int (fun _ _=>rfl)) (pa_cons (pe_ix ix_list (pv 2) pe_int (fun _ _=>rfl)) (pa_cons (pv 4) pa_nil stx_Name) stx_Subscript) stx_Subscript) stx_Constant)))))) pss_nil)
   (pss_cons (ps_if (pt_cmpR op_eq (pv 1) pe_int (nomark _)) (pss_one (ps_ret (pe_tup (pa_cons pe_str (pa_cons (pe_ix ix_list (pv 2) pe_int (fun _ _=>rfl)) (pa_cons (pe_ix ix_list (pv 2) pe_int (fun _ _=>rfl)) pa_nil stx_Subscript) stx_Subscript) stx_Constant)))) pss_nil)
   (pss_one (ps_ret (pe_tup (pa_cons pe_str (pa_cons (pe_callB (call_maxI rfl) rfl T.max bt_max (pa_cons pe_int (pa_cons (pe_ix ix_list (pv 2) pe_int (fun _ _=>rfl)) pa_nil stx_Subscript) stx_Constant)) pa_nil stx_Call) stx_Constant)))))))),?_⟩
 rw[st__law_step]
 walk_at"rd"
 refine⟨p,_,3,rfl,hh,by omega,by decide,by decide,fun way H1 w0 w1 hh1 k1=>?_⟩
 walk_at"rd"
 refine⟨2,rfl,by omega,by omega,fun D nD=>?_⟩
 refine comp_range (n:=2) (fun j σ' ys H'=>(∃x,σ'=[x,some (.ref p)])∧j≤2∧(∃ks:List Nat,ys=ks.map (fun k:Nat=>V.int (k:Int))∧ks.length=j∧∀k∈ks,k≤130)∧CK H1 p D (N+1+10*j) ys H') D ⟨⟨_,rfl⟩,by omega,⟨[],rfl,rfl,fun _ h=>by cases h⟩,CK.start hh1 nD⟩ ?_ ?_
 ·rintro j σ' ys H2 hj ⟨⟨x1,rfl⟩,j2,⟨ks,rfl,kl,kb⟩,ck⟩
  walk_at"rd"
  refine⟨(by show 2≤sizeLine;decide),fun q1 nq1=>?_⟩
  generalize hE:upd H2 q1 _=H3
  obtain⟨ck,hq1,q1p,q1D⟩:=ck.new nq1 hE
  clear hE
  walk_at"rd"
  refine⟨p,_,2,rfl,ck.hh,by omega,by decide,by decide,fun v H4 v0 v1 hh4 k4=>?_⟩
  obtain⟨c,hc,cv⟩ : ∃c,atI [V.int 9,V.int 131] v=some (.int c)∧(c=9∨c=131):=by
   have:v=0∨v=1:=by omega
   rcases this with rfl|rfl
   ·exact⟨9,rfl,.inl rfl⟩
   ·exact⟨131,rfl,.inr rfl⟩
  have ck:=ck.draw k4 hh4
  refine rd_ixL (SqL.of (k4.1 _ _ hq1 q1p)) hc ?_
  walk_at"rd"
  refine⟨p,_,c,rfl,ck.hh,by omega,by omega,by omega,fun k H5 k0 k1' hh5 k5=>?_⟩
  have ck:=ck.draw k5 hh5
  obtain⟨kk,rfl⟩ : ∃kk:Nat,k =(kk:Int):=⟨k.toNat,by omega⟩
  have pu:=ck.push (zs:=ks.map (fun k:Nat=>V.int (k:Int)) ++ [V.int (kk:Int)])
  refine⟨ck.lat,by rw[List.length_map];exact small1000 (by omega),⟨_,rfl⟩,by omega,⟨ks ++ [kk],by rw[List.map_append];rfl,by rw[List.length_append,kl];rfl,fun z hz=>?_⟩,⟨pu.hh.mono (by omega),pu.lat,pu.kp,pu.n0,pu.np,pu.nc⟩⟩
  rcases List.mem_append.mp hz with h|h
  ·exact kb z h
  ·have:z=kk:=by simpa using h
   omega
 ·rintro σ' ys H2 ⟨⟨x1,rfl⟩,_,⟨ks,rfl,kl,kb⟩,ck⟩
  match ks,kl with
  | [n0,n1],_ =>
  have b0:=kb n0 (by simp)
  have b1:=kb n1 (by simp)
  have hD:=ck.lat
  have k02:=k1.trans ck.kp
  have hh2:=ck.hh
  have fr0:∀{b:Addr},H2 b=none→H b=none:=fun {b} h=>by
   cases c:H b with
   | none=>rfl
   | some o =>
    by_cases z:b=p
    ·rw[z]at h;exact absurd h (hand_some hh2)
    ·rw[k02.1 _ _ c z]at h;cases h
  have Dp:=ck.np
  walk_at"rd"
  refine rd_if (fun c=>?_) (fun c=>?_)
  ·walk_at"rd"
   refine⟨p,_,rfl,hh2,by omega,fun v es f H3 td oes nf fr hh3 k3=>?_⟩
   obtain⟨l,xs,fs,rfl,rfl,hl,xl,tl⟩:=TD.asL td
   obtain⟨lnf,nf'⟩:=List.nodup_cons.mp nf
   have l2:=fr l List.mem_cons_self
   have l0:=fr0 l2
   have lp:l≠p:=fun z=>hs0 (z ▸ l0)
   have k03:=k02.trans k3
   have ck3:CK H p l (N+1000) xs H3:=⟨hh3.mono (by omega),hl,k03,l0,lp,cells_new hh l0⟩
   have g3:Gw H l 1 xs (es.map eD) fs H3:=⟨tl,nf',fun b hb=>fr0 (fr b (List.mem_cons_of_mem _ hb)),lnf,hl⟩
   have xe:xs.length=es.length:=by have:=tl.l1;rw[List.length_map]at this;exact this
   have Dl:D≠l:=fun z=>by rw[← z,hD]at l2;cases l2
   have hD3:=k3.1 _ _ hD Dp
   walk_at"rd"
   refine⟨p,_,113,rfl,ck3.hh,by omega,by decide,by decide,fun m H4 m0 m1 hh4 k4=>?_⟩
   have g4:=g3.kp ck3.hh k4 hs0 lp
   have ck4:=ck3.draw k4 hh4
   walk_at"rd"
   refine⟨p,_,8,rfl,ck4.hh,by omega,by decide,by decide,fun o8 H5 o0 o1 hh5 k5=>?_⟩
   have g5:=g4.kp ck4.hh k5 hs0 lp
   have ck5:=ck4.draw k5 hh5
   have hD5:=k5.1 _ _ (k4.1 _ _ hD3 Dp) Dp
   walk_at"rd"
   obtain⟨mm,em,mm1⟩ : ∃mm:Nat,m*(if decide (o8=7)=true then 1 else 0) =(mm:Int)∧mm≤112:=by
    split
    ·exact⟨m.toNat,by omega,by omega⟩
    ·exact⟨0,by omega,by omega⟩
   rw[em]
   refine⟨_,rfl,by omega,by omega,?_⟩
   rw[Int.toNat_natCast]
   refine for_rangeO (n:=mm) (fun i σ H'=>(∃x4,σ=[some (.ref p),some (.int way),some (.ref D),x4,some (.ref l)])∧∃(ys:List V) (es:Row) (gs:List (List Addr)),es.length≤8+i∧ys.length=es.length∧(∀e∈es,okE e)∧CK H p l (N+1010+10*i) ys H'∧Gw H l 1 ys (es.map eD) gs H'∧H' D=some (.lst ([n0,n1].map (fun k:Nat=>V.int (k:Int))))) ⟨⟨_,rfl⟩,xs,es,fs,by have:=oes.2;omega,xe,oes.1,⟨ck5.hh.mono (by omega),ck5.lat,ck5.kp,ck5.n0,ck5.np,ck5.nc⟩,g5,hD5⟩ ?_ ?_
   ·clear g3 g4 g5 ck3 ck4 ck5 td tl hl hD3 hD5 hh3 hh4 hh5 k3 k4 k5 k03
    rintro i σ H6 hi ⟨⟨x4,rfl⟩,ys,es,gs,el,yl,ok,ck,g,hD6⟩
    walk_at"rd"
    refine⟨.inl ⟨rfl,_,SqL.of ck.lat⟩,?_⟩
    walk_at"rd"
    refine⟨p,_,_,rfl,ck.hh,by omega,by decide,by decide,fun k H7 k0 k1' hh7 k7=>?_⟩
    have g:=g.kp ck.hh k7 hs0 ck.np
    have hD7:=k7.1 _ _ hD6 Dp
    have ck:=ck.draw k7 hh7
    walk_at"rd"
    refine⟨(by show 2≤sizeLine;decide),fun t nt=>?_⟩
    generalize hE:upd H7 t _=H8
    obtain⟨ht,s8⟩:=newo nt hE
    obtain⟨ck,_,tp,tD⟩:=ck.new nt hE
    clear hE
    have zb:nm (Str.ofString "b"):=⟨by decide,by decide,by decide⟩
    have oe:okE (k,Str.ofString "b"):=⟨k0,by show k<_;omega,zb⟩
    walk_at"rd"
    refine⟨l,_,_,rfl,rfl,ck.lat,small1000 (by omega),?_⟩
    walk_at"rd"
    refine⟨⟨_,rfl⟩,ys ++ [.ref t],es ++ [(k,Str.ofString "b")],gs ++ [[]],by rw[List.length_append];simp;omega,by simp;omega,fun e he=>?_,?_,?_,by rw[upd_ne Dl];exact s8 _ _ hD7⟩
    ·rcases List.mem_append.mp he with h|h
     ·exact ok e h
     ·have:e =(k,Str.ofString "b"):=by simpa using h
      rw[this];exact oe
    ·have:=ck.push (zs:=ys ++ [.ref t])
     exact⟨this.hh.mono (by omega),this.lat,this.kp,this.n0,this.np,this.nc⟩
    ·rw[List.map_append]
     exact g.push (fun b o e _=>s8 _ _ e) (TD.ofEnt (e:=(k,Str.ofString "b")) ht (nm_ok zb).1) List.nodup_nil (fun _ h=>by cases h) (fun _ h=>by cases h)
   ·rintro σ H6 ⟨⟨x4,rfl⟩,ys,es,gs,el,yl,ok,ck,g,hD6⟩
    walk_at"rd"
    refine⟨(by show 4≤sizeLine;decide),fun t nt=>?_⟩
    generalize hE:upd H6 t _=H7
    obtain⟨ck',ht,tp,tD⟩:=ck.new nt hE
    have s7:=(newo nt hE).2
    clear hE
    obtain⟨td,nd⟩:=(g.same s7).done (by omega)
    walk_at"rd"
    refine q (.ref t) (.row n0 n1 es) (l::gs.flatten) H7 ?_ ⟨b0,b1,ok,by omega⟩ nd (fun b hb=>?_) (ck'.hh.mono (by omega)) ck'.kp
    ·have:=TD.ofT (n:=2) ht (by show 4≤1000;decide) (.cons (TD.str (by decide +kernel)) (.cons (TD.int _) (.cons (TD.int _) (.cons td TL.nil))))
     show TD H7 3 (V.ref t) (.tuple [.str wRow,.int n0,.int n1,rowD es]) (l::gs.flatten)
     unfold rowD wRow
     simpa using this
    ·rcases List.mem_cons.mp hb with rfl|hb
     ·exact l0
     ·exact g.fr b hb
  walk_at"rd"
  refine rd_if (fun c=>?_) (fun c=>?_)
  ·walk_at"rd"
   refine⟨(by show 3≤sizeLine;decide),fun t nt=>?_⟩
   generalize hE:upd H2 t _=H7
   obtain⟨ht,s7⟩:=newo nt hE
   clear hE
   walk_at"rd"
   refine q (.ref t) (.cut n0 n1) [] H7 ?_ ⟨b0,b1⟩ List.nodup_nil (fun _ h=>by cases h) ((hh2.same s7).mono (by omega)) (k02.trans (Kp.of s7 hh2))
   exact TD.ofT (n:=2) (fs:=[[],[],[]]) ht (by show 3≤1000;decide) (.cons (TD.str (by decide +kernel)) (.cons (TD.int _) (.cons (TD.int _) TL.nil)))
  ·walk_at"rd"
   refine⟨(by show 2≤sizeLine;decide),fun t nt=>?_⟩
   generalize hE:upd H2 t _=H7
   obtain⟨ht,s7⟩:=newo nt hE
   clear hE
   obtain⟨m,em,m1,m2⟩ : ∃m:Nat,max 1 (n0:Int) =(m:Int)∧1≤m∧m≤130:=⟨max 1 n0,by omega,by omega,by omega⟩
   rw[em]at ht
   walk_at"rd"
   refine q (.ref t) (.rooms m) [] H7 ?_ ⟨m1,m2⟩ List.nodup_nil (fun _ h=>by cases h) ((hh2.same s7).mono (by omega)) (k02.trans (Kp.of s7 hh2))
   exact TD.ofT (n:=2) (fs:=[[],[]]) ht (by show 2≤1000;decide) (.cons (TD.str (by decide +kernel)) (.cons (TD.int _) TL.nil))
theorem ok__law_row_text {f:Addr}{fd:FuncData}(F:Fun K "_law_row_text" "_law_row_text" s__law_row_text f fd) (mF:mg "_law_row_text" = some (.ref f)) (bF:Binds K fd ["_law_row_here"] []) (T:Bl mg)  : Cal P w K mg base "_law_row_text" ["_law_row_here"] 1 (sp__law_row_text K):=by
 refine Cal.of F mF bF sc__law_row_text (fun vs H Q E h=>?_) (fun cdv A outer s H vs Q E hr h=>?_)
 ·obtain⟨v,es,fp,rfl,_⟩:=h;rfl
 obtain⟨v,es,fp,rfl,td,⟨ok,el⟩,q⟩:=h
 obtain⟨l,xs,fs,rfl,rfl,hl,xl,tl⟩:=TD.asL td
 have hu:=hr.units
 have ln:=tl.l1
 rw[List.length_map]at ln
 refine⟨_,(pss_cons (ps_set (i:=1) sc__law_row_text.nd rfl (Or.inl rfl) (pe_lst pa_nil))
   (pss_cons (ps_for PassesOwn.never rfl (pi_list (pv 0)) (pg_tup rfl (pgs_cons (pg_name (i:=2) sc__law_row_text.nd rfl (Or.inl rfl)) (pgs_cons (pg_name (i:=3) sc__law_row_text.nd rfl (Or.inl rfl)) pgs_nil))) (pss_one (ps_expr (pe_bm PySem.F.plainAttrs_list PySem.F.slot_list_append PySem.F.type_list_append mt_append (pv 1) (pa_cons (pe_op op_catS (pe_op op_catS (pe_callTy call_str_int rfl T.str bt_str (pa_cons (pv 2) pa_nil stx_Name)) pe_str) (pv 3)) pa_nil stx_BinOp)))))
   (pss_one (ps_ret (pe_ix ix_list (pe_lst (pa_cons (pe_bm PySem.F.plainAttrs_str PySem.F.slot_str_join PySem.F.type_str_join mt_join pe_str (pa_cons (pv 1) pa_nil stx_Name)) (pa_cons pe_str pa_nil stx_Constant) stx_Call)) (pe_callTy call_intB rfl T.int bt_int (pa_cons (pe_cmpR (op_eqE hu) (pv 0) (pe_lst pa_nil) (nomark _)) pa_nil stx_Compare)) (fun _ _=>rfl)))))),?_⟩
 rw[st__law_row_text]
 walk_at"rd"
 refine⟨by decide,fun D nD=>?_⟩
 walk_at"rd"
 refine⟨l,rfl,⟨_,SqL.of (by rw[upd_ne (ne_of_none hl nD)];exact hl)⟩,?_⟩
 refine for_listO (xs:=xs) (fun i σ H'=>(∃x y,σ=[some (.ref l),some (.ref D),x,y])∧Same H H'∧H' D=some (.lst (((es.take i).map entT).map V.str))) ⟨⟨_,_,rfl⟩,same_new nD _,upd_same⟩ (fun i σ H' _ h=>SqL.of (h.2.1 _ _ hl)) ?_ ?_
 ·rintro i x σ H2 hx ⟨⟨x1,y1,rfl⟩,s2,hD⟩
  obtain⟨d,f,hd,hf,r⟩:=tl.get hx
  rw[List.getElem?_map]at hd
  have il:=(List.getElem?_eq_some_iff.mp hx).1
  obtain⟨e,he⟩ : ∃e,es[i]? = some e:=⟨_,List.getElem?_eq_getElem (by omega)⟩
  rw[he]at hd
  cases hd
  obtain⟨t,rfl,ht,_⟩:=r.ent
  have oe:=ok e (List.mem_of_getElem? he)
  obtain⟨m,em,hm⟩:=oe.num
  have nl:=numT_length em hm
  have zl:=oe.2.2.2.1
  walk_at"rd"
  refine⟨t,_,rfl,SqT.of (s2 _ _ ht),rfl,_,_,rfl,_,_,rfl,rfl,?_⟩
  walk_at"rd"
  refine⟨.inl ⟨rfl,_,SqL.of hD⟩,?_⟩
  walk_at"rd"
  refine⟨_,rfl,by rw[em];exact log_small hm,?_⟩
  walk_at"rd"
  refine rd_catS (i:=numT e.1) (by rw[s_eq];show(numT e.1).length+1≤_;exact line_small (by omega)) ?_
  walk_at"rd"
  refine rd_catS (by rw[str_applen,s_eq];show(numT e.1).length+1+_≤_;exact line_small (by omega)) ?_
  walk_at"rd"
  refine⟨D,_,_,rfl,rfl,hD,by rw[List.length_map,List.length_map,List.length_take];exact small1000 (by omega),?_⟩
  walk_at"rd"
  refine⟨⟨_,_,rfl⟩,fun b o e=>by rw[upd_ne (ne_of_none e nD)];exact s2 _ _ e,?_⟩
  rw[upd_same,take_get he,List.map_append,List.map_append,s_eq];rfl
 ·rintro σ H2 ⟨⟨x1,y1,rfl⟩,s2,hD⟩
  rw[ln,List.take_length]at hD
  have sm:=sum_le (f:=fun e=>(entT e).length) (B:=28) (l:=es) fun e he=>entT_len (ok e he)
  walk_at"rd"
  refine⟨rfl,?_⟩
  walk_at"rd"
  refine⟨_,D,es.map entT,rfl,rfl,SqL.of hD,?_,?_⟩
  ·rw[List.map_map,s_comma,show(sg 44).length=1 from rfl,List.length_map]
   show(es.map fun e=>(entT e).length).sum+_≤_
   omega
  rw[s_comma,join_txt]
  walk_at"rd"
  refine⟨(by show 2≤sizeLine;decide),fun p np=>?_⟩
  generalize hE:upd H2 p _=H3
  obtain⟨hp,s3⟩:=newo np hE
  clear hE
  walk_at"rd"
  refine⟨by decide,fun p2 np2=>?_⟩
  generalize hE:upd H3 p2 _=H4
  obtain⟨hp2,s4⟩:=newo np2 hE
  clear hE
  have s04:=s2.trans (s3.trans s4)
  refine⟨l,p2,xs,rfl,rfl,SqL.of (s04 _ _ hl),SqL.of hp2,?_⟩
  walk_at"rd"
  refine rd_ixL (SqL.of (s4 _ _ hp)) pick01 ?_
  have e:(if xs=[] then Str.ofString "-" else Str.join (sg 44) (es.map entT))=rowT es:=by
   unfold rowT
   rw[s_dash]
   by_cases c:es=[]
   ·rw[if_pos c,if_pos (List.eq_nil_of_length_eq_zero (by rw[ln,c];rfl))]
   ·rw[if_neg c,if_neg (fun z=>c (List.eq_nil_of_length_eq_zero (by rw[← ln,z];rfl)))]
  rw[e]
  exact q H4 s04
theorem ok__law_rows_text {f:Addr}{fd:FuncData}(F:Fun K "_law_rows_text" "_law_rows_text" s__law_rows_text f fd) (mF:mg "_law_rows_text" = some (.ref f)) (bF:Binds K fd ["_law_rows_here"] []) (T:Bl mg) (C__law_row_text:Cal P w K mg base "_law_row_text" ["_law_row_here"] 1 (sp__law_row_text K)):Cal P w K mg base "_law_rows_text" ["_law_rows_here"] 2 (sp__law_rows_text K):=by
 refine Cal.of F mF bF sc__law_rows_text (fun vs H Q E h=>?_) (fun cdv A outer s H vs Q E hr h=>?_)
 ·obtain⟨v,es,fp,rfl,_⟩:=h;rfl
 obtain⟨v,rs,fp,rfl,td,⟨ok,rl⟩,q⟩:=h
 obtain⟨l,xs,fs,rfl,rfl,hl,xl,tl⟩:=TD.asL td
 have hu:=hr.units
 have ln:=tl.l1
 rw[List.length_map]at ln
 refine⟨_,(pss_one (ps_ret (pe_ix ix_list (pe_lst (pa_cons (pe_bm PySem.F.plainAttrs_str PySem.F.slot_str_join PySem.F.type_str_join mt_join pe_str (pa_cons (pe_comp rfl (blkOk (sc:=defScope s__law_rows_text) (N:=["_law_rows_here"]) (vs:=["_law_row_here"]) (fs:=[]) (js:=[]) (by decide +kernel) rfl rfl) (pi_list (pv 0)) (fun _ _ _ _=>pg_name (i:=0) (show(["_law_row_here"]:List Str).Nodup by decide +kernel) rfl (Or.inl rfl)) (fun _ _ _ _=>pif0) (fun _ _ _ _=>(pcl C__law_row_text (hr.mono (by decide)) (pa_cons (pv 0) pa_nil stx_Name)))) pa_nil stx_ListComp)) (pa_cons pe_str pa_nil stx_Constant) stx_Call)) (pe_callTy call_intB rfl T.int bt_int (pa_cons (pe_cmpR (op_eqE hu) (pv 0) (pe_lst pa_nil) (nomark _)) pa_nil stx_Compare)) (fun _ _=>rfl)))),?_⟩
 rw[st__law_rows_text]
 walk_at"rd"
 refine⟨rfl,?_⟩
 walk_at"rd"
 refine⟨l,rfl,⟨_,SqL.of hl⟩,fun D nD=>?_⟩
 refine comp_list (xs:=xs) (fun i σ' ys H'=>(∃x,σ'=[x])∧Same H H'∧ys =((rs.take i).map rowT).map V.str∧H' D=some (.lst ys)) D ⟨⟨_,rfl⟩,same_new nD _,rfl,upd_same⟩ (fun i σ' ys H' _ h=>SqL.of (h.2.1 _ _ hl)) ?_ ?_
 ·rintro i x σ' ys H2 hx ⟨⟨x1,rfl⟩,s2,rfl,hD⟩
  obtain⟨d,f,hd,hf,r⟩:=tl.get hx
  rw[List.getElem?_map]at hd
  have il:=(List.getElem?_eq_some_iff.mp hx).1
  obtain⟨e,he⟩ : ∃e,rs[i]? = some e:=⟨_,List.getElem?_eq_getElem (by omega)⟩
  rw[he]at hd
  cases hd
  walk_at"rd"
  refine⟨x,e,f,rfl,r.same s2,ok e (List.mem_of_getElem? he),fun H3 s3=>?_⟩
  refine⟨s3 _ _ hD,by rw[List.length_map,List.length_map,List.length_take];exact small1000 (by omega),⟨_,rfl⟩,fun b o e=>by rw[upd_ne (ne_of_none e nD)];exact s3 _ _ (s2 _ _ e),?_,upd_same⟩
  rw[take_get he,List.map_append,List.map_append];rfl
 ·rintro σ' ys H2 ⟨⟨x1,rfl⟩,s2,rfl,hD⟩
  rw[ln,List.take_length]at hD
  walk_at"rd"
  have sm:=sum_le (f:=fun e=>(rowT e).length) (B:=29*130+1) (l:=rs) fun r hr=>rowT_len (ok r hr).1 (ok r hr).2
  refine⟨_,D,rs.map rowT,rfl,rfl,SqL.of hD,?_,?_⟩
  ·rw[List.map_map,s_semi,show(sg 59).length=1 from rfl,List.length_map]
   show(rs.map fun e=>(rowT e).length).sum+_≤_
   omega
  rw[s_semi,join_txt]
  walk_at"rd"
  refine⟨(by show 2≤sizeLine;decide),fun p np=>?_⟩
  generalize hE:upd H2 p _=H3
  obtain⟨hp,s3⟩:=newo np hE
  clear hE
  walk_at"rd"
  refine⟨by decide,fun p2 np2=>?_⟩
  generalize hE:upd H3 p2 _=H4
  obtain⟨hp2,s4⟩:=newo np2 hE
  clear hE
  have s04:=s2.trans (s3.trans s4)
  refine⟨l,p2,xs,rfl,rfl,SqL.of (s04 _ _ hl),SqL.of hp2,?_⟩
  walk_at"rd"
  refine rd_ixL (SqL.of (s4 _ _ hp)) pick01 ?_
  have e:(if xs=[] then Str.ofString "none" else Str.join (sg 59) (rs.map rowT))=rowsT rs:=by
   unfold rowsT
   by_cases c:rs=[]
   ·rw[if_pos c,if_pos (List.eq_nil_of_length_eq_zero (by rw[ln,c];rfl))]
   ·rw[if_neg c,if_neg (fun z=>c (List.eq_nil_of_length_eq_zero (by rw[← ln,z];rfl)))]
  rw[e]
  exact q H4 s04
theorem ok__law_step_text {f:Addr}{fd:FuncData}(F:Fun K "_law_step_text" "_law_step_text" s__law_step_text f fd) (mF:mg "_law_step_text" = some (.ref f)) (bF:Binds K fd ["_law_step_here"] []) (T:Bl mg) (C__law_row_text:Cal P w K mg base "_law_row_text" ["_law_row_here"] 1 (sp__law_row_text K)):Cal P w K mg base "_law_step_text" ["_law_step_here"] 2 (sp__law_step_text K):=by
 refine Cal.of F mF bF sc__law_step_text (fun vs H Q E h=>?_) (fun cdv A outer s H vs Q E hr h=>?_)
 ·obtain⟨v,st,fp,rfl,_⟩:=h;rfl
 obtain⟨v,st,fp,rfl,td,ok,q⟩:=h
 have wl:=words_len ok
 obtain⟨t,xs,hd,rfl,ht,xw,xl⟩ : ∃(t:Addr) (xs:List V) (k:Str),v = .ref t∧H t=some (.tup (.str k::xs))∧(∃ws,wordsS st=k::ws∧ws.length=xs.length∧∀(i:Nat) (x:V) (z:Str),xs[i]? = some x→ws[i]? = some z→(∃j:Nat,x = .int j∧j≤130∧z=numT j) ∨(∃es f l ys,x = .ref l∧H l=some (.lst ys)∧TD H 2 x (rowD es) f∧okR es∧z=rowT es))∧xs.length≤3:=by
  cases st with
  | row r a es =>
   obtain⟨t,x,rfl,ht,tx⟩:=TD.step4 td
   obtain⟨l,ys,fs,rfl,rfl,hl,_⟩:=TD.asL tx
   refine⟨t,[.int r,.int a,.ref l],wRow,rfl,ht,⟨[numT r,numT a,rowT es],rfl,rfl,fun i x z h1 h2=>?_⟩,by simp⟩
   rcases i with _|_|_|i
   ·cases h1;cases h2;exact .inl ⟨r,rfl,ok.1,rfl⟩
   ·cases h1;cases h2;exact .inl ⟨a,rfl,ok.2.1,rfl⟩
   ·cases h1;cases h2;exact .inr ⟨es,_,l,ys,rfl,hl,tx,ok.2.2,rfl⟩
   ·simp at h1
  | cut r m =>
   obtain⟨t,rfl,ht⟩:=TD.step3 td
   refine⟨t,[.int r,.int m],wCut,rfl,ht,⟨[numT r,numT m],rfl,rfl,fun i x z h1 h2=>?_⟩,by simp⟩
   rcases i with _|_|i
   ·cases h1;cases h2;exact .inl ⟨r,rfl,ok.1,rfl⟩
   ·cases h1;cases h2;exact .inl ⟨m,rfl,ok.2,rfl⟩
   ·simp at h1
  | rooms n =>
   obtain⟨t,rfl,ht⟩:=TD.step2 td
   refine⟨t,[.int n],wRooms,rfl,ht,⟨[numT n],rfl,rfl,fun i x z h1 h2=>?_⟩,by simp⟩
   rcases i with _|i
   ·cases h1;cases h2;exact .inl ⟨n,rfl,ok.2,rfl⟩
   ·simp at h1
 obtain⟨ws,ew,wsl,wa⟩:=xw
 refine⟨_,(pss_cons (ps_set (i:=1) sc__law_step_text.nd rfl (Or.inl rfl) (pe_lst (pa_cons (pe_ix ix_tup (pv 0) pe_int (fun _ _=>rfl)) pa_nil stx_Subscript)))
   (pss_cons (ps_for PassesOwn.never rfl (pi_tup (pe_slice sl_tup (pv 0) (po_some pe_int) po_none)) (pg_name (i:=2) sc__law_step_text.nd rfl (Or.inl rfl)) (pss_one (ps_if (pt_val (pe_callB call_isinst rfl T.isinstance bt_isinstance (pa_cons (pv 2) (pa_cons (pe_bltn (v:=.ty "list") rfl T.list bt_list rfl) pa_nil stx_Name) stx_Name))) (pss_one (ps_expr (pe_bm PySem.F.plainAttrs_list PySem.F.slot_list_append PySem.F.type_list_append mt_append (pv 1) (pa_cons (pcl C__law_row_text (hr.mono (by decide)) (pa_cons (pv 2) pa_nil stx_Name)) pa_nil stx_Call)))) (pss_one (ps_expr (pe_bm PySem.F.plainAttrs_list PySem.F.slot_list_append PySem.F.type_list_append mt_append (pv 1) (pa_cons (pe_callTy call_str_int rfl T.str bt_str (pa_cons (pv 2) pa_nil stx_Name)) pa_nil stx_Call)))))))
   (pss_one (ps_ret (pe_bm PySem.F.plainAttrs_str PySem.F.slot_str_join PySem.F.type_str_join mt_join pe_str (pa_cons (pv 1) pa_nil stx_Name)))))),?_⟩
 rw[st__law_step_text]
 walk_at"rd"
 refine rd_ixT (SqT.of ht) (atI_nat (j:=0) rfl) ?_
 walk_at"rd"
 refine⟨by show 1≤sizeLine;decide,fun D nD=>?_⟩
 generalize hE:upd H D _=H1
 obtain⟨hD1,s1⟩:=newo nD hE
 clear hE
 walk_at"rd"
 refine⟨t,_,rfl,SqT.of (s1 _ _ ht),?_,fun t2 nt2=>?_⟩
 ·intro z
  have z:=z.1
  rw[show(1:Int) =((1:Nat):Int) from rfl,HT.sIx_nat]at z
  simp at z
 have cut:cutV (.str hd::xs) (some 1) none=xs:=by
  unfold cutV
  rw[show(1:Int) =((1:Nat):Int) from rfl,HT.sIx_nat,HT.sIx_none]
  simp
 rw[cut]
 generalize hE:upd H1 t2 _=H2
 obtain⟨ht2,s2⟩:=newo nt2 hE
 clear hE
 have t2D:t2≠D:=fun z=>by rw[z,hD1]at nt2;cases nt2
 have s12:=s1.trans s2
 refine⟨t2,rfl,⟨_,SqT.of ht2⟩,?_⟩
 refine for_tup (xs:=xs) (fun i σ H'=>(∃x,σ=[some (.ref t),some (.ref D),x])∧(∀b o,b≠D→H2 b=some o→H' b=some o)∧H' D=some (.lst ((hd::ws.take i).map V.str))) ⟨⟨_,rfl⟩,fun _ _ _ e=>e,s2 _ _ hD1⟩ (fun i σ H' _ h=>SqT.of (h.2.1 _ _ t2D ht2)) ?_ ?_
 ·rintro i x σ H3 hx ⟨⟨x1,rfl⟩,k3,hD3⟩
  have il:=(List.getElem?_eq_some_iff.mp hx).1
  obtain⟨z,hz⟩ : ∃z,ws[i]? = some z:=⟨_,List.getElem?_eq_getElem (by omega)⟩
  have hk:∀b o,H b=some o→H3 b=some o:=fun b o e=>k3 b o (ne_of_none e nD) (s12 _ _ e)
  have pushed:∀H4:Hp,(∀b o,b≠D→H3 b=some o→H4 b=some o)→(∃x',[some (V.ref t),some (.ref D),some x]=[some (V.ref t),some (.ref D),x'])∧(∀b o,b≠D→H2 b=some o→(upd H4 D (.lst ((hd::ws.take i).map V.str ++ [.str z]))) b=some o)∧(upd H4 D (.lst ((hd::ws.take i).map V.str ++ [.str z]))) D=some (.lst ((hd::ws.take (i+1)).map V.str)):=fun H4 k4=>⟨⟨_,rfl⟩,fun b o n e=>by rw[upd_ne n];exact k4 _ _ n (k3 _ _ n e),by rw[upd_same,take_get hz];simp⟩
  have wlen:((hd::ws.take i).map V.str).length<sizeLine:=small1000 (by rw[List.length_map,List.length_cons,List.length_take];omega)
  rcases wa i x z hx hz with⟨j,rfl,hj,rfl⟩|⟨es,f,l,ys,rfl,hl,tx,oes,rfl⟩
  ·walk_at"rd"
   refine rd_isi (.int _) (b:=false) rfl ?_
   walk_at"rd"
   refine⟨.inl ⟨rfl,_,SqL.of hD3⟩,?_⟩
   walk_at"rd"
   refine⟨_,rfl,log_small (small130 hj),?_⟩
   walk_at"rd"
   refine⟨D,_,_,rfl,rfl,hD3,wlen,?_⟩
   walk_at"rd"
   exact pushed H3 fun _ _ _ e=>e
  ·walk_at"rd"
   refine rd_isi (.lst (hk _ _ hl)) (b:=true) rfl ?_
   walk_at"rd"
   refine⟨.inl ⟨rfl,_,SqL.of hD3⟩,?_⟩
   walk_at"rd"
   refine⟨.ref l,es,f,rfl,TD.keep tx fun b o e _=>hk _ _ e,oes,fun H4 s4=>?_⟩
   walk_at"rd"
   refine⟨D,_,_,rfl,rfl,s4 _ _ hD3,wlen,?_⟩
   walk_at"rd"
   exact pushed H4 fun _ _ _ e=>s4 _ _ e
 ·rintro σ H3 ⟨⟨x1,rfl⟩,k3,hD3⟩
  rw[← wsl,List.take_length,← ew]at hD3
  walk_at"rd"
  refine⟨rfl,?_⟩
  walk_at"rd"
  refine⟨_,D,wordsS st,rfl,rfl,SqL.of hD3,?_,?_⟩
  ·rw[s_sp,show(sg 32).length=1 from rfl]
   have:(wordsS st).length=xs.length+1:=by rw[ew,List.length_cons,wsl]
   omega
  rw[s_sp,join_txt]
  exact q H3 fun b o e=>k3 b o (ne_of_none e nD) (s12 _ _ e)
theorem ok__law_yard_text {f:Addr}{fd:FuncData}(F:Fun K "_law_yard_text" "_law_yard_text" s__law_yard_text f fd) (mF:mg "_law_yard_text" = some (.ref f)) (bF:Binds K fd ["_law_yard_here"] []) (T:Bl mg) (C__law_rows_text:Cal P w K mg base "_law_rows_text" ["_law_rows_here"] 2 (sp__law_rows_text K)):Cal P w K mg base "_law_yard_text" ["_law_yard_here"] 3 (sp__law_yard_text K):=by
 refine Cal.of F mF bF sc__law_yard_text (fun vs H Q E h=>?_) (fun cdv A outer s H vs Q E hr h=>?_)
 ·obtain⟨v,w,r,hs,fp,rfl,_⟩:=h;rfl
 obtain⟨v,w,r,hs,fp,rfl,td,ok,q⟩:=h
 obtain⟨t,x,rfl,ht,tx⟩:=TD.yard3 td
 obtain⟨l,xs,fs,rfl,rfl,hl,xl,tl⟩:=TD.asL tx
 have ln:=tl.l1
 rw[List.length_map]at ln
 have hl140:=ok.hl
 refine⟨_,(pss_cons (ps_set (i:=1) sc__law_yard_text.nd rfl (Or.inl rfl) (pe_lst (pa_cons (pe_callTy call_str_int rfl T.str bt_str (pa_cons (pe_ix ix_tup (pv 0) pe_int (fun _ _=>rfl)) pa_nil stx_Subscript)) (pa_cons (pe_callTy call_str_int rfl T.str bt_str (pa_cons (pe_ix ix_tup (pv 0) pe_int (fun _ _=>rfl)) pa_nil stx_Subscript)) pa_nil stx_Call) stx_Call)))
   (pss_cons (ps_for PassesOwn.never rfl (pi_list (pe_ix ix_tup (pv 0) pe_int (fun _ _=>rfl))) (pg_name (i:=2) sc__law_yard_text.nd rfl (Or.inl rfl)) (pss_one (ps_expr (pe_bm PySem.F.plainAttrs_list PySem.F.slot_list_append PySem.F.type_list_append mt_append (pv 1) (pa_cons (pcl C__law_rows_text (hr.mono (by decide)) (pa_cons (pv 2) pa_nil stx_Name)) pa_nil stx_Call)))))
   (pss_one (ps_ret (pe_bm PySem.F.plainAttrs_str PySem.F.slot_str_join PySem.F.type_str_join mt_join pe_str (pa_cons (pv 1) pa_nil stx_Name)))))),?_⟩
 rw[st__law_yard_text]
 walk_at"rd"
 refine⟨_,rfl,log_small (small130 (by have:=ok.w2;omega)),?_⟩
 walk_at"rd"
 refine⟨_,rfl,log_small (small130 ok.r2),?_⟩
 walk_at"rd"
 refine⟨(by show 2≤sizeLine;decide),fun D nD=>?_⟩
 walk_at"rd"
 refine rd_ixT (SqT.of (by rw[upd_ne (ne_of_none ht nD)];exact ht)) rfl ?_
 refine⟨l,rfl,⟨_,SqL.of (by rw[upd_ne (ne_of_none hl nD)];exact hl)⟩,?_⟩
 refine for_listO (xs:=xs) (fun i σ H'=>(∃x,σ=[some (.ref t),some (.ref D),x])∧Same H H'∧H' D=some (.lst ((numT w::numT r::(hs.take i).map rowsT).map V.str))) ⟨⟨_,rfl⟩,same_new nD _,upd_same⟩ (fun i σ H' _ h=>SqL.of (h.2.1 _ _ hl)) ?_ ?_
 ·rintro i x σ H2 hx ⟨⟨x1,rfl⟩,s2,hD⟩
  obtain⟨d,f,hd,hf,r⟩:=tl.get hx
  rw[List.getElem?_map]at hd
  have il:=(List.getElem?_eq_some_iff.mp hx).1
  obtain⟨e,he⟩ : ∃e,hs[i]? = some e:=⟨_,List.getElem?_eq_getElem (by omega)⟩
  rw[he]at hd
  cases hd
  walk_at"rd"
  refine⟨.inl ⟨rfl,_,SqL.of hD⟩,?_⟩
  walk_at"rd"
  refine⟨x,e,f,rfl,r.same s2,ok.ok e (List.mem_of_getElem? he),fun H3 s3=>?_⟩
  walk_at"rd"
  refine⟨D,_,_,rfl,rfl,s3 _ _ hD,?_,?_⟩
  ·rw[List.length_map,List.length_cons,List.length_cons,List.length_map,List.length_take];exact small1000 (by omega)
  walk_at"rd"
  refine⟨⟨_,rfl⟩,fun b o e=>by rw[upd_ne (ne_of_none e nD)];exact s3 _ _ (s2 _ _ e),?_⟩
  rw[upd_same,take_get he,List.map_append]
  simp
 ·rintro σ H2 ⟨⟨x1,rfl⟩,s2,hD⟩
  rw[ln,List.take_length]at hD
  obtain⟨b1,b2⟩:=wordsY_len ok
  walk_at"rd"
  refine⟨rfl,?_⟩
  walk_at"rd"
  refine⟨_,D,wordsY w r hs,rfl,rfl,SqL.of hD,?_,?_⟩
  ·rw[s_sp,show(sg 32).length=1 from rfl];omega
  rw[s_sp,join_txt]
  exact q H2 s2
theorem ok__law_same {f:Addr}{fd:FuncData}(F:Fun K "_law_same" "_law_same" s__law_same f fd) (mF:mg "_law_same" = some (.ref f)) (bF:Binds K fd ["_law_told", "_law_due"] []) (T:Bl mg) {kk jj:Nat}(C__law_same:Cal P w K mg base "_law_same" ["_law_told", "_law_due"] kk (spr__law_same K jj)):Cal P w K mg base "_law_same" ["_law_told", "_law_due"] (kk+1) (spr__law_same K (jj+1)):=by
 refine Cal.of F mF bF sc__law_same (fun vs H Q E h=>?_) (fun cdv A outer s H vs Q E hr h=>?_)
 ·obtain⟨v,u,d,f,g,rfl,_⟩:=h;rfl
 obtain⟨v,u,d,f,g,rfl,tv,tu,q⟩:=h
 have hu:=hr.units
 refine⟨_,(pss_cons (ps_if (pt_val (pe_callB call_isinstT rfl T.isinstance bt_isinstance (pa_cons (pv 1) (pa_cons (pe_tup (pa_cons (pe_bltn (v:=.ty "list") rfl T.list bt_list rfl) (pa_cons (pe_bltn (v:=.ty "tuple") rfl T.tuple bt_tuple rfl) pa_nil stx_Name) stx_Name)) pa_nil stx_Tuple) stx_Name))) (pss_cons (ps_if (PW.pt (pw_or (pt_cmpR op_ne (pe_callB call_isinst rfl T.isinstance bt_isinstance (pa_cons (pv 0) (pa_cons (pe_bltn (v:=.ty "list") rfl T.list bt_list rfl) pa_nil stx_Name) stx_Name)) (pe_callB call_isinst rfl T.isinstance bt_isinstance (pa_cons (pv 1) (pa_cons (pe_bltn (v:=.ty "list") rfl T.list bt_list rfl) pa_nil stx_Name) stx_Name)) (nomark _)) (pw_or1 (pt_cmpR op_ne (pe_callB call_isinst rfl T.isinstance bt_isinstance (pa_cons (pv 0) (pa_cons (pe_bltn (v:=.ty "tuple") rfl T.tuple bt_tuple rfl) pa_nil stx_Name) stx_Name)) (pe_callB call_isinst rfl T.isinstance bt_isinstance (pa_cons (pv 1) (pa_cons (pe_bltn (v:=.ty "tuple") rfl T.tuple bt_tuple rfl) pa_nil stx_Name) stx_Name)) (nomark _))))) (pss_one (ps_ret pe_bl)) pss_nil)
   (pss_one (ps_ret (pe_and (pe_cmpR op_eq (pe_callB call_lenL rfl T.len bt_len (pa_cons (pv 0) pa_nil stx_Name)) (pe_callB call_lenL rfl T.len bt_len (pa_cons (pv 1) pa_nil stx_Name)) (nomark _)) (pe_one (pe_callB (call_allL rfl) rfl T.all bt_all (pa_cons (pe_comp rfl (blkOk (sc:=defScope s__law_same) (N:=["_law_told", "_law_due"]) (vs:=["_law_one", "_law_other"]) (fs:=[]) (js:=[]) (by decide +kernel) rfl rfl) (pi_zip2 rfl T.zip (pa_cons (pv 0) (pa_cons (pv 1) pa_nil stx_Name) stx_Name)) (fun _ _ _ _=>pg_tupK (K:=K) (n:=2) rfl rfl (pgs_cons (pg_name (i:=0) (show(["_law_one", "_law_other"]:List Str).Nodup by decide +kernel) rfl (Or.inl rfl)) (pgs_cons (pg_name (i:=1) (show(["_law_one", "_law_other"]:List Str).Nodup by decide +kernel) rfl (Or.inl rfl)) pgs_nil))) (fun _ _ _ _=>pif0) (fun _ _ _ _=>(pcl C__law_same hr (pa_cons (pv 0) (pa_cons (pv 1) pa_nil stx_Name) stx_Name)))) pa_nil stx_ListComp))))))) pss_nil)
   (pss_one (ps_ret (pe_and (pe_cmpR op_eq (pe_callB call_isinst rfl T.isinstance bt_isinstance (pa_cons (pv 0) (pa_cons (pe_bltn (v:=.ty "bool") rfl T.bool bt_bool rfl) pa_nil stx_Name) stx_Name)) (pe_callB call_isinst rfl T.isinstance bt_isinstance (pa_cons (pv 1) (pa_cons (pe_bltn (v:=.ty "bool") rfl T.bool bt_bool rfl) pa_nil stx_Name) stx_Name)) (nomark _)) (pe_one (pe_cmpR (op_eqD hu) (pv 0) (pv 1) (nomark _))))))),?_⟩
 rw[st__law_same]
 rcases tv.ways with⟨lv,e⟩|⟨j,t,xs,ds,fs,rfl,rfl,rfl,rfl,h1,h2,h3⟩|⟨j,l,xs,ds,fs,rfl,rfl,rfl,rfl,h1,h2,h3⟩
 ·obtain⟨⟨t,ty,k1,k2,k3,k4⟩,dv,sh,rf⟩:=TD.leafT (K:=K) lv
  have lu:TLf u d:=by
   rcases lv with⟨i,rfl,rfl⟩|⟨z,rfl,rfl,hz⟩
   ·rw[(TD.asI tu).1];exact .inl ⟨i,rfl,rfl⟩
   ·rw[(TD.asS tu).1];exact .inr ⟨z,rfl,rfl,hz⟩
  obtain⟨⟨t',ty',k1',k2',k3',k4'⟩,du,_⟩:=TD.leafT (K:=K) lu
  walk_at"rd"
  refine⟨(by show 2≤sizeLine;decide),fun tp ntp=>?_⟩
  generalize hE:upd H tp _=H1
  obtain⟨htp,s1⟩:=newo ntp hE
  clear hE
  walk_at"rd"
  refine rd_isiT htp (ty' _) k3' ?_
  walk_at"rd"
  refine rd_isi (ty _) k4 ?_
  walk_at"rd"
  refine rd_isi (ty' _) k4' ?_
  walk_at"rd"
  refine rd_if (fun _=>?_) (fun c=>absurd rfl c)
  walk_at"rd"
  refine⟨_,_,dv _,du _,sh,sh,?_⟩
  rw[rf]
  exact q H1 s1
 ·obtain⟨t',xs',fs',rfl,rfl,h1',h2',h3'⟩:=TD.asT tu
  have xl:=h3.l1
  have xl':=h3'.l1
  walk_at"rd"
  refine⟨(by show 2≤sizeLine;decide),fun tp ntp=>?_⟩
  generalize hE:upd H tp _=H1
  obtain⟨htp,s1⟩:=newo ntp hE
  clear hE
  walk_at"rd"
  refine rd_isiT htp (.tup (s1 _ _ h1')) (b:=true) rfl ?_
  walk_at"rd"
  refine rd_isi (.tup (s1 _ _ h1)) (b:=false) rfl ?_
  walk_at"rd"
  refine rd_isi (.tup (s1 _ _ h1')) (b:=false) rfl ?_
  walk_at"rd"
  refine rd_ifn (fun c=>absurd rfl c) (fun _=>?_)
  walk_at"rd"
  refine rd_isi (.tup (s1 _ _ h1)) (b:=true) rfl ?_
  walk_at"rd"
  refine rd_isi (.tup (s1 _ _ h1')) (b:=true) rfl ?_
  walk_at"rd"
  refine rd_ifn (fun c=>absurd rfl c) (fun _=>?_)
  walk_at"rd"
  refine⟨t,_,rfl,.inr (SqT.of (s1 _ _ h1)),?_⟩
  walk_at"rd"
  refine⟨t',_,rfl,.inr (SqT.of (s1 _ _ h1')),?_⟩
  walk_at"rd"
  rw[decide_eq_true (show((xs.length:Nat):Int) =((xs'.length:Nat):Int) by omega)]
  walk_at"rd"
  refine⟨t,t',rfl,.inr ⟨⟨_,SqT.of (s1 _ _ h1)⟩,⟨_,SqT.of (s1 _ _ h1')⟩,fun D nD=>?_⟩⟩
  refine comp_zipT (xs:=xs) (zs:=xs') (fun i σ' ys H'=>(∃x y,σ'=[x,y])∧Same H1 H'∧ys=List.replicate i (V.bl true)∧H' D=some (.lst ys)) D (by omega) ⟨⟨_,_,rfl⟩,same_new nD _,rfl,upd_same⟩ (fun i σ' ys H' _ h=>⟨SqT.of (h.2.1 _ _ (s1 _ _ h1)),SqT.of (h.2.1 _ _ (s1 _ _ h1'))⟩) ?_ ?_
  ·rintro i x z σ' ys H2 tz hx hz ⟨⟨x1,y1,rfl⟩,s2,rfl,hD⟩ ntz
   obtain⟨d,f,hd,hf,r⟩:=h3.get hx
   obtain⟨d',f',hd',hf',r'⟩:=h3'.get hz
   rw[hd]at hd';cases hd'
   have il:=(List.getElem?_eq_some_iff.mp hx).1
   generalize hE:upd H2 tz _=H3
   obtain⟨htz,s3⟩:=newo ntz hE
   clear hE
   have s13:=s1.trans (s2.trans s3)
   refine⟨tz,_,rfl,SqT.of htz,rfl,_,_,rfl,_,_,rfl,rfl,?_⟩
   walk_at"rd"
   refine⟨x,z,d,f,f',rfl,r.same s13,r'.same s13,fun H4 s4=>?_⟩
   refine⟨s4 _ _ (s3 _ _ hD),by rw[List.length_replicate];exact small1000 (by omega),⟨_,_,rfl⟩,fun b o e=>by rw[upd_ne (ne_of_none e nD)];exact s4 _ _ (s3 _ _ (s2 _ _ e)),by rw[List.replicate_succ'],upd_same⟩
  ·rintro σ' ys H2 ⟨⟨x1,y1,rfl⟩,s2,rfl,hD⟩
   walk_at"rd"
   refine rd_allL (bs:=List.replicate xs.length true) (by rw[List.map_replicate];exact SqL.of hD) ?_
   rw[show(List.replicate xs.length true).all id=true by rw[List.all_replicate];simp]
   exact q H2 (s1.trans s2)
 ·obtain⟨t',xs',fs',rfl,rfl,h1',h2',h3'⟩:=TD.asL tu
  have xl:=h3.l1
  have xl':=h3'.l1
  walk_at"rd"
  refine⟨(by show 2≤sizeLine;decide),fun tp ntp=>?_⟩
  generalize hE:upd H tp _=H1
  obtain⟨htp,s1⟩:=newo ntp hE
  clear hE
  walk_at"rd"
  refine rd_isiT htp (.lst (s1 _ _ h1')) (b:=true) rfl ?_
  walk_at"rd"
  refine rd_isi (.lst (s1 _ _ h1)) (b:=true) rfl ?_
  walk_at"rd"
  refine rd_isi (.lst (s1 _ _ h1')) (b:=true) rfl ?_
  walk_at"rd"
  refine rd_ifn (fun c=>absurd rfl c) (fun _=>?_)
  walk_at"rd"
  refine rd_isi (.lst (s1 _ _ h1)) (b:=false) rfl ?_
  walk_at"rd"
  refine rd_isi (.lst (s1 _ _ h1')) (b:=false) rfl ?_
  walk_at"rd"
  refine rd_ifn (fun c=>absurd rfl c) (fun _=>?_)
  walk_at"rd"
  refine⟨l,_,rfl,.inl (SqL.of (s1 _ _ h1)),?_⟩
  walk_at"rd"
  refine⟨t',_,rfl,.inl (SqL.of (s1 _ _ h1')),?_⟩
  walk_at"rd"
  rw[decide_eq_true (show((xs.length:Nat):Int) =((xs'.length:Nat):Int) by omega)]
  walk_at"rd"
  refine⟨l,t',rfl,.inl ⟨⟨_,SqL.of (s1 _ _ h1)⟩,⟨_,SqL.of (s1 _ _ h1')⟩,fun D nD=>?_⟩⟩
  refine comp_zip (xs:=xs) (zs:=xs') (fun i σ' ys H'=>(∃x y,σ'=[x,y])∧Same H1 H'∧ys=List.replicate i (V.bl true)∧H' D=some (.lst ys)) D (by omega) ⟨⟨_,_,rfl⟩,same_new nD _,rfl,upd_same⟩ (fun i σ' ys H' _ h=>⟨SqL.of (h.2.1 _ _ (s1 _ _ h1)),SqL.of (h.2.1 _ _ (s1 _ _ h1'))⟩) ?_ ?_
  ·rintro i x z σ' ys H2 tz hx hz ⟨⟨x1,y1,rfl⟩,s2,rfl,hD⟩ ntz
   obtain⟨d,f,hd,hf,r⟩:=h3.get hx
   obtain⟨d',f',hd',hf',r'⟩:=h3'.get hz
   rw[hd]at hd';cases hd'
   have il:=(List.getElem?_eq_some_iff.mp hx).1
   generalize hE:upd H2 tz _=H3
   obtain⟨htz,s3⟩:=newo ntz hE
   clear hE
   have s13:=s1.trans (s2.trans s3)
   refine⟨tz,_,rfl,SqT.of htz,rfl,_,_,rfl,_,_,rfl,rfl,?_⟩
   walk_at"rd"
   refine⟨x,z,d,f,f',rfl,r.same s13,r'.same s13,fun H4 s4=>?_⟩
   refine⟨s4 _ _ (s3 _ _ hD),by rw[List.length_replicate];exact small1000 (by omega),⟨_,_,rfl⟩,fun b o e=>by rw[upd_ne (ne_of_none e nD)];exact s4 _ _ (s3 _ _ (s2 _ _ e)),by rw[List.replicate_succ'],upd_same⟩
  ·rintro σ' ys H2 ⟨⟨x1,y1,rfl⟩,s2,rfl,hD⟩
   walk_at"rd"
   refine rd_allL (bs:=List.replicate xs.length true) (by rw[List.map_replicate];exact SqL.of hD) ?_
   rw[show(List.replicate xs.length true).all id=true by rw[List.all_replicate];simp]
   exact q H2 (s1.trans s2)
theorem ok__law_copy {f:Addr}{fd:FuncData}(F:Fun K "_law_copy" "_law_copy" s__law_copy f fd) (mF:mg "_law_copy" = some (.ref f)) (bF:Binds K fd ["_law_told"] []) (T:Bl mg) {kk jj:Nat}(C__law_copy:Cal P w K mg base "_law_copy" ["_law_told"] kk (spr__law_copy K jj)):Cal P w K mg base "_law_copy" ["_law_told"] (kk+1) (spr__law_copy K (jj+1)):=by
 refine Cal.of F mF bF sc__law_copy (fun vs H Q E h=>?_) (fun cdv A outer s H vs Q E hr h=>?_)
 ·obtain⟨v,d,fp,rfl,_⟩:=h;rfl
 obtain⟨v,d,fp,rfl,td,q⟩:=h
 refine⟨_,(pss_cons (ps_if (pt_val (pe_callB call_isinst rfl T.isinstance bt_isinstance (pa_cons (pv 0) (pa_cons (pe_bltn (v:=.ty "list") rfl T.list bt_list rfl) pa_nil stx_Name) stx_Name))) (pss_one (ps_ret (pe_comp rfl (blkOk (sc:=defScope s__law_copy) (N:=["_law_told"]) (vs:=["_law_one"]) (fs:=[]) (js:=[]) (by decide +kernel) rfl rfl) (pi_seq (pv 0)) (fun _ _ _ _=>pg_name (i:=0) (show(["_law_one"]:List Str).Nodup by decide +kernel) rfl (Or.inl rfl)) (fun _ _ _ _=>pif0) (fun _ _ _ _=>(pcl C__law_copy hr (pa_cons (pv 0) pa_nil stx_Name)))))) pss_nil)
   (pss_cons (ps_if (pt_val (pe_callB call_isinst rfl T.isinstance bt_isinstance (pa_cons (pv 0) (pa_cons (pe_bltn (v:=.ty "tuple") rfl T.tuple bt_tuple rfl) pa_nil stx_Name) stx_Name))) (pss_one (ps_ret (pe_callTy call_tuple_of rfl T.tuple bt_tuple (pa_cons (pe_comp rfl (blkOk (sc:=defScope s__law_copy) (N:=["_law_told"]) (vs:=["_law_one"]) (fs:=[]) (js:=[]) (by decide +kernel) rfl rfl) (pi_seq (pv 0)) (fun _ _ _ _=>pg_name (i:=0) (show(["_law_one"]:List Str).Nodup by decide +kernel) rfl (Or.inl rfl)) (fun _ _ _ _=>pif0) (fun _ _ _ _=>(pcl C__law_copy hr (pa_cons (pv 0) pa_nil stx_Name)))) pa_nil stx_ListComp)))) pss_nil)
   (pss_one (ps_ret (pv 0))))),?_⟩
 rw[st__law_copy]
 rcases td.ways with⟨lf,e⟩|⟨j,t,xs,ds,fs,rfl,rfl,rfl,rfl,h1,h2,h3⟩|⟨j,l,xs,ds,fs,rfl,rfl,rfl,rfl,h1,h2,h3⟩
 ·subst e
  obtain⟨⟨t,ty,k1,k2,_⟩,_⟩:=TD.leafT (K:=K) lf
  walk_at"rd"
  refine rd_isi (ty _) k1 ?_
  walk_at"rd"
  refine rd_isi (ty _) k2 ?_
  walk_at"rd"
  exact q v [] H td List.nodup_nil (fun _ h=>by cases h) (fun _ _ e=>e)
 ·clear td
  ·skip
   have xl:=h3.l1
   walk_at"rd"
   refine rd_isi (.tup h1) (b:=false) rfl ?_
   walk_at"rd"
   refine rd_isi (.tup h1) (b:=true) rfl ?_
   walk_at"rd"
   refine⟨t,rfl,.inr ⟨⟨_,SqT.of h1⟩,fun D nD=>?_⟩⟩
   refine comp_tup (xs:=xs) (fun i σ' ys H'=>(∃x,σ'=[x])∧Same H H'∧ys.length=i∧∃gs,Gw H D j ys (ds.take i) gs H') D ⟨⟨_,rfl⟩,same_new nD _,rfl,[],Gw.nil upd_same⟩ (fun i σ' ys H' _ h=>SqT.of (h.2.1 _ _ h1)) ?_ ?_
   ·rintro i x σ' ys H1 hx ⟨⟨x1,rfl⟩,s1,yl,gs,g⟩
    obtain⟨d,f,hd,hf,r⟩:=h3.get hx
    have il:=(List.getElem?_eq_some_iff.mp hx).1
    walk_at"rd"
    refine⟨x,d,f,rfl,r.same s1,fun v' f' H2 td' nf fr s2=>?_⟩
    refine⟨s2 _ _ g.lat,small1000 (by omega),⟨_,rfl⟩,fun b o e=>by rw[upd_ne (ne_of_none e nD)];exact s2 _ _ (s1 _ _ e),by rw[List.length_append,yl];rfl,gs ++ [f'],?_⟩
    rw[take_get hd]
    exact g.push (fun b o e _=>s2 _ _ e) td' nf fr fun b hb=>s1.free (fr b hb)
   ·rintro σ' ys H1 ⟨⟨x1,rfl⟩,s1,yl,gs,g⟩
    rw[xl,List.take_length]at g
    walk_at"rd"
    refine⟨D,ys,rfl,.inl ⟨SqL.of g.lat,fun t' nt=>?_⟩⟩
    generalize hE:upd H1 t' _=H2
    obtain⟨ht',s2⟩:=newo nt hE
    clear hE
    have g2:=g.same s2
    walk_at"rd"
    exact q (.ref t') gs.flatten H2 (.inr (.inl ⟨t',ys,ds,gs,rfl,rfl,rfl,ht',by omega,g2.tl⟩)) g.nd g.fr (s1.trans s2)
 ·clear td
  ·skip
   have xl:=h3.l1
   walk_at"rd"
   refine rd_isi (.lst h1) (b:=true) rfl ?_
   walk_at"rd"
   refine⟨l,rfl,.inl ⟨⟨_,SqL.of h1⟩,fun D nD=>?_⟩⟩
   refine comp_list (xs:=xs) (fun i σ' ys H'=>(∃x,σ'=[x])∧Same H H'∧ys.length=i∧∃gs,Gw H D j ys (ds.take i) gs H') D ⟨⟨_,rfl⟩,same_new nD _,rfl,[],Gw.nil upd_same⟩ (fun i σ' ys H' _ h=>SqL.of (h.2.1 _ _ h1)) ?_ ?_
   ·rintro i x σ' ys H1 hx ⟨⟨x1,rfl⟩,s1,yl,gs,g⟩
    obtain⟨d,f,hd,hf,r⟩:=h3.get hx
    have il:=(List.getElem?_eq_some_iff.mp hx).1
    walk_at"rd"
    refine⟨x,d,f,rfl,r.same s1,fun v' f' H2 td' nf fr s2=>?_⟩
    refine⟨s2 _ _ g.lat,small1000 (by omega),⟨_,rfl⟩,fun b o e=>by rw[upd_ne (ne_of_none e nD)];exact s2 _ _ (s1 _ _ e),by rw[List.length_append,yl];rfl,gs ++ [f'],?_⟩
    rw[take_get hd]
    exact g.push (fun b o e _=>s2 _ _ e) td' nf fr fun b hb=>s1.free (fr b hb)
   ·rintro σ' ys H1 ⟨⟨x1,rfl⟩,s1,yl,gs,g⟩
    rw[xl,List.take_length]at g
    walk_at"rd"
    obtain⟨td',nd'⟩:=g.done (by omega)
    refine q (.ref D) _ H1 td' nd' (fun b hb=>?_) s1
    rcases List.mem_cons.mp hb with rfl|hb
    ·exact nD
    ·exact g.fr b hb
theorem ok__law_spoil {f:Addr}{fd:FuncData}(F:Fun K "_law_spoil" "_law_spoil" s__law_spoil f fd) (mF:mg "_law_spoil" = some (.ref f)) (bF:Binds K fd ["_law_told"] []) (T:Bl mg) {kk jj:Nat}(C__law_spoil:Cal P w K mg base "_law_spoil" ["_law_told"] kk (spr__law_spoil K jj)):Cal P w K mg base "_law_spoil" ["_law_told"] (kk+1) (spr__law_spoil K (jj+1)):=by
 refine Cal.of F mF bF sc__law_spoil (fun vs H Q E h=>?_) (fun cdv A outer s H vs Q E hr h=>?_)
 ·obtain⟨v,d,fp,rfl,_⟩:=h;rfl
 obtain⟨v,d,fp,rfl,td,nd,q⟩:=h
 refine⟨_,(pss_cons (ps_cut (ps_if (pt_val (pe_callB call_isinstT rfl T.isinstance bt_isinstance (pa_cons (pv 0) (pa_cons (pe_tup (pa_cons (pe_bltn (v:=.ty "list") rfl T.list bt_list rfl) (pa_cons (pe_bltn (v:=.ty "tuple") rfl T.tuple bt_tuple rfl) pa_nil stx_Name) stx_Name)) pa_nil stx_Tuple) stx_Name))) (pss_one (ps_for PassesOwn.never rfl (pi_seq (pv 0)) (pg_name (i:=1) sc__law_spoil.nd rfl (Or.inl rfl)) (pss_one (ps_expr (pcl C__law_spoil hr (pa_cons (pv 1) pa_nil stx_Name)))))) pss_nil))
   (pss_one (ps_if (pt_val (pe_callB call_isinst rfl T.isinstance bt_isinstance (pa_cons (pv 0) (pa_cons (pe_bltn (v:=.ty "list") rfl T.list bt_list rfl) pa_nil stx_Name) stx_Name))) (pss_one (ps_expr (pe_bm PySem.F.plainAttrs_list PySem.F.slot_list_append PySem.F.type_list_append mt_append (pv 0) (pa_cons pe_int pa_nil stx_Constant)))) pss_nil))),?_⟩
 rw[st__law_spoil]
 rcases td.ways with⟨lf,e⟩|⟨j,t,xs,ds,fs,rfl,rfl,rfl,rfl,h1,h2,h3⟩|⟨j,l,xs,ds,fs,rfl,rfl,rfl,rfl,h1,h2,h3⟩
 ·subst e
  obtain⟨⟨t,ty,k1,k2,k3,_⟩,_⟩:=TD.leafT (K:=K) lf
  walk_at"rd"
  refine⟨fun σ H'=>(∃x,σ=[some v,x])∧Same H H',?_,?_⟩
  ·walk_at"rd"
   refine⟨(by show 2≤sizeLine;decide),fun tp ntp=>?_⟩
   generalize hE:upd H tp _=H1
   obtain⟨htp,s1⟩:=newo ntp hE
   clear hE
   walk_at"rd"
   refine rd_isiT htp (ty _) k3 ?_
   walk_at"rd"
   exact⟨⟨_,rfl⟩,s1⟩
  ·rintro σ H1 ⟨⟨x,rfl⟩,s1⟩
   walk_at"rd"
   refine rd_isi (ty _) k1 ?_
   walk_at"rd"
   exact q H1 fun b o _ e=>s1 _ _ e
 ·walk_at"rd"
  have tl:∀i,∀b∈(fs.take i).flatten,b∈fs.flatten:=fun i b hb=>by
   obtain⟨f,hf,hb⟩:=List.mem_flatten.mp hb
   exact List.mem_flatten.mpr ⟨f,List.mem_of_mem_take hf,hb⟩
  have tnot:t∉fs.flatten:=fun h=>by
   obtain⟨ys,e⟩:=h3.is t h
   rw[h1]at e;cases e
  refine⟨fun σ H'=>(∃x,σ=[some (.ref t),x])∧∀b o,b∉fs.flatten→H b=some o→H' b=some o,?_,?_⟩
  ·walk_at"rd"
   refine⟨(by show 2≤sizeLine;decide),fun tp ntp=>?_⟩
   generalize hE:upd H tp _=H1
   obtain⟨htp,s1⟩:=newo ntp hE
   clear hE
   walk_at"rd"
   refine rd_isiT htp (.tup (s1 _ _ h1)) (b:=true) rfl ?_
   walk_at"rd"
   refine⟨t,rfl,.inr ⟨⟨_,SqT.of (s1 _ _ h1)⟩,?_⟩⟩
   refine for_tup (xs:=xs) (fun i σ H'=>(∃x,σ=[some (.ref t),x])∧∀b o,b∉(fs.take i).flatten→H1 b=some o→H' b=some o) ⟨⟨_,rfl⟩,fun _ _ _ e=>e⟩ (fun i σ H' _ h=>SqT.of (h.2 _ _ (fun z=>tnot (tl _ _ z)) (s1 _ _ h1))) ?_ ?_
   ·rintro i x σ H2 hx ⟨⟨x1,rfl⟩,k2⟩
    obtain⟨d,f,hd,hf,r⟩:=h3.get hx
    obtain⟨a1,a2,a3⟩:=flat_apart nd hf
    walk_at"rd"
    refine⟨x,d,f,rfl,TD.keep r fun b o e z=>k2 b o ?_ (s1 _ _ e),a2,fun H3 k3=>?_⟩
    ·rcases z with z|⟨ys,rfl⟩
     ·exact a1 b z
     ·intro hb
      obtain⟨zs,ez⟩:=h3.is b (tl _ _ hb)
      rw[e]at ez;cases ez
    ·walk_at"rd"
     refine⟨⟨_,rfl⟩,fun b o nb e=>?_⟩
     rw[a3,List.mem_append,not_or]at nb
     exact k3 b o nb.2 (k2 b o nb.1 e)
   ·rintro σ H2 ⟨⟨x1,rfl⟩,k2⟩
    refine⟨⟨_,rfl⟩,fun b o nb e=>k2 b o (fun z=>nb (tl _ _ z)) (s1 _ _ e)⟩
  ·rintro σ H1 ⟨⟨x,rfl⟩,k1⟩
   walk_at"rd"
   refine rd_isi (.tup (k1 _ _ tnot h1)) (b:=false) rfl ?_
   walk_at"rd"
   exact q H1 k1
 ·walk_at"rd"
  obtain⟨lnot,nd⟩:=List.nodup_cons.mp nd
  have tl:∀i,∀b∈(fs.take i).flatten,b∈fs.flatten:=fun i b hb=>by
   obtain⟨f,hf,hb⟩:=List.mem_flatten.mp hb
   exact List.mem_flatten.mpr ⟨f,List.mem_of_mem_take hf,hb⟩
  refine⟨fun σ H'=>(∃x,σ=[some (.ref l),x])∧∀b o,b∉fs.flatten→H b=some o→H' b=some o,?_,?_⟩
  ·walk_at"rd"
   refine⟨(by show 2≤sizeLine;decide),fun tp ntp=>?_⟩
   generalize hE:upd H tp _=H1
   obtain⟨htp,s1⟩:=newo ntp hE
   clear hE
   walk_at"rd"
   refine rd_isiT htp (.lst (s1 _ _ h1)) (b:=true) rfl ?_
   walk_at"rd"
   refine⟨l,rfl,.inl ⟨⟨_,SqL.of (s1 _ _ h1)⟩,?_⟩⟩
   refine for_listO (xs:=xs) (fun i σ H'=>(∃x,σ=[some (.ref l),x])∧∀b o,b∉(fs.take i).flatten→H1 b=some o→H' b=some o) ⟨⟨_,rfl⟩,fun _ _ _ e=>e⟩ (fun i σ H' _ h=>SqL.of (h.2 _ _ (fun z=>lnot (tl _ _ z)) (s1 _ _ h1))) ?_ ?_
   ·rintro i x σ H2 hx ⟨⟨x1,rfl⟩,k2⟩
    obtain⟨d,f,hd,hf,r⟩:=h3.get hx
    obtain⟨a1,a2,a3⟩:=flat_apart nd hf
    walk_at"rd"
    refine⟨x,d,f,rfl,TD.keep r fun b o e z=>k2 b o ?_ (s1 _ _ e),a2,fun H3 k3=>?_⟩
    ·rcases z with z|⟨ys,rfl⟩
     ·exact a1 b z
     ·intro hb
      obtain⟨zs,ez⟩:=h3.is b (tl _ _ hb)
      rw[e]at ez;cases ez
    ·walk_at"rd"
     refine⟨⟨_,rfl⟩,fun b o nb e=>?_⟩
     rw[a3,List.mem_append,not_or]at nb
     exact k3 b o nb.2 (k2 b o nb.1 e)
   ·rintro σ H2 ⟨⟨x1,rfl⟩,k2⟩
    walk_at"rd"
    refine⟨⟨_,rfl⟩,fun b o nb e=>k2 b o (fun z=>nb (tl _ _ z)) (s1 _ _ e)⟩
  ·rintro σ H1 ⟨⟨x,rfl⟩,k1⟩
   have hl:=k1 _ _ lnot h1
   walk_at"rd"
   refine rd_isi (.lst hl) (b:=true) rfl ?_
   walk_at"rd"
   refine⟨.inl ⟨rfl,_,SqL.of hl⟩,?_⟩
   walk_at"rd"
   refine⟨l,_,_,rfl,rfl,hl,small1000 (by omega),?_⟩
   walk_at"rd"
   refine q _ fun b o nb e=>?_
   rw[List.mem_cons,not_or]at nb
   rw[upd_ne nb.1]
   exact k1 b o nb.2 e
theorem ok__law_asked {f:Addr}{fd:FuncData}(F:Fun K "_law_asked" "_law_asked" s__law_asked f fd) (mF:mg "_law_asked" = some (.ref f)) (bF:Binds K fd ["_law_way", "_law_thing_here", "_law_text"] []) (T:Bl mg) (C_show_yard:Cal P w K mg base "show_yard" ["yard"] 3 (sp_show_yard K)) (C_read_yard:Cal P w K mg base "read_yard" ["text"] 6 (sp_read_yard K)) (C_show_rows:Cal P w K mg base "show_rows" ["rows"] 2 (sp_show_rows K)) (C_read_rows:Cal P w K mg base "read_rows" ["text"] 5 (sp_read_rows K)) (C_show_step:Cal P w K mg base "show_step" ["step"] 2 (sp_show_step K)) (C_read_step:Cal P w K mg base "read_step" ["text"] 5 (sp_read_step K)):Cal P w K mg base "_law_asked" ["_law_way", "_law_thing_here", "_law_text"] 7 (sp__law_asked K):=by
 refine Cal.of F mF bF sc__law_asked (fun vs H Q E h=>?_) (fun cdv A outer s H vs Q E hr h=>?_)
 ·obtain⟨way,v,d,fp,text,rfl,_⟩:=h;rfl
 obtain⟨way,v,d,fp,text,rfl,td,wd,q⟩:=h
 refine⟨_,(pss_cons (ps_if (pt_cmpR op_eq (pv 0) pe_int (nomark _)) (pss_one (ps_ret (pe_tup (pa_cons (pcl C_show_rows (hr.mono (by decide)) (pa_cons (pv 1) pa_nil stx_Name)) (pa_cons (pcl C_read_rows (hr.mono (by decide)) (pa_cons (pv 2) pa_nil stx_Name)) pa_nil stx_Call) stx_Call)))) pss_nil)
   (pss_cons (ps_if (pt_cmpR op_eq (pv 0) pe_int (nomark _)) (pss_one (ps_ret (pe_tup (pa_cons (pcl C_show_step (hr.mono (by decide)) (pa_cons (pv 1) pa_nil stx_Name)) (pa_cons (pcl C_read_step (hr.mono (by decide)) (pa_cons (pv 2) pa_nil stx_Name)) pa_nil stx_Call) stx_Call)))) pss_nil)
   (pss_one (ps_ret (pe_tup (pa_cons (pcl C_show_yard (hr.mono (by decide)) (pa_cons (pv 1) pa_nil stx_Name)) (pa_cons (pcl C_read_yard (hr.mono (by decide)) (pa_cons (pv 2) pa_nil stx_Name)) pa_nil stx_Call) stx_Call)))))),?_⟩
 rw[st__law_asked]
 rcases wd with⟨rfl,rs,ok,rfl,rfl⟩|⟨rfl,st,ok,rfl,rfl⟩|⟨rfl,w,r,hs,ok,rfl,rfl⟩
 ·walk_at"rd"
  refine rd_tx ‹_› ?_
  walk_at"rd"
  refine⟨v,rs,fp,rfl,TD.to td (dep_rows rs),ok,fun H1 s1=>?_⟩
  walk_at"rd"
  refine⟨rs,rfl,ok,fun v' f' H2 td' nf fr s2=>?_⟩
  walk_at"rd"
  refine⟨(by show 2≤sizeLine;decide),fun t nt=>?_⟩
  generalize hE:upd H2 t _=H3
  obtain⟨ht,s3⟩:=newo nt hE
  clear hE
  walk_at"rd"
  exact q t v' f' H3 ht (TD.to (td'.same s3) (Nat.le_trans (dep_rows rs) (by decide))) nf (fun b hb=>s1.free (fr b hb)) (s1.trans (s2.trans s3))
 ·walk_at"rd"
  refine rd_tx ‹_› ?_
  walk_at"rd"
  refine rd_tx ‹_› ?_
  walk_at"rd"
  refine⟨v,st,fp,rfl,TD.to td (dep_step st),ok,fun H1 s1=>?_⟩
  walk_at"rd"
  refine⟨st,rfl,ok,fun v' f' H2 td' nf fr s2=>?_⟩
  walk_at"rd"
  refine⟨(by show 2≤sizeLine;decide),fun t nt=>?_⟩
  generalize hE:upd H2 t _=H3
  obtain⟨ht,s3⟩:=newo nt hE
  clear hE
  walk_at"rd"
  exact q t v' f' H3 ht (TD.to (td'.same s3) (Nat.le_trans (dep_step st) (by decide))) nf (fun b hb=>s1.free (fr b hb)) (s1.trans (s2.trans s3))
 ·walk_at"rd"
  refine rd_tx ‹_› ?_
  walk_at"rd"
  refine rd_tx ‹_› ?_
  walk_at"rd"
  refine⟨v,w,r,hs,fp,rfl,td,ok,fun H1 s1=>?_⟩
  walk_at"rd"
  refine⟨w,r,hs,rfl,ok,fun v' f' H2 td' nf fr s2=>?_⟩
  walk_at"rd"
  refine⟨(by show 2≤sizeLine;decide),fun t nt=>?_⟩
  generalize hE:upd H2 t _=H3
  obtain⟨ht,s3⟩:=newo nt hE
  clear hE
  walk_at"rd"
  exact q t v' f' H3 ht (td'.same s3) nf (fun b hb=>s1.free (fr b hb)) (s1.trans (s2.trans s3))
theorem ok__law_right {f:Addr}{fd:FuncData}(F:Fun K "_law_right" "_law_right" s__law_right f fd) (mF:mg "_law_right" = some (.ref f)) (bF:Binds K fd ["_law_way", "_law_thing_here", "_law_text"] []) (T:Bl mg) (C__law_copy:Cal P w K mg base "_law_copy" ["_law_told"] 7 (sp__law_copy K)) (C__law_asked:Cal P w K mg base "_law_asked" ["_law_way", "_law_thing_here", "_law_text"] 7 (sp__law_asked K)) (C__law_spoil:Cal P w K mg base "_law_spoil" ["_law_told"] 7 (sp__law_spoil K)) (C__law_same:Cal P w K mg base "_law_same" ["_law_told", "_law_due"] 7 (sp__law_same K)):Cal P w K mg base "_law_right" ["_law_way", "_law_thing_here", "_law_text"] 8 (sp__law_right K):=by
 refine Cal.of F mF bF sc__law_right (fun vs H Q E h=>?_) (fun cdv A outer s H vs Q E hr h=>?_)
 ·obtain⟨way,v,d,fp,text,rfl,_⟩:=h;rfl
 obtain⟨way,v,d,fp,text,rfl,td,wd,q⟩:=h
 refine⟨_,(pss_cons (ps_set (i:=3) sc__law_right.nd rfl (Or.inl rfl) (pcl C__law_copy (hr.mono (by decide)) (pa_cons (pv 1) pa_nil stx_Name)))
   (pss_cons (ps_for PassesOwn.never rfl (pi_range1 rfl T.range (pa_cons pe_int pa_nil stx_Constant)) (pg_name (i:=4) sc__law_right.nd rfl (Or.inl rfl)) (pss_cons (ps_asg (pcl C__law_asked (hr.mono (by decide)) (pa_cons (pv 0) (pa_cons (pv 3) (pa_cons (pv 2) pa_nil stx_Name) stx_Name) stx_Name)) (pg_tup rfl (pgs_cons (pg_name (i:=5) sc__law_right.nd rfl (Or.inl rfl)) (pgs_cons (pg_name (i:=6) sc__law_right.nd rfl (Or.inl rfl)) pgs_nil))))
   (pss_cons (ps_if (PW.pt (pw_or (pt_not (pt_val (pe_callB call_isinst rfl T.isinstance bt_isinstance (pa_cons (pv 5) (pa_cons (pe_bltn (v:=.ty "str") rfl T.str bt_str rfl) pa_nil stx_Name) stx_Name)))) (pw_or (pt_cmpR op_ne (pv 5) (pv 2) (nomark _)) (pw_or (pt_not (pt_val (pcl C__law_same (hr.mono (by decide)) (pa_cons (pv 6) (pa_cons (pv 1) pa_nil stx_Name) stx_Name)))) (pw_or1 (pt_not (pt_val (pcl C__law_same (hr.mono (by decide)) (pa_cons (pv 3) (pa_cons (pv 1) pa_nil stx_Name) stx_Name))))))))) (pss_one (ps_ret pe_bl)) pss_nil)
   (pss_one (ps_expr (pcl C__law_spoil (hr.mono (by decide)) (pa_cons (pv 6) pa_nil stx_Name)))))))
   (pss_one (ps_ret pe_bl)))),?_⟩
 rw[st__law_right]
 walk_at"rd"
 refine⟨v,d,fp,rfl,td,fun vh fh H1 th nh frh s1=>?_⟩
 walk_at"rd"
 refine⟨2,rfl,by omega,by omega,?_⟩
 refine for_rangeO (n:=2) (fun i σ H'=>(∃x y z,σ=[some (.int way),some v,some (.str text),some vh,x,y,z])∧Same H1 H') ⟨⟨_,_,_,rfl⟩,fun _ _ e=>e⟩ ?_ ?_
 ·rintro i σ H2 hi ⟨⟨x,y,z,rfl⟩,s2⟩
  walk_at"rd"
  refine⟨way,vh,d,fh,text,rfl,th.same s2,wd,fun t v' f' H3 ht td' nf fr s3=>?_⟩
  walk_at"rd"
  refine⟨t,_,rfl,SqT.of ht,rfl,_,_,rfl,_,_,rfl,rfl,?_⟩
  walk_at"rd"
  refine rd_isi (.str text) (b:=true) rfl ?_
  walk_at"rd"
  refine rd_neZ ?_
  rw[decide_eq_true (show text=text from rfl)]
  walk_at"rd"
  refine⟨v',v,d,f',fp,rfl,td',td.same (s1.trans (s2.trans s3)),fun H4 s4=>?_⟩
  walk_at"rd"
  refine⟨vh,v,d,fh,fp,rfl,th.same (s2.trans (s3.trans s4)),td.same (s1.trans (s2.trans (s3.trans s4))),fun H5 s5=>?_⟩
  walk_at"rd"
  refine⟨v',d,f',rfl,td'.same (s4.trans s5),nf,fun H6 k6=>?_⟩
  walk_at"rd"
  refine⟨⟨_,_,_,rfl⟩,fun b o e=>k6 b o (fun hb=>?_) (s5 _ _ (s4 _ _ (s3 _ _ (s2 _ _ e))))⟩
  have:=fr b hb
  rw[s2 _ _ e]at this;cases this
 ·rintro σ H2 ⟨⟨x,y,z,rfl⟩,s2⟩
  walk_at"rd"
  exact q H2 (s1.trans s2)
theorem ok_law {f:Addr}{fd:FuncData}(F:Fun K "law" "law" s_law f fd) (T:Bl mg) (C__law_open:Cal P w K mg base "_law_open" ["_law_script", "_law_place"] 1 (sp__law_open K)) (C__law_rows:Cal P w K mg base "_law_rows" ["_law_hand", "_law_most"] 5 (sp__law_rows K)) (C__law_right:Cal P w K mg base "_law_right" ["_law_way", "_law_thing_here", "_law_text"] 8 (sp__law_right K)) (C__law_step:Cal P w K mg base "_law_step" ["_law_hand"] 5 (sp__law_step K)) (C__law_yard:Cal P w K mg base "_law_yard" ["_law_hand"] 6 (sp__law_yard K)) (C__law_yard_text:Cal P w K mg base "_law_yard_text" ["_law_yard_here"] 3 (sp__law_yard_text K)) (C__law_draw:Cal P w K mg base "_law_draw" ["_law_hand", "_law_many"] 1 (sp__law_draw K)) (C__law_rows_text:Cal P w K mg base "_law_rows_text" ["_law_rows_here"] 2 (sp__law_rows_text K)) (C__law_step_text:Cal P w K mg base "_law_step_text" ["_law_step_here"] 2 (sp__law_step_text K)):FnOk P w K mg base CX0 9 f fd ["_law_script"] (sp_law K):=by
 refine F.ok sc_law (fun vs H Q E h=>?_) (fun cdv A outer s H vs Q E hr h=>?_)
 ·obtain⟨a,ns,rfl,_⟩:=h;rfl
 obtain⟨a,ms,rfl,hS,hlen,q⟩:=h
 refine⟨_,(pss_cons (ps_for PassesOwn.never rfl (pi_range1 rfl T.range (pa_cons pe_int pa_nil stx_Constant)) (pg_name (i:=1) sc_law.nd rfl (Or.inl rfl)) (pss_cons (ps_set (i:=2) sc_law.nd rfl (Or.inl rfl) (pcl C__law_open (hr.mono (by decide)) (pa_cons (pv 0) (pa_cons (pv 1) pa_nil stx_Name) stx_Name)))
   (pss_cons (ps_set (i:=3) sc_law.nd rfl (Or.inl rfl) (pe_ix ix_list (pe_lst (pa_cons pe_int (pa_cons pe_int pa_nil stx_Constant) stx_Constant)) (pe_callTy call_intB rfl T.int bt_int (pa_cons (pe_cmpR op_eq (pcl C__law_draw (hr.mono (by decide)) (pa_cons (pv 2) (pa_cons pe_int pa_nil stx_Constant) stx_Name)) pe_int (nomark _)) pa_nil stx_Compare)) (fun _ _=>rfl)))
   (pss_cons (ps_par (i:=4) (j:=5) rfl sc_law.nd rfl rfl (by decide) rfl rfl (pa_cons (pcl C__law_step (hr.mono (by decide)) (pa_cons (pv 2) pa_nil stx_Name)) (pa_cons (pcl C__law_yard (hr.mono (by decide)) (pa_cons (pv 2) pa_nil stx_Name)) pa_nil stx_Call) stx_Call) rfl)
   (pss_cons (ps_set (i:=6) sc_law.nd rfl (Or.inl rfl) (pcl C__law_rows (hr.mono (by decide)) (pa_cons (pv 2) (pa_cons (pv 3) pa_nil stx_Name) stx_Name)))
   (pss_cons (ps_if (PW.pt (pw_or (pt_not (pt_val (pcl C__law_right (hr.mono (by decide)) (pa_cons pe_int (pa_cons (pv 6) (pa_cons (pcl C__law_rows_text (hr.mono (by decide)) (pa_cons (pv 6) pa_nil stx_Name)) pa_nil stx_Call) stx_Name) stx_Constant)))) (pw_or1 (pt_not (pt_val (pcl C__law_right (hr.mono (by decide)) (pa_cons pe_int (pa_cons (pv 4) (pa_cons (pcl C__law_step_text (hr.mono (by decide)) (pa_cons (pv 4) pa_nil stx_Name)) pa_nil stx_Call) stx_Name) stx_Constant))))))) (pss_one (ps_ret pe_bl)) pss_nil)
   (pss_one (ps_if (pt_not (pt_val (pcl C__law_right (hr.mono (by decide)) (pa_cons pe_int (pa_cons (pv 5) (pa_cons (pcl C__law_yard_text (hr.mono (by decide)) (pa_cons (pv 5) pa_nil stx_Name)) pa_nil stx_Call) stx_Name) stx_Constant)))) (pss_one (ps_ret pe_bl)) pss_nil))))))))
   (pss_one (ps_ret (pe_and (pcl C__law_right (hr.mono (by decide)) (pa_cons pe_int (pa_cons (pe_lst pa_nil) (pa_cons pe_str pa_nil stx_Constant) stx_List) stx_Constant)) (pe_and (pcl C__law_right (hr.mono (by decide)) (pa_cons pe_int (pa_cons (pe_lst (pa_cons (pe_lst pa_nil) pa_nil stx_List)) (pa_cons pe_str pa_nil stx_Constant) stx_List) stx_Constant)) (pe_one (pcl C__law_right (hr.mono (by decide)) (pa_cons pe_int (pa_cons (pe_tup (pa_cons pe_int (pa_cons pe_int (pa_cons (pe_lst pa_nil) pa_nil stx_List) stx_Constant) stx_Constant)) (pa_cons pe_str pa_nil stx_Constant) stx_Tuple) stx_Constant)))))))),?_⟩
 rw[st_law]
 walk_at"rd"
 refine⟨6,rfl,by omega,by omega,?_⟩
 refine for_rangeO (n:=6) (fun i σ H'=>(∃x1 x2 x3 x4 x5 x6,σ=[some (.ref a),x1,x2,x3,x4,x5,x6])∧Same H H') ⟨⟨_,_,_,_,_,_,rfl⟩,fun _ _ e=>e⟩ ?_ ?_
 ·rintro i σ H0 hi ⟨⟨x1,x2,x3,x4,x5,x6,rfl⟩,s0⟩
  walk_at"rd"
  refine⟨a,ms,_,rfl,s0.seq hS,hlen,by omega,by omega,fun p H1 np s1 hh1=>?_⟩
  walk_at"rd"
  refine⟨(by show 2≤sizeLine;decide),fun q1 nq1=>?_⟩
  generalize hE:upd H1 q1 _=H2
  obtain⟨hq1,s2⟩:=newo nq1 hE
  clear hE
  have q1p:q1≠p:=hh1.ne nq1
  walk_at"rd"
  refine⟨p,_,8,rfl,hh1.same s2,by decide,by decide,by decide,fun o8 H3 o0 o1 hh3 k3=>?_⟩
  have s03:Same H0 H3:=Kp.new (s1.trans s2) np k3
  walk_at"rd"
  refine rd_ixL (SqL.of (k3.1 _ _ hq1 q1p)) pickI ?_
  walk_at"rd"
  have hs1:=hand_some hh1
  refine rd_par91 ?_
  walk_at"rd"
  refine⟨p,_,rfl,hh3,by omega,fun vs st fs H4 ts os ns frs hh4 k4=>?_⟩
  have ps:p∉fs:=fun h=>hand_some hh3 (frs p h)
  walk_at"rd"
  refine⟨p,_,rfl,hh4,by omega,fun vy w r hs fy H5 ty oy ny fry hh5 k5=>?_⟩
  have ts5:=ts.kp hh4 k5 ps
  have py:p∉fy:=fun h=>hand_some hh4 (fry p h)
  walk_at"rd"
  refine⟨_,_,rfl,?_⟩
  walk_at"rd"
  refine⟨p,_,_,rfl,hh5,by omega,by split <;> omega,by split <;> omega,fun vr rs fr H6 tr orr rl nr frr hh6 k6=>?_⟩
  have ts6:=ts5.kp hh5 k6 ps
  have ty6:=ty.kp hh5 k6 py
  have s06:Same H0 H6:=fun b o e=>k6.1 _ _ (k5.1 _ _ (k4.1 _ _ (s03 _ _ e) (ne_of_none e np)) (ne_of_none e np)) (ne_of_none e np)
  have okr:okRs rs:=⟨fun r hr=>(orr r hr).r,by split at rl <;> omega⟩
  clear hh1 hh3 hh4 hh5 hh6 k3 k4 k5 k6 s1 s2 s03 hq1 ts ts5 ty
  walk_at"rd"
  refine⟨vr,rs,fr,rfl,tr,okr,fun H7 s7=>?_⟩
  walk_at"rd"
  refine⟨0,vr,rowsD rs,fr,rowsT rs,rfl,TD.to (tr.same s7) (Nat.le_trans (dep_rows rs) (by decide)),.inl ⟨rfl,rs,okr,rfl,rfl⟩,fun H8 s8=>?_⟩
  walk_at"rd"
  refine⟨vs,st,fs,rfl,ts6.same (s7.trans s8),os,fun H9 s9=>?_⟩
  walk_at"rd"
  refine⟨1,vs,stepD st,fs,stepT st,rfl,TD.to (ts6.same (s7.trans (s8.trans s9))) (Nat.le_trans (dep_step st) (by decide)),.inr (.inl ⟨rfl,st,os,rfl,rfl⟩),fun HA sA=>?_⟩
  walk_at"rd"
  have s6A:=s7.trans (s8.trans (s9.trans sA))
  refine⟨vy,w,r,hs,fy,rfl,ty6.same s6A,oy,fun HB sB=>?_⟩
  walk_at"rd"
  refine⟨2,vy,yardD w r hs,fy,yardT w r hs,rfl,ty6.same (s6A.trans sB),.inr (.inr ⟨rfl,w,r,hs,oy,rfl,rfl⟩),fun HC sC=>?_⟩
  walk_at"rd"
  exact⟨⟨_,_,_,_,_,_,rfl⟩,s0.trans (s06.trans (s6A.trans (sB.trans sC)))⟩
 ·rintro σ H0 ⟨⟨x1,x2,x3,x4,x5,x6,rfl⟩,s0⟩
  walk_at"rd"
  refine⟨by decide,fun p1 np1=>?_⟩
  generalize hE:upd H0 p1 _=H1
  obtain⟨hp1,s1⟩:=newo np1 hE
  clear hE
  have t1:TD H1 5 (.ref p1) (rowsD []) [p1]:=TD.to (n:=5) (m:=1) (.inr (.inr ⟨p1,[],[],[],rfl,rfl,rfl,hp1,by simp,TL.nil⟩)) (Nat.le_trans (dep_rows []) (by decide))
  walk_at"rd"
  refine⟨0,.ref p1,rowsD [],_,Str.ofString "none",rfl,t1,.inl ⟨rfl,[],⟨fun _ h=>(by cases h),by simp⟩,rfl,rfl⟩,fun H2 s2=>?_⟩
  walk_at"rd"
  refine⟨by decide,fun p2 np2=>?_⟩
  generalize hE:upd H2 p2 _=H3
  obtain⟨hp2,s3⟩:=newo np2 hE
  clear hE
  walk_at"rd"
  refine⟨(by show 1≤sizeLine;decide),fun p3 np3=>?_⟩
  generalize hE:upd H3 p3 _=H4
  obtain⟨hp3,s4⟩:=newo np3 hE
  clear hE
  have t2:TD H4 3 (.ref p3) (rowsD [[]]) [p3,p2]:=.inr (.inr ⟨p3,[.ref p2],[rowD []],[[p2]],rfl,rfl,rfl,hp3,by simp,TL.cons (.inr (.inr ⟨p2,[],[],[],rfl,rfl,rfl,s4 _ _ hp2,by simp,TL.nil⟩)) TL.nil⟩)
  walk_at"rd"
  refine⟨0,.ref p3,rowsD [[]],_,Str.ofString "-",rfl,TD.to t2 (Nat.le_trans (dep_rows [[]]) (by decide)),.inl ⟨rfl,[[]],⟨fun r h=>?_,by simp⟩,rfl,?_⟩,fun H5 s5=>?_⟩
  ·have:r=[]:=by simpa using h
   rw[this];exact⟨fun _ h=>(by cases h),by simp⟩
  ·rw[s_dash];rfl
  walk_at"rd"
  refine⟨by decide,fun p4 np4=>?_⟩
  generalize hE:upd H5 p4 _=H6
  obtain⟨hp4,s6⟩:=newo np4 hE
  clear hE
  walk_at"rd"
  refine⟨(by show 3≤sizeLine;decide),fun p5 np5=>?_⟩
  generalize hE:upd H6 p5 _=H7
  obtain⟨hp5,s7⟩:=newo np5 hE
  clear hE
  have t3:TD H7 5 (.ref p5) (yardD 8 130 []) [p4]:=.inr (.inl ⟨p5,_,_,[[],[],[p4]],rfl,rfl,rfl,hp5,by simp,TL.cons (TD.int 8) (TL.cons (TD.int 130) (TL.cons (.inr (.inr ⟨p4,[],[],[],rfl,rfl,rfl,s7 _ _ hp4,by simp,TL.nil⟩)) TL.nil))⟩)
  walk_at"rd"
  refine⟨2,.ref p5,yardD 8 130 [],_,Str.ofString "8 130",rfl,t3,.inr (.inr ⟨rfl,8,130,[],⟨by decide,by decide,by decide,by decide,fun _ h=>(by cases h),by simp,by simp,fun _ h=>(by simp at h)⟩,rfl,by decide +kernel⟩),fun H8 s8=>?_⟩
  exact q H8
end
theorem all_mk {l:PySem.W.OpenLaw}{w:World}{K:PySem.W.Frag}{h:Heap}{mg:Str→Option Value}{fa:Addr}(X:K.In h) (G:h.Ns mainGlobals mg) (hfa:mg "law" = some (.ref fa))
  {f0:Addr}{od0 an0:Option Addr}{sl0:Array (Option Value)}{oc0 kV0 dc0 pm0 cd0 ct0:Value}(a0:PySem.W.nsIn K mainGlobals "is_name" = some (some (.ref f0))) (l0:K.lookup f0=some ⟨oc0,od0,.func (PySem.W.fnOf "is_name" "is_name" (defArgs s_is_name) (defBody s_is_name) (defScope s_is_name) .none kV0 dc0 pm0 an0 cd0 ct0),sl0⟩) (c0:PySem.W.codeIn K cd0 "is_name" = true) (k0:PySem.W.keepIn K (.ref f0)=true)
  {f1:Addr}{od1 an1:Option Addr}{sl1:Array (Option Value)}{oc1 kV1 dc1 pm1 cd1 ct1:Value}(a1:PySem.W.nsIn K mainGlobals "show_rows" = some (some (.ref f1))) (l1:K.lookup f1=some ⟨oc1,od1,.func (PySem.W.fnOf "show_rows" "show_rows" (defArgs s_show_rows) (defBody s_show_rows) (defScope s_show_rows) .none kV1 dc1 pm1 an1 cd1 ct1),sl1⟩) (c1:PySem.W.codeIn K cd1 "show_rows" = true) (k1:PySem.W.keepIn K (.ref f1)=true)
  {f2:Addr}{od2 an2:Option Addr}{sl2:Array (Option Value)}{oc2 kV2 dc2 pm2 cd2 ct2:Value}(a2:PySem.W.nsIn K mainGlobals "show_row" = some (some (.ref f2))) (l2:K.lookup f2=some ⟨oc2,od2,.func (PySem.W.fnOf "show_row" "show_row" (defArgs s_show_row) (defBody s_show_row) (defScope s_show_row) .none kV2 dc2 pm2 an2 cd2 ct2),sl2⟩) (c2:PySem.W.codeIn K cd2 "show_row" = true) (k2:PySem.W.keepIn K (.ref f2)=true)
  {f3:Addr}{od3 an3:Option Addr}{sl3:Array (Option Value)}{oc3 kV3 dc3 pm3 cd3 ct3:Value}(a3:PySem.W.nsIn K mainGlobals "show_step" = some (some (.ref f3))) (l3:K.lookup f3=some ⟨oc3,od3,.func (PySem.W.fnOf "show_step" "show_step" (defArgs s_show_step) (defBody s_show_step) (defScope s_show_step) .none kV3 dc3 pm3 an3 cd3 ct3),sl3⟩) (c3:PySem.W.codeIn K cd3 "show_step" = true) (k3:PySem.W.keepIn K (.ref f3)=true)
  {f4:Addr}{od4 an4:Option Addr}{sl4:Array (Option Value)}{oc4 kV4 dc4 pm4 cd4 ct4:Value}(a4:PySem.W.nsIn K mainGlobals "show_yard" = some (some (.ref f4))) (l4:K.lookup f4=some ⟨oc4,od4,.func (PySem.W.fnOf "show_yard" "show_yard" (defArgs s_show_yard) (defBody s_show_yard) (defScope s_show_yard) .none kV4 dc4 pm4 an4 cd4 ct4),sl4⟩) (c4:PySem.W.codeIn K cd4 "show_yard" = true) (k4:PySem.W.keepIn K (.ref f4)=true)
  {f5:Addr}{od5 an5:Option Addr}{sl5:Array (Option Value)}{oc5 kV5 dc5 pm5 cd5 ct5:Value}(a5:PySem.W.nsIn K mainGlobals "read_rows" = some (some (.ref f5))) (l5:K.lookup f5=some ⟨oc5,od5,.func (PySem.W.fnOf "read_rows" "read_rows" (defArgs s_read_rows) (defBody s_read_rows) (defScope s_read_rows) .none kV5 dc5 pm5 an5 cd5 ct5),sl5⟩) (c5:PySem.W.codeIn K cd5 "read_rows" = true) (k5:PySem.W.keepIn K (.ref f5)=true)
  {f6:Addr}{od6 an6:Option Addr}{sl6:Array (Option Value)}{oc6 kV6 dc6 pm6 cd6 ct6:Value}(a6:PySem.W.nsIn K mainGlobals "read_row" = some (some (.ref f6))) (l6:K.lookup f6=some ⟨oc6,od6,.func (PySem.W.fnOf "read_row" "read_row" (defArgs s_read_row) (defBody s_read_row) (defScope s_read_row) .none kV6 dc6 pm6 an6 cd6 ct6),sl6⟩) (c6:PySem.W.codeIn K cd6 "read_row" = true) (k6:PySem.W.keepIn K (.ref f6)=true)
  {f7:Addr}{od7 an7:Option Addr}{sl7:Array (Option Value)}{oc7 kV7 dc7 pm7 cd7 ct7:Value}(a7:PySem.W.nsIn K mainGlobals "read_entry" = some (some (.ref f7))) (l7:K.lookup f7=some ⟨oc7,od7,.func (PySem.W.fnOf "read_entry" "read_entry" (defArgs s_read_entry) (defBody s_read_entry) (defScope s_read_entry) .none kV7 dc7 pm7 an7 cd7 ct7),sl7⟩) (c7:PySem.W.codeIn K cd7 "read_entry" = true) (k7:PySem.W.keepIn K (.ref f7)=true)
  {f8:Addr}{od8 an8:Option Addr}{sl8:Array (Option Value)}{oc8 kV8 dc8 pm8 cd8 ct8:Value}(a8:PySem.W.nsIn K mainGlobals "read_step" = some (some (.ref f8))) (l8:K.lookup f8=some ⟨oc8,od8,.func (PySem.W.fnOf "read_step" "read_step" (defArgs s_read_step) (defBody s_read_step) (defScope s_read_step) .none kV8 dc8 pm8 an8 cd8 ct8),sl8⟩) (c8:PySem.W.codeIn K cd8 "read_step" = true) (k8:PySem.W.keepIn K (.ref f8)=true)
  {f9:Addr}{od9 an9:Option Addr}{sl9:Array (Option Value)}{oc9 kV9 dc9 pm9 cd9 ct9:Value}(a9:PySem.W.nsIn K mainGlobals "read_yard" = some (some (.ref f9))) (l9:K.lookup f9=some ⟨oc9,od9,.func (PySem.W.fnOf "read_yard" "read_yard" (defArgs s_read_yard) (defBody s_read_yard) (defScope s_read_yard) .none kV9 dc9 pm9 an9 cd9 ct9),sl9⟩) (c9:PySem.W.codeIn K cd9 "read_yard" = true) (k9:PySem.W.keepIn K (.ref f9)=true)
  {f10:Addr}{od10 an10:Option Addr}{sl10:Array (Option Value)}{oc10 kV10 dc10 pm10 cd10 ct10:Value}(a10:PySem.W.nsIn K mainGlobals "read_words" = some (some (.ref f10))) (l10:K.lookup f10=some ⟨oc10,od10,.func (PySem.W.fnOf "read_words" "read_words" (defArgs s_read_words) (defBody s_read_words) (defScope s_read_words) .none kV10 dc10 pm10 an10 cd10 ct10),sl10⟩) (c10:PySem.W.codeIn K cd10 "read_words" = true) (k10:PySem.W.keepIn K (.ref f10)=true)
  {f11:Addr}{od11 an11:Option Addr}{sl11:Array (Option Value)}{oc11 kV11 dc11 pm11 cd11 ct11:Value}(a11:PySem.W.nsIn K mainGlobals "read_number" = some (some (.ref f11))) (l11:K.lookup f11=some ⟨oc11,od11,.func (PySem.W.fnOf "read_number" "read_number" (defArgs s_read_number) (defBody s_read_number) (defScope s_read_number) .none kV11 dc11 pm11 an11 cd11 ct11),sl11⟩) (c11:PySem.W.codeIn K cd11 "read_number" = true) (k11:PySem.W.keepIn K (.ref f11)=true)
  {f12:Addr}{od12 an12:Option Addr}{sl12:Array (Option Value)}{oc12 kV12 dc12 pm12 cd12 ct12:Value}(a12:PySem.W.nsIn K mainGlobals "is_number" = some (some (.ref f12))) (l12:K.lookup f12=some ⟨oc12,od12,.func (PySem.W.fnOf "is_number" "is_number" (defArgs s_is_number) (defBody s_is_number) (defScope s_is_number) .none kV12 dc12 pm12 an12 cd12 ct12),sl12⟩) (c12:PySem.W.codeIn K cd12 "is_number" = true) (k12:PySem.W.keepIn K (.ref f12)=true)
  {f13:Addr}{od13 an13:Option Addr}{sl13:Array (Option Value)}{oc13 kV13 dc13 pm13 cd13 ct13:Value}(a13:PySem.W.nsIn K mainGlobals "ask_text" = some (some (.ref f13))) (l13:K.lookup f13=some ⟨oc13,od13,.func (PySem.W.fnOf "ask_text" "ask_text" (defArgs s_ask_text) (defBody s_ask_text) (defScope s_ask_text) .none kV13 dc13 pm13 an13 cd13 ct13),sl13⟩) (c13:PySem.W.codeIn K cd13 "ask_text" = true) (k13:PySem.W.keepIn K (.ref f13)=true)
  {f14:Addr}{od14 an14:Option Addr}{sl14:Array (Option Value)}{oc14 kV14 dc14 pm14 cd14 ct14:Value}(a14:PySem.W.nsIn K mainGlobals "_law_open" = some (some (.ref f14))) (l14:K.lookup f14=some ⟨oc14,od14,.func (PySem.W.fnOf "_law_open" "_law_open" (defArgs s__law_open) (defBody s__law_open) (defScope s__law_open) .none kV14 dc14 pm14 an14 cd14 ct14),sl14⟩) (c14:PySem.W.codeIn K cd14 "_law_open" = true) (k14:PySem.W.keepIn K (.ref f14)=true)
  {f15:Addr}{od15 an15:Option Addr}{sl15:Array (Option Value)}{oc15 kV15 dc15 pm15 cd15 ct15:Value}(a15:PySem.W.nsIn K mainGlobals "_law_draw" = some (some (.ref f15))) (l15:K.lookup f15=some ⟨oc15,od15,.func (PySem.W.fnOf "_law_draw" "_law_draw" (defArgs s__law_draw) (defBody s__law_draw) (defScope s__law_draw) .none kV15 dc15 pm15 an15 cd15 ct15),sl15⟩) (c15:PySem.W.codeIn K cd15 "_law_draw" = true) (k15:PySem.W.keepIn K (.ref f15)=true)
  {f16:Addr}{od16 an16:Option Addr}{sl16:Array (Option Value)}{oc16 kV16 dc16 pm16 cd16 ct16:Value}(a16:PySem.W.nsIn K mainGlobals "_law_far" = some (some (.ref f16))) (l16:K.lookup f16=some ⟨oc16,od16,.func (PySem.W.fnOf "_law_far" "_law_far" (defArgs s__law_far) (defBody s__law_far) (defScope s__law_far) .none kV16 dc16 pm16 an16 cd16 ct16),sl16⟩) (c16:PySem.W.codeIn K cd16 "_law_far" = true) (k16:PySem.W.keepIn K (.ref f16)=true)
  {f17:Addr}{od17 an17:Option Addr}{sl17:Array (Option Value)}{oc17 kV17 dc17 pm17 cd17 ct17:Value}(a17:PySem.W.nsIn K mainGlobals "_law_power" = some (some (.ref f17))) (l17:K.lookup f17=some ⟨oc17,od17,.func (PySem.W.fnOf "_law_power" "_law_power" (defArgs s__law_power) (defBody s__law_power) (defScope s__law_power) .none kV17 dc17 pm17 an17 cd17 ct17),sl17⟩) (c17:PySem.W.codeIn K cd17 "_law_power" = true) (k17:PySem.W.keepIn K (.ref f17)=true)
  {f18:Addr}{od18 an18:Option Addr}{sl18:Array (Option Value)}{oc18 kV18 dc18 pm18 cd18 ct18:Value}(a18:PySem.W.nsIn K mainGlobals "_law_key" = some (some (.ref f18))) (l18:K.lookup f18=some ⟨oc18,od18,.func (PySem.W.fnOf "_law_key" "_law_key" (defArgs s__law_key) (defBody s__law_key) (defScope s__law_key) .none kV18 dc18 pm18 an18 cd18 ct18),sl18⟩) (c18:PySem.W.codeIn K cd18 "_law_key" = true) (k18:PySem.W.keepIn K (.ref f18)=true)
  {f19:Addr}{od19 an19:Option Addr}{sl19:Array (Option Value)}{oc19 kV19 dc19 pm19 cd19 ct19:Value}(a19:PySem.W.nsIn K mainGlobals "_law_thing" = some (some (.ref f19))) (l19:K.lookup f19=some ⟨oc19,od19,.func (PySem.W.fnOf "_law_thing" "_law_thing" (defArgs s__law_thing) (defBody s__law_thing) (defScope s__law_thing) .none kV19 dc19 pm19 an19 cd19 ct19),sl19⟩) (c19:PySem.W.codeIn K cd19 "_law_thing" = true) (k19:PySem.W.keepIn K (.ref f19)=true)
  {f20:Addr}{od20 an20:Option Addr}{sl20:Array (Option Value)}{oc20 kV20 dc20 pm20 cd20 ct20:Value}(a20:PySem.W.nsIn K mainGlobals "_law_row" = some (some (.ref f20))) (l20:K.lookup f20=some ⟨oc20,od20,.func (PySem.W.fnOf "_law_row" "_law_row" (defArgs s__law_row) (defBody s__law_row) (defScope s__law_row) .none kV20 dc20 pm20 an20 cd20 ct20),sl20⟩) (c20:PySem.W.codeIn K cd20 "_law_row" = true) (k20:PySem.W.keepIn K (.ref f20)=true)
  {f21:Addr}{od21 an21:Option Addr}{sl21:Array (Option Value)}{oc21 kV21 dc21 pm21 cd21 ct21:Value}(a21:PySem.W.nsIn K mainGlobals "_law_rows" = some (some (.ref f21))) (l21:K.lookup f21=some ⟨oc21,od21,.func (PySem.W.fnOf "_law_rows" "_law_rows" (defArgs s__law_rows) (defBody s__law_rows) (defScope s__law_rows) .none kV21 dc21 pm21 an21 cd21 ct21),sl21⟩) (c21:PySem.W.codeIn K cd21 "_law_rows" = true) (k21:PySem.W.keepIn K (.ref f21)=true)
  {f22:Addr}{od22 an22:Option Addr}{sl22:Array (Option Value)}{oc22 kV22 dc22 pm22 cd22 ct22:Value}(a22:PySem.W.nsIn K mainGlobals "_law_yard" = some (some (.ref f22))) (l22:K.lookup f22=some ⟨oc22,od22,.func (PySem.W.fnOf "_law_yard" "_law_yard" (defArgs s__law_yard) (defBody s__law_yard) (defScope s__law_yard) .none kV22 dc22 pm22 an22 cd22 ct22),sl22⟩) (c22:PySem.W.codeIn K cd22 "_law_yard" = true) (k22:PySem.W.keepIn K (.ref f22)=true)
  {f23:Addr}{od23 an23:Option Addr}{sl23:Array (Option Value)}{oc23 kV23 dc23 pm23 cd23 ct23:Value}(a23:PySem.W.nsIn K mainGlobals "_law_step" = some (some (.ref f23))) (l23:K.lookup f23=some ⟨oc23,od23,.func (PySem.W.fnOf "_law_step" "_law_step" (defArgs s__law_step) (defBody s__law_step) (defScope s__law_step) .none kV23 dc23 pm23 an23 cd23 ct23),sl23⟩) (c23:PySem.W.codeIn K cd23 "_law_step" = true) (k23:PySem.W.keepIn K (.ref f23)=true)
  {f24:Addr}{od24 an24:Option Addr}{sl24:Array (Option Value)}{oc24 kV24 dc24 pm24 cd24 ct24:Value}(a24:PySem.W.nsIn K mainGlobals "_law_row_text" = some (some (.ref f24))) (l24:K.lookup f24=some ⟨oc24,od24,.func (PySem.W.fnOf "_law_row_text" "_law_row_text" (defArgs s__law_row_text) (defBody s__law_row_text) (defScope s__law_row_text) .none kV24 dc24 pm24 an24 cd24 ct24),sl24⟩) (c24:PySem.W.codeIn K cd24 "_law_row_text" = true) (k24:PySem.W.keepIn K (.ref f24)=true)
  {f25:Addr}{od25 an25:Option Addr}{sl25:Array (Option Value)}{oc25 kV25 dc25 pm25 cd25 ct25:Value}(a25:PySem.W.nsIn K mainGlobals "_law_rows_text" = some (some (.ref f25))) (l25:K.lookup f25=some ⟨oc25,od25,.func (PySem.W.fnOf "_law_rows_text" "_law_rows_text" (defArgs s__law_rows_text) (defBody s__law_rows_text) (defScope s__law_rows_text) .none kV25 dc25 pm25 an25 cd25 ct25),sl25⟩) (c25:PySem.W.codeIn K cd25 "_law_rows_text" = true) (k25:PySem.W.keepIn K (.ref f25)=true)
  {f26:Addr}{od26 an26:Option Addr}{sl26:Array (Option Value)}{oc26 kV26 dc26 pm26 cd26 ct26:Value}(a26:PySem.W.nsIn K mainGlobals "_law_step_text" = some (some (.ref f26))) (l26:K.lookup f26=some ⟨oc26,od26,.func (PySem.W.fnOf "_law_step_text" "_law_step_text" (defArgs s__law_step_text) (defBody s__law_step_text) (defScope s__law_step_text) .none kV26 dc26 pm26 an26 cd26 ct26),sl26⟩) (c26:PySem.W.codeIn K cd26 "_law_step_text" = true) (k26:PySem.W.keepIn K (.ref f26)=true)
  {f27:Addr}{od27 an27:Option Addr}{sl27:Array (Option Value)}{oc27 kV27 dc27 pm27 cd27 ct27:Value}(a27:PySem.W.nsIn K mainGlobals "_law_yard_text" = some (some (.ref f27))) (l27:K.lookup f27=some ⟨oc27,od27,.func (PySem.W.fnOf "_law_yard_text" "_law_yard_text" (defArgs s__law_yard_text) (defBody s__law_yard_text) (defScope s__law_yard_text) .none kV27 dc27 pm27 an27 cd27 ct27),sl27⟩) (c27:PySem.W.codeIn K cd27 "_law_yard_text" = true) (k27:PySem.W.keepIn K (.ref f27)=true)
  {f28:Addr}{od28 an28:Option Addr}{sl28:Array (Option Value)}{oc28 kV28 dc28 pm28 cd28 ct28:Value}(a28:PySem.W.nsIn K mainGlobals "_law_same" = some (some (.ref f28))) (l28:K.lookup f28=some ⟨oc28,od28,.func (PySem.W.fnOf "_law_same" "_law_same" (defArgs s__law_same) (defBody s__law_same) (defScope s__law_same) .none kV28 dc28 pm28 an28 cd28 ct28),sl28⟩) (c28:PySem.W.codeIn K cd28 "_law_same" = true) (k28:PySem.W.keepIn K (.ref f28)=true)
  {f29:Addr}{od29 an29:Option Addr}{sl29:Array (Option Value)}{oc29 kV29 dc29 pm29 cd29 ct29:Value}(a29:PySem.W.nsIn K mainGlobals "_law_copy" = some (some (.ref f29))) (l29:K.lookup f29=some ⟨oc29,od29,.func (PySem.W.fnOf "_law_copy" "_law_copy" (defArgs s__law_copy) (defBody s__law_copy) (defScope s__law_copy) .none kV29 dc29 pm29 an29 cd29 ct29),sl29⟩) (c29:PySem.W.codeIn K cd29 "_law_copy" = true) (k29:PySem.W.keepIn K (.ref f29)=true)
  {f30:Addr}{od30 an30:Option Addr}{sl30:Array (Option Value)}{oc30 kV30 dc30 pm30 cd30 ct30:Value}(a30:PySem.W.nsIn K mainGlobals "_law_spoil" = some (some (.ref f30))) (l30:K.lookup f30=some ⟨oc30,od30,.func (PySem.W.fnOf "_law_spoil" "_law_spoil" (defArgs s__law_spoil) (defBody s__law_spoil) (defScope s__law_spoil) .none kV30 dc30 pm30 an30 cd30 ct30),sl30⟩) (c30:PySem.W.codeIn K cd30 "_law_spoil" = true) (k30:PySem.W.keepIn K (.ref f30)=true)
  {f31:Addr}{od31 an31:Option Addr}{sl31:Array (Option Value)}{oc31 kV31 dc31 pm31 cd31 ct31:Value}(a31:PySem.W.nsIn K mainGlobals "_law_asked" = some (some (.ref f31))) (l31:K.lookup f31=some ⟨oc31,od31,.func (PySem.W.fnOf "_law_asked" "_law_asked" (defArgs s__law_asked) (defBody s__law_asked) (defScope s__law_asked) .none kV31 dc31 pm31 an31 cd31 ct31),sl31⟩) (c31:PySem.W.codeIn K cd31 "_law_asked" = true) (k31:PySem.W.keepIn K (.ref f31)=true)
  {f32:Addr}{od32 an32:Option Addr}{sl32:Array (Option Value)}{oc32 kV32 dc32 pm32 cd32 ct32:Value}(a32:PySem.W.nsIn K mainGlobals "_law_right" = some (some (.ref f32))) (l32:K.lookup f32=some ⟨oc32,od32,.func (PySem.W.fnOf "_law_right" "_law_right" (defArgs s__law_right) (defBody s__law_right) (defScope s__law_right) .none kV32 dc32 pm32 an32 cd32 ct32),sl32⟩) (c32:PySem.W.codeIn K cd32 "_law_right" = true) (k32:PySem.W.keepIn K (.ref f32)=true)
  {f33:Addr}{od33 an33:Option Addr}{sl33:Array (Option Value)}{oc33 kV33 dc33 pm33 cd33 ct33:Value}(a33:PySem.W.nsIn K mainGlobals "law" = some (some (.ref f33))) (l33:K.lookup f33=some ⟨oc33,od33,.func (PySem.W.fnOf "law" "law" (defArgs s_law) (defBody s_law) (defScope s_law) .none kV33 dc33 pm33 an33 cd33 ct33),sl33⟩) (c33:PySem.W.codeIn K cd33 "law" = true) (k33:PySem.W.keepIn K (.ref f33)=true)
  (z_isinstance:PySem.W.nsIn K mainGlobals "isinstance" = some none)
  (z_str:PySem.W.nsIn K mainGlobals "str" = some none)
  (z_all:PySem.W.nsIn K mainGlobals "all" = some none)
  (z_len:PySem.W.nsIn K mainGlobals "len" = some none)
  (z_int:PySem.W.nsIn K mainGlobals "int" = some none)
  (z_abs:PySem.W.nsIn K mainGlobals "abs" = some none)
  (z_range:PySem.W.nsIn K mainGlobals "range" = some none)
  (z_max:PySem.W.nsIn K mainGlobals "max" = some none)
  (z_list:PySem.W.nsIn K mainGlobals "list" = some none)
  (z_tuple:PySem.W.nsIn K mainGlobals "tuple" = some none)
  (z_bool:PySem.W.nsIn K mainGlobals "bool" = some none)
  (z_zip:PySem.W.nsIn K mainGlobals "zip" = some none)
  {t_MOST:Tok}(z_MOST:PySem.W.nsIn K mainGlobals "MOST" = some (some (.int 130 t_MOST)))
  {t_MOST_FIGURES:Tok}(z_MOST_FIGURES:PySem.W.nsIn K mainGlobals "MOST_FIGURES" = some (some (.int 30 t_MOST_FIGURES)))
  {t_LAST_KEY:Tok}(z_LAST_KEY:PySem.W.nsIn K mainGlobals "LAST_KEY" = some (some (.int 1152921504606846975 t_LAST_KEY)))
  {t_MOST_WIDE:Tok}(z_MOST_WIDE:PySem.W.nsIn K mainGlobals "MOST_WIDE" = some (some (.int 8 t_MOST_WIDE)))
  : ∃fd:FuncData,(∀(s:Shared) (v:Value),BindsTo s fd ⟨[v],[]⟩ [("_law_script",v)])∧∀base:Heap,K.In base→base.Ns mainGlobals mg→FnOk l.prog w K mg base CX0 9 fa fd ["_law_script"] (sp_law K):=by
 have e:=hfa.symm.trans (PySem.W.mg_of X G a33)
 cases e
 have T:Bl mg:=⟨PySem.W.mg_none_of X G z_isinstance,PySem.W.mg_none_of X G z_str,PySem.W.mg_none_of X G z_all,PySem.W.mg_none_of X G z_len,PySem.W.mg_none_of X G z_int,PySem.W.mg_none_of X G z_abs,PySem.W.mg_none_of X G z_range,PySem.W.mg_none_of X G z_max,PySem.W.mg_none_of X G z_list,PySem.W.mg_none_of X G z_tuple,PySem.W.mg_none_of X G z_bool,PySem.W.mg_none_of X G z_zip,⟨_,PySem.W.mg_of X G z_MOST⟩,⟨_,PySem.W.mg_of X G z_MOST_FIGURES⟩,⟨_,PySem.W.mg_of X G z_LAST_KEY⟩,⟨_,PySem.W.mg_of X G z_MOST_WIDE⟩⟩
 refine⟨PySem.W.fnOf "law" "law" (defArgs s_law) (defBody s_law) (defScope s_law) .none kV33 dc33 pm33 an33 cd33 ct33,fun s v=>.of_eq rfl,fun base _ _=>?_⟩
 have F0:=fun_mk (st:=s_is_name) l0 c0 k0
 have b0:=F0.binds (ps:=["thing"]) fun _ _ _ _ _ _ us hl=>match us,hl with | [_],_=>rfl
 have C_is_name:=ok_is_name (P:=l.prog) (w:=w) (base:=base) F0 (PySem.W.mg_of X G a0) b0 T
 have F2:=fun_mk (st:=s_show_row) l2 c2 k2
 have b2:=F2.binds (ps:=["row"]) fun _ _ _ _ _ _ us hl=>match us,hl with | [_],_=>rfl
 have C_show_row:=ok_show_row (P:=l.prog) (w:=w) (base:=base) F2 (PySem.W.mg_of X G a2) b2 T
 have F12:=fun_mk (st:=s_is_number) l12 c12 k12
 have b12:=F12.binds (ps:=["text"]) fun _ _ _ _ _ _ us hl=>match us,hl with | [_],_=>rfl
 have C_is_number:=ok_is_number (P:=l.prog) (w:=w) (base:=base) F12 (PySem.W.mg_of X G a12) b12 T
 have F13:=fun_mk (st:=s_ask_text) l13 c13 k13
 have b13:=F13.binds (ps:=["thing"]) fun _ _ _ _ _ _ us hl=>match us,hl with | [_],_=>rfl
 have C_ask_text:=ok_ask_text (P:=l.prog) (w:=w) (base:=base) F13 (PySem.W.mg_of X G a13) b13 T
 have F14:=fun_mk (st:=s__law_open) l14 c14 k14
 have b14:=F14.binds (ps:=["_law_script", "_law_place"]) fun _ _ _ _ _ _ us hl=>match us,hl with | [_,_],_=>rfl
 have C__law_open:=ok__law_open (P:=l.prog) (w:=w) (base:=base) F14 (PySem.W.mg_of X G a14) b14 T
 have F15:=fun_mk (st:=s__law_draw) l15 c15 k15
 have b15:=F15.binds (ps:=["_law_hand", "_law_many"]) fun _ _ _ _ _ _ us hl=>match us,hl with | [_,_],_=>rfl
 have C__law_draw:=ok__law_draw (P:=l.prog) (w:=w) (base:=base) F15 (PySem.W.mg_of X G a15) b15 T
 have F17:=fun_mk (st:=s__law_power) l17 c17 k17
 have b17:=F17.binds (ps:=["_law_many"]) fun _ _ _ _ _ _ us hl=>match us,hl with | [_],_=>rfl
 have C__law_power:=ok__law_power (P:=l.prog) (w:=w) (base:=base) F17 (PySem.W.mg_of X G a17) b17 T
 have F24:=fun_mk (st:=s__law_row_text) l24 c24 k24
 have b24:=F24.binds (ps:=["_law_row_here"]) fun _ _ _ _ _ _ us hl=>match us,hl with | [_],_=>rfl
 have C__law_row_text:=ok__law_row_text (P:=l.prog) (w:=w) (base:=base) F24 (PySem.W.mg_of X G a24) b24 T
 have F1:=fun_mk (st:=s_show_rows) l1 c1 k1
 have b1:=F1.binds (ps:=["rows"]) fun _ _ _ _ _ _ us hl=>match us,hl with | [_],_=>rfl
 have C_show_rows:=ok_show_rows (P:=l.prog) (w:=w) (base:=base) F1 (PySem.W.mg_of X G a1) b1 T C_show_row
 have F3:=fun_mk (st:=s_show_step) l3 c3 k3
 have b3:=F3.binds (ps:=["step"]) fun _ _ _ _ _ _ us hl=>match us,hl with | [_],_=>rfl
 have C_show_step:=ok_show_step (P:=l.prog) (w:=w) (base:=base) F3 (PySem.W.mg_of X G a3) b3 T C_show_row
 have F10:=fun_mk (st:=s_read_words) l10 c10 k10
 have b10:=F10.binds (ps:=["text"]) fun _ _ _ _ _ _ us hl=>match us,hl with | [_],_=>rfl
 have C_read_words:=ok_read_words (P:=l.prog) (w:=w) (base:=base) F10 (PySem.W.mg_of X G a10) b10 T C_ask_text
 have F11:=fun_mk (st:=s_read_number) l11 c11 k11
 have b11:=F11.binds (ps:=["text", "least", "most"]) fun _ _ _ _ _ _ us hl=>match us,hl with | [_,_,_],_=>rfl
 have C_read_number:=ok_read_number (P:=l.prog) (w:=w) (base:=base) F11 (PySem.W.mg_of X G a11) b11 T C_is_number
 have F16:=fun_mk (st:=s__law_far) l16 c16 k16
 have b16:=F16.binds (ps:=["_law_hand", "_law_many"]) fun _ _ _ _ _ _ us hl=>match us,hl with | [_,_],_=>rfl
 have C__law_far:=ok__law_far (P:=l.prog) (w:=w) (base:=base) F16 (PySem.W.mg_of X G a16) b16 T C__law_draw
 have F19:=fun_mk (st:=s__law_thing) l19 c19 k19
 have b19:=F19.binds (ps:=["_law_hand"]) fun _ _ _ _ _ _ us hl=>match us,hl with | [_],_=>rfl
 have C__law_thing:=ok__law_thing (P:=l.prog) (w:=w) (base:=base) F19 (PySem.W.mg_of X G a19) b19 T C__law_draw
 have F25:=fun_mk (st:=s__law_rows_text) l25 c25 k25
 have b25:=F25.binds (ps:=["_law_rows_here"]) fun _ _ _ _ _ _ us hl=>match us,hl with | [_],_=>rfl
 have C__law_rows_text:=ok__law_rows_text (P:=l.prog) (w:=w) (base:=base) F25 (PySem.W.mg_of X G a25) b25 T C__law_row_text
 have F26:=fun_mk (st:=s__law_step_text) l26 c26 k26
 have b26:=F26.binds (ps:=["_law_step_here"]) fun _ _ _ _ _ _ us hl=>match us,hl with | [_],_=>rfl
 have C__law_step_text:=ok__law_step_text (P:=l.prog) (w:=w) (base:=base) F26 (PySem.W.mg_of X G a26) b26 T C__law_row_text
 have F4:=fun_mk (st:=s_show_yard) l4 c4 k4
 have b4:=F4.binds (ps:=["yard"]) fun _ _ _ _ _ _ us hl=>match us,hl with | [_],_=>rfl
 have C_show_yard:=ok_show_yard (P:=l.prog) (w:=w) (base:=base) F4 (PySem.W.mg_of X G a4) b4 T C_show_rows
 have F7:=fun_mk (st:=s_read_entry) l7 c7 k7
 have b7:=F7.binds (ps:=["text"]) fun _ _ _ _ _ _ us hl=>match us,hl with | [_],_=>rfl
 have C_read_entry:=ok_read_entry (P:=l.prog) (w:=w) (base:=base) F7 (PySem.W.mg_of X G a7) b7 T C_is_name C_read_number
 have F18:=fun_mk (st:=s__law_key) l18 c18 k18
 have b18:=F18.binds (ps:=["_law_hand"]) fun _ _ _ _ _ _ us hl=>match us,hl with | [_],_=>rfl
 have C__law_key:=ok__law_key (P:=l.prog) (w:=w) (base:=base) F18 (PySem.W.mg_of X G a18) b18 T C__law_draw C__law_far C__law_power
 have F27:=fun_mk (st:=s__law_yard_text) l27 c27 k27
 have b27:=F27.binds (ps:=["_law_yard_here"]) fun _ _ _ _ _ _ us hl=>match us,hl with | [_],_=>rfl
 have C__law_yard_text:=ok__law_yard_text (P:=l.prog) (w:=w) (base:=base) F27 (PySem.W.mg_of X G a27) b27 T C__law_rows_text
 have F6:=fun_mk (st:=s_read_row) l6 c6 k6
 have b6:=F6.binds (ps:=["text"]) fun _ _ _ _ _ _ us hl=>match us,hl with | [_],_=>rfl
 have C_read_row:=ok_read_row (P:=l.prog) (w:=w) (base:=base) F6 (PySem.W.mg_of X G a6) b6 T C_read_entry
 have F20:=fun_mk (st:=s__law_row) l20 c20 k20
 have b20:=F20.binds (ps:=["_law_hand"]) fun _ _ _ _ _ _ us hl=>match us,hl with | [_],_=>rfl
 have C__law_row:=ok__law_row (P:=l.prog) (w:=w) (base:=base) F20 (PySem.W.mg_of X G a20) b20 T C__law_draw C__law_key C__law_thing
 have F5:=fun_mk (st:=s_read_rows) l5 c5 k5
 have b5:=F5.binds (ps:=["text"]) fun _ _ _ _ _ _ us hl=>match us,hl with | [_],_=>rfl
 have C_read_rows:=ok_read_rows (P:=l.prog) (w:=w) (base:=base) F5 (PySem.W.mg_of X G a5) b5 T C_ask_text C_read_row
 have F8:=fun_mk (st:=s_read_step) l8 c8 k8
 have b8:=F8.binds (ps:=["text"]) fun _ _ _ _ _ _ us hl=>match us,hl with | [_],_=>rfl
 have C_read_step:=ok_read_step (P:=l.prog) (w:=w) (base:=base) F8 (PySem.W.mg_of X G a8) b8 T C_read_words C_read_number C_read_row
 have F21:=fun_mk (st:=s__law_rows) l21 c21 k21
 have b21:=F21.binds (ps:=["_law_hand", "_law_most"]) fun _ _ _ _ _ _ us hl=>match us,hl with | [_,_],_=>rfl
 have C__law_rows:=ok__law_rows (P:=l.prog) (w:=w) (base:=base) F21 (PySem.W.mg_of X G a21) b21 T C__law_draw C__law_row
 have F23:=fun_mk (st:=s__law_step) l23 c23 k23
 have b23:=F23.binds (ps:=["_law_hand"]) fun _ _ _ _ _ _ us hl=>match us,hl with | [_],_=>rfl
 have C__law_step:=ok__law_step (P:=l.prog) (w:=w) (base:=base) F23 (PySem.W.mg_of X G a23) b23 T C__law_draw C__law_row
 have F9:=fun_mk (st:=s_read_yard) l9 c9 k9
 have b9:=F9.binds (ps:=["text"]) fun _ _ _ _ _ _ us hl=>match us,hl with | [_],_=>rfl
 have C_read_yard:=ok_read_yard (P:=l.prog) (w:=w) (base:=base) F9 (PySem.W.mg_of X G a9) b9 T C_read_words C_read_rows C_read_number
 have F22:=fun_mk (st:=s__law_yard) l22 c22 k22
 have b22:=F22.binds (ps:=["_law_hand"]) fun _ _ _ _ _ _ us hl=>match us,hl with | [_],_=>rfl
 have C__law_yard:=ok__law_yard (P:=l.prog) (w:=w) (base:=base) F22 (PySem.W.mg_of X G a22) b22 T C__law_draw C__law_rows C__law_row
 have F28:=fun_mk (st:=s__law_same) l28 c28 k28
 have b28:=F28.binds (ps:=["_law_told", "_law_due"]) fun _ _ _ _ _ _ us hl=>match us,hl with | [_,_],_=>rfl
 have C__law_same0:Cal l.prog w K mg base "_law_same" ["_law_told", "_law_due"] 1 (spr__law_same K 0):=Cal.of (k:=0) F28 (PySem.W.mg_of X G a28) b28 sc__law_same (fun _ _ _ _ h=>h.elim) (fun _ _ _ _ _ _ _ _ _ h=>h.elim)
 have C__law_same1:=ok__law_same (P:=l.prog) (w:=w) (base:=base) F28 (PySem.W.mg_of X G a28) b28 T C__law_same0
 have C__law_same2:=ok__law_same (P:=l.prog) (w:=w) (base:=base) F28 (PySem.W.mg_of X G a28) b28 T C__law_same1
 have C__law_same3:=ok__law_same (P:=l.prog) (w:=w) (base:=base) F28 (PySem.W.mg_of X G a28) b28 T C__law_same2
 have C__law_same4:=ok__law_same (P:=l.prog) (w:=w) (base:=base) F28 (PySem.W.mg_of X G a28) b28 T C__law_same3
 have C__law_same5:=ok__law_same (P:=l.prog) (w:=w) (base:=base) F28 (PySem.W.mg_of X G a28) b28 T C__law_same4
 have C__law_same6:=ok__law_same (P:=l.prog) (w:=w) (base:=base) F28 (PySem.W.mg_of X G a28) b28 T C__law_same5
 have C__law_same:Cal l.prog w K mg base "_law_same" ["_law_told", "_law_due"] 7 (sp__law_same K):=C__law_same6
 have F29:=fun_mk (st:=s__law_copy) l29 c29 k29
 have b29:=F29.binds (ps:=["_law_told"]) fun _ _ _ _ _ _ us hl=>match us,hl with | [_],_=>rfl
 have C__law_copy0:Cal l.prog w K mg base "_law_copy" ["_law_told"] 1 (spr__law_copy K 0):=Cal.of (k:=0) F29 (PySem.W.mg_of X G a29) b29 sc__law_copy (fun _ _ _ _ h=>h.elim) (fun _ _ _ _ _ _ _ _ _ h=>h.elim)
 have C__law_copy1:=ok__law_copy (P:=l.prog) (w:=w) (base:=base) F29 (PySem.W.mg_of X G a29) b29 T C__law_copy0
 have C__law_copy2:=ok__law_copy (P:=l.prog) (w:=w) (base:=base) F29 (PySem.W.mg_of X G a29) b29 T C__law_copy1
 have C__law_copy3:=ok__law_copy (P:=l.prog) (w:=w) (base:=base) F29 (PySem.W.mg_of X G a29) b29 T C__law_copy2
 have C__law_copy4:=ok__law_copy (P:=l.prog) (w:=w) (base:=base) F29 (PySem.W.mg_of X G a29) b29 T C__law_copy3
 have C__law_copy5:=ok__law_copy (P:=l.prog) (w:=w) (base:=base) F29 (PySem.W.mg_of X G a29) b29 T C__law_copy4
 have C__law_copy6:=ok__law_copy (P:=l.prog) (w:=w) (base:=base) F29 (PySem.W.mg_of X G a29) b29 T C__law_copy5
 have C__law_copy:Cal l.prog w K mg base "_law_copy" ["_law_told"] 7 (sp__law_copy K):=C__law_copy6
 have F30:=fun_mk (st:=s__law_spoil) l30 c30 k30
 have b30:=F30.binds (ps:=["_law_told"]) fun _ _ _ _ _ _ us hl=>match us,hl with | [_],_=>rfl
 have C__law_spoil0:Cal l.prog w K mg base "_law_spoil" ["_law_told"] 1 (spr__law_spoil K 0):=Cal.of (k:=0) F30 (PySem.W.mg_of X G a30) b30 sc__law_spoil (fun _ _ _ _ h=>h.elim) (fun _ _ _ _ _ _ _ _ _ h=>h.elim)
 have C__law_spoil1:=ok__law_spoil (P:=l.prog) (w:=w) (base:=base) F30 (PySem.W.mg_of X G a30) b30 T C__law_spoil0
 have C__law_spoil2:=ok__law_spoil (P:=l.prog) (w:=w) (base:=base) F30 (PySem.W.mg_of X G a30) b30 T C__law_spoil1
 have C__law_spoil3:=ok__law_spoil (P:=l.prog) (w:=w) (base:=base) F30 (PySem.W.mg_of X G a30) b30 T C__law_spoil2
 have C__law_spoil4:=ok__law_spoil (P:=l.prog) (w:=w) (base:=base) F30 (PySem.W.mg_of X G a30) b30 T C__law_spoil3
 have C__law_spoil5:=ok__law_spoil (P:=l.prog) (w:=w) (base:=base) F30 (PySem.W.mg_of X G a30) b30 T C__law_spoil4
 have C__law_spoil6:=ok__law_spoil (P:=l.prog) (w:=w) (base:=base) F30 (PySem.W.mg_of X G a30) b30 T C__law_spoil5
 have C__law_spoil:Cal l.prog w K mg base "_law_spoil" ["_law_told"] 7 (sp__law_spoil K):=C__law_spoil6
 have F31:=fun_mk (st:=s__law_asked) l31 c31 k31
 have b31:=F31.binds (ps:=["_law_way", "_law_thing_here", "_law_text"]) fun _ _ _ _ _ _ us hl=>match us,hl with | [_,_,_],_=>rfl
 have C__law_asked:=ok__law_asked (P:=l.prog) (w:=w) (base:=base) F31 (PySem.W.mg_of X G a31) b31 T C_show_yard C_read_yard C_show_rows C_read_rows C_show_step C_read_step
 have F32:=fun_mk (st:=s__law_right) l32 c32 k32
 have b32:=F32.binds (ps:=["_law_way", "_law_thing_here", "_law_text"]) fun _ _ _ _ _ _ us hl=>match us,hl with | [_,_,_],_=>rfl
 have C__law_right:=ok__law_right (P:=l.prog) (w:=w) (base:=base) F32 (PySem.W.mg_of X G a32) b32 T C__law_copy C__law_asked C__law_spoil C__law_same
 have F33:=fun_mk (st:=s_law) l33 c33 k33
 exact ok_law F33 T C__law_open C__law_rows C__law_right C__law_step C__law_yard C__law_yard_text C__law_draw C__law_rows_text C__law_step_text
theorem walk {l:PySem.W.OpenLaw}{q:Program}{loose:List Str}{XP:(Str→Option Value)→Heap→Prop}{YP:World→Heap→Prop}{d:DefRec}{K:Params→PySem.W.Frag}(hn:l.most=some 63) (hdf:d.params.defaults=[])
  (hY:∀(w:World) (h:Heap),YP w h→(K w.params).In h)
  (F:∀(w:World) (mg:Str→Option Value) (fa:Addr) (h:Heap),(K w.params).In h→h.Ns mainGlobals mg→mg d.name=some (.ref fa) →
   ∃fd:FuncData,(∀(s:Shared) (u:Value),BindsTo s fd ⟨[u],[]⟩ [("_law_script",u)])∧∀base:Heap,(K w.params).In base→base.Ns mainGlobals mg→FnOk l.prog w (K w.params) mg base CX0 9 fa fd ["_law_script"] (sp_law (K w.params))) :
  PySem.W.WalkO q loose XP YP l.row.toRowW d [] (fun f vs=>PySem.call f vs) :=
 L2.walk_of (n:=63) (k:=9) (x := "_law_script") (CX:=fun _=>CX0) (sp:=fun w=>sp_law (K w.params)) hn (by decide) hdf ⟨rfl,by decide,by decide,rfl⟩ hY F (fun _ _ a ns hl _ hS=>⟨a,ns,rfl,hS,hl,fun _=>rfl⟩) fun _ _ _ _ _ z=>z
end Law
namespace HD
open PySem PySem.W PySem.PyData
noncomputable def pB:List Stmt:=PySem.Challenge.pw_tailrooms_k91_written_and_read.main.body
noncomputable def nS:List Stmt→Nat→Stmt
 | s::_,0=>s
 | _::r,n+1=>nS r n
 | [],_=>.Pass ⟨0,0,0,0⟩
noncomputable def bS:Stmt→List Stmt
 | .FunctionDef _ _ b ..=>b
 | .ClassDef _ _ _ b ..=>b
 | _=>[]
noncomputable def aS:Stmt→Arguments
 | .FunctionDef _ a ..=>a
 | _=>⟨[],[],none,[],[],none,[]⟩
noncomputable def sS:Stmt→Scope
 | .FunctionDef _ _ _ _ _ _ s ..=>s
 | _=>⟨.function,[],false,false,[]⟩
noncomputable def f (i:Nat):Stmt:=nS pB i
noncomputable def m (i j:Nat):Stmt:=nS (bS (f i)) j
abbrev O:=Params→Obj
noncomputable def E (P:Params) (x:Str) (n:Nat) (v:Value):DictEntry:=⟨keyHash P x,.str x n,v⟩
abbrev B:=Params→BT
noncomputable def n (o:O) (l r:B):B:=fun P=>.node (o P) (l P) (r P)
noncomputable def w (o:O):B:=fun P=>.node (o P) .nil .nil
noncomputable def u:B:=fun _=>.nil
noncomputable def c0 (P:Params) (r:List DictEntry):List DictEntry:=(E P "__name__" 165 (.str "law_tailrooms_k91_written_and_read" 339))::(E P "__doc__" 166 .none)::(E P "__package__" 167 .none)::(E P "__loader__" 168 (.builtin "__main__.__loader__#opaque"))::(E P "__spec__" 169 .none)::(E P "__annotations__" 170 (.ref 6))::(E P "__builtins__" 171 (.ref 4))::(E P "__file__" 173 (.str "/claim/cut.py" 172))::r
noncomputable def c1 (P:Params) (r:List DictEntry):List DictEntry:=(E P "__cached__" 174 .none)::(E P "TailError" 206 (.ref 24))::(E P "NoText" 222 (.ref 37))::(E P "is_name" 230 (.ref 44))::(E P "MOST" 234 (.int 130 233))::(E P "MOST_FIGURES" 236 (.int 30 235))::(E P "LAST_KEY" 242 (.int 1152921504606846975 241))::(E P "MOST_WIDE" 244 (.int 8 243))::r
noncomputable def c2 (P:Params) (r:List DictEntry):List DictEntry:=(E P "show_rows" 250 (.ref 49))::(E P "show_row" 256 (.ref 54))::(E P "show_step" 262 (.ref 59))::(E P "show_yard" 268 (.ref 64))::(E P "read_rows" 274 (.ref 69))::(E P "read_row" 280 (.ref 74))::(E P "read_entry" 290 (.ref 81))::(E P "read_step" 303 (.ref 88))::r
noncomputable def c3 (P:Params) (r:List DictEntry):List DictEntry:=(E P "read_yard" 309 (.ref 93))::(E P "read_words" 316 (.ref 100))::(E P "read_number" 325 (.ref 107))::(E P "is_number" 331 (.ref 112))::(E P "ask_text" 338 (.ref 119))::(E P "_law_open" 346 (.ref 124))::(E P "_law_draw" 357 (.ref 131))::(E P "_law_far" 367 (.ref 138))::r
noncomputable def c4 (P:Params) (r:List DictEntry):List DictEntry:=(E P "_law_power" 376 (.ref 145))::(E P "_law_key" 385 (.ref 152))::(E P "_law_thing" 391 (.ref 157))::(E P "_law_row" 400 (.ref 164))::(E P "_law_rows" 410 (.ref 171))::(E P "_law_yard" 422 (.ref 178))::(E P "_law_step" 428 (.ref 183))::(E P "_law_row_text" 438 (.ref 190))::r
noncomputable def c5 (P:Params) (r:List DictEntry):List DictEntry:=(E P "_law_rows_text" 444 (.ref 195))::(E P "_law_step_text" 453 (.ref 202))::(E P "_law_yard_text" 462 (.ref 209))::(E P "_law_same" 468 (.ref 214))::(E P "_law_copy" 474 (.ref 219))::(E P "_law_spoil" 482 (.ref 226))::(E P "_law_asked" 491 (.ref 233))::(E P "_law_right" 504 (.ref 240))::r
noncomputable def c6 (P:Params) (r:List DictEntry):List DictEntry:=(E P "law" 517 (.ref 247))::r
noncomputable def c7 (P:Params) (r:List Value):List Value:=(.int 2 0)::(.int 0 0)::(.ref 20)::(.int 4 0)::(.int 0 0)::(.ref 33)::(.int 7 0)::(.int 0 0)::(.ref 43)::(.int 14 0)::(.int 0 0)::(.ref 48)::(.int 16 0)::(.int 0 0)::(.ref 53)::(.int 18 0)::(.int 0 0)::(.ref 58)::r
noncomputable def c8 (P:Params) (r:List Value):List Value:=(.int 22 0)::(.int 0 0)::(.ref 63)::(.int 25 0)::(.int 0 0)::(.ref 68)::(.int 30 0)::(.int 0 0)::(.ref 73)::(.int 34 0)::(.int 0 0)::(.ref 80)::(.int 39 0)::(.int 0 0)::(.ref 87)::(.int 50 0)::(.int 0 0)::(.ref 92)::r
noncomputable def c9 (P:Params) (r:List Value):List Value:=(.int 59 0)::(.int 0 0)::(.ref 99)::(.int 62 0)::(.int 0 0)::(.ref 106)::(.int 66 0)::(.int 0 0)::(.ref 111)::(.int 70 0)::(.int 0 0)::(.ref 118)::(.int 74 0)::(.int 0 0)::(.ref 123)::(.int 83 0)::(.int 0 0)::(.ref 130)::r
noncomputable def c10 (P:Params) (r:List Value):List Value:=(.int 94 0)::(.int 0 0)::(.ref 137)::(.int 101 0)::(.int 0 0)::(.ref 144)::(.int 106 0)::(.int 0 0)::(.ref 151)::(.int 118 0)::(.int 0 0)::(.ref 156)::(.int 121 0)::(.int 0 0)::(.ref 163)::(.int 126 0)::(.int 0 0)::(.ref 170)::r
noncomputable def c11 (P:Params) (r:List Value):List Value:=(.int 131 0)::(.int 0 0)::(.ref 177)::(.int 143 0)::(.int 0 0)::(.ref 182)::(.int 154 0)::(.int 0 0)::(.ref 189)::(.int 159 0)::(.int 0 0)::(.ref 194)::(.int 161 0)::(.int 0 0)::(.ref 201)::(.int 169 0)::(.int 0 0)::(.ref 208)::r
noncomputable def c12 (P:Params) (r:List Value):List Value:=(.int 174 0)::(.int 0 0)::(.ref 213)::(.int 180 0)::(.int 0 0)::(.ref 218)::(.int 186 0)::(.int 0 0)::(.ref 225)::(.int 192 0)::(.int 0 0)::(.ref 232)::(.int 198 0)::(.int 0 0)::(.ref 239)::(.int 206 0)::(.int 0 0)::(.ref 246)::r
noncomputable def c13 (P:Params) (r:List Value):List Value:=(.int 94 0)::(.int 0 0)::(.ref 137)::r
noncomputable def c14 (P:Params) (r:List DictEntry):List DictEntry:=(E P "_law_rows_text" 444 (.ref 195))::(E P "_law_step_text" 453 (.ref 202))::(E P "_law_yard_text" 462 (.ref 209))::(E P "_law_same" 468 (.ref 214))::(E P "_law_copy" 474 (.ref 219))::r
noncomputable def c15 (P:Params) (r:List Value):List Value:=(.int 174 0)::(.int 0 0)::(.ref 213)::(.int 180 0)::(.int 0 0)::(.ref 218)::r
noncomputable def t16 (a0:Str) (a1:Stmt) (P:Params):Obj:=⟨.none,none,(.func ⟨a0,a0,(aS a1),(.stmts (bS a1)),(sS a1),0,[],.none,.none,.none,.none,none,.none,.none,0⟩),#[]⟩
noncomputable def t17 (a0:Str) (a1:Nat) (a2:Int) (a3:Nat) (a4:Int) (P:Params):Obj:=⟨(.type "code"),none,(.fields #[(.str a0 a1),(.str a0 (a1+1)),(.str "/claim/cut.py" (a1+2)),(.int a2 0),(.int 0 0),(.int 0 0),(.int 0 0),(.int 0 0),(.ref a3),(.bool .false),(.int 181 0),(.ref (a3+1)),.none,.none,.none,.none,(.int a4 0),(.int a2 0),(.str "/claim/cut.py" (a1+4))]),#[]⟩
noncomputable def t18 (a0:Str) (a1:Nat) (a2:Str) (a3:Str) (P:Params):Obj:=⟨(.type "tuple"),none,(.seq #[(.str a0 a1),(.str a2 (a1+1)),(.str a3 (a1+2))] 0),#[]⟩
noncomputable def t19 (a0:Str) (a1:Stmt) (a2:Str) (a3:Nat) (a4:Nat) (P:Params):Obj:=⟨(.type "function"),none,(.func ⟨a0,a0,(aS a1),(.stmts (bS a1)),(sS a1),3,[],.none,.none,.none,(.str a2 a3),none,(.ref a4),.none,0⟩),#[]⟩
noncomputable def t20 (a0:Str) (a1:Nat) (a2:Str) (a3:Str) (a4:Str) (P:Params):Obj:=⟨(.type "tuple"),none,(.seq #[(.str a0 a1),(.str a2 (a1+1)),(.str a3 (a1+2)),(.str a4 (a1+3))] 0),#[]⟩
noncomputable def t21 (a0:Str) (a1:Nat) (a2:Int) (a3:Int) (a4:Nat) (a5:Int) (a6:Nat) (P:Params):Obj:=⟨(.type "code"),none,(.fields #[(.str a0 a1),(.str a0 (a1+1)),(.str "/claim/cut.py" (a1+2)),(.int a2 0),(.int a3 0),(.int 0 0),(.int 0 0),(.int 3 0),(.ref a4),(.bool .true),(.int 181 0),(.ref (a4+1)),.none,(.ref (a4+2)),(.ref (a4+3)),(.ref (a4+4)),(.int a5 0),(.int a2 0),(.str "/claim/cut.py" a6)]),#[]⟩
noncomputable def t22 (a0:Str) (a1:Nat) (a2:Int) (a3:Int) (a4:Nat) (a5:Int) (P:Params):Obj:=⟨(.type "code"),none,(.fields #[(.str a0 a1),(.str a0 (a1+1)),(.str "/claim/cut.py" (a1+2)),(.int a2 0),(.int a3 0),(.int 0 0),(.int 0 0),(.int 3 0),(.ref a4),(.bool .true),(.int 181 0),(.ref (a4+1)),.none,.none,.none,(.ref (a4+2)),(.int a5 0),(.int a2 0),(.str "/claim/cut.py" (a1+4))]),#[]⟩
noncomputable def t23 (a0:Nat) (a1:Nat) (a2:Str) (a3:Nat) (P:Params):Obj:=⟨(.type "frame"),none,.plain,#[(some (.ref a0)),(some (.ref 3)),(some (.ref a1)),none,(some (.str a2 a3)),none,(some (.ref 0))]⟩
noncomputable def t24 (a0:Str) (a1:Nat) (a2:Str) (a3:Str) (a4:Str) (a5:Str) (a6:Str) (a7:Str) (P:Params):Obj:=⟨(.type "tuple"),none,(.seq #[(.str a0 a1),(.str a2 (a1+1)),(.str a3 (a1+2)),(.str a4 (a1+3)),(.str a5 (a1+4)),(.str a6 (a1+5)),(.str a7 (a1+6))] 0),#[]⟩
noncomputable def o0:O:=fun P=>⟨(.type "dict"),none,(.dict (c0 P (c1 P (c2 P (c3 P (c4 P (c5 P (c6 P []))))))).toArray 49),#[]⟩
noncomputable def o1:O:=fun P=>⟨(.type "tuple"),none,(.seq #[] 0),#[]⟩
noncomputable def o2:O:=fun P=>⟨.none,none,(.fields (c7 P (c8 P (c9 P (c10 P (c11 P (c12 P [])))))).toArray),#[]⟩
noncomputable def o3:O:=t17 "<module>" 182 1 11 185
noncomputable def o4:O:=t23 13 3 "__main__" 164
noncomputable def o5:O:=fun P=>⟨(.type "tuple"),none,(.seq #[(.type "ValueError")] 0),#[]⟩
noncomputable def o6:O:=fun P=>⟨(.type "builtin_function_or_method"),none,(.fields #[(.builtin "type.__prepare__"),(.type "type")]),#[]⟩
noncomputable def o7:O:=fun P=>⟨(.type "dict"),none,(.dict #[(E P "__module__" 196 (.str "tailrooms.errors" 187)),(E P "__qualname__" 198 (.str "TailError" 197)),(E P "__firstlineno__" 200 (.int 2 199)),(E P "__static_attributes__" 201 (.ref 22))] 4),#[]⟩
noncomputable def o8:O:=fun P=>⟨.none,none,(.fields #[]),#[]⟩
noncomputable def o9:O:=t17 "TailError" 191 2 18 194
noncomputable def o10:O:=t23 20 17 "tailrooms.errors" 187
noncomputable def o11:O:=fun P=>⟨(.type "dict"),none,(.dict #[(E P "__module__" 196 (.str "tailrooms.errors" 187)),(E P "__firstlineno__" 200 (.int 2 199)),(E P "__static_attributes__" 201 (.ref 22)),(E P "__weakref__" 203 (.ref 25)),(E P "__doc__" 204 .none)] 3),#[]⟩
noncomputable def o12:O:=fun P=>⟨(.type "type"),none,(.cls ⟨"TailError",[(.type "ValueError")],[(.ref 24),(.type "ValueError"),(.type "Exception"),(.type "BaseException"),(.type "object")],23,"TailError",.true,[],[(.ref 37)],.false,none,.false⟩),#[(some (.ref 15)),none,(some (.str "TailError" 189)),(some (.str "TailError" 197)),(some (.builtin "ValueError.__new__")),(some (.bool .true))]⟩
noncomputable def o13:O:=fun P=>⟨(.type "getset_descriptor"),none,(.fields #[(.str "__weakref__" 202),(.ref 24),(.builtin "ExceptionGroup.__weakref__"),.none]),#[]⟩
noncomputable def o14:O:=fun P=>⟨(.type "super"),none,(.fields #[(.ref 24),(.ref 24),(.ref 24)]),#[]⟩
noncomputable def o15:O:=fun P=>⟨(.type "builtin_function_or_method"),none,(.fields #[(.builtin "object.__init_subclass__"),(.ref 24)]),#[]⟩
noncomputable def o16:O:=fun P=>⟨(.type "tuple"),none,(.seq #[(.ref 24)] 0),#[]⟩
noncomputable def o17:O:=fun P=>⟨(.type "dict"),none,(.dict #[(E P "__module__" 214 (.str "tailrooms.errors" 187)),(E P "__qualname__" 216 (.str "NoText" 215)),(E P "__firstlineno__" 218 (.int 4 217)),(E P "__static_attributes__" 219 (.ref 35))] 4),#[]⟩
noncomputable def o18:O:=t17 "NoText" 209 4 31 212
noncomputable def o19:O:=t23 33 30 "tailrooms.errors" 187
noncomputable def o20:O:=fun P=>⟨(.type "dict"),none,(.dict #[(E P "__module__" 214 (.str "tailrooms.errors" 187)),(E P "__firstlineno__" 218 (.int 4 217)),(E P "__static_attributes__" 219 (.ref 35)),(E P "__doc__" 220 .none)] 2),#[]⟩
noncomputable def o21:O:=fun P=>⟨(.type "type"),none,(.cls ⟨"NoText",[(.ref 24)],[(.ref 37),(.ref 24),(.type "ValueError"),(.type "Exception"),(.type "BaseException"),(.type "object")],36,"NoText",.true,[],[],.false,none,.false⟩),#[(some (.ref 28)),none,(some (.str "NoText" 207)),(some (.str "NoText" 215)),(some (.builtin "ValueError.__new__")),(some (.bool .true))]⟩
noncomputable def o22:O:=fun P=>⟨(.type "super"),none,(.fields #[(.ref 37),(.ref 37),(.ref 37)]),#[]⟩
noncomputable def o23:O:=fun P=>⟨(.type "builtin_function_or_method"),none,(.fields #[(.builtin "object.__init_subclass__"),(.ref 37)]),#[]⟩
noncomputable def o24:O:=t16 "is_name" (f 4)
noncomputable def o25:O:=t22 "is_name" 225 7 1 40 228
noncomputable def o26:O:=t19 "is_name" (f 4) "tailrooms.kinds" 223 43
noncomputable def o27:O:=t16 "show_rows" (f 10)
noncomputable def o28:O:=t22 "show_rows" 245 14 1 45 248
noncomputable def o29:O:=t19 "show_rows" (f 10) "tailrooms.texts" 231 48
noncomputable def o30:O:=t16 "show_row" (f 11)
noncomputable def o31:O:=t22 "show_row" 251 16 1 50 254
noncomputable def o32:O:=t19 "show_row" (f 11) "tailrooms.texts" 231 53
noncomputable def o33:O:=t16 "show_step" (f 12)
noncomputable def o34:O:=t22 "show_step" 257 18 1 55 260
noncomputable def o35:O:=t19 "show_step" (f 12) "tailrooms.texts" 231 58
noncomputable def o36:O:=t16 "show_yard" (f 13)
noncomputable def o37:O:=t22 "show_yard" 263 22 1 60 266
noncomputable def o38:O:=t19 "show_yard" (f 13) "tailrooms.texts" 231 63
noncomputable def o39:O:=t16 "read_rows" (f 14)
noncomputable def o40:O:=t22 "read_rows" 269 25 1 65 272
noncomputable def o41:O:=t19 "read_rows" (f 14) "tailrooms.texts" 231 68
noncomputable def o42:O:=t16 "read_row" (f 15)
noncomputable def o43:O:=t22 "read_row" 275 30 1 70 278
noncomputable def o44:O:=t19 "read_row" (f 15) "tailrooms.texts" 231 73
noncomputable def o45:O:=t20 "text" 284 "key" "sign" "thing"
noncomputable def o46:O:=t16 "read_entry" (f 16)
noncomputable def o47:O:=t21 "read_entry" 281 34 1 75 288 289
noncomputable def o48:O:=t19 "read_entry" (f 16) "tailrooms.texts" 231 80
noncomputable def o49:O:=t24 "text" 294 "kind" "others" "room" "at" "row" "many"
noncomputable def o50:O:=t16 "read_step" (f 17)
noncomputable def o51:O:=t21 "read_step" 291 39 1 82 301 302
noncomputable def o52:O:=t19 "read_step" (f 17) "tailrooms.texts" 231 87
noncomputable def o53:O:=t16 "read_yard" (f 18)
noncomputable def o54:O:=t22 "read_yard" 304 50 1 89 307
noncomputable def o55:O:=t19 "read_yard" (f 18) "tailrooms.texts" 231 92
noncomputable def o56:O:=fun P=>⟨(.type "tuple"),none,(.seq #[(.str "text" 313)] 0),#[]⟩
noncomputable def o57:O:=t16 "read_words" (f 19)
noncomputable def o58:O:=t21 "read_words" 310 59 1 94 314 315
noncomputable def o59:O:=t19 "read_words" (f 19) "tailrooms.texts" 231 99
noncomputable def o60:O:=t18 "text" 320 "least" "most"
noncomputable def o61:O:=t16 "read_number" (f 20)
noncomputable def o62:O:=t21 "read_number" 317 62 3 101 323 324
noncomputable def o63:O:=t19 "read_number" (f 20) "tailrooms.texts" 231 106
noncomputable def o64:O:=t16 "is_number" (f 21)
noncomputable def o65:O:=t22 "is_number" 326 66 1 108 329
noncomputable def o66:O:=t19 "is_number" (f 21) "tailrooms.texts" 231 111
noncomputable def o67:O:=fun P=>⟨(.type "tuple"),none,(.seq #[(.str "thing" 335)] 0),#[]⟩
noncomputable def o68:O:=t16 "ask_text" (f 22)
noncomputable def o69:O:=t21 "ask_text" 332 70 1 113 336 337
noncomputable def o70:O:=t19 "ask_text" (f 22) "tailrooms.texts" 231 118
noncomputable def o71:O:=t16 "_law_open" (f 24)
noncomputable def o72:O:=t22 "_law_open" 341 74 2 120 344
noncomputable def o73:O:=t19 "_law_open" (f 24) "law_tailrooms_k91_written_and_read" 339 123
noncomputable def o74:O:=fun P=>⟨(.type "tuple"),none,(.seq #[(.str "_law_hand" 350),(.str "_law_many" 351),(.str "_law_got" 352),(.str "_law_k" 353),(.str "_law_number" 354)] 0),#[]⟩
noncomputable def o75:O:=t16 "_law_draw" (f 25)
noncomputable def o76:O:=t21 "_law_draw" 347 83 2 125 355 356
noncomputable def o77:O:=t19 "_law_draw" (f 25) "law_tailrooms_k91_written_and_read" 339 130
noncomputable def o78:O:=t20 "_law_hand" 361 "_law_many" "_law_number" "_law_k"
noncomputable def o79:O:=t16 "_law_far" (f 26)
noncomputable def o80:O:=t21 "_law_far" 358 94 2 132 365 366
noncomputable def o81:O:=t19 "_law_far" (f 26) "law_tailrooms_k91_written_and_read" 339 137
noncomputable def o82:O:=t18 "_law_many" 371 "_law_number" "_law_k"
noncomputable def o83:O:=t16 "_law_power" (f 27)
noncomputable def o84:O:=t21 "_law_power" 368 101 1 139 374 375
noncomputable def o85:O:=t19 "_law_power" (f 27) "law_tailrooms_k91_written_and_read" 339 144
noncomputable def o86:O:=t18 "_law_hand" 380 "_law_way" "_law_low"
noncomputable def o87:O:=t16 "_law_key" (f 28)
noncomputable def o88:O:=t21 "_law_key" 377 106 1 146 383 384
noncomputable def o89:O:=t19 "_law_key" (f 28) "law_tailrooms_k91_written_and_read" 339 151
noncomputable def o90:O:=t16 "_law_thing" (f 29)
noncomputable def o91:O:=t22 "_law_thing" 386 118 1 153 389
noncomputable def o92:O:=t19 "_law_thing" (f 29) "law_tailrooms_k91_written_and_read" 339 156
noncomputable def o93:O:=t18 "_law_hand" 395 "_law_row_here" "_law_k"
noncomputable def o94:O:=t16 "_law_row" (f 30)
noncomputable def o95:O:=t21 "_law_row" 392 121 1 158 398 399
noncomputable def o96:O:=t19 "_law_row" (f 30) "law_tailrooms_k91_written_and_read" 339 163
noncomputable def o97:O:=t20 "_law_hand" 404 "_law_most" "_law_rows_here" "_law_k"
noncomputable def o98:O:=t16 "_law_rows" (f 31)
noncomputable def o99:O:=t21 "_law_rows" 401 126 2 165 408 409
noncomputable def o100:O:=t19 "_law_rows" (f 31) "law_tailrooms_k91_written_and_read" 339 170
noncomputable def o101:O:=fun P=>⟨(.type "tuple"),none,(.seq #[(.str "_law_hand" 414),(.str "_law_wide" 415),(.str "_law_rooms" 416),(.str "_law_held" 417),(.str "_law_great" 418),(.str "_law_k" 419)] 0),#[]⟩
noncomputable def o102:O:=t16 "_law_yard" (f 32)
noncomputable def o103:O:=t21 "_law_yard" 411 131 1 172 420 421
noncomputable def o104:O:=t19 "_law_yard" (f 32) "law_tailrooms_k91_written_and_read" 339 177
noncomputable def o105:O:=t16 "_law_step" (f 33)
noncomputable def o106:O:=t22 "_law_step" 423 143 1 179 426
noncomputable def o107:O:=t19 "_law_step" (f 33) "law_tailrooms_k91_written_and_read" 339 182
noncomputable def o108:O:=t20 "_law_row_here" 432 "_law_words" "_law_key_here" "_law_thing_here"
noncomputable def o109:O:=t16 "_law_row_text" (f 34)
noncomputable def o110:O:=t21 "_law_row_text" 429 154 1 184 436 437
noncomputable def o111:O:=t19 "_law_row_text" (f 34) "law_tailrooms_k91_written_and_read" 339 189
noncomputable def o112:O:=t16 "_law_rows_text" (f 35)
noncomputable def o113:O:=t22 "_law_rows_text" 439 159 1 191 442
noncomputable def o114:O:=t19 "_law_rows_text" (f 35) "law_tailrooms_k91_written_and_read" 339 194
noncomputable def o115:O:=t18 "_law_step_here" 448 "_law_words" "_law_part"
noncomputable def o116:O:=t16 "_law_step_text" (f 36)
noncomputable def o117:O:=t21 "_law_step_text" 445 161 1 196 451 452
noncomputable def o118:O:=t19 "_law_step_text" (f 36) "law_tailrooms_k91_written_and_read" 339 201
noncomputable def o119:O:=t18 "_law_yard_here" 457 "_law_words" "_law_rows_here"
noncomputable def o120:O:=t16 "_law_yard_text" (f 37)
noncomputable def o121:O:=t21 "_law_yard_text" 454 169 1 203 460 461
noncomputable def o122:O:=t19 "_law_yard_text" (f 37) "law_tailrooms_k91_written_and_read" 339 208
noncomputable def o123:O:=t16 "_law_same" (f 38)
noncomputable def o124:O:=t22 "_law_same" 463 174 2 210 466
noncomputable def o125:O:=t19 "_law_same" (f 38) "law_tailrooms_k91_written_and_read" 339 213
noncomputable def o126:O:=t16 "_law_copy" (f 39)
noncomputable def o127:O:=t22 "_law_copy" 469 180 1 215 472
noncomputable def o128:O:=t19 "_law_copy" (f 39) "law_tailrooms_k91_written_and_read" 339 218
noncomputable def o129:O:=fun P=>⟨(.type "tuple"),none,(.seq #[(.str "_law_told" 478),(.str "_law_one" 479)] 0),#[]⟩
noncomputable def o130:O:=t16 "_law_spoil" (f 40)
noncomputable def o131:O:=t21 "_law_spoil" 475 186 1 220 480 481
noncomputable def o132:O:=t19 "_law_spoil" (f 40) "law_tailrooms_k91_written_and_read" 339 225
noncomputable def o133:O:=t18 "_law_way" 486 "_law_thing_here" "_law_text"
noncomputable def o134:O:=t16 "_law_asked" (f 41)
noncomputable def o135:O:=t21 "_law_asked" 483 192 3 227 489 490
noncomputable def o136:O:=t19 "_law_asked" (f 41) "law_tailrooms_k91_written_and_read" 339 232
noncomputable def o137:O:=t24 "_law_way" 495 "_law_thing_here" "_law_text" "_law_handed" "_law_k" "_law_wrote" "_law_told"
noncomputable def o138:O:=t16 "_law_right" (f 42)
noncomputable def o139:O:=t21 "_law_right" 492 198 3 234 502 503
noncomputable def o140:O:=t19 "_law_right" (f 42) "law_tailrooms_k91_written_and_read" 339 239
noncomputable def o141:O:=t24 "_law_script" 508 "_law_place" "_law_hand" "_law_most" "_law_step_here" "_law_yard_here" "_law_rows_here"
noncomputable def o142:O:=t16 "law" (f 43)
noncomputable def o143:O:=t21 "law" 505 206 1 241 515 516
noncomputable def o144:O:=t19 "law" (f 43) "law_tailrooms_k91_written_and_read" 339 246
noncomputable def o145:O:=fun P=>⟨(.type "dict"),none,(.dict (c0 P (c1 P (c2 P (c3 P [])))).toArray 32),#[]⟩
noncomputable def o146:O:=fun P=>⟨.none,none,(.fields (c7 P (c8 P (c9 P (c13 P [])))).toArray),#[]⟩
noncomputable def o147:O:=fun P=>⟨(.type "dict"),none,(.dict (c0 P (c1 P (c2 P (c3 P (c4 P (c14 P [])))))).toArray 45),#[]⟩
noncomputable def o148:O:=fun P=>⟨.none,none,(.fields (c7 P (c8 P (c9 P (c10 P (c11 P (c15 P [])))))).toArray),#[]⟩
noncomputable def qB (_:Params→BT):Bool:=true
noncomputable def qH (_:Params→Heap):Bool:=true
noncomputable def qP (_:Program):Bool:=true
noncomputable def qS (_:List Stmt):Bool:=true
noncomputable def c25 (P:Params) (r:List Obj):List Obj:=boot_o_0 P::boot_o_1 P::boot_o_2 P::o0 P::boot_o_4 P::boot_o_5 P::boot_o_6 P::boot_o_7 P::boot_o_8 P::boot_o_9 P::boot_o_10 P::o1 P::o2 P::o3 P::o4 P::o5 P::r
noncomputable def c26 (P:Params) (r:List Obj):List Obj:=o6 P::o7 P::o1 P::o8 P::o9 P::o10 P::o1 P::o11 P::o12 P::o13 P::o14 P::o15 P::o16 P::o6 P::o17 P::o1 P::r
noncomputable def c27 (P:Params) (r:List Obj):List Obj:=o8 P::o18 P::o19 P::o1 P::o20 P::o21 P::o22 P::o23 P::o1 P::o8 P::o24 P::o25 P::o26 P::o1 P::o8 P::o27 P::r
noncomputable def c28 (P:Params) (r:List Obj):List Obj:=o28 P::o29 P::o1 P::o8 P::o30 P::o31 P::o32 P::o1 P::o8 P::o33 P::o34 P::o35 P::o1 P::o8 P::o36 P::o37 P::r
noncomputable def c29 (P:Params) (r:List Obj):List Obj:=o38 P::o1 P::o8 P::o39 P::o40 P::o41 P::o1 P::o8 P::o42 P::o43 P::o44 P::o1 P::o8 P::o45 P::o1 P::o46 P::r
noncomputable def c30 (P:Params) (r:List Obj):List Obj:=o47 P::o48 P::o1 P::o8 P::o49 P::o1 P::o50 P::o51 P::o52 P::o1 P::o8 P::o53 P::o54 P::o55 P::o1 P::o8 P::r
noncomputable def c31 (P:Params) (r:List Obj):List Obj:=o56 P::o1 P::o57 P::o58 P::o59 P::o1 P::o8 P::o60 P::o1 P::o61 P::o62 P::o63 P::o1 P::o8 P::o64 P::o65 P::r
noncomputable def c32 (P:Params) (r:List Obj):List Obj:=o66 P::o1 P::o8 P::o67 P::o1 P::o68 P::o69 P::o70 P::o1 P::o8 P::o71 P::o72 P::o73 P::o1 P::o8 P::o74 P::r
noncomputable def c33 (P:Params) (r:List Obj):List Obj:=o1 P::o75 P::o76 P::o77 P::o1 P::o8 P::o78 P::o1 P::o79 P::o80 P::o81 P::o1 P::o8 P::o82 P::o1 P::o83 P::r
noncomputable def c34 (P:Params) (r:List Obj):List Obj:=o84 P::o85 P::o1 P::o8 P::o86 P::o1 P::o87 P::o88 P::o89 P::o1 P::o8 P::o90 P::o91 P::o92 P::o1 P::o8 P::r
noncomputable def c35 (P:Params) (r:List Obj):List Obj:=o93 P::o1 P::o94 P::o95 P::o96 P::o1 P::o8 P::o97 P::o1 P::o98 P::o99 P::o100 P::o1 P::o8 P::o101 P::o1 P::r
noncomputable def c36 (P:Params) (r:List Obj):List Obj:=o102 P::o103 P::o104 P::o1 P::o8 P::o105 P::o106 P::o107 P::o1 P::o8 P::o108 P::o1 P::o109 P::o110 P::o111 P::o1 P::r
noncomputable def c37 (P:Params) (r:List Obj):List Obj:=o8 P::o112 P::o113 P::o114 P::o1 P::o8 P::o115 P::o1 P::o116 P::o117 P::o118 P::o1 P::o8 P::o119 P::o1 P::o120 P::r
noncomputable def c38 (P:Params) (r:List Obj):List Obj:=o121 P::o122 P::o1 P::o8 P::o123 P::o124 P::o125 P::o1 P::o8 P::o126 P::o127 P::o128 P::o1 P::o8 P::o129 P::o1 P::r
noncomputable def c39 (P:Params) (r:List Obj):List Obj:=o130 P::o131 P::o132 P::o1 P::o8 P::o133 P::o1 P::o134 P::o135 P::o136 P::o1 P::o8 P::o137 P::o1 P::o138 P::o139 P::r
noncomputable def c40 (P:Params) (r:List Obj):List Obj:=o140 P::o1 P::o8 P::o141 P::o1 P::o142 P::o143 P::o144 P::r
noncomputable def X_heap_293:Params→Heap:=fun P=>⟨⟨(c25 P (c26 P (c27 P (c28 P (c29 P (c30 P (c31 P (c32 P (c33 P (c34 P (c35 P (c36 P (c37 P (c38 P (c39 P (c40 P []))))))))))))))))⟩,⟨[],[],[],0,[],[],.false,#[],[],0,.false,.false,.false,0,[2000,10,10],.false,0,.true,[],[],0,.false⟩⟩
noncomputable def X_sts_263:List Stmt:=[f 40,f 41,f 42,f 43]
noncomputable def X_sts_180:List Stmt:=[f 27,f 28,f 29,f 30,f 31,f 32,f 33,f 34,f 35,f 36,f 37,f 38,f 39]
noncomputable def X_view_39:Program:={ PySem.Challenge.pw_tailrooms_k91_written_and_read with main:={ PySem.Challenge.pw_tailrooms_k91_written_and_read.main with body:=[f 1,f 2,f 4,f 6,f 7,f 8,f 9,f 10,f 11,f 12,f 13,f 14,f 15,f 16,f 17,f 18,f 19,f 20,f 21,f 22,f 24,f 25,f 26,f 27,f 28,f 29,f 30,f 31,f 32,f 33,f 34,f 35,f 36,f 37,f 38,f 39,f 40,f 41,f 42,f 43] } }
noncomputable def X_sts_64:List Stmt:=[f 2,f 3,f 4,f 5,f 6,f 7,f 8,f 9,f 10,f 11,f 12]
noncomputable def X_sts_99:List Stmt:=[f 13,f 14,f 15,f 16,f 17,f 18,f 19,f 20,f 21,f 22,f 23,f 24,f 25,f 26]
noncomputable def c41:B:=n o1 (n o37 (w o74) u) (w o8)
noncomputable def c42:B:=n o23 (n o8 (w o1) u) (w o60)
noncomputable def c43:B:=n o1 (n o39 (w o77) u) (w o58)
noncomputable def c44:B:=n o18 (n o1 (w o75) u) (w o1)
noncomputable def c45:B:=n o8 (n o43 (w o80) u) (w o61)
noncomputable def c46:B:=n o21 (n o41 (w o8) u) (w o1)
noncomputable def c47:B:=n o8 (n o38 (w o1) u) (w o56)
noncomputable def c48:B:=n o1 (n o42 (w o79) u) (w o1)
noncomputable def c49:B:=n o20 (n o40 (w o1) u) (w o59)
noncomputable def c50:B:=n o19 (n o8 (w o76) u) (w o57)
noncomputable def c51:B:=n o24 (n o44 (w o81) u) (w o62)
noncomputable def c52:B:=n o22 (n o1 (w o78) u) (w o8)
noncomputable def X_tree_179:Params→BT:=(n boot_o_0 (n boot_o_1 (n o145 (n boot_o_7 (n o5 c41 (n o27 (w o46) (w o65))) (n o11 c42 (n o1 (w o51) (w o70)))) (n o1 (n o8 c43 (n o8 (w o8) (w o67))) (n o15 (n o25 (w o1) (w o63)) (n o35 (w o53) (w o72))))) (n boot_o_5 (n boot_o_9 (n o7 c44 (n o29 (w o48) (w o1))) (n o13 c45 (n o33 (w o1) (w o8)))) (n o3 (n o10 c46 (n o31 (w o1) (w o68))) (n o6 (n o1 (w o45) (w o8)) (n o8 (w o55) (w o1)))))) (n boot_o_2 (n boot_o_4 (n boot_o_8 (n o6 c47 (n o28 (w o47) (w o66))) (n o12 c48 (n o8 (w o52) (w o1)))) (n o146 (n o9 c49 (n o30 (w o49) (w o1))) (n o16 (n o26 (w o8) (w o1)) (n o1 (w o54) (w o73))))) (n boot_o_6 (n boot_o_10 (n o1 c50 (n o1 (w o1) (w o8))) (n o14 c51 (n o34 (w o8) (w o71)))) (n o4 (n o1 c52 (n o32 (w o50) (w o69))) (n o17 (n o8 (w o1) (w o64)) (n o36 (w o1) (w o8)))))))
noncomputable def c53:B:=n o1 (n o37 (w o74) (w o1)) (n o8 (w o8) u)
noncomputable def c54:B:=n o27 (n o46 (w o83) (w o120)) (n o65 (w o1) u)
noncomputable def c55:B:=n o23 (n o8 (w o1) (w o1)) (n o60 (w o97) u)
noncomputable def c56:B:=n o1 (n o51 (w o88) (w o1)) (n o70 (w o107) u)
noncomputable def c57:B:=n o1 (n o39 (w o77) (w o114)) (n o58 (w o95) u)
noncomputable def c58:B:=n o8 (n o8 (w o8) (w o8)) (n o67 (w o1) u)
noncomputable def c59:B:=n o25 (n o1 (w o1) (w o1)) (n o63 (w o100) u)
noncomputable def c60:B:=n o35 (n o53 (w o90) (w o128)) (n o72 (w o1) u)
noncomputable def c61:B:=n o18 (n o1 (w o75) (w o112)) (n o1 (w o1) u)
noncomputable def c62:B:=n o29 (n o48 (w o85) (w o122)) (n o1 (w o103) u)
noncomputable def c63:B:=n o8 (n o43 (w o80) (w o117)) (n o61 (w o98) u)
noncomputable def c64:B:=n o33 (n o1 (w o1) (w o126)) (n o8 (w o8) u)
noncomputable def c65:B:=n o21 (n o41 (w o8) (w o8)) (n o1 (w o1) u)
noncomputable def c66:B:=n o31 (n o1 (w o1) (w o124)) (n o68 (w o105) u)
noncomputable def c67:B:=n o1 (n o45 (w o82) (w o119)) (n o8 (w o8) u)
noncomputable def c68:B:=n o8 (n o55 (w o92) u) (n o1 (w o110) u)
noncomputable def c69:B:=n o8 (n o38 (w o1) (w o8)) (n o56 (w o93) u)
noncomputable def c70:B:=n o28 (n o47 (w o84) (w o121)) (n o66 (w o102) u)
noncomputable def c71:B:=n o1 (n o42 (w o79) (w o116)) (n o1 (w o1) u)
noncomputable def c72:B:=n o8 (n o52 (w o89) (w o8)) (n o1 (w o1) u)
noncomputable def c73:B:=n o20 (n o40 (w o1) (w o1)) (n o59 (w o96) u)
noncomputable def c74:B:=n o30 (n o49 (w o86) (w o123)) (n o1 (w o8) u)
noncomputable def c75:B:=n o26 (n o8 (w o8) (w o8)) (n o1 (w o1) u)
noncomputable def c76:B:=n o1 (n o54 (w o91) u) (n o73 (w o109) u)
noncomputable def c77:B:=n o19 (n o8 (w o76) (w o113)) (n o57 (w o94) u)
noncomputable def c78:B:=n o1 (n o1 (w o1) (w o1)) (n o8 (w o104) u)
noncomputable def c79:B:=n o24 (n o44 (w o81) (w o118)) (n o62 (w o99) u)
noncomputable def c80:B:=n o34 (n o8 (w o8) (w o127)) (n o71 (w o108) u)
noncomputable def c81:B:=n o22 (n o1 (w o78) (w o115)) (n o8 (w o8) u)
noncomputable def c82:B:=n o32 (n o50 (w o87) (w o125)) (n o69 (w o106) u)
noncomputable def c83:B:=n o8 (n o1 (w o1) (w o1)) (n o64 (w o101) u)
noncomputable def c84:B:=n o36 (n o1 (w o1) u) (n o8 (w o111) u)
noncomputable def X_tree_262:Params→BT:=(n boot_o_0 (n boot_o_1 (n o147 (n boot_o_7 (n o5 c53 c54) (n o11 c55 c56)) (n o1 (n o8 c57 c58) (n o15 c59 c60))) (n boot_o_5 (n boot_o_9 (n o7 c61 c62) (n o13 c63 c64)) (n o3 (n o10 c65 c66) (n o6 c67 c68)))) (n boot_o_2 (n boot_o_4 (n boot_o_8 (n o6 c69 c70) (n o12 c71 c72)) (n o148 (n o9 c73 c74) (n o16 c75 c76))) (n boot_o_6 (n boot_o_10 (n o1 c77 c78) (n o14 c79 c80)) (n o4 (n o1 c81 c82) (n o17 c83 c84)))))
noncomputable def c85:B:=n o1 (n o37 (w o74) (w o1)) (n o8 (w o8) (w o1))
noncomputable def c86:B:=n o27 (n o46 (w o83) (w o120)) (n o65 (w o1) (w o139))
noncomputable def c87:B:=n o23 (n o8 (w o1) (w o1)) (n o60 (w o97) (w o134))
noncomputable def c88:B:=n o1 (n o51 (w o88) (w o1)) (n o70 (w o107) (w o144))
noncomputable def c89:B:=n o1 (n o39 (w o77) (w o114)) (n o58 (w o95) (w o1))
noncomputable def c90:B:=n o8 (n o8 (w o8) (w o8)) (n o67 (w o1) (w o141))
noncomputable def c91:B:=n o25 (n o1 (w o1) (w o1)) (n o63 (w o100) (w o8))
noncomputable def c92:B:=n o18 (n o1 (w o75) (w o112)) (n o1 (w o1) (w o131))
noncomputable def c93:B:=n o29 (n o48 (w o85) (w o122)) (n o1 (w o103) (w o1))
noncomputable def c94:B:=n o8 (n o43 (w o80) (w o117)) (n o61 (w o98) (w o136))
noncomputable def c95:B:=n o21 (n o41 (w o8) (w o8)) (n o1 (w o1) (w o133))
noncomputable def c96:B:=n o31 (n o1 (w o1) (w o124)) (n o68 (w o105) (w o142))
noncomputable def c97:B:=n o1 (n o45 (w o82) (w o119)) (n o8 (w o8) (w o1))
noncomputable def c98:B:=n o8 (n o55 (w o92) (w o8)) (n o1 (w o110) u)
noncomputable def c99:B:=n o8 (n o38 (w o1) (w o8)) (n o56 (w o93) (w o130))
noncomputable def c100:B:=n o28 (n o47 (w o84) (w o121)) (n o66 (w o102) (w o140))
noncomputable def c101:B:=n o1 (n o42 (w o79) (w o116)) (n o1 (w o1) (w o135))
noncomputable def c102:B:=n o20 (n o40 (w o1) (w o1)) (n o59 (w o96) (w o8))
noncomputable def c103:B:=n o30 (n o49 (w o86) (w o123)) (n o1 (w o8) (w o1))
noncomputable def c104:B:=n o26 (n o8 (w o8) (w o8)) (n o1 (w o1) (w o137))
noncomputable def c105:B:=n o1 (n o54 (w o91) (w o1)) (n o73 (w o109) u)
noncomputable def c106:B:=n o19 (n o8 (w o76) (w o113)) (n o57 (w o94) (w o132))
noncomputable def c107:B:=n o1 (n o1 (w o1) (w o1)) (n o8 (w o104) (w o8))
noncomputable def c108:B:=n o24 (n o44 (w o81) (w o118)) (n o62 (w o99) (w o1))
noncomputable def c109:B:=n o22 (n o1 (w o78) (w o115)) (n o8 (w o8) (w o1))
noncomputable def c110:B:=n o32 (n o50 (w o87) (w o125)) (n o69 (w o106) (w o143))
noncomputable def c111:B:=n o8 (n o1 (w o1) (w o1)) (n o64 (w o101) (w o138))
noncomputable def c112:B:=n o36 (n o1 (w o1) (w o129)) (n o8 (w o111) u)
noncomputable def X_tree_292:Params→BT:=(n boot_o_0 (n boot_o_1 (n o0 (n boot_o_7 (n o5 c85 c86) (n o11 c87 c88)) (n o1 (n o8 c89 c90) (n o15 c91 c60))) (n boot_o_5 (n boot_o_9 (n o7 c92 c93) (n o13 c94 c64)) (n o3 (n o10 c95 c96) (n o6 c97 c98)))) (n boot_o_2 (n boot_o_4 (n boot_o_8 (n o6 c99 c100) (n o12 c101 c72)) (n o2 (n o9 c102 c103) (n o16 c104 c105))) (n boot_o_6 (n boot_o_10 (n o1 c106 c107) (n o14 c108 c80)) (n o4 (n o1 c109 c110) (n o17 c111 c112)))))
theorem z:(qH X_heap_293 && qS X_sts_263 && qS X_sts_180 && qP X_view_39 && qS X_sts_64 && qS X_sts_99 && qB X_tree_179 && qB X_tree_262 && qB X_tree_292)=true:=by k_qdec
end HD
noncomputable def PySem.W.Fast.tw5723941657831459933:PySem.Params→PySem.Heap:=PySem.W.Fast.tw6017172655588335258
theorem PySem.W.Fast.te5723941657831459933:HD.X_heap_293=PySem.W.Fast.tw5723941657831459933:=PySem.W.Fast.te6017172655588335258
noncomputable def PySem.W.Fast.tw1456718321348884730:List PySem.Stmt:=PySem.W.Fast.tw176794357430950782
theorem PySem.W.Fast.te1456718321348884730:HD.X_sts_263=PySem.W.Fast.tw1456718321348884730:=PySem.W.Fast.te176794357430950782
noncomputable def PySem.W.Fast.tw5503132302909871473:List PySem.Stmt:=PySem.W.Fast.tw5968371297009779447
theorem PySem.W.Fast.te5503132302909871473:HD.X_sts_180=PySem.W.Fast.tw5503132302909871473:=PySem.W.Fast.te5968371297009779447
noncomputable def PySem.W.Fast.tw2967399822030855549:PySem.Program:=PySem.W.Fast.tw18025189030367128546
theorem PySem.W.Fast.te2967399822030855549:HD.X_view_39=PySem.W.Fast.tw2967399822030855549:=PySem.W.Fast.te18025189030367128546
noncomputable def PySem.W.Fast.tw8109261874372566744:Nat:=0
theorem PySem.W.Fast.te8109261874372566744:True:=trivial
noncomputable def PySem.W.Fast.tw2381449041459676968:List PySem.Stmt:=PySem.W.Fast.tw3144021414328528523
theorem PySem.W.Fast.te2381449041459676968:HD.X_sts_64=PySem.W.Fast.tw2381449041459676968:=PySem.W.Fast.te3144021414328528523
noncomputable def PySem.W.Fast.tw5843063269691387225:List PySem.Stmt:=PySem.W.Fast.tw6694782487992915097
theorem PySem.W.Fast.te5843063269691387225:HD.X_sts_99=PySem.W.Fast.tw5843063269691387225:=PySem.W.Fast.te6694782487992915097
noncomputable def PySem.W.Fast.tw5234634395919388965:PySem.Params→PySem.W.BT:=PySem.W.Fast.tw2517025722759999374
theorem PySem.W.Fast.te5234634395919388965:HD.X_tree_179=PySem.W.Fast.tw5234634395919388965:=PySem.W.Fast.te2517025722759999374
noncomputable def PySem.W.Fast.tw15914464461254204735:PySem.Params→PySem.W.BT:=PySem.W.Fast.tw12825380204184946203
theorem PySem.W.Fast.te15914464461254204735:HD.X_tree_262=PySem.W.Fast.tw15914464461254204735:=PySem.W.Fast.te12825380204184946203
noncomputable def PySem.W.Fast.tw15934089423871397522:PySem.Params→PySem.W.BT:=PySem.W.Fast.tw4189060626149439904
theorem PySem.W.Fast.te15934089423871397522:HD.X_tree_292=PySem.W.Fast.tw15934089423871397522:=PySem.W.Fast.te4189060626149439904
open PySem PySem.W PyProof.Rows
set_option maxRecDepth 100000 in
set_option maxHeartbeats 0 in
theorem PySem.Challenge.cw_tailrooms_k91_written_and_read_holds : PySem.Challenge.rw_tailrooms_k91_written_and_read.Holds := by
  w_on; o_law; k_head; (case hw=>w_witness2)
  k_fill
  refine Law.walk (l:=PySem.Challenge.rw_tailrooms_k91_written_and_read) rfl rfl (fun w h Y=>PySem.W.kIn_of Y) ?F
  case F =>
    intro w mg fa h KX G hmg
    refine' Law.all_mk KX G hmg ?a0 ?l0 ?c0 ?k0 ?a1 ?l1 ?c1 ?k1 ?a2 ?l2 ?c2 ?k2 ?a3 ?l3 ?c3 ?k3 ?a4 ?l4 ?c4 ?k4 ?a5 ?l5 ?c5 ?k5 ?a6 ?l6 ?c6 ?k6 ?a7 ?l7 ?c7 ?k7 ?a8 ?l8 ?c8 ?k8 ?a9 ?l9 ?c9 ?k9 ?a10 ?l10 ?c10 ?k10 ?a11 ?l11 ?c11 ?k11 ?a12 ?l12 ?c12 ?k12 ?a13 ?l13 ?c13 ?k13 ?a14 ?l14 ?c14 ?k14 ?a15 ?l15 ?c15 ?k15 ?a16 ?l16 ?c16 ?k16 ?a17 ?l17 ?c17 ?k17 ?a18 ?l18 ?c18 ?k18 ?a19 ?l19 ?c19 ?k19 ?a20 ?l20 ?c20 ?k20 ?a21 ?l21 ?c21 ?k21 ?a22 ?l22 ?c22 ?k22 ?a23 ?l23 ?c23 ?k23 ?a24 ?l24 ?c24 ?k24 ?a25 ?l25 ?c25 ?k25 ?a26 ?l26 ?c26 ?k26 ?a27 ?l27 ?c27 ?k27 ?a28 ?l28 ?c28 ?k28 ?a29 ?l29 ?c29 ?k29 ?a30 ?l30 ?c30 ?k30 ?a31 ?l31 ?c31 ?k31 ?a32 ?l32 ?c32 ?k32 ?a33 ?l33 ?c33 ?k33 ?z_isinstance ?z_str ?z_all ?z_len ?z_int ?z_abs ?z_range ?z_max ?z_list ?z_tuple ?z_bool ?z_zip ?z_MOST ?z_MOST_FIGURES ?z_LAST_KEY ?z_MOST_WIDE
    (case a0=>k_is)
    (case l0=>k_is)
    (case c0=>k_is)
    (case k0=>k_is)
    (case a1=>k_is)
    (case l1=>k_is)
    (case c1=>k_is)
    (case k1=>k_is)
    (case a2=>k_is)
    (case l2=>k_is)
    (case c2=>k_is)
    (case k2=>k_is)
    (case a3=>k_is)
    (case l3=>k_is)
    (case c3=>k_is)
    (case k3=>k_is)
    (case a4=>k_is)
    (case l4=>k_is)
    (case c4=>k_is)
    (case k4=>k_is)
    (case a5=>k_is)
    (case l5=>k_is)
    (case c5=>k_is)
    (case k5=>k_is)
    (case a6=>k_is)
    (case l6=>k_is)
    (case c6=>k_is)
    (case k6=>k_is)
    (case a7=>k_is)
    (case l7=>k_is)
    (case c7=>k_is)
    (case k7=>k_is)
    (case a8=>k_is)
    (case l8=>k_is)
    (case c8=>k_is)
    (case k8=>k_is)
    (case a9=>k_is)
    (case l9=>k_is)
    (case c9=>k_is)
    (case k9=>k_is)
    (case a10=>k_is)
    (case l10=>k_is)
    (case c10=>k_is)
    (case k10=>k_is)
    (case a11=>k_is)
    (case l11=>k_is)
    (case c11=>k_is)
    (case k11=>k_is)
    (case a12=>k_is)
    (case l12=>k_is)
    (case c12=>k_is)
    (case k12=>k_is)
    (case a13=>k_is)
    (case l13=>k_is)
    (case c13=>k_is)
    (case k13=>k_is)
    (case a14=>k_is)
    (case l14=>k_is)
    (case c14=>k_is)
    (case k14=>k_is)
    (case a15=>k_is)
    (case l15=>k_is)
    (case c15=>k_is)
    (case k15=>k_is)
    (case a16=>k_is)
    (case l16=>k_is)
    (case c16=>k_is)
    (case k16=>k_is)
    (case a17=>k_is)
    (case l17=>k_is)
    (case c17=>k_is)
    (case k17=>k_is)
    (case a18=>k_is)
    (case l18=>k_is)
    (case c18=>k_is)
    (case k18=>k_is)
    (case a19=>k_is)
    (case l19=>k_is)
    (case c19=>k_is)
    (case k19=>k_is)
    (case a20=>k_is)
    (case l20=>k_is)
    (case c20=>k_is)
    (case k20=>k_is)
    (case a21=>k_is)
    (case l21=>k_is)
    (case c21=>k_is)
    (case k21=>k_is)
    (case a22=>k_is)
    (case l22=>k_is)
    (case c22=>k_is)
    (case k22=>k_is)
    (case a23=>k_is)
    (case l23=>k_is)
    (case c23=>k_is)
    (case k23=>k_is)
    (case a24=>k_is)
    (case l24=>k_is)
    (case c24=>k_is)
    (case k24=>k_is)
    (case a25=>k_is)
    (case l25=>k_is)
    (case c25=>k_is)
    (case k25=>k_is)
    (case a26=>k_is)
    (case l26=>k_is)
    (case c26=>k_is)
    (case k26=>k_is)
    (case a27=>k_is)
    (case l27=>k_is)
    (case c27=>k_is)
    (case k27=>k_is)
    (case a28=>k_is)
    (case l28=>k_is)
    (case c28=>k_is)
    (case k28=>k_is)
    (case a29=>k_is)
    (case l29=>k_is)
    (case c29=>k_is)
    (case k29=>k_is)
    (case a30=>k_is)
    (case l30=>k_is)
    (case c30=>k_is)
    (case k30=>k_is)
    (case a31=>k_is)
    (case l31=>k_is)
    (case c31=>k_is)
    (case k31=>k_is)
    (case a32=>k_is)
    (case l32=>k_is)
    (case c32=>k_is)
    (case k32=>k_is)
    (case a33=>k_is)
    (case l33=>k_is)
    (case c33=>k_is)
    (case k33=>k_is)
    (case z_isinstance=>k_is)
    (case z_str=>k_is)
    (case z_all=>k_is)
    (case z_len=>k_is)
    (case z_int=>k_is)
    (case z_abs=>k_is)
    (case z_range=>k_is)
    (case z_max=>k_is)
    (case z_list=>k_is)
    (case z_tuple=>k_is)
    (case z_bool=>k_is)
    (case z_zip=>k_is)
    (case z_MOST=>k_is)
    (case z_MOST_FIGURES=>k_is)
    (case z_LAST_KEY=>k_is)
    (case z_MOST_WIDE=>k_is)
