import PyProof.Rows.All
import Wide.All
import OpenK.AllK
import Wide.FinOn
import PyProof.EqAt
import PyProof.EqKinds
import PyProof.TupleCall
import PyProof.ExcArgsOwn
import PyProof.ExcAttrAll.ValueError
import PyProof.ExcBaseAll.ValueError
import PyProof.ExcClass2
import PyProof.ExcInit
import PyProof.InstStore
import PyProof.InstStoreFacts
import PyProof.NsDelKeeps
import PyProof.NsMap
import PyProof.Rows.CatchOwn
import PyProof.StationsW
import PyProof.StrBlock2
import PyProof.StrBlockI
import PySem.Challenge.RW_tailrooms_k92_texts_spoilt_anywhere
set_option Elab.async false
set_option linter.all false
set_option maxRecDepth 100000
local macro_rules | `(tactic| omega)=>`(tactic| first | lia | omega (config:={}))
namespace L2
open PySem PySem.Spec PyProof.Rows
abbrev Key:=Sum Int Str
def keyIs:Key→Value→Bool
 | .inl k,v=>Value.isInt k v
 | .inr x,v=>Value.isStrOf x v
def keyH (w:World):Key→Int
 | .inl k=>hashInt k
 | .inr x=>hashStr w x
theorem keyIs_shape:∀{k:Key}{v:Value},keyIs k v=true→(∃i t,k=Sum.inl i∧v=Value.int i t) ∨(∃x t,k=Sum.inr x∧v=Value.str x t)
 | .inl i,v,h=>by
  obtain⟨t,e⟩:=Value.isInt_shape (k:=i) (v:=v) h
  exact .inl ⟨i,t,rfl,e⟩
 | .inr x,v,h=>by
  obtain⟨t,e⟩:=Value.isStrOf_shape (x:=x) (v:=v) h
  exact .inr ⟨x,t,rfl,e⟩
theorem key_ll (a b:Int):decide ((Sum.inl a:Key)=Sum.inl b) =(a == b):=by
 by_cases e:a=b
 ·subst e;simp
 ·have h:¬(Sum.inl a:Key)=Sum.inl b:=fun q=>e (Sum.inl.inj q)
  rw[decide_eq_false h]
  exact(beq_eq_false_iff_ne.mpr e).symm
theorem key_rr (a b:Str):decide ((Sum.inr a:Key)=Sum.inr b)=decide (a=b):=by
 by_cases e:a=b
 ·subst e;simp
 ·have h:¬(Sum.inr a:Key)=Sum.inr b:=fun q=>e (Sum.inr.inj q)
  rw[decide_eq_false h,decide_eq_false e]
theorem key_lr (a:Int) (b:Str):decide ((Sum.inl a:Key)=Sum.inr b)=false:=decide_eq_false (fun q=>nomatch q)
theorem key_rl (a:Str) (b:Int):decide ((Sum.inr a:Key)=Sum.inl b)=false:=decide_eq_false (fun q=>nomatch q)
def mixKind (prog:Program) (w:World):PySem.KeyKind prog w Key where
 is:=keyIs
 hash:=keyH w
 inj:=fun v a b ha hb=>by
  rcases keyIs_shape ha with⟨i,t,rfl,rfl⟩|⟨x,t,rfl,rfl⟩
  ·rcases keyIs_shape hb with⟨j,u,rfl,e⟩|⟨y,u,rfl,e⟩
   ·injection e with e1 _;rw[e1]
   ·exact nomatch e
  ·rcases keyIs_shape hb with⟨j,u,rfl,e⟩|⟨y,u,rfl,e⟩
   ·exact nomatch e
   ·injection e with e1 _;rw[e1]
 byValue:=fun k v h=>by
  rcases keyIs_shape h with⟨i,t,rfl,rfl⟩|⟨x,t,rfl,rfl⟩ <;> rfl
 pyHash:=fun hv h=>by
  rcases keyIs_shape hv with⟨i,t,rfl,rfl⟩|⟨x,t,rfl,rfl⟩
  ·exact wpAny_pyHash_int h
  ·exact wpAny_pyHash_str h
 eqBool:=fun hu hv h=>by
  rcases keyIs_shape hu with⟨i,t,rfl,rfl⟩|⟨x,t,rfl,rfl⟩
  ·rcases keyIs_shape hv with⟨j,u,rfl,rfl⟩|⟨y,u,rfl,rfl⟩
   ·rw[key_ll]at h;exact wpAny_eqBool_int h
   ·rw[key_lr]at h;exact SeqAt.EqAt.int_str i t y u _ _ _ _ h
  ·rcases keyIs_shape hv with⟨j,u,rfl,rfl⟩|⟨y,u,rfl,rfl⟩
   ·rw[key_rl]at h;exact SeqAt.EqAt.str_int x t j u _ _ _ _ h
   ·rw[key_rr]at h;exact wpAny_eqBool_str h
 «strs»:=fun k x t v h=>by
  rcases keyIs_shape h with⟨i,u,rfl,e⟩|⟨y,u,rfl,e⟩
  ·exact nomatch e
  ·injection e with e1 _
   subst e1
   cases v <;> rfl
end L2
namespace L2
open PySem PySem.Spec PyProof.Rows
inductive V where
 | non|bl (b:Bool)|int (i:Int)|str (x:Str)|byt (b:Array UInt8)|flt (b:UInt64)|ref (a:Addr)|ty (n:String)
 deriving DecidableEq
def RelV:V→Value→Prop
 | .non,u=>u=Value.none
 | .bl b,u=>u=Value.bool b
 | .int i,u=>∃t,u=Value.int i t
 | .str x,u=>∃t,u=Value.str x t
 | .byt b,u=>∃t,u=Value.bytes b t
 | .flt b,u=>∃t,u=Value.float b t
 | .ref a,u=>u=Value.ref a
 | .ty n,u=>u=Value.type n
abbrev Vals:List V→List Value→Prop:=Paired RelV
theorem Vals.length {xs:List V}{us:List Value}(r:Vals xs us):xs.length=us.length:=Paired.length r
theorem Vals.get:∀{xs:List V}{us:List Value}{i:Nat}{x:V},Vals xs us→xs[i]? = some x→∃u,us[i]? = some u∧RelV x u
 | _,_,_,_,.nil,e=>by simp at e
 | _,_,0,_,.cons r _,e=>by simp at e;subst e;exact⟨_,rfl,r⟩
 | _,_,i+1,x,.cons _ t,e=>by
  obtain⟨u,h1,h2⟩:=Vals.get (i:=i) (x:=x) t (by simpa using e)
  exact⟨u,by simpa using h1,h2⟩
theorem Vals.set {x:V}{u:Value}(r:RelV x u):∀{xs:List V}{us:List Value}(i:Nat),Vals xs us→Vals (xs.set i x) (us.set i u)
 | _,_,_,.nil=>.nil
 | _,_,0,.cons _ t=>.cons r t
 | _,_,i+1,.cons q t=>.cons q (Vals.set r i t)
theorem Vals.append:∀{xs ys:List V}{us ws:List Value},Vals xs us→Vals ys ws→Vals (xs++ys) (us++ws)
 | _,_,_,_,.nil,s=>s
 | _,_,_,_,.cons r t,s=>.cons r (Vals.append t s)
theorem Vals.take:∀{xs:List V}{us:List Value}(n:Nat),Vals xs us→Vals (xs.take n) (us.take n)
 | _,_,0,_=>.nil
 | _,_,_+1,.nil=>.nil
 | _,_,n+1,.cons r t=>.cons r (Vals.take n t)
theorem Vals.drop:∀{xs:List V}{us:List Value}(n:Nat),Vals xs us→Vals (xs.drop n) (us.drop n)
 | _,_,0,r=>r
 | _,_,_+1,.nil=>.nil
 | _,_,n+1,.cons _ t=>Vals.drop n t
def RelO:Option V→Option Value→Prop
 | some v,some u=>RelV v u
 | none,none=>True
 | _,_=>False
def KV {κ:Type}:List (κ×V)→List (κ×Value)→Prop:=Paired fun(p:κ×V) (q:κ×Value)=>p.1=q.1∧RelV p.2 q.2
def kV:Key→V
 | .inl i=>.int i
 | .inr x=>.str x
inductive HO where
 | lst (xs:List V)
 | tup (xs:List V)
 | dK (kvs:List (Key×V))|dT (kvs:List (List Key×V))
 | set (S:Int→Bool) (n:Nat)
 | ins (C dx:Addr) (fs:List (Str×V))
 | own (x:Addr)
 | xd (fs:List (Str×V))
 | met (f x:Addr)
 | rng (lo hi:Int)
 | frz (o:Obj) (u:HO)
 | tbl (ps:Array Value)
 | ext (φ:Heap→Prop)
abbrev Hp:=Addr→Option HO
def upd (H:Hp) (a:Addr) (o:HO):Hp:=fun b=>if b=a then some o else H b
theorem upd_same {H:Hp}{a:Addr}{o:HO}:upd H a o a=some o:=by unfold upd;rw[if_pos rfl]
theorem upd_ne {H:Hp}{a b:Addr}{o:HO}(h:b≠a):upd H a o b=H b:=by unfold upd;rw[if_neg h]
theorem ne_of {H:Hp}{a b:Addr}{o u:HO}(h:H a=some o) (h':H b=some u) (d:o≠u):a≠b:=by
 intro e;subst e;rw[h]at h';exact d (Option.some.inj h')
theorem ne_of_none {H:Hp}{a b:Addr}{o:HO}(h:H a=some o) (h':H b=none):a≠b:=by
 intro e;subst e;rw[h]at h';cases h'
section
variable (P:Program) (w:World)
def ObjOk (H:Hp) (h:Heap) (a:Addr):HO→Prop
 | .lst xs=>xs.length≤sizeLine∧∃(its:List Value) (n:Nat),Vals xs its∧h.get? a=some { cls:=.type "list",data:=.seq its.toArray n }
 | .tup xs=>xs.length≤sizeLine∧∃its:List Value,Vals xs its∧IsTup h a its.toArray
 | .dK kvs=>kvs.length≤sizeLine∧(a == sysModules)=false∧∃vs,KV kvs vs∧h.DictOf (mixKind P w) a vs
 | .dT kvs=>kvs.length≤sizeLine∧(a == sysModules)=false∧∃xs:List (List Key×Addr×Value),
   Paired (fun(p:List Key×V) (q:List Key×Addr×Value)=>p.1=q.1∧H q.2.1=some (.tup (p.1.map kV))∧RelV p.2 q.2.2) kvs xs ∧
   ∃o es ep,h.get? a=some o∧o.ExactDict∧o.data = .dict es ep∧es.toList=xs.map (entryOfKey (tupleKind (mixKind P w)))∧(xs.map (·.1)).Nodup
 | .set S n=>h.SetOf (intKind P w) a S n
 | .ins C dx fs=>H dx=some (.own a)∧fs.length≤1000∧dx≠a∧h.get? a=some (PySem.W.instObj C dx) ∧
   ∃mA,h.Ns1 dx mA∧(∀f,RelO (fs.lookup f) (mA f))∧PySem.Within mA (fs.map (·.1))
 | .own _=>∃o,h.get? a=some o
 | .xd fs=>∃mA,h.Ns1 a mA∧∀f,RelO (fs.lookup f) (mA f)
 | .rng lo hi=>∃t u v,h.get? a=some { cls:=.type "range",data:=.fields #[.int lo t,.int hi u,.int 1 v] }
 | .frz o u=>h.get? a=some o∧ObjOk H h a u
 | .tbl ps=>h.get? a=some { cls:=.none,data:=.fields ps }
 | .met f x=>h.get? a=some (PySem.W.methodObj (.ref f) (.ref x))
 | .ext φ=>φ h∧(∃o,h.get? a=some o)∧∀h1 h2:Heap,φ h1→(∀o,h1.get? a=some o→h2.get? a=some o)→φ h2
def HOk (H:Hp) (h:Heap):Prop:=∀a o,H a=some o→ObjOk P w H h a o
end
section
variable {P:Program}{w:World}{H H':Hp}{h h':Heap}{a:Addr}{o:HO}
theorem ObjOk.lt (x:ObjOk P w H h a o):a<h.objs.size:=by
 cases o with
 | lst xs=>obtain⟨_,_,_,_,e⟩:=x;exact Heap.lt_size e
 | tup xs=>obtain⟨_,_,_,p⟩:=x;exact p.lt
 | dK kvs=>obtain⟨_,_,_,_,o,_,_,e,_⟩:=x;exact Heap.lt_size e
 | dT kvs=>obtain⟨_,_,_,_,o,_,_,e,_⟩:=x;exact Heap.lt_size e
 | set S n=>obtain⟨o,_,_,_,e,_⟩:=x;exact Heap.lt_size e
 | ins C dx fs=>obtain⟨_,_,_,e,_⟩:=x;exact Heap.lt_size e
 | own y=>obtain⟨_,e⟩:=x;exact Heap.lt_size e
 | xd fs=>obtain⟨_,⟨_,_,_,e,_⟩,_⟩:=x;exact Heap.lt_size e
 | rng lo hi=>obtain⟨_,_,_,e⟩:=x;exact Heap.lt_size e
 | frz ob u=>obtain⟨e,_⟩:=x;exact Heap.lt_size e
 | tbl ps=>exact Heap.lt_size (show h.get? a=some _ from x)
 | met f y=>exact Heap.lt_size (show h.get? a=some _ from x)
 | ext φ=>obtain⟨_,⟨_,e⟩,_⟩:=x;exact Heap.lt_size e
theorem Paired.mapP {α β:Type}{F G:α→β→Prop}:∀{l₁:List α}{l₂:List β},Paired F l₁ l₂→(∀a b,F a b→G a b)→Paired G l₁ l₂
 | _,_,.nil,_=>.nil
 | _,_,.cons r t,f=>.cons (f _ _ r) (Paired.mapP t f)
theorem ObjOk.stay (x:ObjOk P w H h a o) (k:∀b u,(b=a∨H b=some (.own a))→h.get? b=some u→h'.get? b=some u)
  (ho:∀b,H b=some (.own a)→H' b=some (.own a)) (ht:∀b xs,H b=some (.tup xs)→H' b=some (.tup xs)):ObjOk P w H' h' a o:=by
 induction o with
 | lst xs=>obtain⟨z,its,n,r,e⟩:=x;exact⟨z,its,n,r,k _ _ (.inl rfl) e⟩
 | tup xs=>obtain⟨z,its,r,ob,e,c⟩:=x;exact⟨z,its,r,ob,k _ _ (.inl rfl) e,c⟩
 | dK kvs=>obtain⟨z,y,vs,r,ob,es,ep,e,c⟩:=x;exact⟨z,y,vs,r,ob,es,ep,k _ _ (.inl rfl) e,c⟩
 | dT kvs =>
  obtain⟨z,y,xs,r,ob,es,ep,e,c⟩:=x
  exact⟨z,y,xs,Paired.mapP r fun p q z=>⟨z.1,ht _ _ z.2.1,z.2.2⟩,ob,es,ep,k _ _ (.inl rfl) e,c⟩
 | set S n=>obtain⟨ob,es,ep,t,e,c⟩:=x;exact⟨ob,es,ep,t,k _ _ (.inl rfl) e,c⟩
 | ins C dx fs =>
  obtain⟨d,z,ne,e,mA,⟨od,es,ep,e2,c⟩,r⟩:=x
  exact⟨ho _ d,z,ne,k _ _ (.inl rfl) e,mA,⟨od,es,ep,k _ _ (.inr d) e2,c⟩,r⟩
 | own y=>obtain⟨ob,e⟩:=x;exact⟨ob,k _ _ (.inl rfl) e⟩
 | xd fs=>obtain⟨mA,⟨od,es,ep,e,c⟩,r⟩:=x;exact⟨mA,⟨od,es,ep,k _ _ (.inl rfl) e,c⟩,r⟩
 | rng lo hi=>obtain⟨t,u,v,e⟩:=x;exact⟨t,u,v,k _ _ (.inl rfl) e⟩
 | frz ob u ih=>obtain⟨e,q⟩:=x;exact⟨k _ _ (.inl rfl) e,ih q⟩
 | tbl ps =>
  have e:h.get? a=some { cls:=.none,data:=.fields ps }:=x
  show h'.get? a=some { cls:=.none,data:=.fields ps }
  exact k a _ (.inl rfl) e
 | met f y =>
  have e:h.get? a=some (PySem.W.methodObj (.ref f) (.ref y)):=x
  show h'.get? a=some (PySem.W.methodObj (.ref f) (.ref y))
  exact k a _ (.inl rfl) e
 | ext φ=>obtain⟨p,⟨o,e⟩,st⟩:=x;exact⟨st _ _ p fun o q=>k _ _ (.inl rfl) q,⟨o,k _ _ (.inl rfl) e⟩,st⟩
theorem HOk.lt (x:HOk P w H h) (e:H a=some o):a<h.objs.size:=(x a o e).lt
theorem HOk.fresh (x:HOk P w H h) (e:h.objs.size≤a):H a=none:=by
 cases q:H a with
 | none=>rfl
 | some u=>exact absurd (Nat.lt_of_lt_of_le (x.lt q) e) (Nat.lt_irrefl _)
theorem HOk.kept (x:HOk P w H h) (k:∀b u,h.get? b=some u→h'.get? b=some u):HOk P w H h':=fun a o e =>
 (x a o e).stay (fun b u _ q=>k b u q) (fun _ q=>q) fun _ _ q=>q
theorem HOk.laid (x:HOk P w H h) (k:∀b u,h.get? b=some u→h'.get? b=some u) (hp:h.objs.size≤a) (new:ObjOk P w (upd H a o) h' a o):HOk P w (upd H a o) h':=fun b u e=>by
 have hn:=x.fresh hp
 by_cases hb:b=a
 ·subst hb;rw[upd_same]at e;cases e;exact new
 ·rw[upd_ne hb]at e
  exact(x b u e).stay (fun c v _ q=>k c v q) (fun c q=>by rw[upd_ne (ne_of_none q hn)];exact q) fun c xs q=>by rw[upd_ne (ne_of_none q hn)];exact q
end
def Rd (H:Hp) (a:Addr) (u:HO):Prop:=H a=some u ∨ ∃o,H a=some (.frz o u)
theorem Rd.ok {P:Program}{w:World}{H:Hp}{h:Heap}{a:Addr}{u:HO}(r:Rd H a u) (x:HOk P w H h):ObjOk P w H h a u:=by
 rcases r with r|⟨o,r⟩
 ·exact x a u r
 ·obtain⟨_,q⟩:=x a _ r
  exact q
def Mut:Option HO→Prop
 | some (.lst _)=>True
 | some (.dK _)=>True
 | some (.dT _)=>True
 | some (.set _ _)=>True
 | some (.ins _ _ _)=>True
 | some (.ext _)=>True
 | _=>False
section
variable {P:Program}{w:World}{H:Hp}{h h':Heap}{x e:Addr}{o':HO}
theorem HOk.write (ok:HOk P w H h) (mu:Mut (H x)) (he:e=x∨H e=some (.own x)) (k:∀b u,b≠e→h.get? b=some u→h'.get? b=some u) (heo:∃u,h'.get? e=some u)
  (new:ObjOk P w (upd H x o') h' x o'):HOk P w (upd H x o') h':=fun b u q=>by
 have nown:∀c y,H c=some (.own y)→c≠x:=fun c y r z=>by subst z;rw[r]at mu;exact mu
 have ntup:∀c xs,H c=some (.tup xs)→c≠x:=fun c xs r z=>by subst z;rw[r]at mu;exact mu
 by_cases hb:b=x
 ·subst hb;rw[upd_same]at q;cases q;exact new
 ·rw[upd_ne hb]at q
  by_cases hbe:b=e
  ·have q':H b=some (.own x):=by
    rcases he with z|z
    ·exact absurd (hbe.trans z) hb
    ·rw[hbe];exact z
   rw[q]at q';cases q'
   obtain⟨v,hv⟩:=heo
   exact⟨v,by rw[hbe];exact hv⟩
  ·refine(ok b u q).stay (fun c v hc r=>k c v ?_ r) (fun c r=>by rw[upd_ne (nown c b r)];exact r) fun c xs r=>by rw[upd_ne (ntup c xs r)];exact r
   rcases hc with rfl|hc
   ·exact hbe
   ·rintro rfl
    rcases he with z|z
    ·exact nown c b hc z
    ·rw[hc]at z;cases z;exact hb rfl
end
structure Un (fs ex:List Addr) (H H':Hp) (h h':Heap):Prop where
 keep:∀b o,h.get? b=some o→H b=none→b∉fs→b∉ex→h'.get? b=some o
 slot:∀b o,h.get? b=some o→H b=none→b∈fs→b∉ex→∃sl,h'.get? b=some { o with slots:=sl }
 free:∀b o,h.get? b=some o→H b=none→b∉ex→H' b=none
 there:∀b o,h.get? b=some o→b∉ex→∃o',h'.get? b=some o'
 tups:∀b xs,H b=some (.tup xs)→H' b=some (.tup xs)
 frzs:∀b o u,H b=some (.frz o u)→H' b=some (.frz o u)
 tbls:∀b ps,H b=some (.tbl ps)→∃more,H' b=some (.tbl (ps++more))
section
variable {fs fs' ex ex':List Addr}{H H1 H2:Hp}{h h1 h2 h':Heap}{a x e:Addr}{o:HO}
theorem Un.any (u:Un fs ex H H1 h h1) {b:Addr}{ob:Obj}(q:h.get? b=some ob) (n:H b=none) (hx:b∉ex):∃sl,h1.get? b=some { ob with slots:=sl }:=by
 by_cases hb:b∈fs
 ·exact u.slot b ob q n hb hx
 ·exact⟨ob.slots,u.keep b ob q n hb hx⟩
theorem Un.kept (k:∀b u,h.get? b=some u→h'.get? b=some u):Un fs ex H H h h' :=
 ⟨fun b ob q _ _ _=>k b ob q,fun b ob q _ _ _=>⟨ob.slots,k b ob q⟩,fun _ _ _ n _=>n,fun b ob q _=>⟨ob,k b ob q⟩,fun _ _ q=>q,fun _ _ _ q=>q,fun _ ps q=>⟨#[],by rw[q];simp⟩⟩
theorem Un.refl:Un fs ex H H h h:=Un.kept fun _ _ q=>q
theorem Un.laid (k:∀b u,h.get? b=some u→h'.get? b=some u) (hp:h.objs.size≤a) (hn:H a=none):Un fs ex H (upd H a o) h h' where
 keep:=fun b u q _ _ _=>k b u q
 slot:=fun b u q _ _ _=>⟨u.slots,k b u q⟩
 free:=fun b u q n _=>by rw[upd_ne (Nat.ne_of_lt (Nat.lt_of_lt_of_le (Heap.lt_size q) hp))];exact n
 there:=fun b u q _=>⟨u,k b u q⟩
 tups:=fun b xs q=>by rw[upd_ne (ne_of_none q hn)];exact q
 frzs:=fun b u xs q=>by rw[upd_ne (ne_of_none q hn)];exact q
 tbls:=fun b ps q=>⟨#[],by rw[upd_ne (ne_of_none q hn),q];simp⟩
theorem Un.write (mu:Mut (H x)) (he:e=x∨H e=some (.own x)) (k:∀b u,b≠e→h.get? b=some u→h'.get? b=some u) (heo:∃u,h'.get? e=some u):Un fs ex H (upd H x o) h h':=by
 have hx:∀b,H b=none→b≠x:=fun b n z=>by subst z;rw[n]at mu;exact mu
 have hb:∀b,H b=none→b≠e:=fun b n z=>by
  subst z
  rcases he with r|r
  ·exact hx b n r
  ·rw[n]at r;cases r
 have hm:∀b u,H b=some u→¬ Mut (some u)→b≠x:=fun b u q nm z=>by subst z;rw[q]at mu;exact nm mu
 refine⟨fun b u q n _ _=>k b u (hb b n) q,fun b u q n _ _=>⟨u.slots,k b u (hb b n) q⟩,fun b u q n _=>by rw[upd_ne (hx b n)];exact n,fun b u q _=>?_,
  fun b xs q=>by rw[upd_ne (hm b _ q fun z=>z)];exact q,fun b u xs q=>by rw[upd_ne (hm b _ q fun z=>z)];exact q,fun b ps q=>⟨#[],by rw[upd_ne (hm b _ q fun z=>z),q];simp⟩⟩
 by_cases hbe:b=e
 ·subst hbe;exact heo
 ·exact⟨u,k b u hbe q⟩
end
def trk (h:Heap) (H:Hp):List Addr:=(List.range h.objs.size).filter fun a=>(H a).isSome
def hidT (h:Heap) (H:Hp):Heap:=PySem.W.hideAll h (trk h H)
theorem hidT_size (h:Heap) (H:Hp):(hidT h H).objs.size=h.objs.size:=PySem.W.hideAll_size _ _
theorem hidT_get {h:Heap}{H:Hp}{b:Addr}{o:Obj}(e:h.get? b=some o) (n:H b=none):(hidT h H).get? b=some o :=
 PySem.W.hideAll_get _ e fun hm=>by
  have q:(H b).isSome=true:=(List.mem_filter.mp hm).2
  rw[n]at q;simp at q
theorem of_hidT {h:Heap}{H:Hp}{b:Addr}{o:Obj}(e:(hidT h H).get? b=some o):h.get? b=some o∧H b=none:=by
 have e':h.get? b=some o:=PySem.W.of_hideAll (trk h H) e
 refine⟨e',?_⟩
 cases q:H b with
 | none=>rfl
 | some x =>
  have hm:b∈trk h H:=List.mem_filter.mpr ⟨List.mem_range.mpr (Heap.lt_size e'),by simp[q]⟩
  have z:(hidT h H).get? b=none:=PySem.W.hideAll_none (trk h H) hm
  rw[z]at e;cases e
def allNews (g h:Heap) (L:Addr):List (Addr×Obj):=(List.range h.objs.size).filterMap fun a=>if a=L ∨(g.get? a).isSome=true then none else(h.get? a).map fun o=>(a,o)
def rest (g h:Heap) (L d:Addr):List (Addr×Obj):=(allNews g h L).filter fun p=>decide (p.1≠d)
end L2
namespace L2
open PySem PySem.Spec PyProof.Rows
structure Mod (K:PySem.W.Frag) (mg:Str→Option Value) (base:Heap):Prop where
 kin:K.In base
 glob:base.Ns mainGlobals mg
 blt:∃mb,base.Ns builtinsNs mb∧∀x:Str,x ≠ "__name__"→mb x=bootBuiltins x
 nolimit:base.NoLimit
structure Cx where
 prog:Program
 w:World
 K:PySem.W.Frag
 mg:Str→Option Value
 base:Heap
 A:Around
 N:List Str
 s₀:Shared
 H₀:Hp
 env:Env
 outer:List Env
 stack:List Env
 ex:List Addr
 fn:Str→Bool
 calm:Bool
 pn:List (Addr×Obj)
 xe:Value→Shared→Prop
def frs (l:List Env):List Addr:=l.filterMap (·.frame)
abbrev Cx.fs (X:Cx):List Addr:=frs X.outer
def Vis (sc:Scope) (x:Str):Prop:=sc.names.lookup x=some .local∨sc.names.lookup x=some .cell∨sc.names.lookup x=some .free
def Loc (sc:Scope) (x:Str):Prop:=sc.names.lookup x=some .local∨sc.names.lookup x=some .cell
def Look (env:Env) (h:Heap) (m:Str→Option Value) (x:Str) (u:Value):Prop :=
 (env.kindOf x=some .local∧m x=some u) ∨((env.kindOf x=some .cell∨env.kindOf x=some .free)∧∃c,env.cells.lookup x=some c∧h.IsCell c (some u))
structure Cx.Ok (X:Cx):Prop where
 mod:Mod X.K X.mg X.base
 kind:X.env.scope.kind = .function
 glob:X.env.globals=mainGlobals
 blt:X.env.builtins=builtinsNs
 above:X.s₀.heap.objs.size≤X.env.locals
 inj:∀x y c,X.env.cells.lookup x=some c→X.env.cells.lookup y=some c→x=y
 has:∀x,(X.env.kindOf x=some .cell∨X.env.kindOf x=some .free)→∃c,X.env.cells.lookup x=some c
 cab:∀x c,X.fn x=true→X.env.cells.lookup x=some c→X.s₀.heap.objs.size≤c
 hd:X.calm=true→X.A.handled=none
 frames:X.A.frames=some X.stack
 stk:X.stack=X.outer ∨(X.stack=X.env::X.outer∧X.env.frame=some X.env.locals)
 exf:∀b∈X.ex,b≠X.env.locals∧∀x c,X.env.cells.lookup x=some c→c≠b
 bs:∀b o,X.base.get? b=some o→X.s₀.heap.get? b=some o∧X.H₀ b=none
 bsz:X.base.objs.size≤X.s₀.heap.objs.size
 noex:∀b o,X.base.get? b=some o→b∉X.ex
 exfs:∀b∈X.ex,b∉X.fs
 funs:X.s₀.heap.FunFrames X.base X.outer
 frf:∀b∈X.fs,X.H₀ b=none
structure Inv (X:Cx) (pins:List (Addr×Obj)) (σ:List (Option V)) (H:Hp) (s:Shared):Prop where
 ok:X.Ok
 os:s.os=X.s₀.os
 bare:AllBare s.gens
 base:Un X.fs X.ex X.H₀ H X.s₀.heap s.heap
 loc:∃m,s.heap.Ns X.env.locals m∧∀(i:Nat) (x:Str) (v:V),X.N[i]? = some x→σ[i]? = some (some v)→Vis X.env.scope x→∃u,RelV v u∧Look X.env s.heap m x u
 cell:∀x c,X.env.cells.lookup x=some c→∃v,s.heap.IsCell c v
 free:H X.env.locals=none
 freeC:∀x c,X.env.cells.lookup x=some c→H c=none
 pin:∀p∈X.pn++pins,s.heap.get? p.1=some p.2∧H p.1=none∧p.1≠X.env.locals∧p.1∉X.fs∧∀v,p.2.data ≠ .cell v
 hok:HOk X.prog X.w H s.heap
 len:σ.length=X.N.length
section
variable {X:Cx}{pins:List (Addr×Obj)}{σ:List (Option V)}{H H':Hp}{s:Shared}{h':Heap}
theorem Cx.Ok.nofr (ok:X.Ok) {b:Addr}{o:Obj}(e:X.base.get? b=some o):b∉X.fs:=fun hb=>by
 have:=(ok.funs.mem hb).1
 rw[e]at this;cases this
theorem Inv.bs (I:Inv X pins σ H s):∀b o,X.base.get? b=some o→s.heap.get? b=some o∧H b=none:=fun b o e =>
 ⟨I.base.keep b o (I.ok.bs b o e).1 (I.ok.bs b o e).2 (I.ok.nofr e) (I.ok.noex b o e),I.base.free b o (I.ok.bs b o e).1 (I.ok.bs b o e).2 (I.ok.noex b o e)⟩
theorem Inv.bk (I:Inv X pins σ H s):∀b o,X.base.get? b=some o→s.heap.get? b=some o:=fun b o e=>(I.bs b o e).1
theorem Inv.mod (I:Inv X pins σ H s):Mod X.K X.mg X.base:=I.ok.mod
theorem Inv.kIn (I:Inv X pins σ H s):X.K.In s.heap:=I.ok.mod.kin.keeps I.bk
theorem Inv.lt (I:Inv X pins σ H s):X.env.locals<s.heap.objs.size:=let ⟨_,hn,_⟩:=I.loc;hn.lt
theorem Inv.sz (I:Inv X pins σ H s):X.s₀.heap.objs.size≤s.heap.objs.size:=Nat.le_trans I.ok.above (Nat.le_of_lt I.lt)
theorem Inv.nofs (I:Inv X pins σ H s) {a:Addr}(h:s.heap.objs.size≤a):a∉X.fs:=fun hb=>by
 obtain⟨_,o,ho,_⟩:=I.ok.funs.mem hb
 exact absurd (Nat.lt_of_lt_of_le (Heap.lt_size ho) (Nat.le_trans I.sz h)) (Nat.lt_irrefl _)
theorem Inv.cne (I:Inv X pins σ H s):∀x c,X.env.cells.lookup x=some c→c≠X.env.locals:=fun x c e z=>by
 obtain⟨v,o,ho,hd⟩:=I.cell x c e
 obtain⟨m,⟨o',es,ep,ho',hd',_⟩,_⟩:=I.loc
 rw[z,ho']at ho;cases ho;rw[hd']at hd;cases hd
theorem Inv.funs (I:Inv X pins σ H s):s.heap.FunFrames X.base X.outer:=by
 have all:∀(l:List Env),(∀b∈frs l,b∈X.fs)→X.s₀.heap.FunFrames X.base l→s.heap.FunFrames X.base l:=by
  intro l
  induction l with
  | nil=>intro _ _;trivial
  | cons env r ih =>
   intro hs hl
   obtain⟨hk,⟨L,o,hf,hn,ho,hd⟩,hr⟩:=hl
   have hL:L∈X.fs:=hs L (by unfold frs;rw[List.filterMap_cons,hf];exact List.mem_cons_self)
   obtain⟨sl,e⟩:=I.base.slot L o ho (I.ok.frf L hL) hL fun z=>I.ok.exfs L z hL
   exact⟨hk,⟨L,_,hf,hn,e,hd⟩,ih (fun b hb=>hs b (by unfold frs;rw[List.filterMap_cons,hf];exact List.mem_cons_of_mem _ hb)) hr⟩
 exact all X.outer (fun _ hb=>hb) I.ok.funs
theorem Inv.stack (I:Inv X pins σ H s):s.heap.FunFrames X.base X.stack:=by
 rcases I.ok.stk with e|⟨e,hf⟩
 ·rw[e];exact I.funs
 ·rw[e]
  obtain⟨m,hn,_⟩:=I.loc
  refine .cons (by rw[I.ok.kind];decide) hf hn ?_ I.funs
  exact Heap.get?_none_of_le (Nat.le_trans I.ok.bsz I.ok.above)
theorem Inv.stkSub (I:Inv X pins σ H s):∀b∈frs X.stack,b∈X.env.locals::X.fs:=fun b hb=>by
 rcases I.ok.stk with e|⟨e,hf⟩
 ·rw[e]at hb;exact List.mem_cons_of_mem _ hb
 ·rw[e]at hb
  unfold frs at hb
  rw[List.filterMap_cons,hf]at hb
  exact hb
theorem Inv.stkFree (I:Inv X pins σ H s):∀b∈frs X.stack,H b=none:=fun b hb=>by
 rcases List.mem_cons.mp (I.stkSub b hb) with e|hb
 ·rw[e];exact I.free
 ·obtain⟨_,o,ho,_⟩:=I.ok.funs.mem hb
  exact I.base.free b o ho (I.ok.frf b hb) fun z=>I.ok.exfs b z hb
theorem Inv.step {g':Array GenState}{t':Nat}{d':Drawn}{ch:List Addr}(I:Inv X pins σ H s)
  (hch:∀b∈ch,(b∈X.ex∨X.s₀.heap.objs.size≤b)∧b≠X.env.locals∧(∀x c,X.env.cells.lookup x=some c→c≠b)∧∀p∈X.pn++pins,p.1≠b)
  (keep:∀b o,b≠X.env.locals→b∉X.fs→b∉ch→s.heap.get? b=some o→H b=none→h'.get? b=some o)
  (slot:∀b o,b≠X.env.locals→b∈X.fs→b∉ch→s.heap.get? b=some o→H b=none→∃sl,h'.get? b=some { o with slots:=sl }) (free:∀b o,b∉ch→s.heap.get? b=some o→H b=none→H' b=none)
  (there:∀b o,b∉ch→s.heap.get? b=some o→∃o',h'.get? b=some o')
  (tups:∀b xs,H b=some (.tup xs)→H' b=some (.tup xs)) (frzs:∀b o u,H b=some (.frz o u)→H' b=some (.frz o u)) (tbls:∀b ps,H b=some (.tbl ps)→∃more,H' b=some (.tbl (ps++more)))
  (ns:∀m,s.heap.Ns X.env.locals m→h'.Ns X.env.locals m) (hok:HOk X.prog X.w H' h') (hg:AllBare g') :
  Inv X pins σ H' { s with heap:=h',gens:=g',drawn:=d',toks:=t' }:=by
 have neL:∀b o,X.s₀.heap.get? b=some o→b≠X.env.locals:=fun b o e=>Nat.ne_of_lt (Nat.lt_of_lt_of_le (Heap.lt_size e) I.ok.above)
 have neC:∀b o,X.s₀.heap.get? b=some o→b∉X.ex→b∉ch:=fun b o e hx hb=>by
  rcases(hch b hb).1 with z|z
  ·exact hx z
  ·exact absurd (Nat.lt_of_lt_of_le (Heap.lt_size e) z) (Nat.lt_irrefl _)
 have cellK:∀x c,X.env.cells.lookup x=some c→∀v,s.heap.IsCell c v→h'.IsCell c v:=fun x c e v ⟨o,ho,hd⟩=>by
  have nch:c∉ch:=fun z=>(hch c z).2.2.1 x c e rfl
  by_cases hc:c∈X.fs
  ·obtain⟨sl,q⟩:=slot c o (I.cne x c e) hc nch ho (I.freeC x c e)
   exact⟨_,q,hd⟩
  ·exact⟨o,keep c o (I.cne x c e) hc nch ho (I.freeC x c e),hd⟩
 refine⟨I.ok,I.os,hg,⟨fun b o e n hb hx=>?_,fun b o e n hb hx=>?_,fun b o e n hx=>?_,fun b o e hx=>?_,fun b xs e=>tups b xs (I.base.tups b xs e),fun b o xs e=>frzs b o xs (I.base.frzs b o xs e),fun b ps e=>?_⟩,?_,fun x c e=>?_,?_,fun x c e=>?_,fun p hp=>?_,hok,I.len⟩
 ·exact keep b o (neL b o e) hb (neC b o e hx) (I.base.keep b o e n hb hx) (I.base.free b o e n hx)
 ·obtain⟨sl,e1⟩:=I.base.slot b o e n hb hx
  obtain⟨sl',e2⟩:=slot b _ (neL b o e) hb (neC b o e hx) e1 (I.base.free b o e n hx)
  exact⟨sl',e2⟩
 ·obtain⟨o',e1⟩:=I.base.there b o e hx
  exact free b o' (neC b o e hx) e1 (I.base.free b o e n hx)
 ·obtain⟨o',e1⟩:=I.base.there b o e hx
  exact there b o' (neC b o e hx) e1
 ·obtain⟨m1,e1⟩:=I.base.tbls b ps e
  obtain⟨m2,e2⟩:=tbls b _ e1
  exact⟨m1++m2,by rw[e2,Array.append_assoc]⟩
 ·obtain⟨m,hn,hl⟩:=I.loc
  refine⟨m,ns m hn,fun i x v e1 e2 e3=>?_⟩
  obtain⟨u,r,l⟩:=hl i x v e1 e2 e3
  refine⟨u,r,?_⟩
  rcases l with l|⟨k,c,e,z⟩
  ·exact .inl l
  ·exact .inr ⟨k,c,e,cellK x c e _ z⟩
 ·obtain⟨v,z⟩:=I.cell x c e
  exact⟨v,cellK x c e v z⟩
 ·obtain⟨m,⟨o,_,_,ho,_⟩,_⟩:=I.loc
  exact free _ o (fun z=>(hch _ z).2.1 rfl) ho I.free
 ·obtain⟨v,o,ho,hd⟩:=I.cell x c e
  exact free c o (fun z=>(hch c z).2.2.1 x c e rfl) ho (I.freeC x c e)
 ·obtain⟨e,n,ne,nf,d⟩:=I.pin p hp
  have nch:p.1∉ch:=fun z=>(hch p.1 z).2.2.2 p hp rfl
  exact⟨keep p.1 p.2 ne nf nch e n,free p.1 p.2 nch e n,ne,nf,d⟩
theorem Inv.un {t':Nat}(I:Inv X pins σ H s) (u:Un X.fs [] H H' s.heap h') (hok:HOk X.prog X.w H' h'):Inv X pins σ H' { s with heap:=h',toks:=t' }:=by
 obtain⟨m,⟨o,es,ep,ho,r⟩,_⟩:=id I.loc
 obtain⟨sl,hL⟩:=u.any ho I.free (by simp)
 exact I.step (g':=s.gens) (d':=s.drawn) (ch:=[]) (fun _ z=>nomatch z) (fun b o _ hb _ e n=>u.keep b o e n hb (by simp)) (fun b o _ hb _ e n=>u.slot b o e n hb (by simp)) (fun b o _ e n=>u.free b o e n (by simp)) (fun b o _ e=>u.there b o e (by simp)) u.tups u.frzs u.tbls (fun m' hm=>by
  obtain⟨o',es',ep',ho',r'⟩:=hm
  rw[ho]at ho';cases ho'
  exact⟨_,es',ep',hL,r'⟩) hok I.bare
theorem Inv.call {g':Array GenState}{t':Nat}{d':Drawn}{ch:List Addr}(I:Inv X pins σ H s) (u:Un (frs X.stack) ch H H' s.heap h') (hok:HOk X.prog X.w H' h') (hg:AllBare g')
  (hch:∀b∈ch,(b∈X.ex∨X.s₀.heap.objs.size≤b)∧b≠X.env.locals∧(∀x c,X.env.cells.lookup x=some c→c≠b)∧∀p∈X.pn++pins,p.1≠b) :
  Inv X pins σ H' { s with heap:=h',gens:=g',drawn:=d',toks:=t' }:=by
 obtain⟨m,⟨o,es,ep,ho,r⟩,_⟩:=id I.loc
 obtain⟨sl,hL⟩:=u.any ho I.free fun z=>(hch _ z).2.1 rfl
 exact I.step (ch:=ch) hch (fun b o hL hb hc e n=>u.keep b o e n (fun z=>(List.mem_cons.mp (I.stkSub b z)).elim hL hb) hc) (fun b o _ _ hc e n=>u.any e n hc) (fun b o hc e n=>u.free b o e n hc) (fun b o hc e=>u.there b o e hc) u.tups u.frzs u.tbls (fun m' hm=>by
  obtain⟨o',es',ep',ho',r'⟩:=hm
  rw[ho]at ho';cases ho'
  exact⟨_,es',ep',hL,r'⟩) hok hg
theorem Inv.turned {t':Nat}{it:Addr}(I:Inv X pins σ H s) (k:∀b o,b≠it→s.heap.get? b=some o→h'.get? b=some o) (hn:H it=none) (hL:it≠X.env.locals)
  (h1:it∈X.ex∨X.s₀.heap.objs.size≤it) (h2:∀x c,X.env.cells.lookup x=some c→c≠it) (h3:∀p∈X.pn++pins,p.1≠it):Inv X pins σ H { s with heap:=h',toks:=t' }:=by
 have nit:∀b u,H b=some u→b≠it:=fun b u e z=>by rw[z,hn]at e;cases e
 refine I.step (g':=s.gens) (d':=s.drawn) (ch:=[it]) (fun b hb=>?_) (fun b o _ _ hc e _=>k b o (fun z=>hc (by simp[z])) e) (fun b o _ _ hc e _=>⟨o.slots,k b o (fun z=>hc (by simp[z])) e⟩) (fun _ _ _ _ n=>n)
  (fun b o hc e=>⟨o,k b o (fun z=>hc (by simp[z])) e⟩) (fun _ _ e=>e) (fun _ _ _ e=>e) (fun b ps e=>⟨#[],by rw[e];simp⟩) (fun m hm=>?_) (fun b u e=>?_) I.bare
 ·have e:b=it:=by simpa using hb
  subst e
  exact⟨h1,hL,h2,h3⟩
 ·obtain⟨o,es,ep,ho,r⟩:=hm
  exact⟨o,es,ep,k _ o (Ne.symm hL) ho,r⟩
 ·refine(I.hok b u e).stay (fun c v hc q=>k c v ?_ q) (fun _ q=>q) fun _ _ q=>q
  rcases hc with z|z
  ·rw[z];exact nit b u e
  ·exact nit c _ z
theorem Inv.tok (I:Inv X pins σ H s) (t:Nat):Inv X pins σ H { s with toks:=t }:=I.un (h':=s.heap) (t':=t) Un.refl I.hok
theorem Inv.kept {t':Nat}(I:Inv X pins σ H s) (k:∀b u,s.heap.get? b=some u→h'.get? b=some u):Inv X pins σ H { s with heap:=h',toks:=t' }:=I.un (Un.kept k) (I.hok.kept k)
theorem Inv.laid {a:Addr}{o:HO}{t':Nat}(I:Inv X pins σ H s) (k:∀b u,s.heap.get? b=some u→h'.get? b=some u) (hp:s.heap.objs.size≤a) (new:ObjOk X.prog X.w (upd H a o) h' a o) :
  Inv X pins σ (upd H a o) { s with heap:=h',toks:=t' }:=I.un (Un.laid k hp (I.hok.fresh hp)) (I.hok.laid k hp new)
theorem Inv.write {x e:Addr}{o:HO}{t':Nat}(I:Inv X pins σ H s) (mu:Mut (H x)) (he:e=x∨H e=some (.own x)) (k:∀b u,b≠e→s.heap.get? b=some u→h'.get? b=some u) (heo:∃u,h'.get? e=some u)
  (new:ObjOk X.prog X.w (upd H x o) h' x o):Inv X pins σ (upd H x o) { s with heap:=h',toks:=t' }:=I.un (Un.write mu he k heo) (I.hok.write mu he k heo new)
theorem Inv.pins_of {pins':List (Addr×Obj)}(I:Inv X pins σ H s) (h:∀p∈pins',s.heap.get? p.1=some p.2∧H p.1=none∧p.1≠X.env.locals∧p.1∉X.fs∧∀v,p.2.data ≠ .cell v):Inv X pins' σ H s :=
 ⟨I.ok,I.os,I.bare,I.base,I.loc,I.cell,I.free,I.freeC,fun p hp=>(List.mem_append.mp hp).elim (fun z=>I.pin p (List.mem_append_left _ z)) (h p),I.hok,I.len⟩
theorem nodup_ix {N:List Str}(hN:N.Nodup) {i j:Nat}{x:Str}(a:N[i]? = some x) (b:N[j]? = some x):i=j:=by
 obtain⟨h1,e1⟩:=List.getElem?_eq_some_iff.mp a
 obtain⟨h2,e2⟩:=List.getElem?_eq_some_iff.mp b
 exact(List.getElem_inj hN).mp (e1.trans e2.symm)
theorem store_ok2 {M:Model}{A:Around}{E:Value→Shared→Prop}{i:Nat}{x:Str}{v:V}{u:Value}{Q:Unit→Shared→Prop}(I:Inv X pins σ H s) (hN:X.N.Nodup) (hi:X.N[i]? = some x) (hx:Loc X.env.scope x) (r:RelV v u)
  (h:∀s',Inv X pins (σ.set i (some v)) H s'→(∃a,Heap.SameBut a s.heap s'.heap∧(a=X.env.locals∨X.env.cells.lookup x=some a))→Q () s') (hf:X.fn x=true∨X.env.scope.names.lookup x=some .local:=by first|exact .inl rfl|exact .inr rfl|assumption):wpAny M A (storeName X.env x u) Q E s:=by
 obtain⟨m,hn,hl⟩:=id I.loc
 have hcls:(X.env.scope.kind == .class || (X.env.scope.kind == .module && X.env.locals != X.env.globals))=false:=by rw[I.ok.kind];rfl
 have hiσ:i<σ.length:=by rw[I.len];exact(List.getElem?_eq_some_iff.mp hi).1
 have cne:=I.cne
 have tracked:∀{a:Addr}{h':Heap},(∃o,s.heap.get? a=some o∧H a=none)→Heap.SameBut a s.heap h'→HOk X.prog X.w H h':=fun {a h'} ha hs b ob e=>by
  obtain⟨_,_,hfree⟩:=ha
  refine(I.hok b ob e).stay (fun c w' hc q=>(hs.2 c ?_).trans q) (fun _ q=>q) fun _ _ q=>q
  rintro rfl
  rcases hc with rfl|hc
  ·rw[hfree]at e;cases e
  ·rw[hfree]at hc;cases hc
 rcases hx with hk|hk
 ·refine wpAny_storeName_local hk hn (fun h' hn' hs=>?_) hcls
  obtain⟨oL,_,_,hoL,_⟩:=id hn
  refine h _ ⟨I.ok,I.os,I.bare,⟨fun b o e n hb hx=>?_,fun b o e n hb hx=>?_,I.base.free,fun b o e hx=>?_,I.base.tups,I.base.frzs,I.base.tbls⟩,⟨_,hn',fun j y v' e1 e2 e3=>?_⟩,fun y c e=>?_,I.free,I.freeC,fun p hp=>?_,tracked ⟨oL,hoL,I.free⟩ hs,by simpa using I.len⟩ ⟨_,hs,.inl rfl⟩
  ·exact(hs.2 b (Nat.ne_of_lt (Nat.lt_of_lt_of_le (Heap.lt_size e) I.ok.above))).trans (I.base.keep b o e n hb hx)
  ·obtain⟨sl,e1⟩:=I.base.slot b o e n hb hx
   exact⟨sl,(hs.2 b (Nat.ne_of_lt (Nat.lt_of_lt_of_le (Heap.lt_size e) I.ok.above))).trans e1⟩
  ·obtain⟨o',e1⟩:=I.base.there b o e hx
   exact⟨o',(hs.2 b (Nat.ne_of_lt (Nat.lt_of_lt_of_le (Heap.lt_size e) I.ok.above))).trans e1⟩
  ·by_cases hj:j=i
   ·subst hj
    rw[hi]at e1;cases e1
    rw[List.getElem?_set_self hiσ]at e2
    cases e2
    exact⟨u,r,.inl ⟨hk,by simp⟩⟩
   ·rw[List.getElem?_set_ne (Ne.symm hj)]at e2
    obtain⟨u',r',q⟩:=hl j y v' e1 e2 e3
    refine⟨u',r',?_⟩
    rcases q with⟨k,e⟩|⟨k,c,e,z⟩
    ·refine .inl ⟨k,?_⟩
     have:y≠x:=fun e=>hj (nodup_ix hN e1 (e ▸ hi))
     simp[this,e]
    ·exact .inr ⟨k,c,e,z.sameBut hs (cne y c e)⟩
  ·obtain⟨w',z⟩:=I.cell y c e
   exact⟨w',z.sameBut hs (cne y c e)⟩
  ·obtain⟨e,n,ne,nf,d⟩:=I.pin p hp
   exact⟨(hs.2 p.1 ne).trans e,n,ne,nf,d⟩
 ·have hfn:X.fn x=true:=by
   rcases hf with z|z
   ·exact z
   ·rw[z]at hk;cases hk
  obtain⟨c,hc⟩:=I.ok.has x (.inl hk)
  obtain⟨w',z⟩:=I.cell x c hc
  refine wpAny_storeName_cell I.ok.kind hk hc z (fun h' hc' hs=>?_)
  obtain⟨oc,hoc,hocd⟩:=id z
  refine h { s with heap:=h' } ⟨I.ok,I.os,I.bare,⟨fun b o e n hb hx=>?_,fun b o e n hb hx=>?_,I.base.free,fun b o e hx=>?_,I.base.tups,I.base.frzs,I.base.tbls⟩,⟨m,hn.sameBut hs (Ne.symm (cne x c hc)),fun j y v' e1 e2 e3=>?_⟩,fun y c' e=>?_,I.free,I.freeC,fun p hp=>?_,tracked ⟨oc,hoc,I.freeC x c hc⟩ hs,by simpa using I.len⟩ ⟨c,hs,.inr hc⟩
  ·exact(hs.2 b (Nat.ne_of_lt (Nat.lt_of_lt_of_le (Heap.lt_size e) (I.ok.cab x c hfn hc)))).trans (I.base.keep b o e n hb hx)
  ·obtain⟨sl,e1⟩:=I.base.slot b o e n hb hx
   exact⟨sl,(hs.2 b (Nat.ne_of_lt (Nat.lt_of_lt_of_le (Heap.lt_size e) (I.ok.cab x c hfn hc)))).trans e1⟩
  ·obtain⟨o',e1⟩:=I.base.there b o e hx
   exact⟨o',(hs.2 b (Nat.ne_of_lt (Nat.lt_of_lt_of_le (Heap.lt_size e) (I.ok.cab x c hfn hc)))).trans e1⟩
  ·by_cases hj:j=i
   ·subst hj
    rw[hi]at e1;cases e1
    rw[List.getElem?_set_self hiσ]at e2
    cases e2
    exact⟨u,r,.inr ⟨.inl hk,c,hc,hc'⟩⟩
   ·rw[List.getElem?_set_ne (Ne.symm hj)]at e2
    obtain⟨u',r',q⟩:=hl j y v' e1 e2 e3
    refine⟨u',r',?_⟩
    rcases q with q|⟨k,c',e,z'⟩
    ·exact .inl q
    ·refine .inr ⟨k,c',e,z'.sameBut hs ?_⟩
     rintro rfl
     exact hj (nodup_ix hN e1 (I.ok.inj _ _ _ e hc ▸ hi))
  ·by_cases hcc:c'=c
   ·subst hcc;exact⟨_,hc'⟩
   ·obtain⟨w2,z2⟩:=I.cell y c' e
    exact⟨w2,z2.sameBut hs hcc⟩
  ·obtain⟨e,n,ne,nf,d⟩:=I.pin p hp
   refine⟨(hs.2 p.1 ?_).trans e,n,ne,nf,d⟩
   intro q
   rw[q,hoc]at e
   have q':oc=p.2:=Option.some.inj e
   exact d w' (by rw[← q'];exact hocd)
theorem store_ok {M:Model}{A:Around}{E:Value→Shared→Prop}{i:Nat}{x:Str}{v:V}{u:Value}{Q:Unit→Shared→Prop}(I:Inv X pins σ H s) (hN:X.N.Nodup) (hi:X.N[i]? = some x) (hx:Loc X.env.scope x) (r:RelV v u)
  (h:∀s',Inv X pins (σ.set i (some v)) H s'→Q () s') (hf:X.fn x=true∨X.env.scope.names.lookup x=some .local:=by first|exact .inl rfl|exact .inr rfl|assumption):wpAny M A (storeName X.env x u) Q E s :=
 store_ok2 I hN hi hx r (fun s' I' _=>h s' I') hf
theorem Inv.call' {s':Shared}{ch:List Addr}(I:Inv X pins σ H s) (ho:s'.os=s.os) (u:Un (frs X.stack) ch H H' s.heap s'.heap) (hok:HOk X.prog X.w H' s'.heap) (hg:AllBare s'.gens)
  (hch:∀b∈ch,(b∈X.ex∨X.s₀.heap.objs.size≤b)∧b≠X.env.locals∧(∀x c,X.env.cells.lookup x=some c→c≠b)∧∀p∈X.pn++pins,p.1≠b):Inv X pins σ H' s':=by
 obtain⟨h',g',d',t',o'⟩:=s'
 have e:o'=s.os:=ho
 subst e
 exact I.call (g':=g') (t':=t') (d':=d') u hok hg hch
end
abbrev XK:=Value→Option Addr→Hp→Prop
abbrev St:=List (Option V)
abbrev VK:=V→Hp→Prop
abbrev TE:=St→Hp→VK→Prop
abbrev TT:=St→Hp→(Bool→Hp→Prop)→Prop
abbrev TA:=St→Hp→(List V→Hp→Prop)→Prop
structure Ends where
 nx:St→Hp→Prop
 rt:VK
 bk:St→Hp→Prop:=fun _ _=>False
 ct:St→Hp→Prop:=fun _ _=>False
abbrev TS:=Ends→St→Hp→Prop
def EP (X:Cx) (pins:List (Addr×Obj)) (σ:St) (Q:VK) (u:Value) (s':Shared):Prop:=∃v H',Inv X pins σ H' s'∧RelV v u∧Q v H'
def TP (X:Cx) (pins:List (Addr×Obj)) (σ:St) (Q:Bool→Hp→Prop) (b:Bool) (s':Shared):Prop:=∃H',Inv X pins σ H' s'∧Q b H'
def AP (X:Cx) (pins:List (Addr×Obj)) (σ:St) (Q:List V→Hp→Prop) (us:List Value) (s':Shared):Prop:=∃vs H',Inv X pins σ H' s'∧Vals vs us∧Q vs H'
def SP (X:Cx) (pins:List (Addr×Obj)) (D:Ends) (f:Flow) (s':Shared):Prop :=
 match f with
 | .next=>∃σ' H',Inv X pins σ' H' s'∧D.nx σ' H'
 | .brk=>∃σ' H',Inv X pins σ' H' s'∧D.bk σ' H'
 | .cont=>∃σ' H',Inv X pins σ' H' s'∧D.ct σ' H'
 | .ret u=>∃v σ' H',Inv X pins σ' H' s'∧RelV v u∧D.rt v H'
def PE (X:Cx) (e:Expr) (t:TE):Prop :=
 ∀(pins:List (Addr×Obj)) (s:Shared) (σ:St) (H:Hp) (Q:VK),Inv X pins σ H s→t σ H Q→wpAny (model X.prog X.w) X.A (eval e X.env) (EP X pins σ Q) X.xe s
def PT (X:Cx) (e:Expr) (t:TT):Prop :=
 ∀(pins:List (Addr×Obj)) (s:Shared) (σ:St) (H:Hp) (Q:Bool→Hp→Prop),Inv X pins σ H s→t σ H Q→wpAny (model X.prog X.w) X.A (isTrue e X.env (eval e X.env)) (TP X pins σ Q) X.xe s
def PW (X:Cx) (e:Expr) (t:TT):Prop :=
 ∀(whole:Sem Value) (pins:List (Addr×Obj)) (s:Shared) (σ:St) (H:Hp) (Q:Bool→Hp→Prop),Inv X pins σ H s→t σ H Q→wpAny (model X.prog X.w) X.A (isTrue e X.env whole) (TP X pins σ Q) X.xe s
theorem PW.pt {X:Cx}{e:Expr}{t:TT}(h:PW X e t):PT X e t:=h _
def PA (X:Cx) (es:List Expr) (t:TA):Prop :=
 ∀(pos:Pos) (pins:List (Addr×Obj)) (s:Shared) (σ:St) (H:Hp) (Q:List V→Hp→Prop),Inv X pins σ H s→t σ H Q→wpAny (model X.prog X.w) X.A (spliced (backTo pos (starEach es X.env))) (AP X pins σ Q) X.xe s
def PS (X:Cx) (st:Stmt) (t:TS):Prop :=
 ∀(pins:List (Addr×Obj)) (s:Shared) (σ:St) (H:Hp) (D:Ends),Inv X pins σ H s→t D σ H→wpAny (model X.prog X.w) X.A (exec st X.env) (SP X pins D) X.xe s
def PSs (X:Cx) (st:List Stmt) (t:TS):Prop :=
 ∀(pins:List (Addr×Obj)) (s:Shared) (σ:St) (H:Hp) (D:Ends),Inv X pins σ H s→t D σ H→wpAny (model X.prog X.w) X.A (execs st X.env) (SP X pins D) X.xe s
theorem thn {α:Type}{t:Sem α}{Q Q':α→Shared→Prop}{M:Model}{A:Around}{E:Value→Shared→Prop}{s:Shared}(h:wpAny M A t Q E s) (hQ:∀a s,Q a s→Q' a s):wpAny M A t Q' E s:=wpAny_mono h hQ fun _ _ x=>x
end L2
namespace L2
open PySem PySem.Spec PyProof.Rows
section
variable {X:Cx}
theorem bin {a b:Expr}{ta tb:TE}(ha:PE X a ta) (hb:PE X b tb) {pins:List (Addr×Obj)}{s:Shared}{σ:St}{H:Hp}{R:V→V→Hp→Prop}(I:Inv X pins σ H s) (h:ta σ H fun x H1=>tb σ H1 fun y H2=>R x y H2)
  {α:Type}{Q:α→Shared→Prop}{f:Value→Value→Sem α}
  (hf:∀v u s2 x y H2,Inv X pins σ H2 s2→RelV x v→RelV y u→R x y H2→wpAny (model X.prog X.w) X.A (f v u) Q X.xe s2) :
  wpAny (model X.prog X.w) X.A (eval a X.env) (fun v s₁=>wpAny (model X.prog X.w) X.A (eval b X.env) (fun u s₂=>wpAny (model X.prog X.w) X.A (f v u) Q X.xe s₂) X.xe s₁) X.xe s:=by
 refine thn (ha pins s σ H _ I h) fun v s1 ⟨x,H1,I1,r1,q1⟩=>?_
 refine thn (hb pins s1 σ H1 _ I1 q1) fun u s2 ⟨y,H2,I2,r2,q2⟩=>?_
 exact hf v u s2 x y H2 I2 r1 r2 q2
def tVar (i:Nat):TE:=fun σ H Q=>∃v,σ[i]? = some (some v)∧Q v H
def tC (v:V):TE:=fun _ H Q=>Q v H
theorem pe_var {i:Nat}{x:Str}{pos:Pos}(hN:X.N[i]? = some x) (hv:Vis X.env.scope x) (hd:(x ==("__debug__" : Str))=false:=by decide) (hcd:(x ==("__classdict__" : Str))=false:=by decide):PE X (.Name x pos) (tVar i):=by
 intro pins s σ H Q I h
 obtain⟨v,e,h⟩:=h
 obtain⟨m,hn,hl⟩:=I.loc
 obtain⟨u,r,l⟩:=hl i x v hN e hv
 have fin:EP X pins σ Q u s:=⟨v,H,I,r,h⟩
 rcases l with⟨hk,hm⟩|⟨hk,c,hc,hcell⟩
 ·exact wpAny_Name (wpAny_loadName_local I.ok.kind hk hn hm fin) hd
 ·rcases hk with hk|hk
  ·exact wpAny_Name (wpAny_loadName_cell I.ok.kind hk hc hcell fin) hd
  ·exact wpAny_Name (wpAny_loadName_free I.ok.kind hk hc hcell fin hcd) hd
theorem pe_int {i j pos}:PE X (.Constant (.int i) j pos) (tC (.int i)):=fun _ _ _ H _ I h=>wpAny_Constant_int ⟨.int i,H,I.tok _,⟨_,rfl⟩,h⟩
theorem pe_bl {b j pos}:PE X (.Constant (.bool b) j pos) (tC (.bl b)):=fun _ _ _ H _ I h=>Constant_bool ⟨.bl b,H,I,rfl,h⟩
theorem pe_non {j pos}:PE X (.Constant .none j pos) (tC .non):=fun _ _ _ H _ I h=>Constant_none ⟨.non,H,I,rfl,h⟩
theorem pe_str {x j pos}:PE X (.Constant (.str x) j pos) (tC (.str x)):=fun _ _ _ H _ I h=>Calls.Constant_str ⟨.str x,H,I.tok _,⟨_,rfl⟩,h⟩
def Gl (X:Cx) (x:Str):Prop:=X.env.kindOf x=some .globalImplicit
theorem ld_glob {E:Value→Shared→Prop}{pins:List (Addr×Obj)}{s:Shared}{σ:St}{H:Hp}{x:Str}{u:Value}{pos:Pos}{Q:Value→Shared→Prop}(I:Inv X pins σ H s) (hg:Gl X x) (hm:X.mg x=some u) (h:Q u s)
  (hd:(x ==("__debug__" : Str))=false:=by decide):wpAny (model X.prog X.w) X.A (eval (.Name x pos) X.env) Q E s :=
 Calls.Name_function_global I.ok.kind hg (Calls.loadGlobal_global (by rw[I.ok.glob];exact I.mod.glob.keeps I.bk) hm h) hd
theorem ld_blt {E:Value→Shared→Prop}{pins:List (Addr×Obj)}{s:Shared}{σ:St}{H:Hp}{x:Str}{u:Value}{pos:Pos}{Q:Value→Shared→Prop}(I:Inv X pins σ H s) (hg:Gl X x) (hm:X.mg x=none) (hv:bootBuiltins x=some u) (h:Q u s)
  (hn:x ≠ "__name__" := by decide) (hd:(x ==("__debug__" : Str))=false:=by decide):wpAny (model X.prog X.w) X.A (eval (.Name x pos) X.env) Q E s:=by
 obtain⟨mb,h1,h2⟩:=I.mod.blt
 exact Calls.Name_function_global I.ok.kind hg (Calls.loadGlobal_builtin (by rw[I.ok.glob];exact I.mod.glob.keeps I.bk) hm (by rw[I.ok.blt];exact h1.keeps I.bk) ((h2 x hn).trans hv) h) hd
theorem pe_glob {x:Str}{v:V}{u:Value}{pos:Pos}(hg:Gl X x) (hm:X.mg x=some u) (r:RelV v u) (hd:(x ==("__debug__" : Str))=false:=by decide):PE X (.Name x pos) (tC v) :=
 fun _ _ _ H _ I h=>ld_glob I hg hm ⟨v,H,I,r,h⟩ hd
theorem pe_bltn {x:Str}{v:V}{u:Value}{pos:Pos}(hg:Gl X x) (hm:X.mg x=none) (hv:bootBuiltins x=some u) (r:RelV v u) (hn:x ≠ "__name__" := by decide) (hd:(x ==("__debug__" : Str))=false:=by decide):PE X (.Name x pos) (tC v) :=
 fun _ _ _ H _ I h=>ld_blt I hg hm hv ⟨v,H,I,r,h⟩ hn hd
variable {a b:Expr}{ta tb:TE}{pos:Pos}
def PC (X:Cx) (op:CmpOp) (a b:Expr) (t:TE):Prop :=
 ∀(pins:List (Addr×Obj)) (s:Shared) (σ:St) (H:Hp) (Q:VK),Inv X pins σ H s→t σ H Q →
  wpAny (model X.prog X.w) X.A (eval a X.env) (fun v s₁=>wpAny (model X.prog X.w) X.A (eval b X.env) (fun u s₂=>wpAny (model X.prog X.w) X.A (compareOp op v u) (EP X pins σ Q) X.xe s₂) X.xe s₁) X.xe s
def tB (t:TE):TT:=fun σ H Q=>t σ H fun x H1=>∃c,x = .bl c∧Q c H1
theorem pt_cmp {op:CmpOp}{t:TE}(h:PC X op a b t) (h1:behindInMarks op b=false:=by first|exact nobehind _ (by decide) (by decide)|rfl):PT X (.Compare a [op] [b] pos) (tB t):=by
 intro pins s σ H Q I hw
 refine wpAny_isTrue_Compare1 (thn (h pins s σ H _ I hw) fun v s1 h1=>thn h1 fun u s2 h2=>thn h2 fun c s3 ⟨x,H1,I1,r1,q1⟩=>?_) h1
 obtain⟨d,rfl,q⟩:=q1
 cases r1
 exact wpAny_truthy_bool ⟨H1,I1,q⟩
theorem pt_val {e:Expr}{t:TE}(h:PE X e t) (he:∀whole,isTrue e X.env whole =(do let v ← whole;standAt e.pos;holding [v] (truthy v)):=by intro _;rfl):PT X e (tB t):=by
 intro pins s σ H Q I hw
 refine isTrue_plain (thn (h pins s σ H _ I hw) fun v s1 ⟨x,H1,I1,r1,q1⟩=>?_) (he _)
 obtain⟨d,rfl,q⟩:=q1
 cases r1
 exact wpAny_truthy_bool ⟨H1,I1,q⟩
variable {tA tB':TT}{rest:List Expr}
def tAnd (t u:TT):TT:=fun σ H Q=>t σ H fun c H1=>if c=true then u σ H1 Q else Q false H1
def tOr (t u:TT):TT:=fun σ H Q=>t σ H fun c H1=>if c=true then Q true H1 else u σ H1 Q
def tNot (t:TT):TT:=fun σ H Q=>t σ H fun c H1=>Q (!c) H1
theorem pw_and1 (ha:PT X a tA):PW X (.BoolOp .And [a] pos) tA:=by
 intro wh pins s σ H Q I h
 refine isTrue_and (thn (ha pins s σ H Q I h) fun c s1 e=>?_)
 cases c with
 | true=>exact isTrue_and_nil e
 | false=>exact e
theorem pw_or1 (ha:PT X a tA):PW X (.BoolOp .Or [a] pos) tA:=by
 intro wh pins s σ H Q I h
 refine isTrue_or (thn (ha pins s σ H Q I h) fun c s1 e=>?_)
 cases c with
 | false=>exact isTrue_or_nil e
 | true=>exact e
theorem pw_and (ha:PT X a tA) (hb:PW X (.BoolOp .And (b::rest) pos) tB'):PW X (.BoolOp .And (a::b::rest) pos) (tAnd tA tB'):=by
 intro wh pins s σ H Q I h
 refine isTrue_and (thn (ha pins s σ H _ I h) fun c s1 ⟨H1,I1,q1⟩=>?_)
 cases c with
 | true=>exact hb wh pins s1 σ H1 Q I1 q1
 | false=>exact⟨H1,I1,q1⟩
theorem pw_or (ha:PT X a tA) (hb:PW X (.BoolOp .Or (b::rest) pos) tB'):PW X (.BoolOp .Or (a::b::rest) pos) (tOr tA tB'):=by
 intro wh pins s σ H Q I h
 refine isTrue_or (thn (ha pins s σ H _ I h) fun c s1 ⟨H1,I1,q1⟩=>?_)
 cases c with
 | true=>exact⟨H1,I1,q1⟩
 | false=>exact hb wh pins s1 σ H1 Q I1 q1
theorem pt_not (ha:PT X a tA):PT X (.UnaryOp .Not a pos) (tNot tA):=by
 intro pins s σ H Q I h
 exact isTrue_not (ha pins s σ H (fun c H1=>Q (!c) H1) I h)
def tAndV (ta tb:TE):TE:=fun σ H Q=>ta σ H fun x H1=>∃c,x = .bl c∧if c=true then tb σ H1 Q else Q (.bl false) H1
def tOrV (ta tb:TE):TE:=fun σ H Q=>ta σ H fun x H1=>∃c,x = .bl c∧if c=true then Q (.bl true) H1 else tb σ H1 Q
theorem pe_one {op}{t:TE}(h:PE X a t):PE X (.BoolOp op [a] pos) t:=fun pins s σ H Q I hw=>BoolOp_one (h pins s σ H Q I hw)
theorem pe_and (ha:PE X a ta) (hb:PE X (.BoolOp .And (b::rest) pos) tb):PE X (.BoolOp .And (a::b::rest) pos) (tAndV ta tb):=by
 intro pins s σ H Q I h
 refine BoolOp_and (thn (ha pins s σ H _ I h) fun v s1 ⟨x,H1,I1,r1,q1⟩=>?_)
 obtain⟨c,rfl,q1⟩:=q1
 cases r1
 refine wpAny_truthy_bool ?_
 cases c with
 | true=>exact hb pins s1 σ H1 Q I1 q1
 | false=>exact⟨.bl false,H1,I1,rfl,q1⟩
theorem pe_or (ha:PE X a ta) (hb:PE X (.BoolOp .Or (b::rest) pos) tb):PE X (.BoolOp .Or (a::b::rest) pos) (tOrV ta tb):=by
 intro pins s σ H Q I h
 refine BoolOp_or (thn (ha pins s σ H _ I h) fun v s1 ⟨x,H1,I1,r1,q1⟩=>?_)
 obtain⟨c,rfl,q1⟩:=q1
 cases r1
 refine wpAny_truthy_bool ?_
 cases c with
 | false=>exact hb pins s1 σ H1 Q I1 q1
 | true=>exact⟨.bl true,H1,I1,rfl,q1⟩
end
end L2
namespace L2
open PySem PySem.Spec PyProof.Rows
def SqL (K:PySem.W.Frag) (H:Hp) (a:Addr) (xs:List V):Prop :=
 Rd H a (.lst xs) ∨
  ∃(o:Obj) (its:Array Value) (n:Nat),K.lookup a=some o∧o.cls = .type "list"∧o.dict=none∧o.data = .seq its n∧its.size≤sizeLine∧Vals xs its.toList
def SqT (K:PySem.W.Frag) (H:Hp) (a:Addr) (xs:List V):Prop :=
 Rd H a (.tup xs) ∨
  ∃(o:Obj) (its:Array Value) (n:Nat),K.lookup a=some o∧o.cls = .type "tuple"∧o.data = .seq its n∧its.size≤sizeLine∧Vals xs its.toList
def absV:Value→Option V
 | .none=>some .non
 | .bool b=>some (.bl b)
 | .int i _=>some (.int i)
 | .str x _=>some (.str x)
 | .bytes b _=>some (.byt b)
 | .float b _=>some (.flt b)
 | .ref a=>some (.ref a)
 | .type n=>some (.ty n)
 | _=>none
theorem RelV.abs {x:V}{u:Value}(r:RelV x u):absV u=some x:=by
 cases x with
 | non=>cases r;rfl
 | bl _=>cases r;rfl
 | int _=>obtain⟨t,rfl⟩:=r;rfl
 | str _=>obtain⟨t,rfl⟩:=r;rfl
 | byt _=>obtain⟨t,rfl⟩:=r;rfl
 | flt _=>obtain⟨t,rfl⟩:=r;rfl
 | ref _=>cases r;rfl
 | ty _=>cases r;rfl
theorem RelV.inj {x y:V}{u:Value}(r:RelV x u) (q:RelV y u):x=y:=Option.some.inj (r.abs.symm.trans q.abs)
theorem Vals.inj:∀{xs ys:List V}{us:List Value},Vals xs us→Vals ys us→xs=ys
 | _,_,_,.nil,.nil=>rfl
 | _,_,_,.cons r t,.cons r' t'=>by rw[r.inj r',Vals.inj t t']
section
variable {X:Cx}{pins:List (Addr×Obj)}{σ:St}{H:Hp}{s:Shared}{a:Addr}{xs ys:List V}
theorem SqL.of {K:PySem.W.Frag}(h:H a=some (.lst xs)):SqL K H a xs:=.inl (.inl h)
theorem SqT.of {K:PySem.W.Frag}(h:H a=some (.tup xs)):SqT K H a xs:=.inl (.inl h)
theorem Inv.list (I:Inv X pins σ H s) (h:SqL X.K H a xs):∃its:List Value,Vals xs its∧PlainL s.heap a its.toArray∧xs.length≤sizeLine:=by
 rcases h with h|⟨o,its,n,hk,hc,hd,hs,hz,r⟩
 ·obtain⟨z,its,n,r,e⟩:=h.ok I.hok
  exact⟨its,r,⟨_,n,e,rfl,rfl,rfl⟩,z⟩
 ·refine⟨its.toList,r,⟨o,n,I.kIn a o hk,hc,hd,by simpa using hs⟩,?_⟩
  have e:=r.length
  simp only[Array.length_toList]at e
  omega
theorem Inv.tuple (I:Inv X pins σ H s) (h:SqT X.K H a xs):∃its:List Value,Vals xs its∧IsTup s.heap a its.toArray∧xs.length≤sizeLine:=by
 rcases h with h|⟨o,its,n,hk,hc,hs,hz,r⟩
 ·obtain⟨z,its,r,p⟩:=h.ok I.hok
  exact⟨its,r,p,z⟩
 ·refine⟨its.toList,r,⟨o,I.kIn a o hk,hc,n,by simpa using hs⟩,?_⟩
  have e:=r.length
  simp only[Array.length_toList]at e
  omega
theorem Inv.list_inj (I:Inv X pins σ H s) (h:SqL X.K H a xs) (h':SqL X.K H a ys):xs=ys:=by
 obtain⟨its,r,⟨o,n,e,_,_,d⟩,_⟩:=I.list h
 obtain⟨its',r',⟨o',n',e',_,_,d'⟩,_⟩:=I.list h'
 rw[e]at e';cases e'
 rw[d]at d'
 injection d' with d1 _
 have:its=its':=by simpa using congrArg Array.toList d1
 subst this
 exact r.inj r'
theorem Inv.tuple_inj (I:Inv X pins σ H s) (h:SqT X.K H a xs) (h':SqT X.K H a ys):xs=ys:=by
 obtain⟨its,r,⟨o,e,_,n,d⟩,_⟩:=I.tuple h
 obtain⟨its',r',⟨o',e',_,n',d'⟩,_⟩:=I.tuple h'
 rw[e]at e';cases e'
 rw[d]at d'
 injection d' with d1 _
 have:its=its':=by simpa using congrArg Array.toList d1
 subst this
 exact r.inj r'
end
abbrev Cx.wish (X:Cx) (E:Value→Shared→Prop):Cx:={ X with xe:=E }
abbrev Cx.nox (X:Cx):Cx:=X.wish fun _ _=>False
theorem Cx.Ok.wish {X:Cx}(ok:X.Ok) (E:Value→Shared→Prop):(X.wish E).Ok :=
 ⟨ok.mod,ok.kind,ok.glob,ok.blt,ok.above,ok.inj,ok.has,ok.cab,ok.hd,ok.frames,ok.stk,ok.exf,ok.bs,ok.bsz,ok.noex,ok.exfs,ok.funs,ok.frf⟩
theorem Cx.Ok.unwish {X:Cx}{E:Value→Shared→Prop}(ok:(X.wish E).Ok):X.Ok :=
 ⟨ok.mod,ok.kind,ok.glob,ok.blt,ok.above,ok.inj,ok.has,ok.cab,ok.hd,ok.frames,ok.stk,ok.exf,ok.bs,ok.bsz,ok.noex,ok.exfs,ok.funs,ok.frf⟩
section
variable {X:Cx}{pins:List (Addr×Obj)}{σ:St}{H:Hp}{s:Shared}{E:Value→Shared→Prop}
theorem Inv.wish (I:Inv X pins σ H s) (E:Value→Shared→Prop):Inv (X.wish E) pins σ H s:=⟨I.ok.wish E,I.os,I.bare,I.base,I.loc,I.cell,I.free,I.freeC,I.pin,I.hok,I.len⟩
theorem Inv.unwish (I:Inv (X.wish E) pins σ H s):Inv X pins σ H s:=⟨I.ok.unwish,I.os,I.bare,I.base,I.loc,I.cell,I.free,I.freeC,I.pin,I.hok,I.len⟩
theorem SP.unwish {D:Ends}{f:Flow}{s':Shared}(h:SP (X.wish E) pins D f s'):SP X pins D f s':=by
 cases f with
 | next=>obtain⟨σ',H',I,q⟩:=h;exact⟨σ',H',I.unwish,q⟩
 | brk=>obtain⟨σ',H',I,q⟩:=h;exact⟨σ',H',I.unwish,q⟩
 | cont=>obtain⟨σ',H',I,q⟩:=h;exact⟨σ',H',I.unwish,q⟩
 | ret u=>obtain⟨v,σ',H',I,r,q⟩:=h;exact⟨v,σ',H',I.unwish,r,q⟩
theorem PSs.nox {st:List Stmt}{t:TS}(h:PSs X.nox st t):PSs X st t:=fun pins s σ H D I hw =>
 wpAny_mono (h pins s σ H D (I.wish _) hw) (fun _ _ q=>q.unwish) fun _ _ z=>False.elim z
end
section
variable {X:Cx}{st:Stmt}{rest:List Stmt}{t u:TS}{e:Expr}{te:TE}{pos:Pos}
def tNext:TS:=fun D σ H=>D.nx σ H
def tSeq (t u:TS):TS:=fun D σ H=>t { D with nx:=u D } σ H
theorem pss_nil:PSs X [] tNext:=fun _ _ σ H _ I h=>wpAny_execs_nil ⟨σ,H,I,h⟩
theorem pss_cons (h1:PS X st t) (h2:PSs X rest u):PSs X (st::rest) (tSeq t u):=by
 intro pins s σ H D I h
 refine wpAny_execs_cons (thn (h1 pins s σ H { D with nx:=u D } I h) fun f s1 q=>?_)
 cases f with
 | next =>
  obtain⟨σ',H',I',q⟩:=q
  exact h2 pins s1 σ' H' D I' q
 | ret v=>exact q
 | brk=>exact q
 | cont=>exact q
theorem pss_one (h1:PS X st t):PSs X [st] t:=by
 intro pins s σ H D I h
 refine wpAny_execs_cons (thn (h1 pins s σ H D I h) fun f s1 q=>?_)
 cases f with
 | next=>exact wpAny_execs_nil q
 | ret v=>exact q
 | brk=>exact q
 | cont=>exact q
theorem Inv.quiet {pins:List (Addr×Obj)}{σ:St}{H:Hp}{s:Shared}(I:Inv X pins σ H s):interactive X.env=false:=by simp[interactive,I.ok.kind]
def tDrop (te:TE):TS:=fun D σ H=>te σ H fun _ H1=>D.nx σ H1
theorem ps_expr (he:PE X e te) (hs:swapsWith e none pos.line X.env=pure false:=by rfl):PS X (.Expr e pos) (tDrop te):=by
 intro pins s σ H D I h
 exact wpAny_Expr_any (thn (he pins s σ H _ I h) fun v s1 ⟨x,H1,I1,r1,q1⟩=>⟨σ,H1,I1,q1⟩) I.quiet hs
def tRet (te:TE):TS:=fun D σ H=>te σ H D.rt
theorem ps_ret (he:PE X e te):PS X (.Return (some e) pos) (tRet te):=by
 intro pins s σ H D I h
 exact wpAny_Return_some (thn (he pins s σ H _ I h) fun v s1 ⟨x,H1,I1,r1,q1⟩=>⟨x,σ,H1,I1,r1,q1⟩)
def tIfS (c:TT) (t u:TS):TS:=fun D σ H=>c σ H fun b H1=>if b=true then t D σ H1 else u D σ H1
theorem ps_if {c:Expr}{a b:List Stmt}{tc:TT}(hc:PT X c tc) (ha:PSs X a t) (hb:PSs X b u):PS X (.If c a b pos) (tIfS tc t u):=by
 intro pins s σ H D I h
 refine wpAny_If (thn (hc pins s σ H _ I h) fun d s1 ⟨H1,I1,q1⟩=>?_)
 cases d with
 | true=>exact ha pins s1 σ H1 D I1 q1
 | false=>exact hb pins s1 σ H1 D I1 q1
end
abbrev TG:=V→St→Hp→(St→Hp→Prop)→Prop
abbrev TGs:=List V→St→Hp→(St→Hp→Prop)→Prop
def PG (X:Cx) (target:Expr) (t:TG):Prop :=
 ∀(pins:List (Addr×Obj)) (s:Shared) (σ:St) (H:Hp) (v:V) (u:Value) (Q:St→Hp→Prop),Inv X pins σ H s→RelV v u→t v σ H Q →
  wpAny (model X.prog X.w) X.A (assign target X.env u) (fun _ s'=>∃σ' H',Inv X pins σ' H' s'∧Q σ' H') X.xe s
def PGs (X:Cx) (ts:List Expr) (t:TGs):Prop :=
 ∀(pins:List (Addr×Obj)) (s:Shared) (σ:St) (H:Hp) (vs:List V) (us:List Value) (Q:St→Hp→Prop),Inv X pins σ H s→Vals vs us→t vs σ H Q →
  wpAny (model X.prog X.w) X.A (assignInOrder ((assignEach ts X.env).map (·.2)) us) (fun _ s'=>∃σ' H',Inv X pins σ' H' s'∧Q σ' H') X.xe s
abbrev TSet:=V→V→V→Hp→(Hp→Prop)→Prop
def PSet (X:Cx) (t:TSet):Prop :=
 ∀(pins:List (Addr×Obj)) (s:Shared) (σ:St) (H:Hp) (o i v:V) (ov iv u:Value) (Q:Hp→Prop),Inv X pins σ H s→RelV o ov→RelV i iv→RelV v u→t o i v H Q →
  wpAny (model X.prog X.w) X.A (setItem ov iv u) (fun _ s'=>∃H',Inv X pins σ H' s'∧Q H') X.xe s
abbrev TIp:=V→V→Hp→VK→Prop
def PIp (X:Cx) (op:Operator) (t:TIp):Prop :=
 ∀(pins:List (Addr×Obj)) (s:Shared) (σ:St) (H:Hp) (x y:V) (v u:Value) (Q:VK),Inv X pins σ H s→RelV x v→RelV y u→t x y H Q →
  wpAny (model X.prog X.w) X.A (inplaceOp op v u) (EP X pins σ Q) X.xe s
section
variable {X:Cx}{pos:Pos}
def gName (i:Nat):TG:=fun v σ H Q=>Q (σ.set i (some v)) H
theorem pg_name {i:Nat}{x:Str}(hN:X.N.Nodup) (hi:X.N[i]? = some x) (hx:Loc X.env.scope x) (hf:X.fn x=true∨X.env.scope.names.lookup x=some .local:=by first|exact .inl rfl|exact .inr rfl|assumption):PG X (.Name x pos) (gName i):=by
 intro pins s σ H v u Q I r h
 exact wpAny_assign_Name (store_ok I hN hi hx r (fun s' I'=>⟨_,H,I',h⟩) hf)
def gNil:TGs:=fun vs σ H Q=>vs=[]∧Q σ H
def gCons (t:TG) (u:TGs):TGs:=fun vs σ H Q=>∃v r,vs=v::r∧t v σ H fun σ' H'=>u r σ' H' Q
theorem pgs_nil:PGs X [] gNil:=by
 intro pins s σ H vs us Q I r h
 obtain⟨e,h⟩:=h
 subst e
 cases r
 exact assignInOrder_nil ⟨σ,H,I,h⟩
theorem pgs_cons {e:Expr}{es:List Expr}{t:TG}{u:TGs}(h1:PG X e t) (h2:PGs X es u)
  (hs:(assignEach (e::es) X.env).map (·.2)=assign e X.env::(assignEach es X.env).map (·.2):=by rfl):PGs X (e::es) (gCons t u):=by
 intro pins s σ H vs us Q I r h
 obtain⟨v,vr,e1,h⟩:=h
 subst e1
 cases r with
 | cons r rr =>
  rw[hs]
  refine assignInOrder_cons (thn (h1 pins s σ H _ _ _ I r h) fun _ s1 ⟨σ1,H1,I1,q1⟩=>?_)
  exact h2 pins s1 σ1 H1 _ _ Q I1 rr q1
def gTup (K:PySem.W.Frag) (n:Nat) (t:TGs):TG:=fun v σ H Q=>∃a xs,v = .ref a∧SqT K H a xs∧xs.length=n∧t xs σ H Q
theorem pg_tup {es:List Expr}{k:Nat}{t:TGs}{n:Nat}(hc:X.calm=true) (h:PGs X es t)
  (hn:(assignEach es X.env).length=n:=by rfl) (hst:(assignEach es X.env).findIdx? (·.1)=none:=by rfl):PG X (.Tuple es k pos) (gTup X.K n t):=by
 intro pins s σ H v u Q I r hw
 obtain⟨a,xs,e1,hq,hl,hw⟩:=hw
 subst e1
 cases r
 obtain⟨its,rv,ht,hz⟩:=I.tuple hq
 refine assign_Tuple_tuple (I.ok.hd hc) ht (by simp[hn,← hl,rv.length]) hst fun h' hx=>?_
 have I1:Inv X pins σ H { s with heap:=h' }:=I.kept (t':=s.toks) fun b o e=>hx b o (Nat.ne_of_lt (Heap.lt_size e)) e
 exact h pins _ σ H xs _ Q I1 (by simpa using rv) hw
def gSub (to ti:TE) (t:TSet):TG:=fun v σ H Q=>to σ H fun o H1=>ti σ H1 fun i H2=>t o i v H2 fun H3=>Q σ H3
theorem pg_sub {o i:Expr}{to ti:TE}{t:TSet}(ho:PE X o to) (hi:PE X i ti) (hs:PSet X t)
  (ha:∀v,assign (.Subscript o i pos) X.env v =(do
   let ov ← holding [v] (eval o X.env)
   let iv ← holding [v,ov] (eval i X.env)
   standAt pos
   holding [v,ov,iv] (setItem ov iv v)
   release [v,ov,iv] []):=by intro _;rfl):PG X (.Subscript o i pos) (gSub to ti t):=by
 intro pins s σ H v u Q I r h
 rw[ha]
 refine wpAny_bind (wpAny_holding (thn (ho pins s σ H _ I h) fun ov s1 ⟨x,H1,I1,r1,q1⟩=>?_))
 refine wpAny_bind (wpAny_holding (thn (hi pins s1 σ H1 _ I1 q1) fun iv s2 ⟨y,H2,I2,r2,q2⟩=>?_))
 refine wpAny_bind (wpAny_standAt (wpAny_bind (wpAny_holding (thn (hs pins s2 σ H2 x y v ov iv u _ I2 r1 r2 r q2) fun _ s3 ⟨H3,I3,q3⟩=>?_))))
 exact wpAny_release ⟨σ,H3,I3,q3⟩
def tAsg (te:TE) (g:TG):TS:=fun D σ H=>te σ H fun x H1=>g x σ H1 D.nx
theorem ps_asg {tg e:Expr}{te:TE}{g:TG}(he:PE X e te) (hg:PG X tg g) (hs:swapsWithSole [tg] e pos.line X.env=pure false:=by rfl) (hw:swappedStores [tg] e X.env=pure none:=by rfl)
  (h1:(assignEach [tg] X.env).map (·.2)=[assign tg X.env]:=by rfl):PS X (.Assign [tg] e pos) (tAsg te g):=by
 intro pins s σ H D I h
 refine wpAny_Assign_stores (thn (he pins s σ H _ I h) fun v s1 ⟨x,H1,I1,r1,q1⟩=>?_) hs hw
 rw[h1]
 exact thn (hg pins s1 σ H1 x v _ I1 r1 q1) fun _ s2 q=>q
theorem ps_set {i:Nat}{x:Str}{e:Expr}{te:TE}{pos':Pos}(hN:X.N.Nodup) (hi:X.N[i]? = some x) (hx:Loc X.env.scope x) (he:PE X e te) (hs:swapsWith e (some (.Name x pos')) pos.line X.env=pure false:=by rfl) (hf:X.fn x=true∨X.env.scope.names.lookup x=some .local:=by first|exact .inl rfl|exact .inr rfl|assumption) :
  PS X (.Assign [.Name x pos'] e pos) (tAsg te (gName i)):=by
 intro pins s σ H D I h
 refine wpAny_Assign_Name (thn (he pins s σ H _ I h) fun v s1 ⟨y,H1,I1,r1,q1⟩=>?_) hs
 exact store_ok I1 hN hi hx r1 (fun s2 I2=>⟨_,H1,I2,q1⟩) hf
def tPar (i j:Nat) (ta:TA):TS:=fun D σ H=>ta σ H fun vs H1=>∃v w,vs=[v,w]∧D.nx ((σ.set i (some v)).set j (some w)) H1
theorem ps_par {i j:Nat}{x y:Str}{a b:Expr}{ta:TA}{px py pt:Pos}{kt k2 pt2}(hc:X.calm=true) (hN:X.N.Nodup) (hi:X.N[i]? = some x) (hj:X.N[j]? = some y) (hij:i≠j)
  (hx:X.env.scope.names.lookup x=some .local) (hy:X.env.scope.names.lookup y=some .local) (ha:PA X [a,b] ta)
  (hw:swappedStores [.Tuple [.Name x px,.Name y py] kt pt] (.Tuple [a,b] k2 pt2) X.env=pure (some [x,y]))
  (hs:swapsWithSole [.Tuple [.Name x px,.Name y py] kt pt] (.Tuple [a,b] k2 pt2) pos.line X.env=pure false:=by rfl) :
  PS X (.Assign [.Tuple [.Name x px,.Name y py] kt pt] (.Tuple [a,b] k2 pt2) pos) (tPar i j ta):=by
 intro pins s σ H D I h
 rw[exec_Assign_arm]
 refine wpAny_bind (wpAny_standAt ?_)
 rw[hs]
 refine wpAny_bind (wpAny_pure ?_)
 rw[if_neg (by decide)]
 refine wpAny_bind (Tuple_ (thn (ha _ pins s σ H _ I h) fun us s1 ⟨vs,H1,I1,r1,q1⟩=>?_))
 obtain⟨v,w,e1,q1⟩:=q1
 subst e1
 obtain⟨u1,u2,rfl,rv,rw'⟩ : ∃u1 u2,us=[u1,u2]∧RelV v u1∧RelV w u2:=by
  cases r1 with
  | cons p q =>
   cases q with
   | cons p' q' =>
    cases q'
    exact⟨_,_,rfl,p,p'⟩
 refine wpAny_newObj_type ?_ (by show 2≤sizeLine;decide)
 have I2:Inv X pins σ H1 { s1 with heap:=s1.heap.push { cls:=.type "tuple",data:=.seq [u1,u2].toArray } }:=I1.kept (t':=s1.toks) fun b o e=>Heap.get?_push_of_some _ e
 rw[hw]
 refine wpAny_bind (wpAny_pure ?_)
 show wpAny (model X.prog X.w) X.A (do rule "assign.swapped-stores";let items ← unpackItems (.ref s1.heap.objs.size) 2 none;assignInOrder [fun v=>bindName X.env y v,fun v=>bindName X.env x v] items.reverse;pure Flow.next) _ _ _
 refine wpAny_bind (wpAny_rule (wpAny_bind (unpackItems_tuple (items:=#[u1,u2]) (I.ok.hd hc) (IsTup.new s1.heap _) fun h' hx'=>?_)))
 have I3:=I2.kept (h':=h') (t':=s1.toks) fun b o e=>hx' b o (Nat.ne_of_lt (Heap.lt_size e)) e
 show wpAny _ _ (assignInOrder [fun v=>bindName X.env y v,fun v=>bindName X.env x v] [u2,u1] >>= fun _=>pure Flow.next) _ _ _
 refine wpAny_bind (assignInOrder_cons (wpAny_bindName (store_ok I3 hN hj (.inl hy) rw' (fun s2 I4=>?_) (.inr hy))))
 refine assignInOrder_cons (wpAny_bindName (store_ok I4 hN hi (.inl hx) rv (fun s3 I5=>assignInOrder_nil (wpAny_pure ?_)) (.inr hx)))
 rw[List.set_comm _ _ (Ne.symm hij)]at I5
 exact⟨_,H1,I5,q1⟩
def tAugS (to ti te:TE) (tget:V→V→Hp→VK→Prop) (tip:TIp) (tset:TSet):TS:=fun D σ H=>to σ H fun o H1=>ti σ H1 fun i H2=>tget o i H2 fun x H3=>te σ H3 fun y H4=>tip x y H4 fun z H5=>tset o i z H5 fun H6=>D.nx σ H6
def PGet (X:Cx) (t:V→V→Hp→VK→Prop):Prop :=
 ∀(pins:List (Addr×Obj)) (s:Shared) (σ:St) (H:Hp) (o i:V) (ov iv:Value) (Q:VK),Inv X pins σ H s→RelV o ov→RelV i iv→t o i H Q →
  wpAny (model X.prog X.w) X.A (getItem ov iv) (EP X pins σ Q) X.xe s
theorem ps_augS {o i e:Expr}{to ti te:TE}{tget:V→V→Hp→VK→Prop}{tip:TIp}{tset:TSet}{op:Operator}{tpos:Pos}(ho:PE X o to) (hi:PE X i ti) (hg:PGet X tget) (he:PE X e te) (hp:PIp X op tip) (hs:PSet X tset)
  (ha:∀ov iv new,augStore i ov iv new =(do holding [new,ov,iv] (setItem ov iv new);release [new,ov,iv] [];pure .next):=by intros;rfl):PS X (.AugAssign (.Subscript o i tpos) op e pos) (tAugS to ti te tget tip tset):=by
 intro pins s σ H D I h
 refine wpAny_AugAssign_SubscriptAny (thn (ho pins s σ H _ I h) fun ov s1 ⟨x1,H1,I1,r1,q1⟩=>?_) ha
 refine thn (hi pins s1 σ H1 _ I1 q1) fun iv s2 ⟨x2,H2,I2,r2,q2⟩=>?_
 refine thn (hg pins s2 σ H2 x1 x2 ov iv _ I2 r1 r2 q2) fun old s3 ⟨x3,H3,I3,r3,q3⟩=>?_
 refine thn (he pins s3 σ H3 _ I3 q3) fun v s4 ⟨x4,H4,I4,r4,q4⟩=>?_
 refine thn (hp pins s4 σ H4 x3 x4 old v _ I4 r3 r4 q4) fun new s5 ⟨x5,H5,I5,r5,q5⟩=>?_
 exact thn (hs pins s5 σ H5 x1 x2 x5 ov iv new _ I5 r1 r2 r5 q5) fun _ s6 ⟨H6,I6,q6⟩=>⟨σ,H6,I6,q6⟩
def ipI (f:Int→Int→Int):TIp:=fun x y H Q=>∃i j,x = .int i∧y = .int j∧Q (.int (f i j)) H
theorem ip_add:PIp X .Add (ipI fun i j=>i+j):=by
 intro pins s σ H x y v u Q I r1 r2 h
 obtain⟨i,j,e1,e2,q⟩:=h
 subst e1;subst e2
 obtain⟨t,rfl⟩:=r1
 obtain⟨t',rfl⟩:=r2
 exact iadd_int ⟨.int _,H,I.tok _,⟨_,rfl⟩,q⟩
end
section
variable {X:Cx}{pos:Pos}
end
structure It where
 go:Nat→Hp→Prop
 yld:Nat→Hp→V→Hp→Prop
 stop:Nat→Hp→Prop
def FpOk (X:Cx) (pins:List (Addr×Obj)) (H:Hp) (b:Addr):Prop :=
 H b=none∧b≠X.env.locals∧b∉X.fs∧(b∈X.ex∨X.s₀.heap.objs.size≤b)∧(∀x c,X.env.cells.lookup x=some c→c≠b)∧∀p∈X.pn++pins,p.1≠b
theorem Inv.fpOk {X:Cx}{pins:List (Addr×Obj)}{σ:St}{H H':Hp}{s:Shared}{b:Addr}(I:Inv X pins σ H s) (hb:s.heap.objs.size≤b) (hn:H' b=none):FpOk X pins H' b:=by
 refine⟨hn,Nat.ne_of_gt (Nat.lt_of_lt_of_le I.lt hb),I.nofs hb,.inr (Nat.le_trans I.sz hb),fun x c e z=>?_,fun p hp z=>?_⟩
 ·obtain⟨v,q⟩:=I.cell x c e
  exact absurd (Nat.lt_of_lt_of_le q.lt (by rw[z];exact hb)) (Nat.lt_irrefl _)
 ·exact absurd (Nat.lt_of_lt_of_le (Heap.lt_size (I.pin p hp).1) (by rw[z];exact hb)) (Nat.lt_irrefl _)
structure Turn (P:Program) (w:World) (K:PySem.W.Frag) (tg:Expr) (J:It) (fp:List Addr) (it:Addr) (tn:Nat→Heap→Prop):Prop where
 mem:it∈fp
 obj:∀i h,tn i h→∀b∈fp,∃o,h.get? b=some o∧∀v,o.data ≠ .cell v
 keep:∀i h h',tn i h→(∀b∈fp,∀o,h.get? b=some o→h'.get? b=some o)→tn i h'
 item:∀(X:Cx),X.prog=P→X.w=w→X.K=K→X.calm=true→∀(i:Nat) (pins:List (Addr×Obj)) (s:Shared) (σ:St) (H:Hp) (E:Value→Shared→Prop),Inv X pins σ H s→(∀b∈fp,FpOk X pins H b)→tn i s.heap→J.go i H →
  wpAny (model P w) X.A (pyNext (.ref it)) (fun r s1=>∃u,r=some u ∧
   wpAny (model P w) X.A (letOwnedTupleGo tg (.ref it) u) (fun _ s2=>∃x H',Inv X pins σ H' s2∧RelV x u∧J.yld i H x H'∧tn (i+1) s2.heap∧∀b∈fp,H' b=none) E s1) E s
 done:∀(X:Cx),X.prog=P→X.w=w→X.K=K→X.calm=true→∀(i:Nat) (pins:List (Addr×Obj)) (s:Shared) (σ:St) (H:Hp) (E:Value→Shared→Prop),Inv X pins σ H s→(∀b∈fp,FpOk X pins H b)→tn i s.heap→J.stop i H →
  wpAny (model P w) X.A (pyNext (.ref it)) (fun r s1=>r=none∧Inv X pins σ H s1) E s
 self:∀(A:Around) (i:Nat) (s:Shared) (Q:Value→Shared→Prop) (E:Value→Shared→Prop),tn i s.heap→Q (.ref it) s→wpAny (model P w) A (pyIter (.ref it)) Q E s
abbrev TI:=St→Hp→(It→Hp→Prop)→Prop
def PIE (X:Cx) (pins:List (Addr×Obj)) (σ:St) (tg:Expr) (R:It→Hp→Prop) (itv:Value) (s2:Shared):Prop :=
 ∃(it:Addr) (fp:List Addr) (tn:Nat→Heap→Prop) (J:It) (H':Hp),itv = .ref it∧Inv X pins σ H' s2∧Turn X.prog X.w X.K tg J fp it tn∧tn 0 s2.heap∧(∀b∈fp,FpOk X pins H' b)∧R J H'
def PI (X:Cx) (tg iter:Expr) (wi:TI):Prop :=
 ∀(pins:List (Addr×Obj)) (s:Shared) (σ:St) (H:Hp) (R:It→Hp→Prop),Inv X pins σ H s→wi σ H R →
  wpAny (model X.prog X.w) X.A (eval iter X.env) (fun v s1=>wpAny (model X.prog X.w) X.A (pyIter v) (PIE X pins σ tg R) X.xe s1) X.xe s
theorem go_of {M:Model} {A:Around} {E:Value→Shared→Prop} {s:Shared} {tg:Expr} {it:Addr} {u:Value} {o:Obj} {n:String} {vs:Array Value} {Q:Unit→Shared→Prop} (ho:s.heap.get? it = some o) (hc:o.cls = .type n) (hd:o.data = .fields vs)
    (hn:["enumerate", "zip", "dict_itemiterator", "dict_reverseitemiterator", "odict_iterator", "itertools.zip_longest", "itertools.pairwise"].contains n = false) (hQ:Q () s) : wpAny M A (letOwnedTupleGo tg (.ref it) u) Q E s:=by
  unfold letOwnedTupleGo
  cases tg <;> first
    | exact wpAny_pure hQ
    | (cases u <;> first
        | exact wpAny_pure hQ
        | (refine wpAny_bind (wpAny_load ho ?_)
           rw [hc,hd]
           show wpAny M A (if (["enumerate", "zip", "dict_itemiterator", "dict_reverseitemiterator", "odict_iterator", "itertools.zip_longest", "itertools.pairwise"].contains n && vs[0]? == some (rawInt _)) = true then _ else _) Q E s
           rw [if_neg (by intro h; rw [hn,Bool.false_and] at h; cases h)]
           exact wpAny_pure hQ))
def Itl (K:PySem.W.Frag) (a:Addr):It :=
 ⟨fun i H=>∃xs x,SqL K H a xs∧xs[i]? = some x,fun i H x H'=>H'=H∧∀xs,SqL K H a xs→xs[i]? = some x,fun i H=>∃xs,SqL K H a xs∧xs.length≤i⟩
def Itt (K:PySem.W.Frag) (a:Addr):It :=
 ⟨fun i H=>∃xs x,SqT K H a xs∧xs[i]? = some x,fun i H x H'=>H'=H∧∀xs,SqT K H a xs→xs[i]? = some x,fun i H=>∃xs,SqT K H a xs∧xs.length≤i⟩
def Itr (lo:Int) (n:Nat):It:=⟨fun i _=>i<n,fun i H x H'=>H'=H∧x = .int (lo+i),fun i _=>n≤i⟩
theorem turn_list {P:Program}{w:World}{K:PySem.W.Frag}{tg:Expr}(a it:Addr):Turn P w K tg (Itl K a) [it] it (fun i h=>h.IsListIter it a i) where
 mem:=by simp
 obj:=fun i h st b hb=>by
  have e:b=it:=by simpa using hb
  subst e
  obtain⟨o,e,c,d⟩:=st
  exact⟨o,e,fun v z=>by rw[d]at z;cases z⟩
 keep:=fun i h h' st k=>st.at fun o e=>k it (by simp) o e
 item:=by
  intro X hP hw hK hc i pins s σ H E I hf st hg
  subst hP hw hK
  obtain⟨xs,x,hq,hx⟩:=hg
  obtain⟨its,rv,p,hz⟩:=I.list hq
  obtain⟨u,hu,ru⟩:=rv.get hx
  obtain⟨f0,f1,f2,f3,f4,f5⟩:=hf it (by simp)
  refine wpAny_pyNext_list_item st p.isList (x:=u) (by simpa using hu) fun h' st' sb=>?_
  have I1:Inv X pins σ H { s with heap:=h' }:=I.turned (t':=s.toks) (fun b o hb e=>(sb.2 b hb).trans e) f0 f1 f3 f4 f5
  obtain⟨o,e,c,d⟩:=id st'
  exact⟨u,rfl,go_of (s:={ s with heap:=h' }) e c d (by decide) ⟨x,H,I1,ru,⟨rfl,fun ys hy=>by rw[I.list_inj hy hq];exact hx⟩,st',fun b hb=>(hf b hb).1⟩⟩
 done:=by
  intro X hP hw hK hc i pins s σ H E I hf st hg
  subst hP hw hK
  obtain⟨xs,hq,hx⟩:=hg
  obtain⟨its,rv,p,hz⟩:=I.list hq
  obtain⟨f0,f1,f2,f3,f4,f5⟩:=hf it (by simp)
  have hl:=rv.length
  exact wpAny_pyNext_list_end (I.ok.hd hc) st p.isList (by simp;omega) fun h' eb=>⟨rfl,I.turned (t':=s.toks) (fun b o hb e=>eb b o hb e) f0 f1 f3 f4 f5⟩
 self:=fun _ _ _ _ _ st h=>wpAny_pyIter_listiter st h
theorem turn_tuple {P:Program}{w:World}{K:PySem.W.Frag}{tg:Expr}(a it:Addr):Turn P w K tg (Itt K a) [it] it (fun i h=>h.IsTupleIter it a i) where
 mem:=by simp
 obj:=fun i h st b hb=>by
  have e:b=it:=by simpa using hb
  subst e
  obtain⟨o,e,c,d⟩:=st
  exact⟨o,e,fun v z=>by rw[d]at z;cases z⟩
 keep:=fun i h h' st k=>st.at fun o e=>k it (by simp) o e
 item:=by
  intro X hP hw hK hc i pins s σ H E I hf st hg
  subst hP hw hK
  obtain⟨xs,x,hq,hx⟩:=hg
  obtain⟨its,rv,p,hz⟩:=I.tuple hq
  obtain⟨u,hu,ru⟩:=rv.get hx
  obtain⟨f0,f1,f2,f3,f4,f5⟩:=hf it (by simp)
  refine wpAny_pyNext_tuple_item st (show s.heap.IsTuple a its.toArray from p) (x:=u) (by simpa using hu) fun h' st' sb=>?_
  have I1:Inv X pins σ H { s with heap:=h' }:=I.turned (t':=s.toks) (fun b o hb e=>(sb.2 b hb).trans e) f0 f1 f3 f4 f5
  obtain⟨o,e,c,d⟩:=id st'
  exact⟨u,rfl,go_of (s:={ s with heap:=h' }) e c d (by decide) ⟨x,H,I1,ru,⟨rfl,fun ys hy=>by rw[I.tuple_inj hy hq];exact hx⟩,st',fun b hb=>(hf b hb).1⟩⟩
 done:=by
  intro X hP hw hK hc i pins s σ H E I hf st hg
  subst hP hw hK
  obtain⟨xs,hq,hx⟩:=hg
  obtain⟨its,rv,p,hz⟩:=I.tuple hq
  obtain⟨f0,f1,f2,f3,f4,f5⟩:=hf it (by simp)
  have hl:=rv.length
  exact wpAny_pyNext_tuple_end (I.ok.hd hc) st (show s.heap.IsTuple a its.toArray from p) (by simp;omega) fun h' eb=>⟨rfl,I.turned (t':=s.toks) (fun b o hb e=>eb b o hb e) f0 f1 f3 f4 f5⟩
 self:=fun _ _ _ _ _ st h=>wpAny_pyIter_tupleiter st h
theorem turn_range {P:Program}{w:World}{K:PySem.W.Frag}{tg:Expr}(it:Addr) (lo:Int) (n:Nat):Turn P w K tg (Itr lo n) [it] it (fun i h=>IsRangeIter h it (lo+(i:Nat)*1) ((n:Int)-(i:Nat)) 1) where
 mem:=by simp
 obj:=fun i h st b hb=>by
  have e:b=it:=by simpa using hb
  subst e
  exact⟨_,st,fun v z=>by
   have z':Data.fields _=Data.cell v:=z
   cases z'⟩
 keep:=fun i h h' st k=>k it (by simp) _ st
 item:=by
  intro X hP hw hK hc i pins s σ H E I hf st hg
  subst hP hw hK
  obtain⟨f0,f1,f2,f3,f4,f5⟩:=hf it (by simp)
  have W:=Walks.range (prog:=X.prog) (w:=X.w) (I.ok.hd hc) it lo 1 n
  refine W.item i s _ _ hg st fun v h' tk hv st' kk=>?_
  obtain⟨t,rfl⟩:=hv
  have I1:Inv X pins σ H { s with heap:=h',toks:=tk }:=I.turned (fun b o hb e=>kk b o (by simpa using hb) e) f0 f1 f3 f4 f5
  refine⟨_,rfl,go_of (s:={ s with heap:=h',toks:=tk }) (n := "range_iterator") st' rfl rfl (by decide) ⟨.int (lo+i),H,I1,⟨t,?_⟩,⟨rfl,rfl⟩,st',fun b hb=>(hf b hb).1⟩⟩
  rw[Int.mul_one]
 done:=by
  intro X hP hw hK hc i pins s σ H E I hf st hg
  subst hP hw hK
  obtain⟨f0,f1,f2,f3,f4,f5⟩:=hf it (by simp)
  exact wpAny_pyNext_range_end (I.ok.hd hc) st (by have:n≤i:=hg;omega) fun h' eb=>⟨rfl,I.turned (t':=s.toks) (fun b o hb e=>eb b o hb e) f0 f1 f3 f4 f5⟩
 self:=fun _ _ _ _ _ st h=>wpAny_pyIter_rangeiter st h
end L2
namespace L2
open PySem PySem.Spec PyProof.Rows
section
variable {X:Cx}{tg:Expr}
def iList (K:PySem.W.Frag) (tl:TE):TI:=fun σ H R=>tl σ H fun x H1=>∃a,x = .ref a∧(∃xs,SqL K H1 a xs)∧R (Itl K a) H1
def iTup (K:PySem.W.Frag) (tl:TE):TI:=fun σ H R=>tl σ H fun x H1=>∃a,x = .ref a∧(∃xs,SqT K H1 a xs)∧R (Itt K a) H1
theorem pi_list {l:Expr}{tl:TE}(hl:PE X l tl):PI X tg l (iList X.K tl):=by
 intro pins s σ H R I h
 refine thn (hl pins s σ H _ I h) fun v s1 ⟨x,H1,I1,r1,q1⟩=>?_
 obtain⟨a,e,⟨xs,hq⟩,q⟩:=q1
 subst e
 cases r1
 obtain⟨its,rv,p,hz⟩:=I1.list hq
 refine wpAny_pyIter_list p.isList ?_
 refine⟨s1.heap.objs.size,[s1.heap.objs.size],_,_,H1,rfl,I1.kept (t':=s1.toks) fun b o e=>Heap.get?_push_of_some _ e,turn_list a _,⟨_,Heap.get?_push_size _ rfl,rfl,rfl⟩,fun b hb=>?_,q⟩
 have e:b=s1.heap.objs.size:=by simpa using hb
 subst e
 exact I1.fpOk (Nat.le_refl _) (I1.hok.fresh (Nat.le_refl _))
theorem pi_tup {l:Expr}{tl:TE}(hl:PE X l tl):PI X tg l (iTup X.K tl):=by
 intro pins s σ H R I h
 refine thn (hl pins s σ H _ I h) fun v s1 ⟨x,H1,I1,r1,q1⟩=>?_
 obtain⟨a,e,⟨xs,hq⟩,q⟩:=q1
 subst e
 cases r1
 obtain⟨its,rv,p,hz⟩:=I1.tuple hq
 refine wpAny_pyIter_tuple (show s1.heap.IsTuple a its.toArray from p) ?_
 refine⟨s1.heap.objs.size,[s1.heap.objs.size],_,_,H1,rfl,I1.kept (t':=s1.toks) fun b o e=>Heap.get?_push_of_some _ e,turn_tuple a _,⟨_,Heap.get?_push_size _ rfl,rfl,rfl⟩,fun b hb=>?_,q⟩
 have e:b=s1.heap.objs.size:=by simpa using hb
 subst e
 exact I1.fpOk (Nat.le_refl _) (I1.hok.fresh (Nat.le_refl _))
theorem range_it {pins:List (Addr×Obj)}{σ:St}{H:Hp}{s:Shared}{R:It→Hp→Prop}{E:Value→Shared→Prop}{lo hi:Int}{t u v:Tok}{tk:Nat}(I:Inv X pins σ H s) (h1:-(2^62)≤lo) (h2:lo<2^62) (h3:-(2^62)≤hi) (h4:hi<2^62)
  (q:R (Itr lo (hi-lo).toNat) H):wpAny (model X.prog X.w) X.A (pyIter (.ref s.heap.objs.size)) (PIE X pins σ tg R) E { s with heap:=s.heap.push { cls:=.type "range",data:=.fields #[.int lo t,.int hi u,.int 1 v] },toks:=tk }:=by
 refine wpAny_pyIter_range (IsRange.new ..) (small_one h1 h2 h3 h4) ?_
 have I1:Inv X pins σ H { s with heap:=s.heap.push { cls:=.type "range",data:=.fields #[.int lo t,.int hi u,.int 1 v] },toks:=tk }:=I.kept fun b o e=>Heap.get?_push_of_some _ e
 refine⟨(s.heap.push { cls:=.type "range",data:=.fields #[.int lo t,.int hi u,.int 1 v] }).objs.size,[(s.heap.push { cls:=.type "range",data:=.fields #[.int lo t,.int hi u,.int 1 v] }).objs.size],_,_,H,rfl,
  I1.kept (t':=tk) fun b o e=>Heap.get?_push_of_some _ e,turn_range _ lo (hi-lo).toNat,?_,fun b hb=>?_,q⟩
 ·have e1:lo+((0:Nat):Int)*1=lo:=by simp
  have e2:(((hi-lo).toNat:Nat):Int)-((0:Nat):Int)=Builtin.Range.rangeSize lo hi 1:=by rw[rangeSize_one];split <;> omega
  show IsRangeIter _ _ (lo+((0:Nat):Int)*1) ((((hi-lo).toNat:Nat):Int)-((0:Nat):Int)) 1
  rw[e1,e2]
  exact Heap.get?_push_size _ rfl
 ·have e:b =(s.heap.push { cls:=.type "range",data:=.fields #[.int lo t,.int hi u,.int 1 v] }).objs.size:=by simpa using hb
  subst e
  exact I1.fpOk (Nat.le_refl _) (I1.hok.fresh (Nat.le_refl _))
def iRng1 (ta:TA):TI:=fun σ H R=>ta σ H fun vs H1=>∃j:Int,vs=[.int j]∧-(2^62)≤j∧j<2^62∧R (Itr 0 j.toNat) H1
theorem pi_range1 {a:Expr}{ta:TA}{p pos:Pos}(hg:Gl X "range") (hm:X.mg "range" = none) (ha:PA X [a] ta) (hs:starEach [a] X.env=[(false,eval a X.env)]:=by rfl):PI X tg (.Call (.Name "range" p) [a] [] pos) (iRng1 ta):=by
 intro pins s σ H R I h
 refine Call_ (ld_blt I hg hm boot_range (PyProof.Rows.callWith_type1 (thn (ha pos pins s σ H _ I h) fun us s1 ⟨vs,H1,I1,r1,q1⟩=>?_) hs rfl))
 obtain⟨j,e,q1,q2,q⟩:=q1
 subst e
 cases r1 with
 | cons r rr =>
  cases rr
  obtain⟨t,rfl⟩:=r
  exact call_range_1 (range_it I1 (by omega) (by omega) q1 q2 (by simpa using q))
def tFor (wi:TI) (g:TG) (tb:TS):TS:=fun D σ H=>wi σ H fun J H1=>∃W:Nat→Nat→St→Hp→Prop,(∃m,W 0 m σ H1)∧∀i m σ H,W i m σ H →
 (J.stop i H∧D.nx σ H) ∨(J.go i H∧∃N:St→Hp→Prop,(∀σ' H',N σ' H'→∃m',m'<m∧W (i+1) m' σ' H')∧∀x H',J.yld i H x H'→g x σ H' fun σ2 H2=>tb { D with nx:=N,ct:=N,bk:=D.nx } σ2 H2)
def pinsAt (fp:List Addr) (h:Heap):List (Addr×Obj):=fp.filterMap fun b=>(h.get? b).map fun o=>(b,o)
theorem mem_pinsAt {fp:List Addr}{h:Heap}{b:Addr}{o:Obj}(hb:b∈fp) (e:h.get? b=some o):(b,o)∈pinsAt fp h:=List.mem_filterMap.mpr ⟨b,hb,by rw[e];rfl⟩
theorem of_pinsAt {fp:List Addr}{h:Heap}{p:Addr×Obj}(hp:p∈pinsAt fp h):p.1∈fp∧h.get? p.1=some p.2:=by
 obtain⟨b,hb,e⟩:=List.mem_filterMap.mp hp
 cases q:h.get? b with
 | none=>rw[q]at e;cases e
 | some o =>
  rw[q]at e
  have e':(b,o)=p:=Option.some.inj e
  subst e'
  exact⟨hb,q⟩
theorem Inv.pinned {pins:List (Addr×Obj)}{σ:St}{H:Hp}{s:Shared}{fp:List Addr}(I:Inv X pins σ H s) (hf:∀b∈fp,FpOk X pins H b) (ho:∀b∈fp,∃o,s.heap.get? b=some o∧∀v,o.data ≠ .cell v):Inv X (pins++pinsAt fp s.heap) σ H s :=
 I.pins_of fun p hp=>(List.mem_append.mp hp).elim (fun z=>I.pin p (List.mem_append_right _ z)) fun z=>by
  obtain⟨hb,e⟩:=of_pinsAt z
  obtain⟨f0,f1,f2,_⟩:=hf p.1 hb
  obtain⟨o,e',d⟩:=ho p.1 hb
  rw[e]at e';cases e'
  exact⟨e,f0,f1,f2,d⟩
theorem Inv.unpinned {pins pl:List (Addr×Obj)}{σ:St}{H:Hp}{s:Shared}(I:Inv X (pins++pl) σ H s):Inv X pins σ H s:=I.pins_of fun p hp=>I.pin p (List.mem_append_right _ (List.mem_append_left _ hp))
theorem ps_for {iter:Expr}{body:List Stmt}{wi:TI}{g:TG}{tb:TS}{pos:Pos}(hp:PassesOwn (model X.prog X.w) X.A X.env X.xe) (hc:X.calm=true) (hi:PI X tg iter wi) (hg:PG X tg g) (hb:PSs X body tb)
  (hs:∀x,foldedSetIterable iter X.env x=pure x:=by intro _;rfl):PS X (.For tg iter body [] pos) (tFor wi g tb):=by
 intro pins s σ H D I h
 refine wpAny_For (thn (hi pins s σ H _ I h) fun v s1 h1=>thn h1 fun itv s2 h2=>?_) hs
 obtain⟨it,fp,tn,J,H2,e,I2,T,st2,f2,W,⟨m0,w0⟩,turn⟩:=h2
 subst e
 have stat:∀{H':Hp},(∀b∈fp,H' b=none)→∀b∈fp,FpOk X pins H' b:=fun hn b hb=>⟨hn b hb,(f2 b hb).2⟩
 refine codeAny_forLoop_any (fun n s'=>∃i σ' H',Inv X pins σ' H' s'∧tn i s'.heap∧(∀b∈fp,H' b=none)∧W i n σ' H') ?_ m0 ⟨0,σ,H2,I2,st2,fun b hb=>(f2 b hb).1,w0⟩
 rintro n s3 ⟨i,σ3,H3,I3,st3,fr3,w3⟩
 rcases turn i n σ3 H3 w3 with⟨stop,qn⟩|⟨go,N,hN,step⟩
 ·refine wpAny_passesOwn hp (thn (T.done X rfl rfl rfl hc i pins s3 σ3 H3 X.xe I3 (stat fr3) st3 stop) fun r s4 ⟨hr,I4⟩=>?_)
  subst hr
  exact wpAny_execs_nil ⟨σ3,H3,I4,qn⟩
 ·refine wpAny_passesOwn hp (thn (T.item X rfl rfl rfl hc i pins s3 σ3 H3 X.xe I3 (stat fr3) st3 go) fun r s4 ⟨u,hr,h4⟩=>?_)
  subst hr
  refine wpAny_passesOwn hp (thn h4 fun _ s5 ⟨x,H5,I5,r5,y5,st5,fr5⟩=>?_)
  have I5':=I5.pinned (stat fr5) (T.obj _ _ st5)
  refine wpAny_passesOwn hp (thn (hg _ s5 σ3 H5 x u _ I5' r5 (step x H5 y5)) fun _ s6 ⟨σ6,H6,I6,q6⟩=>?_)
  refine wpAny_passesOwn hp (thn (hb _ s6 σ6 H6 _ I6 q6) fun f s7 q7=>?_)
  have again:∀{σ7:St}{H7:Hp},Inv X (pins++pinsAt fp s5.heap) σ7 H7 s7→N σ7 H7→∃m,m<n∧∃i σ' H',Inv X pins σ' H' s7∧tn i s7.heap∧(∀b∈fp,H' b=none)∧W i m σ' H':=fun {σ7 H7} I7 n7=>by
   obtain⟨m',hm,w7⟩:=hN σ7 H7 n7
   refine⟨m',hm,i+1,σ7,H7,I7.unpinned,T.keep _ _ _ st5 fun b hb o e=>(I7.pin (b,o) (List.mem_append_right _ (List.mem_append_right _ (mem_pinsAt hb e)))).1,fun b hb=>?_,w7⟩
   obtain⟨o,e,d⟩:=T.obj _ _ st5 b hb
   exact(I7.pin (b,o) (List.mem_append_right _ (List.mem_append_right _ (mem_pinsAt hb e)))).2.1
  cases f with
  | next=>obtain⟨σ7,H7,I7,n7⟩:=q7;exact again I7 n7
  | cont=>obtain⟨σ7,H7,I7,n7⟩:=q7;exact again I7 n7
  | brk=>obtain⟨σ7,H7,I7,q7⟩:=q7;exact⟨σ7,H7,I7.unpinned,q7⟩
  | ret v=>obtain⟨x7,σ7,H7,I7,r7,q7⟩:=q7;exact⟨x7,σ7,H7,I7.unpinned,r7,q7⟩
end
theorem for_list {K:PySem.W.Frag}{a:Addr}{xs:List V}{g:TG}{tb:TS}{D:Ends}{σ:St}{H:Hp}(Pv:Nat→St→Hp→Prop) (h0:Pv 0 σ H) (hl:∀i σ H,i≤xs.length→Pv i σ H→SqL K H a xs)
  (hs:∀i x σ H,xs[i]? = some x→Pv i σ H→g x σ H fun σ2 H2=>tb { D with nx:=Pv (i+1),ct:=Pv (i+1),bk:=D.nx } σ2 H2) (hd:∀σ H,Pv xs.length σ H→D.nx σ H) :
  ∃W:Nat→Nat→St→Hp→Prop,(∃m,W 0 m σ H)∧∀i m σ H,W i m σ H →
   ((Itl K a).stop i H∧D.nx σ H) ∨((Itl K a).go i H∧∃N:St→Hp→Prop,(∀σ' H',N σ' H'→∃m',m'<m∧W (i+1) m' σ' H')∧∀x H',(Itl K a).yld i H x H'→g x σ H' fun σ2 H2=>tb { D with nx:=N,ct:=N,bk:=D.nx } σ2 H2):=by
 refine⟨fun i m σ H=>m=xs.length-i∧i≤xs.length∧Pv i σ H,⟨xs.length,by simp,Nat.zero_le _,h0⟩,?_⟩
 rintro i m σ H ⟨rfl,hi,p⟩
 have q:=hl i σ H hi p
 by_cases hlt:i<xs.length
 ·refine .inr ⟨⟨xs,xs[i],q,by simp[hlt]⟩,Pv (i+1),fun σ' H' p'=>⟨xs.length-(i+1),by omega,rfl,hlt,p'⟩,fun x H' y=>?_⟩
  obtain⟨e,y⟩:=y
  subst e
  exact hs i x σ _ (y xs q) p
 ·have e:i=xs.length:=by omega
  subst e
  exact .inl ⟨⟨xs,q,Nat.le_refl _⟩,hd σ H p⟩
theorem for_tup {K:PySem.W.Frag}{a:Addr}{xs:List V}{g:TG}{tb:TS}{D:Ends}{σ:St}{H:Hp}(Pv:Nat→St→Hp→Prop) (h0:Pv 0 σ H) (hl:∀i σ H,i≤xs.length→Pv i σ H→SqT K H a xs)
  (hs:∀i x σ H,xs[i]? = some x→Pv i σ H→g x σ H fun σ2 H2=>tb { D with nx:=Pv (i+1),ct:=Pv (i+1),bk:=D.nx } σ2 H2) (hd:∀σ H,Pv xs.length σ H→D.nx σ H) :
  ∃W:Nat→Nat→St→Hp→Prop,(∃m,W 0 m σ H)∧∀i m σ H,W i m σ H →
   ((Itt K a).stop i H∧D.nx σ H) ∨((Itt K a).go i H∧∃N:St→Hp→Prop,(∀σ' H',N σ' H'→∃m',m'<m∧W (i+1) m' σ' H')∧∀x H',(Itt K a).yld i H x H'→g x σ H' fun σ2 H2=>tb { D with nx:=N,ct:=N,bk:=D.nx } σ2 H2):=by
 refine⟨fun i m σ H=>m=xs.length-i∧i≤xs.length∧Pv i σ H,⟨xs.length,by simp,Nat.zero_le _,h0⟩,?_⟩
 rintro i m σ H ⟨rfl,hi,p⟩
 have q:=hl i σ H hi p
 by_cases hlt:i<xs.length
 ·refine .inr ⟨⟨xs,xs[i],q,by simp[hlt]⟩,Pv (i+1),fun σ' H' p'=>⟨xs.length-(i+1),by omega,rfl,hlt,p'⟩,fun x H' y=>?_⟩
  obtain⟨e,y⟩:=y
  subst e
  exact hs i x σ _ (y xs q) p
 ·have e:i=xs.length:=by omega
  subst e
  exact .inl ⟨⟨xs,q,Nat.le_refl _⟩,hd σ H p⟩
theorem for_range {lo:Int}{n:Nat}{g:TG}{tb:TS}{D:Ends}{σ:St}{H:Hp}(Pv:Nat→St→Hp→Prop) (h0:Pv 0 σ H)
  (hs:∀i σ H,i<n→Pv i σ H→g (.int (lo+i)) σ H fun σ2 H2=>tb { D with nx:=Pv (i+1),ct:=Pv (i+1),bk:=D.nx } σ2 H2) (hd:∀σ H,Pv n σ H→D.nx σ H) :
  ∃W:Nat→Nat→St→Hp→Prop,(∃m,W 0 m σ H)∧∀i m σ H,W i m σ H →
   ((Itr lo n).stop i H∧D.nx σ H) ∨((Itr lo n).go i H∧∃N:St→Hp→Prop,(∀σ' H',N σ' H'→∃m',m'<m∧W (i+1) m' σ' H')∧∀x H',(Itr lo n).yld i H x H'→g x σ H' fun σ2 H2=>tb { D with nx:=N,ct:=N,bk:=D.nx } σ2 H2):=by
 refine⟨fun i m σ H=>m=n-i∧i≤n∧Pv i σ H,⟨n,by simp,Nat.zero_le _,h0⟩,?_⟩
 rintro i m σ H ⟨rfl,hi,p⟩
 by_cases hlt:i<n
 ·refine .inr ⟨hlt,Pv (i+1),fun σ' H' p'=>⟨n-(i+1),by omega,rfl,hlt,p'⟩,fun x H' y=>?_⟩
  obtain⟨e,y⟩:=y
  subst e y
  exact hs i σ _ hlt p
 ·have e:i=n:=by omega
  subst e
  exact .inl ⟨Nat.le_refl _,hd σ H p⟩
end L2
namespace L2
open PySem PySem.Spec PyProof.Rows
abbrev R2:=V→V→Hp→VK→Prop
def OpR (X:Cx) (f:Value→Value→Sem Value) (r:R2):Prop :=
 ∀(pins:List (Addr×Obj)) (s:Shared) (σ:St) (H:Hp) (x y:V) (v u:Value) (Q:VK),Inv X pins σ H s→RelV x v→RelV y u→r x y H Q →
  wpAny (model X.prog X.w) X.A (f v u) (EP X pins σ Q) X.xe s
def UnR (X:Cx) (f:Value→Sem Value) (r:V→Hp→VK→Prop):Prop :=
 ∀(pins:List (Addr×Obj)) (s:Shared) (σ:St) (H:Hp) (x:V) (v:Value) (Q:VK),Inv X pins σ H s→RelV x v→r x H Q →
  wpAny (model X.prog X.w) X.A (f v) (EP X pins σ Q) X.xe s
def CallR (X:Cx) (f:Value) (r:List V→Hp→VK→Prop):Prop :=
 ∀(pins:List (Addr×Obj)) (s:Shared) (σ:St) (H:Hp) (xs:List V) (us:List Value) (Q:VK),Inv X pins σ H s→Vals xs us→r xs H Q →
  wpAny (model X.prog X.w) X.A (call f us) (EP X pins σ Q) X.xe s
def TruR (X:Cx) (r:V→Hp→(Bool→Hp→Prop)→Prop):Prop :=
 ∀(pins:List (Addr×Obj)) (s:Shared) (σ:St) (H:Hp) (x:V) (v:Value) (Q:Bool→Hp→Prop),Inv X pins σ H s→RelV x v→r x H Q →
  wpAny (model X.prog X.w) X.A (truthy v) (TP X pins σ Q) X.xe s
def tOp (r:R2) (ta tb:TE):TE:=fun σ H Q=>ta σ H fun x H1=>tb σ H1 fun y H2=>r x y H2 Q
def tUn (r:V→Hp→VK→Prop) (ta:TE):TE:=fun σ H Q=>ta σ H fun x H1=>r x H1 Q
def rI (C:Int→Int→Prop) (g:Int→Int→V):R2:=fun x y H Q=>∃i j,x = .int i∧y = .int j∧C i j∧Q (g i j) H
def rI0 (g:Int→Int→V):R2:=fun x y H Q=>∃i j,x = .int i∧y = .int j∧Q (g i j) H
def rU (g:Int→V):V→Hp→VK→Prop:=fun x H Q=>∃i,x = .int i∧Q (g i) H
section
variable {X:Cx}{a b c:Expr}{ta tb tc:TE}{pos:Pos}
theorem binT (ha:PE X a ta) (hb:PE X b tb) {pins:List (Addr×Obj)}{s:Shared}{σ:St}{H:Hp}{R:V→V→Hp→Prop}(I:Inv X pins σ H s)
  (h:ta σ H fun x H1=>tb σ H1 fun y H2=>R x y H2) {Q:Value→Shared→Prop}{f:Value→Value→Sem Value}
  (hf:∀v u s2 x y H2,Inv X pins σ H2 s2→RelV x v→RelV y u→R x y H2→wpAny (model X.prog X.w) X.A (f v u) Q X.xe s2) :
  wpAny (model X.prog X.w) X.A (eval a X.env) (fun v s₁=>wpAny (model X.prog X.w) X.A (eval b X.env) (fun u s₂=>wpAny (model X.prog X.w) X.A (f v u) Q X.xe s₂) X.xe s₁) X.xe s:=by
 refine thn (ha pins s σ H _ I h) fun v s1 ⟨x,H1,I1,r1,q1⟩=>?_
 refine thn (hb pins s1 σ H1 _ I1 q1) fun u s2 ⟨y,H2,I2,r2,q2⟩=>?_
 exact hf v u s2 x y H2 I2 r1 r2 q2
theorem pe_op {op:Operator}{r:R2}(ho:OpR X (binaryOp op) r) (ha:PE X a ta) (hb:PE X b tb):PE X (.BinOp a op b pos) (tOp r ta tb):=by
 intro pins s σ H Q I h
 exact wpAny_BinOp (binT ha hb I h fun v u s2 x y H2 I2 rx ry q=>ho pins s2 σ H2 x y v u Q I2 rx ry q)
theorem pe_un {op:UnaryOp}{r:V→Hp→VK→Prop}(ho:UnR X (unaryOp op) r) (ha:PE X a ta):PE X (.UnaryOp op a pos) (tUn r ta):=by
 intro pins s σ H Q I h
 exact UnaryOp_ (thn (ha pins s σ H _ I h) fun v s1 ⟨x,H1,I1,r1,q1⟩=>ho pins s1 σ H1 x v Q I1 r1 q1)
theorem opI {f:Value→Value→Sem Value}{C:Int→Int→Prop}{g:Int→Int→Int}
  (rule:∀(i j:Int) (t u:Tok) (s:Shared) (Q:Value→Shared→Prop) (E:Value→Shared→Prop),C i j→Q (.int (g i j) s.toks) { s with toks:=s.toks+1 }→wpAny (model X.prog X.w) X.A (f (.int i t) (.int j u)) Q E s) :
  OpR X f (rI C fun i j=>.int (g i j)):=by
 intro pins s σ H x y v u Q I rx ry h
 obtain⟨i,j,rfl,rfl,hc,q⟩:=h
 obtain⟨t,rfl⟩:=rx
 obtain⟨t',rfl⟩:=ry
 exact rule i j t t' s _ _ hc ⟨.int (g i j),H,I.tok _,⟨_,rfl⟩,q⟩
theorem opI0 {f:Value→Value→Sem Value}{g:Int→Int→Int}
  (rule:∀(i j:Int) (t u:Tok) (s:Shared) (Q:Value→Shared→Prop) (E:Value→Shared→Prop),Q (.int (g i j) s.toks) { s with toks:=s.toks+1 }→wpAny (model X.prog X.w) X.A (f (.int i t) (.int j u)) Q E s) :
  OpR X f (rI0 fun i j=>.int (g i j)):=by
 intro pins s σ H x y v u Q I rx ry h
 obtain⟨i,j,rfl,rfl,q⟩:=h
 obtain⟨t,rfl⟩:=rx
 obtain⟨t',rfl⟩:=ry
 exact rule i j t t' s _ _ ⟨.int (g i j),H,I.tok _,⟨_,rfl⟩,q⟩
theorem opB0 {f:Value→Value→Sem Value}{g:Int→Int→Bool}
  (rule:∀(i j:Int) (t u:Tok) (s:Shared) (Q:Value→Shared→Prop) (E:Value→Shared→Prop),Q (.bool (g i j)) s→wpAny (model X.prog X.w) X.A (f (.int i t) (.int j u)) Q E s) :
  OpR X f (rI0 fun i j=>.bl (g i j)):=by
 intro pins s σ H x y v u Q I rx ry h
 obtain⟨i,j,rfl,rfl,q⟩:=h
 obtain⟨t,rfl⟩:=rx
 obtain⟨t',rfl⟩:=ry
 exact rule i j t t' s _ _ ⟨.bl (g i j),H,I,rfl,q⟩
def CPow (i j:Int):Prop:=0≤j∧j≤1000000∧i.natAbs<2^64
def CMul (i j:Int):Prop:=(-(2^64)<i∧i<2^64) ∨(-(2^64)<j∧j<2^64)
theorem CMul.ok {i j:Int}(h:CMul i j):IntMulOk i j:=by
 rcases h with⟨h1,h2⟩|⟨h1,h2⟩
 ·exact .of_left (intBits_le_64 h1 h2)
 ·exact .of_right (intBits_le_64 h1 h2)
theorem op_add:OpR X (binaryOp .Add) (rI0 fun i j=>.int (i+j)):=opI0 fun _ _ _ _ _ _ _ q=>add_int q
theorem op_sub:OpR X (binaryOp .Sub) (rI0 fun i j=>.int (i-j)):=opI0 fun _ _ _ _ _ _ _ q=>sub_int q
theorem op_mul:OpR X (binaryOp .Mult) (rI CMul fun i j=>.int (i*j)):=opI fun _ _ _ _ _ _ _ hc q=>mul_int q hc.ok
theorem op_mod:OpR X (binaryOp .Mod) (rI (fun _ j=>0<j) fun i j=>.int (i%j)):=opI fun i j _ _ _ _ _ hc q=>by
 have h1:(0:Int)<j:=hc
 exact mod_int' (by omega) (by rw[Int.fmod_eq_emod_of_nonneg i (by omega)];exact q)
theorem op_pow:OpR X (binaryOp .Pow) (rI CPow fun i j=>.int (i^j.toNat)):=opI fun _ _ _ _ _ _ _ hc q=>pow_int_small hc.1 hc.2.1 hc.2.2 q
theorem unI {f:Value→Sem Value}{g:Int→Int}
  (rule:∀(i:Int) (t:Tok) (s:Shared) (Q:Value→Shared→Prop) (E:Value→Shared→Prop),Q (.int (g i) s.toks) { s with toks:=s.toks+1 }→wpAny (model X.prog X.w) X.A (f (.int i t)) Q E s) :
  UnR X f (rU fun i=>.int (g i)):=by
 intro pins s σ H x v Q I rx h
 obtain⟨i,rfl,q⟩:=h
 obtain⟨t,rfl⟩:=rx
 exact rule i t s _ _ ⟨.int (g i),H,I.tok _,⟨_,rfl⟩,q⟩
theorem un_neg:UnR X (unaryOp .USub) (rU fun i=>.int (-i)):=unI fun _ _ _ _ _ q=>neg_int q
end
def scal:V→V→Bool
 | .non,.non=>true | .non,.int _=>true | .int _,.non=>true | .non,.bl _=>true | .bl _,.non=>true | .non,.str _=>true | .str _,.non=>true
 | .int _,.int _=>true | .bl _,.bl _=>true | .str _,.str _=>true | .byt _,.byt _=>true
 | .int _,.str _=>true | .str _,.int _=>true | .bl _,.str _=>true | .str _,.bl _=>true
 | _,_=>false
def rEq:R2:=fun x y H Q=>scal x y=true∧Q (.bl (decide (x=y))) H
def rNe:R2:=fun x y H Q=>scal x y=true∧Q (.bl (!decide (x=y))) H
theorem dec_int {i j:Int}:decide (V.int i=V.int j) =(i == j):=by
 rw[Bool.eq_iff_iff]
 simp
theorem dec_bl {i j:Bool}:decide (V.bl i=V.bl j) =(i == j):=by
 rw[Bool.eq_iff_iff]
 simp
theorem dec_str {i j:Str}:decide (V.str i=V.str j) =(i == j):=by
 rw[Bool.eq_iff_iff]
 simp
theorem dec_byt {i j:Array UInt8}:decide (V.byt i=V.byt j) =(i.toList == j.toList):=by
 rw[Bool.eq_iff_iff]
 cases i
 cases j
 simp
section
variable {X:Cx}{a b c:Expr}{ta tb tc:TE}{pos:Pos}
theorem fin_bl {pins:List (Addr×Obj)}{σ:St}{H:Hp}{s:Shared}{Q:VK}{k k':Bool}(I:Inv X pins σ H s) (q:Q (.bl k) H) (e:k=k'):EP X pins σ Q (.bool k') s:=by
 subst e
 exact⟨.bl k,H,I,rfl,q⟩
theorem op_eq:OpR X (compareOp .Eq) rEq:=by
 intro pins s σ H x y v u Q I rx ry h
 obtain⟨hs,q⟩:=h
 cases x with
 | non =>
  cases rx
  cases y with
  | non=>cases ry;exact PySem.EqNone.eq_none_none (fin_bl I q (by simp))
  | bl j=>cases ry;exact PySem.EqNone.eq_none_bool (fin_bl I q (by simp))
  | int j=>obtain⟨t',rfl⟩:=ry;exact PySem.EqNone.eq_none_int (fin_bl I q (by simp))
  | str j=>obtain⟨t',rfl⟩:=ry;exact PySem.EqNone.eq_none_str (fin_bl I q (by simp))
  | _=>exact absurd (show false=true from hs) Bool.false_ne_true
 | bl i =>
  cases rx
  cases y with
  | non=>cases ry;exact PySem.EqNone.eq_bool_none (fin_bl I q (by simp))
  | bl j=>cases ry;exact eq_bool (fin_bl I q dec_bl)
  | str j=>obtain⟨t',rfl⟩:=ry;exact PySem.EqMixed.eq_bool_str (fin_bl I q (by simp))
  | _=>exact absurd (show false=true from hs) Bool.false_ne_true
 | int i =>
  obtain⟨t,rfl⟩:=rx
  cases y with
  | non=>cases ry;exact PySem.EqNone.eq_int_none (fin_bl I q (by simp))
  | int j=>obtain⟨t',rfl⟩:=ry;exact eq_int (fin_bl I q dec_int)
  | str j=>obtain⟨t',rfl⟩:=ry;exact PySem.EqMixed.eq_int_str (fin_bl I q (by simp))
  | _=>exact absurd (show false=true from hs) Bool.false_ne_true
 | str i =>
  obtain⟨t,rfl⟩:=rx
  cases y with
  | non=>cases ry;exact PySem.EqNone.eq_str_none (fin_bl I q (by simp))
  | bl j=>cases ry;exact PySem.EqMixed.eq_str_bool (fin_bl I q (by simp))
  | int j=>obtain⟨t',rfl⟩:=ry;exact PySem.EqMixed.eq_str_int (fin_bl I q (by simp))
  | str j=>obtain⟨t',rfl⟩:=ry;exact eq_str (fin_bl I q dec_str)
  | _=>exact absurd (show false=true from hs) Bool.false_ne_true
 | byt i =>
  obtain⟨t,rfl⟩:=rx
  cases y with
  | byt j=>obtain⟨t',rfl⟩:=ry;exact PySem.W.eq_bytes (fin_bl I q dec_byt)
  | _=>exact absurd (show false=true from hs) Bool.false_ne_true
 | _=>cases y <;> exact absurd (show false=true from hs) Bool.false_ne_true
theorem op_ne:OpR X (compareOp .NotEq) rNe:=by
 intro pins s σ H x y v u Q I rx ry h
 obtain⟨hs,q⟩:=h
 cases x with
 | non =>
  cases rx
  cases y with
  | non=>cases ry;exact PySem.EqNone.ne_none_none (fin_bl I q (by simp))
  | bl j=>cases ry;exact PySem.EqNone.ne_none_bool (fin_bl I q (by simp))
  | int j=>obtain⟨t',rfl⟩:=ry;exact PySem.EqNone.ne_none_int (fin_bl I q (by simp))
  | str j=>obtain⟨t',rfl⟩:=ry;exact PySem.EqNone.ne_none_str (fin_bl I q (by simp))
  | _=>exact absurd (show false=true from hs) Bool.false_ne_true
 | bl i =>
  cases rx
  cases y with
  | non=>cases ry;exact PySem.EqNone.ne_bool_none (fin_bl I q (by simp))
  | bl j=>cases ry;exact ne_bool (fin_bl I q (congrArg not dec_bl))
  | str j=>obtain⟨t',rfl⟩:=ry;exact PySem.EqMixed.ne_bool_str (fin_bl I q (by simp))
  | _=>exact absurd (show false=true from hs) Bool.false_ne_true
 | int i =>
  obtain⟨t,rfl⟩:=rx
  cases y with
  | non=>cases ry;exact PySem.EqNone.ne_int_none (fin_bl I q (by simp))
  | int j=>obtain⟨t',rfl⟩:=ry;exact ne_int (fin_bl I q (congrArg not dec_int))
  | str j=>obtain⟨t',rfl⟩:=ry;exact PySem.EqMixed.ne_int_str (fin_bl I q (by simp))
  | _=>exact absurd (show false=true from hs) Bool.false_ne_true
 | str i =>
  obtain⟨t,rfl⟩:=rx
  cases y with
  | non=>cases ry;exact PySem.EqNone.ne_str_none (fin_bl I q (by simp))
  | bl j=>cases ry;exact PySem.EqMixed.ne_str_bool (fin_bl I q (by simp))
  | int j=>obtain⟨t',rfl⟩:=ry;exact PySem.EqMixed.ne_str_int (fin_bl I q (by simp))
  | str j=>obtain⟨t',rfl⟩:=ry;exact ne_str (fin_bl I q (congrArg not dec_str))
  | _=>exact absurd (show false=true from hs) Bool.false_ne_true
 | byt i =>
  obtain⟨t,rfl⟩:=rx
  cases y with
  | byt j=>obtain⟨t',rfl⟩:=ry;exact PySem.W.ne_bytes (fin_bl I q (congrArg not dec_byt))
  | _=>exact absurd (show false=true from hs) Bool.false_ne_true
 | _=>cases y <;> exact absurd (show false=true from hs) Bool.false_ne_true
theorem op_lt:OpR X (compareOp .Lt) (rI0 fun i j=>.bl (decide (i<j))):=opB0 fun _ _ _ _ _ _ _ q=>lt_int q
theorem op_le:OpR X (compareOp .LtE) (rI0 fun i j=>.bl (decide (i≤j))):=opB0 fun _ _ _ _ _ _ _ q=>le_int q
theorem op_gt:OpR X (compareOp .Gt) (rI0 fun i j=>.bl (decide (j<i))):=opB0 fun _ _ _ _ _ _ _ q=>gt_int q
theorem op_ge:OpR X (compareOp .GtE) (rI0 fun i j=>.bl (decide (j≤i))):=opB0 fun _ _ _ _ _ _ _ q=>ge_int q
theorem op_isN:OpR X (compareOp .Is) (fun x y H Q=>y = .non∧Q (.bl (decide (x = .non))) H):=by
 intro pins s σ H x y v u Q I rx ry h
 obtain⟨rfl,q⟩:=h
 cases ry
 refine is_none_gen (fin_bl I q ?_)
 cases x <;> first
  | (cases rx;rfl)
  | (obtain⟨t,rfl⟩:=rx;rfl)
theorem op_notN:OpR X (compareOp .IsNot) (fun x y H Q=>y = .non∧Q (.bl (!decide (x = .non))) H):=by
 intro pins s σ H x y v u Q I rx ry h
 obtain⟨rfl,q⟩:=h
 cases ry
 refine isnot_none_gen (fin_bl I q ?_)
 cases x <;> first
  | (cases rx;rfl)
  | (obtain⟨t,rfl⟩:=rx;rfl)
theorem op_notin_str:OpR X (compareOp .NotIn) (fun x y H Q=>∃i j,x = .str i∧y = .str j∧Q (.bl (!(!(Builtin.Str.occurrences j i 0 j.length 1).isEmpty))) H):=by
 intro pins s σ H x y v u Q I rx ry h
 obtain⟨i,j,rfl,rfl,q⟩:=h
 obtain⟨t,rfl⟩:=rx
 obtain⟨t',rfl⟩:=ry
 exact notIn_str (fin_bl I q rfl)
theorem nomark (b:Expr) {op:CmpOp}(h:op ≠ .In:=by decide) (h2:op ≠ .NotIn:=by decide):behindInMarks op b=false:=by
 have e1:(op == CmpOp.In)=false:=by cases op <;> first|rfl|exact absurd rfl h
 have e2:(op == CmpOp.NotIn)=false:=by cases op <;> first|rfl|exact absurd rfl h2
 cases b <;> simp[behindInMarks,e1,e2]
theorem pe_cmpR {op:CmpOp}{r:R2}(ho:OpR X (compareOp op) r) (ha:PE X a ta) (hb:PE X b tb) (hm:behindInMarks op b=false):PE X (.Compare a [op] [b] pos) (tOp r ta tb):=by
 intro pins s σ H Q I h
 exact wpAny_Compare1 (binT ha hb I h fun v u s2 x y H2 I2 rx ry q=>ho pins s2 σ H2 x y v u Q I2 rx ry q) hm
def tTest (t:TE):TT:=fun σ H Q=>t σ H fun x H'=>∃k,x = .bl k∧Q k H'
theorem pt_cmpR {op:CmpOp}{r:R2}(ho:OpR X (compareOp op) r) (ha:PE X a ta) (hb:PE X b tb) (hm:behindInMarks op b=false):PT X (.Compare a [op] [b] pos) (tTest (tOp r ta tb)):=by
 intro pins s σ H Q I h
 refine wpAny_isTrue_Compare1 (thn (ha pins s σ H _ I h) fun v s1 ⟨x,H1,I1,r1,q1⟩=>thn (hb pins s1 σ H1 _ I1 q1) fun u s2 ⟨y,H2,I2,r2,q2⟩ =>
  thn (ho pins s2 σ H2 x y v u _ I2 r1 r2 q2) fun c s3 ⟨z,H3,I3,r3,k,e,q3⟩=>?_) hm
 subst e
 cases r3
 exact wpAny_truthy_bool ⟨H3,I3,q3⟩
def tChain (r r':R2) (ta tb tc:TE):TE:=fun σ H Q=>ta σ H fun x H1=>tb σ H1 fun y H2=>r x y H2 fun z H3=>∃k,z = .bl k ∧
 (if k=true then tc σ H3 fun w' H4=>r' y w' H4 Q else Q (.bl false) H3)
theorem pe_chain {op op':CmpOp}{r r':R2}(ho:OpR X (compareOp op) r) (ho':OpR X (compareOp op') r') (ha:PE X a ta) (hb:PE X b tb) (hc:PE X c tc)
  (hm:lastMarks [op,op'] [b,c]=false:=by with_unfolding_all rfl):PE X (.Compare a [op,op'] [b,c] pos) (tChain r r' ta tb tc):=by
 intro pins s σ H Q I h
 refine Compare_chain (thn (ha pins s σ H _ I h) fun v s1 ⟨x,H1,I1,r1,q1⟩=>chain_link (thn (hb pins s1 σ H1 _ I1 q1) fun u s2 ⟨y,H2,I2,r2,q2⟩ =>
  thn (ho pins s2 σ H2 x y v u _ I2 r1 r2 q2) fun d s3 ⟨z,H3,I3,r3,k,e,q3⟩=>?_)) hm
 subst e
 cases r3
 refine wpAny_truthy_bool ?_
 cases k with
 | false=>exact ite_ff ⟨.bl false,H3,I3,rfl,q3⟩
 | true=>exact ite_tt (chain_last (thn (hc pins s3 σ H3 _ I3 q3) fun w' s4 ⟨z',H4,I4,r4,q4⟩=>ho' pins s4 σ H4 y z' u w' Q I4 r2 r4 q4))
theorem pt_chain {op op':CmpOp}{r r':R2}(ho:OpR X (compareOp op) r) (ho':OpR X (compareOp op') r') (ha:PE X a ta) (hb:PE X b tb) (hc:PE X c tc)
  (hm:lastMarks [op,op'] [b,c]=false:=by with_unfolding_all rfl):PT X (.Compare a [op,op'] [b,c] pos) (tTest (tChain r r' ta tb tc)):=by
 intro pins s σ H Q I h
 refine isTrue_chain (thn (ha pins s σ H _ I h) fun v s1 ⟨x,H1,I1,r1,q1⟩=>test_link (thn (hb pins s1 σ H1 _ I1 q1) fun u s2 ⟨y,H2,I2,r2,q2⟩ =>
  thn (ho pins s2 σ H2 x y v u _ I2 r1 r2 q2) fun d s3 ⟨z,H3,I3,r3,k,e,q3⟩=>?_)) hm
 subst e
 cases r3
 refine wpAny_truthy_bool ?_
 cases k with
 | false =>
  obtain⟨k',e',q'⟩:=q3
  cases e'
  exact ite_ff ⟨H3,I3,q'⟩
 | true =>
  refine ite_tt (test_last (thn (hc pins s3 σ H3 _ I3 q3) fun w' s4 ⟨z',H4,I4,r4,q4⟩=>thn (ho' pins s4 σ H4 y z' u w' _ I4 r2 r4 q4) fun d' s5 ⟨z2,H5,I5,r5,k2,e2,q5⟩=>?_))
  subst e2
  cases r5
  exact wpAny_truthy_bool ⟨H5,I5,q5⟩
def TruV (K:PySem.W.Frag) (x:V) (H:Hp) (k:Bool):Prop :=
 match x with
 | .non=>k=false
 | .bl b=>k=b
 | .int i=>k =(i != 0)
 | .str y=>y.length≤sizeLine∧k =((y.length:Int) != 0)
 | .byt y=>y.size≤sizeLine∧k =((y.size:Int) != 0)
 | .ref p=>(∃xs,SqL K H p xs∧k = !xs.isEmpty) ∨(∃xs,SqT K H p xs∧k = !xs.isEmpty) ∨ ∃kvs,H p=some (.dK kvs)∧k = !kvs.isEmpty
 | _=>False
theorem isEmpty_kv {κ:Type}{kvs:List (κ×V)}{vs:List (κ×Value)}(r:KV kvs vs):(!vs.isEmpty) = !kvs.isEmpty:=by
 cases r <;> rfl
theorem isEmpty_of {xs:List V}{its:List Value}(r:Vals xs its):(!its.toArray.isEmpty) = !xs.isEmpty:=by
 cases r <;> simp
theorem line63:(sizeLine:Nat)<2^63:=by rw[sizeLine_eq];decide
theorem tru_ok:TruR X (fun x H Q=>∃k,TruV X.K x H k∧Q k H):=by
 intro pins s σ H x v Q I rx h
 obtain⟨k,e,q⟩:=h
 have hl:=line63
 have hs:sizeLine=16777216:=sizeLine_eq
 cases x with
 | non =>
  cases rx
  have e':k=false:=e
  subst e'
  exact truthy_none ⟨H,I,q⟩
 | bl b =>
  cases rx
  have e':k=b:=e
  subst e'
  exact wpAny_truthy_bool ⟨H,I,q⟩
 | int i =>
  obtain⟨t,rfl⟩:=rx
  have e':k =(i != 0):=e
  subst e'
  exact PySem.P.truthy_int ⟨H,I,q⟩
 | str y =>
  obtain⟨t,rfl⟩:=rx
  obtain⟨hy,e'⟩ : y.length≤sizeLine∧k =((y.length:Int) != 0):=e
  subst e'
  exact PySem.P.truthy_str (by omega) ⟨H,I.tok _,q⟩
 | byt y =>
  obtain⟨t,rfl⟩:=rx
  obtain⟨hy,e'⟩ : y.size≤sizeLine∧k =((y.size:Int) != 0):=e
  subst e'
  exact PySem.W.truthy_bytes (by omega) ⟨H,I.tok _,q⟩
 | ref p =>
  cases rx
  have e':(∃xs,SqL X.K H p xs∧k = !xs.isEmpty) ∨(∃xs,SqT X.K H p xs∧k = !xs.isEmpty) ∨ ∃kvs,H p=some (.dK kvs)∧k = !kvs.isEmpty:=e
  rcases e' with⟨xs,hx,e'⟩|⟨xs,hx,e'⟩|⟨kvs,hx,e'⟩
  ·subst e'
   obtain⟨its,r,pl,hz⟩:=I.list hx
   have hlen:=r.length
   exact wpAny_truthy_list pl.isList (by simp only[List.size_toArray];omega) ⟨H,I.tok _,by rw[isEmpty_of r];exact q⟩
  ·subst e'
   obtain⟨its,r,pl,hz⟩:=I.tuple hx
   have hlen:=r.length
   exact truthy_tuple pl (by simp only[List.size_toArray];omega) ⟨H,I.tok _,by rw[isEmpty_of r];exact q⟩
  ·subst e'
   obtain⟨hz,hS,vs,r,m⟩ : kvs.length≤sizeLine∧(p == sysModules)=false∧∃vs,KV kvs vs∧s.heap.DictOf (mixKind X.prog X.w) p vs:=I.hok p _ hx
   have hlen:kvs.length=vs.length:=Paired.length r
   exact wpAny_truthy_dict hS m (by omega) ⟨H,I.tok _,by rw[isEmpty_kv r];exact q⟩
 | _=>exact(show False from e).elim
theorem pt_truth (ha:PE X a ta) (he:∀whole,isTrue a X.env whole =(do let v ← whole;standAt a.pos;holding [v] (truthy v))) :
  PT X a (fun σ H Q=>ta σ H fun x H'=>∃k,TruV X.K x H' k∧Q k H'):=by
 intro pins s σ H Q I h
 exact isTrue_plain (thn (ha pins s σ H _ I h) fun v s1 ⟨x,H1,I1,r1,q1⟩=>tru_ok pins s1 σ H1 x v Q I1 r1 q1) (he _)
theorem op_add_str:OpR X (binaryOp .Add) (fun x y H Q=>∃i j,x = .str i∧y = .str j∧i.length+j.length≤sizeLine∧Q (.str (i++j)) H):=by
 intro pins s σ H x y v u Q I rx ry h
 obtain⟨i,j,rfl,rfl,hz,q⟩:=h
 obtain⟨t,rfl⟩:=rx
 obtain⟨t',rfl⟩:=ry
 exact add_str (fun t' tk=>⟨.str (i++j),H,I.tok _,⟨_,rfl⟩,q⟩) hz
theorem vals1 {x:V}{us:List Value}(r:Vals [x] us):∃u,us=[u]∧RelV x u:=by
 cases r with
 | cons r1 r2=>cases r2;exact⟨_,rfl,r1⟩
theorem vals2 {x y:V}{us:List Value}(r:Vals [x,y] us):∃u w',us=[u,w']∧RelV x u∧RelV y w':=by
 cases r with
 | cons r1 r2 =>
  cases r2 with
  | cons r3 r4=>cases r4;exact⟨_,_,rfl,r1,r3⟩
theorem call_abs:CallR X (.builtin "abs") (fun xs H Q=>∃i,xs=[.int i]∧Q (.int (if i<0 then -i else i)) H):=by
 intro pins s σ H xs us Q I r h
 obtain⟨i,rfl,q⟩:=h
 obtain⟨u,rfl,t,rfl⟩:=vals1 r
 exact call_abs_int fun u tk=>⟨.int (if i<0 then -i else i),H,I.tok _,⟨_,rfl⟩,q⟩
theorem call_max2 (hc:X.calm=true):CallR X (.builtin "max") (fun xs H Q=>∃i j,xs=[.int i,.int j]∧Q (.int (if j > i then j else i)) H):=by
 intro pins s σ H xs us Q I r h
 obtain⟨i,j,rfl,q⟩:=h
 obtain⟨u,w',rfl,⟨t,rfl⟩,⟨t',rfl⟩⟩:=vals2 r
 refine max_two_ints (I.ok.hd hc) fun h' tk k=>⟨_,H,I.kept k,?_,q⟩
 by_cases hj:j > i
 ·rw[if_pos hj,if_pos hj];exact⟨_,rfl⟩
 ·rw[if_neg hj,if_neg hj];exact⟨_,rfl⟩
theorem call_int1:CallR X (.type "int") (fun xs H Q=>(∃i,xs=[.int i]∧Q (.int i) H) ∨ ∃k,xs=[.bl k]∧Q (.int (if k then 1 else 0)) H):=by
 intro pins s σ H xs us Q I r h
 rcases h with⟨i,rfl,q⟩|⟨k,rfl,q⟩
 ·obtain⟨u,rfl,t,rfl⟩:=vals1 r
  exact call_int_int ⟨.int i,H,I,⟨_,rfl⟩,q⟩
 ·obtain⟨u,rfl,r1⟩:=vals1 r
  cases r1
  exact call_int_bool ⟨.int (if k then 1 else 0),H,I.tok _,⟨_,rfl⟩,q⟩
theorem call_str_int:CallR X (.type "str") (fun xs H Q=>∃i,xs=[.int i]∧i.natAbs.log2<1920∧Q (.str (toString i)) H):=by
 intro pins s σ H xs us Q I r h
 obtain⟨i,rfl,hz,q⟩:=h
 obtain⟨u,rfl,t,rfl⟩:=vals1 r
 exact PySem.P.str_of_int hz ⟨.str _,H,I.tok _,⟨_,rfl⟩,q⟩
end
end L2
namespace L2
open PySem PySem.Spec PyProof.Rows
structure ObjM (h:Heap) (x dx C:Addr) (mA:Str→Option Value):Prop where
 obj:h.get? x=some (PySem.W.instObj C dx)
 ns:h.Ns1 dx mA
 ne:dx≠x
theorem lookIn_ns {h:Heap}{dx:Addr}{mA:Str→Option Value}(n:h.Ns1 dx mA):∃od,h.get? dx=some od∧∀name,PySem.W.lookIn name od=some (mA name):=by
 obtain⟨o,es,ep,ho,hd,hk,_,hm⟩:=n
 refine⟨o,ho,fun name=>?_⟩
 have e:=hm name
 unfold nsFind findBy at e
 rw[← Array.find?_toList]at e
 unfold PySem.W.lookIn
 rw[hd]
 dsimp only
 split
 ·rename_i y q
  rw[q]at e
  exact congrArg some e
 ·rename_i q
  rw[q]at e
  have a:es.toList.any (·.refKey)=false:=by
   rw[List.any_eq_false]
   intro y hy
   obtain⟨z,t,hkey⟩:=hk y (Array.mem_toList_iff.mp hy)
   simp[DictEntry.refKey,hkey]
  have a':¬ es.toList.any (·.refKey)=true:=by rw[a];exact Bool.false_ne_true
  rw[if_neg a']
  exact congrArg some e
theorem ObjM.look {h:Heap}{x dx C:Addr}{mA:Str→Option Value}(I:ObjM h x dx C mA):∃od,PySem.W.InstAt h x (PySem.W.instObj C dx) C (some od)∧∀name,PySem.W.lookIn name od=some (mA name) :=
 let ⟨od,ho,hl⟩:=lookIn_ns I.ns
 ⟨od,⟨I.obj,rfl,rfl,ho⟩,hl⟩
section
variable {prog:Program}{w:World}{A:Around}{E:Value→Shared→Prop}{s:Shared}{K:PySem.W.Frag}{x dx C f:Addr}{mA:Str→Option Value}{name:Str}{v:Value}
end
section
variable {P:Program}{w:World}{H H':Hp}{h h':Heap}{a C dx:Addr}{fs fs':List (Str×V)}
theorem ins_get (hok:HOk P w H h) (e:H a=some (.ins C dx fs)):∃mA,ObjM h a dx C mA∧(∀f,RelO (fs.lookup f) (mA f))∧PySem.Within mA (fs.map (·.1))∧fs.length≤1000∧H dx=some (.own a):=by
 obtain⟨d,z,ne,ob,mA,n,r,q⟩:=(show ObjOk P w H h a (.ins C dx fs) from hok a _ e)
 exact⟨mA,⟨ob,n,ne⟩,r,q,z,d⟩
end
structure Cls (K:PySem.W.Frag) (C:Addr):Prop where
 pg:PySem.W.plainGet K C Str.empty=true
 hd:PySem.W.hasDictIn K C=true
 po:PySem.W.plainOver K C=true
 sa:PySem.W.findIn K (.ref C) "__setattr__" = some (some (.builtin "object.__setattr__"))
theorem Cls.get {K:PySem.W.Frag}{C:Addr}(c:Cls K C) (f:Str):PySem.W.plainGet K C f=true:=c.pg
section
variable {X:Cx}{pins:List (Addr×Obj)}{σ:St}{H:Hp}{s:Shared}{a C dx:Addr}{fs:List (Str×V)}{f:Str}{v:V}{A:Around}{E:Value→Shared→Prop}
end
section
variable {X:Cx}{o e value:Expr}{f:Str}{pos pos' tpos:Pos}{ta tv:TE}
end
section
variable {X:Cx}{pins:List (Addr×Obj)}{σ:St}{H:Hp}{s:Shared}{A:Around}{E:Value→Shared→Prop}{Q:Value→Shared→Prop}{c:Value}{b:Bool}
inductive TyOf (K:PySem.W.Frag) (H:Hp):V→Value→Prop where
 | non:TyOf K H .non (.type "NoneType")
 | bl (x:Bool):TyOf K H (.bl x) (.type "bool")
 | int (i:Int):TyOf K H (.int i) (.type "int")
 | str (x:Str):TyOf K H (.str x) (.type "str")
 | flt (x:UInt64):TyOf K H (.flt x) (.type "float")
 | lst {a:Addr}{xs:List V}(e:H a=some (.lst xs)):TyOf K H (.ref a) (.type "list")
 | frz {a:Addr}{o:Obj}{xs:List V}(e:H a=some (.frz o (.lst xs))):TyOf K H (.ref a) (.type "list")
 | tup {a:Addr}{xs:List V}(e:H a=some (.tup xs)):TyOf K H (.ref a) (.type "tuple")
 | dK {a:Addr}{kvs:List (Key×V)}(e:H a=some (.dK kvs)):TyOf K H (.ref a) (.type "dict")
 | dT {a:Addr}{kvs:List (List Key×V)}(e:H a=some (.dT kvs)):TyOf K H (.ref a) (.type "dict")
 | ins {a C dx:Addr}{fs:List (Str×V)}(e:H a=some (.ins C dx fs)) (cl:Cls K C) (ha:PySem.W.findIn K (.ref C) "__class__" = some (some (.builtin "object.__class__")))
   (hn:PySem.W.specialIn K (.builtin "object.__class__") "__get__" = some (some (.builtin "getset_descriptor.__get__"))) (htk:PySem.W.takesIn K (.builtin "object.__class__")=some true)
   (hm:PySem.W.mroIn K C (.type "object")=some true):TyOf K H (.ref a) (.ref C)
theorem isinst_ok {x:V}{u t:Value}(I:Inv X pins σ H s) (rx:RelV x u) (ty:TyOf X.K H x t) (e:PySem.W.kitOne X.K t c=some b) (h:∀tk,Q (.bool b) { s with toks:=tk }) :
  wpAny (model X.prog X.w) A (call (.builtin "isinstance") [u,c]) Q E s:=by
 cases ty with
 | non=>cases (show u=Value.none from rx);exact PySem.W.kia_one PySem.W.kitx_none I.kIn True.intro e (fun z=>nomatch z) h
 | bl y=>cases (show u=Value.bool y from rx);exact PySem.W.kia_one PySem.W.kitx_bool I.kIn True.intro e (fun z=>nomatch z) h
 | int i=>obtain⟨t,q⟩:=(show ∃t,u=Value.int i t from rx);cases q;exact PySem.W.kia_one PySem.W.kitx_int I.kIn True.intro e (fun z=>nomatch z) h
 | str y=>obtain⟨t,q⟩:=(show ∃t,u=Value.str y t from rx);cases q;exact PySem.W.kia_one PySem.W.kitx_str I.kIn True.intro e (fun z=>nomatch z) h
 | flt y=>obtain⟨t,q⟩:=(show ∃t,u=Value.float y t from rx);cases q;exact PySem.W.kia_one PySem.W.kitx_float I.kIn True.intro e (fun z=>nomatch z) h
 | @lst a xs ea =>
  cases (show u=Value.ref a from rx)
  obtain⟨_,_,n,_,h1⟩:=(show ObjOk X.prog X.w H s.heap a (.lst xs) from I.hok a _ ea)
  exact PySem.W.kia_one PySem.W.kitx_list I.kIn ⟨_,h1,rfl⟩ e (fun z=>nomatch z) h
 | @frz a ob xs ea =>
  cases (show u=Value.ref a from rx)
  obtain⟨_,_,_,n,_,h1⟩:=(show ObjOk X.prog X.w H s.heap a (.frz ob (.lst xs)) from I.hok a _ ea)
  exact PySem.W.kia_one PySem.W.kitx_list I.kIn ⟨_,h1,rfl⟩ e (fun z=>nomatch z) h
 | @tup a xs ea =>
  cases (show u=Value.ref a from rx)
  obtain⟨_,_,_,p⟩:=(show ObjOk X.prog X.w H s.heap a (.tup xs) from I.hok a _ ea)
  obtain⟨o,h1,h2,_⟩:=p
  exact PySem.W.kia_one PySem.W.kitx_tuple I.kIn ⟨o,h1,h2⟩ e (fun z=>nomatch z) h
 | @dK a kvs ea =>
  cases (show u=Value.ref a from rx)
  obtain⟨_,_,vs,_,p⟩:=(show ObjOk X.prog X.w H s.heap a (.dK kvs) from I.hok a _ ea)
  obtain⟨o,es,ep,h1,h2,_⟩:=p
  exact PySem.W.kia_one PySem.W.kitx_dict I.kIn ⟨o,h1,h2.1⟩ e (fun z=>nomatch z) h
 | @dT a kvs ea =>
  cases (show u=Value.ref a from rx)
  obtain⟨_,_,xs,_,o,es,ep,h1,h2,_⟩:=(show ObjOk X.prog X.w H s.heap a (.dT kvs) from I.hok a _ ea)
  exact PySem.W.kia_one PySem.W.kitx_dict I.kIn ⟨o,h1,h2.1⟩ e (fun z=>nomatch z) h
 | @ins a C dx fs ea cl ha hn htk hm =>
  cases (show u=Value.ref a from rx)
  obtain⟨mA,O,_⟩:=ins_get I.hok ea
  obtain⟨od,J,_⟩:=O.look
  exact PySem.W.kia_one (PySem.W.kitx_own (cl.get _) cl.hd ha hn htk hm) I.kIn J e (fun z=>nomatch z) h
end
end L2
namespace L2
open PySem PySem.Spec PyProof.Rows
structure Room (k:Nat) (A:Around):Prop where
 hd:A.handled=none
 dp:A.depth+3*k+5<recursionLimit
 un:A.units+16*k+200<cLine
 gd:A.guards=some []
theorem Room.mono {j k:Nat}{A:Around}(r:Room k A) (h:j≤k):Room j A:=⟨r.hd,by have:=r.dp;omega,by have:=r.un;omega,r.gd⟩
theorem guards_deeper {A:Around}{env:Env}(h:A.guards=some []):(A.deeper env).guards=some []:=by
 first|exact h|simp[Around.deeper,Around.under,Code.guards,Code.isGuard,pushGuards,h]
theorem Room.deeper {k:Nat}{A:Around}(r:Room (k+1) A) (env:Env):Room k (A.deeper env) :=
 ⟨r.hd,by have:=r.dp;show A.depth+1+3*k+5<_;omega,by have:=r.un;show A.units+3+16*k+200<_;omega,guards_deeper r.gd⟩
theorem Room.depth {k:Nat}{A:Around}(r:Room k A):A.depth<recursionLimit:=by have:=r.dp;omega
theorem Room.units {k:Nat}{A:Around}(r:Room k A):A.units+64<cLine:=by have:=r.un;omega
def tNil:TA:=fun _ H Q=>Q [] H
def tCons (ta:TE) (tr:TA):TA:=fun σ H Q=>ta σ H fun x H1=>tr σ H1 fun xs H2=>Q (x::xs) H2
section
variable {X:Cx}{e:Expr}{es:List Expr}{te:TE}{t:TA}{pos:Pos}
theorem pa_nil:PA X [] tNil:=fun _ _ _ _ H Q I h=>Calls.spliced_nil ⟨[],H,I,.nil,h⟩
theorem pa_cons (ha:PE X e te) (hr:PA X es t) (hs:starEach (e::es) X.env =(false,eval e X.env)::starEach es X.env:=by rfl):PA X (e::es) (tCons te t):=by
 intro pos pins s σ H Q I h
 rw[hs]
 show wpAny _ _ (spliced ((false,eval e X.env)::backTo pos (starEach es X.env))) _ _ s
 refine Calls.spliced_cons (thn (ha pins s σ H _ I h) fun u s1 ⟨x,H1,I1,r1,q1⟩=>?_)
 exact thn (hr pos pins s1 σ H1 _ I1 q1) fun us s2 ⟨xs,H2,I2,r2,q2⟩=>⟨x::xs,H2,I2,.cons r1 r2,q2⟩
def tTup (t:TA):TE:=fun σ H Q=>t σ H fun xs H1=>xs.length≤sizeLine∧∀p,H1 p=none→Q (.ref p) (upd H1 p (.tup xs))
def tLst (t:TA):TE:=fun σ H Q=>t σ H fun xs H1=>xs.length≤sizeLine∧∀p,H1 p=none→Q (.ref p) (upd H1 p (.lst xs))
theorem pe_tup {x1}(h:PA X es t):PE X (.Tuple es x1 pos) (tTup t):=by
 intro pins s σ H Q I hq
 refine wpAny_Tuple_spliced (thn (h pos pins s σ H _ I hq) fun us s1 ⟨xs,H1,I1,r,z,q⟩=>⟨by rw[← r.length];exact z,?_⟩)
 have hf:H1 s1.heap.objs.size=none:=I1.hok.fresh (Nat.le_refl _)
 refine⟨.ref s1.heap.objs.size,upd H1 s1.heap.objs.size (.tup xs),I1.laid (t':=s1.toks) (fun b u e=>Heap.get?_push_of_some _ e) (Nat.le_refl _) ?_,rfl,q _ hf⟩
 exact⟨z,us,r,⟨_,Heap.get?_push_size _ rfl,rfl,_,rfl⟩⟩
theorem pe_lst (h:PA X es t):PE X (.List es pos) (tLst t):=by
 intro pins s σ H Q I hq
 refine wpAny_List_spliced (thn (h pos pins s σ H _ I hq) fun us s1 ⟨xs,H1,I1,r,z,q⟩=>⟨by rw[← r.length];exact z,?_⟩)
 have hf:H1 s1.heap.objs.size=none:=I1.hok.fresh (Nat.le_refl _)
 refine⟨.ref s1.heap.objs.size,upd H1 s1.heap.objs.size (.lst xs),I1.laid (t':=s1.toks) (fun b u e=>Heap.get?_push_of_some _ e) (Nat.le_refl _) ?_,rfl,q _ hf⟩
 exact⟨z,us,0,r,Heap.get?_push_size _ rfl⟩
end
abbrev Sp:=List V→Hp→VK→XK→Prop
abbrev CXT:=List Env→Hp→Shared→XK→Value→Shared→Prop
structure Env0 (P:Program) (w:World) (K:PySem.W.Frag) (mg:Str→Option Value) (base:Heap) (A:Around) (outer:List Env) (s:Shared) (H:Hp):Prop where
 frames:A.frames=some outer
 mod:Mod K mg base
 bs:∀b o,base.get? b=some o→s.heap.get? b=some o∧H b=none
 bsz:base.objs.size≤s.heap.objs.size
 funs:s.heap.FunFrames base outer
 frf:∀b∈frs outer,H b=none
 hok:HOk P w H s.heap
 bare:AllBare s.gens
def CE (outer:List Env) (P:Program) (w:World) (H:Hp) (s:Shared) (Q:VK) (u:Value) (s':Shared):Prop :=
 ∃v H',s'.os=s.os∧AllBare s'.gens∧Un (frs outer) [] H H' s.heap s'.heap∧HOk P w H' s'.heap∧RelV v u∧Q v H'
def CR (CX:CXT) (outer:List Env) (P:Program) (w:World) (H:Hp) (s:Shared) (Q:VK) (E:XK) (r:Result) (s':Shared):Prop :=
 match r with
 | .ok (.ret u)=>CE outer P w H s Q u s'
 | .ok _=>False
 | .error e=>CX outer H s E e s'
structure FnOk (P:Program) (w:World) (K:PySem.W.Frag) (mg:Str→Option Value) (base:Heap) (CX:CXT) (k:Nat) (f:Addr) (fd:FuncData) (ps:List Str) (sp:Sp):Prop where
 len:∀vs H Q E,sp vs H Q E→vs.length=ps.length
 run:∀(A:Around) (outer:List Env) (s:Shared) (H:Hp) (args:Args) (us:List Value) (vs:List V) (Q:VK) (E:XK),Room k A→Env0 P w K mg base A outer s H→BindsTo s fd args (ps.zip us)→Vals vs us→sp vs H Q E →
  codeAny (model P w) A (.call (.ref f) args) (CR CX outer P w H s Q E) s
section
variable {X:Cx}{pins:List (Addr×Obj)}{σ:St}{H:Hp}{s s':Shared}
theorem Inv.env0 (I:Inv X pins σ H s):Env0 X.prog X.w X.K X.mg X.base X.A X.stack s H :=
 ⟨I.ok.frames,I.ok.mod,I.bs,Nat.le_trans I.ok.bsz I.sz,I.stack,I.stkFree,I.hok,I.bare⟩
theorem Inv.after {Q:VK}{u:Value}(I:Inv X pins σ H s) (h:CE X.stack X.prog X.w H s Q u s'):EP X pins σ Q u s':=by
 obtain⟨v,H',os,bare,un,hok,r,q⟩:=h
 obtain⟨hh,g,d,t,os'⟩:=s'
 obtain rfl:os'=s.os:=os
 exact⟨v,H',I.call (h':=hh) (g':=g) (d':=d) (t':=t) (ch:=[]) un hok bare (fun b z=>absurd z (by simp)),r,q⟩
end
def tCall (sp:Sp) (dvs:List V) (E:XK) (t:TA):TE:=fun σ H Q=>t σ H fun vs H1=>sp (vs++dvs) H1 Q E
def Binds (K:PySem.W.Frag) (fd:FuncData) (ps:List Str) (ds:List Value):Prop :=
 ∀(s:Shared) (us:List Value),K.In s.heap→(us++ds).length=ps.length→BindsTo s fd ⟨us,[]⟩ (ps.zip (us++ds))
theorem Binds.all {K:PySem.W.Frag}{fd:FuncData}{ps:List Str}(h:∀us:List Value,us.length=ps.length→bindArgs fd ⟨us,[]⟩=pure (ps.zip us)):Binds K fd ps []:=fun s us _ hl=>by
 rw[List.append_nil]at hl ⊢
 exact .of_eq (h us hl)
def Passes (CX:CXT) (X:Cx) (E:XK):Prop:=∀(pins:List (Addr×Obj)) (σ:St) (H:Hp) (s:Shared) (e:Value) (s':Shared),Inv X pins σ H s→CX X.stack H s E e s'→X.xe e s'
section
variable {X:Cx}{CX:CXT}{k:Nat}{f C:Addr}{fd:FuncData}{ps:List Str}{sp:Sp}{dvs:List V}{ds:List Value}{E:XK}{x m:Str}{p pos apos:Pos}{e o:Expr}{es:List Expr}{ta:TE}{t:TA}
theorem run_fn {pins:List (Addr×Obj)}{σ:St}{H:Hp}{s:Shared}{Q:VK}{us:List Value}{vs:List V}(F:FnOk X.prog X.w X.K X.mg X.base CX k f fd ps sp) (hr:Room k X.A) (hb:Binds X.K fd ps ds) (hd:Vals dvs ds) (hx:Passes CX X E)
  (I:Inv X pins σ H s) (r:Vals vs us) (h:sp (vs++dvs) H Q E):wpAny (model X.prog X.w) X.A (call (.ref f) us) (EP X pins σ Q) X.xe s:=by
 have r2:Vals (vs++dvs) (us++ds):=r.append hd
 have hl:(us++ds).length=ps.length:=by rw[← r2.length];exact F.len _ _ _ _ h
 refine wpAny_call (codeAny_mono (F.run X.A X.stack s H ⟨us,[]⟩ (us++ds) (vs++dvs) Q E hr I.env0 (hb s us I.kIn hl) r2 h) fun r s' hq=>?_)
 cases r with
 | error e=>exact hx pins σ H s e s' I hq
 | ok fl =>
  cases fl with
  | ret u=>exact I.after hq
  | next=>exact False.elim hq
  | brk=>exact False.elim hq
  | cont=>exact False.elim hq
theorem pe_call (F:FnOk X.prog X.w X.K X.mg X.base CX k f fd ps sp) (hr:Room k X.A) (hg:Gl X x) (hm:X.mg x=some (.ref f)) (hk:PySem.W.keepIn X.K (.ref f)=true) (hb:Binds X.K fd ps ds) (hd:Vals dvs ds) (hx:Passes CX X E)
  (ha:PA X (e::es) t) (hdb:(x ==("__debug__" : Str))=false:=by decide) (he:starEach (e::es) X.env =(false,eval e X.env)::starEach es X.env:=by rfl) (hpl:(backTo pos (starEach es X.env)).any (·.1)=false:=by rfl) :
  PE X (.Call (.Name x p) (e::es) [] pos) (tCall sp dvs E t):=by
 intro pins s σ H Q I h
 refine wpAny_Call_Name_kw (ld_glob I hg hm ?_ hdb)
 refine PySem.W.callWith_K (h₀:=X.base) I.ok.mod.kin hk (thn (ha pos pins s σ H _ I h) fun us s1 ⟨vs,H1,I1,r,q⟩=>⟨I1.kIn,?_⟩) he hpl
 exact run_fn F hr hb hd hx I1 r q
end
section
variable {X:Cx}{CX:CXT}{k:Nat}{f C:Addr}{fd:FuncData}{ps ks:List Str}{sp:Sp}{E:XK}{x m:Str}{p pos apos kpos:Pos}{e o:Expr}{es:List Expr}{kws:List Keyword}{te ta:TE}{t tk:TA}{nm:Option Str}
variable {g:List Value→List Value→List Value}{gV:List V→List V→List V}
end
structure FnScope (N P:List Str) (sc:Scope):Prop where
 kind:sc.kind = .function
 co:sc.isCoroutine=false
 gen:sc.isGenerator=false
 nd:N.Nodup
 pre:N.take P.length=P
 par:∀x∈P,sc.names.lookup x=some .local∨sc.names.lookup x=some .cell
 nofree:∀y∈sc.names,y.2 ≠ .free
theorem bindL_out {kindOf:Str→Option NameKind}{x:Str}:∀{binds:List (Str×Value)}{m:Str→Option Value},(∀v,(x,v)∉binds)→bindL kindOf binds m x=m x
 | [],_,_=>rfl
 | (n,v)::r,m,h=>by
  unfold bindL
  rw[bindL_out fun w hw=>h w (List.mem_cons_of_mem _ hw)]
  split
  ·have:x≠n:=by rintro rfl;exact h v List.mem_cons_self
   simp[this]
  ·rfl
theorem bindC_out {kindOf:Str→Option NameKind}{x:Str}:∀{binds:List (Str×Value)}{m:Str→Option Value},(∀v,(x,v)∉binds)→bindC kindOf binds m x=m x
 | [],_,_=>rfl
 | (n,v)::r,m,h=>by
  unfold bindC
  rw[bindC_out fun w hw=>h w (List.mem_cons_of_mem _ hw)]
  split
  ·rfl
  ·have:x≠n:=by rintro rfl;exact h v List.mem_cons_self
   simp[this]
theorem bindL_get {kindOf:Str→Option NameKind}{x:Str}{v:Value}:∀{P:List Str}{vs:List Value}{i:Nat}{m:Str→Option Value},P.Nodup→P[i]? = some x→vs[i]? = some v→kindOf x=some .local →
  bindL kindOf (P.zip vs) m x=some v
 | [],_,_,_,_,h,_,_=>by simp at h
 | _::_,[],_,_,_,_,h,_=>by simp at h
 | p::P,w::vs,0,m,nd,h1,h2,hk=>by
  simp at h1 h2;subst h1;subst h2
  show bindL kindOf ((p,w)::P.zip vs) m p=_
  unfold bindL
  rw[bindL_out fun v hv=>(List.nodup_cons.mp nd).1 (List.of_mem_zip hv).1,if_pos hk]
  simp
 | p::P,w::vs,i+1,m,nd,h1,h2,hk=>by
  show bindL kindOf ((p,w)::P.zip vs) m x=_
  unfold bindL
  exact bindL_get (i:=i) (List.nodup_cons.mp nd).2 (by simpa using h1) (by simpa using h2) hk
theorem bindC_get {kindOf:Str→Option NameKind}{x:Str}{v:Value}:∀{P:List Str}{vs:List Value}{i:Nat}{m:Str→Option Value},P.Nodup→P[i]? = some x→vs[i]? = some v→kindOf x≠some .local →
  bindC kindOf (P.zip vs) m x=some v
 | [],_,_,_,_,h,_,_=>by simp at h
 | _::_,[],_,_,_,_,h,_=>by simp at h
 | p::P,w::vs,0,m,nd,h1,h2,hk=>by
  simp at h1 h2;subst h1;subst h2
  show bindC kindOf ((p,w)::P.zip vs) m p=_
  unfold bindC
  rw[bindC_out fun v hv=>(List.nodup_cons.mp nd).1 (List.of_mem_zip hv).1,if_neg hk]
  simp
 | p::P,w::vs,i+1,m,nd,h1,h2,hk=>by
  show bindC kindOf ((p,w)::P.zip vs) m x=_
  unfold bindC
  exact bindC_get (i:=i) (List.nodup_cons.mp nd).2 (by simpa using h1) (by simpa using h2) hk
def start (N:List Str) (vs:List V):St:=vs.map some++List.replicate (N.length-vs.length) none
def cxOf (CX:CXT) (P:Program) (w:World) (K:PySem.W.Frag) (mg:Str→Option Value) (base:Heap) (N:List Str) (qual:Str) (scope:Scope) (f:Addr) (cd:Value) (A:Around) (outer:List Env) (s:Shared) (H:Hp) (E:XK):Cx where
 prog:=P
 w:=w
 K:=K
 mg:=mg
 base:=base
 A:=A.deeper (envOfC qual scope s.heap.objs.size f cd)
 N:=N
 s₀:=s
 H₀:=H
 env:=envOfC qual scope s.heap.objs.size f cd
 outer:=outer
 stack:=envOfC qual scope s.heap.objs.size f cd::outer
 ex:=[]
 calm:=true
 fn:=fun _=>true
 pn:=[]
 xe:=fun e s'=>wpAny (model P w) (A.deeper (envOfC qual scope s.heap.objs.size f cd)) (leaving (envOfC qual scope s.heap.objs.size f cd) e) (fun _ s''=>CX outer H s E e s'') (fun e' s''=>CX outer H s E e' s'') s'
theorem cell_has {sc:Scope}{n:Nat}{x:Str}(h:sc.names.lookup x=some .cell):∃c,(cellsFrom n sc.names []).lookup x=some c:=by
 have q:=PySem.W.cellsFrom_some sc.names n [] (.inl h)
 exact Option.isSome_iff_exists.mp q
theorem inv_start {CX:CXT}{P:Program}{w:World}{K:PySem.W.Frag}{mg:Str→Option Value}{base:Heap}{N ps:List Str}{qual:Str}{scope:Scope}{f:Addr}{cd:Value}{A:Around}{outer:List Env}{s s1:Shared}{H:Hp}{E:XK}{us:List Value}{vs:List V}
  (S:FnScope N ps scope) (hd:A.handled=none) (e0:Env0 P w K mg base A outer s H) (hl:vs.length=ps.length) (r:Vals vs us)
  (x:InCallC s s.heap.objs.size (bindL (envOfC qual scope s.heap.objs.size f cd).kindOf (ps.zip us) fun _=>none) (cellsFrom (s.heap.objs.size+1) scope.names []) (bindC (envOfC qual scope s.heap.objs.size f cd).kindOf (ps.zip us) fun _=>none) s1) :
  Inv (cxOf CX P w K mg base N qual scope f cd A outer s H E) [] (start N vs) H s1:=by
 have hpl:ps.length≤N.length:=by have:=congrArg List.length S.pre;rw[List.length_take]at this;omega
 obtain⟨h1,tk,rfl,hk⟩:=x.done
 have noA:∀b:Addr,b∉(cxOf CX P w K mg base N qual scope f cd A outer s H E).ex:=fun b z=>absurd (show b∈([]:List Addr) from z) (by simp)
 refine⟨⟨e0.mod,S.kind,rfl,rfl,Nat.le_refl _,fun y z c h1 h2=>?_,fun y hy=>?_,fun y c _ h=>?_,fun _=>hd,Around.frames_deeper e0.frames,.inr ⟨rfl,rfl⟩,fun b z=>absurd z (noA b),e0.bs,e0.bsz,fun b _ _=>noA b,fun b z=>absurd z (noA b),e0.funs,e0.frf⟩,
  rfl,e0.bare,Un.kept hk,⟨_,x.toInCall.ns,fun i y v h1 h2 h3=>?_⟩,fun y c h=>⟨_,x.cell y c h⟩,e0.hok.fresh (Nat.le_refl _),fun y c h=>?_,fun p hp=>absurd (show p∈([]:List (Addr×Obj)) from hp) (by simp),e0.hok.kept hk,?_⟩
 ·exact name_of_addr x.apart (PySem.mem_of_lookup h1) (PySem.mem_of_lookup h2)
 ·have hy:scope.names.lookup y=some .cell∨scope.names.lookup y=some .free:=hy
  rcases hy with hy|hy
  ·exact cell_has hy
  ·exact absurd rfl (S.nofree _ (PySem.mem_of_lookup hy))
 ·exact Nat.le_of_lt (x.above y c (PySem.mem_of_lookup h))
 ·have hi:i<vs.length:=by
   unfold start at h2
   by_cases hi:i<vs.length
   ·exact hi
   ·rw[List.getElem?_append_right (by simpa using hi)]at h2
    rw[List.getElem?_replicate]at h2
    split at h2 <;> cases h2
  have ha:vs[i]? = some v:=by
   unfold start at h2
   rw[List.getElem?_append_left (by simpa using hi),List.getElem?_map]at h2
   cases e:vs[i]? with
   | none=>rw[e]at h2;cases h2
   | some a=>rw[e]at h2;cases h2;rfl
  obtain⟨u,hu,rv⟩:=r.get ha
  have hp:ps[i]? = some y:=by
   rw[← S.pre,List.getElem?_take_of_lt (by omega)];exact h1
  have ndP:ps.Nodup:=by rw[← S.pre];exact S.nd.sublist (List.take_sublist _ _)
  refine⟨u,rv,?_⟩
  rcases S.par y (List.mem_of_getElem? hp) with k|k
  ·exact .inl ⟨k,bindL_get ndP hp hu k⟩
  ·obtain⟨c,e⟩:=cell_has (n:=s.heap.objs.size+1) k
   refine .inr ⟨.inl k,c,e,?_⟩
   have q:=x.cell y c e
   rw[bindC_get ndP hp hu (by show scope.names.lookup y≠_;rw[k];decide)]at q
   exact q
 ·exact e0.hok.fresh (Nat.le_of_lt (x.above y c (PySem.mem_of_lookup h)))
 ·unfold start
  show _=N.length
  rw[List.length_append,List.length_map,List.length_replicate]
  omega
theorem fn_of {CX:CXT}{P:Program}{w:World}{K:PySem.W.Frag}{mg:Str→Option Value}{base:Heap}{k:Nat}{f:Addr}{name qual:Str}{params:Arguments}{body:List Stmt}{scope:Scope}{dV kV doc pm cdv ct oc:Value}{an od:Option Addr}
  {osl:Array (Option Value)}{N ps:List Str}{sp:Sp}(lk:K.lookup f=some ⟨oc,od,.func (PySem.W.fnOf name qual params body scope dV kV doc pm an cdv ct),osl⟩) (hcd:PySem.W.codeIn K cdv qual=true) (S:FnScope N ps scope)
  (len:∀vs H Q E,sp vs H Q E→vs.length=ps.length)
  (hbody:∀(A:Around) (outer:List Env) (s:Shared) (H:Hp) (vs:List V) (Q:VK) (E:XK),Room k (A.deeper (envOfC qual scope s.heap.objs.size f cdv))→sp vs H Q E →
   ∃t,PSs (cxOf CX P w K mg base N qual scope f cdv A outer s H E) body t∧t { nx:=fun _ H'=>Q .non H',rt:=Q } (start N vs) H) :
  FnOk P w K mg base CX (k+1) f (PySem.W.fnOf name qual params body scope dV kV doc pm an cdv ct) ps sp:=by
 refine⟨len,fun A outer s H args us vs Q E hr e0 hb r hsp=>?_⟩
 have hl:=len _ _ _ _ hsp
 have KX:K.In s.heap:=e0.mod.kin.keeps fun b o e=>(e0.bs b o e).1
 have lim:s.heap.NoLimit:=e0.mod.nolimit.keeps fun b o e=>(e0.bs b o e).1
 have hkind:∀y∈ps.zip us,scope.names.lookup y.1=some .local ∨(scope.names.lookup y.1=some .cell∧((cellsFrom (s.heap.objs.size+1) scope.names []).lookup y.1).isSome=true):=fun⟨n,v⟩ hy=>by
  rcases S.par n (List.of_mem_zip hy).1 with q|q
  ·exact .inl q
  ·exact .inr ⟨q,PySem.W.cellsFrom_some _ _ _ (.inl q)⟩
 refine codeAny_call_function hr.depth (KX _ _ lk) rfl S.co S.gen rfl (PySem.W.codeRec_of KX hcd) (hb _ _ _ _ ?_)
 refine wpAny_newFunctionEnv_cells S.kind hkind fun env he s1 x=>?_
 subst he
 refine⟨lim.keeps x.toInCall.keep,codeAny_func ?_⟩
 obtain⟨t,ht,hq⟩:=hbody A outer s H vs Q E (hr.deeper _) hsp
 have I:Inv (cxOf CX P w K mg base N qual scope f cdv A outer s H E) [] (start N vs) H s1:=inv_start S hr.hd e0 hl r x
 refine wpAny_mono (ht [] s1 (start N vs) H _ I hq) (fun fl s' hs=>?_) fun e s' hs=>hs
 have fin:∀{σ':St}{H':Hp}{v:V}{u:Value},Inv (cxOf CX P w K mg base N qual scope f cdv A outer s H E) [] σ' H' s'→RelV v u→Q v H'→CE outer P w H s Q u s' :=
  fun {σ' H' v u} J rv q=>⟨v,H',J.os,J.bare,J.base,J.hok,rv,q⟩
 cases fl with
 | ret u =>
  obtain⟨v,σ',H',J,rv,q⟩:=hs
  exact fin J rv q
 | next =>
  obtain⟨σ',H',J,q⟩:=hs
  exact fin (v:=V.non) (u:=Value.none) J rfl q
 | brk =>
  obtain⟨_,_,_,q⟩:=hs
  exact False.elim q
 | cont =>
  obtain⟨_,_,_,q⟩:=hs
  exact False.elim q
end L2
namespace L2
open PySem PySem.Spec PyProof.Rows
section
variable {X:Cx}{x:Str}{p pos:Pos}{e:Expr}{es:List Expr}{t:TA}{id T:String}{r:List V→Hp→VK→Prop}
def tCB (r:List V→Hp→VK→Prop) (t:TA):TE:=fun σ H Q=>t σ H fun vs H1=>r vs H1 Q
theorem pe_callB (hc:CallR X (.builtin id) r) (hg:Gl X x) (hm:X.mg x=none) (hv:bootBuiltins x=some (.builtin id)) (ha:PA X (e::es) t) (hn:x ≠ "__name__" := by decide) (hdb:(x ==("__debug__" : Str))=false:=by decide)
  (he:starEach (e::es) X.env =(false,eval e X.env)::starEach es X.env:=by rfl) (hpl:(backTo pos (starEach es X.env)).any (·.1)=false:=by rfl):PE X (.Call (.Name x p) (e::es) [] pos) (tCB r t):=by
 intro pins s σ H Q I h
 refine wpAny_Call_Name_kw (ld_blt I hg hm hv ?_ hn hdb)
 exact PyProof.Rows.callWith_builtin1 (thn (ha pos pins s σ H _ I h) fun us s1 ⟨vs,H1,I1,r1,q1⟩=>hc pins s1 σ H1 vs us Q I1 r1 q1) he hpl
theorem pe_callTy (hc:CallR X (.type T) r) (hg:Gl X x) (hm:X.mg x=none) (hv:bootBuiltins x=some (.type T)) (ha:PA X (e::es) t) (hn:x ≠ "__name__" := by decide) (hdb:(x ==("__debug__" : Str))=false:=by decide)
  (he:starEach (e::es) X.env =(false,eval e X.env)::starEach es X.env:=by rfl) (hpl:(backTo pos (starEach es X.env)).any (·.1)=false:=by rfl):PE X (.Call (.Name x p) (e::es) [] pos) (tCB r t):=by
 intro pins s σ H Q I h
 refine wpAny_Call_Name_kw (ld_blt I hg hm hv ?_ hn hdb)
 exact PyProof.Rows.callWith_type1 (thn (ha pos pins s σ H _ I h) fun us s1 ⟨vs,H1,I1,r1,q1⟩=>hc pins s1 σ H1 vs us Q I1 r1 q1) he hpl
end
end L2
namespace HT
open PySem PyProof.Rows
section
open PySem.SeqAt
open PySem.AutoSeq1 (wpAny_loadPart')
open PySem.MeetsSeq PySem.MeetsSeq2 PySem.MeetsSeq3
end
section
variable {prog:Program}{w:World}{A:Around}{E:Value→Shared→Prop}{s:Shared}
def sIx (n d:Nat):Option Int→Nat
 | none=>d
 | some v=>if v<0 then(v+(n:Int)).toNat else min v.toNat n
theorem sIx_none (n d:Nat):sIx n d none=d:=rfl
theorem sIx_nat (n d k:Nat):sIx n d (some (k:Int))=min k n:=by
 show(if (k:Int)<0 then((k:Int)+(n:Int)).toNat else min (k:Int).toNat n)=min k n
 rw[if_neg (by omega),Int.toNat_natCast]
theorem sIx_le (n d:Nat) (hd:d≤n) (o:Option Int):sIx n d o≤n:=by
 cases o with
 | none=>exact hd
 | some v =>
  show(if v<0 then(v+(n:Int)).toNat else min v.toNat n)≤n
  by_cases hv:v<0
  ·rw[if_pos hv];omega
  ·rw[if_neg hv];exact Nat.min_le_right _ _
theorem clip_eq (v:Int) (n d:Nat):(if v<0 then max (v+(n:Int)) 0 else min v (n:Int)) =((sIx n d (some v):Nat):Int):=by
 show(if v<0 then max (v+(n:Int)) 0 else min v (n:Int)) =(((if v<0 then(v+(n:Int)).toNat else min v.toNat n):Nat):Int)
 by_cases hv:v<0
 ·simp only[if_pos hv];omega
 ·simp only[if_neg hv];omega
theorem adjust_gen (lo hi:Option Int) (n:Nat):Builtin.Slice.sliceAdjust lo hi 1 (n:Int) =(((sIx n 0 lo:Nat):Int),((sIx n n hi:Nat):Int)):=by
 have h1:¬((1:Int)<0):=by omega
 unfold Builtin.Slice.sliceAdjust
 simp only[h1,if_false]
 refine Prod.ext ?_ ?_
 ·cases lo with
  | none=>rfl
  | some v=>exact clip_eq v n 0
 ·cases hi with
  | none=>rfl
  | some v=>exact clip_eq v n n
theorem places_gen (i j:Nat):Builtin.Slice.slicePlaces (i:Int) (j:Int) 1=j-i:=by
 unfold Builtin.Slice.slicePlaces
 have h1:(1:Int) > 0:=by omega
 simp only[h1,if_true,Int.ediv_one]
 split <;> omega
theorem slicePart_ {v:Value}{o:Option Int}{Q:Option Int→Shared→Prop}(p:IsPart v o) (h:Q o s):wpAny (model prog w) A (Builtin.Slice.slicePartIndex v) Q E s:=by
 cases p with
 | none=>exact slicePart_none h
 | int i t=>exact slicePart_int h
theorem sliceApplied_gen {sl:Addr}{vl vu:Value}{lo hi:Option Int}{n:Nat}{Q:Int×Int×Nat→Shared→Prop}(hs:s.heap.IsSliceOf sl vl vu .none) (pl:IsPart vl lo) (pu:IsPart vu hi)
  (h:Q (((sIx n 0 lo:Nat):Int),1,sIx n n hi-sIx n 0 lo) s):wpAny (model prog w) A (Builtin.Slice.sliceApplied (.ref sl) (pure (n:Int))) Q E s:=by
 obtain⟨os,hos,hcs,hds⟩:=id hs
 unfold Builtin.Slice.sliceApplied Builtin.Slice.sliceFields
 refine wpAny_bind (wpAny_bind (wpAny_field hos hds (x:=vl) rfl (wpAny_bind (wpAny_field hos hds (x:=vu) rfl (wpAny_bind (wpAny_field hos hds (x:=.none) rfl (wpAny_pure ?_)))))))
 refine wpAny_bind (slicePart_none ?_)
 show wpAny _ _ (if ((1:Int) == 0)=true then _ else _) _ _ s
 rw[if_neg (by decide)]
 refine wpAny_bind (slicePart_ pl (wpAny_bind (slicePart_ pu (wpAny_bind (wpAny_pure ?_)))))
 show wpAny _ _ (match Builtin.Slice.sliceAdjust lo hi 1 (n:Int) with|(lo,hi)=>pure (lo,(1:Int),Builtin.Slice.slicePlaces lo hi 1)) _ _ s
 rw[adjust_gen lo hi n]
 show wpAny _ _ (pure (((sIx n 0 lo:Nat):Int),(1:Int),Builtin.Slice.slicePlaces ((sIx n 0 lo:Nat):Int) ((sIx n n hi:Nat):Int) 1)) _ _ s
 rw[places_gen]
 exact wpAny_pure h
theorem pick_gen (xs:Array Value) (i k:Nat):((List.range k).filterMap fun(m:Nat)=>xs[((i:Int)+(m:Int)*1).toNat]?).toArray =((xs.toList.drop i).take k).toArray:=by
 have e:(fun(m:Nat)=>xs[((i:Int)+(m:Int)*1).toNat]?)=fun m=>xs[i+m]?:=by
  funext m
  have:((i:Int)+(m:Int)*1).toNat=i+m:=by omega
  rw[this]
 rw[e]
 have:=pick_run xs i k
 rw[List.filterMap_map]at this
 have e2:((fun x=>xs[x]?) ∘ fun x=>i+x)=fun m=>xs[i+m]?:=rfl
 rw[e2]at this
 rw[this]
theorem getItem_tuple_cut {t sl:Addr}{items:Array Value}{vl vu:Value}{lo hi:Option Int}{Q:Value→Shared→Prop}(ht:IsTup s.heap t items) (hs:s.heap.IsSliceOf sl vl vu .none) (pl:IsPart vl lo) (pu:IsPart vu hi)
  (hw:¬(sIx items.size 0 lo=0∧sIx items.size items.size hi=items.size))
  (h:Q (.ref s.heap.objs.size) { s with heap:=s.heap.push { cls:=.type "tuple",data:=.seq ((items.toList.drop (sIx items.size 0 lo)).take (sIx items.size items.size hi-sIx items.size 0 lo)).toArray } })
  (hsz:items.size≤sizeLine):wpAny (model prog w) A (getItem (.ref t) (.ref sl)) Q E s:=by
 have htake:sizeOk (.seq ((items.toList.drop (sIx items.size 0 lo)).take (sIx items.size items.size hi-sIx items.size 0 lo)).toArray):=by
  show((items.toList.drop (sIx items.size 0 lo)).take (sIx items.size items.size hi-sIx items.size 0 lo)).toArray.size≤sizeLine
  rw[List.size_toArray,List.length_take,List.length_drop,Array.length_toList]
  omega
 have hj:sIx items.size items.size hi≤items.size:=sIx_le _ _ (Nat.le_refl _) hi
 obtain⟨os,hos,hcs,hds⟩:=id hs
 have hTs:s.TypeIs (.ref sl) "slice" :=⟨os,hos,hcs⟩
 unfold getItem
 try with_reducible refine wpAny_holding ?_
 first|refine wpAny_bind (wpAny_pure ?_)|skip
 refine wpAny_bind (wpAny_sequenceKey ht.typeIs (by decide) ?_)
 refine wpAny_bind (wpAny_callSpecial?_slot (name:=Str.ofString "__getitem__") ht.typeIs PyProof.Rows.slot_tuple_getitem
  (wpAny_call_entry PyProof.Rows.slot_tuple_getitem ht.typeIs entry_tuple_getitem ?_ (args_tuple_getitem _ _)))
 show wpAny _ _ (Builtin.Tuple.tupleItemsOf (.ref t) >>= _) _ _ s
 refine wpAny_bind (tupleItemsOf_ ht ?_)
 refine wpAny_bind (wpAny_typeOf hTs ?_)
 rw[if_pos (by decide)]
 refine wpAny_bind (sliceApplied_gen hs pl pu ?_)
 have hno:¬((((sIx items.size 0 lo:Nat):Int) == 0 && (1:Int) == 1 && (sIx items.size items.size hi-sIx items.size 0 lo) == items.size)=true):=by
  intro q
  rw[Bool.and_eq_true,Bool.and_eq_true]at q
  have q1:((sIx items.size 0 lo:Nat):Int)=0:=eq_of_beq q.1.1
  have q2:sIx items.size items.size hi-sIx items.size 0 lo=items.size:=eq_of_beq q.2
  exact hw ⟨by omega,by omega⟩
 show wpAny _ _ (if (((sIx items.size 0 lo:Nat):Int) == 0 && (1:Int) == 1 && (sIx items.size items.size hi-sIx items.size 0 lo) == items.size)=true then _ else _) _ _ s
 rw[if_neg hno,pick_gen]
 first
  | exact wpAny_bind (m:=Builtin.Tuple.tupleExact _) (wpAny_newObj_type (wpAny_pure ⟨_,rfl,wpAny_pure h⟩) htake)
  | exact wpAny_bind (m:=Builtin.Tuple.tupleExact _) (wpAny_newObj_type (wpAny_bind (wpAny_pure (wpAny_pure ⟨_,rfl,wpAny_pure h⟩))) htake)
  | exact wpAny_bind (wpAny_bind (m:=Builtin.Tuple.tupleExact _) (wpAny_newObj_type (wpAny_pure (wpAny_pure ⟨_,rfl,wpAny_pure h⟩)) htake))
  | exact wpAny_bind (wpAny_bind (m:=Builtin.Tuple.tupleExact _) (wpAny_newObj_type (wpAny_pure ⟨_,rfl,wpAny_pure h⟩) htake))
end
end HT
namespace L2
open PySem PySem.Spec PyProof.Rows
abbrev TO:=St→Hp→(Option Int→Hp→Prop)→Prop
def PO (X:Cx) (e:Option Expr) (t:TO):Prop :=
 ∀(pins:List (Addr×Obj)) (s:Shared) (σ:St) (H:Hp) (Q:Option Int→Hp→Prop),Inv X pins σ H s→t σ H Q →
  wpAny (model X.prog X.w) X.A (evalPart e X.env) (fun u s'=>∃o H',Inv X pins σ H' s'∧IsPart u o∧Q o H') X.xe s
def tNoPart:TO:=fun _ H Q=>Q none H
def tPart (t:TE):TO:=fun σ H Q=>t σ H fun x H1=>∃i,x = .int i∧Q (some i) H1
section
variable {X:Cx}{e:Expr}{te:TE}{lo hi:Option Expr}{tl th:TO}{pos p2:Pos}
theorem po_none:PO X none tNoPart:=by
 intro pins s σ H Q I h
 rw[evalPart_none]
 exact wpAny_pure ⟨none,H,I,.none,h⟩
theorem po_some (h:PE X e te):PO X (some e) (tPart te):=by
 intro pins s σ H Q I hw
 rw[evalPart_some]
 refine thn (h pins s σ H _ I hw) fun u s1 ⟨x,H1,I1,r1,q1⟩=>?_
 obtain⟨i,rfl,q⟩:=q1
 obtain⟨t,rfl⟩:=r1
 exact⟨some i,H1,I1,.int i t,q⟩
def SlR (X:Cx) (r:V→Option Int→Option Int→Hp→VK→Prop):Prop :=
 ∀(pins:List (Addr×Obj)) (s:Shared) (σ:St) (H:Hp) (x:V) (v vl vu:Value) (lo hi:Option Int) (sl:Addr) (Q:VK),Inv X pins σ H s→RelV x v→s.heap.IsSliceOf sl vl vu .none→IsPart vl lo→IsPart vu hi→r x lo hi H Q →
  ∃T id,typeLookup (.type T) "__getitem__" = pure (some (.builtin id))∧s.TypeIs v T∧wpAny (model X.prog X.w) X.A (getItem v (.ref sl)) (EP X pins σ Q) X.xe s
def tSl (r:V→Option Int→Option Int→Hp→VK→Prop) (te:TE) (tl th:TO):TE:=fun σ H Q=>te σ H fun x H1=>tl σ H1 fun l H2=>th σ H2 fun u H3=>r x l u H3 Q
theorem pe_slice {r:V→Option Int→Option Int→Hp→VK→Prop}(hr:SlR X r) (he:PE X e te) (hl:PO X lo tl) (hu:PO X hi th):PE X (.Subscript e (.Slice lo hi none p2) pos) (tSl r te tl th):=by
 intro pins s σ H Q I h
 refine Subscript_ (thn (he pins s σ H _ I h) fun v s1 ⟨x,H1,I1,r1,q1⟩=>?_)
 refine wpAny_Slice (thn (hl pins s1 σ H1 _ I1 q1) fun vl s2 ⟨l,H2,I2,pl,q2⟩=>thn (hu pins s2 σ H2 _ I2 q2) fun vu s3 ⟨u,H3,I3,pu,q3⟩=>?_)
 rw[evalPart_none]
 refine wpAny_pure ?_
 have I4:Inv X pins σ H3 { s3 with heap:=s3.heap.push { cls:=.type "slice",data:=.fields #[vl,vu,.none] } }:=I3.kept (t':=s3.toks) fun b ob q=>Heap.get?_push_of_some _ q
 obtain⟨T,id,hT,ht,hg⟩:=hr pins { s3 with heap:=s3.heap.push { cls:=.type "slice",data:=.fields #[vl,vu,.none] } } σ H3 x v vl vu l u s3.heap.objs.size Q I4 r1 (Heap.IsSliceOf.new ..) pl pu q3
 show wpAny (model X.prog X.w) X.A (subscriptTail e (.Slice lo hi none p2) v (.ref s3.heap.objs.size)) (EP X pins σ Q) X.xe { s3 with heap:=s3.heap.push { cls:=.type "slice",data:=.fields #[vl,vu,.none] } }
 exact tail_any (ops:=[.ref s3.heap.objs.size,v]) ht hT hg (by with_unfolding_all rfl)
def cutV (xs:List V) (lo hi:Option Int):List V:=(xs.drop (HT.sIx xs.length 0 lo)).take (HT.sIx xs.length xs.length hi-HT.sIx xs.length 0 lo)
theorem cutV_length (xs:List V) (lo hi:Option Int):(cutV xs lo hi).length≤xs.length:=by
 unfold cutV
 rw[List.length_take,List.length_drop]
 omega
def rSlT (K:PySem.W.Frag):V→Option Int→Option Int→Hp→VK→Prop:=fun x lo hi H Q=>∃a xs,x = .ref a∧SqT K H a xs ∧
 ¬(HT.sIx xs.length 0 lo=0∧HT.sIx xs.length xs.length hi=xs.length)∧∀p,H p=none→Q (.ref p) (upd H p (.tup (cutV xs lo hi)))
theorem sl_tup:SlR X (rSlT X.K):=by
 intro pins s σ H x v vl vu lo hi sl Q I rx hs pl pu h
 obtain⟨a,xs,rfl,hx,hw,q⟩:=h
 cases rx
 obtain⟨its,r,ht,hz⟩:=I.tuple hx
 have hlen:its.toArray.size=xs.length:=by rw[List.size_toArray];exact r.length.symm
 refine⟨"tuple",_,PyProof.Rows.slot_tuple_getitem.lookup,ht.typeIs,?_⟩
 refine HT.getItem_tuple_cut ht hs pl pu (by rw[hlen];exact hw) ?_ (by rw[hlen];exact hz)
 rw[hlen]
 refine⟨.ref s.heap.objs.size,_,I.laid (t':=s.toks) (o:=.tup (cutV xs lo hi)) (fun b ob q=>Heap.get?_push_of_some _ q) (Nat.le_refl _) ?_,rfl,q _ (I.hok.fresh (Nat.le_refl _))⟩
 exact⟨Nat.le_trans (cutV_length xs lo hi) hz,_,(r.drop (HT.sIx xs.length 0 lo)).take (HT.sIx xs.length xs.length hi-HT.sIx xs.length 0 lo),IsTup.new _ _⟩
end
end L2
namespace L2
open PySem PySem.Spec PyProof.Rows
def ixN (n:Nat) (i:Int):Option Nat:=if 0≤i then(if i<n then some i.toNat else none) else if -(n:Int)≤i then some (i+n).toNat else none
def atI {α:Type}(xs:List α) (i:Int):Option α:=(ixN xs.length i).bind fun j=>xs[j]?
theorem ixN_seq {n:Nat}{i:Int}{j:Nat}(h:ixN n i=some j):seqIndex? i n=some j∧j<n∧-(n:Int)≤i∧i<n:=by
 unfold ixN at h
 by_cases h0:0≤i
 ·rw[if_pos h0]at h
  by_cases h1:i<n
  ·rw[if_pos h1]at h
   have e:i.toNat=j:=Option.some.inj h
   exact⟨by rw[seqIndex_of h0 h1,e],by omega,by omega,h1⟩
  ·rw[if_neg h1]at h;cases h
 ·rw[if_neg h0]at h
  by_cases h1:-(n:Int)≤i
  ·rw[if_pos h1]at h
   have e:(i+n).toNat=j:=Option.some.inj h
   exact⟨by rw[seqIndex_neg (by omega) h1,e],by omega,h1,by omega⟩
  ·rw[if_neg h1]at h;cases h
theorem atI_get {α:Type}{xs:List α}{i:Int}{v:α}(h:atI xs i=some v):∃j,seqIndex? i xs.length=some j∧xs[j]? = some v∧j<xs.length∧-(xs.length:Int)≤i∧i<xs.length:=by
 unfold atI at h
 cases e:ixN xs.length i with
 | none=>rw[e]at h;cases h
 | some j =>
  rw[e]at h
  obtain⟨h1,h2,h3,h4⟩:=ixN_seq e
  exact⟨j,h1,h,h2,h3,h4⟩
theorem atI_nat {α:Type}{xs:List α}{j:Nat}{v:α}(h:xs[j]? = some v):atI xs (j:Int)=some v:=by
 have hj:j<xs.length:=(List.getElem?_eq_some_iff.mp h).1
 have e:ixN xs.length (j:Int)=some j:=by
  unfold ixN
  rw[if_pos (by omega),if_pos (by omega)];simp
 unfold atI;rw[e];exact h
theorem atI_last {α:Type}(xs:List α) (v:α):atI (xs ++ [v]) (-1)=some v:=by
 have hl:(xs ++ [v]).length=xs.length+1:=by simp
 have e:ixN (xs ++ [v]).length (-1)=some xs.length:=by
  unfold ixN
  rw[hl,if_neg (by decide),if_pos (by omega)]
  congr 1
  omega
 unfold atI
 rw[e]
 show(xs ++ [v])[xs.length]? = some v
 simp
def PlainIx (b:Expr):Prop:=∀o i,subscripted b false o i=operate [o,i] (getItem o i)
def IxR (X:Cx) (r:R2):Prop :=
 ∀(value slice:Expr) (pins:List (Addr×Obj)) (s:Shared) (σ:St) (H:Hp) (x y:V) (v u:Value) (Q:VK),Inv X pins σ H s→RelV x v→RelV y u→r x y H Q →
  subscripted slice false v u=operate [v,u] (getItem v u)→wpAny (model X.prog X.w) X.A (subscriptTail value slice v u) (EP X pins σ Q) X.xe s
def MtR (X:Cx) (id:String) (r:V→List V→Hp→VK→Prop):Prop :=
 ∀(pins:List (Addr×Obj)) (s:Shared) (σ:St) (H:Hp) (x:V) (xs:List V) (v:Value) (us:List Value) (Q:VK),Inv X pins σ H s→RelV x v→Vals xs us→r x xs H Q →
  wpAny (model X.prog X.w) X.A (call (.builtin id) (v::us)) (EP X pins σ Q) X.xe s
section
variable {X:Cx}{a b:Expr}{ta tb:TE}{pos:Pos}
theorem pe_ix {r:R2}(hr:IxR X r) (ha:PE X a ta) (hb:PE X b tb) (hs:PlainIx b):PE X (.Subscript a b pos) (tOp r ta tb):=by
 intro pins s σ H Q I h
 exact Subscript_ (binT ha hb I h fun v u s2 x y H2 I2 rx ry q=>hr a b pins s2 σ H2 x y v u Q I2 rx ry q (hs _ _))
def rIxL (K:PySem.W.Frag):R2:=fun x y H Q=>∃p xs i v,x = .ref p∧y = .int i∧SqL K H p xs∧atI xs i=some v∧Q v H
def rIxT (K:PySem.W.Frag):R2:=fun x y H Q=>∃p xs i v,x = .ref p∧y = .int i∧SqT K H p xs∧atI xs i=some v∧Q v H
def rIxS:R2:=fun x y H Q=>∃z i c,x = .str z∧y = .int i∧z.length≤sizeLine∧atI z.cps.toList i=some c∧Q (.str ⟨#[c]⟩) H
theorem ix_list:IxR X (rIxL X.K):=by
 intro value slice pins s σ H x y v u Q I rx ry h hs
 obtain⟨p,xs,i,z,rfl,rfl,hq,he,q⟩:=h
 cases rx
 obtain⟨t,rfl⟩:=ry
 obtain⟨its,r,pl,hz⟩:=I.list hq
 obtain⟨j,h1,h2,h3,h4,h5⟩:=atI_get he
 obtain⟨w,ew,rw'⟩:=r.get h2
 have hl:=r.length
 have hn:=line63
 have fin:EP X pins σ Q w s:=⟨z,H,I,rw',q⟩
 by_cases h0:0≤i
 ·have hj:i.toNat=j:=by
   rw[seqIndex_of h0 h5]at h1
   exact Option.some.inj h1
  exact item_listR pl.isList h0 (by omega) (by rw[hj];simpa using ew) fin hs
 ·have hj:(i+(its.toArray.size:Int)).toNat=j:=by
   rw[seqIndex_neg (by omega) h4]at h1
   rw[List.size_toArray,← hl]
   exact Option.some.inj h1
  exact subscriptTail_builtinR (x:=w) pl.isList.typeIs slot_list_getitem.lookup
   (wpAny_getItem_list_neg (Q:=fun r s'=>r=w∧EP X pins σ Q r s') pl.isList (by omega) (by rw[List.size_toArray] <;> omega) (by omega) (by rw[hj];simpa using ew) ⟨rfl,fin⟩) hs
theorem ix_tup:IxR X (rIxT X.K):=by
 intro value slice pins s σ H x y v u Q I rx ry h hs
 obtain⟨p,xs,i,z,rfl,rfl,hq,he,q⟩:=h
 cases rx
 obtain⟨t,rfl⟩:=ry
 obtain⟨its,r,pl,hz⟩:=I.tuple hq
 obtain⟨j,h1,h2,h3,h4,h5⟩:=atI_get he
 obtain⟨w,ew,rw'⟩:=r.get h2
 have hl:=r.length
 have hn:=line63
 have fin:EP X pins σ Q w s:=⟨z,H,I,rw',q⟩
 exact subscriptTail_builtinR (x:=w) pl.typeIs slot_tuple_getitem.lookup
  (getItem_tuple (j:=j) (Q:=fun r s'=>r=w∧EP X pins σ Q r s') pl (by omega) (by omega) (by rw[List.size_toArray,← hl];exact h1) (by simpa using ew) ⟨rfl,fin⟩) hs
theorem ix_str:IxR X rIxS:=by
 intro value slice pins s σ H x y v u Q I rx ry h hs
 obtain⟨z,i,c,rfl,rfl,hz,he,q⟩:=h
 obtain⟨t,rfl⟩:=rx
 obtain⟨t',rfl⟩:=ry
 obtain⟨j,h1,h2,h3,h4,h5⟩:=atI_get he
 have hl:z.cps.toList.length=z.length:=by simp[Str.length]
 rw[hl]at h1 h4 h5
 have hn:=line63
 exact tail_any (typeIs_str s z t) slot_str_getitem.lookup (getItem_str (c:=c) (by
  have e1:decide (i < -(2^63:Int))=false:=decide_eq_false (by omega)
  have e2:decide (i ≥ 2^63)=false:=decide_eq_false (by omega)
  rw[e1,e2,Bool.or_false]) (by rw[h1];simpa using h2) ⟨.str ⟨#[c]⟩,H,I.tok _,⟨_,rfl⟩,q⟩) hs
theorem mapSeq_set (its:List Value) (n j:Nat) (u:Value):Obj.mapSeq (·.setIfInBounds j u) { cls:=.type "list",data:=.seq its.toArray n } = { cls:=.type "list",data:=.seq (its.set j u).toArray n }:=by
 simp[Obj.mapSeq]
theorem Inv.lst {pins:List (Addr×Obj)}{σ:St}{H:Hp}{s:Shared}{p:Addr}{xs:List V}(I:Inv X pins σ H s) (h:H p=some (.lst xs)) :
  ∃(its:List Value) (n:Nat),Vals xs its∧s.heap.get? p=some { cls:=.type "list",data:=.seq its.toArray n }∧xs.length≤sizeLine:=by
 obtain⟨z,its,n,r,e⟩:=I.hok p _ h
 exact⟨its,n,r,e,z⟩
theorem Inv.lstUpd {pins:List (Addr×Obj)}{σ:St}{H:Hp}{s:Shared}{p:Addr}{xs ys:List V}{its its':List Value}{n n':Nat}{f:Obj→Obj}(I:Inv X pins σ H s) (h:H p=some (.lst xs))
  (ho:s.heap.get? p=some { cls:=.type "list",data:=.seq its.toArray n }) (hf:f { cls:=.type "list",data:=.seq its.toArray n } = { cls:=.type "list",data:=.seq its'.toArray n' }) (r:Vals ys its') (hz:ys.length≤sizeLine) (t:Nat) :
  Inv X pins σ (upd H p (.lst ys)) { s with heap:=s.heap.update p f,toks:=t }:=by
 have e:(s.heap.update p f).get? p=some { cls:=.type "list",data:=.seq its'.toArray n' }:=by
  rw[Heap.get?_update_self f ho (by rw[hf] <;> rfl),hf]
 refine I.write (x:=p) (e:=p) (by rw[h];trivial) (.inl rfl) (fun b u hb q=>(Heap.get?_update_other _ _ (Ne.symm hb)).trans q) ⟨_,e⟩ ?_
 exact⟨hz,its',n',r,e⟩
def rSetL:V→V→V→Hp→(Hp→Prop)→Prop:=fun o i v H Q=>∃p xs k j,o = .ref p∧i = .int k∧H p=some (.lst xs)∧ixN xs.length k=some j∧Q (upd H p (.lst (xs.set j v)))
theorem set_list:PSet X rSetL:=by
 intro pins s σ H o i v ov iv u Q I ro ri rv h
 obtain⟨p,xs,k,j,rfl,rfl,hp,hj,q⟩:=h
 cases ro
 obtain⟨t,rfl⟩:=ri
 obtain⟨its,n,r,ho,hz⟩:=I.lst hp
 obtain⟨h1,h2,h3,h4⟩:=ixN_seq hj
 have hl:=r.length
 have hn:=line63
 have I':Inv X pins σ (upd H p (.lst (xs.set j v))) { s with heap:=s.heap.update p (Obj.mapSeq (·.setIfInBounds j u)) } :=
  I.lstUpd hp ho (mapSeq_set its n j u) (r.set rv j) (by rw[List.length_set];exact hz) s.toks
 by_cases h0:0≤k
 ·have hk:k.toNat=j:=by
   rw[seqIndex_of h0 h4]at h1
   exact Option.some.inj h1
  exact PySem.W.ki_setAt ho h0 (by omega) (by rw[List.size_toArray,← hl];exact h4) (by rw[hk];exact⟨_,I',q⟩)
 ·have hk:(k+(its.toArray.size:Int)).toNat=j:=by
   rw[seqIndex_neg (by omega) h3]at h1
   rw[List.size_toArray,← hl]
   exact Option.some.inj h1
  exact PySem.W.ki_setBack ho (by omega) (by rw[List.size_toArray,← hl];exact h3) (by omega) (by rw[hk];exact⟨_,I',q⟩)
theorem slice_bounds (lo hi:Option Int) (n:Nat):(sliceBounds lo hi none n).1 =((HT.sIx n 0 lo:Nat):Int)∧(sliceBounds lo hi none n).2.1 =((HT.sIx n n hi:Nat):Int)∧(sliceBounds lo hi none n).2.2=1:=by
 refine⟨?_,?_,rfl⟩
 ·cases lo with
  | none=>simp[sliceBounds,HT.sIx]
  | some i =>
   simp only[sliceBounds,HT.sIx,Option.getD_none,show(1:Int) > 0 by decide,if_true]
   by_cases h:i<0
   ·simp only[h,if_true] <;> omega
   ·simp only[h,if_false] <;> omega
 ·cases hi with
  | none=>simp[sliceBounds,HT.sIx]
  | some i =>
   simp only[sliceBounds,HT.sIx,Option.getD_none,show(1:Int) > 0 by decide,if_true]
   by_cases h:i<0
   ·simp only[h,if_true] <;> omega
   ·simp only[h,if_false] <;> omega
theorem slicePick_cut (its:List Value) (lo hi:Option Int):slicePick its.toArray lo hi none =((its.drop (HT.sIx its.length 0 lo)).take (HT.sIx its.length its.length hi-HT.sIx its.length 0 lo)).toArray:=by
 obtain⟨h1,h2,h3⟩:=slice_bounds lo hi its.toArray.size
 unfold slicePick
 rw[h1,h2,h3]
 simp only[sliceRange_one,pick_run,List.size_toArray] <;> rfl
def rSlL (K:PySem.W.Frag):V→Option Int→Option Int→Hp→VK→Prop:=fun x lo hi H Q=>∃a xs,x = .ref a∧SqL K H a xs∧∀p,H p=none→Q (.ref p) (upd H p (.lst (cutV xs lo hi)))
theorem sl_list:SlR X (rSlL X.K):=by
 intro pins s σ H x v vl vu lo hi sl Q I rx hs pl pu h
 obtain⟨a,xs,rfl,hx,q⟩:=h
 cases rx
 obtain⟨its,r,ht,hz⟩:=I.list hx
 have hlen:=r.length
 refine⟨"list",_,slot_list_getitem.lookup,ht.isList.typeIs,?_⟩
 refine wpAny_getItem_list_slice ht.isList hs pl pu .none (by simp) ?_ (by rw[List.size_toArray] <;> omega)
 rw[slicePick_cut,← hlen]
 refine⟨.ref s.heap.objs.size,_,I.laid (t':=s.toks) (o:=.lst (cutV xs lo hi)) (fun b ob q=>Heap.get?_push_of_some _ q) (Nat.le_refl _) ?_,rfl,q _ (I.hok.fresh (Nat.le_refl _))⟩
 exact⟨Nat.le_trans (cutV_length xs lo hi) hz,_,0,(r.drop (HT.sIx xs.length 0 lo)).take (HT.sIx xs.length xs.length hi-HT.sIx xs.length 0 lo),Heap.get?_push_size _ rfl⟩
theorem call_len_seq:CallR X (.builtin "len") (fun xs H Q=>∃p ys,xs=[.ref p]∧(SqL X.K H p ys∨SqT X.K H p ys)∧Q (.int ys.length) H):=by
 intro pins s σ H xs us Q I r h
 obtain⟨p,ys,rfl,hq,q⟩:=h
 obtain⟨u,rfl,rx⟩:=vals1 r
 cases rx
 have hn:=line63
 rcases hq with hq|hq
 ·obtain⟨its,r',pl,hz⟩:=I.list hq
  have hlen:=r'.length
  exact Calls.call_len_list pl.isList (by simp only[List.size_toArray] <;> omega) ⟨.int ys.length,H,I.tok _,⟨s.toks+1,by rw[List.size_toArray,hlen]⟩,q⟩
 ·obtain⟨its,r',pl,hz⟩:=I.tuple hq
  have hlen:=r'.length
  exact len_tuple pl (by simp only[List.size_toArray] <;> omega) ⟨.int ys.length,H,I.tok _,⟨s.toks+1,by rw[List.size_toArray,hlen]⟩,q⟩
theorem call_len_str:CallR X (.builtin "len") (fun xs H Q=>∃z,xs=[.str z]∧z.length≤sizeLine∧Q (.int z.length) H):=by
 intro pins s σ H xs us Q I r h
 obtain⟨z,rfl,hz,q⟩:=h
 obtain⟨u,rfl,t,rfl⟩:=vals1 r
 have hn:=line63
 exact len_str (by omega) ⟨.int z.length,H,I.tok _,⟨_,rfl⟩,q⟩
def tyV (K:PySem.W.Frag) (T:String) (x:V) (H:Hp):Prop:=match x with
 | .str _=>T = "str"
 | .int _=>T = "int"
 | .ref p=>(T = "list"∧∃xs,SqL K H p xs) ∨(T = "tuple"∧∃o,K.lookup p=some o∧o.cls = .type "tuple"∧o.dict=none) ∨
   (T = "dict"∧((∃kvs,H p=some (.dK kvs)) ∨ ∃kvs,H p=some (.dT kvs))) ∨(T = "set"∧∃S n,H p=some (.set S n))
 | _=>False
theorem tyV_is {pins:List (Addr×Obj)}{σ:St}{H:Hp}{s:Shared}{T:String}{x:V}{v:Value}(I:Inv X pins σ H s) (r:RelV x v) (ty:tyV X.K T x H) :
  s.TypeIs v T∧∀a,v = .ref a→∃ob,s.heap.get? a=some ob∧ob.dict=none:=by
 cases x with
 | str z =>
  obtain⟨t,rfl⟩:=r
  cases (show T = "str" from ty)
  exact⟨typeIs_str s z t,fun _ e=>nomatch e⟩
 | int i =>
  obtain⟨t,rfl⟩:=r
  cases (show T = "int" from ty)
  exact⟨typeIs_int s i t,fun _ e=>nomatch e⟩
 | ref p =>
  cases r
  rcases ty with⟨rfl,xs,hq⟩|⟨rfl,o,hk,hc,hd⟩|⟨rfl,hk⟩|⟨rfl,S,n,hk⟩
  ·obtain⟨its,_,pl,_⟩:=I.list hq
   refine⟨pl.isList.typeIs,fun a e=>?_⟩
   cases e
   obtain⟨o,n,e,c,hd,_⟩:=pl
   exact⟨o,e,hd⟩
  ·refine⟨⟨o,I.kIn p o hk,hc⟩,fun a e=>?_⟩
   cases e
   exact⟨o,I.kIn _ o hk,hd⟩
  ·have z:∃o,s.heap.get? p=some o∧o.ExactDict:=by
    rcases hk with⟨kvs,hk⟩|⟨kvs,hk⟩
    ·obtain⟨_,_,_,_,o,_,_,e,ex,_⟩:=I.hok p _ hk
     exact⟨o,e,ex⟩
    ·obtain⟨_,_,_,_,o,_,_,e,ex,_⟩:=I.hok p _ hk
     exact⟨o,e,ex⟩
   obtain⟨o,e,ex⟩:=z
   refine⟨⟨o,e,ex.1⟩,fun a e2=>?_⟩
   cases e2
   exact⟨o,e,ex.2.1⟩
  ·obtain⟨o,_,_,_,e,ex,_⟩:=I.hok p _ hk
   refine⟨⟨o,e,ex.1⟩,fun a e2=>?_⟩
   cases e2
   exact⟨o,e,ex.2.1⟩
 | _=>exact False.elim ty
def tBM (K:PySem.W.Frag) (T:String) (r:V→List V→Hp→VK→Prop) (to:TE) (t:TA):TE:=fun σ H Q=>to σ H fun x H1=>tyV K T x H1∧t σ H1 fun xs H2=>r x xs H2 Q
variable {o e:Expr}{es:List Expr}{to:TE}{t:TA}{name:Str}{apos cpos:Pos}{T id:String}{r:V→List V→Hp→VK→Prop}
theorem pe_bm (pa:PlainAttrs T) (slot:Slot T name id) (hty:typeOf (.builtin id)=pure (.type "method_descriptor")) (hm:MtR X id r) (ho:PE X o to) (ha:PA X (e::es) t)
  (hbase:attributeBase o name X.env (eval o X.env)=eval o X.env:=by rfl)
  (hfew:((backTo cpos (starEach (e::es) X.env)).all (fun x=>!x.1) && (backToKw cpos (keywordEach [] X.env)).all (fun x=>x.1.isSome)
   && decide ((e::es).length+([]:List Keyword).length+(if ([]:List Keyword).isEmpty then 0 else 1)<30))=true:=by rfl)
  (hline:(apos.endLine == cpos.line)=true:=by rfl) (hs:starEach (e::es) X.env =(false,eval e X.env)::starEach es X.env:=by rfl) (hplain:(backTo cpos (starEach es X.env)).any (·.1)=false:=by rfl) :
  PE X (.Call (.Attribute o name apos) (e::es) [] cpos) (tBM X.K T r to t):=by
 intro pins s σ H Q I h
 refine wpAny_Call_method_late hbase hfew hline rfl (thn (ho pins s σ H _ I h) fun v s1 ⟨x,H1,I1,r1,ty,q1⟩=>?_)
 obtain⟨h1,h2⟩:=tyV_is I1 r1 ty
 refine⟨T,id,pa,slot,hty,h1,h2,?_⟩
 have hA:=ha cpos pins s1 σ H1 _ I1 q1
 rw[hs]at hA ⊢
 refine Calls.callWith_builtin (by show(false || (backTo cpos (starEach es X.env)).any (·.1))=false;rw[hplain] <;> rfl) (Calls.evalArgs_plain ?_)
 exact thn hA fun us s2 ⟨vs,H2,I2,r2,q2⟩=>hm pins s2 σ H2 x vs v us Q I2 r1 r2 q2
end
end L2
namespace L2
open PySem PySem.Spec PyProof.Rows
def MtM (X:Cx) (id:String) (r:V→List V→Hp→VK→Prop):Prop :=
 ∀(pins:List (Addr×Obj)) (s:Shared) (σ:St) (H:Hp) (x:V) (xs:List V) (v:Value) (us:List Value) (Q:VK),Inv X pins σ H s→RelV x v→Vals xs us→r x xs H Q →
  wpAny (model X.prog X.w) X.A (call (.builtin id) (v::us)) (EP X pins σ Q) X.xe s
theorem Vals.one:∀{x:V}{us:List Value},Vals [x] us→∃u,us=[u]∧RelV x u
 | _,_,.cons r .nil=>⟨_,rfl,r⟩
theorem Vals.dropLast {xs:List V}{us:List Value}(h:Vals xs us):Vals xs.dropLast us.dropLast:=by
 induction h with
 | nil=>exact .nil
 | cons r t ih =>
  cases t with
  | nil=>exact .nil
  | cons q t'=>exact .cons r ih
theorem Vals.reverse {xs:List V}{us:List Value}(h:Vals xs us):Vals xs.reverse us.reverse:=by
 induction h with
 | nil=>exact .nil
 | cons r t ih=>rw[List.reverse_cons,List.reverse_cons];exact Vals.append ih (.cons r .nil)
theorem erase_last {α:Type}(l:List α):l.eraseIdx (l.length-1)=l.dropLast:=by
 induction l with
 | nil=>rfl
 | cons a r ih =>
  cases r with
  | nil=>rfl
  | cons b r =>
   have e:(a::b::r).length-1 =((b::r).length-1)+1:=by
    have h1:(a::b::r).length=r.length+2:=rfl
    have h2:(b::r).length=r.length+1:=rfl
    omega
   rw[e,List.eraseIdx_cons_succ,ih]
   all_goals rfl
section
variable {X:Cx}{pins:List (Addr×Obj)}{σ:St}{H:Hp}{s:Shared}{l b:Addr}{xs ys zs:List V}
theorem Inv.lset {its its':List Value}{n:Nat}{f:Array Value→Array Value}{t':Nat}(I:Inv X pins σ H s) (hH:H l=some (.lst xs))
  (e:s.heap.get? l=some { cls:=.type "list",data:=.seq its.toArray n }) (hf:f its.toArray=its'.toArray) (hv:Vals ys its') (hz:ys.length≤sizeLine) :
  Inv X pins σ (upd H l (.lst ys)) { s with heap:=s.heap.update l (Obj.mapSeq f),toks:=t' }:=by
 have q:=PySem.IsL.update e f
 rw[hf]at q
 refine I.write (x:=l) (e:=l) (by rw[hH];exact trivial) (.inl rfl) (fun b' u hb hu=>(Heap.get?_update_other s.heap (Obj.mapSeq f) (Ne.symm hb)).trans hu) ⟨_,q⟩ ?_
 exact⟨hz,its',_,hv,q⟩
theorem Inv.lnew {its:List Value}{t':Nat}(I:Inv X pins σ H s) (hv:Vals ys its) (hz:ys.length≤sizeLine) :
  Inv X pins σ (upd H s.heap.objs.size (.lst ys)) { s with heap:=s.heap.push { cls:=.type "list",data:=.seq its.toArray },toks:=t' } :=
 I.laid (fun _ _ q=>Heap.get?_push_of_some _ q) (Nat.le_refl _) ⟨hz,its,0,hv,Heap.get?_push_size _ rfl⟩
theorem Inv.fresh (I:Inv X pins σ H s):H s.heap.objs.size=none:=I.hok.fresh (Nat.le_refl _)
theorem Inv.lstM (I:Inv X pins σ H s) (hH:H l=some (.lst xs)):xs.length≤sizeLine∧∃(its:List Value) (n:Nat),Vals xs its∧xs.length=its.length∧s.heap.get? l=some { cls:=.type "list",data:=.seq its.toArray n }:=by
 obtain⟨z,its,n,r,e⟩:=I.hok l _ hH
 exact⟨z,its,n,r,r.length,e⟩
theorem notLongL {n:Nat}(h:n≤sizeLine):Builtin.List.listTooLong n=false:=by
 unfold Builtin.List.listTooLong
 exact decide_eq_false (by omega)
end
section
variable {X:Cx}
def rAppend:V→List V→Hp→VK→Prop:=fun x vs H Q=>∃l xs y,x = .ref l∧vs=[y]∧H l=some (.lst xs)∧xs.length<sizeLine∧Q .non (upd H l (.lst (xs ++ [y])))
theorem mt_append:MtM X "list.append" rAppend:=by
 intro pins s σ H x vs v us Q I rx rv h
 obtain⟨l,xs,y,rfl,rfl,hH,hz,q⟩:=h
 cases rx
 obtain⟨u,rfl,ru⟩:=rv.one
 obtain⟨z,its,n,r,hl,e⟩:=I.lstM hH
 refine call_meets F.slot_list_append ⟨_,e,rfl⟩ F.entry_list_append (F.args_list_append_2 _ _) (PySem.list_append l its.toArray n u (by rw[List.size_toArray];omega)) ⟨e,?_⟩
 refine⟨.non,_,I.lset (its':=its ++ [u]) hH e (by simp) (r.append (.cons ru .nil)) ?_,rfl,q⟩
 rw[List.length_append,List.length_singleton]
 omega
def rExtend:V→List V→Hp→VK→Prop:=fun x vs H Q=>∃l b xs zs,x = .ref l∧vs=[.ref b]∧H l=some (.lst xs)∧H b=some (.lst zs)∧xs.length+zs.length≤sizeLine∧Q .non (upd H l (.lst (xs++zs)))
theorem mt_extend:MtM X "list.extend" rExtend:=by
 intro pins s σ H x vs v us Q I rx rv h
 obtain⟨l,b,xs,zs,rfl,rfl,hH,hB,hz,q⟩:=h
 cases rx
 obtain⟨u,rfl,ru⟩:=rv.one
 cases ru
 obtain⟨z,its,n,r,hl,e⟩:=I.lstM hH
 obtain⟨z2,its2,n2,r2,hl2,e2⟩:=I.lstM hB
 have hsz:its.toArray.size+its2.toArray.size≤sizeLine:=by rw[List.size_toArray,List.size_toArray];omega
 have hlong:¬(!its.toArray.isEmpty && Builtin.List.listTooLong (its.toArray.size+its2.toArray.size))=true:=by
  rw[notLongL hsz,Bool.and_false]
  exact Bool.false_ne_true
 refine call_meets F.slot_list_extend ⟨_,e,rfl⟩ F.entry_list_extend (F.args_list_extend_2 _ _)
  (AutoSeq1.list_extend_list_list_0 l its.toArray n b its2.toArray n2 hlong (by rw[List.size_toArray];omega) (by omega)) ⟨e,e2,?_⟩
 refine⟨.non,_,I.lset (its':=its++its2) hH e (by simp) (r.append r2) ?_,rfl,q⟩
 rw[List.length_append]
 omega
def rCat:R2:=fun x y H Q=>∃l b xs zs,x = .ref l∧y = .ref b∧H l=some (.lst xs)∧H b=some (.lst zs)∧xs.length+zs.length≤sizeLine∧∀p,H p=none→Q (.ref p) (upd H p (.lst (xs++zs)))
theorem op_cat:OpR X (binaryOp .Add) rCat:=by
 intro pins s σ H x y v u Q I rx ry h
 obtain⟨l,b,xs,zs,rfl,rfl,hH,hB,hz,q⟩:=h
 cases rx
 cases ry
 obtain⟨z,its,n,r,hl,e⟩:=I.lstM hH
 obtain⟨z2,its2,n2,r2,hl2,e2⟩:=I.lstM hB
 refine PySem.P.add_list e e2 ?_ (by rw[List.size_toArray,List.size_toArray];omega)
 have ea:its.toArray++its2.toArray =(its++its2).toArray:=by simp
 rw[ea]
 exact⟨.ref _,_,I.lnew (t':=s.toks) (r.append r2) (by rw[List.length_append];omega),rfl,q _ I.fresh⟩
end
section
variable {prog:Program}{w:World}{A:Around}{E:Value→Shared→Prop}{s:Shared}
end
section
variable {X:Cx}
end
end L2
namespace Att
open PySem PySem.W PySem.Calls PyProof.Rows
theorem ints_of_wellAll {P:Params}{h:Heap}:∀(ns:List Int) (vs:List Value),WellAll P h vs (ns.map WData.int)→IntsAre vs ns:=by
 intro ns
 induction ns with
 | nil =>
  intro vs w
  rw[List.map_nil]at w
  cases w
  exact .nil
 | cons n ns ih =>
  intro vs w
  rw[List.map_cons]at w
  cases w with
  | cons a b =>
   cases a
   exact .cons _ _ (ih _ b)
theorem script_of {l:OpenLaw}{n:Nat}(hn:l.most=some n) {P:Params}{h:Heap}{args:List WData}{vals:List Value}
  (hpre:l.row.toRowW.claim.pre args=true) (hwl:WellAll P h vals args) :
  ∃a vs ns,vals=[Value.ref a]∧args=[WData.list (ns.map WData.int)]∧h.get? a=some { cls:=.type "list",data:=.seq vs.toArray }∧IntsAre vs ns∧ns.length≤n:=by
 have hsh:WShape.hasAll [] args [.list .int]=true:=(pre_splitW hpre).1
 have hc:l.pre.holds [] { args:=args } = true:=(pre_splitW hpre).2
 obtain⟨d,r,rfl,h1,h2⟩:=hasAllW_cons hsh
 obtain rfl:=hasAllW_nil h2
 obtain⟨xs,rfl,h3⟩:=hasW_list h1
 obtain⟨ns,rfl⟩:=items_int h3
 have hlen:ns.length≤n:=by
  unfold OpenLaw.pre at hc
  have h4:(WTm.not (.lt (.lit (.int (n:Int))) (.len (.arg 0)))).holds [] { args:=[.list (ns.map .int)] } = true:=by
   have h4:=(holds_andW hc).1
   rw[hn]at h4
   exact h4
  have h5:=condW_of h4 (w_not (w_lt w_lit (w_len_list (w_arg rfl))))
  rw[List.length_map]at h5
  refine Nat.le_of_not_lt fun q=>?_
  have q':(n:Int) <((ns.length:Nat):Int):=by omega
  first
   | (rw[decide_eq_true q']at h5;exact absurd h5 (by decide))
   | (simp at h5;omega)
 cases hwl with
 | cons w1 w2 =>
  cases w2
  cases w1 with
  | list ho hall=>exact⟨_,_,ns,rfl,rfl,ho,ints_of_wellAll ns _ hall,hlen⟩
theorem post_true (l:OpenLaw) (args:List WData):l.row.toRowW.claim.post args (.bool true) args=true :=
 postW_of (r:=l.row.toRowW) (X:=(true == true))
  (show WShape.has [] (.bool true) .bool=true by first|rfl|decide|simp[WShape.has,WShape.arms,WShape.armsAll])
  (show(WTm.eq .res (.lit (.bool true))).value [] { args:=args,res:=some (.bool true),after:=args } = some (.bool (true == true)) from w_eq_bool (w_res rfl) w_lit) rfl
theorem attach_call {l:OpenLaw}{n:Nat}{q:Program}{loose:List Str}{XP:(Str→Option Value)→Heap→Prop}{YP:World→Heap→Prop}{d:DefRec}
  (hn:l.most=some n) (hdf:d.params.defaults=[])
  (call:∀(w:World) (s₀ s₁:Shared) (mg mb:Str→Option Value) (fa:Addr) (o:Obj) (pm cd doc:Value) (a:Addr) (vs:List Value) (ns:List Int),
   Ground q loose [] XP w s₀ mg mb s₁.heap→YP w s₁.heap →
   s₁.heap.get? fa=some o→o.data = .func (docDef d.name d.params d.body d.scope pm cd doc)→s₁.heap.CodeRec cd d.name→mg d.name=some (.ref fa) →
   s₁.heap.get? a=some { cls:=.type "list",data:=.seq vs.toArray }→IntsAre vs ns→ns.length≤n→s₁.gens = #[] →
   codeAny (model l.prog w) callerA (.call (.ref fa) ⟨[.ref a],[]⟩) (fun r s'=>r = .ok (.ret (.bool true))∧OldK s₁.heap s'.heap∧s'.os=s₁.os∧AllBare s'.gens) s₁) :
  WalkO q loose XP YP l.row.toRowW d [] (fun f vs=>PySem.call f vs):=by
 intro w s₀ s₁ mg mb G Y fa o pm cd doc dV kV ho hd hcd hD hmg hg args vals as hpre hlay hrd hwl hlo
 obtain rfl:dV = .none:=Dflts.none hD hdf
 obtain rfl:kV = .none:=Dflts.noKw hD
 obtain⟨a,vs,ns,rfl,rfl,hobj,hints,hlen⟩:=script_of hn hpre hwl
 refine enter_call (codeAny_mono (call w s₀ s₁ mg mb fa o pm cd doc a vs ns G Y ho (fd_plain hd) hcd hmg hobj hints hlen hg) fun r s' hq=>?_)
 obtain⟨rfl,h2,h3,h4⟩:=hq
 exact⟨.inl ⟨.bool true,.bool true,[],rfl,fun _=>rfl,.bool true,post_true l _,fun _=>⟨List.Pairwise.nil,fun _ hm=>(nomatch hm)⟩⟩,h2,h3,h4⟩
section
variable {prog:Program}{w:World}{A:Around}{E:Value→Shared→Prop}{s:Shared}{K:Frag}
end
end Att
namespace L2
open PySem PySem.Spec PyProof.Rows
theorem vals_ints:∀{vs:List Value}{ns:List Int},IntsAre vs ns→Vals (ns.map V.int) vs
 | _,_,.nil=>.nil
 | _,_,.cons n t h=>.cons ⟨t,rfl⟩ (vals_ints h)
def Only (H:Hp):Prop:=∀b,H b=none ∨ ∃o xs,H b=some (.frz o (.lst xs))
theorem law_call {P:Program}{w:World}{K:PySem.W.Frag}{mg mb:Str→Option Value}{CX:CXT}{k:Nat}{fa a:Addr}{fd:FuncData}{x:Str}{sp:Sp}{s₁:Shared}{vs:List Value}{ns:List Int}
  (KX:K.In s₁.heap) (hns:s₁.heap.Ns mainGlobals mg) (hb:s₁.heap.Ns builtinsNs mb) (hbb:∀x:Str,x ≠ "__name__"→mb x=bootBuiltins x) (hlim:s₁.heap.NoLimit) (hg:s₁.gens = #[])
  (ha:s₁.heap.get? a=some { cls:=.type "list",data:=.seq vs.toArray }) (hi:IntsAre vs ns) (hl:ns.length≤sizeLine) (hr:Room k callerA)
  (F:∀base:Heap,K.In base→base.Ns mainGlobals mg→FnOk P w K mg base CX k fa fd [x] sp) (hbind:∀(s:Shared) (u:Value),BindsTo s fd ⟨[u],[]⟩ [(x,u)])
  (hsp:∀H:Hp,Only H→SqL K H a (ns.map V.int)→sp [.ref a] H (fun v _=>v = .bl true) fun _ _ _=>False)
  (hCX:∀H e s',CX [] H s₁ (fun _ _ _=>False) e s'→False) :
  codeAny (model P w) callerA (.call (.ref fa) ⟨[.ref a],[]⟩) (fun r s'=>r = .ok (.ret (.bool true))∧OldK s₁.heap s'.heap∧s'.os=s₁.os∧AllBare s'.gens) s₁:=by
 have rv:=vals_ints hi
 have lenV:=hi.length
 have core:∀H:Hp,Only H→SqL K H a (ns.map V.int)→HOk P w H s₁.heap→(∀b,H b≠none→b=a)→(H a≠none→K.lookup a=none) →
   codeAny (model P w) callerA (.call (.ref fa) ⟨[.ref a],[]⟩) (fun r s'=>r = .ok (.ret (.bool true))∧OldK s₁.heap s'.heap∧s'.os=s₁.os∧AllBare s'.gens) s₁:=by
  intro H hO hS hok hA hK
  have base_of:∀{b:Addr}{o:Obj},s₁.heap.get? b=some o→H b=none→(hidT s₁.heap H).get? b=some o:=fun e n=>hidT_get e n
  have noA:∀{b:Addr}{o:Obj}{es:Array DictEntry}{ep:Nat},s₁.heap.get? b=some o→o.data = .dict es ep→H b=none:=fun {b o es ep} e d=>by
   cases q:H b with
   | none=>rfl
   | some u =>
    have e':b=a:=hA b (by rw[q];simp)
    subst e'
    rw[ha]at e;cases e
    have d':Data.seq vs.toArray _=Data.dict es ep:=d
    cases d'
  have nsK:∀{b:Addr}{m:Str→Option Value},s₁.heap.Ns b m→(hidT s₁.heap H).Ns b m:=fun {b m} ⟨o,es,ep,e,d,r⟩=>⟨o,es,ep,base_of e (noA e d),d,r⟩
  have hKb:K.In (hidT s₁.heap H):=fun b o e=>base_of (KX b o e) (by
   cases q:H b with
   | none=>rfl
   | some u =>
    have e':b=a:=hA b (by rw[q];simp)
    subst e'
    rw[hK (by rw[q];simp)]at e;cases e)
  have hM:Mod K mg (hidT s₁.heap H):=⟨hKb,nsK hns,⟨mb,nsK hb,hbb⟩,let ⟨mc,h1,h2⟩:=hlim;⟨mc,nsK h1,h2⟩⟩
  have e0:Env0 P w K mg (hidT s₁.heap H) callerA [] s₁ H:=⟨rfl,hM,fun b o e=>of_hidT e,Nat.le_of_eq (hidT_size _ _),trivial,fun b hb=>absurd (show b∈([]:List Addr) from hb) (by simp),hok,.of_eq hg⟩
  refine codeAny_mono ((F _ hKb (nsK hns)).run callerA [] s₁ H ⟨[.ref a],[]⟩ [.ref a] [.ref a] _ _ hr e0 (hbind s₁ (.ref a)) (.cons rfl .nil) (hsp H hO hS)) fun r s' h=>?_
  cases r with
  | error e=>exact(hCX H e s' h).elim
  | ok fl =>
   cases fl with
   | next=>exact False.elim h
   | brk=>exact False.elim h
   | cont=>exact False.elim h
   | ret u =>
    obtain⟨v,H',os,bare,un,hok',r',q⟩:=h
    have q':v = .bl true:=q
    subst q'
    obtain rfl:u=Value.bool true:=r'
    refine⟨rfl,OldK.of_keep fun b o e=>?_,os,bare⟩
    cases q:H b with
    | none=>exact un.keep b o e q (by intro z;exact absurd (show b∈([]:List Addr) from z) (by simp)) (by simp)
    | some u =>
     rcases hO b with z|⟨ob,xs,z⟩
     ·rw[q]at z;cases z
     ·have z2:=un.frzs b ob _ z
      obtain⟨e1,_⟩:=hok b _ z
      obtain⟨e2,_⟩:=hok' b _ z2
      rw[e]at e1;cases e1
      exact e2
 cases hk:K.lookup a with
 | some o =>
  have e:=KX a o hk
  rw[ha]at e
  cases e
  refine core (fun _=>none) (fun _=>.inl rfl) (.inr ⟨_,vs.toArray,_,hk,rfl,rfl,rfl,by rw[List.size_toArray,lenV];exact hl,by simpa using rv⟩) (fun b u z=>by have z':(none:Option HO)=some u:=z;cases z') (fun b z=>absurd rfl z) fun z=>absurd rfl z
 | none =>
  refine core (fun b=>if b=a then some (.frz { cls:=.type "list",data:=.seq vs.toArray } (.lst (ns.map V.int))) else none) (fun b=>?_) (.inl (.inr ⟨{ cls:=.type "list",data:=.seq vs.toArray },if_pos rfl⟩)) (fun b u z=>?_) (fun b z=>?_) fun _=>hk
  ·by_cases hb:b=a
   ·exact .inr ⟨_,_,if_pos hb⟩
   ·exact .inl (if_neg hb)
  ·by_cases hb:b=a
   ·have z':=(if_pos hb).symm.trans z
    cases z'
    subst hb
    exact⟨ha,by rw[List.length_map];exact hl,vs,_,rv,ha⟩
   ·have z':=(if_neg hb).symm.trans z
    cases z'
  ·by_cases hb:b=a
   ·exact hb
   ·exact absurd (if_neg hb) z
end L2
namespace L2
open PySem PySem.Spec PyProof.Rows
theorem walk_of {l:PySem.W.OpenLaw}{n k:Nat}{q:Program}{loose:List Str}{XP:(Str→Option Value)→Heap→Prop}{YP:World→Heap→Prop}{d:DefRec}{K:Params→PySem.W.Frag}{CX:World→CXT}{sp:World→Sp}{x:Str}
  (hn:l.most=some n) (hn2:n≤sizeLine) (hdf:d.params.defaults=[]) (hr:Room k callerA)
  (hY:∀(w:World) (h:Heap),YP w h→(K w.params).In h)
  (F:∀(w:World) (mg:Str→Option Value) (fa:Addr) (h:Heap),(K w.params).In h→h.Ns mainGlobals mg→mg d.name=some (.ref fa) →
   ∃fd:FuncData,(∀(s:Shared) (u:Value),BindsTo s fd ⟨[u],[]⟩ [(x,u)]) ∧
    ∀base:Heap,(K w.params).In base→base.Ns mainGlobals mg→FnOk l.prog w (K w.params) mg base (CX w) k fa fd [x] (sp w))
  (hsp:∀(w:World) (H:Hp) (a:Addr) (ns:List Int),ns.length≤n→Only H→SqL (K w.params) H a (ns.map V.int)→sp w [.ref a] H (fun v _=>v = .bl true) fun _ _ _=>False)
  (hCX:∀(w:World) (H:Hp) (s:Shared) (e:Value) (s':Shared),CX w [] H s (fun _ _ _=>False) e s'→False) :
  PySem.W.WalkO q loose XP YP l.row.toRowW d [] (fun f vs=>PySem.call f vs):=by
 refine Att.attach_call hn hdf fun w s₀ s₁ mg mb fa o pm cd doc a vs ns G Y ho hd hcd hmg hobj hints hlen hg=>?_
 have KX:=hY w _ Y
 obtain⟨fd,hb,hF⟩:=F w mg fa _ KX G.T.g hmg
 exact law_call KX G.T.g G.T.b G.T.builtins G.T.nolimit hg hobj hints (Nat.le_trans hlen hn2) hr hF hb (fun H hO hS=>hsp w H a ns hlen hO hS) fun H e s'=>hCX w H s₁ e s'
end L2
namespace L2
open PySem PySem.Spec PyProof.Rows
def defArgs (s:Stmt):Arguments:=match s with
 | .FunctionDef _ a _ _ _ _ _ _ _ _=>a
 | _=>{ posonlyargs:=[],args:=[],vararg:=none,kwonlyargs:=[],kw_defaults:=[],kwarg:=none,defaults:=[] }
def defBody (s:Stmt):List Stmt:=match s with
 | .FunctionDef _ _ b _ _ _ _ _ _ _=>b
 | _=>[]
def defScope (s:Stmt):Scope:=match s with
 | .FunctionDef _ _ _ _ _ _ sc _ _ _=>sc
 | _=>{ kind:=.function,names:=[],isGenerator:=false,isCoroutine:=false }
abbrev CX0:CXT:=fun _ _ _ _ _ _=>False
abbrev E0:XK:=fun _ _ _=>False
theorem pass0 {X:Cx}:Passes CX0 X E0:=fun _ _ _ _ _ _ _ h=>h.elim
structure Fun (K:PySem.W.Frag) (x qual:Str) (st:Stmt) (f:Addr) (fd:FuncData):Prop where
 ex:∃(oc:Value) (od:Option Addr) (kV doc pm:Value) (an:Option Addr) (cdv ct:Value) (osl:Array (Option Value)),
  fd=PySem.W.fnOf x qual (defArgs st) (defBody st) (defScope st) .none kV doc pm an cdv ct∧K.lookup f=some ⟨oc,od,.func fd,osl⟩∧PySem.W.codeIn K cdv qual=true
 kp:PySem.W.keepIn K (.ref f)=true
section
variable {P:Program}{w:World}{K:PySem.W.Frag}{mg:Str→Option Value}{base:Heap}
theorem Fun.ok {x qual:Str}{st:Stmt}{f:Addr}{fd:FuncData}{N ps:List Str}{k:Nat}{sp:Sp}(F:Fun K x qual st f fd) (S:FnScope N ps (defScope st)) (len:∀vs H Q E,sp vs H Q E→vs.length=ps.length)
  (hbody:∀(cdv:Value) (A:Around) (outer:List Env) (s:Shared) (H:Hp) (vs:List V) (Q:VK) (E:XK),Room k (A.deeper (envOfC qual (defScope st) s.heap.objs.size f cdv))→sp vs H Q E →
   ∃t,PSs (cxOf CX0 P w K mg base N qual (defScope st) f cdv A outer s H E).nox (defBody st) t∧t { nx:=fun _ H'=>Q .non H',rt:=Q } (start N vs) H):FnOk P w K mg base CX0 (k+1) f fd ps sp:=by
 obtain⟨oc,od,kV,doc,pm,an,cdv,ct,osl,rfl,lk,hcd⟩:=F.ex
 refine fn_of lk hcd S len fun A outer s H vs Q E hr hsp=>?_
 obtain⟨t,h,q⟩:=hbody cdv A outer s H vs Q E hr hsp
 exact⟨t,h.nox,q⟩
theorem Fun.binds {x qual:Str}{st:Stmt}{f:Addr}{fd:FuncData}{ps:List Str}(F:Fun K x qual st f fd)
  (h:∀(kV doc pm:Value) (an:Option Addr) (cdv ct:Value) (us:List Value),us.length=ps.length→bindArgs (PySem.W.fnOf x qual (defArgs st) (defBody st) (defScope st) .none kV doc pm an cdv ct) ⟨us,[]⟩=pure (ps.zip us)):Binds K fd ps []:=by
 obtain⟨oc,od,kV,doc,pm,an,cdv,ct,osl,rfl,lk,hcd⟩:=F.ex
 exact .all (h kV doc pm an cdv ct)
theorem fun_mk {x qual:Str}{st:Stmt}{f:Addr}{oc:Value}{od an:Option Addr}{osl:Array (Option Value)}{kV doc pm cdv ct:Value}(l:K.lookup f=some ⟨oc,od,.func (PySem.W.fnOf x qual (defArgs st) (defBody st) (defScope st) .none kV doc pm an cdv ct),osl⟩)
  (c:PySem.W.codeIn K cdv qual=true) (k:PySem.W.keepIn K (.ref f)=true):Fun K x qual st f (PySem.W.fnOf x qual (defArgs st) (defBody st) (defScope st) .none kV doc pm an cdv ct):=⟨⟨oc,od,kV,doc,pm,an,cdv,ct,osl,rfl,l,c⟩,k⟩
end
theorem small1000 {n:Nat}(h:n≤1000):n<sizeLine:=Nat.lt_of_le_of_lt h (by decide)
section
variable {X:Cx}
theorem pv (i:Nat) {x:Str}{pos:Pos}(hN:X.N[i]? = some x:=by rfl) (hv:Vis X.env.scope x:=by first|exact Or.inl rfl|exact Or.inr (Or.inl rfl)|exact Or.inr (Or.inr rfl)) (hd:(x ==("__debug__" : Str))=false:=by decide)
  (hcd:(x ==("__classdict__" : Str))=false:=by decide):PE X (.Name x pos) (tVar i):=pe_var hN hv hd hcd
end
theorem iteF {A B:Prop}(h:B):if false=true then A else B:=by
 rw[if_neg Bool.false_ne_true]
 exact h
theorem iteT {A B:Prop}(h:A):if true=true then A else B:=by
 rw[if_pos rfl]
 exact h
def Same (H H':Hp):Prop:=∀b o,H b=some o→H' b=some o
theorem Same.trans {H H1 H2:Hp}(a:Same H H1) (b:Same H1 H2):Same H H2:=fun c o h=>b c o (a c o h)
theorem Same.free {H H':Hp}(e:Same H H') {l:Addr}(h:H' l=Option.none):H l=Option.none:=by
 cases q:H l with
 | none=>rfl
 | some o =>
  rw[e l o q]at h
  cases h
theorem Same.seq {K:PySem.W.Frag}{H H':Hp}{a:Addr}{xs:List V}(e:Same H H') (h:SqL K H a xs):SqL K H' a xs:=by
 rcases h with(h|⟨o,h⟩)|h
 ·exact .inl (.inl (e _ _ h))
 ·exact .inl (.inr ⟨o,e _ _ h⟩)
 ·exact .inr h
end L2
namespace L2
open PySem PySem.Spec PyProof.Rows
def clOf (env:Env):List (Str×NameKind)→List (Str×Addr)→List (Str×Addr)
 | [],cs=>cs
 | (n,k)::r,cs=>clOf env r (if k == .free then(n,(env.cells.lookup n).getD 0)::cs else cs)
def clStep (env:Env) (x:Str×NameKind) (s:List (Str×Addr)):Sem (ForInStep (List (Str×Addr))):=if (x.2 == NameKind.free)=true then cellOf env x.1 >>= fun c=>pure (ForInStep.yield ((x.1,c)::s)) else pure (ForInStep.yield s)
theorem clStep_run {env:Env}:∀{ns:List (Str×NameKind)}(cs:List (Str×Addr)),(∀y∈ns,y.2 = .free→∃c,env.cells.lookup y.1=some c)→(forIn ns cs (clStep env):Sem (List (Str×Addr)))=pure (clOf env ns cs)
 | [],cs,_=>rfl
 | (n,k)::r,cs,h=>by
  rw[List.forIn_cons]
  have hr:∀y∈r,y.2 = .free→∃c,env.cells.lookup y.1=some c:=fun z hz=>h z (List.mem_cons_of_mem _ hz)
  cases hk:(k == NameKind.free) with
  | false =>
   have e1:clStep env (n,k) cs=pure (ForInStep.yield cs):=by
    unfold clStep
    exact if_neg (by rw[show(n,k).2=k from rfl,hk];decide)
   rw[e1,pure_bind]
   show forIn r cs (clStep env)=_
   rw[clStep_run cs hr]
   show pure (clOf env r cs)=pure (clOf env r (if (k == NameKind.free)=true then(n,(List.lookup n env.cells).getD 0)::cs else cs))
   rw[hk]
   rfl
  | true =>
   have hk':k = .free:=by simpa using hk
   obtain⟨c,hc⟩:=h (n,k) List.mem_cons_self hk'
   have hc':env.cells.lookup n=some c:=hc
   have q:cellOf env n=pure c:=by unfold cellOf;rw[hc']
   have e1:clStep env (n,k) cs=pure (ForInStep.yield ((n,c)::cs)):=by
    unfold clStep
    rw[if_pos (by rw[show(n,k).2=k from rfl,hk]),show(n,k).1=n from rfl,q,pure_bind]
   rw[e1,pure_bind]
   show forIn r ((n,c)::cs) (clStep env)=_
   rw[clStep_run _ hr]
   show pure (clOf env r ((n,c)::cs))=pure (clOf env r (if (k == NameKind.free)=true then(n,(List.lookup n env.cells).getD 0)::cs else cs))
   rw[hk,hc']
   rfl
theorem closure_eq {scope:Scope}{env:Env}(h:∀y∈scope.names,y.2 = .free→∃c,env.cells.lookup y.1=some c):closureFor scope env=pure (clOf env scope.names []):=by
 show(forIn scope.names ([]:List (Str×Addr)) (clStep env) >>= fun s=>(pure s:Sem (List (Str×Addr))))=_
 rw[clStep_run [] h,pure_bind]
theorem clOf_sound {env:Env}{n:Str}{c:Addr}:∀{ns:List (Str×NameKind)}{cs:List (Str×Addr)},(∀y∈ns,y.2 = .free→∃c,env.cells.lookup y.1=some c)→(∀p∈cs,env.cells.lookup p.1=some p.2)→(clOf env ns cs).lookup n=some c→env.cells.lookup n=some c
 | [],cs,_,hc,h=>hc _ (PySem.mem_of_lookup h)
 | (m,k)::r,cs,hn,hc,h=>by
  unfold clOf at h
  refine clOf_sound (fun y hy=>hn y (List.mem_cons_of_mem _ hy)) ?_ h
  intro p hp
  split at hp
  ·rename_i hk
   have hk':k = .free:=by simpa using hk
   obtain⟨c',hc'⟩:=hn (m,k) List.mem_cons_self hk'
   have hc2:env.cells.lookup m=some c':=hc'
   rw[hc2]at hp
   rcases List.mem_cons.mp hp with rfl|hp
   ·exact hc2
   ·exact hc p hp
  ·exact hc p hp
theorem lookup_mono_isSome {n:Str}:∀{cs:List (Str×Addr)},(∃c,(n,c)∈cs)→∃c,cs.lookup n=some c
 | [],⟨_,h⟩=>absurd h (by simp)
 | (m,d)::r,⟨c,h⟩=>by
  rw[List.lookup_cons]
  by_cases e:n=m
  ·subst e;exact⟨d,by simp⟩
  ·have:(n == m)=false:=beq_eq_false_iff_ne.mpr e
   rw[this]
   rcases List.mem_cons.mp h with z|z
   ·cases z;exact absurd rfl e
   ·exact lookup_mono_isSome ⟨c,z⟩
theorem clOf_keeps {env:Env}{p:Str×Addr}:∀{ns:List (Str×NameKind)}{cs:List (Str×Addr)},p∈cs→p∈clOf env ns cs
 | [],_,h=>h
 | (m,k)::r,cs,h=>by
  unfold clOf
  refine clOf_keeps ?_
  split
  ·exact List.mem_cons_of_mem _ h
  ·exact h
theorem clOf_has {env:Env}{n:Str}:∀{ns:List (Str×NameKind)}{cs:List (Str×Addr)},(n,NameKind.free)∈ns→∃c,(n,c)∈clOf env ns cs
 | [],_,h=>absurd h (by simp)
 | (m,k)::r,cs,h=>by
  unfold clOf
  rcases List.mem_cons.mp h with z|z
  ·cases z
   exact⟨(env.cells.lookup n).getD 0,clOf_keeps (by simp)⟩
  ·exact clOf_has z
def cxBlk (X:Cx) (scope:Scope) (N:List Str) (C:Addr) (s:Shared) (H:Hp) (ex:List Addr):Cx :=
 { X with N:=N,s₀:=s,H₀:=H,env:=compEnvC scope (clOf X.env scope.names []) C X.env,outer:=X.stack,ex:=ex,fn:=fun _=>false,pn:=[],xe:=fun _ _=>False }
structure BlkOk (X:Cx) (scope:Scope) (vs fs:List Str) (js:List Nat):Prop where
 kind:scope.kind = .function
 cell:∀y∈scope.names,y.2 ≠ .cell
 names:∀y∈scope.names,y.2 = .local→scope.names.lookup y.1=some .local
 free:∀y∈scope.names,y.2 = .free→X.env.kindOf y.1=some .cell∨X.env.kindOf y.1=some .free
 own:∀y∈vs,scope.names.lookup y=some .local
 cap:∀y∈fs,scope.names.lookup y=some .free
 ix:js.map (fun j=>X.N[j]?)=fs.map some
def blkSt (vs:List Str) (js:List Nat) (σ:St):St:=vs.map (fun _=>none)++js.map (fun j=>(σ[j]?).join)
theorem lookup_relabel_free {env:Env}{names:List (Str×NameKind)}{x:Str}(h:names.lookup x=some .free) :
  (names.map fun(n,k)=>if (k == NameKind.free && env.scope.kind == .function && env.kindOf n == some .cell) then(n,NameKind.cell) else(n,k)).lookup x=some .cell ∨
  (names.map fun(n,k)=>if (k == NameKind.free && env.scope.kind == .function && env.kindOf n == some .cell) then(n,NameKind.cell) else(n,k)).lookup x=some .free:=by
 induction names with
 | nil=>cases h
 | cons y r ih =>
  obtain⟨n,k⟩:=y
  rw[List.map_cons]
  show List.lookup x ((if (k == NameKind.free && env.scope.kind == .function && env.kindOf n == some .cell)=true then(n,NameKind.cell) else(n,k))::_)=_∨List.lookup x ((if (k == NameKind.free && env.scope.kind == .function && env.kindOf n == some .cell)=true then(n,NameKind.cell) else(n,k))::_)=_
  rw[List.lookup_cons]at h
  cases e:x == n with
  | true =>
   rw[e]at h
   have h':k = .free:=by simpa using h
   subst h'
   split
   ·left;rw[List.lookup_cons,e]
   ·right;rw[List.lookup_cons,e]
  | false =>
   rw[e]at h
   have h':=ih h
   split
   ·rw[List.lookup_cons,e];exact h'
   ·rw[List.lookup_cons,e];exact h'
theorem relabel_back {env:Env}{names:List (Str×NameKind)}{x:Str}{kk:NameKind}
  (h:(names.map fun(n,k)=>if (k == NameKind.free && env.scope.kind == .function && env.kindOf n == some .cell) then(n,NameKind.cell) else(n,k)).lookup x=some kk) :
  (kk = .cell∧(x,NameKind.free)∈names) ∨(x,kk)∈names:=by
 induction names with
 | nil=>cases h
 | cons y r ih =>
  obtain⟨n,k⟩:=y
  rw[List.map_cons]at h
  have h2:List.lookup x ((if (k == NameKind.free && env.scope.kind == .function && env.kindOf n == some .cell)=true then(n,NameKind.cell) else(n,k))::(r.map fun(n,k)=>if (k == NameKind.free && env.scope.kind == .function && env.kindOf n == some .cell) then(n,NameKind.cell) else(n,k)))=some kk:=h
  cases e:x == n with
  | true =>
   have e':x=n:=by simpa using e
   subst e'
   split at h2
   ·rename_i hc
    rw[List.lookup_cons,e]at h2
    have h3:kk = .cell:=by simpa using h2.symm
    have hk:k = .free:=by
     have:=(Bool.and_eq_true _ _ ▸ hc).1
     have:=(Bool.and_eq_true _ _ ▸ this).1
     simpa using this
    subst hk
    exact .inl ⟨h3,List.mem_cons_self⟩
   ·rw[List.lookup_cons,e]at h2
    have h3:kk=k:=by simpa using h2.symm
    subst h3
    exact .inr List.mem_cons_self
  | false =>
   have h3:(r.map fun(n,k)=>if (k == NameKind.free && env.scope.kind == .function && env.kindOf n == some .cell) then(n,NameKind.cell) else(n,k)).lookup x=some kk:=by
    split at h2
    ·rw[List.lookup_cons,e]at h2;exact h2
    ·rw[List.lookup_cons,e]at h2;exact h2
   rcases ih h3 with⟨a,b⟩|b
   ·exact .inl ⟨a,List.mem_cons_of_mem _ b⟩
   ·exact .inr (List.mem_cons_of_mem _ b)
section
variable {prog:Program}{w:World}{A:Around}{R:Result→Shared→Prop}{s:Shared}
theorem codeAny_compLoop_gen {elt target iter:Expr}{ifs:List Expr}{scope:Scope}{pos:Pos}{it acc:Value}{env:Env}(I:Nat→Shared→Prop)
  (turn:∀n s,I n s→wpAny (model prog w) A (pyNext it) (fun r s₁=>match r with
   | none=>R (.ok .next) s₁
   | some v=>wpAny (model prog w) A (letOwnedTupleGo target it v) (fun _ s₁'=>wpAny (model prog w) A (assign target env v) (fun _ s₂ =>
     wpAny (model prog w) A (forIn ifs true fun c r=>if r=true then do let ok ← isTrue c env (eval c env);pure (ForInStep.yield ok) else pure (ForInStep.yield r)) (fun ok s₃ =>
      if ok=true then wpAny (model prog w) A (eval elt env) (fun x s₄ =>
       wpAny (model prog w) A (call (.builtin "list.append") [acc,x]) (fun _ s₅=>∃m,m<n∧I m s₅) (fun _ _=>False) s₄) (fun _ _=>False) s₃
      else ∃m,m<n∧I m s₃) (fun _ _=>False) s₂) (fun _ _=>False) s₁') (fun _ _=>False) s₁) (fun _ _=>False) s)
  (n:Nat) (h:I n s) :
  codeAny (model prog w) A (.compLoop (.ListComp elt [⟨target,iter,ifs,0⟩] scope pos) 0 it acc env) R s:=by
 refine codeAny_loop rfl I (fun n s hI=>?_) n h
 show wpAny _ A ((compTurn (.ListComp elt [⟨target,iter,ifs,0⟩] scope pos) 0 it acc env).onRaise (fun x=>do noteFrame x env;theTreesLotGoes x)) _ _ s
 refine wpAny_noted ?_
 rw[compTurn_list]
 refine wpAny_bind (wpAny_standAt (wpAny_bind (wpAny_mono (turn n s hI) (fun r s₁ h₁=>?_) fun _ _ h'=>h'.elim)))
 cases r with
 | none=>exact wpAny_pure h₁
 | some v =>
  refine wpAny_bind (wpAny_mono h₁ (fun _ s₁' h₁'=>?_) fun _ _ h'=>h'.elim)
  refine wpAny_bind (wpAny_mono h₁' (fun _ s₂ h₂=>wpAny_bind (wpAny_mono h₂ (fun ok s₃ h₃=>?_) fun _ _ h'=>h'.elim)) fun _ _ h'=>h'.elim)
  cases ok with
  | false=>exact wpAny_pure ⟨rfl,h₃⟩
  | true =>
   exact wpAny_bind (wpAny_bind (wpAny_mono h₃ (fun x s₄ h₄=>wpAny_bind (wpAny_mono h₄ (fun _ s₅ h₅=>wpAny_pure (wpAny_pure ⟨rfl,h₅⟩)) fun _ _ h'=>h'.elim)) fun _ _ h'=>h'.elim))
end
def PIfs (X:Cx) (ifs:List Expr) (t:TT):Prop :=
 ∀(pins:List (Addr×Obj)) (s:Shared) (σ:St) (H:Hp) (Q:Bool→Hp→Prop),Inv X pins σ H s→t σ H Q →
  wpAny (model X.prog X.w) X.A (forIn ifs true fun c r=>if r=true then do let ok ← isTrue c X.env (eval c X.env);pure (ForInStep.yield ok) else pure (ForInStep.yield r)) (TP X pins σ Q) X.xe s
def tYes:TT:=fun _ H Q=>Q true H
theorem pif0 {X:Cx}:PIfs X [] tYes:=fun _ _ _ H _ I h=>wpAny_tests_nil ⟨H,I,h⟩
def CompW (J:It) (vs:List Str) (js:List Nat) (σ:St) (g:TG) (tt:TT) (te:TE) (Q:VK) (D:Addr) (H1:Hp):Prop :=
 ∃W:Nat→Nat→St→List V→Hp→Prop,(∃m,W 0 m (blkSt vs js σ) [] (upd H1 D (.lst [])))∧∀i m σ' ys H',W i m σ' ys H' →
  (J.stop i H'∧Q (.ref D) H') ∨(J.go i H'∧∃N:St→List V→Hp→Prop,(∀σ2 zs H2,N σ2 zs H2→∃m',m'<m∧W (i+1) m' σ2 zs H2) ∧
   ∀x H2,J.yld i H' x H2→g x σ' H2 fun σ3 H3=>tt σ3 H3 fun b H4=>if b=true then te σ3 H4 fun y H5=>H5 D=some (.lst ys)∧ys.length<sizeLine∧N σ3 (ys ++ [y]) (upd H5 D (.lst (ys ++ [y]))) else N σ3 ys H4)
def tComp (vs:List Str) (js:List Nat) (wi:TI) (g:TG) (tt:TT) (te:TE):TE:=fun σ H Q=>wi σ H fun J H1=>∀D,H1 D=none→CompW J vs js σ g tt te Q D H1
section
variable {X:Cx}{pins:List (Addr×Obj)}{σ:St}{H:Hp}{s:Shared}{scope:Scope}{vs fs:List Str}{js:List Nat}
theorem blk_start {fp:List Addr}{C D:Addr}{h₁:Heap}{tk:Nat}{m:Str→Option Value}(I:Inv X pins σ H s) (B:BlkOk X scope vs fs js) (hf:∀b∈fp,FpOk X pins H b) (hfp:∀b∈fp,b<s.heap.objs.size)
  (hn:h₁.Ns C m) (hk:∀b o,s.heap.get? b=some o→h₁.get? b=some o) (hD:D=s.heap.objs.size) (hC:s.heap.objs.size<C)
  (hl:h₁.get? D=some { cls:=.type "list",data:=.seq ([]:List Value).toArray }) :
  Inv (cxBlk X scope (vs++fs) C s H fp) [] (blkSt vs js σ) (upd H D (.lst [])) { s with heap:=h₁,toks:=tk }:=by
 have hasX:∀y∈scope.names,y.2 = .free→∃c,X.env.cells.lookup y.1=some c:=fun y hy hf=>I.ok.has y.1 (B.free y hy hf)
 have snd:∀{y:Str}{c:Addr},(clOf X.env scope.names []).lookup y=some c→X.env.cells.lookup y=some c:=fun h=>clOf_sound hasX (fun p hp=>absurd hp (by simp)) h
 have clt:∀{y:Str}{c:Addr},X.env.cells.lookup y=some c→c<s.heap.objs.size:=fun {y c} h=>by
  obtain⟨v,o,ho,_⟩:=I.cell y c h
  exact Heap.lt_size ho
 have hfr:H D=none:=by rw[hD];exact I.hok.fresh (Nat.le_refl _)
 have hfC:H C=none:=I.hok.fresh (Nat.le_of_lt hC)
 have nCD:C≠D:=by rw[hD];exact Nat.ne_of_gt hC
 refine⟨⟨I.ok.mod,B.kind,I.ok.glob,I.ok.blt,Nat.le_of_lt hC,fun y z c h1 h2=>I.ok.inj y z c (snd h1) (snd h2),fun y hy=>?_,fun y c z _=>absurd (show false=true from z) Bool.false_ne_true,I.ok.hd,I.ok.frames,.inl rfl,fun b hb=>⟨?_,fun y c h=>(hf b hb).2.2.2.2.1 y c (snd h)⟩,I.bs,Nat.le_trans I.ok.bsz I.sz,fun b o e hb=>?_,fun b hb z=>?_,I.stack,I.stkFree⟩,
  rfl,I.bare,Un.laid hk (Nat.le_of_eq hD.symm) hfr,⟨m,hn,fun i y v h1 h2 h3=>?_⟩,fun y c h=>?_,?_,fun y c h=>?_,fun p hp=>absurd (show p∈([]:List (Addr×Obj)) from hp) (by simp),I.hok.laid hk (Nat.le_of_eq hD.symm) ⟨by simp,[],0,.nil,hl⟩,?_⟩
 ·-- has
  have key:(y,NameKind.free)∈scope.names:=by
   rcases hy with hy|hy
   ·rcases relabel_back hy with⟨_,z⟩|z
    ·exact z
    ·exact absurd rfl (B.cell _ z)
   ·rcases relabel_back hy with⟨z,_⟩|z
    ·cases z
    ·exact z
  exact lookup_mono_isSome (clOf_has key)
 ·exact Nat.ne_of_lt (Nat.lt_trans (hfp b hb) hC)
 ·rcases(hf b hb).2.2.2.1 with z|z
  ·exact I.ok.noex b o e z
  ·exact absurd (Nat.lt_of_lt_of_le (Heap.lt_size e) (Nat.le_trans I.ok.bsz z)) (Nat.lt_irrefl _)
 ·rcases List.mem_cons.mp (I.stkSub b z) with e|e
  ·exact(hf b hb).2.1 e
  ·exact(hf b hb).2.2.1 e
 ·-- loc
  have hlen:js.length=fs.length:=by have:=congrArg List.length B.ix;simpa using this
  have hi:¬ i<vs.length:=fun hi=>by
   unfold blkSt at h2
   rw[List.getElem?_append_left (by simpa using hi),List.getElem?_map]at h2
   cases e:vs[i]? with
   | none=>rw[e]at h2;cases h2
   | some a=>rw[e]at h2;cases h2
  have hi':vs.length≤i:=Nat.le_of_not_lt hi
  have h1':fs[i-vs.length]? = some y:=by
   have:=h1
   rw[show(cxBlk X scope (vs++fs) C s H fp).N=vs++fs from rfl,List.getElem?_append_right hi']at this
   exact this
  have h2':(js[i-vs.length]?).map (fun j=>(σ[j]?).join)=some (some v):=by
   unfold blkSt at h2
   rw[List.getElem?_append_right (by simpa using hi'),List.length_map,List.getElem?_map]at h2
   exact h2
  cases ej:js[i-vs.length]? with
  | none=>rw[ej]at h2';cases h2'
  | some j =>
   rw[ej]at h2'
   have hσ:σ[j]? = some (some v):=by
    have z:(σ[j]?).join=some v:=Option.some.inj h2'
    cases q:σ[j]? with
    | none=>rw[q]at z;cases z
    | some o=>rw[q]at z;have z':o=some v:=z;rw[z']
   have hNj:X.N[j]? = some y:=by
    have q:=congrArg (fun l=>l[i-vs.length]?) B.ix
    simp only[List.getElem?_map,ej,h1',Option.map_some]at q
    exact Option.some.inj q
   have hcap:=B.cap y (List.mem_of_getElem? h1')
   have hmem:(y,NameKind.free)∈scope.names:=PySem.mem_of_lookup hcap
   have hkX:=B.free _ hmem rfl
   have vis:Vis X.env.scope y:=by
    rcases hkX with z|z
    ·exact .inr (.inl z)
    ·exact .inr (.inr z)
   obtain⟨m0,hn0,hl0⟩:=I.loc
   obtain⟨u,r,l⟩:=hl0 j y v hNj hσ vis
   refine⟨u,r,.inr ⟨lookup_relabel_free hcap,?_⟩⟩
   rcases l with⟨z,_⟩|⟨_,c,hc,hcell⟩
   ·rcases hkX with q|q <;> (rw[q]at z;cases z)
   ·obtain⟨c',hc'⟩:=lookup_mono_isSome (clOf_has (env:=X.env) (cs:=[]) hmem)
    have e:=snd hc'
    rw[hc]at e
    cases e
    exact⟨c,hc',hcell.keeps hk⟩
 ·obtain⟨v,z⟩:=I.cell y c (snd h)
  exact⟨v,z.keeps hk⟩
 ·rw[show(cxBlk X scope (vs++fs) C s H fp).env.locals=C from rfl,upd_ne nCD]
  exact hfC
 ·have q:=snd h
  have ne:c≠D:=by rw[hD];exact Nat.ne_of_lt (clt q)
  rw[upd_ne ne]
  exact I.freeC y c q
 ·have hlen:js.length=fs.length:=by have:=congrArg List.length B.ix;simpa using this
  show(vs.map _++js.map _).length =(vs++fs).length
  rw[List.length_append,List.length_append,List.length_map,List.length_map,hlen]
theorem Inv.goneC {H':Hp}{s':Shared}{C:Addr}{h'':Heap}(I2:Inv X pins σ H s) {σ':St}(I':Inv X pins σ' H' s') (hC:H' C=none) (hle:s.heap.objs.size≤C) (hs:Heap.SameBut C s'.heap h''):Inv X pins σ' H' { s' with heap:=h'' }:=by
 refine I'.turned (t':=s'.toks) (fun b o hb e=>(hs.2 b hb).trans e) hC (Nat.ne_of_gt (Nat.lt_of_lt_of_le I2.lt hle)) (.inr (Nat.le_trans I2.sz hle)) (fun y c e z=>?_) fun p hp z=>?_
 ·obtain⟨v,o,ho,_⟩:=I2.cell y c e
  have:=Heap.lt_size ho
  rw[z]at this
  exact absurd (Nat.lt_of_lt_of_le this hle) (Nat.lt_irrefl _)
 ·have:=Heap.lt_size (I2.pin p hp).1
  rw[z]at this
  exact absurd (Nat.lt_of_lt_of_le this hle) (Nat.lt_irrefl _)
theorem blk_run {tg iter elt:Expr}{ifs:List Expr}{pos:Pos}{g:TG}{tt:TT}{te:TE}(hc:X.calm=true) (B:BlkOk X scope vs fs js)
  (hg:∀C s H ex,PG (cxBlk X scope (vs++fs) C s H ex) tg g) (ht:∀C s H ex,PIfs (cxBlk X scope (vs++fs) C s H ex) ifs tt) (he:∀C s H ex,PE (cxBlk X scope (vs++fs) C s H ex) elt te)
  {it:Addr}{fp:List Addr}{tn:Nat→Heap→Prop}{J:It}{Q:VK}{E:Value→Shared→Prop}(I2:Inv X pins σ H s) (T:Turn X.prog X.w X.K tg J fp it tn) (st2:tn 0 s.heap) (f2:∀b∈fp,FpOk X pins H b)
  (hW:∀D,H D=none→CompW J vs js σ g tt te Q D H)
  {RR:Value→Addr→Result→Shared→Prop}
  (hR:∀D C H' s',Inv X pins σ H' s'→(∃m,s'.heap.Ns C m)→H' C=none→s.heap.objs.size≤C→Q (.ref D) H'→RR (.ref D) C (.ok .next) s') :
  wpAny (model X.prog X.w) X.A (newList []) (fun acc s₃=>wpAny (model X.prog X.w) X.A (newFunctionEnv scope X.env.globals (clOf X.env scope.names []) [] X.env.qual none .none (some X.env)) (fun cenv s₄ =>
   codeAny (model X.prog X.w) X.A (.compStart (.ListComp elt [⟨tg,iter,ifs,0⟩] scope pos) 0 (.ref it) acc { cenv with scope:=relabel scope X.env }) (RR acc cenv.locals) s₄) E s₃) E s:=by
 have hfp:∀b∈fp,b<s.heap.objs.size:=fun b hb=>by
  obtain⟨o,e,_⟩:=T.obj _ _ st2 b hb
  exact Heap.lt_size e
 refine wpAny_newObj_type (wpAny_newFunctionEnv B.cell (by intro y hy;simp at hy) (fun h₁ hns₁ hsb₁=>?_) B.kind)
 dsimp only at hns₁ hsb₁ ⊢
 generalize hH2:s.heap.push { cls:=.type "list",dict:=none,data:=.seq ([]:List Value).toArray } = HH at hns₁ hsb₁ ⊢
 have hC:HH.objs.size=s.heap.objs.size+1:=by rw[← hH2,Heap.size_push]
 have hlt:s.heap.objs.size<HH.objs.size:=by rw[hC];exact Nat.lt_succ_self _
 have old:∀b o,s.heap.get? b=some o→h₁.get? b=some o:=fun b o e=>hsb₁.extBut b o (Nat.ne_of_lt (Nat.lt_trans (Heap.lt_size e) hlt)) (Heap.get?_push_of_some _ (hH2 ▸ Heap.get?_push_of_some _ e))
 have hacc:h₁.get? s.heap.objs.size=some { cls:=.type "list",data:=.seq ([]:List Value).toArray }:=hsb₁.extBut _ _ (Nat.ne_of_lt hlt) (Heap.get?_push_of_some _ (hH2 ▸ Heap.get?_push_size _ rfl))
 have I0:Inv (cxBlk X scope (vs++fs) HH.objs.size s H fp) [] (blkSt vs js σ) (upd H s.heap.objs.size (.lst [])) { s with heap:=h₁,toks:=s.toks+([]:List (Str×Value)).length }:=blk_start I2 B f2 hfp hns₁ old rfl hlt hacc
 obtain⟨W,⟨m0,w0⟩,turn⟩:=hW s.heap.objs.size (I2.hok.fresh (Nat.le_refl _))
 have st1:tn 0 h₁:=T.keep _ _ _ st2 fun b hb o e=>old b o e
 have hch:∀b∈fp,(b∈X.ex∨X.s₀.heap.objs.size≤b)∧b≠X.env.locals∧(∀x c,X.env.cells.lookup x=some c→c≠b)∧∀p∈X.pn++pins,p.1≠b:=fun b hb=>by
  obtain⟨_,a2,_,a4,a5,a6⟩:=f2 b hb
  exact⟨a4,a2,a5,a6⟩
 have back:∀{pl:List (Addr×Obj)}{σ':St}{H':Hp}{s':Shared},Inv (cxBlk X scope (vs++fs) HH.objs.size s H fp) pl σ' H' s'→Inv X pins σ H' s':=fun {pl σ' H' s'} J'=>I2.call' (ch:=fp) J'.os J'.base J'.hok J'.bare hch
 have nD:∀b∈fp,b≠s.heap.objs.size:=fun b hb=>Nat.ne_of_lt (hfp b hb)
 have stat:∀{H':Hp},(∀b∈fp,H' b=none)→∀b∈fp,FpOk (cxBlk X scope (vs++fs) HH.objs.size s H fp) [] H' b:=fun {H'} hn b hb=>by
  have z:=I0.ok
  refine⟨hn b hb,(z.exf b hb).1,z.exfs b hb,.inl hb,(z.exf b hb).2,fun p hp=>absurd (show p∈([]:List (Addr×Obj)) from hp) (by simp)⟩
 have loop:∀s₃:Shared,s₃ = { s with heap:=h₁,toks:=s.toks+([]:List (Str×Value)).length } →
   codeAny (model X.prog X.w) X.A (.compLoop (.ListComp elt [⟨tg,iter,ifs,0⟩] scope pos) 0 (.ref it) (.ref s.heap.objs.size) (compEnvC scope (clOf X.env scope.names []) HH.objs.size X.env)) (RR (.ref s.heap.objs.size) HH.objs.size) s₃:=by
  rintro s₃ rfl
  refine codeAny_compLoop_gen (fun n s'=>∃i σ' ys H',Inv (cxBlk X scope (vs++fs) HH.objs.size s H fp) [] σ' H' s'∧tn i s'.heap∧(∀b∈fp,H' b=none)∧W i n σ' ys H') ?_ m0
   ⟨0,_,_,_,I0,st1,fun b hb=>by rw[upd_ne (nD b hb)];exact(f2 b hb).1,w0⟩
  rintro n s3 ⟨i,σ3,ys,H3,I3,st3,fr3,w3⟩
  rcases turn i n σ3 ys H3 w3 with⟨stop,q⟩|⟨go,N,hN,step⟩
  ·refine thn (T.done (cxBlk X scope (vs++fs) HH.objs.size s H fp) rfl rfl rfl hc i [] s3 σ3 H3 _ I3 (stat fr3) st3 stop) fun r s4 ⟨hr,I4⟩=>?_
   subst hr
   obtain⟨m,hm,_⟩:=I4.loc
   exact hR _ _ H3 s4 (back I4) ⟨m,hm⟩ I4.free (Nat.le_of_lt hlt) q
  ·refine thn (T.item (cxBlk X scope (vs++fs) HH.objs.size s H fp) rfl rfl rfl hc i [] s3 σ3 H3 _ I3 (stat fr3) st3 go) fun r s4 ⟨u,hr,h4⟩=>?_
   subst hr
   refine thn h4 fun _ s5 ⟨x,H5,I5,r5,y5,st5,fr5⟩=>?_
   have I5':=I5.pinned (stat fr5) (T.obj _ _ st5)
   have again:∀{σ7:St}{H7:Hp}{s7:Shared}{zs:List V},Inv (cxBlk X scope (vs++fs) HH.objs.size s H fp) ([]++pinsAt fp s5.heap) σ7 H7 s7→N σ7 zs H7→∃m,m<n∧∃i σ' ys H',Inv (cxBlk X scope (vs++fs) HH.objs.size s H fp) [] σ' H' s7∧tn i s7.heap∧(∀b∈fp,H' b=none)∧W i m σ' ys H':=fun {σ7 H7 s7 zs} I7 n7=>by
    obtain⟨m',hm,w7⟩:=hN σ7 zs H7 n7
    refine⟨m',hm,i+1,σ7,zs,H7,I7.unpinned,T.keep _ _ _ st5 fun b hb o e=>(I7.pin (b,o) (List.mem_append_right _ (List.mem_append_right _ (mem_pinsAt hb e)))).1,fun b hb=>?_,w7⟩
    obtain⟨o,e,d⟩:=T.obj _ _ st5 b hb
    exact(I7.pin (b,o) (List.mem_append_right _ (List.mem_append_right _ (mem_pinsAt hb e)))).2.1
   refine thn (hg _ _ _ _ _ s5 σ3 H5 x u _ I5' r5 (step x H5 y5)) fun _ s6 ⟨σ6,H6,I6,q6⟩=>?_
   refine thn (ht _ _ _ _ _ s6 σ6 H6 _ I6 q6) fun ok s7 ⟨H7,I7,q7⟩=>?_
   cases ok with
   | false =>
    rw[if_neg Bool.false_ne_true]at q7 ⊢
    exact again I7 q7
   | true =>
    rw[if_pos rfl]at q7 ⊢
    refine thn (he _ _ _ _ _ s7 σ6 H7 _ I7 q7) fun y s8 ⟨yv,H8,I8,r8,hD8,hz,n8⟩=>?_
    refine thn (mt_append _ s8 σ6 H8 (.ref s.heap.objs.size) [yv] (.ref s.heap.objs.size) [y] (fun _ H9=>N σ6 (ys ++ [yv]) H9) I8 rfl (.cons r8 .nil) ⟨_,ys,yv,rfl,rfl,hD8,hz,n8⟩) fun _ s9 ⟨_,H9,I9,_,n9⟩=>?_
    exact again I9 n9
 exact codeAny_compStart_list (loop _ rfl) (T.self X.A 0 _ _ _ st1 (loop _ rfl))
theorem pe_comp {tg iter elt:Expr}{ifs:List Expr}{pos:Pos}{wi:TI}{g:TG}{tt:TT}{te:TE}(hc:X.calm=true) (B:BlkOk X scope vs fs js) (hi:PI X tg iter wi)
  (hg:∀C s H ex,PG (cxBlk X scope (vs++fs) C s H ex) tg g) (ht:∀C s H ex,PIfs (cxBlk X scope (vs++fs) C s H ex) ifs tt) (he:∀C s H ex,PE (cxBlk X scope (vs++fs) C s H ex) elt te)
  (hs:∀x,foldedSetIterable iter X.env x=pure x:=by intro _;rfl):PE X (.ListComp elt [⟨tg,iter,ifs,0⟩] scope pos) (tComp vs js wi g tt te):=by
 intro pins s σ H Q I h
 rw[eval_ListComp]
 refine wpAny_comprehension_free (use:=none) rfl hs (closure_eq fun y hy hf=>I.ok.has y.1 (B.free y hy hf)) B.kind B.names (thn (hi pins s σ H _ I h) fun v s1 h1=>thn h1 fun itv s2 h2=>?_)
 obtain⟨it,fp,tn,J,H2,e,I2,T,st2,f2,hW⟩:=h2
 subst e
 refine blk_run (RR:=fun acc C=>compPost (model X.prog X.w) X.A X.xe none (EP X pins σ Q) acc C) hc B hg ht he I2 T st2 f2 hW ?_
 intro D C H' s' I' hn hC hle q
 obtain⟨m,hn⟩:=hn
 exact⟨m,hn,fun h'' hs''=>⟨.ref D,H',I2.goneC I' hC hle hs'',rfl,q⟩⟩
theorem ps_setc {i:Nat}{y:Str}{py spos:Pos}{tg iter elt:Expr}{ifs:List Expr}{pos:Pos}{wi:TI}{g:TG}{tt:TT}{te:TE}(hN:X.N.Nodup) (hi':X.N[i]? = some y) (hy:X.env.scope.names.lookup y=some .local) (hc:X.calm=true) (B:BlkOk X scope vs fs js) (hi:PI X tg iter wi)
  (hg:∀C s H ex,PG (cxBlk X scope (vs++fs) C s H ex) tg g) (ht:∀C s H ex,PIfs (cxBlk X scope (vs++fs) C s H ex) ifs tt) (he:∀C s H ex,PE (cxBlk X scope (vs++fs) C s H ex) elt te)
  (hsw:swapsWith (.ListComp elt [⟨tg,iter,ifs,0⟩] scope pos) (some (.Name y py)) spos.line X.env=pure true:=by rfl)
  (hs:∀x,foldedSetIterable iter X.env x=pure x:=by intro _;rfl):PS X (.Assign [.Name y py] (.ListComp elt [⟨tg,iter,ifs,0⟩] scope pos) spos) (tAsg (tComp vs js wi g tt te) (gName i)):=by
 intro pins s σ H D I h
 rw[exec_Assign_Name_used _ _ _ _ hsw]
 refine wpAny_bind (wpAny_standAt (wpAny_bind ?_))
 show wpAny _ X.A (do let _ ← comprehension (.ListComp elt [⟨tg,iter,ifs,0⟩] scope pos) scope X.env _ (newList []) false (eval iter X.env) (some (assign (.Name y py) X.env))) _ _ s
 refine wpAny_bind (wpAny_mono (wpAny_comprehension_free (use:=some (assign (.Name y py) X.env)) (Q:=fun _ s'=>SP X pins D .next s') rfl hs (closure_eq fun y hy hf=>I.ok.has y.1 (B.free y hy hf)) B.kind B.names
  (thn (hi pins s σ H _ I h) fun v s1 h1=>thn h1 fun itv s2 h2=>?_)) (fun _ s' hq=>wpAny_pure (wpAny_pure hq)) fun _ _ e=>e)
 obtain⟨it,fp,tn,J,H2,e,I2,T,st2,f2,hW⟩:=h2
 subst e
 refine blk_run (Q:=fun x H1=>gName i x σ H1 D.nx) (RR:=fun acc C=>compPost (model X.prog X.w) X.A X.xe (some (assign (.Name y py) X.env)) (fun _ s'=>SP X pins D .next s') acc C) hc B hg ht he I2 T st2 f2 hW ?_
 intro D' C H' s' I' hn hC hle q
 obtain⟨m,hn⟩:=hn
 show wpAny _ X.A (assign (.Name y py) X.env (.ref D')) _ _ _
 refine wpAny_assign_Name (store_ok2 I' hN hi' (.inl hy) (v:=.ref D') rfl (fun s'' I'' hsb=>?_) (.inr hy))
 obtain⟨a,hsb,ha⟩:=hsb
 have nCa:C≠a:=by
  rcases ha with z|z
  ·rw[z];exact Nat.ne_of_gt (Nat.lt_of_lt_of_le I2.lt hle)
  ·obtain⟨v,o,ho,_⟩:=I2.cell y a z
   exact Nat.ne_of_gt (Nat.lt_of_lt_of_le (Heap.lt_size ho) hle)
 exact⟨m,hn.sameBut hsb nCa,fun h'' hs''=>⟨_,H',I2.goneC I'' hC hle hs'',q⟩⟩
end
section
variable {vs:List Str}{js:List Nat}{σ:St}{g:TG}{tt:TT}{te:TE}{Q:VK}
theorem comp_range {lo:Int}{n:Nat}{H:Hp}(Pv:Nat→St→List V→Hp→Prop) (D:Addr) (h0:Pv 0 (blkSt vs js σ) [] (upd H D (.lst [])))
  (hs:∀i σ' ys H',i<n→Pv i σ' ys H'→g (.int (lo+i)) σ' H' fun σ3 H3=>tt σ3 H3 fun b H4=>if b=true then te σ3 H4 fun y H5=>H5 D=some (.lst ys)∧ys.length<sizeLine∧Pv (i+1) σ3 (ys ++ [y]) (upd H5 D (.lst (ys ++ [y]))) else Pv (i+1) σ3 ys H4)
  (hd:∀σ' ys H',Pv n σ' ys H'→Q (.ref D) H') :
  CompW (Itr lo n) vs js σ g tt te Q D H:=by
 refine⟨fun i m σ' ys H'=>m=n-i∧i≤n∧Pv i σ' ys H',⟨n,by simp,Nat.zero_le _,h0⟩,?_⟩
 rintro i m σ' ys H' ⟨rfl,hi,p⟩
 by_cases hlt:i<n
 ·refine .inr ⟨hlt,Pv (i+1),fun σ2 zs H2 p'=>⟨n-(i+1),by omega,rfl,hlt,p'⟩,fun x H2 y=>?_⟩
  obtain⟨e,y⟩:=y
  subst e y
  exact hs i σ' ys _ hlt p
 ·have e:i=n:=by omega
  subst e
  exact .inl ⟨Nat.le_refl _,hd σ' ys H' p⟩
theorem comp_list {K:PySem.W.Frag}{a:Addr}{xs:List V}{H:Hp}(Pv:Nat→St→List V→Hp→Prop) (D:Addr) (h0:Pv 0 (blkSt vs js σ) [] (upd H D (.lst []))) (hl:∀i σ' ys H',i≤xs.length→Pv i σ' ys H'→SqL K H' a xs)
  (hs:∀i x σ' ys H',xs[i]? = some x→Pv i σ' ys H'→g x σ' H' fun σ3 H3=>tt σ3 H3 fun b H4=>if b=true then te σ3 H4 fun y H5=>H5 D=some (.lst ys)∧ys.length<sizeLine∧Pv (i+1) σ3 (ys ++ [y]) (upd H5 D (.lst (ys ++ [y]))) else Pv (i+1) σ3 ys H4)
  (hd:∀σ' ys H',Pv xs.length σ' ys H'→Q (.ref D) H') :
  CompW (Itl K a) vs js σ g tt te Q D H:=by
 refine⟨fun i m σ' ys H'=>m=xs.length-i∧i≤xs.length∧Pv i σ' ys H',⟨xs.length,by simp,Nat.zero_le _,h0⟩,?_⟩
 rintro i m σ' ys H' ⟨rfl,hi,p⟩
 have q:=hl i σ' ys H' hi p
 by_cases hlt:i<xs.length
 ·refine .inr ⟨⟨xs,xs[i],q,by simp[hlt]⟩,Pv (i+1),fun σ2 zs H2 p'=>⟨xs.length-(i+1),by omega,rfl,hlt,p'⟩,fun x H2 y=>?_⟩
  obtain⟨e,y⟩:=y
  subst e
  exact hs i x σ' ys _ (y xs q) p
 ·have e:i=xs.length:=by omega
  subst e
  exact .inl ⟨⟨xs,q,Nat.le_refl _⟩,hd σ' ys H' p⟩
end
end L2
namespace L2
open PySem PySem.Spec PyProof.Rows
theorem bt_len:bootBuiltins "len" = some (.builtin "len"):=by decide +kernel
theorem bt_abs:bootBuiltins "abs" = some (.builtin "abs"):=by decide +kernel
theorem bt_max:bootBuiltins "max" = some (.builtin "max"):=by decide +kernel
theorem bt_all:bootBuiltins "all" = some (.builtin "all"):=by decide +kernel
theorem bt_isinstance:bootBuiltins "isinstance" = some (.builtin "isinstance"):=by decide +kernel
theorem bt_int:bootBuiltins "int" = some (.type "int"):=by decide +kernel
theorem bt_str:bootBuiltins "str" = some (.type "str"):=by decide +kernel
theorem bt_list:bootBuiltins "list" = some (.type "list"):=by decide +kernel
structure Cal (P:Program) (w:World) (K:PySem.W.Frag) (mg:Str→Option Value) (base:Heap) (x:Str) (ps:List Str) (k:Nat) (sp:Sp):Prop where
 ex:∃(f:Addr) (fd:FuncData),FnOk P w K mg base CX0 k f fd ps sp∧Binds K fd ps []∧mg x=some (.ref f)∧PySem.W.keepIn K (.ref f)=true
section
variable {X:Cx}{x:Str}{ps:List Str}{k:Nat}{sp:Sp}{e:Expr}{es:List Expr}{t:TA}{p pos:Pos}
theorem pcl (C:Cal X.prog X.w X.K X.mg X.base x ps k sp) (hr:Room k X.A) (ha:PA X (e::es) t) (hg:Gl X x:=by rfl) (hdb:(x ==("__debug__" : Str))=false:=by decide) (he:starEach (e::es) X.env =(false,eval e X.env)::starEach es X.env:=by rfl) (hpl:(backTo pos (starEach es X.env)).any (·.1)=false:=by rfl) :
  PE X (.Call (.Name x p) (e::es) [] pos) (tCall sp [] E0 t):=by
 obtain⟨f,fd,F,hb,hm,hk⟩:=C.ex
 exact pe_call F hr hg hm hk hb .nil pass0 ha hdb he hpl
end
theorem Cal.of {P:Program}{w:World}{K:PySem.W.Frag}{mg:Str→Option Value}{base:Heap}{x:Str}{st:Stmt}{f:Addr}{fd:FuncData}{N ps:List Str}{k:Nat}{sp:Sp}(F:Fun K x x st f fd) (mF:mg x=some (.ref f)) (bF:Binds K fd ps []) (S:FnScope N ps (defScope st)) (len:∀vs H Q E,sp vs H Q E→vs.length=ps.length)
  (hbody:∀(cdv:Value) (A:Around) (outer:List Env) (s:Shared) (H:Hp) (vs:List V) (Q:VK) (E:XK),Room k (A.deeper (envOfC x (defScope st) s.heap.objs.size f cdv))→sp vs H Q E →
   ∃t,PSs (cxOf CX0 P w K mg base N x (defScope st) f cdv A outer s H E).nox (defBody st) t∧t { nx:=fun _ H'=>Q .non H',rt:=Q } (start N vs) H):Cal P w K mg base x ps (k+1) sp :=
 ⟨f,fd,F.ok S len hbody,bF,mF,F.kp⟩
def blkB (sc scope:Scope) (N vs fs:List Str) (js:List Nat):Bool :=
 (scope.kind == .function) && scope.names.all (fun y=>y.2 != .cell) && scope.names.all (fun y=>y.2 != .local || scope.names.lookup y.1 == some .local) &&
 scope.names.all (fun y=>y.2 != .free || sc.names.lookup y.1 == some .cell || sc.names.lookup y.1 == some .free) && vs.all (fun y=>scope.names.lookup y == some .local) && fs.all (fun y=>scope.names.lookup y == some .free) &&
 (js.map (fun j=>N[j]?) == fs.map some)
theorem blkOk {X:Cx}{sc scope:Scope}{N vs fs:List Str}{js:List Nat}(h:blkB sc scope N vs fs js=true) (hs:X.env.scope=sc) (hN:X.N=N):BlkOk X scope vs fs js:=by
 unfold blkB at h
 simp only[Bool.and_eq_true,List.all_eq_true,beq_iff_eq,bne_iff_ne,Bool.or_eq_true]at h
 obtain⟨⟨⟨⟨⟨⟨h1,h2⟩,h3⟩,h4⟩,h5⟩,h6⟩,h7⟩:=h
 refine⟨h1,h2,fun y hy hl=>?_,fun y hy hf=>?_,h5,h6,?_⟩
 ·rcases h3 y hy with z|z
  ·exact absurd hl z
  ·exact z
 ·unfold Env.kindOf
  rw[hs]
  rcases h4 y hy with(z|z)|z
  ·exact absurd hf z
  ·exact .inl z
  ·exact .inr z
 ·rw[hN];exact h7
def tCut (t:TS):TS:=fun D σ H=>∃R:St→Hp→Prop,t { D with nx:=R } σ H∧∀σ' H',R σ' H'→D.nx σ' H'
theorem ps_cut {X:Cx}{st:Stmt}{t:TS}(h:PS X st t):PS X st (tCut t):=by
 intro pins s σ H D I hw
 obtain⟨R,h1,h2⟩:=hw
 refine thn (h pins s σ H _ I h1) fun f s' q=>?_
 cases f with
 | next =>
  obtain⟨σ',H',I',q⟩:=q
  exact⟨σ',H',I',h2 _ _ q⟩
 | brk=>exact q
 | cont=>exact q
 | ret u=>exact q
section
variable {X:Cx}
def CDivB (i j:Int):Prop:=0<j∧j<2^100
theorem op_fdivB:OpR X (binaryOp .FloorDiv) (rI CDivB fun i j=>.int (i / j)):=opI fun i j _ _ _ _ _ hc q=>by
 have h1:(0:Int)<j:=hc.1
 have h2:j<2^100:=hc.2
 refine floordiv_int (by omega) (by rw[Int.fdiv_eq_ediv_of_nonneg i (by omega)];exact q) (.inl (PyProof.noPylong_of_log2 ?_))
 have h0:j.natAbs≠0:=by omega
 have h3:j.natAbs.log2<100:=(Nat.log2_lt h0).mpr (by omega)
 omega
theorem pe_powC {a b c:Int}{j1 j2:Nat}{p1 p2 pos:Pos}(h:a^b.toNat=c) (h1:CPow a b):PE X (.BinOp (.Constant (.int a) j1 p1) .Pow (.Constant (.int b) j2 p2) pos) (tC (.int c)):=by
 intro pins s σ H Q I q
 subst h
 exact pe_op op_pow pe_int pe_int pins s σ H Q I ⟨a,b,rfl,rfl,h1,q⟩
theorem get_list:PGet X (rIxL X.K):=by
 intro pins s σ H x y v u Q I rx ry h
 obtain⟨p,xs,i,z,rfl,rfl,hq,he,q⟩:=h
 cases rx
 obtain⟨t,rfl⟩:=ry
 obtain⟨its,r,pl,hz⟩:=I.list hq
 obtain⟨j,h1,h2,h3,h4,h5⟩:=atI_get he
 obtain⟨w,ew,rw'⟩:=r.get h2
 have hl:=r.length
 have hn:=line63
 have fin:EP X pins σ Q w s:=⟨z,H,I,rw',q⟩
 by_cases h0:0≤i
 ·have hj:i.toNat=j:=by
   rw[seqIndex_of h0 h5]at h1
   exact Option.some.inj h1
  exact wpAny_getItem_list pl.isList h0 (by omega) (by rw[hj];simpa using ew) fin
 ·have hj:(i+(its.toArray.size:Int)).toNat=j:=by
   rw[seqIndex_neg (by omega) h4]at h1
   rw[List.size_toArray,← hl]
   exact Option.some.inj h1
  exact wpAny_getItem_list_neg pl.isList (by omega) (by rw[List.size_toArray] <;> omega) (by omega) (by rw[hj];simpa using ew) fin
def rLenL (K:PySem.W.Frag):List V→Hp→VK→Prop:=fun xs H Q=>∃p ys,xs=[.ref p]∧(SqL K H p ys∨SqT K H p ys)∧Q (.int ys.length) H
theorem call_lenL:CallR X (.builtin "len") (rLenL X.K):=call_len_seq
def rAbs1:List V→Hp→VK→Prop:=fun xs H Q=>∃i,xs=[.int i]∧Q (.int (if i<0 then -i else i)) H
theorem call_abs1:CallR X (.builtin "abs") rAbs1:=call_abs
def rMaxI:List V→Hp→VK→Prop:=fun xs H Q=>∃i j,xs=[.int i,.int j]∧Q (.int (if j > i then j else i)) H
theorem call_maxI (hc:X.calm=true):CallR X (.builtin "max") rMaxI:=call_max2 hc
def rIsi (K:PySem.W.Frag):List V→Hp→VK→Prop:=fun xs H Q=>∃x t T b,xs=[x,.ty T]∧TyOf K H x t∧PySem.W.kitOne K t (.type T)=some b∧Q (.bl b) H
theorem call_isinst:CallR X (.builtin "isinstance") (rIsi X.K):=by
 intro pins s σ H xs us Q I r h
 obtain⟨x,t,T,b,rfl,ty,e,q⟩:=h
 obtain⟨u,w',rfl,r1,r2⟩:=vals2 r
 cases (show w'=Value.type T from r2)
 exact isinst_ok I r1 ty e fun tk=>⟨.bl b,H,I.tok _,rfl,q⟩
end
section
variable {σ:St}{H:Hp}{Q:VK}{D:Ends}
theorem rd_var {i:Nat}{v:V}(h:σ[i]? = some (some v)) (q:Q v H):tVar i σ H Q:=⟨v,h,q⟩
theorem rd_c {v:V}(q:Q v H):tC v σ H Q:=q
theorem rd_op {r:R2}{ta tb:TE}(h:ta σ H fun x H1=>tb σ H1 fun y H2=>r x y H2 Q):tOp r ta tb σ H Q:=h
theorem rd_un {r:V→Hp→VK→Prop}{ta:TE}(h:ta σ H fun x H1=>r x H1 Q):tUn r ta σ H Q:=h
theorem rd_I0 {g:Int→Int→V}{i j:Int}(q:Q (g i j) H):rI0 g (.int i) (.int j) H Q:=⟨i,j,rfl,rfl,q⟩
theorem rd_I {C:Int→Int→Prop}{g:Int→Int→V}{i j:Int}(c:C i j) (q:Q (g i j) H):rI C g (.int i) (.int j) H Q:=⟨i,j,rfl,rfl,c,q⟩
theorem rd_U {g:Int→V}{i:Int}(q:Q (g i) H):rU g (.int i) H Q:=⟨i,rfl,q⟩
theorem dec_int' {i j:Int}:decide (V.int i=V.int j)=decide (i=j):=by
 rw[Bool.eq_iff_iff];simp
theorem rd_eqI {i j:Int}(q:Q (.bl (decide (i=j))) H):rEq (.int i) (.int j) H Q:=⟨rfl,by rw[dec_int'];exact q⟩
theorem rd_bl {c:Bool}{P:Bool→Prop}(h:P c):∃k,V.bl c=V.bl k∧P k:=⟨c,rfl,h⟩
theorem rd_test {t:TE}{R:Bool→Hp→Prop}(h:t σ H fun x H'=>∃k,x = .bl k∧R k H'):tTest t σ H R:=h
theorem rd_tB {t:TE}{R:Bool→Hp→Prop}(h:t σ H fun x H'=>∃k,x = .bl k∧R k H'):tB t σ H R:=h
theorem rd_and {t u:TT}{R:Bool→Hp→Prop}(h:t σ H fun c H1=>if c=true then u σ H1 R else R false H1):tAnd t u σ H R:=h
theorem rd_or {t u:TT}{R:Bool→Hp→Prop}(h:t σ H fun c H1=>if c=true then R true H1 else u σ H1 R):tOr t u σ H R:=h
theorem rd_not {t:TT}{R:Bool→Hp→Prop}(h:t σ H fun c H1=>R (!c) H1):tNot t σ H R:=h
theorem rd_andV {ta tb:TE}(h:ta σ H fun x H1=>∃c,x = .bl c∧if c=true then tb σ H1 Q else Q (.bl false) H1):tAndV ta tb σ H Q:=h
theorem rd_orV {ta tb:TE}(h:ta σ H fun x H1=>∃c,x = .bl c∧if c=true then Q (.bl true) H1 else tb σ H1 Q):tOrV ta tb σ H Q:=h
theorem rd_chain {r r':R2}{ta tb tc:TE}(h:ta σ H fun x H1=>tb σ H1 fun y H2=>r x y H2 fun z H3=>∃k,z = .bl k∧(if k=true then tc σ H3 fun w' H4=>r' y w' H4 Q else Q (.bl false) H3)):tChain r r' ta tb tc σ H Q:=h
theorem rd_nil {R:List V→Hp→Prop}(h:R [] H):tNil σ H R:=h
theorem rd_cons {ta:TE}{tr:TA}{R:List V→Hp→Prop}(h:ta σ H fun x H1=>tr σ H1 fun xs H2=>R (x::xs) H2):tCons ta tr σ H R:=h
theorem rd_call {sp:Sp}{dvs:List V}{E:XK}{t:TA}(h:t σ H fun vs H1=>sp (vs++dvs) H1 Q E):tCall sp dvs E t σ H Q:=h
theorem rd_cb {r:List V→Hp→VK→Prop}{t:TA}(h:t σ H fun vs H1=>r vs H1 Q):tCB r t σ H Q:=h
theorem rd_lst {t:TA}(h:t σ H fun xs H1=>xs.length≤sizeLine∧∀p,H1 p=none→Q (.ref p) (upd H1 p (.lst xs))):tLst t σ H Q:=h
theorem rd_tup {t:TA}(h:t σ H fun xs H1=>xs.length≤sizeLine∧∀p,H1 p=none→Q (.ref p) (upd H1 p (.tup xs))):tTup t σ H Q:=h
theorem rd_asg {te:TE}{g:TG}(h:te σ H fun x H1=>g x σ H1 D.nx):tAsg te g D σ H:=h
theorem rd_gname {i:Nat}{v:V}{R:St→Hp→Prop}(h:R (σ.set i (some v)) H):gName i v σ H R:=h
theorem rd_ret {te:TE}(h:te σ H D.rt):tRet te D σ H:=h
theorem rd_next (h:D.nx σ H):tNext D σ H:=h
theorem rd_drop {te:TE}(h:te σ H fun _ H1=>D.nx σ H1):tDrop te D σ H:=h
theorem rd_ixL {K:PySem.W.Frag}{p:Addr}{xs:List V}{i:Int}{v:V}(h:SqL K H p xs) (e:atI xs i=some v) (q:Q v H):rIxL K (.ref p) (.int i) H Q:=⟨p,xs,i,v,rfl,rfl,h,e,q⟩
theorem rd_bm {K:PySem.W.Frag}{T:String}{r:V→List V→Hp→VK→Prop}{to:TE}{t:TA}(h:to σ H fun x H1=>tyV K T x H1∧t σ H1 fun xs H2=>r x xs H2 Q):tBM K T r to t σ H Q:=h
theorem rd_augS {to ti te:TE}{tget:V→V→Hp→VK→Prop}{tip:TIp}{tset:TSet}(h:to σ H fun o H1=>ti σ H1 fun i H2=>tget o i H2 fun x H3=>te σ H3 fun y H4=>tip x y H4 fun z H5=>tset o i z H5 fun H6=>D.nx σ H6):tAugS to ti te tget tip tset D σ H:=h
theorem rd_ip {f:Int→Int→Int}{i j:Int}(q:Q (.int (f i j)) H):ipI f (.int i) (.int j) H Q:=⟨i,j,rfl,rfl,q⟩
theorem rd_set0 {p:Addr}{a:V}{r:List V}{v:V}{R:Hp→Prop}(h:H p=some (.lst (a::r))) (q:R (upd H p (.lst (v::r)))):rSetL (.ref p) (.int 0) v H R :=
 ⟨p,_,0,0,rfl,rfl,h,by unfold ixN;rw[if_pos (by decide),if_pos (by rw[List.length_cons];omega)];rfl,q⟩
theorem rd_set1 {p:Addr}{a b:V}{r:List V}{v:V}{R:Hp→Prop}(h:H p=some (.lst (a::b::r))) (q:R (upd H p (.lst (a::v::r)))):rSetL (.ref p) (.int 1) v H R :=
 ⟨p,_,1,1,rfl,rfl,h,by unfold ixN;rw[if_pos (by decide),if_pos (by rw[List.length_cons,List.length_cons];omega)];rfl,q⟩
theorem rd_gsub {to ti:TE}{t:TSet}{v:V}{R:St→Hp→Prop}(h:to σ H fun o H1=>ti σ H1 fun i H2=>t o i v H2 fun H3=>R σ H3):gSub to ti t v σ H R:=h
theorem rd_sl {r:V→Option Int→Option Int→Hp→VK→Prop}{te:TE}{tl th:TO}(h:te σ H fun x H1=>tl σ H1 fun l H2=>th σ H2 fun u H3=>r x l u H3 Q):tSl r te tl th σ H Q:=h
theorem rd_nop {R:Option Int→Hp→Prop}(h:R none H):tNoPart σ H R:=h
theorem rd_part {t:TE}{R:Option Int→Hp→Prop}(h:t σ H fun x H1=>∃i,x = .int i∧R (some i) H1):tPart t σ H R:=h
theorem rd_int {i:Int}{P:Int→Prop}(h:P i):∃k,V.int i=V.int k∧P k:=⟨i,rfl,h⟩
theorem rd_slL {K:PySem.W.Frag}{a:Addr}{xs:List V}{lo hi:Option Int}(h:SqL K H a xs) (q:∀p,H p=none→Q (.ref p) (upd H p (.lst (cutV xs lo hi)))):rSlL K (.ref a) lo hi H Q:=⟨a,xs,rfl,h,q⟩
theorem rd_lenL {K:PySem.W.Frag}{a:Addr}{ys:List V}(h:SqL K H a ys) (q:Q (.int ys.length) H):rLenL K [.ref a] H Q:=⟨a,ys,rfl,.inl h,q⟩
theorem rd_abs {i:Int}(q:Q (.int (if i<0 then -i else i)) H):rAbs1 [.int i] H Q:=⟨i,rfl,q⟩
theorem rd_max {i j:Int}(q:Q (.int (max i j)) H):rMaxI [.int i,.int j] H Q:=⟨i,j,rfl,by
 have e:(if j > i then j else i)=max i j:=by omega
 rw[e];exact q⟩
theorem rd_isi {K:PySem.W.Frag}{x:V}{t:Value}{T:String}{b:Bool}(h:TyOf K H x t) (e:PySem.W.kitOne K t (.type T)=some b) (q:Q (.bl b) H):rIsi K [x,.ty T] H Q:=⟨x,t,T,b,rfl,h,e,q⟩
theorem rd_if {c:Prop} [Decidable c] {A B:Prop}(h1:c→A) (h2:¬ c→B):if decide c=true then A else B:=by
 by_cases h:c
 ·rw[decide_eq_true h,if_pos rfl];exact h1 h
 ·rw[decide_eq_false h,if_neg Bool.false_ne_true];exact h2 h
theorem rd_rng1 {ta:TA}{R:It→Hp→Prop}(h:ta σ H fun vs H1=>∃j:Int,vs=[.int j]∧-(2^62)≤j∧j<2^62∧R (Itr 0 j.toNat) H1):iRng1 ta σ H R:=h
theorem rd_ilist {K:PySem.W.Frag}{tl:TE}{R:It→Hp→Prop}(h:tl σ H fun x H1=>∃a,x = .ref a∧(∃xs,SqL K H1 a xs)∧R (Itl K a) H1):iList K tl σ H R:=h
theorem rd_comp {vs:List Str}{js:List Nat}{wi:TI}{g:TG}{tt:TT}{te:TE}(h:wi σ H fun J H1=>∀D,H1 D=none→CompW J vs js σ g tt te Q D H1):tComp vs js wi g tt te σ H Q:=h
theorem rd_yes {R:Bool→Hp→Prop}(h:R true H):tYes σ H R:=h
theorem rd_iteT {A B:Prop}(h:A):if true=true then A else B:=iteT h
theorem rd_iteF {A B:Prop}(h:B):if false=true then A else B:=iteF h
theorem rd_iteNF {A B:Prop}(h:A):if (!false)=true then A else B:=iteT h
theorem rd_iteNT {A B:Prop}(h:B):if (!true)=true then A else B:=iteF h
theorem cut_lo {ms:List Int}{k:Nat}:cutV (ms.map V.int) (some (k:Int)) none =(ms.drop k).map V.int:=by
 unfold cutV
 rw[HT.sIx_nat,HT.sIx_none,List.length_map,← List.map_drop]
 by_cases h:k≤ms.length
 ·rw[Nat.min_eq_left h,List.take_of_length_le (by rw[List.length_map,List.length_drop];omega)]
 ·rw[List.drop_eq_nil_of_le (by omega:ms.length≤min k ms.length),List.drop_eq_nil_of_le (by omega:ms.length≤k)]
  simp
theorem cut_hi {ms:List Int}{k:Nat}:cutV (ms.map V.int) none (some (k:Int)) =(ms.take k).map V.int:=by
 unfold cutV
 rw[HT.sIx_nat,HT.sIx_none,List.length_map,List.drop_zero,Nat.sub_zero,← List.map_take]
 by_cases h:k≤ms.length
 ·rw[Nat.min_eq_left h]
 ·rw[Nat.min_eq_right (by omega),List.take_of_length_le (Nat.le_refl _),List.take_of_length_le (by omega)]
theorem same_new {H:Hp}{p:Addr}(h:H p=none) (o:HO):Same H (upd H p o):=fun b u q=>by rw[upd_ne (ne_of_none q h)];exact q
end
end L2
namespace L2
open PySem PySem.Spec PyProof.Rows
mutual
inductive DV (K:PySem.W.Frag) (H:Hp):V→PyData→Prop
 | non:DV K H .non .none
 | bl (b:Bool):DV K H (.bl b) (.bool b)
 | int (i:Int):DV K H (.int i) (.int i)
 | str (x:Str):DV K H (.str x) (.str x)
 | lst {a:Addr}{xs:List V}{ds:List PyData}:SqL K H a xs→DVs K H xs ds→DV K H (.ref a) (.list ds)
 | tup {a:Addr}{xs:List V}{ds:List PyData}:SqT K H a xs→DVs K H xs ds→DV K H (.ref a) (.tuple ds)
inductive DVs (K:PySem.W.Frag) (H:Hp):List V→List PyData→Prop
 | nil:DVs K H [] []
 | cons {x:V}{d:PyData}{xs:List V}{ds:List PyData}:DV K H x d→DVs K H xs ds→DVs K H (x::xs) (d::ds)
end
section
variable {X:Cx}{pins:List (Addr×Obj)}{σ:St}{H:Hp}{s:Shared}
mutual
theorem DV.reads (I:Inv X pins σ H s):∀{x:V}{d:PyData}{v:Value},DV X.K H x d→RelV x v→∃as,Reads s.heap v d as
 | _,_,_,.non,r=>by cases r;exact⟨_,.none⟩
 | _,_,_,.bl b,r=>by cases r;exact⟨_,.bool b⟩
 | _,_,_,.int i,r=>by obtain⟨t,rfl⟩:=r;exact⟨_,.int i t⟩
 | _,_,_,.str x,r=>by obtain⟨t,rfl⟩:=r;exact⟨_,.str x t⟩
 | _,_,_,.lst (a:=a) h ds,r=>by
  cases r
  obtain⟨its,rv,⟨o,n,e,c,_,d⟩,_⟩:=I.list h
  obtain⟨as,q⟩:=DVs.reads I ds rv
  exact⟨_,.list e c d (by simpa using q)⟩
 | _,_,_,.tup (a:=a) h ds,r=>by
  cases r
  obtain⟨its,rv,⟨o,e,c,n,d⟩,_⟩:=I.tuple h
  obtain⟨as,q⟩:=DVs.reads I ds rv
  exact⟨_,.tuple e c d (by simpa using q)⟩
theorem DVs.reads (I:Inv X pins σ H s):∀{xs:List V}{ds:List PyData}{vs:List Value},DVs X.K H xs ds→Vals xs vs→∃as,ReadsAll s.heap vs ds as
 | _,_,_,.nil,r=>by cases r;exact⟨_,.nil⟩
 | _,_,_,.cons h t,r=>by
  cases r with
  | cons r1 r2 =>
   obtain⟨as,q⟩:=DV.reads I h r1
   obtain⟨bs,p⟩:=DVs.reads I t r2
   exact⟨_,.cons q p⟩
end
end
theorem DVs.ints {K:PySem.W.Frag}{H:Hp}:∀ns:List Int,DVs K H (ns.map V.int) (ns.map PyData.int)
 | []=>.nil
 | n::r=>.cons (.int n) (DVs.ints r)
theorem lay_ints:∀ns:List Int,PyData.canLayAll0 (ns.map PyData.int)=true∧PyData.depthAll (ns.map PyData.int)=0
 | []=>⟨rfl,rfl⟩
 | n::r=>by
  obtain⟨h1,h2⟩:=lay_ints r
  simp[PyData.canLayAll0,PyData.canLay0,PyData.depthAll,PyData.depth,h1,h2]
theorem shaped_ints (ns:List Int):SeqAt.shaped (.list (ns.map PyData.int))=true:=by
 obtain⟨h1,h2⟩:=lay_ints ns
 simp[SeqAt.shaped,PyData.canLay0,PyData.depth,h1,h2]
theorem eqv_ints:∀ns ms:List Int,PyData.eqvAll (ns.map PyData.int) (ms.map PyData.int)=decide (ns=ms)
 | [],[]=>rfl
 | [],_::_=>rfl
 | _::_,[]=>rfl
 | n::ns,m::ms=>by
  rw[List.map_cons,List.map_cons,PyData.eqvAll,PyData.eqv,eqv_ints ns ms,Bool.eq_iff_iff]
  simp
section
variable {X:Cx}
def rEqD (K:PySem.W.Frag):R2:=fun x y H Q=>∃d e,DV K H x d∧DV K H y e∧SeqAt.shaped d=true∧SeqAt.shaped e=true∧Q (.bl (PyData.eqv d e)) H
def rNeD (K:PySem.W.Frag):R2:=fun x y H Q=>∃d e,DV K H x d∧DV K H y e∧SeqAt.shaped d=true∧SeqAt.shaped e=true∧Q (.bl (!PyData.eqv d e)) H
theorem op_eqD (hu:X.A.units+64<cLine):OpR X (compareOp .Eq) (rEqD X.K):=by
 intro pins s σ H x y v u Q I rx ry h
 obtain⟨d,e,h1,h2,h3,h4,q⟩:=h
 obtain⟨as,r1⟩:=h1.reads I rx
 obtain⟨bs,r2⟩:=h2.reads I ry
 exact eq_dataH r1 r2 h3 h4 hu ⟨.bl _,H,I,rfl,q⟩
theorem op_neD (hu:X.A.units+64<cLine):OpR X (compareOp .NotEq) (rNeD X.K):=by
 intro pins s σ H x y v u Q I rx ry h
 obtain⟨d,e,h1,h2,h3,h4,q⟩:=h
 obtain⟨as,r1⟩:=h1.reads I rx
 obtain⟨bs,r2⟩:=h2.reads I ry
 exact ne_dataH r1 r2 h3 h4 hu ⟨.bl _,H,I,rfl,q⟩
end
end L2
namespace L2
open PySem PySem.Spec PyProof.Rows
section
variable {X:Cx}
theorem pe_gint {x:Str}{i:Int}{pos:Pos}(hg:Gl X x) (hm:∃t,X.mg x=some (.int i t)) (hd:(x ==("__debug__" : Str))=false:=by decide):PE X (.Name x pos) (tC (.int i)):=by
 obtain⟨t,hm⟩:=hm
 exact pe_glob hg hm ⟨_,rfl⟩ hd
theorem bools_get:∀{bs:List Bool}{its:List Value}{i:Nat}{v:Value},Vals (bs.map V.bl) its→its[i]? = some v→∃b,bs[i]? = some b∧v = .bool b
 | [],_,i,v,.nil,e=>by simp at e
 | b::bs,_,0,v,.cons r t,e=>by
  simp at e;subst e
  exact⟨b,rfl,r⟩
 | b::bs,_,i+1,v,.cons r t,e=>by
  obtain⟨c,h1,h2⟩:=bools_get (i:=i) (v:=v) t (by simpa using e)
  exact⟨c,by simpa using h1,h2⟩
theorem all_range (bs:List Bool):(List.range bs.length).all (fun i=>bs.getD i true)=bs.all id:=by
 rw[Bool.eq_iff_iff,List.all_eq_true,List.all_eq_true]
 constructor
 ·intro h b hb
  obtain⟨i,hi,rfl⟩:=List.mem_iff_getElem.mp hb
  have:=h i (List.mem_range.mpr hi)
  simpa [List.getD,hi] using this
 ·intro h i hi
  have hi':=List.mem_range.mp hi
  have:=h bs[i] (List.getElem_mem hi')
  simpa [List.getD,hi'] using this
theorem it_list {s:Shared}{l:Addr}{items:Array Value}{A:Around}{E:Value→Shared→Prop}{Q:Value→Shared→Prop}{prog:Program}{w:World}(hl:s.heap.IsList l items)
  (h:∀s₂:Shared,s₂ = { s with heap:=s.heap.push { cls:=.type "list_iterator",data:=.fields #[.ref l,.int 0 0] } }→(s₂.heap.IsListIter s.heap.objs.size l 0∧s₂.heap.IsList l items)→l≠s.heap.objs.size→Q (.ref s.heap.objs.size) s₂) :
  wpAny (model prog w) A (pyIter (.ref l)) Q E s:=by
 have hlt:l<s.heap.objs.size:=by obtain⟨_,e,_⟩:=hl;exact Heap.lt_size e
 exact wpAny_pyIter_list hl (h _ rfl ⟨⟨_,Heap.get?_push_size _ rfl,rfl,rfl⟩,hl.push _⟩ (Nat.ne_of_lt hlt))
def rAllL (K:PySem.W.Frag):List V→Hp→VK→Prop:=fun xs H Q=>∃a bs,xs=[.ref a]∧SqL K H a (List.map V.bl bs)∧Q (.bl (bs.all id)) H
theorem call_allL (hc:X.calm=true):CallR X (.builtin "all") (rAllL X.K):=by
 intro pins s σ H xs us Q I r h
 obtain⟨a,bs,rfl,hq,q⟩:=h
 obtain⟨u,rfl,r1⟩:=vals1 r
 cases (show u=Value.ref a from r1)
 obtain⟨its,rv,pl,hz⟩:=I.list hq
 have hlen:bs.length=its.length:=by simpa using rv.length
 refine call_all_walk (it_list pl.isList fun s₂ e st hne=>?_)
 subst e
 refine⟨_,_,_,_,_,_,fun i=>bs.getD i true,rfl,Walks.list (A:=X.A.in1) (I.ok.hd hc) _ a hne its.toArray,st,fun i v s' Q' E' hP hQ=>?_,fun h' tk hk=>?_⟩
 ·obtain⟨b,h1,rfl⟩:=bools_get rv (by simpa using hP)
  have e:bs.getD i true=b:=by simp[List.getD,h1]
  exact wpAny_truthy_bool (by have hQ2:=hQ;dsimp only at hQ2;rw[e]at hQ2;exact hQ2)
 ·refine⟨.bl (bs.all id),H,I.kept (fun b o e=>hk b o (fun z=>?_) (Heap.get?_push_of_some _ e)),?_,q⟩
  ·have z':b=s.heap.objs.size:=by simpa using z
   rw[z']at e
   exact absurd (Heap.lt_size e) (Nat.lt_irrefl _)
  ·show Value.bool _=Value.bool _
   rw[List.size_toArray,← hlen,all_range]
end
section
variable {X:Cx}{K:PySem.W.Frag}
theorem ix_listK (h:X.K=K):IxR X (rIxL K):=by subst h;exact ix_list
end
section
variable {σ:St}{H:Hp}{Q:VK}{D:Ends}
theorem rd_allL {K:PySem.W.Frag}{a:Addr}{bs:List Bool}(h:SqL K H a (bs.map V.bl)) (q:Q (.bl (bs.all id)) H):rAllL K [.ref a] H Q:=⟨a,bs,rfl,h,q⟩
theorem rd_itup {K:PySem.W.Frag}{tl:TE}{R:It→Hp→Prop}(h:tl σ H fun x H1=>∃a,x = .ref a∧(∃xs,SqT K H1 a xs)∧R (Itt K a) H1):iTup K tl σ H R:=h
theorem rd_ixT {K:PySem.W.Frag}{p:Addr}{xs:List V}{i:Int}{v:V}(h:SqT K H p xs) (e:atI xs i=some v) (q:Q v H):rIxT K (.ref p) (.int i) H Q:=⟨p,xs,i,v,rfl,rfl,h,e,q⟩
end
end L2
namespace L2
open PySem PySem.Spec PyProof.Rows
section
variable {κ:Type} [DecidableEq κ]
end
section
variable {P:Program}{w:World}{H:Hp}{h:Heap}{a:Addr}
end
section
variable {X:Cx}{pins:List (Addr×Obj)}{σ:St}{H:Hp}{s:Shared}{a:Addr}{y v:V}{u r:Value}{o:Option V}{A:Around}{E:Value→Shared→Prop}
theorem Inv.big (I:Inv X pins σ H s):sysModules<s.heap.objs.size:=by
 have h:mainGlobals<s.heap.objs.size:=(I.mod.glob.keeps I.bk).lt
 exact Nat.lt_trans (by decide) h
end
section
variable {X:Cx}{pins:List (Addr×Obj)}{σ:St}{H:Hp}{s:Shared}{a:Addr}{kvs:List (Key×V)}{k:Key}{u:Value}{A:Around}{E:Value→Shared→Prop}
end
section
variable {X:Cx}{o i e value:Expr}{pos pos' tpos:Pos}{td ty tv:TE}
end
theorem dk_empty {P:Program}{w:World}{H:Hp}(h:Heap) (hb:sysModules<h.objs.size):ObjOk P w H (h.push { cls:=.type "dict",data:=.dict #[] }) h.objs.size (.dK []) :=
 ⟨Nat.zero_le _,beq_eq_false_iff_ne.mpr (Ne.symm (Nat.ne_of_lt hb)),[],.nil,Heap.DictOf.new h⟩
def tDNewK:TE:=fun _ H Q=>∀p,H p=none→Q (.ref p) (upd H p (.dK []))
section
variable {X:Cx}{pos:Pos}
theorem pe_dnewK:PE X (.Dict [] [] pos) tDNewK:=fun pins s σ H Q I h =>
 wpAny_Dict_empty ⟨.ref s.heap.objs.size,_,I.laid (a:=s.heap.objs.size) (o:=.dK []) (t':=s.toks) (fun _ _ q=>Heap.get?_push_of_some _ q) (Nat.le_refl _) (dk_empty s.heap I.big),rfl,h _ (I.hok.fresh (Nat.le_refl _))⟩
end
section
variable {X:Cx}{pins:List (Addr×Obj)}{σ:St}{H:Hp}{s:Shared}{a:Addr}{y d:V}{u r:Value}{o:Option V}{A:Around}{E:Value→Shared→Prop}
end
section
variable {X:Cx}{o e f:Expr}{apos cpos:Pos}{td ty tx:TE}
end
section
variable {X:Cx}{pins:List (Addr×Obj)}{σ:St}{H:Hp}{s:Shared}{a:Addr}{kvs:List (Key×V)}{A:Around}{E:Value→Shared→Prop}
end
section
variable {X:Cx}{pins:List (Addr×Obj)}{σ:St}{H:Hp}{s:Shared}{a:Addr}{y:V}{u:Value}{A:Around}{E:Value→Shared→Prop}
end
end L2
namespace L2
open PySem PySem.Spec PyProof.Rows
section
variable {X:Cx}
def rLeS:R2:=fun x y H Q=>∃i j,x = .str i∧y = .str j∧Q (.bl (!decide (j.cps.toList<i.cps.toList))) H
def rLenS:List V→Hp→VK→Prop:=fun xs H Q=>∃z,xs=[.str z]∧z.length≤sizeLine∧Q (.int z.length) H
theorem call_lenS:CallR X (.builtin "len") rLenS:=call_len_str
def rCatS:R2:=fun x y H Q=>∃i j,x = .str i∧y = .str j∧i.length+j.length≤sizeLine∧Q (.str (i++j)) H
theorem op_catS:OpR X (binaryOp .Add) rCatS:=op_add_str
theorem op_le_str:OpR X (compareOp .LtE) rLeS:=by
 intro pins s σ H x y v u Q I rx ry h
 obtain⟨i,j,rfl,rfl,q⟩:=h
 obtain⟨t,rfl⟩:=rx
 obtain⟨t',rfl⟩:=ry
 exact PySem.P.le_str (fin_bl I q rfl)
theorem strsAre_of {ns:List Str}:∀{us:List Value},Vals (ns.map V.str) us→StrsAre us ns:=by
 induction ns with
 | nil=>intro us r;cases r;exact .nil
 | cons n ns ih =>
  intro us r
  cases r with
  | cons r t =>
   obtain⟨tk,rfl⟩:=r
   exact .cons n tk (ih t)
def rJoin (K:PySem.W.Frag):V→List V→Hp→VK→Prop:=fun x vs H Q=>∃z a ys,x = .str z∧vs=[.ref a]∧SqL K H a (List.map V.str ys)∧(ys.map (·.length)).sum+ys.length*z.length≤16777216∧Q (.str (Txt.join z ys)) H
theorem mt_join:MtR X "str.join" (rJoin X.K):=by
 intro pins s σ H x xs v us Q I rx rs h
 obtain⟨z,a,ys,rfl,rfl,hq,hz,q⟩:=h
 obtain⟨t,rfl⟩:=rx
 obtain⟨u,rfl,ru⟩:=vals1 rs
 cases (show u=Value.ref a from ru)
 obtain⟨its,rv,pl,_⟩:=I.list hq
 exact join_list pl.isList (by simpa using strsAre_of rv) hz fun t' k=>⟨.str _,H,I.tok _,⟨_,rfl⟩,q⟩
def rSlS:V→Option Int→Option Int→Hp→VK→Prop:=fun x lo hi H Q=>∃z,x = .str z∧z.length≤sizeLine∧Q (.str (Txt.slice z lo hi)) H
theorem sl_str:SlR X rSlS:=by
 intro pins s σ H x v vl vu lo hi sl Q I rx hs pl pu h
 obtain⟨z,rfl,hz,q⟩:=h
 obtain⟨t,rfl⟩:=rx
 refine⟨"str",_,F.slot_str_getitem.lookup,typeIs_str _ _ _,?_⟩
 cases pl with
 | none =>
  cases pu with
  | none=>exact wpAny_getItem_str_slice (l:=none) (u:=none) (st:=none) hs rfl (post_val_or_str ⟨Nat.le_trans (Txt.slice_le z _ _) hz,fun t' k=>⟨.str (Txt.slice z none none),H,I.tok _,⟨t',rfl⟩,q⟩⟩)
  | int j uj=>exact wpAny_getItem_str_slice (l:=none) (u:=some (j,uj)) (st:=none) hs rfl (post_val_or_str ⟨Nat.le_trans (Txt.slice_le z _ _) hz,fun t' k=>⟨.str (Txt.slice z none (some j)),H,I.tok _,⟨t',rfl⟩,q⟩⟩)
 | int i ui =>
  cases pu with
  | none=>exact wpAny_getItem_str_slice (l:=some (i,ui)) (u:=none) (st:=none) hs rfl (post_val_or_str ⟨Nat.le_trans (Txt.slice_le z _ _) hz,fun t' k=>⟨.str (Txt.slice z (some i) none),H,I.tok _,⟨t',rfl⟩,q⟩⟩)
  | int j uj=>exact wpAny_getItem_str_slice (l:=some (i,ui)) (u:=some (j,uj)) (st:=none) hs rfl (post_val_or_str ⟨Nat.le_trans (Txt.slice_le z _ _) hz,fun t' k=>⟨.str (Txt.slice z (some i) (some j)),H,I.tok _,⟨t',rfl⟩,q⟩⟩)
end
def Its (x:Str):It:=⟨fun i _=>i<x.cps.size,fun i H v H'=>H'=H∧∃c,x.cps[i]? = some c∧v = .str ⟨#[c]⟩,fun i _=>x.cps.size≤i⟩
theorem go_str (tg:Expr) (it:Addr) (x:Str) (t:Tok):letOwnedTupleGo tg (.ref it) (.str x t)=pure ():=by
 cases tg <;> rfl
theorem turn_strG {P:Program}{w:World}{K:PySem.W.Frag}{tg:Expr}(it:Addr) (ty:String) (x:Str) (t:Tok)
  (W:∀A':Around,A'.handled=none→Walks P w A' it [it] [it] x.cps.size (SignAt x) (fun i h=>h.IsStrIter it ty x t i))
  (S:∀(A':Around) (i:Nat) (s:Shared) (Q:Value→Shared→Prop) (E:Value→Shared→Prop),s.heap.IsStrIter it ty x t i→Q (.ref it) s→wpAny (model P w) A' (pyIter (.ref it)) Q E s):Turn P w K tg (Its x) [it] it (fun i h=>h.IsStrIter it ty x t i∧i≤x.cps.size) where
 mem:=by simp
 obj:=fun i h st b hb=>by
  have e:b=it:=by simpa using hb
  subst e
  obtain⟨o,e,c,d⟩:=st.1
  exact⟨o,e,fun v z=>by rw[d]at z;cases z⟩
 keep:=fun i h h' st k=>⟨let ⟨o,ho,r⟩:=st.1;⟨o,k it (by simp) o ho,r⟩,st.2⟩
 item:=by
  intro X hP hw hK hc i pins s σ H E I hf st hg
  subst hP hw hK
  obtain⟨f0,f1,f2,f3,f4,f5⟩:=hf it (by simp)
  refine(W X.A (I.ok.hd hc)).item i s _ _ hg st.1 fun v h' tk hv st' kk=>?_
  obtain⟨c,u,hcx,rfl⟩:=hv
  have I1:Inv X pins σ H { s with heap:=h',toks:=tk }:=I.turned (fun b o hb e=>kk b o (by simpa using hb) e) f0 f1 f3 f4 f5
  refine⟨_,rfl,?_⟩
  rw[go_str tg]
  have hg':i<x.cps.size:=hg
  exact wpAny_pure ⟨.str ⟨#[c]⟩,H,I1,⟨u,rfl⟩,⟨rfl,c,hcx,rfl⟩,⟨st',hg'⟩,fun b hb=>(hf b hb).1⟩
 done:=by
  intro X hP hw hK hc i pins s σ H E I hf st hg
  subst hP hw hK
  obtain⟨f0,f1,f2,f3,f4,f5⟩:=hf it (by simp)
  have e:i=x.cps.size:=Nat.le_antisymm st.2 hg
  subst e
  exact(W X.A (I.ok.hd hc)).done s _ _ st.1 fun h' tk kk=>⟨rfl,I.turned (fun b o hb e=>kk b o (by simpa using hb) e) f0 f1 f3 f4 f5⟩
 self:=fun A' i s Q E st h=>S A' i s Q E st.1 h
section
variable {X:Cx}{tg:Expr}
def iStr (tl:TE):TI:=fun σ H R=>tl σ H fun x H1=>∃z,x = .str z∧R (Its z) H1
theorem pi_str {l:Expr}{tl:TE}(hl:PE X l tl):PI X tg l (iStr tl):=by
 intro pins s σ H R I h
 refine thn (hl pins s σ H _ I h) fun v s1 ⟨x,H1,I1,r1,q1⟩=>?_
 obtain⟨z,rfl,q⟩:=q1
 obtain⟨t,rfl⟩:=r1
 have fp:∀(o:Obj),∀b ∈ [s1.heap.objs.size],FpOk X pins H1 b:=fun o b hb=>by
  have e:b=s1.heap.objs.size:=by simpa using hb
  subst e
  exact I1.fpOk (Nat.le_refl _) (I1.hok.fresh (Nat.le_refl _))
 cases ha:z.cps.all (· < 128)
 ·refine wpAny_pyIter_wide ha ?_
  exact⟨s1.heap.objs.size,[s1.heap.objs.size],_,_,H1,rfl,I1.kept (t':=s1.toks) fun b o e=>Heap.get?_push_of_some _ e,
   turn_strG s1.heap.objs.size "str_iterator" z t (fun A' hA=>Walks.strWide hA _ z t) (fun _ _ _ _ _ st h=>wpAny_pyIter_striter_wide st h),⟨⟨_,Heap.get?_push_size _ rfl,rfl,rfl⟩,Nat.zero_le _⟩,fp default,q⟩
 ·refine wpAny_pyIter_ascii ha ?_
  exact⟨s1.heap.objs.size,[s1.heap.objs.size],_,_,H1,rfl,I1.kept (t':=s1.toks) fun b o e=>Heap.get?_push_of_some _ e,
   turn_strG s1.heap.objs.size "str_ascii_iterator" z t (fun A' hA=>Walks.strAscii hA _ z t) (fun _ _ _ _ _ st h=>wpAny_pyIter_striter_ascii st h),⟨⟨_,Heap.get?_push_size _ rfl,rfl,rfl⟩,Nat.zero_le _⟩,fp default,q⟩
end
section
variable {σ:St}{H:Hp}{Q:VK}{D:Ends}
theorem rd_leS {i j:Str}(q:Q (.bl (!decide (j.cps.toList<i.cps.toList))) H):rLeS (.str i) (.str j) H Q:=⟨i,j,rfl,rfl,q⟩
theorem rd_lenS {z:Str}(h:z.length≤sizeLine) (q:Q (.int z.length) H):rLenS [.str z] H Q:=⟨z,rfl,h,q⟩
theorem rd_catS {i j:Str}(h:i.length+j.length≤sizeLine) (q:Q (.str (i++j)) H):rCatS (.str i) (.str j) H Q:=⟨i,j,rfl,rfl,h,q⟩
theorem rd_slS {z:Str}{lo hi:Option Int}(h:z.length≤sizeLine) (q:Q (.str (Txt.slice z lo hi)) H):rSlS (.str z) lo hi H Q:=⟨z,rfl,h,q⟩
theorem rd_ixS {z:Str}{i:Int}{c:Nat}(h:z.length≤sizeLine) (e:atI z.cps.toList i=some c) (q:Q (.str ⟨#[c]⟩) H):rIxS (.str z) (.int i) H Q:=⟨z,i,c,rfl,rfl,h,e,q⟩
theorem rd_istr {tl:TE}{R:It→Hp→Prop}(h:tl σ H fun x H1=>∃z,x = .str z∧R (Its z) H1):iStr tl σ H R:=h
theorem comp_str {vs:List Str}{js:List Nat}{g:TG}{tt:TT}{te:TE}{z:Str}(Pv:Nat→St→List V→Hp→Prop) (D:Addr) (h0:Pv 0 (blkSt vs js σ) [] (upd H D (.lst [])))
  (hs:∀i c σ' ys H',z.cps[i]? = some c→Pv i σ' ys H'→g (.str ⟨#[c]⟩) σ' H' fun σ3 H3=>tt σ3 H3 fun b H4=>if b=true then te σ3 H4 fun y H5=>H5 D=some (.lst ys)∧ys.length<sizeLine∧Pv (i+1) σ3 (ys ++ [y]) (upd H5 D (.lst (ys ++ [y]))) else Pv (i+1) σ3 ys H4)
  (hd:∀σ' ys H',Pv z.cps.size σ' ys H'→Q (.ref D) H'):CompW (Its z) vs js σ g tt te Q D H:=by
 refine⟨fun i m σ' ys H'=>m=z.cps.size-i∧i≤z.cps.size∧Pv i σ' ys H',⟨z.cps.size,by simp,Nat.zero_le _,h0⟩,?_⟩
 rintro i m σ' ys H' ⟨rfl,hi,p⟩
 by_cases hlt:i<z.cps.size
 ·refine .inr ⟨hlt,Pv (i+1),fun σ2 zs H2 p'=>⟨z.cps.size-(i+1),by omega,rfl,hlt,p'⟩,fun x H2 y=>?_⟩
  obtain⟨e,c,hc,y⟩:=y
  subst e y
  exact hs i c σ' ys _ hc p
 ·have e:i=z.cps.size:=by omega
  subst e
  exact .inl ⟨Nat.le_refl _,hd σ' ys H' p⟩
end
end L2
namespace L2
open PySem PySem.Spec PyProof.Rows
section
variable {es:List Expr}{env:Env}
theorem stx_Constant {c j p}:starEach (.Constant c j p::es) env =(false,eval (.Constant c j p) env)::starEach es env:=rfl
theorem stx_Name {x p}:starEach (.Name x p::es) env =(false,eval (.Name x p) env)::starEach es env:=rfl
theorem stx_BinOp {a o b p}:starEach (.BinOp a o b p::es) env =(false,eval (.BinOp a o b p) env)::starEach es env:=rfl
theorem stx_BoolOp {o b p}:starEach (.BoolOp o b p::es) env =(false,eval (.BoolOp o b p) env)::starEach es env:=rfl
theorem stx_Compare {a o b p}:starEach (.Compare a o b p::es) env =(false,eval (.Compare a o b p) env)::starEach es env:=rfl
theorem stx_Call {a o b p}:starEach (.Call a o b p::es) env =(false,eval (.Call a o b p) env)::starEach es env:=rfl
theorem stx_Subscript {a o p}:starEach (.Subscript a o p::es) env =(false,eval (.Subscript a o p) env)::starEach es env:=rfl
theorem stx_List {a p}:starEach (.List a p::es) env =(false,eval (.List a p) env)::starEach es env:=rfl
theorem stx_Tuple {a k p}:starEach (.Tuple a k p::es) env =(false,eval (.Tuple a k p) env)::starEach es env:=rfl
theorem stx_Dict {a k p}:starEach (.Dict a k p::es) env =(false,eval (.Dict a k p) env)::starEach es env:=rfl
theorem stx_ListComp {a b c p}:starEach (.ListComp a b c p::es) env =(false,eval (.ListComp a b c p) env)::starEach es env:=rfl
end
end L2
namespace L2
open PySem PySem.Spec PyProof.Rows
section
variable {X:Cx}
end
end L2
namespace L2
open PySem PySem.Spec PyProof.Rows
section
variable {X:Cx}
def rRevL (K:PySem.W.Frag):V→Hp→VK→Prop:=fun x H Q=>∃a xs,x = .ref a∧SqL K H a xs∧∀p,H p=none→Q (.ref p) (upd H p (.lst xs.reverse))
def tRev (K:PySem.W.Frag) (te:TE):TE:=fun σ H Q=>te σ H fun x H1=>rRevL K x H1 Q
theorem evalPart_neg1 {env:Env}{j:Nat}{q1 q2:Pos}{M:Program}{w:World}{A:Around}{E:Value→Shared→Prop}{s:Shared}{Q:Value→Shared→Prop}(h:∀t tk,Q (.int (-1) t) { s with toks:=tk }) :
  wpAny (model M w) A (evalPart (some (.UnaryOp .USub (.Constant (.int 1) j q1) q2)) env) Q E s:=by
 show wpAny (model M w) A (eval (.UnaryOp .USub (.Constant (.int 1) j q1) q2) env) Q E s
 refine UnaryOp_ (wpAny_Constant_int ?_)
 exact neg_int (h _ _)
theorem pe_rev {e:Expr}{te:TE}{j:Nat}{q1 q2 p2 pos:Pos}(he:PE X e te):PE X (.Subscript e (.Slice none none (some (.UnaryOp .USub (.Constant (.int 1) j q1) q2)) p2) pos) (tRev X.K te):=by
 intro pins s σ H Q I h
 refine Subscript_ (thn (he pins s σ H _ I h) fun v s1 ⟨x,H1,I1,r1,q1⟩=>?_)
 obtain⟨a,xs,rfl,hx,q⟩:=q1
 cases r1
 refine wpAny_Slice ?_
 rw[evalPart_none]
 refine wpAny_pure ?_
 refine wpAny_pure ?_
 refine evalPart_neg1 fun t tk=>?_
 have I4:Inv X pins σ H1 { s1 with heap:=s1.heap.push { cls:=.type "slice",data:=.fields #[.none,.none,.int (-1) t] },toks:=tk }:=I1.kept (t':=tk) fun b ob q=>Heap.get?_push_of_some _ q
 obtain⟨its,r,ht,hz⟩:=I4.list hx
 have hlen:=r.length
 show wpAny (model X.prog X.w) X.A (subscriptTail e (.Slice none none (some (.UnaryOp .USub (.Constant (.int 1) j _) q2)) p2) (.ref a) (.ref s1.heap.objs.size)) (EP X pins σ Q) X.xe { s1 with heap:=s1.heap.push { cls:=.type "slice",data:=.fields #[.none,.none,.int (-1) t] },toks:=tk }
 refine tail_any (T := "list") (ops:=[.ref a,.ref s1.heap.objs.size]) ht.isList.typeIs slot_list_getitem.lookup ?_ (by with_unfolding_all rfl)
 refine wpAny_getItem_list_slice ht.isList (Heap.IsSliceOf.new ..) .none .none (.int (-1) t) (by simp) ?_ (by rw[List.size_toArray] <;> omega)
 rw[PySem.W.krv_pick]
 refine⟨.ref _,_,I4.laid (t':=tk) (o:=.lst xs.reverse) (fun b ob q=>Heap.get?_push_of_some _ q) (Nat.le_refl _) ?_,rfl,q _ (I4.hok.fresh (Nat.le_refl _))⟩
 exact⟨by rw[List.length_reverse];exact hz,its.reverse,0,r.reverse,(Heap.get?_push_size _ rfl:_)⟩
def rIntB:List V→Hp→VK→Prop:=fun xs H Q=>∃k,xs=[.bl k]∧Q (.int (if k then 1 else 0)) H
theorem call_intB:CallR X (.type "int") rIntB:=by
 intro pins s σ H xs us Q I r h
 exact call_int1 pins s σ H xs us Q I r (.inr h)
end
section
variable {K:PySem.W.Frag}{H:Hp}{Q:VK}{σ:St}
theorem rd_rev {te:TE}(h:te σ H fun x H1=>rRevL K x H1 Q):tRev K te σ H Q:=h
theorem rd_intB {k:Bool}(q:Q (.int (if k then 1 else 0)) H):rIntB [.bl k] H Q:=⟨k,rfl,q⟩
end
end L2
namespace L2
open PySem PySem.Spec PyProof.Rows
section
variable {X:Cx}{pins:List (Addr×Obj)}{σ:St}{H:Hp}{s:Shared}{h':Heap}
end
section
variable {X:Cx}{elts:List Expr}{x1:_}{tpos:Pos}
end
section
variable {K:PySem.W.Frag}{H:Hp}{Q:VK}{σ:St}
end
end L2
namespace L2
open PySem PySem.Spec PyProof.Rows
section
variable {X:Cx}{K:PySem.W.Frag}{tg:Expr}
end
end L2
namespace L2
open PySem PySem.Spec PyProof.Rows
section
variable {prog:Program}{w:World}{A:Around}{E:Value→Shared→Prop}{s:Shared}
variable {ltb:Keyed→Keyed→Bool}{S:Keyed→Prop}{κ:SortKind}
end
end L2
namespace L2
open PySem PySem.Spec PyProof.Rows
section
variable {ltb:Keyed→Keyed→Bool}{xa xb ou:List Keyed}{ja jb k:Nat}
end
end L2
namespace L2
open PySem PySem.Spec PyProof.Rows
section
variable {ltb:Keyed→Keyed→Bool}{xa xb ou:Array Keyed}{ja jb k:Nat}
end
section
variable {prog:Program}{w:World}{A:Around}{E:Value→Shared→Prop}{s:Shared}{ltb:Keyed→Keyed→Bool}{S:Keyed→Prop}{κ:SortKind}
end
section
variable {prog:Program}{w:World}{A:Around}{E:Value→Shared→Prop}{s:Shared}{ltb:Keyed→Keyed→Bool}{S:Keyed→Prop}{κ:SortKind}
end
end L2
namespace L2
open PySem PySem.Spec PyProof.Rows
section
variable {ltb:Keyed→Keyed→Bool}{xa xb ou:Array Keyed}{na nb k:Nat}
end
end L2
namespace L2
open PySem PySem.Spec PyProof.Rows
section
variable {prog:Program}{w:World}{A:Around}{E:Value→Shared→Prop}{s:Shared}{ltb:Keyed→Keyed→Bool}{S:Keyed→Prop}{κ:SortKind}
end
end L2
namespace L2
open PySem PySem.Spec PyProof.Rows
section
variable {prog:Program}{w:World}{A:Around}{E:Value→Shared→Prop}{s:Shared}{ltb:Keyed→Keyed→Bool}{S:Keyed→Prop}{κ:SortKind}
end
end L2
namespace L2
open PySem PySem.Spec PyProof.Rows
section
variable {prog:Program}{w:World}{A:Around}{E:Value→Shared→Prop}{s:Shared}{ltb:Keyed→Keyed→Bool}{S:Keyed→Prop}{κ:SortKind}
end
end L2
namespace L2
open PySem PySem.Spec PyProof.Rows
section
variable {ltb:Keyed→Keyed→Bool}{R:List Keyed}
end
section
variable {prog:Program}{w:World}{A:Around}{E:Value→Shared→Prop}{s:Shared}{ltb:Keyed→Keyed→Bool}{S:Keyed→Prop}{κ:SortKind}
end
end L2
namespace L2
open PySem PySem.Spec PyProof.Rows
section
variable {ltb:Keyed→Keyed→Bool}{κ:SortKind}
end
section
variable {prog:Program}{w:World}{A:Around}{E:Value→Shared→Prop}{s:Shared}{ltb:Keyed→Keyed→Bool}{S:Keyed→Prop}{κ:SortKind}
end
end L2
namespace L2
open PySem PySem.Spec PyProof.Rows
section
variable {ltb:Keyed→Keyed→Bool}{κ:SortKind}{a0:List Keyed}{st:SortSt}{rs:List (List Keyed)}
end
section
variable {prog:Program}{w:World}{A:Around}{E:Value→Shared→Prop}{s:Shared}{ltb:Keyed→Keyed→Bool}{S:Keyed→Prop}{κ:SortKind}
end
end L2
namespace L2
open PySem PySem.Spec PyProof.Rows
section
variable {prog:Program}{w:World}{A:Around}{E:Value→Shared→Prop}{s:Shared}
end
section
variable {X:Cx}
end
end L2
namespace L2
open PySem PySem.Spec PyProof.Rows
section
variable {X:Cx}{K:PySem.W.Frag}
end
section
variable {X:Cx}{K:PySem.W.Frag}{pos:Pos}
end
section
variable {σ:St}{H:Hp}{Q:VK}{D:Ends}
theorem rd_dnewK (h:∀p,H p=none→Q (.ref p) (upd H p (.dK []))):tDNewK σ H Q:=h
end
section
variable {X:Cx}{elts:List Expr}{x1:_}{tpos:Pos}
end
section
variable {K:PySem.W.Frag}{H:Hp}{Q:VK}{σ:St}
end
end L2
namespace L2
open PySem PySem.Spec PyProof.Rows
section
variable {X:Cx}{pins:List (Addr×Obj)}{σ:St}{H:Hp}{s:Shared}{h':Heap}
theorem Inv.adopt {t':Nat}{ch:List Addr}{a:Addr}{o:HO}(I:Inv X pins σ H s) (k:∀b o,b∉ch→s.heap.get? b=some o→h'.get? b=some o) (f:∀b∈ch,FpOk X pins H b)
  (ha:a∈ch) (new:ObjOk X.prog X.w (upd H a o) h' a o):Inv X pins σ (upd H a o) { s with heap:=h',toks:=t' }:=by
 have nit:∀b u,H b=some u→b∉ch:=fun b u e z=>by rw[(f b z).1]at e;cases e
 have hn:=(f a ha).1
 have up:∀b u,H b=some u→upd H a o b=some u:=fun b u q=>by rw[upd_ne (ne_of_none q hn)];exact q
 refine I.step (g':=s.gens) (d':=s.drawn) (ch:=ch) (fun b hb=>?_) (fun b o _ _ hc e _=>k b o hc e) (fun b o _ _ hc e _=>⟨o.slots,k b o hc e⟩) (fun b ob hc e n=>by rw[upd_ne (show b≠a from fun z=>hc (by rw[z];exact ha))];exact n) (fun b o hc e=>⟨o,k b o hc e⟩) (fun b xs e=>up _ _ e) (fun b ob u e=>up _ _ e)
  (fun b ps e=>⟨#[],by rw[up _ _ e];simp⟩) (fun m hm=>?_) (fun b u e=>?_) I.bare
 ·obtain⟨f0,f1,f2,f3,f4,f5⟩:=f b hb
  exact⟨f3,f1,f4,f5⟩
 ·obtain⟨o,es,ep,ho,r⟩:=hm
  exact⟨o,es,ep,k _ o (fun z=>(f _ z).2.1 rfl) ho,r⟩
 ·by_cases hb:b=a
  ·subst hb;rw[upd_same]at e;cases e;exact new
  ·rw[upd_ne hb]at e
   refine(I.hok b u e).stay (fun c v hc q=>k c v ?_ q) (fun c q=>up _ _ q) fun c xs q=>up _ _ q
   rcases hc with z|z
   ·rw[z];exact nit b u e
   ·exact nit c _ z
variable {A:Around}{E:Value→Shared→Prop}
end
section
variable {prog:Program}{w:World}{A:Around}{E:Value→Shared→Prop}{s:Shared}
end
section
variable {X:Cx}{pins:List (Addr×Obj)}{σ:St}{H:Hp}{s:Shared}{E:Value→Shared→Prop}
end
section
variable {X:Cx}{e:Expr}{t:TA}{y:Str}{ps:List Str}{k:Nat}{sp:Sp}{p p2 kpos pos:Pos}
end
section
variable {X:Cx}
end
end L2
namespace L2
open PySem PySem.Spec PyProof.Rows
section
variable {X:Cx}{pins:List (Addr×Obj)}{σ:St}{H:Hp}{s:Shared}
end
end L2
namespace L2
open PySem PySem.Spec PyProof.Rows
section
variable {X:Cx}{pins:List (Addr×Obj)}{σ:St}{H:Hp}{s:Shared}{scope:Scope}{y:Str}{fs:List Str}{js:List Nat}
end
section
variable {X:Cx}{e body:Expr}{t:TA}{te:TE}{k:Nat}{p kpos pos lpos:Pos}{params:Arguments}{scope:Scope}{y:Str}{fs:List Str}{js:List Nat}{P c:Addr}
end
section
variable {X:Cx}{a b:Expr}{rest:List Expr}{ta tb:TE}{pos:Pos}
end
end L2
namespace L2
open PySem PySem.Spec PyProof.Rows
section
variable {X:Cx}
end
end L2
namespace L2
open PySem PySem.Spec PyProof.Rows
section
variable {X:Cx}
end
end L2
namespace L2
open PySem PySem.Spec PyProof.Rows
section
variable {prog:Program}{w:World}{A:Around}{E:Value→Shared→Prop}{s:Shared}
end
section
variable {X:Cx}
end
end L2
namespace PySem
namespace F
end F
end PySem
namespace L2
open PySem PySem.Spec PyProof.Rows
section
variable {prog:Program}{w:World}{κ:Type} [DecidableEq κ] {knd:KeyKind prog w κ}{A:Around}{E:Value→Shared→Prop}{s:Shared}
inductive PairsAt (knd:KeyKind prog w κ) (h:Heap):List Value→List (κ×Value)→Prop
 | nil:PairsAt knd h [] []
 | cons {a:Addr}{o:Obj}{n:Nat}{key val:Value}{k:κ}{vs:List Value}{rs:List (κ×Value)}:h.get? a=some o→o.cls = .type "tuple"→o.data = .seq #[key,val] n→knd.is k key=true→PairsAt knd h vs rs→PairsAt knd h (.ref a::vs) ((k,val)::rs)
end
section
variable {X:Cx}
end
end L2
namespace L2
open PySem PySem.Spec PyProof.Rows
section
variable {prog:Program}{w:World}{κ:Type} [DecidableEq κ] {knd:KeyKind prog w κ}{A:Around}{E:Value→Shared→Prop}{s:Shared}
end
section
variable {X:Cx}
end
end L2
namespace L2
open PySem PySem.Spec PyProof.Rows
inductive NumU:Value→Int→Prop
 | int (i:Int) (t:Tok):NumU (.int i t) i
 | bl (b:Bool):NumU (.bool b) (if b=true then(1:Int) else 0)
section
variable {prog:Program}{w:World}{A:Around}{E:Value→Shared→Prop}{s:Shared}{Q:Value→Shared→Prop}{a b:Value}{i j:Int}
end
section
variable {prog:Program}{w:World}{A:Around}{E:Value→Shared→Prop}{s:Shared}{Q:Value→Shared→Prop}{a b:Value}{i j:Int}
end
inductive Num:V→Int→Prop
 | int (i:Int):Num (.int i) i
 | bl (b:Bool):Num (.bl b) (if b=true then(1:Int) else 0)
section
variable {X:Cx}
end
end L2
namespace L2
open PySem PySem.Spec PyProof.Rows
section
variable {X:Cx}
end
end L2
namespace L2
open PySem PySem.Spec PyProof.Rows
section
variable {X:Cx}
def rEqE (K:PySem.W.Frag):R2:=fun x y H Q=>∃p q xs,x = .ref p∧y = .ref q∧SqL K H p xs∧SqL K H q []∧Q (.bl (decide (xs=[]))) H
theorem op_eqE (hu:X.A.units+64<cLine):OpR X (compareOp .Eq) (rEqE X.K):=by
 intro pins s σ H x y v u Q I rx ry h
 obtain⟨p,p',xs,rfl,rfl,h1,h2,q⟩:=h
 cases rx
 cases ry
 obtain⟨its,r1,pl1,_⟩:=I.list h1
 obtain⟨its2,r2,pl2,_⟩:=I.list h2
 have l1:=r1.length
 have l2:=r2.length
 have e2:its2=[]:=List.eq_nil_of_length_eq_zero (by simpa using l2.symm)
 subst e2
 by_cases c:xs=[]
 ·subst c
  have e1:its=[]:=List.eq_nil_of_length_eq_zero (by simpa using l1.symm)
  subst e1
  refine SeqAt.eq_listAt (e:=fun _=>true) pl1.isList pl2.isList rfl (by omega) (fun j g1 g2=>absurd g1 (by simp)) ⟨.bl _,H,I,rfl,?_⟩
  rw[decide_eq_true rfl]at q
  exact q
 ·have hl:0<xs.length:=List.length_pos_iff.mpr c
  refine SeqAt.eq_list_lengthsAt pl1.isList pl2.isList ?_ (by omega) ⟨.bl _,H,I,rfl,?_⟩
  ·simp;intro e;rw[e]at l1;exact c (List.eq_nil_of_length_eq_zero l1)
  ·rw[decide_eq_false c]at q;exact q
end
end L2
namespace L2
open PySem PySem.Spec PyProof.Rows
section
variable {prog:Program}{w:World}{A:Around}{R:Result→Shared→Prop}{s:Shared}{elt t1 i1 t2 i2:Expr}{fs1 fs2:List Expr}{scope:Scope}{pos:Pos}{it acc:Value}{env:Env}
end
section
variable {X:Cx}{pins:List (Addr×Obj)}{σ:St}{H:Hp}{s:Shared}{scope:Scope}{vs fs:List Str}{js:List Nat}
end
section
variable {X:Cx}{pins:List (Addr×Obj)}{σ:St}{H:Hp}{s:Shared}{scope:Scope}{vs fs:List Str}{js:List Nat}
end
section
variable {vs:List Str}{js:List Nat}{σ:St}{H:Hp}{Q:VK}
end
end L2
namespace L2
open PySem PySem.Spec PyProof.Rows
section
variable {X:Cx}
end
end L2
namespace L2
open PySem PySem.Spec PyProof.Rows
section
variable {X:Cx}{x m:Str}{C:Addr}{ps:List Str}{k:Nat}{sp:Sp}{e o:Expr}{es:List Expr}{t:TA}{ta:TE}{p pos apos:Pos}
end
section
variable {σ:St}{H:Hp}{Q:VK}
end
section
variable {X:Cx}
end
section
variable {X:Cx}{pins:List (Addr×Obj)}{σ:St}{H:Hp}{s:Shared}{d:Addr}{o:Obj}{kvs:List (Key×V)}
end
section
variable {X:Cx}
end
end L2
namespace L2
open PySem PySem.Spec PyProof.Rows
section
variable {prog:Program}{w:World}{A:Around}{E:Value→Shared→Prop}{s:Shared}{κ:Type} [DecidableEq κ] {knd:KeyKind prog w κ}
end
section
variable {X:Cx}
end
end L2
namespace L2
open PySem PySem.Spec PyProof.Rows
section
variable {σ:St}{H:Hp}{Q:VK}{D:Ends}
def IsT (R t:TS):Prop:=R=t
theorem rd_seqO {t u:TS}(h:∀R,IsT R u→t { D with nx:=R D } σ H):tSeq t u D σ H:=h u rfl
theorem rd_ifSO {c:TT}{t u:TS}(h:∀R S,IsT R t→IsT S u→c σ H fun b H1=>if b=true then R D σ H1 else S D σ H1):tIfS c t u D σ H:=h t u rfl rfl
theorem rd_forO {wi:TI}{g:TG}{tb:TS}(h:∀R,IsT R tb→wi σ H fun J H1=>∃W:Nat→Nat→St→Hp→Prop,(∃m,W 0 m σ H1)∧∀i m σ H,W i m σ H →
 (J.stop i H∧D.nx σ H) ∨(J.go i H∧∃N:St→Hp→Prop,(∀σ' H',N σ' H'→∃m',m'<m∧W (i+1) m' σ' H')∧∀x H',J.yld i H x H'→g x σ H' fun σ2 H2=>R { D with nx:=N,ct:=N,bk:=D.nx } σ2 H2)):tFor wi g tb D σ H:=h tb rfl
theorem rd_tx {R t:TS}(e:IsT R t) (h:t D σ H):R D σ H:=by cases e;exact h
def IsN (N I:St→Hp→Prop):Prop:=∀σ H,I σ H→N σ H
def AllN (I:St→Hp→Prop) (t:(St→Hp→Prop)→Prop):Prop:=∀N,IsN N I→t N
theorem rd_allN {I:St→Hp→Prop}{t:(St→Hp→Prop)→Prop}(h:∀N,IsN N I→t N):AllN I t:=h
theorem rd_isN {N I:St→Hp→Prop}(e:IsN N I) (h:I σ H):N σ H:=e σ H h
theorem cutO {t:TS}(R:St→Hp→Prop) (h:AllN R fun N=>t { D with nx:=N } σ H) (k:∀σ' H',R σ' H'→D.nx σ' H'):tCut t D σ H:=⟨R,h _ fun _ _ z=>z,k⟩
theorem for_rangeO {lo:Int}{n:Nat}{g:TG}{tb:TS}(Pv:Nat→St→Hp→Prop) (h0:Pv 0 σ H)
  (hs:∀i σ H,i<n→Pv i σ H→AllN (Pv (i+1)) fun N=>g (.int (lo+i)) σ H fun σ2 H2=>tb { D with nx:=N,ct:=N,bk:=D.nx } σ2 H2) (hd:∀σ H,Pv n σ H→D.nx σ H) :
  ∃W:Nat→Nat→St→Hp→Prop,(∃m,W 0 m σ H)∧∀i m σ H,W i m σ H →
   ((Itr lo n).stop i H∧D.nx σ H) ∨((Itr lo n).go i H∧∃N:St→Hp→Prop,(∀σ' H',N σ' H'→∃m',m'<m∧W (i+1) m' σ' H')∧∀x H',(Itr lo n).yld i H x H'→g x σ H' fun σ2 H2=>tb { D with nx:=N,ct:=N,bk:=D.nx } σ2 H2) :=
 for_range Pv h0 (fun i σ H a b=>hs i σ H a b _ fun _ _ z=>z) hd
theorem for_listO {K:PySem.W.Frag}{a:Addr}{xs:List V}{g:TG}{tb:TS}(Pv:Nat→St→Hp→Prop) (h0:Pv 0 σ H) (hl:∀i σ H,i≤xs.length→Pv i σ H→SqL K H a xs)
  (hs:∀i x σ H,xs[i]? = some x→Pv i σ H→AllN (Pv (i+1)) fun N=>g x σ H fun σ2 H2=>tb { D with nx:=N,ct:=N,bk:=D.nx } σ2 H2) (hd:∀σ H,Pv xs.length σ H→D.nx σ H) :
  ∃W:Nat→Nat→St→Hp→Prop,(∃m,W 0 m σ H)∧∀i m σ H,W i m σ H →
   ((Itl K a).stop i H∧D.nx σ H) ∨((Itl K a).go i H∧∃N:St→Hp→Prop,(∀σ' H',N σ' H'→∃m',m'<m∧W (i+1) m' σ' H')∧∀x H',(Itl K a).yld i H x H'→g x σ H' fun σ2 H2=>tb { D with nx:=N,ct:=N,bk:=D.nx } σ2 H2) :=
 for_list Pv h0 hl (fun i x σ H a b=>hs i x σ H a b _ fun _ _ z=>z) hd
end
end L2
namespace L2
open PySem PySem.Spec PyProof.Rows
section
variable {X:Cx}{σ:St}{H:Hp}{Q:VK}{D:DK}
end
section
variable {K:PySem.W.Frag}
def Ga (K:PySem.W.Frag) (x:Str) (st:Stmt):Prop:=∃f:Addr,PySem.W.nsIn K mainGlobals x=some (some (.ref f))∧∃fd:FuncData,Fun K x x st f fd
def Ga2 (K:PySem.W.Frag) (x y:Str) (st:Stmt):Prop:=∃f:Addr,PySem.W.nsIn K mainGlobals x=some (some (.ref f))∧PySem.W.nsIn K mainGlobals y=some (some (.ref f))∧∃fd:FuncData,Fun K x x st f fd
def Me (K:PySem.W.Frag) (C:Addr) (m q:Str) (st:Stmt):Prop:=∃f:Addr,PySem.W.findIn K (.ref C) m=some (some (.ref f))∧PySem.W.isFn K (.ref f)=true∧PySem.W.keepIn K (.ref f)=true∧∃fd:FuncData,Fun K m q st f fd
theorem Ga.elim {x:Str}{st:Stmt}{R:Prop}(g:Ga K x st) (k:∀f,PySem.W.nsIn K mainGlobals x=some (some (.ref f))→∀fd,Fun K x x st f fd→R):R:=by
 obtain⟨f,a,fd,F⟩:=g
 exact k f a fd F
theorem Ga.mk {x:Str}{st:Stmt}{f:Addr}{oc:Value}{od an:Option Addr}{osl:Array (Option Value)}{kV doc pm cdv ct:Value}(a:PySem.W.nsIn K mainGlobals x=some (some (.ref f))) (l:K.lookup f=some ⟨oc,od,.func (PySem.W.fnOf x x (defArgs st) (defBody st) (defScope st) .none kV doc pm an cdv ct),osl⟩) (c:PySem.W.codeIn K cdv x=true) (k:PySem.W.keepIn K (.ref f)=true):Ga K x st:=⟨f,a,_,fun_mk l c k⟩
end
end L2
namespace L2
open PySem PySem.Spec PyProof.Rows
mutual
inductive DW (H:Hp):V→PyData→Prop
 | non:DW H .non .none
 | bl (b:Bool):DW H (.bl b) (.bool b)
 | int (i:Int):DW H (.int i) (.int i)
 | str (x:Str):DW H (.str x) (.str x)
 | lst {a:Addr}{xs:List V}{ds:List PyData}:H a=some (.lst xs)→DWs H xs ds→DW H (.ref a) (.list ds)
 | tup {a:Addr}{xs:List V}{ds:List PyData}:H a=some (.tup xs)→DWs H xs ds→DW H (.ref a) (.tuple ds)
 | dic {a:Addr}:H a=some (.dK [])→DW H (.ref a) (.dict [])
inductive DWs (H:Hp):List V→List PyData→Prop
 | nil:DWs H [] []
 | cons {x:V}{d:PyData}{xs:List V}{ds:List PyData}:DW H x d→DWs H xs ds→DWs H (x::xs) (d::ds)
end
mutual
def nlD:PyData→Bool
 | .list _=>false
 | .tuple xs=>nlDs xs
 | _=>true
def nlDs:List PyData→Bool
 | []=>true
 | x::xs=>nlD x && nlDs xs
end
section
variable {X:Cx}{pins:List (Addr×Obj)}{σ:St}{H:Hp}{s:Shared}
end
section
variable {X:Cx}
end
section
variable {X:Cx}
end
def Sub (M:Addr→Bool) (H H':Hp):Prop:=∀a o,M a=false→H a=some o→H' a=some o
end L2
namespace L2
open PySem PySem.Spec PyProof.Rows
section
variable {K:PySem.W.Frag}{σ:St}{H:Hp}{Q:VK}
end
section
variable {X:Cx}
end
end L2
namespace L2
open PySem PySem.Spec PyProof.Rows
section
variable {X:Cx}{pins:List (Addr×Obj)}{σ:St}{H:Hp}{s:Shared}{a:Addr}{kvs:List (Key×V)}{k:Key}{u r:Value}{A:Around}{E:Value→Shared→Prop}
end
section
variable {X:Cx}
end
end L2
namespace L2
open PySem PySem.Spec PyProof.Rows
section
variable {X:Cx}{K:PySem.W.Frag}{C:Addr}
end
end L2
namespace PySem
open Sem (wp)
section
variable {prog:Program}{w:World}{A:Around}{E:Value→Shared→Prop}{h:Heap}{g:Array GenState}{d:Drawn}{t:Nat}{os:OsState}
variable {nm q:Str}{C N:Addr}{bs bm bmB:List Value}{hdct:Bool}{sn:List Str}{sub:List Value}{ab:Bool}{col:Option Bool}{dd:Option Addr}{k0 k1 k2 k3 k5:Option Value}{B newId initId:String}
theorem tcall_plainT (F:ExcBaseFacts B newId initId bmB) (T:OwnTail h bmB bm) {mN:Str→Option Value}{rest:List Value}{Q:Fin→Shared→Prop}
  (hC:h.get? C=some (excClassObj nm q C N bs bm hdct sn sub ab col dd k0 k1 k2 k3 k5 newId)) (hn:h.Ns N mN) (hni:mN "__init__" = none)
  (hq:∀h' e,Heap.MadeExcOf h h' e (.ref C) rest→h.objs.size≤e→Q (.done (.ret (.ref e))) ⟨h',g,d,t,os⟩) (hrest:rest.length≤sizeLine:=by size_fits) :
  wpAny (model prog w) A (Builtin.«type.__call__» ⟨.ref C::rest,[]⟩) Q E ⟨h,g,d,t,os⟩:=by
 repeat (first|with_reducible refine wpAny_loadPart_at hC ?_|with_reducible refine wpAny_madeBy_exc hC ?_|wp_step)
 refine codeAny_call_builtin_code (Code.quiet_builtin _ F.quiet) (wpAny_check_new_subT F T hC ?_)
 refine codeAny_exc_new_subT F T hC ?_ hrest
 show wpAny _ _ _ _ _ _
 let o1:Obj:={ cls:=.type "tuple",data:=.seq rest.toArray }
 let o2:Obj:={ cls:=.ref C,data:=.fields #[.ref h.objs.size,.none,.none,.none,.bool false,.none] }
 have kp:∀b o,h.get? b=some o→((h.push o1).push o2).get? b=some o:=fun b o e=>Heap.get?_push_of_some o2 (Heap.get?_push_of_some o1 e)
 have hget:((h.push o1).push o2).get? (h.objs.size+1)=some o2:=by heap_get
 have hcC:(Value.ref C::bm).contains (.ref C)=true:=by simp
 have hC1:=kp _ _ hC
 have T1:=T.keeps kp
 unfold isInstance
 repeat (first|with_reducible refine wpAny_loadPart_at hget ?_|(with_reducible refine wpAny_isSubtype_exc hC1 ?_;rw[hcC])|wp_step)
 show wpAny _ _ (typeLookup (.ref C) _) _ _ _
 refine wpAny_typeLookup_tail hC1 (hn.keeps kp) T1 F.mroIs F.init.lookup ?_
 rw[hni]
 refine wpAny_holding (wpAny_bind (wpAny_of_eq (F.init.bind _) ?_))
 refine wpAny_bind (wpAny_call (codeAny_call_builtin F.init.plain F.initEntry (wpAny_check_init_subT F T1 hC1 hget rfl ?_)))
 wp_walk
 refine hq _ _ ⟨fun b o hb=>?_,Heap.get?_none_of_le (Nat.le_succ _),h.objs.size+2,?_,Heap.get?_none_of_le (by omega),?_⟩ (Nat.le_succ _)
 ·rw[Heap.get?_update_other _ _ (Nat.ne_of_gt (Nat.lt_succ_of_lt (Heap.lt_size hb)))]
  exact Heap.get?_push_of_some _ (Heap.get?_push_of_some _ (Heap.get?_push_of_some _ hb))
 ·rw[Heap.get?_update_self _ (Heap.get?_push_of_some _ hget) rfl]
  simp only[Heap.size_push]
  rfl
 ·rw[Heap.get?_update_other _ _ (show h.objs.size+1≠h.objs.size+2 by omega)]
  exact Heap.get?_push_at (by simp only[Heap.size_push]) rfl
theorem call_plainT (F:ExcBaseFacts B newId initId bmB) (T:OwnTail h bmB bm) {mN:Str→Option Value}{rest:List Value}{Q:Value→Shared→Prop}
  (hC:h.get? C=some (excClassObj nm q C N bs bm hdct sn sub ab col dd k0 k1 k2 k3 k5 newId)) (hn:h.Ns N mN) (hni:mN "__init__" = none)
  (hq:∀h' e,Heap.MadeExcOf h h' e (.ref C) rest→h.objs.size≤e→Q (.ref e) ⟨h',g,d,t,os⟩) (hrest:rest.length≤sizeLine:=by size_fits) :
  wpAny (model prog w) A (call (.ref C) rest) Q E ⟨h,g,d,t,os⟩:=by
 have f1:=tc_lookup
 have f2:=tc_bind (.ref C)
 have hT:(⟨h,g,d,t,os⟩ : Shared).TypeIs (.ref C) "type" :=⟨_,hC,rfl⟩
 refine wpAny_call (codeAny_of_tree ?_)
 show wpAny _ _ (callAny (.ref C) _) _ _ _
 repeat (any_goals (first|assumption|with_reducible refine wpAny_loadPart_at hC ?_|wp_step))
 refine⟨rfl,?_⟩
 refine codeAny_call_builtin_at (Code.quiet_builtin _ (by decide +kernel)) entry_typeCall (wpAny_check_type_call_sub hC (tcall_plainT (hrest:=hrest) F T hC hn hni fun h' e hm hz=>?_))
 exact hq h' e hm hz
end
end PySem
namespace PySem
open Sem (wp)
open Builtin Builtin.ObjectAttr
inductive TlN (h:Heap) (bmB:List Value) (P:Str→Prop):List Value→Prop
 | base:TlN h bmB P bmB
 | own {A:Addr}{c0:Value}{dd:Option Addr}{cd:ClassData}{sl:Array (Option Value)}{mA:Str→Option Value}{tl:List Value} :
   h.get? A=some { cls:=c0,dict:=dd,data:=.cls cd,slots:=sl }→h.Ns cd.ns mA→(∀n,P n→mA n=none)→TlN h bmB P tl→TlN h bmB P (.ref A::tl)
theorem TlN.tail {h:Heap}{bmB tl:List Value}{P:Str→Prop}(T:TlN h bmB P tl) (hp:P "__init__"):OwnTail h bmB tl:=by
 induction T with
 | base=>exact .base
 | own hA hN hni _ ih=>exact .own hA hN (hni _ hp) ih
section
variable {M:Model}{prog:Program}{w:World}{A:Around}{E:Value→Shared→Prop}{h:Heap}{g:Array GenState}{d:Drawn}{t:Nat}{os:OsState}{P:Str→Prop}
theorem lookN {bmB tl:List Value}{name:Str}{y:Option Value}{Q:Option Value→Shared→Prop}(T:TlN h bmB P tl) (hp:P name) (hrest:lookupAlong bmB name=pure y) (hq:Q y ⟨h,g,d,t,os⟩) :
  wpAny M A (lookupAlong tl name) Q E ⟨h,g,d,t,os⟩:=by
 induction T with
 | base=>rw[hrest];exact wpAny_pure hq
 | own hA hN hni _ ih =>
  rw[lookupAlong_cons]
  refine wpAny_bind (wpAny_classOwn_cls hA hN ?_)
  rw[hni _ hp]
  exact ih
variable {nm q:Str}{C N x:Addr}{bs bm bmB:List Value}{hdct:Bool}{sn:List Str}{sub:List Value}{ab:Bool}{col:Option Bool}{dd:Option Addr}{k0 k1 k2 k3 k5:Option Value}{B newId sa owner:String}{mN:Str→Option Value}{name:Str}{v:Value}
theorem typeLookN {y:Option Value}{Q:Option Value→Shared→Prop}
  (hC:h.get? C=some (excClassObj nm q C N bs bm hdct sn sub ab col dd k0 k1 k2 k3 k5 newId)) (hn:h.Ns N mN) (T:TlN h bmB P bm) (hp:P name) (hbm:mroOf (.type B)=pure bmB) (hB:typeLookup (.type B) name=pure y)
  (hq:Q (match mN name with|some v=>some v|none=>y) ⟨h,g,d,t,os⟩):wpAny M A (typeLookup (.ref C) name) Q E ⟨h,g,d,t,os⟩:=by
 have hrest:lookupAlong bmB name=pure y:=by rw[typeLookup_eq,hbm]at hB;exact hB
 rw[typeLookup_eq]
 refine wpAny_bind (wpAny_mroOf_exc hC ?_)
 rw[lookupAlong_cons]
 refine wpAny_bind (wpAny_classOwn_exc hC hn ?_)
 cases hv:mN name with
 | some v=>rw[hv]at hq;exact wpAny_pure hq
 | none=>rw[hv]at hq;exact lookN T hp hrest hq
end
end PySem
namespace L2
open PySem PySem.Spec PyProof.Rows
section
variable {P:Program}{w:World}{K:PySem.W.Frag}{A:Around}{s:Shared}{k:Nat}{f e C N:Addr}{name qual at_:Str}{params:Arguments}{scope:Scope}{dV kV doc pm cdv ct oc u:Value}{an od:Option Addr}
 {osl:Array (Option Value)}{nm q:Str}{bs bm bmB:List Value}{sn:List Str}{sub:List Value}{ab:Bool}{col:Option Bool}{dd:Option Addr}{k0 k1 k2 k3 k5:Option Value}{B newId sa owner:String}{mN:Str→Option Value}{oe:Obj}{Pn:Str→Prop}{p1 p2 p3 p4:Pos}
end
end L2
namespace PySem
open Sem (wp)
section
variable {M:Model}{prog:Program}{w:World}{A:Around}{E:Value→Shared→Prop}{s:Shared}{env:Env}
variable {nm q:Str}{C N:Addr}{bs bm bmB:List Value}{hdct:Bool}{sn:List Str}{sub:List Value}{ab:Bool}{col:Option Bool}{dd:Option Addr}{k0 k1 k2 k3 k5:Option Value}{B newId initId:String}
theorem raiseT {x:Sem Value}{Q:Flow→Shared→Prop}(hbase:bm.contains (.type "BaseException")=true) (hh:A.handled=none)
  (h:wpAny M A x (fun v s1=>∃e dct t sl,v = .ref e∧s1.heap.get? C=some (excClassObj nm q C N bs bm hdct sn sub ab col dd k0 k1 k2 k3 k5 newId) ∧
   s1.heap.get? e=some ⟨.ref C,dct,.fields #[.ref t,.none,.none,.none,.bool false,.none],sl⟩∧E (.ref e) s1) E s) :
  wpAny M A (raiseStmt env (some x) none) Q E s:=by
 have hcB:(Value.ref C::bm).contains (.type "BaseException")=true:=by rw[List.contains_cons,hbase,Bool.or_true]
 unfold raiseStmt
 refine wpAny_bind (wpAny_mono h (fun v s1 h1=>?_) fun _ _ x=>x)
 obtain⟨e,dct,t,sl,rfl,hC,he,hE⟩:=h1
 obtain⟨hp,g,d,tk,os⟩:=s1
 repeat (first|with_reducible refine wpAny_loadPart_at he ?_|with_reducible refine wpAny_loadPart_at hC ?_|(with_reducible refine wpAny_isSubtype_exc hC ?_;rw[hcB])|wp_step)
 exact wpAny_raiseNew_none hh hE
theorem Raise_plainT (F:ExcBaseFacts B newId initId bmB) {mN:Str→Option Value}{x:Str}{np cpos pos:Pos}{args:List Expr}{Q:Flow→Shared→Prop}
  (hbase:bm.contains (.type "BaseException")=true) (hh:A.handled=none) (hplain:(backTo cpos (starEach args env)).any (·.1)=false) (hni:mN "__init__" = none)
  (h:wpAny (model prog w) A (eval (.Name x np) env) (fun f s1=>f = .ref C∧wpAny (model prog w) A (evalArgs (.ref C) true (backTo cpos (starEach args env)) [])
   (fun a s2=>a.kw=[]∧a.pos.length≤sizeLine∧s2.heap.get? C=some (excClassObj nm q C N bs bm hdct sn sub ab col dd k0 k1 k2 k3 k5 newId)∧s2.heap.Ns N mN∧OwnTail s2.heap bmB bm ∧
    ∀h' e,Heap.MadeExcOf s2.heap h' e (.ref C) a.pos→s2.heap.objs.size≤e→E (.ref e) { s2 with heap:=h' }) E s1) E s) :
  wpAny (model prog w) A (exec (.Raise (some (.Call (.Name x np) args [] cpos)) none pos) env) Q E s:=by
 rw[arm_exec_Raise]
 refine wpAny_bind (wpAny_standAt (raiseT (C:=C) (nm:=nm) (q:=q) (N:=N) (bs:=bs) (bm:=bm) (hdct:=hdct) (sn:=sn) (sub:=sub) (ab:=ab) (col:=col) (dd:=dd) (k0:=k0) (k1:=k1) (k2:=k2) (k3:=k3) (k5:=k5) (newId:=newId) hbase hh (wpAny_bind (wpAny_mono (wpAny_Call_ofName (wpAny_mono h (fun f s1 h1=>?_) fun _ _ x=>x)) (fun v s3 h3=>wpAny_bind (wpAny_standAt (wpAny_pure h3))) fun _ _ x=>x))))
 obtain⟨rfl,h1⟩:=h1
 unfold callWith
 refine wpAny_bind (wpAny_holding (wpAny_mono h1 (fun a s2 h2=>wpAny_bind (wpAny_standAt ?_)) fun _ _ x=>x))
 obtain⟨apos,akw⟩:=a
 obtain⟨hkw,hlen,hC,hn,T,h2⟩:=h2
 obtain rfl:akw=[]:=hkw
 obtain⟨hp,g,d,tk,os⟩:=s2
 simp only[hplain]
 refine wpAny_bind (wpAny_keeperOf_exc hC ?_)
 refine wpAny_bind (call_plainT (hrest:=hlen) F T hC hn hni fun h' e hm hz=>wpAny_bind (wpAny_holding (wpAny_point (wpAny_pure ?_))))
 obtain⟨t,ht,_,_⟩:=hm.there
 exact⟨e,none,t,#[],rfl,hm.keeps _ _ hC,ht,h2 h' e hm hz⟩
end
end PySem
namespace PySem
open Sem (wp)
theorem mapFields_at {o:Obj}{vs:Array Value}(h:o.data = .fields vs) (f:Array Value→Array Value):Obj.mapFields f o = { o with data:=.fields (f vs) }:=by
 obtain⟨c,d,dt,sl⟩:=o
 subst h
 rfl
structure Entered (l:List Env) (e:Addr) (oe:Obj) (h h':Heap):Prop where
 exc:∃vs T oT ts x,h'.get? e=some { oe with data:=.fields vs }∧vs[1]? = some (.ref T)∧h.objs.size≤T∧T≠e∧h'.get? T=some oT∧oT.data = .fields ts∧ts[3]? = some x
 keep:∀b o,b≠e→b∉l.filterMap (·.frame)→h.get? b=some o→h'.get? b=some o
 slot:∀b o,b≠e→h.get? b=some o→∃sl,h'.get? b=some { o with slots:=sl }
section
variable {M:Model}{A:Around}{E:Value→Shared→Prop}{s:Shared}
theorem newEntryS {base:Heap}{env e0:Env}{outer:List Env}{L e:Addr}{oe:Obj}{vs:Array Value}{head:Value}{hadNext:Bool}{Q:Unit→Shared→Prop}
  (hfr:A.frames=some (e0::outer)) (hl:s.heap.FunFrames base (e0::outer)) (hf:e0.frame=some L) (hf':env.frame=some L)
  (he:s.heap.get? e=some oe) (hd:oe.data = .fields vs) (hsz:1<vs.size)
  (h:∀h',Entered (e0::outer) e oe s.heap h'→Q () { s with heap:=h' }) :
  wpAny M A (do let a ← frameOf env;let pl ← entryPlaceOf L hadNext;let b ← EntryCells.newEntry head a .none (rawInt L) .none pl;setField (.ref e) 1 b) Q E s:=by
 have fe:frameOf env=frameOf e0:=by unfold frameOf;rw[hf,hf']
 rw[fe]
 have hene:e∉(e0::outer).filterMap (·.frame):=fun hm=>by
  obtain⟨_,o,ho,hnf⟩:=hl.mem hm
  rw[he]at ho;injection ho with ho;subst ho;exact hnf vs hd
 refine wpAny_bind (wpAny_frameOf_fun hfr hl hf fun g hg=>?_)
 refine wpAny_bind (wpAny_entryPlaceOf fun pl hpl=>?_)
 unfold EntryCells.newEntry newFields
 refine wpAny_bind (wpAny_newObj_type ?_ (hpl.sizeOk5 _ _ _ _ _))
 have he1:g.get? e=some oe:=(hg.2.1 e hene).trans he
 generalize hT0:({ cls:=.type "traceback",dict:=none,data:=.fields ([head,.ref L,.none,rawInt L,.none]++(if pl.isEmpty then List.replicate 6 Value.none else pl)).toArray }:Obj)=T0
 have hTd:∃ts x,T0.data = .fields ts∧ts[3]? = some x:=by
  rw[← hT0]
  exact⟨_,rawInt L,rfl,by simp⟩
 obtain⟨ts,x3,hts,h3⟩:=hTd
 have he2:=Heap.get?_push_of_some (h:=g) T0 he1
 refine wpAny_setField he2 hd hsz (h _ ?_)
 have hTe:g.objs.size≠e:=Nat.ne_of_gt (Heap.lt_size he1)
 have hd3:=Obj.data_mapFields hd (·.setIfInBounds 1 (Value.ref g.objs.size))
 have he3:=Heap.get?_update_self (Obj.mapFields (·.setIfInBounds 1 (Value.ref g.objs.size))) he2 (Obj.isFreed_of_fields hd3)
 have hT3:=(Heap.get?_update_other (g.push T0) (Obj.mapFields (·.setIfInBounds 1 (Value.ref g.objs.size))) (Ne.symm hTe)).trans (Heap.get?_push_size g (Obj.isFreed_of_fields hts))
 have keep:∀b o,b≠e→g.get? b=some o→((g.push T0).update e (Obj.mapFields (·.setIfInBounds 1 (Value.ref g.objs.size)))).get? b=some o:=fun b o hbe hb=>by
  rw[Heap.get?_update_other _ _ (Ne.symm hbe)]
  exact Heap.get?_push_of_some _ hb
 rw[mapFields_at hd]at he3
 refine⟨⟨_,g.objs.size,_,_,x3,he3,by simp[hsz],?_,hTe,hT3,hts,h3⟩,fun b o hb hf hs=>keep b o hb ((hg.2.1 b hf).trans hs),fun b o hb hs=>?_⟩
 ·exact Nat.le_of_eq hg.1.symm
 ·obtain⟨sl,hs⟩:=hg.2.2 b o hs
  exact⟨sl,keep b _ hb hs⟩
theorem noteFirst {base:Heap}{env e0:Env}{outer:List Env}{L e:Addr}{oe:Obj}{vs:Array Value}{Q:Unit→Shared→Prop}
  (hfr:A.frames=some (e0::outer)) (hl:s.heap.FunFrames base (e0::outer)) (hf0:e0.frame=some L) (hf:env.frame=some L)
  (he:s.heap.get? e=some oe) (hd:oe.data = .fields vs) (h1:vs[1]? = some .none)
  (h:∀h',Entered (e0::outer) e oe s.heap h'→Q () { s with heap:=h' }):wpAny M A (noteFrame (.ref e) env) Q E s:=by
 unfold noteFrame
 simp only[hf]
 refine wpAny_bind (wpAny_field he hd h1 ?_)
 rw[if_neg (by decide)]
 exact newEntryS hfr hl hf0 hf he hd (Array.getElem?_eq_some_iff.mp h1).1 h
structure EnteredX (l:List Env) (e T:Addr) (oe oT:Obj) (h h':Heap):Prop where
 exc:∃vs T' oT' ts x,h'.get? e=some { oe with data:=.fields vs }∧vs[1]? = some (.ref T')∧h.objs.size≤T'∧T'≠e∧h'.get? T'=some oT'∧oT'.data = .fields ts∧ts[3]? = some x
 old:∃ts x,h'.get? T=some { oT with data:=.fields ts }∧ts[3]? = some x
 keep:∀b o,b≠e→b≠T→b∉l.filterMap (·.frame)→h.get? b=some o→h'.get? b=some o
 slot:∀b o,b≠e→b≠T→h.get? b=some o→∃sl,h'.get? b=some { o with slots:=sl }
theorem noteSame {env:Env}{L e T:Addr}{oe oT:Obj}{vs ts:Array Value}{x:Value}{Q:Unit→Shared→Prop}(hf:env.frame=some L)
  (he:s.heap.get? e=some oe) (hd:oe.data = .fields vs) (h1:vs[1]? = some (.ref T)) (hT:s.heap.get? T=some oT) (hdT:oT.data = .fields ts) (h3:ts[3]? = some x) (hx:(x == rawInt L)=true)
  (h:Q () s):wpAny M A (noteFrame (.ref e) env) Q E s:=by
 unfold noteFrame
 simp only[hf]
 refine wpAny_bind (wpAny_field he hd h1 ?_)
 rw[if_pos (show(Value.ref T != Value.none)=true from by simp)]
 refine wpAny_bind (wpAny_field hT hdT h3 ?_)
 rw[if_pos hx]
 exact wpAny_pure h
theorem noteNext {base:Heap}{env e0:Env}{outer:List Env}{L e T:Addr}{oe oT:Obj}{vs ts:Array Value}{x:Value}{Q:Unit→Shared→Prop}
  (hfr:A.frames=some (e0::outer)) (hl:s.heap.FunFrames base (e0::outer)) (hf0:e0.frame=some L) (hf:env.frame=some L)
  (he:s.heap.get? e=some oe) (hd:oe.data = .fields vs) (h1:vs[1]? = some (.ref T)) (hTe:T≠e) (hT:s.heap.get? T=some oT) (hdT:oT.data = .fields ts) (h3:ts[3]? = some x) (hx:¬(x == rawInt L)=true)
  (h:∀h',EnteredX (e0::outer) e T oe oT s.heap h'→Q () { s with heap:=h' }):wpAny M A (noteFrame (.ref e) env) Q E s:=by
 unfold noteFrame
 simp only[hf]
 refine wpAny_bind (wpAny_field he hd h1 ?_)
 rw[if_pos (show(Value.ref T != Value.none)=true from by simp)]
 refine wpAny_bind (wpAny_field hT hdT h3 ?_)
 rw[if_neg hx]
 have hs3:=(Array.getElem?_eq_some_iff.mp h3).1
 refine wpAny_bind (wpAny_setField hT hdT hs3 ?_)
 have other:∀b,b≠T→(s.heap.update T (Obj.mapFields (·.setIfInBounds 3 Value.none))).get? b=s.heap.get? b:=fun b hb=>Heap.get?_update_other _ _ (Ne.symm hb)
 have atT:=Heap.get?_update_self (Obj.mapFields (·.setIfInBounds 3 Value.none)) hT (Obj.isFreed_of_fields (Obj.data_mapFields hdT _))
 rw[mapFields_at hdT]at atT
 have noRec:∀b o,s.heap.get? b=some o→(∀vs,o.data ≠ .fields vs)→b≠T:=fun b o hb hnf q=>by
  rw[q,hT]at hb;injection hb with hb;subst hb;exact hnf ts hdT
 have nT:T∉(e0::outer).filterMap (·.frame):=fun hm=>by
  obtain⟨_,o,ho,hnf⟩:=hl.mem hm
  rw[hT]at ho;injection ho with ho;subst ho;exact hnf ts hdT
 refine newEntryS hfr (hl.of_keeps fun b o hb hnf=>⟨o,(other b (noRec b o hb hnf)).trans hb,rfl⟩) hf0 hf ((other e (Ne.symm hTe)).trans he) hd (Array.getElem?_eq_some_iff.mp h1).1 fun h' x=>h h' ?_
 obtain⟨vs',T',oT',ts',x3,g1,g2,g3,g4,g5,g6,g7⟩:=x.exc
 refine⟨⟨vs',T',oT',ts',x3,g1,g2,?_,g4,g5,g6,g7⟩,⟨_,Value.none,x.keep _ _ hTe nT atT,by simp[hs3]⟩,fun b o b1 b2 b3 hb=>x.keep b o b1 b3 ((other b b2).trans hb),fun b o b1 b2 hb=>x.slot b o b1 ((other b b2).trans hb)⟩
 rw[Heap.size_after_update]at g3;exact g3
end
end PySem
namespace L2
open PySem PySem.Spec PyProof.Rows
def ExP (e C:Addr) (D T:Option Addr):Heap→Prop:=fun h=>∃vs sl,h.get? e=some ⟨.ref C,D,.fields vs,sl⟩∧vs[1]? = some (match T with|some t=>Value.ref t|none=>.none)
def TbP (T:Addr):Heap→Prop:=fun h=>∃oT ts x,h.get? T=some oT∧oT.data = .fields ts∧ts[3]? = some x
structure Exc (H:Hp) (e C:Addr) (D T:Option Addr) (a:Str) (v:V):Prop where
 ex:H e=some (.ext (ExP e C D T))
 xd:∀d,D=some d→H d=some (.xd [(a,v)])
 tb:∀t,T=some t→H t=some (.ext (TbP t))∧t≠e
section
variable {X:Cx}{pins:List (Addr×Obj)}{σ:St}{H H':Hp}{s:Shared}{h':Heap}
theorem Inv.flown (I:Inv X pins σ H s) {S:Addr→Prop}
  (keep:∀b o,¬ S b→b∉frs X.stack→s.heap.get? b=some o→h'.get? b=some o)
  (slot:∀b o,¬ S b→s.heap.get? b=some o→∃sl,h'.get? b=some { o with slots:=sl })
  (sx:∀b,S b→∃φ,H b=some (.ext φ)) (st:∀b,S b→∃o,h'.get? b=some o)
  (hn:∀b,¬ S b→(H b≠none ∨ ∃o,s.heap.get? b=some o)→H' b=H b)
  (hok:HOk X.prog X.w H' h'):Inv X pins σ H' { s with heap:=h' }:=by
 have nS:∀b,H b=none→¬ S b:=fun b e z=>by obtain⟨φ,q⟩:=sx b z;rw[q]at e;cases e
 have nfr:∀b,b≠X.env.locals→b∉X.fs→b∉frs X.stack:=fun b n1 n2 z=>by
  rcases I.ok.stk with e|⟨e,hf⟩
  ·rw[e]at z;exact n2 z
  ·rw[e]at z
   unfold frs at z
   rw[List.filterMap_cons,hf]at z
   rcases List.mem_cons.mp z with q|q
   ·exact n1 q
   ·exact n2 q
 have nl:∀b o,X.s₀.heap.get? b=some o→b≠X.env.locals:=fun b o q z=>by
  rw[z]at q
  exact absurd (Nat.lt_of_lt_of_le (Heap.lt_size q) I.ok.above) (Nat.lt_irrefl _)
 have same:∀b u,H b=some u→(∀φ,u ≠ .ext φ)→H' b=some u:=fun b u q n=>by
  rw[hn b (fun z=>by obtain⟨φ,r⟩:=sx b z;rw[q]at r;exact n φ (Option.some.inj r)) (.inl (by rw[q];intro z;cases z))];exact q
 have cellK:∀x c v,X.env.cells.lookup x=some c→s.heap.IsCell c v→h'.IsCell c v:=fun x c v e ⟨o,ho,hd⟩=>by
  obtain⟨sl,q⟩:=slot c o (nS c (I.freeC x c e)) ho
  exact⟨_,q,hd⟩
 have hl0:∃o,s.heap.get? X.env.locals=some o:=by obtain⟨_,⟨o,_,_,ho,_⟩,_⟩:=I.loc;exact⟨o,ho⟩
 refine⟨I.ok,I.os,I.bare,⟨fun b o q n f x=>?_,fun b o q n f x=>?_,fun b o q n x=>?_,fun b o q x=>?_,fun b xs q=>?_,fun b o u q=>?_,fun b ps q=>?_⟩,?_,fun x c e=>?_,?_,fun x c e=>?_,fun p hp=>?_,hok,I.len⟩
 ·exact keep b o (nS b (I.base.free b o q n x)) (nfr b (nl b o q) f) (I.base.keep b o q n f x)
 ·obtain⟨sl,r⟩:=I.base.slot b o q n f x
  obtain⟨sl',r'⟩:=slot b _ (nS b (I.base.free b o q n x)) r
  exact⟨sl',r'⟩
 ·have z:=I.base.free b o q n x
  obtain⟨o',r⟩:=I.base.there b o q x
  rw[hn b (nS b z) (.inr ⟨o',r⟩)];exact z
 ·obtain⟨o',r⟩:=I.base.there b o q x
  by_cases c:S b
  ·exact st b c
  ·obtain⟨sl,r'⟩:=slot b o' c r
   exact⟨_,r'⟩
 ·exact same b _ (I.base.tups b xs q) (by intro φ z;cases z)
 ·exact same b _ (I.base.frzs b o u q) (by intro φ z;cases z)
 ·obtain⟨more,r⟩:=I.base.tbls b ps q
  exact⟨more,same b _ r (by intro φ z;cases z)⟩
 ·obtain⟨m,⟨o,es,ep,ho,hd,r⟩,hl⟩:=I.loc
  obtain⟨sl,q⟩:=slot _ o (nS _ I.free) ho
  refine⟨m,⟨_,es,ep,q,hd,r⟩,fun i x v e1 e2 e3=>?_⟩
  obtain⟨u,ru,lk⟩:=hl i x v e1 e2 e3
  refine⟨u,ru,?_⟩
  rcases lk with lk|⟨k,c,hc,ic⟩
  ·exact .inl lk
  ·exact .inr ⟨k,c,hc,cellK x c _ hc ic⟩
 ·obtain⟨v,ic⟩:=I.cell x c e
  exact⟨v,cellK x c v e ic⟩
 ·rw[hn _ (nS _ I.free) (.inr hl0)];exact I.free
 ·obtain⟨v,o,ho,_⟩:=I.cell x c e
  rw[hn _ (nS _ (I.freeC x c e)) (.inr ⟨o,ho⟩)];exact I.freeC x c e
 ·obtain⟨p1,p2,p3,p4,p5⟩:=I.pin p hp
  exact⟨keep _ _ (nS _ p2) (nfr _ p3 p4) p1,by rw[hn _ (nS _ p2) (.inr ⟨_,p1⟩)];exact p2,p3,p4,p5⟩
theorem Inv.note (I:Inv X pins σ H s) {e C:Addr}{D T:Option Addr}{a:Str}{v:V}{e0:Env}{o0:List Env}{L:Addr}(hst:X.stack=e0::o0) (hf0:e0.frame=some L) (hf:X.env.frame=some L) (x:Exc H e C D T a v) {Q:Unit→Shared→Prop}{E:Value→Shared→Prop}
  (k:∀(T':Addr) (H':Hp) (h':Heap),Exc H' e C D (some T') a v→(∀b o,b≠e→H b=some o→H' b=some o)→Inv X pins σ H' { s with heap:=h' }→Q () { s with heap:=h' }) :
  wpAny (model X.prog X.w) X.A (noteFrame (.ref e) X.env) Q E s:=by
 obtain⟨⟨vs,sl,he,h1⟩,_,_⟩:=I.hok e _ x.ex
 have stE:∀(T':Addr) (h1 h2:Heap),ExP e C D (some T') h1→(∀o,h1.get? e=some o→h2.get? e=some o)→ExP e C D (some T') h2:=fun T' h1 h2 ⟨vs,sl,q,r⟩ kk=>⟨vs,sl,kk _ q,r⟩
 have stT:∀(T':Addr) (h1 h2:Heap),TbP T' h1→(∀o,h1.get? T'=some o→h2.get? T'=some o)→TbP T' h2:=fun T' h1 h2 ⟨o,ts,y,q,r⟩ kk=>⟨o,ts,y,kk _ q,r⟩
 have fin:∀(h':Heap) (T':Addr) (S:Addr→Prop),s.heap.objs.size≤T'→T'≠e→S e→(∀b,S b→∃φ,H b=some (.ext φ))→(∀b,S b→b≠e→b≠T'∧H b=some (.ext (TbP b))∧TbP b h') →
   (∀b o,¬ S b→b∉frs X.stack→s.heap.get? b=some o→h'.get? b=some o)→(∀b o,¬ S b→s.heap.get? b=some o→∃sl,h'.get? b=some { o with slots:=sl }) →
   ExP e C D (some T') h'→TbP T' h'→Q () { s with heap:=h' }:=fun h' T' S hz hTe hS sx so keep slot pe pt=>by
  have nT:=I.hok.fresh hz
  refine k T' (upd (upd H e (.ext (ExP e C D (some T')))) T' (.ext (TbP T'))) h' ⟨by rw[upd_ne hTe.symm,upd_same],fun d q=>?_,fun t q=>?_⟩ (fun b o ne q=>by rw[upd_ne (ne_of_none q nT),upd_ne ne];exact q) (I.flown (S:=S) keep slot sx (fun b hb=>?_) (fun b hb hh=>?_) fun b u q=>?_)
  ·have hd:=x.xd d q
   rw[upd_ne (ne_of_none hd nT),upd_ne (ne_of hd x.ex (by intro z;cases z))];exact hd
  ·cases q
   exact⟨upd_same,hTe⟩
  ·by_cases c:b=e
   ·subst c;obtain⟨_,_,q,_⟩:=pe;exact⟨_,q⟩
   ·obtain⟨_,_,o,_,_,q,_⟩:=so b hb c;exact⟨_,q⟩
  ·have ne:b≠e:=fun z=>hb (z ▸ hS)
   have nt:b≠T':=fun z=>by
    subst z
    rcases hh with hh|⟨o,ho⟩
    ·exact hh nT
    ·exact absurd (Nat.lt_of_lt_of_le (Heap.lt_size ho) hz) (Nat.lt_irrefl _)
   rw[upd_ne nt,upd_ne ne]
  ·by_cases c:b=T'
   ·subst c
    rw[upd_same]at q;cases q
    obtain⟨o,ts,y,r,r'⟩:=id pt
    exact⟨pt,⟨o,r⟩,stT b⟩
   rw[upd_ne c]at q
   by_cases c2:b=e
   ·subst c2
    rw[upd_same]at q;cases q
    obtain⟨_,_,r,_⟩:=id pe
    exact⟨pe,⟨_,r⟩,stE T'⟩
   rw[upd_ne c2]at q
   by_cases c3:S b
   ·obtain⟨_,q',pb⟩:=so b c3 c2
    rw[q]at q';cases q'
    obtain⟨o,ts,y,r,r'⟩:=id pb
    exact⟨pb,⟨o,r⟩,stT b⟩
   have back:∀c u,H c=some u→(∀φ,u ≠ .ext φ)→upd (upd H e (.ext (ExP e C D (some T')))) T' (.ext (TbP T')) c=some u:=fun c u qc n=>by
    rw[upd_ne (fun z=>by rw[z,nT]at qc;cases qc),upd_ne (fun z=>by rw[z,x.ex]at qc;exact n _ (Option.some.inj qc).symm)];exact qc
   refine(I.hok b u q).stay (fun c o hc r=>keep c o ?_ ?_ r) (fun c qc=>back c _ qc (by intro φ z;cases z)) fun c xs qc=>back c _ qc (by intro φ z;cases z)
   ·rcases hc with rfl|hc
    ·exact c3
    ·intro z;obtain⟨φ,r'⟩:=sx c z;rw[hc]at r';cases r'
   ·intro z
    have hz2:H c=none:=I.stkFree c z
    rcases hc with rfl|hc
    ·rw[q]at hz2;cases hz2
    ·rw[hc]at hz2;cases hz2
 have frA:X.A.frames=some (e0::o0):=by rw[← hst];exact I.ok.frames
 have frS:s.heap.FunFrames X.base (e0::o0):=by rw[← hst];exact I.stack
 cases T with
 | none =>
  refine noteFirst frA frS hf0 hf he rfl h1 fun h' y=>?_
  obtain⟨vs',T',oT,ts,x3,q1,q2,q3,q4,q5,q6,q7⟩:=y.exc
  exact fin h' T' (· = e) q3 q4 rfl (fun b z=>by subst z;exact⟨_,x.ex⟩) (fun b z n=>absurd z n) (fun b o n f q=>y.keep b o n (by rw[hst]at f;exact f) q) (fun b o n q=>y.slot b o n q) ⟨vs',sl,q1,q2⟩ ⟨oT,ts,x3,q5,q6,q7⟩
 | some T =>
  obtain⟨hT,hTe⟩:=x.tb T rfl
  obtain⟨⟨oT,ts,x3,hT0,hdT,h3⟩,_,_⟩:=I.hok T _ hT
  by_cases hx:(x3 == rawInt L)=true
  ·exact noteSame hf he rfl h1 hT0 hdT h3 hx (k T H s.heap x (fun b o _ q=>q) I)
  refine noteNext frA frS hf0 hf he rfl h1 hTe hT0 hdT h3 hx fun h' y=>?_
  obtain⟨vs',T',oT',ts',x4,q1,q2,q3,q4,q5,q6,q7⟩:=y.exc
  obtain⟨ts2,x5,q8,q9⟩:=y.old
  have tt:T≠T':=fun z=>by rw[z]at hT0;exact absurd (Nat.lt_of_lt_of_le (Heap.lt_size hT0) q3) (Nat.lt_irrefl _)
  exact fin h' T' (fun b=>b=e∨b=T) q3 q4 (.inl rfl) (fun b z=>by rcases z with rfl|rfl;exact⟨_,x.ex⟩;exact⟨_,hT⟩) (fun b z n=>by
   rcases z with z|rfl
   ·exact absurd z n
   ·exact⟨tt,hT,_,ts2,x5,q8,rfl,q9⟩) (fun b o n f q=>y.keep b o (fun z=>n (.inl z)) (fun z=>n (.inr z)) (by rw[hst]at f;exact f) q) (fun b o n q=>y.slot b o (fun z=>n (.inl z)) (fun z=>n (.inr z)) q) ⟨vs',sl,q1,q2⟩ ⟨oT',ts',x4,q5,q6,q7⟩
theorem Inv.flight (I:Inv X pins σ H s) {e C T:Addr}{D:Option Addr}{a:Str}{v:V}{A:Around}{fr:Option Addr}(x:Exc H e C D (some T) a v) {Q:Unit→Shared→Prop}{E:Value→Shared→Prop}
  (k:∀(h':Heap),Inv X pins σ H { s with heap:=h' }→(∀b,b≠T→h'.get? b=s.heap.get? b)→Q () { s with heap:=h' }) :
  wpAny (model X.prog X.w) A (setFlight (.ref e) fr) Q E s:=by
 obtain⟨⟨vs,sl,he,h1⟩,_,_⟩:=I.hok e _ x.ex
 obtain⟨hT,hTe⟩:=x.tb T rfl
 obtain⟨⟨oT,ts,x3,hT0,hdT,h3⟩,_,stT⟩:=I.hok T _ hT
 have hs3:=(Array.getElem?_eq_some_iff.mp h3).1
 have other:∀b,b≠T→(s.heap.update T (Obj.mapFields (·.setIfInBounds 3 (fr.elim Value.none fun f=>rawInt f)))).get? b=s.heap.get? b:=fun b hb=>Heap.get?_update_other _ _ (Ne.symm hb)
 have atT:=Heap.get?_update_self (Obj.mapFields (·.setIfInBounds 3 (fr.elim Value.none fun f=>rawInt f))) hT0 (Obj.isFreed_of_fields (Obj.data_mapFields hdT _))
 rw[mapFields_at hdT]at atT
 unfold setFlight
 refine wpAny_bind (wpAny_field he rfl h1 ?_)
 rw[if_pos (show(Value.ref T != Value.none)=true from by simp)]
 refine wpAny_setField hT0 hdT hs3 (k _ (I.flown (S:=(· = T)) (fun b o n _ q=>(other b n).trans q) (fun b o n q=>⟨o.slots,(other b n).trans q⟩) (fun b z=>by subst z;exact⟨_,hT⟩) (fun b z=>by subst z;exact⟨_,atT⟩) (fun b _ _=>rfl) fun b u q=>?_) other)
 by_cases c:b=T
 ·subst c
  rw[hT]at q;cases q
  exact⟨⟨_,_,fr.elim Value.none (fun f=>rawInt f),atT,rfl,by simp[hs3]⟩,⟨_,atT⟩,stT⟩
 ·refine(I.hok b u q).stay (fun c' o hc r=>(other c' ?_).trans r) (fun _ q=>q) fun _ _ q=>q
  rcases hc with rfl|hc
  ·exact c
  ·intro z;rw[z,hT]at hc;cases hc
end
end L2
namespace L2
open PySem PySem.Spec PyProof.Rows
structure XCls (K:PySem.W.Frag) (C:Addr) (a:Str):Prop where
 ex:∃(nm q:Str) (N:Addr) (bs bm bmB:List Value) (sn:List Str) (sub:List Value) (ab:Bool) (col:Option Bool) (dd:Option Addr) (k0 k1 k2 k3 k5:Option Value) (newId initId sa owner:String) (fI:Addr) (name qual:Str) (params:Arguments) (scope:Scope)
   (dV kV doc pm cdv ct:Value) (an od:Option Addr) (osl:Array (Option Value)) (p1 p2 p3 p4:Pos),
  ExcBaseFacts "ValueError" newId initId bmB∧StoreFacts "ValueError" bmB sa owner∧typeLookup (.type "ValueError") a=pure none∧bm.contains (.type "BaseException")=true ∧
  K.lookup C=some (excClassObj nm q C N bs bm true sn sub ab col dd k0 k1 k2 k3 k5 newId)∧(∀h,K.In h→TlN h bmB (fun n=>n = "__init__" ∨ n = "__setattr__" ∨ n=a) bm) ∧
  (∀h,K.In h→∃mN,h.Ns N mN∧mN "__init__" = some (.ref fI)∧mN "__setattr__" = none∧mN a=none) ∧
  K.lookup fI=some ⟨.type "function",od,.func (PySem.W.fnOf name qual params [.Assign [.Attribute (.Name "self" p1) a p2] (.Name a p3) p4] scope dV kV doc pm an cdv ct),osl⟩∧PySem.W.codeIn K cdv qual=true ∧
  FnScope ["self",a] ["self",a] scope∧(∀env,swapsWith (.Name a p3) (some (.Attribute (.Name "self" p1) a p2)) p4.line env=pure false)∧scope.names.lookup ("self" : Str)=some .local∧scope.names.lookup a=some .local∧a ≠ "self"∧(a ==("__debug__" : Str))=false ∧
  ∀s e u,BindsTo s (PySem.W.fnOf name qual params [.Assign [.Attribute (.Name "self" p1) a p2] (.Name a p3) p4] scope dV kV doc pm an cdv ct) ⟨[.ref e,u],[]⟩ [("self",.ref e),(a,u)]
theorem exc_ns {nm q nm' q':Str}{C N C' N':Addr}{bs bm bs' bm':List Value}{hdct hdct':Bool}{sn sn':List Str}{sub sub':List Value}{ab ab':Bool}{col col':Option Bool}{dd dd':Option Addr}{k0 k1 k2 k3 k5 k0' k1' k2' k3' k5':Option Value}{newId newId':String}(h:excClassObj nm q C N bs bm hdct sn sub ab col dd k0 k1 k2 k3 k5 newId=excClassObj nm' q' C' N' bs' bm' hdct' sn' sub' ab' col' dd' k0' k1' k2' k3' k5' newId'):N=N' :=
 congrArg (fun o:Obj=>match o.data with | .cls cd=>cd.ns|_=>0) h
theorem XCls.uniq {K:PySem.W.Frag}{C:Addr}{a b:Str}{h:Heap}(X:K.In h) (x:XCls K C a) (y:XCls K C b):a=b:=by
 obtain⟨nm,q,N,bs,bm,bmB,sn,sub,ab,col,dd,k0,k1,k2,k3,k5,newId,initId,sa,owner,fI,name,qual,params,scope,dV,kV,doc,pm,cdv,ct,an,od,osl,p1,p2,p3,p4,_,_,_,_,lC,_,hN,lf,_⟩:=x.ex
 obtain⟨nm',q',N',bs',bm',bmB',sn',sub',ab',col',dd',k0',k1',k2',k3',k5',newId',initId',sa',owner',fI',name',qual',params',scope',dV',kV',doc',pm',cdv',ct',an',od',osl',p1',p2',p3',p4',_,_,_,_,lC',_,hN',lf',_⟩:=y.ex
 have e1:=exc_ns (Option.some.inj (lC.symm.trans lC'))
 subst e1
 obtain⟨m,g1,g2,_⟩:=hN h X
 obtain⟨m',g1',g2',_⟩:=hN' h X
 have e2:m=m':=g1.eq_nsMap.trans g1'.eq_nsMap.symm
 rw[e2,g2']at g2
 have e3:fI'=fI:=Value.ref.inj (Option.some.inj g2)
 subst e3
 have e4:=Option.some.inj (lf.symm.trans lf')
 have e5:=congrArg (fun o:Obj=>match o.data with | .func f=>(match f.body with | .stmts [.Assign _ (.Name x _) _]=>x|_ => "")|_=>("" : Str)) e4
 exact e5
structure XPl (K:PySem.W.Frag) (C:Addr):Prop where
 ex:∃(nm q:Str) (N:Addr) (bs bm bmB:List Value) (sn:List Str) (sub:List Value) (ab:Bool) (col:Option Bool) (dd:Option Addr) (k0 k1 k2 k3 k5:Option Value) (newId initId:String),
  ExcBaseFacts "ValueError" newId initId bmB∧bm.contains (.type "BaseException")=true∧K.lookup C=some (excClassObj nm q C N bs bm true sn sub ab col dd k0 k1 k2 k3 k5 newId)∧(∀h,K.In h→OwnTail h bmB bm) ∧
  ∀h,K.In h→∃mN,h.Ns N mN∧mN "__init__" = none
theorem XPl.no {K:PySem.W.Frag}{C:Addr}{a:Str}{h:Heap}(X:K.In h) (x:XPl K C) (y:XCls K C a):False:=by
 obtain⟨nm,q,N,bs,bm,bmB,sn,sub,ab,col,dd,k0,k1,k2,k3,k5,newId,initId,_,_,lC,_,hN⟩:=x.ex
 obtain⟨nm',q',N',bs',bm',bmB',sn',sub',ab',col',dd',k0',k1',k2',k3',k5',newId',initId',sa',owner',fI',name',qual',params',scope',dV',kV',doc',pm',cdv',ct',an',od',osl',p1',p2',p3',p4',_,_,_,_,lC',_,hN',lf',_⟩:=y.ex
 have e1:=exc_ns (Option.some.inj (lC.symm.trans lC'))
 subst e1
 obtain⟨m,g1,g2⟩:=hN h X
 obtain⟨m',g1',g2',_⟩:=hN' h X
 have e2:m=m':=g1.eq_nsMap.trans g1'.eq_nsMap.symm
 rw[← e2,g2]at g2'
 cases g2'
def XMk (K:PySem.W.Frag) (C:Addr) (D:Option Addr) (a:Str):Prop:=(∃d,D=some d∧XCls K C a) ∨(D=none∧XPl K C)
def CX1 (P:Program) (w:World) (K:PySem.W.Frag):CXT:=fun outer H s E ev s'=>∃(e:Addr) (H' H0:Hp) (C:Addr) (D T:Option Addr) (a:Str) (v:V) (u:Value),ev = .ref e∧s'.os=s.os∧AllBare s'.gens∧Un (frs outer) [] H H' s.heap s'.heap∧HOk P w H' s'.heap ∧
 Exc H' e C D T a v∧XMk K C D a∧RelV v u∧H0 e=none∧(∀b o,H0 b=some o→H' b=some o)∧E u (some C) H0
def Throws (X:Cx) (E:XK):Prop:=∀(pins:List (Addr×Obj)) (σ:St) (H H0:Hp) (s:Shared) (e C:Addr) (D T:Option Addr) (a:Str) (v:V) (u:Value),Inv X pins σ H s→Exc H e C D T a v→XMk X.K C D a→RelV v u→H0 e=none→(∀b o,H0 b=some o→H b=some o)→E u (some C) H0→X.xe (.ref e) s
theorem sub_next {H H' H0:Hp}{e:Addr}(k':∀b o,b≠e→H b=some o→H' b=some o) (n0:H0 e=none) (k:∀b o,H0 b=some o→H b=some o):∀b o,H0 b=some o→H' b=some o:=fun b o q=>k' b o (ne_of_none q n0) (k b o q)
section
variable {P:Program}{w:World}{K:PySem.W.Frag}{mg:Str→Option Value}{base:Heap}{N:List Str}{qual:Str}{scope:Scope}{f:Addr}{cd:Value}{A:Around}{outer:List Env}{s0:Shared}{H00:Hp}{E:XK}
theorem throws_def:Throws (cxOf (CX1 P w K) P w K mg base N qual scope f cd A outer s0 H00 E) E:=fun pins σ H H0 s e C D T a v u I x xc rv n0 k q=>by
 show wpAny _ _ (leaving _ (.ref e)) _ _ s
 unfold leaving
 refine wpAny_bind (I.note rfl rfl rfl x fun T' H' h' x' k' I'=>I'.flight x' fun h'' I'' _=>?_)
 exact⟨e,_,H0,C,D,some T',a,v,u,rfl,I''.os,I''.bare,I''.base,I''.hok,x',xc,rv,n0,sub_next k' n0 k,q⟩
end
theorem Throws.passes {X:Cx}{E E':XK}(t:Throws X E) (h:∀u c H,E' u c H→E u c H):Passes (CX1 X.prog X.w X.K) X E':=fun pins σ H s ev s' I ⟨e,H',H0,C,D,T,a,v,u,z,os,bare,un,hok,x,xc,rv,n0,k,q⟩=>by
 subst z
 obtain⟨hh,g,d,tk,os'⟩:=s'
 obtain rfl:os'=s.os:=os
 exact t pins σ H' H0 _ e C D T a v u (I.call (h':=hh) (g':=g) (d':=d) (t':=tk) (ch:=[]) un hok bare (fun b z=>absurd z (by simp))) x xc rv n0 k (h _ _ _ q)
end L2
namespace L2
open PySem PySem.Spec PyProof.Rows
section
variable {X:Cx}{E:XK}{C:Addr}{a x:Str}{k:Nat}{arg:Expr}{ta:TA}{np cpos pos:Pos}
def tRaise0 (C:Addr) (E:XK):TS:=fun _ _ H=>E .none (some C) H
theorem ps_raise0 (thr:Throws X E) (cl:XPl X.K C) (hr:Room k X.A) (hg:Gl X x) (hm:X.mg x=some (.ref C)) (hd:(x ==("__debug__" : Str))=false:=by decide) :
  PS X (.Raise (some (.Call (.Name x np) [] [] cpos)) none pos) (tRaise0 C E):=by
 intro pins s σ H D I h
 obtain⟨nm,q,N,bs,bm,bmB,sn,sub,ab,col,dd,k0,k1,k2,k3,k5,newId,initId,F,hbase,lC,hT,hN⟩:=cl.ex
 obtain⟨mN,nN,hni⟩:=hN _ I.ok.mod.kin
 refine Raise_plainT (C:=C) (nm:=nm) (q:=q) (N:=N) (bs:=bs) (bm:=bm) (bmB:=bmB) (hdct:=true) (sn:=sn) (sub:=sub) (ab:=ab) (col:=col) (dd:=dd) (k0:=k0) (k1:=k1) (k2:=k2) (k3:=k3) (k5:=k5) (newId:=newId) (mN:=mN) F hbase hr.hd rfl hni ?_
 refine thn ((pe_glob hg hm (show RelV (.ref C) (.ref C) from rfl) hd) pins s σ H (fun v H1=>v = .ref C∧H1=H) I ⟨rfl,rfl⟩) fun f s1 ⟨v,H1,I1,rf,e1,e2⟩=>?_
 subst e1 e2
 refine⟨rf,?_⟩
 refine wpAny_pure ?_
 refine⟨rfl,Nat.zero_le _,I1.kIn _ _ lC,nN.keeps I1.bk,hT _ I1.kIn,fun h' e hm hz=>?_⟩
 obtain⟨t,he,ht,_⟩:=hm.there
 have ne:=I1.hok.fresh hz
 have I3:Inv X pins σ (upd H1 e (.ext (ExP e C none none))) { s1 with heap:=h' }:=I1.adopt (ch:=[e]) (t':=s1.toks) (fun b o _ z=>hm.keeps b o z) (fun b hb=>by rw[List.mem_singleton.mp hb];exact I1.fpOk hz ne) (List.mem_singleton.mpr rfl) ⟨⟨_,_,he,rfl⟩,⟨_,he⟩,fun a1 a2 ⟨vs,sl,y,y2⟩ kq=>⟨vs,sl,kq _ y,y2⟩⟩
 exact thr pins σ _ H1 _ e C none none "" .non .none I3 ⟨upd_same,(fun d z=>by cases z),fun t z=>by cases z⟩ (.inr ⟨rfl,cl⟩) rfl ne (fun b o z=>by rw[upd_ne (ne_of_none z ne)];exact z) h
end
end L2
namespace PySem
section
variable {M:Model}{A:Around}{E:Value→Shared→Prop}{h:Heap}{g:Array GenState}{d:Drawn}{t:Nat}{os:OsState}
variable {nm q nm' q':Str}{C N C' N' e:Addr}{bs bm bs' bm':List Value}{hdct hdct':Bool}{sn sn':List Str}{sub sub':List Value}{ab ab':Bool}{col col':Option Bool}{dd dd':Option Addr}{k0 k1 k2 k3 k5 k0' k1' k2' k3' k5':Option Value}{newId newId':String}{oe:Obj}
theorem excMatchesT {Q:Bool→Shared→Prop}(hC:h.get? C=some (excClassObj nm q C N bs bm hdct sn sub ab col dd k0 k1 k2 k3 k5 newId)) (hC':h.get? C'=some (excClassObj nm' q' C' N' bs' bm' hdct' sn' sub' ab' col' dd' k0' k1' k2' k3' k5' newId'))
  (he:h.get? e=some oe) (hcls:oe.cls = .ref C) (hbase:bm'.contains (.type "BaseException")=true)
  (hq:Q ((Value.ref C::bm).contains (.ref C')) ⟨h,g,d,t,os⟩):wpAny M A (excMatches (.ref e) (.ref C')) Q E ⟨h,g,d,t,os⟩:=by
 have hcB:(Value.ref C'::bm').contains (.type "BaseException")=true:=by rw[List.contains_cons,hbase,Bool.or_true]
 have f:=tc_notTuple
 generalize hb:(Value.ref C::bm).contains (.ref C')=b at hq
 unfold excMatches
 repeat (first|(with_reducible refine wpAny_loadPart_at he ?_;rw[hcls])|with_reducible refine wpAny_loadPart_at hC' ?_|(with_reducible refine wpAny_isSubtype_exc hC' ?_;rw[hcB])|(with_reducible refine wpAny_isSubtype_exc hC ?_;rw[hb])|wp_step)
 cases b <;> first|exact hq|(wp_walk;exact hq)
end
end PySem
namespace L2
open PySem PySem.Spec PyProof.Rows
section
variable {X:Cx}{pins:List (Addr×Obj)}{σ:St}{H:Hp}{s:Shared}
def Cx.suite (X:Cx) (e:Addr):Cx:={ X with A:=X.A.mark (some (.ref e)),calm:=false,xe:=fun _ _=>False }
theorem Inv.toSuite (I:Inv X pins σ H s) (e:Addr):Inv (X.suite e) pins σ H s :=
 ⟨⟨I.ok.mod,I.ok.kind,I.ok.glob,I.ok.blt,I.ok.above,I.ok.inj,I.ok.has,I.ok.cab,fun z=>(by cases z),I.ok.frames,I.ok.stk,I.ok.exf,I.ok.bs,I.ok.bsz,I.ok.noex,I.ok.exfs,I.ok.funs,I.ok.frf⟩,I.os,I.bare,I.base,I.loc,I.cell,I.free,I.freeC,I.pin,I.hok,I.len⟩
theorem Inv.ofSuite {e:Addr}(ok:X.Ok) (I:Inv (X.suite e) pins σ H s):Inv X pins σ H s:=⟨ok,I.os,I.bare,I.base,I.loc,I.cell,I.free,I.freeC,I.pin,I.hok,I.len⟩
end
end L2
namespace L2
open PySem PySem.Spec PyProof.Rows
section
variable {X:Cx}{pins:List (Addr×Obj)}{σ:St}{H:Hp}{s:Shared}
theorem Inv.goes {M:Model}{A:Around}{E:Value→Shared→Prop}{i:Nat}{n:Str}{pos:Pos}{Q:Unit→Shared→Prop}(I:Inv X pins σ H s) (hN:X.N.Nodup) (hi:X.N[i]? = some n) (hk:X.env.kindOf n=some .local)
  (h:∀s',Inv X pins (σ.set i none) H s'→Q () s'):wpAny M A (do bindName X.env n .none;unbindBehindTheSuite X.env n pos) Q E s:=by
 obtain⟨m,hn,hl⟩:=id I.loc
 obtain⟨oL,_,_,hoL,_⟩:=id hn
 have hcls:(X.env.scope.kind == .class || (X.env.scope.kind == .module && X.env.locals != X.env.globals))=false:=by rw[I.ok.kind];rfl
 have hiσ:i<σ.length:=by rw[I.len];exact(List.getElem?_eq_some_iff.mp hi).1
 refine wpAny_nameGoes_keeps hk hn hcls fun h' v hn' hs=>h _ ?_
 have ab:∀b o,X.s₀.heap.get? b=some o→b≠X.env.locals:=fun b o e=>Nat.ne_of_lt (Nat.lt_of_lt_of_le (Heap.lt_size e) I.ok.above)
 refine⟨I.ok,I.os,I.bare,⟨fun b o e n hb hx=>(hs.2 b (ab b o e)).trans (I.base.keep b o e n hb hx),fun b o e n hb hx=>?_,I.base.free,fun b o e hx=>?_,I.base.tups,I.base.frzs,I.base.tbls⟩,⟨_,hn',fun j y v' e1 e2 e3=>?_⟩,fun y c e=>?_,I.free,I.freeC,fun p hp=>?_,fun b ob e=>?_,by simpa using I.len⟩
 ·obtain⟨sl,e1⟩:=I.base.slot b o e n hb hx
  exact⟨sl,(hs.2 b (ab b o e)).trans e1⟩
 ·obtain⟨o',e1⟩:=I.base.there b o e hx
  exact⟨o',(hs.2 b (ab b o e)).trans e1⟩
 ·by_cases hj:j=i
  ·subst hj
   rw[List.getElem?_set_self hiσ]at e2;cases e2
  ·rw[List.getElem?_set_ne (Ne.symm hj)]at e2
   obtain⟨u',r',q⟩:=hl j y v' e1 e2 e3
   refine⟨u',r',?_⟩
   rcases q with⟨k,e⟩|⟨k,c,e,z⟩
   ·refine .inl ⟨k,?_⟩
    have:y≠n:=fun e=>hj (nodup_ix hN e1 (e ▸ hi))
    simp[this,e]
   ·exact .inr ⟨k,c,e,z.sameBut hs (I.cne y c e)⟩
 ·obtain⟨w,z⟩:=I.cell y c e
  exact⟨w,z.sameBut hs (I.cne y c e)⟩
 ·obtain⟨p1,p2,p3,p4,p5⟩:=I.pin p hp
  exact⟨(hs.2 _ p3).trans p1,p2,p3,p4,p5⟩
 ·refine(I.hok b ob e).stay (fun c w' hc q=>(hs.2 c ?_).trans q) (fun _ q=>q) fun _ _ q=>q
  rintro rfl
  rcases hc with rfl|hc
  ·rw[I.free]at e;cases e
  ·rw[I.free]at hc;cases hc
end
def XC (K:PySem.W.Frag) (C:Addr) (bm:List Value):Prop:=∃(nm q:Str) (N:Addr) (bs:List Value) (hdct:Bool) (sn:List Str) (sub:List Value) (ab:Bool) (col:Option Bool) (dd:Option Addr) (k0 k1 k2 k3 k5:Option Value) (newId:String),
 K.lookup C=some (excClassObj nm q C N bs bm hdct sn sub ab col dd k0 k1 k2 k3 k5 newId)∧bm.contains (.type "BaseException")=true
def Und (K:PySem.W.Frag) (C C':Addr):Prop:=∃bm bm',XC K C bm∧XC K C' bm'∧(Value.ref C::bm).contains (.ref C')=true
def UndN (K:PySem.W.Frag) (C C':Addr):Prop:=∃bm bm',XC K C bm∧XC K C' bm'∧(Value.ref C::bm).contains (.ref C')=false
def XAt (H:Hp) (e C:Addr) (a:Str) (v:V):Prop:=∃D T,Exc H e C (some D) (some T) a v
def XAt0 (H:Hp) (e C:Addr):Prop:=∃T a v,Exc H e C none (some T) a v
def Ends.gone (D:Ends) (i:Nat):Ends:={ nx:=fun σ H=>D.nx (σ.set i none) H,rt:=D.rt,bk:=fun σ H=>D.bk (σ.set i none) H,ct:=fun σ H=>D.ct (σ.set i none) H }
def Ends.goneO (D:Ends):Option Nat→Ends
 | none=>D
 | some i=>D.gone i
def setO (σ:St) (e:Addr):Option Nat→St
 | none=>σ
 | some i=>σ.set i (some (.ref e))
structure Cl where
 C:Addr
 i:Option Nat
 th:TS
def tHan (K:PySem.W.Frag) (C e:Addr) (σ:St) (H:Hp) (D:Ends):List Cl→Prop
 | []=>False
 | c::r=>(Und K C c.C∧c.th (D.goneO c.i) (setO σ e c.i) H) ∨(UndN K C c.C∧tHan K C e σ H D r)
inductive PHs (X:Cx):List ExceptHandler→List Cl→Prop
 | nil:PHs X [] []
 | named {i:Nat}{n xc:Str}{C':Addr}{np hpos:Pos}{b0:Stmt}{suite:List Stmt}{th:TS}{hs:List ExceptHandler}{cs:List Cl}(hi:X.N[i]? = some n) (hk:X.env.kindOf n=some .local) (hg:Gl X xc) (hm:X.mg xc=some (.ref C'))
   (hs':∀e,PSs (X.suite e) (b0::suite) th) (r:PHs X hs cs) (hd:(xc ==("__debug__" : Str))=false:=by decide):PHs X (.ExceptHandler (some (.Name xc np)) (some n) (b0::suite) hpos::hs) (⟨C',some i,th⟩::cs)
 | bare {xc:Str}{C':Addr}{np hpos:Pos}{b0:Stmt}{suite:List Stmt}{th:TS}{hs:List ExceptHandler}{cs:List Cl}(hg:Gl X xc) (hm:X.mg xc=some (.ref C'))
   (hs':∀e,PSs (X.suite e) (b0::suite) th) (r:PHs X hs cs) (hd:(xc ==("__debug__" : Str))=false:=by decide):PHs X (.ExceptHandler (some (.Name xc np)) none (b0::suite) hpos::hs) (⟨C',none,th⟩::cs)
def tTryN (K:PySem.W.Frag) (m:Nat) (tb:XK→TS) (cs:List Cl):TS:=fun D σ H=>∃E1:XK,tb E1 D σ H∧∀(u:Value) (C:Addr) (H0:Hp),E1 u (some C) H0 →
 ∀(e:Addr) (H':Hp) (σ':St) (v:V),RelV v u→(∀b,XCls K C b→XAt H' e C b v)→(XPl K C→XAt0 H' e C)→(∀b o,H0 b=some o→H' b=some o)→σ'.length=m→tHan K C e σ' H' D cs
section
variable {X:Cx}{pins:List (Addr×Obj)}
theorem han_ok (hN:X.N.Nodup) (ok:X.Ok) {hs:List ExceptHandler}{cs:List Cl}(P:PHs X hs cs) {σ:St}{H:Hp}{e C T:Addr}{Dx:Option Addr}{a:Str}{v:V}{D:Ends}(x:Exc H e C Dx (some T) a v) :
  ∀{s:Shared},Inv X pins σ H s→tHan X.K C e σ H D cs→wpAny (model X.prog X.w) X.A (handleBy (.ref e) X.env hs) (SP X pins D) X.xe s:=by
 induction P with
 | nil=>intro s _ h;exact h.elim
 | @named i n xc C' np hpos b0 suite th hs cs hi hk hg hm hs' r hd ih =>
  intro s J2 h
  refine wpAny_handleBy_cons (codeAny_handlers_test ?_) (by intro z;cases z)
  refine wpAny_mono ((pe_glob (X:=X.suite e) hg hm (show RelV (.ref C') (.ref C') from rfl) hd) pins _ σ H (fun v H3=>v = .ref C'∧H3=H) (J2.toSuite e) ⟨rfl,rfl⟩) (fun c s4 ⟨v',H4,J4,r4,e1,e2⟩=>?_) fun _ _ z=>z.elim
  subst e1 e2
  obtain rfl:c=Value.ref C':=r4
  have J5:=J4.ofSuite ok
  obtain⟨⟨vs,sl,he,_⟩,_,_⟩:=J5.hok e _ x.ex
  obtain⟨hh4,g,d,tk,os⟩:=s4
  rcases h with⟨⟨bm,bm',⟨nm,q1,N,bs,hdct,sn,sub,ab,col,dd,k0,k1,k2,k3,k5,newId,lC,_⟩,⟨nm',q1',N',bs',hdct',sn',sub',ab',col',dd',k0',k1',k2',k3',k5',newId',lC',hbase'⟩,hcon⟩,hth⟩|⟨⟨bm,bm',⟨nm,q1,N,bs,hdct,sn,sub,ab,col,dd,k0,k1,k2,k3,k5,newId,lC,_⟩,⟨nm',q1',N',bs',hdct',sn',sub',ab',col',dd',k0',k1',k2',k3',k5',newId',lC',hbase'⟩,hcon⟩,hth⟩
  ·refine excMatchesT (J5.kIn _ _ lC) (J5.kIn _ _ lC') he rfl hbase' ?_
   rw[hcon]
   refine codeAny_handlers_suite_as ?_
   refine J5.flight x fun h6 J6 _=>?_
   refine store_ok J6 hN hi (.inl hk) (show RelV (.ref e) (.ref e) from rfl) (fun s7 J7=>?_) (.inr hk)
   refine wpAny_mono (hs' e pins s7 _ _ (D.gone i) (J7.toSuite e) hth) (fun f s8 h8=>?_) fun _ _ z=>z.elim
   cases f with
   | next =>
    obtain⟨σ9,H9,J9,q9⟩:=h8
    exact(J9.ofSuite ok).goes hN hi hk fun s' J10=>⟨_,_,J10,q9⟩
   | brk =>
    obtain⟨σ9,H9,J9,q9⟩:=h8
    exact(J9.ofSuite ok).goes hN hi hk fun s' J10=>⟨_,_,J10,q9⟩
   | cont =>
    obtain⟨σ9,H9,J9,q9⟩:=h8
    exact(J9.ofSuite ok).goes hN hi hk fun s' J10=>⟨_,_,J10,q9⟩
   | ret u9 =>
    obtain⟨v9,σ9,H9,J9,r9,q9⟩:=h8
    exact(J9.ofSuite ok).goes hN hi hk fun s' J10=>⟨_,_,_,J10,r9,q9⟩
  ·refine excMatchesT (J5.kIn _ _ lC) (J5.kIn _ _ lC') he rfl hbase' ?_
   rw[hcon]
   exact ih J5 hth
 | @bare xc C' np hpos b0 suite th hs cs hg hm hs' r hd ih =>
  intro s J2 h
  refine wpAny_handleBy_cons (codeAny_handlers_test ?_) (by intro z;cases z)
  refine wpAny_mono ((pe_glob (X:=X.suite e) hg hm (show RelV (.ref C') (.ref C') from rfl) hd) pins _ σ H (fun v H3=>v = .ref C'∧H3=H) (J2.toSuite e) ⟨rfl,rfl⟩) (fun c s4 ⟨v',H4,J4,r4,e1,e2⟩=>?_) fun _ _ z=>z.elim
  subst e1 e2
  obtain rfl:c=Value.ref C':=r4
  have J5:=J4.ofSuite ok
  obtain⟨⟨vs,sl,he,_⟩,_,_⟩:=J5.hok e _ x.ex
  obtain⟨hh4,g,d,tk,os⟩:=s4
  rcases h with⟨⟨bm,bm',⟨nm,q1,N,bs,hdct,sn,sub,ab,col,dd,k0,k1,k2,k3,k5,newId,lC,_⟩,⟨nm',q1',N',bs',hdct',sn',sub',ab',col',dd',k0',k1',k2',k3',k5',newId',lC',hbase'⟩,hcon⟩,hth⟩|⟨⟨bm,bm',⟨nm,q1,N,bs,hdct,sn,sub,ab,col,dd,k0,k1,k2,k3,k5,newId,lC,_⟩,⟨nm',q1',N',bs',hdct',sn',sub',ab',col',dd',k0',k1',k2',k3',k5',newId',lC',hbase'⟩,hcon⟩,hth⟩
  ·refine excMatchesT (J5.kIn _ _ lC) (J5.kIn _ _ lC') he rfl hbase' ?_
   rw[hcon]
   refine codeAny_handlers_suite ?_
   refine J5.flight x fun h6 J6 _=>?_
   refine wpAny_mono (hs' e pins _ _ _ D (J6.toSuite e) hth) (fun f s8 h8=>?_) fun _ _ z=>z.elim
   cases f with
   | next =>
    obtain⟨σ9,H9,J9,q9⟩:=h8
    exact⟨_,_,J9.ofSuite ok,q9⟩
   | brk =>
    obtain⟨σ9,H9,J9,q9⟩:=h8
    exact⟨_,_,J9.ofSuite ok,q9⟩
   | cont =>
    obtain⟨σ9,H9,J9,q9⟩:=h8
    exact⟨_,_,J9.ofSuite ok,q9⟩
   | ret u9 =>
    obtain⟨v9,σ9,H9,J9,r9,q9⟩:=h8
    exact⟨_,_,_,J9.ofSuite ok,r9,q9⟩
  ·refine excMatchesT (J5.kIn _ _ lC) (J5.kIn _ _ lC') he rfl hbase' ?_
   rw[hcon]
   exact ih J5 hth
end
section
variable {X:Cx}{body:List Stmt}{pos:Pos}{tb:XK→TS}{hs:List ExceptHandler}{cs:List Cl}
theorem ps_tryN {h0:ExceptHandler}(hN:X.N.Nodup) (hf:X.env.frame=some X.env.locals) (hst:X.stack=X.env::X.outer)
  (hb:∀(xe:Value→Shared→Prop) (pn:List (Addr×Obj)) (E1:XK),Throws { X with xe:=xe,pn:=pn } E1→PSs { X with xe:=xe,pn:=pn } body (tb E1)) (hP:PHs X (h0::hs) cs) :
  PS X (.Try body (h0::hs) [] [] pos) (tTryN X.K X.N.length tb cs):=by
 intro pins s σ H D I h
 obtain⟨E1,hb1,hh⟩:=h
 refine wpAny_Try_except ?_
 let xe':Value→Shared→Prop:=fun ev s1=>wpAny (model X.prog X.w) X.A (noteFrame ev X.env) (fun _ s2=>wpAny (model X.prog X.w) X.A (setFlight ev none) (fun _ s3=>wpAny (model X.prog X.w) X.A (handleBy ev X.env (h0::hs)) (SP X pins D) X.xe s3) X.xe s2) X.xe s1
 have fwd:Inv { X with xe:=xe',pn:=X.pn++pins } [] σ H s :=
  ⟨⟨I.ok.mod,I.ok.kind,I.ok.glob,I.ok.blt,I.ok.above,I.ok.inj,I.ok.has,I.ok.cab,I.ok.hd,I.ok.frames,I.ok.stk,I.ok.exf,I.ok.bs,I.ok.bsz,I.ok.noex,I.ok.exfs,I.ok.funs,I.ok.frf⟩,I.os,I.bare,I.base,I.loc,I.cell,I.free,I.freeC,fun p hp=>I.pin p (by simpa using hp),I.hok,I.len⟩
 have bwd:∀{pins':List (Addr×Obj)}{σ':St}{H':Hp}{s':Shared},Inv { X with xe:=xe',pn:=X.pn++pins } pins' σ' H' s'→Inv X pins σ' H' s':=fun J =>
  ⟨I.ok,J.os,J.bare,J.base,J.loc,J.cell,J.free,J.freeC,fun p hp=>J.pin p (List.mem_append_left _ hp),J.hok,J.len⟩
 have thr:Throws { X with xe:=xe',pn:=X.pn++pins } E1:=fun pins' σ' H1 H0 s1 e C Dx T a v u I1 x xc rv n0 k q=>by
  have J:=bwd I1
  refine J.note hst hf hf x fun T' H2 h' x2 k2 J2=>J2.flight x2 fun h'' J3 _=>?_
  refine han_ok hN I.ok hP x2 J3 (hh u C H0 q e H2 σ' v rv (fun b y=>?_) (fun y=>?_) (sub_next k2 n0 k) J3.len)
  ·rcases xc with⟨d,rfl,xc⟩|⟨rfl,xc⟩
   ·obtain rfl:=XCls.uniq J3.kIn xc y
    exact⟨d,T',x2⟩
   ·exact(xc.no J3.kIn y).elim
  ·rcases xc with⟨d,rfl,xc⟩|⟨rfl,xc⟩
   ·exact(y.no J3.kIn xc).elim
   ·exact⟨T',a,v,x2⟩
 refine wpAny_mono (hb xe' (X.pn++pins) E1 thr [] s σ H D fwd hb1) (fun f s1 h1=>?_) fun e s1 z=>z
 cases f with
 | next =>
  obtain⟨σ9,H9,J9,q9⟩:=h1
  exact wpAny_execs_nil ⟨_,_,bwd J9,q9⟩
 | brk =>
  obtain⟨σ9,H9,J9,q9⟩:=h1
  exact⟨_,_,bwd J9,q9⟩
 | cont =>
  obtain⟨σ9,H9,J9,q9⟩:=h1
  exact⟨_,_,bwd J9,q9⟩
 | ret u9 =>
  obtain⟨v9,σ9,H9,J9,r9,q9⟩:=h1
  exact⟨_,_,_,bwd J9,r9,q9⟩
end
end L2
namespace L2
open PySem PySem.Spec PyProof.Rows
structure Cal1 (P:Program) (w:World) (K:PySem.W.Frag) (mg:Str→Option Value) (base:Heap) (x:Str) (ps:List Str) (k:Nat) (sp:Sp):Prop where
 ex:∃(f:Addr) (fd:FuncData),FnOk P w K mg base (CX1 P w K) k f fd ps sp∧Binds K fd ps []∧mg x=some (.ref f)∧PySem.W.keepIn K (.ref f)=true
section
variable {X:Cx}{E:XK}{x m:Str}{C:Addr}{ps:List Str}{k:Nat}{sp:Sp}{e o:Expr}{es:List Expr}{t:TA}{ta:TE}{p pos apos:Pos}
theorem pcl1 (C:Cal1 X.prog X.w X.K X.mg X.base x ps k sp) (hp:Passes (CX1 X.prog X.w X.K) X E) (hr:Room k X.A) (ha:PA X (e::es) t) (hg:Gl X x:=by rfl) (hdb:(x ==("__debug__" : Str))=false:=by decide) (he:starEach (e::es) X.env =(false,eval e X.env)::starEach es X.env:=by rfl) (hpl:(backTo pos (starEach es X.env)).any (·.1)=false:=by rfl) :
  PE X (.Call (.Name x p) (e::es) [] pos) (tCall sp [] E t):=by
 obtain⟨f,fd,F,hb,hm,hk⟩:=C.ex
 exact pe_call F hr hg hm hk hb .nil hp ha hdb he hpl
end
section
variable {P:Program}{w:World}{K:PySem.W.Frag}{mg:Str→Option Value}{base:Heap}{C:Addr}{x y qual:Str}{st:Stmt}{f:Addr}{fd:FuncData}{N ps:List Str}{k:Nat}{sp:Sp}
theorem Fun.ok1 (F:Fun K x qual st f fd) (S:FnScope N ps (defScope st)) (len:∀vs H Q E,sp vs H Q E→vs.length=ps.length)
  (hbody:∀(cdv:Value) (A:Around) (outer:List Env) (s:Shared) (H:Hp) (vs:List V) (Q:VK) (E:XK),Room k (A.deeper (envOfC qual (defScope st) s.heap.objs.size f cdv))→sp vs H Q E →
   ∃t,PSs (cxOf (CX1 P w K) P w K mg base N qual (defScope st) f cdv A outer s H E) (defBody st) t∧t { nx:=fun _ H'=>Q .non H',rt:=Q } (start N vs) H):FnOk P w K mg base (CX1 P w K) (k+1) f fd ps sp:=by
 obtain⟨oc,od,kV,doc,pm,an,cdv,ct,osl,rfl,lk,hcd⟩:=F.ex
 exact fn_of lk hcd S len fun A outer s H vs Q E hr hsp=>hbody cdv A outer s H vs Q E hr hsp
theorem Cal1.of (F:Fun K x x st f fd) (mF:mg x=some (.ref f)) (bF:Binds K fd ps []) (S:FnScope N ps (defScope st)) (len:∀vs H Q E,sp vs H Q E→vs.length=ps.length)
  (hbody:∀(cdv:Value) (A:Around) (outer:List Env) (s:Shared) (H:Hp) (vs:List V) (Q:VK) (E:XK),Room k (A.deeper (envOfC x (defScope st) s.heap.objs.size f cdv))→sp vs H Q E →
   ∃t,PSs (cxOf (CX1 P w K) P w K mg base N x (defScope st) f cdv A outer s H E) (defBody st) t∧t { nx:=fun _ H'=>Q .non H',rt:=Q } (start N vs) H):Cal1 P w K mg base x ps (k+1) sp :=
 ⟨f,fd,F.ok1 S len hbody,bF,mF,F.kp⟩
end
end L2
namespace L2
open PySem PySem.Spec PyProof.Rows
def nsK (K:PySem.W.Frag) (N:Addr):Bool:=match K.lookup N with
 | some ⟨_,_,.dict es _,_⟩=>es.all (fun e=>match e.key with | .str _ _=>true|_=>false)
 | _=>false
theorem ns_of_K {K:PySem.W.Frag}{N:Addr}{h:Heap}(hk:nsK K N=true) (X:K.In h):∃mN,h.Ns N mN∧(∀n v,PySem.W.nsIn K N n=some (some v)→mN n=some v)∧∀n,PySem.W.nsIn K N n=some none→mN n=none:=by
 unfold nsK at hk
 split at hk
 ·rename_i c d es ep sl q
  have ho:=X _ _ q
  have G:=Heap.Ns.of_isNs (h:=h) (a:=N) (by unfold Heap.isNs;rw[ho];exact hk)
  refine⟨_,G,fun n v e=>?_,fun n e=>?_⟩
  ·obtain⟨o,es',ep',ho',hd,_,hf⟩:=G
   rw[ho]at ho';cases ho';cases hd
   unfold PySem.W.nsIn at e
   rw[q]at e
   dsimp only at e
   rw[← hf]
   unfold nsFind findBy
   rw[← Array.find?_toList]
   split at e
   ·rename_i en he
    cases e
    rw[he];rfl
   ·split at e <;> cases e
  ·obtain⟨o,es',ep',ho',hd,_,hf⟩:=G
   rw[ho]at ho';cases ho';cases hd
   unfold PySem.W.nsIn at e
   rw[q]at e
   dsimp only at e
   rw[← hf]
   unfold nsFind findBy
   rw[← Array.find?_toList]
   split at e
   ·cases e
   ·rename_i he
    rw[he];rfl
 ·cases hk
abbrev veM:List Value:=[.type "ValueError",.type "Exception",.type "BaseException",.type "object"]
theorem veB {TE:Addr}:(Value.ref TE::veM).contains (.type "BaseException")=true:=by rw[List.contains_cons,show veM.contains (.type "BaseException")=true by decide +kernel,Bool.or_true]
def NoNs (K:PySem.W.Frag) (N:Addr) (n:Str):Prop:=PySem.W.nsIn K N n=some none
end L2
namespace PySem
open Builtin
section
variable {M:Model}{prog:Program}{w:World}{A:Around}{E:Value→Shared→Prop}{h:Heap}{g:Array GenState}{d:Drawn}{t:Nat}{os:OsState}{P:Str→Prop}
variable {nm q:Str}{C N x D:Addr}{bs bm bmB:List Value}{hdct:Bool}{sn:List Str}{sub:List Value}{ab:Bool}{col:Option Bool}{dd:Option Addr}{k0 k1 k2 k3 k5:Option Value}{B newId:String}{mN mA:Str→Option Value}{name:Str}{v:Value}{vs:Array Value}{sl:Array (Option Value)}{od:Obj}
theorem check_gaT {Do:Option Addr}{nameV:Value}{Q:Unit→Shared→Prop}(hC:h.get? C=some (excClassObj nm q C N bs bm hdct sn sub ab col dd k0 k1 k2 k3 k5 newId)) (hb:bm.contains (.type "BaseException")=true)
  (hx:h.get? x=some ⟨.ref C,Do,.fields vs,sl⟩) (hq:Q () ⟨h,g,d,t,os⟩):wpAny M A (checkBuiltinCall "BaseException.__getattribute__" ⟨[.ref x,nameV],[]⟩) Q E ⟨h,g,d,t,os⟩:=by
 have hk:builtinKind "BaseException.__getattribute__" = some .slot:=by decide +kernel
 have hsplit:splitId "BaseException.__getattribute__" = some ("BaseException", "__getattribute__"):=by decide +kernel
 have hcB:(Value.ref C::bm).contains (.type "BaseException")=true:=by rw[List.contains_cons,hb,Bool.or_true]
 have ha:=F.args_bexc_ga (.ref x) nameV
 simp only[checkBuiltinCall,hk,hsplit]
 refine wpAny_bind ?_
 ·unfold isInstance
  repeat (first|with_reducible refine wpAny_loadPart_at hx ?_|(with_reducible refine wpAny_isSubtype_exc hC ?_;rw[hcB])|wp_step)
  exact hq
end
end PySem
namespace L2
open PySem PySem.Spec PyProof.Rows
section
variable {X:Cx}{pins:List (Addr×Obj)}{σ:St}{H:Hp}{s:Shared}{e C:Addr}{a:Str}{v:V}
end
def strK (es:Array DictEntry):Bool:=es.toList.all (fun e=>match e.key with | .str _ _=>true|_=>false)
theorem nsK_of {K:PySem.W.Frag}{N:Addr}{c:Value}{d:Option Addr}{es:Array DictEntry}{ep:Nat}{sl:Array (Option Value)}(l:K.lookup N=some ⟨c,d,.dict es ep,sl⟩) (h:strK es=true):nsK K N=true:=by
 unfold nsK;rw[l]
 show es.all _=true
 rw[← Array.all_toList];exact h
end L2
namespace PySem
open Builtin
section
variable {M:Model}{prog:Program}{w:World}{A:Around}{E:Value→Shared→Prop}{h:Heap}{g:Array GenState}{d:Drawn}{t:Nat}{os:OsState}{P:Str→Prop}
variable {nm q:Str}{C N x D:Addr}{bs bm bmB:List Value}{hdct:Bool}{sn:List Str}{sub:List Value}{ab:Bool}{col:Option Bool}{dd:Option Addr}{k0 k1 k2 k3 k5:Option Value}{B newId:String}{mN:Str→Option Value}{vs:Array Value}{sl:Array (Option Value)}{K:PySem.W.Frag}{od:Obj}
theorem ve_class:typeLookup (.type "ValueError") "__class__" = pure (some (.builtin "object.__class__")):=by rw[typeLookup_type,builtinLookup_eq_fast];kernel_rfl
theorem xclass_entry {Do:Option Addr}{oo:Option Obj}{tk:Tok}{Q:Fin→Shared→Prop}(KX:K.In h) (I:PySem.W.InstAt h x ⟨.ref C,Do,.fields vs,sl⟩ C oo) (hm:PySem.W.mroIn K C (.type "object")=some true) (hC:h.get? C=some (excClassObj nm q C N bs bm true sn sub ab col dd k0 k1 k2 k3 k5 newId)) (hN:h.Ns N mN) (hna:mN "__class__" = none) (T:TlN h bmB P bm) (hp:P "__class__") (hmro:mroOf (.type "ValueError")=pure bmB)
  (hx:h.get? x=some ⟨.ref C,Do,.fields vs,sl⟩) (hq:Q (.done (.ret (.ref C))) ⟨h,g,d,t,os⟩) :
  wpAny (model prog w) A (Builtin.«object.__getattribute__» ⟨[.ref x,.str "__class__" tk],[]⟩) Q E ⟨h,g,d,t,os⟩:=by
 have f5:=F.typeOf_object_class
 have f6:=F.slot_gs_get.lookup
 have f7:=F.slot_gs_set.lookup
 repeat (any_goals (first|assumption|with_reducible refine wpAny_loadPart_at hx ?_|with_reducible refine wpAny_loadPart_at hC ?_|(with_reducible refine typeLookN hC hN T hp hmro ve_class ?_;rw[hna])|wp_step))
 refine PySem.W.class_get (s:=⟨h,g,d,t,os⟩) KX I hm ?_
 repeat (any_goals (first|assumption|wp_step))
theorem xclassT {Do:Option Addr}{oo:Option Obj}{Q:Option Value→Shared→Prop}(FB:ExcAttrBase "ValueError" bmB) (KX:K.In h) (I:PySem.W.InstAt h x ⟨.ref C,Do,.fields vs,sl⟩ C oo) (hm:PySem.W.mroIn K C (.type "object")=some true) (hC:h.get? C=some (excClassObj nm q C N bs bm true sn sub ab col dd k0 k1 k2 k3 k5 newId)) (hb:bm.contains (.type "BaseException")=true) (hN:h.Ns N mN)
  (hna:mN "__class__" = none) (hn1:mN "__getattribute__" = none) (hn2:mN "__getattr__" = none) (T:TlN h bmB P bm) (hp:P "__class__") (hp1:P "__getattribute__") (hp2:P "__getattr__")
  (hx:h.get? x=some ⟨.ref C,Do,.fields vs,sl⟩) (hq:Q (some (.ref C)) ⟨h,g,d,t+1,os⟩):wpAny (model prog w) A (getAttr? (.ref x) "__class__") Q E ⟨h,g,d,t,os⟩:=by
 have f3:=FB.ga.bind (.ref x)
 have hx2:(Value.builtin "BaseException.__getattribute__" == Value.builtin "object.__getattribute__")=false:=by decide +kernel
 have hx1:(onTheHeap (Value.ref C) && Value.builtin "BaseException.__getattribute__" == Value.builtin "object.__getattribute__")=false:=by rw[hx2];rfl
 unfold getAttr?
 repeat (any_goals (first|assumption|with_reducible refine wpAny_loadPart_at hx ?_|(with_reducible refine typeLookN hC hN T hp1 FB.mro FB.ga.lookup ?_;rw[hn1])|(with_reducible refine typeLookN hC hN T hp2 FB.mro FB.noGetattr ?_;rw[hn2])|wp_step))
 refine codeAny_call_builtin FB.ga.plain F.entry_bexc_ga (check_gaT hC hb hx (xclass_entry KX I hm hC hN hna T hp FB.mro hx ?_))
 show wpAny _ _ (handedOut (.ref C)) _ _ _
 rw[PySem.W.handedOut_of rfl]
 exact wpAny_pure (wpAny_pure hq)
end
end PySem
namespace L2
open PySem PySem.Spec PyProof.Rows
def XKit (K:PySem.W.Frag) (C:Addr):Prop:=∃(nm q:Str) (N:Addr) (bs bm bmB:List Value) (sn:List Str) (sub:List Value) (ab:Bool) (col:Option Bool) (dd:Option Addr) (k0 k1 k2 k3 k5:Option Value) (newId:String),
 K.lookup C=some (excClassObj nm q C N bs bm true sn sub ab col dd k0 k1 k2 k3 k5 newId)∧bm.contains (.type "BaseException")=true∧ExcAttrBase "ValueError" bmB∧PySem.W.mroIn K C (.type "object")=some true ∧
 (∀h,K.In h→TlN h bmB (fun n=>n = "__class__" ∨ n = "__getattribute__" ∨ n = "__getattr__") bm)∧∀h,K.In h→∃mN,h.Ns N mN∧mN "__class__" = none∧mN "__getattribute__" = none∧mN "__getattr__" = none
theorem XKit.kit {K:PySem.W.Frag}{C e:Addr}{Do:Option Addr}{oo:Option Obj}(c:XKit K C):PySem.W.KitX K (.ref e) (.ref C) (fun h=>∃vs sl,PySem.W.InstAt h e ⟨.ref C,Do,.fields vs,sl⟩ C oo∧h.get? e=some ⟨.ref C,Do,.fields vs,sl⟩):=by
 obtain⟨nm,q,N,bs,bm,bmB,sn,sub,ab,col,dd,k0,k1,k2,k3,k5,newId,lC,hb,FB,hm,hT,hN⟩:=c
 refine⟨fun M h X ⟨vs,sl,ia,he⟩=>ia.type,fun M h X _=>?_,fun h tp dd' its n sl X htp=>?_,fun {prog w A E Q s} X ⟨vs,sl,ia,he⟩ k=>?_⟩
 ·intro A' Q' E' s' kk q
  unfold isType loadHead
  exact wpAny_bind (wpAny_loadPart (kk _ _ (X _ _ lC)) (wpAny_pure q))
 ·refine Bool.eq_false_iff.mpr fun q=>?_
  have e:C=tp:=Value.ref.inj (beq_iff_eq.mp q)
  subst e
  have z:=congrArg (fun o=>o.map Obj.cls) ((X _ _ lC).symm.trans htp)
  exact absurd z (by simp)
 ·obtain⟨mN,g1,g2,g3,g4⟩:=hN _ X
  obtain⟨hh,g,d,t,os⟩:=s
  exact xclassT FB X ia hm (X _ _ lC) hb g1 g2 g3 g4 (hT _ X) (.inl rfl) (.inr (.inl rfl)) (.inr (.inr rfl)) he k
def XAny (H:Hp) (e C:Addr):Prop:=∃D T a v,Exc H e C D T a v
theorem XAt0.any {H:Hp}{e C:Addr}(x:XAt0 H e C):XAny H e C:=by obtain⟨T,a,v,x⟩:=x;exact⟨_,_,_,_,x⟩
section
variable {X:Cx}
theorem XAny.inst {pins:List (Addr×Obj)}{σ:St}{H:Hp}{s:Shared}{e C:Addr}(I:Inv X pins σ H s) (x:XAny H e C):∃Do oo vs sl,PySem.W.InstAt s.heap e ⟨.ref C,Do,.fields vs,sl⟩ C oo∧s.heap.get? e=some ⟨.ref C,Do,.fields vs,sl⟩:=by
 obtain⟨D,T,a,v,x⟩:=x
 obtain⟨⟨vs,sl,he,_⟩,_,_⟩:=I.hok e _ x.ex
 cases D with
 | none=>exact⟨none,none,vs,sl,⟨he,rfl,rfl,trivial⟩,he⟩
 | some D =>
  obtain⟨mA,hn,_⟩:=(show ObjOk X.prog X.w H s.heap D (.xd [(a,v)]) from I.hok D _ (x.xd D rfl))
  obtain⟨od,ho,_⟩:=lookIn_ns hn
  exact⟨some D,some od,vs,sl,⟨he,rfl,rfl,ho⟩,he⟩
def rIsiE (K:PySem.W.Frag):List V→Hp→VK→Prop:=fun xs H Q=>∃e C c cv b,xs=[.ref e,c]∧(∀u,RelV c u→u=cv)∧XAny H e C∧XKit K C∧PySem.W.kitOne K (.ref C) cv=some b∧Q (.bl b) H
theorem call_isiE:CallR X (.builtin "isinstance") (rIsiE X.K):=by
 intro pins s σ H xs us Q I r h
 obtain⟨e,C,c,cv,b,rfl,hc,x,cl,hk,q⟩:=h
 obtain⟨u,w',rfl,r1,r2⟩:=vals2 r
 cases (show u=Value.ref e from r1)
 cases hc w' r2
 obtain⟨Do,oo,vs,sl,ia,he⟩:=x.inst I
 exact PySem.W.kia_one (cl.kit (Do:=Do) (oo:=oo)) I.kIn ⟨vs,sl,ia,he⟩ hk (fun z=>nomatch z) fun tk=>⟨.bl b,H,I.tok _,rfl,q⟩
end
end L2
namespace L2
open PySem PySem.Spec PyProof.Rows
section
variable {X:Cx}
def rIsiET (K:PySem.W.Frag):List V→Hp→VK→Prop:=fun xs H Q=>∃e C tp cs cvs b,xs=[.ref e,.ref tp]∧H tp=some (.tup cs)∧(∀us,Vals cs us→us=cvs)∧XAny H e C∧XKit K C∧PySem.W.kitAny K (.ref C) cvs=some b∧Q (.bl b) H
theorem call_isiET:CallR X (.builtin "isinstance") (rIsiET X.K):=by
 intro pins s σ H xs us Q I r h
 obtain⟨e,C,tp,cs,cvs,b,rfl,htp,hc,x,cl,hk,q⟩:=h
 obtain⟨u,w',rfl,r1,r2⟩:=vals2 r
 cases (show u=Value.ref e from r1)
 cases (show w'=Value.ref tp from r2)
 obtain⟨Do,oo,vs,sl,ia,he⟩:=x.inst I
 obtain⟨_,its,vr,ot,ht,hcls,n,hd⟩:=(show ObjOk X.prog X.w H s.heap tp (.tup cs) from I.hok tp _ htp)
 cases hc its vr
 obtain⟨c0,d0,dt,sl0⟩:=ot
 dsimp only at hcls hd
 subst hcls hd
 exact PySem.W.kia_tup (cl.kit (Do:=Do) (oo:=oo)) I.kIn ⟨vs,sl,ia,he⟩ ht hk (fun z=>nomatch z) fun tk=>⟨.bl b,H,I.tok _,rfl,q⟩
end
theorem XKit.of {K:PySem.W.Frag}{C TE N:Addr}{nm q:Str}{bs:List Value}{sn:List Str}{sub:List Value}{ab:Bool}{col:Option Bool}{dd ddT:Option Addr}{k0 k1 k2 k3 k5:Option Value}{newId:String}{c0:Value}{cdT:ClassData}{slT:Array (Option Value)}
  (lC:K.lookup C=some (excClassObj nm q C N bs (.ref TE::veM) true sn sub ab col dd k0 k1 k2 k3 k5 newId)) (lT:K.lookup TE=some ⟨c0,ddT,.cls cdT,slT⟩) (n1:nsK K N=true) (n2:nsK K cdT.ns=true) (hm:PySem.W.mroIn K C (.type "object")=some true)
  (i1:NoNs K N "__class__") (i2:NoNs K N "__getattribute__") (i3:NoNs K N "__getattr__") (t1:NoNs K cdT.ns "__class__") (t2:NoNs K cdT.ns "__getattribute__") (t3:NoNs K cdT.ns "__getattr__"):XKit K C :=
 ⟨nm,q,N,bs,.ref TE::veM,veM,sn,sub,ab,col,dd,k0,k1,k2,k3,k5,newId,lC,veB,PySem.F.attrBase_ValueError,hm,fun h X=>by
  obtain⟨mT,g1,_,g3⟩:=ns_of_K n2 X
  refine .own (X _ _ lT) g1 (fun n hn=>?_) .base
  rcases hn with rfl|rfl|rfl
  ·exact g3 _ t1
  ·exact g3 _ t2
  ·exact g3 _ t3,fun h X=>by
  obtain⟨mN,g1,_,g3⟩:=ns_of_K n1 X
  exact⟨mN,g1,g3 _ i1,g3 _ i2,g3 _ i3⟩⟩
end L2
namespace L2
open PySem PySem.Spec PyProof.Rows
structure XTxt0 (K:PySem.W.Frag) (mg:Str→Option Value) (x:Str) (C TE:Addr):Prop where
 mg:mg x=some (.ref C)
 nm:PySem.W.nsIn K mainGlobals x=some (some (.ref C))
 cls:XPl K C
 kit:XKit K C
 xc:XC K C (.ref TE::veM)
def GaX0 (K:PySem.W.Frag) (x:Str) (C TE:Addr):Prop:=PySem.W.nsIn K mainGlobals x=some (some (.ref C))∧XPl K C∧XKit K C∧XC K C (.ref TE::veM)
theorem GaX0.mk' {K:PySem.W.Frag}{x:Str}{C TE N:Addr}{nm q:Str}{bs:List Value}{sn:List Str}{sub:List Value}{ab:Bool}{col:Option Bool}{dd ddT d1 d2:Option Addr}{k0 k1 k2 k3 k5:Option Value}{c0 c1 c2:Value}{cdT:ClassData}{slT sl1 sl2:Array (Option Value)}{es1 es2:Array DictEntry}{ep1 ep2:Nat}
  (aC:PySem.W.nsIn K mainGlobals x=some (some (.ref C))) (lC:K.lookup C=some (excClassObj nm q C N bs (.ref TE::veM) true sn sub ab col dd k0 k1 k2 k3 k5 "ValueError.__new__")) (lT:K.lookup TE=some ⟨c0,ddT,.cls cdT,slT⟩) (l1:K.lookup N=some ⟨c1,d1,.dict es1 ep1,sl1⟩) (n1:strK es1=true) (l2:K.lookup cdT.ns=some ⟨c2,d2,.dict es2 ep2,sl2⟩) (n2:strK es2=true)
  (i0:PySem.W.nsIn K N "__init__" = some none) (i3:PySem.W.nsIn K N "__getattribute__" = some none) (i4:PySem.W.nsIn K N "__getattr__" = some none) (i5:PySem.W.nsIn K N "__class__" = some none)
  (t0:PySem.W.nsIn K cdT.ns "__init__" = some none) (t3:PySem.W.nsIn K cdT.ns "__getattribute__" = some none) (t4:PySem.W.nsIn K cdT.ns "__getattr__" = some none) (t5:PySem.W.nsIn K cdT.ns "__class__" = some none)
  (hm:PySem.W.mroIn K C (.type "object")=some true):GaX0 K x C TE:=by
 have m1:=nsK_of l1 n1
 have m2:=nsK_of l2 n2
 refine⟨aC,⟨nm,q,N,bs,.ref TE::veM,veM,sn,sub,ab,col,dd,k0,k1,k2,k3,k5,_,_,PySem.F.excBase_ValueError,veB,lC,fun h X=>?_,fun h X=>?_⟩,XKit.of lC lT m1 m2 hm i5 i3 i4 t5 t3 t4,nm,q,N,bs,true,sn,sub,ab,col,dd,k0,k1,k2,k3,k5,_,lC,veB⟩
 ·obtain⟨mT,g1,_,g3⟩:=ns_of_K m2 X
  exact(TlN.own (P:=fun n=>n = "__init__") (X _ _ lT) g1 (fun n hn=>by subst hn;exact g3 _ t0) .base).tail rfl
 ·obtain⟨mN,g1,_,g3⟩:=ns_of_K m1 X
  exact⟨mN,g1,g3 _ i0⟩
theorem GaX0.txt {K:PySem.W.Frag}{mg:Str→Option Value}{x:Str}{C TE:Addr}{h:Heap}(g:GaX0 K x C TE) (X:K.In h) (G:h.Ns mainGlobals mg):XTxt0 K mg x C TE:=⟨PySem.W.mg_of X G g.1,g.1,g.2.1,g.2.2.1,g.2.2.2⟩
theorem und_tail {K:PySem.W.Frag}{C TE:Addr}{r bm':List Value}(x:XC K C (.ref TE::r)) (y:XC K TE bm'):Und K C TE:=⟨_,bm',x,y,by rw[List.contains_cons,List.contains_cons];simp⟩
end L2
namespace L2
open PySem PySem.Spec PyProof.Rows
theorem bt_ValueError:bootBuiltins "ValueError" = some (.type "ValueError"):=by decide +kernel
structure XTop (K:PySem.W.Frag) (mg:Str→Option Value) (TE:Addr):Prop where
 mg:mg "TailError" = some (.ref TE)
 xc:XC K TE veM
def GaT (K:PySem.W.Frag) (TE:Addr):Prop:=PySem.W.nsIn K mainGlobals "TailError" = some (some (.ref TE))∧XC K TE veM
theorem GaT.mk {K:PySem.W.Frag}{TE N:Addr}{nm q:Str}{bs:List Value}{hdct:Bool}{sn:List Str}{sub:List Value}{ab:Bool}{col:Option Bool}{dd:Option Addr}{k0 k1 k2 k3 k5:Option Value}{newId:String}
  (a:PySem.W.nsIn K mainGlobals "TailError" = some (some (.ref TE))) (l:K.lookup TE=some (excClassObj nm q TE N bs veM hdct sn sub ab col dd k0 k1 k2 k3 k5 newId)):GaT K TE :=
 ⟨a,nm,q,N,bs,hdct,sn,sub,ab,col,dd,k0,k1,k2,k3,k5,newId,l,by decide +kernel⟩
theorem GaT.txt {K:PySem.W.Frag}{mg:Str→Option Value}{TE:Addr}{h:Heap}(g:GaT K TE) (X:K.In h) (G:h.Ns mainGlobals mg):XTop K mg TE:=⟨PySem.W.mg_of X G g.1,g.2⟩
theorem call_isiEK {X:Cx}{K:PySem.W.Frag}(hK:X.K=K):CallR X (.builtin "isinstance") (rIsiE K):=by subst hK;exact call_isiE
theorem call_isiETK {X:Cx}{K:PySem.W.Frag}(hK:X.K=K):CallR X (.builtin "isinstance") (rIsiET K):=by subst hK;exact call_isiET
section
variable {σ:St}{H:Hp}{Q:VK}{D:Ends}
end
theorem stl4 {σ:St}(h:σ.length=4):∃a b c d,σ=[a,b,c,d]:=match σ,h with | [a,b,c,d],_=>⟨a,b,c,d,rfl⟩
end L2
namespace L2
open PySem PySem.Spec PyProof.Rows
structure XNm (mg:Str→Option Value) (x:Str) (C:Addr):Prop where
 mg:mg x=some (.ref C)
theorem Exc.same {H H':Hp}{e C:Addr}{D T:Option Addr}{a:Str}{v:V}(x:Exc H e C D T a v) (s:∀b o,H b=some o→H' b=some o):Exc H' e C D T a v:=⟨s _ _ x.ex,fun d q=>s _ _ (x.xd d q),fun t q=>⟨s _ _ (x.tb t q).1,(x.tb t q).2⟩⟩
theorem XAny.same {H H':Hp}{e C:Addr}(x:XAny H e C) (s:∀b o,H b=some o→H' b=some o):XAny H' e C:=by
 obtain⟨D,T,a,v,x⟩:=x
 exact⟨D,T,a,v,x.same s⟩
theorem valsRefs:∀{as:List Addr}{us:List Value},Vals (as.map V.ref) us→us=as.map Value.ref
 | [],_,.nil=>rfl
 | a::as,_,.cons (b:=u) r t=>by
  have e:u=Value.ref a:=r
  rw[e,valsRefs t];rfl
theorem kit_self {K:PySem.W.Frag}{C:Addr}:PySem.W.kitOne K (.ref C) (.ref C)=some true:=by
 unfold PySem.W.kitOne;rw[if_pos (by simp)]
theorem rd_isiE {K:PySem.W.Frag}{H:Hp}{Q:VK}{e C:Addr}{c:V}{cv:Value}{b:Bool}(x:XAny H e C) (k:XKit K C) (hc:∀u,RelV c u→u=cv) (h:PySem.W.kitOne K (.ref C) cv=some b) (q:Q (.bl b) H):rIsiE K [.ref e,c] H Q:=⟨e,C,c,cv,b,rfl,hc,x,k,h,q⟩
theorem rd_isiET {K:PySem.W.Frag}{H:Hp}{Q:VK}{e C tp:Addr}{cs:List Addr}{b:Bool}(x:XAny H e C) (k:XKit K C) (ht:H tp=some (.tup (cs.map V.ref))) (h:PySem.W.kitAny K (.ref C) (cs.map Value.ref)=some b) (q:Q (.bl b) H):rIsiET K [.ref e,.ref tp] H Q:=⟨e,C,tp,_,_,b,rfl,ht,fun us r=>valsRefs r,x,k,h,q⟩
end L2
namespace L2
open PySem PySem.Spec PyProof.Rows
def cxBlkE (X:Cx) (scope:Scope) (N:List Str) (C:Addr) (s:Shared) (H:Hp) (ex:List Addr) (xe:Value→Shared→Prop):Cx:={ cxBlk X scope N C s H ex with xe:=xe }
theorem Inv.xe {X:Cx}{pins:List (Addr×Obj)}{σ:St}{H:Hp}{s:Shared}{xe:Value→Shared→Prop}(I:Inv X pins σ H s):Inv { X with xe:=xe } pins σ H s :=
 ⟨⟨I.ok.mod,I.ok.kind,I.ok.glob,I.ok.blt,I.ok.above,I.ok.inj,I.ok.has,I.ok.cab,I.ok.hd,I.ok.frames,I.ok.stk,I.ok.exf,I.ok.bs,I.ok.bsz,I.ok.noex,I.ok.exfs,I.ok.funs,I.ok.frf⟩,I.os,I.bare,I.base,I.loc,I.cell,I.free,I.freeC,I.pin,I.hok,I.len⟩
section
variable {prog:Program}{w:World}{A:Around}{R:Result→Shared→Prop}{s:Shared}
theorem codeAny_compLoop_genE {elt target iter:Expr}{ifs:List Expr}{scope:Scope}{pos:Pos}{it acc:Value}{env:Env}(I:Nat→Shared→Prop)
  (turn:∀n s,I n s→wpAny (model prog w) A (pyNext it) (fun r s₁=>match r with
   | none=>R (.ok .next) s₁
   | some v=>wpAny (model prog w) A (letOwnedTupleGo target it v) (fun _ s₁'=>wpAny (model prog w) A (assign target env v) (fun _ s₂ =>
     wpAny (model prog w) A (forIn ifs true fun c r=>if r=true then do let ok ← isTrue c env (eval c env);pure (ForInStep.yield ok) else pure (ForInStep.yield r)) (fun ok s₃ =>
      if ok=true then wpAny (model prog w) A (eval elt env) (fun x s₄ =>
       wpAny (model prog w) A (call (.builtin "list.append") [acc,x]) (fun _ s₅=>∃m,m<n∧I m s₅) (notedBy (model prog w) A env fun x s'=>R (.error x) s') s₄) (notedBy (model prog w) A env fun x s'=>R (.error x) s') s₃
      else ∃m,m<n∧I m s₃) (notedBy (model prog w) A env fun x s'=>R (.error x) s') s₂) (notedBy (model prog w) A env fun x s'=>R (.error x) s') s₁') (notedBy (model prog w) A env fun x s'=>R (.error x) s') s₁) (notedBy (model prog w) A env fun x s'=>R (.error x) s') s)
  (n:Nat) (h:I n s) :
  codeAny (model prog w) A (.compLoop (.ListComp elt [⟨target,iter,ifs,0⟩] scope pos) 0 it acc env) R s:=by
 refine codeAny_loop rfl I (fun n s hI=>?_) n h
 show wpAny _ A ((compTurn (.ListComp elt [⟨target,iter,ifs,0⟩] scope pos) 0 it acc env).onRaise (fun x=>do noteFrame x env;theTreesLotGoes x)) _ _ s
 refine wpAny_noted ?_
 rw[compTurn_list]
 refine wpAny_bind (wpAny_standAt (wpAny_bind (wpAny_mono (turn n s hI) (fun r s₁ h₁=>?_) fun _ _ h'=>h')))
 cases r with
 | none=>exact wpAny_pure h₁
 | some v =>
  refine wpAny_bind (wpAny_mono h₁ (fun _ s₁' h₁'=>?_) fun _ _ h'=>h')
  refine wpAny_bind (wpAny_mono h₁' (fun _ s₂ h₂=>wpAny_bind (wpAny_mono h₂ (fun ok s₃ h₃=>?_) fun _ _ h'=>h')) fun _ _ h'=>h')
  cases ok with
  | false=>exact wpAny_pure ⟨rfl,h₃⟩
  | true =>
   exact wpAny_bind (wpAny_bind (wpAny_mono h₃ (fun x s₄ h₄=>wpAny_bind (wpAny_mono h₄ (fun _ s₅ h₅=>wpAny_pure (wpAny_pure ⟨rfl,h₅⟩)) fun _ _ h'=>h')) fun _ _ h'=>h'))
end
section
variable {X:Cx}{pins:List (Addr×Obj)}{σ:St}{H:Hp}{s:Shared}{scope:Scope}{vs fs:List Str}{js:List Nat}
theorem comp_err {Ex:XK}(thr:Throws X Ex) {H2 H' H0:Hp}{s2 s':Shared}{C e Ce T:Addr}{Dx:Option Addr}{a:Str}{v:V}{u:Value}{σ2:St}(I2:Inv X pins σ2 H2 s2) (I':Inv X pins σ H' s') (hn:∃m,s'.heap.Ns C m) (hC:H' C=none) (hle:s2.heap.objs.size≤C)
  (x:Exc H' e Ce Dx (some T) a v) (xc:XMk X.K Ce Dx a) (rv:RelV v u) (n0:H0 e=none) (k:∀b o,H0 b=some o→H' b=some o) (q:Ex u (some Ce) H0) :
  ∃m,s'.heap.Ns C m∧∀h',Heap.SameBut C s'.heap h'→∀cenv:Env,cenv.locals=C→wpAny (model X.prog X.w) X.A (PySem.passOn "comprehension.variables-let-go" (.ref e) cenv:Sem Value) (fun _ _=>False) X.xe { s' with heap:=h' }:=by
 obtain⟨m,hn⟩:=hn
 refine⟨m,hn,fun h'' hs'' cenv _=>?_⟩
 have I3:=I2.goneC I' hC hle hs''
 obtain⟨⟨vs,sl,he,h1⟩,_,_⟩:=I3.hok e _ x.ex
 unfold PySem.passOn
 refine wpAny_bind (wpAny_field he rfl h1 ?_)
 rw[if_neg (show ¬((Value.ref T == Value.none)=true) from by simp)]
 refine wpAny_bind (I3.flight x fun h4 I4 _=>?_)
 exact wpAny_throw (thr pins σ H' H0 _ e Ce Dx (some T) a v u I4 x xc rv n0 k q)
theorem blk_runE {Ex:XK}{tg iter elt:Expr}{ifs:List Expr}{pos:Pos}{g:TG}{tt:TT}{te:TE}(hf:X.env.frame=some X.env.locals) (hst:X.stack=X.env::X.outer) (hc:X.calm=true) (B:BlkOk X scope vs fs js)
  (hg:∀C s H ex xe,PG (cxBlkE X scope (vs++fs) C s H ex xe) tg g) (ht:∀C s H ex xe,Throws (cxBlkE X scope (vs++fs) C s H ex xe) Ex→PIfs (cxBlkE X scope (vs++fs) C s H ex xe) ifs tt) (he:∀C s H ex xe,Throws (cxBlkE X scope (vs++fs) C s H ex xe) Ex→PE (cxBlkE X scope (vs++fs) C s H ex xe) elt te)
  {it:Addr}{fp:List Addr}{tn:Nat→Heap→Prop}{J:It}{Q:VK}{E:Value→Shared→Prop}(I2:Inv X pins σ H s) (T:Turn X.prog X.w X.K tg J fp it tn) (st2:tn 0 s.heap) (f2:∀b∈fp,FpOk X pins H b)
  (hW:∀D,H D=none→CompW J vs js σ g tt te Q D H)
  {RR:Value→Addr→Result→Shared→Prop}
  (hR:∀D C H' s',Inv X pins σ H' s'→(∃m,s'.heap.Ns C m)→H' C=none→s.heap.objs.size≤C→Q (.ref D) H'→RR (.ref D) C (.ok .next) s')
  (hE:∀D C H' s' H0 e Ce Dx T a v u,Inv X pins σ H' s'→(∃m,s'.heap.Ns C m)→H' C=none→s.heap.objs.size≤C→Exc H' e Ce Dx (some T) a v→XMk X.K Ce Dx a→RelV v u→H0 e=none→(∀b o,H0 b=some o→H' b=some o)→Ex u (some Ce) H0→RR (.ref D) C (.error (.ref e)) s') :
  wpAny (model X.prog X.w) X.A (newList []) (fun acc s₃=>wpAny (model X.prog X.w) X.A (newFunctionEnv scope X.env.globals (clOf X.env scope.names []) [] X.env.qual none .none (some X.env)) (fun cenv s₄ =>
   codeAny (model X.prog X.w) X.A (.compStart (.ListComp elt [⟨tg,iter,ifs,0⟩] scope pos) 0 (.ref it) acc { cenv with scope:=relabel scope X.env }) (RR acc cenv.locals) s₄) E s₃) E s:=by
 have hfp:∀b∈fp,b<s.heap.objs.size:=fun b hb=>by
  obtain⟨o,e,_⟩:=T.obj _ _ st2 b hb
  exact Heap.lt_size e
 refine wpAny_newObj_type (wpAny_newFunctionEnv B.cell (by intro y hy;simp at hy) (fun h₁ hns₁ hsb₁=>?_) B.kind)
 dsimp only at hns₁ hsb₁ ⊢
 generalize hH2:s.heap.push { cls:=.type "list",dict:=none,data:=.seq ([]:List Value).toArray } = HH at hns₁ hsb₁ ⊢
 have hC:HH.objs.size=s.heap.objs.size+1:=by rw[← hH2,Heap.size_push]
 have hlt:s.heap.objs.size<HH.objs.size:=by rw[hC];exact Nat.lt_succ_self _
 have old:∀b o,s.heap.get? b=some o→h₁.get? b=some o:=fun b o e=>hsb₁.extBut b o (Nat.ne_of_lt (Nat.lt_trans (Heap.lt_size e) hlt)) (Heap.get?_push_of_some _ (hH2 ▸ Heap.get?_push_of_some _ e))
 have hacc:h₁.get? s.heap.objs.size=some { cls:=.type "list",data:=.seq ([]:List Value).toArray }:=hsb₁.extBut _ _ (Nat.ne_of_lt hlt) (Heap.get?_push_of_some _ (hH2 ▸ Heap.get?_push_size _ rfl))
 generalize hEE:notedBy (model X.prog X.w) X.A (compEnvC scope (clOf X.env scope.names []) HH.objs.size X.env) (fun x s'=>RR (.ref s.heap.objs.size) HH.objs.size (.error x) s')=EE
 have I0:Inv (cxBlkE X scope (vs++fs) HH.objs.size s H fp EE) [] (blkSt vs js σ) (upd H s.heap.objs.size (.lst [])) { s with heap:=h₁,toks:=s.toks+([]:List (Str×Value)).length }:=(blk_start I2 B f2 hfp hns₁ old rfl hlt hacc).xe
 obtain⟨W,⟨m0,w0⟩,turn⟩:=hW s.heap.objs.size (I2.hok.fresh (Nat.le_refl _))
 have st1:tn 0 h₁:=T.keep _ _ _ st2 fun b hb o e=>old b o e
 have hch:∀b∈fp,(b∈X.ex∨X.s₀.heap.objs.size≤b)∧b≠X.env.locals∧(∀x c,X.env.cells.lookup x=some c→c≠b)∧∀p∈X.pn++pins,p.1≠b:=fun b hb=>by
  obtain⟨_,a2,_,a4,a5,a6⟩:=f2 b hb
  exact⟨a4,a2,a5,a6⟩
 have back:∀{pl:List (Addr×Obj)}{σ':St}{H':Hp}{s':Shared},Inv (cxBlkE X scope (vs++fs) HH.objs.size s H fp EE) pl σ' H' s'→Inv X pins σ H' s':=fun {pl σ' H' s'} J'=>I2.call' (ch:=fp) J'.os J'.base J'.hok J'.bare hch
 have nD:∀b∈fp,b≠s.heap.objs.size:=fun b hb=>Nat.ne_of_lt (hfp b hb)
 have stat:∀{H':Hp},(∀b∈fp,H' b=none)→∀b∈fp,FpOk (cxBlkE X scope (vs++fs) HH.objs.size s H fp EE) [] H' b:=fun {H'} hn b hb=>by
  have z:=I0.ok
  refine⟨hn b hb,(z.exf b hb).1,z.exfs b hb,.inl hb,(z.exf b hb).2,fun p hp=>absurd (show p∈([]:List (Addr×Obj)) from hp) (by simp)⟩
 have thB:Throws (cxBlkE X scope (vs++fs) HH.objs.size s H fp EE) Ex:=fun pins' σ' H1 H0 s1 e Ce Dx T a v u I1 x xc rv n0 k q=>by
  show EE (.ref e) s1
  rw[← hEE]
  exact I1.note hst hf hf x fun T' H' h' x' k' I'=>hE _ _ H' _ H0 e Ce Dx T' a v u (back I') (by obtain⟨m,hm,_⟩:=I'.loc;exact⟨m,hm⟩) I'.free (Nat.le_of_lt hlt) x' xc rv n0 (sub_next k' n0 k) q
 have loop:∀s₃:Shared,s₃ = { s with heap:=h₁,toks:=s.toks+([]:List (Str×Value)).length } →
   codeAny (model X.prog X.w) X.A (.compLoop (.ListComp elt [⟨tg,iter,ifs,0⟩] scope pos) 0 (.ref it) (.ref s.heap.objs.size) (compEnvC scope (clOf X.env scope.names []) HH.objs.size X.env)) (RR (.ref s.heap.objs.size) HH.objs.size) s₃:=by
  rintro s₃ rfl
  refine codeAny_compLoop_genE (fun n s'=>∃i σ' ys H',Inv (cxBlkE X scope (vs++fs) HH.objs.size s H fp EE) [] σ' H' s'∧tn i s'.heap∧(∀b∈fp,H' b=none)∧W i n σ' ys H') ?_ m0
   ⟨0,_,_,_,I0,st1,fun b hb=>by rw[upd_ne (nD b hb)];exact(f2 b hb).1,w0⟩
  rw[hEE]
  rintro n s3 ⟨i,σ3,ys,H3,I3,st3,fr3,w3⟩
  rcases turn i n σ3 ys H3 w3 with⟨stop,q⟩|⟨go,N,hN,step⟩
  ·refine thn (T.done (cxBlkE X scope (vs++fs) HH.objs.size s H fp EE) rfl rfl rfl hc i [] s3 σ3 H3 _ I3 (stat fr3) st3 stop) fun r s4 ⟨hr,I4⟩=>?_
   subst hr
   obtain⟨m,hm,_⟩:=I4.loc
   exact hR _ _ H3 s4 (back I4) ⟨m,hm⟩ I4.free (Nat.le_of_lt hlt) q
  ·refine thn (T.item (cxBlkE X scope (vs++fs) HH.objs.size s H fp EE) rfl rfl rfl hc i [] s3 σ3 H3 _ I3 (stat fr3) st3 go) fun r s4 ⟨u,hr,h4⟩=>?_
   subst hr
   refine thn h4 fun _ s5 ⟨x,H5,I5,r5,y5,st5,fr5⟩=>?_
   have I5':=I5.pinned (stat fr5) (T.obj _ _ st5)
   have again:∀{σ7:St}{H7:Hp}{s7:Shared}{zs:List V},Inv (cxBlkE X scope (vs++fs) HH.objs.size s H fp EE) ([]++pinsAt fp s5.heap) σ7 H7 s7→N σ7 zs H7→∃m,m<n∧∃i σ' ys H',Inv (cxBlkE X scope (vs++fs) HH.objs.size s H fp EE) [] σ' H' s7∧tn i s7.heap∧(∀b∈fp,H' b=none)∧W i m σ' ys H':=fun {σ7 H7 s7 zs} I7 n7=>by
    obtain⟨m',hm,w7⟩:=hN σ7 zs H7 n7
    refine⟨m',hm,i+1,σ7,zs,H7,I7.unpinned,T.keep _ _ _ st5 fun b hb o e=>(I7.pin (b,o) (List.mem_append_right _ (List.mem_append_right _ (mem_pinsAt hb e)))).1,fun b hb=>?_,w7⟩
    obtain⟨o,e,d⟩:=T.obj _ _ st5 b hb
    exact(I7.pin (b,o) (List.mem_append_right _ (List.mem_append_right _ (mem_pinsAt hb e)))).2.1
   refine thn (hg _ _ _ _ _ _ s5 σ3 H5 x u _ I5' r5 (step x H5 y5)) fun _ s6 ⟨σ6,H6,I6,q6⟩=>?_
   refine thn (ht _ _ _ _ _ thB _ s6 σ6 H6 _ I6 q6) fun ok s7 ⟨H7,I7,q7⟩=>?_
   cases ok with
   | false =>
    rw[if_neg Bool.false_ne_true]at q7 ⊢
    exact again I7 q7
   | true =>
    rw[if_pos rfl]at q7 ⊢
    refine thn (he _ _ _ _ _ thB _ s7 σ6 H7 _ I7 q7) fun y s8 ⟨yv,H8,I8,r8,hD8,hz,n8⟩=>?_
    refine thn (mt_append _ s8 σ6 H8 (.ref s.heap.objs.size) [yv] (.ref s.heap.objs.size) [y] (fun _ H9=>N σ6 (ys ++ [yv]) H9) I8 rfl (.cons r8 .nil) ⟨_,ys,yv,rfl,rfl,hD8,hz,n8⟩) fun _ s9 ⟨_,H9,I9,_,n9⟩=>?_
    exact again I9 n9
 exact codeAny_compStart_list (loop _ rfl) (T.self X.A 0 _ _ _ st1 (loop _ rfl))
theorem pe_compX {Ex:XK}{tg iter elt:Expr}{ifs:List Expr}{pos:Pos}{wi:TI}{g:TG}{tt:TT}{te:TE}(thr:Throws X Ex) (hf:X.env.frame=some X.env.locals) (hst:X.stack=X.env::X.outer) (hc:X.calm=true) (B:BlkOk X scope vs fs js) (hi:PI X tg iter wi)
  (hg:∀C s H ex xe,PG (cxBlkE X scope (vs++fs) C s H ex xe) tg g) (ht:∀C s H ex xe,Throws (cxBlkE X scope (vs++fs) C s H ex xe) Ex→PIfs (cxBlkE X scope (vs++fs) C s H ex xe) ifs tt) (he:∀C s H ex xe,Throws (cxBlkE X scope (vs++fs) C s H ex xe) Ex→PE (cxBlkE X scope (vs++fs) C s H ex xe) elt te)
  (hs:∀x,foldedSetIterable iter X.env x=pure x:=by intro _;rfl):PE X (.ListComp elt [⟨tg,iter,ifs,0⟩] scope pos) (tComp vs js wi g tt te):=by
 intro pins s σ H Q I h
 rw[eval_ListComp]
 refine wpAny_comprehension_free (use:=none) rfl hs (closure_eq fun y hy hf=>I.ok.has y.1 (B.free y hy hf)) B.kind B.names (thn (hi pins s σ H _ I h) fun v s1 h1=>thn h1 fun itv s2 h2=>?_)
 obtain⟨it,fp,tn,J,H2,e,I2,T,st2,f2,hW⟩:=h2
 subst e
 refine blk_runE (Ex:=Ex) (RR:=fun acc C=>compPost (model X.prog X.w) X.A X.xe none (EP X pins σ Q) acc C) hf hst hc B hg ht he I2 T st2 f2 hW ?_ (fun D' C' H' s' H0 e Ce Dx T' a v u I' hn hC hle x xc rv n0 k q=>comp_err thr I2 I' hn hC hle x xc rv n0 k q)
 intro D C H' s' I' hn hC hle q
 obtain⟨m,hn⟩:=hn
 exact⟨m,hn,fun h'' hs''=>⟨.ref D,H',I2.goneC I' hC hle hs'',rfl,q⟩⟩
theorem ps_setcX {Ex:XK}{i:Nat}{y:Str}{py spos:Pos}{tg iter elt:Expr}{ifs:List Expr}{pos:Pos}{wi:TI}{g:TG}{tt:TT}{te:TE}(hN:X.N.Nodup) (hi':X.N[i]? = some y) (hy:X.env.scope.names.lookup y=some .local) (thr:Throws X Ex) (hf:X.env.frame=some X.env.locals) (hst:X.stack=X.env::X.outer) (hc:X.calm=true) (B:BlkOk X scope vs fs js) (hi:PI X tg iter wi)
  (hg:∀C s H ex xe,PG (cxBlkE X scope (vs++fs) C s H ex xe) tg g) (ht:∀C s H ex xe,Throws (cxBlkE X scope (vs++fs) C s H ex xe) Ex→PIfs (cxBlkE X scope (vs++fs) C s H ex xe) ifs tt) (he:∀C s H ex xe,Throws (cxBlkE X scope (vs++fs) C s H ex xe) Ex→PE (cxBlkE X scope (vs++fs) C s H ex xe) elt te)
  (hsw:swapsWith (.ListComp elt [⟨tg,iter,ifs,0⟩] scope pos) (some (.Name y py)) spos.line X.env=pure true:=by rfl)
  (hs:∀x,foldedSetIterable iter X.env x=pure x:=by intro _;rfl):PS X (.Assign [.Name y py] (.ListComp elt [⟨tg,iter,ifs,0⟩] scope pos) spos) (tAsg (tComp vs js wi g tt te) (gName i)):=by
 intro pins s σ H D I h
 rw[exec_Assign_Name_used _ _ _ _ hsw]
 refine wpAny_bind (wpAny_standAt (wpAny_bind ?_))
 show wpAny _ X.A (do let _ ← comprehension (.ListComp elt [⟨tg,iter,ifs,0⟩] scope pos) scope X.env _ (newList []) false (eval iter X.env) (some (assign (.Name y py) X.env))) _ _ s
 refine wpAny_bind (wpAny_mono (wpAny_comprehension_free (use:=some (assign (.Name y py) X.env)) (Q:=fun _ s'=>SP X pins D .next s') rfl hs (closure_eq fun y hy hf=>I.ok.has y.1 (B.free y hy hf)) B.kind B.names
  (thn (hi pins s σ H _ I h) fun v s1 h1=>thn h1 fun itv s2 h2=>?_)) (fun _ s' hq=>wpAny_pure (wpAny_pure hq)) fun _ _ e=>e)
 obtain⟨it,fp,tn,J,H2,e,I2,T,st2,f2,hW⟩:=h2
 subst e
 refine blk_runE (Ex:=Ex) (Q:=fun x H1=>gName i x σ H1 D.nx) (RR:=fun acc C=>compPost (model X.prog X.w) X.A X.xe (some (assign (.Name y py) X.env)) (fun _ s'=>SP X pins D .next s') acc C) hf hst hc B hg ht he I2 T st2 f2 hW ?_ (fun D' C' H' s' H0 e Ce Dx T' a v u I' hn hC hle x xc rv n0 k q=>comp_err thr I2 I' hn hC hle x xc rv n0 k q)
 intro D' C H' s' I' hn hC hle q
 obtain⟨m,hn⟩:=hn
 show wpAny _ X.A (assign (.Name y py) X.env (.ref D')) _ _ _
 refine wpAny_assign_Name (store_ok2 I' hN hi' (.inl hy) (v:=.ref D') rfl (fun s'' I'' hsb=>?_) (.inr hy))
 obtain⟨a,hsb,ha⟩:=hsb
 have nCa:C≠a:=by
  rcases ha with z|z
  ·rw[z];exact Nat.ne_of_gt (Nat.lt_of_lt_of_le I2.lt hle)
  ·obtain⟨v,o,ho,_⟩:=I2.cell y a z
   exact Nat.ne_of_gt (Nat.lt_of_lt_of_le (Heap.lt_size ho) hle)
 exact⟨m,hn.sameBut hsb nCa,fun h'' hs''=>⟨_,H',I2.goneC I'' hC hle hs'',q⟩⟩
end
end L2
namespace L2
open PySem PySem.Spec PyProof.Rows
section
variable {X:Cx}
end
structure PAS (X:Cx) (es:List Expr) (t:TA):Prop where
 out:PA X es t
theorem pas_nil {X:Cx}:PAS X [] tNil:=⟨pa_nil⟩
end L2
namespace L2
open PySem PySem.Spec PyProof.Rows
def gV (u:Value):V:=(absV u).getD .non
section
variable {X:Cx}{pins:List (Addr×Obj)}{σ:St}{H:Hp}{s:Shared}{h':Heap}
variable {A:Around}{E:Value→Shared→Prop}
end
section
variable {X:Cx}{pins:List (Addr×Obj)}{σ:St}{H:Hp}{s:Shared}{E:Value→Shared→Prop}
end
section
variable {X:Cx}{e body:Expr}{t:TA}{te:TE}{k:Nat}{p kpos pos lpos:Pos}{params:Arguments}{scope:Scope}{y:Str}{fs:List Str}{js:List Nat}{P c:Addr}
end
end L2
namespace PySem.SeqAt
open AutoSeq1 (wpAny_loadPart')
open MeetsSeq
end PySem.SeqAt
namespace L2
open PySem PySem.Spec PyProof.Rows
section
variable {X:Cx}
end
end L2
namespace L2
open PySem PySem.Spec PyProof.Rows
section
variable {X:Cx}
end
end L2
namespace L2
open PySem PySem.Spec PyProof.Rows
theorem vals_texts:∀(l:List (Str×Tok)),Vals ((l.map (·.1)).map V.str) (strValues l)
 | []=>.nil
 | (z,t)::r=>.cons ⟨t,rfl⟩ (vals_texts r)
section
variable {X:Cx}
open PySem.Builtin PySem.Builtin.Str in
def rSplit:V→List V→Hp→VK→Prop:=fun x vs H Q=>∃z y,x = .str z∧vs=[.str y]∧(y.length == 0)=false∧z.length+2≤sizeLine∧∀l,H l=none→Q (.ref l) (upd H l (.lst ((Txt.split z y).map V.str)))
open PySem.Builtin PySem.Builtin.Str in
theorem mt_split:MtR X "str.split" rSplit:=by
 intro pins s σ H x xs v us Q I rx rs h
 obtain⟨z,y,rfl,rfl,hy,hz,q⟩:=h
 obtain⟨t,rfl⟩:=rx
 obtain⟨u,rfl,ru⟩:=vals1 rs
 obtain⟨t',rfl⟩:=ru
 have hf:H s.heap.objs.size=none:=I.hok.fresh (Nat.le_refl _)
 have hl:(Txt.split z y).length≤sizeLine:=Nat.le_trans (split_le z y) hz
 have fin:∀(l:List (Str×Tok)) (k:Nat),l.map (·.1)=Txt.split z y→∃x H',Inv X pins σ H' { s with heap:=s.heap.push { cls:=.type "list",data:=.seq (strValues l).toArray },toks:=k }∧RelV x (.ref s.heap.objs.size)∧Q x H':=fun l k e=>by
  refine⟨.ref s.heap.objs.size,_,I.laid (t':=k) (fun b u e=>Heap.get?_push_of_some _ e) (Nat.le_refl _) ?_,rfl,q _ hf⟩
  refine⟨by rw[List.length_map];exact hl,strValues l,0,?_,Heap.get?_push_size _ rfl⟩
  rw[← e];exact vals_texts l
 have hn:(partsBetween z (occurrences z y 0 z.length (z.length+1)) y.length).length≤sizeLine:=by
  have e1:=StrLaws.occ_length_le z y 0 z.length (z.length+1)
  rw[length_partsBetween];omega
 cases h1:(decide (z.length<y.length) || decide (strKind z<strKind y))
 ·cases hf:(occurrences z y 0 z.length (z.length+1)).isEmpty
  ·refine call_meets F.slot_str_split (typeIs_str _ _ _) F.entry_str_split (F.args_str_split_2 _ _) (meets_str_split_sep z y t t' h1 hy hf (by omega) hn) ?_
   show wants _ _ _ { s with toks:=_,heap:=s.heap.push { cls:=.type "list",data:=.seq (strsFrom s.toks (partsBetween z (occurrences z y 0 z.length (z.length+1)) y.length)).toArray } }
   rw[strsFrom_eq]
   exact fin (numbered s.toks _) _ ((numbered_texts _ _).trans ((if_neg (ne_true_of_eq_false h1)).trans (if_neg (ne_true_of_eq_false hf))).symm)
  ·exact call_meets F.slot_str_split (typeIs_str _ _ _) F.entry_str_split (F.args_str_split_2 _ _) (meets_str_split_not_found z y t t' h1 hy hf) (fin [(z,t)] s.toks ((if_neg (ne_true_of_eq_false h1)).trans (if_pos hf)).symm)
 ·exact call_meets F.slot_str_split (typeIs_str _ _ _) F.entry_str_split (F.args_str_split_2 _ _) (meets_str_split_cannot_occur z y t t' h1) (fin [(z,t)] s.toks (if_pos h1).symm)
def rPart:V→List V→Hp→VK→Prop:=fun x vs H Q=>∃z y,x = .str z∧vs=[.str y]∧(y.length == 0)=false∧z.length≤sizeLine∧∀l,H l=none→Q (.ref l) (upd H l (.tup [.str (Txt.partition z y).1,.str (Txt.partition z y).2.1,.str (Txt.partition z y).2.2]))
open PySem.Builtin PySem.Builtin.Str in
theorem mt_part:MtR X "str.partition" rPart:=by
 intro pins s σ H x xs v us Q I rx rs h
 obtain⟨z,y,rfl,rfl,hy,hz,q⟩:=h
 obtain⟨t,rfl⟩:=rx
 obtain⟨u,rfl,ru⟩:=vals1 rs
 obtain⟨t',rfl⟩:=ru
 have hf:H s.heap.objs.size=none:=I.hok.fresh (Nat.le_refl _)
 have fin:∀(ta tb tc:Tok) (k:Nat),∃x H',Inv X pins σ H' { s with heap:=s.heap.push { cls:=.type "tuple",data:=.seq [.str (Txt.partition z y).1 ta,.str (Txt.partition z y).2.1 tb,.str (Txt.partition z y).2.2 tc].toArray },toks:=k }∧RelV x (.ref s.heap.objs.size)∧Q x H':=fun ta tb tc k=>by
  refine⟨.ref s.heap.objs.size,_,I.laid (t':=k) (fun b u e=>Heap.get?_push_of_some _ e) (Nat.le_refl _) ?_,rfl,q _ hf⟩
  exact⟨by show 3≤sizeLine;decide,_,.cons ⟨ta,rfl⟩ (.cons ⟨tb,rfl⟩ (.cons ⟨tc,rfl⟩ .nil)),⟨_,Heap.get?_push_size _ rfl,rfl,_,rfl⟩⟩
 refine call_meets F.slot_str_partition (typeIs_str _ _ _) F.entry_str_partition (F.args_str_partition_2 _ _) (meets_str_partition z y t t' hy hz) ?_
 unfold Txt.partition at fin
 revert fin
 cases occurrences z y 0 z.length 1 with
 | nil=>intro fin;exact fin _ _ _ _
 | cons i r=>intro fin;exact fin _ _ _ _
def rIntS:List V→Hp→VK→Prop:=fun xs H Q=>∃z n,xs=[.str z]∧PySem.intText? z=some n∧z.length≤640∧Q (.int n) H
theorem call_intS:CallR X (.type "int") rIntS:=by
 intro pins s σ H xs us Q I r h
 obtain⟨z,n,rfl,hn,hl,q⟩:=h
 obtain⟨u,rfl,t,rfl⟩:=vals1 r
 exact PySem.W.KIN.call_text hn hl ⟨.int _,H,I.tok _,⟨_,rfl⟩,q⟩
end
section
variable {X:Cx}
end
abbrev TF:=St→Hp→Str→VK→Prop
section
variable {X:Cx}{e e1 e2:Expr}{es:List Expr}{te:TE}{t:TF}{pos:Pos}
end
section
variable {prog:Program}{w:World}{A:Around}{E:Value→Shared→Prop}{s:Shared}
theorem draw_list {it t:Addr}{items:Array Value}(hne:t≠it):∀(n i:Nat) (s:Shared) (Q:List Value→Shared→Prop),s.heap.IsListIter it t i→s.heap.IsList t items→i+n≤items.size →
  (∀h',h'.IsListIter it t (i+n)→Heap.SameBut it s.heap h'→Q ((items.toList.drop i).take n) { s with heap:=h' })→wpAny (model prog w) A (draw (.ref it) n) Q E s
 | 0,i,s,Q,hit,_,_,hQ=>by
  show wpAny _ _ (pure []) Q E s
  exact wpAny_pure (by simpa using hQ s.heap hit (Heap.SameBut.refl ..))
 | n+1,i,s,Q,hit,ht,hle,hQ=>by
  have hlt:i<items.size:=by omega
  show wpAny _ _ (pyNext (.ref it) >>= _) Q E s
  refine wpAny_bind (wpAny_pyNext_list_item hit ht (x:=items[i]) (by simp[hlt]) fun h₁ hit₁ hs₁=>?_)
  refine wpAny_bind (wpAny_holding (draw_list hne n (i+1) _ _ hit₁ (ht.extBut hs₁.extBut hne) (by omega) fun h₂ hit₂ hs₂=>wpAny_pure ?_))
  have hd:items.toList.drop i=items[i]::items.toList.drop (i+1):=by simp[List.drop_eq_getElem_cons,hlt]
  have:=hQ h₂ (by rw[show i+(n+1)=i+1+n by omega];exact hit₂) (hs₁.trans hs₂)
  rw[hd,List.take_succ_cons]at this
  exact this
theorem unpackItems_list {t:Addr}{items:Array Value}{Q:List Value→Shared→Prop}(hh:A.handled=none) (ht:s.heap.IsList t items)
  (hQ:∀h',Heap.ExtBut s.heap.objs.size s.heap h'→Q items.toList { s with heap:=h' }):wpAny (model prog w) A (unpackItems (.ref t) items.size none) Q E s:=by
 have hlt:t≠s.heap.objs.size:=by obtain⟨o,ho,_⟩:=ht;exact Nat.ne_of_lt (Heap.lt_size ho)
 unfold unpackItems
 refine wpAny_bind ?_
 unfold notIterableAtAll
 refine wpAny_bind (wpAny_specialOf ht.typeIs slot_list_iter.lookup ?_)
 refine wpAny_pure ?_
 simp only[Bool.false_eq_true,if_false]
 refine wpAny_bind (wpAny_holding (wpAny_pyIter_list ht ?_))
 have htp:(s.heap.push { cls:=.type "list_iterator",data:=.fields #[.ref t,.int 0 0] }).IsList t items:=by
  obtain⟨o,ho,r⟩:=ht
  exact⟨o,Heap.get?_push_of_some _ ho,r⟩
 refine wpAny_bind (wpAny_holding (draw_list hlt items.size 0 _ _ ⟨_,Heap.get?_push_size _ rfl,rfl,rfl⟩ htp (by omega) fun h₁ hit₁ hs₁=>?_))
 have hall:List.take items.size (List.drop 0 items.toList)=items.toList:=by
  rw[List.drop_zero];exact List.take_of_length_le (by simp)
 rw[hall]
 rw[if_neg (by simp)]
 have ht₁:h₁.IsList t items:=htp.extBut hs₁.extBut hlt
 refine wpAny_bind (wpAny_holding (wpAny_pyNext_list_end hh hit₁ ht₁ (by simp) fun h₂ he₂=>?_))
 simp only[Option.isSome_none,Bool.false_eq_true,if_false]
 refine wpAny_pure (hQ h₂ fun b o hb e=>he₂ b o hb (hs₁.extBut b o hb (Heap.get?_push_of_some _ e)))
theorem walk_from (hh:A.handled=none) (I ax:Addr) (hne:ax≠I) (items:Array Value) (i:Nat) (hi:i≤items.size) :
  Walks prog w A I [I,ax] [I] (items.size-i) (fun j v=>items[i+j]? = some v) (fun j h=>h.IsListIter I ax (i+j)∧h.IsList ax items) where
 sub:=fun b hb=>by simp at hb;simp[hb]
 frame:=fun _ _ _ st hk=>⟨st.1.at fun o e=>hk I (by simp) o e,st.2.at fun o e=>hk ax (by simp) o e⟩
 item:=fun j s Q E hj st hQ=>(Walks.list hh I ax hne items).item (i+j) s Q E (by omega) st fun v h' tk p st' k=>hQ v h' tk p st' k
 done:=fun s Q E st hQ=>(Walks.list hh I ax hne items).done s Q E (by have:=st;rw[show i+(items.size-i)=items.size by omega]at this;exact this) hQ
 self:=fun j s Q E st hQ=>(Walks.list hh I ax hne items).self (i+j) s Q E st hQ
theorem unpackItems_star {t:Addr}{items:Array Value}{n:Nat}{Q:List Value→Shared→Prop}(hh:A.handled=none) (ht:s.heap.IsList t items) (hn:n≤items.size) (hz:items.size≤sizeLine)
  (hQ:∀(h':Heap) (tk:Nat) (s':Shared),(∀b o,s.heap.get? b=some o→h'.get? b=some o)→s' = { s with heap:=h'.push { cls:=.type "list",data:=.seq (items.toList.drop n).toArray },toks:=tk }→Q (items.toList.take n ++ [.ref h'.objs.size]) s'):wpAny (model prog w) A (unpackItems (.ref t) (n+1) (some n)) Q E s:=by
 have hlt:t≠s.heap.objs.size:=by obtain⟨o,ho,_⟩:=ht;exact Nat.ne_of_lt (Heap.lt_size ho)
 unfold unpackItems
 refine wpAny_bind ?_
 unfold notIterableAtAll
 refine wpAny_bind (wpAny_specialOf ht.typeIs slot_list_iter.lookup ?_)
 refine wpAny_pure ?_
 simp only[Bool.false_eq_true,if_false]
 refine wpAny_bind (wpAny_holding (wpAny_pyIter_list ht ?_))
 have htp:(s.heap.push { cls:=.type "list_iterator",data:=.fields #[.ref t,.int 0 0] }).IsList t items:=by
  obtain⟨o,ho,r⟩:=ht
  exact⟨o,Heap.get?_push_of_some _ ho,r⟩
 refine wpAny_bind (wpAny_holding (draw_list hlt n 0 _ _ ⟨_,Heap.get?_push_size _ rfl,rfl,rfl⟩ htp (by omega) fun h₁ hit₁ hs₁=>?_))
 have hfl:(List.take n (List.drop 0 items.toList)).length=n:=by
  rw[List.drop_zero,List.length_take,Array.length_toList];omega
 rw[if_neg (by rw[hfl];omega)]
 have ht₁:h₁.IsList t items:=htp.extBut hs₁.extBut hlt
 have k1:∀b o,s.heap.get? b=some o→h₁.get? b=some o:=fun b o e=>hs₁.extBut b o (Nat.ne_of_lt (Heap.lt_size e)) (Heap.get?_push_of_some _ e)
 have hit2:h₁.IsListIter s.heap.objs.size t (n+0):=by rw[Nat.add_zero];rw[Nat.zero_add]at hit₁;exact hit₁
 refine wpAny_bind (wpAny_holding ?_)
 refine wpAny_collect_iter (T := "list_iterator") (.inr (.inr (.inl rfl))) (walk_from (A:=A.in1) hh s.heap.objs.size t hlt items n hn).toS (fun _ _ st=>st.1.typeIs) ⟨hit2,ht₁⟩ ?_ (by simp) (fun s' acc hm ha=>?_) (by omega)
 ·intro b hb
  simp only[List.mem_cons,List.not_mem_nil,or_false]at hb
  rcases hb with rfl|rfl
  ·obtain⟨o,ho,_⟩:=hit2;exact Heap.lt_size ho
  ·obtain⟨o,ho,_⟩:=ht₁;exact Heap.lt_size ho
 have e:acc.toList=items.toList.drop n:=by
  refine List.ext_getElem? fun j=>?_
  rw[List.getElem?_drop,Array.getElem?_toList,Array.getElem?_toList]
  cases c:acc[j]? with
  | some v=>exact(ha.2 j v c).symm
  | none =>
   have:=Array.getElem?_eq_none_iff.mp c
   rw[ha.1]at this
   exact(Array.getElem?_eq_none_iff.mpr (by omega)).symm
 rw[if_neg (by omega)]
 have t0:acc.toList.length-(n+1-1-n)=acc.toList.length:=by omega
 rw[t0,List.take_length,List.drop_length,e]
 have kk:∀b o,s.heap.get? b=some o→s'.heap.get? b=some o:=fun b o h=>hm.heap b o (fun z=>Nat.ne_of_lt (Heap.lt_size h) (by simpa using z)) (k1 b o h)
 have hsz:(items.toList.drop n).toArray.size≤sizeLine:=by simp;omega
 refine wpAny_bind (wpAny_newObj_type ?_ (show(items.toList.drop n).toArray.size≤sizeLine from hsz))
 refine wpAny_pure ?_
 rw[List.append_nil,List.drop_zero]
 obtain⟨hp,g,d,tk,os⟩:=s'
 have hg:=hm.gens
 have hd:=hm.drawn
 have ho:=hm.os
 simp only at hg hd ho kk
 subst hg hd ho
 exact hQ hp tk _ kk rfl
end
section
variable {X:Cx}{pos:Pos}
def gTupL (K:PySem.W.Frag) (n:Nat) (t:TGs):TG:=fun v σ H Q=>∃a xs,v = .ref a∧SqL K H a xs∧xs.length=n∧t xs σ H Q
theorem pg_tupL {es:List Expr}{k:Nat}{t:TGs}{n:Nat}(hc:X.calm=true) (h:PGs X es t)
  (hn:(assignEach es X.env).length=n:=by rfl) (hst:(assignEach es X.env).findIdx? (·.1)=none:=by rfl):PG X (.Tuple es k pos) (gTupL X.K n t):=by
 intro pins s σ H v u Q I r hw
 obtain⟨a,xs,e1,hq,hl,hw⟩:=hw
 subst e1
 cases r
 obtain⟨its,rv,pl,hz⟩:=I.list hq
 rw[assign_Tuple]
 refine wpAny_bind (wpAny_standAt ?_)
 unfold unpack
 have hs:(assignEach es X.env).length=its.toArray.size:=by rw[hn,← hl,rv.length];simp
 rw[hs,hst]
 refine wpAny_bind (wpAny_holding (unpackItems_list (I.ok.hd hc) pl.isList fun h' hx=>?_))
 have I1:Inv X pins σ H { s with heap:=h' }:=I.kept (t':=s.toks) fun b o e=>hx b o (Nat.ne_of_lt (Heap.lt_size e)) e
 exact h pins _ σ H xs _ Q I1 (by simpa using rv) hw
def gStar (K:PySem.W.Frag) (n:Nat) (t:TGs):TG:=fun v σ H Q=>∃a xs,v = .ref a∧SqL K H a xs∧n≤xs.length∧∀l,H l=none→t (xs.take n ++ [.ref l]) σ (upd H l (.lst (xs.drop n))) Q
theorem pg_star {es:List Expr}{k:Nat}{t:TGs}{n:Nat}(hc:X.calm=true) (h:PGs X es t)
  (hn:(assignEach es X.env).length=n+1:=by rfl) (hst:(assignEach es X.env).findIdx? (·.1)=some n:=by rfl):PG X (.Tuple es k pos) (gStar X.K n t):=by
 intro pins s σ H v u Q I r hw
 obtain⟨a,xs,e1,hq,hl,hw⟩:=hw
 subst e1
 cases r
 obtain⟨its,rv,pl,hz⟩:=I.list hq
 have il:=rv.length
 rw[assign_Tuple]
 refine wpAny_bind (wpAny_standAt ?_)
 unfold unpack
 rw[hn,hst]
 refine wpAny_bind (wpAny_holding (unpackItems_star (I.ok.hd hc) pl.isList (by simp;omega) (by simp;omega) fun h' tk s' kk e=>?_))
 subst e
 have I1:Inv X pins σ H { s with heap:=h',toks:=tk }:=I.kept (t':=tk) kk
 have hf:H h'.objs.size=none:=I1.hok.fresh (Nat.le_refl _)
 have I2:Inv X pins σ (upd H h'.objs.size (.lst (xs.drop n))) { s with heap:=h'.push { cls:=.type "list",data:=.seq (its.drop n).toArray },toks:=tk }:=by
  refine I1.laid (t':=tk) (fun b u e=>Heap.get?_push_of_some _ e) (Nat.le_refl _) ?_
  exact⟨by rw[List.length_drop];omega,its.drop n,0,rv.drop n,Heap.get?_push_size _ rfl⟩
 refine h pins _ σ _ _ _ Q I2 ?_ (hw _ hf)
 exact(rv.take n).append (.cons rfl .nil)
theorem pgs_star {e:Expr}{es:List Expr}{p:Pos}{t:TG}{u:TGs}(h1:PG X e t) (h2:PGs X es u)
  (hs:(assignEach (.Starred e p::es) X.env).map (·.2)=assign e X.env::(assignEach es X.env).map (·.2):=by rfl):PGs X (.Starred e p::es) (gCons t u):=by
 intro pins s σ H vs us Q I r h
 obtain⟨v,vr,e1,h⟩:=h
 subst e1
 cases r with
 | cons r rr =>
  rw[hs]
  refine assignInOrder_cons (thn (h1 pins s σ H _ _ _ I r h) fun _ s1 ⟨σ1,H1,I1,q1⟩=>?_)
  exact h2 pins s1 σ1 H1 _ _ Q I1 rr q1
end
end L2
namespace L2
open PySem PySem.Spec PyProof.Rows
section
variable {prog:Program}{w:World}{A:Around}{E:Value→Shared→Prop}{s:Shared}
structure Nx (prog:Program) (w:World) (A:Around) (i:Addr) (own:List Addr) (S:Nat→Heap→Prop) (val:Nat→Option Value):Prop where
 one:∀{k:Nat}{x:Value}{s:Shared}{E:Value→Shared→Prop}{Q:Value→Shared→Prop},S k s.heap→val k=some x→(∀g,S (k+1) g→Heap.SameBut i s.heap g→Q x { s with heap:=g })→wpAny (model prog w) A (Builtin.SmallTypes.nextOf (.ref i)) Q E s
 fin:∀{k:Nat}{s:Shared}{E:Value→Shared→Prop}{Q:Value→Shared→Prop},S k s.heap→val k=none→(∀g e,Heap.ExtBut i s.heap g→(∃o,g.get? e=some o∧o.cls = .type "StopIteration")→E (.ref e) { s with heap:=g })→wpAny (model prog w) A (Builtin.SmallTypes.nextOf (.ref i)) Q E s
 far:∀{k:Nat}{g g':Heap},S k g→(∀b∈own,∀o,g.get? b=some o→g'.get? b=some o)→S k g'
section
variable {z TI TO i1 i2:Addr}{o1 o2:List Addr}{S1 S2:Nat→Heap→Prop}{v1 v2:Nat→Option Value}{k:Nat}
end
end
section
variable {X:Cx}{elts:List Expr}{x1:_}{tpos:Pos}
end
section
variable {K:PySem.W.Frag}{H:Hp}{Q:VK}{σ:St}
end
end L2
namespace L2
open PySem PySem.Spec PyProof.Rows
section
variable {X:Cx}{o lo hi:Expr}{to:TE}{tl th:TO}{pos p2:Pos}
end
section
variable {X:Cx}
end
end L2
namespace L2
open PySem PySem.Spec PyProof.Rows
section
variable {X:Cx}{K:PySem.W.Frag}
def isNonV:V→Bool
 | .non=>true
 | _=>false
def isNonU:Value→Bool
 | .none=>true
 | _=>false
theorem DV.nonAt {pins:List (Addr×Obj)}{σ:St}{H:Hp}{s:Shared}{A:Around}(I:Inv X pins σ H s) (hu:A.units<cLine):∀{x:V}{d:PyData}{u:Value},DV X.K H x d→RelV x u→SeqAt.EqAt A s u .none (isNonU u)∧isNonU u=isNonV x
 | _,_,_,.non,r=>by cases r;exact⟨SeqAt.EqAt.same _,rfl⟩
 | _,_,_,.bl b,r=>by cases r;exact⟨SeqAt.EqAt.bool_none b,rfl⟩
 | _,_,_,.int i,r=>by obtain⟨t,rfl⟩:=r;exact⟨SeqAt.EqAt.int_none i t,rfl⟩
 | _,_,_,.str x,r=>by obtain⟨t,rfl⟩:=r;exact⟨SeqAt.EqAt.str_none x t,rfl⟩
 | _,_,_,.lst (a:=a) h ds,r=>by
  cases r
  obtain⟨its,rv,pl,_⟩:=I.list h
  exact⟨SeqAt.EqAt.list_none pl.isList hu,rfl⟩
 | _,_,_,.tup (a:=a) h ds,r=>by
  cases r
  obtain⟨its,rv,pl,_⟩:=I.tuple h
  exact⟨SeqAt.EqAt.tuple_none pl hu,rfl⟩
theorem DVs.nonAt {pins:List (Addr×Obj)}{σ:St}{H:Hp}{s:Shared}{A:Around}(I:Inv X pins σ H s) (hu:A.units<cLine):∀{xs:List V}{ds:List PyData}{us:List Value},DVs X.K H xs ds→Vals xs us→(∀u∈us,SeqAt.EqAt A s u .none (isNonU u))∧us.any isNonU=xs.any isNonV
 | _,_,_,.nil,r=>by cases r;exact⟨(fun _ h=>by cases h),rfl⟩
 | _,_,_,.cons h t,r=>by
  cases r with
  | cons r1 r2 =>
   obtain⟨a1,a2⟩:=DV.nonAt I hu h r1
   obtain⟨b1,b2⟩:=DVs.nonAt I hu t r2
   refine⟨fun u hu'=>?_,by rw[List.any_cons,List.any_cons,a2,b2]⟩
   rcases List.mem_cons.mp hu' with rfl|hu'
   ·exact a1
   ·exact b1 u hu'
def rInN (K:PySem.W.Frag) (neg:Bool):R2:=fun x y H Q=>∃p xs ds,x = .non∧y = .ref p∧SqL K H p xs∧DVs K H xs ds∧Q (.bl (if neg then !xs.any isNonV else xs.any isNonV)) H
theorem op_inN (hu:X.A.units+64<cLine):OpR X (compareOp .In) (rInN X.K false):=by
 intro pins s σ H x y v u Q I rx ry h
 obtain⟨p,xs,ds,rfl,rfl,hq,hd,q⟩:=h
 cases ry;cases rx
 obtain⟨its,r,pl,hz⟩:=I.list hq
 obtain⟨a1,a2⟩:=DVs.nonAt (A:=X.A.in1) I (by show X.A.units+1<cLine;omega) hd r
 refine SeqAt.in_listAt isNonU pl.isList (fun w hw=>a1 w (by simpa using hw)) ⟨.bl _,H,I,rfl,?_⟩
 rw[show its.toArray.any isNonU=its.any isNonU by simp,a2]
 exact q
theorem op_notInN (hu:X.A.units+64<cLine):OpR X (compareOp .NotIn) (rInN X.K true):=by
 intro pins s σ H x y v u Q I rx ry h
 obtain⟨p,xs,ds,rfl,rfl,hq,hd,q⟩:=h
 cases ry;cases rx
 obtain⟨its,r,pl,hz⟩:=I.list hq
 obtain⟨a1,a2⟩:=DVs.nonAt (A:=X.A.in1) I (by show X.A.units+1<cLine;omega) hd r
 refine SeqAt.notIn_listAt isNonU pl.isList (fun w hw=>a1 w (by simpa using hw)) ⟨.bl _,H,I,rfl,?_⟩
 rw[show its.toArray.any isNonU=its.any isNonU by simp,a2]
 exact q
def rRepS:R2:=fun x y H Q=>∃z n,x = .str z∧y = .int n∧MulOk z n∧Q (.str (Txt.mul z n)) H
theorem op_repS:OpR X (binaryOp .Mult) rRepS:=by
 intro pins s σ H x y v u Q I rx ry h
 obtain⟨z,n,rfl,rfl,ok,q⟩:=h
 obtain⟨t,rfl⟩:=rx
 obtain⟨t',rfl⟩:=ry
 exact SB.mul ok fun t2 k=>⟨.str _,H,I.tok _,⟨t2,rfl⟩,q⟩
def tCallV (P:Program) (w:World) (K:PySem.W.Frag) (mg:Str→Option Value) (base:Heap) (A:Around) (tf:TE) (t:TA):TE:=fun σ H Q=>tf σ H fun x H1=>∃f,x = .ref f∧PySem.W.keepIn K (.ref f)=true∧t σ H1 fun vs H2=>∃fd ps k sp,FnOk P w K mg base CX0 k f fd ps sp∧Binds K fd ps []∧Room k A∧sp vs H2 Q E0
theorem pe_callV {fe e:Expr}{es:List Expr}{tf:TE}{t:TA}{pos:Pos}(hf:PE X fe tf) (ha:PA X (e::es) t) (hx:Passes CX0 X E0)
  (hev:eval (.Call fe (e::es) [] pos) X.env =(do callWith pos (← eval fe X.env) [] (backTo pos (starEach (e::es) X.env)) (backToKw pos (keywordEach [] X.env))):=by rfl)
  (he:starEach (e::es) X.env =(false,eval e X.env)::starEach es X.env:=by rfl) (hpl:(backTo pos (starEach es X.env)).any (·.1)=false:=by rfl) :
  PE X (.Call fe (e::es) [] pos) (tCallV X.prog X.w X.K X.mg X.base X.A tf t):=by
 intro pins s σ H Q I h
 rw[hev]
 refine wpAny_bind (thn (hf pins s σ H _ I h) fun u s1 ⟨x,H1,I1,rx,f,ex,hk,q1⟩=>?_)
 subst ex
 obtain rfl:u=Value.ref f:=rx
 refine PySem.W.callWith_K (h₀:=X.base) I.ok.mod.kin hk (thn (ha pos pins s1 σ H1 _ I1 q1) fun us s2 ⟨vs,H2,I2,r,fd,ps,k,sp,F,hb,hr,q⟩=>⟨I2.kIn,?_⟩) he hpl
 exact run_fn (dvs:=[]) (ds:=[]) F hr hb .nil hx I2 r (by rw[List.append_nil];exact q)
end
theorem for_str {z:Str}{g:TG}{tb:TS}{D:Ends}{σ:St}{H:Hp}(Pv:Nat→St→Hp→Prop) (h0:Pv 0 σ H)
  (hs:∀i c σ H,z.cps[i]? = some c→Pv i σ H→g (.str ⟨#[c]⟩) σ H fun σ2 H2=>tb { D with nx:=Pv (i+1),ct:=Pv (i+1),bk:=D.nx } σ2 H2) (hd:∀σ H,Pv z.cps.size σ H→D.nx σ H) :
  ∃W:Nat→Nat→St→Hp→Prop,(∃m,W 0 m σ H)∧∀i m σ H,W i m σ H →
   ((Its z).stop i H∧D.nx σ H) ∨((Its z).go i H∧∃N:St→Hp→Prop,(∀σ' H',N σ' H'→∃m',m'<m∧W (i+1) m' σ' H')∧∀x H',(Its z).yld i H x H'→g x σ H' fun σ2 H2=>tb { D with nx:=N,ct:=N,bk:=D.nx } σ2 H2):=by
 refine⟨fun i m σ H=>m=z.cps.size-i∧i≤z.cps.size∧Pv i σ H,⟨z.cps.size,by simp,Nat.zero_le _,h0⟩,?_⟩
 rintro i m σ H ⟨rfl,hi,p⟩
 by_cases hlt:i<z.cps.size
 ·refine .inr ⟨hlt,Pv (i+1),fun σ' H' p'=>⟨z.cps.size-(i+1),by omega,rfl,hlt,p'⟩,fun x H' y=>?_⟩
  obtain⟨e,c,hc,y⟩:=y
  subst e y
  exact hs i c σ _ hc p
 ·have e:i=z.cps.size:=by omega
  subst e
  exact .inl ⟨Nat.le_refl _,hd σ H p⟩
theorem rd_callV {P:Program}{w:World}{K:PySem.W.Frag}{mg:Str→Option Value}{base:Heap}{A:Around}{tf:TE}{t:TA}{σ:St}{H:Hp}{Q:VK}(h:tf σ H fun x H1=>∃f,x = .ref f∧PySem.W.keepIn K (.ref f)=true∧t σ H1 fun vs H2=>∃fd ps k sp,FnOk P w K mg base CX0 k f fd ps sp∧Binds K fd ps []∧Room k A∧sp vs H2 Q E0):tCallV P w K mg base A tf t σ H Q:=h
end L2
namespace L2
open PySem PySem.Spec PyProof.Rows
structure PES (X:Cx) (e:Expr) (t:TE):Prop where
 out:PE X e t
structure PSS (X:Cx) (st:Stmt) (t:TS):Prop where
 out:PS X st t
structure PSSs (X:Cx) (st:List Stmt) (t:TS):Prop where
 out:PSs X st t
structure PIS (X:Cx) (tg iter:Expr) (wi:TI):Prop where
 out:PI X tg iter wi
section
variable {X:Cx}{e a b:Expr}{es:List Expr}{te ta tb:TE}{t u:TS}{st:Stmt}{rest:List Stmt}{pos:Pos}
theorem pes_non {j}:PES X (.Constant .none j pos) (tC .non):=⟨pe_non⟩
theorem pes_bl {j}{k:Bool}:PES X (.Constant (.bool k) j pos) (tC (.bl k)):=⟨pe_bl⟩
theorem pes_int {j}{k:Int}:PES X (.Constant (.int k) j pos) (tC (.int k)):=⟨pe_int⟩
theorem pes_str {j}{z:Str}:PES X (.Constant (.str z) j pos) (tC (.str z)):=⟨pe_str⟩
theorem pes_var {x:Str}{p:Pos}(h:PE X (.Name x p) te):PES X (.Name x p) te:=⟨h⟩
theorem pes_op {op:Operator}{r:R2}(ho:OpR X (binaryOp op) r) (ha:PES X a ta) (hb:PES X b tb):PES X (.BinOp a op b pos) (tOp r ta tb):=⟨pe_op ho ha.out hb.out⟩
theorem pass_cons {t:TA}(ha:PES X e te) (hr:PAS X es t) (hs:starEach (e::es) X.env =(false,eval e X.env)::starEach es X.env):PAS X (e::es) (tCons te t):=⟨pa_cons ha.out hr.out hs⟩
theorem pes_lst {t:TA}(h:PAS X es t):PES X (.List es pos) (tLst t):=⟨pe_lst h.out⟩
theorem pes_tup {t:TA}{c}(h:PAS X es t):PES X (.Tuple es c pos) (tTup t):=⟨pe_tup h.out⟩
theorem pes_dnew:PES X (.Dict [] [] pos) tDNewK:=⟨pe_dnewK⟩
theorem pssS_cons (h1:PSS X st t) (h2:PSSs X rest u):PSSs X (st::rest) (tSeq t u):=⟨pss_cons h1.out h2.out⟩
theorem pssS_one (h1:PSS X st t):PSSs X [st] t:=⟨pss_one h1.out⟩
theorem psS_set {i:Nat}{x:Str}{pos':Pos}(hN:X.N.Nodup) (hi:X.N[i]? = some x) (hx:Loc X.env.scope x) (he:PES X e te) (hs:swapsWith e (some (.Name x pos')) pos.line X.env=pure false) (hf:X.fn x=true∨X.env.scope.names.lookup x=some .local) :
  PSS X (.Assign [.Name x pos'] e pos) (tAsg te (gName i)):=⟨ps_set hN hi hx he.out hs hf⟩
theorem psS_for {tg iter:Expr}{body:List Stmt}{wi:TI}{g:TG}{tb:TS}(hp:PassesOwn (model X.prog X.w) X.A X.env X.xe) (hc:X.calm=true) (hi:PIS X tg iter wi) (hg:PG X tg g) (hb:PSs X body tb)
  (hs:∀x,foldedSetIterable iter X.env x=pure x):PSS X (.For tg iter body [] pos) (tFor wi g tb):=⟨ps_for hp hc hi.out hg hb hs⟩
theorem piS_list {tg:Expr}(hl:PES X e te):PIS X tg e (iList X.K te):=⟨pi_list hl.out⟩
end
end L2
set_option maxHeartbeats 4000000
local macro_rules | `(tactic| walk_at"rdc")=>`(tactic| first
  | (show (0:Int) < _; omega)
  | (show (0:Int) ≤ _; omega)
  | (show (0:Int) < _∧_ < 2 ^ 100; omega)
  | (show (-(2 ^ 64) < _∧_ < 2 ^ 64) ∨ (-(2 ^ 64) < _∧_ < 2 ^ 64); omega)
  | (show (0:Int) ≤ _∧_ ≤ 1000000∧Int.natAbs _ < 2 ^ 64; omega))
local macro_rules | `(tactic| walk_at"rd1")=>`(tactic| first
  | (with_reducible refine' L2.rd_allN (fun _ _=>?_)) | (with_reducible refine' L2.rd_seqO (fun _ _=>?_)) | (with_reducible refine' L2.rd_asg ?_) | ((with_reducible refine' L2.rd_gname ?_); (try dsimp only [List.set_cons_zero,List.set_cons_succ])) | (with_reducible refine' L2.rd_ret ?_) | (with_reducible refine' L2.rd_retN ?_) | (with_reducible refine' L2.rd_next ?_) | (with_reducible refine' L2.rd_drop ?_) | (with_reducible refine' L2.rd_ifSO (fun _ _ _ _=>?_))
  | (with_reducible refine' L2.rd_op ?_) | (with_reducible refine' L2.rd_un ?_) | (with_reducible refine' L2.rd_c ?_) | ((with_reducible refine' L2.rd_var ?rdv ?_); (case rdv=>rfl))
  | (with_reducible refine' L2.rd_I0 ?_) | (with_reducible refine' L2.rd_U ?_) | (with_reducible refine' L2.rd_eqI ?_) | (with_reducible refine' L2.rd_neI ?_) | (with_reducible refine' L2.rd_eqB ?_) | (with_reducible refine' L2.rd_neB ?_)
  | (with_reducible refine' L2.rd_test ?_) | (with_reducible refine' L2.rd_tB ?_) | (with_reducible refine' L2.rd_and ?_) | (with_reducible refine' L2.rd_or ?_) | (with_reducible refine' L2.rd_not ?_) | (with_reducible refine' L2.rd_andV ?_) | (with_reducible refine' L2.rd_orV ?_) | (with_reducible refine' L2.rd_notV ?_) | (with_reducible refine' L2.rd_chain ?_) | (with_reducible refine' L2.rd_ifE ?_)
  | (with_reducible refine' L2.rd_nil ?_) | (with_reducible refine' L2.rd_cons ?_) | (with_reducible refine' L2.rd_call ?_) | (with_reducible refine' L2.rd_cb ?_) | (with_reducible refine' L2.rd_lst ?_) | (with_reducible refine' L2.rd_tup ?_) | (with_reducible refine' L2.rd_bm0 ?_) | (with_reducible refine' L2.rd_bm ?_) | (with_reducible refine' L2.rd_augS ?_) | ((with_reducible refine' L2.rd_ip ?_); (try dsimp only [List.set_cons_zero,List.set_cons_succ])) | ((with_reducible refine' L2.rd_aug ?rdv ?_); (case rdv=>rfl)) | (with_reducible refine' L2.rd_izip ?_) | (with_reducible refine' L2.rd_ivals ?_) | (with_reducible refine' L2.rd_dget2 ?_) | (with_reducible refine' L2.rd_dput ?_) | (with_reducible refine' L2.rd_dget ?_) | (with_reducible refine' L2.rd_dnewK ?_) | (with_reducible refine' L2.rd_sortK ?_) | (with_reducible refine' L2.rd_sortLam ?_) | (with_reducible refine' L2.rd_orG ?_) | (with_reducible refine' L2.rd_isB ?_) | (with_reducible refine' L2.rd_gsub ?_) | (with_reducible refine' L2.rd_meth ?_) | (with_reducible refine' L2.rd_make ?_) | (with_reducible refine' L2.rd_fld ?_) | (with_reducible refine' L2.rd_sfld ?_) | (with_reducible refine' L2.rd_din ?_) | (with_reducible refine' L2.rd_dnin ?_) | (with_reducible refine' L2.rd_idict ?_) | (with_reducible refine' L2.rd_dpop ?_) | (with_reducible refine' L2.rd_raise ?_) | (with_reducible refine' L2.rd_sortLamV ?_) | (with_reducible refine' L2.rd_xat ?_)
  | (with_reducible refine' L2.rd_sl ?_) | (with_reducible refine' L2.rd_nop ?_) | (with_reducible refine' L2.rd_part ?_) | (with_reducible refine' L2.rd_bl ?_) | (with_reducible refine' L2.rd_int ?_)
  | (with_reducible refine' L2.rd_iteT ?_) | (with_reducible refine' L2.rd_iteF ?_) | (with_reducible refine' L2.rd_iteNF ?_) | (with_reducible refine' L2.rd_iteNT ?_)
  | (with_reducible refine' L2.rd_forO (fun _ _=>?_)) | (with_reducible refine' L2.rd_rng1 ?_) | (with_reducible refine' L2.rd_rng2 ?_) | (with_reducible refine' L2.rd_ilist ?_) | (with_reducible refine' L2.rd_comp ?_) | (with_reducible refine' L2.rd_yes ?_)
  | (with_reducible refine' L2.rd_itup ?_) | (with_reducible refine' L2.rd_istr ?_) | (with_reducible refine' L2.rd_leS ?_) | (with_reducible refine' L2.rd_inS ?_)
  | (with_reducible refine' L2.rd_abs ?_) | (with_reducible refine' L2.rd_max ?_) | (with_reducible refine' L2.rd_min ?_) | (with_reducible refine' L2.rd_bitlen ?_)
  | (with_reducible refine' L2.rd_tF ?_) | (with_reducible refine' L2.rd_tfV ?_) | (with_reducible refine' L2.rd_izip2 ?_) | (with_reducible refine' L2.rd_iseq ?_)
  | (with_reducible refine' L2.rd_rev ?_) | (with_reducible refine' L2.rd_ienum ?_) | (with_reducible refine' L2.rd_intB ?_)
  | ((with_reducible refine' L2.rd_ixL (L2.SqL.of ?rdh) ?rde ?_); (case rdh=>assumption); (case rde=>rfl))
  | ((with_reducible refine' L2.rd_set0 ?rdh ?_); (case rdh=>assumption))
  | ((with_reducible refine' L2.rd_set1 ?rdh ?_); (case rdh=>assumption))
  | ((with_reducible refine' L2.rd_setL ?rdh ?rde ?_); (case rdh=>assumption); (case rde=>rfl))
  | ((with_reducible refine' L2.rd_ixT (L2.SqT.of ?rdh) ?rde ?_); (case rdh=>assumption); (case rde=>rfl))
  | ((with_reducible refine' L2.rd_lenL (L2.SqL.of ?rdh) ?_); (case rdh=>assumption))
  | ((with_reducible refine' L2.rd_I ?rdc ?_); (case rdc=>walk_at"rdc"))
  | ((with_reducible refine' L2.rd_tx ?rdt ?_); (case rdt=>assumption); (try dsimp only [List.set_cons_zero,List.set_cons_succ]))
  | (dsimp only; (with_reducible refine' L2.rd_tx ?rdt ?_); (case rdt=>assumption); (try dsimp only [List.set_cons_zero,List.set_cons_succ]))
  | ((with_reducible refine' L2.rd_isN ?rdt ?_); (case rdt=>assumption); (try dsimp only))
  | (dsimp only; (with_reducible refine' L2.rd_isN ?rdt ?_); (case rdt=>assumption); (try dsimp only)))
local macro_rules | `(tactic| walk_at"rd")=>`(tactic| repeat walk_at"rd1")
local macro_rules | `(tactic| walk_at"lk")=>`(tactic| first | k_is | ((refine' L2.Ga.mk ?lka ?lkl ?lkc ?lkk); (case lka=>k_is); (case lkl=>k_is); (case lkc=>k_is); (case lkk=>k_is)) | ((refine' L2.Ga2.mk ?lka ?lkb ?lkl ?lkc ?lkk); (case lka=>k_is); (case lkb=>k_is); (case lkl=>k_is); (case lkc=>k_is); (case lkk=>k_is)) | ((refine' L2.Me.mk ?lka ?lkb ?lkl ?lkc ?lkk); (case lka=>k_is); (case lkb=>k_is); (case lkl=>k_is); (case lkc=>k_is); (case lkk=>k_is)))
namespace Law
open PySem PySem.Spec PyProof.Rows L2
def top (i:Nat):Stmt:=PySem.Challenge.pw_tailrooms_k92_texts_spoilt_anywhere.main.body.getD i (.Pass ⟨0,0,0,0⟩)
abbrev s_is_name:Stmt:=top 15
abbrev s_read_rows:Stmt:=top 21
abbrev s_read_row:Stmt:=top 22
abbrev s_read_entry:Stmt:=top 23
abbrev s_read_step:Stmt:=top 24
abbrev s_read_yard:Stmt:=top 25
abbrev s_read_words:Stmt:=top 26
abbrev s_read_number:Stmt:=top 27
abbrev s_is_number:Stmt:=top 28
abbrev s_ask_text:Stmt:=top 29
abbrev s__law_open:Stmt:=top 31
abbrev s__law_draw:Stmt:=top 32
abbrev s__law_far:Stmt:=top 33
abbrev s__law_power:Stmt:=top 34
abbrev s__law_key:Stmt:=top 35
abbrev s__law_thing:Stmt:=top 36
abbrev s__law_row:Stmt:=top 37
abbrev s__law_rows:Stmt:=top 38
abbrev s__law_yard:Stmt:=top 39
abbrev s__law_step:Stmt:=top 40
abbrev s__law_row_text:Stmt:=top 41
abbrev s__law_rows_text:Stmt:=top 42
abbrev s__law_step_text:Stmt:=top 43
abbrev s__law_yard_text:Stmt:=top 44
abbrev s__law_number:Stmt:=top 45
abbrev s__law_read_entry:Stmt:=top 46
abbrev s__law_read_row:Stmt:=top 47
abbrev s__law_read_rows:Stmt:=top 48
abbrev s__law_read_step:Stmt:=top 49
abbrev s__law_read_yard:Stmt:=top 50
abbrev s__law_told:Stmt:=top 51
abbrev s__law_right:Stmt:=top 52
abbrev s__law_spoilt:Stmt:=top 53
abbrev s_law:Stmt:=top 54
theorem sc_is_name:FnScope ["thing"] ["thing"] (defScope s_is_name):=⟨rfl,rfl,rfl,by decide +kernel,rfl,by decide +kernel,by decide +kernel⟩
theorem sc_read_rows:FnScope ["text"] ["text"] (defScope s_read_rows):=⟨rfl,rfl,rfl,by decide +kernel,rfl,by decide +kernel,by decide +kernel⟩
theorem sc_read_row:FnScope ["text"] ["text"] (defScope s_read_row):=⟨rfl,rfl,rfl,by decide +kernel,rfl,by decide +kernel,by decide +kernel⟩
theorem sc_read_entry:FnScope ["text", "key", "sign", "thing"] ["text"] (defScope s_read_entry):=⟨rfl,rfl,rfl,by decide +kernel,rfl,by decide +kernel,by decide +kernel⟩
theorem sc_read_step:FnScope ["text", "kind", "others", "room", "at", "row", "many"] ["text"] (defScope s_read_step):=⟨rfl,rfl,rfl,by decide +kernel,rfl,by decide +kernel,by decide +kernel⟩
theorem sc_read_yard:FnScope ["text", "words", "wide", "rooms", "rest", "held"] ["text"] (defScope s_read_yard):=⟨rfl,rfl,rfl,by decide +kernel,rfl,by decide +kernel,by decide +kernel⟩
theorem sc_read_words:FnScope ["text"] ["text"] (defScope s_read_words):=⟨rfl,rfl,rfl,by decide +kernel,rfl,by decide +kernel,by decide +kernel⟩
theorem sc_read_number:FnScope ["text", "least", "most"] ["text", "least", "most"] (defScope s_read_number):=⟨rfl,rfl,rfl,by decide +kernel,rfl,by decide +kernel,by decide +kernel⟩
theorem sc_is_number:FnScope ["text"] ["text"] (defScope s_is_number):=⟨rfl,rfl,rfl,by decide +kernel,rfl,by decide +kernel,by decide +kernel⟩
theorem sc_ask_text:FnScope ["thing"] ["thing"] (defScope s_ask_text):=⟨rfl,rfl,rfl,by decide +kernel,rfl,by decide +kernel,by decide +kernel⟩
theorem sc__law_open:FnScope ["_law_script", "_law_place", "_law_cells", "_law_at", "_law_digits"] ["_law_script", "_law_place"] (defScope s__law_open):=⟨rfl,rfl,rfl,by decide +kernel,rfl,by decide +kernel,by decide +kernel⟩
theorem sc__law_draw:FnScope ["_law_hand", "_law_many", "_law_got", "_law_k", "_law_number_here"] ["_law_hand", "_law_many"] (defScope s__law_draw):=⟨rfl,rfl,rfl,by decide +kernel,rfl,by decide +kernel,by decide +kernel⟩
theorem sc__law_far:FnScope ["_law_hand", "_law_many", "_law_number_here", "_law_k"] ["_law_hand", "_law_many"] (defScope s__law_far):=⟨rfl,rfl,rfl,by decide +kernel,rfl,by decide +kernel,by decide +kernel⟩
theorem sc__law_power:FnScope ["_law_many", "_law_number_here", "_law_k"] ["_law_many"] (defScope s__law_power):=⟨rfl,rfl,rfl,by decide +kernel,rfl,by decide +kernel,by decide +kernel⟩
theorem sc__law_key:FnScope ["_law_hand", "_law_way", "_law_low"] ["_law_hand"] (defScope s__law_key):=⟨rfl,rfl,rfl,by decide +kernel,rfl,by decide +kernel,by decide +kernel⟩
theorem sc__law_thing:FnScope ["_law_hand", "_law_letters"] ["_law_hand"] (defScope s__law_thing):=⟨rfl,rfl,rfl,by decide +kernel,rfl,by decide +kernel,by decide +kernel⟩
theorem sc__law_row:FnScope ["_law_hand", "_law_row_here", "_law_k"] ["_law_hand"] (defScope s__law_row):=⟨rfl,rfl,rfl,by decide +kernel,rfl,by decide +kernel,by decide +kernel⟩
theorem sc__law_rows:FnScope ["_law_hand", "_law_most", "_law_rows_here", "_law_k"] ["_law_hand", "_law_most"] (defScope s__law_rows):=⟨rfl,rfl,rfl,by decide +kernel,rfl,by decide +kernel,by decide +kernel⟩
theorem sc__law_yard:FnScope ["_law_hand", "_law_wide", "_law_rooms", "_law_held", "_law_k"] ["_law_hand"] (defScope s__law_yard):=⟨rfl,rfl,rfl,by decide +kernel,rfl,by decide +kernel,by decide +kernel⟩
theorem sc__law_step:FnScope ["_law_hand", "_law_way", "_law_numbers"] ["_law_hand"] (defScope s__law_step):=⟨rfl,rfl,rfl,by decide +kernel,rfl,by decide +kernel,by decide +kernel⟩
theorem sc__law_row_text:FnScope ["_law_row_here", "_law_words", "_law_key_here", "_law_thing_here"] ["_law_row_here"] (defScope s__law_row_text):=⟨rfl,rfl,rfl,by decide +kernel,rfl,by decide +kernel,by decide +kernel⟩
theorem sc__law_rows_text:FnScope ["_law_rows_here"] ["_law_rows_here"] (defScope s__law_rows_text):=⟨rfl,rfl,rfl,by decide +kernel,rfl,by decide +kernel,by decide +kernel⟩
theorem sc__law_step_text:FnScope ["_law_step_here", "_law_words", "_law_part"] ["_law_step_here"] (defScope s__law_step_text):=⟨rfl,rfl,rfl,by decide +kernel,rfl,by decide +kernel,by decide +kernel⟩
theorem sc__law_yard_text:FnScope ["_law_yard_here", "_law_words", "_law_rows_here"] ["_law_yard_here"] (defScope s__law_yard_text):=⟨rfl,rfl,rfl,by decide +kernel,rfl,by decide +kernel,by decide +kernel⟩
theorem sc__law_number:FnScope ["_law_text", "_law_least", "_law_most", "_law_sign"] ["_law_text", "_law_least", "_law_most"] (defScope s__law_number):=⟨rfl,rfl,rfl,by decide +kernel,rfl,by decide +kernel,by decide +kernel⟩
theorem sc__law_read_entry:FnScope ["_law_text", "_law_key_here", "_law_equals", "_law_thing_here", "_law_number_here", "_law_sign"] ["_law_text"] (defScope s__law_read_entry):=⟨rfl,rfl,rfl,by decide +kernel,rfl,by decide +kernel,by decide +kernel⟩
theorem sc__law_read_row:FnScope ["_law_text", "_law_row_here"] ["_law_text"] (defScope s__law_read_row):=⟨rfl,rfl,rfl,by decide +kernel,rfl,by decide +kernel,by decide +kernel⟩
theorem sc__law_read_rows:FnScope ["_law_text", "_law_rows_here"] ["_law_text"] (defScope s__law_read_rows):=⟨rfl,rfl,rfl,by decide +kernel,rfl,by decide +kernel,by decide +kernel⟩
theorem sc__law_read_step:FnScope ["_law_text", "_law_words", "_law_numbers"] ["_law_text"] (defScope s__law_read_step):=⟨rfl,rfl,rfl,by decide +kernel,rfl,by decide +kernel,by decide +kernel⟩
theorem sc__law_read_yard:FnScope ["_law_text", "_law_words", "_law_wide", "_law_rooms", "_law_held"] ["_law_text"] (defScope s__law_read_yard):=⟨rfl,rfl,rfl,by decide +kernel,rfl,by decide +kernel,by decide +kernel⟩
theorem sc__law_told:FnScope ["_law_way", "_law_text", "_law_told_here", "e"] ["_law_way", "_law_text"] (defScope s__law_told):=⟨rfl,rfl,rfl,by decide +kernel,rfl,by decide +kernel,by decide +kernel⟩
theorem sc__law_right:FnScope ["_law_text", "_law_way", "_law_due", "_law_told_here"] ["_law_text"] (defScope s__law_right):=⟨rfl,rfl,rfl,by decide +kernel,rfl,by decide +kernel,by decide +kernel⟩
theorem sc__law_spoilt:FnScope ["_law_hand", "_law_text", "_law_few", "_law_signs", "_law_way", "_law_at", "_law_between", "_law_sign", "_law_place", "_law_parts", "_law_pair"] ["_law_hand", "_law_text"] (defScope s__law_spoilt):=⟨rfl,rfl,rfl,by decide +kernel,rfl,by decide +kernel,by decide +kernel⟩
theorem sc_law:FnScope ["_law_script", "_law_place", "_law_hand", "_law_way", "_law_other", "_law_text", "_law_k", "_law_thing_here", "_law_far_here", "_law_cuts"] ["_law_script"] (defScope s_law):=⟨rfl,rfl,rfl,by decide +kernel,rfl,by decide +kernel,by decide +kernel⟩
theorem st_is_name (x0:V):start ["thing"] [x0]=[some x0]:=rfl
theorem st_read_rows (x0:V):start ["text"] [x0]=[some x0]:=rfl
theorem st_read_row (x0:V):start ["text"] [x0]=[some x0]:=rfl
theorem st_read_entry (x0:V):start ["text", "key", "sign", "thing"] [x0]=[some x0,none,none,none]:=rfl
theorem st_read_step (x0:V):start ["text", "kind", "others", "room", "at", "row", "many"] [x0]=[some x0,none,none,none,none,none,none]:=rfl
theorem st_read_yard (x0:V):start ["text", "words", "wide", "rooms", "rest", "held"] [x0]=[some x0,none,none,none,none,none]:=rfl
theorem st_read_words (x0:V):start ["text"] [x0]=[some x0]:=rfl
theorem st_read_number (x0 x1 x2:V):start ["text", "least", "most"] [x0,x1,x2]=[some x0,some x1,some x2]:=rfl
theorem st_is_number (x0:V):start ["text"] [x0]=[some x0]:=rfl
theorem st_ask_text (x0:V):start ["thing"] [x0]=[some x0]:=rfl
theorem st__law_open (x0 x1:V):start ["_law_script", "_law_place", "_law_cells", "_law_at", "_law_digits"] [x0,x1]=[some x0,some x1,none,none,none]:=rfl
theorem st__law_draw (x0 x1:V):start ["_law_hand", "_law_many", "_law_got", "_law_k", "_law_number_here"] [x0,x1]=[some x0,some x1,none,none,none]:=rfl
theorem st__law_far (x0 x1:V):start ["_law_hand", "_law_many", "_law_number_here", "_law_k"] [x0,x1]=[some x0,some x1,none,none]:=rfl
theorem st__law_power (x0:V):start ["_law_many", "_law_number_here", "_law_k"] [x0]=[some x0,none,none]:=rfl
theorem st__law_key (x0:V):start ["_law_hand", "_law_way", "_law_low"] [x0]=[some x0,none,none]:=rfl
theorem st__law_thing (x0:V):start ["_law_hand", "_law_letters"] [x0]=[some x0,none]:=rfl
theorem st__law_row (x0:V):start ["_law_hand", "_law_row_here", "_law_k"] [x0]=[some x0,none,none]:=rfl
theorem st__law_rows (x0 x1:V):start ["_law_hand", "_law_most", "_law_rows_here", "_law_k"] [x0,x1]=[some x0,some x1,none,none]:=rfl
theorem st__law_yard (x0:V):start ["_law_hand", "_law_wide", "_law_rooms", "_law_held", "_law_k"] [x0]=[some x0,none,none,none,none]:=rfl
theorem st__law_step (x0:V):start ["_law_hand", "_law_way", "_law_numbers"] [x0]=[some x0,none,none]:=rfl
theorem st__law_row_text (x0:V):start ["_law_row_here", "_law_words", "_law_key_here", "_law_thing_here"] [x0]=[some x0,none,none,none]:=rfl
theorem st__law_rows_text (x0:V):start ["_law_rows_here"] [x0]=[some x0]:=rfl
theorem st__law_step_text (x0:V):start ["_law_step_here", "_law_words", "_law_part"] [x0]=[some x0,none,none]:=rfl
theorem st__law_yard_text (x0:V):start ["_law_yard_here", "_law_words", "_law_rows_here"] [x0]=[some x0,none,none]:=rfl
theorem st__law_number (x0 x1 x2:V):start ["_law_text", "_law_least", "_law_most", "_law_sign"] [x0,x1,x2]=[some x0,some x1,some x2,none]:=rfl
theorem st__law_read_entry (x0:V):start ["_law_text", "_law_key_here", "_law_equals", "_law_thing_here", "_law_number_here", "_law_sign"] [x0]=[some x0,none,none,none,none,none]:=rfl
theorem st__law_read_row (x0:V):start ["_law_text", "_law_row_here"] [x0]=[some x0,none]:=rfl
theorem st__law_read_rows (x0:V):start ["_law_text", "_law_rows_here"] [x0]=[some x0,none]:=rfl
theorem st__law_read_step (x0:V):start ["_law_text", "_law_words", "_law_numbers"] [x0]=[some x0,none,none]:=rfl
theorem st__law_read_yard (x0:V):start ["_law_text", "_law_words", "_law_wide", "_law_rooms", "_law_held"] [x0]=[some x0,none,none,none,none]:=rfl
theorem st__law_told (x0 x1:V):start ["_law_way", "_law_text", "_law_told_here", "e"] [x0,x1]=[some x0,some x1,none,none]:=rfl
theorem st__law_right (x0:V):start ["_law_text", "_law_way", "_law_due", "_law_told_here"] [x0]=[some x0,none,none,none]:=rfl
theorem st__law_spoilt (x0 x1:V):start ["_law_hand", "_law_text", "_law_few", "_law_signs", "_law_way", "_law_at", "_law_between", "_law_sign", "_law_place", "_law_parts", "_law_pair"] [x0,x1]=[some x0,some x1,none,none,none,none,none,none,none,none,none]:=rfl
theorem st_law (x0:V):start ["_law_script", "_law_place", "_law_hand", "_law_way", "_law_other", "_law_text", "_law_k", "_law_thing_here", "_law_far_here", "_law_cuts"] [x0]=[some x0,none,none,none,none,none,none,none,none,none]:=rfl
structure Bl (mg:Str→Option Value):Prop where
 isinstance:mg "isinstance" = none
 str:mg "str" = none
 all:mg "all" = none
 len:mg "len" = none
 int:mg "int" = none
 abs:mg "abs" = none
 range:mg "range" = none
 max:mg "max" = none
 list:mg "list" = none
 ValueError:mg "ValueError" = none
 c_MOST:∃t,mg "MOST" = some (.int 130 t)
 c_MOST_FIGURES:∃t,mg "MOST_FIGURES" = some (.int 30 t)
 c_LAST_KEY:∃t,mg "LAST_KEY" = some (.int 1152921504606846975 t)
 c_MOST_WIDE:∃t,mg "MOST_WIDE" = some (.int 8 t)
structure Hand (H:Hp) (p:Addr) (N:Nat):Prop where
 ex:∃(l:Addr) (d c:Int) (ns:List Int),H p=some (.lst [.int d,.int c,.ref l])∧H l=some (.lst (ns.map V.int))∧0≤c∧c≤N∧ns ≠ []
theorem Hand.mono {H:Hp}{p:Addr}{N M:Nat}(h:Hand H p N) (hm:N≤M):Hand H p M:=by
 obtain⟨l,d,c,ns,h1,h2,h3,h4,h5⟩:=h.ex
 exact⟨l,d,c,ns,h1,h2,h3,by omega,h5⟩
def cellsOf (H:Hp) (p:Addr):Option Addr:=match H p with
 | some (.lst [_,_,.ref l])=>some l
 | _=>none
theorem cells_of {H:Hp}{p l:Addr}{a b:V}(h:H p=some (.lst [a,b,.ref l])):cellsOf H p=some l:=by unfold cellsOf;rw[h]
def Kp (H H':Hp) (p:Addr):Prop:=(∀b o,H b=some o→b≠p→H' b=some o)∧cellsOf H' p=cellsOf H p
theorem Kp.refl (H:Hp) (p:Addr):Kp H H p:=⟨fun _ _ h _=>h,rfl⟩
theorem Kp.trans {H H1 H2:Hp}{p:Addr}(a:Kp H H1 p) (b:Kp H1 H2 p):Kp H H2 p:=⟨fun c o h n=>b.1 c o (a.1 c o h n) n,b.2.trans a.2⟩
theorem Kp.hand {H:Hp}{p l:Addr}{a b a' b':V}(h:H p=some (.lst [a,b,.ref l])):Kp H (upd H p (.lst [a',b',.ref l])) p :=
 ⟨fun b u h n=>by rw[upd_ne n];exact h,by rw[cells_of upd_same,cells_of h]⟩
theorem Kp.of {H H':Hp}{p:Addr}{N:Nat}(h:Same H H') (hh:Hand H p N):Kp H H' p:=by
 obtain⟨l,d,c,ns,h1,_⟩:=hh.ex
 exact⟨fun b o q _=>h b o q,by rw[cells_of h1,cells_of (h _ _ h1)]⟩
theorem Kp.new {H H1 H2:Hp}{p:Addr}(a:Same H H1) (n:H p=none) (b:Kp H1 H2 p):Same H H2:=fun c o h=>b.1 c o (a c o h) (ne_of_none h n)
theorem Hand.upd {H:Hp}{p c:Addr}{N:Nat}{o:HO}(h:Hand H p N) (n:c≠p) (nl:cellsOf H p≠some c):Hand (L2.upd H c o) p N:=by
 obtain⟨l,d,k,ns,h1,h2,r⟩:=h.ex
 have ne:l≠c:=fun z=>nl (by rw[cells_of h1,z])
 exact⟨l,d,k,ns,by rw[upd_ne n.symm];exact h1,by rw[upd_ne ne];exact h2,r⟩
theorem cells_new {H:Hp}{p c:Addr}{N:Nat}(h:Hand H p N) (n:H c=none):cellsOf H p≠some c:=by
 obtain⟨l,d,k,ns,h1,h2,r⟩:=h.ex
 rw[cells_of h1]
 intro z
 exact ne_of_none h2 n (Option.some.inj z)
theorem cells_upd {H:Hp}{p c:Addr}{o:HO}(n:c≠p):cellsOf (L2.upd H c o) p=cellsOf H p:=by unfold cellsOf;rw[upd_ne n.symm]
theorem Hand.same {H H':Hp}{p:Addr}{N:Nat}(h:Hand H p N) (s:Same H H'):Hand H' p N:=by
 obtain⟨l,d,c,ns,h1,h2,r⟩:=h.ex
 exact⟨l,d,c,ns,s _ _ h1,s _ _ h2,r⟩
theorem nsMod {ns:List Int}(h:ns ≠ []) (k:Int):∃v,atI (ns.map V.int) (k%((ns.map V.int).length:Int))=some (.int v):=by
 have hl:0<ns.length:=List.length_pos_iff.mpr h
 rw[List.length_map]
 have h0:0≤k%(ns.length:Int):=Int.emod_nonneg _ (by omega)
 have h1:k%(ns.length:Int)<ns.length:=Int.emod_lt_of_pos _ (by omega)
 have ek:k%(ns.length:Int) =(((k%(ns.length:Int)).toNat:Nat):Int):=by omega
 have hk:(k%(ns.length:Int)).toNat<ns.length:=by omega
 obtain⟨j,hj⟩ : ∃j:Nat,k%(ns.length:Int) =(j:Int):=⟨_,ek⟩
 have hk2:j<ns.length:=by omega
 refine⟨ns[j],?_⟩
 rw[hj]
 exact atI_nat (by rw[List.getElem?_map,List.getElem?_eq_getElem hk2] <;> rfl)
theorem hand_ne {H:Hp}{p l:Addr}{d c:Int}{ns:List Int}(hp:H p=some (.lst [.int d,.int c,.ref l])) (hl:H l=some (.lst (ns.map V.int))):l≠p:=by
 refine ne_of hl hp fun z=>?_
 injection z with z
 have q:=congrArg (fun x=>x[2]?) z
 rw[List.getElem?_map]at q
 cases e:ns[2]? with
 | none=>rw[e]at q;cases q
 | some v=>rw[e]at q;cases q
theorem len_pos {ns:List Int}(h:ns ≠ []):(0:Int) <((ns.map V.int).length:Int):=by
 rw[List.length_map]
 have:=List.length_pos_iff.mpr h
 omega
theorem pow2_cast (a:Nat):(2:Int)^a =((2^a:Nat):Int):=by
 induction a with
 | zero=>rfl
 | succ a ih=>rw[Int.pow_succ,Nat.pow_succ,ih];push_cast;rfl
theorem pow2_le {a b:Nat}(h:a≤b):(2:Int)^a≤2^b:=by
 rw[pow2_cast,pow2_cast]
 exact Int.ofNat_le.mpr (Nat.pow_le_pow_right (by decide) h)
theorem newo {H1 H2:Hp}{l:Addr}{o:HO}(n:H1 l=none) (e:L2.upd H1 l o=H2):H2 l=some o∧Same H1 H2:=by
 subst e;exact⟨upd_same,same_new n _⟩
theorem newl {H H1 H2:Hp}{p l:Addr}{N:Nat}{o:HO}(hh:Hand H1 p N) (n:H1 l=none) (k:Kp H H1 p) (e:L2.upd H1 l o=H2):Hand H2 p N∧Kp H H2 p∧H2 l=some o∧Same H1 H2:=by
 subst e;exact⟨hh.same (same_new n _),k.trans (Kp.of (same_new n _) hh),upd_same,same_new n _⟩
theorem Hand.ne {H:Hp}{p l:Addr}{N:Nat}(hh:Hand H p N) (n:H l=none):l≠p:=by
 obtain⟨l1,d,c,ns,h1,_⟩:=hh.ex
 exact(ne_of_none h1 n).symm
structure CK (H0:Hp) (p D:Addr) (N:Nat) (ys:List V) (H':Hp):Prop where
 hh:Hand H' p N
 lat:H' D=some (.lst ys)
 kp:Kp H0 H' p
 n0:H0 D=none
 np:D≠p
 nc:cellsOf H0 p≠some D
theorem CK.start {H0:Hp}{p D:Addr}{N:Nat}(hh:Hand H0 p N) (n:H0 D=none) {ys:List V}:CK H0 p D N ys (L2.upd H0 D (.lst ys)) where
 hh:=hh.same (same_new n _)
 lat:=upd_same
 kp:=Kp.of (same_new n _) hh
 n0:=n
 np:=by
  obtain⟨l1,d,c,ns,h1,_⟩:=hh.ex
  exact(ne_of_none h1 n).symm
 nc:=cells_new hh n
theorem CK.draw {H0 H' H2:Hp}{p D:Addr}{N M:Nat}{ys:List V}(c:CK H0 p D N ys H') (k:Kp H' H2 p) (hh:Hand H2 p M):CK H0 p D M ys H2 :=
 ⟨hh,k.1 _ _ c.lat c.np,c.kp.trans k,c.n0,c.np,c.nc⟩
theorem CK.push {H0 H':Hp}{p D:Addr}{N:Nat}{ys zs:List V}(c:CK H0 p D N ys H'):CK H0 p D N zs (L2.upd H' D (.lst zs)) where
 hh:=c.hh.upd c.np (by rw[c.kp.2];exact c.nc)
 lat:=upd_same
 kp:=⟨fun b o h n=>by rw[upd_ne (ne_of_none h c.n0)];exact c.kp.1 _ _ h n,by rw[cells_upd c.np];exact c.kp.2⟩
 n0:=c.n0
 np:=c.np
 nc:=c.nc
theorem CK.new {H0 H' H2:Hp}{p D l:Addr}{N:Nat}{ys:List V}{o:HO}(c:CK H0 p D N ys H') (n:H' l=none) (e:L2.upd H' l o=H2):CK H0 p D N ys H2∧H2 l=some o∧l≠p∧l≠D:=by
 subst e
 exact⟨⟨c.hh.same (same_new n _),same_new n _ _ _ c.lat,c.kp.trans (Kp.of (same_new n _) c.hh),c.n0,c.np,c.nc⟩,upd_same,c.hh.ne n,(ne_of_none c.lat n).symm⟩
def sp__law_draw (K:PySem.W.Frag):Sp:=fun vs H Q _=>∃(p:Addr) (N:Nat) (n:Int),vs=[.ref p,.int n]∧Hand H p N∧N<2^60∧0<n∧n<2^100 ∧
 ∀(r:Int) (H':Hp),0≤r→r<n→Hand H' p (N+1)→Kp H H' p→Q (.int r) H'
def sp__law_far (K:PySem.W.Frag):Sp:=fun vs H Q _=>∃(p:Addr) (N:Nat) (n:Int),vs=[.ref p,.int n]∧Hand H p N∧N+10<2^60∧0<n∧n<2^100 ∧
 ∀(r:Int) (H':Hp),0≤r→r<n→Hand H' p (N+7)→Kp H H' p→Q (.int r) H'
def sp__law_power (K:PySem.W.Frag):Sp:=fun vs H Q _=>∃(m:Nat),vs=[.int m]∧m≤1000∧Q (.int (2^m)) H
def sp__law_open (K:PySem.W.Frag):Sp:=fun vs H Q _=>∃(a:Addr) (ns:List Int) (pl:Int),vs=[.ref a,.int pl]∧SqL K H a (ns.map V.int)∧ns.length≤63∧0≤pl∧pl≤1000 ∧
 ∀(p:Addr) (H':Hp),H p=none→Same H H'→Hand H' p 1100000→Q (.ref p) H'
def sp__law_key (K:PySem.W.Frag):Sp:=fun vs H Q _=>∃(p:Addr) (N:Nat),vs=[.ref p]∧Hand H p N∧N+30<2^60 ∧
 ∀(r:Int) (H':Hp),0≤r→r<2^60→Hand H' p (N+20)→Kp H H' p→Q (.int r) H'
def sp_law (K:PySem.W.Frag):Sp:=fun vs H Q _=>∃(a:Addr) (ns:List Int),vs=[.ref a]∧SqL K H a (ns.map V.int)∧ns.length≤63∧∀H',Q (.bl true) H'
theorem str_app (a b:Str):(a++b).cps=a.cps++b.cps:=rfl
theorem str_applen (a b:Str):(a++b).length=a.length+b.length:=by
 show(a.cps++b.cps).size=_
 rw[Array.size_append];rfl
def nm (z:Str):Prop:=1≤z.length∧z.length≤8∧∀c∈z.cps,97≤c∧c≤122
theorem nm_ok {z:Str}(h:nm z):PyData.strOk z=true∧z.length≤100:=by
 refine⟨?_,by have:=h.2.1;omega⟩
 unfold PyData.strOk
 rw[Array.all_eq_true_iff_forall_mem]
 intro c hc
 have:=h.2.2 c hc
 simp;omega
theorem join_nm:∀ys:List Str,(∀y∈ys,y.length=1∧∀c∈y.cps,97≤c∧c≤122)→(Str.join ⟨#[]⟩ ys).length=ys.length∧∀c∈(Str.join ⟨#[]⟩ ys).cps,97≤c∧c≤122
 | [],_=>⟨rfl,fun c hc=>absurd hc (by simp[Str.join,Str.empty])⟩
 | y::r,h=>by
  obtain⟨h1,h2⟩:=join_nm r fun z hz=>h z (List.mem_cons_of_mem _ hz)
  obtain⟨g1,g2⟩:=h y List.mem_cons_self
  rw[PyProof.Rows.join_nil_cons]
  refine⟨by rw[str_applen,h1,g1,List.length_cons];omega,fun c hc=>?_⟩
  rw[str_app]at hc
  rcases Array.mem_append.mp hc with z|z
  ·exact g2 c z
  ·exact h2 c z
theorem sum_nm:∀ys:List Str,(∀y∈ys,y.length=1∧∀c∈y.cps,97≤c∧c≤122)→(ys.map (·.length)).sum=ys.length
 | [],_=>rfl
 | y::r,h=>by
  rw[List.map_cons,List.sum_cons,sum_nm r fun z hz=>h z (List.mem_cons_of_mem _ hz),(h y List.mem_cons_self).1,List.length_cons];omega
theorem let26b {r:Int}(h0:0≤r) (h1:r<26):∃c,atI (Str.ofString "abcdefghijklmnopqrstuvwxyz").cps.toList r=some c∧97≤c∧c≤122:=by
 obtain⟨n,rfl⟩ : ∃n:Nat,r =(n:Int):=⟨r.toNat,by omega⟩
 have hl:(Str.ofString "abcdefghijklmnopqrstuvwxyz").cps.toList.length=26:=by decide +kernel
 have ha:∀c∈(Str.ofString "abcdefghijklmnopqrstuvwxyz").cps.toList,97≤c∧c≤122:=by decide +kernel
 have hi:=List.getElem?_eq_getElem (l:=(Str.ofString "abcdefghijklmnopqrstuvwxyz").cps.toList) (i:=n) (by omega)
 exact⟨_,atI_nat hi,ha _ (List.mem_of_getElem? hi)⟩
theorem joinT (ys:List Str):Txt.join (Str.ofString "") ys=Str.join ⟨#[]⟩ ys:=by
 have e:Str.ofString "" =⟨#[]⟩:=by decide
 rw[e]
 exact StrLaws.glued_eq_join _ _
def sp__law_thing (K:PySem.W.Frag):Sp:=fun vs H Q _=>∃(p:Addr) (N:Nat),vs=[.ref p]∧Hand H p N∧N+30<2^60 ∧
 ∀(z:Str) (H':Hp),nm z→Hand H' p (N+20)→Kp H H' p→Q (.str z) H'
theorem take_get {α:Type}{xs:List α}{i:Nat}{x:α}(h:xs[i]? = some x):xs.take (i+1)=xs.take i ++ [x]:=by
 obtain⟨hi,e⟩:=List.getElem?_eq_some_iff.mp h
 rw[List.take_succ_eq_append_getElem hi,e]
def sg (c:Nat):Str:=⟨#[c]⟩
theorem str_ext {a b:Str}(h:a.cps.toList=b.cps.toList):a=b:=by
 cases a;cases b
 congr 1
 exact Array.toList_inj.mp h
theorem join_txt (c:Nat) (ps:List Str):Txt.join (sg c) ps=Str.join (sg c) ps:=StrLaws.glued_eq_join _ _
def numT (n:Int):Str:=Str.ofString (toString n)
theorem numT_list (m:Nat):(numT (m:Int)).cps.toList =(Nat.toDigits 10 m).map Char.toNat:=PySem.W.KIN.signs_num m
theorem numT_len {m:Nat}(h:m<10^19):(numT (m:Int)).cps.toList.length≤19:=by
 rw[numT_list,List.length_map];exact toDigits_len_pow (by decide) (by decide) h
structure TL (R:V→PyData→List Addr→Prop) (xs:List V) (ds:List PyData) (fs:List (List Addr)):Prop where
 l1:xs.length=ds.length
 l2:ds.length=fs.length
 at':∀(i:Nat) (x:V) (d:PyData) (f:List Addr),xs[i]? = some x→ds[i]? = some d→fs[i]? = some f→R x d f
def TLf (v:V) (d:PyData):Prop:=(∃i:Int,v = .int i∧d = .int i) ∨(∃z:Str,v = .str z∧d = .str z∧PyData.strOk z=true)
def TD (H:Hp):Nat→V→PyData→List Addr→Prop
 | 0=>fun v d fp=>TLf v d∧fp=[]
 | n+1=>fun v d fp=>(TLf v d∧fp=[]) ∨(∃t xs ds fs,v = .ref t∧d = .tuple ds∧fp=fs.flatten∧H t=some (.tup xs)∧xs.length≤1000∧TL (TD H n) xs ds fs) ∨(∃l xs ds fs,v = .ref l∧d = .list ds∧fp=l::fs.flatten∧H l=some (.lst xs)∧xs.length≤1000∧TL (TD H n) xs ds fs)
section
variable {R R':V→PyData→List Addr→Prop}{xs ys:List V}{ds es:List PyData}{fs gs:List (List Addr)}{H H':Hp}{n i:Nat}{v x:V}{d:PyData}{f fp:List Addr}
theorem TL.nil:TL R [] [] []:=⟨rfl,rfl,fun i x d f e=>by simp at e⟩
theorem TL.get (h:TL R xs ds fs) (e:xs[i]? = some x):∃d f,ds[i]? = some d∧fs[i]? = some f∧R x d f:=by
 have il:=(List.getElem?_eq_some_iff.mp e).1
 have a:=h.l1;have b:=h.l2
 exact⟨_,_,List.getElem?_eq_getElem (by omega),List.getElem?_eq_getElem (by omega),h.at' i _ _ _ e (List.getElem?_eq_getElem (by omega)) (List.getElem?_eq_getElem (by omega))⟩
theorem mem_flat (e:fs[i]? = some f) {b:Addr}(h:b∈f):b∈fs.flatten:=List.mem_flatten.mpr ⟨f,List.mem_of_getElem? e,h⟩
theorem TL.imp (h:TL R xs ds fs) (g:∀x d f,f∈fs→R x d f→R' x d f):TL R' xs ds fs:=⟨h.l1,h.l2,fun i x d f e1 e2 e3=>g x d f (List.mem_of_getElem? e3) (h.at' i x d f e1 e2 e3)⟩
theorem TL.snoc (h:TL R xs ds fs) (r:R x d f):TL R (xs ++ [x]) (ds ++ [d]) (fs ++ [f]):=by
 refine⟨by simp[h.l1],by simp[h.l2],fun i y e g h1 h2 h3=>?_⟩
 have a:=h.l1;have b:=h.l2
 by_cases c:i<xs.length
 ·rw[List.getElem?_append_left c]at h1
  rw[List.getElem?_append_left (by omega)]at h2 h3
  exact h.at' i y e g h1 h2 h3
 ·have il:=(List.getElem?_eq_some_iff.mp h1).1
  rw[List.length_append,List.length_singleton]at il
  have ei:i=xs.length:=by omega
  subst ei
  rw[List.getElem?_append_right (Nat.le_refl _),Nat.sub_self]at h1
  rw[a,List.getElem?_append_right (Nat.le_refl _),Nat.sub_self]at h2
  rw[a,b,List.getElem?_append_right (Nat.le_refl _),Nat.sub_self]at h3
  cases h1;cases h2;cases h3
  exact r
theorem TLf.keep (h:TLf v d):TD H n v d []:=by
 cases n with
 | zero=>exact⟨h,rfl⟩
 | succ n=>exact .inl ⟨h,rfl⟩
theorem TD.int (i:Int):TD H n (.int i) (.int i) []:=TLf.keep (.inl ⟨i,rfl,rfl⟩)
theorem TD.str {z:Str}(h:PyData.strOk z=true):TD H n (.str z) (.str z) []:=TLf.keep (.inr ⟨z,rfl,rfl,h⟩)
theorem TD.keep:∀{n:Nat}{v:V}{d:PyData}{fp:List Addr},TD H n v d fp→(∀b o,H b=some o→(b∈fp ∨ ∃xs,o = .tup xs)→H' b=some o)→TD H' n v d fp
 | 0,_,_,_,h,_=>h
 | n+1,v,d,fp,h,k=>by
  rcases h with h|⟨t,xs,ds,fs,rfl,rfl,rfl,h1,h2,h3⟩|⟨l,xs,ds,fs,rfl,rfl,rfl,h1,h2,h3⟩
  ·exact .inl h
  ·exact .inr (.inl ⟨t,xs,ds,fs,rfl,rfl,rfl,k _ _ h1 (.inr ⟨_,rfl⟩),h2,h3.imp fun x d f hf r=>TD.keep r fun b o e z=>k b o e (z.imp (fun hb=>List.mem_flatten.mpr ⟨f,hf,hb⟩) id)⟩)
  ·exact .inr (.inr ⟨l,xs,ds,fs,rfl,rfl,rfl,k _ _ h1 (.inl List.mem_cons_self),h2,h3.imp fun x d f hf r=>TD.keep r fun b o e z=>k b o e (z.imp (fun hb=>List.mem_cons_of_mem _ (List.mem_flatten.mpr ⟨f,hf,hb⟩)) id)⟩)
theorem TD.same (s:Same H H') (h:TD H n v d fp):TD H' n v d fp:=TD.keep h fun b o e _=>s b o e
theorem TD.is:∀{n:Nat}{v:V}{d:PyData}{fp:List Addr},TD H n v d fp→∀b∈fp,∃xs,H b=some (.lst xs)
 | 0,_,_,_,h,b,hb=>by rw[h.2]at hb;cases hb
 | n+1,v,d,fp,h,b,hb=>by
  rcases h with⟨_,rfl⟩|⟨t,xs,ds,fs,rfl,rfl,rfl,h1,h2,h3⟩|⟨l,xs,ds,fs,rfl,rfl,rfl,h1,h2,h3⟩
  ·cases hb
  ·obtain⟨f,hf,hb⟩:=List.mem_flatten.mp hb
   obtain⟨i,hi⟩:=List.getElem?_of_mem hf
   have il:=(List.getElem?_eq_some_iff.mp hi).1
   have a:=h3.l1;have c:=h3.l2
   exact TD.is (h3.at' i _ _ f (List.getElem?_eq_getElem (by omega)) (List.getElem?_eq_getElem (by omega)) hi) b hb
  ·rcases List.mem_cons.mp hb with rfl|hb
   ·exact⟨xs,h1⟩
   ·obtain⟨f,hf,hb⟩:=List.mem_flatten.mp hb
    obtain⟨i,hi⟩:=List.getElem?_of_mem hf
    have il:=(List.getElem?_eq_some_iff.mp hi).1
    have a:=h3.l1;have c:=h3.l2
    exact TD.is (h3.at' i _ _ f (List.getElem?_eq_getElem (by omega)) (List.getElem?_eq_getElem (by omega)) hi) b hb
theorem TD.upd {D:Addr}{ys:List V}{o:HO}(h:TD H n v d fp) (hD:H D=some (.lst ys)) (nD:D∉fp):TD (L2.upd H D o) n v d fp:=TD.keep h fun b o' e z=>by
 rw[upd_ne];· exact e
 rintro rfl
 rcases z with z|⟨xs,rfl⟩
 ·exact nD z
 ·rw[hD]at e;cases e
theorem TD.asL (h:TD H (n+1) v (.list ds) fp):∃l xs fs,v = .ref l∧fp=l::fs.flatten∧H l=some (.lst xs)∧xs.length≤1000∧TL (TD H n) xs ds fs:=by
 rcases h with⟨⟨i,_,e⟩|⟨z,_,e,_⟩,_⟩|⟨t,xs,es,fs,_,e,_⟩|⟨l,xs,es,fs,h1,e,h2,h3,h4,h5⟩
 ·cases e
 ·cases e
 ·cases e
 ·cases e;exact⟨l,xs,fs,h1,h2,h3,h4,h5⟩
theorem TD.asT (h:TD H (n+1) v (.tuple ds) fp):∃t xs fs,v = .ref t∧fp=fs.flatten∧H t=some (.tup xs)∧xs.length≤1000∧TL (TD H n) xs ds fs:=by
 rcases h with⟨⟨i,_,e⟩|⟨z,_,e,_⟩,_⟩|⟨t,xs,es,fs,h1,e,h2,h3,h4,h5⟩|⟨l,xs,es,fs,h1,e,h2,h3,h4,h5⟩
 ·cases e
 ·cases e
 ·cases e;exact⟨t,xs,fs,h1,h2,h3,h4,h5⟩
 ·cases e
theorem TD.asI {i:Int}(h:TD H n v (.int i) fp):v = .int i∧fp=[]:=by
 have f:∀{v fp},TLf v (.int i)∧fp =([]:List Addr)→v = .int i∧fp=[]:=by
  rintro v fp ⟨⟨j,rfl,e⟩|⟨z,_,e,_⟩,rfl⟩
  ·cases e;exact⟨rfl,rfl⟩
  ·cases e
 cases n with
 | zero=>exact f h
 | succ n =>
  rcases h with h|⟨t,xs,es,fs,h1,e,_⟩|⟨l,xs,es,fs,h1,e,_⟩
  ·exact f h
  ·cases e
  ·cases e
theorem TD.asS {z:Str}(h:TD H n v (.str z) fp):v = .str z∧fp=[]:=by
 have f:∀{v fp},TLf v (.str z)∧fp =([]:List Addr)→v = .str z∧fp=[]:=by
  rintro v fp ⟨⟨j,rfl,e⟩|⟨z,rfl,e,_⟩,rfl⟩
  ·cases e
  ·cases e;exact⟨rfl,rfl⟩
 cases n with
 | zero=>exact f h
 | succ n =>
  rcases h with h|⟨t,xs,es,fs,h1,e,_⟩|⟨l,xs,es,fs,h1,e,_⟩
  ·exact f h
  ·cases e
  ·cases e
end
structure Gw (H0:Hp) (D:Addr) (j:Nat) (ys:List V) (ds:List PyData) (gs:List (List Addr)) (H:Hp):Prop where
 tl:TL (TD H j) ys ds gs
 nd:gs.flatten.Nodup
 fr:∀b∈gs.flatten,H0 b=none
 nD:D∉gs.flatten
 lat:H D=some (.lst ys)
section
variable {H0 H H':Hp}{D:Addr}{j:Nat}{ys:List V}{ds:List PyData}{gs:List (List Addr)}{v:V}{d:PyData}{f:List Addr}
theorem Gw.nil (h:H D=some (.lst [])):Gw H0 D j [] [] [] H:=⟨TL.nil,List.nodup_nil,fun _ z=>(by cases z),fun z=>(by cases z),h⟩
theorem TL.is (h:TL (TD H j) ys ds gs):∀b∈gs.flatten,∃xs,H b=some (.lst xs):=fun b hb=>by
 obtain⟨f,hf,hb⟩:=List.mem_flatten.mp hb
 obtain⟨i,hi⟩:=List.getElem?_of_mem hf
 have il:=(List.getElem?_eq_some_iff.mp hi).1
 have a:=h.l1;have c:=h.l2
 exact TD.is (h.at' i _ _ f (List.getElem?_eq_getElem (by omega)) (List.getElem?_eq_getElem (by omega)) hi) b hb
theorem TL.keep (h:TL (TD H j) ys ds gs) (k:∀b o,H b=some o→(b∈gs.flatten ∨ ∃xs,o = .tup xs)→H' b=some o):TL (TD H' j) ys ds gs:=h.imp fun x d f hf r=>TD.keep r fun b o e z=>k b o e (z.imp (fun hb=>List.mem_flatten.mpr ⟨f,hf,hb⟩) id)
theorem Gw.keep (g:Gw H0 D j ys ds gs H) (k:∀b o,H b=some o→(b=D∨b∈gs.flatten ∨ ∃xs,o = .tup xs)→H' b=some o):Gw H0 D j ys ds gs H':=⟨g.tl.keep fun b o e z=>k b o e (.inr z),g.nd,g.fr,g.nD,k _ _ g.lat (.inl rfl)⟩
theorem Gw.same (g:Gw H0 D j ys ds gs H) (s:Same H H'):Gw H0 D j ys ds gs H':=g.keep fun b o e _=>s b o e
theorem Gw.push (g:Gw H0 D j ys ds gs H) (k:∀b o,H b=some o→(b=D∨b∈gs.flatten ∨ ∃xs,o = .tup xs)→H' b=some o) (td:TD H' j v d f) (nf:f.Nodup) (fr:∀b∈f,H b=none) (fr0:∀b∈f,H0 b=none):Gw H0 D j (ys ++ [v]) (ds ++ [d]) (gs ++ [f]) (upd H' D (.lst (ys ++ [v]))):=by
 have g':=g.keep k
 have nDf:D∉f:=fun h=>by have:=fr D h;rw[g.lat]at this;cases this
 have e:(gs ++ [f]).flatten=gs.flatten++f:=by rw[List.flatten_append];simp
 refine⟨TL.snoc (g'.tl.imp fun x d f' hf r=>r.upd g'.lat fun h=>g.nD (List.mem_flatten.mpr ⟨f',hf,h⟩)) (td.upd g'.lat nDf),?_,fun b hb=>?_,?_,upd_same⟩
 ·rw[e,List.nodup_append]
  refine⟨g.nd,nf,fun a ha b hb z=>?_⟩
  subst z
  obtain⟨xs,h⟩:=g.tl.is a ha
  rw[fr a hb]at h;cases h
 ·rw[e]at hb
  rcases List.mem_append.mp hb with h|h
  ·exact g.fr b h
  ·exact fr0 b h
 ·rw[e]
  intro h
  rcases List.mem_append.mp h with h|h
  ·exact g.nD h
  ·exact nDf h
theorem Gw.done (g:Gw H0 D j ys ds gs H) (l:ys.length≤1000):TD H (j+1) (.ref D) (.list ds) (D::gs.flatten)∧(D::gs.flatten).Nodup:=⟨.inr (.inr ⟨D,ys,ds,gs,rfl,rfl,rfl,g.lat,l,g.tl⟩),List.nodup_cons.mpr ⟨g.nD,g.nd⟩⟩
end
abbrev Row:=List (Int×Str)
def eD (e:Int×Str):PyData:=.tuple [.int e.1,.str e.2]
def rowD (es:Row):PyData:=.list (es.map eD)
def rowsD (rs:List Row):PyData:=.list (rs.map rowD)
def okE (e:Int×Str):Prop:=0≤e.1∧e.1<1152921504606846976∧nm e.2
def okR (es:Row):Prop:=(∀e∈es,okE e)∧es.length≤130
def okRs (rs:List Row):Prop:=(∀r∈rs,okR r)∧rs.length≤140
def entT (e:Int×Str):Str:=numT e.1++sg 61++e.2
def rowT (es:Row):Str:=if es=[] then sg 45 else Str.join (sg 44) (es.map entT)
def rowsT (rs:List Row):Str:=if rs=[] then Str.ofString "none" else Str.join (sg 59) (rs.map rowT)
theorem okE.num {e:Int×Str}(h:okE e):∃m:Nat,e.1 =(m:Int)∧m<10^19:=⟨e.1.toNat,by have:=h.1;omega,by have:=h.2.1;omega⟩
theorem join_len (c:Nat):∀ps:List Str,(Str.join (sg c) ps).length ≤(ps.map (·.length)).sum+ps.length
 | []=>Nat.zero_le _
 | [p]=>by simp[Str.join]
 | p::q::r=>by
  have:=join_len c (q::r)
  show(p++sg c++Str.join (sg c) (q::r)).length≤_
  rw[str_applen,str_applen,List.map_cons,List.sum_cons,List.length_cons,show(sg c).length=1 from rfl]
  omega
theorem sum_le {α:Type}{f:α→Nat}{B:Nat}:∀{l:List α},(∀x∈l,f x≤B)→(l.map f).sum≤B*l.length
 | [],_=>by simp
 | x::l,h=>by
  have a:=h x List.mem_cons_self
  have b:=sum_le (l:=l) fun y hy=>h y (List.mem_cons_of_mem _ hy)
  rw[List.map_cons,List.sum_cons,List.length_cons,Nat.mul_succ];omega
theorem numT_length {e:Int}{m:Nat}(h:e =(m:Int)) (hm:m<10^19):(numT e).length≤19:=by
 subst h
 have:=numT_len hm
 rw[Array.length_toList]at this
 exact this
theorem entT_len {e:Int×Str}(h:okE e):(entT e).length≤28:=by
 obtain⟨m,h1,h2⟩:=h.num
 have a:=numT_length h1 h2
 have b:=h.2.2.2.1
 unfold entT
 rw[str_applen,str_applen,show(sg 61).length=1 from rfl];omega
theorem rowT_len {es:Row}{B:Nat}(h:∀e∈es,okE e) (l:es.length≤B):(rowT es).length≤29*B+1:=by
 unfold rowT
 split
 ·show 1≤_;omega
 ·have a:=join_len 44 (es.map entT)
  have b:=sum_le (f:=fun e=>(entT e).length) (B:=28) (l:=es) fun e he=>entT_len (h e he)
  rw[List.map_map]at a
  rw[show(es.map ((fun x:Str=>x.length) ∘ entT)).sum =(es.map fun e=>(entT e).length).sum from rfl,List.length_map]at a
  omega
theorem rowsT_len {rs:List Row}{B C:Nat}(h:∀r∈rs,(rowT r).length≤B) (l:rs.length≤C):(rowsT rs).length ≤(B+1)*C+4:=by
 unfold rowsT
 split
 ·show(Str.ofString "none").length≤_
  rw[show(Str.ofString "none").length=4 by decide];omega
 ·have a:=join_len 59 (rs.map rowT)
  have b:=sum_le (f:=fun r=>(rowT r).length) (B:=B) (l:=rs) h
  rw[List.map_map]at a
  rw[show(rs.map ((fun x:Str=>x.length) ∘ rowT)).sum =(rs.map fun e=>(rowT e).length).sum from rfl,List.length_map]at a
  have c:(B+1)*rs.length ≤(B+1)*C:=Nat.mul_le_mul_left _ l
  rw[Nat.add_mul]at c
  omega
theorem s_comma:Str.ofString "," = sg 44:=by decide
theorem s_semi:Str.ofString ";" = sg 59:=by decide
theorem s_eq:Str.ofString "=" = sg 61:=by decide
theorem s_dash:Str.ofString "-" = sg 45:=by decide
theorem s_sp:Str.ofString " " = sg 32:=by decide
def sp_show_row (K:PySem.W.Frag):Sp:=fun vs H Q _=>∃(v:V) (es:Row) (fp:List Addr),vs=[v]∧TD H 2 v (rowD es) fp∧okR es∧∀H',Same H H'→Q (.str (rowT es)) H'
def sp_show_rows (K:PySem.W.Frag):Sp:=fun vs H Q _=>∃(v:V) (rs:List Row) (fp:List Addr),vs=[v]∧TD H 3 v (rowsD rs) fp∧okRs rs∧∀H',Same H H'→Q (.str (rowsT rs)) H'
theorem TD.ent {H:Hp}{n:Nat}{v:V}{e:Int×Str}{fp:List Addr}(h:TD H (n+1) v (eD e) fp):∃t,v = .ref t∧H t=some (.tup [.int e.1,.str e.2])∧fp=[]:=by
 obtain⟨t,xs,fs,rfl,rfl,h1,h2,h3⟩:=TD.asT h
 have a:=h3.l1;have b:=h3.l2
 match xs,fs,a,b with
 | [x,y],[f,g],_,_ =>
  obtain⟨e1,e2⟩:=TD.asI (h3.at' 0 x _ f rfl rfl rfl)
  obtain⟨e3,e4⟩:=TD.asS (h3.at' 1 y _ g rfl rfl rfl)
  subst e1 e2 e3 e4
  exact⟨t,rfl,h1,rfl⟩
theorem TD.ofEnt {H:Hp}{n:Nat}{t:Addr}{e:Int×Str}(h:H t=some (.tup [.int e.1,.str e.2])) (ok:PyData.strOk e.2=true):TD H (n+1) (.ref t) (eD e) []:=by
 refine .inr (.inl ⟨t,_,_,[[],[]],rfl,rfl,rfl,h,(by show 2≤1000;decide),⟨rfl,rfl,fun i x d f e1 e2 e3=>?_⟩⟩)
 match i with
 | 0=>cases e1;cases e2;cases e3;exact TD.int _
 | 1=>cases e1;cases e2;cases e3;exact TD.str ok
 | i+2=>simp at e1
theorem rd_eqZ {H:Hp}{Q:VK}{i j:Str}(q:Q (.bl (decide (i=j))) H):rEq (.str i) (.str j) H Q:=⟨rfl,by
 have e:decide (V.str i=V.str j)=decide (i=j):=by rw[Bool.eq_iff_iff];simp
 rw[e];exact q⟩
theorem rd_neZ {H:Hp}{Q:VK}{i j:Str}(q:Q (.bl (!decide (i=j))) H):rNe (.str i) (.str j) H Q:=⟨rfl,by
 have e:decide (V.str i=V.str j)=decide (i=j):=by rw[Bool.eq_iff_iff];simp
 rw[e];exact q⟩
theorem log_small {m:Nat}(h:m<10^19):(m:Int).natAbs.log2<1920:=by
 rw[Int.natAbs_natCast]
 rcases Nat.lt_or_ge m.log2 1920 with z|z
 ·exact z
 ·exfalso
  have h0:m≠0:=fun e=>by subst e;simp at z
  have:=(Nat.le_log2 h0).mp z
  have b:(2:Nat)^64≤2^1920:=Nat.pow_le_pow_right (by decide) (by decide)
  have c:(10:Nat)^19<2^64:=by decide
  omega
inductive Stp where
 | row (r a:Nat) (es:Row)
 | cut (r m:Nat)
 | rooms (n:Nat)
def wRow:Str:=Str.ofString "row"
def wCut:Str:=Str.ofString "cut"
def wRooms:Str:=Str.ofString "rooms"
def stepD:Stp→PyData
 | .row r a es=>.tuple [.str wRow,.int r,.int a,rowD es]
 | .cut r m=>.tuple [.str wCut,.int r,.int m]
 | .rooms n=>.tuple [.str wRooms,.int n]
def okS:Stp→Prop
 | .row r a es=>r≤130∧a≤130∧okR es
 | .cut r m=>r≤130∧m≤130
 | .rooms n=>1≤n∧n≤130
def wordsS:Stp→List Str
 | .row r a es=>[wRow,numT r,numT a,rowT es]
 | .cut r m=>[wCut,numT r,numT m]
 | .rooms n=>[wRooms,numT n]
def stepT (s:Stp):Str:=Str.join (sg 32) (wordsS s)
def heldD (hs:List (List Row)):PyData:=.list (hs.map rowsD)
def yardD (w r:Nat) (hs:List (List Row)):PyData:=.tuple [.int w,.int r,heldD hs]
def wordsY (w r:Nat) (hs:List (List Row)):List Str:=numT w::numT r::hs.map rowsT
def yardT (w r:Nat) (hs:List (List Row)):Str:=Str.join (sg 32) (wordsY w r hs)
structure okY (w r:Nat) (hs:List (List Row)):Prop where
 w1:1≤w
 w2:w≤8
 r1:1≤r
 r2:r≤130
 ok:∀rs∈hs,okRs rs
 hl:hs.length≤140
 sm:(hs.map fun rs=>(rowsT rs).length).sum≤1000000
 last:∀rs,hs.getLast? = some rs→rs ≠ []
theorem small130 {m:Nat}(h:m≤130):m<10^19:=by omega
theorem numT_l {m:Nat}(h:m≤130):(numT (m:Int)).length≤19:=numT_length rfl (small130 h)
theorem words_len {s:Stp}(h:okS s):((wordsS s).map (·.length)).sum≤4000:=by
 cases s with
 | row r a es =>
  have a1:=numT_l h.1;have a2:=numT_l h.2.1;have a3:=rowT_len h.2.2.1 h.2.2.2
  simp[wordsS,show wRow.length=3 by decide];omega
 | cut r m =>
  have a1:=numT_l h.1;have a2:=numT_l h.2
  simp[wordsS,show wCut.length=3 by decide];omega
 | rooms n =>
  have a1:=numT_l h.2
  simp[wordsS,show wRooms.length=5 by decide];omega
theorem stepT_len {s:Stp}(h:okS s):(stepT s).length≤4010:=by
 have a:=join_len 32 (wordsS s)
 have b:=words_len h
 have c:(wordsS s).length≤4:=by cases s <;> simp[wordsS]
 unfold stepT;omega
theorem wordsY_len {w r:Nat}{hs:List (List Row)}(h:okY w r hs):((wordsY w r hs).map (·.length)).sum≤1000038∧(wordsY w r hs).length≤142:=by
 have a1:=numT_l (m:=w) (by have:=h.w2;omega)
 have a2:=numT_l (m:=r) h.r2
 have a3:=h.sm
 have a4:=h.hl
 refine⟨?_,by simp[wordsY];omega⟩
 unfold wordsY
 rw[List.map_cons,List.map_cons,List.sum_cons,List.sum_cons,List.map_map]
 have:(hs.map ((fun x:Str=>x.length) ∘ rowsT)).sum≤1000000:=a3
 omega
theorem TL.gd {K:PySem.W.Frag}{H:Hp}{j:Nat}(ih:∀{v:V}{d:PyData}{fp:List Addr},TD H j v d fp→DV K H v d∧PyData.canLay0 d=true∧PyData.depth d≤j):∀{xs:List V}{ds:List PyData}{fs:List (List Addr)},TL (TD H j) xs ds fs→DVs K H xs ds∧PyData.canLayAll0 ds=true∧PyData.depthAll ds≤j
 | [],[],_,_=>⟨.nil,rfl,by simp[PyData.depthAll]⟩
 | [],_::_,_,h=>by cases h.l1
 | _::_,[],_,h=>by cases h.l1
 | x::xs,d::ds,[],h=>by cases h.l2
 | x::xs,d::ds,f::fs,h=>by
  have h0:=ih (h.at' 0 x d f rfl rfl rfl)
  have t:TL (TD H j) xs ds fs:=⟨by have:=h.l1;simpa using this,by have:=h.l2;simpa using this,fun i y e g e1 e2 e3=>h.at' (i+1) y e g (by simpa using e1) (by simpa using e2) (by simpa using e3)⟩
  have ht:=TL.gd ih t
  refine⟨.cons h0.1 ht.1,?_,?_⟩
  ·rw[PyData.canLayAll0,h0.2.1,ht.2.1];rfl
  ·rw[PyData.depthAll];exact Nat.max_le.mpr ⟨h0.2.2,ht.2.2⟩
theorem TD.gd {K:PySem.W.Frag}{H:Hp}:∀{n:Nat}{v:V}{d:PyData}{fp:List Addr},TD H n v d fp→DV K H v d∧PyData.canLay0 d=true∧PyData.depth d≤n:=by
 intro n
 induction n with
 | zero =>
  rintro v d fp ⟨⟨i,rfl,rfl⟩|⟨z,rfl,rfl,hz⟩,_⟩
  ·exact⟨.int i,rfl,by simp[PyData.depth]⟩
  ·exact⟨.str z,by rw[PyData.canLay0];exact hz,by simp[PyData.depth]⟩
 | succ n ih =>
  rintro v d fp (⟨⟨i,rfl,rfl⟩|⟨z,rfl,rfl,hz⟩,_⟩|⟨t,xs,ds,fs,rfl,rfl,rfl,h1,h2,h3⟩|⟨l,xs,ds,fs,rfl,rfl,rfl,h1,h2,h3⟩)
  ·exact⟨.int i,rfl,by simp[PyData.depth]⟩
  ·exact⟨.str z,by rw[PyData.canLay0];exact hz,by simp[PyData.depth]⟩
  ·have g:=TL.gd (K:=K) ih h3
   exact⟨.tup (SqT.of h1) g.1,by rw[PyData.canLay0];exact g.2.1,by rw[PyData.depth];have:=g.2.2;omega⟩
  ·have g:=TL.gd (K:=K) ih h3
   exact⟨.lst (SqL.of h1) g.1,by rw[PyData.canLay0];exact g.2.1,by rw[PyData.depth];have:=g.2.2;omega⟩
theorem TD.shaped {K:PySem.W.Frag}{H:Hp}{n:Nat}{v:V}{d:PyData}{fp:List Addr}(h:TD H n v d fp) (l:n≤60):SeqAt.shaped d=true:=by
 obtain⟨_,a,b⟩:=TD.gd (K:=K) h
 simp[SeqAt.shaped,a];omega
theorem eqv_nil {α:Type}{f:α→PyData}{xs:List α}:PyData.eqv (.list (xs.map f)) (.list [])=decide (xs=[]):=by
 rw[PyData.eqv]
 cases xs with
 | nil=>rfl
 | cons x xs=>rw[List.map_cons,PyData.eqvAll];simp
theorem TD.ofT {H:Hp}{n:Nat}{t:Addr}{xs:List V}{ds:List PyData}{fs:List (List Addr)}(h:H t=some (.tup xs)) (l:xs.length≤1000) (tl:TL (TD H n) xs ds fs):TD H (n+1) (.ref t) (.tuple ds) fs.flatten:=.inr (.inl ⟨t,xs,ds,fs,rfl,rfl,rfl,h,l,tl⟩)
theorem TL.cons {R:V→PyData→List Addr→Prop}{x:V}{d:PyData}{f:List Addr}{xs:List V}{ds:List PyData}{fs:List (List Addr)}(r:R x d f) (t:TL R xs ds fs):TL R (x::xs) (d::ds) (f::fs):=by
 refine⟨by simp[t.l1],by simp[t.l2],fun i y e g h1 h2 h3=>?_⟩
 match i with
 | 0=>cases h1;cases h2;cases h3;exact r
 | i+1=>exact t.at' i y e g (by simpa using h1) (by simpa using h2) (by simpa using h3)
theorem TD.step3 {H:Hp}{n:Nat}{v:V}{k:Str}{a b:Int}{fp:List Addr}(h:TD H (n+1) v (.tuple [.str k,.int a,.int b]) fp):∃t,v = .ref t∧H t=some (.tup [.str k,.int a,.int b]):=by
 obtain⟨t,xs,fs,rfl,rfl,h1,h2,h3⟩:=TD.asT h
 have a':=h3.l1;have b':=h3.l2
 match xs,fs,a',b' with
 | [x,y,z],[f,g,i],_,_ =>
  obtain⟨e1,_⟩:=TD.asS (h3.at' 0 x _ f rfl rfl rfl)
  obtain⟨e2,_⟩:=TD.asI (h3.at' 1 y _ g rfl rfl rfl)
  obtain⟨e3,_⟩:=TD.asI (h3.at' 2 z _ i rfl rfl rfl)
  subst e1 e2 e3
  exact⟨t,rfl,h1⟩
theorem TD.step2 {H:Hp}{n:Nat}{v:V}{k:Str}{a:Int}{fp:List Addr}(h:TD H (n+1) v (.tuple [.str k,.int a]) fp):∃t,v = .ref t∧H t=some (.tup [.str k,.int a]):=by
 obtain⟨t,xs,fs,rfl,rfl,h1,h2,h3⟩:=TD.asT h
 have a':=h3.l1;have b':=h3.l2
 match xs,fs,a',b' with
 | [x,y],[f,g],_,_ =>
  obtain⟨e1,_⟩:=TD.asS (h3.at' 0 x _ f rfl rfl rfl)
  obtain⟨e2,_⟩:=TD.asI (h3.at' 1 y _ g rfl rfl rfl)
  subst e1 e2
  exact⟨t,rfl,h1⟩
theorem TD.step4 {H:Hp}{n:Nat}{v:V}{k:Str}{a b:Int}{d:PyData}{fp:List Addr}(h:TD H (n+1) v (.tuple [.str k,.int a,.int b,d]) fp):∃t x,v = .ref t∧H t=some (.tup [.str k,.int a,.int b,x])∧TD H n x d fp:=by
 obtain⟨t,xs,fs,rfl,rfl,h1,h2,h3⟩:=TD.asT h
 have a':=h3.l1;have b':=h3.l2
 match xs,fs,a',b' with
 | [x,y,z,u],[f,g,i,j],_,_ =>
  obtain⟨e1,f1⟩:=TD.asS (h3.at' 0 x _ f rfl rfl rfl)
  obtain⟨e2,f2⟩:=TD.asI (h3.at' 1 y _ g rfl rfl rfl)
  obtain⟨e3,f3⟩:=TD.asI (h3.at' 2 z _ i rfl rfl rfl)
  have r:=h3.at' 3 u _ j rfl rfl rfl
  subst e1 e2 e3 f1 f2 f3
  refine⟨t,u,rfl,h1,?_⟩
  simpa using r
theorem TD.yard3 {H:Hp}{n:Nat}{v:V}{a b:Int}{d:PyData}{fp:List Addr}(h:TD H (n+1) v (.tuple [.int a,.int b,d]) fp):∃t x,v = .ref t∧H t=some (.tup [.int a,.int b,x])∧TD H n x d fp:=by
 obtain⟨t,xs,fs,rfl,rfl,h1,h2,h3⟩:=TD.asT h
 have a':=h3.l1;have b':=h3.l2
 match xs,fs,a',b' with
 | [y,z,u],[g,i,j],_,_ =>
  obtain⟨e2,f2⟩:=TD.asI (h3.at' 0 y _ g rfl rfl rfl)
  obtain⟨e3,f3⟩:=TD.asI (h3.at' 1 z _ i rfl rfl rfl)
  have r:=h3.at' 2 u _ j rfl rfl rfl
  subst e2 e3 f2 f3
  refine⟨t,u,rfl,h1,?_⟩
  simpa using r
def sp_show_step (K:PySem.W.Frag):Sp:=fun vs H Q _=>∃(v:V) (st:Stp) (fp:List Addr),vs=[v]∧TD H 3 v (stepD st) fp∧okS st∧∀H',Same H H'→Q (.str (stepT st)) H'
def sp_show_yard (K:PySem.W.Frag):Sp:=fun vs H Q _=>∃(v:V) (w r:Nat) (hs:List (List Row)) (fp:List Addr),vs=[v]∧TD H 5 v (yardD w r hs) fp∧okY w r hs∧∀H',Same H H'→Q (.str (yardT w r hs)) H'
def sp__law_row_text (K:PySem.W.Frag):Sp:=sp_show_row K
def sp__law_rows_text (K:PySem.W.Frag):Sp:=sp_show_rows K
def sp__law_step_text (K:PySem.W.Frag):Sp:=sp_show_step K
def sp__law_yard_text (K:PySem.W.Frag):Sp:=sp_show_yard K
theorem at_end {ys:List V}{y:V}:atI (ys ++ [y]) (-1)=some y:=atI_last _ _
theorem line_small {n:Nat}(h:n≤10000):n≤sizeLine:=Nat.le_trans h (by decide)
theorem pick01 {a b:Str}{c:Prop} [Decidable c]:atI [V.str a,V.str b] (if decide c=true then 1 else 0)=some (.str (if c then b else a)):=by
 by_cases h:c
 ·rw[decide_eq_true h,if_pos h];rfl
 ·rw[decide_eq_false h,if_neg h];rfl
def ok8 (es:Row):Prop:=(∀e∈es,okE e)∧es.length≤8
theorem ok8.r {es:Row}(h:ok8 es):okR es:=⟨h.1,by have:=h.2;omega⟩
def sp__law_row (K:PySem.W.Frag):Sp:=fun vs H Q _=>∃(p:Addr) (N:Nat),vs=[.ref p]∧Hand H p N∧N+1000<2^60 ∧
 ∀(v:V) (es:Row) (fp:List Addr) (H':Hp),TD H' 2 v (rowD es) fp→ok8 es→fp.Nodup→(∀b∈fp,H b=none)→Hand H' p (N+500)→Kp H H' p→Q v H'
def sp__law_rows (K:PySem.W.Frag):Sp:=fun vs H Q _=>∃(p:Addr) (N:Nat) (most:Int),vs=[.ref p,.int most]∧Hand H p N∧N+200000<2^60∧1≤most∧most≤131 ∧
 ∀(v:V) (rs:List Row) (fp:List Addr) (H':Hp),TD H' 3 v (rowsD rs) fp→(∀r∈rs,ok8 r)→(rs.length:Int)<most→fp.Nodup→(∀b∈fp,H b=none)→Hand H' p (N+100000)→Kp H H' p→Q v H'
theorem Gw.kp {H0 H H':Hp}{D p:Addr}{j N:Nat}{ys:List V}{ds:List PyData}{gs:List (List Addr)}(g:Gw H0 D j ys ds gs H) (hh:Hand H p N) (k:Kp H H' p) (h0:H0 p≠none) (Dp:D≠p):Gw H0 D j ys ds gs H':=g.keep fun b o e z=>k.1 b o e (by
  rintro rfl
  rcases z with z|z|⟨xs,rfl⟩
  ·exact Dp z.symm
  ·exact h0 (g.fr _ z)
  ·obtain⟨l,a,c,ns,h1,_⟩:=hh.ex
   rw[e]at h1;cases h1)
theorem hand_some {H:Hp}{p:Addr}{N:Nat}(hh:Hand H p N):H p≠none:=fun z=>by
 obtain⟨l,a,c,ns,h1,_⟩:=hh.ex
 rw[h1]at z;cases z
theorem three_at {v:Int}(v0:0≤v) (v1:v<3):∃c,atI [V.int 2,V.int 4,V.int 9] v=some (.int c)∧1≤c∧c≤9:=by
 have:v=0∨v=1∨v=2:=by omega
 rcases this with rfl|rfl|rfl
 ·exact⟨2,rfl,by omega,by omega⟩
 ·exact⟨4,rfl,by omega,by omega⟩
 ·exact⟨9,rfl,by omega,by omega⟩
theorem depthAll_le {k:Nat}:∀{ds:List PyData},(∀d∈ds,PyData.depth d≤k)→PyData.depthAll ds≤k
 | [],_=>by simp[PyData.depthAll]
 | d::ds,h=>by
  rw[PyData.depthAll]
  exact Nat.max_le.mpr ⟨h d List.mem_cons_self,depthAll_le fun e he=>h e (List.mem_cons_of_mem _ he)⟩
theorem dep_map {α:Type}{f:α→PyData}{k:Nat}{l:List α}(h:∀x∈l,PyData.depth (f x)≤k):PyData.depth (.list (l.map f))≤k+1:=by
 rw[PyData.depth]
 have:=depthAll_le (k:=k) (ds:=l.map f) fun d hd=>by
  obtain⟨x,hx,rfl⟩:=List.mem_map.mp hd
  exact h x hx
 omega
theorem dep_e (e:Int×Str):PyData.depth (eD e)≤1:=by simp[eD,PyData.depth,PyData.depthAll]
theorem dep_row (es:Row):PyData.depth (rowD es)≤2:=dep_map fun e _=>dep_e e
theorem dep_rows (rs:List Row):PyData.depth (rowsD rs)≤3:=dep_map fun e _=>dep_row e
theorem dep_held (hs:List (List Row)):PyData.depth (heldD hs)≤4:=dep_map fun e _=>dep_rows e
theorem Gw.fix {H0 H H1:Hp}{D l:Addr}{ys:List V}{ds:List PyData}{gs:List (List Addr)}{v:V}{es:Row}{f:List Addr}(g:Gw H0 D 3 (ys ++ [.ref l]) (ds ++ [.list []]) gs H) (k:∀b o,H b=some o→(b=D∨b∈gs.flatten ∨ ∃xs,o = .tup xs)→H1 b=some o) (td:TD H1 2 v (rowD es) f) (nf:f.Nodup) (fr:∀b∈f,H b=none) (fr0:∀b∈f,H0 b=none) :
  (H0 l=none∧l≠D∧H1 l=some (.lst []))∧∃gs',Gw H0 D 3 (ys ++ [.ref l]) (ds ++ [.list [rowD es]]) gs' (upd H1 l (.lst [v])):=by
 have g1:=g.keep k
 have l1:=g.tl.l1;have l2:=g.tl.l2
 rw[List.length_append,List.length_append]at l1
 rw[List.length_append]at l2
 simp at l1 l2
 rcases List.eq_nil_or_concat gs with z|⟨gs0,f1,z⟩
 ·rw[z]at l2;simp at l2
 have z:gs=gs0 ++ [f1]:=by simpa using z
 subst z
 have gl:gs0.length=ys.length:=by simp at l2;omega
 have last:=g1.tl.at' ys.length (.ref l) (.list []) f1 (by simp) (by rw[l1];simp) (by rw[← gl];simp)
 obtain⟨l',xs,fs,e1,e2,hl,_,tl⟩:=TD.asL last
 cases e1
 have x0:xs=[]:=List.eq_nil_of_length_eq_zero tl.l1
 have f0:fs=[]:=List.eq_nil_of_length_eq_zero tl.l2.symm
 subst x0 f0
 have e2:f1=[l]:=by simpa using e2
 subst e2
 have efl:(gs0 ++ [[l]]).flatten=gs0.flatten ++ [l]:=by rw[List.flatten_append];simp
 have nd:=g.nd
 rw[efl,List.nodup_append]at nd
 have lg:l∉gs0.flatten:=fun h=>nd.2.2 l h l (by simp) rfl
 have lm:l∈(gs0 ++ [[l]]).flatten:=by rw[efl];simp
 have lD:l≠D:=fun h=>g.nD (h ▸ lm)
 have l0:=g.fr l lm
 have hlH:∃xs,H l=some (.lst xs):=g.tl.is l lm
 have lf:l∉f:=fun h=>by obtain⟨xs,e⟩:=hlH;rw[fr l h]at e;cases e
 have efn:(gs0 ++ [l::f]).flatten=gs0.flatten++l::f:=by rw[List.flatten_append];simp
 refine⟨⟨l0,lD,hl⟩,gs0 ++ [l::f],?_,?_,fun b hb=>?_,?_,by rw[upd_ne lD.symm];exact g1.lat⟩
 ·have pre:TL (TD (upd H1 l (.lst [v])) 3) ys ds gs0:=⟨l1,by omega,fun i x d f e1 e2 e3=>by
   have il:=(List.getElem?_eq_some_iff.mp e1).1
   have r:=g1.tl.at' i x d f (by rw[List.getElem?_append_left il];exact e1) (by rw[List.getElem?_append_left (by omega)];exact e2) (by rw[List.getElem?_append_left (by omega)];exact e3)
   exact r.upd hl fun h=>lg (mem_flat e3 h)⟩
  refine TL.snoc pre ?_
  have:=TL.snoc (R:=TD (upd H1 l (.lst [v])) 2) TL.nil (td.upd hl lf)
  exact .inr (.inr ⟨l,[v],[rowD es],[f],rfl,rfl,by simp,upd_same,by simp,this⟩)
 ·rw[efn,List.nodup_append]
  refine⟨nd.1,List.nodup_cons.mpr ⟨lf,nf⟩,fun a ha b hb e=>?_⟩
  subst e
  rcases List.mem_cons.mp hb with rfl|hb
  ·exact lg ha
  ·obtain⟨xs,e⟩:=g.tl.is a (by rw[efl];exact List.mem_append_left _ ha)
   rw[fr a hb]at e;cases e
 ·rw[efn]at hb
  rcases List.mem_append.mp hb with h|h
  ·exact g.fr b (by rw[efl];exact List.mem_append_left _ h)
  ·rcases List.mem_cons.mp h with rfl|h
   ·exact l0
   ·exact fr0 b h
 ·rw[efn]
  intro h
  rcases List.mem_append.mp h with h|h
  ·exact g.nD (by rw[efl];exact List.mem_append_left _ h)
  ·rcases List.mem_cons.mp h with h|h
   ·exact lD h.symm
   ·have:=fr D h;rw[g.lat]at this;cases this
theorem CK.free0 {H0 H:Hp}{p D:Addr}{N:Nat}{ys:List V}(ck:CK H0 p D N ys H) {b:Addr}(h:H b=none):H0 b=none:=by
 cases c:H0 b with
 | none=>rfl
 | some o =>
  by_cases z:b=p
  ·rw[z]at h;exact absurd h (hand_some ck.hh)
  ·rw[ck.kp.1 _ _ c z]at h;cases h
theorem Kp.keepG {H0 H H':Hp}{D p:Addr}{j N:Nat}{ys:List V}{ds:List PyData}{gs:List (List Addr)}(g:Gw H0 D j ys ds gs H) (hh:Hand H p N) (k:Kp H H' p) (h0:H0 p≠none) (Dp:D≠p):∀b o,H b=some o→(b=D∨b∈gs.flatten ∨ ∃xs,o = .tup xs)→H' b=some o:=fun b o e z=>k.1 b o e (by
  rintro rfl
  rcases z with z|z|⟨xs,rfl⟩
  ·exact Dp z.symm
  ·exact h0 (g.fr _ z)
  ·obtain⟨l,a,c,ns,h1,_⟩:=hh.ex
   rw[e]at h1;cases h1)
theorem Same.seqT {K:PySem.W.Frag}{H H':Hp}{a:Addr}{xs:List V}(e:Same H H') (h:SqT K H a xs):SqT K H' a xs:=by
 unfold SqT at h ⊢
 rcases h with(h|⟨o,h⟩)|h
 ·exact .inl (.inl (e _ _ h))
 ·exact .inl (.inr ⟨o,e _ _ h⟩)
 ·exact .inr h
mutual
theorem DV.same {K:PySem.W.Frag}{H H':Hp}(s:Same H H'):∀{x:V}{d:PyData},DV K H x d→DV K H' x d
 | _,_,.non=>.non
 | _,_,.bl b=>.bl b
 | _,_,.int i=>.int i
 | _,_,.str x=>.str x
 | _,_,.lst h ds=>.lst (s.seq h) (DVs.same s ds)
 | _,_,.tup h ds=>.tup (Same.seqT s h) (DVs.same s ds)
theorem DVs.same {K:PySem.W.Frag}{H H':Hp}(s:Same H H'):∀{xs:List V}{ds:List PyData},DVs K H xs ds→DVs K H' xs ds
 | _,_,.nil=>.nil
 | _,_,.cons h t=>.cons (DV.same s h) (DVs.same s t)
end
section
variable {α β:Type}
def allS (f:α→Option β):List α→Option (List β)
 | []=>some []
 | x::r=>match f x,allS f r with
  | some y,some ys=>some (y::ys)
  | _,_=>none
variable {f:α→Option β}{g:β→PyData}{xs:List α}{ys:List β}{x:α}{y:β}
theorem allS_snoc:∀{xs:List α}{ys:List β},allS f xs=some ys→f x=some y→allS f (xs ++ [x])=some (ys ++ [y])
 | [],ys,h,e=>by
  cases h
  simp only[List.nil_append,allS,e]
 | a::r,ys,h,e=>by
  simp only[allS]at h
  cases ha:f a with
  | none=>rw[ha]at h;cases h
  | some b =>
   cases hr:allS f r with
   | none=>rw[ha,hr]at h;cases h
   | some bs =>
    rw[ha,hr]at h
    cases h
    simp only[List.cons_append,allS,ha,allS_snoc hr e]
theorem allS_none:∀{xs:List α},x∈xs→f x=none→allS f xs=none
 | a::r,h,e=>by
  simp only[allS]
  rcases List.mem_cons.mp h with rfl|h
  ·rw[e]
  ·rw[allS_none h e]
   cases f a <;> rfl
theorem allS_len:∀{xs:List α}{ys:List β},allS f xs=some ys→ys.length=xs.length
 | [],ys,h=>by cases h;rfl
 | a::r,ys,h=>by
  simp only[allS]at h
  cases ha:f a with
  | none=>rw[ha]at h;cases h
  | some b =>
   cases hr:allS f r with
   | none=>rw[ha,hr]at h;cases h
   | some bs =>
    rw[ha,hr]at h
    cases h
    rw[List.length_cons,List.length_cons,allS_len hr]
theorem allS_mem:∀{xs:List α}{ys:List β},allS f xs=some ys→∀y∈ys,∃x∈xs,f x=some y
 | [],ys,h,y,hy=>by cases h;cases hy
 | a::r,ys,h,y,hy=>by
  simp only[allS]at h
  cases ha:f a with
  | none=>rw[ha]at h;cases h
  | some b =>
   cases hr:allS f r with
   | none=>rw[ha,hr]at h;cases h
   | some bs =>
    rw[ha,hr]at h
    cases h
    rcases List.mem_cons.mp hy with rfl|hy
    ·exact⟨a,List.mem_cons_self,ha⟩
    ·obtain⟨x,hx,e⟩:=allS_mem hr y hy
     exact⟨x,List.mem_cons_of_mem _ hx,e⟩
def optD (g:β→PyData):Option β→PyData
 | some y=>g y
 | none=>.none
theorem allS_yes:∀{xs:List α},(xs.any fun x=>(f x).isNone)=false→∃ys,allS f xs=some ys∧xs.map (fun x=>optD g (f x))=ys.map g
 | [],_=>⟨[],rfl,rfl⟩
 | a::r,h=>by
  rw[List.any_cons,Bool.or_eq_false_iff]at h
  obtain⟨ys,e1,e2⟩:=allS_yes h.2
  cases ha:f a with
  | none=>rw[ha]at h;cases h.1
  | some b=>exact⟨b::ys,by simp only[allS,ha,e1],by rw[List.map_cons,List.map_cons,e2,ha];rfl⟩
theorem allS_no (h:(xs.any fun x=>(f x).isNone)=true):allS f xs=none:=by
 obtain⟨x,hx,e⟩:=List.any_eq_true.mp h
 exact allS_none hx (by simpa using e)
end
def digB (z:Str):Bool:=z.cps.toList.all fun c=>decide (48≤c) && decide (c≤57)
def letB (z:Str):Bool:=z.cps.toList.all fun c=>decide (97≤c) && decide (c≤122)
def isNumB (z:Str):Bool:=(decide (1≤z.length) && decide (z.length≤30)) && digB z && (decide (z=Str.ofString "0") || !decide (z.cps.toList[0]? = some 48))
def numOf (z:Str):Int:=(PySem.intText? z).getD 0
theorem numOf_dig {z:Str}(h1:1≤z.length) (h2:z.length≤30) (h:digB z=true):PySem.intText? z=some (numOf z):=by
 have hd:PySem.NumText.AllDigits z.cps.toList:=fun c hc=>by
  have:=List.all_eq_true.mp h c hc
  simpa using this
 have hne:z.cps.toList ≠ []:=fun e=>by
  have:z.cps.toList.length=0:=by rw[e];rfl
  rw[Array.length_toList]at this
  have h1:1≤z.cps.size:=h1
  omega
 have e:=PySem.intText_digits hd hne (Nat.le_trans h2 (by decide))
 unfold numOf
 rw[e];rfl
def rdNum (z:Str) (lo hi:Int):Option Int:=if isNumB z=true∧lo≤numOf z∧numOf z≤hi then some (numOf z) else none
def isNmB (z:Str):Bool:=(decide (1≤z.length) && decide (z.length≤8)) && letB z
theorem isNm_nm {z:Str}(h:isNmB z=true):nm z:=by
 unfold isNmB letB at h
 simp only[Bool.and_eq_true,decide_eq_true_eq,List.all_eq_true]at h
 exact⟨h.1.1,h.1.2,fun c hc=>h.2 c (by simpa using hc)⟩
def rdEnt (z:Str):Option (Int×Str):=if isNmB (Txt.partition z (sg 61)).2.2=true then(rdNum (Txt.partition z (sg 61)).1 0 1152921504606846975).map fun k=>(k,(Txt.partition z (sg 61)).2.2) else none
def rdRow (z:Str):Option Row:=if z=sg 45 then some [] else allS rdEnt (Txt.split z (sg 44))
def rdRows (z:Str):Option (List Row):=if z=Str.ofString "none" then some [] else allS rdRow (Txt.split z (sg 59))
def rdStepW:List Str→Option PyData
 | [k,a,b,r]=>if k=wRow then(match rdNum a 0 130,rdNum b 0 130,rdRow r with
   | some x,some y,some es=>some (.tuple [.str wRow,.int x,.int y,rowD es])
   | _,_,_=>none) else none
 | [k,a,b]=>if k=wCut then(match rdNum a 0 130,rdNum b 0 130 with
   | some x,some y=>some (.tuple [.str wCut,.int x,.int y])
   | _,_=>none) else none
 | [k,a]=>if k=wRooms then(rdNum a 1 130).map fun x=>.tuple [.str wRooms,.int x] else none
 | _=>none
def rdStep (z:Str):Option PyData:=rdStepW (Txt.split z (sg 32))
def rdYardW:List Str→Option PyData
 | w::r::ws=>match rdNum w 1 8,rdNum r 1 130,allS rdRows ws with
  | some x,some y,some hs=>if hs.getLast? = some [] then none else some (.tuple [.int x,.int y,heldD hs])
  | _,_,_=>none
 | _=>none
def rdYard (z:Str):Option PyData:=rdYardW (Txt.split z (sg 32))
theorem split_ne (z:Str) (c:Nat):Txt.split z (sg c) ≠ []:=fun e=>by have:=split_pos z (sg c);rw[e]at this;simp at this
def nw (H H':Hp):Hp:=fun b=>if (H b).isNone=true then H' b else none
def nwD (H:Hp) (D:Addr) (H':Hp):Hp:=fun b=>if b=D then none else nw H H' b
section
variable {K:PySem.W.Frag}{H H0 H1 H' H'':Hp}{b D:Addr}{o:HO}{v:V}{x:PyData}{ys:List V}{ds:List PyData}
theorem nw_ok (h:nw H H' b=some o):H b=none∧H' b=some o:=by
 unfold nw at h
 split at h
 ·rename_i e;exact⟨by simpa using e,h⟩
 ·cases h
theorem nw_mk (h:H b=none) (h':H' b=some o):nw H H' b=some o:=by
 unfold nw
 rw[h];exact h'
theorem DV.out (d:DV K (nw H H') v x):DV K H' v x:=DV.same (fun b o e=>(nw_ok e).2) d
theorem DV.up (s:Same H0 H) (s':Same H' H'') (d:DV K (nw H H') v x):DV K (nw H0 H'') v x:=DV.same (fun b o e=>nw_mk (s.free (nw_ok e).1) (s' _ _ (nw_ok e).2)) d
theorem DVs.outD (d:DVs K (nwD H D H') ys ds):DVs K H' ys ds:=DVs.same (fun b o e=>by
 unfold nwD at e
 split at e
 ·cases e
 ·exact(nw_ok e).2) d
theorem DVs.snoc {x:PyData}{v:V}:∀{ys:List V}{ds:List PyData},DVs K H ys ds→DV K H v x→DVs K H (ys ++ [v]) (ds ++ [x])
 | _,_,.nil,h=>.cons h .nil
 | _,_,.cons a t,h=>.cons a (DVs.snoc t h)
theorem DVs.push {zs:List V}(d:DVs K (nwD H D H') ys ds) (s0:Same H H1) (s1:H' D=some (.lst zs)) (s:Same H1 H' ∨ ∀b o,H b=some o→H' b=some o) (s2:Same H' H'') (e:DV K (nw H' H'') v x):DVs K (nwD H D (upd H'' D o)) (ys ++ [v]) (ds ++ [x]):=by
 have sH:Same H H':=by
  rcases s with s|s
  ·exact s0.trans s
  ·exact s
 refine DVs.snoc (DVs.same (fun b o' q=>?_) d) (DV.same (fun b o' q=>?_) e)
 ·unfold nwD at q ⊢
  split at q
  ·cases q
  ·rename_i n
   rw[if_neg n]
   exact nw_mk (nw_ok q).1 (by rw[upd_ne n];exact s2 _ _ (nw_ok q).2)
 ·have nb:b≠D:=fun z=>by have:=(nw_ok q).1;rw[z,s1]at this;cases this
  unfold nwD
  rw[if_neg nb]
  exact nw_mk (sH.free (nw_ok q).1) (by rw[upd_ne nb];exact(nw_ok q).2)
theorem DVs.done (nD:H D=none) (hD:H' D=some (.lst ys)) (d:DVs K (nwD H D H') ys ds):DV K (nw H H') (.ref D) (.list ds):=.lst (SqL.of (nw_mk nD hD)) (DVs.same (fun b o e=>by
 unfold nwD at e
 split at e
 ·cases e
 ·exact e) d)
end
theorem isNon_DV {K:PySem.W.Frag}{H:Hp}{v:V}{α:Type}{g:α→PyData}(hg:∀x,g x ≠ .none) {o:Option α}(h:DV K H v (optD g o)):isNonV v=o.isNone:=by
 cases o with
 | none =>
  have h:DV K H v .none:=h
  cases h;rfl
 | some x =>
  have h:DV K H v (g x):=h
  have e:=hg x
  generalize g x=d at h e
  cases h with
  | non=>exact absurd rfl e
  | _=>rfl
theorem any_DVs {K:PySem.W.Frag}{H:Hp}{α β:Type}{f:α→Option β}{g:β→PyData}(hg:∀x,g x ≠ .none):∀{xs:List α}{ys:List V},DVs K H ys (xs.map fun x=>optD g (f x))→ys.any isNonV=xs.any fun x=>(f x).isNone
 | [],_,h=>by cases h;rfl
 | x::xs,_,h=>by
  cases h with
  | cons h t=>rw[List.any_cons,List.any_cons,isNon_DV hg h,any_DVs hg t]
def NoS (K:PySem.W.Frag) (H:Hp) (v:V):Prop:=∃t,TyOf K H v t∧PySem.W.kitOne K t (.type "str")=some false
def ThE (K:PySem.W.Frag) (E:XK) (H:Hp):Prop:=∀(C:Addr) (H':Hp),PySem.W.nsIn K mainGlobals "NoText" = some (some (.ref C))→Same H H'→E .none (some C) H'
theorem ThE.to {K:PySem.W.Frag}{E:XK}{H H':Hp}(h:ThE K E H) (s:Same H H'):ThE K E H':=fun C H2 n s2=>h C H2 n (s.trans s2)
def sp_ask_text (K:PySem.W.Frag):Sp:=fun vs H Q E=>(∃z,vs=[.str z]∧Q .non H) ∨ ∃v,vs=[v]∧NoS K H v∧ThE K E H
def sp_is_number (K:PySem.W.Frag):Sp:=fun vs H Q _=>∃z,vs=[.str z]∧z.length≤sizeLine∧∀H',Same H H'→Q (.bl (isNumB z)) H'
def sp_is_name (K:PySem.W.Frag):Sp:=fun vs H Q _=>∃z,vs=[.str z]∧z.length≤sizeLine∧∀H',Same H H'→Q (.bl (isNmB z)) H'
def sp_read_number (K:PySem.W.Frag):Sp:=fun vs H Q E=>∃z lo hi,vs=[.str z,.int lo,.int hi]∧z.length≤sizeLine∧(∀n H',rdNum z lo hi=some n→Same H H'→Q (.int n) H')∧(rdNum z lo hi=none→ThE K E H)
def sp_read_words (K:PySem.W.Frag):Sp:=fun vs H Q E=>(∃z,vs=[.str z]∧z.length+2≤sizeLine∧∀l,H l=none→Q (.ref l) (upd H l (.lst ((Txt.split z (sg 32)).map V.str)))) ∨ ∃v,vs=[v]∧NoS K H v∧ThE K E H
def sp_read_entry (K:PySem.W.Frag):Sp:=fun vs H Q E=>∃z,vs=[.str z]∧z.length≤sizeLine∧(∀e v H',rdEnt z=some e→DV K (nw H H') v (eD e)→Same H H'→Q v H')∧(rdEnt z=none→ThE K E H)
def sp_read_row (K:PySem.W.Frag):Sp:=fun vs H Q E=>∃z,vs=[.str z]∧z.length+2≤sizeLine∧(∀es v H',rdRow z=some es→DV K (nw H H') v (rowD es)→Same H H'→Q v H')∧(rdRow z=none→ThE K E H)
def sp_read_rows (K:PySem.W.Frag):Sp:=fun vs H Q E=>(∃z,vs=[.str z]∧z.length+2≤sizeLine∧(∀rs v H',rdRows z=some rs→DV K (nw H H') v (rowsD rs)→Same H H'→Q v H')∧(rdRows z=none→ThE K E H)) ∨ ∃v,vs=[v]∧NoS K H v∧ThE K E H
def sp_read_step (K:PySem.W.Frag):Sp:=fun vs H Q E=>(∃z,vs=[.str z]∧z.length+2≤sizeLine∧(∀d v H',rdStep z=some d→DV K (nw H H') v d→Same H H'→Q v H')∧(rdStep z=none→ThE K E H)) ∨ ∃v,vs=[v]∧NoS K H v∧ThE K E H
def sp_read_yard (K:PySem.W.Frag):Sp:=fun vs H Q E=>(∃z,vs=[.str z]∧z.length+2≤sizeLine∧(∀d v H',rdYard z=some d→DV K (nw H H') v d→Same H H'→Q v H')∧(rdYard z=none→ThE K E H)) ∨ ∃v,vs=[v]∧NoS K H v∧ThE K E H
theorem part_len (z:Str) (c:Nat):(Txt.partition z (sg c)).1.length≤z.length∧(Txt.partition z (sg c)).2.2.length≤z.length:=by
 have e:=congrArg (fun x:Str=>x.length) (StrLaws.partition_sum z (sg c))
 simp only[str_applen]at e
 omega
theorem split_len {z p:Str}{c:Nat}(h:p∈Txt.split z (sg c)):p.length≤z.length:=by
 have e:=StrLaws.join_split z (sg c)
 have key:∀ps:List Str,p∈ps→p.length ≤(Str.join (sg c) ps).length:=by
  intro ps
  induction ps with
  | nil=>intro h;cases h
  | cons a r ih =>
   intro h
   cases r with
   | nil =>
    have:p=a:=by simpa using h
    rw[this];exact Nat.le_refl _
   | cons b r =>
    show _ ≤(a++sg c++Str.join (sg c) (b::r)).length
    rw[str_applen,str_applen]
    rcases List.mem_cons.mp h with rfl|h
    ·omega
    ·have:=ih h;omega
 have:=key _ h
 rw[e]at this
 exact this
theorem split_many (z:Str) (c:Nat):(Txt.split z (sg c)).length≤z.length+1:=by
 have e:=congrArg (fun x:Str=>x.length) (StrLaws.join_split z (sg c))
 have key:∀ps:List Str,ps.length ≤(Str.join (sg c) ps).length+1:=by
  intro ps
  induction ps with
  | nil=>simp
  | cons a r ih =>
   cases r with
   | nil=>simp
   | cons b r =>
    show _ ≤(a++sg c++Str.join (sg c) (b::r)).length+1
    rw[str_applen,str_applen,List.length_cons,show(sg c).length=1 from rfl]
    omega
 have k:=key (Txt.split z (sg c))
 have e:(Str.join (sg c) (Txt.split z (sg c))).length=z.length:=e
 omega
theorem dig_c (c:Nat):((!decide ([c] < [48])) && (!decide ([57] < [c]))) =(decide (48≤c) && decide (c≤57)):=by
 rw[Bool.eq_iff_iff]
 simp[List.cons_lt_cons_iff]
theorem let_c (c:Nat):((!decide ([c] < [97])) && (!decide ([122] < [c]))) =(decide (97≤c) && decide (c≤122)):=by
 rw[Bool.eq_iff_iff]
 simp[List.cons_lt_cons_iff]
theorem DVs.last {K:PySem.W.Frag}{H:Hp}{y:V}{d:PyData}:∀{ys:List V}{ds:List PyData},DVs K H (ys ++ [y]) (ds ++ [d])→DV K H y d
 | [],[],h=>by cases h with|cons h _=>exact h
 | [],[_],h=>by cases h with|cons _ h=>cases h
 | [],_::_::_,h=>by cases h with|cons _ h=>cases h
 | _::ys,[],h=>by
  cases h with
  | cons _ h =>
   cases ys <;> cases h
 | _::_,_::_,h=>by cases h with|cons _ h=>exact DVs.last h
theorem DVs.len {K:PySem.W.Frag}{H:Hp}:∀{ys:List V}{ds:List PyData},DVs K H ys ds→ys.length=ds.length
 | _,_,.nil=>rfl
 | _,_,.cons _ t=>by rw[List.length_cons,List.length_cons,DVs.len t]
theorem DV.asL {K:PySem.W.Frag}{H:Hp}{y:V}{ds:List PyData}(h:DV K H y (.list ds)):∃l xs,y = .ref l∧SqL K H l xs∧DVs K H xs ds:=by
 cases h with
 | lst h d=>exact⟨_,_,rfl,h,d⟩
theorem stepW_no {k:Str}{ws:List Str}(h1:¬(k=wRow∧ws.length=3)) (h2:¬(k=wCut∧ws.length=2)) (h3:¬(k=wRooms∧ws.length=1)):rdStepW (k::ws)=none:=by
 match ws with
 | []=>rfl
 | [a]=>simp only[rdStepW];rw[if_neg (fun e=>h3 ⟨e,rfl⟩)]
 | [a,b]=>simp only[rdStepW];rw[if_neg (fun e=>h2 ⟨e,rfl⟩)]
 | [a,b,c]=>simp only[rdStepW];rw[if_neg (fun e=>h1 ⟨e,rfl⟩)]
 | _::_::_::_::_=>rfl
theorem in_one (x:Str) (c:Nat):(!(Builtin.Str.occurrences x ⟨#[c]⟩ 0 x.length 1).isEmpty)=decide (c∈x.cps.toList):=by
 rcases StrLaws.occ_head x ⟨#[c]⟩ 1 (Nat.le_refl 1) with⟨h0,hn⟩|⟨i,r,h0,hi,hn⟩
 ·rw[h0,decide_eq_false (fun h=>by
   obtain⟨i,hi⟩:=List.getElem?_of_mem h
   exact hn i ((StrLaws.subAt_one x c i).mpr hi))];rfl
 ·rw[h0,decide_eq_true (List.mem_of_getElem? ((StrLaws.subAt_one x c i).mp hi))];rfl
theorem dig_mem (c:Nat):decide (c∈(Str.ofString "0123456789").cps.toList) =(decide (48≤c) && decide (c≤57)):=by
 rw[show(Str.ofString "0123456789").cps.toList=[48,49,50,51,52,53,54,55,56,57] by decide +kernel,Bool.eq_iff_iff]
 simp only[decide_eq_true_eq,List.mem_cons,List.not_mem_nil,or_false,Bool.and_eq_true]
 omega
theorem let_mem (c:Nat):decide (c∈(Str.ofString "abcdefghijklmnopqrstuvwxyz").cps.toList) =(decide (97≤c) && decide (c≤122)):=by
 rw[show(Str.ofString "abcdefghijklmnopqrstuvwxyz").cps.toList=[97,98,99,100,101,102,103,104,105,106,107,108,109,110,111,112,113,114,115,116,117,118,119,120,121,122] by decide +kernel,Bool.eq_iff_iff]
 simp only[decide_eq_true_eq,List.mem_cons,List.not_mem_nil,or_false,Bool.and_eq_true]
 omega
def optI:Option Int→V
 | some n=>.int n
 | none=>.non
theorem all_take {α:Type}{p:α→Bool}{l:List α}{i:Nat}{x:α}(h:(l.take i).all p=true) (e:l[i]? = some x) (hx:p x=true):(l.take (i+1)).all p=true:=by
 rw[take_get e,List.all_append,h];simpa using hx
theorem first_zero {z:Str}{x:Nat}(hx:z.cps.toList[0]? = some x):decide ((⟨#[x]⟩ : Str)=Str.ofString "0")=decide (z.cps.toList[0]? = some 48):=by
 rw[hx,Bool.eq_iff_iff]
 simp only[decide_eq_true_eq,Option.some.injEq]
 constructor
 ·intro e
  have h3:=congrArg (fun z:Str=>z.cps.toList[0]?) e
  exact Option.some.inj (h3.trans (by decide))
 ·rintro rfl;decide
theorem zero_iff {z:Str}:z=Str.ofString "0" ↔ (z.cps.toList[0]? = some 48∧z.length=1):=by
 constructor
 ·rintro rfl;decide
 ·rintro⟨h1,h2⟩
  have:z.cps.toList.length=1:=by rw[Array.length_toList];exact h2
  obtain⟨a,ha⟩:=List.length_eq_one_iff.mp this
  apply str_ext
  rw[ha]at h1 ⊢
  have:a=48:=by simpa using h1
  rw[this];decide
theorem part_eq (z:Str):(Txt.partition z (sg 61)).2.1=Str.ofString ""→(Txt.partition z (sg 61)).2.2=Str.ofString "" := by
 unfold Txt.partition
 cases Builtin.Str.occurrences z (sg 61) 0 z.length 1 with
 | nil=>intro _;rfl
 | cons i r =>
  intro h
  have h:sg 61=Str.ofString "" := h
  exact absurd h (by decide)
def sp__law_number (K:PySem.W.Frag):Sp:=fun vs H Q _=>∃z lo hi,vs=[.str z,.int lo,.int hi]∧z.length≤sizeLine∧Q (optI (rdNum z lo hi)) H
def sp__law_read_entry (K:PySem.W.Frag):Sp:=fun vs H Q _=>∃z,vs=[.str z]∧z.length≤sizeLine∧∀v H',DV K (nw H H') v (optD eD (rdEnt z))→Same H H'→Q v H'
def sp__law_read_row (K:PySem.W.Frag):Sp:=fun vs H Q _=>∃z,vs=[.str z]∧z.length+2≤sizeLine∧∀v H',DV K (nw H H') v (optD rowD (rdRow z))→Same H H'→Q v H'
def sp__law_read_rows (K:PySem.W.Frag):Sp:=fun vs H Q _=>∃z,vs=[.str z]∧z.length+2≤sizeLine∧∀v H',DV K (nw H H') v (optD rowsD (rdRows z))→Same H H'→Q v H'
def sp__law_read_step (K:PySem.W.Frag):Sp:=fun vs H Q _=>∃z,vs=[.str z]∧z.length+2≤sizeLine∧∀v H',DV K (nw H H') v (optD id (rdStep z))→Same H H'→Q v H'
def sp__law_read_yard (K:PySem.W.Frag):Sp:=fun vs H Q _=>∃z,vs=[.str z]∧z.length+2≤sizeLine∧∀v H',DV K (nw H H') v (optD id (rdYard z))→Same H H'→Q v H'
theorem optI_dv {K:PySem.W.Frag}{H:Hp}(o:Option Int):DV K H (optI o) (optD PyData.int o):=by
 cases o with
 | none=>exact .non
 | some n=>exact .int n
theorem isNon_optI (o:Option Int):isNonV (optI o)=o.isNone:=by cases o <;> rfl
theorem words13 {k:Str}{ws:List Str}:cutV ((k::ws).map V.str) (some 1) (some 3) =(ws.take 2).map V.str:=by
 match ws with
 | []=>rfl
 | [a]=>rfl
 | a::b::r =>
  unfold cutV
  rw[show(some (1:Int))=some ((1:Nat):Int) from rfl,show(some (3:Int))=some ((3:Nat):Int) from rfl,HT.sIx_nat,HT.sIx_nat]
  have:min 3 (((k::a::b::r).map V.str).length)=3:=by simp
  rw[this]
  have:min 1 (((k::a::b::r).map V.str).length)=1:=by simp
  rw[this]
  simp
theorem DVs.optIs {K:PySem.W.Frag}{H:Hp}{f:Str→Option Int}:∀ws:List Str,DVs K H (ws.map fun w=>optI (f w)) (ws.map fun w=>optD PyData.int (f w))
 | []=>.nil
 | w::r=>.cons (optI_dv _) (DVs.optIs r)
theorem rd_par92 {i j:Nat}{ta:TA}{D:Ends}{σ:L2.St}{H:Hp}(h:ta σ H fun vs H1=>∃x y,vs=[x,y]∧D.nx ((σ.set i (some x)).set j (some y)) H1):tPar i j ta D σ H:=h
theorem words2 {w r:Str}{ws:List Str}:cutV ((w::r::ws).map V.str) (some 2) none=ws.map V.str:=by
 unfold cutV
 rw[show(some (2:Int))=some ((2:Nat):Int) from rfl,HT.sIx_nat,HT.sIx_none]
 have:min 2 (((w::r::ws).map V.str).length)=2:=by simp
 rw[this,List.take_of_length_le (by simp)]
 rfl
theorem dv_nil92 {K:PySem.W.Frag}{H:Hp}{a:Addr}(h:H a=some (.lst [])):DV K H (.ref a) (.list []):=.lst (SqL.of h) .nil
theorem shp {d:PyData}(a:PyData.canLay0 d=true) (b:PyData.depth d≤60):SeqAt.shaped d=true:=by simp[SeqAt.shaped,a];omega
theorem layAll {α:Type}{f:α→PyData}:∀{l:List α},(∀x∈l,PyData.canLay0 (f x)=true)→PyData.canLayAll0 (l.map f)=true
 | [],_=>rfl
 | x::l,h=>by rw[List.map_cons,PyData.canLayAll0,h x List.mem_cons_self,layAll fun y hy=>h y (List.mem_cons_of_mem _ hy)];rfl
theorem layL {α:Type}{f:α→PyData}{l:List α}(h:∀x∈l,PyData.canLay0 (f x)=true):PyData.canLay0 (.list (l.map f))=true:=by rw[PyData.canLay0];exact layAll h
theorem lay_e {z:Str}{e:Int×Str}(h:rdEnt z=some e):PyData.canLay0 (eD e)=true:=by
 unfold rdEnt at h
 split at h
 ·rename_i hb
  cases hn:rdNum (Txt.partition z (sg 61)).1 0 1152921504606846975 with
  | none=>rw[hn]at h;cases h
  | some k =>
   rw[hn]at h
   cases h
   have:=(nm_ok (isNm_nm hb)).1
   simp[eD,PyData.canLay0,PyData.canLayAll0,this]
 ·cases h
theorem lay_row {z:Str}{es:Row}(h:rdRow z=some es):PyData.canLay0 (rowD es)=true:=by
 refine layL fun e he=>?_
 unfold rdRow at h
 split at h
 ·cases h;cases he
 ·obtain⟨p,_,hp⟩:=allS_mem h e he
  exact lay_e hp
theorem lay_rows {z:Str}{rs:List Row}(h:rdRows z=some rs):PyData.canLay0 (rowsD rs)=true:=by
 refine layL fun e he=>?_
 unfold rdRows at h
 split at h
 ·cases h;cases he
 ·obtain⟨p,_,hp⟩:=allS_mem h e he
  exact lay_row hp
theorem lay_held {ws:List Str}{hs:List (List Row)}(h:allS rdRows ws=some hs):PyData.canLay0 (heldD hs)=true:=by
 refine layL fun e he=>?_
 obtain⟨p,_,hp⟩:=allS_mem h e he
 exact lay_rows hp
def rdW (way:Int) (z:Str):Option PyData:=if way=0 then(rdRows z).map rowsD else if way=1 then rdStep z else rdYard z
theorem rdW_shaped {way:Int}{z:Str}{d:PyData}(h:rdW way z=some d):SeqAt.shaped d=true∧d ≠ .none∧PyData.depth d≤5∧PyData.canLay0 d=true:=by
 unfold rdW at h
 split at h
 ·cases hr:rdRows z with
  | none=>rw[hr]at h;cases h
  | some rs =>
   rw[hr]at h
   cases h
   have a:=lay_rows hr
   have b:=dep_rows rs
   exact⟨shp a (by omega),(fun e=>by cases e),by omega,a⟩
 split at h
 ·unfold rdStep at h
  have key:∀ws,rdStepW ws=some d→PyData.canLay0 d=true∧d ≠ .none∧PyData.depth d≤5:=by
   intro ws h
   match ws with
   | []=>cases h
   | [_]=>cases h
   | [k,a] =>
    simp only[rdStepW]at h
    split at h
    ·cases ha:rdNum a 1 130 with
     | none=>rw[ha]at h;cases h
     | some x=>rw[ha]at h;cases h;exact⟨by simp[PyData.canLay0,PyData.canLayAll0];decide +kernel,(fun e=>by cases e),by simp[PyData.depth,PyData.depthAll]⟩
    ·cases h
   | [k,a,b] =>
    simp only[rdStepW]at h
    split at h
    ·cases ha:rdNum a 0 130 with
     | none=>rw[ha]at h;cases h
     | some x =>
      cases hb:rdNum b 0 130 with
      | none=>rw[ha,hb]at h;cases h
      | some y=>rw[ha,hb]at h;cases h;exact⟨by simp[PyData.canLay0,PyData.canLayAll0];decide +kernel,(fun e=>by cases e),by simp[PyData.depth,PyData.depthAll]⟩
    ·cases h
   | [k,a,b,r] =>
    simp only[rdStepW]at h
    split at h
    ·cases ha:rdNum a 0 130 with
     | none=>rw[ha]at h;cases h
     | some x =>
      cases hb:rdNum b 0 130 with
      | none=>rw[ha,hb]at h;cases h
      | some y =>
       cases hrr:rdRow r with
       | none=>rw[ha,hb,hrr]at h;cases h
       | some es =>
        rw[ha,hb,hrr]at h
        cases h
        have l:=lay_row hrr
        have dp:=dep_row es
        refine⟨?_,(fun e=>by cases e),by simp[PyData.depth,PyData.depthAll];omega⟩
        simp[PyData.canLay0,PyData.canLayAll0,l];decide +kernel
    ·cases h
   | _::_::_::_::_::_=>cases h
  obtain⟨a,b,c⟩:=key _ h
  exact⟨shp a (by omega),b,c,a⟩
 ·unfold rdYard at h
  have key:∀ws,rdYardW ws=some d→PyData.canLay0 d=true∧d ≠ .none∧PyData.depth d≤5:=by
   intro ws h
   match ws with
   | []=>cases h
   | [_]=>cases h
   | w::r::ws =>
    simp only[rdYardW]at h
    cases ha:rdNum w 1 8 with
    | none=>rw[ha]at h;cases h
    | some x =>
     cases hb:rdNum r 1 130 with
     | none=>rw[ha,hb]at h;cases h
     | some y =>
      cases hrr:allS rdRows ws with
      | none=>rw[ha,hb,hrr]at h;cases h
      | some hs =>
       rw[ha,hb,hrr]at h
       have h:(if hs.getLast? = some [] then none else some (PyData.tuple [.int x,.int y,heldD hs]))=some d:=h
       split at h
       ·cases h
       ·cases h
        have l:=lay_held hrr
        have dp:=dep_held hs
        refine⟨?_,(fun e=>by cases e),by simp[PyData.depth,PyData.depthAll];omega⟩
        simp[PyData.canLay0,PyData.canLayAll0,l]
  obtain⟨a,b,c⟩:=key _ h
  exact⟨shp a (by omega),b,c,a⟩
theorem tySame {K:PySem.W.Frag}{H H':Hp}{v:V}{t:Value}(h:TyOf K H v t) (s:Same H H'):TyOf K H' v t:=match h with
 | .non=>.non
 | .bl x=>.bl x
 | .int i=>.int i
 | .str x=>.str x
 | .flt x=>.flt x
 | .lst e=>.lst (s _ _ e)
 | .frz e=>.frz (s _ _ e)
 | .tup e=>.tup (s _ _ e)
 | .dK e=>.dK (s _ _ e)
 | .dT e=>.dT (s _ _ e)
 | .ins e cl ha hn htk hm=>.ins (s _ _ e) cl ha hn htk hm
def sp__law_told (K:PySem.W.Frag) : Sp:=fun vs H Q _=>∃ (way:Int) (v:V),vs = [.int way,v]∧0 ≤ way∧way < 3 ∧
  ((NoS K H v∧∀ t H',H' t = some (.tup [.str "none",.int 0])→Same H H'→Q (.ref t) H') ∨
   ∃ z,v = .str z∧z.length + 2 ≤ sizeLine∧(∀ d t x H',rdW way z = some d→DV K H' x d→H' t = some (.tup [.str "told",x])→Same H H'→Q (.ref t) H')∧(rdW way z = none→∀ t H',H' t = some (.tup [.str "none",.int 0])→Same H H'→Q (.ref t) H'))
def sp__law_right (K:PySem.W.Frag):Sp:=fun vs H Q _=>∃v,vs=[v]∧(NoS K H v ∨ ∃z,v = .str z∧z.length+2≤sizeLine)∧∀H',Same H H'→Q (.bl true) H'
def wt (ps:List Str):Nat:=(ps.map (·.length)).sum+ps.length
theorem wt_app (a b:List Str):wt (a++b)=wt a+wt b:=by
 unfold wt;rw[List.map_append,List.sum_append,List.length_append];omega
theorem wt_td (a:Nat) (ps:List Str):wt (ps.take a)+wt (ps.drop a)=wt ps:=by rw[← wt_app,List.take_append_drop]
theorem wt_rev (ps:List Str):wt ps.reverse=wt ps:=by
 unfold wt;rw[List.map_reverse,List.sum_reverse,List.length_reverse]
theorem join_wt (c:Nat):∀{ps:List Str},ps ≠ []→(Str.join (sg c) ps).length+1=wt ps
 | [],h=>absurd rfl h
 | [p],_=>by simp[wt,Str.join]
 | p::q::r,_=>by
  have:=join_wt c (ps:=q::r) (by simp)
  show(p++sg c++Str.join (sg c) (q::r)).length+1=_
  rw[str_applen,str_applen,show(sg c).length=1 from rfl]
  have e:wt (p::q::r)=p.length+1+wt (q::r):=by unfold wt;simp;omega
  omega
theorem split_wt (z:Str) (c:Nat):wt (Txt.split z (sg c))=z.length+1:=by
 rw[← join_wt c (split_ne z c),StrLaws.join_split]
theorem join_le (c:Nat) (ps:List Str):(Txt.join (sg c) ps).length≤wt ps:=by
 rw[join_txt]
 exact join_len c ps
theorem cutT9 {xs:List V}{k:Nat}:cutV xs none (some (k:Int))=xs.take k:=by
 unfold cutV
 rw[HT.sIx_nat,HT.sIx_none,List.drop_zero,Nat.sub_zero]
 by_cases h:k≤xs.length
 ·rw[Nat.min_eq_left h]
 ·rw[Nat.min_eq_right (by omega),List.take_of_length_le (Nat.le_refl _),List.take_of_length_le (by omega)]
theorem cutD9 {xs:List V}{k:Nat}:cutV xs (some (k:Int)) none=xs.drop k:=by
 unfold cutV
 rw[HT.sIx_nat,HT.sIx_none]
 by_cases h:k≤xs.length
 ·rw[Nat.min_eq_left h,List.take_of_length_le (by rw[List.length_drop];omega)]
 ·rw[List.drop_eq_nil_of_le (by omega:xs.length≤min k xs.length),List.drop_eq_nil_of_le (by omega:xs.length≤k)]
  simp
theorem cutM9 {xs:List V}{k:Nat}(h:k≤xs.length):cutV xs (some (k:Int)) (some ((k:Int)+2)) =(xs.drop k).take 2:=by
 unfold cutV
 rw[show(k:Int)+2 =((k+2:Nat):Int) by push_cast;rfl,HT.sIx_nat,HT.sIx_nat,Nat.min_eq_left h]
 by_cases h2:k+2≤xs.length
 ·rw[Nat.min_eq_left h2,show k+2-k=2 by omega]
 ·rw[Nat.min_eq_right (by omega),List.take_of_length_le (by rw[List.length_drop];omega),List.take_of_length_le (by rw[List.length_drop];omega)]
theorem pickS {z:Str}{v:Int}(h0:0≤v) (h1:v<z.length):∃c,atI z.cps.toList v=some c:=by
 obtain⟨n,rfl⟩ : ∃n:Nat,v =(n:Int):=⟨v.toNat,by omega⟩
 have:n<z.cps.toList.length:=by rw[Array.length_toList];show n<z.length;omega
 exact⟨_,atI_nat (List.getElem?_eq_getElem this)⟩
def sp__law_spoilt (K:PySem.W.Frag):Sp:=fun vs H Q _=>∃(p:Addr) (N:Nat) (z:Str),vs=[.ref p,.str z]∧Hand H p N∧N+100<2^60∧z.length≤1000000 ∧
 ∀(z':Str) (H':Hp),z'.length≤2*z.length+2→Hand H' p (N+10)→Kp H H' p→Q (.str z') H'
structure Hs92 (hs:List (List Row)):Prop where
 ok:∀rs∈hs,(∀r∈rs,ok8 r)∧rs.length≤3
 hl:hs.length≤5
theorem Hs92.sum {hs:List (List Row)}(h:Hs92 hs):(hs.map fun rs=>(rowsT rs).length).sum≤3530:=by
 have:=sum_le (f:=fun rs=>(rowsT rs).length) (B:=706) (l:=hs) fun rs hr=>by
  have:=rowsT_len (B:=233) (C:=3) (fun r hr'=>rowT_len (B:=8) ((h.ok rs hr).1 r hr').1 ((h.ok rs hr).1 r hr').2) (h.ok rs hr).2
  omega
 have a:=h.hl
 omega
theorem Hs92.y {hs:List (List Row)}{w r:Nat}(h:Hs92 hs) (w1:1≤w) (w2:w≤8) (r1:1≤r) (r2:r≤130) (la:∀rs,hs.getLast? = some rs→rs ≠ []):okY w r hs :=
 ⟨w1,w2,r1,r2,fun rs hr=>⟨fun r hr'=>((h.ok rs hr).1 r hr').r,by have:=(h.ok rs hr).2;omega⟩,by have:=h.hl;omega,by have:=h.sum;omega,la⟩
theorem Hs92.len {hs:List (List Row)}{w r:Nat}(h:Hs92 hs) (w2:w≤8) (r2:r≤130):(yardT w r hs).length≤5000:=by
 have a:=join_len 32 (wordsY w r hs)
 have a1:=numT_l (m:=w) (by omega)
 have a2:=numT_l (m:=r) r2
 have a3:=h.sum
 have a4:=h.hl
 have e:(wordsY w r hs).length=hs.length+2:=by simp[wordsY]
 have e2:((wordsY w r hs).map (·.length)).sum =(numT (w:Int)).length+((numT (r:Int)).length+(hs.map fun rs=>(rowsT rs).length).sum):=by
  unfold wordsY
  rw[List.map_cons,List.map_cons,List.sum_cons,List.sum_cons,List.map_map];rfl
 unfold yardT
 omega
def ok8S:Stp→Prop
 | .row r a es=>r≤130∧a≤130∧ok8 es
 | .cut r m=>r≤130∧m≤130
 | .rooms n=>1≤n∧n≤130
theorem step_len92 {st:Stp}(h:ok8S st):(stepT st).length≤5000:=by
 have:okS st:=by
  cases st with
  | row r a es=>exact⟨h.1,h.2.1,ok8.r h.2.2⟩
  | cut r m=>exact h
  | rooms n=>exact h
 have:=stepT_len this
 omega
def sp__law_yard (K:PySem.W.Frag):Sp:=fun vs H Q _=>∃(p:Addr) (N:Nat),vs=[.ref p]∧Hand H p N∧N+30000000<2^60 ∧
 ∀(v:V) (w r:Nat) (hs:List (List Row)) (fp:List Addr) (H':Hp),TD H' 5 v (yardD w r hs) fp→okY w r hs→(yardT w r hs).length≤5000→Hand H' p (N+20000000)→Kp H H' p→Q v H'
def sp__law_step (K:PySem.W.Frag):Sp:=fun vs H Q _=>∃(p:Addr) (N:Nat),vs=[.ref p]∧Hand H p N∧N+30000<2^60 ∧
 ∀(v:V) (st:Stp) (fp:List Addr) (H':Hp),TD H' 3 v (stepD st) fp→okS st→(stepT st).length≤5000→Hand H' p (N+10000)→Kp H H' p→Q v H'
theorem hand2 {H H':Hp}{p q:Addr}{N M:Nat}(hq:Hand H q N) (hp:Hand H p M) (n:q≠p) (k:Kp H H' p):Hand H' q N:=by
 obtain⟨l,d,c,ns,h1,h2,h3,h4,h5⟩:=hq.ex
 obtain⟨l',d',c',ns',g1,_⟩:=hp.ex
 have lp:l≠p:=by
  rintro rfl
  rw[g1]at h2
  have e:=HO.lst.inj (Option.some.inj h2)
  match ns,e with
  | [_,_,_],e=>simp at e
  | [],e=>simp at e
  | [_],e=>simp at e
  | [_,_],e=>simp at e
  | _::_::_::_::_,e=>simp at e
 exact⟨l,d,c,ns,k.1 _ _ h1 n,k.1 _ _ h2 lp,h3,h4,h5⟩
theorem fold_len (c:Array Nat):∀(k:Nat) (acc:Array Nat),((List.replicate k c).foldl (· ++ ·) acc).size=acc.size+k*c.size
 | 0,acc=>by simp
 | k+1,acc=>by
  rw[List.replicate_succ,List.foldl_cons,fold_len c k,Array.size_append,Nat.succ_mul];omega
theorem one_len (k:Nat):(⟨(List.replicate k (Str.ofString "1").cps).foldl (· ++ ·) #[]⟩ : Str).length=k:=by
 have e:=fold_len (Str.ofString "1").cps k #[]
 rw[show(Str.ofString "1").cps.size=1 by decide +kernel,Nat.mul_one]at e
 have e2:(⟨(List.replicate k (Str.ofString "1").cps).foldl (· ++ ·) #[]⟩ : Str).length =((List.replicate k (Str.ofString "1").cps).foldl (· ++ ·) #[]).size:=rfl
 rw[e2,e];simp
theorem far_len:(Txt.mul (Str.ofString "1") 3900).length=3900:=by
 unfold Txt.mul
 rw[if_neg (by decide),if_neg (by decide)]
 exact one_len 3900
theorem far_ok:MulOk (Str.ofString "1") 3900:=⟨by decide,fun _ _=>by decide,fun _ _=>by decide⟩
theorem pow92 {i:Nat}(h:i≤5):5002*2^i≤160064:=by
 have:2^i≤2^5:=Nat.pow_le_pow_right (by decide) h
 omega
section
variable {P:Program}{w:World}{K:PySem.W.Frag}{mg:Str→Option Value}{base:Heap}
theorem ok_is_name {f:Addr}{fd:FuncData}(F:Fun K "is_name" "is_name" s_is_name f fd) (mF:mg "is_name" = some (.ref f)) (bF:Binds K fd ["thing"] []) (T:Bl mg)  : Cal P w K mg base "is_name" ["thing"] 1 (sp_is_name K):=by
 refine Cal.of F mF bF sc_is_name (fun vs H Q E h=>?_) (fun cdv A outer s H vs Q E hr h=>?_)
 ·obtain⟨m,rfl,_⟩:=h;rfl
 obtain⟨z,rfl,zl,q⟩:=h
 refine⟨_,(pss_one (ps_ret (pe_and (pe_callB call_isinst rfl T.isinstance bt_isinstance (pa_cons (pv 0) (pa_cons (pe_bltn (v:=.ty "str") rfl T.str bt_str rfl) pa_nil stx_Name) stx_Name)) (pe_and (pe_chain op_le op_le pe_int (pe_callB call_lenS rfl T.len bt_len (pa_cons (pv 0) pa_nil stx_Name)) pe_int) (pe_one (pe_callB (call_allL rfl) rfl T.all bt_all (pa_cons (pe_comp rfl (blkOk (sc:=defScope s_is_name) (N:=["thing"]) (vs:=["sign"]) (fs:=[]) (js:=[]) (by decide +kernel) rfl rfl) (pi_str (pv 0)) (fun _ _ _ _=>pg_name (i:=0) (show(["sign"]:List Str).Nodup by decide +kernel) rfl (Or.inl rfl)) (fun _ _ _ _=>pif0) (fun _ _ _ _=>(pe_chain op_le_str op_le_str pe_str (pv 0) pe_str))) pa_nil stx_ListComp))))))),?_⟩
 rw[st_is_name]
 have no:(¬(1≤z.length∧z.length≤8))→isNmB z=false:=fun h=>by
  unfold isNmB
  rcases Classical.em (1≤z.length) with a|a
  ·rw[decide_eq_false (fun b=>h ⟨a,b⟩)];simp
  ·rw[decide_eq_false a];simp
 walk_at"rd"
 refine rd_isi (.str z) (b:=true) rfl ?_
 walk_at"rd"
 refine rd_lenS zl ?_
 walk_at"rd"
 by_cases c1:(1:Int)≤z.length
 ·rw[decide_eq_true c1]
  walk_at"rd"
  by_cases c2:(z.length:Int)≤8
  ·rw[decide_eq_true c2]
   walk_at"rd"
   refine⟨_,rfl,fun D nD=>?_⟩
   refine comp_str (fun i σ' ys H'=>(∃x,σ'=[x])∧i≤z.length∧ys =((z.cps.toList.take i).map fun c=>V.bl (decide (97≤c) && decide (c≤122)))∧Same H H'∧H' D=some (.lst ys)) D ?_ ?_ ?_
   ·exact⟨⟨_,rfl⟩,Nat.zero_le _,rfl,same_new nD _,upd_same⟩
   ·rintro i c σ' ys H' hi ⟨⟨y,rfl⟩,il,rfl,g1,g2⟩
    have il2:i<z.length:=(Array.getElem?_eq_some_iff.mp hi).1
    have hc:z.cps.toList[i]? = some c:=by rw[Array.getElem?_toList];exact hi
    have key:∀b,b =(decide (97≤c) && decide (c≤122))→H' D=some (.lst ((z.cps.toList.take i).map fun c=>V.bl (decide (97≤c) && decide (c≤122))))∧((z.cps.toList.take i).map fun c=>V.bl (decide (97≤c) && decide (c≤122))).length<sizeLine∧(∃x,[some (V.str ⟨#[c]⟩)]=[x])∧i+1≤z.length∧((z.cps.toList.take i).map fun c=>V.bl (decide (97≤c) && decide (c≤122))) ++ [V.bl b] =((z.cps.toList.take (i+1)).map fun c=>V.bl (decide (97≤c) && decide (c≤122)))∧Same H (upd H' D (.lst (((z.cps.toList.take i).map fun c=>V.bl (decide (97≤c) && decide (c≤122))) ++ [V.bl b])))∧upd H' D (.lst (((z.cps.toList.take i).map fun c=>V.bl (decide (97≤c) && decide (c≤122))) ++ [V.bl b])) D=some (.lst (((z.cps.toList.take i).map fun c=>V.bl (decide (97≤c) && decide (c≤122))) ++ [V.bl b])):=by
     rintro b rfl
     refine⟨g2,by rw[List.length_map,List.length_take];exact small1000 (by omega),⟨_,rfl⟩,by omega,by rw[take_get hc,List.map_append];rfl,fun b o e=>?_,upd_same⟩
     rw[upd_ne (ne_of_none e nD)];exact g1 _ _ e
    have dc:=let_c c
    walk_at"rd"
    rw[show((⟨#[c]⟩ : Str).cps.toList)=[c] from rfl,show((Str.ofString "a").cps.toList)=[97] by decide +kernel]
    cases a1:(!decide ([c] < [97])) with
    | false =>
     rw[a1]at dc
     walk_at"rd"
     exact key false dc
    | true =>
     rw[a1]at dc
     walk_at"rd"
     rw[show((⟨#[c]⟩ : Str).cps.toList)=[c] from rfl,show((Str.ofString "z").cps.toList)=[122] by decide +kernel]
     exact key _ dc
   ·rintro σ' ys H' ⟨⟨y,rfl⟩,_,rfl,g1,g2⟩
    walk_at"rd"
    rw[show z.cps.size=z.cps.toList.length from(Array.length_toList).symm,List.take_length]at g2
    refine rd_allL (bs:=z.cps.toList.map fun c=>decide (97≤c) && decide (c≤122)) (by rw[List.map_map];exact SqL.of g2) ?_
    rw[show(z.cps.toList.map fun c=>decide (97≤c) && decide (c≤122)).all id=letB z by unfold letB;rw[List.all_map];rfl]
    have:=q H' g1
    unfold isNmB at this
    rw[decide_eq_true (by omega:1≤z.length),decide_eq_true (by omega:z.length≤8)]at this
    exact this
  ·rw[decide_eq_false c2]
   walk_at"rd"
   rw[← no (fun h=>c2 (by omega))]
   exact q H (fun _ _ e=>e)
 ·rw[decide_eq_false c1]
  walk_at"rd"
  rw[← no (fun h=>c1 (by omega))]
  exact q H (fun _ _ e=>e)
theorem ok_read_rows {f:Addr}{fd:FuncData}(F:Fun K "read_rows" "read_rows" s_read_rows f fd) (mF:mg "read_rows" = some (.ref f)) (bF:Binds K fd ["text"] []) (T:Bl mg) (C_ask_text:Cal1 P w K mg base "ask_text" ["thing"] 3 (sp_ask_text K)) (C_read_row:Cal1 P w K mg base "read_row" ["text"] 5 (sp_read_row K)):Cal1 P w K mg base "read_rows" ["text"] 6 (sp_read_rows K):=by
 refine Cal1.of F mF bF sc_read_rows (fun vs H Q E h=>?_) (fun cdv A outer s H vs Q E hr h=>?_)
 ·rcases h with⟨z,rfl,_⟩|⟨v,rfl,_⟩ <;> rfl
 refine⟨_,(pss_cons (ps_expr (pcl1 C_ask_text (throws_def.passes fun _ _ _ z=>z) (hr.mono (by decide)) (pa_cons (pv 0) pa_nil stx_Name)))
   (pss_cons (ps_if (pt_cmpR op_eq (pv 0) pe_str (nomark _)) (pss_one (ps_ret (pe_lst pa_nil))) pss_nil)
   (pss_one (ps_ret (pe_compX throws_def rfl rfl rfl (blkOk (sc:=defScope s_read_rows) (N:=["text"]) (vs:=["part"]) (fs:=[]) (js:=[]) (by decide +kernel) rfl rfl) (pi_list (pe_bm PySem.F.plainAttrs_str PySem.F.slot_str_split PySem.F.type_str_split mt_split (pv 0) (pa_cons pe_str pa_nil stx_Constant))) (fun _ _ _ _ _=>pg_name (i:=0) (show(["part"]:List Str).Nodup by decide +kernel) rfl (Or.inl rfl)) (fun _ _ _ _ _ thB=>pif0) (fun _ _ _ _ _ thB=>(pcl1 C_read_row (thB.passes fun _ _ _ z=>z) (hr.mono (by decide)) (pa_cons (pv 0) pa_nil stx_Name)))))))),?_⟩
 rcases h with⟨z,rfl,zl,q,qe⟩|⟨v,rfl,no,q⟩
 rotate_left
 ·rw[st_read_rows]
  walk_at"rd"
  exact .inr ⟨v,rfl,no,q⟩
 rw[st_read_rows]
 walk_at"rd"
 refine .inl ⟨z,rfl,?_⟩
 walk_at"rd"
 refine rd_eqZ ?_
 walk_at"rd"
 refine rd_if (fun c=>?_) (fun c=>?_)
 ·walk_at"rd"
  refine⟨by decide,fun D nD=>?_⟩
  exact q [] _ _ (by unfold rdRows;rw[if_pos c]) (.lst (SqL.of (nw_mk nD upd_same)) .nil) (same_new nD _)
 ·have er:rdRows z=allS rdRow (Txt.split z (sg 59)):=by unfold rdRows;rw[if_neg c]
  have sm:=split_many z 59
  have sl:∀p∈Txt.split z (sg 59),p.length≤z.length:=fun p hp=>split_len hp
  walk_at"rd"
  refine⟨rfl,?_⟩
  walk_at"rd"
  refine⟨_,_,rfl,rfl,by decide,zl,fun l nl=>?_⟩
  rw[s_semi]
  generalize Txt.split z (sg 59)=ps at er sm sl ⊢
  generalize hE:upd H l _=H1
  obtain⟨hl,s1⟩:=newo nl hE
  clear hE
  refine⟨l,rfl,⟨_,SqL.of hl⟩,fun D nD=>?_⟩
  refine comp_list (xs:=ps.map V.str) (fun i σ' ys H'=>(∃x,σ'=[x])∧Same H1 H'∧H' D=some (.lst ys)∧ys.length=i∧∃es,allS rdRow (ps.take i)=some es∧DVs K (nwD H D H') ys (es.map rowD)) D ⟨⟨_,rfl⟩,same_new nD _,upd_same,rfl,[],rfl,.nil⟩ (fun i σ' ys H' _ h=>SqL.of (h.2.1 _ _ hl)) ?_ ?_
  ·rintro i x σ' ys H2 hx ⟨⟨x1,rfl⟩,s2,hD,yl,es,ee,dv⟩
   rw[List.getElem?_map]at hx
   cases he:ps[i]? with
   | none=>rw[he]at hx;cases hx
   | some p =>
    rw[he]at hx
    cases hx
    have il:=(List.getElem?_eq_some_iff.mp he).1
    have pl:=sl p (List.mem_of_getElem? he)
    walk_at"rd"
    refine⟨p,rfl,by omega,fun e v H3 en dve s3=>?_,fun en=>?_⟩
    ·refine⟨s3 _ _ hD,by omega,⟨_,rfl⟩,fun b o e=>by rw[upd_ne (ne_of_none e nD)];exact s3 _ _ (s2 _ _ e),upd_same,by rw[List.length_append,yl];rfl,es ++ [e],by rw[take_get he];exact allS_snoc ee en,?_⟩
     rw[List.map_append]
     exact DVs.push dv s1 hD (.inl s2) s3 dve
    ·exact(qe (by rw[er];exact allS_none (List.mem_of_getElem? he) en)).to (s1.trans s2)
  ·rintro σ' ys H2 ⟨⟨x1,rfl⟩,s2,hD,yl,es,ee,dv⟩
   rw[List.length_map,List.take_length]at ee
   walk_at"rd"
   exact q es _ H2 (by rw[er,ee]) (DVs.done (s1.free nD) hD dv) (s1.trans s2)
theorem ok_read_row {f:Addr}{fd:FuncData}(F:Fun K "read_row" "read_row" s_read_row f fd) (mF:mg "read_row" = some (.ref f)) (bF:Binds K fd ["text"] []) (T:Bl mg) (C_read_entry:Cal1 P w K mg base "read_entry" ["text"] 4 (sp_read_entry K)):Cal1 P w K mg base "read_row" ["text"] 5 (sp_read_row K):=by
 refine Cal1.of F mF bF sc_read_row (fun vs H Q E h=>?_) (fun cdv A outer s H vs Q E hr h=>?_)
 ·obtain⟨z,rfl,_⟩:=h;rfl
 obtain⟨z,rfl,zl,q,qe⟩:=h
 refine⟨_,(pss_cons (ps_if (pt_cmpR op_eq (pv 0) pe_str (nomark _)) (pss_one (ps_ret (pe_lst pa_nil))) pss_nil)
   (pss_one (ps_ret (pe_compX throws_def rfl rfl rfl (blkOk (sc:=defScope s_read_row) (N:=["text"]) (vs:=["part"]) (fs:=[]) (js:=[]) (by decide +kernel) rfl rfl) (pi_list (pe_bm PySem.F.plainAttrs_str PySem.F.slot_str_split PySem.F.type_str_split mt_split (pv 0) (pa_cons pe_str pa_nil stx_Constant))) (fun _ _ _ _ _=>pg_name (i:=0) (show(["part"]:List Str).Nodup by decide +kernel) rfl (Or.inl rfl)) (fun _ _ _ _ _ thB=>pif0) (fun _ _ _ _ _ thB=>(pcl1 C_read_entry (thB.passes fun _ _ _ z=>z) (hr.mono (by decide)) (pa_cons (pv 0) pa_nil stx_Name))))))),?_⟩
 rw[st_read_row]
 walk_at"rd"
 rw[s_dash]
 refine rd_eqZ ?_
 walk_at"rd"
 refine rd_if (fun c=>?_) (fun c=>?_)
 ·walk_at"rd"
  refine⟨by decide,fun D nD=>?_⟩
  exact q [] _ _ (by unfold rdRow;rw[if_pos c]) (.lst (SqL.of (nw_mk nD upd_same)) .nil) (same_new nD _)
 ·have er:rdRow z=allS rdEnt (Txt.split z (sg 44)):=by unfold rdRow;rw[if_neg c]
  have sm:=split_many z 44
  have sl:∀p∈Txt.split z (sg 44),p.length≤z.length:=fun p hp=>split_len hp
  walk_at"rd"
  refine⟨rfl,?_⟩
  walk_at"rd"
  refine⟨_,_,rfl,rfl,by decide,zl,fun l nl=>?_⟩
  rw[s_comma]
  generalize Txt.split z (sg 44)=ps at er sm sl ⊢
  generalize hE:upd H l _=H1
  obtain⟨hl,s1⟩:=newo nl hE
  clear hE
  refine⟨l,rfl,⟨_,SqL.of hl⟩,fun D nD=>?_⟩
  refine comp_list (xs:=ps.map V.str) (fun i σ' ys H'=>(∃x,σ'=[x])∧Same H1 H'∧H' D=some (.lst ys)∧ys.length=i∧∃es,allS rdEnt (ps.take i)=some es∧DVs K (nwD H D H') ys (es.map eD)) D ⟨⟨_,rfl⟩,same_new nD _,upd_same,rfl,[],rfl,.nil⟩ (fun i σ' ys H' _ h=>SqL.of (h.2.1 _ _ hl)) ?_ ?_
  ·rintro i x σ' ys H2 hx ⟨⟨x1,rfl⟩,s2,hD,yl,es,ee,dv⟩
   rw[List.getElem?_map]at hx
   cases he:ps[i]? with
   | none=>rw[he]at hx;cases hx
   | some p =>
    rw[he]at hx
    cases hx
    have il:=(List.getElem?_eq_some_iff.mp he).1
    have pl:=sl p (List.mem_of_getElem? he)
    walk_at"rd"
    refine⟨p,rfl,by omega,fun e v H3 en dve s3=>?_,fun en=>?_⟩
    ·refine⟨s3 _ _ hD,by omega,⟨_,rfl⟩,fun b o e=>by rw[upd_ne (ne_of_none e nD)];exact s3 _ _ (s2 _ _ e),upd_same,by rw[List.length_append,yl];rfl,es ++ [e],by rw[take_get he];exact allS_snoc ee en,?_⟩
     rw[List.map_append]
     exact DVs.push dv s1 hD (.inl s2) s3 dve
    ·exact(qe (by rw[er];exact allS_none (List.mem_of_getElem? he) en)).to (s1.trans s2)
  ·rintro σ' ys H2 ⟨⟨x1,rfl⟩,s2,hD,yl,es,ee,dv⟩
   rw[List.length_map,List.take_length]at ee
   walk_at"rd"
   exact q es _ H2 (by rw[er,ee]) (DVs.done (s1.free nD) hD dv) (s1.trans s2)
theorem ok_read_entry {f:Addr}{fd:FuncData}(F:Fun K "read_entry" "read_entry" s_read_entry f fd) (mF:mg "read_entry" = some (.ref f)) (bF:Binds K fd ["text"] []) (T:Bl mg) {TE:Addr}  {CE_NoText:Addr}(XE_NoText:XTxt0 K mg "NoText" CE_NoText TE)  (C_is_name:Cal P w K mg base "is_name" ["thing"] 1 (sp_is_name K)) (C_read_number:Cal1 P w K mg base "read_number" ["text", "least", "most"] 3 (sp_read_number K)):Cal1 P w K mg base "read_entry" ["text"] 4 (sp_read_entry K):=by
 refine Cal1.of F mF bF sc_read_entry (fun vs H Q E h=>?_) (fun cdv A outer s H vs Q E hr h=>?_)
 ·obtain⟨z,rfl,_⟩:=h;rfl
 obtain⟨z,rfl,zl,q,qe⟩:=h
 refine⟨_,(pss_cons (ps_asg (pe_bm PySem.F.plainAttrs_str PySem.F.slot_str_partition PySem.F.type_str_partition mt_part (pv 0) (pa_cons pe_str pa_nil stx_Constant)) (pg_tup rfl (pgs_cons (pg_name (i:=1) sc_read_entry.nd rfl (Or.inl rfl)) (pgs_cons (pg_name (i:=2) sc_read_entry.nd rfl (Or.inl rfl)) (pgs_cons (pg_name (i:=3) sc_read_entry.nd rfl (Or.inl rfl)) pgs_nil)))))
   (pss_cons (ps_if (pt_not (pt_val (pcl C_is_name (hr.mono (by decide)) (pa_cons (pv 3) pa_nil stx_Name)))) (pss_one (ps_raise0 (k:=0) throws_def XE_NoText.cls (hr.mono (by decide)) rfl XE_NoText.mg)) pss_nil)
   (pss_one (ps_ret (pe_tup (pa_cons (pcl1 C_read_number (throws_def.passes fun _ _ _ z=>z) (hr.mono (by decide)) (pa_cons (pv 1) (pa_cons pe_int (pa_cons (pe_gint rfl T.c_LAST_KEY) pa_nil stx_Name) stx_Constant) stx_Name)) (pa_cons (pv 3) pa_nil stx_Name) stx_Call)))))),?_⟩
 rw[st_read_entry]
 walk_at"rd"
 refine⟨rfl,?_⟩
 walk_at"rd"
 refine⟨_,_,rfl,rfl,by decide,zl,fun t nt=>?_⟩
 obtain⟨l1,l3⟩:=part_len z 61
 have er:rdEnt z=if isNmB (Txt.partition z (sg 61)).2.2=true then(rdNum (Txt.partition z (sg 61)).1 0 1152921504606846975).map fun k=>(k,(Txt.partition z (sg 61)).2.2) else none:=rfl
 rw[s_eq]
 generalize hP:Txt.partition z (sg 61)=P at er l1 l3 ⊢
 obtain⟨k,e,th⟩:=P
 generalize hE:upd H t _=H1
 obtain⟨ht,s1⟩:=newo nt hE
 clear hE
 walk_at"rd"
 refine⟨t,_,rfl,SqT.of ht,rfl,_,_,rfl,_,_,rfl,_,_,rfl,rfl,?_⟩
 walk_at"rd"
 refine⟨th,rfl,Nat.le_trans l3 zl,fun H2 s2=>?_⟩
 cases b:isNmB th with
 | false =>
  walk_at"rd"
  exact qe (by rw[er];show(if isNmB th=true then _ else _)=_;rw[b];rfl) _ _ XE_NoText.nm (s1.trans s2)
 | true =>
  have er2:rdEnt z =(rdNum k 0 1152921504606846975).map fun k=>(k,th):=by rw[er];show(if isNmB th=true then _ else _)=_;rw[b];rfl
  walk_at"rd"
  refine⟨k,0,_,rfl,Nat.le_trans l1 zl,fun n H3 en s3=>?_,fun en=>?_⟩
  ·walk_at"rd"
   refine⟨(by show 2≤sizeLine;decide),fun t2 nt2=>?_⟩
   generalize hE:upd H3 t2 _=H4
   obtain⟨ht2,s4⟩:=newo nt2 hE
   clear hE
   have s03:=s1.trans (s2.trans s3)
   walk_at"rd"
   refine q (n,th) (.ref t2) H4 (by rw[er2,en];rfl) ?_ (s03.trans s4)
   exact .tup (SqT.of (nw_mk (s03.free nt2) ht2)) (.cons (.int _) (.cons (.str _) .nil))
  ·exact(qe (by rw[er2,en];rfl)).to (s1.trans s2)
theorem ok_read_step {f:Addr}{fd:FuncData}(F:Fun K "read_step" "read_step" s_read_step f fd) (mF:mg "read_step" = some (.ref f)) (bF:Binds K fd ["text"] []) (T:Bl mg) {TE:Addr}  {CE_NoText:Addr}(XE_NoText:XTxt0 K mg "NoText" CE_NoText TE)  (C_read_words:Cal1 P w K mg base "read_words" ["text"] 4 (sp_read_words K)) (C_read_number:Cal1 P w K mg base "read_number" ["text", "least", "most"] 3 (sp_read_number K)) (C_read_row:Cal1 P w K mg base "read_row" ["text"] 5 (sp_read_row K)):Cal1 P w K mg base "read_step" ["text"] 6 (sp_read_step K):=by
 refine Cal1.of F mF bF sc_read_step (fun vs H Q E h=>?_) (fun cdv A outer s H vs Q E hr h=>?_)
 ·rcases h with⟨z,rfl,_⟩|⟨v,rfl,_⟩ <;> rfl
 refine⟨_,(pss_cons (ps_asg (pcl1 C_read_words (throws_def.passes fun _ _ _ z=>z) (hr.mono (by decide)) (pa_cons (pv 0) pa_nil stx_Name)) (pg_star (n:=1) rfl (pgs_cons (pg_name (i:=1) sc_read_step.nd rfl (Or.inl rfl)) (pgs_star (pg_name (i:=2) sc_read_step.nd rfl (Or.inl rfl)) pgs_nil))))
   (pss_cons (ps_if (PW.pt (pw_and (pt_cmpR op_eq (pv 1) pe_str (nomark _)) (pw_and1 (pt_cmpR op_eq (pe_callB call_lenL rfl T.len bt_len (pa_cons (pv 2) pa_nil stx_Name)) pe_int (nomark _))))) (pss_cons (ps_asg (pv 2) (pg_tupL (n:=3) rfl (pgs_cons (pg_name (i:=3) sc_read_step.nd rfl (Or.inl rfl)) (pgs_cons (pg_name (i:=4) sc_read_step.nd rfl (Or.inl rfl)) (pgs_cons (pg_name (i:=5) sc_read_step.nd rfl (Or.inl rfl)) pgs_nil)))))
   (pss_one (ps_ret (pe_tup (pa_cons (pv 1) (pa_cons (pcl1 C_read_number (throws_def.passes fun _ _ _ z=>z) (hr.mono (by decide)) (pa_cons (pv 3) (pa_cons pe_int (pa_cons (pe_gint rfl T.c_MOST) pa_nil stx_Name) stx_Constant) stx_Name)) (pa_cons (pcl1 C_read_number (throws_def.passes fun _ _ _ z=>z) (hr.mono (by decide)) (pa_cons (pv 4) (pa_cons pe_int (pa_cons (pe_gint rfl T.c_MOST) pa_nil stx_Name) stx_Constant) stx_Name)) (pa_cons (pcl1 C_read_row (throws_def.passes fun _ _ _ z=>z) (hr.mono (by decide)) (pa_cons (pv 5) pa_nil stx_Name)) pa_nil stx_Call) stx_Call) stx_Call) stx_Name))))) pss_nil)
   (pss_cons (ps_if (PW.pt (pw_and (pt_cmpR op_eq (pv 1) pe_str (nomark _)) (pw_and1 (pt_cmpR op_eq (pe_callB call_lenL rfl T.len bt_len (pa_cons (pv 2) pa_nil stx_Name)) pe_int (nomark _))))) (pss_cons (ps_asg (pv 2) (pg_tupL (n:=2) rfl (pgs_cons (pg_name (i:=3) sc_read_step.nd rfl (Or.inl rfl)) (pgs_cons (pg_name (i:=6) sc_read_step.nd rfl (Or.inl rfl)) pgs_nil))))
   (pss_one (ps_ret (pe_tup (pa_cons (pv 1) (pa_cons (pcl1 C_read_number (throws_def.passes fun _ _ _ z=>z) (hr.mono (by decide)) (pa_cons (pv 3) (pa_cons pe_int (pa_cons (pe_gint rfl T.c_MOST) pa_nil stx_Name) stx_Constant) stx_Name)) (pa_cons (pcl1 C_read_number (throws_def.passes fun _ _ _ z=>z) (hr.mono (by decide)) (pa_cons (pv 6) (pa_cons pe_int (pa_cons (pe_gint rfl T.c_MOST) pa_nil stx_Name) stx_Constant) stx_Name)) pa_nil stx_Call) stx_Call) stx_Name))))) pss_nil)
   (pss_cons (ps_if (PW.pt (pw_and (pt_cmpR op_eq (pv 1) pe_str (nomark _)) (pw_and1 (pt_cmpR op_eq (pe_callB call_lenL rfl T.len bt_len (pa_cons (pv 2) pa_nil stx_Name)) pe_int (nomark _))))) (pss_one (ps_ret (pe_tup (pa_cons (pv 1) (pa_cons (pcl1 C_read_number (throws_def.passes fun _ _ _ z=>z) (hr.mono (by decide)) (pa_cons (pe_ix ix_list (pv 2) pe_int (fun _ _=>rfl)) (pa_cons pe_int (pa_cons (pe_gint rfl T.c_MOST) pa_nil stx_Name) stx_Constant) stx_Subscript)) pa_nil stx_Call) stx_Name)))) pss_nil)
   (pss_one (ps_raise0 (k:=0) throws_def XE_NoText.cls (hr.mono (by decide)) rfl XE_NoText.mg)))))),?_⟩
 rcases h with⟨z,rfl,zl,q,qe⟩|⟨v,rfl,no,q⟩
 rotate_left
 ·rw[st_read_step]
  walk_at"rd"
  exact .inr ⟨v,rfl,no,q⟩
 have sl:∀p∈Txt.split z (sg 32),p.length≤z.length:=fun p hp=>split_len hp
 have er:rdStep z=rdStepW (Txt.split z (sg 32)):=rfl
 have sn:=split_ne z 32
 have sm:=split_many z 32
 rw[st_read_step]
 walk_at"rd"
 refine .inl ⟨z,rfl,zl,fun l nl=>?_⟩
 rw[er]at q qe
 clear er
 generalize Txt.split z (sg 32)=ps at q qe sl sn sm ⊢
 generalize hE:upd H l _=H1
 obtain⟨hl,s1⟩:=newo nl hE
 clear hE
 cases ps with
 | nil=>exact absurd rfl sn
 | cons k ws =>
 walk_at"rd"
 refine⟨l,_,rfl,SqL.of hl,by rw[List.length_map,List.length_cons];omega,fun l2 nl2=>⟨_,_,rfl,_,_,rfl,rfl,?_⟩⟩
 rw[show((k::ws).map V.str).drop 1=ws.map V.str from rfl]
 generalize hE:upd H1 l2 _=H2
 obtain⟨hl2,s2⟩:=newo nl2 hE
 clear hE
 have s12:=s1.trans s2
 by_cases c1:k=wRow
 ·subst c1
  walk_at"rd"
  refine rd_eqZ ?_
  rw[decide_eq_true (show wRow=Str.ofString "row" from rfl)]
  walk_at"rd"
  refine rd_if (fun c=>?_) (fun c=>?_)
  ·rw[List.length_map]at c
   match ws,(show ws.length=3 by omega) with
   | [a,b,r],_ =>
   have la:=sl a (by simp)
   have lb:=sl b (by simp)
   have lr:=sl r (by simp)
   have er:rdStepW [wRow,a,b,r]=match rdNum a 0 130,rdNum b 0 130,rdRow r with
    | some x,some y,some es=>some (.tuple [.str wRow,.int x,.int y,rowD es])
    | _,_,_=>none:=by simp only[rdStepW];rw[if_pos trivial]
   walk_at"rd"
   refine⟨l2,_,rfl,SqL.of hl2,rfl,_,_,rfl,_,_,rfl,_,_,rfl,rfl,?_⟩
   walk_at"rd"
   refine⟨a,0,130,rfl,by omega,fun x H3 ex s3=>?_,fun en=>?_⟩
   rotate_left
   ·exact(qe (by rw[er,en])).to s12
   walk_at"rd"
   refine⟨b,0,130,rfl,by omega,fun y H4 ey s4=>?_,fun en=>?_⟩
   rotate_left
   ·exact(qe (by rw[er,ex,en])).to (s12.trans s3)
   walk_at"rd"
   refine⟨r,rfl,by omega,fun es v H5 ee dv s5=>?_,fun en=>?_⟩
   rotate_left
   ·exact(qe (by rw[er,ex,ey,en])).to (s12.trans (s3.trans s4))
   walk_at"rd"
   refine⟨(by show 4≤sizeLine;decide),fun t nt=>?_⟩
   generalize hE:upd H5 t _=H6
   obtain⟨ht,s6⟩:=newo nt hE
   clear hE
   have s04:=s12.trans (s3.trans s4)
   have s06:=s04.trans (s5.trans s6)
   walk_at"rd"
   refine q _ (.ref t) H6 (by rw[er,ex,ey,ee]) ?_ s06
   exact .tup (SqT.of (nw_mk ((s04.trans s5).free nt) ht)) (.cons (.str _) (.cons (.int _) (.cons (.int _) (.cons (DV.up s04 s6 dv) .nil))))
  ·rw[List.length_map]at c
   walk_at"rd"
   refine rd_eqZ ?_
   rw[decide_eq_false (show ¬ wRow=Str.ofString "cut" by decide)]
   walk_at"rd"
   refine rd_eqZ ?_
   rw[decide_eq_false (show ¬ wRow=Str.ofString "rooms" by decide)]
   walk_at"rd"
   exact qe (stepW_no (fun h=>c (by omega)) (fun h=>absurd h.1 (by decide)) (fun h=>absurd h.1 (by decide))) _ _ XE_NoText.nm s12
 walk_at"rd"
 refine rd_eqZ ?_
 rw[decide_eq_false (show ¬ k=Str.ofString "row" from c1)]
 by_cases c2:k=wCut
 ·subst c2
  walk_at"rd"
  refine rd_eqZ ?_
  rw[decide_eq_true (show wCut=Str.ofString "cut" from rfl)]
  walk_at"rd"
  refine rd_if (fun c=>?_) (fun c=>?_)
  ·rw[List.length_map]at c
   match ws,(show ws.length=2 by omega) with
   | [a,b],_ =>
   have la:=sl a (by simp)
   have lb:=sl b (by simp)
   have er:rdStepW [wCut,a,b]=match rdNum a 0 130,rdNum b 0 130 with
    | some x,some y=>some (.tuple [.str wCut,.int x,.int y])
    | _,_=>none:=by simp only[rdStepW];rw[if_pos trivial]
   walk_at"rd"
   refine⟨l2,_,rfl,SqL.of hl2,rfl,_,_,rfl,_,_,rfl,rfl,?_⟩
   walk_at"rd"
   refine⟨a,0,130,rfl,by omega,fun x H3 ex s3=>?_,fun en=>?_⟩
   rotate_left
   ·exact(qe (by rw[er,en])).to s12
   walk_at"rd"
   refine⟨b,0,130,rfl,by omega,fun y H4 ey s4=>?_,fun en=>?_⟩
   rotate_left
   ·exact(qe (by rw[er,ex,en])).to (s12.trans s3)
   walk_at"rd"
   refine⟨(by show 3≤sizeLine;decide),fun t nt=>?_⟩
   generalize hE:upd H4 t _=H6
   obtain⟨ht,s6⟩:=newo nt hE
   clear hE
   have s04:=s12.trans (s3.trans s4)
   walk_at"rd"
   refine q _ (.ref t) H6 (by rw[er,ex,ey]) ?_ (s04.trans s6)
   exact .tup (SqT.of (nw_mk (s04.free nt) ht)) (.cons (.str _) (.cons (.int _) (.cons (.int _) .nil)))
  ·rw[List.length_map]at c
   walk_at"rd"
   refine rd_eqZ ?_
   rw[decide_eq_false (show ¬ wCut=Str.ofString "rooms" by decide)]
   walk_at"rd"
   exact qe (stepW_no (fun h=>absurd h.1 (by decide)) (fun h=>c (by omega)) (fun h=>absurd h.1 (by decide))) _ _ XE_NoText.nm s12
 walk_at"rd"
 refine rd_eqZ ?_
 rw[decide_eq_false (show ¬ k=Str.ofString "cut" from c2)]
 walk_at"rd"
 refine rd_eqZ ?_
 by_cases c3:k=wRooms
 ·subst c3
  rw[decide_eq_true (show wRooms=Str.ofString "rooms" from rfl)]
  walk_at"rd"
  refine rd_if (fun c=>?_) (fun c=>?_)
  ·rw[List.length_map]at c
   match ws,(show ws.length=1 by omega) with
   | [a],_ =>
   have la:=sl a (by simp)
   have er:rdStepW [wRooms,a] =(rdNum a 1 130).map fun x=>.tuple [.str wRooms,.int x]:=by simp only[rdStepW];rw[if_pos trivial]
   walk_at"rd"
   refine⟨a,1,130,rfl,by omega,fun x H3 ex s3=>?_,fun en=>?_⟩
   rotate_left
   ·exact(qe (by rw[er,en];rfl)).to s12
   walk_at"rd"
   refine⟨(by show 2≤sizeLine;decide),fun t nt=>?_⟩
   generalize hE:upd H3 t _=H6
   obtain⟨ht,s6⟩:=newo nt hE
   clear hE
   have s03:=s12.trans s3
   walk_at"rd"
   refine q _ (.ref t) H6 (by rw[er,ex];rfl) ?_ (s03.trans s6)
   exact .tup (SqT.of (nw_mk (s03.free nt) ht)) (.cons (.str _) (.cons (.int _) .nil))
  ·rw[List.length_map]at c
   walk_at"rd"
   exact qe (stepW_no (fun h=>absurd h.1 (by decide)) (fun h=>absurd h.1 (by decide)) (fun h=>c (by omega))) _ _ XE_NoText.nm s12
 ·rw[decide_eq_false (show ¬ k=Str.ofString "rooms" from c3)]
  walk_at"rd"
  exact qe (stepW_no (fun h=>c1 h.1) (fun h=>c2 h.1) (fun h=>c3 h.1)) _ _ XE_NoText.nm s12
theorem ok_read_yard {f:Addr}{fd:FuncData}(F:Fun K "read_yard" "read_yard" s_read_yard f fd) (mF:mg "read_yard" = some (.ref f)) (bF:Binds K fd ["text"] []) (T:Bl mg) {TE:Addr}  {CE_NoText:Addr}(XE_NoText:XTxt0 K mg "NoText" CE_NoText TE)  (C_read_words:Cal1 P w K mg base "read_words" ["text"] 4 (sp_read_words K)) (C_read_rows:Cal1 P w K mg base "read_rows" ["text"] 6 (sp_read_rows K)) (C_read_number:Cal1 P w K mg base "read_number" ["text", "least", "most"] 3 (sp_read_number K)):Cal1 P w K mg base "read_yard" ["text"] 7 (sp_read_yard K):=by
 refine Cal1.of F mF bF sc_read_yard (fun vs H Q E h=>?_) (fun cdv A outer s H vs Q E hr h=>?_)
 ·rcases h with⟨z,rfl,_⟩|⟨v,rfl,_⟩ <;> rfl
 refine⟨_,(pss_cons (ps_set (i:=1) sc_read_yard.nd rfl (Or.inl rfl) (pcl1 C_read_words (throws_def.passes fun _ _ _ z=>z) (hr.mono (by decide)) (pa_cons (pv 0) pa_nil stx_Name)))
   (pss_cons (ps_if (pt_cmpR op_lt (pe_callB call_lenL rfl T.len bt_len (pa_cons (pv 1) pa_nil stx_Name)) pe_int (nomark _)) (pss_one (ps_raise0 (k:=0) throws_def XE_NoText.cls (hr.mono (by decide)) rfl XE_NoText.mg)) pss_nil)
   (pss_cons (ps_asg (pv 1) (pg_star (n:=2) rfl (pgs_cons (pg_name (i:=2) sc_read_yard.nd rfl (Or.inl rfl)) (pgs_cons (pg_name (i:=3) sc_read_yard.nd rfl (Or.inl rfl)) (pgs_star (pg_name (i:=4) sc_read_yard.nd rfl (Or.inl rfl)) pgs_nil)))))
   (pss_cons (ps_setcX (i:=5) sc_read_yard.nd rfl rfl throws_def rfl rfl rfl (blkOk (sc:=defScope s_read_yard) (N:=["text", "words", "wide", "rooms", "rest", "held"]) (vs:=["word"]) (fs:=[]) (js:=[]) (by decide +kernel) rfl rfl) (pi_list (pv 4)) (fun _ _ _ _ _=>pg_name (i:=0) (show(["word"]:List Str).Nodup by decide +kernel) rfl (Or.inl rfl)) (fun _ _ _ _ _ thB=>pif0) (fun _ _ _ _ _ thB=>(pcl1 C_read_rows (thB.passes fun _ _ _ z=>z) (hr.mono (by decide)) (pa_cons (pv 0) pa_nil stx_Name))))
   (pss_cons (ps_if (PW.pt (pw_and (pt_truth (pv 5) (fun _=>rfl)) (pw_and1 (pt_not (pt_truth (pe_ix ix_list (pv 5) (pe_un un_neg pe_int) (fun _ _=>rfl)) (fun _=>rfl)))))) (pss_one (ps_raise0 (k:=0) throws_def XE_NoText.cls (hr.mono (by decide)) rfl XE_NoText.mg)) pss_nil)
   (pss_one (ps_ret (pe_tup (pa_cons (pcl1 C_read_number (throws_def.passes fun _ _ _ z=>z) (hr.mono (by decide)) (pa_cons (pv 2) (pa_cons pe_int (pa_cons (pe_gint rfl T.c_MOST_WIDE) pa_nil stx_Name) stx_Constant) stx_Name)) (pa_cons (pcl1 C_read_number (throws_def.passes fun _ _ _ z=>z) (hr.mono (by decide)) (pa_cons (pv 3) (pa_cons pe_int (pa_cons (pe_gint rfl T.c_MOST) pa_nil stx_Name) stx_Constant) stx_Name)) (pa_cons (pv 5) pa_nil stx_Name) stx_Call) stx_Call))))))))),?_⟩
 rcases h with⟨z,rfl,zl,q,qe⟩|⟨v,rfl,no,q⟩
 rotate_left
 ·rw[st_read_yard]
  walk_at"rd"
  exact .inr ⟨v,rfl,no,q⟩
 have sl:∀p∈Txt.split z (sg 32),p.length≤z.length:=fun p hp=>split_len hp
 have er:rdYard z=rdYardW (Txt.split z (sg 32)):=rfl
 have sm:=split_many z 32
 rw[st_read_yard]
 walk_at"rd"
 refine .inl ⟨z,rfl,zl,fun l nl=>?_⟩
 rw[er]at q qe
 clear er
 generalize Txt.split z (sg 32)=ps at q qe sl sm ⊢
 generalize hE:upd H l _=H1
 obtain⟨hl,s1⟩:=newo nl hE
 clear hE
 walk_at"rd"
 refine rd_if (fun c=>?_) (fun c=>?_)
 ·walk_at"rd"
  rw[List.length_map]at c
  have e0:rdYardW ps=none:=by
   match ps,c with
   | [],_=>rfl
   | [_],_=>rfl
   | _::_::_,c=>simp at c;omega
  exact qe e0 _ _ XE_NoText.nm s1
 rw[List.length_map]at c
 match ps,c with
 | [],c=>exact absurd (by simp:((([]:List Str).length:Nat):Int)<2) c
 | [x],c=>exact absurd (by simp:((([x]:List Str).length:Nat):Int)<2) c
 | w::r::ws,c =>
 clear c
 have lw:=sl w (by simp)
 have lr:=sl r (by simp)
 have sl2:∀p∈ws,p.length≤z.length:=fun p hp=>sl p (List.mem_cons_of_mem _ (List.mem_cons_of_mem _ hp))
 have wl:ws.length≤z.length:=by simp at sm;omega
 have er:rdYardW (w::r::ws)=match rdNum w 1 8,rdNum r 1 130,allS rdRows ws with
  | some x,some y,some hs=>if hs.getLast? = some [] then none else some (.tuple [.int x,.int y,heldD hs])
  | _,_,_=>none:=rfl
 walk_at"rd"
 refine⟨l,_,rfl,SqL.of hl,by simp,fun l2 nl2=>⟨_,_,rfl,_,_,rfl,_,_,rfl,rfl,?_⟩⟩
 rw[show((w::r::ws).map V.str).drop 2=ws.map V.str from rfl]
 generalize hE:upd H1 l2 _=H2
 obtain⟨hl2,s2⟩:=newo nl2 hE
 clear hE
 have s12:=s1.trans s2
 walk_at"rd"
 refine⟨l2,rfl,⟨_,SqL.of hl2⟩,fun D nD=>?_⟩
 refine comp_list (xs:=ws.map V.str) (fun i σ' ys H'=>(∃x,σ'=[x])∧Same H2 H'∧H' D=some (.lst ys)∧ys.length=i∧∃es,allS rdRows (ws.take i)=some es∧DVs K (nwD H D H') ys (es.map rowsD)) D ⟨⟨_,rfl⟩,same_new nD _,upd_same,rfl,[],rfl,.nil⟩ (fun i σ' ys H' _ h=>SqL.of (h.2.1 _ _ hl2)) ?_ ?_
 ·rintro i x σ' ys H3 hx ⟨⟨x1,rfl⟩,s3,hD,yl,es,ee,dv⟩
  rw[List.getElem?_map]at hx
  cases he:ws[i]? with
  | none=>rw[he]at hx;cases hx
  | some p =>
   rw[he]at hx
   cases hx
   have il:=(List.getElem?_eq_some_iff.mp he).1
   have pl:=sl2 p (List.mem_of_getElem? he)
   walk_at"rd"
   refine .inl ⟨p,rfl,by omega,fun e v H4 en dve s4=>?_,fun en=>?_⟩
   ·refine⟨s4 _ _ hD,by omega,⟨_,rfl⟩,fun b o e=>by rw[upd_ne (ne_of_none e nD)];exact s4 _ _ (s3 _ _ e),upd_same,by rw[List.length_append,yl];rfl,es ++ [e],by rw[take_get he];exact allS_snoc ee en,?_⟩
    rw[List.map_append]
    exact DVs.push dv s12 hD (.inl s3) s4 dve
   ·refine(qe ?_).to (s12.trans s3)
    rw[er,allS_none (List.mem_of_getElem? he) en]
    cases rdNum w 1 8 <;> cases rdNum r 1 130 <;> rfl
 ·rintro σ' ys H3 ⟨⟨x1,rfl⟩,s3,hD,yl,hs,ee,dv⟩
  rw[List.length_map,List.take_length]at ee
  have hl3:=allS_len ee
  rw[List.length_map]at yl
  have s03:=s12.trans s3
  have dD:=DVs.done (s12.free nD) hD dv
  walk_at"rd"
  rcases List.eq_nil_or_concat hs with c|⟨hs',rs,c⟩
  ·subst c
   have y0:ys=[]:=List.eq_nil_of_length_eq_zero (by rw[List.length_nil]at hl3;omega)
   subst y0
   refine⟨false,.inl ⟨[],SqL.of hD,rfl⟩,?_⟩
   walk_at"rd"
   refine⟨w,1,8,rfl,by omega,fun x H4 ex s4=>?_,fun en=>?_⟩
   rotate_left
   ·exact(qe (by rw[er,en])).to s03
   walk_at"rd"
   refine⟨r,1,130,rfl,by omega,fun y H5 ey s5=>?_,fun en=>?_⟩
   rotate_left
   ·exact(qe (by rw[er,ex,en])).to (s03.trans s4)
   walk_at"rd"
   refine⟨(by show 3≤sizeLine;decide),fun t nt=>?_⟩
   generalize hE:upd H5 t _=H6
   obtain⟨ht,s6⟩:=newo nt hE
   clear hE
   have s36:=s4.trans (s5.trans s6)
   walk_at"rd"
   refine q _ (.ref t) H6 (by rw[er,ex,ey,ee];show(if _ then _ else _)=_;rw[if_neg (by simp)]) ?_ (s03.trans s36)
   exact .tup (SqT.of (nw_mk ((s03.trans (s4.trans s5)).free nt) ht)) (.cons (.int _) (.cons (.int _) (.cons (DV.up (fun _ _ e=>e) s36 dD) .nil)))
  ·have c:hs=hs' ++ [rs]:=by simpa using c
   have yn:ys ≠ []:=fun z=>by
    rw[z]at yl
    rw[c]at hl3
    simp at hl3 yl
    omega
   obtain⟨ys',y,rfl⟩ : ∃ys' y,ys=ys' ++ [y]:=by
    rcases List.eq_nil_or_concat ys with z|⟨a,b,z⟩
    ·exact absurd z yn
    ·exact⟨a,b,by simpa using z⟩
   have dl:DV K H3 y (rowsD rs):=DVs.last (ds:=hs'.map rowsD) (by
    have:=DVs.outD dv
    rw[c,List.map_append]at this
    exact this)
   obtain⟨ly,xs,rfl,hly,tly⟩:=DV.asL dl
   have xe:(!xs.isEmpty) =(!decide (rs=[])):=by
    have:=DVs.len tly
    rw[List.length_map]at this
    cases xs with
    | nil=>rw[decide_eq_true (List.eq_nil_of_length_eq_zero this.symm)];rfl
    | cons _ _=>rw[decide_eq_false (fun z=>by rw[z]at this;cases this)];rfl
   refine⟨true,.inl ⟨_,SqL.of hD,by cases ys' <;> rfl⟩,?_⟩
   walk_at"rd"
   refine rd_ixL (SqL.of hD) at_end ?_
   by_cases cr:rs=[]
   ·rw[decide_eq_true cr]at xe
    refine⟨false,.inl ⟨_,hly,xe.symm⟩,?_⟩
    walk_at"rd"
    refine qe ?_ _ _ XE_NoText.nm s03
    rw[er,ee]
    have gl:hs.getLast? = some []:=by rw[c,cr];simp
    cases rdNum w 1 8 <;> cases rdNum r 1 130 <;> first|rfl|(show(if _ then _ else _)=_;rw[if_pos gl])
   ·rw[decide_eq_false cr]at xe
    refine⟨true,.inl ⟨_,hly,xe.symm⟩,?_⟩
    walk_at"rd"
    refine⟨w,1,8,rfl,by omega,fun x H4 ex s4=>?_,fun en=>?_⟩
    rotate_left
    ·exact(qe (by rw[er,en])).to s03
    walk_at"rd"
    refine⟨r,1,130,rfl,by omega,fun y H5 ey s5=>?_,fun en=>?_⟩
    rotate_left
    ·exact(qe (by rw[er,ex,en])).to (s03.trans s4)
    walk_at"rd"
    refine⟨(by show 3≤sizeLine;decide),fun t nt=>?_⟩
    generalize hE:upd H5 t _=H6
    obtain⟨ht,s6⟩:=newo nt hE
    clear hE
    have s36:=s4.trans (s5.trans s6)
    walk_at"rd"
    refine q _ (.ref t) H6 (by rw[er,ex,ey,ee];show(if _ then _ else _)=_;rw[if_neg (by rw[c];simp;exact cr)]) ?_ (s03.trans s36)
    exact .tup (SqT.of (nw_mk ((s03.trans (s4.trans s5)).free nt) ht)) (.cons (.int _) (.cons (.int _) (.cons (DV.up (fun _ _ e=>e) s36 dD) .nil)))
theorem ok_read_words {f:Addr}{fd:FuncData}(F:Fun K "read_words" "read_words" s_read_words f fd) (mF:mg "read_words" = some (.ref f)) (bF:Binds K fd ["text"] []) (T:Bl mg) (C_ask_text:Cal1 P w K mg base "ask_text" ["thing"] 3 (sp_ask_text K)):Cal1 P w K mg base "read_words" ["text"] 4 (sp_read_words K):=by
 refine Cal1.of F mF bF sc_read_words (fun vs H Q E h=>?_) (fun cdv A outer s H vs Q E hr h=>?_)
 ·rcases h with⟨z,rfl,_⟩|⟨v,rfl,_⟩ <;> rfl
 refine⟨_,(pss_cons (ps_expr (pcl1 C_ask_text (throws_def.passes fun _ _ _ z=>z) (hr.mono (by decide)) (pa_cons (pv 0) pa_nil stx_Name)))
   (pss_one (ps_ret (pe_bm PySem.F.plainAttrs_str PySem.F.slot_str_split PySem.F.type_str_split mt_split (pv 0) (pa_cons pe_str pa_nil stx_Constant))))),?_⟩
 rcases h with⟨z,rfl,hz,q⟩|⟨v,rfl,no,q⟩
 ·rw[st_read_words]
  walk_at"rd"
  refine .inl ⟨z,rfl,?_⟩
  walk_at"rd"
  refine⟨rfl,?_⟩
  walk_at"rd"
  refine⟨z,_,rfl,rfl,by decide,hz,fun l nl=>?_⟩
  rw[s_sp]
  exact q l nl
 ·rw[st_read_words]
  walk_at"rd"
  exact .inr ⟨v,rfl,no,q⟩
theorem ok_read_number {f:Addr}{fd:FuncData}(F:Fun K "read_number" "read_number" s_read_number f fd) (mF:mg "read_number" = some (.ref f)) (bF:Binds K fd ["text", "least", "most"] []) (T:Bl mg) {TE:Addr}  {CE_NoText:Addr}(XE_NoText:XTxt0 K mg "NoText" CE_NoText TE)  (C_is_number:Cal P w K mg base "is_number" ["text"] 1 (sp_is_number K)):Cal1 P w K mg base "read_number" ["text", "least", "most"] 3 (sp_read_number K):=by
 refine Cal1.of F mF bF sc_read_number (fun vs H Q E h=>?_) (fun cdv A outer s H vs Q E hr h=>?_)
 ·obtain⟨z,lo,hi,rfl,_⟩:=h;rfl
 obtain⟨z,lo,hi,rfl,zl,q,qe⟩:=h
 refine⟨_,(pss_cons (ps_if (PW.pt (pw_or (pt_not (pt_val (pcl C_is_number (hr.mono (by decide)) (pa_cons (pv 0) pa_nil stx_Name)))) (pw_or1 (pt_not (pt_chain op_le op_le (pv 1) (pe_callTy call_intS rfl T.int bt_int (pa_cons (pv 0) pa_nil stx_Name)) (pv 2)))))) (pss_one (ps_raise0 (k:=0) throws_def XE_NoText.cls (hr.mono (by decide)) rfl XE_NoText.mg)) pss_nil)
   (pss_one (ps_ret (pe_callTy call_intS rfl T.int bt_int (pa_cons (pv 0) pa_nil stx_Name))))),?_⟩
 rw[st_read_number]
 walk_at"rd"
 refine⟨z,rfl,zl,fun H1 s1=>?_⟩
 cases b:isNumB z with
 | false =>
  walk_at"rd"
  exact qe (by unfold rdNum;rw[if_neg (by rw[b];simp)]) _ _ XE_NoText.nm s1
 | true =>
  have bb:=b
  unfold isNumB at bb
  simp only[Bool.and_eq_true,decide_eq_true_eq]at bb
  have e:=numOf_dig bb.1.1.1 bb.1.1.2 bb.1.2
  have zl2:z.length≤640:=Nat.le_trans bb.1.1.2 (by decide)
  walk_at"rd"
  refine⟨_,_,rfl,e,zl2,?_⟩
  walk_at"rd"
  by_cases c1:lo≤numOf z
  ·rw[decide_eq_true c1]
   walk_at"rd"
   by_cases c2:numOf z≤hi
   ·rw[decide_eq_true c2]
    walk_at"rd"
    refine⟨_,_,rfl,e,zl2,?_⟩
    walk_at"rd"
    exact q _ H1 (by unfold rdNum;rw[if_pos ⟨b,c1,c2⟩]) s1
   ·rw[decide_eq_false c2]
    walk_at"rd"
    exact qe (by unfold rdNum;rw[if_neg (fun h=>c2 h.2.2)]) _ _ XE_NoText.nm s1
  ·rw[decide_eq_false c1]
   walk_at"rd"
   exact qe (by unfold rdNum;rw[if_neg (fun h=>c1 h.2.1)]) _ _ XE_NoText.nm s1
theorem ok_is_number {f:Addr}{fd:FuncData}(F:Fun K "is_number" "is_number" s_is_number f fd) (mF:mg "is_number" = some (.ref f)) (bF:Binds K fd ["text"] []) (T:Bl mg)  : Cal P w K mg base "is_number" ["text"] 1 (sp_is_number K):=by
 refine Cal.of F mF bF sc_is_number (fun vs H Q E h=>?_) (fun cdv A outer s H vs Q E hr h=>?_)
 ·obtain⟨m,rfl,_⟩:=h;rfl
 obtain⟨z,rfl,zl,q⟩:=h
 refine⟨_,(pss_cons (ps_if (PW.pt (pw_or (pt_not (pt_chain op_le op_le pe_int (pe_callB call_lenS rfl T.len bt_len (pa_cons (pv 0) pa_nil stx_Name)) (pe_gint rfl T.c_MOST_FIGURES))) (pw_or1 (pt_not (pt_val (pe_callB (call_allL rfl) rfl T.all bt_all (pa_cons (pe_comp rfl (blkOk (sc:=defScope s_is_number) (N:=["text"]) (vs:=["sign"]) (fs:=[]) (js:=[]) (by decide +kernel) rfl rfl) (pi_str (pv 0)) (fun _ _ _ _=>pg_name (i:=0) (show(["sign"]:List Str).Nodup by decide +kernel) rfl (Or.inl rfl)) (fun _ _ _ _=>pif0) (fun _ _ _ _=>(pe_chain op_le_str op_le_str pe_str (pv 0) pe_str))) pa_nil stx_ListComp))))))) (pss_one (ps_ret pe_bl)) pss_nil)
   (pss_one (ps_ret (pe_or (pe_cmpR op_eq (pv 0) pe_str (nomark _)) (pe_one (pe_cmpR op_ne (pe_ix ix_str (pv 0) pe_int (fun _ _=>rfl)) pe_str (nomark _))))))),?_⟩
 rw[st_is_number]
 have no:(¬(1≤z.length∧z.length≤30∧digB z=true))→isNumB z=false:=fun h=>by
  unfold isNumB
  rcases Classical.em (1≤z.length) with a|a
  ·rcases Classical.em (z.length≤30) with b|b
   ·have:digB z=false:=by cases e:digB z;rfl;exact absurd ⟨a,b,e⟩ h
    rw[this];simp
   ·rw[decide_eq_false b];simp
  ·rw[decide_eq_false a];simp
 walk_at"rd"
 refine rd_lenS zl ?_
 walk_at"rd"
 refine rd_if (fun c1=>?_) (fun c1=>?_)
 ·walk_at"rd"
  by_cases c2:(z.length:Int)≤30
  ·rw[decide_eq_true c2]
   walk_at"rd"
   refine⟨_,rfl,fun D nD=>?_⟩
   refine comp_str (fun i σ' ys H'=>(∃x,σ'=[x])∧i≤z.length∧ys =((z.cps.toList.take i).map fun c=>V.bl (decide (48≤c) && decide (c≤57)))∧Same H H'∧H' D=some (.lst ys)) D ?_ ?_ ?_
   ·exact⟨⟨_,rfl⟩,Nat.zero_le _,rfl,same_new nD _,upd_same⟩
   ·rintro i c σ' ys H' hi ⟨⟨y,rfl⟩,il,rfl,g1,g2⟩
    have il2:i<z.length:=(Array.getElem?_eq_some_iff.mp hi).1
    have hc:z.cps.toList[i]? = some c:=by rw[Array.getElem?_toList];exact hi
    have key:∀b,b =(decide (48≤c) && decide (c≤57))→H' D=some (.lst ((z.cps.toList.take i).map fun c=>V.bl (decide (48≤c) && decide (c≤57))))∧((z.cps.toList.take i).map fun c=>V.bl (decide (48≤c) && decide (c≤57))).length<sizeLine∧(∃x,[some (V.str ⟨#[c]⟩)]=[x])∧i+1≤z.length∧((z.cps.toList.take i).map fun c=>V.bl (decide (48≤c) && decide (c≤57))) ++ [V.bl b] =((z.cps.toList.take (i+1)).map fun c=>V.bl (decide (48≤c) && decide (c≤57)))∧Same H (upd H' D (.lst (((z.cps.toList.take i).map fun c=>V.bl (decide (48≤c) && decide (c≤57))) ++ [V.bl b])))∧upd H' D (.lst (((z.cps.toList.take i).map fun c=>V.bl (decide (48≤c) && decide (c≤57))) ++ [V.bl b])) D=some (.lst (((z.cps.toList.take i).map fun c=>V.bl (decide (48≤c) && decide (c≤57))) ++ [V.bl b])):=by
     rintro b rfl
     refine⟨g2,by rw[List.length_map,List.length_take];exact small1000 (by omega),⟨_,rfl⟩,by omega,by rw[take_get hc,List.map_append];rfl,fun b o e=>?_,upd_same⟩
     rw[upd_ne (ne_of_none e nD)];exact g1 _ _ e
    have dc:=dig_c c
    walk_at"rd"
    rw[show((⟨#[c]⟩ : Str).cps.toList)=[c] from rfl,show((Str.ofString "0").cps.toList)=[48] by decide +kernel]
    cases a1:(!decide ([c] < [48])) with
    | false =>
     rw[a1]at dc
     walk_at"rd"
     exact key false dc
    | true =>
     rw[a1]at dc
     walk_at"rd"
     rw[show((⟨#[c]⟩ : Str).cps.toList)=[c] from rfl,show((Str.ofString "9").cps.toList)=[57] by decide +kernel]
     exact key _ dc
   ·rintro σ' ys H' ⟨⟨y,rfl⟩,_,rfl,g1,g2⟩
    walk_at"rd"
    rw[show z.cps.size=z.cps.toList.length from(Array.length_toList).symm,List.take_length]at g2
    refine rd_allL (bs:=z.cps.toList.map fun c=>decide (48≤c) && decide (c≤57)) (by rw[List.map_map];exact SqL.of g2) ?_
    rw[show(z.cps.toList.map fun c=>decide (48≤c) && decide (c≤57)).all id=digB z by unfold digB;rw[List.all_map];rfl]
    cases db:digB z with
    | false =>
     walk_at"rd"
     rw[← no (fun h=>by rw[db]at h;cases h.2.2)]
     exact q H' g1
    | true =>
     have e0:isNumB z =(decide (z=Str.ofString "0") || !decide (z.cps.toList[0]? = some 48)):=by
      unfold isNumB
      rw[db,decide_eq_true (by omega:1≤z.length),decide_eq_true (by omega:z.length≤30)];rfl
     walk_at"rd"
     refine rd_eqZ ?_
     walk_at"rd"
     refine rd_if (fun c=>?_) (fun c=>?_)
     ·have:=q H' g1
      rw[e0,decide_eq_true c]at this
      exact this
     ·rw[decide_eq_false c]at e0
      obtain⟨x,hx⟩ : ∃x,z.cps.toList[0]? = some x:=⟨_,List.getElem?_eq_getElem (by rw[Array.length_toList];show 0<z.length;omega)⟩
      walk_at"rd"
      refine rd_ixS zl (atI_nat (j:=0) hx) ?_
      refine rd_neZ ?_
      have:=q H' g1
      rw[e0,hx]at this
      have ex:decide (some x=some 48)=decide ((⟨#[x]⟩ : Str)=Str.ofString "0"):=by
       rw[Bool.eq_iff_iff]
       simp only[decide_eq_true_eq,Option.some.injEq]
       constructor
       ·rintro rfl;decide
       ·intro e
        have h3:=congrArg (fun z:Str=>z.cps.toList[0]?) e
        exact Option.some.inj (h3.trans (by decide))
      rw[ex]at this
      exact this
  ·rw[decide_eq_false c2]
   walk_at"rd"
   rw[← no (fun h=>c2 (by omega))]
   exact q H (fun _ _ e=>e)
 ·walk_at"rd"
  rw[← no (fun h=>c1 (by omega))]
  exact q H (fun _ _ e=>e)
theorem ok_ask_text {f:Addr}{fd:FuncData}(F:Fun K "ask_text" "ask_text" s_ask_text f fd) (mF:mg "ask_text" = some (.ref f)) (bF:Binds K fd ["thing"] []) (T:Bl mg) {TE:Addr}  {CE_NoText:Addr}(XE_NoText:XTxt0 K mg "NoText" CE_NoText TE)   : Cal1 P w K mg base "ask_text" ["thing"] 3 (sp_ask_text K):=by
 refine Cal1.of F mF bF sc_ask_text (fun vs H Q E h=>?_) (fun cdv A outer s H vs Q E hr h=>?_)
 ·rcases h with⟨z,rfl,_⟩|⟨v,rfl,_⟩ <;> rfl
 refine⟨_,(pss_one (ps_if (pt_not (pt_val (pe_callB call_isinst rfl T.isinstance bt_isinstance (pa_cons (pv 0) (pa_cons (pe_bltn (v:=.ty "str") rfl T.str bt_str rfl) pa_nil stx_Name) stx_Name)))) (pss_one (ps_raise0 (k:=0) throws_def XE_NoText.cls (hr.mono (by decide)) rfl XE_NoText.mg)) pss_nil)),?_⟩
 rcases h with⟨z,rfl,q⟩|⟨v,rfl,⟨t,ty,k⟩,q⟩
 ·rw[st_ask_text]
  walk_at"rd"
  refine rd_isi (.str z) (b:=true) rfl ?_
  walk_at"rd"
  exact q
 ·rw[st_ask_text]
  walk_at"rd"
  refine rd_isi ty k ?_
  walk_at"rd"
  exact q _ _ XE_NoText.nm (fun _ _ e=>e)
theorem ok__law_open {f:Addr}{fd:FuncData}(F:Fun K "_law_open" "_law_open" s__law_open f fd) (mF:mg "_law_open" = some (.ref f)) (bF:Binds K fd ["_law_script", "_law_place"] []) (T:Bl mg)  : Cal P w K mg base "_law_open" ["_law_script", "_law_place"] 1 (sp__law_open K):=by
 refine Cal.of F mF bF sc__law_open (fun vs H Q E h=>?_) (fun cdv A outer s H vs Q E hr h=>?_)
 ·obtain⟨a,ns,pl,rfl,_⟩:=h;rfl
 obtain⟨a,ns,pl,rfl,hS,hlen,h0,h1,q⟩:=h
 have hu:=hr.units
 refine⟨_,(pss_cons (ps_setc (i:=2) sc__law_open.nd rfl rfl rfl (blkOk (sc:=defScope s__law_open) (N:=["_law_script", "_law_place", "_law_cells", "_law_at", "_law_digits"]) (vs:=["_law_cell"]) (fs:=[]) (js:=[]) (by decide +kernel) rfl rfl) (pi_list (pe_slice sl_list (pv 0) po_none (po_some pe_int))) (fun _ _ _ _=>pg_name (i:=0) (show(["_law_cell"]:List Str).Nodup by decide +kernel) rfl (Or.inl rfl)) (fun _ _ _ _=>pif0) (fun _ _ _ _=>(pe_callB call_abs1 rfl T.abs bt_abs (pa_cons (pv 0) pa_nil stx_Name))))
   (pss_cons (ps_cut (ps_if (pt_cmpR (op_eqD hu) (pv 2) (pe_lst pa_nil) (nomark _)) (pss_one (ps_set (i:=2) sc__law_open.nd rfl (Or.inl rfl) (pe_lst (pa_cons pe_int pa_nil stx_Constant)))) pss_nil))
   (pss_cons (ps_set (i:=3) sc__law_open.nd rfl (Or.inl rfl) (pe_op op_mod (pv 1) (pe_callB call_lenL rfl T.len bt_len (pa_cons (pv 2) pa_nil stx_Name))))
   (pss_cons (ps_set (i:=4) sc__law_open.nd rfl (Or.inl rfl) pe_int)
   (pss_cons (ps_cut (ps_if (PW.pt (pw_and (pt_cmpR op_ge (pe_ix ix_list (pv 2) (pv 3) (fun _ _=>rfl)) (pe_powC (c:=1000000000000000000) (by decide +kernel) ⟨by decide,by decide,by decide⟩) (nomark _)) (pw_and1 (pt_cmpR op_lt (pv 1) (pe_callB call_lenL rfl T.len bt_len (pa_cons (pv 2) pa_nil stx_Name)) (nomark _))))) (pss_one (ps_set (i:=4) sc__law_open.nd rfl (Or.inl rfl) (pe_ix ix_list (pv 2) (pv 3) (fun _ _=>rfl)))) pss_nil))
   (pss_one (ps_ret (pe_lst (pa_cons (pv 4) (pa_cons (pe_op op_add pe_int (pe_op op_mul pe_int (pv 1))) (pa_cons (pe_op op_cat (pe_slice sl_list (pv 2) (po_some (pv 3)) po_none) (pe_slice sl_list (pv 2) po_none (po_some (pv 3)))) pa_nil stx_BinOp) stx_BinOp) stx_Name))))))))),?_⟩
 rw[st__law_open]
 walk_at"rd"
 refine rd_slL hS fun p1 n1=>?_
 have hcut:cutV (ns.map V.int) none (some 63)=ns.map V.int:=by
  have:=cut_hi (ms:=ns) (k:=63)
  rw[List.take_of_length_le hlen]at this
  exact this
 rw[hcut]
 have s1:=same_new n1 (.lst (ns.map V.int))
 have hp1:(upd H p1 (.lst (ns.map V.int))) p1=some (.lst (ns.map V.int)):=upd_same
 generalize upd H p1 (.lst (ns.map V.int))=H1 at s1 hp1 ⊢
 refine⟨p1,rfl,⟨_,SqL.of hp1⟩,fun D nD=>?_⟩
 have nD0:H D=none:=s1.free nD
 have npD:p1≠D:=ne_of_none hp1 nD
 refine comp_list (xs:=ns.map V.int) (fun i σ' ys H'=>(∃x,σ'=[x])∧(∃ms:List Int,ys=ms.map V.int∧ms.length=i)∧Same H H'∧H' p1=some (.lst (ns.map V.int))∧H' D=some (.lst ys)) D ?_ (fun i σ' ys H' _ h=>SqL.of h.2.2.2.1) ?_ ?_
 ·exact⟨⟨_,rfl⟩,⟨[],rfl,rfl⟩,s1.trans (same_new nD _),by rw[upd_ne npD];exact hp1,upd_same⟩
 ·rintro i x σ' ys H' hx ⟨⟨y,rfl⟩,⟨ms,rfl,hms⟩,g1,g2,g3⟩
  have hil:i <(ns.map V.int).length:=(List.getElem?_eq_some_iff.mp hx).1
  rw[List.length_map]at hil
  obtain⟨z,rfl⟩ : ∃z,x=V.int z:=by
   rw[List.getElem?_map]at hx
   cases e:ns[i]? with
   | none=>rw[e]at hx;cases hx
   | some z=>rw[e]at hx;exact⟨z,(Option.some.inj hx).symm⟩
  walk_at"rd"
  refine⟨g3,by rw[List.length_map];exact small1000 (by omega),⟨_,rfl⟩,⟨ms ++ [_],(by rw[List.map_append];rfl),by rw[List.length_append,hms];rfl⟩,fun b o e=>?_,?_,upd_same⟩
  ·rw[upd_ne (ne_of_none e nD0)];exact g1 _ _ e
  ·rw[upd_ne npD];exact g2
 ·rintro σ' ys H' ⟨⟨y,rfl⟩,⟨ms,rfl,hms⟩,g1,g2,g3⟩
  walk_at"rd"
  refine⟨fun σ H2=>∃C ms,σ=[some (.ref a),some (.int pl),some (.ref C),none,none]∧ms ≠ []∧ms.length≤63∧H2 C=some (.lst (List.map V.int ms))∧Same H H2,?_,?_⟩
  ·walk_at"rd"
   refine⟨by decide,fun p2 n2=>?_⟩
   refine⟨.list (ms.map PyData.int),.list [],DV.lst (SqL.of (by rw[upd_ne (ne_of_none g3 n2)];exact g3)) (DVs.ints ms),DV.lst (SqL.of upd_same) .nil,shaped_ints ms,rfl,?_⟩
   have e:PyData.eqv (.list (ms.map PyData.int)) (.list [])=decide (ms=[]):=by
    have:=eqv_ints ms []
    rw[← this,PyData.eqv];rfl
   rw[e]
   have s2:=g1.trans (same_new n2 (.lst []))
   have g32:(upd H' p2 (.lst [])) D=some (.lst (ms.map V.int)):=by rw[upd_ne (ne_of_none g3 n2)];exact g3
   generalize upd H' p2 (.lst [])=H2 at s2 g32 ⊢
   walk_at"rd"
   refine rd_if (fun h=>?_) (fun h=>?_)
   ·walk_at"rd"
    refine⟨by decide,fun p3 n3=>?_⟩
    walk_at"rd"
    exact⟨p3,[0],rfl,by simp,by simp,upd_same,s2.trans (same_new n3 _)⟩
   ·walk_at"rd"
    exact⟨D,ms,rfl,h,by rw[hms,List.length_map];exact hlen,g32,s2⟩
  ·rintro σ H2 ⟨C,ms,rfl,hne,hml,hC,s2⟩
   have hnl:=len_pos hne
   obtain⟨v,hv⟩:=nsMod hne pl
   walk_at"rd"
   refine⟨fun σ H3=>H3=H2∧∃d,σ=[some (.ref a),some (.int pl),some (.ref C),some (.int (pl%((ms.map V.int).length:Int))),some (.int d)],?_,?_⟩
   ·walk_at"rd"
    refine rd_ixL (SqL.of hC) hv ?_
    walk_at"rd"
    refine rd_if (fun h=>?_) (fun h=>?_)
    ·walk_at"rd"
     refine rd_if (fun h=>?_) (fun h=>?_)
     ·walk_at"rd"
      refine rd_ixL (SqL.of hC) hv ?_
      walk_at"rd"
      exact⟨rfl,_,rfl⟩
     ·walk_at"rd"
      exact⟨rfl,_,rfl⟩
    ·walk_at"rd"
     exact⟨rfl,_,rfl⟩
   ·rintro σ H3 ⟨rfl,d,rfl⟩
    obtain⟨k,hk,hk2⟩ : ∃k:Nat,pl%((ms.map V.int).length:Int) =(k:Int)∧k<ms.length:=by
     have z0:=Int.emod_nonneg pl (show((ms.map V.int).length:Int)≠0 by omega)
     have z1:=Int.emod_lt_of_pos pl hnl
     rw[List.length_map]at z0 z1 ⊢
     exact⟨(pl%(ms.length:Int)).toNat,by omega,by omega⟩
    rw[hk]
    walk_at"rd"
    refine rd_slL (SqL.of hC) fun p4 n4=>?_
    walk_at"rd"
    have hC4:(upd H3 p4 (.lst (cutV (ms.map V.int) (some (k:Int)) none))) C=some (.lst (ms.map V.int)):=by rw[upd_ne (ne_of_none hC n4)];exact hC
    refine rd_slL (SqL.of hC4) fun p5 n5=>?_
    rw[cut_lo,cut_hi]
    rw[cut_lo]at hC4 n5
    have s4:=s2.trans (same_new n4 (.lst ((ms.drop k).map V.int)))
    have hp4:(upd H3 p4 (.lst ((ms.drop k).map V.int))) p4=some (.lst ((ms.drop k).map V.int)):=upd_same
    generalize upd H3 p4 (.lst ((ms.drop k).map V.int))=H4 at s4 hp4 hC4 n5 ⊢
    have s5:=s4.trans (same_new n5 (.lst ((ms.take k).map V.int)))
    have hp5:(upd H4 p5 (.lst ((ms.take k).map V.int))) p5=some (.lst ((ms.take k).map V.int)):=upd_same
    have hp45:(upd H4 p5 (.lst ((ms.take k).map V.int))) p4=some (.lst ((ms.drop k).map V.int)):=by rw[upd_ne (ne_of_none hp4 n5)];exact hp4
    generalize upd H4 p5 (.lst ((ms.take k).map V.int))=H5 at s5 hp5 hp45 ⊢
    refine⟨p4,p5,_,_,rfl,rfl,hp45,hp5,(by rw[List.length_map,List.length_map,List.length_drop,List.length_take];exact Nat.le_of_lt (small1000 (by omega))),fun p6 n6=>?_⟩
    walk_at"rd"
    refine⟨(by show 3≤sizeLine;decide),fun p7 n7=>?_⟩
    have s6:=s5.trans (same_new n6 (.lst ((ms.drop k).map V.int++(ms.take k).map V.int)))
    refine q p7 _ (s6.free n7) (s6.trans (same_new n7 _)) ⟨p6,d,1+1009*pl,ms.drop k++ms.take k,upd_same,?_,by omega,by omega,?_⟩
    ·rw[upd_ne (ne_of_none upd_same n7),upd_same,List.map_append]
    ·intro e
     have:=congrArg List.length e
     rw[List.length_append,List.length_drop]at this
     simp at this
     omega
theorem ok__law_draw {f:Addr}{fd:FuncData}(F:Fun K "_law_draw" "_law_draw" s__law_draw f fd) (mF:mg "_law_draw" = some (.ref f)) (bF:Binds K fd ["_law_hand", "_law_many"] []) (T:Bl mg)  : Cal P w K mg base "_law_draw" ["_law_hand", "_law_many"] 1 (sp__law_draw K):=by
 refine Cal.of F mF bF sc__law_draw (fun vs H Q E h=>?_) (fun cdv A outer s H vs Q E hr h=>?_)
 ·obtain⟨p,N,n,rfl,_⟩:=h;rfl
 obtain⟨p,N,n,rfl,hh,hN,hn,hn2,q⟩:=h
 obtain⟨l,d,c,ns,hp,hl,hc0,hcN,hns⟩:=hh.ex
 have npl:l≠p:=hand_ne hp hl
 have hnl:=len_pos hns
 refine⟨_,(pss_cons (ps_if (pt_cmpR op_gt (pe_ix ix_list (pv 0) pe_int (fun _ _=>rfl)) pe_int (nomark _)) (pss_cons (ps_set (i:=2) sc__law_draw.nd rfl (Or.inl rfl) (pe_op op_mod (pe_ix ix_list (pv 0) pe_int (fun _ _=>rfl)) (pv 1)))
   (pss_cons (ps_asg (pe_op op_fdivB (pe_ix ix_list (pv 0) pe_int (fun _ _=>rfl)) (pv 1)) (pg_sub (pv 0) pe_int set_list))
   (pss_one (ps_ret (pv 2))))) pss_nil)
   (pss_cons (ps_augS (pv 0) pe_int get_list pe_int ip_add set_list)
   (pss_cons (ps_set (i:=3) sc__law_draw.nd rfl (Or.inl rfl) (pe_ix ix_list (pv 0) pe_int (fun _ _=>rfl)))
   (pss_cons (ps_set (i:=4) sc__law_draw.nd rfl (Or.inl rfl) (pe_op op_mod (pe_op op_add (pe_op op_mod (pe_ix ix_list (pe_ix ix_list (pv 0) pe_int (fun _ _=>rfl)) (pe_op op_mod (pv 3) (pe_callB call_lenL rfl T.len bt_len (pa_cons (pe_ix ix_list (pv 0) pe_int (fun _ _=>rfl)) pa_nil stx_Subscript))) (fun _ _=>rfl)) pe_int) (pe_op op_mul pe_int (pv 3))) pe_int))
   (pss_cons (ps_set (i:=4) sc__law_draw.nd rfl (Or.inl rfl) (pe_op op_mod (pe_op op_add (pe_op op_add (pe_op op_pow (pv 4) pe_int) (pe_op op_mul (pe_op op_mul pe_int (pv 3)) (pv 3))) pe_int) pe_int))
   (pss_cons (ps_set (i:=4) sc__law_draw.nd rfl (Or.inl rfl) (pe_op op_mod (pe_op op_add (pe_op op_mul (pe_op op_pow (pv 4) pe_int) (pe_op op_add (pe_op op_mul pe_int (pv 3)) pe_int)) pe_int) pe_int))
   (pss_one (ps_ret (pe_op op_mod (pe_op op_fdivB (pe_op op_mod (pe_op op_mul (pv 4) pe_int) pe_int) pe_int) (pv 1)))))))))),?_⟩
 rw[st__law_draw]
 walk_at"rd"
 refine rd_if (fun h=>?_) (fun h=>?_)
 ·walk_at"rd"
  refine q _ _ (Int.emod_nonneg _ (by omega)) (Int.emod_lt_of_pos _ hn) ⟨l,d / n,c,ns,upd_same,?_,hc0,by omega,hns⟩ (Kp.hand hp)
  rw[upd_ne npl];exact hl
 ·walk_at"rd"
  have hp1:(upd H p (.lst [V.int d,.int (c+1),.ref l])) p=some (.lst [.int d,.int (c+1),.ref l]):=upd_same
  have hl1:(upd H p (.lst [V.int d,.int (c+1),.ref l])) l=some (.lst (ns.map V.int)):=by rw[upd_ne npl];exact hl
  have k1:Kp H (upd H p (.lst [V.int d,.int (c+1),.ref l])) p:=Kp.hand hp
  generalize upd H p (.lst [V.int d,.int (c+1),.ref l])=H1 at hp1 hl1 k1 ⊢
  walk_at"rd"
  obtain⟨v,hv⟩:=nsMod hns (c+1)
  refine rd_ixL (SqL.of hl1) hv ?_
  walk_at"rd"
  have hn0:n≠0:=by omega
  exact q _ _ (Int.emod_nonneg _ hn0) (Int.emod_lt_of_pos _ hn) ⟨l,d,c+1,ns,hp1,hl1,by omega,by omega,hns⟩ k1
theorem ok__law_far {f:Addr}{fd:FuncData}(F:Fun K "_law_far" "_law_far" s__law_far f fd) (mF:mg "_law_far" = some (.ref f)) (bF:Binds K fd ["_law_hand", "_law_many"] []) (T:Bl mg) (C__law_draw:Cal P w K mg base "_law_draw" ["_law_hand", "_law_many"] 1 (sp__law_draw K)):Cal P w K mg base "_law_far" ["_law_hand", "_law_many"] 2 (sp__law_far K):=by
 refine Cal.of F mF bF sc__law_far (fun vs H Q E h=>?_) (fun cdv A outer s H vs Q E hr h=>?_)
 ·obtain⟨p,N,n,rfl,_⟩:=h;rfl
 obtain⟨p,N,n,rfl,hh,hN,hn,hn2,q⟩:=h
 obtain⟨l,d,c,ns,hp,hl,hc0,hcN,hns⟩:=hh.ex
 refine⟨_,(pss_cons (ps_if (pt_cmpR op_gt (pe_ix ix_list (pv 0) pe_int (fun _ _=>rfl)) pe_int (nomark _)) (pss_one (ps_ret (pcl C__law_draw (hr.mono (by decide)) (pa_cons (pv 0) (pa_cons (pv 1) pa_nil stx_Name) stx_Name)))) pss_nil)
   (pss_cons (ps_set (i:=2) sc__law_far.nd rfl (Or.inl rfl) pe_int)
   (pss_cons (ps_for PassesOwn.never rfl (pi_range1 rfl T.range (pa_cons pe_int pa_nil stx_Constant)) (pg_name (i:=3) sc__law_far.nd rfl (Or.inl rfl)) (pss_one (ps_set (i:=2) sc__law_far.nd rfl (Or.inl rfl) (pe_op op_add (pe_op op_mul (pv 2) (pe_powC (c:=1000000) (by decide +kernel) ⟨by decide,by decide,by decide⟩)) (pcl C__law_draw (hr.mono (by decide)) (pa_cons (pv 0) (pa_cons (pe_powC (c:=1000000) (by decide +kernel) ⟨by decide,by decide,by decide⟩) pa_nil stx_BinOp) stx_Name))))))
   (pss_one (ps_ret (pe_op op_mod (pv 2) (pv 1))))))),?_⟩
 rw[st__law_far]
 walk_at"rd"
 refine rd_if (fun h=>?_) (fun h=>?_)
 ·walk_at"rd"
  exact⟨p,N,n,rfl,hh,by omega,hn,hn2,fun r H' h0 h1 h2 h3=>q r H' h0 h1 (h2.mono (by omega)) h3⟩
 ·walk_at"rd"
  refine⟨7,rfl,by omega,by omega,?_⟩
  refine for_rangeO (n:=7) (fun i σ H'=>(∃v x,σ=[some (.ref p),some (.int n),some (.int v),x])∧Hand H' p (N+i)∧Kp H H' p∧i≤7) ⟨⟨_,_,rfl⟩,hh,Kp.refl _ _,by omega⟩ ?_ ?_
  ·rintro i σ H' hi ⟨⟨v,x,rfl⟩,h1,h2,h3⟩
   walk_at"rd"
   exact⟨p,N+i,_,rfl,h1,by omega,by decide,by decide,fun r H2 h0 h4 h5 h6=>by
    walk_at"rd"
    exact⟨⟨_,_,rfl⟩,h5,h2.trans h6,by omega⟩⟩
  ·rintro σ H' ⟨⟨v,x,rfl⟩,h1,h2,h3⟩
   walk_at"rd"
   exact q _ _ (Int.emod_nonneg _ (by omega)) (Int.emod_lt_of_pos _ hn) h1 h2
theorem ok__law_power {f:Addr}{fd:FuncData}(F:Fun K "_law_power" "_law_power" s__law_power f fd) (mF:mg "_law_power" = some (.ref f)) (bF:Binds K fd ["_law_many"] []) (T:Bl mg)  : Cal P w K mg base "_law_power" ["_law_many"] 1 (sp__law_power K):=by
 refine Cal.of F mF bF sc__law_power (fun vs H Q E h=>?_) (fun cdv A outer s H vs Q E hr h=>?_)
 ·obtain⟨m,rfl,_⟩:=h;rfl
 obtain⟨m,rfl,hm,q⟩:=h
 refine⟨_,(pss_cons (ps_set (i:=1) sc__law_power.nd rfl (Or.inl rfl) pe_int)
   (pss_cons (ps_for PassesOwn.never rfl (pi_range1 rfl T.range (pa_cons (pv 0) pa_nil stx_Name)) (pg_name (i:=2) sc__law_power.nd rfl (Or.inl rfl)) (pss_one (ps_set (i:=1) sc__law_power.nd rfl (Or.inl rfl) (pe_op op_mul (pv 1) pe_int))))
   (pss_one (ps_ret (pv 1))))),?_⟩
 rw[st__law_power]
 walk_at"rd"
 refine⟨(m:Int),rfl,by omega,by omega,?_⟩
 rw[show((m:Int)).toNat=m from by omega]
 refine for_rangeO (n:=m) (fun i σ H'=>(∃x,σ=[some (.int m),some (.int (2^i)),x])∧H'=H) ⟨⟨_,rfl⟩,rfl⟩ ?_ ?_
 ·rintro i σ H' hi ⟨⟨x,rfl⟩,rfl⟩
  walk_at"rd"
  exact⟨⟨_,by rw[Int.pow_succ]⟩,rfl⟩
 ·rintro σ H' ⟨⟨x,rfl⟩,rfl⟩
  walk_at"rd"
  exact q
theorem ok__law_key {f:Addr}{fd:FuncData}(F:Fun K "_law_key" "_law_key" s__law_key f fd) (mF:mg "_law_key" = some (.ref f)) (bF:Binds K fd ["_law_hand"] []) (T:Bl mg) (C__law_draw:Cal P w K mg base "_law_draw" ["_law_hand", "_law_many"] 1 (sp__law_draw K)) (C__law_far:Cal P w K mg base "_law_far" ["_law_hand", "_law_many"] 2 (sp__law_far K)) (C__law_power:Cal P w K mg base "_law_power" ["_law_many"] 1 (sp__law_power K)):Cal P w K mg base "_law_key" ["_law_hand"] 3 (sp__law_key K):=by
 refine Cal.of F mF bF sc__law_key (fun vs H Q E h=>?_) (fun cdv A outer s H vs Q E hr h=>?_)
 ·obtain⟨p,N,rfl,_⟩:=h;rfl
 obtain⟨p,N,rfl,hh,hN,q⟩:=h
 refine⟨_,(pss_cons (ps_set (i:=1) sc__law_key.nd rfl (Or.inl rfl) (pcl C__law_draw (hr.mono (by decide)) (pa_cons (pv 0) (pa_cons pe_int pa_nil stx_Constant) stx_Name)))
   (pss_cons (ps_set (i:=2) sc__law_key.nd rfl (Or.inl rfl) (pcl C__law_draw (hr.mono (by decide)) (pa_cons (pv 0) (pa_cons (pe_ix ix_list (pe_lst (pa_cons pe_int (pa_cons pe_int (pa_cons pe_int pa_nil stx_Constant) stx_Constant) stx_Constant)) (pcl C__law_draw (hr.mono (by decide)) (pa_cons (pv 0) (pa_cons pe_int pa_nil stx_Constant) stx_Name)) (fun _ _=>rfl)) pa_nil stx_Subscript) stx_Name)))
   (pss_cons (ps_if (pt_cmpR op_lt (pv 1) pe_int (nomark _)) (pss_one (ps_ret (pv 2))) pss_nil)
   (pss_cons (ps_if (pt_cmpR op_eq (pv 1) pe_int (nomark _)) (pss_one (ps_ret (pe_op op_sub (pe_op op_sub (pe_powC (c:=1152921504606846976) (by decide +kernel) ⟨by decide,by decide,by decide⟩) pe_int) (pv 2)))) pss_nil)
   (pss_cons (ps_if (pt_cmpR op_eq (pv 1) pe_int (nomark _)) (pss_one (ps_ret (pe_op op_add (pv 2) (pcl C__law_power (hr.mono (by decide)) (pa_cons (pe_op op_add pe_int (pcl C__law_draw (hr.mono (by decide)) (pa_cons (pv 0) (pa_cons pe_int pa_nil stx_Constant) stx_Name))) pa_nil stx_BinOp))))) pss_nil)
   (pss_cons (ps_if (pt_cmpR op_eq (pv 1) pe_int (nomark _)) (pss_one (ps_ret (pe_op op_add (pe_op op_mod (pv 2) pe_int) (pe_op op_mul pe_int (pcl C__law_far (hr.mono (by decide)) (pa_cons (pv 0) (pa_cons (pe_powC (c:=72057594037927936) (by decide +kernel) ⟨by decide,by decide,by decide⟩) pa_nil stx_BinOp) stx_Name)))))) pss_nil)
   (pss_one (ps_ret (pcl C__law_far (hr.mono (by decide)) (pa_cons (pv 0) (pa_cons (pe_powC (c:=1152921504606846976) (by decide +kernel) ⟨by decide,by decide,by decide⟩) pa_nil stx_BinOp) stx_Name)))))))))),?_⟩
 rw[st__law_key]
 walk_at"rd"
 refine⟨p,N,7,rfl,hh,by omega,by decide,by decide,fun way H1 w0 w1 hh1 k1=>?_⟩
 walk_at"rd"
 refine⟨(by show 3≤sizeLine;decide),fun l nl=>?_⟩
 walk_at"rd"
 have k2:=k1.trans (Kp.of (same_new nl (.lst [V.int 4,V.int 16,V.int 200])) hh1)
 have hh2:=hh1.same (same_new nl (.lst [V.int 4,V.int 16,V.int 200]))
 have hl:(upd H1 l (.lst [V.int 4,V.int 16,V.int 200])) l=some (.lst [V.int 4,V.int 16,V.int 200]):=upd_same
 have nlp:l≠p:=by
  obtain⟨l1,d,c,ns,h1,_⟩:=hh1.ex
  exact(ne_of_none h1 nl).symm
 generalize upd H1 l (.lst [V.int 4,V.int 16,V.int 200])=H2 at k2 hh2 hl ⊢
 refine⟨p,N+1,3,rfl,hh2,by omega,by decide,by decide,fun r H3 r0 r1 hh3 k3=>?_⟩
 have hl3:=k3.1 _ _ hl nlp
 obtain⟨b,hb,b0,b1⟩ : ∃b:Int,atI [V.int 4,V.int 16,V.int 200] r=some (.int b)∧0<b∧b≤200:=by
  have:r=0∨r=1∨r=2:=by omega
  rcases this with rfl|rfl|rfl
  ·exact⟨4,rfl,by decide,by decide⟩
  ·exact⟨16,rfl,by decide,by decide⟩
  ·exact⟨200,rfl,by decide,by decide⟩
 refine rd_ixL (SqL.of hl3) hb ?_
 walk_at"rd"
 refine⟨p,N+1+1,b,rfl,hh3,by omega,b0,by omega,fun low H4 l0 l1 hh4 k4=>?_⟩
 have k5:=(k2.trans k3).trans k4
 walk_at"rd"
 refine rd_if (fun c1=>?_) (fun c1=>?_)
 ·walk_at"rd"
  exact q _ _ l0 (by omega) (hh4.mono (by omega)) k5
 walk_at"rd"
 refine rd_if (fun c2=>?_) (fun c2=>?_)
 ·walk_at"rd"
  exact q _ _ (by omega) (by omega) (hh4.mono (by omega)) k5
 walk_at"rd"
 refine rd_if (fun c3=>?_) (fun c3=>?_)
 ·walk_at"rd"
  refine⟨p,N+1+1+1,52,rfl,hh4,by omega,by decide,by decide,fun e H5 e0 e1 hh5 k6=>?_⟩
  walk_at"rd"
  obtain⟨m,rfl⟩ : ∃m:Nat,e =(m:Int):=⟨e.toNat,by omega⟩
  refine⟨8+m,(by show [V.int (8+(m:Int))]=[V.int ((8+m:Nat):Int)];rw[show(8+(m:Int)) =((8+m:Nat):Int) by omega]),by omega,?_⟩
  walk_at"rd"
  have h1:(2:Int)^(8+m)≤2^59:=pow2_le (by omega)
  have h2:(0:Int)<2^(8+m):=Int.pow_pos (by decide)
  have h3:(2:Int)^59=576460752303423488:=by decide
  exact q _ _ (by omega) (by omega) (hh5.mono (by omega)) (k5.trans k6)
 walk_at"rd"
 refine rd_if (fun c4=>?_) (fun c4=>?_)
 ·walk_at"rd"
  refine⟨p,N+1+1+1,_,rfl,hh4,by omega,by decide,by decide,fun e H5 e0 e1 hh5 k6=>?_⟩
  walk_at"rd"
  exact q _ _ (by omega) (by omega) (hh5.mono (by omega)) (k5.trans k6)
 ·walk_at"rd"
  exact⟨p,N+1+1+1,_,rfl,hh4,by omega,by decide,by decide,fun e H5 e0 e1 hh5 k6=>q _ _ e0 e1 (hh5.mono (by omega)) (k5.trans k6)⟩
theorem ok__law_thing {f:Addr} {fd:FuncData} (F:Fun K "_law_thing" "_law_thing" s__law_thing f fd) (mF:mg "_law_thing" = some (.ref f)) (bF:Binds K fd ["_law_hand"] []) (T:Bl mg) (C__law_draw:Cal P w K mg base "_law_draw" ["_law_hand", "_law_many"] 1 (sp__law_draw K)) : Cal P w K mg base "_law_thing" ["_law_hand"] 2 (sp__law_thing K):=by
  refine Cal.of F mF bF sc__law_thing (fun vs H Q E h=>?_) (fun cdv A outer s H vs Q E hr h=>?_)
  · obtain ⟨p,N,rfl,_⟩:=h; rfl
  obtain ⟨p,N,rfl,hh,hN,q⟩:=h
  refine ⟨_,(pss_cons (ps_set (i:=1) sc__law_thing.nd rfl (Or.inr rfl) pe_str)
      (pss_one (ps_ret (pe_bm PySem.F.plainAttrs_str PySem.F.slot_str_join PySem.F.type_str_join mt_join pe_str (pa_cons (pe_comp rfl (blkOk (sc:=defScope s__law_thing) (N:=["_law_hand", "_law_letters"]) (vs:=["_law_k"]) (fs:=["_law_letters", "_law_hand"]) (js:=[1,0]) (by decide +kernel) rfl rfl) (pi_range1 rfl T.range (pa_cons (pe_op op_add pe_int (pcl C__law_draw (hr.mono (by decide)) (pa_cons (pv 0) (pa_cons pe_int pa_nil stx_Constant) stx_Name))) pa_nil stx_BinOp)) (fun _ _ _ _=>pg_name (i:=0) (show (["_law_k", "_law_letters", "_law_hand"] : List Str).Nodup by decide +kernel) rfl (Or.inl rfl)) (fun _ _ _ _=>pif0) (fun _ _ _ _=>(pe_ix ix_str (pv 1) (pcl C__law_draw (hr.mono (by decide)) (pa_cons (pv 2) (pa_cons pe_int pa_nil stx_Constant) stx_Name)) (fun _ _=>rfl)))) pa_nil stx_ListComp))))),?_⟩
  rw [st__law_thing]
  walk_at"rd"
  refine ⟨rfl,?_⟩
  walk_at"rd"
  refine ⟨p,_,8,rfl,hh,by omega,by decide,by decide,fun n H1 n0 n1 hh1 k1=>?_⟩
  walk_at"rd"
  refine ⟨_,rfl,by omega,by omega,fun D nD=>?_⟩
  refine comp_range (n:=(1 + n).toNat) (fun j σ' ys H'=>(∃ x,σ' = [x,some (.str (Str.ofString "abcdefghijklmnopqrstuvwxyz")),some (.ref p)])∧(∃ zs:List Str,ys = zs.map V.str∧zs.length = j∧∀ y ∈ zs,y.length = 1∧∀ c ∈ y.cps,97 ≤ c∧c ≤ 122)∧j ≤ 8∧CK H1 p D (N + 1 + j) ys H') D ⟨⟨_,rfl⟩,⟨[],rfl,rfl,fun _ h=>(by cases h)⟩,by omega,CK.start hh1 nD⟩ ?_ ?_
  · rintro j σ' ys H2 hj ⟨⟨x,rfl⟩,⟨zs,rfl,zl,zc⟩,j8,ck⟩
    walk_at"rd"
    refine ⟨p,_,26,rfl,ck.hh,by omega,by decide,by decide,fun v H3 v0 v1 hh3 k3=>?_⟩
    have ck:=ck.draw k3 hh3
    obtain ⟨c,hc,c1⟩:=let26b v0 v1
    refine rd_ixS (by decide +kernel) hc ?_
    refine ⟨ck.lat,by rw [List.length_map]; exact small1000 (by omega),⟨_,rfl⟩,⟨zs ++ [⟨#[c]⟩],by rw [List.map_append]; rfl,by rw [List.length_append,zl]; rfl,fun y hy=>?_⟩,by omega,ck.push⟩
    rcases List.mem_append.mp hy with h | h
    · exact zc y h
    · have e:y = ⟨#[c]⟩:=by simpa using h
      subst e
      exact ⟨rfl, fun d hd => by have : d = c := by simpa using hd
                                 omega⟩
  · rintro σ' ys H2 ⟨⟨x,rfl⟩,⟨zs,rfl,zl,zc⟩,j8,ck⟩
    walk_at"rd"
    refine ⟨_,D,zs,rfl,rfl,SqL.of ck.lat,?_,?_⟩
    · rw [sum_nm zs zc,show (Str.ofString "").length = 0 by decide]; omega
    obtain ⟨w1,w2⟩:=join_nm zs zc
    rw [joinT]
    exact q _ _ ⟨by rw [w1]; omega,by rw [w1]; omega,w2⟩ (ck.hh.mono (by omega)) (k1.trans ck.kp)
theorem ok__law_row {f:Addr}{fd:FuncData}(F:Fun K "_law_row" "_law_row" s__law_row f fd) (mF:mg "_law_row" = some (.ref f)) (bF:Binds K fd ["_law_hand"] []) (T:Bl mg) (C__law_draw:Cal P w K mg base "_law_draw" ["_law_hand", "_law_many"] 1 (sp__law_draw K)) (C__law_key:Cal P w K mg base "_law_key" ["_law_hand"] 3 (sp__law_key K)) (C__law_thing:Cal P w K mg base "_law_thing" ["_law_hand"] 2 (sp__law_thing K)):Cal P w K mg base "_law_row" ["_law_hand"] 4 (sp__law_row K):=by
 refine Cal.of F mF bF sc__law_row (fun vs H Q E h=>?_) (fun cdv A outer s H vs Q E hr h=>?_)
 ·obtain⟨p,N,rfl,_⟩:=h;rfl
 obtain⟨p,N,rfl,hh,hN,q⟩:=h
 refine⟨_,(pss_cons (ps_set (i:=1) sc__law_row.nd rfl (Or.inl rfl) (pe_lst pa_nil))
   (pss_cons (ps_for PassesOwn.never rfl (pi_range1 rfl T.range (pa_cons (pcl C__law_draw (hr.mono (by decide)) (pa_cons (pv 0) (pa_cons (pe_ix ix_list (pe_lst (pa_cons pe_int (pa_cons pe_int (pa_cons pe_int pa_nil stx_Constant) stx_Constant) stx_Constant)) (pcl C__law_draw (hr.mono (by decide)) (pa_cons (pv 0) (pa_cons pe_int pa_nil stx_Constant) stx_Name)) (fun _ _=>rfl)) pa_nil stx_Subscript) stx_Name)) pa_nil stx_Call)) (pg_name (i:=2) sc__law_row.nd rfl (Or.inl rfl)) (pss_one (ps_expr (pe_bm PySem.F.plainAttrs_list PySem.F.slot_list_append PySem.F.type_list_append mt_append (pv 1) (pa_cons (pe_tup (pa_cons (pcl C__law_key (hr.mono (by decide)) (pa_cons (pv 0) pa_nil stx_Name)) (pa_cons (pcl C__law_thing (hr.mono (by decide)) (pa_cons (pv 0) pa_nil stx_Name)) pa_nil stx_Call) stx_Call)) pa_nil stx_Tuple)))))
   (pss_one (ps_ret (pv 1))))),?_⟩
 rw[st__law_row]
 walk_at"rd"
 refine⟨by decide,fun D nD=>?_⟩
 have ck:=CK.start (ys:=[]) hh nD
 have g:Gw H D 1 [] [] [] (upd H D (.lst [])):=Gw.nil upd_same
 generalize upd H D _=H1 at ck g ⊢
 walk_at"rd"
 refine⟨(by show 3≤sizeLine;decide),fun q1 nq1=>?_⟩
 generalize hE:upd H1 q1 _=H2
 obtain⟨ck,hq1,q1p,q1D⟩:=ck.new nq1 hE
 have g:=g.same (newo nq1 hE).2
 clear hE
 walk_at"rd"
 refine⟨p,_,3,rfl,ck.hh,by omega,by decide,by decide,fun v H3 v0 v1 hh3 k3=>?_⟩
 obtain⟨c,hc,c1,c2⟩:=three_at v0 v1
 have hs:=hand_some hh
 have g:=g.kp ck.hh k3 hs ck.np
 have ck:=ck.draw k3 hh3
 walk_at"rd"
 refine rd_ixL (SqL.of (k3.1 _ _ hq1 q1p)) hc ?_
 walk_at"rd"
 refine⟨p,_,c,rfl,hh3,by omega,by omega,by omega,fun n H4 n0 n1 hh4 k4=>?_⟩
 have g:=g.kp ck.hh k4 hs ck.np
 have ck:=ck.draw k4 hh4
 walk_at"rd"
 obtain⟨nn,rfl⟩ : ∃nn:Nat,n =(nn:Int):=⟨n.toNat,by omega⟩
 refine⟨_,rfl,by omega,by omega,?_⟩
 rw[Int.toNat_natCast]
 refine for_rangeO (n:=nn) (fun i σ H'=>(∃x,σ=[some (.ref p),some (.ref D),x])∧∃(ys:List V) (es:Row) (gs:List (List Addr)),es.length=i∧ys.length=i∧(∀e∈es,okE e)∧CK H p D (N+10+50*i) ys H'∧Gw H D 1 ys (es.map eD) gs H') ⟨⟨_,rfl⟩,[],[],[],rfl,rfl,(fun _ h=>by cases h),⟨ck.hh.mono (by omega),ck.lat,ck.kp,ck.n0,ck.np,ck.nc⟩,g⟩ ?_ ?_
 ·clear g ck
  rintro i σ H5 hi ⟨⟨x1,rfl⟩,ys,es,gs,el,yl,ok,ck,g⟩
  walk_at"rd"
  refine⟨.inl ⟨rfl,_,SqL.of ck.lat⟩,?_⟩
  walk_at"rd"
  refine⟨p,_,rfl,ck.hh,by omega,fun k H6 k0 k1 hh6 k6=>?_⟩
  have g:=g.kp ck.hh k6 hs ck.np
  have ck:=ck.draw k6 hh6
  walk_at"rd"
  refine⟨p,_,rfl,ck.hh,by omega,fun z H7 zn hh7 k7=>?_⟩
  have g:=g.kp ck.hh k7 hs ck.np
  have ck:=ck.draw k7 hh7
  walk_at"rd"
  refine⟨(by show 2≤sizeLine;decide),fun t nt=>?_⟩
  generalize hE:upd H7 t _=H8
  obtain⟨ht,s8⟩:=newo nt hE
  obtain⟨ck,_,tp,tD⟩:=ck.new nt hE
  clear hE
  have oe:okE (k,z):=⟨k0,by simpa using k1,zn⟩
  walk_at"rd"
  refine⟨D,_,_,rfl,rfl,ck.lat,small1000 (by omega),?_⟩
  walk_at"rd"
  refine⟨⟨_,rfl⟩,ys ++ [.ref t],es ++ [(k,z)],gs ++ [[]],by rw[List.length_append,el];rfl,by rw[List.length_append,yl];rfl,fun e he=>?_,?_,?_⟩
  ·rcases List.mem_append.mp he with h|h
   ·exact ok e h
   ·have:e =(k,z):=by simpa using h
    rw[this];exact oe
  ·have:=ck.push (zs:=ys ++ [.ref t])
   exact⟨this.hh.mono (by omega),this.lat,this.kp,this.n0,this.np,this.nc⟩
  ·rw[List.map_append]
   exact g.push (fun b o e _=>s8 _ _ e) (TD.ofEnt (e:=(k,z)) ht (nm_ok zn).1) List.nodup_nil (fun _ h=>by cases h) (fun _ h=>by cases h)
 ·rintro σ H5 ⟨⟨x1,rfl⟩,ys,es,gs,el,yl,ok,ck,g⟩
  obtain⟨td,nd⟩:=g.done (by omega)
  walk_at"rd"
  refine q (.ref D) es _ H5 td ⟨ok,by omega⟩ nd (fun b hb=>?_) (ck.hh.mono (by omega)) ck.kp
  rcases List.mem_cons.mp hb with rfl|hb
  ·exact nD
  ·exact g.fr b hb
theorem ok__law_rows {f:Addr}{fd:FuncData}(F:Fun K "_law_rows" "_law_rows" s__law_rows f fd) (mF:mg "_law_rows" = some (.ref f)) (bF:Binds K fd ["_law_hand", "_law_most"] []) (T:Bl mg) (C__law_draw:Cal P w K mg base "_law_draw" ["_law_hand", "_law_many"] 1 (sp__law_draw K)) (C__law_row:Cal P w K mg base "_law_row" ["_law_hand"] 4 (sp__law_row K)):Cal P w K mg base "_law_rows" ["_law_hand", "_law_most"] 5 (sp__law_rows K):=by
 refine Cal.of F mF bF sc__law_rows (fun vs H Q E h=>?_) (fun cdv A outer s H vs Q E hr h=>?_)
 ·obtain⟨p,N,most,rfl,_⟩:=h;rfl
 obtain⟨p,N,most,rfl,hh,hN,m1,m2,q⟩:=h
 refine⟨_,(pss_cons (ps_set (i:=2) sc__law_rows.nd rfl (Or.inl rfl) (pe_lst pa_nil))
   (pss_cons (ps_for PassesOwn.never rfl (pi_range1 rfl T.range (pa_cons (pcl C__law_draw (hr.mono (by decide)) (pa_cons (pv 0) (pa_cons (pv 1) pa_nil stx_Name) stx_Name)) pa_nil stx_Call)) (pg_name (i:=3) sc__law_rows.nd rfl (Or.inl rfl)) (pss_one (ps_expr (pe_bm PySem.F.plainAttrs_list PySem.F.slot_list_append PySem.F.type_list_append mt_append (pv 2) (pa_cons (pcl C__law_row (hr.mono (by decide)) (pa_cons (pv 0) pa_nil stx_Name)) pa_nil stx_Call)))))
   (pss_one (ps_ret (pv 2))))),?_⟩
 rw[st__law_rows]
 walk_at"rd"
 refine⟨by decide,fun D nD=>?_⟩
 have ck:=CK.start (ys:=[]) hh nD
 have g:Gw H D 2 [] [] [] (upd H D (.lst [])):=Gw.nil upd_same
 generalize upd H D _=H1 at ck g ⊢
 have hs:=hand_some hh
 walk_at"rd"
 refine⟨p,_,most,rfl,ck.hh,by omega,by omega,by omega,fun n H4 n0 n1 hh4 k4=>?_⟩
 have g:=g.kp ck.hh k4 hs ck.np
 have ck:=ck.draw k4 hh4
 walk_at"rd"
 obtain⟨nn,rfl⟩ : ∃nn:Nat,n =(nn:Int):=⟨n.toNat,by omega⟩
 refine⟨_,rfl,by omega,by omega,?_⟩
 rw[Int.toNat_natCast]
 refine for_rangeO (n:=nn) (fun i σ H'=>(∃x,σ=[some (.ref p),some (.int most),some (.ref D),x])∧∃(ys:List V) (rs:List Row) (gs:List (List Addr)),rs.length=i∧ys.length=i∧(∀r∈rs,ok8 r)∧CK H p D (N+10+500*i) ys H'∧Gw H D 2 ys (rs.map rowD) gs H') ⟨⟨_,rfl⟩,[],[],[],rfl,rfl,(fun _ h=>by cases h),⟨ck.hh.mono (by omega),ck.lat,ck.kp,ck.n0,ck.np,ck.nc⟩,g⟩ ?_ ?_
 ·clear g ck
  rintro i σ H5 hi ⟨⟨x1,rfl⟩,ys,rs,gs,el,yl,ok,ck,g⟩
  walk_at"rd"
  refine⟨.inl ⟨rfl,_,SqL.of ck.lat⟩,?_⟩
  walk_at"rd"
  refine⟨p,_,rfl,ck.hh,by omega,fun v es f H6 td oes nf fr hh6 k6=>?_⟩
  have k6':∀b o,H5 b=some o→(b=D∨b∈gs.flatten ∨ ∃xs,o = .tup xs)→H6 b=some o:=fun b o e z=>k6.1 b o e (by
   rintro rfl
   rcases z with z|z|⟨xs,rfl⟩
   ·exact ck.np z.symm
   ·exact hs (g.fr _ z)
   ·obtain⟨l,a,c,ns,h1,_⟩:=ck.hh.ex
    rw[e]at h1;cases h1)
  have lat6:=k6.1 _ _ ck.lat ck.np
  have fr0:∀b∈f,H b=none:=fun b hb=>by
   cases c:H b with
   | none=>rfl
   | some o =>
    by_cases z:b=p
    ·rw[z]at hb;exact absurd (fr p hb) (hand_some ck.hh)
    ·have:=fr b hb;rw[ck.kp.1 _ _ c z]at this;cases this
  have ck':=ck.draw k6 hh6
  walk_at"rd"
  refine⟨D,_,_,rfl,rfl,lat6,small1000 (by omega),?_⟩
  walk_at"rd"
  refine⟨⟨_,rfl⟩,ys ++ [v],rs ++ [es],gs ++ [f],by rw[List.length_append,el];rfl,by rw[List.length_append,yl];rfl,fun e he=>?_,?_,?_⟩
  ·rcases List.mem_append.mp he with h|h
   ·exact ok e h
   ·have:e=es:=by simpa using h
    rw[this];exact oes
  ·have:=ck'.push (zs:=ys ++ [v])
   exact⟨this.hh.mono (by omega),this.lat,this.kp,this.n0,this.np,this.nc⟩
  ·rw[List.map_append]
   exact g.push k6' td nf fr fr0
 ·rintro σ H5 ⟨⟨x1,rfl⟩,ys,rs,gs,el,yl,ok,ck,g⟩
  obtain⟨td,nd⟩:=g.done (by omega)
  walk_at"rd"
  refine q (.ref D) rs _ H5 td ok (by omega) nd (fun b hb=>?_) (ck.hh.mono (by omega)) ck.kp
  rcases List.mem_cons.mp hb with rfl|hb
  ·exact nD
  ·exact g.fr b hb
theorem ok__law_yard {f:Addr} {fd:FuncData} (F:Fun K "_law_yard" "_law_yard" s__law_yard f fd) (mF:mg "_law_yard" = some (.ref f)) (bF:Binds K fd ["_law_hand"] []) (T:Bl mg) (C__law_draw:Cal P w K mg base "_law_draw" ["_law_hand", "_law_many"] 1 (sp__law_draw K)) (C__law_rows:Cal P w K mg base "_law_rows" ["_law_hand", "_law_most"] 5 (sp__law_rows K)) (C__law_row:Cal P w K mg base "_law_row" ["_law_hand"] 4 (sp__law_row K)) : Cal P w K mg base "_law_yard" ["_law_hand"] 6 (sp__law_yard K):=by
  refine Cal.of F mF bF sc__law_yard (fun vs H Q E h=>?_) (fun cdv A outer s H vs Q E hr h=>?_)
  · obtain ⟨p,N,rfl,_⟩:=h; rfl
  obtain ⟨p,N,rfl,hh,hN,q⟩:=h
  have hu:=hr.units
  have hs0:=hand_some hh
  refine ⟨_,(pss_cons (ps_set (i:=1) sc__law_yard.nd rfl (Or.inl rfl) (pe_op op_add pe_int (pcl C__law_draw (hr.mono (by decide)) (pa_cons (pv 0) (pa_cons pe_int pa_nil stx_Constant) stx_Name))))
      (pss_cons (ps_set (i:=2) sc__law_yard.nd rfl (Or.inl rfl) (pe_op op_add pe_int (pcl C__law_draw (hr.mono (by decide)) (pa_cons (pv 0) (pa_cons pe_int pa_nil stx_Constant) stx_Name))))
      (pss_cons (ps_set (i:=3) sc__law_yard.nd rfl (Or.inl rfl) (pe_lst pa_nil))
      (pss_cons (ps_for PassesOwn.never rfl (pi_range1 rfl T.range (pa_cons (pcl C__law_draw (hr.mono (by decide)) (pa_cons (pv 0) (pa_cons pe_int pa_nil stx_Constant) stx_Name)) pa_nil stx_Call)) (pg_name (i:=4) sc__law_yard.nd rfl (Or.inl rfl)) (pss_one (ps_expr (pe_bm PySem.F.plainAttrs_list PySem.F.slot_list_append PySem.F.type_list_append mt_append (pv 3) (pa_cons (pcl C__law_rows (hr.mono (by decide)) (pa_cons (pv 0) (pa_cons pe_int pa_nil stx_Constant) stx_Name)) pa_nil stx_Call)))))
      (pss_cons (ps_cut (ps_if (PW.pt (pw_and (pt_cmpR (op_neD hu) (pv 3) (pe_lst pa_nil) (nomark _)) (pw_and1 (pt_cmpR (op_eqE hu) (pe_ix ix_list (pv 3) (pe_un un_neg pe_int) (fun _ _=>rfl)) (pe_lst pa_nil) (nomark _))))) (pss_one (ps_expr (pe_bm PySem.F.plainAttrs_list PySem.F.slot_list_append PySem.F.type_list_append mt_append (pe_ix ix_list (pv 3) (pe_un un_neg pe_int) (fun _ _=>rfl)) (pa_cons (pcl C__law_row (hr.mono (by decide)) (pa_cons (pv 0) pa_nil stx_Name)) pa_nil stx_Call)))) pss_nil))
      (pss_one (ps_ret (pe_tup (pa_cons (pv 1) (pa_cons (pv 2) (pa_cons (pv 3) pa_nil stx_Name) stx_Name) stx_Name))))))))),?_⟩
  rw [st__law_yard]
  walk_at"rd"
  refine ⟨p,_,8,rfl,hh,by omega,by decide,by decide,fun w0 H1 w00 w01 hh1 k1=>?_⟩
  walk_at"rd"
  refine ⟨p,_,130,rfl,hh1,by omega,by decide,by decide,fun r0 H2 r00 r01 hh2 k2=>?_⟩
  have k02:=k1.trans k2
  walk_at"rd"
  refine ⟨by decide,fun D nD2=>?_⟩
  have nD:H D = none:=by
    cases c:H D with
    | none=>rfl
    | some o =>
      by_cases z:D = p
      · rw [z] at nD2; exact absurd nD2 (hand_some hh2)
      · rw [k02.1 _ _ c z] at nD2; cases nD2
  have ck:CK H p D (N + 2) [] (upd H2 D (.lst [])):=by
    have s:=same_new nD2 (.lst [])
    exact ⟨hh2.same s,upd_same,k02.trans (Kp.of s hh2),nD,hh.ne nD,cells_new hh nD⟩
  have g:Gw H D 3 [] [] [] (upd H2 D (.lst [])):=Gw.nil upd_same
  generalize upd H2 D _ = H3 at ck g ⊢
  walk_at"rd"
  refine ⟨p,_,6,rfl,ck.hh,by omega,by decide,by decide,fun n H6 n0 n1 hh6 k6=>?_⟩
  have g:=g.kp ck.hh k6 hs0 ck.np
  have ck:=ck.draw k6 hh6
  obtain ⟨nn,rfl⟩ : ∃ nn:Nat,n = (nn:Int):=⟨n.toNat,by omega⟩
  have nn1:nn < 6:=by omega
  walk_at"rd"
  refine ⟨_,rfl,by omega,by omega,?_⟩
  rw [Int.toNat_natCast]
  refine for_rangeO (n:=nn) (fun i σ H'=>(∃ x,σ = [some (.ref p),some (.int (1 + w0)),some (.int (1 + r0)),some (.ref D),x])∧∃ (ys:List V) (hs:List (List Row)) (gs:List (List Addr)),hs.length = i∧ys.length = i∧(∀ rs ∈ hs,(∀ r ∈ rs,ok8 r)∧rs.length ≤ 3)∧CK H p D (N + 10 + 100010 * i) ys H'∧Gw H D 3 ys (hs.map rowsD) gs H') ⟨⟨_,rfl⟩,[],[],[],rfl,rfl,(fun _ h=>by cases h),⟨ck.hh.mono (by omega),ck.lat,ck.kp,ck.n0,ck.np,ck.nc⟩,g⟩ ?_ ?_
  · clear g ck
    rintro i σ H7 hi ⟨⟨x1,rfl⟩,ys,hs,gs,el,yl,ok,ck,g⟩
    walk_at"rd"
    refine ⟨.inl ⟨rfl,_,SqL.of ck.lat⟩,?_⟩
    walk_at"rd"
    refine ⟨p,_,4,rfl,ck.hh,by omega,by omega,by omega,fun v rs f H9 td ors rl nf fr hh9 k9=>?_⟩
    have lat9:=k9.1 _ _ ck.lat ck.np
    have ck':=ck.draw k9 hh9
    walk_at"rd"
    refine ⟨D,_,_,rfl,rfl,lat9,small1000 (by omega),?_⟩
    walk_at"rd"
    refine ⟨⟨_,rfl⟩,ys ++ [v],hs ++ [rs],gs ++ [f],by rw [List.length_append,el]; rfl,by rw [List.length_append,yl]; rfl,fun e he=>?_,?_,?_⟩
    · rcases List.mem_append.mp he with h | h
      · exact ok e h
      · have:e = rs:=by simpa using h
        rw [this]; exact ⟨ors,by omega⟩
    · have:=ck'.push (zs:=ys ++ [v])
      exact ⟨this.hh.mono (by omega),this.lat,this.kp,this.n0,this.np,this.nc⟩
    · rw [List.map_append]
      exact g.push (Kp.keepG g ck.hh k9 hs0 ck.np) td nf fr fun b hb=>ck.free0 (fr b hb)
  clear g ck
  rintro σ H8 ⟨⟨x1,rfl⟩,ys,hs,gs,el,yl,ok,ck,g⟩
  have ho:Hs92 hs:=⟨ok,by omega⟩
  have yl:ys.length = hs.length:=by omega
  have ck:CK H p D (N + 15000000) ys H8:=⟨ck.hh.mono (by omega),ck.lat,ck.kp,ck.n0,ck.np,ck.nc⟩
  walk_at"rd"
  refine ⟨fun σ H'=>(∃ x,σ = [some (.ref p),some (.int (1 + w0)),some (.int (1 + r0)),some (.ref D),x])∧∃ (ys:List V) (hs:List (List Row)) (gs:List (List Addr)),Hs92 hs∧(∀ rs,hs.getLast? = some rs→rs ≠ [])∧ys.length = hs.length∧CK H p D (N + 16000000) ys H'∧Gw H D 3 ys (hs.map rowsD) gs H',?_,?_⟩
  · have gd:=TD.gd (K:=K) (g.done (by omega)).1
    have sh:=TD.shaped (K:=K) (g.done (by omega)).1 (by omega)
    walk_at"rd"
    refine ⟨by decide,fun p2 np2=>?_⟩
    generalize hE:upd H8 p2 _ = H9
    obtain ⟨ck,hp2,p2p,p2D⟩:=ck.new np2 hE
    have s9:=(newo np2 hE).2
    have g:=g.same s9
    clear hE
    have gd9:=TD.gd (K:=K) (g.done (by omega)).1
    refine ⟨_,_,gd9.1,.lst (SqL.of hp2) .nil,sh,rfl,?_⟩
    rw [eqv_nil]
    have hl132:=ho.hl
    rcases List.eq_nil_or_concat hs with c | ⟨hs',rs,c⟩
    · subst c
      walk_at"rd"
      refine rd_tx ‹_› ?_
      walk_at"rd"
      refine ⟨⟨_,rfl⟩,ys,[],gs,ho,fun rs h=>(by simp at h),yl,⟨ck.hh.mono (by omega),ck.lat,ck.kp,ck.n0,ck.np,ck.nc⟩,g⟩
    · have c:hs = hs' ++ [rs]:=by simpa using c
      subst c
      rw [decide_eq_false (by simp)]
      walk_at"rd"
      obtain ⟨ys',y,ey⟩ : ∃ ys' y,ys = ys' ++ [y]:=by
        rcases List.eq_nil_or_concat ys with z | ⟨a,b,z⟩
        · rw [z] at yl; simp at yl
        · exact ⟨a,b,by simpa using z⟩
      subst ey
      have yl':ys'.length = hs'.length:=by simpa using yl
      have last:∃ f,TD H9 3 y (rowsD rs) f∧∀ b ∈ f,b ∈ gs.flatten:=by
        obtain ⟨d,f,hd,hf,r⟩:=g.tl.get (i:=ys'.length) (x:=y) (by simp)
        rw [yl'] at hd
        simp at hd
        rw [hd]
        exact ⟨f,r,fun b hb=>mem_flat hf hb⟩
      obtain ⟨f1,tl1,_⟩:=last
      obtain ⟨l,xs,fs,rfl,rfl,hl,xl,tl⟩:=TD.asL tl1
      have xr:xs.length = rs.length:=by have:=tl.l1; rw [List.length_map] at this; exact this
      refine rd_ixL (SqL.of ck.lat) at_end ?_
      walk_at"rd"
      refine ⟨by decide,fun p3 np3=>?_⟩
      generalize hE:upd H9 p3 _ = HA
      obtain ⟨ck,hp3,p3p,p3D⟩:=ck.new np3 hE
      have sA:=(newo np3 hE).2
      have g:=g.same sA
      clear hE
      refine ⟨l,p3,xs,rfl,rfl,SqL.of (sA _ _ hl),SqL.of hp3,?_⟩
      walk_at"rd"
      refine rd_if (fun c3=>?_) (fun c3=>?_)
      · subst c3
        have r0:rs = []:=List.eq_nil_of_length_eq_zero xr.symm
        subst r0
        rw [List.map_append] at g
        walk_at"rd"
        refine rd_ixL (SqL.of ck.lat) at_end ?_
        refine ⟨.inl ⟨rfl,_,SqL.of (sA _ _ hl)⟩,?_⟩
        walk_at"rd"
        refine ⟨p,_,rfl,ck.hh,by omega,fun v es f HB td oes nf fr hhB kB=>?_⟩
        obtain ⟨⟨l0,lD,hlB⟩,gs',g'⟩:=g.fix (Kp.keepG g ck.hh kB hs0 ck.np) td nf fr fun b hb=>ck.free0 (fr b hb)
        have ck':=ck.draw kB hhB
        have lp:l ≠ p:=fun z=>hs0 (z ▸ l0)
        walk_at"rd"
        refine ⟨l,_,_,rfl,rfl,hlB,by decide,?_⟩
        walk_at"rd"
        refine ⟨⟨_,rfl⟩,ys' ++ [.ref l],hs' ++ [[es]],gs',⟨fun e he=>?_,by simpa using hl132⟩,fun rs h=>?_,by simpa using yl',⟨?_,?_,⟨fun b o e n=>?_,?_⟩,ck.n0,ck.np,ck.nc⟩,by rw [List.map_append]; exact g'⟩
        · rcases List.mem_append.mp he with h | h
          · exact ho.ok e (List.mem_append_left _ h)
          · have:e = [es]:=by simpa using h
            rw [this]
            exact ⟨fun r hr => by have : r = es := by simpa using hr
                                  rw [this]; exact oes,by simp⟩
        · simp at h
          rw [← h]; simp
        · exact (ck'.hh.upd lp (by rw [ck'.kp.2]; exact cells_new hh l0)).mono (by omega)
        · rw [upd_ne lD.symm]; exact ck'.lat
        · rw [upd_ne (ne_of_none e l0)]; exact ck'.kp.1 _ _ e n
        · rw [cells_upd lp]; exact ck'.kp.2
      · walk_at"rd"
        refine ⟨⟨_,rfl⟩,ys' ++ [.ref l],hs' ++ [rs],gs,ho,fun rs' h=>?_,yl,⟨ck.hh.mono (by omega),ck.lat,ck.kp,ck.n0,ck.np,ck.nc⟩,g⟩
        simp at h
        rw [← h]
        intro z
        exact c3 (List.eq_nil_of_length_eq_zero (by rw [xr,z]; rfl))
  · clear g ck
    rintro σ H9 ⟨⟨x2,rfl⟩,ys,hs,gs,ho,la,yl,ck,g⟩
    have hl:=ho.hl
    walk_at"rd"
    refine ⟨(by show 3 ≤ sizeLine; decide),fun t nt=>?_⟩
    generalize hE:upd H9 t _ = HA
    obtain ⟨ck',ht,tp,tD⟩:=ck.new nt hE
    have sA:=(newo nt hE).2
    clear hE
    obtain ⟨td,nd⟩:=(g.same sA).done (by omega)
    obtain ⟨w,ew⟩ : ∃ w:Nat,1 + w0 = (w:Int):=⟨(1 + w0).toNat,by omega⟩
    obtain ⟨r,er⟩ : ∃ r:Nat,1 + r0 = (r:Int):=⟨(1 + r0).toNat,by omega⟩
    rw [ew,er] at ht
    walk_at"rd"
    refine q (.ref t) w r hs (D::gs.flatten) HA ?_ (ho.y (by omega) (by omega) (by omega) (by omega) la) (ho.len (by omega) (by omega)) (ck'.hh.mono (by omega)) ck'.kp
    · have:=TD.ofT (n:=4) ht (by show 3 ≤ 1000; decide) (.cons (TD.int _) (.cons (TD.int _) (.cons td TL.nil)))
      unfold yardD heldD
      simpa using this
theorem ok__law_step {f:Addr}{fd:FuncData}(F:Fun K "_law_step" "_law_step" s__law_step f fd) (mF:mg "_law_step" = some (.ref f)) (bF:Binds K fd ["_law_hand"] []) (T:Bl mg) (C__law_draw:Cal P w K mg base "_law_draw" ["_law_hand", "_law_many"] 1 (sp__law_draw K)) (C__law_row:Cal P w K mg base "_law_row" ["_law_hand"] 4 (sp__law_row K)):Cal P w K mg base "_law_step" ["_law_hand"] 5 (sp__law_step K):=by
 refine Cal.of F mF bF sc__law_step (fun vs H Q E h=>?_) (fun cdv A outer s H vs Q E hr h=>?_)
 ·obtain⟨p,N,rfl,_⟩:=h;rfl
 obtain⟨p,N,rfl,hh,hN,q⟩:=h
 have hs0:=hand_some hh
 refine⟨_,(pss_cons (ps_set (i:=1) sc__law_step.nd rfl (Or.inl rfl) (pcl C__law_draw (hr.mono (by decide)) (pa_cons (pv 0) (pa_cons pe_int pa_nil stx_Constant) stx_Name)))
   (pss_cons (ps_setc (i:=2) sc__law_step.nd rfl rfl rfl (blkOk (sc:=defScope s__law_step) (N:=["_law_hand", "_law_way", "_law_numbers"]) (vs:=["_law_k"]) (fs:=["_law_hand"]) (js:=[0]) (by decide +kernel) rfl rfl) (pi_range1 rfl T.range (pa_cons pe_int pa_nil stx_Constant)) (fun _ _ _ _=>pg_name (i:=0) (show(["_law_k", "_law_hand"]:List Str).Nodup by decide +kernel) rfl (Or.inl rfl)) (fun _ _ _ _=>pif0) (fun _ _ _ _=>(pcl C__law_draw (hr.mono (by decide)) (pa_cons (pv 1) (pa_cons (pe_ix (ix_listK (K:=K) rfl) (pe_lst (pa_cons pe_int (pa_cons pe_int pa_nil stx_Constant) stx_Constant)) (pcl C__law_draw (hr.mono (by decide)) (pa_cons (pv 1) (pa_cons pe_int pa_nil stx_Constant) stx_Name)) (fun _ _=>rfl)) pa_nil stx_Subscript) stx_Name))))
   (pss_cons (ps_if (pt_cmpR op_eq (pv 1) pe_int (nomark _)) (pss_one (ps_ret (pe_tup (pa_cons pe_str (pa_cons (pe_ix ix_list (pv 2) pe_int (fun _ _=>rfl)) (pa_cons (pe_ix ix_list (pv 2) pe_int (fun _ _=>rfl)) (pa_cons (pcl C__law_row (hr.mono (by decide)) (pa_cons (pv 0) pa_nil stx_Name)) pa_nil stx_Call) stx_Subscript) stx_Subscript) stx_Constant)))) pss_nil)
   (pss_cons (ps_if (pt_cmpR op_eq (pv 1) pe_int (nomark _)) (pss_one (ps_ret (pe_tup (pa_cons pe_str (pa_cons (pe_ix ix_list (pv 2) pe_int (fun _ _=>rfl)) (pa_cons (pe_ix ix_list (pv 2) pe_int (fun _ _=>rfl)) pa_nil stx_Subscript) stx_Subscript) stx_Constant)))) pss_nil)
   (pss_one (ps_ret (pe_tup (pa_cons pe_str (pa_cons (pe_callB (call_maxI rfl) rfl T.max bt_max (pa_cons pe_int (pa_cons (pe_ix ix_list (pv 2) pe_int (fun _ _=>rfl)) pa_nil stx_Subscript) stx_Constant)) pa_nil stx_Call) stx_Constant)))))))),?_⟩
 rw[st__law_step]
 walk_at"rd"
 refine⟨p,_,3,rfl,hh,by omega,by decide,by decide,fun way H1 w0 w1 hh1 k1=>?_⟩
 walk_at"rd"
 refine⟨2,rfl,by omega,by omega,fun D nD=>?_⟩
 refine comp_range (n:=2) (fun j σ' ys H'=>(∃x,σ'=[x,some (.ref p)])∧j≤2∧(∃ks:List Nat,ys=ks.map (fun k:Nat=>V.int (k:Int))∧ks.length=j∧∀k∈ks,k≤130)∧CK H1 p D (N+1+10*j) ys H') D ⟨⟨_,rfl⟩,by omega,⟨[],rfl,rfl,fun _ h=>by cases h⟩,CK.start hh1 nD⟩ ?_ ?_
 ·rintro j σ' ys H2 hj ⟨⟨x1,rfl⟩,j2,⟨ks,rfl,kl,kb⟩,ck⟩
  walk_at"rd"
  refine⟨(by show 2≤sizeLine;decide),fun q1 nq1=>?_⟩
  generalize hE:upd H2 q1 _=H3
  obtain⟨ck,hq1,q1p,q1D⟩:=ck.new nq1 hE
  clear hE
  walk_at"rd"
  refine⟨p,_,2,rfl,ck.hh,by omega,by decide,by decide,fun v H4 v0 v1 hh4 k4=>?_⟩
  obtain⟨c,hc,cv⟩ : ∃c,atI [V.int 9,V.int 131] v=some (.int c)∧(c=9∨c=131):=by
   have:v=0∨v=1:=by omega
   rcases this with rfl|rfl
   ·exact⟨9,rfl,.inl rfl⟩
   ·exact⟨131,rfl,.inr rfl⟩
  have ck:=ck.draw k4 hh4
  refine rd_ixL (SqL.of (k4.1 _ _ hq1 q1p)) hc ?_
  walk_at"rd"
  refine⟨p,_,c,rfl,ck.hh,by omega,by omega,by omega,fun k H5 k0 k1' hh5 k5=>?_⟩
  have ck:=ck.draw k5 hh5
  obtain⟨kk,rfl⟩ : ∃kk:Nat,k =(kk:Int):=⟨k.toNat,by omega⟩
  have pu:=ck.push (zs:=ks.map (fun k:Nat=>V.int (k:Int)) ++ [V.int (kk:Int)])
  refine⟨ck.lat,by rw[List.length_map];exact small1000 (by omega),⟨_,rfl⟩,by omega,⟨ks ++ [kk],by rw[List.map_append];rfl,by rw[List.length_append,kl];rfl,fun z hz=>?_⟩,⟨pu.hh.mono (by omega),pu.lat,pu.kp,pu.n0,pu.np,pu.nc⟩⟩
  rcases List.mem_append.mp hz with h|h
  ·exact kb z h
  ·have:z=kk:=by simpa using h
   omega
 ·rintro σ' ys H2 ⟨⟨x1,rfl⟩,_,⟨ks,rfl,kl,kb⟩,ck⟩
  match ks,kl with
  | [n0,n1],_ =>
  have b0:=kb n0 (by simp)
  have b1:=kb n1 (by simp)
  have hD:=ck.lat
  have k02:=k1.trans ck.kp
  have hh2:=ck.hh
  have fr0:∀{b:Addr},H2 b=none→H b=none:=fun {b} h=>by
   cases c:H b with
   | none=>rfl
   | some o =>
    by_cases z:b=p
    ·rw[z]at h;exact absurd h (hand_some hh2)
    ·rw[k02.1 _ _ c z]at h;cases h
  have Dp:=ck.np
  walk_at"rd"
  refine rd_if (fun c=>?_) (fun c=>?_)
  ·walk_at"rd"
   refine⟨p,_,rfl,hh2,by omega,fun v es f H3 td oes nf fr hh3 k3=>?_⟩
   walk_at"rd"
   refine⟨(by show 4≤sizeLine;decide),fun t nt=>?_⟩
   generalize hE:upd H3 t _=H7
   obtain⟨ht,s7⟩:=newo nt hE
   clear hE
   walk_at"rd"
   refine q (.ref t) (.row n0 n1 es) f H7 ?_ ⟨b0,b1,oes.r⟩ (step_len92 ⟨b0,b1,oes⟩) ((hh3.same s7).mono (by omega)) ((k02.trans k3).trans (Kp.of s7 hh3))
   have:=TD.ofT (n:=2) ht (by show 4≤1000;decide) (.cons (TD.str (by decide +kernel)) (.cons (TD.int _) (.cons (TD.int _) (.cons (td.same s7) TL.nil))))
   show TD H7 3 (V.ref t) (.tuple [.str wRow,.int n0,.int n1,rowD es]) f
   unfold wRow
   simpa using this
  walk_at"rd"
  refine rd_if (fun c=>?_) (fun c=>?_)
  ·walk_at"rd"
   refine⟨(by show 3≤sizeLine;decide),fun t nt=>?_⟩
   generalize hE:upd H2 t _=H7
   obtain⟨ht,s7⟩:=newo nt hE
   clear hE
   walk_at"rd"
   refine q (.ref t) (.cut n0 n1) [] H7 ?_ ⟨b0,b1⟩ (step_len92 (st:=.cut n0 n1) ⟨b0,b1⟩) ((hh2.same s7).mono (by omega)) (k02.trans (Kp.of s7 hh2))
   exact TD.ofT (n:=2) (fs:=[[],[],[]]) ht (by show 3≤1000;decide) (.cons (TD.str (by decide +kernel)) (.cons (TD.int _) (.cons (TD.int _) TL.nil)))
  ·walk_at"rd"
   refine⟨(by show 2≤sizeLine;decide),fun t nt=>?_⟩
   generalize hE:upd H2 t _=H7
   obtain⟨ht,s7⟩:=newo nt hE
   clear hE
   obtain⟨m,em,m1,m2⟩ : ∃m:Nat,max 1 (n0:Int) =(m:Int)∧1≤m∧m≤130:=⟨max 1 n0,by omega,by omega,by omega⟩
   rw[em]at ht
   walk_at"rd"
   refine q (.ref t) (.rooms m) [] H7 ?_ ⟨m1,m2⟩ (step_len92 (st:=.rooms m) ⟨m1,m2⟩) ((hh2.same s7).mono (by omega)) (k02.trans (Kp.of s7 hh2))
   exact TD.ofT (n:=2) (fs:=[[],[]]) ht (by show 2≤1000;decide) (.cons (TD.str (by decide +kernel)) (.cons (TD.int _) TL.nil))
theorem ok__law_row_text {f:Addr}{fd:FuncData}(F:Fun K "_law_row_text" "_law_row_text" s__law_row_text f fd) (mF:mg "_law_row_text" = some (.ref f)) (bF:Binds K fd ["_law_row_here"] []) (T:Bl mg)  : Cal P w K mg base "_law_row_text" ["_law_row_here"] 1 (sp__law_row_text K):=by
 refine Cal.of F mF bF sc__law_row_text (fun vs H Q E h=>?_) (fun cdv A outer s H vs Q E hr h=>?_)
 ·obtain⟨v,es,fp,rfl,_⟩:=h;rfl
 obtain⟨v,es,fp,rfl,td,⟨ok,el⟩,q⟩:=h
 obtain⟨l,xs,fs,rfl,rfl,hl,xl,tl⟩:=TD.asL td
 have hu:=hr.units
 have ln:=tl.l1
 rw[List.length_map]at ln
 refine⟨_,(pss_cons (ps_set (i:=1) sc__law_row_text.nd rfl (Or.inl rfl) (pe_lst pa_nil))
   (pss_cons (ps_for PassesOwn.never rfl (pi_list (pv 0)) (pg_tup rfl (pgs_cons (pg_name (i:=2) sc__law_row_text.nd rfl (Or.inl rfl)) (pgs_cons (pg_name (i:=3) sc__law_row_text.nd rfl (Or.inl rfl)) pgs_nil))) (pss_one (ps_expr (pe_bm PySem.F.plainAttrs_list PySem.F.slot_list_append PySem.F.type_list_append mt_append (pv 1) (pa_cons (pe_op op_catS (pe_op op_catS (pe_callTy call_str_int rfl T.str bt_str (pa_cons (pv 2) pa_nil stx_Name)) pe_str) (pv 3)) pa_nil stx_BinOp)))))
   (pss_one (ps_ret (pe_ix ix_list (pe_lst (pa_cons (pe_bm PySem.F.plainAttrs_str PySem.F.slot_str_join PySem.F.type_str_join mt_join pe_str (pa_cons (pv 1) pa_nil stx_Name)) (pa_cons pe_str pa_nil stx_Constant) stx_Call)) (pe_callTy call_intB rfl T.int bt_int (pa_cons (pe_cmpR (op_eqE hu) (pv 0) (pe_lst pa_nil) (nomark _)) pa_nil stx_Compare)) (fun _ _=>rfl)))))),?_⟩
 rw[st__law_row_text]
 walk_at"rd"
 refine⟨by decide,fun D nD=>?_⟩
 walk_at"rd"
 refine⟨l,rfl,⟨_,SqL.of (by rw[upd_ne (ne_of_none hl nD)];exact hl)⟩,?_⟩
 refine for_listO (xs:=xs) (fun i σ H'=>(∃x y,σ=[some (.ref l),some (.ref D),x,y])∧Same H H'∧H' D=some (.lst (((es.take i).map entT).map V.str))) ⟨⟨_,_,rfl⟩,same_new nD _,upd_same⟩ (fun i σ H' _ h=>SqL.of (h.2.1 _ _ hl)) ?_ ?_
 ·rintro i x σ H2 hx ⟨⟨x1,y1,rfl⟩,s2,hD⟩
  obtain⟨d,f,hd,hf,r⟩:=tl.get hx
  rw[List.getElem?_map]at hd
  have il:=(List.getElem?_eq_some_iff.mp hx).1
  obtain⟨e,he⟩ : ∃e,es[i]? = some e:=⟨_,List.getElem?_eq_getElem (by omega)⟩
  rw[he]at hd
  cases hd
  obtain⟨t,rfl,ht,_⟩:=r.ent
  have oe:=ok e (List.mem_of_getElem? he)
  obtain⟨m,em,hm⟩:=oe.num
  have nl:=numT_length em hm
  have zl:=oe.2.2.2.1
  walk_at"rd"
  refine⟨t,_,rfl,SqT.of (s2 _ _ ht),rfl,_,_,rfl,_,_,rfl,rfl,?_⟩
  walk_at"rd"
  refine⟨.inl ⟨rfl,_,SqL.of hD⟩,?_⟩
  walk_at"rd"
  refine⟨_,rfl,by rw[em];exact log_small hm,?_⟩
  walk_at"rd"
  refine rd_catS (i:=numT e.1) (by rw[s_eq];show(numT e.1).length+1≤_;exact line_small (by omega)) ?_
  walk_at"rd"
  refine rd_catS (by rw[str_applen,s_eq];show(numT e.1).length+1+_≤_;exact line_small (by omega)) ?_
  walk_at"rd"
  refine⟨D,_,_,rfl,rfl,hD,by rw[List.length_map,List.length_map,List.length_take];exact small1000 (by omega),?_⟩
  walk_at"rd"
  refine⟨⟨_,_,rfl⟩,fun b o e=>by rw[upd_ne (ne_of_none e nD)];exact s2 _ _ e,?_⟩
  rw[upd_same,take_get he,List.map_append,List.map_append,s_eq];rfl
 ·rintro σ H2 ⟨⟨x1,y1,rfl⟩,s2,hD⟩
  rw[ln,List.take_length]at hD
  have sm:=sum_le (f:=fun e=>(entT e).length) (B:=28) (l:=es) fun e he=>entT_len (ok e he)
  walk_at"rd"
  refine⟨rfl,?_⟩
  walk_at"rd"
  refine⟨_,D,es.map entT,rfl,rfl,SqL.of hD,?_,?_⟩
  ·rw[List.map_map,s_comma,show(sg 44).length=1 from rfl,List.length_map]
   show(es.map fun e=>(entT e).length).sum+_≤_
   omega
  rw[s_comma,join_txt]
  walk_at"rd"
  refine⟨(by show 2≤sizeLine;decide),fun p np=>?_⟩
  generalize hE:upd H2 p _=H3
  obtain⟨hp,s3⟩:=newo np hE
  clear hE
  walk_at"rd"
  refine⟨by decide,fun p2 np2=>?_⟩
  generalize hE:upd H3 p2 _=H4
  obtain⟨hp2,s4⟩:=newo np2 hE
  clear hE
  have s04:=s2.trans (s3.trans s4)
  refine⟨l,p2,xs,rfl,rfl,SqL.of (s04 _ _ hl),SqL.of hp2,?_⟩
  walk_at"rd"
  refine rd_ixL (SqL.of (s4 _ _ hp)) pick01 ?_
  have e:(if xs=[] then Str.ofString "-" else Str.join (sg 44) (es.map entT))=rowT es:=by
   unfold rowT
   rw[s_dash]
   by_cases c:es=[]
   ·rw[if_pos c,if_pos (List.eq_nil_of_length_eq_zero (by rw[ln,c];rfl))]
   ·rw[if_neg c,if_neg (fun z=>c (List.eq_nil_of_length_eq_zero (by rw[← ln,z];rfl)))]
  rw[e]
  exact q H4 s04
theorem ok__law_rows_text {f:Addr}{fd:FuncData}(F:Fun K "_law_rows_text" "_law_rows_text" s__law_rows_text f fd) (mF:mg "_law_rows_text" = some (.ref f)) (bF:Binds K fd ["_law_rows_here"] []) (T:Bl mg) (C__law_row_text:Cal P w K mg base "_law_row_text" ["_law_row_here"] 1 (sp__law_row_text K)):Cal P w K mg base "_law_rows_text" ["_law_rows_here"] 2 (sp__law_rows_text K):=by
 refine Cal.of F mF bF sc__law_rows_text (fun vs H Q E h=>?_) (fun cdv A outer s H vs Q E hr h=>?_)
 ·obtain⟨v,es,fp,rfl,_⟩:=h;rfl
 obtain⟨v,rs,fp,rfl,td,⟨ok,rl⟩,q⟩:=h
 obtain⟨l,xs,fs,rfl,rfl,hl,xl,tl⟩:=TD.asL td
 have hu:=hr.units
 have ln:=tl.l1
 rw[List.length_map]at ln
 refine⟨_,(pss_one (ps_ret (pe_ix ix_list (pe_lst (pa_cons (pe_bm PySem.F.plainAttrs_str PySem.F.slot_str_join PySem.F.type_str_join mt_join pe_str (pa_cons (pe_comp rfl (blkOk (sc:=defScope s__law_rows_text) (N:=["_law_rows_here"]) (vs:=["_law_row_here"]) (fs:=[]) (js:=[]) (by decide +kernel) rfl rfl) (pi_list (pv 0)) (fun _ _ _ _=>pg_name (i:=0) (show(["_law_row_here"]:List Str).Nodup by decide +kernel) rfl (Or.inl rfl)) (fun _ _ _ _=>pif0) (fun _ _ _ _=>(pcl C__law_row_text (hr.mono (by decide)) (pa_cons (pv 0) pa_nil stx_Name)))) pa_nil stx_ListComp)) (pa_cons pe_str pa_nil stx_Constant) stx_Call)) (pe_callTy call_intB rfl T.int bt_int (pa_cons (pe_cmpR (op_eqE hu) (pv 0) (pe_lst pa_nil) (nomark _)) pa_nil stx_Compare)) (fun _ _=>rfl)))),?_⟩
 rw[st__law_rows_text]
 walk_at"rd"
 refine⟨rfl,?_⟩
 walk_at"rd"
 refine⟨l,rfl,⟨_,SqL.of hl⟩,fun D nD=>?_⟩
 refine comp_list (xs:=xs) (fun i σ' ys H'=>(∃x,σ'=[x])∧Same H H'∧ys =((rs.take i).map rowT).map V.str∧H' D=some (.lst ys)) D ⟨⟨_,rfl⟩,same_new nD _,rfl,upd_same⟩ (fun i σ' ys H' _ h=>SqL.of (h.2.1 _ _ hl)) ?_ ?_
 ·rintro i x σ' ys H2 hx ⟨⟨x1,rfl⟩,s2,rfl,hD⟩
  obtain⟨d,f,hd,hf,r⟩:=tl.get hx
  rw[List.getElem?_map]at hd
  have il:=(List.getElem?_eq_some_iff.mp hx).1
  obtain⟨e,he⟩ : ∃e,rs[i]? = some e:=⟨_,List.getElem?_eq_getElem (by omega)⟩
  rw[he]at hd
  cases hd
  walk_at"rd"
  refine⟨x,e,f,rfl,r.same s2,ok e (List.mem_of_getElem? he),fun H3 s3=>?_⟩
  refine⟨s3 _ _ hD,by rw[List.length_map,List.length_map,List.length_take];exact small1000 (by omega),⟨_,rfl⟩,fun b o e=>by rw[upd_ne (ne_of_none e nD)];exact s3 _ _ (s2 _ _ e),?_,upd_same⟩
  rw[take_get he,List.map_append,List.map_append];rfl
 ·rintro σ' ys H2 ⟨⟨x1,rfl⟩,s2,rfl,hD⟩
  rw[ln,List.take_length]at hD
  walk_at"rd"
  have sm:=sum_le (f:=fun e=>(rowT e).length) (B:=29*130+1) (l:=rs) fun r hr=>rowT_len (ok r hr).1 (ok r hr).2
  refine⟨_,D,rs.map rowT,rfl,rfl,SqL.of hD,?_,?_⟩
  ·rw[List.map_map,s_semi,show(sg 59).length=1 from rfl,List.length_map]
   show(rs.map fun e=>(rowT e).length).sum+_≤_
   omega
  rw[s_semi,join_txt]
  walk_at"rd"
  refine⟨(by show 2≤sizeLine;decide),fun p np=>?_⟩
  generalize hE:upd H2 p _=H3
  obtain⟨hp,s3⟩:=newo np hE
  clear hE
  walk_at"rd"
  refine⟨by decide,fun p2 np2=>?_⟩
  generalize hE:upd H3 p2 _=H4
  obtain⟨hp2,s4⟩:=newo np2 hE
  clear hE
  have s04:=s2.trans (s3.trans s4)
  refine⟨l,p2,xs,rfl,rfl,SqL.of (s04 _ _ hl),SqL.of hp2,?_⟩
  walk_at"rd"
  refine rd_ixL (SqL.of (s4 _ _ hp)) pick01 ?_
  have e:(if xs=[] then Str.ofString "none" else Str.join (sg 59) (rs.map rowT))=rowsT rs:=by
   unfold rowsT
   by_cases c:rs=[]
   ·rw[if_pos c,if_pos (List.eq_nil_of_length_eq_zero (by rw[ln,c];rfl))]
   ·rw[if_neg c,if_neg (fun z=>c (List.eq_nil_of_length_eq_zero (by rw[← ln,z];rfl)))]
  rw[e]
  exact q H4 s04
theorem ok__law_step_text {f:Addr}{fd:FuncData}(F:Fun K "_law_step_text" "_law_step_text" s__law_step_text f fd) (mF:mg "_law_step_text" = some (.ref f)) (bF:Binds K fd ["_law_step_here"] []) (T:Bl mg) (C__law_row_text:Cal P w K mg base "_law_row_text" ["_law_row_here"] 1 (sp__law_row_text K)):Cal P w K mg base "_law_step_text" ["_law_step_here"] 2 (sp__law_step_text K):=by
 refine Cal.of F mF bF sc__law_step_text (fun vs H Q E h=>?_) (fun cdv A outer s H vs Q E hr h=>?_)
 ·obtain⟨v,st,fp,rfl,_⟩:=h;rfl
 obtain⟨v,st,fp,rfl,td,ok,q⟩:=h
 have wl:=words_len ok
 obtain⟨t,xs,hd,rfl,ht,xw,xl⟩ : ∃(t:Addr) (xs:List V) (k:Str),v = .ref t∧H t=some (.tup (.str k::xs))∧(∃ws,wordsS st=k::ws∧ws.length=xs.length∧∀(i:Nat) (x:V) (z:Str),xs[i]? = some x→ws[i]? = some z→(∃j:Nat,x = .int j∧j≤130∧z=numT j) ∨(∃es f l ys,x = .ref l∧H l=some (.lst ys)∧TD H 2 x (rowD es) f∧okR es∧z=rowT es))∧xs.length≤3:=by
  cases st with
  | row r a es =>
   obtain⟨t,x,rfl,ht,tx⟩:=TD.step4 td
   obtain⟨l,ys,fs,rfl,rfl,hl,_⟩:=TD.asL tx
   refine⟨t,[.int r,.int a,.ref l],wRow,rfl,ht,⟨[numT r,numT a,rowT es],rfl,rfl,fun i x z h1 h2=>?_⟩,by simp⟩
   rcases i with _|_|_|i
   ·cases h1;cases h2;exact .inl ⟨r,rfl,ok.1,rfl⟩
   ·cases h1;cases h2;exact .inl ⟨a,rfl,ok.2.1,rfl⟩
   ·cases h1;cases h2;exact .inr ⟨es,_,l,ys,rfl,hl,tx,ok.2.2,rfl⟩
   ·simp at h1
  | cut r m =>
   obtain⟨t,rfl,ht⟩:=TD.step3 td
   refine⟨t,[.int r,.int m],wCut,rfl,ht,⟨[numT r,numT m],rfl,rfl,fun i x z h1 h2=>?_⟩,by simp⟩
   rcases i with _|_|i
   ·cases h1;cases h2;exact .inl ⟨r,rfl,ok.1,rfl⟩
   ·cases h1;cases h2;exact .inl ⟨m,rfl,ok.2,rfl⟩
   ·simp at h1
  | rooms n =>
   obtain⟨t,rfl,ht⟩:=TD.step2 td
   refine⟨t,[.int n],wRooms,rfl,ht,⟨[numT n],rfl,rfl,fun i x z h1 h2=>?_⟩,by simp⟩
   rcases i with _|i
   ·cases h1;cases h2;exact .inl ⟨n,rfl,ok.2,rfl⟩
   ·simp at h1
 obtain⟨ws,ew,wsl,wa⟩:=xw
 refine⟨_,(pss_cons (ps_set (i:=1) sc__law_step_text.nd rfl (Or.inl rfl) (pe_lst (pa_cons (pe_ix ix_tup (pv 0) pe_int (fun _ _=>rfl)) pa_nil stx_Subscript)))
   (pss_cons (ps_for PassesOwn.never rfl (pi_tup (pe_slice sl_tup (pv 0) (po_some pe_int) po_none)) (pg_name (i:=2) sc__law_step_text.nd rfl (Or.inl rfl)) (pss_one (ps_if (pt_val (pe_callB call_isinst rfl T.isinstance bt_isinstance (pa_cons (pv 2) (pa_cons (pe_bltn (v:=.ty "list") rfl T.list bt_list rfl) pa_nil stx_Name) stx_Name))) (pss_one (ps_expr (pe_bm PySem.F.plainAttrs_list PySem.F.slot_list_append PySem.F.type_list_append mt_append (pv 1) (pa_cons (pcl C__law_row_text (hr.mono (by decide)) (pa_cons (pv 2) pa_nil stx_Name)) pa_nil stx_Call)))) (pss_one (ps_expr (pe_bm PySem.F.plainAttrs_list PySem.F.slot_list_append PySem.F.type_list_append mt_append (pv 1) (pa_cons (pe_callTy call_str_int rfl T.str bt_str (pa_cons (pv 2) pa_nil stx_Name)) pa_nil stx_Call)))))))
   (pss_one (ps_ret (pe_bm PySem.F.plainAttrs_str PySem.F.slot_str_join PySem.F.type_str_join mt_join pe_str (pa_cons (pv 1) pa_nil stx_Name)))))),?_⟩
 rw[st__law_step_text]
 walk_at"rd"
 refine rd_ixT (SqT.of ht) (atI_nat (j:=0) rfl) ?_
 walk_at"rd"
 refine⟨by show 1≤sizeLine;decide,fun D nD=>?_⟩
 generalize hE:upd H D _=H1
 obtain⟨hD1,s1⟩:=newo nD hE
 clear hE
 walk_at"rd"
 refine⟨t,_,rfl,SqT.of (s1 _ _ ht),?_,fun t2 nt2=>?_⟩
 ·intro z
  have z:=z.1
  rw[show(1:Int) =((1:Nat):Int) from rfl,HT.sIx_nat]at z
  simp at z
 have cut:cutV (.str hd::xs) (some 1) none=xs:=by
  unfold cutV
  rw[show(1:Int) =((1:Nat):Int) from rfl,HT.sIx_nat,HT.sIx_none]
  simp
 rw[cut]
 generalize hE:upd H1 t2 _=H2
 obtain⟨ht2,s2⟩:=newo nt2 hE
 clear hE
 have t2D:t2≠D:=fun z=>by rw[z,hD1]at nt2;cases nt2
 have s12:=s1.trans s2
 refine⟨t2,rfl,⟨_,SqT.of ht2⟩,?_⟩
 refine for_tup (xs:=xs) (fun i σ H'=>(∃x,σ=[some (.ref t),some (.ref D),x])∧(∀b o,b≠D→H2 b=some o→H' b=some o)∧H' D=some (.lst ((hd::ws.take i).map V.str))) ⟨⟨_,rfl⟩,fun _ _ _ e=>e,s2 _ _ hD1⟩ (fun i σ H' _ h=>SqT.of (h.2.1 _ _ t2D ht2)) ?_ ?_
 ·rintro i x σ H3 hx ⟨⟨x1,rfl⟩,k3,hD3⟩
  have il:=(List.getElem?_eq_some_iff.mp hx).1
  obtain⟨z,hz⟩ : ∃z,ws[i]? = some z:=⟨_,List.getElem?_eq_getElem (by omega)⟩
  have hk:∀b o,H b=some o→H3 b=some o:=fun b o e=>k3 b o (ne_of_none e nD) (s12 _ _ e)
  have pushed:∀H4:Hp,(∀b o,b≠D→H3 b=some o→H4 b=some o)→(∃x',[some (V.ref t),some (.ref D),some x]=[some (V.ref t),some (.ref D),x'])∧(∀b o,b≠D→H2 b=some o→(upd H4 D (.lst ((hd::ws.take i).map V.str ++ [.str z]))) b=some o)∧(upd H4 D (.lst ((hd::ws.take i).map V.str ++ [.str z]))) D=some (.lst ((hd::ws.take (i+1)).map V.str)):=fun H4 k4=>⟨⟨_,rfl⟩,fun b o n e=>by rw[upd_ne n];exact k4 _ _ n (k3 _ _ n e),by rw[upd_same,take_get hz];simp⟩
  have wlen:((hd::ws.take i).map V.str).length<sizeLine:=small1000 (by rw[List.length_map,List.length_cons,List.length_take];omega)
  rcases wa i x z hx hz with⟨j,rfl,hj,rfl⟩|⟨es,f,l,ys,rfl,hl,tx,oes,rfl⟩
  ·walk_at"rd"
   refine rd_isi (.int _) (b:=false) rfl ?_
   walk_at"rd"
   refine⟨.inl ⟨rfl,_,SqL.of hD3⟩,?_⟩
   walk_at"rd"
   refine⟨_,rfl,log_small (small130 hj),?_⟩
   walk_at"rd"
   refine⟨D,_,_,rfl,rfl,hD3,wlen,?_⟩
   walk_at"rd"
   exact pushed H3 fun _ _ _ e=>e
  ·walk_at"rd"
   refine rd_isi (.lst (hk _ _ hl)) (b:=true) rfl ?_
   walk_at"rd"
   refine⟨.inl ⟨rfl,_,SqL.of hD3⟩,?_⟩
   walk_at"rd"
   refine⟨.ref l,es,f,rfl,TD.keep tx fun b o e _=>hk _ _ e,oes,fun H4 s4=>?_⟩
   walk_at"rd"
   refine⟨D,_,_,rfl,rfl,s4 _ _ hD3,wlen,?_⟩
   walk_at"rd"
   exact pushed H4 fun _ _ _ e=>s4 _ _ e
 ·rintro σ H3 ⟨⟨x1,rfl⟩,k3,hD3⟩
  rw[← wsl,List.take_length,← ew]at hD3
  walk_at"rd"
  refine⟨rfl,?_⟩
  walk_at"rd"
  refine⟨_,D,wordsS st,rfl,rfl,SqL.of hD3,?_,?_⟩
  ·rw[s_sp,show(sg 32).length=1 from rfl]
   have:(wordsS st).length=xs.length+1:=by rw[ew,List.length_cons,wsl]
   omega
  rw[s_sp,join_txt]
  exact q H3 fun b o e=>k3 b o (ne_of_none e nD) (s12 _ _ e)
theorem ok__law_yard_text {f:Addr}{fd:FuncData}(F:Fun K "_law_yard_text" "_law_yard_text" s__law_yard_text f fd) (mF:mg "_law_yard_text" = some (.ref f)) (bF:Binds K fd ["_law_yard_here"] []) (T:Bl mg) (C__law_rows_text:Cal P w K mg base "_law_rows_text" ["_law_rows_here"] 2 (sp__law_rows_text K)):Cal P w K mg base "_law_yard_text" ["_law_yard_here"] 3 (sp__law_yard_text K):=by
 refine Cal.of F mF bF sc__law_yard_text (fun vs H Q E h=>?_) (fun cdv A outer s H vs Q E hr h=>?_)
 ·obtain⟨v,w,r,hs,fp,rfl,_⟩:=h;rfl
 obtain⟨v,w,r,hs,fp,rfl,td,ok,q⟩:=h
 obtain⟨t,x,rfl,ht,tx⟩:=TD.yard3 td
 obtain⟨l,xs,fs,rfl,rfl,hl,xl,tl⟩:=TD.asL tx
 have ln:=tl.l1
 rw[List.length_map]at ln
 have hl140:=ok.hl
 refine⟨_,(pss_cons (ps_set (i:=1) sc__law_yard_text.nd rfl (Or.inl rfl) (pe_lst (pa_cons (pe_callTy call_str_int rfl T.str bt_str (pa_cons (pe_ix ix_tup (pv 0) pe_int (fun _ _=>rfl)) pa_nil stx_Subscript)) (pa_cons (pe_callTy call_str_int rfl T.str bt_str (pa_cons (pe_ix ix_tup (pv 0) pe_int (fun _ _=>rfl)) pa_nil stx_Subscript)) pa_nil stx_Call) stx_Call)))
   (pss_cons (ps_for PassesOwn.never rfl (pi_list (pe_ix ix_tup (pv 0) pe_int (fun _ _=>rfl))) (pg_name (i:=2) sc__law_yard_text.nd rfl (Or.inl rfl)) (pss_one (ps_expr (pe_bm PySem.F.plainAttrs_list PySem.F.slot_list_append PySem.F.type_list_append mt_append (pv 1) (pa_cons (pcl C__law_rows_text (hr.mono (by decide)) (pa_cons (pv 2) pa_nil stx_Name)) pa_nil stx_Call)))))
   (pss_one (ps_ret (pe_bm PySem.F.plainAttrs_str PySem.F.slot_str_join PySem.F.type_str_join mt_join pe_str (pa_cons (pv 1) pa_nil stx_Name)))))),?_⟩
 rw[st__law_yard_text]
 walk_at"rd"
 refine⟨_,rfl,log_small (small130 (by have:=ok.w2;omega)),?_⟩
 walk_at"rd"
 refine⟨_,rfl,log_small (small130 ok.r2),?_⟩
 walk_at"rd"
 refine⟨(by show 2≤sizeLine;decide),fun D nD=>?_⟩
 walk_at"rd"
 refine rd_ixT (SqT.of (by rw[upd_ne (ne_of_none ht nD)];exact ht)) rfl ?_
 refine⟨l,rfl,⟨_,SqL.of (by rw[upd_ne (ne_of_none hl nD)];exact hl)⟩,?_⟩
 refine for_listO (xs:=xs) (fun i σ H'=>(∃x,σ=[some (.ref t),some (.ref D),x])∧Same H H'∧H' D=some (.lst ((numT w::numT r::(hs.take i).map rowsT).map V.str))) ⟨⟨_,rfl⟩,same_new nD _,upd_same⟩ (fun i σ H' _ h=>SqL.of (h.2.1 _ _ hl)) ?_ ?_
 ·rintro i x σ H2 hx ⟨⟨x1,rfl⟩,s2,hD⟩
  obtain⟨d,f,hd,hf,r⟩:=tl.get hx
  rw[List.getElem?_map]at hd
  have il:=(List.getElem?_eq_some_iff.mp hx).1
  obtain⟨e,he⟩ : ∃e,hs[i]? = some e:=⟨_,List.getElem?_eq_getElem (by omega)⟩
  rw[he]at hd
  cases hd
  walk_at"rd"
  refine⟨.inl ⟨rfl,_,SqL.of hD⟩,?_⟩
  walk_at"rd"
  refine⟨x,e,f,rfl,r.same s2,ok.ok e (List.mem_of_getElem? he),fun H3 s3=>?_⟩
  walk_at"rd"
  refine⟨D,_,_,rfl,rfl,s3 _ _ hD,?_,?_⟩
  ·rw[List.length_map,List.length_cons,List.length_cons,List.length_map,List.length_take];exact small1000 (by omega)
  walk_at"rd"
  refine⟨⟨_,rfl⟩,fun b o e=>by rw[upd_ne (ne_of_none e nD)];exact s3 _ _ (s2 _ _ e),?_⟩
  rw[upd_same,take_get he,List.map_append]
  simp
 ·rintro σ H2 ⟨⟨x1,rfl⟩,s2,hD⟩
  rw[ln,List.take_length]at hD
  obtain⟨b1,b2⟩:=wordsY_len ok
  walk_at"rd"
  refine⟨rfl,?_⟩
  walk_at"rd"
  refine⟨_,D,wordsY w r hs,rfl,rfl,SqL.of hD,?_,?_⟩
  ·rw[s_sp,show(sg 32).length=1 from rfl];omega
  rw[s_sp,join_txt]
  exact q H2 s2
theorem ok__law_number {f:Addr}{fd:FuncData}(F:Fun K "_law_number" "_law_number" s__law_number f fd) (mF:mg "_law_number" = some (.ref f)) (bF:Binds K fd ["_law_text", "_law_least", "_law_most"] []) (T:Bl mg)  : Cal P w K mg base "_law_number" ["_law_text", "_law_least", "_law_most"] 1 (sp__law_number K):=by
 refine Cal.of F mF bF sc__law_number (fun vs H Q E h=>?_) (fun cdv A outer s H vs Q E hr h=>?_)
 ·obtain⟨z,lo,hi,rfl,_⟩:=h;rfl
 obtain⟨z,lo,hi,rfl,zl,q⟩:=h
 have no:isNumB z=false→Q .non H:=fun h=>by
  have e:rdNum z lo hi=none:=by unfold rdNum;rw[if_neg (by rw[h];simp)]
  rw[e]at q;exact q
 refine⟨_,(pss_cons (ps_if (PW.pt (pw_or (pt_cmpR op_eq (pv 0) pe_str (nomark _)) (pw_or (pt_cmpR op_gt (pe_callB call_lenS rfl T.len bt_len (pa_cons (pv 0) pa_nil stx_Name)) pe_int (nomark _)) (pw_or1 (PW.pt (pw_and (pt_cmpR op_eq (pe_ix ix_str (pv 0) pe_int (fun _ _=>rfl)) pe_str (nomark _)) (pw_and1 (pt_cmpR op_gt (pe_callB call_lenS rfl T.len bt_len (pa_cons (pv 0) pa_nil stx_Name)) pe_int (nomark _))))))))) (pss_one (ps_ret pe_non)) pss_nil)
   (pss_cons (ps_for PassesOwn.never rfl (pi_str (pv 0)) (pg_name (i:=3) sc__law_number.nd rfl (Or.inl rfl)) (pss_one (ps_if (pt_cmpR op_notin_str (pv 3) pe_str (by with_unfolding_all rfl)) (pss_one (ps_ret pe_non)) pss_nil)))
   (pss_cons (ps_if (pt_not (pt_chain op_le op_le (pv 1) (pe_callTy call_intS rfl T.int bt_int (pa_cons (pv 0) pa_nil stx_Name)) (pv 2))) (pss_one (ps_ret pe_non)) pss_nil)
   (pss_one (ps_ret (pe_callTy call_intS rfl T.int bt_int (pa_cons (pv 0) pa_nil stx_Name))))))),?_⟩
 rw[st__law_number]
 walk_at"rd"
 refine rd_eqZ ?_
 by_cases c0:z=Str.ofString ""
 ·rw[decide_eq_true c0]
  walk_at"rd"
  refine no ?_
  subst c0;decide
 rw[decide_eq_false c0]
 have z1:1≤z.length:=by
  rcases Nat.eq_zero_or_pos z.length with e|e
  ·exfalso
   refine c0 (str_ext ?_)
   have:z.cps.toList.length=0:=by rw[Array.length_toList];exact e
   rw[List.eq_nil_of_length_eq_zero this];decide
  ·exact e
 walk_at"rd"
 refine rd_lenS zl ?_
 walk_at"rd"
 refine rd_if (fun c1=>?_) (fun c1=>?_)
 ·walk_at"rd"
  refine no ?_
  unfold isNumB
  rw[decide_eq_false (by omega:¬ z.length≤30)];simp
 obtain⟨x,hx⟩ : ∃x,z.cps.toList[0]? = some x:=⟨_,List.getElem?_eq_getElem (by rw[Array.length_toList];show 0<z.length;omega)⟩
 have fz:=first_zero hx
 walk_at"rd"
 refine rd_ixS zl (atI_nat (j:=0) hx) ?_
 walk_at"rd"
 refine rd_eqZ ?_
 rw[fz]
 by_cases cc:z.cps.toList[0]? = some 48∧1<z.length
 ·rw[decide_eq_true cc.1]
  walk_at"rd"
  refine rd_lenS zl ?_
  walk_at"rd"
  rw[decide_eq_true (show(1:Int)<z.length by omega)]
  walk_at"rd"
  refine no ?_
  unfold isNumB
  rw[decide_eq_true cc.1,decide_eq_false (show ¬ z=Str.ofString "0" from fun e=>by have:=(zero_iff.mp e).2;omega)];simp
 have hz:(decide (z=Str.ofString "0") || !decide (z.cps.toList[0]? = some 48))=true:=by
  by_cases c2:z.cps.toList[0]? = some 48
  ·rw[decide_eq_true (zero_iff.mpr ⟨c2,by
    have:¬ 1<z.length:=fun h=>cc ⟨c2,h⟩
    omega⟩)];rfl
  ·rw[decide_eq_false c2];simp
 rcases Classical.em (z.cps.toList[0]? = some 48) with c2|c2
 ·have hl1:¬(1:Int)<z.length:=fun h=>cc ⟨c2,by omega⟩
  rw[decide_eq_true c2]
  walk_at"rd"
  refine rd_lenS zl ?_
  walk_at"rd"
  rw[decide_eq_false hl1]
  walk_at"rd"
  refine⟨z,rfl,?_⟩
  refine for_str (fun i σ H'=>(∃x,σ=[some (.str z),some (.int lo),some (.int hi),x])∧H'=H∧((z.cps.toList.take i).all fun c=>decide (48≤c) && decide (c≤57))=true) ⟨⟨_,rfl⟩,rfl,rfl⟩ ?_ ?_
  ·rintro i c σ H' hi ⟨⟨y,rfl⟩,rfl,al⟩
   have hc:z.cps.toList[i]? = some c:=by rw[Array.getElem?_toList];exact hi
   walk_at"rd"
   refine⟨_,_,rfl,rfl,?_⟩
   rw[in_one,dig_mem]
   cases hb:(decide (48≤c) && decide (c≤57)) with
   | false =>
    walk_at"rd"
    refine no ?_
    have:digB z=false:=by
     unfold digB
     rw[List.all_eq_false]
     exact⟨c,List.mem_of_getElem? hc,by rw[hb];simp⟩
    unfold isNumB
    rw[this];simp
   | true =>
    walk_at"rd"
    exact⟨⟨_,rfl⟩,rfl,all_take al hc hb⟩
  ·rintro σ H' ⟨⟨y,rfl⟩,rfl,al⟩
   rw[show z.cps.size=z.cps.toList.length from(Array.length_toList).symm,List.take_length]at al
   have bn:isNumB z=true:=by
    unfold isNumB
    rw[decide_eq_true z1,decide_eq_true (by omega:z.length≤30),hz,show digB z=true from al];rfl
   have e:=numOf_dig z1 (by omega) al
   have zl2:z.length≤640:=by omega
   walk_at"rd"
   refine⟨_,_,rfl,e,zl2,?_⟩
   walk_at"rd"
   by_cases d1:lo≤numOf z
   ·rw[decide_eq_true d1]
    walk_at"rd"
    by_cases d2:numOf z≤hi
    ·rw[decide_eq_true d2]
     walk_at"rd"
     refine⟨_,_,rfl,e,zl2,?_⟩
     walk_at"rd"
     have er:rdNum z lo hi=some (numOf z):=by unfold rdNum;rw[if_pos ⟨bn,d1,d2⟩]
     rw[er]at q
     exact q
    ·rw[decide_eq_false d2]
     walk_at"rd"
     have er:rdNum z lo hi=none:=by unfold rdNum;rw[if_neg (fun h=>d2 h.2.2)]
     rw[er]at q
     exact q
   ·rw[decide_eq_false d1]
    walk_at"rd"
    have er:rdNum z lo hi=none:=by unfold rdNum;rw[if_neg (fun h=>d1 h.2.1)]
    rw[er]at q
    exact q
 ·rw[decide_eq_false c2]
  walk_at"rd"
  refine⟨z,rfl,?_⟩
  refine for_str (fun i σ H'=>(∃x,σ=[some (.str z),some (.int lo),some (.int hi),x])∧H'=H∧((z.cps.toList.take i).all fun c=>decide (48≤c) && decide (c≤57))=true) ⟨⟨_,rfl⟩,rfl,rfl⟩ ?_ ?_
  ·rintro i c σ H' hi ⟨⟨y,rfl⟩,rfl,al⟩
   have hc:z.cps.toList[i]? = some c:=by rw[Array.getElem?_toList];exact hi
   walk_at"rd"
   refine⟨_,_,rfl,rfl,?_⟩
   rw[in_one,dig_mem]
   cases hb:(decide (48≤c) && decide (c≤57)) with
   | false =>
    walk_at"rd"
    refine no ?_
    have:digB z=false:=by
     unfold digB
     rw[List.all_eq_false]
     exact⟨c,List.mem_of_getElem? hc,by rw[hb];simp⟩
    unfold isNumB
    rw[this];simp
   | true =>
    walk_at"rd"
    exact⟨⟨_,rfl⟩,rfl,all_take al hc hb⟩
  ·rintro σ H' ⟨⟨y,rfl⟩,rfl,al⟩
   rw[show z.cps.size=z.cps.toList.length from(Array.length_toList).symm,List.take_length]at al
   have bn:isNumB z=true:=by
    unfold isNumB
    rw[decide_eq_true z1,decide_eq_true (by omega:z.length≤30),hz,show digB z=true from al];rfl
   have e:=numOf_dig z1 (by omega) al
   have zl2:z.length≤640:=by omega
   walk_at"rd"
   refine⟨_,_,rfl,e,zl2,?_⟩
   walk_at"rd"
   by_cases d1:lo≤numOf z
   ·rw[decide_eq_true d1]
    walk_at"rd"
    by_cases d2:numOf z≤hi
    ·rw[decide_eq_true d2]
     walk_at"rd"
     refine⟨_,_,rfl,e,zl2,?_⟩
     walk_at"rd"
     have er:rdNum z lo hi=some (numOf z):=by unfold rdNum;rw[if_pos ⟨bn,d1,d2⟩]
     rw[er]at q
     exact q
    ·rw[decide_eq_false d2]
     walk_at"rd"
     have er:rdNum z lo hi=none:=by unfold rdNum;rw[if_neg (fun h=>d2 h.2.2)]
     rw[er]at q
     exact q
   ·rw[decide_eq_false d1]
    walk_at"rd"
    have er:rdNum z lo hi=none:=by unfold rdNum;rw[if_neg (fun h=>d1 h.2.1)]
    rw[er]at q
    exact q
theorem ok__law_read_entry {f:Addr}{fd:FuncData}(F:Fun K "_law_read_entry" "_law_read_entry" s__law_read_entry f fd) (mF:mg "_law_read_entry" = some (.ref f)) (bF:Binds K fd ["_law_text"] []) (T:Bl mg) (C__law_number:Cal P w K mg base "_law_number" ["_law_text", "_law_least", "_law_most"] 1 (sp__law_number K)):Cal P w K mg base "_law_read_entry" ["_law_text"] 2 (sp__law_read_entry K):=by
 refine Cal.of F mF bF sc__law_read_entry (fun vs H Q E h=>?_) (fun cdv A outer s H vs Q E hr h=>?_)
 ·obtain⟨z,rfl,_⟩:=h;rfl
 obtain⟨z,rfl,zl,q⟩:=h
 refine⟨_,(pss_cons (ps_asg (pe_bm PySem.F.plainAttrs_str PySem.F.slot_str_partition PySem.F.type_str_partition mt_part (pv 0) (pa_cons pe_str pa_nil stx_Constant)) (pg_tup rfl (pgs_cons (pg_name (i:=1) sc__law_read_entry.nd rfl (Or.inl rfl)) (pgs_cons (pg_name (i:=2) sc__law_read_entry.nd rfl (Or.inl rfl)) (pgs_cons (pg_name (i:=3) sc__law_read_entry.nd rfl (Or.inl rfl)) pgs_nil)))))
   (pss_cons (ps_set (i:=4) sc__law_read_entry.nd rfl (Or.inl rfl) (pcl C__law_number (hr.mono (by decide)) (pa_cons (pv 1) (pa_cons pe_int (pa_cons (pe_op op_sub (pe_powC (c:=1152921504606846976) (by decide +kernel) ⟨by decide,by decide,by decide⟩) pe_int) pa_nil stx_BinOp) stx_Constant) stx_Name)))
   (pss_cons (ps_if (PW.pt (pw_or (pt_cmpR op_isN (pv 4) pe_non (nomark _)) (pw_or (pt_cmpR op_eq (pv 2) pe_str (nomark _)) (pw_or1 (pt_not (pt_chain op_le op_le pe_int (pe_callB call_lenS rfl T.len bt_len (pa_cons (pv 3) pa_nil stx_Name)) pe_int)))))) (pss_one (ps_ret pe_non)) pss_nil)
   (pss_cons (ps_for PassesOwn.never rfl (pi_str (pv 3)) (pg_name (i:=5) sc__law_read_entry.nd rfl (Or.inl rfl)) (pss_one (ps_if (pt_cmpR op_notin_str (pv 5) pe_str (by with_unfolding_all rfl)) (pss_one (ps_ret pe_non)) pss_nil)))
   (pss_one (ps_ret (pe_tup (pa_cons (pv 4) (pa_cons (pv 3) pa_nil stx_Name) stx_Name)))))))),?_⟩
 rw[st__law_read_entry]
 walk_at"rd"
 refine⟨rfl,?_⟩
 walk_at"rd"
 refine⟨_,_,rfl,rfl,by decide,zl,fun t nt=>?_⟩
 obtain⟨l1,l3⟩:=part_len z 61
 have er:rdEnt z=if isNmB (Txt.partition z (sg 61)).2.2=true then(rdNum (Txt.partition z (sg 61)).1 0 1152921504606846975).map fun k=>(k,(Txt.partition z (sg 61)).2.2) else none:=rfl
 have ep:=part_eq z
 rw[s_eq]
 generalize hP:Txt.partition z (sg 61)=P at er l1 l3 ep ⊢
 obtain⟨k,e,th⟩:=P
 have er:rdEnt z=if isNmB th=true then(rdNum k 0 1152921504606846975).map fun k=>(k,th) else none:=er
 have ep:e=Str.ofString ""→th=Str.ofString "" := ep
 have l1:k.length≤z.length:=l1
 have l3:th.length≤z.length:=l3
 generalize hE:upd H t _=H1
 obtain⟨ht,s1⟩:=newo nt hE
 clear hE
 have no:rdEnt z=none→Q .non H1:=fun h=>by
  rw[h]at q
  exact q .non H1 .non s1
 walk_at"rd"
 refine⟨t,_,rfl,SqT.of ht,rfl,_,_,rfl,_,_,rfl,_,_,rfl,rfl,?_⟩
 walk_at"rd"
 refine⟨k,0,1152921504606846975,rfl,Nat.le_trans l1 zl,?_⟩
 cases hn:rdNum k 0 1152921504606846975 with
 | none =>
  walk_at"rd"
  refine⟨rfl,?_⟩
  rw[decide_eq_true (show optI none=V.non from rfl)]
  walk_at"rd"
  refine no ?_
  rw[er,hn];split <;> rfl
 | some n =>
  walk_at"rd"
  refine⟨rfl,?_⟩
  rw[decide_eq_false (show ¬ optI (some n)=V.non by intro h;cases h)]
  walk_at"rd"
  refine rd_eqZ ?_
  by_cases c1:e=Str.ofString ""
  ·rw[decide_eq_true c1]
   walk_at"rd"
   refine no ?_
   rw[er,ep c1];rfl
  rw[decide_eq_false c1]
  walk_at"rd"
  refine rd_lenS (Nat.le_trans l3 zl) ?_
  walk_at"rd"
  have bad:¬(1≤th.length∧th.length≤8)→rdEnt z=none:=fun h=>by
   rw[er,if_neg (fun hb=>h ⟨(isNm_nm hb).1,(isNm_nm hb).2.1⟩)]
  by_cases c2:(1:Int)≤th.length
  ·rw[decide_eq_true c2]
   walk_at"rd"
   by_cases c3:(th.length:Int)≤8
   ·rw[decide_eq_true c3]
    walk_at"rd"
    refine⟨th,rfl,?_⟩
    refine for_str (fun i σ H'=>(∃x,σ=[some (.str z),some (.str k),some (.str e),some (.str th),some (optI (some n)),x])∧H'=H1∧((th.cps.toList.take i).all fun c=>decide (97≤c) && decide (c≤122))=true) ⟨⟨_,rfl⟩,rfl,rfl⟩ ?_ ?_
    ·rintro i c σ H' hi ⟨⟨y,rfl⟩,rfl,al⟩
     have hc:th.cps.toList[i]? = some c:=by rw[Array.getElem?_toList];exact hi
     walk_at"rd"
     refine⟨_,_,rfl,rfl,?_⟩
     rw[in_one,let_mem]
     cases hb:(decide (97≤c) && decide (c≤122)) with
     | false =>
      walk_at"rd"
      refine no ?_
      have:letB th=false:=by
       unfold letB
       rw[List.all_eq_false]
       exact⟨c,List.mem_of_getElem? hc,by rw[hb];simp⟩
      rw[er]
      unfold isNmB
      rw[this];simp
     | true =>
      walk_at"rd"
      exact⟨⟨_,rfl⟩,rfl,all_take al hc hb⟩
    ·rintro σ H' ⟨⟨y,rfl⟩,rfl,al⟩
     rw[show th.cps.size=th.cps.toList.length from(Array.length_toList).symm,List.take_length]at al
     have bn:isNmB th=true:=by
      unfold isNmB
      rw[decide_eq_true (by omega:1≤th.length),decide_eq_true (by omega:th.length≤8),show letB th=true from al];rfl
     have e2:rdEnt z=some (n,th):=by rw[er,if_pos bn,hn];rfl
     rw[e2]at q
     walk_at"rd"
     refine⟨(by show 2≤sizeLine;decide),fun t2 nt2=>?_⟩
     generalize hE:upd H' t2 _=H4
     obtain⟨ht2,s4⟩:=newo nt2 hE
     clear hE
     walk_at"rd"
     exact q (.ref t2) H4 (.tup (SqT.of (nw_mk (s1.free nt2) ht2)) (.cons (.int _) (.cons (.str _) .nil))) (s1.trans s4)
   ·rw[decide_eq_false c3]
    walk_at"rd"
    exact no (bad fun h=>c3 (by omega))
  ·rw[decide_eq_false c2]
   walk_at"rd"
   exact no (bad fun h=>c2 (by omega))
theorem ok__law_read_row {f:Addr}{fd:FuncData}(F:Fun K "_law_read_row" "_law_read_row" s__law_read_row f fd) (mF:mg "_law_read_row" = some (.ref f)) (bF:Binds K fd ["_law_text"] []) (T:Bl mg) (C__law_read_entry:Cal P w K mg base "_law_read_entry" ["_law_text"] 2 (sp__law_read_entry K)):Cal P w K mg base "_law_read_row" ["_law_text"] 3 (sp__law_read_row K):=by
 refine Cal.of F mF bF sc__law_read_row (fun vs H Q E h=>?_) (fun cdv A outer s H vs Q E hr h=>?_)
 ·obtain⟨z,rfl,_⟩:=h;rfl
 obtain⟨z,rfl,zl,q⟩:=h
 have hu:=hr.units
 refine⟨_,(pss_cons (ps_if (pt_cmpR op_eq (pv 0) pe_str (nomark _)) (pss_one (ps_ret (pe_lst pa_nil))) pss_nil)
   (pss_cons (ps_setc (i:=1) sc__law_read_row.nd rfl rfl rfl (blkOk (sc:=defScope s__law_read_row) (N:=["_law_text", "_law_row_here"]) (vs:=["_law_part"]) (fs:=[]) (js:=[]) (by decide +kernel) rfl rfl) (pi_list (pe_bm PySem.F.plainAttrs_str PySem.F.slot_str_split PySem.F.type_str_split mt_split (pv 0) (pa_cons pe_str pa_nil stx_Constant))) (fun _ _ _ _=>pg_name (i:=0) (show(["_law_part"]:List Str).Nodup by decide +kernel) rfl (Or.inl rfl)) (fun _ _ _ _=>pif0) (fun _ _ _ _=>(pcl C__law_read_entry (hr.mono (by decide)) (pa_cons (pv 0) pa_nil stx_Name))))
   (pss_cons (ps_if (pt_cmpR (op_inN hu) pe_non (pv 1) (by with_unfolding_all rfl)) (pss_one (ps_ret pe_non)) pss_nil)
   (pss_one (ps_ret (pv 1)))))),?_⟩
 rw[st__law_read_row]
 walk_at"rd"
 rw[s_dash]
 refine rd_eqZ ?_
 walk_at"rd"
 refine rd_if (fun c=>?_) (fun c=>?_)
 ·walk_at"rd"
  refine⟨by decide,fun D nD=>?_⟩
  have er:rdRow z=some []:=by unfold rdRow;rw[if_pos c]
  rw[er]at q
  exact q _ _ (.lst (SqL.of (nw_mk nD upd_same)) .nil) (same_new nD _)
 ·have er:rdRow z=allS rdEnt (Txt.split z (sg 44)):=by unfold rdRow;rw[if_neg c]
  have sm:=split_many z 44
  have sl:∀p∈Txt.split z (sg 44),p.length≤z.length:=fun p hp=>split_len hp
  walk_at"rd"
  refine⟨rfl,?_⟩
  walk_at"rd"
  refine⟨_,_,rfl,rfl,by decide,zl,fun l nl=>?_⟩
  rw[s_comma]
  rw[er]at q
  clear er
  generalize Txt.split z (sg 44)=ps at q sm sl ⊢
  generalize hE:upd H l _=H1
  obtain⟨hl,s1⟩:=newo nl hE
  clear hE
  refine⟨l,rfl,⟨_,SqL.of hl⟩,fun D nD=>?_⟩
  refine comp_list (xs:=ps.map V.str) (fun i σ' ys H'=>(∃x,σ'=[x])∧Same H1 H'∧H' D=some (.lst ys)∧ys.length=i∧DVs K (nwD H D H') ys ((ps.take i).map fun p=>optD eD (rdEnt p))) D ⟨⟨_,rfl⟩,same_new nD _,upd_same,rfl,.nil⟩ (fun i σ' ys H' _ h=>SqL.of (h.2.1 _ _ hl)) ?_ ?_
  ·rintro i x σ' ys H2 hx ⟨⟨x1,rfl⟩,s2,hD,yl,dv⟩
   rw[List.getElem?_map]at hx
   cases he:ps[i]? with
   | none=>rw[he]at hx;cases hx
   | some p =>
    rw[he]at hx
    cases hx
    have il:=(List.getElem?_eq_some_iff.mp he).1
    have pl:=sl p (List.mem_of_getElem? he)
    walk_at"rd"
    refine⟨p,rfl,by omega,fun v H3 dve s3=>?_⟩
    refine⟨s3 _ _ hD,by omega,⟨_,rfl⟩,fun b o e=>by rw[upd_ne (ne_of_none e nD)];exact s3 _ _ (s2 _ _ e),upd_same,by rw[List.length_append,yl];rfl,?_⟩
    rw[take_get he,List.map_append]
    exact DVs.push dv s1 hD (.inl s2) s3 dve
  ·rintro σ' ys H2 ⟨⟨x1,rfl⟩,s2,hD,yl,dv⟩
   rw[List.length_map,List.take_length]at dv
   have s02:=s1.trans s2
   have an:=any_DVs (g:=eD) (fun x h=>by cases h) (DVs.outD dv)
   walk_at"rd"
   refine⟨D,ys,_,rfl,rfl,SqL.of hD,DVs.outD dv,?_⟩
   rw[show(if false=true then !ys.any isNonV else ys.any isNonV)=ys.any isNonV from rfl,an]
   cases ca:(ps.any fun x=>(rdEnt x).isNone) with
   | true =>
    rw[allS_no ca]at q
    walk_at"rd"
    exact q .non H2 .non s02
   | false =>
    obtain⟨es,e1,e2⟩:=allS_yes (g:=eD) ca
    rw[e1]at q
    rw[e2]at dv
    walk_at"rd"
    exact q (.ref D) H2 (DVs.done (s1.free nD) hD dv) s02
theorem ok__law_read_rows {f:Addr}{fd:FuncData}(F:Fun K "_law_read_rows" "_law_read_rows" s__law_read_rows f fd) (mF:mg "_law_read_rows" = some (.ref f)) (bF:Binds K fd ["_law_text"] []) (T:Bl mg) (C__law_read_row:Cal P w K mg base "_law_read_row" ["_law_text"] 3 (sp__law_read_row K)):Cal P w K mg base "_law_read_rows" ["_law_text"] 4 (sp__law_read_rows K):=by
 refine Cal.of F mF bF sc__law_read_rows (fun vs H Q E h=>?_) (fun cdv A outer s H vs Q E hr h=>?_)
 ·obtain⟨z,rfl,_⟩:=h;rfl
 obtain⟨z,rfl,zl,q⟩:=h
 have hu:=hr.units
 refine⟨_,(pss_cons (ps_if (pt_cmpR op_eq (pv 0) pe_str (nomark _)) (pss_one (ps_ret (pe_lst pa_nil))) pss_nil)
   (pss_cons (ps_setc (i:=1) sc__law_read_rows.nd rfl rfl rfl (blkOk (sc:=defScope s__law_read_rows) (N:=["_law_text", "_law_rows_here"]) (vs:=["_law_part"]) (fs:=[]) (js:=[]) (by decide +kernel) rfl rfl) (pi_list (pe_bm PySem.F.plainAttrs_str PySem.F.slot_str_split PySem.F.type_str_split mt_split (pv 0) (pa_cons pe_str pa_nil stx_Constant))) (fun _ _ _ _=>pg_name (i:=0) (show(["_law_part"]:List Str).Nodup by decide +kernel) rfl (Or.inl rfl)) (fun _ _ _ _=>pif0) (fun _ _ _ _=>(pcl C__law_read_row (hr.mono (by decide)) (pa_cons (pv 0) pa_nil stx_Name))))
   (pss_cons (ps_if (pt_cmpR (op_inN hu) pe_non (pv 1) (by with_unfolding_all rfl)) (pss_one (ps_ret pe_non)) pss_nil)
   (pss_one (ps_ret (pv 1)))))),?_⟩
 rw[st__law_read_rows]
 walk_at"rd"
 refine rd_eqZ ?_
 walk_at"rd"
 refine rd_if (fun c=>?_) (fun c=>?_)
 ·walk_at"rd"
  refine⟨by decide,fun D nD=>?_⟩
  have er:rdRows z=some []:=by unfold rdRows;rw[if_pos c]
  rw[er]at q
  exact q _ _ (.lst (SqL.of (nw_mk nD upd_same)) .nil) (same_new nD _)
 ·have er:rdRows z=allS rdRow (Txt.split z (sg 59)):=by unfold rdRows;rw[if_neg c]
  have sm:=split_many z 59
  have sl:∀p∈Txt.split z (sg 59),p.length≤z.length:=fun p hp=>split_len hp
  walk_at"rd"
  refine⟨rfl,?_⟩
  walk_at"rd"
  refine⟨_,_,rfl,rfl,by decide,zl,fun l nl=>?_⟩
  rw[s_semi]
  rw[er]at q
  clear er
  generalize Txt.split z (sg 59)=ps at q sm sl ⊢
  generalize hE:upd H l _=H1
  obtain⟨hl,s1⟩:=newo nl hE
  clear hE
  refine⟨l,rfl,⟨_,SqL.of hl⟩,fun D nD=>?_⟩
  refine comp_list (xs:=ps.map V.str) (fun i σ' ys H'=>(∃x,σ'=[x])∧Same H1 H'∧H' D=some (.lst ys)∧ys.length=i∧DVs K (nwD H D H') ys ((ps.take i).map fun p=>optD rowD (rdRow p))) D ⟨⟨_,rfl⟩,same_new nD _,upd_same,rfl,.nil⟩ (fun i σ' ys H' _ h=>SqL.of (h.2.1 _ _ hl)) ?_ ?_
  ·rintro i x σ' ys H2 hx ⟨⟨x1,rfl⟩,s2,hD,yl,dv⟩
   rw[List.getElem?_map]at hx
   cases he:ps[i]? with
   | none=>rw[he]at hx;cases hx
   | some p =>
    rw[he]at hx
    cases hx
    have il:=(List.getElem?_eq_some_iff.mp he).1
    have pl:=sl p (List.mem_of_getElem? he)
    walk_at"rd"
    refine⟨p,rfl,by omega,fun v H3 dve s3=>?_⟩
    refine⟨s3 _ _ hD,by omega,⟨_,rfl⟩,fun b o e=>by rw[upd_ne (ne_of_none e nD)];exact s3 _ _ (s2 _ _ e),upd_same,by rw[List.length_append,yl];rfl,?_⟩
    rw[take_get he,List.map_append]
    exact DVs.push dv s1 hD (.inl s2) s3 dve
  ·rintro σ' ys H2 ⟨⟨x1,rfl⟩,s2,hD,yl,dv⟩
   rw[List.length_map,List.take_length]at dv
   have s02:=s1.trans s2
   have an:=any_DVs (g:=rowD) (fun x h=>by cases h) (DVs.outD dv)
   walk_at"rd"
   refine⟨D,ys,_,rfl,rfl,SqL.of hD,DVs.outD dv,?_⟩
   rw[show(if false=true then !ys.any isNonV else ys.any isNonV)=ys.any isNonV from rfl,an]
   cases ca:(ps.any fun x=>(rdRow x).isNone) with
   | true =>
    rw[allS_no ca]at q
    walk_at"rd"
    exact q .non H2 .non s02
   | false =>
    obtain⟨es,e1,e2⟩:=allS_yes (g:=rowD) ca
    rw[e1]at q
    rw[e2]at dv
    walk_at"rd"
    exact q (.ref D) H2 (DVs.done (s1.free nD) hD dv) s02
theorem ok__law_read_step {f:Addr}{fd:FuncData}(F:Fun K "_law_read_step" "_law_read_step" s__law_read_step f fd) (mF:mg "_law_read_step" = some (.ref f)) (bF:Binds K fd ["_law_text"] []) (T:Bl mg) (C__law_number:Cal P w K mg base "_law_number" ["_law_text", "_law_least", "_law_most"] 1 (sp__law_number K)) (C__law_read_row:Cal P w K mg base "_law_read_row" ["_law_text"] 3 (sp__law_read_row K)):Cal P w K mg base "_law_read_step" ["_law_text"] 4 (sp__law_read_step K):=by
 refine Cal.of F mF bF sc__law_read_step (fun vs H Q E h=>?_) (fun cdv A outer s H vs Q E hr h=>?_)
 ·obtain⟨z,rfl,_⟩:=h;rfl
 obtain⟨z,rfl,zl,q⟩:=h
 have hu:=hr.units
 have sl:∀p∈Txt.split z (sg 32),p.length≤z.length:=fun p hp=>split_len hp
 have er:rdStep z=rdStepW (Txt.split z (sg 32)):=rfl
 have sn:=split_ne z 32
 have sm:=split_many z 32
 refine⟨_,(pss_cons (ps_set (i:=1) sc__law_read_step.nd rfl (Or.inr rfl) (pe_bm PySem.F.plainAttrs_str PySem.F.slot_str_split PySem.F.type_str_split mt_split (pv 0) (pa_cons pe_str pa_nil stx_Constant)))
   (pss_cons (ps_setc (i:=2) sc__law_read_step.nd rfl rfl rfl (blkOk (sc:=defScope s__law_read_step) (N:=["_law_text", "_law_words", "_law_numbers"]) (vs:=["_law_word"]) (fs:=["_law_words"]) (js:=[1]) (by decide +kernel) rfl rfl) (pi_list (pe_slice sl_list (pv 1) (po_some pe_int) (po_some pe_int))) (fun _ _ _ _=>pg_name (i:=0) (show(["_law_word", "_law_words"]:List Str).Nodup by decide +kernel) rfl (Or.inl rfl)) (fun _ _ _ _=>pif0) (fun _ _ _ _=>(pcl C__law_number (hr.mono (by decide)) (pa_cons (pv 0) (pa_cons (pe_callTy call_intB rfl T.int bt_int (pa_cons (pe_cmpR op_eq (pe_ix (ix_listK (K:=K) rfl) (pv 1) pe_int (fun _ _=>rfl)) pe_str (nomark _)) pa_nil stx_Compare)) (pa_cons pe_int pa_nil stx_Constant) stx_Call) stx_Name))))
   (pss_cons (ps_if (PW.pt (pw_and (pt_cmpR op_eq (pe_ix ix_list (pv 1) pe_int (fun _ _=>rfl)) pe_str (nomark _)) (pw_and (pt_cmpR op_eq (pe_callB call_lenL rfl T.len bt_len (pa_cons (pv 1) pa_nil stx_Name)) pe_int (nomark _)) (pw_and (pt_cmpR (op_notInN hu) pe_non (pv 2) (by with_unfolding_all rfl)) (pw_and1 (pt_cmpR op_notN (pcl C__law_read_row (hr.mono (by decide)) (pa_cons (pe_ix ix_list (pv 1) pe_int (fun _ _=>rfl)) pa_nil stx_Subscript)) pe_non (nomark _))))))) (pss_one (ps_ret (pe_tup (pa_cons pe_str (pa_cons (pe_ix ix_list (pv 2) pe_int (fun _ _=>rfl)) (pa_cons (pe_ix ix_list (pv 2) pe_int (fun _ _=>rfl)) (pa_cons (pcl C__law_read_row (hr.mono (by decide)) (pa_cons (pe_ix ix_list (pv 1) pe_int (fun _ _=>rfl)) pa_nil stx_Subscript)) pa_nil stx_Call) stx_Subscript) stx_Subscript) stx_Constant)))) pss_nil)
   (pss_cons (ps_if (PW.pt (pw_and (pt_cmpR op_eq (pe_ix ix_list (pv 1) pe_int (fun _ _=>rfl)) pe_str (nomark _)) (pw_and (pt_cmpR op_eq (pe_callB call_lenL rfl T.len bt_len (pa_cons (pv 1) pa_nil stx_Name)) pe_int (nomark _)) (pw_and1 (pt_cmpR (op_notInN hu) pe_non (pv 2) (by with_unfolding_all rfl)))))) (pss_one (ps_ret (pe_tup (pa_cons pe_str (pa_cons (pe_ix ix_list (pv 2) pe_int (fun _ _=>rfl)) (pa_cons (pe_ix ix_list (pv 2) pe_int (fun _ _=>rfl)) pa_nil stx_Subscript) stx_Subscript) stx_Constant)))) pss_nil)
   (pss_cons (ps_if (PW.pt (pw_and (pt_cmpR op_eq (pe_ix ix_list (pv 1) pe_int (fun _ _=>rfl)) pe_str (nomark _)) (pw_and (pt_cmpR op_eq (pe_callB call_lenL rfl T.len bt_len (pa_cons (pv 1) pa_nil stx_Name)) pe_int (nomark _)) (pw_and1 (pt_cmpR (op_notInN hu) pe_non (pv 2) (by with_unfolding_all rfl)))))) (pss_one (ps_ret (pe_tup (pa_cons pe_str (pa_cons (pe_ix ix_list (pv 2) pe_int (fun _ _=>rfl)) pa_nil stx_Subscript) stx_Constant)))) pss_nil)
   (pss_one (ps_ret pe_non))))))),?_⟩
 rw[st__law_read_step]
 walk_at"rd"
 refine⟨rfl,?_⟩
 walk_at"rd"
 refine⟨_,_,rfl,rfl,by decide,zl,fun l nl=>?_⟩
 rw[s_sp]
 rw[er]at q
 clear er
 generalize Txt.split z (sg 32)=ps at q sl sn sm ⊢
 generalize hE:upd H l _=H1
 obtain⟨hl,s1⟩:=newo nl hE
 clear hE
 cases ps with
 | nil=>exact absurd rfl sn
 | cons k ws =>
 walk_at"rd"
 refine rd_slL (SqL.of hl) fun l2 nl2=>?_
 rw[words13]
 generalize hE:upd H1 l2 _=H2
 obtain⟨hl2,s2⟩:=newo nl2 hE
 clear hE
 have s12:=s1.trans s2
 refine⟨l2,rfl,⟨_,SqL.of hl2⟩,fun D nD=>?_⟩
 refine comp_list (xs:=(ws.take 2).map V.str) (fun i σ' ys H'=>(∃x,σ'=[x,some (.ref l)])∧Same H2 H'∧H' D=some (.lst ys)∧ys =((ws.take 2).take i).map (fun w=>optI (rdNum w (if k=wRooms then 1 else 0) 130))) D ⟨⟨_,rfl⟩,same_new nD _,upd_same,rfl⟩ (fun i σ' ys H' _ h=>SqL.of (h.2.1 _ _ hl2)) ?_ ?_
 ·rintro i x σ' ys H3 hx ⟨⟨x1,rfl⟩,s3,hD,rfl⟩
  rw[List.getElem?_map]at hx
  cases he:(ws.take 2)[i]? with
  | none=>rw[he]at hx;cases hx
  | some p =>
   rw[he]at hx
   cases hx
   have il:=(List.getElem?_eq_some_iff.mp he).1
   have pl:=sl p (List.mem_cons_of_mem _ (List.mem_of_mem_take (List.mem_of_getElem? he)))
   have hl3:=s3 _ _ (s2 _ _ hl)
   walk_at"rd"
   refine rd_ixL (SqL.of hl3) (v:=.str k) (atI_nat (j:=0) rfl) ?_
   walk_at"rd"
   refine rd_eqZ ?_
   walk_at"rd"
   refine⟨p,_,130,rfl,by omega,?_⟩
   have elo:(if decide (k=Str.ofString "rooms")=true then(1:Int) else 0)=if k=wRooms then 1 else 0:=by
    by_cases c:k=wRooms
    ·rw[if_pos c,decide_eq_true (show k=Str.ofString "rooms" from c)];rfl
    ·rw[if_neg c,decide_eq_false (show ¬ k=Str.ofString "rooms" from c)];rfl
   rw[elo]
   refine⟨hD,by rw[List.length_map,List.length_take,List.length_take];exact small1000 (by omega),⟨_,rfl⟩,fun b o e=>by rw[upd_ne (ne_of_none e nD)];exact s3 _ _ e,upd_same,?_⟩
   rw[take_get he,List.map_append];rfl
 ·rintro σ' ys H3 ⟨⟨x1,rfl⟩,s3,hD,rfl⟩
  have s03:=s12.trans s3
  have hl3:=s3 _ _ (s2 _ _ hl)
  rw[List.length_map,List.take_length]at hD
  have no:rdStepW (k::ws)=none→∀H',Same H H'→Q .non H':=fun h H' s'=>by
   rw[h]at q
   exact q .non H' .non s'
  have hix:atI ((k::ws).map V.str) 0=some (.str k):=atI_nat (j:=0) rfl
  by_cases c1:k=wRow
  ·subst c1
   have nc:¬ wRow=Str.ofString "cut" := by decide
   have nr:¬ wRow=Str.ofString "rooms" := by decide
   rw[if_neg (show ¬ wRow=wRooms by decide)]at hD
   walk_at"rd"
   try (refine rd_ixL (SqL.of hl3) hix ?_;walk_at"rd")
   refine rd_eqZ ?_
   rw[decide_eq_true (show wRow=Str.ofString "row" from rfl)]
   walk_at"rd"
   refine rd_if (fun c=>?_) (fun c=>?_)
   ·rw[List.length_map]at c
    match ws,(show ws.length=3 by simp at c;omega) with
    | [a,b,r],_ =>
    have lr:=sl r (by simp)
    have er:rdStepW [wRow,a,b,r]=match rdNum a 0 130,rdNum b 0 130,rdRow r with
     | some x,some y,some es=>some (.tuple [.str wRow,.int x,.int y,rowD es])
     | _,_,_=>none:=by simp only[rdStepW];rw[if_pos trivial]
    have hix3:atI ([wRow,a,b,r].map V.str) 3=some (.str r):=atI_nat (j:=3) rfl
    walk_at"rd"
    refine⟨D,_,_,rfl,rfl,SqL.of hD,DVs.optIs _,?_⟩
    rw[show(if true=true then !(([a,b,r].take 2).map fun w=>optI (rdNum w 0 130)).any isNonV else(([a,b,r].take 2).map fun w=>optI (rdNum w 0 130)).any isNonV) = !((rdNum a 0 130).isNone || ((rdNum b 0 130).isNone || false)) from by rw[if_pos rfl];show(!([optI (rdNum a 0 130),optI (rdNum b 0 130)].any isNonV))=_;rw[List.any_cons,List.any_cons,List.any_nil,isNon_optI,isNon_optI]]
    have hD:H3 D=some (.lst [optI (rdNum a 0 130),optI (rdNum b 0 130)]):=hD
    cases ha:rdNum a 0 130 with
    | none =>
     have e0:rdStepW [wRow,a,b,r]=none:=by rw[er,ha]
     rw[show(!((none:Option Int).isNone || ((rdNum b 0 130).isNone || false)))=false from rfl]
     walk_at"rd"
     try (refine rd_ixL (SqL.of hl3) hix ?_;walk_at"rd")
     refine rd_eqZ ?_
     rw[decide_eq_false nc]
     walk_at"rd"
     try (refine rd_ixL (SqL.of hl3) hix ?_;walk_at"rd")
     refine rd_eqZ ?_
     rw[decide_eq_false nr]
     walk_at"rd"
     exact no e0 H3 s03
    | some x =>
    cases hb:rdNum b 0 130 with
    | none =>
     have e0:rdStepW [wRow,a,b,r]=none:=by rw[er,ha,hb]
     rw[show(!((some x:Option Int).isNone || ((none:Option Int).isNone || false)))=false from rfl]
     walk_at"rd"
     try (refine rd_ixL (SqL.of hl3) hix ?_;walk_at"rd")
     refine rd_eqZ ?_
     rw[decide_eq_false nc]
     walk_at"rd"
     try (refine rd_ixL (SqL.of hl3) hix ?_;walk_at"rd")
     refine rd_eqZ ?_
     rw[decide_eq_false nr]
     walk_at"rd"
     exact no e0 H3 s03
    | some y =>
    rw[ha,hb]at hD
    rw[show(!((some x:Option Int).isNone || ((some y:Option Int).isNone || false)))=true from rfl]
    walk_at"rd"
    try (refine rd_ixL (SqL.of hl3) hix3 ?_;walk_at"rd")
    refine⟨r,rfl,by omega,fun v H4 dv s4=>?_⟩
    have hl4:=s4 _ _ hl3
    have hD4:=s4 _ _ hD
    cases hrow:rdRow r with
    | none =>
     have e0:rdStepW [wRow,a,b,r]=none:=by rw[er,ha,hb,hrow]
     rw[hrow]at dv
     have ev:v = .non:=by
      have dv:DV K (nw H3 H4) v .none:=dv
      cases dv;rfl
     subst ev
     walk_at"rd"
     refine⟨rfl,?_⟩
     rw[decide_eq_true (show V.non=V.non from rfl)]
     walk_at"rd"
     try (refine rd_ixL (SqL.of hl4) hix ?_;walk_at"rd")
     refine rd_eqZ ?_
     rw[decide_eq_false nc]
     walk_at"rd"
     try (refine rd_ixL (SqL.of hl4) hix ?_;walk_at"rd")
     refine rd_eqZ ?_
     rw[decide_eq_false nr]
     walk_at"rd"
     exact no e0 H4 (s03.trans s4)
    | some es =>
     have e0:rdStepW [wRow,a,b,r]=some (.tuple [.str wRow,.int x,.int y,rowD es]):=by rw[er,ha,hb,hrow]
     rw[hrow]at dv
     have ev:¬ v = .non:=by
      have dv:DV K (nw H3 H4) v (.list (es.map eD)):=dv
      cases dv
      intro h;cases h
     walk_at"rd"
     refine⟨rfl,?_⟩
     rw[decide_eq_false ev]
     walk_at"rd"
     try (refine rd_ixL (SqL.of hD4) (v:=.int x) rfl ?_;walk_at"rd")
     try (refine rd_ixL (SqL.of hD4) (v:=.int y) rfl ?_;walk_at"rd")
     try (refine rd_ixL (SqL.of hl4) hix3 ?_;walk_at"rd")
     refine⟨r,rfl,by omega,fun v2 H5 dv2 s5=>?_⟩
     rw[hrow]at dv2
     walk_at"rd"
     refine⟨(by show 4≤sizeLine;decide),fun t nt=>?_⟩
     generalize hE:upd H5 t _=H6
     obtain⟨ht,s6⟩:=newo nt hE
     clear hE
     have s05:=s03.trans (s4.trans s5)
     walk_at"rd"
     rw[e0]at q
     exact q (.ref t) H6 (.tup (SqT.of (nw_mk (s05.free nt) ht)) (.cons (.str _) (.cons (.int _) (.cons (.int _) (.cons (DV.up (s03.trans s4) s6 dv2) .nil))))) (s05.trans s6)
   ·rw[List.length_map]at c
    walk_at"rd"
    try (refine rd_ixL (SqL.of hl3) hix ?_;walk_at"rd")
    refine rd_eqZ ?_
    rw[decide_eq_false nc]
    walk_at"rd"
    try (refine rd_ixL (SqL.of hl3) hix ?_;walk_at"rd")
    refine rd_eqZ ?_
    rw[decide_eq_false nr]
    walk_at"rd"
    exact no (stepW_no (fun h=>c (by simp;omega)) (fun h=>absurd h.1 (by decide)) (fun h=>absurd h.1 (by decide))) H3 s03
  walk_at"rd"
  try (refine rd_ixL (SqL.of hl3) hix ?_;walk_at"rd")
  refine rd_eqZ ?_
  rw[decide_eq_false (show ¬ k=Str.ofString "row" from c1)]
  walk_at"rd"
  try (refine rd_ixL (SqL.of hl3) hix ?_;walk_at"rd")
  refine rd_eqZ ?_
  by_cases c2:k=wCut
  ·subst c2
   have nr:¬ wCut=Str.ofString "rooms" := by decide
   rw[if_neg (show ¬ wCut=wRooms by decide)]at hD
   rw[decide_eq_true (show wCut=Str.ofString "cut" from rfl)]
   walk_at"rd"
   refine rd_if (fun c=>?_) (fun c=>?_)
   ·rw[List.length_map]at c
    match ws,(show ws.length=2 by simp at c;omega) with
    | [a,b],_ =>
    have er:rdStepW [wCut,a,b]=match rdNum a 0 130,rdNum b 0 130 with
     | some x,some y=>some (.tuple [.str wCut,.int x,.int y])
     | _,_=>none:=by simp only[rdStepW];rw[if_pos trivial]
    walk_at"rd"
    refine⟨D,_,_,rfl,rfl,SqL.of hD,DVs.optIs _,?_⟩
    rw[show(if true=true then !(([a,b].take 2).map fun w=>optI (rdNum w 0 130)).any isNonV else(([a,b].take 2).map fun w=>optI (rdNum w 0 130)).any isNonV) = !((rdNum a 0 130).isNone || ((rdNum b 0 130).isNone || false)) from by rw[if_pos rfl];show(!([optI (rdNum a 0 130),optI (rdNum b 0 130)].any isNonV))=_;rw[List.any_cons,List.any_cons,List.any_nil,isNon_optI,isNon_optI]]
    have hD:H3 D=some (.lst [optI (rdNum a 0 130),optI (rdNum b 0 130)]):=hD
    cases ha:rdNum a 0 130 with
    | none =>
     have e0:rdStepW [wCut,a,b]=none:=by rw[er,ha]
     rw[show(!((none:Option Int).isNone || ((rdNum b 0 130).isNone || false)))=false from rfl]
     walk_at"rd"
     try (refine rd_ixL (SqL.of hl3) hix ?_;walk_at"rd")
     refine rd_eqZ ?_
     rw[decide_eq_false nr]
     walk_at"rd"
     exact no e0 H3 s03
    | some x =>
    cases hb:rdNum b 0 130 with
    | none =>
     have e0:rdStepW [wCut,a,b]=none:=by rw[er,ha,hb]
     rw[show(!((some x:Option Int).isNone || ((none:Option Int).isNone || false)))=false from rfl]
     walk_at"rd"
     try (refine rd_ixL (SqL.of hl3) hix ?_;walk_at"rd")
     refine rd_eqZ ?_
     rw[decide_eq_false nr]
     walk_at"rd"
     exact no e0 H3 s03
    | some y =>
    rw[ha,hb]at hD
    have e0:rdStepW [wCut,a,b]=some (.tuple [.str wCut,.int x,.int y]):=by rw[er,ha,hb]
    rw[show(!((some x:Option Int).isNone || ((some y:Option Int).isNone || false)))=true from rfl]
    walk_at"rd"
    try (refine rd_ixL (SqL.of hD) (v:=.int x) rfl ?_;walk_at"rd")
    try (refine rd_ixL (SqL.of hD) (v:=.int y) rfl ?_;walk_at"rd")
    refine⟨(by show 3≤sizeLine;decide),fun t nt=>?_⟩
    generalize hE:upd H3 t _=H6
    obtain⟨ht,s6⟩:=newo nt hE
    clear hE
    walk_at"rd"
    rw[e0]at q
    exact q (.ref t) H6 (.tup (SqT.of (nw_mk (s03.free nt) ht)) (.cons (.str _) (.cons (.int _) (.cons (.int _) .nil)))) (s03.trans s6)
   ·rw[List.length_map]at c
    walk_at"rd"
    try (refine rd_ixL (SqL.of hl3) hix ?_;walk_at"rd")
    refine rd_eqZ ?_
    rw[decide_eq_false nr]
    walk_at"rd"
    exact no (stepW_no (fun h=>absurd h.1 (by decide)) (fun h=>c (by simp;omega)) (fun h=>absurd h.1 (by decide))) H3 s03
  rw[decide_eq_false (show ¬ k=Str.ofString "cut" from c2)]
  walk_at"rd"
  try (refine rd_ixL (SqL.of hl3) hix ?_;walk_at"rd")
  refine rd_eqZ ?_
  by_cases c3:k=wRooms
  ·subst c3
   rw[if_pos rfl]at hD
   rw[decide_eq_true (show wRooms=Str.ofString "rooms" from rfl)]
   walk_at"rd"
   refine rd_if (fun c=>?_) (fun c=>?_)
   ·rw[List.length_map]at c
    match ws,(show ws.length=1 by simp at c;omega) with
    | [a],_ =>
    have er:rdStepW [wRooms,a] =(rdNum a 1 130).map fun x=>.tuple [.str wRooms,.int x]:=by simp only[rdStepW];rw[if_pos trivial]
    walk_at"rd"
    refine⟨D,_,_,rfl,rfl,SqL.of hD,DVs.optIs _,?_⟩
    rw[show(if true=true then !(([a].take 2).map fun w=>optI (rdNum w 1 130)).any isNonV else(([a].take 2).map fun w=>optI (rdNum w 1 130)).any isNonV) = !((rdNum a 1 130).isNone || false) from by rw[if_pos rfl];show(!([optI (rdNum a 1 130)].any isNonV))=_;rw[List.any_cons,List.any_nil,isNon_optI]]
    have hD:H3 D=some (.lst [optI (rdNum a 1 130)]):=hD
    cases ha:rdNum a 1 130 with
    | none =>
     have e0:rdStepW [wRooms,a]=none:=by rw[er,ha];rfl
     rw[show(!((none:Option Int).isNone || false))=false from rfl]
     walk_at"rd"
     exact no e0 H3 s03
    | some x =>
    rw[ha]at hD
    have e0:rdStepW [wRooms,a]=some (.tuple [.str wRooms,.int x]):=by rw[er,ha];rfl
    rw[show(!((some x:Option Int).isNone || false))=true from rfl]
    walk_at"rd"
    try (refine rd_ixL (SqL.of hD) (v:=.int x) rfl ?_;walk_at"rd")
    refine⟨(by show 2≤sizeLine;decide),fun t nt=>?_⟩
    generalize hE:upd H3 t _=H6
    obtain⟨ht,s6⟩:=newo nt hE
    clear hE
    walk_at"rd"
    rw[e0]at q
    exact q (.ref t) H6 (.tup (SqT.of (nw_mk (s03.free nt) ht)) (.cons (.str _) (.cons (.int _) .nil))) (s03.trans s6)
   ·rw[List.length_map]at c
    walk_at"rd"
    exact no (stepW_no (fun h=>absurd h.1 (by decide)) (fun h=>absurd h.1 (by decide)) (fun h=>c (by simp;omega))) H3 s03
  rw[decide_eq_false (show ¬ k=Str.ofString "rooms" from c3)]
  walk_at"rd"
  exact no (stepW_no (fun h=>c1 h.1) (fun h=>c2 h.1) (fun h=>c3 h.1)) H3 s03
theorem ok__law_read_yard {f:Addr}{fd:FuncData}(F:Fun K "_law_read_yard" "_law_read_yard" s__law_read_yard f fd) (mF:mg "_law_read_yard" = some (.ref f)) (bF:Binds K fd ["_law_text"] []) (T:Bl mg) (C__law_number:Cal P w K mg base "_law_number" ["_law_text", "_law_least", "_law_most"] 1 (sp__law_number K)) (C__law_read_rows:Cal P w K mg base "_law_read_rows" ["_law_text"] 4 (sp__law_read_rows K)):Cal P w K mg base "_law_read_yard" ["_law_text"] 5 (sp__law_read_yard K):=by
 refine Cal.of F mF bF sc__law_read_yard (fun vs H Q E h=>?_) (fun cdv A outer s H vs Q E hr h=>?_)
 ·obtain⟨z,rfl,_⟩:=h;rfl
 obtain⟨z,rfl,zl,q⟩:=h
 have hu:=hr.units
 have sl:∀p∈Txt.split z (sg 32),p.length≤z.length:=fun p hp=>split_len hp
 have er:rdYard z=rdYardW (Txt.split z (sg 32)):=rfl
 have sm:=split_many z 32
 refine⟨_,(pss_cons (ps_set (i:=1) sc__law_read_yard.nd rfl (Or.inl rfl) (pe_bm PySem.F.plainAttrs_str PySem.F.slot_str_split PySem.F.type_str_split mt_split (pv 0) (pa_cons pe_str pa_nil stx_Constant)))
   (pss_cons (ps_if (pt_cmpR op_lt (pe_callB call_lenL rfl T.len bt_len (pa_cons (pv 1) pa_nil stx_Name)) pe_int (nomark _)) (pss_one (ps_ret pe_non)) pss_nil)
   (pss_cons (ps_par (i:=2) (j:=3) rfl sc__law_read_yard.nd rfl rfl (by decide) rfl rfl (pa_cons (pcl C__law_number (hr.mono (by decide)) (pa_cons (pe_ix ix_list (pv 1) pe_int (fun _ _=>rfl)) (pa_cons pe_int (pa_cons pe_int pa_nil stx_Constant) stx_Constant) stx_Subscript)) (pa_cons (pcl C__law_number (hr.mono (by decide)) (pa_cons (pe_ix ix_list (pv 1) pe_int (fun _ _=>rfl)) (pa_cons pe_int (pa_cons pe_int pa_nil stx_Constant) stx_Constant) stx_Subscript)) pa_nil stx_Call) stx_Call) rfl)
   (pss_cons (ps_setc (i:=4) sc__law_read_yard.nd rfl rfl rfl (blkOk (sc:=defScope s__law_read_yard) (N:=["_law_text", "_law_words", "_law_wide", "_law_rooms", "_law_held"]) (vs:=["_law_word"]) (fs:=[]) (js:=[]) (by decide +kernel) rfl rfl) (pi_list (pe_slice sl_list (pv 1) (po_some pe_int) po_none)) (fun _ _ _ _=>pg_name (i:=0) (show(["_law_word"]:List Str).Nodup by decide +kernel) rfl (Or.inl rfl)) (fun _ _ _ _=>pif0) (fun _ _ _ _=>(pcl C__law_read_rows (hr.mono (by decide)) (pa_cons (pv 0) pa_nil stx_Name))))
   (pss_cons (ps_if (PW.pt (pw_or (pt_cmpR op_isN (pv 2) pe_non (nomark _)) (pw_or (pt_cmpR op_isN (pv 3) pe_non (nomark _)) (pw_or (pt_cmpR (op_inN hu) pe_non (pv 4) (by with_unfolding_all rfl)) (pw_or1 (PW.pt (pw_and (pt_cmpR (op_neD hu) (pv 4) (pe_lst pa_nil) (nomark _)) (pw_and1 (pt_cmpR (op_eqE hu) (pe_ix ix_list (pv 4) (pe_un un_neg pe_int) (fun _ _=>rfl)) (pe_lst pa_nil) (nomark _)))))))))) (pss_one (ps_ret pe_non)) pss_nil)
   (pss_one (ps_ret (pe_tup (pa_cons (pv 2) (pa_cons (pv 3) (pa_cons (pv 4) pa_nil stx_Name) stx_Name) stx_Name))))))))),?_⟩
 rw[st__law_read_yard]
 walk_at"rd"
 refine⟨rfl,?_⟩
 walk_at"rd"
 refine⟨_,_,rfl,rfl,by decide,zl,fun l nl=>?_⟩
 rw[s_sp]
 rw[er]at q
 clear er
 generalize Txt.split z (sg 32)=ps at q sl sm ⊢
 generalize hE:upd H l _=H1
 obtain⟨hl,s1⟩:=newo nl hE
 clear hE
 walk_at"rd"
 refine rd_if (fun c=>?_) (fun c=>?_)
 ·walk_at"rd"
  rw[List.length_map]at c
  have e0:rdYardW ps=none:=by
   match ps,c with
   | [],_=>rfl
   | [_],_=>rfl
   | _::_::_,c=>simp at c;omega
  rw[e0]at q
  exact q .non H1 .non s1
 rw[List.length_map]at c
 match ps,c with
 | [],c=>exact absurd (by simp:((([]:List Str).length:Nat):Int)<2) c
 | [x],c=>exact absurd (by simp:((([x]:List Str).length:Nat):Int)<2) c
 | w::r::ws,c =>
 clear c
 have lw:=sl w (by simp)
 have lr:=sl r (by simp)
 have sl2:∀p∈ws,p.length≤z.length:=fun p hp=>sl p (List.mem_cons_of_mem _ (List.mem_cons_of_mem _ hp))
 have wl:ws.length≤z.length:=by simp at sm;omega
 have er:rdYardW (w::r::ws)=match rdNum w 1 8,rdNum r 1 130,allS rdRows ws with
  | some x,some y,some hs=>if hs.getLast? = some [] then none else some (.tuple [.int x,.int y,heldD hs])
  | _,_,_=>none:=rfl
 walk_at"rd"
 refine rd_par92 ?_
 walk_at"rd"
 refine rd_ixL (SqL.of hl) (v:=.str w) (atI_nat (j:=0) rfl) ?_
 walk_at"rd"
 refine⟨w,1,8,rfl,by omega,?_⟩
 walk_at"rd"
 refine rd_ixL (SqL.of hl) (v:=.str r) (atI_nat (j:=1) rfl) ?_
 walk_at"rd"
 refine⟨r,1,130,rfl,by omega,?_⟩
 walk_at"rd"
 refine⟨_,_,rfl,?_⟩
 walk_at"rd"
 refine rd_slL (SqL.of hl) fun l2 nl2=>?_
 rw[words2]
 generalize hE:upd H1 l2 _=H2
 obtain⟨hl2,s2⟩:=newo nl2 hE
 clear hE
 have s12:=s1.trans s2
 refine⟨l2,rfl,⟨_,SqL.of hl2⟩,fun D nD=>?_⟩
 refine comp_list (xs:=ws.map V.str) (fun i σ' ys H'=>(∃x,σ'=[x])∧Same H2 H'∧H' D=some (.lst ys)∧ys.length=i∧DVs K (nwD H D H') ys ((ws.take i).map fun p=>optD rowsD (rdRows p))) D ⟨⟨_,rfl⟩,same_new nD _,upd_same,rfl,.nil⟩ (fun i σ' ys H' _ h=>SqL.of (h.2.1 _ _ hl2)) ?_ ?_
 ·rintro i x σ' ys H3 hx ⟨⟨x1,rfl⟩,s3,hD,yl,dv⟩
  rw[List.getElem?_map]at hx
  cases he:ws[i]? with
  | none=>rw[he]at hx;cases hx
  | some p =>
   rw[he]at hx
   cases hx
   have il:=(List.getElem?_eq_some_iff.mp he).1
   have pl:=sl2 p (List.mem_of_getElem? he)
   walk_at"rd"
   refine⟨p,rfl,by omega,fun v H4 dve s4=>?_⟩
   refine⟨s4 _ _ hD,by omega,⟨_,rfl⟩,fun b o e=>by rw[upd_ne (ne_of_none e nD)];exact s4 _ _ (s3 _ _ e),upd_same,by rw[List.length_append,yl];rfl,?_⟩
   rw[take_get he,List.map_append]
   exact DVs.push dv s12 hD (.inl s3) s4 dve
 ·rintro σ' ys H3 ⟨⟨x1,rfl⟩,s3,hD,yl,dv⟩
  rw[List.length_map,List.take_length]at dv
  have s03:=s12.trans s3
  have an:=any_DVs (g:=rowsD) (fun x h=>by cases h) (DVs.outD dv)
  have no:rdYardW (w::r::ws)=none→∀H',Same H H'→Q .non H':=fun h H' s'=>by
   rw[h]at q
   exact q .non H' .non s'
  walk_at"rd"
  refine⟨rfl,?_⟩
  cases hw:rdNum w 1 8 with
  | none =>
   rw[decide_eq_true (show optI none=V.non from rfl)]
   walk_at"rd"
   exact no (by rw[er,hw]) H3 s03
  | some x =>
  rw[decide_eq_false (show ¬ optI (some x)=V.non by intro h;cases h)]
  walk_at"rd"
  refine⟨rfl,?_⟩
  cases hr2:rdNum r 1 130 with
  | none =>
   rw[decide_eq_true (show optI none=V.non from rfl)]
   walk_at"rd"
   exact no (by rw[er,hw,hr2]) H3 s03
  | some y =>
  rw[decide_eq_false (show ¬ optI (some y)=V.non by intro h;cases h)]
  walk_at"rd"
  refine⟨D,ys,_,rfl,rfl,SqL.of hD,DVs.outD dv,?_⟩
  rw[show(if false=true then !ys.any isNonV else ys.any isNonV)=ys.any isNonV from rfl,an]
  cases ca:(ws.any fun x=>(rdRows x).isNone) with
  | true =>
   walk_at"rd"
   exact no (by rw[er,hw,hr2,allS_no ca]) H3 s03
  | false =>
  obtain⟨hs,e1,e2⟩:=allS_yes (g:=rowsD) ca
  rw[e2]at dv
  have dD:=DVs.done (s12.free nD) hD dv
  walk_at"rd"
  refine⟨by decide,fun p np=>?_⟩
  generalize hE:upd H3 p _=H4
  obtain⟨hp,s4⟩:=newo np hE
  clear hE
  have shh:SeqAt.shaped (heldD hs)=true:=shp (lay_held e1) (Nat.le_trans (dep_held hs) (by decide))
  have dD4:=DV.same s4 (DV.out dD)
  have hD4:=s4 _ _ hD
  refine⟨_,_,dD4,dv_nil92 hp,shh,rfl,?_⟩
  rw[eqv_nil]
  rcases List.eq_nil_or_concat hs with c|⟨hs',rs,c⟩
  ·subst c
   have sX:=s03.trans s4
   have sY:=s4
   rw[decide_eq_true rfl]
   walk_at"rd"
   refine⟨(by show 3≤sizeLine;decide),fun t nt=>?_⟩
   generalize hE:upd H4 t _=H6
   obtain⟨ht,s6⟩:=newo nt hE
   clear hE
   have e0:rdYardW (w::r::ws)=some (.tuple [.int x,.int y,heldD []]):=by rw[er,hw,hr2,e1];show(if _ then _ else _)=_;rw[if_neg (by simp)]
   rw[e0]at q
   walk_at"rd"
   exact q (.ref t) H6 (.tup (SqT.of (nw_mk (sX.free nt) ht)) (.cons (.int _) (.cons (.int _) (.cons (DV.up (fun _ _ e=>e) (sY.trans s6) dD) .nil)))) (sX.trans s6)
  ·have c:hs=hs' ++ [rs]:=by simpa using c
   have hne:¬ hs=[]:=by rw[c];simp
   rw[decide_eq_false hne]
   have dv3:=DVs.outD dv
   have yn:ys ≠ []:=fun z=>by
    have:=DVs.len dv3
    rw[z,c]at this
    simp at this
   obtain⟨ys',y',rfl⟩ : ∃ys' y,ys=ys' ++ [y]:=by
    rcases List.eq_nil_or_concat ys with z|⟨a,b,z⟩
    ·exact absurd z yn
    ·exact⟨a,b,by simpa using z⟩
   have dl:DV K H3 y' (rowsD rs):=DVs.last (ds:=hs'.map rowsD) (by
    rw[c,List.map_append]at dv3
    exact dv3)
   obtain⟨ly,xs,rfl,hly,tly⟩:=DV.asL dl
   have xe:decide (xs=[])=decide (rs=[]):=by
    have:=DVs.len tly
    rw[List.length_map]at this
    rw[Bool.eq_iff_iff]
    simp only[decide_eq_true_eq]
    constructor
    ·rintro rfl;exact List.eq_nil_of_length_eq_zero this.symm
    ·rintro rfl;exact List.eq_nil_of_length_eq_zero this
   walk_at"rd"
   refine rd_ixL (SqL.of hD4) at_end ?_
   walk_at"rd"
   refine⟨by decide,fun p2 np2=>?_⟩
   generalize hE:upd H4 p2 _=H5
   obtain⟨hp2,s5⟩:=newo np2 hE
   clear hE
   refine⟨ly,p2,xs,rfl,rfl,(s4.trans s5).seq hly,SqL.of hp2,?_⟩
   rw[xe]
   have sX:=s03.trans (s4.trans s5)
   have sY:=s4.trans s5
   by_cases cr:rs=[]
   ·rw[decide_eq_true cr]
    walk_at"rd"
    refine no ?_ H5 sX
    have gl:hs.getLast? = some []:=by rw[c,cr];simp
    rw[er,hw,hr2,e1];show(if _ then _ else _)=_;rw[if_pos gl]
   ·rw[decide_eq_false cr]
    walk_at"rd"
    refine⟨(by show 3≤sizeLine;decide),fun t nt=>?_⟩
    generalize hE:upd H5 t _=H6
    obtain⟨ht,s6⟩:=newo nt hE
    clear hE
    have e0:rdYardW (w::r::ws)=some (.tuple [.int x,.int y,heldD hs]):=by rw[er,hw,hr2,e1];show(if _ then _ else _)=_;rw[if_neg (by rw[c];simp;exact cr)]
    rw[e0]at q
    walk_at"rd"
    exact q (.ref t) H6 (.tup (SqT.of (nw_mk (sX.free nt) ht)) (.cons (.int _) (.cons (.int _) (.cons (DV.up (fun _ _ e=>e) (sY.trans s6) dD) .nil)))) (sX.trans s6)
theorem ok__law_told {f:Addr}{fd:FuncData}(F:Fun K "_law_told" "_law_told" s__law_told f fd) (mF:mg "_law_told" = some (.ref f)) (bF:Binds K fd ["_law_way", "_law_text"] []) (T:Bl mg) {TE:Addr}  {CE_NoText:Addr}(XE_NoText:XTxt0 K mg "NoText" CE_NoText TE) {CE_Busy:Addr}(XE_Busy:XNm mg "Busy" CE_Busy) {CE_Full:Addr}(XE_Full:XNm mg "Full" CE_Full) {CE_Lacking:Addr}(XE_Lacking:XNm mg "Lacking" CE_Lacking) {CE_NoKey:Addr}(XE_NoKey:XNm mg "NoKey" CE_NoKey) {CE_NoLine:Addr}(XE_NoLine:XNm mg "NoLine" CE_NoLine) {CE_NoMark:Addr}(XE_NoMark:XNm mg "NoMark" CE_NoMark) {CE_NoName:Addr}(XE_NoName:XNm mg "NoName" CE_NoName) {CE_NoRoom:Addr}(XE_NoRoom:XNm mg "NoRoom" CE_NoRoom) {CE_NoSize:Addr}(XE_NoSize:XNm mg "NoSize" CE_NoSize) {CE_NoThing:Addr}(XE_NoThing:XNm mg "NoThing" CE_NoThing) {CE_Taken:Addr}(XE_Taken:XNm mg "Taken" CE_Taken) (XT:XTop K mg TE) (kt_no:PySem.W.kitAny K (.ref CE_NoText) [.ref CE_Busy,.ref CE_Full,.ref CE_Lacking,.ref CE_NoKey,.ref CE_NoLine,.ref CE_NoMark,.ref CE_NoName,.ref CE_NoRoom,.ref CE_NoSize,.ref CE_NoThing,.ref CE_Taken]=some false) (kt_ve:PySem.W.kitOne K (.ref CE_NoText) (.type "ValueError")=some true) (C_read_rows:Cal1 P w K mg base "read_rows" ["text"] 6 (sp_read_rows K)) (C_read_step:Cal1 P w K mg base "read_step" ["text"] 6 (sp_read_step K)) (C_read_yard:Cal1 P w K mg base "read_yard" ["text"] 7 (sp_read_yard K)):Cal P w K mg base "_law_told" ["_law_way", "_law_text"] 8 (sp__law_told K):=by
 refine Cal.of F mF bF sc__law_told (fun vs H Q E h=>?_) (fun cdv A outer s H vs Q E hr h=>?_)
 ·obtain⟨way,v,rfl,_⟩:=h;rfl
 obtain⟨way,v,rfl,w0,w1,h⟩:=h
 refine⟨_,(pss_cons (ps_cut (ps_tryN sc__law_told.nd rfl rfl (fun xe pn E1 thr=>(pss_one (ps_if (pt_cmpR op_eq (pv 0) pe_int (nomark _)) (pss_one (ps_set (i:=2) sc__law_told.nd rfl (Or.inl rfl) (pcl1 C_read_rows (thr.passes fun _ _ _ z=>z) (hr.mono (by decide)) (pa_cons (pv 1) pa_nil stx_Name)))) (pss_one (ps_if (pt_cmpR op_eq (pv 0) pe_int (nomark _)) (pss_one (ps_set (i:=2) sc__law_told.nd rfl (Or.inl rfl) (pcl1 C_read_step (thr.passes fun _ _ _ z=>z) (hr.mono (by decide)) (pa_cons (pv 1) pa_nil stx_Name)))) (pss_one (ps_set (i:=2) sc__law_told.nd rfl (Or.inl rfl) (pcl1 C_read_yard (thr.passes fun _ _ _ z=>z) (hr.mono (by decide)) (pa_cons (pv 1) pa_nil stx_Name))))))))) (PHs.named (i:=3) rfl rfl rfl XT.mg (fun exx=>(pss_cons (ps_if (pt_val (pe_callB (call_isiETK (K:=K) rfl) rfl T.isinstance bt_isinstance (pa_cons (pv 3) (pa_cons (pe_tup (pa_cons (pe_glob (v:=V.ref CE_Busy) rfl XE_Busy.mg (show L2.RelV (.ref CE_Busy) (.ref CE_Busy) from rfl)) (pa_cons (pe_glob (v:=V.ref CE_Full) rfl XE_Full.mg (show L2.RelV (.ref CE_Full) (.ref CE_Full) from rfl)) (pa_cons (pe_glob (v:=V.ref CE_Lacking) rfl XE_Lacking.mg (show L2.RelV (.ref CE_Lacking) (.ref CE_Lacking) from rfl)) (pa_cons (pe_glob (v:=V.ref CE_NoKey) rfl XE_NoKey.mg (show L2.RelV (.ref CE_NoKey) (.ref CE_NoKey) from rfl)) (pa_cons (pe_glob (v:=V.ref CE_NoLine) rfl XE_NoLine.mg (show L2.RelV (.ref CE_NoLine) (.ref CE_NoLine) from rfl)) (pa_cons (pe_glob (v:=V.ref CE_NoMark) rfl XE_NoMark.mg (show L2.RelV (.ref CE_NoMark) (.ref CE_NoMark) from rfl)) (pa_cons (pe_glob (v:=V.ref CE_NoName) rfl XE_NoName.mg (show L2.RelV (.ref CE_NoName) (.ref CE_NoName) from rfl)) (pa_cons (pe_glob (v:=V.ref CE_NoRoom) rfl XE_NoRoom.mg (show L2.RelV (.ref CE_NoRoom) (.ref CE_NoRoom) from rfl)) (pa_cons (pe_glob (v:=V.ref CE_NoSize) rfl XE_NoSize.mg (show L2.RelV (.ref CE_NoSize) (.ref CE_NoSize) from rfl)) (pa_cons (pe_glob (v:=V.ref CE_NoThing) rfl XE_NoThing.mg (show L2.RelV (.ref CE_NoThing) (.ref CE_NoThing) from rfl)) (pa_cons (pe_glob (v:=V.ref CE_Taken) rfl XE_Taken.mg (show L2.RelV (.ref CE_Taken) (.ref CE_Taken) from rfl)) pa_nil stx_Name) stx_Name) stx_Name) stx_Name) stx_Name) stx_Name) stx_Name) stx_Name) stx_Name) stx_Name) stx_Name)) pa_nil stx_Tuple) stx_Name))) (pss_one (ps_ret (pe_tup (pa_cons pe_str (pa_cons pe_int pa_nil stx_Constant) stx_Constant)))) pss_nil)
   (pss_one (ps_ret (pe_tup (pa_cons (pe_ix (ix_listK (K:=K) rfl) (pe_lst (pa_cons pe_str (pa_cons pe_str pa_nil stx_Constant) stx_Constant)) (pe_callTy call_intB rfl T.int bt_int (pa_cons (pe_and (pe_callB (call_isiEK (K:=K) rfl) rfl T.isinstance bt_isinstance (pa_cons (pv 3) (pa_cons (pe_glob (v:=V.ref CE_NoText) rfl XE_NoText.mg (show L2.RelV (.ref CE_NoText) (.ref CE_NoText) from rfl)) pa_nil stx_Name) stx_Name)) (pe_one (pe_callB (call_isiEK (K:=K) rfl) rfl T.isinstance bt_isinstance (pa_cons (pv 3) (pa_cons (pe_bltn (v:=.ty "ValueError") rfl T.ValueError bt_ValueError rfl) pa_nil stx_Name) stx_Name)))) pa_nil stx_BoolOp)) (fun _ _=>rfl)) (pa_cons pe_int pa_nil stx_Constant) stx_Subscript)))))) PHs.nil)))
   (pss_one (ps_ret (pe_tup (pa_cons pe_str (pa_cons (pv 2) pa_nil stx_Name) stx_Constant))))),?_⟩
 rw[st__law_told]
 have ceq:∀C:Addr,PySem.W.nsIn K mainGlobals "NoText" = some (some (.ref C))→C=CE_NoText:=fun C e=>Value.ref.inj (Option.some.inj (Option.some.inj (e.symm.trans XE_NoText.nm)))
 walk_at"rd"
 refine cutO (fun σ H'=>∃z d x y,v = .str z∧rdW way z=some d∧DV K H' x d∧σ=[some (.int way),some v,some x,y]∧Same H H') ?_ ?_
 ·intro Nx hNx
  refine⟨fun _ c H0=>c=some CE_NoText∧Same H H0∧∀t H',H' t=some (.tup [.str "none",.int 0])→Same H H'→Q (.ref t) H',?_,?_⟩
  ·rcases h with⟨no,q⟩|⟨z,rfl,zl,q,qe⟩
   ·have te:∀H1,Same H H1→ThE K (fun _ c H0=>c=some CE_NoText∧Same H H0∧∀t H',H' t=some (.tup [.str "none",.int 0])→Same H H'→Q (.ref t) H') H1:=fun H1 s1 C H' n s'=>⟨by rw[ceq C n],s1.trans s',q⟩
    walk_at"rd"
    refine rd_if (fun c=>?_) (fun c=>?_)
    ·walk_at"rd"
     exact .inr ⟨v,rfl,no,te H (fun _ _ e=>e)⟩
    walk_at"rd"
    refine rd_if (fun c=>?_) (fun c=>?_)
    ·walk_at"rd"
     exact .inr ⟨v,rfl,no,te H (fun _ _ e=>e)⟩
    ·walk_at"rd"
     exact .inr ⟨v,rfl,no,te H (fun _ _ e=>e)⟩
   ·have te:rdW way z=none→ThE K (fun _ c H0=>c=some CE_NoText∧Same H H0∧∀t H',H' t=some (.tup [.str "none",.int 0])→Same H H'→Q (.ref t) H') H:=fun e C H' n s'=>⟨by rw[ceq C n],s',qe e⟩
    walk_at"rd"
    refine rd_if (fun c=>?_) (fun c=>?_)
    ·have er:rdW way z =(rdRows z).map rowsD:=by unfold rdW;rw[if_pos c]
     walk_at"rd"
     refine .inl ⟨z,rfl,zl,fun rs x H1 e1 dv s1=>?_,fun e1=>te (by rw[er,e1];rfl)⟩
     walk_at"rd"
     exact⟨z,_,x,_,rfl,by rw[er,e1];rfl,DV.out dv,rfl,s1⟩
    walk_at"rd"
    refine rd_if (fun c2=>?_) (fun c2=>?_)
    ·have er:rdW way z=rdStep z:=by unfold rdW;rw[if_neg c,if_pos c2]
     walk_at"rd"
     refine .inl ⟨z,rfl,zl,fun d x H1 e1 dv s1=>?_,fun e1=>te (by rw[er,e1])⟩
     walk_at"rd"
     exact⟨z,_,x,_,rfl,by rw[er,e1],DV.out dv,rfl,s1⟩
    ·have er:rdW way z=rdYard z:=by unfold rdW;rw[if_neg c,if_neg c2]
     walk_at"rd"
     refine .inl ⟨z,rfl,zl,fun d x H1 e1 dv s1=>?_,fun e1=>te (by rw[er,e1])⟩
     walk_at"rd"
     exact⟨z,_,x,_,rfl,by rw[er,e1],DV.out dv,rfl,s1⟩
  ·rintro u C H0 ⟨cc,s0,q⟩ e H' σ' v' rv xa xp sub hl
   cases cc
   obtain⟨a,b,c,d,rfl⟩:=stl4 hl
   have x1:=(xp XE_NoText.cls).any
   refine .inl ⟨und_tail XE_NoText.xc XT.xc,?_⟩
   dsimp only[setO,Ends.goneO,List.set]
   walk_at"rd"
   refine⟨(by show 11≤sizeLine;decide),fun tp ntp=>?_⟩
   generalize hE:upd H' tp _=H1
   obtain⟨htp,s1⟩:=newo ntp hE
   clear hE
   walk_at"rd"
   refine rd_isiET (cs:=[CE_Busy,CE_Full,CE_Lacking,CE_NoKey,CE_NoLine,CE_NoMark,CE_NoName,CE_NoRoom,CE_NoSize,CE_NoThing,CE_Taken]) (x1.same s1) XE_NoText.kit htp kt_no ?_
   walk_at"rd"
   refine⟨(by show 2≤sizeLine;decide),fun l nl=>?_⟩
   generalize hE:upd H1 l _=H2
   obtain⟨hl2,s2⟩:=newo nl hE
   clear hE
   walk_at"rd"
   refine rd_isiE (x1.same (s1.trans s2)) XE_NoText.kit (fun u r=>r) kit_self ?_
   walk_at"rd"
   refine rd_isiE (x1.same (s1.trans s2)) XE_NoText.kit (fun u r=>r) kt_ve ?_
   walk_at"rd"
   refine⟨(by show 2≤sizeLine;decide),fun t nt=>?_⟩
   generalize hE:upd H2 t _=H3
   obtain⟨ht,s3⟩:=newo nt hE
   clear hE
   walk_at"rd"
   exact q t H3 ht (fun b o e=>s3 _ _ (s2 _ _ (s1 _ _ (sub _ _ (s0 _ _ e)))))
 ·rintro σ H1 ⟨z,d,x,y,rfl,e1,dv,rfl,s1⟩
  rcases h with⟨⟨t,ty,k⟩,_⟩|⟨z',ez,zl,q,qe⟩
  ·exfalso
   cases ty
   rw[show PySem.W.kitOne K (.type "str") (.type "str")=some true from rfl]at k
   cases k
  cases ez
  walk_at"rd"
  refine⟨(by show 2≤sizeLine;decide),fun t nt=>?_⟩
  generalize hE:upd H1 t _=H2
  obtain⟨ht,s2⟩:=newo nt hE
  clear hE
  walk_at"rd"
  exact q d t x H2 e1 (DV.same s2 dv) ht (s1.trans s2)
theorem ok__law_right {f:Addr}{fd:FuncData}(F:Fun K "_law_right" "_law_right" s__law_right f fd) (mF:mg "_law_right" = some (.ref f)) (bF:Binds K fd ["_law_text"] []) (T:Bl mg) (C__law_told:Cal P w K mg base "_law_told" ["_law_way", "_law_text"] 8 (sp__law_told K)) (C__law_read_rows:Cal P w K mg base "_law_read_rows" ["_law_text"] 4 (sp__law_read_rows K)) (C__law_read_step:Cal P w K mg base "_law_read_step" ["_law_text"] 4 (sp__law_read_step K)) (C__law_read_yard:Cal P w K mg base "_law_read_yard" ["_law_text"] 5 (sp__law_read_yard K)):Cal P w K mg base "_law_right" ["_law_text"] 9 (sp__law_right K):=by
 refine Cal.of F mF bF sc__law_right (fun vs H Q E h=>?_) (fun cdv A outer s H vs Q E hr h=>?_)
 ·obtain⟨v,rfl,_⟩:=h;rfl
 obtain⟨v,rfl,hv,q⟩:=h
 have hu:=hr.units
 obtain⟨fv__law_read_rows,fd1,F1,hb1,mv__law_read_rows,hk1⟩:=C__law_read_rows.ex
 obtain⟨fv__law_read_step,fd2,F2,hb2,mv__law_read_step,hk2⟩:=C__law_read_step.ex
 obtain⟨fv__law_read_yard,fd3,F3,hb3,mv__law_read_yard,hk3⟩:=C__law_read_yard.ex
 refine⟨_,(pss_cons (ps_for PassesOwn.never rfl (pi_range1 rfl T.range (pa_cons pe_int pa_nil stx_Constant)) (pg_name (i:=1) sc__law_right.nd rfl (Or.inl rfl)) (pss_cons (ps_set (i:=2) sc__law_right.nd rfl (Or.inl rfl) pe_non)
   (pss_cons (ps_cut (ps_if (pt_val (pe_callB call_isinst rfl T.isinstance bt_isinstance (pa_cons (pv 0) (pa_cons (pe_bltn (v:=.ty "str") rfl T.str bt_str rfl) pa_nil stx_Name) stx_Name))) (pss_one (ps_set (i:=2) sc__law_right.nd rfl (Or.inl rfl) (pe_callV (pe_ix ix_list (pe_lst (pa_cons (pe_glob (v:=V.ref fv__law_read_rows) rfl mv__law_read_rows (show L2.RelV (.ref fv__law_read_rows) (.ref fv__law_read_rows) from rfl)) (pa_cons (pe_glob (v:=V.ref fv__law_read_step) rfl mv__law_read_step (show L2.RelV (.ref fv__law_read_step) (.ref fv__law_read_step) from rfl)) (pa_cons (pe_glob (v:=V.ref fv__law_read_yard) rfl mv__law_read_yard (show L2.RelV (.ref fv__law_read_yard) (.ref fv__law_read_yard) from rfl)) pa_nil stx_Name) stx_Name) stx_Name)) (pv 1) (fun _ _=>rfl)) (pa_cons (pv 0) pa_nil stx_Name) pass0))) pss_nil))
   (pss_cons (ps_set (i:=3) sc__law_right.nd rfl (Or.inl rfl) (pcl C__law_told (hr.mono (by decide)) (pa_cons (pv 1) (pa_cons (pv 0) pa_nil stx_Name) stx_Name)))
   (pss_one (ps_if (PW.pt (pw_or (PW.pt (pw_and (pt_cmpR op_isN (pv 2) pe_non (nomark _)) (pw_and1 (pt_cmpR (op_neD hu) (pv 3) (pe_tup (pa_cons pe_str (pa_cons pe_int pa_nil stx_Constant) stx_Constant)) (nomark _))))) (pw_or1 (PW.pt (pw_and (pt_cmpR op_notN (pv 2) pe_non (nomark _)) (pw_and1 (pt_cmpR (op_neD hu) (pv 3) (pe_tup (pa_cons pe_str (pa_cons (pv 2) pa_nil stx_Name) stx_Constant)) (nomark _)))))))) (pss_one (ps_ret pe_bl)) pss_nil))))))
   (pss_one (ps_ret pe_bl))),?_⟩
 rw[st__law_right]
 walk_at"rd"
 refine⟨3,rfl,by omega,by omega,?_⟩
 refine for_rangeO (n:=3) (fun i σ H'=>(∃x1 x2 x3,σ=[some v,x1,x2,x3])∧Same H H') ⟨⟨_,_,_,rfl⟩,fun _ _ e=>e⟩ ?_ ?_
 ·rintro i σ H1 hi ⟨⟨x1,x2,x3,rfl⟩,s1⟩
  rcases hv with⟨t,ty,k⟩|⟨z,rfl,zl⟩
  ·walk_at"rd"
   refine cutO (fun σ H'=>(∃x3,σ=[some v,some (.int (0+i)),some .non,x3])∧H'=H1) ?_ ?_
   ·intro Nx hNx
    walk_at"rd"
    refine rd_isi (tySame ty s1) k ?_
    walk_at"rd"
    exact⟨⟨_,rfl⟩,rfl⟩
   ·rintro σ H2 ⟨⟨x3,rfl⟩,rfl⟩
    walk_at"rd"
    refine⟨_,v,rfl,by omega,by omega,.inl ⟨⟨t,tySame ty s1,k⟩,fun t2 H3 ht2 s3=>?_⟩⟩
    walk_at"rd"
    refine⟨rfl,?_⟩
    rw[decide_eq_true (show V.non=V.non from rfl)]
    walk_at"rd"
    refine⟨(by show 2≤sizeLine;decide),fun t4 nt4=>?_⟩
    generalize hE:upd H3 t4 _=H4
    obtain⟨ht4,s4⟩:=newo nt4 hE
    clear hE
    walk_at"rd"
    refine⟨.tuple [.str (Str.ofString "none"),.int 0],.tuple [.str (Str.ofString "none"),.int 0],.tup (SqT.of (s4 _ _ ht2)) (.cons (.str _) (.cons (.int _) .nil)),.tup (SqT.of ht4) (.cons (.str _) (.cons (.int _) .nil)),by decide +kernel,by decide +kernel,?_⟩
    rw[show PyData.eqv (.tuple [.str (Str.ofString "none"),.int 0]) (.tuple [.str (Str.ofString "none"),.int 0])=true from SeqAt.eqv_refl _ (by decide +kernel)]
    walk_at"rd"
    refine⟨rfl,?_⟩
    rw[decide_eq_true (show V.non=V.non from rfl)]
    walk_at"rd"
    exact⟨⟨_,_,_,rfl⟩,s1.trans (s3.trans s4)⟩
  ·walk_at"rd"
   refine cutO (fun σ H'=>∃x x3,σ=[some (.str z),some (.int (0+i)),some x,x3]∧DV K H' x (optD id (rdW (0+i) z))∧Same H1 H') ?_ ?_
   ·intro Nx hNx
    walk_at"rd"
    refine rd_isi (.str z) (b:=true) rfl ?_
    walk_at"rd"
    refine rd_callV ?_
    walk_at"rd"
    refine⟨(by show 3≤sizeLine;decide),fun l nl=>?_⟩
    generalize hE:upd H1 l _=H2
    obtain⟨hl,s2⟩:=newo nl hE
    clear hE
    walk_at"rd"
    have hi3:i=0∨i=1∨i=2:=by omega
    rcases hi3 with rfl|rfl|rfl
    ·have er:optD id (rdW (0+((0:Nat):Int)) z)=optD rowsD (rdRows z):=by
      have:rdW (0+((0:Nat):Int)) z =(rdRows z).map rowsD:=by unfold rdW;rw[if_pos (by omega)]
      rw[this]
      cases rdRows z <;> rfl
     refine rd_ixL (SqL.of hl) (v:=.ref fv__law_read_rows) (by rfl) ?_
     refine⟨_,rfl,hk1,?_⟩
     walk_at"rd"
     refine⟨fd1,_,_,_,F1,hb1,hr.mono (by decide),z,rfl,zl,fun x H3 dv s3=>?_⟩
     walk_at"rd"
     exact⟨x,_,rfl,by rw[er];exact DV.out dv,s2.trans s3⟩
    ·have er:rdW (0+((1:Nat):Int)) z=rdStep z:=by unfold rdW;rw[if_neg (by omega),if_pos (by omega)]
     refine rd_ixL (SqL.of hl) (v:=.ref fv__law_read_step) (by rfl) ?_
     refine⟨_,rfl,hk2,?_⟩
     walk_at"rd"
     refine⟨fd2,_,_,_,F2,hb2,hr.mono (by decide),z,rfl,zl,fun x H3 dv s3=>?_⟩
     walk_at"rd"
     exact⟨x,_,rfl,by rw[er];exact DV.out dv,s2.trans s3⟩
    ·have er:rdW (0+((2:Nat):Int)) z=rdYard z:=by unfold rdW;rw[if_neg (by omega),if_neg (by omega)]
     refine rd_ixL (SqL.of hl) (v:=.ref fv__law_read_yard) (by rfl) ?_
     refine⟨_,rfl,hk3,?_⟩
     walk_at"rd"
     refine⟨fd3,_,_,_,F3,hb3,hr.mono (by decide),z,rfl,zl,fun x H3 dv s3=>?_⟩
     walk_at"rd"
     exact⟨x,_,rfl,by rw[er];exact DV.out dv,s2.trans s3⟩
   ·rintro σ H2 ⟨x,x3,rfl,dv,s2⟩
    walk_at"rd"
    refine⟨_,.str z,rfl,by omega,by omega,.inr ⟨z,rfl,zl,fun d t2 x' H3 ed dv' ht2 s3=>?_,fun ed t2 H3 ht2 s3=>?_⟩⟩
    ·obtain⟨sh,dn,dd,dl⟩:=rdW_shaped ed
     have sh2:SeqAt.shaped (.tuple [.str (Str.ofString "told"),d])=true:=shp (by simp[PyData.canLay0,PyData.canLayAll0,dl];decide +kernel) (by simp[PyData.depth,PyData.depthAll];omega)
     rw[ed]at dv
     have dv:DV K H2 x d:=dv
     have xn:¬ x = .non:=by
      rintro rfl
      cases dv
      exact dn rfl
     walk_at"rd"
     refine⟨rfl,?_⟩
     rw[decide_eq_false xn]
     walk_at"rd"
     refine⟨rfl,?_⟩
     rw[decide_eq_false xn]
     walk_at"rd"
     refine⟨(by show 2≤sizeLine;decide),fun t4 nt4=>?_⟩
     generalize hE:upd H3 t4 _=H4
     obtain⟨ht4,s4⟩:=newo nt4 hE
     clear hE
     walk_at"rd"
     refine⟨.tuple [.str (Str.ofString "told"),d],.tuple [.str (Str.ofString "told"),d],.tup (SqT.of (s4 _ _ ht2)) (.cons (.str _) (.cons (DV.same s4 dv') .nil)),.tup (SqT.of ht4) (.cons (.str _) (.cons (DV.same (s3.trans s4) dv) .nil)),sh2,sh2,?_⟩
     rw[show PyData.eqv (.tuple [.str (Str.ofString "told"),d]) (.tuple [.str (Str.ofString "told"),d])=true from SeqAt.eqv_refl _ (by simp[PyData.canLay0,PyData.canLayAll0,dl];decide +kernel)]
     walk_at"rd"
     exact⟨⟨_,_,_,rfl⟩,s1.trans (s2.trans (s3.trans s4))⟩
    ·rw[ed]at dv
     have xn:x = .non:=by
      have dv:DV K H2 x .none:=dv
      cases dv;rfl
     subst xn
     walk_at"rd"
     refine⟨rfl,?_⟩
     rw[decide_eq_true (show V.non=V.non from rfl)]
     walk_at"rd"
     refine⟨(by show 2≤sizeLine;decide),fun t4 nt4=>?_⟩
     generalize hE:upd H3 t4 _=H4
     obtain⟨ht4,s4⟩:=newo nt4 hE
     clear hE
     walk_at"rd"
     refine⟨.tuple [.str (Str.ofString "none"),.int 0],.tuple [.str (Str.ofString "none"),.int 0],.tup (SqT.of (s4 _ _ ht2)) (.cons (.str _) (.cons (.int _) .nil)),.tup (SqT.of ht4) (.cons (.str _) (.cons (.int _) .nil)),by decide +kernel,by decide +kernel,?_⟩
     rw[show PyData.eqv (.tuple [.str (Str.ofString "none"),.int 0]) (.tuple [.str (Str.ofString "none"),.int 0])=true from SeqAt.eqv_refl _ (by decide +kernel)]
     walk_at"rd"
     refine⟨rfl,?_⟩
     rw[decide_eq_true (show V.non=V.non from rfl)]
     walk_at"rd"
     exact⟨⟨_,_,_,rfl⟩,s1.trans (s2.trans (s3.trans s4))⟩
 ·rintro σ H1 ⟨⟨x1,x2,x3,rfl⟩,s1⟩
  walk_at"rd"
  exact q H1 s1
theorem ok__law_spoilt {f:Addr}{fd:FuncData}(F:Fun K "_law_spoilt" "_law_spoilt" s__law_spoilt f fd) (mF:mg "_law_spoilt" = some (.ref f)) (bF:Binds K fd ["_law_hand", "_law_text"] []) (T:Bl mg) (C__law_draw:Cal P w K mg base "_law_draw" ["_law_hand", "_law_many"] 1 (sp__law_draw K)):Cal P w K mg base "_law_spoilt" ["_law_hand", "_law_text"] 2 (sp__law_spoilt K):=by
 refine Cal.of F mF bF sc__law_spoilt (fun vs H Q E h=>?_) (fun cdv A outer s H vs Q E hr h=>?_)
 ·obtain⟨p,N,z,rfl,_⟩:=h;rfl
 obtain⟨p,N,z,rfl,hh,hN,zl,q⟩:=h
 have zs:z.length≤sizeLine:=Nat.le_trans zl (by decide)
 refine⟨_,(pss_cons (ps_set (i:=2) sc__law_spoilt.nd rfl (Or.inl rfl) pe_str)
   (pss_cons (ps_set (i:=3) sc__law_spoilt.nd rfl (Or.inl rfl) pe_str)
   (pss_cons (ps_set (i:=4) sc__law_spoilt.nd rfl (Or.inl rfl) (pcl C__law_draw (hr.mono (by decide)) (pa_cons (pv 0) (pa_cons pe_int pa_nil stx_Constant) stx_Name)))
   (pss_cons (ps_set (i:=5) sc__law_spoilt.nd rfl (Or.inl rfl) (pcl C__law_draw (hr.mono (by decide)) (pa_cons (pv 0) (pa_cons pe_int pa_nil stx_Constant) stx_Name)))
   (pss_cons (ps_set (i:=6) sc__law_spoilt.nd rfl (Or.inl rfl) (pe_ix ix_str pe_str (pcl C__law_draw (hr.mono (by decide)) (pa_cons (pv 0) (pa_cons pe_int pa_nil stx_Constant) stx_Name)) (fun _ _=>rfl)))
   (pss_cons (ps_set (i:=7) sc__law_spoilt.nd rfl (Or.inl rfl) (pe_ix ix_str (pv 2) (pcl C__law_draw (hr.mono (by decide)) (pa_cons (pv 0) (pa_cons (pe_callB call_lenS rfl T.len bt_len (pa_cons (pv 2) pa_nil stx_Name)) pa_nil stx_Call) stx_Name)) (fun _ _=>rfl)))
   (pss_cons (ps_cut (ps_if (pt_cmpR op_eq (pcl C__law_draw (hr.mono (by decide)) (pa_cons (pv 0) (pa_cons pe_int pa_nil stx_Constant) stx_Name)) pe_int (nomark _)) (pss_one (ps_set (i:=7) sc__law_spoilt.nd rfl (Or.inl rfl) (pe_ix ix_str (pv 3) (pcl C__law_draw (hr.mono (by decide)) (pa_cons (pv 0) (pa_cons (pe_callB call_lenS rfl T.len bt_len (pa_cons (pv 3) pa_nil stx_Name)) pa_nil stx_Call) stx_Name)) (fun _ _=>rfl)))) pss_nil))
   (pss_cons (ps_set (i:=8) sc__law_spoilt.nd rfl (Or.inl rfl) (pe_op op_mod (pv 5) (pe_op op_add (pe_callB call_lenS rfl T.len bt_len (pa_cons (pv 1) pa_nil stx_Name)) pe_int)))
   (pss_cons (ps_if (pt_cmpR op_lt (pv 4) pe_int (nomark _)) (pss_one (ps_ret (pe_op op_catS (pe_op op_catS (pe_slice sl_str (pv 1) po_none (po_some (pv 8))) (pv 7)) (pe_slice sl_str (pv 1) (po_some (pe_op op_add (pv 8) (pv 4))) po_none)))) pss_nil)
   (pss_cons (ps_if (pt_cmpR op_eq (pv 4) pe_int (nomark _)) (pss_one (ps_ret (pe_op op_catS (pe_slice sl_str (pv 1) po_none (po_some (pv 8))) (pe_slice sl_str (pv 1) (po_some (pe_op op_add (pv 8) pe_int)) po_none)))) pss_nil)
   (pss_cons (ps_set (i:=9) sc__law_spoilt.nd rfl (Or.inl rfl) (pe_bm PySem.F.plainAttrs_str PySem.F.slot_str_split PySem.F.type_str_split mt_split (pv 1) (pa_cons (pv 6) pa_nil stx_Name)))
   (pss_cons (ps_set (i:=5) sc__law_spoilt.nd rfl (Or.inl rfl) (pe_op op_mod (pv 5) (pe_callB call_lenL rfl T.len bt_len (pa_cons (pv 9) pa_nil stx_Name))))
   (pss_cons (ps_set (i:=10) sc__law_spoilt.nd rfl (Or.inl rfl) (pe_slice sl_list (pv 9) (po_some (pv 5)) (po_some (pe_op op_add (pv 5) pe_int))))
   (pss_cons (ps_if (pt_cmpR op_eq (pv 4) pe_int (nomark _)) (pss_one (ps_ret (pe_bm PySem.F.plainAttrs_str PySem.F.slot_str_join PySem.F.type_str_join mt_join (pv 6) (pa_cons (pe_op op_cat (pe_slice sl_list (pv 9) po_none (po_some (pv 5))) (pe_slice sl_list (pv 9) (po_some (pe_op op_add (pv 5) pe_int)) po_none)) pa_nil stx_BinOp)))) pss_nil)
   (pss_cons (ps_if (pt_cmpR op_eq (pv 4) pe_int (nomark _)) (pss_one (ps_ret (pe_bm PySem.F.plainAttrs_str PySem.F.slot_str_join PySem.F.type_str_join mt_join (pv 6) (pa_cons (pe_op op_cat (pe_op op_cat (pe_slice sl_list (pv 9) po_none (po_some (pv 5))) (pe_slice sl_list (pv 10) po_none (po_some pe_int))) (pe_slice sl_list (pv 9) (po_some (pv 5)) po_none)) pa_nil stx_BinOp)))) pss_nil)
   (pss_one (ps_ret (pe_bm PySem.F.plainAttrs_str PySem.F.slot_str_join PySem.F.type_str_join mt_join (pv 6) (pa_cons (pe_op op_cat (pe_op op_cat (pe_slice sl_list (pv 9) po_none (po_some (pv 5))) (pe_rev (pv 10))) (pe_slice sl_list (pv 9) (po_some (pe_op op_add (pv 5) pe_int)) po_none)) pa_nil stx_BinOp))))))))))))))))))),?_⟩
 rw[st__law_spoilt]
 walk_at"rd"
 refine⟨p,_,6,rfl,hh,by omega,by decide,by decide,fun way H1 y0 y1 hh1 k1=>?_⟩
 walk_at"rd"
 refine⟨p,_,4000,rfl,hh1,by omega,by decide,by decide,fun at0 H2 a0 a1 hh2 k2=>?_⟩
 walk_at"rd"
 refine⟨p,_,4,rfl,hh2,by omega,by decide,by decide,fun b0 H3 b00 b01 hh3 k3=>?_⟩
 obtain⟨cb,hcb⟩:=pickS (z:=Str.ofString " ;,=") b00 (by rw[show(Str.ofString " ;,=").length=4 by decide +kernel];omega)
 walk_at"rd"
 refine rd_ixS (by decide +kernel) hcb ?_
 walk_at"rd"
 refine rd_lenS (by decide +kernel) ?_
 rw[show(Str.ofString "0123456789=,;-  abzrowcutmsne").length=29 by decide +kernel]
 walk_at"rd"
 refine⟨p,_,29,rfl,hh3,by omega,by decide,by decide,fun c0 H4 c00 c01 hh4 k4=>?_⟩
 obtain⟨cc,hcc⟩:=pickS (z:=Str.ofString "0123456789=,;-  abzrowcutmsne") c00 (by rw[show(Str.ofString "0123456789=,;-  abzrowcutmsne").length=29 by decide +kernel];omega)
 walk_at"rd"
 refine rd_ixS (by decide +kernel) hcc ?_
 have k04:=((k1.trans k2).trans k3).trans k4
 clear hh1 hh2 hh3 k1 k2 k3 k4
 walk_at"rd"
 refine cutO (fun σ H'=>(∃sg0 few sgs x7 x8 x9,σ=[some (.ref p),some (.str z),some few,some sgs,some (.int way),some (.int at0),some (.str ⟨#[cb]⟩),some (.str ⟨#[sg0]⟩),x7,x8,x9])∧Hand H' p (N+6)∧Kp H H' p) ?_ ?_
 ·intro Nx hNx
  walk_at"rd"
  refine⟨p,_,2,rfl,hh4,by omega,by decide,by decide,fun d0 H5 d00 d01 hh5 k5=>?_⟩
  walk_at"rd"
  refine rd_if (fun c=>?_) (fun c=>?_)
  ·walk_at"rd"
   refine rd_lenS (by decide +kernel) ?_
   walk_at"rd"
   refine⟨p,_,_,rfl,hh5,by omega,by decide +kernel,by decide +kernel,fun e0 H6 e00 e01 hh6 k6=>?_⟩
   obtain⟨ce,hce⟩:=pickS e00 e01
   walk_at"rd"
   refine rd_ixS (by decide +kernel) hce ?_
   walk_at"rd"
   exact⟨⟨_,_,_,_,_,_,rfl⟩,hh6.mono (by omega),(k04.trans k5).trans k6⟩
  ·walk_at"rd"
   exact⟨⟨_,_,_,_,_,_,rfl⟩,hh5.mono (by omega),k04.trans k5⟩
 ·rintro σ H5 ⟨⟨sg0,few,sgs,x7,x8,x9,rfl⟩,hh5,k5⟩
  walk_at"rd"
  refine rd_lenS zs ?_
  walk_at"rd"
  obtain⟨pl,hpl,pb⟩ : ∃pl:Nat,at0%((z.length:Int)+1) =(pl:Int)∧pl≤z.length:=⟨(at0%((z.length:Int)+1)).toNat,by have:=Int.emod_nonneg at0 (b:=(z.length:Int)+1) (by omega);omega,by have:=Int.emod_lt_of_pos at0 (b:=(z.length:Int)+1) (by omega);omega⟩
  rw[hpl]
  have fin:∀(z':Str) (H':Hp),z'.length≤2*z.length+2→Hand H' p (N+6)→Kp H H' p→Q (.str z') H':=fun z' H' l hh' k'=>q z' H' l (hh'.mono (by omega)) k'
  refine rd_if (fun c=>?_) (fun c=>?_)
  ·walk_at"rd"
   refine rd_slS zs ?_
   have l1:=Txt.slice_le z none (some (pl:Int))
   walk_at"rd"
   refine rd_catS (by rw[show(⟨#[sg0]⟩ : Str).length=1 from rfl];exact Nat.le_trans (by omega:_≤1000001) (by decide)) ?_
   walk_at"rd"
   refine rd_slS zs ?_
   have l2:=Txt.slice_le z (some ((pl:Int)+way)) none
   walk_at"rd"
   refine rd_catS (by rw[str_applen,show(⟨#[sg0]⟩ : Str).length=1 from rfl];exact Nat.le_trans (by omega:_≤2000001) (by decide)) ?_
   walk_at"rd"
   exact fin _ H5 (by rw[str_applen,str_applen,show(⟨#[sg0]⟩ : Str).length=1 from rfl];omega) hh5 k5
  walk_at"rd"
  refine rd_if (fun c2=>?_) (fun c2=>?_)
  ·walk_at"rd"
   refine rd_slS zs ?_
   have l1:=Txt.slice_le z none (some (pl:Int))
   walk_at"rd"
   refine rd_slS zs ?_
   have l2:=Txt.slice_le z (some ((pl:Int)+1)) none
   walk_at"rd"
   refine rd_catS (Nat.le_trans (by omega:_≤2000001) (by decide)) ?_
   walk_at"rd"
   exact fin _ H5 (by rw[str_applen];omega) hh5 k5
  have sw:=split_wt z cb
  have sn:=split_ne z cb
  walk_at"rd"
  refine⟨rfl,?_⟩
  walk_at"rd"
  refine⟨z,_,rfl,rfl,(by show(1 == 0)=false;rfl),Nat.le_trans (by omega:_≤1000002) (by decide),fun l nl=>?_⟩
  rw[show(⟨#[cb]⟩ : Str)=sg cb from rfl]
  generalize Txt.split z (sg cb)=ps at sw sn ⊢
  generalize hE:upd H5 l _=H6
  obtain⟨hh6,k6,hl6,s6⟩:=newl hh5 nl k5 hE
  clear hE
  have pn:0<ps.length:=List.length_pos_iff.mpr sn
  walk_at"rd"
  rw[List.length_map]
  walk_at"rd"
  obtain⟨a,ha,ab⟩ : ∃a:Nat,at0%(ps.length:Int) =(a:Int)∧a<ps.length:=⟨(at0%(ps.length:Int)).toNat,by have:=Int.emod_nonneg at0 (b:=(ps.length:Int)) (by omega);omega,by have:=Int.emod_lt_of_pos at0 (b:=(ps.length:Int)) (by omega);omega⟩
  rw[ha]
  refine rd_slL (SqL.of hl6) fun l2 nl2=>?_
  rw[cutM9 (by rw[List.length_map];omega)]
  generalize hE:upd H6 l2 _=H7
  obtain⟨hh7,k7,hl7,s7⟩:=newl hh6 nl2 k6 hE
  clear hE
  have hp7:=s7 _ _ hl6
  have w1:=wt_td a ps
  have pl6:ps.length≤z.length+1:=by unfold wt at sw;omega
  walk_at"rd"
  refine rd_if (fun c3=>?_) (fun c3=>?_)
  ·have w2:=wt_td 1 (ps.drop a)
   rw[List.drop_drop]at w2
   walk_at"rd"
   refine⟨rfl,?_⟩
   walk_at"rd"
   refine rd_slL (SqL.of hp7) fun l3 nl3=>?_
   rw[cutT9,← List.map_take]
   generalize hE:upd H7 l3 _=H8
   obtain⟨hh8,k8,hl3,s8⟩:=newl hh7 nl3 k7 hE
   clear hE
   have hl_8:=s8 _ _ hp7
   have hl2_8:=s8 _ _ hl7
   walk_at"rd"
   refine rd_slL (SqL.of hl_8) fun l4 nl4=>?_
   rw[show(a:Int)+1 =((a+1:Nat):Int) by push_cast;rfl,cutD9,← List.map_drop]
   generalize hE:upd H8 l4 _=H9
   obtain⟨hh9,k9,hl4,s9⟩:=newl hh8 nl4 k8 hE
   clear hE
   have hl_9:=s9 _ _ hl_8
   have hl2_9:=s9 _ _ hl2_8
   have hl3_9:=s9 _ _ hl3
   walk_at"rd"
   refine⟨l3,l4,_,_,rfl,rfl,hl3_9,hl4,(by simp only[List.length_map,List.length_append,List.length_reverse,List.length_take,List.length_drop];exact Nat.le_trans (by omega:_≤3000003) (by decide)),fun l5 nl5=>?_⟩
   rw[← List.map_append]
   generalize hE:upd H9 l5 _=H10
   obtain⟨hh10,k10,hl5,s10⟩:=newl hh9 nl5 k9 hE
   clear hE
   have hl_10:=s10 _ _ hl_9
   have hl2_10:=s10 _ _ hl2_9
   have hl3_10:=s10 _ _ hl3_9
   have hl4_10:=s10 _ _ hl4
   walk_at"rd"
   refine⟨_,l5,_,rfl,rfl,SqL.of hl5,?_,?_⟩
   ·rw[show(sg cb).length=1 from rfl,Nat.mul_one]
    exact Nat.le_trans (show wt _≤2*(z.length+1) by(rw[wt_app];omega)) (by omega)
   refine fin _ _ (Nat.le_trans (join_le cb _) (show wt _≤2*z.length+2 by(rw[wt_app];omega))) hh10 k10
  walk_at"rd"
  refine rd_if (fun c4=>?_) (fun c4=>?_)
  ·have w2:=wt_td 1 ((ps.drop a).take 2)
   have w3:=wt_td 2 (ps.drop a)
   walk_at"rd"
   refine⟨rfl,?_⟩
   walk_at"rd"
   refine rd_slL (SqL.of hp7) fun l3 nl3=>?_
   rw[cutT9,← List.map_take]
   generalize hE:upd H7 l3 _=H8
   obtain⟨hh8,k8,hl3,s8⟩:=newl hh7 nl3 k7 hE
   clear hE
   have hl_8:=s8 _ _ hp7
   have hl2_8:=s8 _ _ hl7
   walk_at"rd"
   refine rd_slL (SqL.of hl2_8) fun l4 nl4=>?_
   rw[show(some (1:Int))=some ((1:Nat):Int) from rfl,cutT9,← List.map_drop,← List.map_take,← List.map_take]
   generalize hE:upd H8 l4 _=H9
   obtain⟨hh9,k9,hl4,s9⟩:=newl hh8 nl4 k8 hE
   clear hE
   have hl_9:=s9 _ _ hl_8
   have hl2_9:=s9 _ _ hl2_8
   have hl3_9:=s9 _ _ hl3
   walk_at"rd"
   refine⟨l3,l4,_,_,rfl,rfl,hl3_9,hl4,(by simp only[List.length_map,List.length_append,List.length_reverse,List.length_take,List.length_drop];exact Nat.le_trans (by omega:_≤3000003) (by decide)),fun l5 nl5=>?_⟩
   rw[← List.map_append]
   generalize hE:upd H9 l5 _=H10
   obtain⟨hh10,k10,hl5,s10⟩:=newl hh9 nl5 k9 hE
   clear hE
   have hl_10:=s10 _ _ hl_9
   have hl2_10:=s10 _ _ hl2_9
   have hl3_10:=s10 _ _ hl3_9
   have hl4_10:=s10 _ _ hl4
   walk_at"rd"
   refine rd_slL (SqL.of hl_10) fun l6 nl6=>?_
   rw[cutD9,← List.map_drop]
   generalize hE:upd H10 l6 _=H11
   obtain⟨hh11,k11,hl6,s11⟩:=newl hh10 nl6 k10 hE
   clear hE
   have hl_11:=s11 _ _ hl_10
   have hl2_11:=s11 _ _ hl2_10
   have hl3_11:=s11 _ _ hl3_10
   have hl4_11:=s11 _ _ hl4_10
   have hl5_11:=s11 _ _ hl5
   walk_at"rd"
   refine⟨l5,l6,_,_,rfl,rfl,hl5_11,hl6,(by simp only[List.length_map,List.length_append,List.length_reverse,List.length_take,List.length_drop];exact Nat.le_trans (by omega:_≤3000003) (by decide)),fun l7 nl7=>?_⟩
   rw[← List.map_append]
   generalize hE:upd H11 l7 _=H12
   obtain⟨hh12,k12,hl7,s12⟩:=newl hh11 nl7 k11 hE
   clear hE
   have hl_12:=s12 _ _ hl_11
   have hl2_12:=s12 _ _ hl2_11
   have hl3_12:=s12 _ _ hl3_11
   have hl4_12:=s12 _ _ hl4_11
   have hl5_12:=s12 _ _ hl5_11
   have hl6_12:=s12 _ _ hl6
   walk_at"rd"
   refine⟨_,l7,_,rfl,rfl,SqL.of hl7,?_,?_⟩
   ·rw[show(sg cb).length=1 from rfl,Nat.mul_one]
    exact Nat.le_trans (show wt _≤2*(z.length+1) by(rw[wt_app,wt_app];omega)) (by omega)
   refine fin _ _ (Nat.le_trans (join_le cb _) (show wt _≤2*z.length+2 by(rw[wt_app,wt_app];omega))) hh12 k12
  ·have w2:=wt_td 2 (ps.drop a)
   rw[List.drop_drop]at w2
   walk_at"rd"
   refine⟨rfl,?_⟩
   walk_at"rd"
   refine rd_slL (SqL.of hp7) fun l3 nl3=>?_
   rw[cutT9,← List.map_take]
   generalize hE:upd H7 l3 _=H8
   obtain⟨hh8,k8,hl3,s8⟩:=newl hh7 nl3 k7 hE
   clear hE
   have hl_8:=s8 _ _ hp7
   have hl2_8:=s8 _ _ hl7
   walk_at"rd"
   refine⟨l2,_,rfl,SqL.of hl2_8,fun l4 nl4=>?_⟩
   generalize hE:upd H8 l4 _=H9
   obtain⟨hh9,k9,hl4,s9⟩:=newl hh8 nl4 k8 hE
   clear hE
   have hl_9:=s9 _ _ hl_8
   have hl2_9:=s9 _ _ hl2_8
   have hl3_9:=s9 _ _ hl3
   rw[← List.map_drop,← List.map_take,← List.map_reverse]at hl4
   walk_at"rd"
   refine⟨l3,l4,_,_,rfl,rfl,hl3_9,hl4,(by simp only[List.length_map,List.length_append,List.length_reverse,List.length_take,List.length_drop];exact Nat.le_trans (by omega:_≤3000003) (by decide)),fun l5 nl5=>?_⟩
   rw[← List.map_append]
   generalize hE:upd H9 l5 _=H10
   obtain⟨hh10,k10,hl5,s10⟩:=newl hh9 nl5 k9 hE
   clear hE
   have hl_10:=s10 _ _ hl_9
   have hl2_10:=s10 _ _ hl2_9
   have hl3_10:=s10 _ _ hl3_9
   have hl4_10:=s10 _ _ hl4
   walk_at"rd"
   refine rd_slL (SqL.of hl_10) fun l6 nl6=>?_
   rw[show(a:Int)+2 =((a+2:Nat):Int) by push_cast;rfl,cutD9,← List.map_drop]
   generalize hE:upd H10 l6 _=H11
   obtain⟨hh11,k11,hl6,s11⟩:=newl hh10 nl6 k10 hE
   clear hE
   have hl_11:=s11 _ _ hl_10
   have hl2_11:=s11 _ _ hl2_10
   have hl3_11:=s11 _ _ hl3_10
   have hl4_11:=s11 _ _ hl4_10
   have hl5_11:=s11 _ _ hl5
   walk_at"rd"
   refine⟨l5,l6,_,_,rfl,rfl,hl5_11,hl6,(by simp only[List.length_map,List.length_append,List.length_reverse,List.length_take,List.length_drop];exact Nat.le_trans (by omega:_≤3000003) (by decide)),fun l7 nl7=>?_⟩
   rw[← List.map_append]
   generalize hE:upd H11 l7 _=H12
   obtain⟨hh12,k12,hl7,s12⟩:=newl hh11 nl7 k11 hE
   clear hE
   have hl_12:=s12 _ _ hl_11
   have hl2_12:=s12 _ _ hl2_11
   have hl3_12:=s12 _ _ hl3_11
   have hl4_12:=s12 _ _ hl4_11
   have hl5_12:=s12 _ _ hl5_11
   have hl6_12:=s12 _ _ hl6
   walk_at"rd"
   refine⟨_,l7,_,rfl,rfl,SqL.of hl7,?_,?_⟩
   ·rw[show(sg cb).length=1 from rfl,Nat.mul_one]
    exact Nat.le_trans (show wt _≤2*(z.length+1) by(rw[wt_app,wt_app,wt_rev];omega)) (by omega)
   refine fin _ _ (Nat.le_trans (join_le cb _) (show wt _≤2*z.length+2 by(rw[wt_app,wt_app,wt_rev];omega))) hh12 k12
theorem ok_law {f:Addr}{fd:FuncData}(F:Fun K "law" "law" s_law f fd) (T:Bl mg) (C__law_open:Cal P w K mg base "_law_open" ["_law_script", "_law_place"] 1 (sp__law_open K)) (C__law_draw:Cal P w K mg base "_law_draw" ["_law_hand", "_law_many"] 1 (sp__law_draw K)) (C__law_rows_text:Cal P w K mg base "_law_rows_text" ["_law_rows_here"] 2 (sp__law_rows_text K)) (C__law_spoilt:Cal P w K mg base "_law_spoilt" ["_law_hand", "_law_text"] 2 (sp__law_spoilt K)) (C__law_right:Cal P w K mg base "_law_right" ["_law_text"] 9 (sp__law_right K)) (C__law_rows:Cal P w K mg base "_law_rows" ["_law_hand", "_law_most"] 5 (sp__law_rows K)) (C__law_step_text:Cal P w K mg base "_law_step_text" ["_law_step_here"] 2 (sp__law_step_text K)) (C__law_yard_text:Cal P w K mg base "_law_yard_text" ["_law_yard_here"] 3 (sp__law_yard_text K)) (C__law_step:Cal P w K mg base "_law_step" ["_law_hand"] 5 (sp__law_step K)) (C__law_yard:Cal P w K mg base "_law_yard" ["_law_hand"] 6 (sp__law_yard K)):FnOk P w K mg base CX0 10 f fd ["_law_script"] (sp_law K):=by
 refine F.ok sc_law (fun vs H Q E h=>?_) (fun cdv A outer s H vs Q E hr h=>?_)
 ·obtain⟨a,ns,rfl,_⟩:=h;rfl
 obtain⟨a,ms,rfl,hS,hlen,q⟩:=h
 refine⟨_,(PSSs.out (pssS_cons ⟨(ps_for PassesOwn.never rfl (pi_range1 rfl T.range (pa_cons pe_int pa_nil stx_Constant)) (pg_name (i:=1) sc_law.nd rfl (Or.inl rfl)) (pss_cons (ps_set (i:=2) sc_law.nd rfl (Or.inl rfl) (pcl C__law_open (hr.mono (by decide)) (pa_cons (pv 0) (pa_cons (pv 1) pa_nil stx_Name) stx_Name)))
   (pss_cons (ps_set (i:=3) sc_law.nd rfl (Or.inl rfl) (pcl C__law_draw (hr.mono (by decide)) (pa_cons (pv 2) (pa_cons pe_int pa_nil stx_Constant) stx_Name)))
   (pss_cons (ps_set (i:=4) sc_law.nd rfl (Or.inl rfl) (pcl C__law_open (hr.mono (by decide)) (pa_cons (pv 0) (pa_cons (pe_op op_add (pv 1) pe_int) pa_nil stx_BinOp) stx_Name)))
   (pss_cons (ps_cut (ps_if (pt_cmpR op_eq (pv 3) pe_int (nomark _)) (pss_one (ps_set (i:=5) sc_law.nd rfl (Or.inl rfl) (pcl C__law_rows_text (hr.mono (by decide)) (pa_cons (pcl C__law_rows (hr.mono (by decide)) (pa_cons (pv 2) (pa_cons pe_int pa_nil stx_Constant) stx_Name)) pa_nil stx_Call)))) (pss_one (ps_if (pt_cmpR op_eq (pv 3) pe_int (nomark _)) (pss_one (ps_set (i:=5) sc_law.nd rfl (Or.inl rfl) (pcl C__law_step_text (hr.mono (by decide)) (pa_cons (pcl C__law_step (hr.mono (by decide)) (pa_cons (pv 2) pa_nil stx_Name)) pa_nil stx_Call)))) (pss_one (ps_set (i:=5) sc_law.nd rfl (Or.inl rfl) (pcl C__law_yard_text (hr.mono (by decide)) (pa_cons (pcl C__law_yard (hr.mono (by decide)) (pa_cons (pv 2) pa_nil stx_Name)) pa_nil stx_Call))))))))
   (pss_one (ps_for PassesOwn.never rfl (pi_range1 rfl T.range (pa_cons pe_int pa_nil stx_Constant)) (pg_name (i:=6) sc_law.nd rfl (Or.inl rfl)) (pss_cons (ps_if (pt_not (pt_val (pcl C__law_right (hr.mono (by decide)) (pa_cons (pv 5) pa_nil stx_Name)))) (pss_one (ps_ret pe_bl)) pss_nil)
   (pss_one (ps_set (i:=5) sc_law.nd rfl (Or.inl rfl) (pcl C__law_spoilt (hr.mono (by decide)) (pa_cons (pv 4) (pa_cons (pv 5) pa_nil stx_Name) stx_Name))))))))))))⟩
   (pssS_cons (psS_for PassesOwn.never rfl (piS_list (pes_lst (pass_cons pes_non (pass_cons pes_int (pass_cons pes_bl (pass_cons (pes_lst pas_nil) (pass_cons (pes_lst (pass_cons pes_str pas_nil stx_Constant)) (pass_cons (pes_tup (pass_cons pes_str pas_nil stx_Constant)) (pass_cons pes_dnew pas_nil stx_Dict) stx_Tuple) stx_List) stx_List) stx_Constant) stx_Constant) stx_Constant))) (pg_name (i:=7) sc_law.nd rfl (Or.inl rfl)) (pss_one (ps_if (pt_not (pt_val (pcl C__law_right (hr.mono (by decide)) (pa_cons (pv 7) pa_nil stx_Name)))) (pss_one (ps_ret pe_bl)) pss_nil)) (fun _=>rfl))
   (pssS_cons (psS_for PassesOwn.never rfl (piS_list (pes_lst (pass_cons pes_str (pass_cons pes_str (pass_cons pes_str (pass_cons pes_str (pass_cons pes_str (pass_cons pes_str (pass_cons pes_str (pass_cons pes_str (pass_cons pes_str (pass_cons pes_str (pass_cons pes_str pas_nil stx_Constant) stx_Constant) stx_Constant) stx_Constant) stx_Constant) stx_Constant) stx_Constant) stx_Constant) stx_Constant) stx_Constant) stx_Constant))) (pg_name (i:=5) sc_law.nd rfl (Or.inl rfl)) (pss_one (ps_if (pt_not (pt_val (pcl C__law_right (hr.mono (by decide)) (pa_cons (pv 5) pa_nil stx_Name)))) (pss_one (ps_ret pe_bl)) pss_nil)) (fun _=>rfl))
   (pssS_cons (psS_set (i:=8) sc_law.nd rfl (Or.inl rfl) (pes_op op_repS pes_str pes_int) rfl (.inl rfl))
   (pssS_cons (psS_set (i:=9) sc_law.nd rfl (Or.inl rfl) (pes_lst (pass_cons pes_str (pass_cons pes_str (pass_cons pes_str (pass_cons (pes_op op_catS (pes_var (pv 8)) pes_str) (pass_cons (pes_op op_catS pes_str (pes_var (pv 8))) (pass_cons (pes_op op_catS (pes_op op_catS pes_str (pes_var (pv 8))) pes_str) (pass_cons (pes_op op_catS (pes_var (pv 8)) pes_str) pas_nil stx_BinOp) stx_BinOp) stx_BinOp) stx_BinOp) stx_Constant) stx_Constant) stx_Constant)) rfl (.inl rfl))
   (pssS_cons (psS_for PassesOwn.never rfl (piS_list (pes_op op_cat (pes_var (pv 9)) (pes_lst (pass_cons pes_str (pass_cons pes_str (pass_cons pes_str (pass_cons pes_str (pass_cons pes_str pas_nil stx_Constant) stx_Constant) stx_Constant) stx_Constant) stx_Constant)))) (pg_name (i:=5) sc_law.nd rfl (Or.inl rfl)) (pss_one (ps_if (pt_not (pt_val (pcl C__law_right (hr.mono (by decide)) (pa_cons (pv 5) pa_nil stx_Name)))) (pss_one (ps_ret pe_bl)) pss_nil)) (fun _=>rfl))
   (pssS_one ⟨(ps_ret pe_bl)⟩)))))))),?_⟩
 rw[st_law]
 walk_at"rd"
 refine⟨10,rfl,by omega,by omega,?_⟩
 refine for_rangeO (n:=10) (fun i σ H'=>(∃x1 x2 x3 x4 x5 x6 x7 x8 x9,σ=[some (.ref a),x1,x2,x3,x4,x5,x6,x7,x8,x9])∧Same H H') ⟨⟨_,_,_,_,_,_,_,_,_,rfl⟩,fun _ _ e=>e⟩ ?_ ?_
 ·rintro i σ H0 hi ⟨⟨x1,x2,x3,x4,x5,x6,x7,x8,x9,rfl⟩,s0⟩
  walk_at"rd"
  refine⟨a,ms,_,rfl,s0.seq hS,hlen,by omega,by omega,fun p H1 np s1 hh1=>?_⟩
  walk_at"rd"
  refine⟨p,_,3,rfl,hh1,by decide,by decide,by decide,fun way H2 w0 w1 hh2 k2=>?_⟩
  have s02:Same H0 H2:=Kp.new s1 np k2
  walk_at"rd"
  refine⟨a,ms,_,rfl,(s0.trans s02).seq hS,hlen,by omega,by omega,fun p2 H3 np2 s3 hh3=>?_⟩
  have hp3:=hh2.same s3
  have p2p:p2≠p:=fun z=>by rw[z]at np2;exact hand_some hh2 np2
  walk_at"rd"
  refine cutO (fun σ H'=>(∃x6 x7 x8 x9 z,σ=[some (.ref a),some (.int (0+i)),some (.ref p),some (.int way),some (.ref p2),some (.str z),x6,x7,x8,x9]∧z.length≤5000)∧Same H0 H'∧Hand H' p2 1100000) ?_ ?_
  ·intro Nx hNx
   walk_at"rd"
   refine rd_if (fun c=>?_) (fun c=>?_)
   ·walk_at"rd"
    refine⟨p,_,4,rfl,hp3,by decide,by decide,by decide,fun v rs fp H4 td ok rl nd fr hh4 k4=>?_⟩
    walk_at"rd"
    refine⟨v,rs,fp,rfl,td,⟨fun r hr=>(ok r hr).r,by omega⟩,fun H5 s5=>?_⟩
    have rl2:=rowsT_len (rs:=rs) (B:=233) (C:=3) (fun r hr'=>rowT_len (B:=8) (ok r hr').1 (ok r hr').2) (by omega)
    walk_at"rd"
    refine⟨⟨_,_,_,_,_,rfl,by omega⟩,?_,?_⟩
    ·exact(Kp.new (s02.trans s3) np k4).trans s5
    ·exact(hand2 hh3 hp3 p2p k4).same s5
   walk_at"rd"
   refine rd_if (fun c2=>?_) (fun c2=>?_)
   ·walk_at"rd"
    refine⟨p,_,rfl,hp3,by decide,fun v st fp H4 td ok sl hh4 k4=>?_⟩
    walk_at"rd"
    refine⟨v,st,fp,rfl,td,ok,fun H5 s5=>?_⟩
    walk_at"rd"
    exact⟨⟨_,_,_,_,_,rfl,sl⟩,(Kp.new (s02.trans s3) np k4).trans s5,(hand2 hh3 hp3 p2p k4).same s5⟩
   ·walk_at"rd"
    refine⟨p,_,rfl,hp3,by decide,fun v w r hs fp H4 td ok sl hh4 k4=>?_⟩
    walk_at"rd"
    refine⟨v,w,r,hs,fp,rfl,td,ok,fun H5 s5=>?_⟩
    walk_at"rd"
    exact⟨⟨_,_,_,_,_,rfl,sl⟩,(Kp.new (s02.trans s3) np k4).trans s5,(hand2 hh3 hp3 p2p k4).same s5⟩
  ·rintro σ H4 ⟨⟨y6,y7,y8,y9,z0,rfl,zl0⟩,s4,hh4⟩
   walk_at"rd"
   refine⟨5,rfl,by omega,by omega,?_⟩
   refine for_rangeO (n:=5) (fun j σ H'=>(∃x6 x7 x8 x9 z,σ=[some (.ref a),some (.int (0+i)),some (.ref p),some (.int way),some (.ref p2),some (.str z),x6,x7,x8,x9]∧z.length+2≤5002*2^j)∧Same H0 H'∧Hand H' p2 (1100000+10*j)) ⟨⟨_,_,_,_,_,rfl,by simp;omega⟩,s4,hh4⟩ ?_ ?_
   ·rintro j σ H5 hj ⟨⟨u6,u7,u8,u9,z,rfl,zl⟩,s5,hh5⟩
    have pj:=pow92 (i:=j) (by omega)
    have pj2:5002*2^(j+1)=2*(5002*2^j):=by rw[Nat.pow_succ];omega
    walk_at"rd"
    refine⟨.str z,rfl,.inr ⟨z,rfl,Nat.le_trans (by omega:_≤160064) (by decide)⟩,fun H6 s6=>?_⟩
    walk_at"rd"
    refine⟨p2,_,z,rfl,hh5.same s6,by omega,by omega,fun z' H7 zl' hh7 k7=>?_⟩
    walk_at"rd"
    refine⟨⟨_,_,_,_,_,rfl,by omega⟩,Kp.new (s5.trans s6) ((s02).free np2) k7,hh7.mono (by omega)⟩
   ·rintro σ H5 ⟨⟨u6,u7,u8,u9,z,rfl,zl⟩,s5,hh5⟩
    walk_at"rd"
    exact⟨⟨_,_,_,_,_,_,_,_,_,rfl⟩,s0.trans s5⟩
 ·rintro σ H0 ⟨⟨x1,x2,x3,x4,x5,x6,x7,x8,x9,rfl⟩,s0⟩
  walk_at"rd"
  refine⟨(by show 0≤sizeLine;decide),fun l1 nl1=>?_⟩
  generalize hE:upd H0 l1 _=H1
  obtain⟨hl1,s1⟩:=newo nl1 hE
  clear hE
  walk_at"rd"
  refine⟨(by show 1≤sizeLine;decide),fun l2 nl2=>?_⟩
  generalize hE:upd H1 l2 _=H2
  obtain⟨hl2,s2⟩:=newo nl2 hE
  clear hE
  walk_at"rd"
  refine⟨(by show 1≤sizeLine;decide),fun t3 nt3=>?_⟩
  generalize hE:upd H2 t3 _=H3
  obtain⟨ht3,s3⟩:=newo nt3 hE
  clear hE
  walk_at"rd"
  intro d4 nd4
  generalize hE:upd H3 d4 _=H4
  obtain⟨hd4,s4⟩:=newo nd4 hE
  clear hE
  walk_at"rd"
  refine⟨(by show 7≤sizeLine;decide),fun L5 nL5=>?_⟩
  generalize hE:upd H4 L5 _=H5
  obtain⟨hL5,s5⟩:=newo nL5 hE
  clear hE
  have s05:Same H0 H5:=s1.trans (s2.trans (s3.trans (s4.trans s5)))
  have e1:=s5 _ _ (s4 _ _ (s3 _ _ (s2 _ _ hl1)))
  have e2:=s5 _ _ (s4 _ _ (s3 _ _ hl2))
  have e3:=s5 _ _ (s4 _ _ ht3)
  have e4:=s5 _ _ hd4
  refine⟨L5,rfl,⟨_,SqL.of hL5⟩,?_⟩
  refine for_listO (xs:=[.non,.int 5,.bl true,.ref l1,.ref l2,.ref t3,.ref d4]) (fun i σ H'=>(∃x1 x2 x3 x4 x5 x6 x7 x8 x9,σ=[some (.ref a),x1,x2,x3,x4,x5,x6,x7,x8,x9])∧Same H5 H') ⟨⟨_,_,_,_,_,_,_,_,_,rfl⟩,fun _ _ e=>e⟩ (fun i σ H' _ h=>SqL.of (h.2 _ _ hL5)) ?_ ?_
  ·rintro i x σ H6 hx ⟨⟨y1,y2,y3,y4,y5,y6,y7,y8,y9,rfl⟩,s6⟩
   have no:NoS K H6 x:=by
    match i,hx with
    | 0,hx=>cases hx;exact⟨_,.non,rfl⟩
    | 1,hx=>cases hx;exact⟨_,.int 5,rfl⟩
    | 2,hx=>cases hx;exact⟨_,.bl true,rfl⟩
    | 3,hx=>cases hx;exact⟨_,.lst (s6 _ _ e1),rfl⟩
    | 4,hx=>cases hx;exact⟨_,.lst (s6 _ _ e2),rfl⟩
    | 5,hx=>cases hx;exact⟨_,.tup (s6 _ _ e3),rfl⟩
    | 6,hx=>cases hx;exact⟨_,.dK (s6 _ _ e4),rfl⟩
    | n+7,hx=>simp at hx
   walk_at"rd"
   refine⟨x,rfl,.inl no,fun H7 s7=>?_⟩
   walk_at"rd"
   exact⟨⟨_,_,_,_,_,_,_,_,_,rfl⟩,s6.trans s7⟩
  rintro σ H6 ⟨⟨y1,y2,y3,y4,y5,y6,y7,y8,y9,rfl⟩,s6⟩
  clear e1 e2 e3 e4 hl1 hl2 ht3 hd4 hL5
  walk_at"rd"
  refine⟨(by show 11≤sizeLine;decide),fun L7 nL7=>?_⟩
  generalize hE:upd H6 L7 _=H7
  obtain⟨hL7,s7⟩:=newo nL7 hE
  clear hE
  refine⟨L7,rfl,⟨_,SqL.of hL7⟩,?_⟩
  refine for_listO (fun i σ H'=>(∃x1 x2 x3 x4 x5 x6 x7 x8 x9,σ=[some (.ref a),x1,x2,x3,x4,x5,x6,x7,x8,x9])∧Same H7 H') ⟨⟨_,_,_,_,_,_,_,_,_,rfl⟩,fun _ _ e=>e⟩ (fun i σ H' _ h=>SqL.of (h.2 _ _ hL7)) ?_ ?_
  ·rintro i x σ H8 hx ⟨⟨u1,u2,u3,u4,u5,u6,u7,u8,u9,rfl⟩,s8⟩
   have st:∃z,x=V.str z∧z.length+2≤sizeLine:=by
    have hm:=List.mem_of_getElem? hx
    simp only[List.mem_cons,List.not_mem_nil,or_false]at hm
    rcases hm with rfl|rfl|rfl|rfl|rfl|rfl|rfl|rfl|rfl|rfl|rfl <;> exact⟨_,rfl,by decide +kernel⟩
   obtain⟨z,rfl,zl⟩:=st
   walk_at"rd"
   refine⟨.str z,rfl,.inr ⟨z,rfl,zl⟩,fun H9 s9=>?_⟩
   walk_at"rd"
   exact⟨⟨_,_,_,_,_,_,_,_,_,rfl⟩,s8.trans s9⟩
  rintro σ H8 ⟨⟨u1,u2,u3,u4,u5,u6,u7,u8,u9,rfl⟩,s8⟩
  walk_at"rd"
  refine⟨_,_,rfl,rfl,far_ok,?_⟩
  have fl:=far_len
  generalize Txt.mul (Str.ofString "1") 3900=zf at fl ⊢
  have b2:(Str.ofString "=a").length=2:=by decide +kernel
  have b6:(Str.ofString "rooms ").length=6:=by decide +kernel
  have b8:(Str.ofString "row 0 0 ").length=8:=by decide +kernel
  have b5:(Str.ofString " 5").length=2:=by decide +kernel
  walk_at"rd"
  refine rd_catS (by rw[fl,b2];decide) ?_
  walk_at"rd"
  refine rd_catS (by rw[fl,b6];decide) ?_
  walk_at"rd"
  refine rd_catS (by rw[fl,b8];decide) ?_
  walk_at"rd"
  refine rd_catS (by rw[str_applen,fl,b8,b2];decide) ?_
  walk_at"rd"
  refine rd_catS (by rw[fl,b5];decide) ?_
  walk_at"rd"
  refine⟨(by show 7≤sizeLine;decide),fun L9 nL9=>?_⟩
  generalize hE:upd H8 L9 _=H9
  obtain⟨hL9,s9⟩:=newo nL9 hE
  clear hE
  walk_at"rd"
  refine⟨(by show 5≤sizeLine;decide),fun LA nLA=>?_⟩
  generalize hE:upd H9 LA _=HA
  obtain⟨hLA,sA⟩:=newo nLA hE
  clear hE
  walk_at"rd"
  refine⟨L9,LA,_,_,rfl,rfl,sA _ _ hL9,hLA,(by show 7+5≤sizeLine;decide),fun LB nLB=>?_⟩
  generalize hE:upd HA LB _=HB
  obtain⟨hLB,sB⟩:=newo nLB hE
  clear hE
  refine⟨LB,rfl,⟨_,SqL.of hLB⟩,?_⟩
  refine for_listO (fun i σ H'=>(∃x1 x2 x3 x4 x5 x6 x7 x8 x9,σ=[some (.ref a),x1,x2,x3,x4,x5,x6,x7,x8,x9])∧Same HB H') ⟨⟨_,_,_,_,_,_,_,_,_,rfl⟩,fun _ _ e=>e⟩ (fun i σ H' _ h=>SqL.of (h.2 _ _ hLB)) ?_ ?_
  ·rintro i x σ HC hx ⟨⟨u1,u2,u3,u4,u5,u6,u7,u8,u9,rfl⟩,sC⟩
   have st:∃z,x=V.str z∧z.length≤4000:=by
    have hm:=List.mem_of_getElem? hx
    simp only[List.cons_append,List.nil_append,List.mem_cons,List.not_mem_nil,or_false]at hm
    rcases hm with rfl|rfl|rfl|rfl|rfl|rfl|rfl|rfl|rfl|rfl|rfl|rfl <;> refine⟨_,rfl,?_⟩ <;> first|decide +kernel|(rw[str_applen,str_applen];omega)|(rw[str_applen];omega)
   obtain⟨z,rfl,zl⟩:=st
   walk_at"rd"
   refine⟨.str z,rfl,.inr ⟨z,rfl,Nat.le_trans (by omega:_≤4002) (by decide)⟩,fun HD sD=>?_⟩
   walk_at"rd"
   exact⟨⟨_,_,_,_,_,_,_,_,_,rfl⟩,sC.trans sD⟩
  rintro σ HC ⟨⟨u1,u2,u3,u4,u5,u6,u7,u8,u9,rfl⟩,sC⟩
  walk_at"rd"
  exact q HC
end
theorem all_mk {l:PySem.W.OpenLaw}{w:World}{K:PySem.W.Frag}{h:Heap}{mg:Str→Option Value}{fa:Addr}(X:K.In h) (G:h.Ns mainGlobals mg) (hfa:mg "law" = some (.ref fa))
  (g0:Ga K "is_name" s_is_name)
  (g1:Ga K "read_rows" s_read_rows)
  (g2:Ga K "read_row" s_read_row)
  (g3:Ga K "read_entry" s_read_entry)
  (g4:Ga K "read_step" s_read_step)
  (g5:Ga K "read_yard" s_read_yard)
  (g6:Ga K "read_words" s_read_words)
  (g7:Ga K "read_number" s_read_number)
  (g8:Ga K "is_number" s_is_number)
  (g9:Ga K "ask_text" s_ask_text)
  (g10:Ga K "_law_open" s__law_open)
  (g11:Ga K "_law_draw" s__law_draw)
  (g12:Ga K "_law_far" s__law_far)
  (g13:Ga K "_law_power" s__law_power)
  (g14:Ga K "_law_key" s__law_key)
  (g15:Ga K "_law_thing" s__law_thing)
  (g16:Ga K "_law_row" s__law_row)
  (g17:Ga K "_law_rows" s__law_rows)
  (g18:Ga K "_law_yard" s__law_yard)
  (g19:Ga K "_law_step" s__law_step)
  (g20:Ga K "_law_row_text" s__law_row_text)
  (g21:Ga K "_law_rows_text" s__law_rows_text)
  (g22:Ga K "_law_step_text" s__law_step_text)
  (g23:Ga K "_law_yard_text" s__law_yard_text)
  (g24:Ga K "_law_number" s__law_number)
  (g25:Ga K "_law_read_entry" s__law_read_entry)
  (g26:Ga K "_law_read_row" s__law_read_row)
  (g27:Ga K "_law_read_rows" s__law_read_rows)
  (g28:Ga K "_law_read_step" s__law_read_step)
  (g29:Ga K "_law_read_yard" s__law_read_yard)
  (g30:Ga K "_law_told" s__law_told)
  (g31:Ga K "_law_right" s__law_right)
  (g32:Ga K "_law_spoilt" s__law_spoilt)
  {f33:Addr}{od33 an33:Option Addr}{sl33:Array (Option Value)}{oc33 kV33 dc33 pm33 cd33 ct33:Value}(a33:PySem.W.nsIn K mainGlobals "law" = some (some (.ref f33))) (l33:K.lookup f33=some ⟨oc33,od33,.func (PySem.W.fnOf "law" "law" (defArgs s_law) (defBody s_law) (defScope s_law) .none kV33 dc33 pm33 an33 cd33 ct33),sl33⟩) (c33:PySem.W.codeIn K cd33 "law" = true) (k33:PySem.W.keepIn K (.ref f33)=true)
  {TE:Addr}(gT:GaT K TE)
  {CE_NoText:Addr}(gp_NoText:GaX0 K "NoText" CE_NoText TE)
  {CE_Busy:Addr}(gn_Busy:PySem.W.nsIn K mainGlobals "Busy" = some (some (.ref CE_Busy)))
  {CE_Full:Addr}(gn_Full:PySem.W.nsIn K mainGlobals "Full" = some (some (.ref CE_Full)))
  {CE_Lacking:Addr}(gn_Lacking:PySem.W.nsIn K mainGlobals "Lacking" = some (some (.ref CE_Lacking)))
  {CE_NoKey:Addr}(gn_NoKey:PySem.W.nsIn K mainGlobals "NoKey" = some (some (.ref CE_NoKey)))
  {CE_NoLine:Addr}(gn_NoLine:PySem.W.nsIn K mainGlobals "NoLine" = some (some (.ref CE_NoLine)))
  {CE_NoMark:Addr}(gn_NoMark:PySem.W.nsIn K mainGlobals "NoMark" = some (some (.ref CE_NoMark)))
  {CE_NoName:Addr}(gn_NoName:PySem.W.nsIn K mainGlobals "NoName" = some (some (.ref CE_NoName)))
  {CE_NoRoom:Addr}(gn_NoRoom:PySem.W.nsIn K mainGlobals "NoRoom" = some (some (.ref CE_NoRoom)))
  {CE_NoSize:Addr}(gn_NoSize:PySem.W.nsIn K mainGlobals "NoSize" = some (some (.ref CE_NoSize)))
  {CE_NoThing:Addr}(gn_NoThing:PySem.W.nsIn K mainGlobals "NoThing" = some (some (.ref CE_NoThing)))
  {CE_Taken:Addr}(gn_Taken:PySem.W.nsIn K mainGlobals "Taken" = some (some (.ref CE_Taken)))
  (kt_no:PySem.W.kitAny K (.ref CE_NoText) [.ref CE_Busy,.ref CE_Full,.ref CE_Lacking,.ref CE_NoKey,.ref CE_NoLine,.ref CE_NoMark,.ref CE_NoName,.ref CE_NoRoom,.ref CE_NoSize,.ref CE_NoThing,.ref CE_Taken]=some false)
  (kt_ve:PySem.W.kitOne K (.ref CE_NoText) (.type "ValueError")=some true)
  (z_isinstance:PySem.W.nsIn K mainGlobals "isinstance" = some none)
  (z_str:PySem.W.nsIn K mainGlobals "str" = some none)
  (z_all:PySem.W.nsIn K mainGlobals "all" = some none)
  (z_len:PySem.W.nsIn K mainGlobals "len" = some none)
  (z_int:PySem.W.nsIn K mainGlobals "int" = some none)
  (z_abs:PySem.W.nsIn K mainGlobals "abs" = some none)
  (z_range:PySem.W.nsIn K mainGlobals "range" = some none)
  (z_max:PySem.W.nsIn K mainGlobals "max" = some none)
  (z_list:PySem.W.nsIn K mainGlobals "list" = some none)
  (z_ValueError:PySem.W.nsIn K mainGlobals "ValueError" = some none)
  {t_MOST:Tok}(z_MOST:PySem.W.nsIn K mainGlobals "MOST" = some (some (.int 130 t_MOST)))
  {t_MOST_FIGURES:Tok}(z_MOST_FIGURES:PySem.W.nsIn K mainGlobals "MOST_FIGURES" = some (some (.int 30 t_MOST_FIGURES)))
  {t_LAST_KEY:Tok}(z_LAST_KEY:PySem.W.nsIn K mainGlobals "LAST_KEY" = some (some (.int 1152921504606846975 t_LAST_KEY)))
  {t_MOST_WIDE:Tok}(z_MOST_WIDE:PySem.W.nsIn K mainGlobals "MOST_WIDE" = some (some (.int 8 t_MOST_WIDE)))
  : ∃fd:FuncData,(∀(s:Shared) (v:Value),BindsTo s fd ⟨[v],[]⟩ [("_law_script",v)])∧∀base:Heap,K.In base→base.Ns mainGlobals mg→FnOk l.prog w K mg base CX0 10 fa fd ["_law_script"] (sp_law K):=by
 have e:=hfa.symm.trans (PySem.W.mg_of X G a33)
 cases e
 have T:Bl mg:=⟨PySem.W.mg_none_of X G z_isinstance,PySem.W.mg_none_of X G z_str,PySem.W.mg_none_of X G z_all,PySem.W.mg_none_of X G z_len,PySem.W.mg_none_of X G z_int,PySem.W.mg_none_of X G z_abs,PySem.W.mg_none_of X G z_range,PySem.W.mg_none_of X G z_max,PySem.W.mg_none_of X G z_list,PySem.W.mg_none_of X G z_ValueError,⟨_,PySem.W.mg_of X G z_MOST⟩,⟨_,PySem.W.mg_of X G z_MOST_FIGURES⟩,⟨_,PySem.W.mg_of X G z_LAST_KEY⟩,⟨_,PySem.W.mg_of X G z_MOST_WIDE⟩⟩
 refine⟨PySem.W.fnOf "law" "law" (defArgs s_law) (defBody s_law) (defScope s_law) .none kV33 dc33 pm33 an33 cd33 ct33,fun s v=>.of_eq rfl,fun base _ _=>?_⟩
 have XT:=gT.txt X G
 have XE_NoText:=gp_NoText.txt X G
 have XE_Busy:XNm mg "Busy" CE_Busy:=⟨PySem.W.mg_of X G gn_Busy⟩
 have XE_Full:XNm mg "Full" CE_Full:=⟨PySem.W.mg_of X G gn_Full⟩
 have XE_Lacking:XNm mg "Lacking" CE_Lacking:=⟨PySem.W.mg_of X G gn_Lacking⟩
 have XE_NoKey:XNm mg "NoKey" CE_NoKey:=⟨PySem.W.mg_of X G gn_NoKey⟩
 have XE_NoLine:XNm mg "NoLine" CE_NoLine:=⟨PySem.W.mg_of X G gn_NoLine⟩
 have XE_NoMark:XNm mg "NoMark" CE_NoMark:=⟨PySem.W.mg_of X G gn_NoMark⟩
 have XE_NoName:XNm mg "NoName" CE_NoName:=⟨PySem.W.mg_of X G gn_NoName⟩
 have XE_NoRoom:XNm mg "NoRoom" CE_NoRoom:=⟨PySem.W.mg_of X G gn_NoRoom⟩
 have XE_NoSize:XNm mg "NoSize" CE_NoSize:=⟨PySem.W.mg_of X G gn_NoSize⟩
 have XE_NoThing:XNm mg "NoThing" CE_NoThing:=⟨PySem.W.mg_of X G gn_NoThing⟩
 have XE_Taken:XNm mg "Taken" CE_Taken:=⟨PySem.W.mg_of X G gn_Taken⟩
 have C_is_name:=g0.elim fun f a fd F=>ok_is_name (P:=l.prog) (w:=w) (base:=base) F (PySem.W.mg_of X G a) (F.binds (ps:=["thing"]) fun _ _ _ _ _ _ us hl=>match us,hl with | [_],_=>rfl) T
 have C_is_number:=g8.elim fun f a fd F=>ok_is_number (P:=l.prog) (w:=w) (base:=base) F (PySem.W.mg_of X G a) (F.binds (ps:=["text"]) fun _ _ _ _ _ _ us hl=>match us,hl with | [_],_=>rfl) T
 have C__law_open:=g10.elim fun f a fd F=>ok__law_open (P:=l.prog) (w:=w) (base:=base) F (PySem.W.mg_of X G a) (F.binds (ps:=["_law_script", "_law_place"]) fun _ _ _ _ _ _ us hl=>match us,hl with | [_,_],_=>rfl) T
 have C__law_draw:=g11.elim fun f a fd F=>ok__law_draw (P:=l.prog) (w:=w) (base:=base) F (PySem.W.mg_of X G a) (F.binds (ps:=["_law_hand", "_law_many"]) fun _ _ _ _ _ _ us hl=>match us,hl with | [_,_],_=>rfl) T
 have C__law_power:=g13.elim fun f a fd F=>ok__law_power (P:=l.prog) (w:=w) (base:=base) F (PySem.W.mg_of X G a) (F.binds (ps:=["_law_many"]) fun _ _ _ _ _ _ us hl=>match us,hl with | [_],_=>rfl) T
 have C__law_row_text:=g20.elim fun f a fd F=>ok__law_row_text (P:=l.prog) (w:=w) (base:=base) F (PySem.W.mg_of X G a) (F.binds (ps:=["_law_row_here"]) fun _ _ _ _ _ _ us hl=>match us,hl with | [_],_=>rfl) T
 have C__law_number:=g24.elim fun f a fd F=>ok__law_number (P:=l.prog) (w:=w) (base:=base) F (PySem.W.mg_of X G a) (F.binds (ps:=["_law_text", "_law_least", "_law_most"]) fun _ _ _ _ _ _ us hl=>match us,hl with | [_,_,_],_=>rfl) T
 have C__law_far:=g12.elim fun f a fd F=>ok__law_far (P:=l.prog) (w:=w) (base:=base) F (PySem.W.mg_of X G a) (F.binds (ps:=["_law_hand", "_law_many"]) fun _ _ _ _ _ _ us hl=>match us,hl with | [_,_],_=>rfl) T C__law_draw
 have C__law_thing:=g15.elim fun f a fd F=>ok__law_thing (P:=l.prog) (w:=w) (base:=base) F (PySem.W.mg_of X G a) (F.binds (ps:=["_law_hand"]) fun _ _ _ _ _ _ us hl=>match us,hl with | [_],_=>rfl) T C__law_draw
 have C__law_rows_text:=g21.elim fun f a fd F=>ok__law_rows_text (P:=l.prog) (w:=w) (base:=base) F (PySem.W.mg_of X G a) (F.binds (ps:=["_law_rows_here"]) fun _ _ _ _ _ _ us hl=>match us,hl with | [_],_=>rfl) T C__law_row_text
 have C__law_step_text:=g22.elim fun f a fd F=>ok__law_step_text (P:=l.prog) (w:=w) (base:=base) F (PySem.W.mg_of X G a) (F.binds (ps:=["_law_step_here"]) fun _ _ _ _ _ _ us hl=>match us,hl with | [_],_=>rfl) T C__law_row_text
 have C__law_read_entry:=g25.elim fun f a fd F=>ok__law_read_entry (P:=l.prog) (w:=w) (base:=base) F (PySem.W.mg_of X G a) (F.binds (ps:=["_law_text"]) fun _ _ _ _ _ _ us hl=>match us,hl with | [_],_=>rfl) T C__law_number
 have C__law_spoilt:=g32.elim fun f a fd F=>ok__law_spoilt (P:=l.prog) (w:=w) (base:=base) F (PySem.W.mg_of X G a) (F.binds (ps:=["_law_hand", "_law_text"]) fun _ _ _ _ _ _ us hl=>match us,hl with | [_,_],_=>rfl) T C__law_draw
 have C_read_number:=g7.elim fun f a fd F=>ok_read_number (P:=l.prog) (w:=w) (base:=base) F (PySem.W.mg_of X G a) (F.binds (ps:=["text", "least", "most"]) fun _ _ _ _ _ _ us hl=>match us,hl with | [_,_,_],_=>rfl) T XE_NoText C_is_number
 have C_ask_text:=g9.elim fun f a fd F=>ok_ask_text (P:=l.prog) (w:=w) (base:=base) F (PySem.W.mg_of X G a) (F.binds (ps:=["thing"]) fun _ _ _ _ _ _ us hl=>match us,hl with | [_],_=>rfl) T XE_NoText
 have C__law_key:=g14.elim fun f a fd F=>ok__law_key (P:=l.prog) (w:=w) (base:=base) F (PySem.W.mg_of X G a) (F.binds (ps:=["_law_hand"]) fun _ _ _ _ _ _ us hl=>match us,hl with | [_],_=>rfl) T C__law_draw C__law_far C__law_power
 have C__law_yard_text:=g23.elim fun f a fd F=>ok__law_yard_text (P:=l.prog) (w:=w) (base:=base) F (PySem.W.mg_of X G a) (F.binds (ps:=["_law_yard_here"]) fun _ _ _ _ _ _ us hl=>match us,hl with | [_],_=>rfl) T C__law_rows_text
 have C__law_read_row:=g26.elim fun f a fd F=>ok__law_read_row (P:=l.prog) (w:=w) (base:=base) F (PySem.W.mg_of X G a) (F.binds (ps:=["_law_text"]) fun _ _ _ _ _ _ us hl=>match us,hl with | [_],_=>rfl) T C__law_read_entry
 have C_read_entry:=g3.elim fun f a fd F=>ok_read_entry (P:=l.prog) (w:=w) (base:=base) F (PySem.W.mg_of X G a) (F.binds (ps:=["text"]) fun _ _ _ _ _ _ us hl=>match us,hl with | [_],_=>rfl) T XE_NoText C_is_name C_read_number
 have C_read_words:=g6.elim fun f a fd F=>ok_read_words (P:=l.prog) (w:=w) (base:=base) F (PySem.W.mg_of X G a) (F.binds (ps:=["text"]) fun _ _ _ _ _ _ us hl=>match us,hl with | [_],_=>rfl) T C_ask_text
 have C__law_row:=g16.elim fun f a fd F=>ok__law_row (P:=l.prog) (w:=w) (base:=base) F (PySem.W.mg_of X G a) (F.binds (ps:=["_law_hand"]) fun _ _ _ _ _ _ us hl=>match us,hl with | [_],_=>rfl) T C__law_draw C__law_key C__law_thing
 have C__law_read_rows:=g27.elim fun f a fd F=>ok__law_read_rows (P:=l.prog) (w:=w) (base:=base) F (PySem.W.mg_of X G a) (F.binds (ps:=["_law_text"]) fun _ _ _ _ _ _ us hl=>match us,hl with | [_],_=>rfl) T C__law_read_row
 have C__law_read_step:=g28.elim fun f a fd F=>ok__law_read_step (P:=l.prog) (w:=w) (base:=base) F (PySem.W.mg_of X G a) (F.binds (ps:=["_law_text"]) fun _ _ _ _ _ _ us hl=>match us,hl with | [_],_=>rfl) T C__law_number C__law_read_row
 have C_read_row:=g2.elim fun f a fd F=>ok_read_row (P:=l.prog) (w:=w) (base:=base) F (PySem.W.mg_of X G a) (F.binds (ps:=["text"]) fun _ _ _ _ _ _ us hl=>match us,hl with | [_],_=>rfl) T C_read_entry
 have C__law_rows:=g17.elim fun f a fd F=>ok__law_rows (P:=l.prog) (w:=w) (base:=base) F (PySem.W.mg_of X G a) (F.binds (ps:=["_law_hand", "_law_most"]) fun _ _ _ _ _ _ us hl=>match us,hl with | [_,_],_=>rfl) T C__law_draw C__law_row
 have C__law_step:=g19.elim fun f a fd F=>ok__law_step (P:=l.prog) (w:=w) (base:=base) F (PySem.W.mg_of X G a) (F.binds (ps:=["_law_hand"]) fun _ _ _ _ _ _ us hl=>match us,hl with | [_],_=>rfl) T C__law_draw C__law_row
 have C__law_read_yard:=g29.elim fun f a fd F=>ok__law_read_yard (P:=l.prog) (w:=w) (base:=base) F (PySem.W.mg_of X G a) (F.binds (ps:=["_law_text"]) fun _ _ _ _ _ _ us hl=>match us,hl with | [_],_=>rfl) T C__law_number C__law_read_rows
 have C_read_rows:=g1.elim fun f a fd F=>ok_read_rows (P:=l.prog) (w:=w) (base:=base) F (PySem.W.mg_of X G a) (F.binds (ps:=["text"]) fun _ _ _ _ _ _ us hl=>match us,hl with | [_],_=>rfl) T C_ask_text C_read_row
 have C_read_step:=g4.elim fun f a fd F=>ok_read_step (P:=l.prog) (w:=w) (base:=base) F (PySem.W.mg_of X G a) (F.binds (ps:=["text"]) fun _ _ _ _ _ _ us hl=>match us,hl with | [_],_=>rfl) T XE_NoText C_read_words C_read_number C_read_row
 have C__law_yard:=g18.elim fun f a fd F=>ok__law_yard (P:=l.prog) (w:=w) (base:=base) F (PySem.W.mg_of X G a) (F.binds (ps:=["_law_hand"]) fun _ _ _ _ _ _ us hl=>match us,hl with | [_],_=>rfl) T C__law_draw C__law_rows C__law_row
 have C_read_yard:=g5.elim fun f a fd F=>ok_read_yard (P:=l.prog) (w:=w) (base:=base) F (PySem.W.mg_of X G a) (F.binds (ps:=["text"]) fun _ _ _ _ _ _ us hl=>match us,hl with | [_],_=>rfl) T XE_NoText C_read_words C_read_rows C_read_number
 have C__law_told:=g30.elim fun f a fd F=>ok__law_told (P:=l.prog) (w:=w) (base:=base) F (PySem.W.mg_of X G a) (F.binds (ps:=["_law_way", "_law_text"]) fun _ _ _ _ _ _ us hl=>match us,hl with | [_,_],_=>rfl) T XE_NoText XE_Busy XE_Full XE_Lacking XE_NoKey XE_NoLine XE_NoMark XE_NoName XE_NoRoom XE_NoSize XE_NoThing XE_Taken XT kt_no kt_ve C_read_rows C_read_step C_read_yard
 have C__law_right:=g31.elim fun f a fd F=>ok__law_right (P:=l.prog) (w:=w) (base:=base) F (PySem.W.mg_of X G a) (F.binds (ps:=["_law_text"]) fun _ _ _ _ _ _ us hl=>match us,hl with | [_],_=>rfl) T C__law_told C__law_read_rows C__law_read_step C__law_read_yard
 exact ok_law (fun_mk (st:=s_law) l33 c33 k33) T C__law_open C__law_draw C__law_rows_text C__law_spoilt C__law_right C__law_rows C__law_step_text C__law_yard_text C__law_step C__law_yard
theorem walk {l:PySem.W.OpenLaw}{q:Program}{loose:List Str}{XP:(Str→Option Value)→Heap→Prop}{YP:World→Heap→Prop}{d:DefRec}{K:Params→PySem.W.Frag}(hn:l.most=some 63) (hdf:d.params.defaults=[])
  (hY:∀(w:World) (h:Heap),YP w h→(K w.params).In h)
  (F:∀(w:World) (mg:Str→Option Value) (fa:Addr) (h:Heap),(K w.params).In h→h.Ns mainGlobals mg→mg d.name=some (.ref fa) →
   ∃fd:FuncData,(∀(s:Shared) (u:Value),BindsTo s fd ⟨[u],[]⟩ [("_law_script",u)])∧∀base:Heap,(K w.params).In base→base.Ns mainGlobals mg→FnOk l.prog w (K w.params) mg base CX0 10 fa fd ["_law_script"] (sp_law (K w.params))) :
  PySem.W.WalkO q loose XP YP l.row.toRowW d [] (fun f vs=>PySem.call f vs) :=
 L2.walk_of (n:=63) (k:=10) (x := "_law_script") (CX:=fun _=>CX0) (sp:=fun w=>sp_law (K w.params)) hn (by decide) hdf ⟨rfl,by decide,by decide,rfl⟩ hY F (fun _ _ a ns hl _ hS=>⟨a,ns,rfl,hS,hl,fun _=>rfl⟩) fun _ _ _ _ _ z=>z
end Law
namespace HD
open PySem PySem.W PySem.PyData
noncomputable def pB:List Stmt:=PySem.Challenge.pw_tailrooms_k92_texts_spoilt_anywhere.main.body
noncomputable def nS:List Stmt→Nat→Stmt
 | s::_,0=>s
 | _::r,n+1=>nS r n
 | [],_=>.Pass ⟨0,0,0,0⟩
noncomputable def bS:Stmt→List Stmt
 | .FunctionDef _ _ b ..=>b
 | .ClassDef _ _ _ b ..=>b
 | _=>[]
noncomputable def aS:Stmt→Arguments
 | .FunctionDef _ a ..=>a
 | _=>⟨[],[],none,[],[],none,[]⟩
noncomputable def sS:Stmt→Scope
 | .FunctionDef _ _ _ _ _ _ s ..=>s
 | _=>⟨.function,[],false,false,[]⟩
noncomputable def f (i:Nat):Stmt:=nS pB i
noncomputable def m (i j:Nat):Stmt:=nS (bS (f i)) j
abbrev O:=Params→Obj
noncomputable def E (P:Params) (x:Str) (n:Nat) (v:Value):DictEntry:=⟨keyHash P x,.str x n,v⟩
abbrev B:=Params→BT
noncomputable def n (o:O) (l r:B):B:=fun P=>.node (o P) (l P) (r P)
noncomputable def w (o:O):B:=fun P=>.node (o P) .nil .nil
noncomputable def u:B:=fun _=>.nil
noncomputable def c0 (P:Params) (r:List DictEntry):List DictEntry:=(E P "__name__" 165 (.str "law_tailrooms_k92_texts_spoilt_anywhere" 572))::(E P "__doc__" 166 .none)::(E P "__package__" 167 .none)::(E P "__loader__" 168 (.builtin "__main__.__loader__#opaque"))::(E P "__spec__" 169 .none)::(E P "__annotations__" 170 (.ref 6))::(E P "__builtins__" 171 (.ref 4))::(E P "__file__" 173 (.str "/claim/cut.py" 172))::r
noncomputable def c1 (P:Params) (r:List DictEntry):List DictEntry:=(E P "__cached__" 174 .none)::(E P "TailError" 206 (.ref 24))::(E P "NoSize" 231 (.ref 44))::(E P "NoKey" 256 (.ref 63))::(E P "NoThing" 281 (.ref 82))::(E P "NoRoom" 306 (.ref 101))::(E P "Lacking" 331 (.ref 120))::(E P "Full" 356 (.ref 139))::r
noncomputable def c2 (P:Params) (r:List DictEntry):List DictEntry:=(E P "NoMark" 381 (.ref 158))::(E P "Busy" 397 (.ref 170))::(E P "NoText" 413 (.ref 182))::(E P "NoLine" 429 (.ref 194))::(E P "NoName" 454 (.ref 213))::(E P "Taken" 479 (.ref 232))::(E P "is_name" 487 (.ref 239))::(E P "MOST" 491 (.int 130 490))::r
noncomputable def c3 (P:Params) (r:List DictEntry):List DictEntry:=(E P "MOST_FIGURES" 493 (.int 30 492))::(E P "LAST_KEY" 499 (.int 1152921504606846975 498))::(E P "MOST_WIDE" 501 (.int 8 500))::(E P "read_rows" 507 (.ref 244))::(E P "read_row" 513 (.ref 249))::(E P "read_entry" 523 (.ref 256))::(E P "read_step" 536 (.ref 263))::(E P "read_yard" 542 (.ref 268))::r
noncomputable def c4 (P:Params) (r:List DictEntry):List DictEntry:=(E P "read_words" 549 (.ref 275))::(E P "read_number" 558 (.ref 282))::(E P "is_number" 564 (.ref 287))::(E P "ask_text" 571 (.ref 294))::(E P "_law_open" 579 (.ref 299))::(E P "_law_draw" 590 (.ref 306))::(E P "_law_far" 600 (.ref 313))::(E P "_law_power" 609 (.ref 320))::r
noncomputable def c5 (P:Params) (r:List DictEntry):List DictEntry:=(E P "_law_key" 618 (.ref 327))::(E P "_law_thing" 624 (.ref 332))::(E P "_law_row" 633 (.ref 339))::(E P "_law_rows" 643 (.ref 346))::(E P "_law_yard" 654 (.ref 353))::(E P "_law_step" 660 (.ref 358))::(E P "_law_row_text" 670 (.ref 365))::(E P "_law_rows_text" 676 (.ref 370))::r
noncomputable def c6 (P:Params) (r:List DictEntry):List DictEntry:=(E P "_law_step_text" 685 (.ref 377))::(E P "_law_yard_text" 694 (.ref 384))::(E P "_law_number" 704 (.ref 391))::(E P "_law_read_entry" 716 (.ref 398))::(E P "_law_read_row" 722 (.ref 403))::(E P "_law_read_rows" 728 (.ref 408))::(E P "_law_read_step" 734 (.ref 413))::(E P "_law_read_yard" 740 (.ref 418))::r
noncomputable def c7 (P:Params) (r:List DictEntry):List DictEntry:=(E P "_law_told" 750 (.ref 425))::(E P "_law_right" 760 (.ref 432))::(E P "_law_spoilt" 777 (.ref 439))::(E P "law" 793 (.ref 446))::r
noncomputable def c8 (P:Params) (r:List Value):List Value:=(.int 2 0)::(.int 0 0)::(.ref 20)::(.int 4 0)::(.int 0 0)::(.ref 33)::(.int 8 0)::(.int 0 0)::(.ref 52)::(.int 12 0)::(.int 0 0)::(.ref 71)::(.int 16 0)::(.int 0 0)::(.ref 90)::(.int 20 0)::(.int 0 0)::(.ref 109)::r
noncomputable def c9 (P:Params) (r:List Value):List Value:=(.int 24 0)::(.int 0 0)::(.ref 128)::(.int 28 0)::(.int 0 0)::(.ref 147)::(.int 32 0)::(.int 0 0)::(.ref 166)::(.int 34 0)::(.int 0 0)::(.ref 178)::(.int 36 0)::(.int 0 0)::(.ref 190)::(.int 38 0)::(.int 0 0)::(.ref 202)::r
noncomputable def c10 (P:Params) (r:List Value):List Value:=(.int 42 0)::(.int 0 0)::(.ref 221)::(.int 47 0)::(.int 0 0)::(.ref 238)::(.int 54 0)::(.int 0 0)::(.ref 243)::(.int 59 0)::(.int 0 0)::(.ref 248)::(.int 63 0)::(.int 0 0)::(.ref 255)::(.int 68 0)::(.int 0 0)::(.ref 262)::r
noncomputable def c11 (P:Params) (r:List Value):List Value:=(.int 79 0)::(.int 0 0)::(.ref 267)::(.int 88 0)::(.int 0 0)::(.ref 274)::(.int 91 0)::(.int 0 0)::(.ref 281)::(.int 95 0)::(.int 0 0)::(.ref 286)::(.int 99 0)::(.int 0 0)::(.ref 293)::(.int 103 0)::(.int 0 0)::(.ref 298)::r
noncomputable def c12 (P:Params) (r:List Value):List Value:=(.int 112 0)::(.int 0 0)::(.ref 305)::(.int 123 0)::(.int 0 0)::(.ref 312)::(.int 130 0)::(.int 0 0)::(.ref 319)::(.int 135 0)::(.int 0 0)::(.ref 326)::(.int 147 0)::(.int 0 0)::(.ref 331)::(.int 150 0)::(.int 0 0)::(.ref 338)::r
noncomputable def c13 (P:Params) (r:List Value):List Value:=(.int 155 0)::(.int 0 0)::(.ref 345)::(.int 160 0)::(.int 0 0)::(.ref 352)::(.int 169 0)::(.int 0 0)::(.ref 357)::(.int 177 0)::(.int 0 0)::(.ref 364)::(.int 182 0)::(.int 0 0)::(.ref 369)::(.int 184 0)::(.int 0 0)::(.ref 376)::r
noncomputable def c14 (P:Params) (r:List Value):List Value:=(.int 192 0)::(.int 0 0)::(.ref 383)::(.int 197 0)::(.int 0 0)::(.ref 390)::(.int 206 0)::(.int 0 0)::(.ref 397)::(.int 215 0)::(.int 0 0)::(.ref 402)::(.int 222 0)::(.int 0 0)::(.ref 407)::(.int 229 0)::(.int 0 0)::(.ref 412)::r
noncomputable def c15 (P:Params) (r:List Value):List Value:=(.int 239 0)::(.int 0 0)::(.ref 417)::(.int 248 0)::(.int 0 0)::(.ref 424)::(.int 261 0)::(.int 0 0)::(.ref 431)::(.int 270 0)::(.int 0 0)::(.ref 438)::(.int 292 0)::(.int 0 0)::(.ref 445)::r
noncomputable def c16 (P:Params) (r:List DictEntry):List DictEntry:=(E P "__name__" 165 (.str "tailrooms.errors" 187))::(E P "__doc__" 166 .none)::(E P "__package__" 167 .none)::(E P "__loader__" 168 (.builtin "__main__.__loader__#opaque"))::(E P "__spec__" 169 .none)::(E P "__annotations__" 170 (.ref 6))::(E P "__builtins__" 171 (.ref 4))::(E P "__file__" 173 (.str "/claim/cut.py" 172))::r
noncomputable def c17 (P:Params) (r:List Value):List Value:=(.int 24 0)::(.int 0 0)::(.ref 128)::r
noncomputable def c18 (P:Params) (r:List DictEntry):List DictEntry:=(E P "__name__" 165 (.str "tailrooms.texts" 488))::(E P "__doc__" 166 .none)::(E P "__package__" 167 .none)::(E P "__loader__" 168 (.builtin "__main__.__loader__#opaque"))::(E P "__spec__" 169 .none)::(E P "__annotations__" 170 (.ref 6))::(E P "__builtins__" 171 (.ref 4))::(E P "__file__" 173 (.str "/claim/cut.py" 172))::r
noncomputable def c19 (P:Params) (r:List DictEntry):List DictEntry:=(E P "MOST_FIGURES" 493 (.int 30 492))::(E P "LAST_KEY" 499 (.int 1152921504606846975 498))::(E P "MOST_WIDE" 501 (.int 8 500))::(E P "read_rows" 507 (.ref 244))::(E P "read_row" 513 (.ref 249))::r
noncomputable def c20 (P:Params) (r:List Value):List Value:=(.int 42 0)::(.int 0 0)::(.ref 221)::(.int 47 0)::(.int 0 0)::(.ref 238)::(.int 54 0)::(.int 0 0)::(.ref 243)::(.int 59 0)::(.int 0 0)::(.ref 248)::r
noncomputable def c21 (P:Params) (r:List DictEntry):List DictEntry:=(E P "__cached__" 174 .none)::(E P "TailError" 206 (.ref 24))::(E P "NoSize" 231 (.ref 44))::(E P "NoKey" 256 (.ref 63))::(E P "NoThing" 281 (.ref 82))::(E P "NoRoom" 306 (.ref 101))::(E P "Lacking" 331 (.ref 120))::r
noncomputable def c22 (P:Params) (r:List DictEntry):List DictEntry:=(E P "NoMark" 381 (.ref 158))::r
noncomputable def c23 (P:Params) (r:List Value):List Value:=(.int 24 0)::(.int 0 0)::(.ref 128)::(.int 28 0)::(.int 0 0)::(.ref 147)::r
noncomputable def c24 (P:Params) (r:List DictEntry):List DictEntry:=(E P "_law_step_text" 685 (.ref 377))::(E P "_law_yard_text" 694 (.ref 384))::(E P "_law_number" 704 (.ref 391))::(E P "_law_read_entry" 716 (.ref 398))::(E P "_law_read_row" 722 (.ref 403))::(E P "_law_read_rows" 728 (.ref 408))::(E P "_law_read_step" 734 (.ref 413))::r
noncomputable def c25 (P:Params) (r:List DictEntry):List DictEntry:=(E P "NoMark" 381 (.ref 158))::(E P "Busy" 397 (.ref 170))::r
noncomputable def c26 (P:Params) (r:List Value):List Value:=(.int 24 0)::(.int 0 0)::(.ref 128)::(.int 28 0)::(.int 0 0)::(.ref 147)::(.int 32 0)::(.int 0 0)::(.ref 166)::r
noncomputable def c27 (P:Params) (r:List DictEntry):List DictEntry:=(E P "_law_key" 618 (.ref 327))::(E P "_law_thing" 624 (.ref 332))::r
noncomputable def c28 (P:Params) (r:List Value):List Value:=(.int 112 0)::(.int 0 0)::(.ref 305)::(.int 123 0)::(.int 0 0)::(.ref 312)::(.int 130 0)::(.int 0 0)::(.ref 319)::(.int 135 0)::(.int 0 0)::(.ref 326)::(.int 147 0)::(.int 0 0)::(.ref 331)::r
noncomputable def c29 (P:Params) (r:List DictEntry):List DictEntry:=(E P "NoMark" 381 (.ref 158))::(E P "Busy" 397 (.ref 170))::(E P "NoText" 413 (.ref 182))::r
noncomputable def c30 (P:Params) (r:List Value):List Value:=(.int 24 0)::(.int 0 0)::(.ref 128)::(.int 28 0)::(.int 0 0)::(.ref 147)::(.int 32 0)::(.int 0 0)::(.ref 166)::(.int 34 0)::(.int 0 0)::(.ref 178)::r
noncomputable def c31 (P:Params) (r:List DictEntry):List DictEntry:=(E P "NoMark" 381 (.ref 158))::(E P "Busy" 397 (.ref 170))::(E P "NoText" 413 (.ref 182))::(E P "NoLine" 429 (.ref 194))::r
noncomputable def c32 (P:Params) (r:List Value):List Value:=(.int 24 0)::(.int 0 0)::(.ref 128)::(.int 28 0)::(.int 0 0)::(.ref 147)::(.int 32 0)::(.int 0 0)::(.ref 166)::(.int 34 0)::(.int 0 0)::(.ref 178)::(.int 36 0)::(.int 0 0)::(.ref 190)::r
noncomputable def c33 (P:Params) (r:List DictEntry):List DictEntry:=(E P "NoMark" 381 (.ref 158))::(E P "Busy" 397 (.ref 170))::(E P "NoText" 413 (.ref 182))::(E P "NoLine" 429 (.ref 194))::(E P "NoName" 454 (.ref 213))::r
noncomputable def c34 (P:Params) (r:List DictEntry):List DictEntry:=(E P "__cached__" 174 .none)::(E P "TailError" 206 (.ref 24))::(E P "NoSize" 231 (.ref 44))::(E P "NoKey" 256 (.ref 63))::(E P "NoThing" 281 (.ref 82))::(E P "NoRoom" 306 (.ref 101))::r
noncomputable def t35 (a0:Str) (a1:Str) (a2:Stmt) (a3:Stmt) (P:Params):Obj:=⟨.none,none,(.func ⟨a0,a1,(aS a2),(.stmts (bS a2)),(sS a3),0,[],.none,.none,.none,.none,none,.none,.none,0⟩),#[]⟩
noncomputable def t36 (a0:Nat) (a1:Str) (a2:Int) (a3:Nat) (P:Params):Obj:=⟨(.type "dict"),none,(.dict #[(E P "__module__" a0 (.str "tailrooms.errors" 187)),(E P "__qualname__" (a0+2) (.str a1 (a0+1))),(E P "__firstlineno__" (a0+4) (.int a2 (a0+3))),(E P "__init__" (a0+12) (.ref a3)),(E P "__static_attributes__" (a0+14) (.ref (a3+1)))] 5),#[]⟩
noncomputable def t37 (a0:Str) (a1:Str) (a2:Stmt) (a3:Stmt) (a4:Str) (a5:Nat) (a6:Nat) (P:Params):Obj:=⟨(.type "function"),none,(.func ⟨a0,a1,(aS a2),(.stmts (bS a2)),(sS a3),3,[],.none,.none,.none,(.str a4 a5),none,(.ref a6),.none,0⟩),#[]⟩
noncomputable def t38 (a0:Str) (a1:Nat) (a2:Str) (a3:Str) (a4:Str) (P:Params):Obj:=⟨(.type "tuple"),none,(.seq #[(.str a0 a1),(.str a2 (a1+1)),(.str a3 (a1+2)),(.str a4 (a1+3))] 0),#[]⟩
noncomputable def t39 (a0:Nat) (a1:Nat) (a2:Str) (a3:Nat) (P:Params):Obj:=⟨(.type "frame"),none,.plain,#[(some (.ref a0)),(some (.ref 3)),(some (.ref a1)),none,(some (.str a2 a3)),none,(some (.ref 0))]⟩
noncomputable def t40 (a0:Nat) (a1:Str) (P:Params):Obj:=⟨(.type "tuple"),none,(.seq #[(.str "self" a0),(.str a1 (a0+1))] 0),#[]⟩
noncomputable def t41 (a0:Str) (a1:Nat) (a2:Nat) (a3:Nat) (a4:Nat) (P:Params):Obj:=⟨(.type "type"),none,(.cls ⟨a0,[(.ref 24)],[(.ref a1),(.ref 24),(.type "ValueError"),(.type "Exception"),(.type "BaseException"),(.type "object")],a2,a0,.true,[],[],.false,none,.false⟩),#[(some (.ref a3)),none,(some (.str a0 a4)),(some (.str a0 (a4+8))),(some (.builtin "ValueError.__new__")),(some (.bool .true))]⟩
noncomputable def t42 (a0:Str) (a1:Nat) (a2:Int) (a3:Nat) (a4:Int) (P:Params):Obj:=⟨(.type "code"),none,(.fields #[(.str a0 a1),(.str a0 (a1+1)),(.str "/claim/cut.py" (a1+2)),(.int a2 0),(.int 0 0),(.int 0 0),(.int 0 0),(.int 0 0),(.ref a3),(.bool .false),(.int 181 0),(.ref (a3+1)),.none,.none,.none,.none,(.int a4 0),(.int a2 0),(.str "/claim/cut.py" (a1+4))]),#[]⟩
noncomputable def t43 (a0:Int) (a1:Nat) (P:Params):Obj:=⟨.none,none,(.fields #[(.int a0 0),(.int 4 0),(.ref a1)]),#[]⟩
noncomputable def t44 (a0:Nat) (a1:Str) (a2:Int) (a3:Nat) (P:Params):Obj:=⟨(.type "dict"),none,(.dict #[(E P "__module__" a0 (.str "tailrooms.errors" 187)),(E P "__qualname__" (a0+2) (.str a1 (a0+1))),(E P "__firstlineno__" (a0+4) (.int a2 (a0+3))),(E P "__static_attributes__" (a0+5) (.ref a3))] 4),#[]⟩
noncomputable def t45 (a0:Nat) (P:Params):Obj:=⟨(.type "super"),none,(.fields #[(.ref a0),(.ref a0),(.ref a0)]),#[]⟩
noncomputable def t46 (a0:Str) (a1:Nat) (a2:Str) (a3:Str) (P:Params):Obj:=⟨(.type "tuple"),none,(.seq #[(.str a0 a1),(.str a2 (a1+1)),(.str a3 (a1+2))] 0),#[]⟩
noncomputable def t47 (a0:Nat) (P:Params):Obj:=⟨(.type "builtin_function_or_method"),none,(.fields #[(.builtin "object.__init_subclass__"),(.ref a0)]),#[]⟩
noncomputable def t48 (a0:Nat) (a1:Int) (a2:Nat) (P:Params):Obj:=⟨(.type "dict"),none,(.dict #[(E P "__module__" a0 (.str "tailrooms.errors" 187)),(E P "__firstlineno__" (a0+4) (.int a1 (a0+3))),(E P "__static_attributes__" (a0+5) (.ref a2)),(E P "__doc__" (a0+6) .none)] 2),#[]⟩
noncomputable def t49 (a0:Str) (a1:Nat) (a2:Str) (a3:Int) (a4:Int) (a5:Nat) (a6:Int) (a7:Nat) (P:Params):Obj:=⟨(.type "code"),none,(.fields #[(.str a0 a1),(.str a2 (a1+1)),(.str "/claim/cut.py" (a1+2)),(.int a3 0),(.int a4 0),(.int 0 0),(.int 0 0),(.int 3 0),(.ref a5),(.bool .true),(.int 181 0),(.ref (a5+1)),.none,(.ref (a5+2)),(.ref (a5+3)),(.ref (a5+4)),(.int a6 0),(.int a3 0),(.str "/claim/cut.py" a7)]),#[]⟩
noncomputable def t50 (a0:Str) (a1:Nat) (a2:Int) (a3:Int) (a4:Nat) (a5:Int) (P:Params):Obj:=⟨(.type "code"),none,(.fields #[(.str a0 a1),(.str a0 (a1+1)),(.str "/claim/cut.py" (a1+2)),(.int a2 0),(.int a3 0),(.int 0 0),(.int 0 0),(.int 3 0),(.ref a4),(.bool .true),(.int 181 0),(.ref (a4+1)),.none,.none,.none,(.ref (a4+2)),(.int a5 0),(.int a2 0),(.str "/claim/cut.py" (a1+4))]),#[]⟩
noncomputable def t51 (a0:Nat) (a1:Int) (a2:Str) (a3:Nat) (a4:Nat) (a5:Str) (a6:Nat) (a7:Nat) (P:Params):Obj:=⟨(.type "dict"),none,(.dict #[(E P "__module__" a0 (.str "tailrooms.errors" 187)),(E P "__firstlineno__" (a0+4) (.int a1 (a0+3))),(E P a2 a3 (.ref a4)),(E P a5 (a3+2) (.ref a6)),(E P "__doc__" (a3+3) .none)] a7),#[]⟩
noncomputable def t52 (a0:Str) (a1:Nat) (P:Params):Obj:=⟨(.type "tuple"),none,(.seq #[(.str a0 a1)] 0),#[]⟩
noncomputable def o0:O:=fun P=>⟨(.type "dict"),none,(.dict (c0 P (c1 P (c2 P (c3 P (c4 P (c5 P (c6 P (c7 P [])))))))).toArray 60),#[]⟩
noncomputable def o1:O:=fun P=>⟨(.type "tuple"),none,(.seq #[] 0),#[]⟩
noncomputable def o2:O:=fun P=>⟨.none,none,(.fields (c8 P (c9 P (c10 P (c11 P (c12 P (c13 P (c14 P (c15 P [])))))))).toArray),#[]⟩
noncomputable def o3:O:=t42 "<module>" 182 1 11 185
noncomputable def o4:O:=t39 13 3 "__main__" 164
noncomputable def o5:O:=fun P=>⟨(.type "tuple"),none,(.seq #[(.type "ValueError")] 0),#[]⟩
noncomputable def o6:O:=fun P=>⟨(.type "builtin_function_or_method"),none,(.fields #[(.builtin "type.__prepare__"),(.type "type")]),#[]⟩
noncomputable def o7:O:=t44 196 "TailError" 2 22
noncomputable def o8:O:=fun P=>⟨.none,none,(.fields #[]),#[]⟩
noncomputable def o9:O:=t42 "TailError" 191 2 18 194
noncomputable def o10:O:=t39 20 17 "tailrooms.errors" 187
noncomputable def o11:O:=t51 196 2 "__static_attributes__" 201 22 "__weakref__" 25 3
noncomputable def o12:O:=fun P=>⟨(.type "type"),none,(.cls ⟨"TailError",[(.type "ValueError")],[(.ref 24),(.type "ValueError"),(.type "Exception"),(.type "BaseException"),(.type "object")],23,"TailError",.true,[],[(.ref 44),(.ref 63),(.ref 82),(.ref 101),(.ref 120),(.ref 139),(.ref 158),(.ref 170),(.ref 182),(.ref 194),(.ref 213),(.ref 232)],.false,none,.false⟩),#[(some (.ref 15)),none,(some (.str "TailError" 189)),(some (.str "TailError" 197)),(some (.builtin "ValueError.__new__")),(some (.bool .true))]⟩
noncomputable def o13:O:=fun P=>⟨(.type "getset_descriptor"),none,(.fields #[(.str "__weakref__" 202),(.ref 24),(.builtin "ExceptionGroup.__weakref__"),.none]),#[]⟩
noncomputable def o14:O:=t45 24
noncomputable def o15:O:=t47 24
noncomputable def o16:O:=fun P=>⟨(.type "tuple"),none,(.seq #[(.ref 24)] 0),#[]⟩
noncomputable def o17:O:=t36 214 "NoSize" 4 41
noncomputable def o18:O:=t43 6 40
noncomputable def o19:O:=t42 "NoSize" 209 4 31 212
noncomputable def o20:O:=t39 33 30 "tailrooms.errors" 187
noncomputable def o21:O:=t40 222 "thing"
noncomputable def o22:O:=t35 "__init__" "NoSize.__init__" (m 2 0) (m 2 0)
noncomputable def o23:O:=t49 "__init__" 219 "NoSize.__init__" 6 2 35 224 225
noncomputable def o24:O:=t37 "__init__" "NoSize.__init__" (m 2 0) (m 2 0) "tailrooms.errors" 187 40
noncomputable def o25:O:=t52 "thing" 227
noncomputable def o26:O:=t51 214 4 "__init__" 226 41 "__static_attributes__" 42 2
noncomputable def o27:O:=t41 "NoSize" 44 43 28 207
noncomputable def o28:O:=t45 44
noncomputable def o29:O:=t47 44
noncomputable def o30:O:=t36 239 "NoKey" 8 60
noncomputable def o31:O:=t43 10 59
noncomputable def o32:O:=t42 "NoKey" 234 8 50 237
noncomputable def o33:O:=t39 52 49 "tailrooms.errors" 187
noncomputable def o34:O:=t40 247 "key"
noncomputable def o35:O:=t35 "__init__" "NoKey.__init__" (m 3 0) (m 3 0)
noncomputable def o36:O:=t49 "__init__" 244 "NoKey.__init__" 10 2 54 249 250
noncomputable def o37:O:=t37 "__init__" "NoKey.__init__" (m 3 0) (m 3 0) "tailrooms.errors" 187 59
noncomputable def o38:O:=t52 "key" 252
noncomputable def o39:O:=t51 239 8 "__init__" 251 60 "__static_attributes__" 61 2
noncomputable def o40:O:=t41 "NoKey" 63 62 47 232
noncomputable def o41:O:=t45 63
noncomputable def o42:O:=t47 63
noncomputable def o43:O:=t36 264 "NoThing" 12 79
noncomputable def o44:O:=t43 14 78
noncomputable def o45:O:=t42 "NoThing" 259 12 69 262
noncomputable def o46:O:=t39 71 68 "tailrooms.errors" 187
noncomputable def o47:O:=t40 272 "thing"
noncomputable def o48:O:=t35 "__init__" "NoThing.__init__" (m 4 0) (m 2 0)
noncomputable def o49:O:=t49 "__init__" 269 "NoThing.__init__" 14 2 73 274 275
noncomputable def o50:O:=t37 "__init__" "NoThing.__init__" (m 4 0) (m 2 0) "tailrooms.errors" 187 78
noncomputable def o51:O:=t52 "thing" 277
noncomputable def o52:O:=t51 264 12 "__init__" 276 79 "__static_attributes__" 80 2
noncomputable def o53:O:=t41 "NoThing" 82 81 66 257
noncomputable def o54:O:=t45 82
noncomputable def o55:O:=t47 82
noncomputable def o56:O:=t36 289 "NoRoom" 16 98
noncomputable def o57:O:=t43 18 97
noncomputable def o58:O:=t42 "NoRoom" 284 16 88 287
noncomputable def o59:O:=t39 90 87 "tailrooms.errors" 187
noncomputable def o60:O:=t40 297 "number"
noncomputable def o61:O:=t35 "__init__" "NoRoom.__init__" (m 5 0) (m 5 0)
noncomputable def o62:O:=t49 "__init__" 294 "NoRoom.__init__" 18 2 92 299 300
noncomputable def o63:O:=t37 "__init__" "NoRoom.__init__" (m 5 0) (m 5 0) "tailrooms.errors" 187 97
noncomputable def o64:O:=t52 "number" 302
noncomputable def o65:O:=t51 289 16 "__init__" 301 98 "__static_attributes__" 99 2
noncomputable def o66:O:=t41 "NoRoom" 101 100 85 282
noncomputable def o67:O:=t45 101
noncomputable def o68:O:=t47 101
noncomputable def o69:O:=t36 314 "Lacking" 20 117
noncomputable def o70:O:=t43 22 116
noncomputable def o71:O:=t42 "Lacking" 309 20 107 312
noncomputable def o72:O:=t39 109 106 "tailrooms.errors" 187
noncomputable def o73:O:=t40 322 "key"
noncomputable def o74:O:=t35 "__init__" "Lacking.__init__" (m 6 0) (m 3 0)
noncomputable def o75:O:=t49 "__init__" 319 "Lacking.__init__" 22 2 111 324 325
noncomputable def o76:O:=t37 "__init__" "Lacking.__init__" (m 6 0) (m 3 0) "tailrooms.errors" 187 116
noncomputable def o77:O:=t52 "key" 327
noncomputable def o78:O:=t51 314 20 "__init__" 326 117 "__static_attributes__" 118 2
noncomputable def o79:O:=t41 "Lacking" 120 119 104 307
noncomputable def o80:O:=t45 120
noncomputable def o81:O:=t47 120
noncomputable def o82:O:=t36 339 "Full" 24 136
noncomputable def o83:O:=t43 26 135
noncomputable def o84:O:=t42 "Full" 334 24 126 337
noncomputable def o85:O:=t39 128 125 "tailrooms.errors" 187
noncomputable def o86:O:=t40 347 "many"
noncomputable def o87:O:=t35 "__init__" "Full.__init__" (m 7 0) (m 7 0)
noncomputable def o88:O:=t49 "__init__" 344 "Full.__init__" 26 2 130 349 350
noncomputable def o89:O:=t37 "__init__" "Full.__init__" (m 7 0) (m 7 0) "tailrooms.errors" 187 135
noncomputable def o90:O:=t52 "many" 352
noncomputable def o91:O:=t51 339 24 "__init__" 351 136 "__static_attributes__" 137 2
noncomputable def o92:O:=t41 "Full" 139 138 123 332
noncomputable def o93:O:=t45 139
noncomputable def o94:O:=t47 139
noncomputable def o95:O:=t36 364 "NoMark" 28 155
noncomputable def o96:O:=t43 30 154
noncomputable def o97:O:=t42 "NoMark" 359 28 145 362
noncomputable def o98:O:=t39 147 144 "tailrooms.errors" 187
noncomputable def o99:O:=t40 372 "mark"
noncomputable def o100:O:=t35 "__init__" "NoMark.__init__" (m 8 0) (m 8 0)
noncomputable def o101:O:=t49 "__init__" 369 "NoMark.__init__" 30 2 149 374 375
noncomputable def o102:O:=t37 "__init__" "NoMark.__init__" (m 8 0) (m 8 0) "tailrooms.errors" 187 154
noncomputable def o103:O:=t52 "mark" 377
noncomputable def o104:O:=t51 364 28 "__init__" 376 155 "__static_attributes__" 156 2
noncomputable def o105:O:=t41 "NoMark" 158 157 142 357
noncomputable def o106:O:=t45 158
noncomputable def o107:O:=t47 158
noncomputable def o108:O:=t44 389 "Busy" 32 168
noncomputable def o109:O:=t42 "Busy" 384 32 164 387
noncomputable def o110:O:=t39 166 163 "tailrooms.errors" 187
noncomputable def o111:O:=t48 389 32 168
noncomputable def o112:O:=t41 "Busy" 170 169 161 382
noncomputable def o113:O:=t45 170
noncomputable def o114:O:=t47 170
noncomputable def o115:O:=t44 405 "NoText" 34 180
noncomputable def o116:O:=t42 "NoText" 400 34 176 403
noncomputable def o117:O:=t39 178 175 "tailrooms.errors" 187
noncomputable def o118:O:=t48 405 34 180
noncomputable def o119:O:=t41 "NoText" 182 181 173 398
noncomputable def o120:O:=t45 182
noncomputable def o121:O:=t47 182
noncomputable def o122:O:=t44 421 "NoLine" 36 192
noncomputable def o123:O:=t42 "NoLine" 416 36 188 419
noncomputable def o124:O:=t39 190 187 "tailrooms.errors" 187
noncomputable def o125:O:=t48 421 36 192
noncomputable def o126:O:=t41 "NoLine" 194 193 185 414
noncomputable def o127:O:=t45 194
noncomputable def o128:O:=t47 194
noncomputable def o129:O:=t36 437 "NoName" 38 210
noncomputable def o130:O:=t43 40 209
noncomputable def o131:O:=t42 "NoName" 432 38 200 435
noncomputable def o132:O:=t39 202 199 "tailrooms.errors" 187
noncomputable def o133:O:=t40 445 "name"
noncomputable def o134:O:=t35 "__init__" "NoName.__init__" (m 12 0) (m 12 0)
noncomputable def o135:O:=t49 "__init__" 442 "NoName.__init__" 40 2 204 447 448
noncomputable def o136:O:=t37 "__init__" "NoName.__init__" (m 12 0) (m 12 0) "tailrooms.errors" 187 209
noncomputable def o137:O:=t52 "name" 450
noncomputable def o138:O:=t51 437 38 "__init__" 449 210 "__static_attributes__" 211 2
noncomputable def o139:O:=t41 "NoName" 213 212 197 430
noncomputable def o140:O:=t45 213
noncomputable def o141:O:=t47 213
noncomputable def o142:O:=t36 462 "Taken" 42 229
noncomputable def o143:O:=t43 44 228
noncomputable def o144:O:=t42 "Taken" 457 42 219 460
noncomputable def o145:O:=t39 221 218 "tailrooms.errors" 187
noncomputable def o146:O:=t40 470 "name"
noncomputable def o147:O:=t35 "__init__" "Taken.__init__" (m 13 0) (m 12 0)
noncomputable def o148:O:=t49 "__init__" 467 "Taken.__init__" 44 2 223 472 473
noncomputable def o149:O:=t37 "__init__" "Taken.__init__" (m 13 0) (m 12 0) "tailrooms.errors" 187 228
noncomputable def o150:O:=t52 "name" 475
noncomputable def o151:O:=t51 462 42 "__init__" 474 229 "__static_attributes__" 230 2
noncomputable def o152:O:=t41 "Taken" 232 231 216 455
noncomputable def o153:O:=t45 232
noncomputable def o154:O:=t47 232
noncomputable def o155:O:=t35 "is_name" "is_name" (f 15) (f 15)
noncomputable def o156:O:=t50 "is_name" 482 47 1 235 485
noncomputable def o157:O:=t37 "is_name" "is_name" (f 15) (f 15) "tailrooms.kinds" 480 238
noncomputable def o158:O:=t35 "read_rows" "read_rows" (f 21) (f 21)
noncomputable def o159:O:=t50 "read_rows" 502 54 1 240 505
noncomputable def o160:O:=t37 "read_rows" "read_rows" (f 21) (f 21) "tailrooms.texts" 488 243
noncomputable def o161:O:=t35 "read_row" "read_row" (f 22) (f 22)
noncomputable def o162:O:=t50 "read_row" 508 59 1 245 511
noncomputable def o163:O:=t37 "read_row" "read_row" (f 22) (f 22) "tailrooms.texts" 488 248
noncomputable def o164:O:=t38 "text" 517 "key" "sign" "thing"
noncomputable def o165:O:=t35 "read_entry" "read_entry" (f 23) (f 23)
noncomputable def o166:O:=t49 "read_entry" 514 "read_entry" 63 1 250 521 522
noncomputable def o167:O:=t37 "read_entry" "read_entry" (f 23) (f 23) "tailrooms.texts" 488 255
noncomputable def o168:O:=fun P=>⟨(.type "tuple"),none,(.seq #[(.str "text" 527),(.str "kind" 528),(.str "others" 529),(.str "room" 530),(.str "at" 531),(.str "row" 532),(.str "many" 533)] 0),#[]⟩
noncomputable def o169:O:=t35 "read_step" "read_step" (f 24) (f 24)
noncomputable def o170:O:=t49 "read_step" 524 "read_step" 68 1 257 534 535
noncomputable def o171:O:=t37 "read_step" "read_step" (f 24) (f 24) "tailrooms.texts" 488 262
noncomputable def o172:O:=t35 "read_yard" "read_yard" (f 25) (f 25)
noncomputable def o173:O:=t50 "read_yard" 537 79 1 264 540
noncomputable def o174:O:=t37 "read_yard" "read_yard" (f 25) (f 25) "tailrooms.texts" 488 267
noncomputable def o175:O:=t52 "text" 546
noncomputable def o176:O:=t35 "read_words" "read_words" (f 26) (f 26)
noncomputable def o177:O:=t49 "read_words" 543 "read_words" 88 1 269 547 548
noncomputable def o178:O:=t37 "read_words" "read_words" (f 26) (f 26) "tailrooms.texts" 488 274
noncomputable def o179:O:=t46 "text" 553 "least" "most"
noncomputable def o180:O:=t35 "read_number" "read_number" (f 27) (f 27)
noncomputable def o181:O:=t49 "read_number" 550 "read_number" 91 3 276 556 557
noncomputable def o182:O:=t37 "read_number" "read_number" (f 27) (f 27) "tailrooms.texts" 488 281
noncomputable def o183:O:=t35 "is_number" "is_number" (f 28) (f 28)
noncomputable def o184:O:=t50 "is_number" 559 95 1 283 562
noncomputable def o185:O:=t37 "is_number" "is_number" (f 28) (f 28) "tailrooms.texts" 488 286
noncomputable def o186:O:=t52 "thing" 568
noncomputable def o187:O:=t35 "ask_text" "ask_text" (f 29) (f 29)
noncomputable def o188:O:=t49 "ask_text" 565 "ask_text" 99 1 288 569 570
noncomputable def o189:O:=t37 "ask_text" "ask_text" (f 29) (f 29) "tailrooms.texts" 488 293
noncomputable def o190:O:=t35 "_law_open" "_law_open" (f 31) (f 31)
noncomputable def o191:O:=t50 "_law_open" 574 103 2 295 577
noncomputable def o192:O:=t37 "_law_open" "_law_open" (f 31) (f 31) "law_tailrooms_k92_texts_spoilt_anywhere" 572 298
noncomputable def o193:O:=fun P=>⟨(.type "tuple"),none,(.seq #[(.str "_law_hand" 583),(.str "_law_many" 584),(.str "_law_got" 585),(.str "_law_k" 586),(.str "_law_number_here" 587)] 0),#[]⟩
noncomputable def o194:O:=t35 "_law_draw" "_law_draw" (f 32) (f 32)
noncomputable def o195:O:=t49 "_law_draw" 580 "_law_draw" 112 2 300 588 589
noncomputable def o196:O:=t37 "_law_draw" "_law_draw" (f 32) (f 32) "law_tailrooms_k92_texts_spoilt_anywhere" 572 305
noncomputable def o197:O:=t38 "_law_hand" 594 "_law_many" "_law_number_here" "_law_k"
noncomputable def o198:O:=t35 "_law_far" "_law_far" (f 33) (f 33)
noncomputable def o199:O:=t49 "_law_far" 591 "_law_far" 123 2 307 598 599
noncomputable def o200:O:=t37 "_law_far" "_law_far" (f 33) (f 33) "law_tailrooms_k92_texts_spoilt_anywhere" 572 312
noncomputable def o201:O:=t46 "_law_many" 604 "_law_number_here" "_law_k"
noncomputable def o202:O:=t35 "_law_power" "_law_power" (f 34) (f 34)
noncomputable def o203:O:=t49 "_law_power" 601 "_law_power" 130 1 314 607 608
noncomputable def o204:O:=t37 "_law_power" "_law_power" (f 34) (f 34) "law_tailrooms_k92_texts_spoilt_anywhere" 572 319
noncomputable def o205:O:=t46 "_law_hand" 613 "_law_way" "_law_low"
noncomputable def o206:O:=t35 "_law_key" "_law_key" (f 35) (f 35)
noncomputable def o207:O:=t49 "_law_key" 610 "_law_key" 135 1 321 616 617
noncomputable def o208:O:=t37 "_law_key" "_law_key" (f 35) (f 35) "law_tailrooms_k92_texts_spoilt_anywhere" 572 326
noncomputable def o209:O:=t35 "_law_thing" "_law_thing" (f 36) (f 36)
noncomputable def o210:O:=t50 "_law_thing" 619 147 1 328 622
noncomputable def o211:O:=t37 "_law_thing" "_law_thing" (f 36) (f 36) "law_tailrooms_k92_texts_spoilt_anywhere" 572 331
noncomputable def o212:O:=t46 "_law_hand" 628 "_law_row_here" "_law_k"
noncomputable def o213:O:=t35 "_law_row" "_law_row" (f 37) (f 37)
noncomputable def o214:O:=t49 "_law_row" 625 "_law_row" 150 1 333 631 632
noncomputable def o215:O:=t37 "_law_row" "_law_row" (f 37) (f 37) "law_tailrooms_k92_texts_spoilt_anywhere" 572 338
noncomputable def o216:O:=t38 "_law_hand" 637 "_law_most" "_law_rows_here" "_law_k"
noncomputable def o217:O:=t35 "_law_rows" "_law_rows" (f 38) (f 38)
noncomputable def o218:O:=t49 "_law_rows" 634 "_law_rows" 155 2 340 641 642
noncomputable def o219:O:=t37 "_law_rows" "_law_rows" (f 38) (f 38) "law_tailrooms_k92_texts_spoilt_anywhere" 572 345
noncomputable def o220:O:=fun P=>⟨(.type "tuple"),none,(.seq #[(.str "_law_hand" 647),(.str "_law_wide" 648),(.str "_law_rooms" 649),(.str "_law_held" 650),(.str "_law_k" 651)] 0),#[]⟩
noncomputable def o221:O:=t35 "_law_yard" "_law_yard" (f 39) (f 39)
noncomputable def o222:O:=t49 "_law_yard" 644 "_law_yard" 160 1 347 652 653
noncomputable def o223:O:=t37 "_law_yard" "_law_yard" (f 39) (f 39) "law_tailrooms_k92_texts_spoilt_anywhere" 572 352
noncomputable def o224:O:=t35 "_law_step" "_law_step" (f 40) (f 40)
noncomputable def o225:O:=t50 "_law_step" 655 169 1 354 658
noncomputable def o226:O:=t37 "_law_step" "_law_step" (f 40) (f 40) "law_tailrooms_k92_texts_spoilt_anywhere" 572 357
noncomputable def o227:O:=t38 "_law_row_here" 664 "_law_words" "_law_key_here" "_law_thing_here"
noncomputable def o228:O:=t35 "_law_row_text" "_law_row_text" (f 41) (f 41)
noncomputable def o229:O:=t49 "_law_row_text" 661 "_law_row_text" 177 1 359 668 669
noncomputable def o230:O:=t37 "_law_row_text" "_law_row_text" (f 41) (f 41) "law_tailrooms_k92_texts_spoilt_anywhere" 572 364
noncomputable def o231:O:=t35 "_law_rows_text" "_law_rows_text" (f 42) (f 42)
noncomputable def o232:O:=t50 "_law_rows_text" 671 182 1 366 674
noncomputable def o233:O:=t37 "_law_rows_text" "_law_rows_text" (f 42) (f 42) "law_tailrooms_k92_texts_spoilt_anywhere" 572 369
noncomputable def o234:O:=t46 "_law_step_here" 680 "_law_words" "_law_part"
noncomputable def o235:O:=t35 "_law_step_text" "_law_step_text" (f 43) (f 43)
noncomputable def o236:O:=t49 "_law_step_text" 677 "_law_step_text" 184 1 371 683 684
noncomputable def o237:O:=t37 "_law_step_text" "_law_step_text" (f 43) (f 43) "law_tailrooms_k92_texts_spoilt_anywhere" 572 376
noncomputable def o238:O:=t46 "_law_yard_here" 689 "_law_words" "_law_rows_here"
noncomputable def o239:O:=t35 "_law_yard_text" "_law_yard_text" (f 44) (f 44)
noncomputable def o240:O:=t49 "_law_yard_text" 686 "_law_yard_text" 192 1 378 692 693
noncomputable def o241:O:=t37 "_law_yard_text" "_law_yard_text" (f 44) (f 44) "law_tailrooms_k92_texts_spoilt_anywhere" 572 383
noncomputable def o242:O:=t38 "_law_text" 698 "_law_least" "_law_most" "_law_sign"
noncomputable def o243:O:=t35 "_law_number" "_law_number" (f 45) (f 45)
noncomputable def o244:O:=t49 "_law_number" 695 "_law_number" 197 3 385 702 703
noncomputable def o245:O:=t37 "_law_number" "_law_number" (f 45) (f 45) "law_tailrooms_k92_texts_spoilt_anywhere" 572 390
noncomputable def o246:O:=fun P=>⟨(.type "tuple"),none,(.seq #[(.str "_law_text" 708),(.str "_law_key_here" 709),(.str "_law_equals" 710),(.str "_law_thing_here" 711),(.str "_law_number_here" 712),(.str "_law_sign" 713)] 0),#[]⟩
noncomputable def o247:O:=t35 "_law_read_entry" "_law_read_entry" (f 46) (f 46)
noncomputable def o248:O:=t49 "_law_read_entry" 705 "_law_read_entry" 206 1 392 714 715
noncomputable def o249:O:=t37 "_law_read_entry" "_law_read_entry" (f 46) (f 46) "law_tailrooms_k92_texts_spoilt_anywhere" 572 397
noncomputable def o250:O:=t35 "_law_read_row" "_law_read_row" (f 47) (f 47)
noncomputable def o251:O:=t50 "_law_read_row" 717 215 1 399 720
noncomputable def o252:O:=t37 "_law_read_row" "_law_read_row" (f 47) (f 47) "law_tailrooms_k92_texts_spoilt_anywhere" 572 402
noncomputable def o253:O:=t35 "_law_read_rows" "_law_read_rows" (f 48) (f 48)
noncomputable def o254:O:=t50 "_law_read_rows" 723 222 1 404 726
noncomputable def o255:O:=t37 "_law_read_rows" "_law_read_rows" (f 48) (f 48) "law_tailrooms_k92_texts_spoilt_anywhere" 572 407
noncomputable def o256:O:=t35 "_law_read_step" "_law_read_step" (f 49) (f 49)
noncomputable def o257:O:=t50 "_law_read_step" 729 229 1 409 732
noncomputable def o258:O:=t37 "_law_read_step" "_law_read_step" (f 49) (f 49) "law_tailrooms_k92_texts_spoilt_anywhere" 572 412
noncomputable def o259:O:=t35 "_law_read_yard" "_law_read_yard" (f 50) (f 50)
noncomputable def o260:O:=t50 "_law_read_yard" 735 239 1 414 738
noncomputable def o261:O:=t37 "_law_read_yard" "_law_read_yard" (f 50) (f 50) "law_tailrooms_k92_texts_spoilt_anywhere" 572 417
noncomputable def o262:O:=t38 "_law_way" 744 "_law_text" "_law_told_here" "e"
noncomputable def o263:O:=t35 "_law_told" "_law_told" (f 51) (f 51)
noncomputable def o264:O:=t49 "_law_told" 741 "_law_told" 248 2 419 748 749
noncomputable def o265:O:=t37 "_law_told" "_law_told" (f 51) (f 51) "law_tailrooms_k92_texts_spoilt_anywhere" 572 424
noncomputable def o266:O:=t38 "_law_text" 754 "_law_way" "_law_due" "_law_told_here"
noncomputable def o267:O:=t35 "_law_right" "_law_right" (f 52) (f 52)
noncomputable def o268:O:=t49 "_law_right" 751 "_law_right" 261 1 426 758 759
noncomputable def o269:O:=t37 "_law_right" "_law_right" (f 52) (f 52) "law_tailrooms_k92_texts_spoilt_anywhere" 572 431
noncomputable def o270:O:=fun P=>⟨(.type "tuple"),none,(.seq #[(.str "_law_hand" 764),(.str "_law_text" 765),(.str "_law_few" 766),(.str "_law_signs" 767),(.str "_law_way" 768),(.str "_law_at" 769),(.str "_law_between" 770),(.str "_law_sign" 771),(.str "_law_place" 772),(.str "_law_parts" 773),(.str "_law_pair" 774)] 0),#[]⟩
noncomputable def o271:O:=t35 "_law_spoilt" "_law_spoilt" (f 53) (f 53)
noncomputable def o272:O:=t49 "_law_spoilt" 761 "_law_spoilt" 270 2 433 775 776
noncomputable def o273:O:=t37 "_law_spoilt" "_law_spoilt" (f 53) (f 53) "law_tailrooms_k92_texts_spoilt_anywhere" 572 438
noncomputable def o274:O:=fun P=>⟨(.type "tuple"),none,(.seq #[(.str "_law_script" 781),(.str "_law_place" 782),(.str "_law_hand" 783),(.str "_law_way" 784),(.str "_law_other" 785),(.str "_law_text" 786),(.str "_law_k" 787),(.str "_law_thing_here" 788),(.str "_law_far_here" 789),(.str "_law_cuts" 790)] 0),#[]⟩
noncomputable def o275:O:=t35 "law" "law" (f 54) (f 54)
noncomputable def o276:O:=t49 "law" 778 "law" 292 1 440 791 792
noncomputable def o277:O:=t37 "law" "law" (f 54) (f 54) "law_tailrooms_k92_texts_spoilt_anywhere" 572 445
noncomputable def o278:O:=fun P=>⟨(.type "dict"),none,(.dict (c16 P (c1 P [])).toArray 16),#[]⟩
noncomputable def o279:O:=fun P=>⟨.none,none,(.fields (c8 P (c17 P [])).toArray),#[]⟩
noncomputable def o280:O:=fun P=>⟨(.type "type"),none,(.cls ⟨"TailError",[(.type "ValueError")],[(.ref 24),(.type "ValueError"),(.type "Exception"),(.type "BaseException"),(.type "object")],23,"TailError",.true,[],[(.ref 44),(.ref 63),(.ref 82),(.ref 101),(.ref 120),(.ref 139)],.false,none,.false⟩),#[(some (.ref 15)),none,(some (.str "TailError" 189)),(some (.str "TailError" 197)),(some (.builtin "ValueError.__new__")),(some (.bool .true))]⟩
noncomputable def o281:O:=fun P=>⟨(.type "dict"),none,(.dict (c18 P (c1 P (c2 P (c19 P [])))).toArray 29),#[]⟩
noncomputable def o282:O:=fun P=>⟨.none,none,(.fields (c8 P (c9 P (c20 P []))).toArray),#[]⟩
noncomputable def o283:O:=fun P=>⟨(.type "dict"),none,(.dict (c16 P (c21 P [])).toArray 15),#[]⟩
noncomputable def o284:O:=fun P=>⟨.none,none,(.fields #[(.int 2 0),(.int 0 0),(.ref 20),(.int 4 0),(.int 0 0),(.ref 33),(.int 8 0),(.int 0 0),(.ref 52),(.int 12 0),(.int 0 0),(.ref 71),(.int 16 0),(.int 0 0),(.ref 90),(.int 20 0),(.int 0 0),(.ref 109)]),#[]⟩
noncomputable def o285:O:=fun P=>⟨(.type "type"),none,(.cls ⟨"TailError",[(.type "ValueError")],[(.ref 24),(.type "ValueError"),(.type "Exception"),(.type "BaseException"),(.type "object")],23,"TailError",.true,[],[(.ref 44),(.ref 63),(.ref 82),(.ref 101),(.ref 120)],.false,none,.false⟩),#[(some (.ref 15)),none,(some (.str "TailError" 189)),(some (.str "TailError" 197)),(some (.builtin "ValueError.__new__")),(some (.bool .true))]⟩
noncomputable def o286:O:=fun P=>⟨(.type "dict"),none,(.dict (c16 P (c1 P (c22 P []))).toArray 17),#[]⟩
noncomputable def o287:O:=fun P=>⟨.none,none,(.fields (c8 P (c23 P [])).toArray),#[]⟩
noncomputable def o288:O:=fun P=>⟨(.type "type"),none,(.cls ⟨"TailError",[(.type "ValueError")],[(.ref 24),(.type "ValueError"),(.type "Exception"),(.type "BaseException"),(.type "object")],23,"TailError",.true,[],[(.ref 44),(.ref 63),(.ref 82),(.ref 101),(.ref 120),(.ref 139),(.ref 158)],.false,none,.false⟩),#[(some (.ref 15)),none,(some (.str "TailError" 189)),(some (.str "TailError" 197)),(some (.builtin "ValueError.__new__")),(some (.bool .true))]⟩
noncomputable def o289:O:=fun P=>⟨(.type "dict"),none,(.dict (c0 P (c1 P (c2 P (c3 P (c4 P (c5 P (c24 P []))))))).toArray 55),#[]⟩
noncomputable def o290:O:=fun P=>⟨.none,none,(.fields (c8 P (c9 P (c10 P (c11 P (c12 P (c13 P (c14 P []))))))).toArray),#[]⟩
noncomputable def o291:O:=fun P=>⟨(.type "dict"),none,(.dict (c16 P (c1 P (c25 P []))).toArray 18),#[]⟩
noncomputable def o292:O:=fun P=>⟨.none,none,(.fields (c8 P (c26 P [])).toArray),#[]⟩
noncomputable def o293:O:=fun P=>⟨(.type "type"),none,(.cls ⟨"TailError",[(.type "ValueError")],[(.ref 24),(.type "ValueError"),(.type "Exception"),(.type "BaseException"),(.type "object")],23,"TailError",.true,[],[(.ref 44),(.ref 63),(.ref 82),(.ref 101),(.ref 120),(.ref 139),(.ref 158),(.ref 170)],.false,none,.false⟩),#[(some (.ref 15)),none,(some (.str "TailError" 189)),(some (.str "TailError" 197)),(some (.builtin "ValueError.__new__")),(some (.bool .true))]⟩
noncomputable def o294:O:=fun P=>⟨(.type "dict"),none,(.dict (c0 P (c1 P (c2 P (c3 P (c4 P (c27 P [])))))).toArray 42),#[]⟩
noncomputable def o295:O:=fun P=>⟨.none,none,(.fields (c8 P (c9 P (c10 P (c11 P (c28 P []))))).toArray),#[]⟩
noncomputable def o296:O:=fun P=>⟨(.type "dict"),none,(.dict (c16 P (c1 P (c29 P []))).toArray 19),#[]⟩
noncomputable def o297:O:=fun P=>⟨.none,none,(.fields (c8 P (c30 P [])).toArray),#[]⟩
noncomputable def o298:O:=fun P=>⟨(.type "type"),none,(.cls ⟨"TailError",[(.type "ValueError")],[(.ref 24),(.type "ValueError"),(.type "Exception"),(.type "BaseException"),(.type "object")],23,"TailError",.true,[],[(.ref 44),(.ref 63),(.ref 82),(.ref 101),(.ref 120),(.ref 139),(.ref 158),(.ref 170),(.ref 182)],.false,none,.false⟩),#[(some (.ref 15)),none,(some (.str "TailError" 189)),(some (.str "TailError" 197)),(some (.builtin "ValueError.__new__")),(some (.bool .true))]⟩
noncomputable def o299:O:=fun P=>⟨(.type "dict"),none,(.dict (c16 P (c1 P (c31 P []))).toArray 20),#[]⟩
noncomputable def o300:O:=fun P=>⟨.none,none,(.fields (c8 P (c32 P [])).toArray),#[]⟩
noncomputable def o301:O:=fun P=>⟨(.type "type"),none,(.cls ⟨"TailError",[(.type "ValueError")],[(.ref 24),(.type "ValueError"),(.type "Exception"),(.type "BaseException"),(.type "object")],23,"TailError",.true,[],[(.ref 44),(.ref 63),(.ref 82),(.ref 101),(.ref 120),(.ref 139),(.ref 158),(.ref 170),(.ref 182),(.ref 194)],.false,none,.false⟩),#[(some (.ref 15)),none,(some (.str "TailError" 189)),(some (.str "TailError" 197)),(some (.builtin "ValueError.__new__")),(some (.bool .true))]⟩
noncomputable def o302:O:=fun P=>⟨(.type "dict"),none,(.dict (c16 P (c1 P (c33 P []))).toArray 21),#[]⟩
noncomputable def o303:O:=fun P=>⟨.none,none,(.fields (c8 P (c9 P [])).toArray),#[]⟩
noncomputable def o304:O:=fun P=>⟨(.type "type"),none,(.cls ⟨"TailError",[(.type "ValueError")],[(.ref 24),(.type "ValueError"),(.type "Exception"),(.type "BaseException"),(.type "object")],23,"TailError",.true,[],[(.ref 44),(.ref 63),(.ref 82),(.ref 101),(.ref 120),(.ref 139),(.ref 158),(.ref 170),(.ref 182),(.ref 194),(.ref 213)],.false,none,.false⟩),#[(some (.ref 15)),none,(some (.str "TailError" 189)),(some (.str "TailError" 197)),(some (.builtin "ValueError.__new__")),(some (.bool .true))]⟩
noncomputable def o305:O:=fun P=>⟨(.type "dict"),none,(.dict (c16 P (c34 P [])).toArray 14),#[]⟩
noncomputable def o306:O:=fun P=>⟨.none,none,(.fields #[(.int 2 0),(.int 0 0),(.ref 20),(.int 4 0),(.int 0 0),(.ref 33),(.int 8 0),(.int 0 0),(.ref 52),(.int 12 0),(.int 0 0),(.ref 71),(.int 16 0),(.int 0 0),(.ref 90)]),#[]⟩
noncomputable def o307:O:=fun P=>⟨(.type "type"),none,(.cls ⟨"TailError",[(.type "ValueError")],[(.ref 24),(.type "ValueError"),(.type "Exception"),(.type "BaseException"),(.type "object")],23,"TailError",.true,[],[(.ref 44),(.ref 63),(.ref 82),(.ref 101)],.false,none,.false⟩),#[(some (.ref 15)),none,(some (.str "TailError" 189)),(some (.str "TailError" 197)),(some (.builtin "ValueError.__new__")),(some (.bool .true))]⟩
noncomputable def qB (_:Params→BT):Bool:=true
noncomputable def qH (_:Params→Heap):Bool:=true
noncomputable def qP (_:Program):Bool:=true
noncomputable def qS (_:List Stmt):Bool:=true
noncomputable def X_sts_285:List Stmt:=[f 13,f 14,f 15,f 16,f 17,f 18,f 19,f 20,f 21,f 22]
noncomputable def c53 (P:Params) (r:List Obj):List Obj:=boot_o_0 P::boot_o_1 P::boot_o_2 P::o0 P::boot_o_4 P::boot_o_5 P::boot_o_6 P::boot_o_7 P::boot_o_8 P::boot_o_9 P::boot_o_10 P::o1 P::o2 P::o3 P::o4 P::o5 P::r
noncomputable def c54 (P:Params) (r:List Obj):List Obj:=o6 P::o7 P::o1 P::o8 P::o9 P::o10 P::o1 P::o11 P::o12 P::o13 P::o14 P::o15 P::o16 P::o6 P::o17 P::o1 P::r
noncomputable def c55 (P:Params) (r:List Obj):List Obj:=o18 P::o19 P::o20 P::o1 P::o8 P::o21 P::o1 P::o22 P::o23 P::o24 P::o25 P::o26 P::o27 P::o28 P::o29 P::o16 P::r
noncomputable def c56 (P:Params) (r:List Obj):List Obj:=o6 P::o30 P::o1 P::o31 P::o32 P::o33 P::o1 P::o8 P::o34 P::o1 P::o35 P::o36 P::o37 P::o38 P::o39 P::o40 P::r
noncomputable def c57 (P:Params) (r:List Obj):List Obj:=o41 P::o42 P::o16 P::o6 P::o43 P::o1 P::o44 P::o45 P::o46 P::o1 P::o8 P::o47 P::o1 P::o48 P::o49 P::o50 P::r
noncomputable def c58 (P:Params) (r:List Obj):List Obj:=o51 P::o52 P::o53 P::o54 P::o55 P::o16 P::o6 P::o56 P::o1 P::o57 P::o58 P::o59 P::o1 P::o8 P::o60 P::o1 P::r
noncomputable def c59 (P:Params) (r:List Obj):List Obj:=o61 P::o62 P::o63 P::o64 P::o65 P::o66 P::o67 P::o68 P::o16 P::o6 P::o69 P::o1 P::o70 P::o71 P::o72 P::o1 P::r
noncomputable def c60 (P:Params) (r:List Obj):List Obj:=o8 P::o73 P::o1 P::o74 P::o75 P::o76 P::o77 P::o78 P::o79 P::o80 P::o81 P::o16 P::o6 P::o82 P::o1 P::o83 P::r
noncomputable def c61 (P:Params) (r:List Obj):List Obj:=o84 P::o85 P::o1 P::o8 P::o86 P::o1 P::o87 P::o88 P::o89 P::o90 P::o91 P::o92 P::o93 P::o94 P::o16 P::o6 P::r
noncomputable def c62 (P:Params) (r:List Obj):List Obj:=o95 P::o1 P::o96 P::o97 P::o98 P::o1 P::o8 P::o99 P::o1 P::o100 P::o101 P::o102 P::o103 P::o104 P::o105 P::o106 P::r
noncomputable def c63 (P:Params) (r:List Obj):List Obj:=o107 P::o16 P::o6 P::o108 P::o1 P::o8 P::o109 P::o110 P::o1 P::o111 P::o112 P::o113 P::o114 P::o16 P::o6 P::o115 P::r
noncomputable def c64 (P:Params) (r:List Obj):List Obj:=o1 P::o8 P::o116 P::o117 P::o1 P::o118 P::o119 P::o120 P::o121 P::o16 P::o6 P::o122 P::o1 P::o8 P::o123 P::o124 P::r
noncomputable def c65 (P:Params) (r:List Obj):List Obj:=o1 P::o125 P::o126 P::o127 P::o128 P::o16 P::o6 P::o129 P::o1 P::o130 P::o131 P::o132 P::o1 P::o8 P::o133 P::o1 P::r
noncomputable def c66 (P:Params) (r:List Obj):List Obj:=o134 P::o135 P::o136 P::o137 P::o138 P::o139 P::o140 P::o141 P::o16 P::o6 P::o142 P::o1 P::o143 P::o144 P::o145 P::o1 P::r
noncomputable def c67 (P:Params) (r:List Obj):List Obj:=o8 P::o146 P::o1 P::o147 P::o148 P::o149 P::o150 P::o151 P::o152 P::o153 P::o154 P::o1 P::o8 P::o155 P::o156 P::o157 P::r
noncomputable def c68 (P:Params) (r:List Obj):List Obj:=o1 P::o8 P::o158 P::o159 P::o160 P::o1 P::o8 P::o161 P::o162 P::o163 P::o1 P::o8 P::o164 P::o1 P::o165 P::o166 P::r
noncomputable def c69 (P:Params) (r:List Obj):List Obj:=o167 P::o1 P::o8 P::o168 P::o1 P::o169 P::o170 P::o171 P::o1 P::o8 P::o172 P::o173 P::o174 P::o1 P::o8 P::o175 P::r
noncomputable def c70 (P:Params) (r:List Obj):List Obj:=o1 P::o176 P::o177 P::o178 P::o1 P::o8 P::o179 P::o1 P::o180 P::o181 P::o182 P::o1 P::o8 P::o183 P::o184 P::o185 P::r
noncomputable def c71 (P:Params) (r:List Obj):List Obj:=o1 P::o8 P::o186 P::o1 P::o187 P::o188 P::o189 P::o1 P::o8 P::o190 P::o191 P::o192 P::o1 P::o8 P::o193 P::o1 P::r
noncomputable def c72 (P:Params) (r:List Obj):List Obj:=o194 P::o195 P::o196 P::o1 P::o8 P::o197 P::o1 P::o198 P::o199 P::o200 P::o1 P::o8 P::o201 P::o1 P::o202 P::o203 P::r
noncomputable def c73 (P:Params) (r:List Obj):List Obj:=o204 P::o1 P::o8 P::o205 P::o1 P::o206 P::o207 P::o208 P::o1 P::o8 P::o209 P::o210 P::o211 P::o1 P::o8 P::o212 P::r
noncomputable def c74 (P:Params) (r:List Obj):List Obj:=o1 P::o213 P::o214 P::o215 P::o1 P::o8 P::o216 P::o1 P::o217 P::o218 P::o219 P::o1 P::o8 P::o220 P::o1 P::o221 P::r
noncomputable def c75 (P:Params) (r:List Obj):List Obj:=o222 P::o223 P::o1 P::o8 P::o224 P::o225 P::o226 P::o1 P::o8 P::o227 P::o1 P::o228 P::o229 P::o230 P::o1 P::o8 P::r
noncomputable def c76 (P:Params) (r:List Obj):List Obj:=o231 P::o232 P::o233 P::o1 P::o8 P::o234 P::o1 P::o235 P::o236 P::o237 P::o1 P::o8 P::o238 P::o1 P::o239 P::o240 P::r
noncomputable def c77 (P:Params) (r:List Obj):List Obj:=o241 P::o1 P::o8 P::o242 P::o1 P::o243 P::o244 P::o245 P::o1 P::o8 P::o246 P::o1 P::o247 P::o248 P::o249 P::o1 P::r
noncomputable def c78 (P:Params) (r:List Obj):List Obj:=o8 P::o250 P::o251 P::o252 P::o1 P::o8 P::o253 P::o254 P::o255 P::o1 P::o8 P::o256 P::o257 P::o258 P::o1 P::o8 P::r
noncomputable def c79 (P:Params) (r:List Obj):List Obj:=o259 P::o260 P::o261 P::o1 P::o8 P::o262 P::o1 P::o263 P::o264 P::o265 P::o1 P::o8 P::o266 P::o1 P::o267 P::o268 P::r
noncomputable def c80 (P:Params) (r:List Obj):List Obj:=o269 P::o1 P::o8 P::o270 P::o1 P::o271 P::o272 P::o273 P::o1 P::o8 P::o274 P::o1 P::o275 P::o276 P::o277 P::r
noncomputable def X_heap_525:Params→Heap:=fun P=>⟨⟨(c53 P (c54 P (c55 P (c56 P (c57 P (c58 P (c59 P (c60 P (c61 P (c62 P (c63 P (c64 P (c65 P (c66 P (c67 P (c68 P (c69 P (c70 P (c71 P (c72 P (c73 P (c74 P (c75 P (c76 P (c77 P (c78 P (c79 P (c80 P []))))))))))))))))))))))))))))⟩,⟨[],[],[],0,[],[],.false,#[],[],0,.false,.false,.false,0,[2000,10,10],.false,0,.true,[],[],0,.false⟩⟩
noncomputable def X_sts_407:List Stmt:=[f 37,f 38,f 39,f 40,f 41,f 42,f 43,f 44,f 45,f 46,f 47,f 48,f 49]
noncomputable def c81:B:=n o1 (n o40 (w o83) u) (w o1)
noncomputable def c82:B:=n o22 (n o45 (w o88) u) (w o68)
noncomputable def c83:B:=n o1 (n o6 (w o8) u) (w o64)
noncomputable def c84:B:=n o26 (n o47 (w o92) u) (w o1)
noncomputable def c85:B:=n o19 (n o42 (w o85) u) (w o62)
noncomputable def c86:B:=n o24 (n o1 (w o90) u) (w o6)
noncomputable def c87:B:=n o21 (n o1 (w o1) u) (w o66)
noncomputable def c88:B:=n o28 (n o48 (w o94) u) (w o71)
noncomputable def c89:B:=n o18 (n o41 (w o84) u) (w o61)
noncomputable def c90:B:=n o23 (n o46 (w o89) u) (w o16)
noncomputable def c91:B:=n o8 (n o43 (w o86) u) (w o65)
noncomputable def c92:B:=n o27 (n o1 (w o93) u) (w o70)
noncomputable def c93:B:=n o20 (n o16 (w o1) u) (w o63)
noncomputable def c94:B:=n o25 (n o8 (w o91) u) (w o69)
noncomputable def c95:B:=n o1 (n o44 (w o87) u) (w o67)
noncomputable def X_tree_195:Params→BT:=(n boot_o_0 (n boot_o_1 (n o278 (n boot_o_7 (n o5 c81 (n o16 (w o50) (w o1))) (n o11 c82 (n o8 (w o56) (w o78)))) (n o1 (n o8 c83 (n o31 (w o54) (w o74))) (n o15 c84 (n o36 (w o59) (w o16))))) (n boot_o_5 (n boot_o_9 (n o7 c85 (n o30 (w o52) (w o73))) (n o13 c86 (n o1 (w o57) (w o80)))) (n o3 (n o10 c87 (n o33 (w o16) (w o76))) (n o6 c88 (n o38 (w o8) (w o82)))))) (n boot_o_2 (n boot_o_4 (n boot_o_8 (n o6 c89 (n o6 (w o51) (w o8))) (n o280 c90 (n o34 (w o1) (w o79)))) (n o279 (n o9 c91 (n o32 (w o55) (w o75))) (n o16 c92 (n o37 (w o1) (w o6))))) (n boot_o_6 (n boot_o_10 (n o1 c93 (n o1 (w o53) (w o1))) (n o14 c94 (n o35 (w o58) (w o81)))) (n o4 (n o1 c95 (n o1 (w o6) (w o77))) (n o17 (n o29 (w o49) (w o72)) (n o39 (w o60) (w o1)))))))
noncomputable def c96:B:=n o1 (n o40 (n o83 (w o166) (w o240)) (n o124 (w o203) u)) (n o1 (n o106 (w o185) (w o8)) (n o1 (w o221) u))
noncomputable def c97:B:=n o16 (n o50 (n o6 (w o175) (w o1)) (n o1 (w o212) u)) (n o1 (n o115 (w o1) (w o268)) (n o157 (w o8) u))
noncomputable def c98:B:=n o22 (n o45 (n o88 (w o171) (w o245)) (n o129 (w o208) u)) (n o68 (n o110 (w o1) (w o263)) (n o151 (w o1) u))
noncomputable def c99:B:=n o8 (n o56 (n o99 (w o1) (w o254)) (n o141 (w o1) u)) (n o78 (n o120 (w o198) (w o273)) (n o161 (w o235) u))
noncomputable def c100:B:=n o1 (n o6 (n o8 (w o168) (w o242)) (n o127 (w o205) u)) (n o64 (n o108 (w o1) (w o1)) (n o147 (w o8) u))
noncomputable def c101:B:=n o31 (n o54 (n o97 (w o178) (w o252)) (n o137 (w o215) u)) (n o74 (n o117 (w o1) (w o270)) (n o159 (w o1) u))
noncomputable def c102:B:=n o26 (n o47 (n o92 (w o173) (w o1)) (n o132 (w o210) u)) (n o1 (n o113 (w o192) (w o8)) (n o1 (w o228) u))
noncomputable def c103:B:=n o36 (n o59 (n o102 (w o1) (w o256)) (n o1 (w o1) u)) (n o16 (n o122 (w o8) (w o1)) (n o8 (w o8) u))
noncomputable def c104:B:=n o19 (n o42 (n o85 (w o1) (w o1)) (n o125 (w o1) u)) (n o62 (n o16 (w o8) (w o260)) (n o146 (w o223) u))
noncomputable def c105:B:=n o30 (n o52 (n o1 (w o176) (w o250)) (n o135 (w o213) u)) (n o73 (n o8 (w o195) (w o1)) (n o8 (w o232) u))
noncomputable def c106:B:=n o24 (n o1 (n o90 (w o8) (w o8)) (n o130 (w o8) u)) (n o6 (n o111 (w o190) (w o265)) (n o153 (w o227) u))
noncomputable def c107:B:=n o1 (n o57 (n o100 (w o181) (w o1)) (n o6 (w o218) u)) (n o80 (n o16 (w o200) (w o8)) (n o163 (w o237) u))
noncomputable def c108:B:=n o21 (n o1 (n o1 (w o169) (w o243)) (n o16 (w o206) u)) (n o66 (n o8 (w o188) (w o262)) (n o149 (w o225) u))
noncomputable def c109:B:=n o33 (n o16 (n o1 (w o8) (w o8)) (n o139 (w o8) u)) (n o76 (n o118 (w o197) (w o271)) (n o1 (w o234) u))
noncomputable def c110:B:=n o28 (n o48 (n o94 (w o1) (w o248)) (n o8 (w o1) u)) (n o71 (n o16 (w o8) (w o1)) (n o155 (w o230) u))
noncomputable def c111:B:=n o38 (n o8 (n o104 (w o183) (w o258)) (n o144 (w o220) u)) (n o82 (n o8 (w o1) (w o276)) (n o1 (w o1) u))
noncomputable def c112:B:=n o18 (n o41 (n o84 (w o167) (w o241)) (n o1 (w o204) u)) (n o61 (n o107 (w o1) (w o259)) (n o8 (w o222) u))
noncomputable def c113:B:=n o6 (n o51 (n o95 (w o1) (w o8)) (n o134 (w o1) u)) (n o8 (n o1 (w o194) (w o269)) (n o1 (w o231) u))
noncomputable def c114:B:=n o23 (n o46 (n o89 (w o1) (w o1)) (n o1 (w o1) u)) (n o16 (n o1 (w o8) (w o264)) (n o152 (w o8) u))
noncomputable def c115:B:=n o34 (n o1 (n o1 (w o180) (w o255)) (n o16 (w o217) u)) (n o79 (n o121 (w o199) (w o1)) (n o162 (w o236) u))
noncomputable def c116:B:=n o8 (n o43 (n o86 (w o1) (w o1)) (n o128 (w o1) u)) (n o65 (n o1 (w o187) (w o8)) (n o148 (w o224) u))
noncomputable def c117:B:=n o32 (n o55 (n o98 (w o1) (w o1)) (n o138 (w o1) u)) (n o75 (n o1 (w o8) (w o1)) (n o160 (w o8) u))
noncomputable def c118:B:=n o27 (n o1 (n o93 (w o174) (w o247)) (n o1 (w o211) u)) (n o70 (n o114 (w o1) (w o266)) (n o8 (w o229) u))
noncomputable def c119:B:=n o37 (n o1 (n o103 (w o8) (w o257)) (n o143 (w o8) u)) (n o6 (n o1 (w o201) (w o275)) (n o164 (w o238) u))
noncomputable def c120:B:=n o20 (n o16 (n o1 (w o8) (w o8)) (n o126 (w o8) u)) (n o63 (n o6 (w o186) (w o261)) (n o1 (w o1) u))
noncomputable def c121:B:=n o1 (n o53 (n o96 (w o177) (w o251)) (n o136 (w o214) u)) (n o1 (n o116 (w o196) (w o8)) (n o158 (w o233) u))
noncomputable def c122:B:=n o25 (n o8 (n o91 (w o172) (w o246)) (n o131 (w o209) u)) (n o69 (n o112 (w o191) (w o1)) (n o154 (w o1) u))
noncomputable def c123:B:=n o35 (n o58 (n o101 (w o182) (w o8)) (n o142 (w o219) u)) (n o81 (n o6 (w o1) (w o274)) (n o1 (w o1) u))
noncomputable def c124:B:=n o1 (n o44 (n o87 (w o170) (w o244)) (n o6 (w o207) u)) (n o67 (n o109 (w o189) (w o1)) (n o150 (w o226) u))
noncomputable def c125:B:=n o1 (n o6 (n o8 (w o179) (w o253)) (n o140 (w o216) u)) (n o77 (n o119 (w o1) (w o272)) (n o8 (w o1) u))
noncomputable def c126:B:=n o29 (n o49 (n o16 (w o8) (w o249)) (n o133 (w o8) u)) (n o72 (n o6 (w o193) (w o267)) (n o156 (w o1) u))
noncomputable def c127:B:=n o39 (n o60 (n o105 (w o184) (w o1)) (n o145 (w o1) u)) (n o1 (n o123 (w o202) (w o277)) (n o165 (w o239) u))
noncomputable def X_tree_524:Params→BT:=(n boot_o_0 (n boot_o_1 (n o0 (n boot_o_7 (n o5 c96 c97) (n o11 c98 c99)) (n o1 (n o8 c100 c101) (n o15 c102 c103))) (n boot_o_5 (n boot_o_9 (n o7 c104 c105) (n o13 c106 c107)) (n o3 (n o10 c108 c109) (n o6 c110 c111)))) (n boot_o_2 (n boot_o_4 (n boot_o_8 (n o6 c112 c113) (n o12 c114 c115)) (n o2 (n o9 c116 c117) (n o16 c118 c119))) (n boot_o_6 (n boot_o_10 (n o1 c120 c121) (n o14 c122 c123)) (n o4 (n o1 c124 c125) (n o17 c126 c127)))))
noncomputable def c128:B:=n o1 (n o40 (w o83) (w o124)) (n o1 (w o106) (w o1))
noncomputable def c129:B:=n o16 (n o50 (w o6) (w o1)) (n o1 (w o115) (w o157))
noncomputable def c130:B:=n o22 (n o45 (w o88) (w o129)) (n o68 (w o110) (w o151))
noncomputable def c131:B:=n o8 (n o56 (w o99) (w o141)) (n o78 (w o120) (w o161))
noncomputable def c132:B:=n o1 (n o6 (w o8) (w o127)) (n o64 (w o108) (w o147))
noncomputable def c133:B:=n o31 (n o54 (w o97) (w o137)) (n o74 (w o117) (w o159))
noncomputable def c134:B:=n o26 (n o47 (w o92) (w o132)) (n o1 (w o113) (w o1))
noncomputable def c135:B:=n o36 (n o59 (w o102) (w o1)) (n o16 (w o122) u)
noncomputable def c136:B:=n o19 (n o42 (w o85) (w o125)) (n o62 (w o16) (w o146))
noncomputable def c137:B:=n o30 (n o52 (w o1) (w o135)) (n o73 (w o8) (w o8))
noncomputable def c138:B:=n o24 (n o1 (w o90) (w o130)) (n o6 (w o111) (w o153))
noncomputable def c139:B:=n o1 (n o57 (w o100) (w o6)) (n o80 (w o16) (w o163))
noncomputable def c140:B:=n o21 (n o1 (w o1) (w o16)) (n o66 (w o8) (w o149))
noncomputable def c141:B:=n o33 (n o16 (w o1) (w o139)) (n o76 (w o118) (w o1))
noncomputable def c142:B:=n o28 (n o48 (w o94) (w o8)) (n o71 (w o16) (w o155))
noncomputable def c143:B:=n o38 (n o8 (w o104) (w o144)) (n o82 (w o8) u)
noncomputable def c144:B:=n o18 (n o41 (w o84) (w o1)) (n o61 (w o107) (w o8))
noncomputable def c145:B:=n o6 (n o51 (w o95) (w o134)) (n o8 (w o1) (w o1))
noncomputable def c146:B:=n o23 (n o46 (w o89) (w o1)) (n o16 (w o1) (w o152))
noncomputable def c147:B:=n o34 (n o1 (w o1) (w o16)) (n o79 (w o121) (w o162))
noncomputable def c148:B:=n o8 (n o43 (w o86) (w o128)) (n o65 (w o1) (w o148))
noncomputable def c149:B:=n o32 (n o55 (w o98) (w o138)) (n o75 (w o1) (w o160))
noncomputable def c150:B:=n o27 (n o1 (w o93) (w o1)) (n o70 (w o114) (w o8))
noncomputable def c151:B:=n o37 (n o1 (w o103) (w o143)) (n o6 (w o1) u)
noncomputable def c152:B:=n o20 (n o16 (w o1) (w o126)) (n o63 (w o6) (w o1))
noncomputable def c153:B:=n o1 (n o53 (w o96) (w o136)) (n o1 (w o116) (w o158))
noncomputable def c154:B:=n o25 (n o8 (w o91) (w o131)) (n o69 (w o112) (w o154))
noncomputable def c155:B:=n o35 (n o58 (w o101) (w o142)) (n o81 (w o6) u)
noncomputable def c156:B:=n o1 (n o44 (w o87) (w o6)) (n o67 (w o109) (w o150))
noncomputable def c157:B:=n o1 (n o6 (w o8) (w o140)) (n o77 (w o119) (w o8))
noncomputable def c158:B:=n o29 (n o49 (w o16) (w o133)) (n o72 (w o6) (w o156))
noncomputable def c159:B:=n o39 (n o60 (w o105) (w o145)) (n o1 (w o123) u)
noncomputable def X_tree_321:Params→BT:=(n boot_o_0 (n boot_o_1 (n o281 (n boot_o_7 (n o5 c128 c129) (n o11 c130 c131)) (n o1 (n o8 c132 c133) (n o15 c134 c135))) (n boot_o_5 (n boot_o_9 (n o7 c136 c137) (n o13 c138 c139)) (n o3 (n o10 c140 c141) (n o6 c142 c143)))) (n boot_o_2 (n boot_o_4 (n boot_o_8 (n o6 c144 c145) (n o12 c146 c147)) (n o282 (n o9 c148 c149) (n o16 c150 c151))) (n boot_o_6 (n boot_o_10 (n o1 c152 c153) (n o14 c154 c155)) (n o4 (n o1 c156 c157) (n o17 c158 c159)))))
noncomputable def X_tree_173:Params→BT:=(n boot_o_0 (n boot_o_1 (n o283 (n boot_o_7 (n o5 (n o1 (w o40) (w o1)) (n o16 (w o50) (w o1))) (n o11 (n o22 (w o45) (w o68)) (n o8 (w o56) (w o78)))) (n o1 (n o8 (n o1 (w o6) (w o64)) (n o31 (w o54) (w o74))) (n o15 (n o26 (w o47) (w o1)) (n o36 (w o59) u)))) (n boot_o_5 (n boot_o_9 (n o7 (n o19 (w o42) (w o62)) (n o30 (w o52) (w o73))) (n o13 (n o24 (w o1) (w o6)) (n o1 (w o57) (w o80)))) (n o3 (n o10 (n o21 (w o1) (w o66)) (n o33 (w o16) (w o76))) (n o6 (n o28 (w o48) (w o71)) (n o38 (w o8) u))))) (n boot_o_2 (n boot_o_4 (n boot_o_8 (n o6 (n o18 (w o41) (w o61)) (n o6 (w o51) (w o8))) (n o285 (n o23 (w o46) (w o16)) (n o34 (w o1) (w o79)))) (n o284 (n o9 (n o8 (w o43) (w o65)) (n o32 (w o55) (w o75))) (n o16 (n o27 (w o1) (w o70)) (n o37 (w o1) u)))) (n boot_o_6 (n boot_o_10 (n o1 (n o20 (w o16) (w o63)) (n o1 (w o53) (w o1))) (n o14 (n o25 (w o8) (w o69)) (n o35 (w o58) (w o81)))) (n o4 (n o1 (n o1 (w o44) (w o67)) (n o1 (w o6) (w o77))) (n o17 (n o29 (w o49) (w o72)) (n o39 (w o60) u))))))
noncomputable def c160:B:=n o1 (n o40 (w o83) u) (n o1 (w o106) u)
noncomputable def c161:B:=n o16 (n o50 (w o6) u) (w o1)
noncomputable def c162:B:=n o8 (n o56 (w o99) u) (w o78)
noncomputable def c163:B:=n o31 (n o54 (w o97) u) (w o74)
noncomputable def c164:B:=n o36 (n o59 (w o102) u) (w o16)
noncomputable def c165:B:=n o30 (n o52 (w o1) u) (w o73)
noncomputable def c166:B:=n o1 (n o57 (w o100) u) (w o80)
noncomputable def c167:B:=n o33 (n o16 (w o1) u) (w o76)
noncomputable def c168:B:=n o38 (n o8 (w o104) u) (w o82)
noncomputable def c169:B:=n o18 (n o41 (w o84) u) (n o61 (w o107) u)
noncomputable def c170:B:=n o6 (n o51 (w o95) u) (w o8)
noncomputable def c171:B:=n o34 (n o1 (w o1) u) (w o79)
noncomputable def c172:B:=n o32 (n o55 (w o98) u) (w o75)
noncomputable def c173:B:=n o37 (n o1 (w o103) u) (w o6)
noncomputable def c174:B:=n o1 (n o53 (w o96) u) (w o1)
noncomputable def c175:B:=n o35 (n o58 (w o101) u) (w o81)
noncomputable def c176:B:=n o1 (n o6 (w o8) u) (w o77)
noncomputable def c177:B:=n o29 (n o49 (w o16) u) (w o72)
noncomputable def c178:B:=n o39 (n o60 (w o105) u) (w o1)
noncomputable def X_tree_217:Params→BT:=(n boot_o_0 (n boot_o_1 (n o286 (n boot_o_7 (n o5 c160 c161) (n o11 c82 c162)) (n o1 (n o8 c83 c163) (n o15 c84 c164))) (n boot_o_5 (n boot_o_9 (n o7 c85 c165) (n o13 c86 c166)) (n o3 (n o10 c87 c167) (n o6 c88 c168)))) (n boot_o_2 (n boot_o_4 (n boot_o_8 (n o6 c169 c170) (n o288 c90 c171)) (n o287 (n o9 c91 c172) (n o16 c92 c173))) (n boot_o_6 (n boot_o_10 (n o1 c93 c174) (n o14 c94 c175)) (n o4 (n o1 c95 c176) (n o17 c177 c178)))))
noncomputable def c179:B:=n o1 (n o40 (n o83 (w o166) (w o240)) (n o124 (w o203) u)) (n o1 (n o106 (w o185) u) (n o1 (w o221) u))
noncomputable def c180:B:=n o16 (n o50 (n o6 (w o175) (w o1)) (n o1 (w o212) u)) (n o1 (n o115 (w o1) u) (n o157 (w o8) u))
noncomputable def c181:B:=n o22 (n o45 (n o88 (w o171) (w o245)) (n o129 (w o208) u)) (n o68 (n o110 (w o1) u) (n o151 (w o1) u))
noncomputable def c182:B:=n o8 (n o56 (n o99 (w o1) (w o254)) (n o141 (w o1) u)) (n o78 (n o120 (w o198) u) (n o161 (w o235) u))
noncomputable def c183:B:=n o1 (n o6 (n o8 (w o168) (w o242)) (n o127 (w o205) u)) (n o64 (n o108 (w o1) u) (n o147 (w o8) u))
noncomputable def c184:B:=n o31 (n o54 (n o97 (w o178) (w o252)) (n o137 (w o215) u)) (n o74 (n o117 (w o1) u) (n o159 (w o1) u))
noncomputable def c185:B:=n o26 (n o47 (n o92 (w o173) (w o1)) (n o132 (w o210) u)) (n o1 (n o113 (w o192) u) (n o1 (w o228) u))
noncomputable def c186:B:=n o36 (n o59 (n o102 (w o1) (w o256)) (n o1 (w o1) u)) (n o16 (n o122 (w o8) u) (n o8 (w o8) u))
noncomputable def c187:B:=n o19 (n o42 (n o85 (w o1) (w o1)) (n o125 (w o1) u)) (n o62 (n o16 (w o8) u) (n o146 (w o223) u))
noncomputable def c188:B:=n o30 (n o52 (n o1 (w o176) (w o250)) (n o135 (w o213) u)) (n o73 (n o8 (w o195) u) (n o8 (w o232) u))
noncomputable def c189:B:=n o24 (n o1 (n o90 (w o8) (w o8)) (n o130 (w o8) u)) (n o6 (n o111 (w o190) u) (n o153 (w o227) u))
noncomputable def c190:B:=n o1 (n o57 (n o100 (w o181) (w o1)) (n o6 (w o218) u)) (n o80 (n o16 (w o200) u) (n o163 (w o237) u))
noncomputable def c191:B:=n o21 (n o1 (n o1 (w o169) (w o243)) (n o16 (w o206) u)) (n o66 (n o8 (w o188) u) (n o149 (w o225) u))
noncomputable def c192:B:=n o33 (n o16 (n o1 (w o8) (w o8)) (n o139 (w o8) u)) (n o76 (n o118 (w o197) u) (n o1 (w o234) u))
noncomputable def c193:B:=n o28 (n o48 (n o94 (w o1) (w o248)) (n o8 (w o1) u)) (n o71 (n o16 (w o8) u) (n o155 (w o230) u))
noncomputable def c194:B:=n o38 (n o8 (n o104 (w o183) (w o258)) (n o144 (w o220) u)) (n o82 (n o8 (w o1) u) (n o1 (w o1) u))
noncomputable def c195:B:=n o18 (n o41 (n o84 (w o167) (w o241)) (n o1 (w o204) u)) (n o61 (n o107 (w o1) u) (n o8 (w o222) u))
noncomputable def c196:B:=n o6 (n o51 (n o95 (w o1) (w o8)) (n o134 (w o1) u)) (n o8 (n o1 (w o194) u) (n o1 (w o231) u))
noncomputable def c197:B:=n o23 (n o46 (n o89 (w o1) (w o1)) (n o1 (w o1) u)) (n o16 (n o1 (w o8) u) (n o152 (w o8) u))
noncomputable def c198:B:=n o34 (n o1 (n o1 (w o180) (w o255)) (n o16 (w o217) u)) (n o79 (n o121 (w o199) u) (n o162 (w o236) u))
noncomputable def c199:B:=n o8 (n o43 (n o86 (w o1) (w o1)) (n o128 (w o1) u)) (n o65 (n o1 (w o187) u) (n o148 (w o224) u))
noncomputable def c200:B:=n o32 (n o55 (n o98 (w o1) (w o1)) (n o138 (w o1) u)) (n o75 (n o1 (w o8) u) (n o160 (w o8) u))
noncomputable def c201:B:=n o27 (n o1 (n o93 (w o174) (w o247)) (n o1 (w o211) u)) (n o70 (n o114 (w o1) u) (n o8 (w o229) u))
noncomputable def c202:B:=n o37 (n o1 (n o103 (w o8) (w o257)) (n o143 (w o8) u)) (n o6 (n o1 (w o201) u) (n o164 (w o238) u))
noncomputable def c203:B:=n o20 (n o16 (n o1 (w o8) (w o8)) (n o126 (w o8) u)) (n o63 (n o6 (w o186) u) (n o1 (w o1) u))
noncomputable def c204:B:=n o1 (n o53 (n o96 (w o177) (w o251)) (n o136 (w o214) u)) (n o1 (n o116 (w o196) u) (n o158 (w o233) u))
noncomputable def c205:B:=n o25 (n o8 (n o91 (w o172) (w o246)) (n o131 (w o209) u)) (n o69 (n o112 (w o191) u) (n o154 (w o1) u))
noncomputable def c206:B:=n o35 (n o58 (n o101 (w o182) (w o8)) (n o142 (w o219) u)) (n o81 (n o6 (w o1) u) (n o1 (w o1) u))
noncomputable def c207:B:=n o1 (n o44 (n o87 (w o170) (w o244)) (n o6 (w o207) u)) (n o67 (n o109 (w o189) u) (n o150 (w o226) u))
noncomputable def c208:B:=n o1 (n o6 (n o8 (w o179) (w o253)) (n o140 (w o216) u)) (n o77 (n o119 (w o1) u) (n o8 (w o1) u))
noncomputable def c209:B:=n o29 (n o49 (n o16 (w o8) (w o249)) (n o133 (w o8) u)) (n o72 (n o6 (w o193) u) (n o156 (w o1) u))
noncomputable def c210:B:=n o39 (n o60 (n o105 (w o184) u) (n o145 (w o1) u)) (n o1 (n o123 (w o202) u) (n o165 (w o239) u))
noncomputable def X_tree_489:Params→BT:=(n boot_o_0 (n boot_o_1 (n o289 (n boot_o_7 (n o5 c179 c180) (n o11 c181 c182)) (n o1 (n o8 c183 c184) (n o15 c185 c186))) (n boot_o_5 (n boot_o_9 (n o7 c187 c188) (n o13 c189 c190)) (n o3 (n o10 c191 c192) (n o6 c193 c194)))) (n boot_o_2 (n boot_o_4 (n boot_o_8 (n o6 c195 c196) (n o12 c197 c198)) (n o290 (n o9 c199 c200) (n o16 c201 c202))) (n boot_o_6 (n boot_o_10 (n o1 c203 c204) (n o14 c205 c206)) (n o4 (n o1 c207 c208) (n o17 c209 c210)))))
noncomputable def X_sts_490:List Stmt:=[f 50,f 51,f 52,f 53,f 54]
noncomputable def c211:B:=n o22 (n o45 (w o88) u) (n o68 (w o110) u)
noncomputable def c212:B:=n o1 (n o6 (w o8) u) (n o64 (w o108) u)
noncomputable def c213:B:=n o26 (n o47 (w o92) u) (n o1 (w o113) u)
noncomputable def c214:B:=n o19 (n o42 (w o85) u) (n o62 (w o16) u)
noncomputable def c215:B:=n o24 (n o1 (w o90) u) (n o6 (w o111) u)
noncomputable def c216:B:=n o21 (n o1 (w o1) u) (n o66 (w o8) u)
noncomputable def c217:B:=n o23 (n o46 (w o89) u) (n o16 (w o1) u)
noncomputable def c218:B:=n o8 (n o43 (w o86) u) (n o65 (w o1) u)
noncomputable def c219:B:=n o27 (n o1 (w o93) u) (n o70 (w o114) u)
noncomputable def c220:B:=n o20 (n o16 (w o1) u) (n o63 (w o6) u)
noncomputable def c221:B:=n o25 (n o8 (w o91) u) (n o69 (w o112) u)
noncomputable def c222:B:=n o1 (n o44 (w o87) u) (n o67 (w o109) u)
noncomputable def X_tree_232:Params→BT:=(n boot_o_0 (n boot_o_1 (n o291 (n boot_o_7 (n o5 c160 c161) (n o11 c211 c162)) (n o1 (n o8 c212 c163) (n o15 c213 c164))) (n boot_o_5 (n boot_o_9 (n o7 c214 c165) (n o13 c215 c166)) (n o3 (n o10 c216 c167) (n o6 c88 c168)))) (n boot_o_2 (n boot_o_4 (n boot_o_8 (n o6 c169 c170) (n o293 c217 c171)) (n o292 (n o9 c218 c172) (n o16 c219 c173))) (n boot_o_6 (n boot_o_10 (n o1 c220 c174) (n o14 c221 c175)) (n o4 (n o1 c222 c176) (n o17 c177 c178)))))
noncomputable def c223:B:=n o1 (n o40 (n o83 (w o166) u) (n o124 (w o203) u)) (n o1 (n o106 (w o185) u) (w o1))
noncomputable def c224:B:=n o16 (n o50 (n o6 (w o175) u) (w o1)) (n o1 (n o115 (w o1) u) (w o157))
noncomputable def c225:B:=n o22 (n o45 (n o88 (w o171) u) (n o129 (w o208) u)) (n o68 (n o110 (w o1) u) (w o151))
noncomputable def c226:B:=n o8 (n o56 (n o99 (w o1) u) (w o141)) (n o78 (n o120 (w o198) u) (w o161))
noncomputable def c227:B:=n o1 (n o6 (n o8 (w o168) u) (n o127 (w o205) u)) (n o64 (n o108 (w o1) u) (w o147))
noncomputable def c228:B:=n o31 (n o54 (n o97 (w o178) u) (w o137)) (n o74 (n o117 (w o1) u) (w o159))
noncomputable def c229:B:=n o26 (n o47 (n o92 (w o173) u) (n o132 (w o210) u)) (n o1 (n o113 (w o192) u) (w o1))
noncomputable def c230:B:=n o36 (n o59 (n o102 (w o1) u) (w o1)) (n o16 (n o122 (w o8) u) (w o8))
noncomputable def c231:B:=n o19 (n o42 (n o85 (w o1) u) (n o125 (w o1) u)) (n o62 (n o16 (w o8) u) (w o146))
noncomputable def c232:B:=n o30 (n o52 (n o1 (w o176) u) (w o135)) (n o73 (n o8 (w o195) u) (w o8))
noncomputable def c233:B:=n o24 (n o1 (n o90 (w o8) u) (n o130 (w o8) u)) (n o6 (n o111 (w o190) u) (w o153))
noncomputable def c234:B:=n o1 (n o57 (n o100 (w o181) u) (w o6)) (n o80 (n o16 (w o200) u) (w o163))
noncomputable def c235:B:=n o21 (n o1 (n o1 (w o169) u) (n o16 (w o206) u)) (n o66 (n o8 (w o188) u) (w o149))
noncomputable def c236:B:=n o33 (n o16 (n o1 (w o8) u) (w o139)) (n o76 (n o118 (w o197) u) (w o1))
noncomputable def c237:B:=n o28 (n o48 (n o94 (w o1) u) (w o8)) (n o71 (n o16 (w o8) u) (w o155))
noncomputable def c238:B:=n o38 (n o8 (n o104 (w o183) u) (w o144)) (n o82 (n o8 (w o1) u) (w o1))
noncomputable def c239:B:=n o18 (n o41 (n o84 (w o167) u) (n o1 (w o204) u)) (n o61 (n o107 (w o1) u) (w o8))
noncomputable def c240:B:=n o6 (n o51 (n o95 (w o1) u) (w o134)) (n o8 (n o1 (w o194) u) (w o1))
noncomputable def c241:B:=n o23 (n o46 (n o89 (w o1) u) (n o1 (w o1) u)) (n o16 (n o1 (w o8) u) (w o152))
noncomputable def c242:B:=n o34 (n o1 (n o1 (w o180) u) (w o16)) (n o79 (n o121 (w o199) u) (w o162))
noncomputable def c243:B:=n o8 (n o43 (n o86 (w o1) u) (n o128 (w o1) u)) (n o65 (n o1 (w o187) u) (w o148))
noncomputable def c244:B:=n o32 (n o55 (n o98 (w o1) u) (w o138)) (n o75 (n o1 (w o8) u) (w o160))
noncomputable def c245:B:=n o27 (n o1 (n o93 (w o174) u) (n o1 (w o211) u)) (n o70 (n o114 (w o1) u) (w o8))
noncomputable def c246:B:=n o37 (n o1 (n o103 (w o8) u) (w o143)) (n o6 (n o1 (w o201) u) (w o164))
noncomputable def c247:B:=n o20 (n o16 (n o1 (w o8) u) (n o126 (w o8) u)) (n o63 (n o6 (w o186) u) (w o1))
noncomputable def c248:B:=n o1 (n o53 (n o96 (w o177) u) (w o136)) (n o1 (n o116 (w o196) u) (w o158))
noncomputable def c249:B:=n o25 (n o8 (n o91 (w o172) u) (n o131 (w o209) u)) (n o69 (n o112 (w o191) u) (w o154))
noncomputable def c250:B:=n o35 (n o58 (n o101 (w o182) u) (w o142)) (n o81 (n o6 (w o1) u) (w o1))
noncomputable def c251:B:=n o1 (n o44 (n o87 (w o170) u) (n o6 (w o207) u)) (n o67 (n o109 (w o189) u) (w o150))
noncomputable def c252:B:=n o1 (n o6 (n o8 (w o179) u) (w o140)) (n o77 (n o119 (w o1) u) (w o8))
noncomputable def c253:B:=n o29 (n o49 (n o16 (w o8) u) (w o133)) (n o72 (n o6 (w o193) u) (w o156))
noncomputable def c254:B:=n o39 (n o60 (n o105 (w o184) u) (w o145)) (n o1 (n o123 (w o202) u) (w o165))
noncomputable def X_tree_406:Params→BT:=(n boot_o_0 (n boot_o_1 (n o294 (n boot_o_7 (n o5 c223 c224) (n o11 c225 c226)) (n o1 (n o8 c227 c228) (n o15 c229 c230))) (n boot_o_5 (n boot_o_9 (n o7 c231 c232) (n o13 c233 c234)) (n o3 (n o10 c235 c236) (n o6 c237 c238)))) (n boot_o_2 (n boot_o_4 (n boot_o_8 (n o6 c239 c240) (n o12 c241 c242)) (n o295 (n o9 c243 c244) (n o16 c245 c246))) (n boot_o_6 (n boot_o_10 (n o1 c247 c248) (n o14 c249 c250)) (n o4 (n o1 c251 c252) (n o17 c253 c254)))))
noncomputable def c255:B:=n o16 (n o50 (w o6) u) (n o1 (w o115) u)
noncomputable def c256:B:=n o8 (n o56 (w o99) u) (n o78 (w o120) u)
noncomputable def c257:B:=n o31 (n o54 (w o97) u) (n o74 (w o117) u)
noncomputable def c258:B:=n o30 (n o52 (w o1) u) (n o73 (w o8) u)
noncomputable def c259:B:=n o33 (n o16 (w o1) u) (n o76 (w o118) u)
noncomputable def c260:B:=n o28 (n o48 (w o94) u) (n o71 (w o16) u)
noncomputable def c261:B:=n o6 (n o51 (w o95) u) (n o8 (w o1) u)
noncomputable def c262:B:=n o34 (n o1 (w o1) u) (n o79 (w o121) u)
noncomputable def c263:B:=n o32 (n o55 (w o98) u) (n o75 (w o1) u)
noncomputable def c264:B:=n o1 (n o53 (w o96) u) (n o1 (w o116) u)
noncomputable def c265:B:=n o1 (n o6 (w o8) u) (n o77 (w o119) u)
noncomputable def c266:B:=n o29 (n o49 (w o16) u) (n o72 (w o6) u)
noncomputable def X_tree_247:Params→BT:=(n boot_o_0 (n boot_o_1 (n o296 (n boot_o_7 (n o5 c160 c255) (n o11 c211 c256)) (n o1 (n o8 c212 c257) (n o15 c213 c164))) (n boot_o_5 (n boot_o_9 (n o7 c214 c258) (n o13 c215 c166)) (n o3 (n o10 c216 c259) (n o6 c260 c168)))) (n boot_o_2 (n boot_o_4 (n boot_o_8 (n o6 c169 c261) (n o298 c217 c262)) (n o297 (n o9 c218 c263) (n o16 c219 c173))) (n boot_o_6 (n boot_o_10 (n o1 c220 c264) (n o14 c221 c175)) (n o4 (n o1 c222 c265) (n o17 c266 c178)))))
noncomputable def X_view_39:Program:={ PySem.Challenge.pw_tailrooms_k92_texts_spoilt_anywhere with main:={ PySem.Challenge.pw_tailrooms_k92_texts_spoilt_anywhere.main with body:=[f 1,f 2,f 3,f 4,f 5,f 6,f 7,f 8,f 9,f 10,f 11,f 12,f 13,f 15,f 17,f 18,f 19,f 20,f 21,f 22,f 23,f 24,f 25,f 26,f 27,f 28,f 29,f 31,f 32,f 33,f 34,f 35,f 36,f 37,f 38,f 39,f 40,f 41,f 42,f 43,f 44,f 45,f 46,f 47,f 48,f 49,f 50,f 51,f 52,f 53,f 54] } }
noncomputable def c267:B:=n o1 (n o40 (w o83) (w o124)) (n o1 (w o106) u)
noncomputable def c268:B:=n o1 (n o6 (w o8) (w o127)) (n o64 (w o108) u)
noncomputable def c269:B:=n o36 (n o59 (w o102) u) (n o16 (w o122) u)
noncomputable def c270:B:=n o19 (n o42 (w o85) (w o125)) (n o62 (w o16) u)
noncomputable def c271:B:=n o1 (n o57 (w o100) u) (n o80 (w o16) u)
noncomputable def c272:B:=n o38 (n o8 (w o104) u) (n o82 (w o8) u)
noncomputable def c273:B:=n o18 (n o41 (w o84) (w o1)) (n o61 (w o107) u)
noncomputable def c274:B:=n o8 (n o43 (w o86) (w o128)) (n o65 (w o1) u)
noncomputable def c275:B:=n o37 (n o1 (w o103) u) (n o6 (w o1) u)
noncomputable def c276:B:=n o20 (n o16 (w o1) (w o126)) (n o63 (w o6) u)
noncomputable def c277:B:=n o35 (n o58 (w o101) u) (n o81 (w o6) u)
noncomputable def c278:B:=n o39 (n o60 (w o105) u) (n o1 (w o123) u)
noncomputable def X_tree_262:Params→BT:=(n boot_o_0 (n boot_o_1 (n o299 (n boot_o_7 (n o5 c267 c255) (n o11 c211 c256)) (n o1 (n o8 c268 c257) (n o15 c213 c269))) (n boot_o_5 (n boot_o_9 (n o7 c270 c258) (n o13 c215 c271)) (n o3 (n o10 c216 c259) (n o6 c260 c272)))) (n boot_o_2 (n boot_o_4 (n boot_o_8 (n o6 c273 c261) (n o301 c217 c262)) (n o300 (n o9 c274 c263) (n o16 c219 c275))) (n boot_o_6 (n boot_o_10 (n o1 c276 c264) (n o14 c221 c277)) (n o4 (n o1 c222 c265) (n o17 c266 c278)))))
noncomputable def c279:B:=n o16 (n o50 (w o6) (w o1)) (n o1 (w o115) u)
noncomputable def c280:B:=n o22 (n o45 (w o88) (w o129)) (n o68 (w o110) u)
noncomputable def c281:B:=n o8 (n o56 (w o99) (w o141)) (n o78 (w o120) u)
noncomputable def c282:B:=n o31 (n o54 (w o97) (w o137)) (n o74 (w o117) u)
noncomputable def c283:B:=n o26 (n o47 (w o92) (w o132)) (n o1 (w o113) u)
noncomputable def c284:B:=n o30 (n o52 (w o1) (w o135)) (n o73 (w o8) u)
noncomputable def c285:B:=n o24 (n o1 (w o90) (w o130)) (n o6 (w o111) u)
noncomputable def c286:B:=n o21 (n o1 (w o1) (w o16)) (n o66 (w o8) u)
noncomputable def c287:B:=n o33 (n o16 (w o1) (w o139)) (n o76 (w o118) u)
noncomputable def c288:B:=n o28 (n o48 (w o94) (w o8)) (n o71 (w o16) u)
noncomputable def c289:B:=n o6 (n o51 (w o95) (w o134)) (n o8 (w o1) u)
noncomputable def c290:B:=n o23 (n o46 (w o89) (w o1)) (n o16 (w o1) u)
noncomputable def c291:B:=n o32 (n o55 (w o98) (w o138)) (n o75 (w o1) u)
noncomputable def c292:B:=n o27 (n o1 (w o93) (w o1)) (n o70 (w o114) u)
noncomputable def c293:B:=n o1 (n o53 (w o96) (w o136)) (n o1 (w o116) u)
noncomputable def c294:B:=n o25 (n o8 (w o91) (w o131)) (n o69 (w o112) u)
noncomputable def c295:B:=n o1 (n o44 (w o87) (w o6)) (n o67 (w o109) u)
noncomputable def c296:B:=n o1 (n o6 (w o8) (w o140)) (n o77 (w o119) u)
noncomputable def c297:B:=n o29 (n o49 (w o16) (w o133)) (n o72 (w o6) u)
noncomputable def X_tree_284:Params→BT:=(n boot_o_0 (n boot_o_1 (n o302 (n boot_o_7 (n o5 c267 c279) (n o11 c280 c281)) (n o1 (n o8 c268 c282) (n o15 c283 c269))) (n boot_o_5 (n boot_o_9 (n o7 c270 c284) (n o13 c285 c271)) (n o3 (n o10 c286 c287) (n o6 c288 c272)))) (n boot_o_2 (n boot_o_4 (n boot_o_8 (n o6 c273 c289) (n o304 c290 c262)) (n o303 (n o9 c274 c291) (n o16 c292 c275))) (n boot_o_6 (n boot_o_10 (n o1 c276 c293) (n o14 c294 c277)) (n o4 (n o1 c295 c296) (n o17 c297 c278)))))
noncomputable def X_tree_151:Params→BT:=(n boot_o_0 (n boot_o_1 (n o305 (n boot_o_7 (n o5 (n o1 (w o40) (w o1)) (n o16 (w o50) u)) (n o11 (n o22 (w o45) (w o68)) (n o8 (w o56) u))) (n o1 (n o8 (n o1 (w o6) (w o64)) (n o31 (w o54) u)) (n o15 (n o26 (w o47) u) (n o36 (w o59) u)))) (n boot_o_5 (n boot_o_9 (n o7 (n o19 (w o42) (w o62)) (n o30 (w o52) u)) (n o13 (n o24 (w o1) u) (n o1 (w o57) u))) (n o3 (n o10 (n o21 (w o1) (w o66)) (n o33 (w o16) u)) (n o6 (n o28 (w o48) u) (n o38 (w o8) u))))) (n boot_o_2 (n boot_o_4 (n boot_o_8 (n o6 (n o18 (w o41) (w o61)) (n o6 (w o51) u)) (n o307 (n o23 (w o46) u) (n o34 (w o1) u))) (n o306 (n o9 (n o8 (w o43) (w o65)) (n o32 (w o55) u)) (n o16 (n o27 (w o1) u) (n o37 (w o1) u)))) (n boot_o_6 (n boot_o_10 (n o1 (n o20 (w o16) (w o63)) (n o1 (w o53) u)) (n o14 (n o25 (w o8) u) (n o35 (w o58) u))) (n o4 (n o1 (n o1 (w o44) (w o67)) (n o1 (w o6) u)) (n o17 (n o29 (w o49) u) (n o39 (w o60) u))))))
noncomputable def X_sts_322:List Stmt:=[f 23,f 24,f 25,f 26,f 27,f 28,f 29,f 30,f 31,f 32,f 33,f 34,f 35,f 36]
theorem z:(qS X_sts_285 && qH X_heap_525 && qS X_sts_407 && qB X_tree_195 && qB X_tree_524 && qB X_tree_321 && qB X_tree_173 && qB X_tree_217 && qB X_tree_489 && qS X_sts_490 && qB X_tree_232 && qB X_tree_406 && qB X_tree_247 && qP X_view_39 && qB X_tree_262 && qB X_tree_284 && qB X_tree_151 && qS X_sts_322)=true:=by k_qdec
end HD
noncomputable def PySem.W.Fast.tw9170904463645315693:List PySem.Stmt:=PySem.W.Fast.tw4586217979611060724
theorem PySem.W.Fast.te9170904463645315693:HD.X_sts_285=PySem.W.Fast.tw9170904463645315693:=PySem.W.Fast.te4586217979611060724
noncomputable def PySem.W.Fast.tw9981690956408599497:PySem.Params→PySem.Heap:=PySem.W.Fast.tw11265032159651837617
theorem PySem.W.Fast.te9981690956408599497:HD.X_heap_525=PySem.W.Fast.tw9981690956408599497:=PySem.W.Fast.te11265032159651837617
noncomputable def PySem.W.Fast.tw14050036540252742248:List PySem.Stmt:=PySem.W.Fast.tw11022484023590017191
theorem PySem.W.Fast.te14050036540252742248:HD.X_sts_407=PySem.W.Fast.tw14050036540252742248:=PySem.W.Fast.te11022484023590017191
noncomputable def PySem.W.Fast.tw3715285665545961467:PySem.Params→PySem.W.BT:=PySem.W.Fast.tw95323471910808647
theorem PySem.W.Fast.te3715285665545961467:HD.X_tree_195=PySem.W.Fast.tw3715285665545961467:=PySem.W.Fast.te95323471910808647
noncomputable def PySem.W.Fast.tw5420546441169279772:PySem.Params→PySem.W.BT:=PySem.W.Fast.tw13430463927191420878
theorem PySem.W.Fast.te5420546441169279772:HD.X_tree_524=PySem.W.Fast.tw5420546441169279772:=PySem.W.Fast.te13430463927191420878
noncomputable def PySem.W.Fast.tw13863515194177045665:PySem.Params→PySem.W.BT:=PySem.W.Fast.tw2376654829052103666
theorem PySem.W.Fast.te13863515194177045665:HD.X_tree_321=PySem.W.Fast.tw13863515194177045665:=PySem.W.Fast.te2376654829052103666
noncomputable def PySem.W.Fast.tw17765616759289488581:PySem.Params→PySem.W.BT:=PySem.W.Fast.tw10857044630490521568
theorem PySem.W.Fast.te17765616759289488581:HD.X_tree_173=PySem.W.Fast.tw17765616759289488581:=PySem.W.Fast.te10857044630490521568
noncomputable def PySem.W.Fast.tw14133137030635871379:PySem.Params→PySem.W.BT:=PySem.W.Fast.tw1359773242563585694
theorem PySem.W.Fast.te14133137030635871379:HD.X_tree_217=PySem.W.Fast.tw14133137030635871379:=PySem.W.Fast.te1359773242563585694
noncomputable def PySem.W.Fast.tw890864563901604025:PySem.Params→PySem.W.BT:=PySem.W.Fast.tw2402971891781717610
theorem PySem.W.Fast.te890864563901604025:HD.X_tree_489=PySem.W.Fast.tw890864563901604025:=PySem.W.Fast.te2402971891781717610
noncomputable def PySem.W.Fast.tw13935162620820939409:List PySem.Stmt:=PySem.W.Fast.tw616737853119925255
theorem PySem.W.Fast.te13935162620820939409:HD.X_sts_490=PySem.W.Fast.tw13935162620820939409:=PySem.W.Fast.te616737853119925255
noncomputable def PySem.W.Fast.tw16818773228334067222:PySem.Params→PySem.W.BT:=PySem.W.Fast.tw1818806372403010703
theorem PySem.W.Fast.te16818773228334067222:HD.X_tree_232=PySem.W.Fast.tw16818773228334067222:=PySem.W.Fast.te1818806372403010703
noncomputable def PySem.W.Fast.tw18328516453211960543:PySem.Params→PySem.W.BT:=PySem.W.Fast.tw8436068367562040474
theorem PySem.W.Fast.te18328516453211960543:HD.X_tree_406=PySem.W.Fast.tw18328516453211960543:=PySem.W.Fast.te8436068367562040474
noncomputable def PySem.W.Fast.tw4416846243208063267:PySem.Params→PySem.W.BT:=PySem.W.Fast.tw1910330143717840126
theorem PySem.W.Fast.te4416846243208063267:HD.X_tree_247=PySem.W.Fast.tw4416846243208063267:=PySem.W.Fast.te1910330143717840126
noncomputable def PySem.W.Fast.tw15544890225842848489:PySem.Program:=PySem.W.Fast.tw18025189030367128546
theorem PySem.W.Fast.te15544890225842848489:HD.X_view_39=PySem.W.Fast.tw15544890225842848489:=PySem.W.Fast.te18025189030367128546
noncomputable def PySem.W.Fast.tw6197528440804114043:PySem.Params→PySem.W.BT:=PySem.W.Fast.tw12825380204184946203
theorem PySem.W.Fast.te6197528440804114043:HD.X_tree_262=PySem.W.Fast.tw6197528440804114043:=PySem.W.Fast.te12825380204184946203
noncomputable def PySem.W.Fast.tw8406649168654941686:PySem.Params→PySem.W.BT:=PySem.W.Fast.tw6858789243893916140
theorem PySem.W.Fast.te8406649168654941686:HD.X_tree_284=PySem.W.Fast.tw8406649168654941686:=PySem.W.Fast.te6858789243893916140
noncomputable def PySem.W.Fast.tw17717740692110601147:PySem.Params→PySem.W.BT:=PySem.W.Fast.tw6993101475732854169
theorem PySem.W.Fast.te17717740692110601147:HD.X_tree_151=PySem.W.Fast.tw17717740692110601147:=PySem.W.Fast.te6993101475732854169
noncomputable def PySem.W.Fast.tw8931931088012030532:Nat:=0
theorem PySem.W.Fast.te8931931088012030532:True:=trivial
noncomputable def PySem.W.Fast.tw180201997842590929:List PySem.Stmt:=PySem.W.Fast.tw7657888035580319958
theorem PySem.W.Fast.te180201997842590929:HD.X_sts_322=PySem.W.Fast.tw180201997842590929:=PySem.W.Fast.te7657888035580319958
open PySem PySem.W PyProof.Rows
set_option maxRecDepth 100000 in
set_option maxHeartbeats 0 in
theorem PySem.Challenge.cw_tailrooms_k92_texts_spoilt_anywhere_holds : PySem.Challenge.rw_tailrooms_k92_texts_spoilt_anywhere.Holds := by
  w_on; o_law; k_head; (case hw=>w_witness2)
  k_fill
  refine Law.walk (l:=PySem.Challenge.rw_tailrooms_k92_texts_spoilt_anywhere) rfl rfl (fun w h Y=>PySem.W.kIn_of Y) ?F
  case F =>
    intro w mg fa h KX G hmg
    refine' Law.all_mk KX G hmg ?ga0 ?ga1 ?ga2 ?ga3 ?ga4 ?ga5 ?ga6 ?ga7 ?ga8 ?ga9 ?ga10 ?ga11 ?ga12 ?ga13 ?ga14 ?ga15 ?ga16 ?ga17 ?ga18 ?ga19 ?ga20 ?ga21 ?ga22 ?ga23 ?ga24 ?ga25 ?ga26 ?ga27 ?ga28 ?ga29 ?ga30 ?ga31 ?ga32 ?a33 ?l33 ?c33 ?k33 ?gT ?gp_NoText ?gn_Busy ?gn_Full ?gn_Lacking ?gn_NoKey ?gn_NoLine ?gn_NoMark ?gn_NoName ?gn_NoRoom ?gn_NoSize ?gn_NoThing ?gn_Taken ?kt_no ?kt_ve ?z_isinstance ?z_str ?z_all ?z_len ?z_int ?z_abs ?z_range ?z_max ?z_list ?z_ValueError ?z_MOST ?z_MOST_FIGURES ?z_LAST_KEY ?z_MOST_WIDE
    (case ga0=>walk_at"lk")
    (case ga1=>walk_at"lk")
    (case ga2=>walk_at"lk")
    (case ga3=>walk_at"lk")
    (case ga4=>walk_at"lk")
    (case ga5=>walk_at"lk")
    (case ga6=>walk_at"lk")
    (case ga7=>walk_at"lk")
    (case ga8=>walk_at"lk")
    (case ga9=>walk_at"lk")
    (case ga10=>walk_at"lk")
    (case ga11=>walk_at"lk")
    (case ga12=>walk_at"lk")
    (case ga13=>walk_at"lk")
    (case ga14=>walk_at"lk")
    (case ga15=>walk_at"lk")
    (case ga16=>walk_at"lk")
    (case ga17=>walk_at"lk")
    (case ga18=>walk_at"lk")
    (case ga19=>walk_at"lk")
    (case ga20=>walk_at"lk")
    (case ga21=>walk_at"lk")
    (case ga22=>walk_at"lk")
    (case ga23=>walk_at"lk")
    (case ga24=>walk_at"lk")
    (case ga25=>walk_at"lk")
    (case ga26=>walk_at"lk")
    (case ga27=>walk_at"lk")
    (case ga28=>walk_at"lk")
    (case ga29=>walk_at"lk")
    (case ga30=>walk_at"lk")
    (case ga31=>walk_at"lk")
    (case ga32=>walk_at"lk")
    (case a33=>walk_at"lk")
    (case l33=>walk_at"lk")
    (case c33=>walk_at"lk")
    (case k33=>walk_at"lk")
    (case gT=>(refine' L2.GaT.mk ?gTa ?gTl); (case gTa=>k_is); (case gTl=>k_is))
    (case gp_NoText=>(refine' L2.GaX0.mk' ?xaC ?xlC ?xlT ?xl1 ?xn1 ?xl2 ?xn2 ?xi0 ?xi3 ?xi4 ?xi5 ?xt0 ?xt3 ?xt4 ?xt5 ?xhm); (case xaC=>k_is); (case xlC=>k_is); (case xlT=>k_is); (case xl1=>k_is); (case xn1=>rfl); (case xl2=>k_is); (case xn2=>rfl); (case xi0=>k_is); (case xi3=>k_is); (case xi4=>k_is); (case xi5=>k_is); (case xt0=>k_is); (case xt3=>k_is); (case xt4=>k_is); (case xt5=>k_is); (case xhm=>k_is))
    (case gn_Busy=>k_is)
    (case gn_Full=>k_is)
    (case gn_Lacking=>k_is)
    (case gn_NoKey=>k_is)
    (case gn_NoLine=>k_is)
    (case gn_NoMark=>k_is)
    (case gn_NoName=>k_is)
    (case gn_NoRoom=>k_is)
    (case gn_NoSize=>k_is)
    (case gn_NoThing=>k_is)
    (case gn_Taken=>k_is)
    (case kt_no=>first | k_is | kernel_rfl)
    (case kt_ve=>first | k_is | kernel_rfl)
    (case z_isinstance=>walk_at"lk")
    (case z_str=>walk_at"lk")
    (case z_all=>walk_at"lk")
    (case z_len=>walk_at"lk")
    (case z_int=>walk_at"lk")
    (case z_abs=>walk_at"lk")
    (case z_range=>walk_at"lk")
    (case z_max=>walk_at"lk")
    (case z_list=>walk_at"lk")
    (case z_ValueError=>walk_at"lk")
    (case z_MOST=>walk_at"lk")
    (case z_MOST_FIGURES=>walk_at"lk")
    (case z_LAST_KEY=>walk_at"lk")
    (case z_MOST_WIDE=>walk_at"lk")
