import PyProof.Rows.All
import Wide.All
import OpenK.AllK
import Wide.FinOn
import PyProof.EqAt
import PyProof.EqKinds
import PyProof.TupleCall
import PySem.Challenge.RW_tailrooms_k47_mended_and_mending
set_option Elab.async false
set_option linter.all false
set_option maxRecDepth 100000
local macro_rules | `(tactic| omega)=>`(tactic| first | lia | omega (config:={}))
namespace L2
open PySem PySem.Spec PyProof.Rows
abbrev Key:=Sum Int Str
def keyIs:Key→Value→Bool
 | .inl k,v=>Value.isInt k v
 | .inr x,v=>Value.isStrOf x v
def keyH (w:World):Key→Int
 | .inl k=>hashInt k
 | .inr x=>hashStr w x
theorem keyIs_shape:∀{k:Key}{v:Value},keyIs k v=true→(∃i t,k=Sum.inl i∧v=Value.int i t) ∨(∃x t,k=Sum.inr x∧v=Value.str x t)
 | .inl i,v,h=>by
  obtain⟨t,e⟩:=Value.isInt_shape (k:=i) (v:=v) h
  exact .inl ⟨i,t,rfl,e⟩
 | .inr x,v,h=>by
  obtain⟨t,e⟩:=Value.isStrOf_shape (x:=x) (v:=v) h
  exact .inr ⟨x,t,rfl,e⟩
theorem keyIs_int (i:Int) (t:Tok):keyIs (.inl i) (.int i t)=true:=by simp[keyIs,Value.isInt]
theorem keyIs_str (x:Str) (t:Tok):keyIs (.inr x) (.str x t)=true:=by simp[keyIs,Value.isStrOf]
theorem key_ll (a b:Int):decide ((Sum.inl a:Key)=Sum.inl b) =(a == b):=by
 by_cases e:a=b
 ·subst e;simp
 ·have h:¬(Sum.inl a:Key)=Sum.inl b:=fun q=>e (Sum.inl.inj q)
  rw[decide_eq_false h]
  exact(beq_eq_false_iff_ne.mpr e).symm
theorem key_rr (a b:Str):decide ((Sum.inr a:Key)=Sum.inr b)=decide (a=b):=by
 by_cases e:a=b
 ·subst e;simp
 ·have h:¬(Sum.inr a:Key)=Sum.inr b:=fun q=>e (Sum.inr.inj q)
  rw[decide_eq_false h,decide_eq_false e]
theorem key_lr (a:Int) (b:Str):decide ((Sum.inl a:Key)=Sum.inr b)=false:=decide_eq_false (fun q=>nomatch q)
theorem key_rl (a:Str) (b:Int):decide ((Sum.inr a:Key)=Sum.inl b)=false:=decide_eq_false (fun q=>nomatch q)
def mixKind (prog:Program) (w:World):PySem.KeyKind prog w Key where
 is:=keyIs
 hash:=keyH w
 inj:=fun v a b ha hb=>by
  rcases keyIs_shape ha with⟨i,t,rfl,rfl⟩|⟨x,t,rfl,rfl⟩
  ·rcases keyIs_shape hb with⟨j,u,rfl,e⟩|⟨y,u,rfl,e⟩
   ·injection e with e1 _;rw[e1]
   ·exact nomatch e
  ·rcases keyIs_shape hb with⟨j,u,rfl,e⟩|⟨y,u,rfl,e⟩
   ·exact nomatch e
   ·injection e with e1 _;rw[e1]
 byValue:=fun k v h=>by
  rcases keyIs_shape h with⟨i,t,rfl,rfl⟩|⟨x,t,rfl,rfl⟩ <;> rfl
 pyHash:=fun hv h=>by
  rcases keyIs_shape hv with⟨i,t,rfl,rfl⟩|⟨x,t,rfl,rfl⟩
  ·exact wpAny_pyHash_int h
  ·exact wpAny_pyHash_str h
 eqBool:=fun hu hv h=>by
  rcases keyIs_shape hu with⟨i,t,rfl,rfl⟩|⟨x,t,rfl,rfl⟩
  ·rcases keyIs_shape hv with⟨j,u,rfl,rfl⟩|⟨y,u,rfl,rfl⟩
   ·rw[key_ll]at h;exact wpAny_eqBool_int h
   ·rw[key_lr]at h;exact SeqAt.EqAt.int_str i t y u _ _ _ _ h
  ·rcases keyIs_shape hv with⟨j,u,rfl,rfl⟩|⟨y,u,rfl,rfl⟩
   ·rw[key_rl]at h;exact SeqAt.EqAt.str_int x t j u _ _ _ _ h
   ·rw[key_rr]at h;exact wpAny_eqBool_str h
 «strs»:=fun k x t v h=>by
  rcases keyIs_shape h with⟨i,u,rfl,e⟩|⟨y,u,rfl,e⟩
  ·exact nomatch e
  ·injection e with e1 _
   subst e1
   cases v <;> rfl
theorem mixKind_is (prog:Program) (w:World) (k:Key) (v:Value):(mixKind prog w).is k v=keyIs k v:=rfl
theorem mixKind_int (prog:Program) (w:World) (i:Int) (t:Tok):(mixKind prog w).is (.inl i) (.int i t)=true:=keyIs_int i t
theorem mixKind_str (prog:Program) (w:World) (x:Str) (t:Tok):(mixKind prog w).is (.inr x) (.str x t)=true:=keyIs_str x t
end L2
namespace L2
open PySem PySem.Spec PyProof.Rows
inductive V where
 | non|bl (b:Bool)|int (i:Int)|str (x:Str)|byt (b:Array UInt8)|flt (b:UInt64)|ref (a:Addr)|ty (n:String)
 deriving DecidableEq
def RelV:V→Value→Prop
 | .non,u=>u=Value.none
 | .bl b,u=>u=Value.bool b
 | .int i,u=>∃t,u=Value.int i t
 | .str x,u=>∃t,u=Value.str x t
 | .byt b,u=>∃t,u=Value.bytes b t
 | .flt b,u=>∃t,u=Value.float b t
 | .ref a,u=>u=Value.ref a
 | .ty n,u=>u=Value.type n
abbrev Vals:List V→List Value→Prop:=Paired RelV
theorem Vals.length {xs:List V}{us:List Value}(r:Vals xs us):xs.length=us.length:=Paired.length r
theorem Vals.get:∀{xs:List V}{us:List Value}{i:Nat}{x:V},Vals xs us→xs[i]? = some x→∃u,us[i]? = some u∧RelV x u
 | _,_,_,_,.nil,e=>by simp at e
 | _,_,0,_,.cons r _,e=>by simp at e;subst e;exact⟨_,rfl,r⟩
 | _,_,i+1,x,.cons _ t,e=>by
  obtain⟨u,h1,h2⟩:=Vals.get (i:=i) (x:=x) t (by simpa using e)
  exact⟨u,by simpa using h1,h2⟩
theorem Vals.set {x:V}{u:Value}(r:RelV x u):∀{xs:List V}{us:List Value}(i:Nat),Vals xs us→Vals (xs.set i x) (us.set i u)
 | _,_,_,.nil=>.nil
 | _,_,0,.cons _ t=>.cons r t
 | _,_,i+1,.cons q t=>.cons q (Vals.set r i t)
theorem Vals.append:∀{xs ys:List V}{us ws:List Value},Vals xs us→Vals ys ws→Vals (xs++ys) (us++ws)
 | _,_,_,_,.nil,s=>s
 | _,_,_,_,.cons r t,s=>.cons r (Vals.append t s)
theorem Vals.take:∀{xs:List V}{us:List Value}(n:Nat),Vals xs us→Vals (xs.take n) (us.take n)
 | _,_,0,_=>.nil
 | _,_,_+1,.nil=>.nil
 | _,_,n+1,.cons r t=>.cons r (Vals.take n t)
theorem Vals.drop:∀{xs:List V}{us:List Value}(n:Nat),Vals xs us→Vals (xs.drop n) (us.drop n)
 | _,_,0,r=>r
 | _,_,_+1,.nil=>.nil
 | _,_,n+1,.cons _ t=>Vals.drop n t
def RelO:Option V→Option Value→Prop
 | some v,some u=>RelV v u
 | none,none=>True
 | _,_=>False
def KV {κ:Type}:List (κ×V)→List (κ×Value)→Prop:=Paired fun(p:κ×V) (q:κ×Value)=>p.1=q.1∧RelV p.2 q.2
def kV:Key→V
 | .inl i=>.int i
 | .inr x=>.str x
inductive HO where
 | lst (xs:List V)
 | tup (xs:List V)
 | dK (kvs:List (Key×V))|dT (kvs:List (List Key×V))
 | set (S:Int→Bool) (n:Nat)
 | ins (C dx:Addr) (fs:List (Str×V))
 | own (x:Addr)
 | xd (fs:List (Str×V))
 | met (f x:Addr)
 | rng (lo hi:Int)
 | frz (o:Obj) (u:HO)
 | tbl (ps:Array Value)
 | ext (φ:Heap→Prop)
abbrev Hp:=Addr→Option HO
def upd (H:Hp) (a:Addr) (o:HO):Hp:=fun b=>if b=a then some o else H b
theorem upd_same {H:Hp}{a:Addr}{o:HO}:upd H a o a=some o:=by unfold upd;rw[if_pos rfl]
theorem upd_ne {H:Hp}{a b:Addr}{o:HO}(h:b≠a):upd H a o b=H b:=by unfold upd;rw[if_neg h]
theorem ne_of {H:Hp}{a b:Addr}{o u:HO}(h:H a=some o) (h':H b=some u) (d:o≠u):a≠b:=by
 intro e;subst e;rw[h]at h';exact d (Option.some.inj h')
theorem ne_of_none {H:Hp}{a b:Addr}{o:HO}(h:H a=some o) (h':H b=none):a≠b:=by
 intro e;subst e;rw[h]at h';cases h'
section
variable (P:Program) (w:World)
def ObjOk (H:Hp) (h:Heap) (a:Addr):HO→Prop
 | .lst xs=>xs.length≤sizeLine∧∃(its:List Value) (n:Nat),Vals xs its∧h.get? a=some { cls:=.type "list",data:=.seq its.toArray n }
 | .tup xs=>xs.length≤sizeLine∧∃its:List Value,Vals xs its∧IsTup h a its.toArray
 | .dK kvs=>kvs.length≤sizeLine∧(a == sysModules)=false∧∃vs,KV kvs vs∧h.DictOf (mixKind P w) a vs
 | .dT kvs=>kvs.length≤sizeLine∧(a == sysModules)=false∧∃xs:List (List Key×Addr×Value),
   Paired (fun(p:List Key×V) (q:List Key×Addr×Value)=>p.1=q.1∧H q.2.1=some (.tup (p.1.map kV))∧RelV p.2 q.2.2) kvs xs ∧
   ∃o es ep,h.get? a=some o∧o.ExactDict∧o.data = .dict es ep∧es.toList=xs.map (entryOfKey (tupleKind (mixKind P w)))∧(xs.map (·.1)).Nodup
 | .set S n=>h.SetOf (intKind P w) a S n
 | .ins C dx fs=>H dx=some (.own a)∧fs.length≤1000∧dx≠a∧h.get? a=some (PySem.W.instObj C dx) ∧
   ∃mA,h.Ns1 dx mA∧(∀f,RelO (fs.lookup f) (mA f))∧PySem.Within mA (fs.map (·.1))
 | .own _=>∃o,h.get? a=some o
 | .xd fs=>∃mA,h.Ns1 a mA∧∀f,RelO (fs.lookup f) (mA f)
 | .rng lo hi=>∃t u v,h.get? a=some { cls:=.type "range",data:=.fields #[.int lo t,.int hi u,.int 1 v] }
 | .frz o u=>h.get? a=some o∧ObjOk H h a u
 | .tbl ps=>h.get? a=some { cls:=.none,data:=.fields ps }
 | .met f x=>h.get? a=some (PySem.W.methodObj (.ref f) (.ref x))
 | .ext φ=>φ h∧(∃o,h.get? a=some o)∧∀h1 h2:Heap,φ h1→(∀o,h1.get? a=some o→h2.get? a=some o)→φ h2
def HOk (H:Hp) (h:Heap):Prop:=∀a o,H a=some o→ObjOk P w H h a o
end
section
variable {P:Program}{w:World}{H H':Hp}{h h':Heap}{a:Addr}{o:HO}
theorem ObjOk.lt (x:ObjOk P w H h a o):a<h.objs.size:=by
 cases o with
 | lst xs=>obtain⟨_,_,_,_,e⟩:=x;exact Heap.lt_size e
 | tup xs=>obtain⟨_,_,_,p⟩:=x;exact p.lt
 | dK kvs=>obtain⟨_,_,_,_,o,_,_,e,_⟩:=x;exact Heap.lt_size e
 | dT kvs=>obtain⟨_,_,_,_,o,_,_,e,_⟩:=x;exact Heap.lt_size e
 | set S n=>obtain⟨o,_,_,_,e,_⟩:=x;exact Heap.lt_size e
 | ins C dx fs=>obtain⟨_,_,_,e,_⟩:=x;exact Heap.lt_size e
 | own y=>obtain⟨_,e⟩:=x;exact Heap.lt_size e
 | xd fs=>obtain⟨_,⟨_,_,_,e,_⟩,_⟩:=x;exact Heap.lt_size e
 | rng lo hi=>obtain⟨_,_,_,e⟩:=x;exact Heap.lt_size e
 | frz ob u=>obtain⟨e,_⟩:=x;exact Heap.lt_size e
 | tbl ps=>exact Heap.lt_size (show h.get? a=some _ from x)
 | met f y=>exact Heap.lt_size (show h.get? a=some _ from x)
 | ext φ=>obtain⟨_,⟨_,e⟩,_⟩:=x;exact Heap.lt_size e
theorem Paired.mapP {α β:Type}{F G:α→β→Prop}:∀{l₁:List α}{l₂:List β},Paired F l₁ l₂→(∀a b,F a b→G a b)→Paired G l₁ l₂
 | _,_,.nil,_=>.nil
 | _,_,.cons r t,f=>.cons (f _ _ r) (Paired.mapP t f)
theorem ObjOk.stay (x:ObjOk P w H h a o) (k:∀b u,(b=a∨H b=some (.own a))→h.get? b=some u→h'.get? b=some u)
  (ho:∀b,H b=some (.own a)→H' b=some (.own a)) (ht:∀b xs,H b=some (.tup xs)→H' b=some (.tup xs)):ObjOk P w H' h' a o:=by
 induction o with
 | lst xs=>obtain⟨z,its,n,r,e⟩:=x;exact⟨z,its,n,r,k _ _ (.inl rfl) e⟩
 | tup xs=>obtain⟨z,its,r,ob,e,c⟩:=x;exact⟨z,its,r,ob,k _ _ (.inl rfl) e,c⟩
 | dK kvs=>obtain⟨z,y,vs,r,ob,es,ep,e,c⟩:=x;exact⟨z,y,vs,r,ob,es,ep,k _ _ (.inl rfl) e,c⟩
 | dT kvs =>
  obtain⟨z,y,xs,r,ob,es,ep,e,c⟩:=x
  exact⟨z,y,xs,Paired.mapP r fun p q z=>⟨z.1,ht _ _ z.2.1,z.2.2⟩,ob,es,ep,k _ _ (.inl rfl) e,c⟩
 | set S n=>obtain⟨ob,es,ep,t,e,c⟩:=x;exact⟨ob,es,ep,t,k _ _ (.inl rfl) e,c⟩
 | ins C dx fs =>
  obtain⟨d,z,ne,e,mA,⟨od,es,ep,e2,c⟩,r⟩:=x
  exact⟨ho _ d,z,ne,k _ _ (.inl rfl) e,mA,⟨od,es,ep,k _ _ (.inr d) e2,c⟩,r⟩
 | own y=>obtain⟨ob,e⟩:=x;exact⟨ob,k _ _ (.inl rfl) e⟩
 | xd fs=>obtain⟨mA,⟨od,es,ep,e,c⟩,r⟩:=x;exact⟨mA,⟨od,es,ep,k _ _ (.inl rfl) e,c⟩,r⟩
 | rng lo hi=>obtain⟨t,u,v,e⟩:=x;exact⟨t,u,v,k _ _ (.inl rfl) e⟩
 | frz ob u ih=>obtain⟨e,q⟩:=x;exact⟨k _ _ (.inl rfl) e,ih q⟩
 | tbl ps =>
  have e:h.get? a=some { cls:=.none,data:=.fields ps }:=x
  show h'.get? a=some { cls:=.none,data:=.fields ps }
  exact k a _ (.inl rfl) e
 | met f y =>
  have e:h.get? a=some (PySem.W.methodObj (.ref f) (.ref y)):=x
  show h'.get? a=some (PySem.W.methodObj (.ref f) (.ref y))
  exact k a _ (.inl rfl) e
 | ext φ=>obtain⟨p,⟨o,e⟩,st⟩:=x;exact⟨st _ _ p fun o q=>k _ _ (.inl rfl) q,⟨o,k _ _ (.inl rfl) e⟩,st⟩
theorem HOk.lt (x:HOk P w H h) (e:H a=some o):a<h.objs.size:=(x a o e).lt
theorem HOk.fresh (x:HOk P w H h) (e:h.objs.size≤a):H a=none:=by
 cases q:H a with
 | none=>rfl
 | some u=>exact absurd (Nat.lt_of_lt_of_le (x.lt q) e) (Nat.lt_irrefl _)
theorem HOk.kept (x:HOk P w H h) (k:∀b u,h.get? b=some u→h'.get? b=some u):HOk P w H h':=fun a o e =>
 (x a o e).stay (fun b u _ q=>k b u q) (fun _ q=>q) fun _ _ q=>q
theorem HOk.laid (x:HOk P w H h) (k:∀b u,h.get? b=some u→h'.get? b=some u) (hp:h.objs.size≤a) (new:ObjOk P w (upd H a o) h' a o):HOk P w (upd H a o) h':=fun b u e=>by
 have hn:=x.fresh hp
 by_cases hb:b=a
 ·subst hb;rw[upd_same]at e;cases e;exact new
 ·rw[upd_ne hb]at e
  exact(x b u e).stay (fun c v _ q=>k c v q) (fun c q=>by rw[upd_ne (ne_of_none q hn)];exact q) fun c xs q=>by rw[upd_ne (ne_of_none q hn)];exact q
end
def Rd (H:Hp) (a:Addr) (u:HO):Prop:=H a=some u ∨ ∃o,H a=some (.frz o u)
theorem Rd.ok {P:Program}{w:World}{H:Hp}{h:Heap}{a:Addr}{u:HO}(r:Rd H a u) (x:HOk P w H h):ObjOk P w H h a u:=by
 rcases r with r|⟨o,r⟩
 ·exact x a u r
 ·obtain⟨_,q⟩:=x a _ r
  exact q
def Mut:Option HO→Prop
 | some (.lst _)=>True
 | some (.dK _)=>True
 | some (.dT _)=>True
 | some (.set _ _)=>True
 | some (.ins _ _ _)=>True
 | some (.ext _)=>True
 | _=>False
section
variable {P:Program}{w:World}{H:Hp}{h h':Heap}{x e:Addr}{o':HO}
theorem HOk.write (ok:HOk P w H h) (mu:Mut (H x)) (he:e=x∨H e=some (.own x)) (k:∀b u,b≠e→h.get? b=some u→h'.get? b=some u) (heo:∃u,h'.get? e=some u)
  (new:ObjOk P w (upd H x o') h' x o'):HOk P w (upd H x o') h':=fun b u q=>by
 have nown:∀c y,H c=some (.own y)→c≠x:=fun c y r z=>by subst z;rw[r]at mu;exact mu
 have ntup:∀c xs,H c=some (.tup xs)→c≠x:=fun c xs r z=>by subst z;rw[r]at mu;exact mu
 by_cases hb:b=x
 ·subst hb;rw[upd_same]at q;cases q;exact new
 ·rw[upd_ne hb]at q
  by_cases hbe:b=e
  ·have q':H b=some (.own x):=by
    rcases he with z|z
    ·exact absurd (hbe.trans z) hb
    ·rw[hbe];exact z
   rw[q]at q';cases q'
   obtain⟨v,hv⟩:=heo
   exact⟨v,by rw[hbe];exact hv⟩
  ·refine(ok b u q).stay (fun c v hc r=>k c v ?_ r) (fun c r=>by rw[upd_ne (nown c b r)];exact r) fun c xs r=>by rw[upd_ne (ntup c xs r)];exact r
   rcases hc with rfl|hc
   ·exact hbe
   ·rintro rfl
    rcases he with z|z
    ·exact nown c b hc z
    ·rw[hc]at z;cases z;exact hb rfl
end
structure Un (fs ex:List Addr) (H H':Hp) (h h':Heap):Prop where
 keep:∀b o,h.get? b=some o→H b=none→b∉fs→b∉ex→h'.get? b=some o
 slot:∀b o,h.get? b=some o→H b=none→b∈fs→b∉ex→∃sl,h'.get? b=some { o with slots:=sl }
 free:∀b o,h.get? b=some o→H b=none→b∉ex→H' b=none
 there:∀b o,h.get? b=some o→b∉ex→∃o',h'.get? b=some o'
 tups:∀b xs,H b=some (.tup xs)→H' b=some (.tup xs)
 frzs:∀b o u,H b=some (.frz o u)→H' b=some (.frz o u)
 tbls:∀b ps,H b=some (.tbl ps)→∃more,H' b=some (.tbl (ps++more))
section
variable {fs fs' ex ex':List Addr}{H H1 H2:Hp}{h h1 h2 h':Heap}{a x e:Addr}{o:HO}
theorem Un.any (u:Un fs ex H H1 h h1) {b:Addr}{ob:Obj}(q:h.get? b=some ob) (n:H b=none) (hx:b∉ex):∃sl,h1.get? b=some { ob with slots:=sl }:=by
 by_cases hb:b∈fs
 ·exact u.slot b ob q n hb hx
 ·exact⟨ob.slots,u.keep b ob q n hb hx⟩
theorem Un.kept (k:∀b u,h.get? b=some u→h'.get? b=some u):Un fs ex H H h h' :=
 ⟨fun b ob q _ _ _=>k b ob q,fun b ob q _ _ _=>⟨ob.slots,k b ob q⟩,fun _ _ _ n _=>n,fun b ob q _=>⟨ob,k b ob q⟩,fun _ _ q=>q,fun _ _ _ q=>q,fun _ ps q=>⟨#[],by rw[q];simp⟩⟩
theorem Un.refl:Un fs ex H H h h:=Un.kept fun _ _ q=>q
theorem Un.laid (k:∀b u,h.get? b=some u→h'.get? b=some u) (hp:h.objs.size≤a) (hn:H a=none):Un fs ex H (upd H a o) h h' where
 keep:=fun b u q _ _ _=>k b u q
 slot:=fun b u q _ _ _=>⟨u.slots,k b u q⟩
 free:=fun b u q n _=>by rw[upd_ne (Nat.ne_of_lt (Nat.lt_of_lt_of_le (Heap.lt_size q) hp))];exact n
 there:=fun b u q _=>⟨u,k b u q⟩
 tups:=fun b xs q=>by rw[upd_ne (ne_of_none q hn)];exact q
 frzs:=fun b u xs q=>by rw[upd_ne (ne_of_none q hn)];exact q
 tbls:=fun b ps q=>⟨#[],by rw[upd_ne (ne_of_none q hn),q];simp⟩
theorem Un.write (mu:Mut (H x)) (he:e=x∨H e=some (.own x)) (k:∀b u,b≠e→h.get? b=some u→h'.get? b=some u) (heo:∃u,h'.get? e=some u):Un fs ex H (upd H x o) h h':=by
 have hx:∀b,H b=none→b≠x:=fun b n z=>by subst z;rw[n]at mu;exact mu
 have hb:∀b,H b=none→b≠e:=fun b n z=>by
  subst z
  rcases he with r|r
  ·exact hx b n r
  ·rw[n]at r;cases r
 have hm:∀b u,H b=some u→¬ Mut (some u)→b≠x:=fun b u q nm z=>by subst z;rw[q]at mu;exact nm mu
 refine⟨fun b u q n _ _=>k b u (hb b n) q,fun b u q n _ _=>⟨u.slots,k b u (hb b n) q⟩,fun b u q n _=>by rw[upd_ne (hx b n)];exact n,fun b u q _=>?_,
  fun b xs q=>by rw[upd_ne (hm b _ q fun z=>z)];exact q,fun b u xs q=>by rw[upd_ne (hm b _ q fun z=>z)];exact q,fun b ps q=>⟨#[],by rw[upd_ne (hm b _ q fun z=>z),q];simp⟩⟩
 by_cases hbe:b=e
 ·subst hbe;exact heo
 ·exact⟨u,k b u hbe q⟩
end
def trk (h:Heap) (H:Hp):List Addr:=(List.range h.objs.size).filter fun a=>(H a).isSome
def hidT (h:Heap) (H:Hp):Heap:=PySem.W.hideAll h (trk h H)
theorem hidT_size (h:Heap) (H:Hp):(hidT h H).objs.size=h.objs.size:=PySem.W.hideAll_size _ _
theorem hidT_get {h:Heap}{H:Hp}{b:Addr}{o:Obj}(e:h.get? b=some o) (n:H b=none):(hidT h H).get? b=some o :=
 PySem.W.hideAll_get _ e fun hm=>by
  have q:(H b).isSome=true:=(List.mem_filter.mp hm).2
  rw[n]at q;simp at q
theorem of_hidT {h:Heap}{H:Hp}{b:Addr}{o:Obj}(e:(hidT h H).get? b=some o):h.get? b=some o∧H b=none:=by
 have e':h.get? b=some o:=PySem.W.of_hideAll (trk h H) e
 refine⟨e',?_⟩
 cases q:H b with
 | none=>rfl
 | some x =>
  have hm:b∈trk h H:=List.mem_filter.mpr ⟨List.mem_range.mpr (Heap.lt_size e'),by simp[q]⟩
  have z:(hidT h H).get? b=none:=PySem.W.hideAll_none (trk h H) hm
  rw[z]at e;cases e
def allNews (g h:Heap) (L:Addr):List (Addr×Obj):=(List.range h.objs.size).filterMap fun a=>if a=L ∨(g.get? a).isSome=true then none else(h.get? a).map fun o=>(a,o)
def rest (g h:Heap) (L d:Addr):List (Addr×Obj):=(allNews g h L).filter fun p=>decide (p.1≠d)
end L2
namespace L2
open PySem PySem.Spec PyProof.Rows
structure Mod (K:PySem.W.Frag) (mg:Str→Option Value) (base:Heap):Prop where
 kin:K.In base
 glob:base.Ns mainGlobals mg
 blt:∃mb,base.Ns builtinsNs mb∧∀x:Str,x ≠ "__name__"→mb x=bootBuiltins x
 nolimit:base.NoLimit
structure Cx where
 prog:Program
 w:World
 K:PySem.W.Frag
 mg:Str→Option Value
 base:Heap
 A:Around
 N:List Str
 s₀:Shared
 H₀:Hp
 env:Env
 outer:List Env
 stack:List Env
 ex:List Addr
 fn:Str→Bool
 calm:Bool
 pn:List (Addr×Obj)
 xe:Value→Shared→Prop
def frs (l:List Env):List Addr:=l.filterMap (·.frame)
abbrev Cx.fs (X:Cx):List Addr:=frs X.outer
def Vis (sc:Scope) (x:Str):Prop:=sc.names.lookup x=some .local∨sc.names.lookup x=some .cell∨sc.names.lookup x=some .free
def Loc (sc:Scope) (x:Str):Prop:=sc.names.lookup x=some .local∨sc.names.lookup x=some .cell
def Look (env:Env) (h:Heap) (m:Str→Option Value) (x:Str) (u:Value):Prop :=
 (env.kindOf x=some .local∧m x=some u) ∨((env.kindOf x=some .cell∨env.kindOf x=some .free)∧∃c,env.cells.lookup x=some c∧h.IsCell c (some u))
structure Cx.Ok (X:Cx):Prop where
 mod:Mod X.K X.mg X.base
 kind:X.env.scope.kind = .function
 glob:X.env.globals=mainGlobals
 blt:X.env.builtins=builtinsNs
 above:X.s₀.heap.objs.size≤X.env.locals
 inj:∀x y c,X.env.cells.lookup x=some c→X.env.cells.lookup y=some c→x=y
 has:∀x,(X.env.kindOf x=some .cell∨X.env.kindOf x=some .free)→∃c,X.env.cells.lookup x=some c
 cab:∀x c,X.fn x=true→X.env.cells.lookup x=some c→X.s₀.heap.objs.size≤c
 hd:X.calm=true→X.A.handled=none
 frames:X.A.frames=some X.stack
 stk:X.stack=X.outer ∨(X.stack=X.env::X.outer∧X.env.frame=some X.env.locals)
 exf:∀b∈X.ex,b≠X.env.locals∧∀x c,X.env.cells.lookup x=some c→c≠b
 bs:∀b o,X.base.get? b=some o→X.s₀.heap.get? b=some o∧X.H₀ b=none
 bsz:X.base.objs.size≤X.s₀.heap.objs.size
 noex:∀b o,X.base.get? b=some o→b∉X.ex
 exfs:∀b∈X.ex,b∉X.fs
 funs:X.s₀.heap.FunFrames X.base X.outer
 frf:∀b∈X.fs,X.H₀ b=none
structure Inv (X:Cx) (pins:List (Addr×Obj)) (σ:List (Option V)) (H:Hp) (s:Shared):Prop where
 ok:X.Ok
 os:s.os=X.s₀.os
 bare:AllBare s.gens
 base:Un X.fs X.ex X.H₀ H X.s₀.heap s.heap
 loc:∃m,s.heap.Ns X.env.locals m∧∀(i:Nat) (x:Str) (v:V),X.N[i]? = some x→σ[i]? = some (some v)→Vis X.env.scope x→∃u,RelV v u∧Look X.env s.heap m x u
 cell:∀x c,X.env.cells.lookup x=some c→∃v,s.heap.IsCell c v
 free:H X.env.locals=none
 freeC:∀x c,X.env.cells.lookup x=some c→H c=none
 pin:∀p∈X.pn++pins,s.heap.get? p.1=some p.2∧H p.1=none∧p.1≠X.env.locals∧p.1∉X.fs∧∀v,p.2.data ≠ .cell v
 hok:HOk X.prog X.w H s.heap
 len:σ.length=X.N.length
section
variable {X:Cx}{pins:List (Addr×Obj)}{σ:List (Option V)}{H H':Hp}{s:Shared}{h':Heap}
theorem Cx.Ok.nofr (ok:X.Ok) {b:Addr}{o:Obj}(e:X.base.get? b=some o):b∉X.fs:=fun hb=>by
 have:=(ok.funs.mem hb).1
 rw[e]at this;cases this
theorem Inv.bs (I:Inv X pins σ H s):∀b o,X.base.get? b=some o→s.heap.get? b=some o∧H b=none:=fun b o e =>
 ⟨I.base.keep b o (I.ok.bs b o e).1 (I.ok.bs b o e).2 (I.ok.nofr e) (I.ok.noex b o e),I.base.free b o (I.ok.bs b o e).1 (I.ok.bs b o e).2 (I.ok.noex b o e)⟩
theorem Inv.bk (I:Inv X pins σ H s):∀b o,X.base.get? b=some o→s.heap.get? b=some o:=fun b o e=>(I.bs b o e).1
theorem Inv.mod (I:Inv X pins σ H s):Mod X.K X.mg X.base:=I.ok.mod
theorem Inv.kIn (I:Inv X pins σ H s):X.K.In s.heap:=I.ok.mod.kin.keeps I.bk
theorem Inv.lt (I:Inv X pins σ H s):X.env.locals<s.heap.objs.size:=let ⟨_,hn,_⟩:=I.loc;hn.lt
theorem Inv.sz (I:Inv X pins σ H s):X.s₀.heap.objs.size≤s.heap.objs.size:=Nat.le_trans I.ok.above (Nat.le_of_lt I.lt)
theorem Inv.nofs (I:Inv X pins σ H s) {a:Addr}(h:s.heap.objs.size≤a):a∉X.fs:=fun hb=>by
 obtain⟨_,o,ho,_⟩:=I.ok.funs.mem hb
 exact absurd (Nat.lt_of_lt_of_le (Heap.lt_size ho) (Nat.le_trans I.sz h)) (Nat.lt_irrefl _)
theorem Inv.cne (I:Inv X pins σ H s):∀x c,X.env.cells.lookup x=some c→c≠X.env.locals:=fun x c e z=>by
 obtain⟨v,o,ho,hd⟩:=I.cell x c e
 obtain⟨m,⟨o',es,ep,ho',hd',_⟩,_⟩:=I.loc
 rw[z,ho']at ho;cases ho;rw[hd']at hd;cases hd
theorem Inv.funs (I:Inv X pins σ H s):s.heap.FunFrames X.base X.outer:=by
 have all:∀(l:List Env),(∀b∈frs l,b∈X.fs)→X.s₀.heap.FunFrames X.base l→s.heap.FunFrames X.base l:=by
  intro l
  induction l with
  | nil=>intro _ _;trivial
  | cons env r ih =>
   intro hs hl
   obtain⟨hk,⟨L,o,hf,hn,ho,hd⟩,hr⟩:=hl
   have hL:L∈X.fs:=hs L (by unfold frs;rw[List.filterMap_cons,hf];exact List.mem_cons_self)
   obtain⟨sl,e⟩:=I.base.slot L o ho (I.ok.frf L hL) hL fun z=>I.ok.exfs L z hL
   exact⟨hk,⟨L,_,hf,hn,e,hd⟩,ih (fun b hb=>hs b (by unfold frs;rw[List.filterMap_cons,hf];exact List.mem_cons_of_mem _ hb)) hr⟩
 exact all X.outer (fun _ hb=>hb) I.ok.funs
theorem Inv.stack (I:Inv X pins σ H s):s.heap.FunFrames X.base X.stack:=by
 rcases I.ok.stk with e|⟨e,hf⟩
 ·rw[e];exact I.funs
 ·rw[e]
  obtain⟨m,hn,_⟩:=I.loc
  refine .cons (by rw[I.ok.kind];decide) hf hn ?_ I.funs
  exact Heap.get?_none_of_le (Nat.le_trans I.ok.bsz I.ok.above)
theorem Inv.stkSub (I:Inv X pins σ H s):∀b∈frs X.stack,b∈X.env.locals::X.fs:=fun b hb=>by
 rcases I.ok.stk with e|⟨e,hf⟩
 ·rw[e]at hb;exact List.mem_cons_of_mem _ hb
 ·rw[e]at hb
  unfold frs at hb
  rw[List.filterMap_cons,hf]at hb
  exact hb
theorem Inv.stkFree (I:Inv X pins σ H s):∀b∈frs X.stack,H b=none:=fun b hb=>by
 rcases List.mem_cons.mp (I.stkSub b hb) with e|hb
 ·rw[e];exact I.free
 ·obtain⟨_,o,ho,_⟩:=I.ok.funs.mem hb
  exact I.base.free b o ho (I.ok.frf b hb) fun z=>I.ok.exfs b z hb
theorem Inv.step {g':Array GenState}{t':Nat}{d':Drawn}{ch:List Addr}(I:Inv X pins σ H s)
  (hch:∀b∈ch,(b∈X.ex∨X.s₀.heap.objs.size≤b)∧b≠X.env.locals∧(∀x c,X.env.cells.lookup x=some c→c≠b)∧∀p∈X.pn++pins,p.1≠b)
  (keep:∀b o,b≠X.env.locals→b∉X.fs→b∉ch→s.heap.get? b=some o→H b=none→h'.get? b=some o)
  (slot:∀b o,b≠X.env.locals→b∈X.fs→b∉ch→s.heap.get? b=some o→H b=none→∃sl,h'.get? b=some { o with slots:=sl }) (free:∀b o,b∉ch→s.heap.get? b=some o→H b=none→H' b=none)
  (there:∀b o,b∉ch→s.heap.get? b=some o→∃o',h'.get? b=some o')
  (tups:∀b xs,H b=some (.tup xs)→H' b=some (.tup xs)) (frzs:∀b o u,H b=some (.frz o u)→H' b=some (.frz o u)) (tbls:∀b ps,H b=some (.tbl ps)→∃more,H' b=some (.tbl (ps++more)))
  (ns:∀m,s.heap.Ns X.env.locals m→h'.Ns X.env.locals m) (hok:HOk X.prog X.w H' h') (hg:AllBare g') :
  Inv X pins σ H' { s with heap:=h',gens:=g',drawn:=d',toks:=t' }:=by
 have neL:∀b o,X.s₀.heap.get? b=some o→b≠X.env.locals:=fun b o e=>Nat.ne_of_lt (Nat.lt_of_lt_of_le (Heap.lt_size e) I.ok.above)
 have neC:∀b o,X.s₀.heap.get? b=some o→b∉X.ex→b∉ch:=fun b o e hx hb=>by
  rcases(hch b hb).1 with z|z
  ·exact hx z
  ·exact absurd (Nat.lt_of_lt_of_le (Heap.lt_size e) z) (Nat.lt_irrefl _)
 have cellK:∀x c,X.env.cells.lookup x=some c→∀v,s.heap.IsCell c v→h'.IsCell c v:=fun x c e v ⟨o,ho,hd⟩=>by
  have nch:c∉ch:=fun z=>(hch c z).2.2.1 x c e rfl
  by_cases hc:c∈X.fs
  ·obtain⟨sl,q⟩:=slot c o (I.cne x c e) hc nch ho (I.freeC x c e)
   exact⟨_,q,hd⟩
  ·exact⟨o,keep c o (I.cne x c e) hc nch ho (I.freeC x c e),hd⟩
 refine⟨I.ok,I.os,hg,⟨fun b o e n hb hx=>?_,fun b o e n hb hx=>?_,fun b o e n hx=>?_,fun b o e hx=>?_,fun b xs e=>tups b xs (I.base.tups b xs e),fun b o xs e=>frzs b o xs (I.base.frzs b o xs e),fun b ps e=>?_⟩,?_,fun x c e=>?_,?_,fun x c e=>?_,fun p hp=>?_,hok,I.len⟩
 ·exact keep b o (neL b o e) hb (neC b o e hx) (I.base.keep b o e n hb hx) (I.base.free b o e n hx)
 ·obtain⟨sl,e1⟩:=I.base.slot b o e n hb hx
  obtain⟨sl',e2⟩:=slot b _ (neL b o e) hb (neC b o e hx) e1 (I.base.free b o e n hx)
  exact⟨sl',e2⟩
 ·obtain⟨o',e1⟩:=I.base.there b o e hx
  exact free b o' (neC b o e hx) e1 (I.base.free b o e n hx)
 ·obtain⟨o',e1⟩:=I.base.there b o e hx
  exact there b o' (neC b o e hx) e1
 ·obtain⟨m1,e1⟩:=I.base.tbls b ps e
  obtain⟨m2,e2⟩:=tbls b _ e1
  exact⟨m1++m2,by rw[e2,Array.append_assoc]⟩
 ·obtain⟨m,hn,hl⟩:=I.loc
  refine⟨m,ns m hn,fun i x v e1 e2 e3=>?_⟩
  obtain⟨u,r,l⟩:=hl i x v e1 e2 e3
  refine⟨u,r,?_⟩
  rcases l with l|⟨k,c,e,z⟩
  ·exact .inl l
  ·exact .inr ⟨k,c,e,cellK x c e _ z⟩
 ·obtain⟨v,z⟩:=I.cell x c e
  exact⟨v,cellK x c e v z⟩
 ·obtain⟨m,⟨o,_,_,ho,_⟩,_⟩:=I.loc
  exact free _ o (fun z=>(hch _ z).2.1 rfl) ho I.free
 ·obtain⟨v,o,ho,hd⟩:=I.cell x c e
  exact free c o (fun z=>(hch c z).2.2.1 x c e rfl) ho (I.freeC x c e)
 ·obtain⟨e,n,ne,nf,d⟩:=I.pin p hp
  have nch:p.1∉ch:=fun z=>(hch p.1 z).2.2.2 p hp rfl
  exact⟨keep p.1 p.2 ne nf nch e n,free p.1 p.2 nch e n,ne,nf,d⟩
theorem Inv.un {t':Nat}(I:Inv X pins σ H s) (u:Un X.fs [] H H' s.heap h') (hok:HOk X.prog X.w H' h'):Inv X pins σ H' { s with heap:=h',toks:=t' }:=by
 obtain⟨m,⟨o,es,ep,ho,r⟩,_⟩:=id I.loc
 obtain⟨sl,hL⟩:=u.any ho I.free (by simp)
 exact I.step (g':=s.gens) (d':=s.drawn) (ch:=[]) (fun _ z=>nomatch z) (fun b o _ hb _ e n=>u.keep b o e n hb (by simp)) (fun b o _ hb _ e n=>u.slot b o e n hb (by simp)) (fun b o _ e n=>u.free b o e n (by simp)) (fun b o _ e=>u.there b o e (by simp)) u.tups u.frzs u.tbls (fun m' hm=>by
  obtain⟨o',es',ep',ho',r'⟩:=hm
  rw[ho]at ho';cases ho'
  exact⟨_,es',ep',hL,r'⟩) hok I.bare
theorem Inv.call {g':Array GenState}{t':Nat}{d':Drawn}{ch:List Addr}(I:Inv X pins σ H s) (u:Un (frs X.stack) ch H H' s.heap h') (hok:HOk X.prog X.w H' h') (hg:AllBare g')
  (hch:∀b∈ch,(b∈X.ex∨X.s₀.heap.objs.size≤b)∧b≠X.env.locals∧(∀x c,X.env.cells.lookup x=some c→c≠b)∧∀p∈X.pn++pins,p.1≠b) :
  Inv X pins σ H' { s with heap:=h',gens:=g',drawn:=d',toks:=t' }:=by
 obtain⟨m,⟨o,es,ep,ho,r⟩,_⟩:=id I.loc
 obtain⟨sl,hL⟩:=u.any ho I.free fun z=>(hch _ z).2.1 rfl
 exact I.step (ch:=ch) hch (fun b o hL hb hc e n=>u.keep b o e n (fun z=>(List.mem_cons.mp (I.stkSub b z)).elim hL hb) hc) (fun b o _ _ hc e n=>u.any e n hc) (fun b o hc e n=>u.free b o e n hc) (fun b o hc e=>u.there b o e hc) u.tups u.frzs u.tbls (fun m' hm=>by
  obtain⟨o',es',ep',ho',r'⟩:=hm
  rw[ho]at ho';cases ho'
  exact⟨_,es',ep',hL,r'⟩) hok hg
theorem Inv.turned {t':Nat}{it:Addr}(I:Inv X pins σ H s) (k:∀b o,b≠it→s.heap.get? b=some o→h'.get? b=some o) (hn:H it=none) (hL:it≠X.env.locals)
  (h1:it∈X.ex∨X.s₀.heap.objs.size≤it) (h2:∀x c,X.env.cells.lookup x=some c→c≠it) (h3:∀p∈X.pn++pins,p.1≠it):Inv X pins σ H { s with heap:=h',toks:=t' }:=by
 have nit:∀b u,H b=some u→b≠it:=fun b u e z=>by rw[z,hn]at e;cases e
 refine I.step (g':=s.gens) (d':=s.drawn) (ch:=[it]) (fun b hb=>?_) (fun b o _ _ hc e _=>k b o (fun z=>hc (by simp[z])) e) (fun b o _ _ hc e _=>⟨o.slots,k b o (fun z=>hc (by simp[z])) e⟩) (fun _ _ _ _ n=>n)
  (fun b o hc e=>⟨o,k b o (fun z=>hc (by simp[z])) e⟩) (fun _ _ e=>e) (fun _ _ _ e=>e) (fun b ps e=>⟨#[],by rw[e];simp⟩) (fun m hm=>?_) (fun b u e=>?_) I.bare
 ·have e:b=it:=by simpa using hb
  subst e
  exact⟨h1,hL,h2,h3⟩
 ·obtain⟨o,es,ep,ho,r⟩:=hm
  exact⟨o,es,ep,k _ o (Ne.symm hL) ho,r⟩
 ·refine(I.hok b u e).stay (fun c v hc q=>k c v ?_ q) (fun _ q=>q) fun _ _ q=>q
  rcases hc with z|z
  ·rw[z];exact nit b u e
  ·exact nit c _ z
theorem Inv.tok (I:Inv X pins σ H s) (t:Nat):Inv X pins σ H { s with toks:=t }:=I.un (h':=s.heap) (t':=t) Un.refl I.hok
theorem Inv.kept {t':Nat}(I:Inv X pins σ H s) (k:∀b u,s.heap.get? b=some u→h'.get? b=some u):Inv X pins σ H { s with heap:=h',toks:=t' }:=I.un (Un.kept k) (I.hok.kept k)
theorem Inv.laid {a:Addr}{o:HO}{t':Nat}(I:Inv X pins σ H s) (k:∀b u,s.heap.get? b=some u→h'.get? b=some u) (hp:s.heap.objs.size≤a) (new:ObjOk X.prog X.w (upd H a o) h' a o) :
  Inv X pins σ (upd H a o) { s with heap:=h',toks:=t' }:=I.un (Un.laid k hp (I.hok.fresh hp)) (I.hok.laid k hp new)
theorem Inv.write {x e:Addr}{o:HO}{t':Nat}(I:Inv X pins σ H s) (mu:Mut (H x)) (he:e=x∨H e=some (.own x)) (k:∀b u,b≠e→s.heap.get? b=some u→h'.get? b=some u) (heo:∃u,h'.get? e=some u)
  (new:ObjOk X.prog X.w (upd H x o) h' x o):Inv X pins σ (upd H x o) { s with heap:=h',toks:=t' }:=I.un (Un.write mu he k heo) (I.hok.write mu he k heo new)
theorem Inv.pins_of {pins':List (Addr×Obj)}(I:Inv X pins σ H s) (h:∀p∈pins',s.heap.get? p.1=some p.2∧H p.1=none∧p.1≠X.env.locals∧p.1∉X.fs∧∀v,p.2.data ≠ .cell v):Inv X pins' σ H s :=
 ⟨I.ok,I.os,I.bare,I.base,I.loc,I.cell,I.free,I.freeC,fun p hp=>(List.mem_append.mp hp).elim (fun z=>I.pin p (List.mem_append_left _ z)) (h p),I.hok,I.len⟩
theorem nodup_ix {N:List Str}(hN:N.Nodup) {i j:Nat}{x:Str}(a:N[i]? = some x) (b:N[j]? = some x):i=j:=by
 obtain⟨h1,e1⟩:=List.getElem?_eq_some_iff.mp a
 obtain⟨h2,e2⟩:=List.getElem?_eq_some_iff.mp b
 exact(List.getElem_inj hN).mp (e1.trans e2.symm)
theorem store_ok2 {M:Model}{A:Around}{E:Value→Shared→Prop}{i:Nat}{x:Str}{v:V}{u:Value}{Q:Unit→Shared→Prop}(I:Inv X pins σ H s) (hN:X.N.Nodup) (hi:X.N[i]? = some x) (hx:Loc X.env.scope x) (r:RelV v u)
  (h:∀s',Inv X pins (σ.set i (some v)) H s'→(∃a,Heap.SameBut a s.heap s'.heap∧(a=X.env.locals∨X.env.cells.lookup x=some a))→Q () s') (hf:X.fn x=true∨X.env.scope.names.lookup x=some .local:=by first|exact .inl rfl|exact .inr rfl|assumption):wpAny M A (storeName X.env x u) Q E s:=by
 obtain⟨m,hn,hl⟩:=id I.loc
 have hcls:(X.env.scope.kind == .class || (X.env.scope.kind == .module && X.env.locals != X.env.globals))=false:=by rw[I.ok.kind];rfl
 have hiσ:i<σ.length:=by rw[I.len];exact(List.getElem?_eq_some_iff.mp hi).1
 have cne:=I.cne
 have tracked:∀{a:Addr}{h':Heap},(∃o,s.heap.get? a=some o∧H a=none)→Heap.SameBut a s.heap h'→HOk X.prog X.w H h':=fun {a h'} ha hs b ob e=>by
  obtain⟨_,_,hfree⟩:=ha
  refine(I.hok b ob e).stay (fun c w' hc q=>(hs.2 c ?_).trans q) (fun _ q=>q) fun _ _ q=>q
  rintro rfl
  rcases hc with rfl|hc
  ·rw[hfree]at e;cases e
  ·rw[hfree]at hc;cases hc
 rcases hx with hk|hk
 ·refine wpAny_storeName_local hk hn (fun h' hn' hs=>?_) hcls
  obtain⟨oL,_,_,hoL,_⟩:=id hn
  refine h _ ⟨I.ok,I.os,I.bare,⟨fun b o e n hb hx=>?_,fun b o e n hb hx=>?_,I.base.free,fun b o e hx=>?_,I.base.tups,I.base.frzs,I.base.tbls⟩,⟨_,hn',fun j y v' e1 e2 e3=>?_⟩,fun y c e=>?_,I.free,I.freeC,fun p hp=>?_,tracked ⟨oL,hoL,I.free⟩ hs,by simpa using I.len⟩ ⟨_,hs,.inl rfl⟩
  ·exact(hs.2 b (Nat.ne_of_lt (Nat.lt_of_lt_of_le (Heap.lt_size e) I.ok.above))).trans (I.base.keep b o e n hb hx)
  ·obtain⟨sl,e1⟩:=I.base.slot b o e n hb hx
   exact⟨sl,(hs.2 b (Nat.ne_of_lt (Nat.lt_of_lt_of_le (Heap.lt_size e) I.ok.above))).trans e1⟩
  ·obtain⟨o',e1⟩:=I.base.there b o e hx
   exact⟨o',(hs.2 b (Nat.ne_of_lt (Nat.lt_of_lt_of_le (Heap.lt_size e) I.ok.above))).trans e1⟩
  ·by_cases hj:j=i
   ·subst hj
    rw[hi]at e1;cases e1
    rw[List.getElem?_set_self hiσ]at e2
    cases e2
    exact⟨u,r,.inl ⟨hk,by simp⟩⟩
   ·rw[List.getElem?_set_ne (Ne.symm hj)]at e2
    obtain⟨u',r',q⟩:=hl j y v' e1 e2 e3
    refine⟨u',r',?_⟩
    rcases q with⟨k,e⟩|⟨k,c,e,z⟩
    ·refine .inl ⟨k,?_⟩
     have:y≠x:=fun e=>hj (nodup_ix hN e1 (e ▸ hi))
     simp[this,e]
    ·exact .inr ⟨k,c,e,z.sameBut hs (cne y c e)⟩
  ·obtain⟨w',z⟩:=I.cell y c e
   exact⟨w',z.sameBut hs (cne y c e)⟩
  ·obtain⟨e,n,ne,nf,d⟩:=I.pin p hp
   exact⟨(hs.2 p.1 ne).trans e,n,ne,nf,d⟩
 ·have hfn:X.fn x=true:=by
   rcases hf with z|z
   ·exact z
   ·rw[z]at hk;cases hk
  obtain⟨c,hc⟩:=I.ok.has x (.inl hk)
  obtain⟨w',z⟩:=I.cell x c hc
  refine wpAny_storeName_cell I.ok.kind hk hc z (fun h' hc' hs=>?_)
  obtain⟨oc,hoc,hocd⟩:=id z
  refine h { s with heap:=h' } ⟨I.ok,I.os,I.bare,⟨fun b o e n hb hx=>?_,fun b o e n hb hx=>?_,I.base.free,fun b o e hx=>?_,I.base.tups,I.base.frzs,I.base.tbls⟩,⟨m,hn.sameBut hs (Ne.symm (cne x c hc)),fun j y v' e1 e2 e3=>?_⟩,fun y c' e=>?_,I.free,I.freeC,fun p hp=>?_,tracked ⟨oc,hoc,I.freeC x c hc⟩ hs,by simpa using I.len⟩ ⟨c,hs,.inr hc⟩
  ·exact(hs.2 b (Nat.ne_of_lt (Nat.lt_of_lt_of_le (Heap.lt_size e) (I.ok.cab x c hfn hc)))).trans (I.base.keep b o e n hb hx)
  ·obtain⟨sl,e1⟩:=I.base.slot b o e n hb hx
   exact⟨sl,(hs.2 b (Nat.ne_of_lt (Nat.lt_of_lt_of_le (Heap.lt_size e) (I.ok.cab x c hfn hc)))).trans e1⟩
  ·obtain⟨o',e1⟩:=I.base.there b o e hx
   exact⟨o',(hs.2 b (Nat.ne_of_lt (Nat.lt_of_lt_of_le (Heap.lt_size e) (I.ok.cab x c hfn hc)))).trans e1⟩
  ·by_cases hj:j=i
   ·subst hj
    rw[hi]at e1;cases e1
    rw[List.getElem?_set_self hiσ]at e2
    cases e2
    exact⟨u,r,.inr ⟨.inl hk,c,hc,hc'⟩⟩
   ·rw[List.getElem?_set_ne (Ne.symm hj)]at e2
    obtain⟨u',r',q⟩:=hl j y v' e1 e2 e3
    refine⟨u',r',?_⟩
    rcases q with q|⟨k,c',e,z'⟩
    ·exact .inl q
    ·refine .inr ⟨k,c',e,z'.sameBut hs ?_⟩
     rintro rfl
     exact hj (nodup_ix hN e1 (I.ok.inj _ _ _ e hc ▸ hi))
  ·by_cases hcc:c'=c
   ·subst hcc;exact⟨_,hc'⟩
   ·obtain⟨w2,z2⟩:=I.cell y c' e
    exact⟨w2,z2.sameBut hs hcc⟩
  ·obtain⟨e,n,ne,nf,d⟩:=I.pin p hp
   refine⟨(hs.2 p.1 ?_).trans e,n,ne,nf,d⟩
   intro q
   rw[q,hoc]at e
   have q':oc=p.2:=Option.some.inj e
   exact d w' (by rw[← q'];exact hocd)
theorem store_ok {M:Model}{A:Around}{E:Value→Shared→Prop}{i:Nat}{x:Str}{v:V}{u:Value}{Q:Unit→Shared→Prop}(I:Inv X pins σ H s) (hN:X.N.Nodup) (hi:X.N[i]? = some x) (hx:Loc X.env.scope x) (r:RelV v u)
  (h:∀s',Inv X pins (σ.set i (some v)) H s'→Q () s') (hf:X.fn x=true∨X.env.scope.names.lookup x=some .local:=by first|exact .inl rfl|exact .inr rfl|assumption):wpAny M A (storeName X.env x u) Q E s :=
 store_ok2 I hN hi hx r (fun s' I' _=>h s' I') hf
theorem Inv.call' {s':Shared}{ch:List Addr}(I:Inv X pins σ H s) (ho:s'.os=s.os) (u:Un (frs X.stack) ch H H' s.heap s'.heap) (hok:HOk X.prog X.w H' s'.heap) (hg:AllBare s'.gens)
  (hch:∀b∈ch,(b∈X.ex∨X.s₀.heap.objs.size≤b)∧b≠X.env.locals∧(∀x c,X.env.cells.lookup x=some c→c≠b)∧∀p∈X.pn++pins,p.1≠b):Inv X pins σ H' s':=by
 obtain⟨h',g',d',t',o'⟩:=s'
 have e:o'=s.os:=ho
 subst e
 exact I.call (g':=g') (t':=t') (d':=d') u hok hg hch
end
abbrev XK:=Value→Option Addr→Hp→Prop
abbrev St:=List (Option V)
abbrev VK:=V→Hp→Prop
abbrev TE:=St→Hp→VK→Prop
abbrev TT:=St→Hp→(Bool→Hp→Prop)→Prop
abbrev TA:=St→Hp→(List V→Hp→Prop)→Prop
structure Ends where
 nx:St→Hp→Prop
 rt:VK
 bk:St→Hp→Prop:=fun _ _=>False
 ct:St→Hp→Prop:=fun _ _=>False
abbrev TS:=Ends→St→Hp→Prop
def EP (X:Cx) (pins:List (Addr×Obj)) (σ:St) (Q:VK) (u:Value) (s':Shared):Prop:=∃v H',Inv X pins σ H' s'∧RelV v u∧Q v H'
def TP (X:Cx) (pins:List (Addr×Obj)) (σ:St) (Q:Bool→Hp→Prop) (b:Bool) (s':Shared):Prop:=∃H',Inv X pins σ H' s'∧Q b H'
def AP (X:Cx) (pins:List (Addr×Obj)) (σ:St) (Q:List V→Hp→Prop) (us:List Value) (s':Shared):Prop:=∃vs H',Inv X pins σ H' s'∧Vals vs us∧Q vs H'
def SP (X:Cx) (pins:List (Addr×Obj)) (D:Ends) (f:Flow) (s':Shared):Prop :=
 match f with
 | .next=>∃σ' H',Inv X pins σ' H' s'∧D.nx σ' H'
 | .brk=>∃σ' H',Inv X pins σ' H' s'∧D.bk σ' H'
 | .cont=>∃σ' H',Inv X pins σ' H' s'∧D.ct σ' H'
 | .ret u=>∃v σ' H',Inv X pins σ' H' s'∧RelV v u∧D.rt v H'
def PE (X:Cx) (e:Expr) (t:TE):Prop :=
 ∀(pins:List (Addr×Obj)) (s:Shared) (σ:St) (H:Hp) (Q:VK),Inv X pins σ H s→t σ H Q→wpAny (model X.prog X.w) X.A (eval e X.env) (EP X pins σ Q) X.xe s
def PT (X:Cx) (e:Expr) (t:TT):Prop :=
 ∀(pins:List (Addr×Obj)) (s:Shared) (σ:St) (H:Hp) (Q:Bool→Hp→Prop),Inv X pins σ H s→t σ H Q→wpAny (model X.prog X.w) X.A (isTrue e X.env (eval e X.env)) (TP X pins σ Q) X.xe s
def PW (X:Cx) (e:Expr) (t:TT):Prop :=
 ∀(whole:Sem Value) (pins:List (Addr×Obj)) (s:Shared) (σ:St) (H:Hp) (Q:Bool→Hp→Prop),Inv X pins σ H s→t σ H Q→wpAny (model X.prog X.w) X.A (isTrue e X.env whole) (TP X pins σ Q) X.xe s
theorem PW.pt {X:Cx}{e:Expr}{t:TT}(h:PW X e t):PT X e t:=h _
def PA (X:Cx) (es:List Expr) (t:TA):Prop :=
 ∀(pos:Pos) (pins:List (Addr×Obj)) (s:Shared) (σ:St) (H:Hp) (Q:List V→Hp→Prop),Inv X pins σ H s→t σ H Q→wpAny (model X.prog X.w) X.A (spliced (backTo pos (starEach es X.env))) (AP X pins σ Q) X.xe s
def PS (X:Cx) (st:Stmt) (t:TS):Prop :=
 ∀(pins:List (Addr×Obj)) (s:Shared) (σ:St) (H:Hp) (D:Ends),Inv X pins σ H s→t D σ H→wpAny (model X.prog X.w) X.A (exec st X.env) (SP X pins D) X.xe s
def PSs (X:Cx) (st:List Stmt) (t:TS):Prop :=
 ∀(pins:List (Addr×Obj)) (s:Shared) (σ:St) (H:Hp) (D:Ends),Inv X pins σ H s→t D σ H→wpAny (model X.prog X.w) X.A (execs st X.env) (SP X pins D) X.xe s
theorem thn {α:Type}{t:Sem α}{Q Q':α→Shared→Prop}{M:Model}{A:Around}{E:Value→Shared→Prop}{s:Shared}(h:wpAny M A t Q E s) (hQ:∀a s,Q a s→Q' a s):wpAny M A t Q' E s:=wpAny_mono h hQ fun _ _ x=>x
end L2
namespace L2
open PySem PySem.Spec PyProof.Rows
section
variable {X:Cx}
theorem bin {a b:Expr}{ta tb:TE}(ha:PE X a ta) (hb:PE X b tb) {pins:List (Addr×Obj)}{s:Shared}{σ:St}{H:Hp}{R:V→V→Hp→Prop}(I:Inv X pins σ H s) (h:ta σ H fun x H1=>tb σ H1 fun y H2=>R x y H2)
  {α:Type}{Q:α→Shared→Prop}{f:Value→Value→Sem α}
  (hf:∀v u s2 x y H2,Inv X pins σ H2 s2→RelV x v→RelV y u→R x y H2→wpAny (model X.prog X.w) X.A (f v u) Q X.xe s2) :
  wpAny (model X.prog X.w) X.A (eval a X.env) (fun v s₁=>wpAny (model X.prog X.w) X.A (eval b X.env) (fun u s₂=>wpAny (model X.prog X.w) X.A (f v u) Q X.xe s₂) X.xe s₁) X.xe s:=by
 refine thn (ha pins s σ H _ I h) fun v s1 ⟨x,H1,I1,r1,q1⟩=>?_
 refine thn (hb pins s1 σ H1 _ I1 q1) fun u s2 ⟨y,H2,I2,r2,q2⟩=>?_
 exact hf v u s2 x y H2 I2 r1 r2 q2
def tVar (i:Nat):TE:=fun σ H Q=>∃v,σ[i]? = some (some v)∧Q v H
def tC (v:V):TE:=fun _ H Q=>Q v H
theorem pe_var {i:Nat}{x:Str}{pos:Pos}(hN:X.N[i]? = some x) (hv:Vis X.env.scope x) (hd:(x ==("__debug__" : Str))=false:=by decide) (hcd:(x ==("__classdict__" : Str))=false:=by decide):PE X (.Name x pos) (tVar i):=by
 intro pins s σ H Q I h
 obtain⟨v,e,h⟩:=h
 obtain⟨m,hn,hl⟩:=I.loc
 obtain⟨u,r,l⟩:=hl i x v hN e hv
 have fin:EP X pins σ Q u s:=⟨v,H,I,r,h⟩
 rcases l with⟨hk,hm⟩|⟨hk,c,hc,hcell⟩
 ·exact wpAny_Name (wpAny_loadName_local I.ok.kind hk hn hm fin) hd
 ·rcases hk with hk|hk
  ·exact wpAny_Name (wpAny_loadName_cell I.ok.kind hk hc hcell fin) hd
  ·exact wpAny_Name (wpAny_loadName_free I.ok.kind hk hc hcell fin hcd) hd
theorem pe_int {i j pos}:PE X (.Constant (.int i) j pos) (tC (.int i)):=fun _ _ _ H _ I h=>wpAny_Constant_int ⟨.int i,H,I.tok _,⟨_,rfl⟩,h⟩
theorem pe_bl {b j pos}:PE X (.Constant (.bool b) j pos) (tC (.bl b)):=fun _ _ _ H _ I h=>Constant_bool ⟨.bl b,H,I,rfl,h⟩
theorem pe_str {x j pos}:PE X (.Constant (.str x) j pos) (tC (.str x)):=fun _ _ _ H _ I h=>Calls.Constant_str ⟨.str x,H,I.tok _,⟨_,rfl⟩,h⟩
def Gl (X:Cx) (x:Str):Prop:=X.env.kindOf x=some .globalImplicit
theorem ld_glob {E:Value→Shared→Prop}{pins:List (Addr×Obj)}{s:Shared}{σ:St}{H:Hp}{x:Str}{u:Value}{pos:Pos}{Q:Value→Shared→Prop}(I:Inv X pins σ H s) (hg:Gl X x) (hm:X.mg x=some u) (h:Q u s)
  (hd:(x ==("__debug__" : Str))=false:=by decide):wpAny (model X.prog X.w) X.A (eval (.Name x pos) X.env) Q E s :=
 Calls.Name_function_global I.ok.kind hg (Calls.loadGlobal_global (by rw[I.ok.glob];exact I.mod.glob.keeps I.bk) hm h) hd
theorem ld_blt {E:Value→Shared→Prop}{pins:List (Addr×Obj)}{s:Shared}{σ:St}{H:Hp}{x:Str}{u:Value}{pos:Pos}{Q:Value→Shared→Prop}(I:Inv X pins σ H s) (hg:Gl X x) (hm:X.mg x=none) (hv:bootBuiltins x=some u) (h:Q u s)
  (hn:x ≠ "__name__" := by decide) (hd:(x ==("__debug__" : Str))=false:=by decide):wpAny (model X.prog X.w) X.A (eval (.Name x pos) X.env) Q E s:=by
 obtain⟨mb,h1,h2⟩:=I.mod.blt
 exact Calls.Name_function_global I.ok.kind hg (Calls.loadGlobal_builtin (by rw[I.ok.glob];exact I.mod.glob.keeps I.bk) hm (by rw[I.ok.blt];exact h1.keeps I.bk) ((h2 x hn).trans hv) h) hd
theorem pe_bltn {x:Str}{v:V}{u:Value}{pos:Pos}(hg:Gl X x) (hm:X.mg x=none) (hv:bootBuiltins x=some u) (r:RelV v u) (hn:x ≠ "__name__" := by decide) (hd:(x ==("__debug__" : Str))=false:=by decide):PE X (.Name x pos) (tC v) :=
 fun _ _ _ H _ I h=>ld_blt I hg hm hv ⟨v,H,I,r,h⟩ hn hd
variable {a b:Expr}{ta tb:TE}{pos:Pos}
def PC (X:Cx) (op:CmpOp) (a b:Expr) (t:TE):Prop :=
 ∀(pins:List (Addr×Obj)) (s:Shared) (σ:St) (H:Hp) (Q:VK),Inv X pins σ H s→t σ H Q →
  wpAny (model X.prog X.w) X.A (eval a X.env) (fun v s₁=>wpAny (model X.prog X.w) X.A (eval b X.env) (fun u s₂=>wpAny (model X.prog X.w) X.A (compareOp op v u) (EP X pins σ Q) X.xe s₂) X.xe s₁) X.xe s
def tB (t:TE):TT:=fun σ H Q=>t σ H fun x H1=>∃c,x = .bl c∧Q c H1
theorem pt_cmp {op:CmpOp}{t:TE}(h:PC X op a b t) (h1:behindInMarks op b=false:=by first|exact nobehind _ (by decide) (by decide)|rfl):PT X (.Compare a [op] [b] pos) (tB t):=by
 intro pins s σ H Q I hw
 refine wpAny_isTrue_Compare1 (thn (h pins s σ H _ I hw) fun v s1 h1=>thn h1 fun u s2 h2=>thn h2 fun c s3 ⟨x,H1,I1,r1,q1⟩=>?_) h1
 obtain⟨d,rfl,q⟩:=q1
 cases r1
 exact wpAny_truthy_bool ⟨H1,I1,q⟩
theorem pt_val {e:Expr}{t:TE}(h:PE X e t) (he:∀whole,isTrue e X.env whole =(do let v ← whole;standAt e.pos;holding [v] (truthy v)):=by intro _;rfl):PT X e (tB t):=by
 intro pins s σ H Q I hw
 refine isTrue_plain (thn (h pins s σ H _ I hw) fun v s1 ⟨x,H1,I1,r1,q1⟩=>?_) (he _)
 obtain⟨d,rfl,q⟩:=q1
 cases r1
 exact wpAny_truthy_bool ⟨H1,I1,q⟩
variable {tA tB':TT}{rest:List Expr}
def tAnd (t u:TT):TT:=fun σ H Q=>t σ H fun c H1=>if c=true then u σ H1 Q else Q false H1
def tOr (t u:TT):TT:=fun σ H Q=>t σ H fun c H1=>if c=true then Q true H1 else u σ H1 Q
def tNot (t:TT):TT:=fun σ H Q=>t σ H fun c H1=>Q (!c) H1
theorem pw_and1 (ha:PT X a tA):PW X (.BoolOp .And [a] pos) tA:=by
 intro wh pins s σ H Q I h
 refine isTrue_and (thn (ha pins s σ H Q I h) fun c s1 e=>?_)
 cases c with
 | true=>exact isTrue_and_nil e
 | false=>exact e
theorem pw_or1 (ha:PT X a tA):PW X (.BoolOp .Or [a] pos) tA:=by
 intro wh pins s σ H Q I h
 refine isTrue_or (thn (ha pins s σ H Q I h) fun c s1 e=>?_)
 cases c with
 | false=>exact isTrue_or_nil e
 | true=>exact e
theorem pw_and (ha:PT X a tA) (hb:PW X (.BoolOp .And (b::rest) pos) tB'):PW X (.BoolOp .And (a::b::rest) pos) (tAnd tA tB'):=by
 intro wh pins s σ H Q I h
 refine isTrue_and (thn (ha pins s σ H _ I h) fun c s1 ⟨H1,I1,q1⟩=>?_)
 cases c with
 | true=>exact hb wh pins s1 σ H1 Q I1 q1
 | false=>exact⟨H1,I1,q1⟩
theorem pw_or (ha:PT X a tA) (hb:PW X (.BoolOp .Or (b::rest) pos) tB'):PW X (.BoolOp .Or (a::b::rest) pos) (tOr tA tB'):=by
 intro wh pins s σ H Q I h
 refine isTrue_or (thn (ha pins s σ H _ I h) fun c s1 ⟨H1,I1,q1⟩=>?_)
 cases c with
 | true=>exact⟨H1,I1,q1⟩
 | false=>exact hb wh pins s1 σ H1 Q I1 q1
theorem pt_not (ha:PT X a tA):PT X (.UnaryOp .Not a pos) (tNot tA):=by
 intro pins s σ H Q I h
 exact isTrue_not (ha pins s σ H (fun c H1=>Q (!c) H1) I h)
def tAndV (ta tb:TE):TE:=fun σ H Q=>ta σ H fun x H1=>∃c,x = .bl c∧if c=true then tb σ H1 Q else Q (.bl false) H1
def tNotV (ta:TE):TE:=fun σ H Q=>ta σ H fun x H1=>∃c,x = .bl c∧Q (.bl (!c)) H1
theorem pe_one {op}{t:TE}(h:PE X a t):PE X (.BoolOp op [a] pos) t:=fun pins s σ H Q I hw=>BoolOp_one (h pins s σ H Q I hw)
theorem pe_and (ha:PE X a ta) (hb:PE X (.BoolOp .And (b::rest) pos) tb):PE X (.BoolOp .And (a::b::rest) pos) (tAndV ta tb):=by
 intro pins s σ H Q I h
 refine BoolOp_and (thn (ha pins s σ H _ I h) fun v s1 ⟨x,H1,I1,r1,q1⟩=>?_)
 obtain⟨c,rfl,q1⟩:=q1
 cases r1
 refine wpAny_truthy_bool ?_
 cases c with
 | true=>exact hb pins s1 σ H1 Q I1 q1
 | false=>exact⟨.bl false,H1,I1,rfl,q1⟩
theorem pe_not (ha:PE X a ta):PE X (.UnaryOp .Not a pos) (tNotV ta):=by
 intro pins s σ H Q I h
 refine UnaryOp_ (thn (ha pins s σ H _ I h) fun v s1 ⟨x,H1,I1,r1,q1⟩=>?_)
 obtain⟨c,rfl,q1⟩:=q1
 cases r1
 exact not_of (wpAny_truthy_bool ⟨.bl (!c),H1,I1,rfl,q1⟩)
def tIf (t:TT) (ta tb:TE):TE:=fun σ H Q=>t σ H fun c H1=>if c=true then ta σ H1 Q else tb σ H1 Q
theorem pe_ifExp {c:Expr}(hc:PT X c tA) (ha:PE X a ta) (hb:PE X b tb):PE X (.IfExp c a b pos) (tIf tA ta tb):=by
 intro pins s σ H Q I h
 refine wpAny_IfExp (thn (hc pins s σ H _ I h) fun d s1 ⟨H1,I1,q1⟩=>?_)
 cases d with
 | true=>exact ha pins s1 σ H1 Q I1 q1
 | false=>exact hb pins s1 σ H1 Q I1 q1
end
end L2
namespace L2
open PySem PySem.Spec PyProof.Rows
def SqL (K:PySem.W.Frag) (H:Hp) (a:Addr) (xs:List V):Prop :=
 Rd H a (.lst xs) ∨
  ∃(o:Obj) (its:Array Value) (n:Nat),K.lookup a=some o∧o.cls = .type "list"∧o.dict=none∧o.data = .seq its n∧its.size≤sizeLine∧Vals xs its.toList
def SqT (K:PySem.W.Frag) (H:Hp) (a:Addr) (xs:List V):Prop :=
 Rd H a (.tup xs) ∨
  ∃(o:Obj) (its:Array Value) (n:Nat),K.lookup a=some o∧o.cls = .type "tuple"∧o.data = .seq its n∧its.size≤sizeLine∧Vals xs its.toList
def absV:Value→Option V
 | .none=>some .non
 | .bool b=>some (.bl b)
 | .int i _=>some (.int i)
 | .str x _=>some (.str x)
 | .bytes b _=>some (.byt b)
 | .float b _=>some (.flt b)
 | .ref a=>some (.ref a)
 | .type n=>some (.ty n)
 | _=>none
theorem RelV.abs {x:V}{u:Value}(r:RelV x u):absV u=some x:=by
 cases x with
 | non=>cases r;rfl
 | bl _=>cases r;rfl
 | int _=>obtain⟨t,rfl⟩:=r;rfl
 | str _=>obtain⟨t,rfl⟩:=r;rfl
 | byt _=>obtain⟨t,rfl⟩:=r;rfl
 | flt _=>obtain⟨t,rfl⟩:=r;rfl
 | ref _=>cases r;rfl
 | ty _=>cases r;rfl
theorem RelV.inj {x y:V}{u:Value}(r:RelV x u) (q:RelV y u):x=y:=Option.some.inj (r.abs.symm.trans q.abs)
theorem Vals.inj:∀{xs ys:List V}{us:List Value},Vals xs us→Vals ys us→xs=ys
 | _,_,_,.nil,.nil=>rfl
 | _,_,_,.cons r t,.cons r' t'=>by rw[r.inj r',Vals.inj t t']
section
variable {X:Cx}{pins:List (Addr×Obj)}{σ:St}{H:Hp}{s:Shared}{a:Addr}{xs ys:List V}
theorem SqL.of {K:PySem.W.Frag}(h:H a=some (.lst xs)):SqL K H a xs:=.inl (.inl h)
theorem SqT.of {K:PySem.W.Frag}(h:H a=some (.tup xs)):SqT K H a xs:=.inl (.inl h)
theorem Inv.list (I:Inv X pins σ H s) (h:SqL X.K H a xs):∃its:List Value,Vals xs its∧PlainL s.heap a its.toArray∧xs.length≤sizeLine:=by
 rcases h with h|⟨o,its,n,hk,hc,hd,hs,hz,r⟩
 ·obtain⟨z,its,n,r,e⟩:=h.ok I.hok
  exact⟨its,r,⟨_,n,e,rfl,rfl,rfl⟩,z⟩
 ·refine⟨its.toList,r,⟨o,n,I.kIn a o hk,hc,hd,by simpa using hs⟩,?_⟩
  have e:=r.length
  simp only[Array.length_toList]at e
  omega
theorem Inv.tuple (I:Inv X pins σ H s) (h:SqT X.K H a xs):∃its:List Value,Vals xs its∧IsTup s.heap a its.toArray∧xs.length≤sizeLine:=by
 rcases h with h|⟨o,its,n,hk,hc,hs,hz,r⟩
 ·obtain⟨z,its,r,p⟩:=h.ok I.hok
  exact⟨its,r,p,z⟩
 ·refine⟨its.toList,r,⟨o,I.kIn a o hk,hc,n,by simpa using hs⟩,?_⟩
  have e:=r.length
  simp only[Array.length_toList]at e
  omega
theorem Inv.list_inj (I:Inv X pins σ H s) (h:SqL X.K H a xs) (h':SqL X.K H a ys):xs=ys:=by
 obtain⟨its,r,⟨o,n,e,_,_,d⟩,_⟩:=I.list h
 obtain⟨its',r',⟨o',n',e',_,_,d'⟩,_⟩:=I.list h'
 rw[e]at e';cases e'
 rw[d]at d'
 injection d' with d1 _
 have:its=its':=by simpa using congrArg Array.toList d1
 subst this
 exact r.inj r'
end
abbrev Cx.wish (X:Cx) (E:Value→Shared→Prop):Cx:={ X with xe:=E }
abbrev Cx.nox (X:Cx):Cx:=X.wish fun _ _=>False
theorem Cx.Ok.wish {X:Cx}(ok:X.Ok) (E:Value→Shared→Prop):(X.wish E).Ok :=
 ⟨ok.mod,ok.kind,ok.glob,ok.blt,ok.above,ok.inj,ok.has,ok.cab,ok.hd,ok.frames,ok.stk,ok.exf,ok.bs,ok.bsz,ok.noex,ok.exfs,ok.funs,ok.frf⟩
theorem Cx.Ok.unwish {X:Cx}{E:Value→Shared→Prop}(ok:(X.wish E).Ok):X.Ok :=
 ⟨ok.mod,ok.kind,ok.glob,ok.blt,ok.above,ok.inj,ok.has,ok.cab,ok.hd,ok.frames,ok.stk,ok.exf,ok.bs,ok.bsz,ok.noex,ok.exfs,ok.funs,ok.frf⟩
section
variable {X:Cx}{pins:List (Addr×Obj)}{σ:St}{H:Hp}{s:Shared}{E:Value→Shared→Prop}
theorem Inv.wish (I:Inv X pins σ H s) (E:Value→Shared→Prop):Inv (X.wish E) pins σ H s:=⟨I.ok.wish E,I.os,I.bare,I.base,I.loc,I.cell,I.free,I.freeC,I.pin,I.hok,I.len⟩
theorem Inv.unwish (I:Inv (X.wish E) pins σ H s):Inv X pins σ H s:=⟨I.ok.unwish,I.os,I.bare,I.base,I.loc,I.cell,I.free,I.freeC,I.pin,I.hok,I.len⟩
theorem SP.unwish {D:Ends}{f:Flow}{s':Shared}(h:SP (X.wish E) pins D f s'):SP X pins D f s':=by
 cases f with
 | next=>obtain⟨σ',H',I,q⟩:=h;exact⟨σ',H',I.unwish,q⟩
 | brk=>obtain⟨σ',H',I,q⟩:=h;exact⟨σ',H',I.unwish,q⟩
 | cont=>obtain⟨σ',H',I,q⟩:=h;exact⟨σ',H',I.unwish,q⟩
 | ret u=>obtain⟨v,σ',H',I,r,q⟩:=h;exact⟨v,σ',H',I.unwish,r,q⟩
theorem PSs.nox {st:List Stmt}{t:TS}(h:PSs X.nox st t):PSs X st t:=fun pins s σ H D I hw =>
 wpAny_mono (h pins s σ H D (I.wish _) hw) (fun _ _ q=>q.unwish) fun _ _ z=>False.elim z
end
section
variable {X:Cx}{st:Stmt}{rest:List Stmt}{t u:TS}{e:Expr}{te:TE}{pos:Pos}
def tNext:TS:=fun D σ H=>D.nx σ H
def tSeq (t u:TS):TS:=fun D σ H=>t { D with nx:=u D } σ H
theorem pss_nil:PSs X [] tNext:=fun _ _ σ H _ I h=>wpAny_execs_nil ⟨σ,H,I,h⟩
theorem pss_cons (h1:PS X st t) (h2:PSs X rest u):PSs X (st::rest) (tSeq t u):=by
 intro pins s σ H D I h
 refine wpAny_execs_cons (thn (h1 pins s σ H { D with nx:=u D } I h) fun f s1 q=>?_)
 cases f with
 | next =>
  obtain⟨σ',H',I',q⟩:=q
  exact h2 pins s1 σ' H' D I' q
 | ret v=>exact q
 | brk=>exact q
 | cont=>exact q
theorem pss_one (h1:PS X st t):PSs X [st] t:=by
 intro pins s σ H D I h
 refine wpAny_execs_cons (thn (h1 pins s σ H D I h) fun f s1 q=>?_)
 cases f with
 | next=>exact wpAny_execs_nil q
 | ret v=>exact q
 | brk=>exact q
 | cont=>exact q
theorem Inv.quiet {pins:List (Addr×Obj)}{σ:St}{H:Hp}{s:Shared}(I:Inv X pins σ H s):interactive X.env=false:=by simp[interactive,I.ok.kind]
def tDrop (te:TE):TS:=fun D σ H=>te σ H fun _ H1=>D.nx σ H1
theorem ps_expr (he:PE X e te) (hs:swapsWith e none pos.line X.env=pure false:=by rfl):PS X (.Expr e pos) (tDrop te):=by
 intro pins s σ H D I h
 exact wpAny_Expr_any (thn (he pins s σ H _ I h) fun v s1 ⟨x,H1,I1,r1,q1⟩=>⟨σ,H1,I1,q1⟩) I.quiet hs
def tRet (te:TE):TS:=fun D σ H=>te σ H D.rt
theorem ps_ret (he:PE X e te):PS X (.Return (some e) pos) (tRet te):=by
 intro pins s σ H D I h
 exact wpAny_Return_some (thn (he pins s σ H _ I h) fun v s1 ⟨x,H1,I1,r1,q1⟩=>⟨x,σ,H1,I1,r1,q1⟩)
def tIfS (c:TT) (t u:TS):TS:=fun D σ H=>c σ H fun b H1=>if b=true then t D σ H1 else u D σ H1
theorem ps_if {c:Expr}{a b:List Stmt}{tc:TT}(hc:PT X c tc) (ha:PSs X a t) (hb:PSs X b u):PS X (.If c a b pos) (tIfS tc t u):=by
 intro pins s σ H D I h
 refine wpAny_If (thn (hc pins s σ H _ I h) fun d s1 ⟨H1,I1,q1⟩=>?_)
 cases d with
 | true=>exact ha pins s1 σ H1 D I1 q1
 | false=>exact hb pins s1 σ H1 D I1 q1
end
abbrev TG:=V→St→Hp→(St→Hp→Prop)→Prop
abbrev TGs:=List V→St→Hp→(St→Hp→Prop)→Prop
def PG (X:Cx) (target:Expr) (t:TG):Prop :=
 ∀(pins:List (Addr×Obj)) (s:Shared) (σ:St) (H:Hp) (v:V) (u:Value) (Q:St→Hp→Prop),Inv X pins σ H s→RelV v u→t v σ H Q →
  wpAny (model X.prog X.w) X.A (assign target X.env u) (fun _ s'=>∃σ' H',Inv X pins σ' H' s'∧Q σ' H') X.xe s
def PGs (X:Cx) (ts:List Expr) (t:TGs):Prop :=
 ∀(pins:List (Addr×Obj)) (s:Shared) (σ:St) (H:Hp) (vs:List V) (us:List Value) (Q:St→Hp→Prop),Inv X pins σ H s→Vals vs us→t vs σ H Q →
  wpAny (model X.prog X.w) X.A (assignInOrder ((assignEach ts X.env).map (·.2)) us) (fun _ s'=>∃σ' H',Inv X pins σ' H' s'∧Q σ' H') X.xe s
abbrev TSet:=V→V→V→Hp→(Hp→Prop)→Prop
def PSet (X:Cx) (t:TSet):Prop :=
 ∀(pins:List (Addr×Obj)) (s:Shared) (σ:St) (H:Hp) (o i v:V) (ov iv u:Value) (Q:Hp→Prop),Inv X pins σ H s→RelV o ov→RelV i iv→RelV v u→t o i v H Q →
  wpAny (model X.prog X.w) X.A (setItem ov iv u) (fun _ s'=>∃H',Inv X pins σ H' s'∧Q H') X.xe s
abbrev TIp:=V→V→Hp→VK→Prop
def PIp (X:Cx) (op:Operator) (t:TIp):Prop :=
 ∀(pins:List (Addr×Obj)) (s:Shared) (σ:St) (H:Hp) (x y:V) (v u:Value) (Q:VK),Inv X pins σ H s→RelV x v→RelV y u→t x y H Q →
  wpAny (model X.prog X.w) X.A (inplaceOp op v u) (EP X pins σ Q) X.xe s
section
variable {X:Cx}{pos:Pos}
def gName (i:Nat):TG:=fun v σ H Q=>Q (σ.set i (some v)) H
theorem pg_name {i:Nat}{x:Str}(hN:X.N.Nodup) (hi:X.N[i]? = some x) (hx:Loc X.env.scope x) (hf:X.fn x=true∨X.env.scope.names.lookup x=some .local:=by first|exact .inl rfl|exact .inr rfl|assumption):PG X (.Name x pos) (gName i):=by
 intro pins s σ H v u Q I r h
 exact wpAny_assign_Name (store_ok I hN hi hx r (fun s' I'=>⟨_,H,I',h⟩) hf)
def gNil:TGs:=fun vs σ H Q=>vs=[]∧Q σ H
def gCons (t:TG) (u:TGs):TGs:=fun vs σ H Q=>∃v r,vs=v::r∧t v σ H fun σ' H'=>u r σ' H' Q
theorem pgs_nil:PGs X [] gNil:=by
 intro pins s σ H vs us Q I r h
 obtain⟨e,h⟩:=h
 subst e
 cases r
 exact assignInOrder_nil ⟨σ,H,I,h⟩
theorem pgs_cons {e:Expr}{es:List Expr}{t:TG}{u:TGs}(h1:PG X e t) (h2:PGs X es u)
  (hs:(assignEach (e::es) X.env).map (·.2)=assign e X.env::(assignEach es X.env).map (·.2):=by rfl):PGs X (e::es) (gCons t u):=by
 intro pins s σ H vs us Q I r h
 obtain⟨v,vr,e1,h⟩:=h
 subst e1
 cases r with
 | cons r rr =>
  rw[hs]
  refine assignInOrder_cons (thn (h1 pins s σ H _ _ _ I r h) fun _ s1 ⟨σ1,H1,I1,q1⟩=>?_)
  exact h2 pins s1 σ1 H1 _ _ Q I1 rr q1
def gTup (K:PySem.W.Frag) (n:Nat) (t:TGs):TG:=fun v σ H Q=>∃a xs,v = .ref a∧SqT K H a xs∧xs.length=n∧t xs σ H Q
theorem pg_tup {es:List Expr}{k:Nat}{t:TGs}{n:Nat}(hc:X.calm=true) (h:PGs X es t)
  (hn:(assignEach es X.env).length=n:=by rfl) (hst:(assignEach es X.env).findIdx? (·.1)=none:=by rfl):PG X (.Tuple es k pos) (gTup X.K n t):=by
 intro pins s σ H v u Q I r hw
 obtain⟨a,xs,e1,hq,hl,hw⟩:=hw
 subst e1
 cases r
 obtain⟨its,rv,ht,hz⟩:=I.tuple hq
 refine assign_Tuple_tuple (I.ok.hd hc) ht (by simp[hn,← hl,rv.length]) hst fun h' hx=>?_
 have I1:Inv X pins σ H { s with heap:=h' }:=I.kept (t':=s.toks) fun b o e=>hx b o (Nat.ne_of_lt (Heap.lt_size e)) e
 exact h pins _ σ H xs _ Q I1 (by simpa using rv) hw
def gSub (to ti:TE) (t:TSet):TG:=fun v σ H Q=>to σ H fun o H1=>ti σ H1 fun i H2=>t o i v H2 fun H3=>Q σ H3
theorem pg_sub {o i:Expr}{to ti:TE}{t:TSet}(ho:PE X o to) (hi:PE X i ti) (hs:PSet X t)
  (ha:∀v,assign (.Subscript o i pos) X.env v =(do
   let ov ← holding [v] (eval o X.env)
   let iv ← holding [v,ov] (eval i X.env)
   standAt pos
   holding [v,ov,iv] (setItem ov iv v)
   release [v,ov,iv] []):=by intro _;rfl):PG X (.Subscript o i pos) (gSub to ti t):=by
 intro pins s σ H v u Q I r h
 rw[ha]
 refine wpAny_bind (wpAny_holding (thn (ho pins s σ H _ I h) fun ov s1 ⟨x,H1,I1,r1,q1⟩=>?_))
 refine wpAny_bind (wpAny_holding (thn (hi pins s1 σ H1 _ I1 q1) fun iv s2 ⟨y,H2,I2,r2,q2⟩=>?_))
 refine wpAny_bind (wpAny_standAt (wpAny_bind (wpAny_holding (thn (hs pins s2 σ H2 x y v ov iv u _ I2 r1 r2 r q2) fun _ s3 ⟨H3,I3,q3⟩=>?_))))
 exact wpAny_release ⟨σ,H3,I3,q3⟩
def tAsg (te:TE) (g:TG):TS:=fun D σ H=>te σ H fun x H1=>g x σ H1 D.nx
theorem ps_asg {tg e:Expr}{te:TE}{g:TG}(he:PE X e te) (hg:PG X tg g) (hs:swapsWithSole [tg] e pos.line X.env=pure false:=by rfl) (hw:swappedStores [tg] e X.env=pure none:=by rfl)
  (h1:(assignEach [tg] X.env).map (·.2)=[assign tg X.env]:=by rfl):PS X (.Assign [tg] e pos) (tAsg te g):=by
 intro pins s σ H D I h
 refine wpAny_Assign_stores (thn (he pins s σ H _ I h) fun v s1 ⟨x,H1,I1,r1,q1⟩=>?_) hs hw
 rw[h1]
 exact thn (hg pins s1 σ H1 x v _ I1 r1 q1) fun _ s2 q=>q
theorem ps_set {i:Nat}{x:Str}{e:Expr}{te:TE}{pos':Pos}(hN:X.N.Nodup) (hi:X.N[i]? = some x) (hx:Loc X.env.scope x) (he:PE X e te) (hs:swapsWith e (some (.Name x pos')) pos.line X.env=pure false:=by rfl) (hf:X.fn x=true∨X.env.scope.names.lookup x=some .local:=by first|exact .inl rfl|exact .inr rfl|assumption) :
  PS X (.Assign [.Name x pos'] e pos) (tAsg te (gName i)):=by
 intro pins s σ H D I h
 refine wpAny_Assign_Name (thn (he pins s σ H _ I h) fun v s1 ⟨y,H1,I1,r1,q1⟩=>?_) hs
 exact store_ok I1 hN hi hx r1 (fun s2 I2=>⟨_,H1,I2,q1⟩) hf
def tAug (i:Nat) (te:TE) (ti:TIp):TS:=fun D σ H=>∃x,σ[i]? = some (some x)∧te σ H fun y H1=>ti x y H1 fun z H2=>D.nx (σ.set i (some z)) H2
theorem ps_aug {i:Nat}{x:Str}{e:Expr}{te:TE}{op:Operator}{ti:TIp}{pos':Pos}(hN:X.N.Nodup) (hi:X.N[i]? = some x) (hx:Loc X.env.scope x) (he:PE X e te) (ho:PIp X op ti) (hf:X.fn x=true∨X.env.scope.names.lookup x=some .local:=by first|exact .inl rfl|exact .inr rfl|assumption) :
  PS X (.AugAssign (.Name x pos') op e pos) (tAug i te ti):=by
 intro pins s σ H D I h
 obtain⟨v,e1,h⟩:=h
 obtain⟨m,hn,hl⟩:=I.loc
 have vis:Vis X.env.scope x:=by rcases hx with k|k;exact .inl k;exact .inr (.inl k)
 obtain⟨u,r,l⟩:=hl i x v hi e1 vis
 refine wpAny_AugAssign_Name ?_
 have go:wpAny (model X.prog X.w) X.A (eval e X.env) (fun w s₂=>wpAny (model X.prog X.w) X.A (inplaceOp op u w) (fun r s₃=>wpAny (model X.prog X.w) X.A (storeName X.env x r) (fun _=>SP X pins D .next) X.xe s₃) X.xe s₂) X.xe s:=by
  refine thn (he pins s σ H _ I h) fun w s1 ⟨y,H1,I1,r1,q1⟩=>?_
  refine thn (ho pins s1 σ H1 v y u w _ I1 r r1 q1) fun z s2 ⟨zv,H2,I2,r2,q2⟩=>?_
  exact store_ok I2 hN hi hx r2 (fun s3 I3=>⟨_,H2,I3,q2⟩) hf
 rcases l with⟨hk,hm⟩|⟨hk,c,hc,hcell⟩
 ·exact wpAny_loadName_local I.ok.kind hk hn hm go
 ·rcases hk with hk|hk
  ·exact wpAny_loadName_cell I.ok.kind hk hc hcell go
  ·rcases hx with k|k
   ·have:X.env.scope.names.lookup x=some .free:=hk
    rw[k]at this;cases this
   ·have:X.env.scope.names.lookup x=some .free:=hk
    rw[k]at this;cases this
def tAugS (to ti te:TE) (tget:V→V→Hp→VK→Prop) (tip:TIp) (tset:TSet):TS:=fun D σ H=>to σ H fun o H1=>ti σ H1 fun i H2=>tget o i H2 fun x H3=>te σ H3 fun y H4=>tip x y H4 fun z H5=>tset o i z H5 fun H6=>D.nx σ H6
def PGet (X:Cx) (t:V→V→Hp→VK→Prop):Prop :=
 ∀(pins:List (Addr×Obj)) (s:Shared) (σ:St) (H:Hp) (o i:V) (ov iv:Value) (Q:VK),Inv X pins σ H s→RelV o ov→RelV i iv→t o i H Q →
  wpAny (model X.prog X.w) X.A (getItem ov iv) (EP X pins σ Q) X.xe s
theorem ps_augS {o i e:Expr}{to ti te:TE}{tget:V→V→Hp→VK→Prop}{tip:TIp}{tset:TSet}{op:Operator}{tpos:Pos}(ho:PE X o to) (hi:PE X i ti) (hg:PGet X tget) (he:PE X e te) (hp:PIp X op tip) (hs:PSet X tset)
  (ha:∀ov iv new,augStore i ov iv new =(do holding [new,ov,iv] (setItem ov iv new);release [new,ov,iv] [];pure .next):=by intros;rfl):PS X (.AugAssign (.Subscript o i tpos) op e pos) (tAugS to ti te tget tip tset):=by
 intro pins s σ H D I h
 refine wpAny_AugAssign_SubscriptAny (thn (ho pins s σ H _ I h) fun ov s1 ⟨x1,H1,I1,r1,q1⟩=>?_) ha
 refine thn (hi pins s1 σ H1 _ I1 q1) fun iv s2 ⟨x2,H2,I2,r2,q2⟩=>?_
 refine thn (hg pins s2 σ H2 x1 x2 ov iv _ I2 r1 r2 q2) fun old s3 ⟨x3,H3,I3,r3,q3⟩=>?_
 refine thn (he pins s3 σ H3 _ I3 q3) fun v s4 ⟨x4,H4,I4,r4,q4⟩=>?_
 refine thn (hp pins s4 σ H4 x3 x4 old v _ I4 r3 r4 q4) fun new s5 ⟨x5,H5,I5,r5,q5⟩=>?_
 exact thn (hs pins s5 σ H5 x1 x2 x5 ov iv new _ I5 r1 r2 r5 q5) fun _ s6 ⟨H6,I6,q6⟩=>⟨σ,H6,I6,q6⟩
def ipI (f:Int→Int→Int):TIp:=fun x y H Q=>∃i j,x = .int i∧y = .int j∧Q (.int (f i j)) H
theorem ip_add:PIp X .Add (ipI fun i j=>i+j):=by
 intro pins s σ H x y v u Q I r1 r2 h
 obtain⟨i,j,e1,e2,q⟩:=h
 subst e1;subst e2
 obtain⟨t,rfl⟩:=r1
 obtain⟨t',rfl⟩:=r2
 exact iadd_int ⟨.int _,H,I.tok _,⟨_,rfl⟩,q⟩
end
section
variable {X:Cx}{pos:Pos}
def tWhile (c:TT) (tb:TS):TS:=fun D σ H=>∃W:Nat→St→Hp→Prop,(∃m,W m σ H)∧∀m σ H,W m σ H →
 c σ H fun b H1=>if b=true then ∃N:St→Hp→Prop,(∀σ' H',N σ' H'→∃m',m'<m∧W m' σ' H')∧tb { D with nx:=N,ct:=N,bk:=D.nx } σ H1 else D.nx σ H1
theorem ps_while {c:Expr}{body:List Stmt}{tc:TT}{tb:TS}(hp:PassesOwn (model X.prog X.w) X.A X.env X.xe) (hc:PT X c tc) (hb:PSs X body tb):PS X (.While c body [] pos) (tWhile tc tb):=by
 intro pins s σ H D I h
 obtain⟨W,⟨m0,w0⟩,turn⟩:=h
 refine wpAny_While (codeAny_whileLoop (fun n s'=>∃σ' H',Inv X pins σ' H' s'∧W n σ' H') ?_ m0 ⟨σ,H,I,w0⟩)
 rintro n s1 ⟨σ1,H1,I1,w1⟩
 refine wpAny_passesOwn hp (thn (hc pins s1 σ1 H1 _ I1 (turn n σ1 H1 w1)) fun b s2 ⟨H2,I2,q2⟩=>?_)
 cases b with
 | true =>
  obtain⟨N,hN,q2⟩:=q2
  rw[if_pos rfl]
  refine wpAny_passesOwn hp (thn (hb pins s2 σ1 H2 _ I2 q2) fun f s3 q3=>?_)
  cases f with
  | next =>
   obtain⟨σ3,H3,I3,n3⟩:=q3
   obtain⟨m',hm,w3⟩:=hN σ3 H3 n3
   exact⟨m',hm,σ3,H3,I3,w3⟩
  | cont =>
   obtain⟨σ3,H3,I3,n3⟩:=q3
   obtain⟨m',hm,w3⟩:=hN σ3 H3 n3
   exact⟨m',hm,σ3,H3,I3,w3⟩
  | brk=>exact q3
  | ret v=>exact q3
 | false =>
  rw[if_neg Bool.false_ne_true]
  exact wpAny_execs_nil ⟨σ1,H2,I2,q2⟩
end
structure It where
 go:Nat→Hp→Prop
 yld:Nat→Hp→V→Hp→Prop
 stop:Nat→Hp→Prop
def FpOk (X:Cx) (pins:List (Addr×Obj)) (H:Hp) (b:Addr):Prop :=
 H b=none∧b≠X.env.locals∧b∉X.fs∧(b∈X.ex∨X.s₀.heap.objs.size≤b)∧(∀x c,X.env.cells.lookup x=some c→c≠b)∧∀p∈X.pn++pins,p.1≠b
theorem Inv.fpOk {X:Cx}{pins:List (Addr×Obj)}{σ:St}{H H':Hp}{s:Shared}{b:Addr}(I:Inv X pins σ H s) (hb:s.heap.objs.size≤b) (hn:H' b=none):FpOk X pins H' b:=by
 refine⟨hn,Nat.ne_of_gt (Nat.lt_of_lt_of_le I.lt hb),I.nofs hb,.inr (Nat.le_trans I.sz hb),fun x c e z=>?_,fun p hp z=>?_⟩
 ·obtain⟨v,q⟩:=I.cell x c e
  exact absurd (Nat.lt_of_lt_of_le q.lt (by rw[z];exact hb)) (Nat.lt_irrefl _)
 ·exact absurd (Nat.lt_of_lt_of_le (Heap.lt_size (I.pin p hp).1) (by rw[z];exact hb)) (Nat.lt_irrefl _)
structure Turn (P:Program) (w:World) (K:PySem.W.Frag) (tg:Expr) (J:It) (fp:List Addr) (it:Addr) (tn:Nat→Heap→Prop):Prop where
 mem:it∈fp
 obj:∀i h,tn i h→∀b∈fp,∃o,h.get? b=some o∧∀v,o.data ≠ .cell v
 keep:∀i h h',tn i h→(∀b∈fp,∀o,h.get? b=some o→h'.get? b=some o)→tn i h'
 item:∀(X:Cx),X.prog=P→X.w=w→X.K=K→X.calm=true→∀(i:Nat) (pins:List (Addr×Obj)) (s:Shared) (σ:St) (H:Hp) (E:Value→Shared→Prop),Inv X pins σ H s→(∀b∈fp,FpOk X pins H b)→tn i s.heap→J.go i H →
  wpAny (model P w) X.A (pyNext (.ref it)) (fun r s1=>∃u,r=some u ∧
   wpAny (model P w) X.A (letOwnedTupleGo tg (.ref it) u) (fun _ s2=>∃x H',Inv X pins σ H' s2∧RelV x u∧J.yld i H x H'∧tn (i+1) s2.heap∧∀b∈fp,H' b=none) E s1) E s
 done:∀(X:Cx),X.prog=P→X.w=w→X.K=K→X.calm=true→∀(i:Nat) (pins:List (Addr×Obj)) (s:Shared) (σ:St) (H:Hp) (E:Value→Shared→Prop),Inv X pins σ H s→(∀b∈fp,FpOk X pins H b)→tn i s.heap→J.stop i H →
  wpAny (model P w) X.A (pyNext (.ref it)) (fun r s1=>r=none∧Inv X pins σ H s1) E s
 self:∀(A:Around) (i:Nat) (s:Shared) (Q:Value→Shared→Prop) (E:Value→Shared→Prop),tn i s.heap→Q (.ref it) s→wpAny (model P w) A (pyIter (.ref it)) Q E s
abbrev TI:=St→Hp→(It→Hp→Prop)→Prop
def PIE (X:Cx) (pins:List (Addr×Obj)) (σ:St) (tg:Expr) (R:It→Hp→Prop) (itv:Value) (s2:Shared):Prop :=
 ∃(it:Addr) (fp:List Addr) (tn:Nat→Heap→Prop) (J:It) (H':Hp),itv = .ref it∧Inv X pins σ H' s2∧Turn X.prog X.w X.K tg J fp it tn∧tn 0 s2.heap∧(∀b∈fp,FpOk X pins H' b)∧R J H'
def PI (X:Cx) (tg iter:Expr) (wi:TI):Prop :=
 ∀(pins:List (Addr×Obj)) (s:Shared) (σ:St) (H:Hp) (R:It→Hp→Prop),Inv X pins σ H s→wi σ H R →
  wpAny (model X.prog X.w) X.A (eval iter X.env) (fun v s1=>wpAny (model X.prog X.w) X.A (pyIter v) (PIE X pins σ tg R) X.xe s1) X.xe s
theorem go_of {M:Model} {A:Around} {E:Value→Shared→Prop} {s:Shared} {tg:Expr} {it:Addr} {u:Value} {o:Obj} {n:String} {vs:Array Value} {Q:Unit→Shared→Prop} (ho:s.heap.get? it = some o) (hc:o.cls = .type n) (hd:o.data = .fields vs)
    (hn:["enumerate", "zip", "dict_itemiterator", "dict_reverseitemiterator", "odict_iterator", "itertools.zip_longest", "itertools.pairwise"].contains n = false) (hQ:Q () s) : wpAny M A (letOwnedTupleGo tg (.ref it) u) Q E s:=by
  unfold letOwnedTupleGo
  cases tg <;> first
    | exact wpAny_pure hQ
    | (cases u <;> first
        | exact wpAny_pure hQ
        | (refine wpAny_bind (wpAny_load ho ?_)
           rw [hc,hd]
           show wpAny M A (if (["enumerate", "zip", "dict_itemiterator", "dict_reverseitemiterator", "odict_iterator", "itertools.zip_longest", "itertools.pairwise"].contains n && vs[0]? == some (rawInt _)) = true then _ else _) Q E s
           rw [if_neg (by intro h; rw [hn,Bool.false_and] at h; cases h)]
           exact wpAny_pure hQ))
def Itl (K:PySem.W.Frag) (a:Addr):It :=
 ⟨fun i H=>∃xs x,SqL K H a xs∧xs[i]? = some x,fun i H x H'=>H'=H∧∀xs,SqL K H a xs→xs[i]? = some x,fun i H=>∃xs,SqL K H a xs∧xs.length≤i⟩
def Itr (lo:Int) (n:Nat):It:=⟨fun i _=>i<n,fun i H x H'=>H'=H∧x = .int (lo+i),fun i _=>n≤i⟩
theorem turn_list {P:Program}{w:World}{K:PySem.W.Frag}{tg:Expr}(a it:Addr):Turn P w K tg (Itl K a) [it] it (fun i h=>h.IsListIter it a i) where
 mem:=by simp
 obj:=fun i h st b hb=>by
  have e:b=it:=by simpa using hb
  subst e
  obtain⟨o,e,c,d⟩:=st
  exact⟨o,e,fun v z=>by rw[d]at z;cases z⟩
 keep:=fun i h h' st k=>st.at fun o e=>k it (by simp) o e
 item:=by
  intro X hP hw hK hc i pins s σ H E I hf st hg
  subst hP hw hK
  obtain⟨xs,x,hq,hx⟩:=hg
  obtain⟨its,rv,p,hz⟩:=I.list hq
  obtain⟨u,hu,ru⟩:=rv.get hx
  obtain⟨f0,f1,f2,f3,f4,f5⟩:=hf it (by simp)
  refine wpAny_pyNext_list_item st p.isList (x:=u) (by simpa using hu) fun h' st' sb=>?_
  have I1:Inv X pins σ H { s with heap:=h' }:=I.turned (t':=s.toks) (fun b o hb e=>(sb.2 b hb).trans e) f0 f1 f3 f4 f5
  obtain⟨o,e,c,d⟩:=id st'
  exact⟨u,rfl,go_of (s:={ s with heap:=h' }) e c d (by decide) ⟨x,H,I1,ru,⟨rfl,fun ys hy=>by rw[I.list_inj hy hq];exact hx⟩,st',fun b hb=>(hf b hb).1⟩⟩
 done:=by
  intro X hP hw hK hc i pins s σ H E I hf st hg
  subst hP hw hK
  obtain⟨xs,hq,hx⟩:=hg
  obtain⟨its,rv,p,hz⟩:=I.list hq
  obtain⟨f0,f1,f2,f3,f4,f5⟩:=hf it (by simp)
  have hl:=rv.length
  exact wpAny_pyNext_list_end (I.ok.hd hc) st p.isList (by simp;omega) fun h' eb=>⟨rfl,I.turned (t':=s.toks) (fun b o hb e=>eb b o hb e) f0 f1 f3 f4 f5⟩
 self:=fun _ _ _ _ _ st h=>wpAny_pyIter_listiter st h
theorem turn_range {P:Program}{w:World}{K:PySem.W.Frag}{tg:Expr}(it:Addr) (lo:Int) (n:Nat):Turn P w K tg (Itr lo n) [it] it (fun i h=>IsRangeIter h it (lo+(i:Nat)*1) ((n:Int)-(i:Nat)) 1) where
 mem:=by simp
 obj:=fun i h st b hb=>by
  have e:b=it:=by simpa using hb
  subst e
  exact⟨_,st,fun v z=>by
   have z':Data.fields _=Data.cell v:=z
   cases z'⟩
 keep:=fun i h h' st k=>k it (by simp) _ st
 item:=by
  intro X hP hw hK hc i pins s σ H E I hf st hg
  subst hP hw hK
  obtain⟨f0,f1,f2,f3,f4,f5⟩:=hf it (by simp)
  have W:=Walks.range (prog:=X.prog) (w:=X.w) (I.ok.hd hc) it lo 1 n
  refine W.item i s _ _ hg st fun v h' tk hv st' kk=>?_
  obtain⟨t,rfl⟩:=hv
  have I1:Inv X pins σ H { s with heap:=h',toks:=tk }:=I.turned (fun b o hb e=>kk b o (by simpa using hb) e) f0 f1 f3 f4 f5
  refine⟨_,rfl,go_of (s:={ s with heap:=h',toks:=tk }) (n := "range_iterator") st' rfl rfl (by decide) ⟨.int (lo+i),H,I1,⟨t,?_⟩,⟨rfl,rfl⟩,st',fun b hb=>(hf b hb).1⟩⟩
  rw[Int.mul_one]
 done:=by
  intro X hP hw hK hc i pins s σ H E I hf st hg
  subst hP hw hK
  obtain⟨f0,f1,f2,f3,f4,f5⟩:=hf it (by simp)
  exact wpAny_pyNext_range_end (I.ok.hd hc) st (by have:n≤i:=hg;omega) fun h' eb=>⟨rfl,I.turned (t':=s.toks) (fun b o hb e=>eb b o hb e) f0 f1 f3 f4 f5⟩
 self:=fun _ _ _ _ _ st h=>wpAny_pyIter_rangeiter st h
end L2
namespace L2
open PySem PySem.Spec PyProof.Rows
section
variable {X:Cx}{tg:Expr}
def iList (K:PySem.W.Frag) (tl:TE):TI:=fun σ H R=>tl σ H fun x H1=>∃a,x = .ref a∧(∃xs,SqL K H1 a xs)∧R (Itl K a) H1
theorem pi_list {l:Expr}{tl:TE}(hl:PE X l tl):PI X tg l (iList X.K tl):=by
 intro pins s σ H R I h
 refine thn (hl pins s σ H _ I h) fun v s1 ⟨x,H1,I1,r1,q1⟩=>?_
 obtain⟨a,e,⟨xs,hq⟩,q⟩:=q1
 subst e
 cases r1
 obtain⟨its,rv,p,hz⟩:=I1.list hq
 refine wpAny_pyIter_list p.isList ?_
 refine⟨s1.heap.objs.size,[s1.heap.objs.size],_,_,H1,rfl,I1.kept (t':=s1.toks) fun b o e=>Heap.get?_push_of_some _ e,turn_list a _,⟨_,Heap.get?_push_size _ rfl,rfl,rfl⟩,fun b hb=>?_,q⟩
 have e:b=s1.heap.objs.size:=by simpa using hb
 subst e
 exact I1.fpOk (Nat.le_refl _) (I1.hok.fresh (Nat.le_refl _))
theorem range_it {pins:List (Addr×Obj)}{σ:St}{H:Hp}{s:Shared}{R:It→Hp→Prop}{E:Value→Shared→Prop}{lo hi:Int}{t u v:Tok}{tk:Nat}(I:Inv X pins σ H s) (h1:-(2^62)≤lo) (h2:lo<2^62) (h3:-(2^62)≤hi) (h4:hi<2^62)
  (q:R (Itr lo (hi-lo).toNat) H):wpAny (model X.prog X.w) X.A (pyIter (.ref s.heap.objs.size)) (PIE X pins σ tg R) E { s with heap:=s.heap.push { cls:=.type "range",data:=.fields #[.int lo t,.int hi u,.int 1 v] },toks:=tk }:=by
 refine wpAny_pyIter_range (IsRange.new ..) (small_one h1 h2 h3 h4) ?_
 have I1:Inv X pins σ H { s with heap:=s.heap.push { cls:=.type "range",data:=.fields #[.int lo t,.int hi u,.int 1 v] },toks:=tk }:=I.kept fun b o e=>Heap.get?_push_of_some _ e
 refine⟨(s.heap.push { cls:=.type "range",data:=.fields #[.int lo t,.int hi u,.int 1 v] }).objs.size,[(s.heap.push { cls:=.type "range",data:=.fields #[.int lo t,.int hi u,.int 1 v] }).objs.size],_,_,H,rfl,
  I1.kept (t':=tk) fun b o e=>Heap.get?_push_of_some _ e,turn_range _ lo (hi-lo).toNat,?_,fun b hb=>?_,q⟩
 ·have e1:lo+((0:Nat):Int)*1=lo:=by simp
  have e2:(((hi-lo).toNat:Nat):Int)-((0:Nat):Int)=Builtin.Range.rangeSize lo hi 1:=by rw[rangeSize_one];split <;> omega
  show IsRangeIter _ _ (lo+((0:Nat):Int)*1) ((((hi-lo).toNat:Nat):Int)-((0:Nat):Int)) 1
  rw[e1,e2]
  exact Heap.get?_push_size _ rfl
 ·have e:b =(s.heap.push { cls:=.type "range",data:=.fields #[.int lo t,.int hi u,.int 1 v] }).objs.size:=by simpa using hb
  subst e
  exact I1.fpOk (Nat.le_refl _) (I1.hok.fresh (Nat.le_refl _))
def iRng1 (ta:TA):TI:=fun σ H R=>ta σ H fun vs H1=>∃j:Int,vs=[.int j]∧-(2^62)≤j∧j<2^62∧R (Itr 0 j.toNat) H1
def iRng2 (ta:TA):TI:=fun σ H R=>ta σ H fun vs H1=>∃i j:Int,vs=[.int i,.int j]∧(-(2^62)≤i∧i<2^62∧-(2^62)≤j∧j<2^62)∧R (Itr i (j-i).toNat) H1
theorem pi_range1 {a:Expr}{ta:TA}{p pos:Pos}(hg:Gl X "range") (hm:X.mg "range" = none) (ha:PA X [a] ta) (hs:starEach [a] X.env=[(false,eval a X.env)]:=by rfl):PI X tg (.Call (.Name "range" p) [a] [] pos) (iRng1 ta):=by
 intro pins s σ H R I h
 refine Call_ (ld_blt I hg hm boot_range (PyProof.Rows.callWith_type1 (thn (ha pos pins s σ H _ I h) fun us s1 ⟨vs,H1,I1,r1,q1⟩=>?_) hs rfl))
 obtain⟨j,e,q1,q2,q⟩:=q1
 subst e
 cases r1 with
 | cons r rr =>
  cases rr
  obtain⟨t,rfl⟩:=r
  exact call_range_1 (range_it I1 (by omega) (by omega) q1 q2 (by simpa using q))
theorem pi_range2 {a b:Expr}{ta:TA}{p pos:Pos}(hg:Gl X "range") (hm:X.mg "range" = none) (ha:PA X [a,b] ta) (hs:starEach [a,b] X.env=[(false,eval a X.env),(false,eval b X.env)]:=by rfl) (hs2:starEach [b] X.env=[(false,eval b X.env)]:=by rfl) :
  PI X tg (.Call (.Name "range" p) [a,b] [] pos) (iRng2 ta):=by
 intro pins s σ H R I h
 refine Call_ (ld_blt I hg hm boot_range (PyProof.Rows.callWith_type1 (thn (ha pos pins s σ H _ I h) fun us s1 ⟨vs,H1,I1,r1,q1⟩=>?_) (by rw[hs,hs2]) (by rw[hs2];rfl)))
 obtain⟨i,j,e,⟨q1,q2,q3,q4⟩,q⟩:=q1
 subst e
 cases r1 with
 | cons r rr =>
  cases rr with
  | cons r' rr =>
   cases rr
   obtain⟨t,rfl⟩:=r
   obtain⟨t',rfl⟩:=r'
   exact call_range_2 (range_it I1 q1 q2 q3 q4 q)
def tFor (wi:TI) (g:TG) (tb:TS):TS:=fun D σ H=>wi σ H fun J H1=>∃W:Nat→Nat→St→Hp→Prop,(∃m,W 0 m σ H1)∧∀i m σ H,W i m σ H →
 (J.stop i H∧D.nx σ H) ∨(J.go i H∧∃N:St→Hp→Prop,(∀σ' H',N σ' H'→∃m',m'<m∧W (i+1) m' σ' H')∧∀x H',J.yld i H x H'→g x σ H' fun σ2 H2=>tb { D with nx:=N,ct:=N,bk:=D.nx } σ2 H2)
def pinsAt (fp:List Addr) (h:Heap):List (Addr×Obj):=fp.filterMap fun b=>(h.get? b).map fun o=>(b,o)
theorem mem_pinsAt {fp:List Addr}{h:Heap}{b:Addr}{o:Obj}(hb:b∈fp) (e:h.get? b=some o):(b,o)∈pinsAt fp h:=List.mem_filterMap.mpr ⟨b,hb,by rw[e];rfl⟩
theorem of_pinsAt {fp:List Addr}{h:Heap}{p:Addr×Obj}(hp:p∈pinsAt fp h):p.1∈fp∧h.get? p.1=some p.2:=by
 obtain⟨b,hb,e⟩:=List.mem_filterMap.mp hp
 cases q:h.get? b with
 | none=>rw[q]at e;cases e
 | some o =>
  rw[q]at e
  have e':(b,o)=p:=Option.some.inj e
  subst e'
  exact⟨hb,q⟩
theorem Inv.pinned {pins:List (Addr×Obj)}{σ:St}{H:Hp}{s:Shared}{fp:List Addr}(I:Inv X pins σ H s) (hf:∀b∈fp,FpOk X pins H b) (ho:∀b∈fp,∃o,s.heap.get? b=some o∧∀v,o.data ≠ .cell v):Inv X (pins++pinsAt fp s.heap) σ H s :=
 I.pins_of fun p hp=>(List.mem_append.mp hp).elim (fun z=>I.pin p (List.mem_append_right _ z)) fun z=>by
  obtain⟨hb,e⟩:=of_pinsAt z
  obtain⟨f0,f1,f2,_⟩:=hf p.1 hb
  obtain⟨o,e',d⟩:=ho p.1 hb
  rw[e]at e';cases e'
  exact⟨e,f0,f1,f2,d⟩
theorem Inv.unpinned {pins pl:List (Addr×Obj)}{σ:St}{H:Hp}{s:Shared}(I:Inv X (pins++pl) σ H s):Inv X pins σ H s:=I.pins_of fun p hp=>I.pin p (List.mem_append_right _ (List.mem_append_left _ hp))
theorem ps_for {iter:Expr}{body:List Stmt}{wi:TI}{g:TG}{tb:TS}{pos:Pos}(hp:PassesOwn (model X.prog X.w) X.A X.env X.xe) (hc:X.calm=true) (hi:PI X tg iter wi) (hg:PG X tg g) (hb:PSs X body tb)
  (hs:∀x,foldedSetIterable iter X.env x=pure x:=by intro _;rfl):PS X (.For tg iter body [] pos) (tFor wi g tb):=by
 intro pins s σ H D I h
 refine wpAny_For (thn (hi pins s σ H _ I h) fun v s1 h1=>thn h1 fun itv s2 h2=>?_) hs
 obtain⟨it,fp,tn,J,H2,e,I2,T,st2,f2,W,⟨m0,w0⟩,turn⟩:=h2
 subst e
 have stat:∀{H':Hp},(∀b∈fp,H' b=none)→∀b∈fp,FpOk X pins H' b:=fun hn b hb=>⟨hn b hb,(f2 b hb).2⟩
 refine codeAny_forLoop_any (fun n s'=>∃i σ' H',Inv X pins σ' H' s'∧tn i s'.heap∧(∀b∈fp,H' b=none)∧W i n σ' H') ?_ m0 ⟨0,σ,H2,I2,st2,fun b hb=>(f2 b hb).1,w0⟩
 rintro n s3 ⟨i,σ3,H3,I3,st3,fr3,w3⟩
 rcases turn i n σ3 H3 w3 with⟨stop,qn⟩|⟨go,N,hN,step⟩
 ·refine wpAny_passesOwn hp (thn (T.done X rfl rfl rfl hc i pins s3 σ3 H3 X.xe I3 (stat fr3) st3 stop) fun r s4 ⟨hr,I4⟩=>?_)
  subst hr
  exact wpAny_execs_nil ⟨σ3,H3,I4,qn⟩
 ·refine wpAny_passesOwn hp (thn (T.item X rfl rfl rfl hc i pins s3 σ3 H3 X.xe I3 (stat fr3) st3 go) fun r s4 ⟨u,hr,h4⟩=>?_)
  subst hr
  refine wpAny_passesOwn hp (thn h4 fun _ s5 ⟨x,H5,I5,r5,y5,st5,fr5⟩=>?_)
  have I5':=I5.pinned (stat fr5) (T.obj _ _ st5)
  refine wpAny_passesOwn hp (thn (hg _ s5 σ3 H5 x u _ I5' r5 (step x H5 y5)) fun _ s6 ⟨σ6,H6,I6,q6⟩=>?_)
  refine wpAny_passesOwn hp (thn (hb _ s6 σ6 H6 _ I6 q6) fun f s7 q7=>?_)
  have again:∀{σ7:St}{H7:Hp},Inv X (pins++pinsAt fp s5.heap) σ7 H7 s7→N σ7 H7→∃m,m<n∧∃i σ' H',Inv X pins σ' H' s7∧tn i s7.heap∧(∀b∈fp,H' b=none)∧W i m σ' H':=fun {σ7 H7} I7 n7=>by
   obtain⟨m',hm,w7⟩:=hN σ7 H7 n7
   refine⟨m',hm,i+1,σ7,H7,I7.unpinned,T.keep _ _ _ st5 fun b hb o e=>(I7.pin (b,o) (List.mem_append_right _ (List.mem_append_right _ (mem_pinsAt hb e)))).1,fun b hb=>?_,w7⟩
   obtain⟨o,e,d⟩:=T.obj _ _ st5 b hb
   exact(I7.pin (b,o) (List.mem_append_right _ (List.mem_append_right _ (mem_pinsAt hb e)))).2.1
  cases f with
  | next=>obtain⟨σ7,H7,I7,n7⟩:=q7;exact again I7 n7
  | cont=>obtain⟨σ7,H7,I7,n7⟩:=q7;exact again I7 n7
  | brk=>obtain⟨σ7,H7,I7,q7⟩:=q7;exact⟨σ7,H7,I7.unpinned,q7⟩
  | ret v=>obtain⟨x7,σ7,H7,I7,r7,q7⟩:=q7;exact⟨x7,σ7,H7,I7.unpinned,r7,q7⟩
end
theorem for_list {K:PySem.W.Frag}{a:Addr}{xs:List V}{g:TG}{tb:TS}{D:Ends}{σ:St}{H:Hp}(Pv:Nat→St→Hp→Prop) (h0:Pv 0 σ H) (hl:∀i σ H,i≤xs.length→Pv i σ H→SqL K H a xs)
  (hs:∀i x σ H,xs[i]? = some x→Pv i σ H→g x σ H fun σ2 H2=>tb { D with nx:=Pv (i+1),ct:=Pv (i+1),bk:=D.nx } σ2 H2) (hd:∀σ H,Pv xs.length σ H→D.nx σ H) :
  ∃W:Nat→Nat→St→Hp→Prop,(∃m,W 0 m σ H)∧∀i m σ H,W i m σ H →
   ((Itl K a).stop i H∧D.nx σ H) ∨((Itl K a).go i H∧∃N:St→Hp→Prop,(∀σ' H',N σ' H'→∃m',m'<m∧W (i+1) m' σ' H')∧∀x H',(Itl K a).yld i H x H'→g x σ H' fun σ2 H2=>tb { D with nx:=N,ct:=N,bk:=D.nx } σ2 H2):=by
 refine⟨fun i m σ H=>m=xs.length-i∧i≤xs.length∧Pv i σ H,⟨xs.length,by simp,Nat.zero_le _,h0⟩,?_⟩
 rintro i m σ H ⟨rfl,hi,p⟩
 have q:=hl i σ H hi p
 by_cases hlt:i<xs.length
 ·refine .inr ⟨⟨xs,xs[i],q,by simp[hlt]⟩,Pv (i+1),fun σ' H' p'=>⟨xs.length-(i+1),by omega,rfl,hlt,p'⟩,fun x H' y=>?_⟩
  obtain⟨e,y⟩:=y
  subst e
  exact hs i x σ _ (y xs q) p
 ·have e:i=xs.length:=by omega
  subst e
  exact .inl ⟨⟨xs,q,Nat.le_refl _⟩,hd σ H p⟩
theorem for_range {lo:Int}{n:Nat}{g:TG}{tb:TS}{D:Ends}{σ:St}{H:Hp}(Pv:Nat→St→Hp→Prop) (h0:Pv 0 σ H)
  (hs:∀i σ H,i<n→Pv i σ H→g (.int (lo+i)) σ H fun σ2 H2=>tb { D with nx:=Pv (i+1),ct:=Pv (i+1),bk:=D.nx } σ2 H2) (hd:∀σ H,Pv n σ H→D.nx σ H) :
  ∃W:Nat→Nat→St→Hp→Prop,(∃m,W 0 m σ H)∧∀i m σ H,W i m σ H →
   ((Itr lo n).stop i H∧D.nx σ H) ∨((Itr lo n).go i H∧∃N:St→Hp→Prop,(∀σ' H',N σ' H'→∃m',m'<m∧W (i+1) m' σ' H')∧∀x H',(Itr lo n).yld i H x H'→g x σ H' fun σ2 H2=>tb { D with nx:=N,ct:=N,bk:=D.nx } σ2 H2):=by
 refine⟨fun i m σ H=>m=n-i∧i≤n∧Pv i σ H,⟨n,by simp,Nat.zero_le _,h0⟩,?_⟩
 rintro i m σ H ⟨rfl,hi,p⟩
 by_cases hlt:i<n
 ·refine .inr ⟨hlt,Pv (i+1),fun σ' H' p'=>⟨n-(i+1),by omega,rfl,hlt,p'⟩,fun x H' y=>?_⟩
  obtain⟨e,y⟩:=y
  subst e y
  exact hs i σ _ hlt p
 ·have e:i=n:=by omega
  subst e
  exact .inl ⟨Nat.le_refl _,hd σ H p⟩
end L2
namespace L2
open PySem PySem.Spec PyProof.Rows
abbrev R2:=V→V→Hp→VK→Prop
def OpR (X:Cx) (f:Value→Value→Sem Value) (r:R2):Prop :=
 ∀(pins:List (Addr×Obj)) (s:Shared) (σ:St) (H:Hp) (x y:V) (v u:Value) (Q:VK),Inv X pins σ H s→RelV x v→RelV y u→r x y H Q →
  wpAny (model X.prog X.w) X.A (f v u) (EP X pins σ Q) X.xe s
def UnR (X:Cx) (f:Value→Sem Value) (r:V→Hp→VK→Prop):Prop :=
 ∀(pins:List (Addr×Obj)) (s:Shared) (σ:St) (H:Hp) (x:V) (v:Value) (Q:VK),Inv X pins σ H s→RelV x v→r x H Q →
  wpAny (model X.prog X.w) X.A (f v) (EP X pins σ Q) X.xe s
def CallR (X:Cx) (f:Value) (r:List V→Hp→VK→Prop):Prop :=
 ∀(pins:List (Addr×Obj)) (s:Shared) (σ:St) (H:Hp) (xs:List V) (us:List Value) (Q:VK),Inv X pins σ H s→Vals xs us→r xs H Q →
  wpAny (model X.prog X.w) X.A (call f us) (EP X pins σ Q) X.xe s
def TruR (X:Cx) (r:V→Hp→(Bool→Hp→Prop)→Prop):Prop :=
 ∀(pins:List (Addr×Obj)) (s:Shared) (σ:St) (H:Hp) (x:V) (v:Value) (Q:Bool→Hp→Prop),Inv X pins σ H s→RelV x v→r x H Q →
  wpAny (model X.prog X.w) X.A (truthy v) (TP X pins σ Q) X.xe s
def tOp (r:R2) (ta tb:TE):TE:=fun σ H Q=>ta σ H fun x H1=>tb σ H1 fun y H2=>r x y H2 Q
def tUn (r:V→Hp→VK→Prop) (ta:TE):TE:=fun σ H Q=>ta σ H fun x H1=>r x H1 Q
def rI (C:Int→Int→Prop) (g:Int→Int→V):R2:=fun x y H Q=>∃i j,x = .int i∧y = .int j∧C i j∧Q (g i j) H
def rI0 (g:Int→Int→V):R2:=fun x y H Q=>∃i j,x = .int i∧y = .int j∧Q (g i j) H
def rU (g:Int→V):V→Hp→VK→Prop:=fun x H Q=>∃i,x = .int i∧Q (g i) H
section
variable {X:Cx}{a b c:Expr}{ta tb tc:TE}{pos:Pos}
theorem binT (ha:PE X a ta) (hb:PE X b tb) {pins:List (Addr×Obj)}{s:Shared}{σ:St}{H:Hp}{R:V→V→Hp→Prop}(I:Inv X pins σ H s)
  (h:ta σ H fun x H1=>tb σ H1 fun y H2=>R x y H2) {Q:Value→Shared→Prop}{f:Value→Value→Sem Value}
  (hf:∀v u s2 x y H2,Inv X pins σ H2 s2→RelV x v→RelV y u→R x y H2→wpAny (model X.prog X.w) X.A (f v u) Q X.xe s2) :
  wpAny (model X.prog X.w) X.A (eval a X.env) (fun v s₁=>wpAny (model X.prog X.w) X.A (eval b X.env) (fun u s₂=>wpAny (model X.prog X.w) X.A (f v u) Q X.xe s₂) X.xe s₁) X.xe s:=by
 refine thn (ha pins s σ H _ I h) fun v s1 ⟨x,H1,I1,r1,q1⟩=>?_
 refine thn (hb pins s1 σ H1 _ I1 q1) fun u s2 ⟨y,H2,I2,r2,q2⟩=>?_
 exact hf v u s2 x y H2 I2 r1 r2 q2
theorem pe_op {op:Operator}{r:R2}(ho:OpR X (binaryOp op) r) (ha:PE X a ta) (hb:PE X b tb):PE X (.BinOp a op b pos) (tOp r ta tb):=by
 intro pins s σ H Q I h
 exact wpAny_BinOp (binT ha hb I h fun v u s2 x y H2 I2 rx ry q=>ho pins s2 σ H2 x y v u Q I2 rx ry q)
theorem pe_un {op:UnaryOp}{r:V→Hp→VK→Prop}(ho:UnR X (unaryOp op) r) (ha:PE X a ta):PE X (.UnaryOp op a pos) (tUn r ta):=by
 intro pins s σ H Q I h
 exact UnaryOp_ (thn (ha pins s σ H _ I h) fun v s1 ⟨x,H1,I1,r1,q1⟩=>ho pins s1 σ H1 x v Q I1 r1 q1)
theorem opI {f:Value→Value→Sem Value}{C:Int→Int→Prop}{g:Int→Int→Int}
  (rule:∀(i j:Int) (t u:Tok) (s:Shared) (Q:Value→Shared→Prop) (E:Value→Shared→Prop),C i j→Q (.int (g i j) s.toks) { s with toks:=s.toks+1 }→wpAny (model X.prog X.w) X.A (f (.int i t) (.int j u)) Q E s) :
  OpR X f (rI C fun i j=>.int (g i j)):=by
 intro pins s σ H x y v u Q I rx ry h
 obtain⟨i,j,rfl,rfl,hc,q⟩:=h
 obtain⟨t,rfl⟩:=rx
 obtain⟨t',rfl⟩:=ry
 exact rule i j t t' s _ _ hc ⟨.int (g i j),H,I.tok _,⟨_,rfl⟩,q⟩
theorem opI0 {f:Value→Value→Sem Value}{g:Int→Int→Int}
  (rule:∀(i j:Int) (t u:Tok) (s:Shared) (Q:Value→Shared→Prop) (E:Value→Shared→Prop),Q (.int (g i j) s.toks) { s with toks:=s.toks+1 }→wpAny (model X.prog X.w) X.A (f (.int i t) (.int j u)) Q E s) :
  OpR X f (rI0 fun i j=>.int (g i j)):=by
 intro pins s σ H x y v u Q I rx ry h
 obtain⟨i,j,rfl,rfl,q⟩:=h
 obtain⟨t,rfl⟩:=rx
 obtain⟨t',rfl⟩:=ry
 exact rule i j t t' s _ _ ⟨.int (g i j),H,I.tok _,⟨_,rfl⟩,q⟩
theorem opB0 {f:Value→Value→Sem Value}{g:Int→Int→Bool}
  (rule:∀(i j:Int) (t u:Tok) (s:Shared) (Q:Value→Shared→Prop) (E:Value→Shared→Prop),Q (.bool (g i j)) s→wpAny (model X.prog X.w) X.A (f (.int i t) (.int j u)) Q E s) :
  OpR X f (rI0 fun i j=>.bl (g i j)):=by
 intro pins s σ H x y v u Q I rx ry h
 obtain⟨i,j,rfl,rfl,q⟩:=h
 obtain⟨t,rfl⟩:=rx
 obtain⟨t',rfl⟩:=ry
 exact rule i j t t' s _ _ ⟨.bl (g i j),H,I,rfl,q⟩
def CPow (i j:Int):Prop:=0≤j∧j≤1000000∧i.natAbs<2^64
def CMul (i j:Int):Prop:=(-(2^64)<i∧i<2^64) ∨(-(2^64)<j∧j<2^64)
theorem CMul.ok {i j:Int}(h:CMul i j):IntMulOk i j:=by
 rcases h with⟨h1,h2⟩|⟨h1,h2⟩
 ·exact .of_left (intBits_le_64 h1 h2)
 ·exact .of_right (intBits_le_64 h1 h2)
theorem op_add:OpR X (binaryOp .Add) (rI0 fun i j=>.int (i+j)):=opI0 fun _ _ _ _ _ _ _ q=>add_int q
theorem op_sub:OpR X (binaryOp .Sub) (rI0 fun i j=>.int (i-j)):=opI0 fun _ _ _ _ _ _ _ q=>sub_int q
theorem op_mul:OpR X (binaryOp .Mult) (rI CMul fun i j=>.int (i*j)):=opI fun _ _ _ _ _ _ _ hc q=>mul_int q hc.ok
theorem op_mod:OpR X (binaryOp .Mod) (rI (fun _ j=>0<j) fun i j=>.int (i%j)):=opI fun i j _ _ _ _ _ hc q=>by
 have h1:(0:Int)<j:=hc
 exact mod_int' (by omega) (by rw[Int.fmod_eq_emod_of_nonneg i (by omega)];exact q)
theorem op_pow:OpR X (binaryOp .Pow) (rI CPow fun i j=>.int (i^j.toNat)):=opI fun _ _ _ _ _ _ _ hc q=>pow_int_small hc.1 hc.2.1 hc.2.2 q
theorem op_shl:OpR X (binaryOp .LShift) (rI CPow fun i j=>.int (i*2^j.toNat)):=opI fun _ _ _ _ _ _ _ hc q=>lshift_int_small hc.1 hc.2.1 hc.2.2 q
theorem unI {f:Value→Sem Value}{g:Int→Int}
  (rule:∀(i:Int) (t:Tok) (s:Shared) (Q:Value→Shared→Prop) (E:Value→Shared→Prop),Q (.int (g i) s.toks) { s with toks:=s.toks+1 }→wpAny (model X.prog X.w) X.A (f (.int i t)) Q E s) :
  UnR X f (rU fun i=>.int (g i)):=by
 intro pins s σ H x v Q I rx h
 obtain⟨i,rfl,q⟩:=h
 obtain⟨t,rfl⟩:=rx
 exact rule i t s _ _ ⟨.int (g i),H,I.tok _,⟨_,rfl⟩,q⟩
theorem un_neg:UnR X (unaryOp .USub) (rU fun i=>.int (-i)):=unI fun _ _ _ _ _ q=>neg_int q
end
def scal:V→V→Bool
 | .non,.non=>true | .non,.int _=>true | .int _,.non=>true | .non,.bl _=>true | .bl _,.non=>true | .non,.str _=>true | .str _,.non=>true
 | .int _,.int _=>true | .bl _,.bl _=>true | .str _,.str _=>true | .byt _,.byt _=>true
 | .int _,.str _=>true | .str _,.int _=>true | .bl _,.str _=>true | .str _,.bl _=>true
 | _,_=>false
def rEq:R2:=fun x y H Q=>scal x y=true∧Q (.bl (decide (x=y))) H
def rNe:R2:=fun x y H Q=>scal x y=true∧Q (.bl (!decide (x=y))) H
theorem dec_int {i j:Int}:decide (V.int i=V.int j) =(i == j):=by
 rw[Bool.eq_iff_iff]
 simp
theorem dec_bl {i j:Bool}:decide (V.bl i=V.bl j) =(i == j):=by
 rw[Bool.eq_iff_iff]
 simp
theorem dec_str {i j:Str}:decide (V.str i=V.str j) =(i == j):=by
 rw[Bool.eq_iff_iff]
 simp
theorem dec_byt {i j:Array UInt8}:decide (V.byt i=V.byt j) =(i.toList == j.toList):=by
 rw[Bool.eq_iff_iff]
 cases i
 cases j
 simp
section
variable {X:Cx}{a b c:Expr}{ta tb tc:TE}{pos:Pos}
theorem fin_bl {pins:List (Addr×Obj)}{σ:St}{H:Hp}{s:Shared}{Q:VK}{k k':Bool}(I:Inv X pins σ H s) (q:Q (.bl k) H) (e:k=k'):EP X pins σ Q (.bool k') s:=by
 subst e
 exact⟨.bl k,H,I,rfl,q⟩
theorem op_eq:OpR X (compareOp .Eq) rEq:=by
 intro pins s σ H x y v u Q I rx ry h
 obtain⟨hs,q⟩:=h
 cases x with
 | non =>
  cases rx
  cases y with
  | non=>cases ry;exact PySem.EqNone.eq_none_none (fin_bl I q (by simp))
  | bl j=>cases ry;exact PySem.EqNone.eq_none_bool (fin_bl I q (by simp))
  | int j=>obtain⟨t',rfl⟩:=ry;exact PySem.EqNone.eq_none_int (fin_bl I q (by simp))
  | str j=>obtain⟨t',rfl⟩:=ry;exact PySem.EqNone.eq_none_str (fin_bl I q (by simp))
  | _=>exact absurd (show false=true from hs) Bool.false_ne_true
 | bl i =>
  cases rx
  cases y with
  | non=>cases ry;exact PySem.EqNone.eq_bool_none (fin_bl I q (by simp))
  | bl j=>cases ry;exact eq_bool (fin_bl I q dec_bl)
  | str j=>obtain⟨t',rfl⟩:=ry;exact PySem.EqMixed.eq_bool_str (fin_bl I q (by simp))
  | _=>exact absurd (show false=true from hs) Bool.false_ne_true
 | int i =>
  obtain⟨t,rfl⟩:=rx
  cases y with
  | non=>cases ry;exact PySem.EqNone.eq_int_none (fin_bl I q (by simp))
  | int j=>obtain⟨t',rfl⟩:=ry;exact eq_int (fin_bl I q dec_int)
  | str j=>obtain⟨t',rfl⟩:=ry;exact PySem.EqMixed.eq_int_str (fin_bl I q (by simp))
  | _=>exact absurd (show false=true from hs) Bool.false_ne_true
 | str i =>
  obtain⟨t,rfl⟩:=rx
  cases y with
  | non=>cases ry;exact PySem.EqNone.eq_str_none (fin_bl I q (by simp))
  | bl j=>cases ry;exact PySem.EqMixed.eq_str_bool (fin_bl I q (by simp))
  | int j=>obtain⟨t',rfl⟩:=ry;exact PySem.EqMixed.eq_str_int (fin_bl I q (by simp))
  | str j=>obtain⟨t',rfl⟩:=ry;exact eq_str (fin_bl I q dec_str)
  | _=>exact absurd (show false=true from hs) Bool.false_ne_true
 | byt i =>
  obtain⟨t,rfl⟩:=rx
  cases y with
  | byt j=>obtain⟨t',rfl⟩:=ry;exact PySem.W.eq_bytes (fin_bl I q dec_byt)
  | _=>exact absurd (show false=true from hs) Bool.false_ne_true
 | _=>cases y <;> exact absurd (show false=true from hs) Bool.false_ne_true
theorem op_ne:OpR X (compareOp .NotEq) rNe:=by
 intro pins s σ H x y v u Q I rx ry h
 obtain⟨hs,q⟩:=h
 cases x with
 | non =>
  cases rx
  cases y with
  | non=>cases ry;exact PySem.EqNone.ne_none_none (fin_bl I q (by simp))
  | bl j=>cases ry;exact PySem.EqNone.ne_none_bool (fin_bl I q (by simp))
  | int j=>obtain⟨t',rfl⟩:=ry;exact PySem.EqNone.ne_none_int (fin_bl I q (by simp))
  | str j=>obtain⟨t',rfl⟩:=ry;exact PySem.EqNone.ne_none_str (fin_bl I q (by simp))
  | _=>exact absurd (show false=true from hs) Bool.false_ne_true
 | bl i =>
  cases rx
  cases y with
  | non=>cases ry;exact PySem.EqNone.ne_bool_none (fin_bl I q (by simp))
  | bl j=>cases ry;exact ne_bool (fin_bl I q (congrArg not dec_bl))
  | str j=>obtain⟨t',rfl⟩:=ry;exact PySem.EqMixed.ne_bool_str (fin_bl I q (by simp))
  | _=>exact absurd (show false=true from hs) Bool.false_ne_true
 | int i =>
  obtain⟨t,rfl⟩:=rx
  cases y with
  | non=>cases ry;exact PySem.EqNone.ne_int_none (fin_bl I q (by simp))
  | int j=>obtain⟨t',rfl⟩:=ry;exact ne_int (fin_bl I q (congrArg not dec_int))
  | str j=>obtain⟨t',rfl⟩:=ry;exact PySem.EqMixed.ne_int_str (fin_bl I q (by simp))
  | _=>exact absurd (show false=true from hs) Bool.false_ne_true
 | str i =>
  obtain⟨t,rfl⟩:=rx
  cases y with
  | non=>cases ry;exact PySem.EqNone.ne_str_none (fin_bl I q (by simp))
  | bl j=>cases ry;exact PySem.EqMixed.ne_str_bool (fin_bl I q (by simp))
  | int j=>obtain⟨t',rfl⟩:=ry;exact PySem.EqMixed.ne_str_int (fin_bl I q (by simp))
  | str j=>obtain⟨t',rfl⟩:=ry;exact ne_str (fin_bl I q (congrArg not dec_str))
  | _=>exact absurd (show false=true from hs) Bool.false_ne_true
 | byt i =>
  obtain⟨t,rfl⟩:=rx
  cases y with
  | byt j=>obtain⟨t',rfl⟩:=ry;exact PySem.W.ne_bytes (fin_bl I q (congrArg not dec_byt))
  | _=>exact absurd (show false=true from hs) Bool.false_ne_true
 | _=>cases y <;> exact absurd (show false=true from hs) Bool.false_ne_true
theorem op_lt:OpR X (compareOp .Lt) (rI0 fun i j=>.bl (decide (i<j))):=opB0 fun _ _ _ _ _ _ _ q=>lt_int q
theorem op_le:OpR X (compareOp .LtE) (rI0 fun i j=>.bl (decide (i≤j))):=opB0 fun _ _ _ _ _ _ _ q=>le_int q
theorem op_gt:OpR X (compareOp .Gt) (rI0 fun i j=>.bl (decide (j<i))):=opB0 fun _ _ _ _ _ _ _ q=>gt_int q
theorem op_ge:OpR X (compareOp .GtE) (rI0 fun i j=>.bl (decide (j≤i))):=opB0 fun _ _ _ _ _ _ _ q=>ge_int q
theorem nomark (b:Expr) {op:CmpOp}(h:op ≠ .In:=by decide) (h2:op ≠ .NotIn:=by decide):behindInMarks op b=false:=by
 have e1:(op == CmpOp.In)=false:=by cases op <;> first|rfl|exact absurd rfl h
 have e2:(op == CmpOp.NotIn)=false:=by cases op <;> first|rfl|exact absurd rfl h2
 cases b <;> simp[behindInMarks,e1,e2]
theorem pe_cmpR {op:CmpOp}{r:R2}(ho:OpR X (compareOp op) r) (ha:PE X a ta) (hb:PE X b tb) (hm:behindInMarks op b=false):PE X (.Compare a [op] [b] pos) (tOp r ta tb):=by
 intro pins s σ H Q I h
 exact wpAny_Compare1 (binT ha hb I h fun v u s2 x y H2 I2 rx ry q=>ho pins s2 σ H2 x y v u Q I2 rx ry q) hm
def tTest (t:TE):TT:=fun σ H Q=>t σ H fun x H'=>∃k,x = .bl k∧Q k H'
theorem pt_cmpR {op:CmpOp}{r:R2}(ho:OpR X (compareOp op) r) (ha:PE X a ta) (hb:PE X b tb) (hm:behindInMarks op b=false):PT X (.Compare a [op] [b] pos) (tTest (tOp r ta tb)):=by
 intro pins s σ H Q I h
 refine wpAny_isTrue_Compare1 (thn (ha pins s σ H _ I h) fun v s1 ⟨x,H1,I1,r1,q1⟩=>thn (hb pins s1 σ H1 _ I1 q1) fun u s2 ⟨y,H2,I2,r2,q2⟩ =>
  thn (ho pins s2 σ H2 x y v u _ I2 r1 r2 q2) fun c s3 ⟨z,H3,I3,r3,k,e,q3⟩=>?_) hm
 subst e
 cases r3
 exact wpAny_truthy_bool ⟨H3,I3,q3⟩
def tChain (r r':R2) (ta tb tc:TE):TE:=fun σ H Q=>ta σ H fun x H1=>tb σ H1 fun y H2=>r x y H2 fun z H3=>∃k,z = .bl k ∧
 (if k=true then tc σ H3 fun w' H4=>r' y w' H4 Q else Q (.bl false) H3)
theorem pt_chain {op op':CmpOp}{r r':R2}(ho:OpR X (compareOp op) r) (ho':OpR X (compareOp op') r') (ha:PE X a ta) (hb:PE X b tb) (hc:PE X c tc)
  (hm:lastMarks [op,op'] [b,c]=false:=by with_unfolding_all rfl):PT X (.Compare a [op,op'] [b,c] pos) (tTest (tChain r r' ta tb tc)):=by
 intro pins s σ H Q I h
 refine isTrue_chain (thn (ha pins s σ H _ I h) fun v s1 ⟨x,H1,I1,r1,q1⟩=>test_link (thn (hb pins s1 σ H1 _ I1 q1) fun u s2 ⟨y,H2,I2,r2,q2⟩ =>
  thn (ho pins s2 σ H2 x y v u _ I2 r1 r2 q2) fun d s3 ⟨z,H3,I3,r3,k,e,q3⟩=>?_)) hm
 subst e
 cases r3
 refine wpAny_truthy_bool ?_
 cases k with
 | false =>
  obtain⟨k',e',q'⟩:=q3
  cases e'
  exact ite_ff ⟨H3,I3,q'⟩
 | true =>
  refine ite_tt (test_last (thn (hc pins s3 σ H3 _ I3 q3) fun w' s4 ⟨z',H4,I4,r4,q4⟩=>thn (ho' pins s4 σ H4 y z' u w' _ I4 r2 r4 q4) fun d' s5 ⟨z2,H5,I5,r5,k2,e2,q5⟩=>?_))
  subst e2
  cases r5
  exact wpAny_truthy_bool ⟨H5,I5,q5⟩
def TruV (K:PySem.W.Frag) (x:V) (H:Hp) (k:Bool):Prop :=
 match x with
 | .non=>k=false
 | .bl b=>k=b
 | .int i=>k =(i != 0)
 | .str y=>y.length≤sizeLine∧k =((y.length:Int) != 0)
 | .byt y=>y.size≤sizeLine∧k =((y.size:Int) != 0)
 | .ref p=>(∃xs,SqL K H p xs∧k = !xs.isEmpty) ∨(∃xs,SqT K H p xs∧k = !xs.isEmpty) ∨ ∃kvs,H p=some (.dK kvs)∧k = !kvs.isEmpty
 | _=>False
theorem isEmpty_kv {κ:Type}{kvs:List (κ×V)}{vs:List (κ×Value)}(r:KV kvs vs):(!vs.isEmpty) = !kvs.isEmpty:=by
 cases r <;> rfl
theorem isEmpty_of {xs:List V}{its:List Value}(r:Vals xs its):(!its.toArray.isEmpty) = !xs.isEmpty:=by
 cases r <;> simp
theorem line63:(sizeLine:Nat)<2^63:=by rw[sizeLine_eq];decide
theorem tru_ok:TruR X (fun x H Q=>∃k,TruV X.K x H k∧Q k H):=by
 intro pins s σ H x v Q I rx h
 obtain⟨k,e,q⟩:=h
 have hl:=line63
 have hs:sizeLine=16777216:=sizeLine_eq
 cases x with
 | non =>
  cases rx
  have e':k=false:=e
  subst e'
  exact truthy_none ⟨H,I,q⟩
 | bl b =>
  cases rx
  have e':k=b:=e
  subst e'
  exact wpAny_truthy_bool ⟨H,I,q⟩
 | int i =>
  obtain⟨t,rfl⟩:=rx
  have e':k =(i != 0):=e
  subst e'
  exact PySem.P.truthy_int ⟨H,I,q⟩
 | str y =>
  obtain⟨t,rfl⟩:=rx
  obtain⟨hy,e'⟩ : y.length≤sizeLine∧k =((y.length:Int) != 0):=e
  subst e'
  exact PySem.P.truthy_str (by omega) ⟨H,I.tok _,q⟩
 | byt y =>
  obtain⟨t,rfl⟩:=rx
  obtain⟨hy,e'⟩ : y.size≤sizeLine∧k =((y.size:Int) != 0):=e
  subst e'
  exact PySem.W.truthy_bytes (by omega) ⟨H,I.tok _,q⟩
 | ref p =>
  cases rx
  have e':(∃xs,SqL X.K H p xs∧k = !xs.isEmpty) ∨(∃xs,SqT X.K H p xs∧k = !xs.isEmpty) ∨ ∃kvs,H p=some (.dK kvs)∧k = !kvs.isEmpty:=e
  rcases e' with⟨xs,hx,e'⟩|⟨xs,hx,e'⟩|⟨kvs,hx,e'⟩
  ·subst e'
   obtain⟨its,r,pl,hz⟩:=I.list hx
   have hlen:=r.length
   exact wpAny_truthy_list pl.isList (by simp only[List.size_toArray];omega) ⟨H,I.tok _,by rw[isEmpty_of r];exact q⟩
  ·subst e'
   obtain⟨its,r,pl,hz⟩:=I.tuple hx
   have hlen:=r.length
   exact truthy_tuple pl (by simp only[List.size_toArray];omega) ⟨H,I.tok _,by rw[isEmpty_of r];exact q⟩
  ·subst e'
   obtain⟨hz,hS,vs,r,m⟩ : kvs.length≤sizeLine∧(p == sysModules)=false∧∃vs,KV kvs vs∧s.heap.DictOf (mixKind X.prog X.w) p vs:=I.hok p _ hx
   have hlen:kvs.length=vs.length:=Paired.length r
   exact wpAny_truthy_dict hS m (by omega) ⟨H,I.tok _,by rw[isEmpty_kv r];exact q⟩
 | _=>exact(show False from e).elim
theorem pt_truth (ha:PE X a ta) (he:∀whole,isTrue a X.env whole =(do let v ← whole;standAt a.pos;holding [v] (truthy v))) :
  PT X a (fun σ H Q=>ta σ H fun x H'=>∃k,TruV X.K x H' k∧Q k H'):=by
 intro pins s σ H Q I h
 exact isTrue_plain (thn (ha pins s σ H _ I h) fun v s1 ⟨x,H1,I1,r1,q1⟩=>tru_ok pins s1 σ H1 x v Q I1 r1 q1) (he _)
theorem vals1 {x:V}{us:List Value}(r:Vals [x] us):∃u,us=[u]∧RelV x u:=by
 cases r with
 | cons r1 r2=>cases r2;exact⟨_,rfl,r1⟩
theorem vals2 {x y:V}{us:List Value}(r:Vals [x,y] us):∃u w',us=[u,w']∧RelV x u∧RelV y w':=by
 cases r with
 | cons r1 r2 =>
  cases r2 with
  | cons r3 r4=>cases r4;exact⟨_,_,rfl,r1,r3⟩
theorem call_abs:CallR X (.builtin "abs") (fun xs H Q=>∃i,xs=[.int i]∧Q (.int (if i<0 then -i else i)) H):=by
 intro pins s σ H xs us Q I r h
 obtain⟨i,rfl,q⟩:=h
 obtain⟨u,rfl,t,rfl⟩:=vals1 r
 exact call_abs_int fun u tk=>⟨.int (if i<0 then -i else i),H,I.tok _,⟨_,rfl⟩,q⟩
theorem call_max2 (hc:X.calm=true):CallR X (.builtin "max") (fun xs H Q=>∃i j,xs=[.int i,.int j]∧Q (.int (if j > i then j else i)) H):=by
 intro pins s σ H xs us Q I r h
 obtain⟨i,j,rfl,q⟩:=h
 obtain⟨u,w',rfl,⟨t,rfl⟩,⟨t',rfl⟩⟩:=vals2 r
 refine max_two_ints (I.ok.hd hc) fun h' tk k=>⟨_,H,I.kept k,?_,q⟩
 by_cases hj:j > i
 ·rw[if_pos hj,if_pos hj];exact⟨_,rfl⟩
 ·rw[if_neg hj,if_neg hj];exact⟨_,rfl⟩
theorem call_min2 (hc:X.calm=true):CallR X (.builtin "min") (fun xs H Q=>∃i j,xs=[.int i,.int j]∧Q (.int (if j<i then j else i)) H):=by
 intro pins s σ H xs us Q I r h
 obtain⟨i,j,rfl,q⟩:=h
 obtain⟨u,w',rfl,⟨t,rfl⟩,⟨t',rfl⟩⟩:=vals2 r
 refine min_two_ints (I.ok.hd hc) fun h' tk k=>⟨_,H,I.kept k,?_,q⟩
 by_cases hj:j<i
 ·rw[if_pos hj,if_pos hj];exact⟨_,rfl⟩
 ·rw[if_neg hj,if_neg hj];exact⟨_,rfl⟩
end
end L2
namespace L2
open PySem PySem.Spec PyProof.Rows
structure ObjM (h:Heap) (x dx C:Addr) (mA:Str→Option Value):Prop where
 obj:h.get? x=some (PySem.W.instObj C dx)
 ns:h.Ns1 dx mA
 ne:dx≠x
theorem lookIn_ns {h:Heap}{dx:Addr}{mA:Str→Option Value}(n:h.Ns1 dx mA):∃od,h.get? dx=some od∧∀name,PySem.W.lookIn name od=some (mA name):=by
 obtain⟨o,es,ep,ho,hd,hk,_,hm⟩:=n
 refine⟨o,ho,fun name=>?_⟩
 have e:=hm name
 unfold nsFind findBy at e
 rw[← Array.find?_toList]at e
 unfold PySem.W.lookIn
 rw[hd]
 dsimp only
 split
 ·rename_i y q
  rw[q]at e
  exact congrArg some e
 ·rename_i q
  rw[q]at e
  have a:es.toList.any (·.refKey)=false:=by
   rw[List.any_eq_false]
   intro y hy
   obtain⟨z,t,hkey⟩:=hk y (Array.mem_toList_iff.mp hy)
   simp[DictEntry.refKey,hkey]
  have a':¬ es.toList.any (·.refKey)=true:=by rw[a];exact Bool.false_ne_true
  rw[if_neg a']
  exact congrArg some e
theorem ObjM.look {h:Heap}{x dx C:Addr}{mA:Str→Option Value}(I:ObjM h x dx C mA):∃od,PySem.W.InstAt h x (PySem.W.instObj C dx) C (some od)∧∀name,PySem.W.lookIn name od=some (mA name) :=
 let ⟨od,ho,hl⟩:=lookIn_ns I.ns
 ⟨od,⟨I.obj,rfl,rfl,ho⟩,hl⟩
section
variable {prog:Program}{w:World}{A:Around}{E:Value→Shared→Prop}{s:Shared}{K:PySem.W.Frag}{x dx C f:Addr}{mA:Str→Option Value}{name:Str}{v:Value}
end
theorem RelO.some_of {v:V}{o:Option Value}(r:RelO (some v) o):∃u,o=some u∧RelV v u:=by
 cases o with
 | none=>exact(show False from r).elim
 | some u=>exact⟨u,rfl,r⟩
section
variable {P:Program}{w:World}{H H':Hp}{h h':Heap}{a C dx:Addr}{fs fs':List (Str×V)}
theorem ins_get (hok:HOk P w H h) (e:H a=some (.ins C dx fs)):∃mA,ObjM h a dx C mA∧(∀f,RelO (fs.lookup f) (mA f))∧PySem.Within mA (fs.map (·.1))∧fs.length≤1000∧H dx=some (.own a):=by
 obtain⟨d,z,ne,ob,mA,n,r,q⟩:=(show ObjOk P w H h a (.ins C dx fs) from hok a _ e)
 exact⟨mA,⟨ob,n,ne⟩,r,q,z,d⟩
end
structure Cls (K:PySem.W.Frag) (C:Addr):Prop where
 pg:PySem.W.plainGet K C Str.empty=true
 hd:PySem.W.hasDictIn K C=true
 po:PySem.W.plainOver K C=true
 sa:PySem.W.findIn K (.ref C) "__setattr__" = some (some (.builtin "object.__setattr__"))
theorem Cls.get {K:PySem.W.Frag}{C:Addr}(c:Cls K C) (f:Str):PySem.W.plainGet K C f=true:=c.pg
section
variable {X:Cx}{pins:List (Addr×Obj)}{σ:St}{H:Hp}{s:Shared}{a C dx:Addr}{fs:List (Str×V)}{f:Str}{v:V}{A:Around}{E:Value→Shared→Prop}
end
section
variable {X:Cx}{o e value:Expr}{f:Str}{pos pos' tpos:Pos}{ta tv:TE}
end
section
variable {X:Cx}{pins:List (Addr×Obj)}{σ:St}{H:Hp}{s:Shared}{A:Around}{E:Value→Shared→Prop}{Q:Value→Shared→Prop}{c:Value}{b:Bool}
inductive TyOf (K:PySem.W.Frag) (H:Hp):V→Value→Prop where
 | non:TyOf K H .non (.type "NoneType")
 | bl (x:Bool):TyOf K H (.bl x) (.type "bool")
 | int (i:Int):TyOf K H (.int i) (.type "int")
 | str (x:Str):TyOf K H (.str x) (.type "str")
 | flt (x:UInt64):TyOf K H (.flt x) (.type "float")
 | lst {a:Addr}{xs:List V}(e:H a=some (.lst xs)):TyOf K H (.ref a) (.type "list")
 | frz {a:Addr}{o:Obj}{xs:List V}(e:H a=some (.frz o (.lst xs))):TyOf K H (.ref a) (.type "list")
 | tup {a:Addr}{xs:List V}(e:H a=some (.tup xs)):TyOf K H (.ref a) (.type "tuple")
 | dK {a:Addr}{kvs:List (Key×V)}(e:H a=some (.dK kvs)):TyOf K H (.ref a) (.type "dict")
 | dT {a:Addr}{kvs:List (List Key×V)}(e:H a=some (.dT kvs)):TyOf K H (.ref a) (.type "dict")
 | ins {a C dx:Addr}{fs:List (Str×V)}(e:H a=some (.ins C dx fs)) (cl:Cls K C) (ha:PySem.W.findIn K (.ref C) "__class__" = some (some (.builtin "object.__class__")))
   (hn:PySem.W.specialIn K (.builtin "object.__class__") "__get__" = some (some (.builtin "getset_descriptor.__get__"))) (htk:PySem.W.takesIn K (.builtin "object.__class__")=some true)
   (hm:PySem.W.mroIn K C (.type "object")=some true):TyOf K H (.ref a) (.ref C)
theorem isinst_ok {x:V}{u t:Value}(I:Inv X pins σ H s) (rx:RelV x u) (ty:TyOf X.K H x t) (e:PySem.W.kitOne X.K t c=some b) (h:∀tk,Q (.bool b) { s with toks:=tk }) :
  wpAny (model X.prog X.w) A (call (.builtin "isinstance") [u,c]) Q E s:=by
 cases ty with
 | non=>cases (show u=Value.none from rx);exact PySem.W.kia_one PySem.W.kitx_none I.kIn True.intro e (fun z=>nomatch z) h
 | bl y=>cases (show u=Value.bool y from rx);exact PySem.W.kia_one PySem.W.kitx_bool I.kIn True.intro e (fun z=>nomatch z) h
 | int i=>obtain⟨t,q⟩:=(show ∃t,u=Value.int i t from rx);cases q;exact PySem.W.kia_one PySem.W.kitx_int I.kIn True.intro e (fun z=>nomatch z) h
 | str y=>obtain⟨t,q⟩:=(show ∃t,u=Value.str y t from rx);cases q;exact PySem.W.kia_one PySem.W.kitx_str I.kIn True.intro e (fun z=>nomatch z) h
 | flt y=>obtain⟨t,q⟩:=(show ∃t,u=Value.float y t from rx);cases q;exact PySem.W.kia_one PySem.W.kitx_float I.kIn True.intro e (fun z=>nomatch z) h
 | @lst a xs ea =>
  cases (show u=Value.ref a from rx)
  obtain⟨_,_,n,_,h1⟩:=(show ObjOk X.prog X.w H s.heap a (.lst xs) from I.hok a _ ea)
  exact PySem.W.kia_one PySem.W.kitx_list I.kIn ⟨_,h1,rfl⟩ e (fun z=>nomatch z) h
 | @frz a ob xs ea =>
  cases (show u=Value.ref a from rx)
  obtain⟨_,_,_,n,_,h1⟩:=(show ObjOk X.prog X.w H s.heap a (.frz ob (.lst xs)) from I.hok a _ ea)
  exact PySem.W.kia_one PySem.W.kitx_list I.kIn ⟨_,h1,rfl⟩ e (fun z=>nomatch z) h
 | @tup a xs ea =>
  cases (show u=Value.ref a from rx)
  obtain⟨_,_,_,p⟩:=(show ObjOk X.prog X.w H s.heap a (.tup xs) from I.hok a _ ea)
  obtain⟨o,h1,h2,_⟩:=p
  exact PySem.W.kia_one PySem.W.kitx_tuple I.kIn ⟨o,h1,h2⟩ e (fun z=>nomatch z) h
 | @dK a kvs ea =>
  cases (show u=Value.ref a from rx)
  obtain⟨_,_,vs,_,p⟩:=(show ObjOk X.prog X.w H s.heap a (.dK kvs) from I.hok a _ ea)
  obtain⟨o,es,ep,h1,h2,_⟩:=p
  exact PySem.W.kia_one PySem.W.kitx_dict I.kIn ⟨o,h1,h2.1⟩ e (fun z=>nomatch z) h
 | @dT a kvs ea =>
  cases (show u=Value.ref a from rx)
  obtain⟨_,_,xs,_,o,es,ep,h1,h2,_⟩:=(show ObjOk X.prog X.w H s.heap a (.dT kvs) from I.hok a _ ea)
  exact PySem.W.kia_one PySem.W.kitx_dict I.kIn ⟨o,h1,h2.1⟩ e (fun z=>nomatch z) h
 | @ins a C dx fs ea cl ha hn htk hm =>
  cases (show u=Value.ref a from rx)
  obtain⟨mA,O,_⟩:=ins_get I.hok ea
  obtain⟨od,J,_⟩:=O.look
  exact PySem.W.kia_one (PySem.W.kitx_own (cl.get _) cl.hd ha hn htk hm) I.kIn J e (fun z=>nomatch z) h
end
end L2
namespace L2
open PySem PySem.Spec PyProof.Rows
structure Room (k:Nat) (A:Around):Prop where
 hd:A.handled=none
 dp:A.depth+3*k+5<recursionLimit
 un:A.units+16*k+200<cLine
 gd:A.guards=some []
theorem Room.mono {j k:Nat}{A:Around}(r:Room k A) (h:j≤k):Room j A:=⟨r.hd,by have:=r.dp;omega,by have:=r.un;omega,r.gd⟩
theorem guards_deeper {A:Around}{env:Env}(h:A.guards=some []):(A.deeper env).guards=some []:=by
 first|exact h|simp[Around.deeper,Around.under,Code.guards,Code.isGuard,pushGuards,h]
theorem Room.deeper {k:Nat}{A:Around}(r:Room (k+1) A) (env:Env):Room k (A.deeper env) :=
 ⟨r.hd,by have:=r.dp;show A.depth+1+3*k+5<_;omega,by have:=r.un;show A.units+3+16*k+200<_;omega,guards_deeper r.gd⟩
theorem Room.depth {k:Nat}{A:Around}(r:Room k A):A.depth<recursionLimit:=by have:=r.dp;omega
theorem Room.units {k:Nat}{A:Around}(r:Room k A):A.units+64<cLine:=by have:=r.un;omega
def tNil:TA:=fun _ H Q=>Q [] H
def tCons (ta:TE) (tr:TA):TA:=fun σ H Q=>ta σ H fun x H1=>tr σ H1 fun xs H2=>Q (x::xs) H2
section
variable {X:Cx}{e:Expr}{es:List Expr}{te:TE}{t:TA}{pos:Pos}
theorem pa_nil:PA X [] tNil:=fun _ _ _ _ H Q I h=>Calls.spliced_nil ⟨[],H,I,.nil,h⟩
theorem pa_cons (ha:PE X e te) (hr:PA X es t) (hs:starEach (e::es) X.env =(false,eval e X.env)::starEach es X.env:=by rfl):PA X (e::es) (tCons te t):=by
 intro pos pins s σ H Q I h
 rw[hs]
 show wpAny _ _ (spliced ((false,eval e X.env)::backTo pos (starEach es X.env))) _ _ s
 refine Calls.spliced_cons (thn (ha pins s σ H _ I h) fun u s1 ⟨x,H1,I1,r1,q1⟩=>?_)
 exact thn (hr pos pins s1 σ H1 _ I1 q1) fun us s2 ⟨xs,H2,I2,r2,q2⟩=>⟨x::xs,H2,I2,.cons r1 r2,q2⟩
def tTup (t:TA):TE:=fun σ H Q=>t σ H fun xs H1=>xs.length≤sizeLine∧∀p,H1 p=none→Q (.ref p) (upd H1 p (.tup xs))
def tLst (t:TA):TE:=fun σ H Q=>t σ H fun xs H1=>xs.length≤sizeLine∧∀p,H1 p=none→Q (.ref p) (upd H1 p (.lst xs))
theorem pe_tup {x1}(h:PA X es t):PE X (.Tuple es x1 pos) (tTup t):=by
 intro pins s σ H Q I hq
 refine wpAny_Tuple_spliced (thn (h pos pins s σ H _ I hq) fun us s1 ⟨xs,H1,I1,r,z,q⟩=>⟨by rw[← r.length];exact z,?_⟩)
 have hf:H1 s1.heap.objs.size=none:=I1.hok.fresh (Nat.le_refl _)
 refine⟨.ref s1.heap.objs.size,upd H1 s1.heap.objs.size (.tup xs),I1.laid (t':=s1.toks) (fun b u e=>Heap.get?_push_of_some _ e) (Nat.le_refl _) ?_,rfl,q _ hf⟩
 exact⟨z,us,r,⟨_,Heap.get?_push_size _ rfl,rfl,_,rfl⟩⟩
theorem pe_lst (h:PA X es t):PE X (.List es pos) (tLst t):=by
 intro pins s σ H Q I hq
 refine wpAny_List_spliced (thn (h pos pins s σ H _ I hq) fun us s1 ⟨xs,H1,I1,r,z,q⟩=>⟨by rw[← r.length];exact z,?_⟩)
 have hf:H1 s1.heap.objs.size=none:=I1.hok.fresh (Nat.le_refl _)
 refine⟨.ref s1.heap.objs.size,upd H1 s1.heap.objs.size (.lst xs),I1.laid (t':=s1.toks) (fun b u e=>Heap.get?_push_of_some _ e) (Nat.le_refl _) ?_,rfl,q _ hf⟩
 exact⟨z,us,0,r,Heap.get?_push_size _ rfl⟩
end
abbrev Sp:=List V→Hp→VK→XK→Prop
abbrev CXT:=List Env→Hp→Shared→XK→Value→Shared→Prop
structure Env0 (P:Program) (w:World) (K:PySem.W.Frag) (mg:Str→Option Value) (base:Heap) (A:Around) (outer:List Env) (s:Shared) (H:Hp):Prop where
 frames:A.frames=some outer
 mod:Mod K mg base
 bs:∀b o,base.get? b=some o→s.heap.get? b=some o∧H b=none
 bsz:base.objs.size≤s.heap.objs.size
 funs:s.heap.FunFrames base outer
 frf:∀b∈frs outer,H b=none
 hok:HOk P w H s.heap
 bare:AllBare s.gens
def CE (outer:List Env) (P:Program) (w:World) (H:Hp) (s:Shared) (Q:VK) (u:Value) (s':Shared):Prop :=
 ∃v H',s'.os=s.os∧AllBare s'.gens∧Un (frs outer) [] H H' s.heap s'.heap∧HOk P w H' s'.heap∧RelV v u∧Q v H'
def CR (CX:CXT) (outer:List Env) (P:Program) (w:World) (H:Hp) (s:Shared) (Q:VK) (E:XK) (r:Result) (s':Shared):Prop :=
 match r with
 | .ok (.ret u)=>CE outer P w H s Q u s'
 | .ok _=>False
 | .error e=>CX outer H s E e s'
structure FnOk (P:Program) (w:World) (K:PySem.W.Frag) (mg:Str→Option Value) (base:Heap) (CX:CXT) (k:Nat) (f:Addr) (fd:FuncData) (ps:List Str) (sp:Sp):Prop where
 len:∀vs H Q E,sp vs H Q E→vs.length=ps.length
 run:∀(A:Around) (outer:List Env) (s:Shared) (H:Hp) (args:Args) (us:List Value) (vs:List V) (Q:VK) (E:XK),Room k A→Env0 P w K mg base A outer s H→BindsTo s fd args (ps.zip us)→Vals vs us→sp vs H Q E →
  codeAny (model P w) A (.call (.ref f) args) (CR CX outer P w H s Q E) s
section
variable {X:Cx}{pins:List (Addr×Obj)}{σ:St}{H:Hp}{s s':Shared}
theorem Inv.env0 (I:Inv X pins σ H s):Env0 X.prog X.w X.K X.mg X.base X.A X.stack s H :=
 ⟨I.ok.frames,I.ok.mod,I.bs,Nat.le_trans I.ok.bsz I.sz,I.stack,I.stkFree,I.hok,I.bare⟩
theorem Inv.after {Q:VK}{u:Value}(I:Inv X pins σ H s) (h:CE X.stack X.prog X.w H s Q u s'):EP X pins σ Q u s':=by
 obtain⟨v,H',os,bare,un,hok,r,q⟩:=h
 obtain⟨hh,g,d,t,os'⟩:=s'
 obtain rfl:os'=s.os:=os
 exact⟨v,H',I.call (h':=hh) (g':=g) (d':=d) (t':=t) (ch:=[]) un hok bare (fun b z=>absurd z (by simp)),r,q⟩
end
def tCall (sp:Sp) (dvs:List V) (E:XK) (t:TA):TE:=fun σ H Q=>t σ H fun vs H1=>sp (vs++dvs) H1 Q E
def Binds (K:PySem.W.Frag) (fd:FuncData) (ps:List Str) (ds:List Value):Prop :=
 ∀(s:Shared) (us:List Value),K.In s.heap→(us++ds).length=ps.length→BindsTo s fd ⟨us,[]⟩ (ps.zip (us++ds))
theorem Binds.all {K:PySem.W.Frag}{fd:FuncData}{ps:List Str}(h:∀us:List Value,us.length=ps.length→bindArgs fd ⟨us,[]⟩=pure (ps.zip us)):Binds K fd ps []:=fun s us _ hl=>by
 rw[List.append_nil]at hl ⊢
 exact .of_eq (h us hl)
def Passes (CX:CXT) (X:Cx) (E:XK):Prop:=∀(pins:List (Addr×Obj)) (σ:St) (H:Hp) (s:Shared) (e:Value) (s':Shared),Inv X pins σ H s→CX X.stack H s E e s'→X.xe e s'
section
variable {X:Cx}{CX:CXT}{k:Nat}{f C:Addr}{fd:FuncData}{ps:List Str}{sp:Sp}{dvs:List V}{ds:List Value}{E:XK}{x m:Str}{p pos apos:Pos}{e o:Expr}{es:List Expr}{ta:TE}{t:TA}
theorem run_fn {pins:List (Addr×Obj)}{σ:St}{H:Hp}{s:Shared}{Q:VK}{us:List Value}{vs:List V}(F:FnOk X.prog X.w X.K X.mg X.base CX k f fd ps sp) (hr:Room k X.A) (hb:Binds X.K fd ps ds) (hd:Vals dvs ds) (hx:Passes CX X E)
  (I:Inv X pins σ H s) (r:Vals vs us) (h:sp (vs++dvs) H Q E):wpAny (model X.prog X.w) X.A (call (.ref f) us) (EP X pins σ Q) X.xe s:=by
 have r2:Vals (vs++dvs) (us++ds):=r.append hd
 have hl:(us++ds).length=ps.length:=by rw[← r2.length];exact F.len _ _ _ _ h
 refine wpAny_call (codeAny_mono (F.run X.A X.stack s H ⟨us,[]⟩ (us++ds) (vs++dvs) Q E hr I.env0 (hb s us I.kIn hl) r2 h) fun r s' hq=>?_)
 cases r with
 | error e=>exact hx pins σ H s e s' I hq
 | ok fl =>
  cases fl with
  | ret u=>exact I.after hq
  | next=>exact False.elim hq
  | brk=>exact False.elim hq
  | cont=>exact False.elim hq
theorem pe_call (F:FnOk X.prog X.w X.K X.mg X.base CX k f fd ps sp) (hr:Room k X.A) (hg:Gl X x) (hm:X.mg x=some (.ref f)) (hk:PySem.W.keepIn X.K (.ref f)=true) (hb:Binds X.K fd ps ds) (hd:Vals dvs ds) (hx:Passes CX X E)
  (ha:PA X (e::es) t) (hdb:(x ==("__debug__" : Str))=false:=by decide) (he:starEach (e::es) X.env =(false,eval e X.env)::starEach es X.env:=by rfl) (hpl:(backTo pos (starEach es X.env)).any (·.1)=false:=by rfl) :
  PE X (.Call (.Name x p) (e::es) [] pos) (tCall sp dvs E t):=by
 intro pins s σ H Q I h
 refine wpAny_Call_Name_kw (ld_glob I hg hm ?_ hdb)
 refine PySem.W.callWith_K (h₀:=X.base) I.ok.mod.kin hk (thn (ha pos pins s σ H _ I h) fun us s1 ⟨vs,H1,I1,r,q⟩=>⟨I1.kIn,?_⟩) he hpl
 exact run_fn F hr hb hd hx I1 r q
end
section
variable {X:Cx}{CX:CXT}{k:Nat}{f C:Addr}{fd:FuncData}{ps ks:List Str}{sp:Sp}{E:XK}{x m:Str}{p pos apos kpos:Pos}{e o:Expr}{es:List Expr}{kws:List Keyword}{te ta:TE}{t tk:TA}{nm:Option Str}
variable {g:List Value→List Value→List Value}{gV:List V→List V→List V}
end
structure FnScope (N P:List Str) (sc:Scope):Prop where
 kind:sc.kind = .function
 co:sc.isCoroutine=false
 gen:sc.isGenerator=false
 nd:N.Nodup
 pre:N.take P.length=P
 par:∀x∈P,sc.names.lookup x=some .local∨sc.names.lookup x=some .cell
 nofree:∀y∈sc.names,y.2 ≠ .free
theorem bindL_out {kindOf:Str→Option NameKind}{x:Str}:∀{binds:List (Str×Value)}{m:Str→Option Value},(∀v,(x,v)∉binds)→bindL kindOf binds m x=m x
 | [],_,_=>rfl
 | (n,v)::r,m,h=>by
  unfold bindL
  rw[bindL_out fun w hw=>h w (List.mem_cons_of_mem _ hw)]
  split
  ·have:x≠n:=by rintro rfl;exact h v List.mem_cons_self
   simp[this]
  ·rfl
theorem bindC_out {kindOf:Str→Option NameKind}{x:Str}:∀{binds:List (Str×Value)}{m:Str→Option Value},(∀v,(x,v)∉binds)→bindC kindOf binds m x=m x
 | [],_,_=>rfl
 | (n,v)::r,m,h=>by
  unfold bindC
  rw[bindC_out fun w hw=>h w (List.mem_cons_of_mem _ hw)]
  split
  ·rfl
  ·have:x≠n:=by rintro rfl;exact h v List.mem_cons_self
   simp[this]
theorem bindL_get {kindOf:Str→Option NameKind}{x:Str}{v:Value}:∀{P:List Str}{vs:List Value}{i:Nat}{m:Str→Option Value},P.Nodup→P[i]? = some x→vs[i]? = some v→kindOf x=some .local →
  bindL kindOf (P.zip vs) m x=some v
 | [],_,_,_,_,h,_,_=>by simp at h
 | _::_,[],_,_,_,_,h,_=>by simp at h
 | p::P,w::vs,0,m,nd,h1,h2,hk=>by
  simp at h1 h2;subst h1;subst h2
  show bindL kindOf ((p,w)::P.zip vs) m p=_
  unfold bindL
  rw[bindL_out fun v hv=>(List.nodup_cons.mp nd).1 (List.of_mem_zip hv).1,if_pos hk]
  simp
 | p::P,w::vs,i+1,m,nd,h1,h2,hk=>by
  show bindL kindOf ((p,w)::P.zip vs) m x=_
  unfold bindL
  exact bindL_get (i:=i) (List.nodup_cons.mp nd).2 (by simpa using h1) (by simpa using h2) hk
theorem bindC_get {kindOf:Str→Option NameKind}{x:Str}{v:Value}:∀{P:List Str}{vs:List Value}{i:Nat}{m:Str→Option Value},P.Nodup→P[i]? = some x→vs[i]? = some v→kindOf x≠some .local →
  bindC kindOf (P.zip vs) m x=some v
 | [],_,_,_,_,h,_,_=>by simp at h
 | _::_,[],_,_,_,_,h,_=>by simp at h
 | p::P,w::vs,0,m,nd,h1,h2,hk=>by
  simp at h1 h2;subst h1;subst h2
  show bindC kindOf ((p,w)::P.zip vs) m p=_
  unfold bindC
  rw[bindC_out fun v hv=>(List.nodup_cons.mp nd).1 (List.of_mem_zip hv).1,if_neg hk]
  simp
 | p::P,w::vs,i+1,m,nd,h1,h2,hk=>by
  show bindC kindOf ((p,w)::P.zip vs) m x=_
  unfold bindC
  exact bindC_get (i:=i) (List.nodup_cons.mp nd).2 (by simpa using h1) (by simpa using h2) hk
def start (N:List Str) (vs:List V):St:=vs.map some++List.replicate (N.length-vs.length) none
def cxOf (CX:CXT) (P:Program) (w:World) (K:PySem.W.Frag) (mg:Str→Option Value) (base:Heap) (N:List Str) (qual:Str) (scope:Scope) (f:Addr) (cd:Value) (A:Around) (outer:List Env) (s:Shared) (H:Hp) (E:XK):Cx where
 prog:=P
 w:=w
 K:=K
 mg:=mg
 base:=base
 A:=A.deeper (envOfC qual scope s.heap.objs.size f cd)
 N:=N
 s₀:=s
 H₀:=H
 env:=envOfC qual scope s.heap.objs.size f cd
 outer:=outer
 stack:=envOfC qual scope s.heap.objs.size f cd::outer
 ex:=[]
 calm:=true
 fn:=fun _=>true
 pn:=[]
 xe:=fun e s'=>wpAny (model P w) (A.deeper (envOfC qual scope s.heap.objs.size f cd)) (leaving (envOfC qual scope s.heap.objs.size f cd) e) (fun _ s''=>CX outer H s E e s'') (fun e' s''=>CX outer H s E e' s'') s'
theorem cell_has {sc:Scope}{n:Nat}{x:Str}(h:sc.names.lookup x=some .cell):∃c,(cellsFrom n sc.names []).lookup x=some c:=by
 have q:=PySem.W.cellsFrom_some sc.names n [] (.inl h)
 exact Option.isSome_iff_exists.mp q
theorem inv_start {CX:CXT}{P:Program}{w:World}{K:PySem.W.Frag}{mg:Str→Option Value}{base:Heap}{N ps:List Str}{qual:Str}{scope:Scope}{f:Addr}{cd:Value}{A:Around}{outer:List Env}{s s1:Shared}{H:Hp}{E:XK}{us:List Value}{vs:List V}
  (S:FnScope N ps scope) (hd:A.handled=none) (e0:Env0 P w K mg base A outer s H) (hl:vs.length=ps.length) (r:Vals vs us)
  (x:InCallC s s.heap.objs.size (bindL (envOfC qual scope s.heap.objs.size f cd).kindOf (ps.zip us) fun _=>none) (cellsFrom (s.heap.objs.size+1) scope.names []) (bindC (envOfC qual scope s.heap.objs.size f cd).kindOf (ps.zip us) fun _=>none) s1) :
  Inv (cxOf CX P w K mg base N qual scope f cd A outer s H E) [] (start N vs) H s1:=by
 have hpl:ps.length≤N.length:=by have:=congrArg List.length S.pre;rw[List.length_take]at this;omega
 obtain⟨h1,tk,rfl,hk⟩:=x.done
 have noA:∀b:Addr,b∉(cxOf CX P w K mg base N qual scope f cd A outer s H E).ex:=fun b z=>absurd (show b∈([]:List Addr) from z) (by simp)
 refine⟨⟨e0.mod,S.kind,rfl,rfl,Nat.le_refl _,fun y z c h1 h2=>?_,fun y hy=>?_,fun y c _ h=>?_,fun _=>hd,Around.frames_deeper e0.frames,.inr ⟨rfl,rfl⟩,fun b z=>absurd z (noA b),e0.bs,e0.bsz,fun b _ _=>noA b,fun b z=>absurd z (noA b),e0.funs,e0.frf⟩,
  rfl,e0.bare,Un.kept hk,⟨_,x.toInCall.ns,fun i y v h1 h2 h3=>?_⟩,fun y c h=>⟨_,x.cell y c h⟩,e0.hok.fresh (Nat.le_refl _),fun y c h=>?_,fun p hp=>absurd (show p∈([]:List (Addr×Obj)) from hp) (by simp),e0.hok.kept hk,?_⟩
 ·exact name_of_addr x.apart (PySem.mem_of_lookup h1) (PySem.mem_of_lookup h2)
 ·have hy:scope.names.lookup y=some .cell∨scope.names.lookup y=some .free:=hy
  rcases hy with hy|hy
  ·exact cell_has hy
  ·exact absurd rfl (S.nofree _ (PySem.mem_of_lookup hy))
 ·exact Nat.le_of_lt (x.above y c (PySem.mem_of_lookup h))
 ·have hi:i<vs.length:=by
   unfold start at h2
   by_cases hi:i<vs.length
   ·exact hi
   ·rw[List.getElem?_append_right (by simpa using hi)]at h2
    rw[List.getElem?_replicate]at h2
    split at h2 <;> cases h2
  have ha:vs[i]? = some v:=by
   unfold start at h2
   rw[List.getElem?_append_left (by simpa using hi),List.getElem?_map]at h2
   cases e:vs[i]? with
   | none=>rw[e]at h2;cases h2
   | some a=>rw[e]at h2;cases h2;rfl
  obtain⟨u,hu,rv⟩:=r.get ha
  have hp:ps[i]? = some y:=by
   rw[← S.pre,List.getElem?_take_of_lt (by omega)];exact h1
  have ndP:ps.Nodup:=by rw[← S.pre];exact S.nd.sublist (List.take_sublist _ _)
  refine⟨u,rv,?_⟩
  rcases S.par y (List.mem_of_getElem? hp) with k|k
  ·exact .inl ⟨k,bindL_get ndP hp hu k⟩
  ·obtain⟨c,e⟩:=cell_has (n:=s.heap.objs.size+1) k
   refine .inr ⟨.inl k,c,e,?_⟩
   have q:=x.cell y c e
   rw[bindC_get ndP hp hu (by show scope.names.lookup y≠_;rw[k];decide)]at q
   exact q
 ·exact e0.hok.fresh (Nat.le_of_lt (x.above y c (PySem.mem_of_lookup h)))
 ·unfold start
  show _=N.length
  rw[List.length_append,List.length_map,List.length_replicate]
  omega
theorem fn_of {CX:CXT}{P:Program}{w:World}{K:PySem.W.Frag}{mg:Str→Option Value}{base:Heap}{k:Nat}{f:Addr}{name qual:Str}{params:Arguments}{body:List Stmt}{scope:Scope}{dV kV doc pm cdv ct oc:Value}{an od:Option Addr}
  {osl:Array (Option Value)}{N ps:List Str}{sp:Sp}(lk:K.lookup f=some ⟨oc,od,.func (PySem.W.fnOf name qual params body scope dV kV doc pm an cdv ct),osl⟩) (hcd:PySem.W.codeIn K cdv qual=true) (S:FnScope N ps scope)
  (len:∀vs H Q E,sp vs H Q E→vs.length=ps.length)
  (hbody:∀(A:Around) (outer:List Env) (s:Shared) (H:Hp) (vs:List V) (Q:VK) (E:XK),Room k (A.deeper (envOfC qual scope s.heap.objs.size f cdv))→sp vs H Q E →
   ∃t,PSs (cxOf CX P w K mg base N qual scope f cdv A outer s H E) body t∧t { nx:=fun _ H'=>Q .non H',rt:=Q } (start N vs) H) :
  FnOk P w K mg base CX (k+1) f (PySem.W.fnOf name qual params body scope dV kV doc pm an cdv ct) ps sp:=by
 refine⟨len,fun A outer s H args us vs Q E hr e0 hb r hsp=>?_⟩
 have hl:=len _ _ _ _ hsp
 have KX:K.In s.heap:=e0.mod.kin.keeps fun b o e=>(e0.bs b o e).1
 have lim:s.heap.NoLimit:=e0.mod.nolimit.keeps fun b o e=>(e0.bs b o e).1
 have hkind:∀y∈ps.zip us,scope.names.lookup y.1=some .local ∨(scope.names.lookup y.1=some .cell∧((cellsFrom (s.heap.objs.size+1) scope.names []).lookup y.1).isSome=true):=fun⟨n,v⟩ hy=>by
  rcases S.par n (List.of_mem_zip hy).1 with q|q
  ·exact .inl q
  ·exact .inr ⟨q,PySem.W.cellsFrom_some _ _ _ (.inl q)⟩
 refine codeAny_call_function hr.depth (KX _ _ lk) rfl S.co S.gen rfl (PySem.W.codeRec_of KX hcd) (hb _ _ _ _ ?_)
 refine wpAny_newFunctionEnv_cells S.kind hkind fun env he s1 x=>?_
 subst he
 refine⟨lim.keeps x.toInCall.keep,codeAny_func ?_⟩
 obtain⟨t,ht,hq⟩:=hbody A outer s H vs Q E (hr.deeper _) hsp
 have I:Inv (cxOf CX P w K mg base N qual scope f cdv A outer s H E) [] (start N vs) H s1:=inv_start S hr.hd e0 hl r x
 refine wpAny_mono (ht [] s1 (start N vs) H _ I hq) (fun fl s' hs=>?_) fun e s' hs=>hs
 have fin:∀{σ':St}{H':Hp}{v:V}{u:Value},Inv (cxOf CX P w K mg base N qual scope f cdv A outer s H E) [] σ' H' s'→RelV v u→Q v H'→CE outer P w H s Q u s' :=
  fun {σ' H' v u} J rv q=>⟨v,H',J.os,J.bare,J.base,J.hok,rv,q⟩
 cases fl with
 | ret u =>
  obtain⟨v,σ',H',J,rv,q⟩:=hs
  exact fin J rv q
 | next =>
  obtain⟨σ',H',J,q⟩:=hs
  exact fin (v:=V.non) (u:=Value.none) J rfl q
 | brk =>
  obtain⟨_,_,_,q⟩:=hs
  exact False.elim q
 | cont =>
  obtain⟨_,_,_,q⟩:=hs
  exact False.elim q
end L2
namespace L2
open PySem PySem.Spec PyProof.Rows
section
variable {X:Cx}{x:Str}{p pos:Pos}{e:Expr}{es:List Expr}{t:TA}{id T:String}{r:List V→Hp→VK→Prop}
def tCB (r:List V→Hp→VK→Prop) (t:TA):TE:=fun σ H Q=>t σ H fun vs H1=>r vs H1 Q
theorem pe_callB (hc:CallR X (.builtin id) r) (hg:Gl X x) (hm:X.mg x=none) (hv:bootBuiltins x=some (.builtin id)) (ha:PA X (e::es) t) (hn:x ≠ "__name__" := by decide) (hdb:(x ==("__debug__" : Str))=false:=by decide)
  (he:starEach (e::es) X.env =(false,eval e X.env)::starEach es X.env:=by rfl) (hpl:(backTo pos (starEach es X.env)).any (·.1)=false:=by rfl):PE X (.Call (.Name x p) (e::es) [] pos) (tCB r t):=by
 intro pins s σ H Q I h
 refine wpAny_Call_Name_kw (ld_blt I hg hm hv ?_ hn hdb)
 exact PyProof.Rows.callWith_builtin1 (thn (ha pos pins s σ H _ I h) fun us s1 ⟨vs,H1,I1,r1,q1⟩=>hc pins s1 σ H1 vs us Q I1 r1 q1) he hpl
theorem pe_callTy (hc:CallR X (.type T) r) (hg:Gl X x) (hm:X.mg x=none) (hv:bootBuiltins x=some (.type T)) (ha:PA X (e::es) t) (hn:x ≠ "__name__" := by decide) (hdb:(x ==("__debug__" : Str))=false:=by decide)
  (he:starEach (e::es) X.env =(false,eval e X.env)::starEach es X.env:=by rfl) (hpl:(backTo pos (starEach es X.env)).any (·.1)=false:=by rfl):PE X (.Call (.Name x p) (e::es) [] pos) (tCB r t):=by
 intro pins s σ H Q I h
 refine wpAny_Call_Name_kw (ld_blt I hg hm hv ?_ hn hdb)
 exact PyProof.Rows.callWith_type1 (thn (ha pos pins s σ H _ I h) fun us s1 ⟨vs,H1,I1,r1,q1⟩=>hc pins s1 σ H1 vs us Q I1 r1 q1) he hpl
end
end L2
namespace HT
open PySem PyProof.Rows
section
open PySem.SeqAt
open PySem.AutoSeq1 (wpAny_loadPart')
open PySem.MeetsSeq PySem.MeetsSeq2 PySem.MeetsSeq3
end
section
variable {prog:Program}{w:World}{A:Around}{E:Value→Shared→Prop}{s:Shared}
def sIx (n d:Nat):Option Int→Nat
 | none=>d
 | some v=>if v<0 then(v+(n:Int)).toNat else min v.toNat n
theorem sIx_none (n d:Nat):sIx n d none=d:=rfl
theorem sIx_nat (n d k:Nat):sIx n d (some (k:Int))=min k n:=by
 show(if (k:Int)<0 then((k:Int)+(n:Int)).toNat else min (k:Int).toNat n)=min k n
 rw[if_neg (by omega),Int.toNat_natCast]
end
end HT
namespace L2
open PySem PySem.Spec PyProof.Rows
abbrev TO:=St→Hp→(Option Int→Hp→Prop)→Prop
def PO (X:Cx) (e:Option Expr) (t:TO):Prop :=
 ∀(pins:List (Addr×Obj)) (s:Shared) (σ:St) (H:Hp) (Q:Option Int→Hp→Prop),Inv X pins σ H s→t σ H Q →
  wpAny (model X.prog X.w) X.A (evalPart e X.env) (fun u s'=>∃o H',Inv X pins σ H' s'∧IsPart u o∧Q o H') X.xe s
def tNoPart:TO:=fun _ H Q=>Q none H
def tPart (t:TE):TO:=fun σ H Q=>t σ H fun x H1=>∃i,x = .int i∧Q (some i) H1
theorem intsAre_of {ns:List Int}:∀{us:List Value},Vals (ns.map V.int) us→IntsAre us ns:=by
 induction ns with
 | nil=>intro us r;rw[List.map_nil]at r;cases r;exact .nil
 | cons n ns ih =>
  intro us r
  rw[List.map_cons]at r
  cases r with
  | cons r1 r2 =>
   obtain⟨t,e⟩:=r1
   subst e
   exact .cons n t (ih r2)
section
variable {X:Cx}{e:Expr}{te:TE}{lo hi:Option Expr}{tl th:TO}{pos p2:Pos}
theorem po_none:PO X none tNoPart:=by
 intro pins s σ H Q I h
 rw[evalPart_none]
 exact wpAny_pure ⟨none,H,I,.none,h⟩
theorem po_some (h:PE X e te):PO X (some e) (tPart te):=by
 intro pins s σ H Q I hw
 rw[evalPart_some]
 refine thn (h pins s σ H _ I hw) fun u s1 ⟨x,H1,I1,r1,q1⟩=>?_
 obtain⟨i,rfl,q⟩:=q1
 obtain⟨t,rfl⟩:=r1
 exact⟨some i,H1,I1,.int i t,q⟩
def SlR (X:Cx) (r:V→Option Int→Option Int→Hp→VK→Prop):Prop :=
 ∀(pins:List (Addr×Obj)) (s:Shared) (σ:St) (H:Hp) (x:V) (v vl vu:Value) (lo hi:Option Int) (sl:Addr) (Q:VK),Inv X pins σ H s→RelV x v→s.heap.IsSliceOf sl vl vu .none→IsPart vl lo→IsPart vu hi→r x lo hi H Q →
  ∃T id,typeLookup (.type T) "__getitem__" = pure (some (.builtin id))∧s.TypeIs v T∧wpAny (model X.prog X.w) X.A (getItem v (.ref sl)) (EP X pins σ Q) X.xe s
def tSl (r:V→Option Int→Option Int→Hp→VK→Prop) (te:TE) (tl th:TO):TE:=fun σ H Q=>te σ H fun x H1=>tl σ H1 fun l H2=>th σ H2 fun u H3=>r x l u H3 Q
theorem pe_slice {r:V→Option Int→Option Int→Hp→VK→Prop}(hr:SlR X r) (he:PE X e te) (hl:PO X lo tl) (hu:PO X hi th):PE X (.Subscript e (.Slice lo hi none p2) pos) (tSl r te tl th):=by
 intro pins s σ H Q I h
 refine Subscript_ (thn (he pins s σ H _ I h) fun v s1 ⟨x,H1,I1,r1,q1⟩=>?_)
 refine wpAny_Slice (thn (hl pins s1 σ H1 _ I1 q1) fun vl s2 ⟨l,H2,I2,pl,q2⟩=>thn (hu pins s2 σ H2 _ I2 q2) fun vu s3 ⟨u,H3,I3,pu,q3⟩=>?_)
 rw[evalPart_none]
 refine wpAny_pure ?_
 have I4:Inv X pins σ H3 { s3 with heap:=s3.heap.push { cls:=.type "slice",data:=.fields #[vl,vu,.none] } }:=I3.kept (t':=s3.toks) fun b ob q=>Heap.get?_push_of_some _ q
 obtain⟨T,id,hT,ht,hg⟩:=hr pins { s3 with heap:=s3.heap.push { cls:=.type "slice",data:=.fields #[vl,vu,.none] } } σ H3 x v vl vu l u s3.heap.objs.size Q I4 r1 (Heap.IsSliceOf.new ..) pl pu q3
 show wpAny (model X.prog X.w) X.A (subscriptTail e (.Slice lo hi none p2) v (.ref s3.heap.objs.size)) (EP X pins σ Q) X.xe { s3 with heap:=s3.heap.push { cls:=.type "slice",data:=.fields #[vl,vu,.none] } }
 exact tail_any (ops:=[.ref s3.heap.objs.size,v]) ht hT hg (by with_unfolding_all rfl)
def cutV (xs:List V) (lo hi:Option Int):List V:=(xs.drop (HT.sIx xs.length 0 lo)).take (HT.sIx xs.length xs.length hi-HT.sIx xs.length 0 lo)
theorem cutV_length (xs:List V) (lo hi:Option Int):(cutV xs lo hi).length≤xs.length:=by
 unfold cutV
 rw[List.length_take,List.length_drop]
 omega
end
end L2
namespace L2
open PySem PySem.Spec PyProof.Rows
def ixN (n:Nat) (i:Int):Option Nat:=if 0≤i then(if i<n then some i.toNat else none) else if -(n:Int)≤i then some (i+n).toNat else none
def atI {α:Type}(xs:List α) (i:Int):Option α:=(ixN xs.length i).bind fun j=>xs[j]?
theorem ixN_seq {n:Nat}{i:Int}{j:Nat}(h:ixN n i=some j):seqIndex? i n=some j∧j<n∧-(n:Int)≤i∧i<n:=by
 unfold ixN at h
 by_cases h0:0≤i
 ·rw[if_pos h0]at h
  by_cases h1:i<n
  ·rw[if_pos h1]at h
   have e:i.toNat=j:=Option.some.inj h
   exact⟨by rw[seqIndex_of h0 h1,e],by omega,by omega,h1⟩
  ·rw[if_neg h1]at h;cases h
 ·rw[if_neg h0]at h
  by_cases h1:-(n:Int)≤i
  ·rw[if_pos h1]at h
   have e:(i+n).toNat=j:=Option.some.inj h
   exact⟨by rw[seqIndex_neg (by omega) h1,e],by omega,h1,by omega⟩
  ·rw[if_neg h1]at h;cases h
theorem atI_get {α:Type}{xs:List α}{i:Int}{v:α}(h:atI xs i=some v):∃j,seqIndex? i xs.length=some j∧xs[j]? = some v∧j<xs.length∧-(xs.length:Int)≤i∧i<xs.length:=by
 unfold atI at h
 cases e:ixN xs.length i with
 | none=>rw[e]at h;cases h
 | some j =>
  rw[e]at h
  obtain⟨h1,h2,h3,h4⟩:=ixN_seq e
  exact⟨j,h1,h,h2,h3,h4⟩
theorem atI_nat {α:Type}{xs:List α}{j:Nat}{v:α}(h:xs[j]? = some v):atI xs (j:Int)=some v:=by
 have hj:j<xs.length:=(List.getElem?_eq_some_iff.mp h).1
 have e:ixN xs.length (j:Int)=some j:=by
  unfold ixN
  rw[if_pos (by omega),if_pos (by omega)];simp
 unfold atI;rw[e];exact h
theorem atI_last {α:Type}(xs:List α) (v:α):atI (xs ++ [v]) (-1)=some v:=by
 have hl:(xs ++ [v]).length=xs.length+1:=by simp
 have e:ixN (xs ++ [v]).length (-1)=some xs.length:=by
  unfold ixN
  rw[hl,if_neg (by decide),if_pos (by omega)]
  congr 1
  omega
 unfold atI
 rw[e]
 show(xs ++ [v])[xs.length]? = some v
 simp
def PlainIx (b:Expr):Prop:=∀o i,subscripted b false o i=operate [o,i] (getItem o i)
def IxR (X:Cx) (r:R2):Prop :=
 ∀(value slice:Expr) (pins:List (Addr×Obj)) (s:Shared) (σ:St) (H:Hp) (x y:V) (v u:Value) (Q:VK),Inv X pins σ H s→RelV x v→RelV y u→r x y H Q →
  subscripted slice false v u=operate [v,u] (getItem v u)→wpAny (model X.prog X.w) X.A (subscriptTail value slice v u) (EP X pins σ Q) X.xe s
def MtR (X:Cx) (id:String) (r:V→List V→Hp→VK→Prop):Prop :=
 ∀(pins:List (Addr×Obj)) (s:Shared) (σ:St) (H:Hp) (x:V) (xs:List V) (v:Value) (us:List Value) (Q:VK),Inv X pins σ H s→RelV x v→Vals xs us→r x xs H Q →
  wpAny (model X.prog X.w) X.A (call (.builtin id) (v::us)) (EP X pins σ Q) X.xe s
section
variable {X:Cx}{a b:Expr}{ta tb:TE}{pos:Pos}
theorem pe_ix {r:R2}(hr:IxR X r) (ha:PE X a ta) (hb:PE X b tb) (hs:PlainIx b):PE X (.Subscript a b pos) (tOp r ta tb):=by
 intro pins s σ H Q I h
 exact Subscript_ (binT ha hb I h fun v u s2 x y H2 I2 rx ry q=>hr a b pins s2 σ H2 x y v u Q I2 rx ry q (hs _ _))
def rIxL (K:PySem.W.Frag):R2:=fun x y H Q=>∃p xs i v,x = .ref p∧y = .int i∧SqL K H p xs∧atI xs i=some v∧Q v H
def rIxT (K:PySem.W.Frag):R2:=fun x y H Q=>∃p xs i v,x = .ref p∧y = .int i∧SqT K H p xs∧atI xs i=some v∧Q v H
def rIxS:R2:=fun x y H Q=>∃z i c,x = .str z∧y = .int i∧z.length≤sizeLine∧atI z.cps.toList i=some c∧Q (.str ⟨#[c]⟩) H
theorem ix_list:IxR X (rIxL X.K):=by
 intro value slice pins s σ H x y v u Q I rx ry h hs
 obtain⟨p,xs,i,z,rfl,rfl,hq,he,q⟩:=h
 cases rx
 obtain⟨t,rfl⟩:=ry
 obtain⟨its,r,pl,hz⟩:=I.list hq
 obtain⟨j,h1,h2,h3,h4,h5⟩:=atI_get he
 obtain⟨w,ew,rw'⟩:=r.get h2
 have hl:=r.length
 have hn:=line63
 have fin:EP X pins σ Q w s:=⟨z,H,I,rw',q⟩
 by_cases h0:0≤i
 ·have hj:i.toNat=j:=by
   rw[seqIndex_of h0 h5]at h1
   exact Option.some.inj h1
  exact item_listR pl.isList h0 (by omega) (by rw[hj];simpa using ew) fin hs
 ·have hj:(i+(its.toArray.size:Int)).toNat=j:=by
   rw[seqIndex_neg (by omega) h4]at h1
   rw[List.size_toArray,← hl]
   exact Option.some.inj h1
  exact subscriptTail_builtinR (x:=w) pl.isList.typeIs slot_list_getitem.lookup
   (wpAny_getItem_list_neg (Q:=fun r s'=>r=w∧EP X pins σ Q r s') pl.isList (by omega) (by rw[List.size_toArray] <;> omega) (by omega) (by rw[hj];simpa using ew) ⟨rfl,fin⟩) hs
theorem ix_tup:IxR X (rIxT X.K):=by
 intro value slice pins s σ H x y v u Q I rx ry h hs
 obtain⟨p,xs,i,z,rfl,rfl,hq,he,q⟩:=h
 cases rx
 obtain⟨t,rfl⟩:=ry
 obtain⟨its,r,pl,hz⟩:=I.tuple hq
 obtain⟨j,h1,h2,h3,h4,h5⟩:=atI_get he
 obtain⟨w,ew,rw'⟩:=r.get h2
 have hl:=r.length
 have hn:=line63
 have fin:EP X pins σ Q w s:=⟨z,H,I,rw',q⟩
 exact subscriptTail_builtinR (x:=w) pl.typeIs slot_tuple_getitem.lookup
  (getItem_tuple (j:=j) (Q:=fun r s'=>r=w∧EP X pins σ Q r s') pl (by omega) (by omega) (by rw[List.size_toArray,← hl];exact h1) (by simpa using ew) ⟨rfl,fin⟩) hs
theorem ix_str:IxR X rIxS:=by
 intro value slice pins s σ H x y v u Q I rx ry h hs
 obtain⟨z,i,c,rfl,rfl,hz,he,q⟩:=h
 obtain⟨t,rfl⟩:=rx
 obtain⟨t',rfl⟩:=ry
 obtain⟨j,h1,h2,h3,h4,h5⟩:=atI_get he
 have hl:z.cps.toList.length=z.length:=by simp[Str.length]
 rw[hl]at h1 h4 h5
 have hn:=line63
 exact tail_any (typeIs_str s z t) slot_str_getitem.lookup (getItem_str (c:=c) (by
  have e1:decide (i < -(2^63:Int))=false:=decide_eq_false (by omega)
  have e2:decide (i ≥ 2^63)=false:=decide_eq_false (by omega)
  rw[e1,e2,Bool.or_false]) (by rw[h1];simpa using h2) ⟨.str ⟨#[c]⟩,H,I.tok _,⟨_,rfl⟩,q⟩) hs
theorem mapSeq_set (its:List Value) (n j:Nat) (u:Value):Obj.mapSeq (·.setIfInBounds j u) { cls:=.type "list",data:=.seq its.toArray n } = { cls:=.type "list",data:=.seq (its.set j u).toArray n }:=by
 simp[Obj.mapSeq]
theorem Inv.lst {pins:List (Addr×Obj)}{σ:St}{H:Hp}{s:Shared}{p:Addr}{xs:List V}(I:Inv X pins σ H s) (h:H p=some (.lst xs)) :
  ∃(its:List Value) (n:Nat),Vals xs its∧s.heap.get? p=some { cls:=.type "list",data:=.seq its.toArray n }∧xs.length≤sizeLine:=by
 obtain⟨z,its,n,r,e⟩:=I.hok p _ h
 exact⟨its,n,r,e,z⟩
theorem Inv.lstUpd {pins:List (Addr×Obj)}{σ:St}{H:Hp}{s:Shared}{p:Addr}{xs ys:List V}{its its':List Value}{n n':Nat}{f:Obj→Obj}(I:Inv X pins σ H s) (h:H p=some (.lst xs))
  (ho:s.heap.get? p=some { cls:=.type "list",data:=.seq its.toArray n }) (hf:f { cls:=.type "list",data:=.seq its.toArray n } = { cls:=.type "list",data:=.seq its'.toArray n' }) (r:Vals ys its') (hz:ys.length≤sizeLine) (t:Nat) :
  Inv X pins σ (upd H p (.lst ys)) { s with heap:=s.heap.update p f,toks:=t }:=by
 have e:(s.heap.update p f).get? p=some { cls:=.type "list",data:=.seq its'.toArray n' }:=by
  rw[Heap.get?_update_self f ho (by rw[hf] <;> rfl),hf]
 refine I.write (x:=p) (e:=p) (by rw[h];trivial) (.inl rfl) (fun b u hb q=>(Heap.get?_update_other _ _ (Ne.symm hb)).trans q) ⟨_,e⟩ ?_
 exact⟨hz,its',n',r,e⟩
def rSetL:V→V→V→Hp→(Hp→Prop)→Prop:=fun o i v H Q=>∃p xs k j,o = .ref p∧i = .int k∧H p=some (.lst xs)∧ixN xs.length k=some j∧Q (upd H p (.lst (xs.set j v)))
theorem set_list:PSet X rSetL:=by
 intro pins s σ H o i v ov iv u Q I ro ri rv h
 obtain⟨p,xs,k,j,rfl,rfl,hp,hj,q⟩:=h
 cases ro
 obtain⟨t,rfl⟩:=ri
 obtain⟨its,n,r,ho,hz⟩:=I.lst hp
 obtain⟨h1,h2,h3,h4⟩:=ixN_seq hj
 have hl:=r.length
 have hn:=line63
 have I':Inv X pins σ (upd H p (.lst (xs.set j v))) { s with heap:=s.heap.update p (Obj.mapSeq (·.setIfInBounds j u)) } :=
  I.lstUpd hp ho (mapSeq_set its n j u) (r.set rv j) (by rw[List.length_set];exact hz) s.toks
 by_cases h0:0≤k
 ·have hk:k.toNat=j:=by
   rw[seqIndex_of h0 h4]at h1
   exact Option.some.inj h1
  exact PySem.W.ki_setAt ho h0 (by omega) (by rw[List.size_toArray,← hl];exact h4) (by rw[hk];exact⟨_,I',q⟩)
 ·have hk:(k+(its.toArray.size:Int)).toNat=j:=by
   rw[seqIndex_neg (by omega) h3]at h1
   rw[List.size_toArray,← hl]
   exact Option.some.inj h1
  exact PySem.W.ki_setBack ho (by omega) (by rw[List.size_toArray,← hl];exact h3) (by omega) (by rw[hk];exact⟨_,I',q⟩)
theorem slice_bounds (lo hi:Option Int) (n:Nat):(sliceBounds lo hi none n).1 =((HT.sIx n 0 lo:Nat):Int)∧(sliceBounds lo hi none n).2.1 =((HT.sIx n n hi:Nat):Int)∧(sliceBounds lo hi none n).2.2=1:=by
 refine⟨?_,?_,rfl⟩
 ·cases lo with
  | none=>simp[sliceBounds,HT.sIx]
  | some i =>
   simp only[sliceBounds,HT.sIx,Option.getD_none,show(1:Int) > 0 by decide,if_true]
   by_cases h:i<0
   ·simp only[h,if_true] <;> omega
   ·simp only[h,if_false] <;> omega
 ·cases hi with
  | none=>simp[sliceBounds,HT.sIx]
  | some i =>
   simp only[sliceBounds,HT.sIx,Option.getD_none,show(1:Int) > 0 by decide,if_true]
   by_cases h:i<0
   ·simp only[h,if_true] <;> omega
   ·simp only[h,if_false] <;> omega
theorem slicePick_cut (its:List Value) (lo hi:Option Int):slicePick its.toArray lo hi none =((its.drop (HT.sIx its.length 0 lo)).take (HT.sIx its.length its.length hi-HT.sIx its.length 0 lo)).toArray:=by
 obtain⟨h1,h2,h3⟩:=slice_bounds lo hi its.toArray.size
 unfold slicePick
 rw[h1,h2,h3]
 simp only[sliceRange_one,pick_run,List.size_toArray] <;> rfl
def rSlL (K:PySem.W.Frag):V→Option Int→Option Int→Hp→VK→Prop:=fun x lo hi H Q=>∃a xs,x = .ref a∧SqL K H a xs∧∀p,H p=none→Q (.ref p) (upd H p (.lst (cutV xs lo hi)))
theorem sl_list:SlR X (rSlL X.K):=by
 intro pins s σ H x v vl vu lo hi sl Q I rx hs pl pu h
 obtain⟨a,xs,rfl,hx,q⟩:=h
 cases rx
 obtain⟨its,r,ht,hz⟩:=I.list hx
 have hlen:=r.length
 refine⟨"list",_,slot_list_getitem.lookup,ht.isList.typeIs,?_⟩
 refine wpAny_getItem_list_slice ht.isList hs pl pu .none (by simp) ?_ (by rw[List.size_toArray] <;> omega)
 rw[slicePick_cut,← hlen]
 refine⟨.ref s.heap.objs.size,_,I.laid (t':=s.toks) (o:=.lst (cutV xs lo hi)) (fun b ob q=>Heap.get?_push_of_some _ q) (Nat.le_refl _) ?_,rfl,q _ (I.hok.fresh (Nat.le_refl _))⟩
 exact⟨Nat.le_trans (cutV_length xs lo hi) hz,_,0,(r.drop (HT.sIx xs.length 0 lo)).take (HT.sIx xs.length xs.length hi-HT.sIx xs.length 0 lo),Heap.get?_push_size _ rfl⟩
theorem call_len_seq:CallR X (.builtin "len") (fun xs H Q=>∃p ys,xs=[.ref p]∧(SqL X.K H p ys∨SqT X.K H p ys)∧Q (.int ys.length) H):=by
 intro pins s σ H xs us Q I r h
 obtain⟨p,ys,rfl,hq,q⟩:=h
 obtain⟨u,rfl,rx⟩:=vals1 r
 cases rx
 have hn:=line63
 rcases hq with hq|hq
 ·obtain⟨its,r',pl,hz⟩:=I.list hq
  have hlen:=r'.length
  exact Calls.call_len_list pl.isList (by simp only[List.size_toArray] <;> omega) ⟨.int ys.length,H,I.tok _,⟨s.toks+1,by rw[List.size_toArray,hlen]⟩,q⟩
 ·obtain⟨its,r',pl,hz⟩:=I.tuple hq
  have hlen:=r'.length
  exact len_tuple pl (by simp only[List.size_toArray] <;> omega) ⟨.int ys.length,H,I.tok _,⟨s.toks+1,by rw[List.size_toArray,hlen]⟩,q⟩
theorem call_list_of:CallR X (.type "list") (fun xs H Q=>∃p ys,xs=[.ref p]∧(SqL X.K H p ys∨SqT X.K H p ys)∧∀l,H l=none→Q (.ref l) (upd H l (.lst ys))):=by
 intro pins s σ H xs us Q I r h
 obtain⟨p,ys,rfl,hq,q⟩:=h
 obtain⟨u,rfl,rx⟩:=vals1 r
 cases rx
 have fin:∀(its:List Value),Vals ys its→ys.length≤sizeLine→∀(h':Heap) (c':Nat),(∀b o',s.heap.get? b=some o'→h'.get? b=some o') →
   h'.get? s.heap.objs.size=some { cls:=.type "list",dict:=none,data:=.seq its.toArray c',slots:=#[] }→EP X pins σ Q (.ref s.heap.objs.size) { s with heap:=h' }:=fun its r' hz h' c' kp e =>
  ⟨.ref s.heap.objs.size,_,I.laid (t':=s.toks) kp (Nat.le_refl _) (show ObjOk X.prog X.w _ h' _ (.lst ys) from⟨hz,its,c',r',e⟩),rfl,q _ (I.hok.fresh (Nat.le_refl _))⟩
 rcases hq with hq|hq
 ·obtain⟨its,r',pl,hz⟩:=I.list hq
  have hlen:=r'.length
  obtain⟨o,ho,hc,n,hd⟩:=pl.isList
  exact call_list_seq p (.inl rfl) ho hc hd (fun h' c' kp e=>fin its r' hz h' c' kp e) (by simp only[List.size_toArray] <;> omega)
 ·obtain⟨its,r',pl,hz⟩:=I.tuple hq
  have hlen:=r'.length
  obtain⟨o,ho,hc,n,hd⟩:=pl
  exact call_list_seq p (.inr rfl) ho hc hd (fun h' c' kp e=>fin its r' hz h' c' kp e) (by simp only[List.size_toArray] <;> omega)
def tyV (K:PySem.W.Frag) (T:String) (x:V) (H:Hp):Prop:=match x with
 | .str _=>T = "str"
 | .int _=>T = "int"
 | .ref p=>(T = "list"∧∃xs,SqL K H p xs) ∨(T = "tuple"∧∃o,K.lookup p=some o∧o.cls = .type "tuple"∧o.dict=none) ∨
   (T = "dict"∧((∃kvs,H p=some (.dK kvs)) ∨ ∃kvs,H p=some (.dT kvs))) ∨(T = "set"∧∃S n,H p=some (.set S n))
 | _=>False
theorem tyV_is {pins:List (Addr×Obj)}{σ:St}{H:Hp}{s:Shared}{T:String}{x:V}{v:Value}(I:Inv X pins σ H s) (r:RelV x v) (ty:tyV X.K T x H) :
  s.TypeIs v T∧∀a,v = .ref a→∃ob,s.heap.get? a=some ob∧ob.dict=none:=by
 cases x with
 | str z =>
  obtain⟨t,rfl⟩:=r
  cases (show T = "str" from ty)
  exact⟨typeIs_str s z t,fun _ e=>nomatch e⟩
 | int i =>
  obtain⟨t,rfl⟩:=r
  cases (show T = "int" from ty)
  exact⟨typeIs_int s i t,fun _ e=>nomatch e⟩
 | ref p =>
  cases r
  rcases ty with⟨rfl,xs,hq⟩|⟨rfl,o,hk,hc,hd⟩|⟨rfl,hk⟩|⟨rfl,S,n,hk⟩
  ·obtain⟨its,_,pl,_⟩:=I.list hq
   refine⟨pl.isList.typeIs,fun a e=>?_⟩
   cases e
   obtain⟨o,n,e,c,hd,_⟩:=pl
   exact⟨o,e,hd⟩
  ·refine⟨⟨o,I.kIn p o hk,hc⟩,fun a e=>?_⟩
   cases e
   exact⟨o,I.kIn _ o hk,hd⟩
  ·have z:∃o,s.heap.get? p=some o∧o.ExactDict:=by
    rcases hk with⟨kvs,hk⟩|⟨kvs,hk⟩
    ·obtain⟨_,_,_,_,o,_,_,e,ex,_⟩:=I.hok p _ hk
     exact⟨o,e,ex⟩
    ·obtain⟨_,_,_,_,o,_,_,e,ex,_⟩:=I.hok p _ hk
     exact⟨o,e,ex⟩
   obtain⟨o,e,ex⟩:=z
   refine⟨⟨o,e,ex.1⟩,fun a e2=>?_⟩
   cases e2
   exact⟨o,e,ex.2.1⟩
  ·obtain⟨o,_,_,_,e,ex,_⟩:=I.hok p _ hk
   refine⟨⟨o,e,ex.1⟩,fun a e2=>?_⟩
   cases e2
   exact⟨o,e,ex.2.1⟩
 | _=>exact False.elim ty
def tBM0 (K:PySem.W.Frag) (T:String) (r:V→List V→Hp→VK→Prop) (to:TE):TE:=fun σ H Q=>to σ H fun x H1=>tyV K T x H1∧r x [] H1 Q
def tBM (K:PySem.W.Frag) (T:String) (r:V→List V→Hp→VK→Prop) (to:TE) (t:TA):TE:=fun σ H Q=>to σ H fun x H1=>tyV K T x H1∧t σ H1 fun xs H2=>r x xs H2 Q
variable {o e:Expr}{es:List Expr}{to:TE}{t:TA}{name:Str}{apos cpos:Pos}{T id:String}{r:V→List V→Hp→VK→Prop}
theorem pe_bm0 (pa:PlainAttrs T) (slot:Slot T name id) (hty:typeOf (.builtin id)=pure (.type "method_descriptor")) (hm:MtR X id r) (ho:PE X o to)
  (hbase:attributeBase o name X.env (eval o X.env)=eval o X.env:=by rfl) (hline:(apos.endLine == cpos.line)=true:=by rfl):PE X (.Call (.Attribute o name apos) [] [] cpos) (tBM0 X.K T r to):=by
 intro pins s σ H Q I h
 refine wpAny_Call_method0_late hbase hline (thn (ho pins s σ H _ I h) fun v s1 ⟨x,H1,I1,r1,ty,q1⟩=>?_)
 obtain⟨h1,h2⟩:=tyV_is I1 r1 ty
 exact⟨T,id,pa,slot,hty,h1,h2,Calls.callWith_builtin rfl (PySem.evalArgs_none (hm pins s1 σ H1 x [] v [] Q I1 r1 .nil q1))⟩
theorem pe_bm (pa:PlainAttrs T) (slot:Slot T name id) (hty:typeOf (.builtin id)=pure (.type "method_descriptor")) (hm:MtR X id r) (ho:PE X o to) (ha:PA X (e::es) t)
  (hbase:attributeBase o name X.env (eval o X.env)=eval o X.env:=by rfl)
  (hfew:((backTo cpos (starEach (e::es) X.env)).all (fun x=>!x.1) && (backToKw cpos (keywordEach [] X.env)).all (fun x=>x.1.isSome)
   && decide ((e::es).length+([]:List Keyword).length+(if ([]:List Keyword).isEmpty then 0 else 1)<30))=true:=by rfl)
  (hline:(apos.endLine == cpos.line)=true:=by rfl) (hs:starEach (e::es) X.env =(false,eval e X.env)::starEach es X.env:=by rfl) (hplain:(backTo cpos (starEach es X.env)).any (·.1)=false:=by rfl) :
  PE X (.Call (.Attribute o name apos) (e::es) [] cpos) (tBM X.K T r to t):=by
 intro pins s σ H Q I h
 refine wpAny_Call_method_late hbase hfew hline rfl (thn (ho pins s σ H _ I h) fun v s1 ⟨x,H1,I1,r1,ty,q1⟩=>?_)
 obtain⟨h1,h2⟩:=tyV_is I1 r1 ty
 refine⟨T,id,pa,slot,hty,h1,h2,?_⟩
 have hA:=ha cpos pins s1 σ H1 _ I1 q1
 rw[hs]at hA ⊢
 refine Calls.callWith_builtin (by show(false || (backTo cpos (starEach es X.env)).any (·.1))=false;rw[hplain] <;> rfl) (Calls.evalArgs_plain ?_)
 exact thn hA fun us s2 ⟨vs,H2,I2,r2,q2⟩=>hm pins s2 σ H2 x vs v us Q I2 r1 r2 q2
end
end L2
namespace L2
open PySem PySem.Spec PyProof.Rows
def MtM (X:Cx) (id:String) (r:V→List V→Hp→VK→Prop):Prop :=
 ∀(pins:List (Addr×Obj)) (s:Shared) (σ:St) (H:Hp) (x:V) (xs:List V) (v:Value) (us:List Value) (Q:VK),Inv X pins σ H s→RelV x v→Vals xs us→r x xs H Q →
  wpAny (model X.prog X.w) X.A (call (.builtin id) (v::us)) (EP X pins σ Q) X.xe s
theorem Vals.one:∀{x:V}{us:List Value},Vals [x] us→∃u,us=[u]∧RelV x u
 | _,_,.cons r .nil=>⟨_,rfl,r⟩
theorem Vals.zero:∀{us:List Value},Vals [] us→us=[]
 | _,.nil=>rfl
theorem Vals.dropLast {xs:List V}{us:List Value}(h:Vals xs us):Vals xs.dropLast us.dropLast:=by
 induction h with
 | nil=>exact .nil
 | cons r t ih =>
  cases t with
  | nil=>exact .nil
  | cons q t'=>exact .cons r ih
theorem Vals.reverse {xs:List V}{us:List Value}(h:Vals xs us):Vals xs.reverse us.reverse:=by
 induction h with
 | nil=>exact .nil
 | cons r t ih=>rw[List.reverse_cons,List.reverse_cons];exact Vals.append ih (.cons r .nil)
theorem Vals.rep {xs:List V}{us:List Value}(h:Vals xs us):∀k:Nat,Vals (List.replicate k xs).flatten (List.replicate k us).flatten
 | 0=>.nil
 | k+1=>by
  rw[List.replicate_succ,List.replicate_succ,List.flatten_cons,List.flatten_cons]
  exact Vals.append h (Vals.rep h k)
theorem erase_last {α:Type}(l:List α):l.eraseIdx (l.length-1)=l.dropLast:=by
 induction l with
 | nil=>rfl
 | cons a r ih =>
  cases r with
  | nil=>rfl
  | cons b r =>
   have e:(a::b::r).length-1 =((b::r).length-1)+1:=by
    have h1:(a::b::r).length=r.length+2:=rfl
    have h2:(b::r).length=r.length+1:=rfl
    omega
   rw[e,List.eraseIdx_cons_succ,ih]
   all_goals rfl
theorem foldl_rep (its:List Value):∀(k:Nat) (acc:List Value),
  List.foldl (fun x1 x2=>x1++x2) acc.toArray (List.replicate k its.toArray) =(acc++(List.replicate k its).flatten).toArray
 | 0,acc=>by simp
 | k+1,acc=>by
  have e:acc.toArray++its.toArray =(acc++its).toArray:=by simp
  have e2:(acc++its)++(List.replicate k its).flatten=acc++(List.replicate (k+1) its).flatten:=by
   rw[List.replicate_succ,List.flatten_cons,List.append_assoc]
  rw[← e2,← foldl_rep its k (acc++its),← e,List.replicate_succ,List.foldl_cons]
section
variable {X:Cx}{pins:List (Addr×Obj)}{σ:St}{H:Hp}{s:Shared}{l b:Addr}{xs ys zs:List V}
theorem Inv.lset {its its':List Value}{n:Nat}{f:Array Value→Array Value}{t':Nat}(I:Inv X pins σ H s) (hH:H l=some (.lst xs))
  (e:s.heap.get? l=some { cls:=.type "list",data:=.seq its.toArray n }) (hf:f its.toArray=its'.toArray) (hv:Vals ys its') (hz:ys.length≤sizeLine) :
  Inv X pins σ (upd H l (.lst ys)) { s with heap:=s.heap.update l (Obj.mapSeq f),toks:=t' }:=by
 have q:=PySem.IsL.update e f
 rw[hf]at q
 refine I.write (x:=l) (e:=l) (by rw[hH];exact trivial) (.inl rfl) (fun b' u hb hu=>(Heap.get?_update_other s.heap (Obj.mapSeq f) (Ne.symm hb)).trans hu) ⟨_,q⟩ ?_
 exact⟨hz,its',_,hv,q⟩
theorem Inv.lnew {its:List Value}{t':Nat}(I:Inv X pins σ H s) (hv:Vals ys its) (hz:ys.length≤sizeLine) :
  Inv X pins σ (upd H s.heap.objs.size (.lst ys)) { s with heap:=s.heap.push { cls:=.type "list",data:=.seq its.toArray },toks:=t' } :=
 I.laid (fun _ _ q=>Heap.get?_push_of_some _ q) (Nat.le_refl _) ⟨hz,its,0,hv,Heap.get?_push_size _ rfl⟩
theorem Inv.fresh (I:Inv X pins σ H s):H s.heap.objs.size=none:=I.hok.fresh (Nat.le_refl _)
theorem Inv.lstM (I:Inv X pins σ H s) (hH:H l=some (.lst xs)):xs.length≤sizeLine∧∃(its:List Value) (n:Nat),Vals xs its∧xs.length=its.length∧s.heap.get? l=some { cls:=.type "list",data:=.seq its.toArray n }:=by
 obtain⟨z,its,n,r,e⟩:=I.hok l _ hH
 exact⟨z,its,n,r,r.length,e⟩
theorem notLongL {n:Nat}(h:n≤sizeLine):Builtin.List.listTooLong n=false:=by
 unfold Builtin.List.listTooLong
 exact decide_eq_false (by omega)
end
section
variable {X:Cx}
def rAppend:V→List V→Hp→VK→Prop:=fun x vs H Q=>∃l xs y,x = .ref l∧vs=[y]∧H l=some (.lst xs)∧xs.length<sizeLine∧Q .non (upd H l (.lst (xs ++ [y])))
theorem mt_append:MtM X "list.append" rAppend:=by
 intro pins s σ H x vs v us Q I rx rv h
 obtain⟨l,xs,y,rfl,rfl,hH,hz,q⟩:=h
 cases rx
 obtain⟨u,rfl,ru⟩:=rv.one
 obtain⟨z,its,n,r,hl,e⟩:=I.lstM hH
 refine call_meets F.slot_list_append ⟨_,e,rfl⟩ F.entry_list_append (F.args_list_append_2 _ _) (PySem.list_append l its.toArray n u (by rw[List.size_toArray];omega)) ⟨e,?_⟩
 refine⟨.non,_,I.lset (its':=its ++ [u]) hH e (by simp) (r.append (.cons ru .nil)) ?_,rfl,q⟩
 rw[List.length_append,List.length_singleton]
 omega
def rExtend:V→List V→Hp→VK→Prop:=fun x vs H Q=>∃l b xs zs,x = .ref l∧vs=[.ref b]∧H l=some (.lst xs)∧H b=some (.lst zs)∧xs.length+zs.length≤sizeLine∧Q .non (upd H l (.lst (xs++zs)))
theorem mt_extend:MtM X "list.extend" rExtend:=by
 intro pins s σ H x vs v us Q I rx rv h
 obtain⟨l,b,xs,zs,rfl,rfl,hH,hB,hz,q⟩:=h
 cases rx
 obtain⟨u,rfl,ru⟩:=rv.one
 cases ru
 obtain⟨z,its,n,r,hl,e⟩:=I.lstM hH
 obtain⟨z2,its2,n2,r2,hl2,e2⟩:=I.lstM hB
 have hsz:its.toArray.size+its2.toArray.size≤sizeLine:=by rw[List.size_toArray,List.size_toArray];omega
 have hlong:¬(!its.toArray.isEmpty && Builtin.List.listTooLong (its.toArray.size+its2.toArray.size))=true:=by
  rw[notLongL hsz,Bool.and_false]
  exact Bool.false_ne_true
 refine call_meets F.slot_list_extend ⟨_,e,rfl⟩ F.entry_list_extend (F.args_list_extend_2 _ _)
  (AutoSeq1.list_extend_list_list_0 l its.toArray n b its2.toArray n2 hlong (by rw[List.size_toArray];omega) (by omega)) ⟨e,e2,?_⟩
 refine⟨.non,_,I.lset (its':=its++its2) hH e (by simp) (r.append r2) ?_,rfl,q⟩
 rw[List.length_append]
 omega
def rPop:V→List V→Hp→VK→Prop:=fun x vs H Q=>∃l xs y,x = .ref l∧vs=[]∧H l=some (.lst xs)∧xs[xs.length-1]? = some y∧Q y (upd H l (.lst xs.dropLast))
theorem mt_pop:MtM X "list.pop" rPop:=by
 intro pins s σ H x vs v us Q I rx rv h
 obtain⟨l,xs,y,rfl,rfl,hH,hy,q⟩:=h
 cases rx
 have hus:=rv.zero
 subst hus
 obtain⟨z,its,n,r,hl,e⟩:=I.lstM hH
 obtain⟨u,hu,ru⟩:=r.get hy
 have hy':its.toArray[its.toArray.size-1]? = some u:=by
  show its.toArray[its.length-1]? = some u
  rw[← Array.getElem?_toList,← hl]
  exact hu
 refine call_meets F.slot_list_pop ⟨_,e,rfl⟩ F.entry_list_pop (F.args_list_pop_1 _) (MeetsSeq.list_pop_last l its.toArray n u hy' (by rw[List.size_toArray];omega)) ⟨e,?_⟩
 refine⟨y,_,I.lset (its':=its.dropLast) hH e ?_ r.dropLast ?_,ru,q⟩
 ·show its.toArray.eraseIdxIfInBounds (its.toArray.size-1)=its.dropLast.toArray
  rw[List.size_toArray,List.eraseIdxIfInBounds_toArray,erase_last]
 ·rw[List.length_dropLast]
  omega
def rCat:R2:=fun x y H Q=>∃l b xs zs,x = .ref l∧y = .ref b∧H l=some (.lst xs)∧H b=some (.lst zs)∧xs.length+zs.length≤sizeLine∧∀p,H p=none→Q (.ref p) (upd H p (.lst (xs++zs)))
theorem op_cat:OpR X (binaryOp .Add) rCat:=by
 intro pins s σ H x y v u Q I rx ry h
 obtain⟨l,b,xs,zs,rfl,rfl,hH,hB,hz,q⟩:=h
 cases rx
 cases ry
 obtain⟨z,its,n,r,hl,e⟩:=I.lstM hH
 obtain⟨z2,its2,n2,r2,hl2,e2⟩:=I.lstM hB
 refine PySem.P.add_list e e2 ?_ (by rw[List.size_toArray,List.size_toArray];omega)
 have ea:its.toArray++its2.toArray =(its++its2).toArray:=by simp
 rw[ea]
 exact⟨.ref _,_,I.lnew (t':=s.toks) (r.append r2) (by rw[List.length_append];omega),rfl,q _ I.fresh⟩
def rRep:R2:=fun x y H Q=>∃l k xs,x = .ref l∧y = .int k∧H l=some (.lst xs)∧-(2^63)≤k∧k<2^63∧xs.length*k.toNat≤sizeLine ∧
 ∀p,H p=none→Q (.ref p) (upd H p (.lst (List.replicate k.toNat xs).flatten))
theorem len_rep {α:Type}(xs:List α) (k:Nat):(List.replicate k xs).flatten.length=k*xs.length:=by
 induction k with
 | zero=>simp
 | succ k ih=>rw[List.replicate_succ,List.flatten_cons,List.length_append,ih,Nat.succ_mul,Nat.add_comm]
theorem op_rep:OpR X (binaryOp .Mult) rRep:=by
 intro pins s σ H x y v u Q I rx ry h
 obtain⟨l,k,xs,rfl,rfl,hH,h1,h2,hz,q⟩:=h
 cases rx
 obtain⟨t,rfl⟩:=ry
 obtain⟨z,its,n,r,hl,e⟩:=I.lstM hH
 have hlen:its.toArray.size*k.toNat≤sizeLine:=by rw[List.size_toArray,← hl];exact hz
 have hcap:¬ its.toArray.size*k.toNat > (2^63-1) / 8:=by
  have:(sizeLine:Nat) ≤(2^63-1) / 8:=by decide
  omega
 have hfit:¬(!Builtin.List.listFitsIndex k)=true:=by
  rw[fitsIndex_both h1 h2]
  exact Bool.false_ne_true
 have hlong:¬ Builtin.List.listTooLong (its.toArray.size*k.toNat)=true:=by
  rw[notLongL hlen]
  exact Bool.false_ne_true
 have hnew:List.foldl (fun x1 x2=>x1++x2) #[] (List.replicate (if its.toArray.isEmpty=true then 0 else k.toNat) its.toArray) =(List.replicate k.toNat its).flatten.toArray:=by
  have f0:∀m:Nat,List.foldl (fun x1 x2=>x1++x2) #[] (List.replicate m its.toArray) =(List.replicate m its).flatten.toArray:=fun m=>by
   have:=foldl_rep its m []
   rw[List.nil_append]at this
   exact this
  rw[f0]
  cases its with
  | nil=>simp
  | cons a r'=>rw[if_neg (by simp)]
 refine wpAny_binaryOp_repeat_ref (T := "list") (U := "int") (by decide) ⟨_,e,rfl⟩ (fun s'=>typeIs_int s' k t) noFill_list_mul F.fills_int_mul F.slot_int_rmul repeat_list F.slot_int_index.lookup
  (call_meets F.slot_int_rmul (typeIs_int s k t) F.entry_int_rmul (F.args_int_rmul_2 _ _) (int___rmul___int_list k t l its.toArray n)
   ⟨e,rfl,⟨_,e,rfl⟩,call_meets F.slot_list_mul ⟨_,e,rfl⟩ F.entry_list_mul (F.args_list_mul_2 _ _) (AutoListH.list___mul___list_int_3 l its.toArray n k t hfit hcap hlong) ⟨e,?_⟩⟩)
 rw[hnew]
 exact⟨.ref _,_,I.lnew (t':=s.toks) (r.rep k.toNat) (by rw[len_rep,Nat.mul_comm];exact hz),rfl,q _ I.fresh⟩
end
section
variable {prog:Program}{w:World}{A:Around}{E:Value→Shared→Prop}{s:Shared}
end
section
variable {X:Cx}
end
end L2
namespace Att
open PySem PySem.W PySem.Calls PyProof.Rows
theorem ints_of_wellAll {P:Params}{h:Heap}:∀(ns:List Int) (vs:List Value),WellAll P h vs (ns.map WData.int)→IntsAre vs ns:=by
 intro ns
 induction ns with
 | nil =>
  intro vs w
  rw[List.map_nil]at w
  cases w
  exact .nil
 | cons n ns ih =>
  intro vs w
  rw[List.map_cons]at w
  cases w with
  | cons a b =>
   cases a
   exact .cons _ _ (ih _ b)
theorem script_of {l:OpenLaw}{n:Nat}(hn:l.most=some n) {P:Params}{h:Heap}{args:List WData}{vals:List Value}
  (hpre:l.row.toRowW.claim.pre args=true) (hwl:WellAll P h vals args) :
  ∃a vs ns,vals=[Value.ref a]∧args=[WData.list (ns.map WData.int)]∧h.get? a=some { cls:=.type "list",data:=.seq vs.toArray }∧IntsAre vs ns∧ns.length≤n:=by
 have hsh:WShape.hasAll [] args [.list .int]=true:=(pre_splitW hpre).1
 have hc:l.pre.holds [] { args:=args } = true:=(pre_splitW hpre).2
 obtain⟨d,r,rfl,h1,h2⟩:=hasAllW_cons hsh
 obtain rfl:=hasAllW_nil h2
 obtain⟨xs,rfl,h3⟩:=hasW_list h1
 obtain⟨ns,rfl⟩:=items_int h3
 have hlen:ns.length≤n:=by
  unfold OpenLaw.pre at hc
  have h4:(WTm.not (.lt (.lit (.int (n:Int))) (.len (.arg 0)))).holds [] { args:=[.list (ns.map .int)] } = true:=by
   have h4:=(holds_andW hc).1
   rw[hn]at h4
   exact h4
  have h5:=condW_of h4 (w_not (w_lt w_lit (w_len_list (w_arg rfl))))
  rw[List.length_map]at h5
  refine Nat.le_of_not_lt fun q=>?_
  have q':(n:Int) <((ns.length:Nat):Int):=by omega
  first
   | (rw[decide_eq_true q']at h5;exact absurd h5 (by decide))
   | (simp at h5;omega)
 cases hwl with
 | cons w1 w2 =>
  cases w2
  cases w1 with
  | list ho hall=>exact⟨_,_,ns,rfl,rfl,ho,ints_of_wellAll ns _ hall,hlen⟩
theorem post_true (l:OpenLaw) (args:List WData):l.row.toRowW.claim.post args (.bool true) args=true :=
 postW_of (r:=l.row.toRowW) (X:=(true == true))
  (show WShape.has [] (.bool true) .bool=true by first|rfl|decide|simp[WShape.has,WShape.arms,WShape.armsAll])
  (show(WTm.eq .res (.lit (.bool true))).value [] { args:=args,res:=some (.bool true),after:=args } = some (.bool (true == true)) from w_eq_bool (w_res rfl) w_lit) rfl
theorem attach_call {l:OpenLaw}{n:Nat}{q:Program}{loose:List Str}{XP:(Str→Option Value)→Heap→Prop}{YP:World→Heap→Prop}{d:DefRec}
  (hn:l.most=some n) (hdf:d.params.defaults=[])
  (call:∀(w:World) (s₀ s₁:Shared) (mg mb:Str→Option Value) (fa:Addr) (o:Obj) (pm cd doc:Value) (a:Addr) (vs:List Value) (ns:List Int),
   Ground q loose [] XP w s₀ mg mb s₁.heap→YP w s₁.heap →
   s₁.heap.get? fa=some o→o.data = .func (docDef d.name d.params d.body d.scope pm cd doc)→s₁.heap.CodeRec cd d.name→mg d.name=some (.ref fa) →
   s₁.heap.get? a=some { cls:=.type "list",data:=.seq vs.toArray }→IntsAre vs ns→ns.length≤n→s₁.gens = #[] →
   codeAny (model l.prog w) callerA (.call (.ref fa) ⟨[.ref a],[]⟩) (fun r s'=>r = .ok (.ret (.bool true))∧OldK s₁.heap s'.heap∧s'.os=s₁.os∧AllBare s'.gens) s₁) :
  WalkO q loose XP YP l.row.toRowW d [] (fun f vs=>PySem.call f vs):=by
 intro w s₀ s₁ mg mb G Y fa o pm cd doc dV kV ho hd hcd hD hmg hg args vals as hpre hlay hrd hwl hlo
 obtain rfl:dV = .none:=Dflts.none hD hdf
 obtain rfl:kV = .none:=Dflts.noKw hD
 obtain⟨a,vs,ns,rfl,rfl,hobj,hints,hlen⟩:=script_of hn hpre hwl
 refine enter_call (codeAny_mono (call w s₀ s₁ mg mb fa o pm cd doc a vs ns G Y ho (fd_plain hd) hcd hmg hobj hints hlen hg) fun r s' hq=>?_)
 obtain⟨rfl,h2,h3,h4⟩:=hq
 exact⟨.inl ⟨.bool true,.bool true,[],rfl,fun _=>rfl,.bool true,post_true l _,fun _=>⟨List.Pairwise.nil,fun _ hm=>(nomatch hm)⟩⟩,h2,h3,h4⟩
section
variable {prog:Program}{w:World}{A:Around}{E:Value→Shared→Prop}{s:Shared}{K:Frag}
end
end Att
namespace L2
open PySem PySem.Spec PyProof.Rows
theorem vals_ints:∀{vs:List Value}{ns:List Int},IntsAre vs ns→Vals (ns.map V.int) vs
 | _,_,.nil=>.nil
 | _,_,.cons n t h=>.cons ⟨t,rfl⟩ (vals_ints h)
def Only (H:Hp):Prop:=∀b,H b=none ∨ ∃o xs,H b=some (.frz o (.lst xs))
theorem law_call {P:Program}{w:World}{K:PySem.W.Frag}{mg mb:Str→Option Value}{CX:CXT}{k:Nat}{fa a:Addr}{fd:FuncData}{x:Str}{sp:Sp}{s₁:Shared}{vs:List Value}{ns:List Int}
  (KX:K.In s₁.heap) (hns:s₁.heap.Ns mainGlobals mg) (hb:s₁.heap.Ns builtinsNs mb) (hbb:∀x:Str,x ≠ "__name__"→mb x=bootBuiltins x) (hlim:s₁.heap.NoLimit) (hg:s₁.gens = #[])
  (ha:s₁.heap.get? a=some { cls:=.type "list",data:=.seq vs.toArray }) (hi:IntsAre vs ns) (hl:ns.length≤sizeLine) (hr:Room k callerA)
  (F:∀base:Heap,K.In base→base.Ns mainGlobals mg→FnOk P w K mg base CX k fa fd [x] sp) (hbind:∀(s:Shared) (u:Value),BindsTo s fd ⟨[u],[]⟩ [(x,u)])
  (hsp:∀H:Hp,Only H→SqL K H a (ns.map V.int)→sp [.ref a] H (fun v _=>v = .bl true) fun _ _ _=>False)
  (hCX:∀H e s',CX [] H s₁ (fun _ _ _=>False) e s'→False) :
  codeAny (model P w) callerA (.call (.ref fa) ⟨[.ref a],[]⟩) (fun r s'=>r = .ok (.ret (.bool true))∧OldK s₁.heap s'.heap∧s'.os=s₁.os∧AllBare s'.gens) s₁:=by
 have rv:=vals_ints hi
 have lenV:=hi.length
 have core:∀H:Hp,Only H→SqL K H a (ns.map V.int)→HOk P w H s₁.heap→(∀b,H b≠none→b=a)→(H a≠none→K.lookup a=none) →
   codeAny (model P w) callerA (.call (.ref fa) ⟨[.ref a],[]⟩) (fun r s'=>r = .ok (.ret (.bool true))∧OldK s₁.heap s'.heap∧s'.os=s₁.os∧AllBare s'.gens) s₁:=by
  intro H hO hS hok hA hK
  have base_of:∀{b:Addr}{o:Obj},s₁.heap.get? b=some o→H b=none→(hidT s₁.heap H).get? b=some o:=fun e n=>hidT_get e n
  have noA:∀{b:Addr}{o:Obj}{es:Array DictEntry}{ep:Nat},s₁.heap.get? b=some o→o.data = .dict es ep→H b=none:=fun {b o es ep} e d=>by
   cases q:H b with
   | none=>rfl
   | some u =>
    have e':b=a:=hA b (by rw[q];simp)
    subst e'
    rw[ha]at e;cases e
    have d':Data.seq vs.toArray _=Data.dict es ep:=d
    cases d'
  have nsK:∀{b:Addr}{m:Str→Option Value},s₁.heap.Ns b m→(hidT s₁.heap H).Ns b m:=fun {b m} ⟨o,es,ep,e,d,r⟩=>⟨o,es,ep,base_of e (noA e d),d,r⟩
  have hKb:K.In (hidT s₁.heap H):=fun b o e=>base_of (KX b o e) (by
   cases q:H b with
   | none=>rfl
   | some u =>
    have e':b=a:=hA b (by rw[q];simp)
    subst e'
    rw[hK (by rw[q];simp)]at e;cases e)
  have hM:Mod K mg (hidT s₁.heap H):=⟨hKb,nsK hns,⟨mb,nsK hb,hbb⟩,let ⟨mc,h1,h2⟩:=hlim;⟨mc,nsK h1,h2⟩⟩
  have e0:Env0 P w K mg (hidT s₁.heap H) callerA [] s₁ H:=⟨rfl,hM,fun b o e=>of_hidT e,Nat.le_of_eq (hidT_size _ _),trivial,fun b hb=>absurd (show b∈([]:List Addr) from hb) (by simp),hok,.of_eq hg⟩
  refine codeAny_mono ((F _ hKb (nsK hns)).run callerA [] s₁ H ⟨[.ref a],[]⟩ [.ref a] [.ref a] _ _ hr e0 (hbind s₁ (.ref a)) (.cons rfl .nil) (hsp H hO hS)) fun r s' h=>?_
  cases r with
  | error e=>exact(hCX H e s' h).elim
  | ok fl =>
   cases fl with
   | next=>exact False.elim h
   | brk=>exact False.elim h
   | cont=>exact False.elim h
   | ret u =>
    obtain⟨v,H',os,bare,un,hok',r',q⟩:=h
    have q':v = .bl true:=q
    subst q'
    obtain rfl:u=Value.bool true:=r'
    refine⟨rfl,OldK.of_keep fun b o e=>?_,os,bare⟩
    cases q:H b with
    | none=>exact un.keep b o e q (by intro z;exact absurd (show b∈([]:List Addr) from z) (by simp)) (by simp)
    | some u =>
     rcases hO b with z|⟨ob,xs,z⟩
     ·rw[q]at z;cases z
     ·have z2:=un.frzs b ob _ z
      obtain⟨e1,_⟩:=hok b _ z
      obtain⟨e2,_⟩:=hok' b _ z2
      rw[e]at e1;cases e1
      exact e2
 cases hk:K.lookup a with
 | some o =>
  have e:=KX a o hk
  rw[ha]at e
  cases e
  refine core (fun _=>none) (fun _=>.inl rfl) (.inr ⟨_,vs.toArray,_,hk,rfl,rfl,rfl,by rw[List.size_toArray,lenV];exact hl,by simpa using rv⟩) (fun b u z=>by have z':(none:Option HO)=some u:=z;cases z') (fun b z=>absurd rfl z) fun z=>absurd rfl z
 | none =>
  refine core (fun b=>if b=a then some (.frz { cls:=.type "list",data:=.seq vs.toArray } (.lst (ns.map V.int))) else none) (fun b=>?_) (.inl (.inr ⟨{ cls:=.type "list",data:=.seq vs.toArray },if_pos rfl⟩)) (fun b u z=>?_) (fun b z=>?_) fun _=>hk
  ·by_cases hb:b=a
   ·exact .inr ⟨_,_,if_pos hb⟩
   ·exact .inl (if_neg hb)
  ·by_cases hb:b=a
   ·have z':=(if_pos hb).symm.trans z
    cases z'
    subst hb
    exact⟨ha,by rw[List.length_map];exact hl,vs,_,rv,ha⟩
   ·have z':=(if_neg hb).symm.trans z
    cases z'
  ·by_cases hb:b=a
   ·exact hb
   ·exact absurd (if_neg hb) z
end L2
namespace L2
open PySem PySem.Spec PyProof.Rows
theorem walk_of {l:PySem.W.OpenLaw}{n k:Nat}{q:Program}{loose:List Str}{XP:(Str→Option Value)→Heap→Prop}{YP:World→Heap→Prop}{d:DefRec}{K:Params→PySem.W.Frag}{CX:World→CXT}{sp:World→Sp}{x:Str}
  (hn:l.most=some n) (hn2:n≤sizeLine) (hdf:d.params.defaults=[]) (hr:Room k callerA)
  (hY:∀(w:World) (h:Heap),YP w h→(K w.params).In h)
  (F:∀(w:World) (mg:Str→Option Value) (fa:Addr) (h:Heap),(K w.params).In h→h.Ns mainGlobals mg→mg d.name=some (.ref fa) →
   ∃fd:FuncData,(∀(s:Shared) (u:Value),BindsTo s fd ⟨[u],[]⟩ [(x,u)]) ∧
    ∀base:Heap,(K w.params).In base→base.Ns mainGlobals mg→FnOk l.prog w (K w.params) mg base (CX w) k fa fd [x] (sp w))
  (hsp:∀(w:World) (H:Hp) (a:Addr) (ns:List Int),ns.length≤n→Only H→SqL (K w.params) H a (ns.map V.int)→sp w [.ref a] H (fun v _=>v = .bl true) fun _ _ _=>False)
  (hCX:∀(w:World) (H:Hp) (s:Shared) (e:Value) (s':Shared),CX w [] H s (fun _ _ _=>False) e s'→False) :
  PySem.W.WalkO q loose XP YP l.row.toRowW d [] (fun f vs=>PySem.call f vs):=by
 refine Att.attach_call hn hdf fun w s₀ s₁ mg mb fa o pm cd doc a vs ns G Y ho hd hcd hmg hobj hints hlen hg=>?_
 have KX:=hY w _ Y
 obtain⟨fd,hb,hF⟩:=F w mg fa _ KX G.T.g hmg
 exact law_call KX G.T.g G.T.b G.T.builtins G.T.nolimit hg hobj hints (Nat.le_trans hlen hn2) hr hF hb (fun H hO hS=>hsp w H a ns hlen hO hS) fun H e s'=>hCX w H s₁ e s'
end L2
namespace L2
open PySem PySem.Spec PyProof.Rows
def defArgs (s:Stmt):Arguments:=match s with
 | .FunctionDef _ a _ _ _ _ _ _ _ _=>a
 | _=>{ posonlyargs:=[],args:=[],vararg:=none,kwonlyargs:=[],kw_defaults:=[],kwarg:=none,defaults:=[] }
def defBody (s:Stmt):List Stmt:=match s with
 | .FunctionDef _ _ b _ _ _ _ _ _ _=>b
 | _=>[]
def defScope (s:Stmt):Scope:=match s with
 | .FunctionDef _ _ _ _ _ _ sc _ _ _=>sc
 | _=>{ kind:=.function,names:=[],isGenerator:=false,isCoroutine:=false }
abbrev CX0:CXT:=fun _ _ _ _ _ _=>False
abbrev E0:XK:=fun _ _ _=>False
theorem pass0 {X:Cx}:Passes CX0 X E0:=fun _ _ _ _ _ _ _ h=>h.elim
structure Fun (K:PySem.W.Frag) (x qual:Str) (st:Stmt) (f:Addr) (fd:FuncData):Prop where
 ex:∃(oc:Value) (od:Option Addr) (kV doc pm:Value) (an:Option Addr) (cdv ct:Value) (osl:Array (Option Value)),
  fd=PySem.W.fnOf x qual (defArgs st) (defBody st) (defScope st) .none kV doc pm an cdv ct∧K.lookup f=some ⟨oc,od,.func fd,osl⟩∧PySem.W.codeIn K cdv qual=true
 kp:PySem.W.keepIn K (.ref f)=true
section
variable {P:Program}{w:World}{K:PySem.W.Frag}{mg:Str→Option Value}{base:Heap}
theorem Fun.ok {x qual:Str}{st:Stmt}{f:Addr}{fd:FuncData}{N ps:List Str}{k:Nat}{sp:Sp}(F:Fun K x qual st f fd) (S:FnScope N ps (defScope st)) (len:∀vs H Q E,sp vs H Q E→vs.length=ps.length)
  (hbody:∀(cdv:Value) (A:Around) (outer:List Env) (s:Shared) (H:Hp) (vs:List V) (Q:VK) (E:XK),Room k (A.deeper (envOfC qual (defScope st) s.heap.objs.size f cdv))→sp vs H Q E →
   ∃t,PSs (cxOf CX0 P w K mg base N qual (defScope st) f cdv A outer s H E).nox (defBody st) t∧t { nx:=fun _ H'=>Q .non H',rt:=Q } (start N vs) H):FnOk P w K mg base CX0 (k+1) f fd ps sp:=by
 obtain⟨oc,od,kV,doc,pm,an,cdv,ct,osl,rfl,lk,hcd⟩:=F.ex
 refine fn_of lk hcd S len fun A outer s H vs Q E hr hsp=>?_
 obtain⟨t,h,q⟩:=hbody cdv A outer s H vs Q E hr hsp
 exact⟨t,h.nox,q⟩
theorem Fun.binds {x qual:Str}{st:Stmt}{f:Addr}{fd:FuncData}{ps:List Str}(F:Fun K x qual st f fd)
  (h:∀(kV doc pm:Value) (an:Option Addr) (cdv ct:Value) (us:List Value),us.length=ps.length→bindArgs (PySem.W.fnOf x qual (defArgs st) (defBody st) (defScope st) .none kV doc pm an cdv ct) ⟨us,[]⟩=pure (ps.zip us)):Binds K fd ps []:=by
 obtain⟨oc,od,kV,doc,pm,an,cdv,ct,osl,rfl,lk,hcd⟩:=F.ex
 exact .all (h kV doc pm an cdv ct)
theorem fun_mk {x qual:Str}{st:Stmt}{f:Addr}{oc:Value}{od an:Option Addr}{osl:Array (Option Value)}{kV doc pm cdv ct:Value}(l:K.lookup f=some ⟨oc,od,.func (PySem.W.fnOf x qual (defArgs st) (defBody st) (defScope st) .none kV doc pm an cdv ct),osl⟩)
  (c:PySem.W.codeIn K cdv qual=true) (k:PySem.W.keepIn K (.ref f)=true):Fun K x qual st f (PySem.W.fnOf x qual (defArgs st) (defBody st) (defScope st) .none kV doc pm an cdv ct):=⟨⟨oc,od,kV,doc,pm,an,cdv,ct,osl,rfl,l,c⟩,k⟩
end
theorem hu_of {A:Around}{k:Nat}(hr:Room k A):A.units+1<cLine:=Nat.lt_of_le_of_lt (Nat.add_le_add_left (by decide:1≤64) _) hr.units
theorem small1000 {n:Nat}(h:n≤1000):n<sizeLine:=Nat.lt_of_le_of_lt h (by decide)
section
variable {X:Cx}
theorem pv (i:Nat) {x:Str}{pos:Pos}(hN:X.N[i]? = some x:=by rfl) (hv:Vis X.env.scope x:=by first|exact Or.inl rfl|exact Or.inr (Or.inl rfl)|exact Or.inr (Or.inr rfl)) (hd:(x ==("__debug__" : Str))=false:=by decide)
  (hcd:(x ==("__classdict__" : Str))=false:=by decide):PE X (.Name x pos) (tVar i):=pe_var hN hv hd hcd
end
theorem iteF {A B:Prop}(h:B):if false=true then A else B:=by
 rw[if_neg Bool.false_ne_true]
 exact h
theorem iteT {A B:Prop}(h:A):if true=true then A else B:=by
 rw[if_pos rfl]
 exact h
def Same (H H':Hp):Prop:=∀b o,H b=some o→H' b=some o
theorem Same.refl (H:Hp):Same H H:=fun _ _ h=>h
theorem Same.trans {H H1 H2:Hp}(a:Same H H1) (b:Same H1 H2):Same H H2:=fun c o h=>b c o (a c o h)
theorem Same.free {H H':Hp}(e:Same H H') {l:Addr}(h:H' l=Option.none):H l=Option.none:=by
 cases q:H l with
 | none=>rfl
 | some o =>
  rw[e l o q]at h
  cases h
theorem Same.seq {K:PySem.W.Frag}{H H':Hp}{a:Addr}{xs:List V}(e:Same H H') (h:SqL K H a xs):SqL K H' a xs:=by
 rcases h with(h|⟨o,h⟩)|h
 ·exact .inl (.inl (e _ _ h))
 ·exact .inl (.inr ⟨o,e _ _ h⟩)
 ·exact .inr h
end L2
namespace L2
open PySem PySem.Spec PyProof.Rows
def clOf (env:Env):List (Str×NameKind)→List (Str×Addr)→List (Str×Addr)
 | [],cs=>cs
 | (n,k)::r,cs=>clOf env r (if k == .free then(n,(env.cells.lookup n).getD 0)::cs else cs)
def clStep (env:Env) (x:Str×NameKind) (s:List (Str×Addr)):Sem (ForInStep (List (Str×Addr))):=if (x.2 == NameKind.free)=true then cellOf env x.1 >>= fun c=>pure (ForInStep.yield ((x.1,c)::s)) else pure (ForInStep.yield s)
theorem clStep_run {env:Env}:∀{ns:List (Str×NameKind)}(cs:List (Str×Addr)),(∀y∈ns,y.2 = .free→∃c,env.cells.lookup y.1=some c)→(forIn ns cs (clStep env):Sem (List (Str×Addr)))=pure (clOf env ns cs)
 | [],cs,_=>rfl
 | (n,k)::r,cs,h=>by
  rw[List.forIn_cons]
  have hr:∀y∈r,y.2 = .free→∃c,env.cells.lookup y.1=some c:=fun z hz=>h z (List.mem_cons_of_mem _ hz)
  cases hk:(k == NameKind.free) with
  | false =>
   have e1:clStep env (n,k) cs=pure (ForInStep.yield cs):=by
    unfold clStep
    exact if_neg (by rw[show(n,k).2=k from rfl,hk];decide)
   rw[e1,pure_bind]
   show forIn r cs (clStep env)=_
   rw[clStep_run cs hr]
   show pure (clOf env r cs)=pure (clOf env r (if (k == NameKind.free)=true then(n,(List.lookup n env.cells).getD 0)::cs else cs))
   rw[hk]
   rfl
  | true =>
   have hk':k = .free:=by simpa using hk
   obtain⟨c,hc⟩:=h (n,k) List.mem_cons_self hk'
   have hc':env.cells.lookup n=some c:=hc
   have q:cellOf env n=pure c:=by unfold cellOf;rw[hc']
   have e1:clStep env (n,k) cs=pure (ForInStep.yield ((n,c)::cs)):=by
    unfold clStep
    rw[if_pos (by rw[show(n,k).2=k from rfl,hk]),show(n,k).1=n from rfl,q,pure_bind]
   rw[e1,pure_bind]
   show forIn r ((n,c)::cs) (clStep env)=_
   rw[clStep_run _ hr]
   show pure (clOf env r ((n,c)::cs))=pure (clOf env r (if (k == NameKind.free)=true then(n,(List.lookup n env.cells).getD 0)::cs else cs))
   rw[hk,hc']
   rfl
theorem closure_eq {scope:Scope}{env:Env}(h:∀y∈scope.names,y.2 = .free→∃c,env.cells.lookup y.1=some c):closureFor scope env=pure (clOf env scope.names []):=by
 show(forIn scope.names ([]:List (Str×Addr)) (clStep env) >>= fun s=>(pure s:Sem (List (Str×Addr))))=_
 rw[clStep_run [] h,pure_bind]
theorem clOf_sound {env:Env}{n:Str}{c:Addr}:∀{ns:List (Str×NameKind)}{cs:List (Str×Addr)},(∀y∈ns,y.2 = .free→∃c,env.cells.lookup y.1=some c)→(∀p∈cs,env.cells.lookup p.1=some p.2)→(clOf env ns cs).lookup n=some c→env.cells.lookup n=some c
 | [],cs,_,hc,h=>hc _ (PySem.mem_of_lookup h)
 | (m,k)::r,cs,hn,hc,h=>by
  unfold clOf at h
  refine clOf_sound (fun y hy=>hn y (List.mem_cons_of_mem _ hy)) ?_ h
  intro p hp
  split at hp
  ·rename_i hk
   have hk':k = .free:=by simpa using hk
   obtain⟨c',hc'⟩:=hn (m,k) List.mem_cons_self hk'
   have hc2:env.cells.lookup m=some c':=hc'
   rw[hc2]at hp
   rcases List.mem_cons.mp hp with rfl|hp
   ·exact hc2
   ·exact hc p hp
  ·exact hc p hp
theorem lookup_mono_isSome {n:Str}:∀{cs:List (Str×Addr)},(∃c,(n,c)∈cs)→∃c,cs.lookup n=some c
 | [],⟨_,h⟩=>absurd h (by simp)
 | (m,d)::r,⟨c,h⟩=>by
  rw[List.lookup_cons]
  by_cases e:n=m
  ·subst e;exact⟨d,by simp⟩
  ·have:(n == m)=false:=beq_eq_false_iff_ne.mpr e
   rw[this]
   rcases List.mem_cons.mp h with z|z
   ·cases z;exact absurd rfl e
   ·exact lookup_mono_isSome ⟨c,z⟩
theorem clOf_keeps {env:Env}{p:Str×Addr}:∀{ns:List (Str×NameKind)}{cs:List (Str×Addr)},p∈cs→p∈clOf env ns cs
 | [],_,h=>h
 | (m,k)::r,cs,h=>by
  unfold clOf
  refine clOf_keeps ?_
  split
  ·exact List.mem_cons_of_mem _ h
  ·exact h
theorem clOf_has {env:Env}{n:Str}:∀{ns:List (Str×NameKind)}{cs:List (Str×Addr)},(n,NameKind.free)∈ns→∃c,(n,c)∈clOf env ns cs
 | [],_,h=>absurd h (by simp)
 | (m,k)::r,cs,h=>by
  unfold clOf
  rcases List.mem_cons.mp h with z|z
  ·cases z
   exact⟨(env.cells.lookup n).getD 0,clOf_keeps (by simp)⟩
  ·exact clOf_has z
def cxBlk (X:Cx) (scope:Scope) (N:List Str) (C:Addr) (s:Shared) (H:Hp) (ex:List Addr):Cx :=
 { X with N:=N,s₀:=s,H₀:=H,env:=compEnvC scope (clOf X.env scope.names []) C X.env,outer:=X.stack,ex:=ex,fn:=fun _=>false,pn:=[],xe:=fun _ _=>False }
structure BlkOk (X:Cx) (scope:Scope) (vs fs:List Str) (js:List Nat):Prop where
 kind:scope.kind = .function
 cell:∀y∈scope.names,y.2 ≠ .cell
 names:∀y∈scope.names,y.2 = .local→scope.names.lookup y.1=some .local
 free:∀y∈scope.names,y.2 = .free→X.env.kindOf y.1=some .cell∨X.env.kindOf y.1=some .free
 own:∀y∈vs,scope.names.lookup y=some .local
 cap:∀y∈fs,scope.names.lookup y=some .free
 ix:js.map (fun j=>X.N[j]?)=fs.map some
def blkSt (vs:List Str) (js:List Nat) (σ:St):St:=vs.map (fun _=>none)++js.map (fun j=>(σ[j]?).join)
theorem lookup_relabel_free {env:Env}{names:List (Str×NameKind)}{x:Str}(h:names.lookup x=some .free) :
  (names.map fun(n,k)=>if (k == NameKind.free && env.scope.kind == .function && env.kindOf n == some .cell) then(n,NameKind.cell) else(n,k)).lookup x=some .cell ∨
  (names.map fun(n,k)=>if (k == NameKind.free && env.scope.kind == .function && env.kindOf n == some .cell) then(n,NameKind.cell) else(n,k)).lookup x=some .free:=by
 induction names with
 | nil=>cases h
 | cons y r ih =>
  obtain⟨n,k⟩:=y
  rw[List.map_cons]
  show List.lookup x ((if (k == NameKind.free && env.scope.kind == .function && env.kindOf n == some .cell)=true then(n,NameKind.cell) else(n,k))::_)=_∨List.lookup x ((if (k == NameKind.free && env.scope.kind == .function && env.kindOf n == some .cell)=true then(n,NameKind.cell) else(n,k))::_)=_
  rw[List.lookup_cons]at h
  cases e:x == n with
  | true =>
   rw[e]at h
   have h':k = .free:=by simpa using h
   subst h'
   split
   ·left;rw[List.lookup_cons,e]
   ·right;rw[List.lookup_cons,e]
  | false =>
   rw[e]at h
   have h':=ih h
   split
   ·rw[List.lookup_cons,e];exact h'
   ·rw[List.lookup_cons,e];exact h'
theorem relabel_back {env:Env}{names:List (Str×NameKind)}{x:Str}{kk:NameKind}
  (h:(names.map fun(n,k)=>if (k == NameKind.free && env.scope.kind == .function && env.kindOf n == some .cell) then(n,NameKind.cell) else(n,k)).lookup x=some kk) :
  (kk = .cell∧(x,NameKind.free)∈names) ∨(x,kk)∈names:=by
 induction names with
 | nil=>cases h
 | cons y r ih =>
  obtain⟨n,k⟩:=y
  rw[List.map_cons]at h
  have h2:List.lookup x ((if (k == NameKind.free && env.scope.kind == .function && env.kindOf n == some .cell)=true then(n,NameKind.cell) else(n,k))::(r.map fun(n,k)=>if (k == NameKind.free && env.scope.kind == .function && env.kindOf n == some .cell) then(n,NameKind.cell) else(n,k)))=some kk:=h
  cases e:x == n with
  | true =>
   have e':x=n:=by simpa using e
   subst e'
   split at h2
   ·rename_i hc
    rw[List.lookup_cons,e]at h2
    have h3:kk = .cell:=by simpa using h2.symm
    have hk:k = .free:=by
     have:=(Bool.and_eq_true _ _ ▸ hc).1
     have:=(Bool.and_eq_true _ _ ▸ this).1
     simpa using this
    subst hk
    exact .inl ⟨h3,List.mem_cons_self⟩
   ·rw[List.lookup_cons,e]at h2
    have h3:kk=k:=by simpa using h2.symm
    subst h3
    exact .inr List.mem_cons_self
  | false =>
   have h3:(r.map fun(n,k)=>if (k == NameKind.free && env.scope.kind == .function && env.kindOf n == some .cell) then(n,NameKind.cell) else(n,k)).lookup x=some kk:=by
    split at h2
    ·rw[List.lookup_cons,e]at h2;exact h2
    ·rw[List.lookup_cons,e]at h2;exact h2
   rcases ih h3 with⟨a,b⟩|b
   ·exact .inl ⟨a,List.mem_cons_of_mem _ b⟩
   ·exact .inr (List.mem_cons_of_mem _ b)
section
variable {prog:Program}{w:World}{A:Around}{R:Result→Shared→Prop}{s:Shared}
theorem codeAny_compLoop_gen {elt target iter:Expr}{ifs:List Expr}{scope:Scope}{pos:Pos}{it acc:Value}{env:Env}(I:Nat→Shared→Prop)
  (turn:∀n s,I n s→wpAny (model prog w) A (pyNext it) (fun r s₁=>match r with
   | none=>R (.ok .next) s₁
   | some v=>wpAny (model prog w) A (letOwnedTupleGo target it v) (fun _ s₁'=>wpAny (model prog w) A (assign target env v) (fun _ s₂ =>
     wpAny (model prog w) A (forIn ifs true fun c r=>if r=true then do let ok ← isTrue c env (eval c env);pure (ForInStep.yield ok) else pure (ForInStep.yield r)) (fun ok s₃ =>
      if ok=true then wpAny (model prog w) A (eval elt env) (fun x s₄ =>
       wpAny (model prog w) A (call (.builtin "list.append") [acc,x]) (fun _ s₅=>∃m,m<n∧I m s₅) (fun _ _=>False) s₄) (fun _ _=>False) s₃
      else ∃m,m<n∧I m s₃) (fun _ _=>False) s₂) (fun _ _=>False) s₁') (fun _ _=>False) s₁) (fun _ _=>False) s)
  (n:Nat) (h:I n s) :
  codeAny (model prog w) A (.compLoop (.ListComp elt [⟨target,iter,ifs,0⟩] scope pos) 0 it acc env) R s:=by
 refine codeAny_loop rfl I (fun n s hI=>?_) n h
 show wpAny _ A ((compTurn (.ListComp elt [⟨target,iter,ifs,0⟩] scope pos) 0 it acc env).onRaise (fun x=>do noteFrame x env;theTreesLotGoes x)) _ _ s
 refine wpAny_noted ?_
 rw[compTurn_list]
 refine wpAny_bind (wpAny_standAt (wpAny_bind (wpAny_mono (turn n s hI) (fun r s₁ h₁=>?_) fun _ _ h'=>h'.elim)))
 cases r with
 | none=>exact wpAny_pure h₁
 | some v =>
  refine wpAny_bind (wpAny_mono h₁ (fun _ s₁' h₁'=>?_) fun _ _ h'=>h'.elim)
  refine wpAny_bind (wpAny_mono h₁' (fun _ s₂ h₂=>wpAny_bind (wpAny_mono h₂ (fun ok s₃ h₃=>?_) fun _ _ h'=>h'.elim)) fun _ _ h'=>h'.elim)
  cases ok with
  | false=>exact wpAny_pure ⟨rfl,h₃⟩
  | true =>
   exact wpAny_bind (wpAny_bind (wpAny_mono h₃ (fun x s₄ h₄=>wpAny_bind (wpAny_mono h₄ (fun _ s₅ h₅=>wpAny_pure (wpAny_pure ⟨rfl,h₅⟩)) fun _ _ h'=>h'.elim)) fun _ _ h'=>h'.elim))
end
def PIfs (X:Cx) (ifs:List Expr) (t:TT):Prop :=
 ∀(pins:List (Addr×Obj)) (s:Shared) (σ:St) (H:Hp) (Q:Bool→Hp→Prop),Inv X pins σ H s→t σ H Q →
  wpAny (model X.prog X.w) X.A (forIn ifs true fun c r=>if r=true then do let ok ← isTrue c X.env (eval c X.env);pure (ForInStep.yield ok) else pure (ForInStep.yield r)) (TP X pins σ Q) X.xe s
def tYes:TT:=fun _ H Q=>Q true H
theorem pif0 {X:Cx}:PIfs X [] tYes:=fun _ _ _ H _ I h=>wpAny_tests_nil ⟨H,I,h⟩
theorem pif1 {X:Cx}{c:Expr}{t:TT}(h:PT X c t):PIfs X [c] t:=fun pins s σ H Q I q=>wpAny_tests_one (h pins s σ H Q I q)
def CompW (J:It) (vs:List Str) (js:List Nat) (σ:St) (g:TG) (tt:TT) (te:TE) (Q:VK) (D:Addr) (H1:Hp):Prop :=
 ∃W:Nat→Nat→St→List V→Hp→Prop,(∃m,W 0 m (blkSt vs js σ) [] (upd H1 D (.lst [])))∧∀i m σ' ys H',W i m σ' ys H' →
  (J.stop i H'∧Q (.ref D) H') ∨(J.go i H'∧∃N:St→List V→Hp→Prop,(∀σ2 zs H2,N σ2 zs H2→∃m',m'<m∧W (i+1) m' σ2 zs H2) ∧
   ∀x H2,J.yld i H' x H2→g x σ' H2 fun σ3 H3=>tt σ3 H3 fun b H4=>if b=true then te σ3 H4 fun y H5=>H5 D=some (.lst ys)∧ys.length<sizeLine∧N σ3 (ys ++ [y]) (upd H5 D (.lst (ys ++ [y]))) else N σ3 ys H4)
def tComp (vs:List Str) (js:List Nat) (wi:TI) (g:TG) (tt:TT) (te:TE):TE:=fun σ H Q=>wi σ H fun J H1=>∀D,H1 D=none→CompW J vs js σ g tt te Q D H1
section
variable {X:Cx}{pins:List (Addr×Obj)}{σ:St}{H:Hp}{s:Shared}{scope:Scope}{vs fs:List Str}{js:List Nat}
theorem blk_start {fp:List Addr}{C D:Addr}{h₁:Heap}{tk:Nat}{m:Str→Option Value}(I:Inv X pins σ H s) (B:BlkOk X scope vs fs js) (hf:∀b∈fp,FpOk X pins H b) (hfp:∀b∈fp,b<s.heap.objs.size)
  (hn:h₁.Ns C m) (hk:∀b o,s.heap.get? b=some o→h₁.get? b=some o) (hD:D=s.heap.objs.size) (hC:s.heap.objs.size<C)
  (hl:h₁.get? D=some { cls:=.type "list",data:=.seq ([]:List Value).toArray }) :
  Inv (cxBlk X scope (vs++fs) C s H fp) [] (blkSt vs js σ) (upd H D (.lst [])) { s with heap:=h₁,toks:=tk }:=by
 have hasX:∀y∈scope.names,y.2 = .free→∃c,X.env.cells.lookup y.1=some c:=fun y hy hf=>I.ok.has y.1 (B.free y hy hf)
 have snd:∀{y:Str}{c:Addr},(clOf X.env scope.names []).lookup y=some c→X.env.cells.lookup y=some c:=fun h=>clOf_sound hasX (fun p hp=>absurd hp (by simp)) h
 have clt:∀{y:Str}{c:Addr},X.env.cells.lookup y=some c→c<s.heap.objs.size:=fun {y c} h=>by
  obtain⟨v,o,ho,_⟩:=I.cell y c h
  exact Heap.lt_size ho
 have hfr:H D=none:=by rw[hD];exact I.hok.fresh (Nat.le_refl _)
 have hfC:H C=none:=I.hok.fresh (Nat.le_of_lt hC)
 have nCD:C≠D:=by rw[hD];exact Nat.ne_of_gt hC
 refine⟨⟨I.ok.mod,B.kind,I.ok.glob,I.ok.blt,Nat.le_of_lt hC,fun y z c h1 h2=>I.ok.inj y z c (snd h1) (snd h2),fun y hy=>?_,fun y c z _=>absurd (show false=true from z) Bool.false_ne_true,I.ok.hd,I.ok.frames,.inl rfl,fun b hb=>⟨?_,fun y c h=>(hf b hb).2.2.2.2.1 y c (snd h)⟩,I.bs,Nat.le_trans I.ok.bsz I.sz,fun b o e hb=>?_,fun b hb z=>?_,I.stack,I.stkFree⟩,
  rfl,I.bare,Un.laid hk (Nat.le_of_eq hD.symm) hfr,⟨m,hn,fun i y v h1 h2 h3=>?_⟩,fun y c h=>?_,?_,fun y c h=>?_,fun p hp=>absurd (show p∈([]:List (Addr×Obj)) from hp) (by simp),I.hok.laid hk (Nat.le_of_eq hD.symm) ⟨by simp,[],0,.nil,hl⟩,?_⟩
 ·-- has
  have key:(y,NameKind.free)∈scope.names:=by
   rcases hy with hy|hy
   ·rcases relabel_back hy with⟨_,z⟩|z
    ·exact z
    ·exact absurd rfl (B.cell _ z)
   ·rcases relabel_back hy with⟨z,_⟩|z
    ·cases z
    ·exact z
  exact lookup_mono_isSome (clOf_has key)
 ·exact Nat.ne_of_lt (Nat.lt_trans (hfp b hb) hC)
 ·rcases(hf b hb).2.2.2.1 with z|z
  ·exact I.ok.noex b o e z
  ·exact absurd (Nat.lt_of_lt_of_le (Heap.lt_size e) (Nat.le_trans I.ok.bsz z)) (Nat.lt_irrefl _)
 ·rcases List.mem_cons.mp (I.stkSub b z) with e|e
  ·exact(hf b hb).2.1 e
  ·exact(hf b hb).2.2.1 e
 ·-- loc
  have hlen:js.length=fs.length:=by have:=congrArg List.length B.ix;simpa using this
  have hi:¬ i<vs.length:=fun hi=>by
   unfold blkSt at h2
   rw[List.getElem?_append_left (by simpa using hi),List.getElem?_map]at h2
   cases e:vs[i]? with
   | none=>rw[e]at h2;cases h2
   | some a=>rw[e]at h2;cases h2
  have hi':vs.length≤i:=Nat.le_of_not_lt hi
  have h1':fs[i-vs.length]? = some y:=by
   have:=h1
   rw[show(cxBlk X scope (vs++fs) C s H fp).N=vs++fs from rfl,List.getElem?_append_right hi']at this
   exact this
  have h2':(js[i-vs.length]?).map (fun j=>(σ[j]?).join)=some (some v):=by
   unfold blkSt at h2
   rw[List.getElem?_append_right (by simpa using hi'),List.length_map,List.getElem?_map]at h2
   exact h2
  cases ej:js[i-vs.length]? with
  | none=>rw[ej]at h2';cases h2'
  | some j =>
   rw[ej]at h2'
   have hσ:σ[j]? = some (some v):=by
    have z:(σ[j]?).join=some v:=Option.some.inj h2'
    cases q:σ[j]? with
    | none=>rw[q]at z;cases z
    | some o=>rw[q]at z;have z':o=some v:=z;rw[z']
   have hNj:X.N[j]? = some y:=by
    have q:=congrArg (fun l=>l[i-vs.length]?) B.ix
    simp only[List.getElem?_map,ej,h1',Option.map_some]at q
    exact Option.some.inj q
   have hcap:=B.cap y (List.mem_of_getElem? h1')
   have hmem:(y,NameKind.free)∈scope.names:=PySem.mem_of_lookup hcap
   have hkX:=B.free _ hmem rfl
   have vis:Vis X.env.scope y:=by
    rcases hkX with z|z
    ·exact .inr (.inl z)
    ·exact .inr (.inr z)
   obtain⟨m0,hn0,hl0⟩:=I.loc
   obtain⟨u,r,l⟩:=hl0 j y v hNj hσ vis
   refine⟨u,r,.inr ⟨lookup_relabel_free hcap,?_⟩⟩
   rcases l with⟨z,_⟩|⟨_,c,hc,hcell⟩
   ·rcases hkX with q|q <;> (rw[q]at z;cases z)
   ·obtain⟨c',hc'⟩:=lookup_mono_isSome (clOf_has (env:=X.env) (cs:=[]) hmem)
    have e:=snd hc'
    rw[hc]at e
    cases e
    exact⟨c,hc',hcell.keeps hk⟩
 ·obtain⟨v,z⟩:=I.cell y c (snd h)
  exact⟨v,z.keeps hk⟩
 ·rw[show(cxBlk X scope (vs++fs) C s H fp).env.locals=C from rfl,upd_ne nCD]
  exact hfC
 ·have q:=snd h
  have ne:c≠D:=by rw[hD];exact Nat.ne_of_lt (clt q)
  rw[upd_ne ne]
  exact I.freeC y c q
 ·have hlen:js.length=fs.length:=by have:=congrArg List.length B.ix;simpa using this
  show(vs.map _++js.map _).length =(vs++fs).length
  rw[List.length_append,List.length_append,List.length_map,List.length_map,hlen]
theorem Inv.goneC {H':Hp}{s':Shared}{C:Addr}{h'':Heap}(I2:Inv X pins σ H s) {σ':St}(I':Inv X pins σ' H' s') (hC:H' C=none) (hle:s.heap.objs.size≤C) (hs:Heap.SameBut C s'.heap h''):Inv X pins σ' H' { s' with heap:=h'' }:=by
 refine I'.turned (t':=s'.toks) (fun b o hb e=>(hs.2 b hb).trans e) hC (Nat.ne_of_gt (Nat.lt_of_lt_of_le I2.lt hle)) (.inr (Nat.le_trans I2.sz hle)) (fun y c e z=>?_) fun p hp z=>?_
 ·obtain⟨v,o,ho,_⟩:=I2.cell y c e
  have:=Heap.lt_size ho
  rw[z]at this
  exact absurd (Nat.lt_of_lt_of_le this hle) (Nat.lt_irrefl _)
 ·have:=Heap.lt_size (I2.pin p hp).1
  rw[z]at this
  exact absurd (Nat.lt_of_lt_of_le this hle) (Nat.lt_irrefl _)
theorem blk_run {tg iter elt:Expr}{ifs:List Expr}{pos:Pos}{g:TG}{tt:TT}{te:TE}(hc:X.calm=true) (B:BlkOk X scope vs fs js)
  (hg:∀C s H ex,PG (cxBlk X scope (vs++fs) C s H ex) tg g) (ht:∀C s H ex,PIfs (cxBlk X scope (vs++fs) C s H ex) ifs tt) (he:∀C s H ex,PE (cxBlk X scope (vs++fs) C s H ex) elt te)
  {it:Addr}{fp:List Addr}{tn:Nat→Heap→Prop}{J:It}{Q:VK}{E:Value→Shared→Prop}(I2:Inv X pins σ H s) (T:Turn X.prog X.w X.K tg J fp it tn) (st2:tn 0 s.heap) (f2:∀b∈fp,FpOk X pins H b)
  (hW:∀D,H D=none→CompW J vs js σ g tt te Q D H)
  {RR:Value→Addr→Result→Shared→Prop}
  (hR:∀D C H' s',Inv X pins σ H' s'→(∃m,s'.heap.Ns C m)→H' C=none→s.heap.objs.size≤C→Q (.ref D) H'→RR (.ref D) C (.ok .next) s') :
  wpAny (model X.prog X.w) X.A (newList []) (fun acc s₃=>wpAny (model X.prog X.w) X.A (newFunctionEnv scope X.env.globals (clOf X.env scope.names []) [] X.env.qual none .none (some X.env)) (fun cenv s₄ =>
   codeAny (model X.prog X.w) X.A (.compStart (.ListComp elt [⟨tg,iter,ifs,0⟩] scope pos) 0 (.ref it) acc { cenv with scope:=relabel scope X.env }) (RR acc cenv.locals) s₄) E s₃) E s:=by
 have hfp:∀b∈fp,b<s.heap.objs.size:=fun b hb=>by
  obtain⟨o,e,_⟩:=T.obj _ _ st2 b hb
  exact Heap.lt_size e
 refine wpAny_newObj_type (wpAny_newFunctionEnv B.cell (by intro y hy;simp at hy) (fun h₁ hns₁ hsb₁=>?_) B.kind)
 dsimp only at hns₁ hsb₁ ⊢
 generalize hH2:s.heap.push { cls:=.type "list",dict:=none,data:=.seq ([]:List Value).toArray } = HH at hns₁ hsb₁ ⊢
 have hC:HH.objs.size=s.heap.objs.size+1:=by rw[← hH2,Heap.size_push]
 have hlt:s.heap.objs.size<HH.objs.size:=by rw[hC];exact Nat.lt_succ_self _
 have old:∀b o,s.heap.get? b=some o→h₁.get? b=some o:=fun b o e=>hsb₁.extBut b o (Nat.ne_of_lt (Nat.lt_trans (Heap.lt_size e) hlt)) (Heap.get?_push_of_some _ (hH2 ▸ Heap.get?_push_of_some _ e))
 have hacc:h₁.get? s.heap.objs.size=some { cls:=.type "list",data:=.seq ([]:List Value).toArray }:=hsb₁.extBut _ _ (Nat.ne_of_lt hlt) (Heap.get?_push_of_some _ (hH2 ▸ Heap.get?_push_size _ rfl))
 have I0:Inv (cxBlk X scope (vs++fs) HH.objs.size s H fp) [] (blkSt vs js σ) (upd H s.heap.objs.size (.lst [])) { s with heap:=h₁,toks:=s.toks+([]:List (Str×Value)).length }:=blk_start I2 B f2 hfp hns₁ old rfl hlt hacc
 obtain⟨W,⟨m0,w0⟩,turn⟩:=hW s.heap.objs.size (I2.hok.fresh (Nat.le_refl _))
 have st1:tn 0 h₁:=T.keep _ _ _ st2 fun b hb o e=>old b o e
 have hch:∀b∈fp,(b∈X.ex∨X.s₀.heap.objs.size≤b)∧b≠X.env.locals∧(∀x c,X.env.cells.lookup x=some c→c≠b)∧∀p∈X.pn++pins,p.1≠b:=fun b hb=>by
  obtain⟨_,a2,_,a4,a5,a6⟩:=f2 b hb
  exact⟨a4,a2,a5,a6⟩
 have back:∀{pl:List (Addr×Obj)}{σ':St}{H':Hp}{s':Shared},Inv (cxBlk X scope (vs++fs) HH.objs.size s H fp) pl σ' H' s'→Inv X pins σ H' s':=fun {pl σ' H' s'} J'=>I2.call' (ch:=fp) J'.os J'.base J'.hok J'.bare hch
 have nD:∀b∈fp,b≠s.heap.objs.size:=fun b hb=>Nat.ne_of_lt (hfp b hb)
 have stat:∀{H':Hp},(∀b∈fp,H' b=none)→∀b∈fp,FpOk (cxBlk X scope (vs++fs) HH.objs.size s H fp) [] H' b:=fun {H'} hn b hb=>by
  have z:=I0.ok
  refine⟨hn b hb,(z.exf b hb).1,z.exfs b hb,.inl hb,(z.exf b hb).2,fun p hp=>absurd (show p∈([]:List (Addr×Obj)) from hp) (by simp)⟩
 have loop:∀s₃:Shared,s₃ = { s with heap:=h₁,toks:=s.toks+([]:List (Str×Value)).length } →
   codeAny (model X.prog X.w) X.A (.compLoop (.ListComp elt [⟨tg,iter,ifs,0⟩] scope pos) 0 (.ref it) (.ref s.heap.objs.size) (compEnvC scope (clOf X.env scope.names []) HH.objs.size X.env)) (RR (.ref s.heap.objs.size) HH.objs.size) s₃:=by
  rintro s₃ rfl
  refine codeAny_compLoop_gen (fun n s'=>∃i σ' ys H',Inv (cxBlk X scope (vs++fs) HH.objs.size s H fp) [] σ' H' s'∧tn i s'.heap∧(∀b∈fp,H' b=none)∧W i n σ' ys H') ?_ m0
   ⟨0,_,_,_,I0,st1,fun b hb=>by rw[upd_ne (nD b hb)];exact(f2 b hb).1,w0⟩
  rintro n s3 ⟨i,σ3,ys,H3,I3,st3,fr3,w3⟩
  rcases turn i n σ3 ys H3 w3 with⟨stop,q⟩|⟨go,N,hN,step⟩
  ·refine thn (T.done (cxBlk X scope (vs++fs) HH.objs.size s H fp) rfl rfl rfl hc i [] s3 σ3 H3 _ I3 (stat fr3) st3 stop) fun r s4 ⟨hr,I4⟩=>?_
   subst hr
   obtain⟨m,hm,_⟩:=I4.loc
   exact hR _ _ H3 s4 (back I4) ⟨m,hm⟩ I4.free (Nat.le_of_lt hlt) q
  ·refine thn (T.item (cxBlk X scope (vs++fs) HH.objs.size s H fp) rfl rfl rfl hc i [] s3 σ3 H3 _ I3 (stat fr3) st3 go) fun r s4 ⟨u,hr,h4⟩=>?_
   subst hr
   refine thn h4 fun _ s5 ⟨x,H5,I5,r5,y5,st5,fr5⟩=>?_
   have I5':=I5.pinned (stat fr5) (T.obj _ _ st5)
   have again:∀{σ7:St}{H7:Hp}{s7:Shared}{zs:List V},Inv (cxBlk X scope (vs++fs) HH.objs.size s H fp) ([]++pinsAt fp s5.heap) σ7 H7 s7→N σ7 zs H7→∃m,m<n∧∃i σ' ys H',Inv (cxBlk X scope (vs++fs) HH.objs.size s H fp) [] σ' H' s7∧tn i s7.heap∧(∀b∈fp,H' b=none)∧W i m σ' ys H':=fun {σ7 H7 s7 zs} I7 n7=>by
    obtain⟨m',hm,w7⟩:=hN σ7 zs H7 n7
    refine⟨m',hm,i+1,σ7,zs,H7,I7.unpinned,T.keep _ _ _ st5 fun b hb o e=>(I7.pin (b,o) (List.mem_append_right _ (List.mem_append_right _ (mem_pinsAt hb e)))).1,fun b hb=>?_,w7⟩
    obtain⟨o,e,d⟩:=T.obj _ _ st5 b hb
    exact(I7.pin (b,o) (List.mem_append_right _ (List.mem_append_right _ (mem_pinsAt hb e)))).2.1
   refine thn (hg _ _ _ _ _ s5 σ3 H5 x u _ I5' r5 (step x H5 y5)) fun _ s6 ⟨σ6,H6,I6,q6⟩=>?_
   refine thn (ht _ _ _ _ _ s6 σ6 H6 _ I6 q6) fun ok s7 ⟨H7,I7,q7⟩=>?_
   cases ok with
   | false =>
    rw[if_neg Bool.false_ne_true]at q7 ⊢
    exact again I7 q7
   | true =>
    rw[if_pos rfl]at q7 ⊢
    refine thn (he _ _ _ _ _ s7 σ6 H7 _ I7 q7) fun y s8 ⟨yv,H8,I8,r8,hD8,hz,n8⟩=>?_
    refine thn (mt_append _ s8 σ6 H8 (.ref s.heap.objs.size) [yv] (.ref s.heap.objs.size) [y] (fun _ H9=>N σ6 (ys ++ [yv]) H9) I8 rfl (.cons r8 .nil) ⟨_,ys,yv,rfl,rfl,hD8,hz,n8⟩) fun _ s9 ⟨_,H9,I9,_,n9⟩=>?_
    exact again I9 n9
 exact codeAny_compStart_list (loop _ rfl) (T.self X.A 0 _ _ _ st1 (loop _ rfl))
theorem pe_comp {tg iter elt:Expr}{ifs:List Expr}{pos:Pos}{wi:TI}{g:TG}{tt:TT}{te:TE}(hc:X.calm=true) (B:BlkOk X scope vs fs js) (hi:PI X tg iter wi)
  (hg:∀C s H ex,PG (cxBlk X scope (vs++fs) C s H ex) tg g) (ht:∀C s H ex,PIfs (cxBlk X scope (vs++fs) C s H ex) ifs tt) (he:∀C s H ex,PE (cxBlk X scope (vs++fs) C s H ex) elt te)
  (hs:∀x,foldedSetIterable iter X.env x=pure x:=by intro _;rfl):PE X (.ListComp elt [⟨tg,iter,ifs,0⟩] scope pos) (tComp vs js wi g tt te):=by
 intro pins s σ H Q I h
 rw[eval_ListComp]
 refine wpAny_comprehension_free (use:=none) rfl hs (closure_eq fun y hy hf=>I.ok.has y.1 (B.free y hy hf)) B.kind B.names (thn (hi pins s σ H _ I h) fun v s1 h1=>thn h1 fun itv s2 h2=>?_)
 obtain⟨it,fp,tn,J,H2,e,I2,T,st2,f2,hW⟩:=h2
 subst e
 refine blk_run (RR:=fun acc C=>compPost (model X.prog X.w) X.A X.xe none (EP X pins σ Q) acc C) hc B hg ht he I2 T st2 f2 hW ?_
 intro D C H' s' I' hn hC hle q
 obtain⟨m,hn⟩:=hn
 exact⟨m,hn,fun h'' hs''=>⟨.ref D,H',I2.goneC I' hC hle hs'',rfl,q⟩⟩
theorem ps_setc {i:Nat}{y:Str}{py spos:Pos}{tg iter elt:Expr}{ifs:List Expr}{pos:Pos}{wi:TI}{g:TG}{tt:TT}{te:TE}(hN:X.N.Nodup) (hi':X.N[i]? = some y) (hy:X.env.scope.names.lookup y=some .local) (hc:X.calm=true) (B:BlkOk X scope vs fs js) (hi:PI X tg iter wi)
  (hg:∀C s H ex,PG (cxBlk X scope (vs++fs) C s H ex) tg g) (ht:∀C s H ex,PIfs (cxBlk X scope (vs++fs) C s H ex) ifs tt) (he:∀C s H ex,PE (cxBlk X scope (vs++fs) C s H ex) elt te)
  (hsw:swapsWith (.ListComp elt [⟨tg,iter,ifs,0⟩] scope pos) (some (.Name y py)) spos.line X.env=pure true:=by rfl)
  (hs:∀x,foldedSetIterable iter X.env x=pure x:=by intro _;rfl):PS X (.Assign [.Name y py] (.ListComp elt [⟨tg,iter,ifs,0⟩] scope pos) spos) (tAsg (tComp vs js wi g tt te) (gName i)):=by
 intro pins s σ H D I h
 rw[exec_Assign_Name_used _ _ _ _ hsw]
 refine wpAny_bind (wpAny_standAt (wpAny_bind ?_))
 show wpAny _ X.A (do let _ ← comprehension (.ListComp elt [⟨tg,iter,ifs,0⟩] scope pos) scope X.env _ (newList []) false (eval iter X.env) (some (assign (.Name y py) X.env))) _ _ s
 refine wpAny_bind (wpAny_mono (wpAny_comprehension_free (use:=some (assign (.Name y py) X.env)) (Q:=fun _ s'=>SP X pins D .next s') rfl hs (closure_eq fun y hy hf=>I.ok.has y.1 (B.free y hy hf)) B.kind B.names
  (thn (hi pins s σ H _ I h) fun v s1 h1=>thn h1 fun itv s2 h2=>?_)) (fun _ s' hq=>wpAny_pure (wpAny_pure hq)) fun _ _ e=>e)
 obtain⟨it,fp,tn,J,H2,e,I2,T,st2,f2,hW⟩:=h2
 subst e
 refine blk_run (Q:=fun x H1=>gName i x σ H1 D.nx) (RR:=fun acc C=>compPost (model X.prog X.w) X.A X.xe (some (assign (.Name y py) X.env)) (fun _ s'=>SP X pins D .next s') acc C) hc B hg ht he I2 T st2 f2 hW ?_
 intro D' C H' s' I' hn hC hle q
 obtain⟨m,hn⟩:=hn
 show wpAny _ X.A (assign (.Name y py) X.env (.ref D')) _ _ _
 refine wpAny_assign_Name (store_ok2 I' hN hi' (.inl hy) (v:=.ref D') rfl (fun s'' I'' hsb=>?_) (.inr hy))
 obtain⟨a,hsb,ha⟩:=hsb
 have nCa:C≠a:=by
  rcases ha with z|z
  ·rw[z];exact Nat.ne_of_gt (Nat.lt_of_lt_of_le I2.lt hle)
  ·obtain⟨v,o,ho,_⟩:=I2.cell y a z
   exact Nat.ne_of_gt (Nat.lt_of_lt_of_le (Heap.lt_size ho) hle)
 exact⟨m,hn.sameBut hsb nCa,fun h'' hs''=>⟨_,H',I2.goneC I'' hC hle hs'',q⟩⟩
end
section
variable {vs:List Str}{js:List Nat}{σ:St}{g:TG}{tt:TT}{te:TE}{Q:VK}
theorem comp_range {lo:Int}{n:Nat}{H:Hp}(Pv:Nat→St→List V→Hp→Prop) (D:Addr) (h0:Pv 0 (blkSt vs js σ) [] (upd H D (.lst [])))
  (hs:∀i σ' ys H',i<n→Pv i σ' ys H'→g (.int (lo+i)) σ' H' fun σ3 H3=>tt σ3 H3 fun b H4=>if b=true then te σ3 H4 fun y H5=>H5 D=some (.lst ys)∧ys.length<sizeLine∧Pv (i+1) σ3 (ys ++ [y]) (upd H5 D (.lst (ys ++ [y]))) else Pv (i+1) σ3 ys H4)
  (hd:∀σ' ys H',Pv n σ' ys H'→Q (.ref D) H') :
  CompW (Itr lo n) vs js σ g tt te Q D H:=by
 refine⟨fun i m σ' ys H'=>m=n-i∧i≤n∧Pv i σ' ys H',⟨n,by simp,Nat.zero_le _,h0⟩,?_⟩
 rintro i m σ' ys H' ⟨rfl,hi,p⟩
 by_cases hlt:i<n
 ·refine .inr ⟨hlt,Pv (i+1),fun σ2 zs H2 p'=>⟨n-(i+1),by omega,rfl,hlt,p'⟩,fun x H2 y=>?_⟩
  obtain⟨e,y⟩:=y
  subst e y
  exact hs i σ' ys _ hlt p
 ·have e:i=n:=by omega
  subst e
  exact .inl ⟨Nat.le_refl _,hd σ' ys H' p⟩
theorem comp_list {K:PySem.W.Frag}{a:Addr}{xs:List V}{H:Hp}(Pv:Nat→St→List V→Hp→Prop) (D:Addr) (h0:Pv 0 (blkSt vs js σ) [] (upd H D (.lst []))) (hl:∀i σ' ys H',i≤xs.length→Pv i σ' ys H'→SqL K H' a xs)
  (hs:∀i x σ' ys H',xs[i]? = some x→Pv i σ' ys H'→g x σ' H' fun σ3 H3=>tt σ3 H3 fun b H4=>if b=true then te σ3 H4 fun y H5=>H5 D=some (.lst ys)∧ys.length<sizeLine∧Pv (i+1) σ3 (ys ++ [y]) (upd H5 D (.lst (ys ++ [y]))) else Pv (i+1) σ3 ys H4)
  (hd:∀σ' ys H',Pv xs.length σ' ys H'→Q (.ref D) H') :
  CompW (Itl K a) vs js σ g tt te Q D H:=by
 refine⟨fun i m σ' ys H'=>m=xs.length-i∧i≤xs.length∧Pv i σ' ys H',⟨xs.length,by simp,Nat.zero_le _,h0⟩,?_⟩
 rintro i m σ' ys H' ⟨rfl,hi,p⟩
 have q:=hl i σ' ys H' hi p
 by_cases hlt:i<xs.length
 ·refine .inr ⟨⟨xs,xs[i],q,by simp[hlt]⟩,Pv (i+1),fun σ2 zs H2 p'=>⟨xs.length-(i+1),by omega,rfl,hlt,p'⟩,fun x H2 y=>?_⟩
  obtain⟨e,y⟩:=y
  subst e
  exact hs i x σ' ys _ (y xs q) p
 ·have e:i=xs.length:=by omega
  subst e
  exact .inl ⟨⟨xs,q,Nat.le_refl _⟩,hd σ' ys H' p⟩
end
end L2
namespace L2
open PySem PySem.Spec PyProof.Rows
theorem bt_len:bootBuiltins "len" = some (.builtin "len"):=by decide +kernel
theorem bt_abs:bootBuiltins "abs" = some (.builtin "abs"):=by decide +kernel
theorem bt_max:bootBuiltins "max" = some (.builtin "max"):=by decide +kernel
theorem bt_min:bootBuiltins "min" = some (.builtin "min"):=by decide +kernel
theorem bt_isinstance:bootBuiltins "isinstance" = some (.builtin "isinstance"):=by decide +kernel
theorem bt_sorted:bootBuiltins "sorted" = some (.builtin "sorted"):=by decide +kernel
theorem bt_int:bootBuiltins "int" = some (.type "int"):=by decide +kernel
theorem bt_bool:bootBuiltins "bool" = some (.type "bool"):=by decide +kernel
theorem bt_list:bootBuiltins "list" = some (.type "list"):=by decide +kernel
theorem bt_tuple:bootBuiltins "tuple" = some (.type "tuple"):=by decide +kernel
theorem bt_dict:bootBuiltins "dict" = some (.type "dict"):=by decide +kernel
theorem bt_range:bootBuiltins "range" = some (.type "range"):=by decide +kernel
theorem bt_enumerate:bootBuiltins "enumerate" = some (.type "enumerate"):=by decide +kernel
structure Cal (P:Program) (w:World) (K:PySem.W.Frag) (mg:Str→Option Value) (base:Heap) (x:Str) (ps:List Str) (k:Nat) (sp:Sp):Prop where
 ex:∃(f:Addr) (fd:FuncData),FnOk P w K mg base CX0 k f fd ps sp∧Binds K fd ps []∧mg x=some (.ref f)∧PySem.W.keepIn K (.ref f)=true
section
variable {X:Cx}{x:Str}{ps:List Str}{k:Nat}{sp:Sp}{e:Expr}{es:List Expr}{t:TA}{p pos:Pos}
theorem pcl (C:Cal X.prog X.w X.K X.mg X.base x ps k sp) (hr:Room k X.A) (ha:PA X (e::es) t) (hg:Gl X x:=by rfl) (hdb:(x ==("__debug__" : Str))=false:=by decide) (he:starEach (e::es) X.env =(false,eval e X.env)::starEach es X.env:=by rfl) (hpl:(backTo pos (starEach es X.env)).any (·.1)=false:=by rfl) :
  PE X (.Call (.Name x p) (e::es) [] pos) (tCall sp [] E0 t):=by
 obtain⟨f,fd,F,hb,hm,hk⟩:=C.ex
 exact pe_call F hr hg hm hk hb .nil pass0 ha hdb he hpl
end
theorem Cal.of {P:Program}{w:World}{K:PySem.W.Frag}{mg:Str→Option Value}{base:Heap}{x:Str}{st:Stmt}{f:Addr}{fd:FuncData}{N ps:List Str}{k:Nat}{sp:Sp}(F:Fun K x x st f fd) (mF:mg x=some (.ref f)) (bF:Binds K fd ps []) (S:FnScope N ps (defScope st)) (len:∀vs H Q E,sp vs H Q E→vs.length=ps.length)
  (hbody:∀(cdv:Value) (A:Around) (outer:List Env) (s:Shared) (H:Hp) (vs:List V) (Q:VK) (E:XK),Room k (A.deeper (envOfC x (defScope st) s.heap.objs.size f cdv))→sp vs H Q E →
   ∃t,PSs (cxOf CX0 P w K mg base N x (defScope st) f cdv A outer s H E).nox (defBody st) t∧t { nx:=fun _ H'=>Q .non H',rt:=Q } (start N vs) H):Cal P w K mg base x ps (k+1) sp :=
 ⟨f,fd,F.ok S len hbody,bF,mF,F.kp⟩
def blkB (sc scope:Scope) (N vs fs:List Str) (js:List Nat):Bool :=
 (scope.kind == .function) && scope.names.all (fun y=>y.2 != .cell) && scope.names.all (fun y=>y.2 != .local || scope.names.lookup y.1 == some .local) &&
 scope.names.all (fun y=>y.2 != .free || sc.names.lookup y.1 == some .cell || sc.names.lookup y.1 == some .free) && vs.all (fun y=>scope.names.lookup y == some .local) && fs.all (fun y=>scope.names.lookup y == some .free) &&
 (js.map (fun j=>N[j]?) == fs.map some)
theorem blkOk {X:Cx}{sc scope:Scope}{N vs fs:List Str}{js:List Nat}(h:blkB sc scope N vs fs js=true) (hs:X.env.scope=sc) (hN:X.N=N):BlkOk X scope vs fs js:=by
 unfold blkB at h
 simp only[Bool.and_eq_true,List.all_eq_true,beq_iff_eq,bne_iff_ne,Bool.or_eq_true]at h
 obtain⟨⟨⟨⟨⟨⟨h1,h2⟩,h3⟩,h4⟩,h5⟩,h6⟩,h7⟩:=h
 refine⟨h1,h2,fun y hy hl=>?_,fun y hy hf=>?_,h5,h6,?_⟩
 ·rcases h3 y hy with z|z
  ·exact absurd hl z
  ·exact z
 ·unfold Env.kindOf
  rw[hs]
  rcases h4 y hy with(z|z)|z
  ·exact absurd hf z
  ·exact .inl z
  ·exact .inr z
 ·rw[hN];exact h7
def tCut (t:TS):TS:=fun D σ H=>∃R:St→Hp→Prop,t { D with nx:=R } σ H∧∀σ' H',R σ' H'→D.nx σ' H'
theorem ps_cut {X:Cx}{st:Stmt}{t:TS}(h:PS X st t):PS X st (tCut t):=by
 intro pins s σ H D I hw
 obtain⟨R,h1,h2⟩:=hw
 refine thn (h pins s σ H _ I h1) fun f s' q=>?_
 cases f with
 | next =>
  obtain⟨σ',H',I',q⟩:=q
  exact⟨σ',H',I',h2 _ _ q⟩
 | brk=>exact q
 | cont=>exact q
 | ret u=>exact q
section
variable {X:Cx}
def CDivB (i j:Int):Prop:=0<j∧j<2^100
theorem op_fdivB:OpR X (binaryOp .FloorDiv) (rI CDivB fun i j=>.int (i / j)):=opI fun i j _ _ _ _ _ hc q=>by
 have h1:(0:Int)<j:=hc.1
 have h2:j<2^100:=hc.2
 refine floordiv_int (by omega) (by rw[Int.fdiv_eq_ediv_of_nonneg i (by omega)];exact q) (.inl (PyProof.noPylong_of_log2 ?_))
 have h0:j.natAbs≠0:=by omega
 have h3:j.natAbs.log2<100:=(Nat.log2_lt h0).mpr (by omega)
 omega
theorem pe_powC {a b c:Int}{j1 j2:Nat}{p1 p2 pos:Pos}(h:a^b.toNat=c) (h1:CPow a b):PE X (.BinOp (.Constant (.int a) j1 p1) .Pow (.Constant (.int b) j2 p2) pos) (tC (.int c)):=by
 intro pins s σ H Q I q
 subst h
 exact pe_op op_pow pe_int pe_int pins s σ H Q I ⟨a,b,rfl,rfl,h1,q⟩
theorem get_list:PGet X (rIxL X.K):=by
 intro pins s σ H x y v u Q I rx ry h
 obtain⟨p,xs,i,z,rfl,rfl,hq,he,q⟩:=h
 cases rx
 obtain⟨t,rfl⟩:=ry
 obtain⟨its,r,pl,hz⟩:=I.list hq
 obtain⟨j,h1,h2,h3,h4,h5⟩:=atI_get he
 obtain⟨w,ew,rw'⟩:=r.get h2
 have hl:=r.length
 have hn:=line63
 have fin:EP X pins σ Q w s:=⟨z,H,I,rw',q⟩
 by_cases h0:0≤i
 ·have hj:i.toNat=j:=by
   rw[seqIndex_of h0 h5]at h1
   exact Option.some.inj h1
  exact wpAny_getItem_list pl.isList h0 (by omega) (by rw[hj];simpa using ew) fin
 ·have hj:(i+(its.toArray.size:Int)).toNat=j:=by
   rw[seqIndex_neg (by omega) h4]at h1
   rw[List.size_toArray,← hl]
   exact Option.some.inj h1
  exact wpAny_getItem_list_neg pl.isList (by omega) (by rw[List.size_toArray] <;> omega) (by omega) (by rw[hj];simpa using ew) fin
def rBitLen:V→List V→Hp→VK→Prop:=fun x vs H Q=>∃i,x = .int i∧vs=[]∧Q (.int (Builtin.Int.intBits i:Nat)) H
theorem mt_bitlen:MtR X "int.bit_length" rBitLen:=by
 intro pins s σ H x xs v us Q I rx rs h
 obtain⟨i,rfl,rfl,q⟩:=h
 obtain⟨t,rfl⟩:=rx
 cases rs
 exact call_int_bit_length ⟨.int _,H,I.tok _,⟨_,rfl⟩,q⟩
def rLenL (K:PySem.W.Frag):List V→Hp→VK→Prop:=fun xs H Q=>∃p ys,xs=[.ref p]∧(SqL K H p ys∨SqT K H p ys)∧Q (.int ys.length) H
theorem call_lenL:CallR X (.builtin "len") (rLenL X.K):=call_len_seq
def rAbs1:List V→Hp→VK→Prop:=fun xs H Q=>∃i,xs=[.int i]∧Q (.int (if i<0 then -i else i)) H
theorem call_abs1:CallR X (.builtin "abs") rAbs1:=call_abs
def rMaxI:List V→Hp→VK→Prop:=fun xs H Q=>∃i j,xs=[.int i,.int j]∧Q (.int (if j > i then j else i)) H
theorem call_maxI (hc:X.calm=true):CallR X (.builtin "max") rMaxI:=call_max2 hc
def rMinI:List V→Hp→VK→Prop:=fun xs H Q=>∃i j,xs=[.int i,.int j]∧Q (.int (if j<i then j else i)) H
theorem call_minI (hc:X.calm=true):CallR X (.builtin "min") rMinI:=call_min2 hc
def rIsi (K:PySem.W.Frag):List V→Hp→VK→Prop:=fun xs H Q=>∃x t T b,xs=[x,.ty T]∧TyOf K H x t∧PySem.W.kitOne K t (.type T)=some b∧Q (.bl b) H
theorem call_isinst:CallR X (.builtin "isinstance") (rIsi X.K):=by
 intro pins s σ H xs us Q I r h
 obtain⟨x,t,T,b,rfl,ty,e,q⟩:=h
 obtain⟨u,w',rfl,r1,r2⟩:=vals2 r
 cases (show w'=Value.type T from r2)
 exact isinst_ok I r1 ty e fun tk=>⟨.bl b,H,I.tok _,rfl,q⟩
end
section
variable {σ:St}{H:Hp}{Q:VK}{D:Ends}
theorem rd_var {i:Nat}{v:V}(h:σ[i]? = some (some v)) (q:Q v H):tVar i σ H Q:=⟨v,h,q⟩
theorem rd_c {v:V}(q:Q v H):tC v σ H Q:=q
theorem rd_op {r:R2}{ta tb:TE}(h:ta σ H fun x H1=>tb σ H1 fun y H2=>r x y H2 Q):tOp r ta tb σ H Q:=h
theorem rd_un {r:V→Hp→VK→Prop}{ta:TE}(h:ta σ H fun x H1=>r x H1 Q):tUn r ta σ H Q:=h
theorem rd_I0 {g:Int→Int→V}{i j:Int}(q:Q (g i j) H):rI0 g (.int i) (.int j) H Q:=⟨i,j,rfl,rfl,q⟩
theorem rd_I {C:Int→Int→Prop}{g:Int→Int→V}{i j:Int}(c:C i j) (q:Q (g i j) H):rI C g (.int i) (.int j) H Q:=⟨i,j,rfl,rfl,c,q⟩
theorem rd_U {g:Int→V}{i:Int}(q:Q (g i) H):rU g (.int i) H Q:=⟨i,rfl,q⟩
theorem dec_int' {i j:Int}:decide (V.int i=V.int j)=decide (i=j):=by
 rw[Bool.eq_iff_iff];simp
theorem rd_eqI {i j:Int}(q:Q (.bl (decide (i=j))) H):rEq (.int i) (.int j) H Q:=⟨rfl,by rw[dec_int'];exact q⟩
theorem rd_neI {i j:Int}(q:Q (.bl (!decide (i=j))) H):rNe (.int i) (.int j) H Q:=⟨rfl,by rw[dec_int'];exact q⟩
theorem rd_bl {c:Bool}{P:Bool→Prop}(h:P c):∃k,V.bl c=V.bl k∧P k:=⟨c,rfl,h⟩
theorem rd_test {t:TE}{R:Bool→Hp→Prop}(h:t σ H fun x H'=>∃k,x = .bl k∧R k H'):tTest t σ H R:=h
theorem rd_tB {t:TE}{R:Bool→Hp→Prop}(h:t σ H fun x H'=>∃k,x = .bl k∧R k H'):tB t σ H R:=h
theorem rd_and {t u:TT}{R:Bool→Hp→Prop}(h:t σ H fun c H1=>if c=true then u σ H1 R else R false H1):tAnd t u σ H R:=h
theorem rd_or {t u:TT}{R:Bool→Hp→Prop}(h:t σ H fun c H1=>if c=true then R true H1 else u σ H1 R):tOr t u σ H R:=h
theorem rd_not {t:TT}{R:Bool→Hp→Prop}(h:t σ H fun c H1=>R (!c) H1):tNot t σ H R:=h
theorem rd_andV {ta tb:TE}(h:ta σ H fun x H1=>∃c,x = .bl c∧if c=true then tb σ H1 Q else Q (.bl false) H1):tAndV ta tb σ H Q:=h
theorem rd_notV {ta:TE}(h:ta σ H fun x H1=>∃c,x = .bl c∧Q (.bl (!c)) H1):tNotV ta σ H Q:=h
theorem rd_chain {r r':R2}{ta tb tc:TE}(h:ta σ H fun x H1=>tb σ H1 fun y H2=>r x y H2 fun z H3=>∃k,z = .bl k∧(if k=true then tc σ H3 fun w' H4=>r' y w' H4 Q else Q (.bl false) H3)):tChain r r' ta tb tc σ H Q:=h
theorem rd_ifE {t:TT}{ta tb:TE}(h:t σ H fun c H1=>if c=true then ta σ H1 Q else tb σ H1 Q):tIf t ta tb σ H Q:=h
theorem rd_nil {R:List V→Hp→Prop}(h:R [] H):tNil σ H R:=h
theorem rd_cons {ta:TE}{tr:TA}{R:List V→Hp→Prop}(h:ta σ H fun x H1=>tr σ H1 fun xs H2=>R (x::xs) H2):tCons ta tr σ H R:=h
theorem rd_call {sp:Sp}{dvs:List V}{E:XK}{t:TA}(h:t σ H fun vs H1=>sp (vs++dvs) H1 Q E):tCall sp dvs E t σ H Q:=h
theorem rd_cb {r:List V→Hp→VK→Prop}{t:TA}(h:t σ H fun vs H1=>r vs H1 Q):tCB r t σ H Q:=h
theorem rd_lst {t:TA}(h:t σ H fun xs H1=>xs.length≤sizeLine∧∀p,H1 p=none→Q (.ref p) (upd H1 p (.lst xs))):tLst t σ H Q:=h
theorem rd_tup {t:TA}(h:t σ H fun xs H1=>xs.length≤sizeLine∧∀p,H1 p=none→Q (.ref p) (upd H1 p (.tup xs))):tTup t σ H Q:=h
theorem rd_asg {te:TE}{g:TG}(h:te σ H fun x H1=>g x σ H1 D.nx):tAsg te g D σ H:=h
theorem rd_gname {i:Nat}{v:V}{R:St→Hp→Prop}(h:R (σ.set i (some v)) H):gName i v σ H R:=h
theorem rd_ret {te:TE}(h:te σ H D.rt):tRet te D σ H:=h
theorem rd_next (h:D.nx σ H):tNext D σ H:=h
theorem rd_drop {te:TE}(h:te σ H fun _ H1=>D.nx σ H1):tDrop te D σ H:=h
theorem rd_ixL {K:PySem.W.Frag}{p:Addr}{xs:List V}{i:Int}{v:V}(h:SqL K H p xs) (e:atI xs i=some v) (q:Q v H):rIxL K (.ref p) (.int i) H Q:=⟨p,xs,i,v,rfl,rfl,h,e,q⟩
theorem rd_bm0 {K:PySem.W.Frag}{T:String}{r:V→List V→Hp→VK→Prop}{to:TE}(h:to σ H fun x H1=>tyV K T x H1∧r x [] H1 Q):tBM0 K T r to σ H Q:=h
theorem rd_bm {K:PySem.W.Frag}{T:String}{r:V→List V→Hp→VK→Prop}{to:TE}{t:TA}(h:to σ H fun x H1=>tyV K T x H1∧t σ H1 fun xs H2=>r x xs H2 Q):tBM K T r to t σ H Q:=h
theorem rd_augS {to ti te:TE}{tget:V→V→Hp→VK→Prop}{tip:TIp}{tset:TSet}(h:to σ H fun o H1=>ti σ H1 fun i H2=>tget o i H2 fun x H3=>te σ H3 fun y H4=>tip x y H4 fun z H5=>tset o i z H5 fun H6=>D.nx σ H6):tAugS to ti te tget tip tset D σ H:=h
theorem rd_ip {f:Int→Int→Int}{i j:Int}(q:Q (.int (f i j)) H):ipI f (.int i) (.int j) H Q:=⟨i,j,rfl,rfl,q⟩
theorem rd_setL {p:Addr}{xs:List V}{i:Int}{j:Nat}{v:V}{R:Hp→Prop}(h:H p=some (.lst xs)) (e:ixN xs.length i=some j) (q:R (upd H p (.lst (xs.set j v)))):rSetL (.ref p) (.int i) v H R:=⟨p,xs,i,j,rfl,rfl,h,e,q⟩
theorem rd_set0 {p:Addr}{a:V}{r:List V}{v:V}{R:Hp→Prop}(h:H p=some (.lst (a::r))) (q:R (upd H p (.lst (v::r)))):rSetL (.ref p) (.int 0) v H R :=
 ⟨p,_,0,0,rfl,rfl,h,by unfold ixN;rw[if_pos (by decide),if_pos (by rw[List.length_cons];omega)];rfl,q⟩
theorem rd_set1 {p:Addr}{a b:V}{r:List V}{v:V}{R:Hp→Prop}(h:H p=some (.lst (a::b::r))) (q:R (upd H p (.lst (a::v::r)))):rSetL (.ref p) (.int 1) v H R :=
 ⟨p,_,1,1,rfl,rfl,h,by unfold ixN;rw[if_pos (by decide),if_pos (by rw[List.length_cons,List.length_cons];omega)];rfl,q⟩
theorem rd_gsub {to ti:TE}{t:TSet}{v:V}{R:St→Hp→Prop}(h:to σ H fun o H1=>ti σ H1 fun i H2=>t o i v H2 fun H3=>R σ H3):gSub to ti t v σ H R:=h
theorem rd_sl {r:V→Option Int→Option Int→Hp→VK→Prop}{te:TE}{tl th:TO}(h:te σ H fun x H1=>tl σ H1 fun l H2=>th σ H2 fun u H3=>r x l u H3 Q):tSl r te tl th σ H Q:=h
theorem rd_nop {R:Option Int→Hp→Prop}(h:R none H):tNoPart σ H R:=h
theorem rd_part {t:TE}{R:Option Int→Hp→Prop}(h:t σ H fun x H1=>∃i,x = .int i∧R (some i) H1):tPart t σ H R:=h
theorem rd_int {i:Int}{P:Int→Prop}(h:P i):∃k,V.int i=V.int k∧P k:=⟨i,rfl,h⟩
theorem rd_slL {K:PySem.W.Frag}{a:Addr}{xs:List V}{lo hi:Option Int}(h:SqL K H a xs) (q:∀p,H p=none→Q (.ref p) (upd H p (.lst (cutV xs lo hi)))):rSlL K (.ref a) lo hi H Q:=⟨a,xs,rfl,h,q⟩
theorem rd_lenL {K:PySem.W.Frag}{a:Addr}{ys:List V}(h:SqL K H a ys) (q:Q (.int ys.length) H):rLenL K [.ref a] H Q:=⟨a,ys,rfl,.inl h,q⟩
theorem rd_abs {i:Int}(q:Q (.int (if i<0 then -i else i)) H):rAbs1 [.int i] H Q:=⟨i,rfl,q⟩
theorem rd_max {i j:Int}(q:Q (.int (max i j)) H):rMaxI [.int i,.int j] H Q:=⟨i,j,rfl,by
 have e:(if j > i then j else i)=max i j:=by omega
 rw[e];exact q⟩
theorem rd_min {i j:Int}(q:Q (.int (min i j)) H):rMinI [.int i,.int j] H Q:=⟨i,j,rfl,by
 have e:(if j<i then j else i)=min i j:=by omega
 rw[e];exact q⟩
theorem rd_isi {K:PySem.W.Frag}{x:V}{t:Value}{T:String}{b:Bool}(h:TyOf K H x t) (e:PySem.W.kitOne K t (.type T)=some b) (q:Q (.bl b) H):rIsi K [x,.ty T] H Q:=⟨x,t,T,b,rfl,h,e,q⟩
theorem rd_bitlen {i:Int}(q:Q (.int (Builtin.Int.intBits i:Nat)) H):rBitLen (.int i) [] H Q:=⟨i,rfl,rfl,q⟩
theorem rd_if {c:Prop} [Decidable c] {A B:Prop}(h1:c→A) (h2:¬ c→B):if decide c=true then A else B:=by
 by_cases h:c
 ·rw[decide_eq_true h,if_pos rfl];exact h1 h
 ·rw[decide_eq_false h,if_neg Bool.false_ne_true];exact h2 h
theorem rd_rng1 {ta:TA}{R:It→Hp→Prop}(h:ta σ H fun vs H1=>∃j:Int,vs=[.int j]∧-(2^62)≤j∧j<2^62∧R (Itr 0 j.toNat) H1):iRng1 ta σ H R:=h
theorem rd_rng2 {ta:TA}{R:It→Hp→Prop}(h:ta σ H fun vs H1=>∃i j:Int,vs=[.int i,.int j]∧(-(2^62)≤i∧i<2^62∧-(2^62)≤j∧j<2^62)∧R (Itr i (j-i).toNat) H1):iRng2 ta σ H R:=h
theorem rd_ilist {K:PySem.W.Frag}{tl:TE}{R:It→Hp→Prop}(h:tl σ H fun x H1=>∃a,x = .ref a∧(∃xs,SqL K H1 a xs)∧R (Itl K a) H1):iList K tl σ H R:=h
theorem rd_comp {vs:List Str}{js:List Nat}{wi:TI}{g:TG}{tt:TT}{te:TE}(h:wi σ H fun J H1=>∀D,H1 D=none→CompW J vs js σ g tt te Q D H1):tComp vs js wi g tt te σ H Q:=h
theorem rd_yes {R:Bool→Hp→Prop}(h:R true H):tYes σ H R:=h
theorem rd_iteT {A B:Prop}(h:A):if true=true then A else B:=iteT h
theorem rd_iteF {A B:Prop}(h:B):if false=true then A else B:=iteF h
theorem rd_iteNF {A B:Prop}(h:A):if (!false)=true then A else B:=iteT h
theorem rd_iteNT {A B:Prop}(h:B):if (!true)=true then A else B:=iteF h
theorem cut_lo {ms:List Int}{k:Nat}:cutV (ms.map V.int) (some (k:Int)) none =(ms.drop k).map V.int:=by
 unfold cutV
 rw[HT.sIx_nat,HT.sIx_none,List.length_map,← List.map_drop]
 by_cases h:k≤ms.length
 ·rw[Nat.min_eq_left h,List.take_of_length_le (by rw[List.length_map,List.length_drop];omega)]
 ·rw[List.drop_eq_nil_of_le (by omega:ms.length≤min k ms.length),List.drop_eq_nil_of_le (by omega:ms.length≤k)]
  simp
theorem cut_hi {ms:List Int}{k:Nat}:cutV (ms.map V.int) none (some (k:Int)) =(ms.take k).map V.int:=by
 unfold cutV
 rw[HT.sIx_nat,HT.sIx_none,List.length_map,List.drop_zero,Nat.sub_zero,← List.map_take]
 by_cases h:k≤ms.length
 ·rw[Nat.min_eq_left h]
 ·rw[Nat.min_eq_right (by omega),List.take_of_length_le (Nat.le_refl _),List.take_of_length_le (by omega)]
theorem same_new {H:Hp}{p:Addr}(h:H p=none) (o:HO):Same H (upd H p o):=fun b u q=>by rw[upd_ne (ne_of_none q h)];exact q
end
end L2
namespace L2
open PySem PySem.Spec PyProof.Rows
mutual
inductive DV (K:PySem.W.Frag) (H:Hp):V→PyData→Prop
 | non:DV K H .non .none
 | bl (b:Bool):DV K H (.bl b) (.bool b)
 | int (i:Int):DV K H (.int i) (.int i)
 | str (x:Str):DV K H (.str x) (.str x)
 | lst {a:Addr}{xs:List V}{ds:List PyData}:SqL K H a xs→DVs K H xs ds→DV K H (.ref a) (.list ds)
 | tup {a:Addr}{xs:List V}{ds:List PyData}:SqT K H a xs→DVs K H xs ds→DV K H (.ref a) (.tuple ds)
inductive DVs (K:PySem.W.Frag) (H:Hp):List V→List PyData→Prop
 | nil:DVs K H [] []
 | cons {x:V}{d:PyData}{xs:List V}{ds:List PyData}:DV K H x d→DVs K H xs ds→DVs K H (x::xs) (d::ds)
end
section
variable {X:Cx}{pins:List (Addr×Obj)}{σ:St}{H:Hp}{s:Shared}
mutual
theorem DV.reads (I:Inv X pins σ H s):∀{x:V}{d:PyData}{v:Value},DV X.K H x d→RelV x v→∃as,Reads s.heap v d as
 | _,_,_,.non,r=>by cases r;exact⟨_,.none⟩
 | _,_,_,.bl b,r=>by cases r;exact⟨_,.bool b⟩
 | _,_,_,.int i,r=>by obtain⟨t,rfl⟩:=r;exact⟨_,.int i t⟩
 | _,_,_,.str x,r=>by obtain⟨t,rfl⟩:=r;exact⟨_,.str x t⟩
 | _,_,_,.lst (a:=a) h ds,r=>by
  cases r
  obtain⟨its,rv,⟨o,n,e,c,_,d⟩,_⟩:=I.list h
  obtain⟨as,q⟩:=DVs.reads I ds rv
  exact⟨_,.list e c d (by simpa using q)⟩
 | _,_,_,.tup (a:=a) h ds,r=>by
  cases r
  obtain⟨its,rv,⟨o,e,c,n,d⟩,_⟩:=I.tuple h
  obtain⟨as,q⟩:=DVs.reads I ds rv
  exact⟨_,.tuple e c d (by simpa using q)⟩
theorem DVs.reads (I:Inv X pins σ H s):∀{xs:List V}{ds:List PyData}{vs:List Value},DVs X.K H xs ds→Vals xs vs→∃as,ReadsAll s.heap vs ds as
 | _,_,_,.nil,r=>by cases r;exact⟨_,.nil⟩
 | _,_,_,.cons h t,r=>by
  cases r with
  | cons r1 r2 =>
   obtain⟨as,q⟩:=DV.reads I h r1
   obtain⟨bs,p⟩:=DVs.reads I t r2
   exact⟨_,.cons q p⟩
end
end
theorem DVs.ints {K:PySem.W.Frag}{H:Hp}:∀ns:List Int,DVs K H (ns.map V.int) (ns.map PyData.int)
 | []=>.nil
 | n::r=>.cons (.int n) (DVs.ints r)
theorem lay_ints:∀ns:List Int,PyData.canLayAll0 (ns.map PyData.int)=true∧PyData.depthAll (ns.map PyData.int)=0
 | []=>⟨rfl,rfl⟩
 | n::r=>by
  obtain⟨h1,h2⟩:=lay_ints r
  simp[PyData.canLayAll0,PyData.canLay0,PyData.depthAll,PyData.depth,h1,h2]
theorem shaped_ints (ns:List Int):SeqAt.shaped (.list (ns.map PyData.int))=true:=by
 obtain⟨h1,h2⟩:=lay_ints ns
 simp[SeqAt.shaped,PyData.canLay0,PyData.depth,h1,h2]
theorem eqv_ints:∀ns ms:List Int,PyData.eqvAll (ns.map PyData.int) (ms.map PyData.int)=decide (ns=ms)
 | [],[]=>rfl
 | [],_::_=>rfl
 | _::_,[]=>rfl
 | n::ns,m::ms=>by
  rw[List.map_cons,List.map_cons,PyData.eqvAll,PyData.eqv,eqv_ints ns ms,Bool.eq_iff_iff]
  simp
section
variable {X:Cx}
def rEqD (K:PySem.W.Frag):R2:=fun x y H Q=>∃d e,DV K H x d∧DV K H y e∧SeqAt.shaped d=true∧SeqAt.shaped e=true∧Q (.bl (PyData.eqv d e)) H
def rNeD (K:PySem.W.Frag):R2:=fun x y H Q=>∃d e,DV K H x d∧DV K H y e∧SeqAt.shaped d=true∧SeqAt.shaped e=true∧Q (.bl (!PyData.eqv d e)) H
theorem op_eqD (hu:X.A.units+64<cLine):OpR X (compareOp .Eq) (rEqD X.K):=by
 intro pins s σ H x y v u Q I rx ry h
 obtain⟨d,e,h1,h2,h3,h4,q⟩:=h
 obtain⟨as,r1⟩:=h1.reads I rx
 obtain⟨bs,r2⟩:=h2.reads I ry
 exact eq_dataH r1 r2 h3 h4 hu ⟨.bl _,H,I,rfl,q⟩
theorem op_neD (hu:X.A.units+64<cLine):OpR X (compareOp .NotEq) (rNeD X.K):=by
 intro pins s σ H x y v u Q I rx ry h
 obtain⟨d,e,h1,h2,h3,h4,q⟩:=h
 obtain⟨as,r1⟩:=h1.reads I rx
 obtain⟨bs,r2⟩:=h2.reads I ry
 exact ne_dataH r1 r2 h3 h4 hu ⟨.bl _,H,I,rfl,q⟩
end
end L2
namespace L2
open PySem PySem.Spec PyProof.Rows
section
variable {X:Cx}
end
section
variable {X:Cx}{K:PySem.W.Frag}
theorem call_lenLK (h:X.K=K):CallR X (.builtin "len") (rLenL K):=by subst h;exact call_lenL
theorem ix_listK (h:X.K=K):IxR X (rIxL K):=by subst h;exact ix_list
theorem sl_listK (h:X.K=K):SlR X (rSlL K):=by subst h;exact sl_list
theorem op_neDK (h:X.K=K) (hu:X.A.units+64<cLine):OpR X (compareOp .NotEq) (rNeD K):=by subst h;exact op_neD hu
end
section
variable {σ:St}{H:Hp}{Q:VK}{D:Ends}
theorem rd_ixT {K:PySem.W.Frag}{p:Addr}{xs:List V}{i:Int}{v:V}(h:SqT K H p xs) (e:atI xs i=some v) (q:Q v H):rIxT K (.ref p) (.int i) H Q:=⟨p,xs,i,v,rfl,rfl,h,e,q⟩
end
end L2
namespace L2
open PySem PySem.Spec PyProof.Rows
section
variable {κ:Type} [DecidableEq κ]
def valV (kvs:List (κ×V)) (k:κ):Option V:=(kvs.find? fun kv=>decide (kv.1=k)).map (·.2)
def putK (kvs:List (κ×V)) (k:κ) (v:V):List (κ×V) :=
 if (kvs.any fun kv=>decide (kv.1=k))=true then kvs.map (fun kv=>if kv.1=k then(kv.1,v) else kv) else kvs ++ [(k,v)]
theorem valV_pos {p:κ×V}{r:List (κ×V)}{k:κ}(e:p.1=k):valV (p::r) k=some p.2:=by simp[valV,List.find?_cons,e]
theorem valV_neg {p:κ×V}{r:List (κ×V)}{k:κ}(e:¬ p.1=k):valV (p::r) k=valV r k:=by simp[valV,List.find?_cons,e]
theorem valV_any (k:κ):∀kvs:List (κ×V),(kvs.any fun kv=>decide (kv.1=k)) =(valV kvs k).isSome
 | []=>rfl
 | p::r=>by
  rw[List.any_cons]
  by_cases e:p.1=k
  ·simp only[valV_pos e,decide_eq_true e,Bool.true_or,Option.isSome_some]
  ·rw[valV_neg e,decide_eq_false e,Bool.false_or];exact valV_any k r
theorem length_putK (kvs:List (κ×V)) (k:κ) (v:V):(putK kvs k v).length≤kvs.length+1:=by
 unfold putK
 split
 ·rw[List.length_map];omega
 ·rw[List.length_append,List.length_cons,List.length_nil];omega
theorem RelO.isSome_eq {o:Option V}{u:Option Value}(r:RelO o u):o.isSome=u.isSome:=by
 cases o with
 | none=>cases u with
  | none=>rfl
  | some _=>exact(show False from r).elim
 | some _=>cases u with
  | none=>exact(show False from r).elim
  | some _=>rfl
theorem KV.val {kvs:List (κ×V)}{vs:List (κ×Value)}(r:KV kvs vs) (k:κ):RelO (valV kvs k) (valueAt vs k):=by
 unfold KV at r
 induction r with
 | nil=>exact True.intro
 | @cons p q ps qs h t ih =>
  obtain⟨h1,h2⟩:=h
  by_cases e:p.1=k
  ·have e':q.1=k:=h1.symm.trans e
   have b:valueAt (q::qs) k=some q.2:=by simp[valueAt,List.find?_cons,e']
   rw[valV_pos e,b];exact h2
  ·have e':¬ q.1=k:=fun z=>e (h1.trans z)
   have b:valueAt (q::qs) k=valueAt qs k:=by simp[valueAt,List.find?_cons,e']
   rw[valV_neg e,b];exact ih
theorem KV.any {kvs:List (κ×V)}{vs:List (κ×Value)}(r:KV kvs vs) (k:κ):(kvs.any fun kv=>decide (kv.1=k))=vs.any fun kv=>decide (kv.1=k):=by
 unfold KV at r
 induction r with
 | nil=>rfl
 | cons h t ih=>rw[List.any_cons,List.any_cons,ih,h.1]
theorem KV.repl {kvs:List (κ×V)}{vs:List (κ×Value)}(r:KV kvs vs) (k:κ) {y:V}{u:Value}(ry:RelV y u) :
  KV (kvs.map fun kv=>if kv.1=k then(kv.1,y) else kv) (vs.map fun kv=>if kv.1=k then(kv.1,u) else kv):=by
 unfold KV at r ⊢
 induction r with
 | nil=>exact .nil
 | @cons p q ps qs h t ih =>
  rw[List.map_cons,List.map_cons]
  refine .cons ?_ ih
  obtain⟨h1,h2⟩:=h
  by_cases e:p.1=k
  ·rw[if_pos e,if_pos (h1.symm.trans e)];exact⟨h1,ry⟩
  ·rw[if_neg e,if_neg (fun z=>e (h1.trans z))];exact⟨h1,h2⟩
theorem KV.put {kvs:List (κ×V)}{vs:List (κ×Value)}(r:KV kvs vs) (k:κ) {y:V}{u:Value}(ry:RelV y u):KV (putK kvs k y) (stored vs k u):=by
 unfold putK stored
 rw[r.any k]
 by_cases e:(vs.any fun kv=>decide (kv.1=k))=true
 ·rw[if_pos e,if_pos e];exact r.repl k ry
 ·rw[if_neg e,if_neg e];exact Paired.snoc r ⟨rfl,ry⟩
theorem KV.length {kvs:List (κ×V)}{vs:List (κ×Value)}(r:KV kvs vs):kvs.length=vs.length:=Paired.length r
end
theorem kV_is {P:Program}{w:World}{k:Key}{u:Value}(r:RelV (kV k) u):(mixKind P w).is k u=true:=by
 cases k with
 | inl i=>obtain⟨t,e⟩:=(show ∃t,u=Value.int i t from r);subst e;exact mixKind_int P w i t
 | inr x=>obtain⟨t,e⟩:=(show ∃t,u=Value.str x t from r);subst e;exact mixKind_str P w x t
theorem items_are {P:Program}{w:World}:∀{ks:List Key}{us:List Value},Vals (ks.map kV) us→ItemsAre (mixKind P w) ks us
 | [],_,r=>by rw[List.map_nil]at r;cases r;exact .nil
 | k::ks,_,r=>by
  rw[List.map_cons]at r
  cases r with
  | cons h t=>exact .cons (kV_is h) (items_are t)
abbrev KT (H:Hp):List (List Key×V)→List (List Key×Addr×Value)→Prop:=Paired fun p q=>p.1=q.1∧H q.2.1=some (.tup (p.1.map kV))∧RelV p.2 q.2.2
theorem KT.val {H:Hp}{kvs:List (List Key×V)}{xs:List (List Key×Addr×Value)}(r:KT H kvs xs) (k:List Key):RelO (valV kvs k) ((atKey xs k).map (·.2)):=by
 induction r with
 | nil=>exact True.intro
 | @cons p q ps qs h t ih =>
  obtain⟨h1,_,h2⟩:=h
  by_cases e:p.1=k
  ·have e':q.1=k:=h1.symm.trans e
   have b:atKey (q::qs) k=some q.2:=by simp[atKey,List.find?_cons,e']
   rw[valV_pos e,b];exact h2
  ·have e':¬ q.1=k:=fun z=>e (h1.trans z)
   have b:atKey (q::qs) k=atKey qs k:=by simp[atKey,List.find?_cons,e']
   rw[valV_neg e,b];exact ih
theorem KT.repl {H:Hp}{kvs:List (List Key×V)}{xs:List (List Key×Addr×Value)}(r:KT H kvs xs) (k:List Key) {y:V}{u:Value}(ry:RelV y u) :
  KT H (kvs.map fun kv=>if kv.1=k then(kv.1,y) else kv) (xs.map (putAt k u)):=by
 induction r with
 | nil=>exact .nil
 | @cons p q ps qs h t ih =>
  rw[List.map_cons,List.map_cons]
  refine .cons ?_ ih
  obtain⟨h1,h2,h3⟩:=h
  unfold putAt
  by_cases e:p.1=k
  ·rw[if_pos e,if_pos (h1.symm.trans e)];exact⟨h1,h2,ry⟩
  ·rw[if_neg e,if_neg (fun z=>e (h1.trans z))];exact⟨h1,h2,h3⟩
theorem KT.put {H:Hp}{kvs:List (List Key×V)}{xs:List (List Key×Addr×Value)}(r:KT H kvs xs) (k:List Key) {b:Addr}{y:V}{u:Value}(hb:H b=some (.tup (k.map kV))) (ry:RelV y u) :
  KT H (putK kvs k y) (storedH xs k b u):=by
 have e:(kvs.any fun kv=>decide (kv.1=k)) =(atKey xs k).isSome:=by
  rw[valV_any,(r.val k).isSome_eq,Option.isSome_map]
 unfold putK storedH
 rw[e]
 by_cases q:(atKey xs k).isSome=true
 ·rw[if_pos q,if_pos q];exact r.repl k ry
 ·rw[if_neg q,if_neg q];exact Paired.snoc r ⟨rfl,hb,ry⟩
theorem KT.keeps {H H':Hp}{kvs:List (List Key×V)}{xs:List (List Key×Addr×Value)}(r:KT H kvs xs) (ht:∀b ys,H b=some (.tup ys)→H' b=some (.tup ys)):KT H' kvs xs :=
 Paired.mapP r fun _ _ z=>⟨z.1,ht _ _ z.2.1,z.2.2⟩
section
variable {P:Program}{w:World}{H:Hp}{h:Heap}{a:Addr}
theorem rd_of {u:HO}(ok:HOk P w H h) (e:Rd H a u):ObjOk P w H h a u:=e.ok ok
theorem dk_rd {kvs:List (Key×V)}(ok:HOk P w H h) (e:Rd H a (.dK kvs)):kvs.length≤sizeLine∧(a == sysModules)=false∧∃vs,KV kvs vs∧h.DictOf (mixKind P w) a vs :=
 show ObjOk P w H h a (.dK kvs) from rd_of ok e
theorem dk_of {kvs:List (Key×V)}(ok:HOk P w H h) (e:H a=some (.dK kvs)):kvs.length≤sizeLine∧(a == sysModules)=false∧∃vs,KV kvs vs∧h.DictOf (mixKind P w) a vs:=dk_rd ok (.inl e)
theorem key_of {ks:List Key}(ok:HOk P w H h) (e:H a=some (.tup (ks.map kV))):(tupleKind (mixKind P w)).is h ks a:=by
 obtain⟨_,its,r,o,h1,h2,n,h3⟩:=(show ObjOk P w H h a (.tup (ks.map kV)) from ok a _ e)
 exact⟨o,its.toArray,n,h1,h2,h3,by simpa using items_are r⟩
theorem dt_rd {kvs:List (List Key×V)}(ok:HOk P w H h) (e:Rd H a (.dT kvs)):kvs.length≤sizeLine∧(a == sysModules)=false ∧
  ∃xs,KT H kvs xs∧h.DictOfH (tupleKind (mixKind P w)) a xs:=by
 obtain⟨z,y,xs,r,o,es,ep,h1,h2,h3,h4,h5⟩:=(show ObjOk P w H h a (.dT kvs) from rd_of ok e)
 refine⟨z,y,xs,r,o,es,ep,h1,h2,h3,h4,fun x hx=>?_,h5⟩
 have all:∀{l:List (List Key×V)}{m:List (List Key×Addr×Value)},KT H l m→∀x∈m,(tupleKind (mixKind P w)).is h x.1 x.2.1:=by
  intro l m q
  induction q with
  | nil=>intro x hx;exact nomatch hx
  | @cons p q ps qs hq t ih =>
   intro x hx
   rcases List.mem_cons.mp hx with e|hx
   ·subst e
    exact key_of ok (by rw[← hq.1];exact hq.2.1)
   ·exact ih x hx
 exact all r x hx
theorem dt_of {kvs:List (List Key×V)}(ok:HOk P w H h) (e:H a=some (.dT kvs)):kvs.length≤sizeLine∧(a == sysModules)=false ∧
  ∃xs,KT H kvs xs∧h.DictOfH (tupleKind (mixKind P w)) a xs:=dt_rd ok (.inl e)
end
def DGet (H:Hp) (a:Addr) (y:V) (r:Option V):Prop :=
 (∃kvs k,Rd H a (.dK kvs)∧y=kV k∧r=valV kvs k) ∨ ∃kvs k b,Rd H a (.dT kvs)∧y = .ref b∧H b=some (.tup (k.map kV))∧r=valV kvs k
def DPut (H:Hp) (a:Addr) (y v:V) (H':Hp):Prop :=
 (∃kvs k,H a=some (.dK kvs)∧y=kV k∧kvs.length<sizeLine∧H'=upd H a (.dK (putK kvs k v))) ∨
 ∃kvs k b,H a=some (.dT kvs)∧y = .ref b∧H b=some (.tup (k.map kV))∧kvs.length<sizeLine∧H'=upd H a (.dT (putK kvs k v))
theorem DGet.k {H:Hp}{a:Addr}{kvs:List (Key×V)}{k:Key}(e:H a=some (.dK kvs)):DGet H a (kV k) (valV kvs k):=.inl ⟨kvs,k,.inl e,rfl,rfl⟩
theorem DPut.k {H:Hp}{a:Addr}{kvs:List (Key×V)}{k:Key}{v:V}(e:H a=some (.dK kvs)) (hl:kvs.length<sizeLine):DPut H a (kV k) v (upd H a (.dK (putK kvs k v))):=.inl ⟨kvs,k,e,rfl,hl,rfl⟩
section
variable {X:Cx}{pins:List (Addr×Obj)}{σ:St}{H:Hp}{s:Shared}{a:Addr}{y v:V}{u r:Value}{o:Option V}{A:Around}{E:Value→Shared→Prop}
theorem Inv.big (I:Inv X pins σ H s):sysModules<s.heap.objs.size:=by
 have h:mainGlobals<s.heap.objs.size:=(I.mod.glob.keeps I.bk).lt
 exact Nat.lt_trans (by decide) h
theorem d_getItem {Q:Value→Shared→Prop}(hu:A.units+1<cLine) (I:Inv X pins σ H s) (g:DGet H a y (some v)) (ry:RelV y u) (h:∀w' s',Inv X pins σ H s'→RelV v w'→Q w' s') :
  wpAny (model X.prog X.w) A (getItem (.ref a) u) Q E s:=by
 rcases g with⟨kvs,k,e,ey,l⟩|⟨kvs,k,b,e,ey,eb,l⟩
 ·subst ey
  obtain⟨z,hd,vs,rel,dd⟩:=dk_rd I.hok e
  obtain⟨w',hw,rw'⟩:=RelO.some_of (v:=v) (o:=valueAt vs k) (by rw[l];exact rel.val k)
  exact wpAny_getItem_of (kV_is ry) dd.mapOf hw (h w' _ (I.tok _) rw')
 ·subst ey
  cases (show u=Value.ref b from ry)
  obtain⟨z,hd,xs,rel,dd⟩:=dt_rd I.hok e
  obtain⟨w',hw,rw'⟩:=RelO.some_of (v:=v) (o:=(atKey xs k).map (·.2)) (by rw[l];exact rel.val k)
  obtain⟨p,hp,hp2⟩:=Option.map_eq_some_iff.mp hw
  refine wpAny_getItem_heap (tupleKind_room_in1 hu) (key_of I.hok eb) dd hp ?_
  rw[hp2]
  exact h w' _ (I.tok _) rw'
theorem d_notIn {Q:Value→Shared→Prop}(hu:A.units+1<cLine) (I:Inv X pins σ H s) (g:DGet H a y o) (ry:RelV y u) (h:∀s',Inv X pins σ H s'→Q (.bool (!o.isSome)) s') :
  wpAny (model X.prog X.w) A (compareOp .NotIn u (.ref a)) Q E s:=by
 rcases g with⟨kvs,k,e,ey,l⟩|⟨kvs,k,b,e,ey,eb,l⟩
 ·subst ey
  obtain⟨z,hd,vs,rel,dd⟩:=dk_rd I.hok e
  refine wpAny_notIn_of (kV_is ry) hd dd.mapOf ?_
  rw[←(rel.val k).isSome_eq,← l]
  exact h _ (I.tok _)
 ·subst ey
  cases (show u=Value.ref b from ry)
  obtain⟨z,hd,xs,rel,dd⟩:=dt_rd I.hok e
  refine wpAny_notIn_heap (tupleKind_room_in1 hu) (key_of I.hok eb) hd dd ?_
  have q:=(rel.val k).isSome_eq
  rw[Option.isSome_map]at q
  rw[← q,← l]
  exact h _ (I.tok _)
theorem d_write {h':Heap}{t':Nat}{ob:HO}(I:Inv X pins σ H s) (mu:Mut (H a)) (hs:Heap.SameBut a s.heap h') (he:∃q,h'.get? a=some q) (new:ObjOk X.prog X.w (upd H a ob) h' a ob) :
  Inv X pins σ (upd H a ob) { s with heap:=h',toks:=t' } :=
 I.write (x:=a) (e:=a) mu (.inl rfl) (fun b q hb z=>(hs.2 b hb).trans z) he new
theorem dk_new {P:Program}{w:World}{H':Hp}{h':Heap}{kvs:List (Key×V)}{vs:List (Key×Value)}(z:kvs.length≤sizeLine) (hd:(a == sysModules)=false) (rel:KV kvs vs) (dd:h'.DictOf (mixKind P w) a vs) :
  ObjOk P w H' h' a (.dK kvs):=⟨z,hd,vs,rel,dd⟩
theorem d_setItem {H':Hp}{Q:Unit→Shared→Prop}(hu:A.units+1<cLine) (I:Inv X pins σ H s) (g:DPut H a y v H') (ry:RelV y u) (rv:RelV v r) (h:∀s',Inv X pins σ H' s'→Q () s') :
  wpAny (model X.prog X.w) A (setItem (.ref a) u r) Q E s:=by
 rcases g with⟨kvs,k,e,ey,l,eH⟩|⟨kvs,k,b,e,ey,eb,l,eH⟩
 ·subst ey eH
  obtain⟨z,hd,vs,rel,dd⟩:=dk_of I.hok e
  have hz:vs.length≤sizeLine:=by rw[← rel.length];exact z
  have hl:(putK kvs k v).length≤sizeLine:=by have:=length_putK kvs k v;omega
  refine wpAny_setItem_pairs (hsz:=hz) (kV_is ry) dd fun h' dd' hs=>h _ ?_
  have he:∃q,h'.get? a=some q:=let ⟨q,_,_,hq,_⟩:=dd';⟨q,hq⟩
  exact d_write I (by rw[e];exact True.intro) hs he (dk_new hl hd (rel.put k rv) dd')
 ·subst ey eH
  cases (show u=Value.ref b from ry)
  obtain⟨z,hd,xs,rel,dd⟩:=dt_of I.hok e
  have hz:xs.length≤sizeLine:=by rw[← Paired.length rel];exact z
  have hl:(putK kvs k v).length≤sizeLine:=by have:=length_putK kvs k v;omega
  refine wpAny_setItem_heap (hsz:=hz) (tupleKind_room_in1 hu) (key_of I.hok eb) dd fun h' dd' hs=>h _ ?_
  obtain⟨q,es,ep,hq,h2,h3,h4,_,h5⟩:=dd'
  refine d_write I (by rw[e];exact True.intro) hs ⟨q,hq⟩ ⟨hl,hd,_,(rel.put k eb rv).keeps fun c ys ec=>?_,q,es,ep,hq,h2,h3,h4,h5⟩
  rw[upd_ne (ne_of ec e (fun z=>nomatch z))]
  exact ec
end
section
variable {X:Cx}{pins:List (Addr×Obj)}{σ:St}{H:Hp}{s:Shared}{a:Addr}{kvs:List (Key×V)}{k:Key}{u:Value}{A:Around}{E:Value→Shared→Prop}
end
def NoSl (i:Expr):Prop:=∀ov iv,subscripted i false ov iv=operate [ov,iv] (getItem ov iv)
theorem subD_of {prog:Program}{w:World}{A:Around}{E:Value→Shared→Prop}{s:Shared}{env:Env}{value slice:Expr}{pos:Pos}{T id:String}{Q:Value→Shared→Prop}
  (hl:typeLookup (.type T) "__getitem__" = pure (some (.builtin id))) (hs:NoSl slice)
  (h:wpAny (model prog w) A (eval value env) (fun o s₁=>wpAny (model prog w) A (eval slice env) (fun i s₂=>s₂.TypeIs o T∧wpAny (model prog w) A (getItem o i) Q E s₂) E s₁) E s) :
  wpAny (model prog w) A (eval (.Subscript value slice pos) env) Q E s:=by
 refine Subscript_ (wpAny_mono h (fun o s₁ h₁=>wpAny_mono h₁ (fun i s₂ h₂=>?_) fun _ _ x=>x) fun _ _ x=>x)
 obtain⟨hT,h₂⟩:=h₂
 unfold subscriptTail
 refine wpAny_bind ?_
 rw[getitemInPython_of_ne hT.not_modules]
 refine wpAny_bind (wpAny_specialOf hT hl ?_)
 have fin:wpAny (model prog w) A (subscripted slice false o i) (fun r s₃=>wpAny (model prog w) A (letTemporaryGo value o r >>= fun _=>pure r) Q E s₃) E s₂:=by
  rw[hs o i]
  exact wpAny_operating (wpAny_mono h₂ (fun r s₃ h₃=>wpAny_bind (wpAny_letTemporaryGo (wpAny_pure h₃))) fun _ _ x=>x)
 first
  | exact wpAny_pure (wpAny_bind fin)
  | exact wpAny_bind (wpAny_pure (wpAny_bind fin))
  | exact wpAny_bind fin
theorem dict_typeIs {X:Cx}{pins:List (Addr×Obj)}{σ:St}{H:Hp}{s:Shared}{a:Addr}{y:V}{o:Option V}(I:Inv X pins σ H s) (g:DGet H a y o):s.TypeIs (.ref a) "dict" := by
 rcases g with⟨kvs,k,e,_,_⟩|⟨kvs,k,b,e,_,_,_⟩
 ·obtain⟨_,_,vs,_,dd⟩:=dk_rd I.hok e
  exact dd.typeIs
 ·obtain⟨_,_,xs,_,dd⟩:=dt_rd I.hok e
  exact dd.typeIs
def tDGet (td ty:TE):TE:=fun σ H Q=>td σ H fun x H1=>ty σ H1 fun y H2=>∃a v,x = .ref a∧DGet H2 a y (some v)∧Q v H2
def tDNotIn (ty td:TE):TE:=fun σ H Q=>ty σ H fun y H1=>td σ H1 fun x H2=>∃a o,x = .ref a∧DGet H2 a y o∧Q (.bl (!o.isSome)) H2
def sDPut (td ty tv:TE):TS:=fun D σ H=>tv σ H fun v H1=>td σ H1 fun x H2=>ty σ H2 fun y H3=>∃a H4,x = .ref a∧DPut H3 a y v H4∧D.nx σ H4
section
variable {X:Cx}{o i e value:Expr}{pos pos' tpos:Pos}{td ty tv:TE}
theorem pe_dget (hu:X.A.units+1<cLine) (ho:PE X o td) (hi:PE X i ty) (hs:NoSl i):PE X (.Subscript o i pos) (tDGet td ty):=by
 intro pins s σ H Q I h
 refine subD_of PySem.F.slot_dict_getitem.lookup hs (thn (ho pins s σ H _ I h) fun u s1 ⟨x,H1,I1,rx,q1⟩=>thn (hi pins s1 σ H1 _ I1 q1) fun iv s2 ⟨y,H2,I2,ry,a,v,ex,g,q2⟩=>?_)
 subst ex
 obtain rfl:u=Value.ref a:=rx
 exact⟨dict_typeIs I2 g,d_getItem hu I2 g ry fun w' s3 I3 rw'=>⟨v,H2,I3,rw',q2⟩⟩
theorem pc_dnotin (hu:X.A.units+1<cLine) (hi:PE X i ty) (ho:PE X o td):PC X .NotIn i o (tDNotIn ty td):=by
 intro pins s σ H Q I h
 refine thn (hi pins s σ H _ I h) fun iv s1 ⟨y,H1,I1,ry,q1⟩=>thn (ho pins s1 σ H1 _ I1 q1) fun u s2 ⟨x,H2,I2,rx,a,ov,ex,g,q2⟩=>?_
 subst ex
 obtain rfl:u=Value.ref a:=rx
 exact d_notIn hu I2 g ry fun s3 I3=>⟨.bl (!ov.isSome),H2,I3,rfl,q2⟩
theorem ps_dput (hu:X.A.units+1<cLine) (ho:PE X o td) (hi:PE X i ty) (hv:PE X value tv) (hs:swapsWith value (some (.Subscript o i pos')) pos.line X.env=pure false) :
  PS X (.Assign [.Subscript o i pos'] value pos) (sDPut td ty tv):=by
 intro pins s σ H D I h
 refine wpAny_Assign_Subscript (thn (hv pins s σ H _ I h) fun r s1 ⟨v,H1,I1,rv,q1⟩=>thn (ho pins s1 σ H1 _ I1 q1) fun u s2 ⟨x,H2,I2,rx,q2⟩=>thn (hi pins s2 σ H2 _ I2 q2) fun iv s3 ⟨y,H3,I3,ry,a,H4,ex,g,q3⟩=>?_) hs
 subst ex
 obtain rfl:u=Value.ref a:=rx
 exact d_setItem hu I3 g ry rv fun s4 I4=>⟨σ,H4,I4,q3⟩
end
theorem dk_empty {P:Program}{w:World}{H:Hp}(h:Heap) (hb:sysModules<h.objs.size):ObjOk P w H (h.push { cls:=.type "dict",data:=.dict #[] }) h.objs.size (.dK []) :=
 ⟨Nat.zero_le _,beq_eq_false_iff_ne.mpr (Ne.symm (Nat.ne_of_lt hb)),[],.nil,Heap.DictOf.new h⟩
def tDNewK:TE:=fun _ H Q=>∀p,H p=none→Q (.ref p) (upd H p (.dK []))
section
variable {X:Cx}{pos:Pos}
theorem pe_dnewK:PE X (.Dict [] [] pos) tDNewK:=fun pins s σ H Q I h =>
 wpAny_Dict_empty ⟨.ref s.heap.objs.size,_,I.laid (a:=s.heap.objs.size) (o:=.dK []) (t':=s.toks) (fun _ _ q=>Heap.get?_push_of_some _ q) (Nat.le_refl _) (dk_empty s.heap I.big),rfl,h _ (I.hok.fresh (Nat.le_refl _))⟩
end
def mergeK (kvs more:List (Key×V)):List (Key×V):=more.foldl (fun acc kv=>putK acc kv.1 kv.2) kvs
theorem KV.merge:∀{more:List (Key×V)}{rs:List (Key×Value)}{kvs:List (Key×V)}{vs:List (Key×Value)},KV more rs→KV kvs vs→KV (mergeK kvs more) (merged vs rs):=by
 intro more rs kvs vs r
 unfold KV at r
 induction r generalizing kvs vs with
 | nil=>intro q;exact q
 | @cons p q ps qs h t ih =>
  intro r0
  have e:KV (putK kvs p.1 p.2) (stored vs q.1 q.2):=by
   have:=r0.put p.1 h.2
   rw[← h.1];exact this
  exact ih e
theorem length_mergeK:∀(more kvs:List (Key×V)),(mergeK kvs more).length≤kvs.length+more.length
 | [],kvs=>by show kvs.length≤kvs.length+0;omega
 | p::r,kvs=>by
  have h1:=length_mergeK r (putK kvs p.1 p.2)
  have h2:=length_putK kvs p.1 p.2
  show(mergeK (putK kvs p.1 p.2) r).length≤_
  rw[List.length_cons];omega
structure M2 (X:Cx) (o:Expr) (m:Str) (apos:Pos) (e f:Expr) (cpos:Pos):Prop where
 base:attributeBase o m X.env (eval o X.env)=eval o X.env
 few:((backTo cpos (starEach [e,f] X.env)).all (fun x=>!x.1) && (backToKw cpos (keywordEach [] X.env)).all (fun x=>x.1.isSome)
  && decide (([e,f]:List Expr).length+([]:List Keyword).length+(if ([]:List Keyword).isEmpty then 0 else 1)<30))=true
 line:(apos.endLine == cpos.line)=true
 trees:backTo cpos (starEach [e,f] X.env)=[(false,eval e X.env),(false,eval f X.env)]
def IsD (H:Hp) (a:Addr):Prop:=(∃kvs,Rd H a (.dK kvs)) ∨ ∃kvs,Rd H a (.dT kvs)
theorem isD_at {X:Cx}{pins:List (Addr×Obj)}{σ:St}{H:Hp}{s:Shared}{a:Addr}(I:Inv X pins σ H s) (d:IsD H a) :
  s.TypeIs (.ref a) "dict"∧(∀b,Value.ref a = .ref b→∃ob,s.heap.get? b=some ob∧ob.dict=none)∧(a == sysModules)=false:=by
 rcases d with⟨kvs,e⟩|⟨kvs,e⟩
 ·obtain⟨_,hd,vs,_,dd⟩:=dk_rd I.hok e
  refine⟨dd.typeIs,fun b q=>?_,hd⟩
  cases q
  obtain⟨ob,_,_,h1,h2,_⟩:=dd
  exact⟨ob,h1,h2.2.1⟩
 ·obtain⟨_,hd,xs,_,dd⟩:=dt_rd I.hok e
  refine⟨dd.typeIs,fun b q=>?_,hd⟩
  cases q
  obtain⟨ob,_,_,h1,h2,_⟩:=dd
  exact⟨ob,h1,h2.2.1⟩
section
variable {X:Cx}{pins:List (Addr×Obj)}{σ:St}{H:Hp}{s:Shared}{a:Addr}{y d:V}{u r:Value}{o:Option V}{A:Around}{E:Value→Shared→Prop}
end
section
variable {X:Cx}{o e f:Expr}{apos cpos:Pos}{td ty tx:TE}
end
section
variable {X:Cx}{pins:List (Addr×Obj)}{σ:St}{H:Hp}{s:Shared}{a:Addr}{kvs:List (Key×V)}{A:Around}{E:Value→Shared→Prop}
end
section
variable {X:Cx}{pins:List (Addr×Obj)}{σ:St}{H:Hp}{s:Shared}{a:Addr}{y:V}{u:Value}{A:Around}{E:Value→Shared→Prop}
end
end L2
namespace L2
open PySem PySem.Spec PyProof.Rows
section
variable {X:Cx}
theorem strsAre_of {ns:List Str}:∀{us:List Value},Vals (ns.map V.str) us→StrsAre us ns:=by
 induction ns with
 | nil=>intro us r;cases r;exact .nil
 | cons n ns ih =>
  intro us r
  cases r with
  | cons r t =>
   obtain⟨tk,rfl⟩:=r
   exact .cons n tk (ih t)
def rJoin (K:PySem.W.Frag):V→List V→Hp→VK→Prop:=fun x vs H Q=>∃z a ys,x = .str z∧vs=[.ref a]∧SqL K H a (List.map V.str ys)∧(ys.map (·.length)).sum+ys.length*z.length≤16777216∧Q (.str (Txt.join z ys)) H
theorem mt_join:MtR X "str.join" (rJoin X.K):=by
 intro pins s σ H x xs v us Q I rx rs h
 obtain⟨z,a,ys,rfl,rfl,hq,hz,q⟩:=h
 obtain⟨t,rfl⟩:=rx
 obtain⟨u,rfl,ru⟩:=vals1 rs
 cases (show u=Value.ref a from ru)
 obtain⟨its,rv,pl,_⟩:=I.list hq
 exact join_list pl.isList (by simpa using strsAre_of rv) hz fun t' k=>⟨.str _,H,I.tok _,⟨_,rfl⟩,q⟩
end
section
variable {X:Cx}{tg:Expr}
end
section
variable {σ:St}{H:Hp}{Q:VK}{D:Ends}
theorem rd_ixS {z:Str}{i:Int}{c:Nat}(h:z.length≤sizeLine) (e:atI z.cps.toList i=some c) (q:Q (.str ⟨#[c]⟩) H):rIxS (.str z) (.int i) H Q:=⟨z,i,c,rfl,rfl,h,e,q⟩
end
end L2
namespace L2
open PySem PySem.Spec PyProof.Rows
section
variable {es:List Expr}{env:Env}
theorem stx_Constant {c j p}:starEach (.Constant c j p::es) env =(false,eval (.Constant c j p) env)::starEach es env:=rfl
theorem stx_Name {x p}:starEach (.Name x p::es) env =(false,eval (.Name x p) env)::starEach es env:=rfl
theorem stx_BinOp {a o b p}:starEach (.BinOp a o b p::es) env =(false,eval (.BinOp a o b p) env)::starEach es env:=rfl
theorem stx_Call {a o b p}:starEach (.Call a o b p::es) env =(false,eval (.Call a o b p) env)::starEach es env:=rfl
theorem stx_Subscript {a o p}:starEach (.Subscript a o p::es) env =(false,eval (.Subscript a o p) env)::starEach es env:=rfl
theorem stx_List {a p}:starEach (.List a p::es) env =(false,eval (.List a p) env)::starEach es env:=rfl
theorem stx_Tuple {a k p}:starEach (.Tuple a k p::es) env =(false,eval (.Tuple a k p) env)::starEach es env:=rfl
theorem stx_ListComp {a b c p}:starEach (.ListComp a b c p::es) env =(false,eval (.ListComp a b c p) env)::starEach es env:=rfl
end
end L2
namespace L2
open PySem PySem.Spec PyProof.Rows
section
variable {X:Cx}
def rRng1:List V→Hp→VK→Prop:=fun xs H Q=>∃j,xs=[.int j]∧∀r,H r=none→Q (.ref r) (upd H r (.rng 0 j))
theorem call_rng1:CallR X (.type "range") rRng1:=by
 intro pins s σ H xs us Q I r h
 obtain⟨j,rfl,q⟩:=h
 obtain⟨u,rfl,rx⟩:=vals1 r
 obtain⟨t,rfl⟩:=rx
 refine call_range_1 ⟨.ref s.heap.objs.size,_,I.laid (fun b u e=>Heap.get?_push_of_some _ e) (Nat.le_refl _) (o:=.rng 0 j) ?_,rfl,q _ (I.hok.fresh (Nat.le_refl _))⟩
 exact⟨_,_,_,Heap.get?_push_size _ rfl⟩
def upN (n:Nat):List Int:=(List.range n).map fun(i:Nat)=>(i:Int)
def rListR:List V→Hp→VK→Prop:=fun xs H Q=>∃r j,xs=[.ref r]∧H r=some (.rng 0 j)∧0≤j∧j≤100000∧∀l,H l=none→Q (.ref l) (upd H l (.lst ((upN j.toNat).map V.int)))
theorem vals_of_items {n:Nat}{acc:Array Value}(h:ItemsOf (fun i v=>∃t,v=Value.int (0+i*1) t) acc n):Vals ((upN n).map V.int) acc.toList:=by
 obtain⟨hs,hi⟩:=h
 have key:∀(m:Nat) (l:List Value),l.length=m→(∀(i:Nat) v,l[i]? = some v→∃t,v=Value.int (0+(i:Int)*1) t)→Vals ((upN m).map V.int) l:=by
  intro m
  induction m with
  | zero=>intro l hl _;cases l with
   | nil=>exact .nil
   | cons a b=>cases hl
  | succ m ih =>
   intro l hl hv
   have hne:l ≠ []:=by intro z;rw[z]at hl;cases hl
   have hd:l=l.dropLast ++ [l.getLast hne]:=(List.dropLast_concat_getLast hne).symm
   have e:(upN (m+1)).map V.int =(upN m).map V.int ++ [V.int (m:Int)]:=by
    unfold upN
    rw[List.range_succ,List.map_append,List.map_append];rfl
   rw[e,hd]
   refine Vals.append (ih _ (by rw[List.length_dropLast,hl];rfl) fun i v hh=>hv i v ?_) (.cons ?_ .nil)
   ·have:i<l.dropLast.length:=(List.getElem?_eq_some_iff.mp hh).1
    rw[hd,List.getElem?_append_left this];exact hh
   ·obtain⟨t,ht⟩:=hv m (l.getLast hne) (by
     rw[List.getLast_eq_getElem,← List.getElem?_eq_getElem]
     congr 1
     omega)
    exact⟨t,by rw[ht];congr 1;omega⟩
 refine key n acc.toList (by rw[← hs];simp) fun i v hh=>?_
 exact hi i v (by simpa using hh)
theorem call_listR (hc:X.calm=true):CallR X (.type "list") rListR:=by
 intro pins s σ H xs us Q I r h
 obtain⟨a,j,rfl,ha,hj0,hj,q⟩:=h
 obtain⟨u,rfl,rx⟩:=vals1 r
 cases rx
 obtain⟨t,u,v,e⟩:=I.hok _ _ ha
 have hn:Builtin.Range.rangeSize 0 j 1 =(j.toNat:Nat):=by rw[rangeSize_one];split <;> omega
 have hlow:-(2^62)≤j:=by omega
 ·refine call_list_range (n:=j.toNat) (I.ok.hd hc) e (small_one (by omega) (by omega) hlow (by omega)) hn (by omega) fun h' tk acc c hk hD hI=>?_
  have hv:=vals_of_items hI
  have hz:((upN j.toNat).map V.int).length≤sizeLine:=by
   rw[List.length_map];unfold upN;rw[List.length_map,List.length_range]
   have:(100000:Nat)≤sizeLine:=by decide
   omega
  refine⟨.ref s.heap.objs.size,_,I.laid (t':=tk) hk (Nat.le_refl _) (o:=.lst ((upN j.toNat).map V.int)) ⟨hz,acc.toList,c,hv,by simpa using hD⟩,rfl,q _ (I.hok.fresh (Nat.le_refl _))⟩
theorem rd_rngV {j:Int}{H:Hp}{Q:VK}(q:∀r,H r=none→Q (.ref r) (upd H r (.rng 0 j))):rRng1 [.int j] H Q:=⟨j,rfl,q⟩
theorem upN_get {n i:Nat}{x:V}(h:((upN n).map V.int)[i]? = some x):i<n∧x = .int i:=by
 have hl:=(List.getElem?_eq_some_iff.mp h).1
 rw[List.length_map]at hl
 unfold upN at hl h
 rw[List.length_map,List.length_range]at hl
 rw[List.getElem?_map,List.getElem?_map,List.getElem?_range hl]at h
 exact⟨hl,(Option.some.inj h).symm⟩
end
end L2
namespace L2
open PySem PySem.Spec PyProof.Rows
section
variable {X:Cx}
def rRevL (K:PySem.W.Frag):V→Hp→VK→Prop:=fun x H Q=>∃a xs,x = .ref a∧SqL K H a xs∧∀p,H p=none→Q (.ref p) (upd H p (.lst xs.reverse))
def tRev (K:PySem.W.Frag) (te:TE):TE:=fun σ H Q=>te σ H fun x H1=>rRevL K x H1 Q
theorem evalPart_neg1 {env:Env}{j:Nat}{q1 q2:Pos}{M:Program}{w:World}{A:Around}{E:Value→Shared→Prop}{s:Shared}{Q:Value→Shared→Prop}(h:∀t tk,Q (.int (-1) t) { s with toks:=tk }) :
  wpAny (model M w) A (evalPart (some (.UnaryOp .USub (.Constant (.int 1) j q1) q2)) env) Q E s:=by
 show wpAny (model M w) A (eval (.UnaryOp .USub (.Constant (.int 1) j q1) q2) env) Q E s
 refine UnaryOp_ (wpAny_Constant_int ?_)
 exact neg_int (h _ _)
theorem pe_rev {e:Expr}{te:TE}{j:Nat}{q1 q2 p2 pos:Pos}(he:PE X e te):PE X (.Subscript e (.Slice none none (some (.UnaryOp .USub (.Constant (.int 1) j q1) q2)) p2) pos) (tRev X.K te):=by
 intro pins s σ H Q I h
 refine Subscript_ (thn (he pins s σ H _ I h) fun v s1 ⟨x,H1,I1,r1,q1⟩=>?_)
 obtain⟨a,xs,rfl,hx,q⟩:=q1
 cases r1
 refine wpAny_Slice ?_
 rw[evalPart_none]
 refine wpAny_pure ?_
 refine wpAny_pure ?_
 refine evalPart_neg1 fun t tk=>?_
 have I4:Inv X pins σ H1 { s1 with heap:=s1.heap.push { cls:=.type "slice",data:=.fields #[.none,.none,.int (-1) t] },toks:=tk }:=I1.kept (t':=tk) fun b ob q=>Heap.get?_push_of_some _ q
 obtain⟨its,r,ht,hz⟩:=I4.list hx
 have hlen:=r.length
 show wpAny (model X.prog X.w) X.A (subscriptTail e (.Slice none none (some (.UnaryOp .USub (.Constant (.int 1) j _) q2)) p2) (.ref a) (.ref s1.heap.objs.size)) (EP X pins σ Q) X.xe { s1 with heap:=s1.heap.push { cls:=.type "slice",data:=.fields #[.none,.none,.int (-1) t] },toks:=tk }
 refine tail_any (T := "list") (ops:=[.ref a,.ref s1.heap.objs.size]) ht.isList.typeIs slot_list_getitem.lookup ?_ (by with_unfolding_all rfl)
 refine wpAny_getItem_list_slice ht.isList (Heap.IsSliceOf.new ..) .none .none (.int (-1) t) (by simp) ?_ (by rw[List.size_toArray] <;> omega)
 rw[PySem.W.krv_pick]
 refine⟨.ref _,_,I4.laid (t':=tk) (o:=.lst xs.reverse) (fun b ob q=>Heap.get?_push_of_some _ q) (Nat.le_refl _) ?_,rfl,q _ (I4.hok.fresh (Nat.le_refl _))⟩
 exact⟨by rw[List.length_reverse];exact hz,its.reverse,0,r.reverse,(Heap.get?_push_size _ rfl:_)⟩
end
section
variable {K:PySem.W.Frag}{H:Hp}{Q:VK}{σ:St}
theorem rd_rev {te:TE}(h:te σ H fun x H1=>rRevL K x H1 Q):tRev K te σ H Q:=h
end
end L2
namespace L2
open PySem PySem.Spec PyProof.Rows
section
variable {X:Cx}{pins:List (Addr×Obj)}{σ:St}{H:Hp}{s:Shared}{h':Heap}
theorem Inv.turnedN {t':Nat}{ch:List Addr}{a:Addr}{o:HO}(I:Inv X pins σ H s) (k:∀b o,b∉ch→s.heap.get? b=some o→h'.get? b=some o) (f:∀b∈ch,FpOk X pins H b)
  (ha:s.heap.objs.size≤a) (new:ObjOk X.prog X.w (upd H a o) h' a o):Inv X pins σ (upd H a o) { s with heap:=h',toks:=t' }:=by
 have nit:∀b u,H b=some u→b∉ch:=fun b u e z=>by rw[(f b z).1]at e;cases e
 have hn:=I.hok.fresh ha
 have old:∀b ob,s.heap.get? b=some ob→b≠a:=fun b ob q=>Nat.ne_of_lt (Nat.lt_of_lt_of_le (Heap.lt_size q) ha)
 have up:∀b u,H b=some u→upd H a o b=some u:=fun b u q=>by rw[upd_ne (ne_of_none q hn)];exact q
 refine I.step (g':=s.gens) (d':=s.drawn) (ch:=ch) (fun b hb=>?_) (fun b o _ _ hc e _=>k b o hc e) (fun b o _ _ hc e _=>⟨o.slots,k b o hc e⟩) (fun b ob _ e n=>by rw[upd_ne (old b ob e)];exact n) (fun b o hc e=>⟨o,k b o hc e⟩) (fun b xs e=>up _ _ e) (fun b ob u e=>up _ _ e)
  (fun b ps e=>⟨#[],by rw[up _ _ e];simp⟩) (fun m hm=>?_) (fun b u e=>?_) I.bare
 ·obtain⟨f0,f1,f2,f3,f4,f5⟩:=f b hb
  exact⟨f3,f1,f4,f5⟩
 ·obtain⟨o,es,ep,ho,r⟩:=hm
  exact⟨o,es,ep,k _ o (fun z=>(f _ z).2.1 rfl) ho,r⟩
 ·by_cases hb:b=a
  ·subst hb;rw[upd_same]at e;cases e;exact new
  ·rw[upd_ne hb]at e
   refine(I.hok b u e).stay (fun c v hc q=>k c v ?_ q) (fun c q=>up _ _ q) fun c xs q=>up _ _ q
   rcases hc with z|z
   ·rw[z];exact nit b u e
   ·exact nit c _ z
end
def Ite (K:PySem.W.Frag) (a:Addr):It :=
 ⟨fun i H=>∃xs x,SqL K H a xs∧xs[i]? = some x,fun i H x H'=>∃t y,H t=none∧H'=upd H t (.tup [.int i,y])∧x = .ref t∧∀xs,SqL K H a xs→xs[i]? = some y,fun i H=>∃xs,SqL K H a xs∧xs.length≤i⟩
theorem turn_enum {P:Program}{w:World}{K:PySem.W.Frag}{elts:List Expr}{x1}{tpos:Pos}(a e it:Addr) (hne:e≠it) :
  Turn P w K (.Tuple elts x1 tpos) (Ite K a) [e,it] e (fun i h=>(∃old,IsEnum h e it ((i:Nat):Int) old)∧h.IsListIter it a i) where
 mem:=by simp
 obj:=fun i h st b hb=>by
  obtain⟨⟨old,he⟩,⟨o,e1,c,d⟩⟩:=st
  have:b=e∨b=it:=by simpa using hb
  rcases this with rfl|rfl
  ·exact⟨_,he,fun v z=>by cases z⟩
  ·exact⟨o,e1,fun v z=>by rw[d]at z;cases z⟩
 keep:=fun i h h' st k=>by
  obtain⟨⟨old,he⟩,hi⟩:=st
  exact⟨⟨old,k e (by simp) _ he⟩,hi.at fun o q=>k it (by simp) o q⟩
 item:=by
  intro X hP hw hK hc i pins s σ H E I hf st hg
  subst hP hw hK
  obtain⟨xs,x,hq,hx⟩:=hg
  obtain⟨⟨old,he⟩,hit⟩:=st
  obtain⟨its,rv,p,hz⟩:=I.list hq
  obtain⟨u,hu,ru⟩:=rv.get hx
  have fe:=hf e (by simp)
  have fi:=hf it (by simp)
  have heH:e<s.heap.objs.size:=Heap.lt_size he
  obtain⟨oi,hoi,ci,di⟩:=id hit
  have hiH:it<s.heap.objs.size:=Heap.lt_size hoi
  refine wpAny_pyNext_enum_item he hit p.isList (x:=u) (by simpa using hu) hne fun h₁ heo hit₁ ht₁ hz₁ hk₁=>⟨_,rfl,?_⟩
  refine wpAny_letOwnedTupleGo_enum heo fun h₂ he₂ hs₂=>?_
  replace hs₂:Heap.SameBut e h₁ h₂:=hs₂
  have hnew:h₂.get? s.heap.objs.size=some { cls:=.type "tuple",data:=.seq #[.int i s.toks,u] }:=(hs₂.2 _ (Nat.ne_of_gt heH)).trans ht₁
  have hkeep:∀b o,b ∉ [e,it]→s.heap.get? b=some o→h₂.get? b=some o:=fun b o hb q=>by
   have n1:b≠e:=fun z=>hb (by simp[z])
   have n2:b≠it:=fun z=>hb (by simp[z])
   exact(hs₂.2 b n1).trans (hk₁ b o n1 n2 q)
  have free0:=I.hok.fresh (Nat.le_refl s.heap.objs.size)
  have hT:ObjOk X.prog X.w (upd H s.heap.objs.size (.tup [.int i,x])) h₂ s.heap.objs.size (.tup [.int i,x]) :=
   ⟨(by show 2≤sizeLine;decide),[.int i s.toks,u],.cons ⟨_,rfl⟩ (.cons ru .nil),⟨_,hnew,rfl,_,rfl⟩⟩
  have I2:Inv X pins σ (upd H s.heap.objs.size (.tup [.int i,x])) { s with heap:=h₂,toks:=s.toks+1 }:=I.turnedN (t':=s.toks+1) hkeep hf (Nat.le_refl _) hT
  refine⟨.ref s.heap.objs.size,upd H s.heap.objs.size (.tup [.int i,x]),I2,rfl,⟨s.heap.objs.size,x,free0,rfl,rfl,fun ys hy=>by rw[I.list_inj hy hq];exact hx⟩,⟨⟨u,?_⟩,?_⟩,fun b hb=>?_⟩
  ·have:(((i+1:Nat)):Int) =(i:Int)+1:=by omega
   rw[this];exact he₂
  ·exact hit₁.extBut hs₂.extBut (Ne.symm hne)
  ·have hb2:b=e∨b=it:=by simpa using hb
   rw[upd_ne]
   ·exact(hf b hb).1
   ·rcases hb2 with z|z
    ·rw[z];exact Nat.ne_of_lt heH
    ·rw[z];exact Nat.ne_of_lt hiH
 done:=by
  intro X hP hw hK hc i pins s σ H E I hf st hg
  subst hP hw hK
  obtain⟨xs,hq,hx⟩:=hg
  obtain⟨⟨old,he⟩,hit⟩:=st
  obtain⟨its,rv,p,hz⟩:=I.list hq
  obtain⟨f0,f1,f2,f3,f4,f5⟩:=hf it (by simp)
  have hl:=rv.length
  exact wpAny_pyNext_enum_end (I.ok.hd hc) he hit p.isList (by simp;omega) fun h' eb=>⟨rfl,I.turned (t':=s.toks) (fun b o hb e=>eb b o hb e) f0 f1 f3 f4 f5⟩
 self:=fun _ _ _ _ _ st h=>by
  obtain⟨⟨old,he⟩,_⟩:=st
  exact wpAny_pyIter_enum he h
section
variable {X:Cx}{elts:List Expr}{x1:_}{tpos:Pos}
def iEnum (K:PySem.W.Frag) (ta:TA):TI:=fun σ H R=>ta σ H fun vs H1=>∃a,vs=[.ref a]∧(∃xs,SqL K H1 a xs)∧R (Ite K a) H1
theorem pi_enum {x1}{l:Expr}{ta:TA}{p pos:Pos}(hg:Gl X "enumerate") (hm:X.mg "enumerate" = none) (ha:PA X [l] ta) (hs:starEach [l] X.env=[(false,eval l X.env)]:=by rfl) :
  PI X (.Tuple elts x1 tpos) (.Call (.Name "enumerate" p) [l] [] pos) (iEnum X.K ta):=by
 intro pins s σ H R I h
 refine Call_ (ld_blt I hg hm bt_enumerate (PyProof.Rows.callWith_type1 (thn (ha pos pins s σ H _ I h) fun us s1 ⟨vs,H1,I1,r1,q1⟩=>?_) hs rfl))
 obtain⟨a,rfl,⟨xs,hq⟩,q⟩:=q1
 obtain⟨u,rfl,ru⟩:=vals1 r1
 cases ru
 obtain⟨its,rv,pl,hz⟩:=I1.list hq
 refine call_enumerate_list pl.isList fun h' he hit hsz hk=>?_
 refine wpAny_pyIter_enum he ?_
 have I2:Inv X pins σ H1 { s1 with heap:=h' }:=I1.kept (t':=s1.toks) hk
 refine⟨s1.heap.objs.size+1,[s1.heap.objs.size+1,s1.heap.objs.size],_,_,H1,rfl,I2,turn_enum a (s1.heap.objs.size+1) s1.heap.objs.size (Nat.succ_ne_self _),⟨⟨_,he⟩,hit⟩,fun b hb=>?_,q⟩
 have hb2:b=s1.heap.objs.size+1∨b=s1.heap.objs.size:=by simpa using hb
 rcases hb2 with rfl|rfl
 ·exact I1.fpOk (Nat.le_succ _) (I1.hok.fresh (Nat.le_succ _))
 ·exact I1.fpOk (Nat.le_refl _) (I1.hok.fresh (Nat.le_refl _))
end
section
variable {K:PySem.W.Frag}{H:Hp}{Q:VK}{σ:St}
theorem rd_ienum {ta:TA}{R:It→Hp→Prop}(h:ta σ H fun vs H1=>∃a,vs=[.ref a]∧(∃xs,SqL K H1 a xs)∧R (Ite K a) H1):iEnum K ta σ H R:=h
theorem for_enum {a:Addr}{xs:List V}{g:TG}{tb:TS}{D:Ends}(Pv:Nat→St→Hp→Prop) (h0:Pv 0 σ H) (hl:∀i σ H,i≤xs.length→Pv i σ H→SqL K H a xs)
  (hs:∀i x σ H t,xs[i]? = some x→Pv i σ H→H t=none→g (.ref t) σ (upd H t (.tup [.int i,x])) fun σ2 H2=>tb { D with nx:=Pv (i+1),ct:=Pv (i+1),bk:=D.nx } σ2 H2) (hd:∀σ H,Pv xs.length σ H→D.nx σ H) :
  ∃W:Nat→Nat→St→Hp→Prop,(∃m,W 0 m σ H)∧∀i m σ H,W i m σ H →
   ((Ite K a).stop i H∧D.nx σ H) ∨((Ite K a).go i H∧∃N:St→Hp→Prop,(∀σ' H',N σ' H'→∃m',m'<m∧W (i+1) m' σ' H')∧∀x H',(Ite K a).yld i H x H'→g x σ H' fun σ2 H2=>tb { D with nx:=N,ct:=N,bk:=D.nx } σ2 H2):=by
 refine⟨fun i m σ H=>m=xs.length-i∧i≤xs.length∧Pv i σ H,⟨xs.length,by simp,Nat.zero_le _,h0⟩,?_⟩
 rintro i m σ H ⟨rfl,hi,p⟩
 have q:=hl i σ H hi p
 by_cases hlt:i<xs.length
 ·refine .inr ⟨⟨xs,xs[i],q,by simp[hlt]⟩,Pv (i+1),fun σ2 H2 p'=>⟨xs.length-(i+1),by omega,rfl,hlt,p'⟩,fun x H2 y=>?_⟩
  obtain⟨t,z,nt,rfl,rfl,hz⟩:=y
  exact hs i z σ H t (hz xs q) p nt
 ·have e:i=xs.length:=by omega
  subst e
  exact .inl ⟨⟨xs,q,Nat.le_refl _⟩,hd σ H p⟩
end
end L2
namespace L2
open PySem PySem.Spec PyProof.Rows
section
variable {X:Cx}{K:PySem.W.Frag}{tg:Expr}
theorem pi_listK {l:Expr}{tl:TE}(h:X.K=K) (hl:PE X l tl):PI X tg l (iList K tl):=by subst h;exact pi_list hl
end
theorem blkOkM {X:Cx}{k n g c}{scope:Scope}{N vs fs:List Str}{js:List Nat}(hs:X.env.scope = { kind:=k,names:=n,isGenerator:=g,isCoroutine:=c }) (hN:X.N=N)
  (h:blkB { kind:=k,names:=n,isGenerator:=g,isCoroutine:=c } scope N vs fs js=true):BlkOk X scope vs fs js:=blkOk h hs hN
end L2
namespace L2
open PySem PySem.Spec PyProof.Rows
def galS:Bool→Keyed→Array Keyed→Nat→Nat→Nat→StateT SortSt Sem (Option Nat):=sortPriv% PySem.Builtin.gallop
def bydS (lf:Bool) (ky:Keyed) (ar:Array Keyed) (bs j:Nat):StateT SortSt Sem (Option Bool):=do
 let z ← elem' ar (bs+j)
 if lf then lt' z ky else return (← lt' ky z).map (!·)
theorem galS_eq (lf:Bool) (ky:Keyed) (ar:Array Keyed) (bs nn ht:Nat):galS lf ky ar bs nn ht =(do
 let mut la:=0
 let mut of:=1
 let mut lx:=0
 let mut hx:=0
 let some rt ← bydS lf ky ar bs ht|return none
 if rt then
  let mx:=nn-ht
  for _ in [0:nn] do
   if of ≥ mx then break
   let some mo ← bydS lf ky ar bs (ht+of)|return none
   if !mo then break
   la:=of
   of:=2*of+1
  lx:=ht+la+1
  hx:=ht+min of mx
 else
  let mx:=ht+1
  for _ in [0:nn] do
   if of ≥ mx then break
   let some fo ← bydS lf ky ar bs (ht-of)|return none
   if fo then break
   la:=of
   of:=2*of+1
  lx:=ht+1-min of mx
  hx:=ht-la
 for _ in [0:nn] do
  if lx ≥ hx then break
  let mi:=lx+(hx-lx) / 2
  let some mo ← bydS lf ky ar bs mi|return none
  if mo then lx:=mi+1 else hx:=mi
 return some hx):=rfl
section
variable {prog:Program}{w:World}{A:Around}{E:Value→Shared→Prop}{s:Shared}
def LtOk (prog:Program) (w:World) (A:Around) (E:Value→Shared→Prop) (s:Shared) (ltb:Keyed→Keyed→Bool) (S:Keyed→Prop) (κ:SortKind):Prop :=
 ∀(x y:Keyed) (st:SortSt) (Q:Option Bool→SortSt→Prop),S x→S y→kindOf st=κ→Q (some (ltb x y)) st→wpS (model prog w) A E s (lt' x y) Q st
def Bf (ltb:Keyed→Keyed→Bool) (lf:Bool) (ky x:Keyed):Bool:=if lf then ltb x ky else !ltb ky x
variable {ltb:Keyed→Keyed→Bool}{S:Keyed→Prop}{κ:SortKind}
theorem wpS_elem {ar:Array Keyed}{i:Nat}{x:Keyed}{st:SortSt}{Q:Keyed→SortSt→Prop}(h:ar[i]? = some x) (q:Q x st):wpS (model prog w) A E s (elem' ar i) Q st:=by
 rw[elem'_eq,h];exact wpS_pure q
theorem wpS_byd {lf:Bool}{ky:Keyed}{ar:Array Keyed}{bs j:Nat}{x:Keyed}{st:SortSt}{Q:Option Bool→SortSt→Prop}(hO:LtOk prog w A E s ltb S κ) (hk:kindOf st=κ) (hky:S ky)
  (hx:ar[bs+j]? = some x) (hS:S x) (q:Q (some (Bf ltb lf ky x)) st):wpS (model prog w) A E s (bydS lf ky ar bs j) Q st:=by
 unfold bydS
 refine wpS_bind (wpS_elem hx ?_)
 cases lf with
 | true=>exact hO x ky st Q hS hky hk q
 | false =>
  refine wpS_bind (hO ky x st _ hky hS hk ?_)
  exact wpS_pure q
theorem wpS_gal {lf:Bool}{ky:Keyed}{ar:Array Keyed}{bs nn ht:Nat}{st:SortSt}{Q:Option Nat→SortSt→Prop}(hO:LtOk prog w A E s ltb S κ) (hk:kindOf st=κ) (hky:S ky) (B:Nat→Bool)
  (hB:∀j,j<nn→∃x,ar[bs+j]? = some x∧S x∧Bf ltb lf ky x=B j) (anti:∀i j,i≤j→j<nn→B j=true→B i=true) (hht:ht<nn)
  (h:∀k,k≤nn→(∀i,i<k→B i=true)→(∀i,k≤i→i<nn→B i=false)→Q (some k) st):wpS (model prog w) A E s (galS lf ky ar bs nn ht) Q st:=by
 have ask:∀(j:Nat) (Q:Option Bool→SortSt→Prop),j<nn→Q (some (B j)) st→wpS (model prog w) A E s (bydS lf ky ar bs j) Q st:=fun j Q hj q=>by
  obtain⟨x,hx,hS,e⟩:=hB j hj
  exact wpS_byd hO hk hky hx hS (by rw[e];exact q)
 have antiF:∀i j,i≤j→j<nn→B i=false→B j=false:=fun i j hij hj e=>by
  cases e2:B j with
  | false=>rfl
  | true=>rw[anti i j hij hj e2]at e;cases e
 rw[galS_eq]
 refine wpS_bind (ask ht _ hht ?_)
 dsimp only
 cases hr:B ht with
 | true =>
  simp only[if_true]
  refine wpS_bind (wpS_mono (wpS_forRange (I:=fun x c st'=>st'=st∧∃l o,c =(none,l,o)∧l<o∧x+1≤o∧(l<nn-ht)∧B (ht+l)=true)
   (Q:=fun c st'=>st'=st∧∃l o,c =(none,l,o)∧l<o∧l<nn-ht∧B (ht+l)=true∧(nn-ht≤o ∨(o<nn-ht∧B (ht+o)=false))) ?stp ?fin ⟨rfl,0,1,rfl,by omega,by omega,by omega,hr⟩) ?post)
  case fin =>
   rintro c st' ⟨rfl,l,o,rfl,a1,a2,a3,a4⟩
   exact⟨rfl,l,o,rfl,a1,a3,a4,.inl (by omega)⟩
  case stp =>
   rintro x c st' _ hx ⟨rfl,l,o,rfl,a1,a2,a3,a4⟩
   dsimp only
   by_cases hge:o ≥ nn-ht
   ·rw[if_pos hge]
    exact wpS_pure ⟨rfl,l,o,rfl,a1,a3,a4,.inl hge⟩
   ·rw[if_neg hge]
    refine wpS_bind (ask _ _ (by omega) ?_)
    dsimp only
    cases hm:B (ht+o) with
    | true =>
     simp only[Bool.not_true,Bool.false_eq_true,if_false]
     exact wpS_pure ⟨rfl,o,_,rfl,by omega,by omega,by omega,hm⟩
    | false =>
     simp only[Bool.not_false,if_true]
     exact wpS_pure ⟨rfl,l,o,rfl,a1,a3,a4,.inr ⟨by omega,hm⟩⟩
  case post =>
   rintro c st' ⟨est,l,o,rfl,a1,a2,a3,a4⟩
   rw[est]
   dsimp only
   have P1:∀i,i<ht+l+1→B i=true:=fun i hi=>anti i (ht+l) (by omega) (by omega) a3
   have P2:∀i,ht+min o (nn-ht)≤i→i<nn→B i=false:=fun i hi hi2=>by
    rcases a4 with z|⟨z1,z2⟩
    ·omega
    ·exact antiF (ht+o) i (by omega) hi2 z2
   refine wpS_bind (wpS_mono (wpS_forRange (I:=fun x c st'=>st'=st∧∃l r,c =(none,l,r)∧l≤r∧r≤nn∧r-l≤nn-x∧(∀i,i<l→B i=true)∧(∀i,r≤i→i<nn→B i=false))
    (Q:=fun c st'=>st'=st∧∃l,c =(none,l,l)∧l≤nn∧(∀i,i<l→B i=true)∧(∀i,l≤i→i<nn→B i=false)) ?stp2 ?fin2 ⟨rfl,ht+l+1,ht+min o (nn-ht),rfl,by omega,by omega,by omega,P1,P2⟩) ?post2)
   case fin2 =>
    rintro c st' ⟨rfl,l,r,rfl,a1,a2,a3,a4,a5⟩
    have:l=r:=by omega
    subst this
    exact⟨rfl,l,rfl,a2,a4,a5⟩
   case post2 =>
    rintro c st' ⟨rfl,l,rfl,a2,a4,a5⟩
    exact wpS_pure (h l a2 a4 a5)
   case stp2 =>
    rintro x c st' _ hx ⟨rfl,l,r,rfl,a1,a2,a3,a4,a5⟩
    dsimp only
    by_cases hge:l ≥ r
    ·rw[if_pos hge]
     have:l=r:=by omega
     subst this
     exact wpS_pure ⟨rfl,l,rfl,a2,a4,a5⟩
    ·rw[if_neg hge]
     refine wpS_bind (ask _ _ (by omega) ?_)
     dsimp only
     cases hm:B (l+(r-l) / 2) with
     | true =>
      simp only[if_true]
      exact wpS_pure ⟨rfl,_,r,rfl,by omega,a2,by omega,fun i hi=>anti i _ (by omega) (by omega) hm,a5⟩
     | false =>
      simp only[Bool.false_eq_true,if_false]
      exact wpS_pure ⟨rfl,l,_,rfl,by omega,by omega,by omega,a4,fun i hi hi2=>antiF _ i hi hi2 hm⟩
 | false =>
  simp only[Bool.false_eq_true,if_false]
  refine wpS_bind (wpS_mono (wpS_forRange (I:=fun x c st'=>st'=st∧∃l o,c =(none,l,o)∧l<o∧x+1≤o∧l<ht+1∧B (ht-l)=false)
   (Q:=fun c st'=>st'=st∧∃l o,c =(none,l,o)∧l<o∧l<ht+1∧B (ht-l)=false∧(ht+1≤o ∨(o<ht+1∧B (ht-o)=true))) ?stp ?fin ⟨rfl,0,1,rfl,by omega,by omega,by omega,hr⟩) ?post)
  case fin =>
   rintro c st' ⟨rfl,l,o,rfl,a1,a2,a3,a4⟩
   exact⟨rfl,l,o,rfl,a1,a3,a4,.inl (by omega)⟩
  case stp =>
   rintro x c st' _ hx ⟨rfl,l,o,rfl,a1,a2,a3,a4⟩
   dsimp only
   by_cases hge:o ≥ ht+1
   ·rw[if_pos hge]
    exact wpS_pure ⟨rfl,l,o,rfl,a1,a3,a4,.inl hge⟩
   ·rw[if_neg hge]
    refine wpS_bind (ask _ _ (by omega) ?_)
    dsimp only
    cases hm:B (ht-o) with
    | true =>
     simp only[if_true]
     exact wpS_pure ⟨rfl,l,o,rfl,a1,a3,a4,.inr ⟨by omega,hm⟩⟩
    | false =>
     simp only[Bool.false_eq_true,if_false]
     exact wpS_pure ⟨rfl,o,_,rfl,by omega,by omega,by omega,hm⟩
  case post =>
   rintro c st' ⟨est,l,o,rfl,a1,a2,a3,a4⟩
   rw[est]
   dsimp only
   have P1:∀i,i<ht+1-min o (ht+1)→B i=true:=fun i hi=>by
    rcases a4 with z|⟨z1,z2⟩
    ·omega
    ·exact anti i (ht-o) (by omega) (by omega) z2
   have P2:∀i,ht-l≤i→i<nn→B i=false:=fun i hi hi2=>antiF (ht-l) i (by omega) hi2 a3
   refine wpS_bind (wpS_mono (wpS_forRange (I:=fun x c st'=>st'=st∧∃l r,c =(none,l,r)∧l≤r∧r≤nn∧r-l≤nn-x∧(∀i,i<l→B i=true)∧(∀i,r≤i→i<nn→B i=false))
    (Q:=fun c st'=>st'=st∧∃l,c =(none,l,l)∧l≤nn∧(∀i,i<l→B i=true)∧(∀i,l≤i→i<nn→B i=false)) ?stp2 ?fin2 ⟨rfl,ht+1-min o (ht+1),ht-l,rfl,by omega,by omega,by omega,P1,P2⟩) ?post2)
   case fin2 =>
    rintro c st' ⟨rfl,l,r,rfl,a1,a2,a3,a4,a5⟩
    have:l=r:=by omega
    subst this
    exact⟨rfl,l,rfl,a2,a4,a5⟩
   case post2 =>
    rintro c st' ⟨rfl,l,rfl,a2,a4,a5⟩
    exact wpS_pure (h l a2 a4 a5)
   case stp2 =>
    rintro x c st' _ hx ⟨rfl,l,r,rfl,a1,a2,a3,a4,a5⟩
    dsimp only
    by_cases hge:l ≥ r
    ·rw[if_pos hge]
     have:l=r:=by omega
     subst this
     exact wpS_pure ⟨rfl,l,rfl,a2,a4,a5⟩
    ·rw[if_neg hge]
     refine wpS_bind (ask _ _ (by omega) ?_)
     dsimp only
     cases hm:B (l+(r-l) / 2) with
     | true =>
      simp only[if_true]
      exact wpS_pure ⟨rfl,_,r,rfl,by omega,a2,by omega,fun i hi=>anti i _ (by omega) (by omega) hm,a5⟩
     | false =>
      simp only[Bool.false_eq_true,if_false]
      exact wpS_pure ⟨rfl,l,_,rfl,by omega,by omega,by omega,a4,fun i hi hi2=>antiF _ i hi hi2 hm⟩
end
end L2
namespace L2
open PySem PySem.Spec PyProof.Rows
structure OrdB (ltb:Keyed→Keyed→Bool):Prop where
 asym:∀{x y},ltb x y=true→ltb y x=false
 tr:∀{x y z},ltb y x=false→ltb z y=false→ltb z x=false
def leB (ltb:Keyed→Keyed→Bool) (x y:Keyed):Prop:=ltb y x=false
section
variable {ltb:Keyed→Keyed→Bool}{xa xb ou:List Keyed}{ja jb k:Nat}
theorem drop_take_split {α:Type}(l:List α) (j k:Nat):l.drop j =(l.drop j).take k++l.drop (j+k):=by
 rw[← List.drop_drop];exact(List.take_append_drop k (l.drop j)).symm
theorem rise_le {l:List Keyed}(h:l.Pairwise (leB ltb)) {i j:Nat}(hi:i<j) {x y:Keyed}(hx:l[i]? = some x) (hy:l[j]? = some y):leB ltb x y:=by
 obtain⟨h1,rfl⟩:=List.getElem?_eq_some_iff.mp hx
 obtain⟨h2,rfl⟩:=List.getElem?_eq_some_iff.mp hy
 exact List.pairwise_iff_getElem.mp h i j h1 h2 hi
theorem rise_parts {l:List Keyed}(h:l.Pairwise (leB ltb)) (j k:Nat):((l.drop j).take k).Pairwise (leB ltb)∧∀x∈(l.drop j).take k,∀y∈l.drop (j+k),leB ltb x y:=by
 have hd:(l.drop j).Pairwise (leB ltb):=h.drop
 rw[drop_take_split l j k,List.pairwise_append]at hd
 exact⟨hd.1,hd.2.2⟩
structure MI (ltb:Keyed→Keyed→Bool) (xa xb ou:List Keyed) (ja jb:Nat):Prop where
 srt:ou.Pairwise (leB ltb)
 la:∀x∈ou,∀y∈xa.drop ja,leB ltb x y
 lb:∀x∈ou,∀y∈xb.drop jb,leB ltb x y
 pm:(ou++(xa.drop ja++xb.drop jb)).Perm (xa++xb)
 sz:ou.length=ja+jb
theorem MI.stepA (O:OrdB ltb) (sa:xa.Pairwise (leB ltb)) (sb:xb.Pairwise (leB ltb)) (m:MI ltb xa xb ou ja jb) (hk:ja+k≤xa.length) {z:Keyed}(hz:xb[jb]? = some z) (c:∀y∈(xa.drop ja).take k,leB ltb y z) :
  MI ltb xa xb (ou++(xa.drop ja).take k) (ja+k) jb:=by
 obtain⟨p1,p2⟩:=rise_parts sa ja k
 have sub:∀y∈(xa.drop ja).take k,y∈xa.drop ja:=fun y hy=>List.mem_of_mem_take hy
 have zb:∀y∈xb.drop jb,leB ltb z y∨y=z:=fun y hy=>by
  obtain⟨i,hi,e⟩:=List.getElem_of_mem hy
  have e2:xb[jb+i]? = some y:=by rw[← List.getElem?_drop,List.getElem?_eq_getElem hi,e]
  by_cases h0:i=0
  ·subst h0;rw[Nat.add_zero,hz]at e2;exact .inr (Option.some.inj e2).symm
  ·exact .inl (rise_le sb (by omega) hz e2)
 refine⟨?_,?_,?_,?_,?_⟩
 ·rw[List.pairwise_append]
  exact⟨m.srt,p1,fun x hx y hy=>m.la x hx y (sub y hy)⟩
 ·intro x hx y hy
  rcases List.mem_append.mp hx with h|h
  ·exact m.la x h y (by rw[drop_take_split xa ja k];exact List.mem_append_right _ hy)
  ·exact p2 x h y hy
 ·intro x hx y hy
  rcases List.mem_append.mp hx with h|h
  ·exact m.lb x h y hy
  ·rcases zb y hy with z1|z1
   ·exact O.tr (c x h) z1
   ·rw[z1];exact c x h
 ·have e:=drop_take_split xa ja k
  have:=m.pm
  rw[e]at this
  simpa [List.append_assoc] using this
 ·rw[List.length_append,m.sz,List.length_take,List.length_drop];omega
theorem MI.stepB (O:OrdB ltb) (sa:xa.Pairwise (leB ltb)) (sb:xb.Pairwise (leB ltb)) (m:MI ltb xa xb ou ja jb) (hk:jb+k≤xb.length) {z:Keyed}(hz:xa[ja]? = some z) (c:∀y∈(xb.drop jb).take k,leB ltb y z) :
  MI ltb xa xb (ou++(xb.drop jb).take k) ja (jb+k):=by
 obtain⟨p1,p2⟩:=rise_parts sb jb k
 have sub:∀y∈(xb.drop jb).take k,y∈xb.drop jb:=fun y hy=>List.mem_of_mem_take hy
 have za:∀y∈xa.drop ja,leB ltb z y∨y=z:=fun y hy=>by
  obtain⟨i,hi,e⟩:=List.getElem_of_mem hy
  have e2:xa[ja+i]? = some y:=by rw[← List.getElem?_drop,List.getElem?_eq_getElem hi,e]
  by_cases h0:i=0
  ·subst h0;rw[Nat.add_zero,hz]at e2;exact .inr (Option.some.inj e2).symm
  ·exact .inl (rise_le sa (by omega) hz e2)
 refine⟨?_,?_,?_,?_,?_⟩
 ·rw[List.pairwise_append]
  exact⟨m.srt,p1,fun x hx y hy=>m.lb x hx y (sub y hy)⟩
 ·intro x hx y hy
  rcases List.mem_append.mp hx with h|h
  ·exact m.la x h y hy
  ·rcases za y hy with z1|z1
   ·exact O.tr (c x h) z1
   ·rw[z1];exact c x h
 ·intro x hx y hy
  rcases List.mem_append.mp hx with h|h
  ·exact m.lb x h y (by rw[drop_take_split xb jb k];exact List.mem_append_right _ hy)
  ·exact p2 x h y hy
 ·have e:=drop_take_split xb jb k
  have:=m.pm
  rw[e]at this
  refine List.Perm.trans ?_ this
  rw[List.append_assoc]
  refine List.Perm.append_left _ ?_
  rw[← List.append_assoc,← List.append_assoc]
  refine List.Perm.append_right _ ?_
  exact List.perm_append_comm
 ·rw[List.length_append,m.sz,List.length_take,List.length_drop];omega
theorem MI.start (sb:xb.Pairwise (leB ltb)) {z y0:Keyed}(hz:xb[0]? = some z) (c:∀y∈xa,leB ltb z y):MI ltb xa xb [z] 0 1:=by
 have hx:xb=z::xb.drop 1:=by
  cases xb with
  | nil=>cases hz
  | cons b r=>obtain rfl:=Option.some.inj hz;rfl
 refine⟨by simp,fun x hx y hy=>?_,fun x hx2 y hy=>?_,?_,rfl⟩
 ·simp at hx hy;rw[hx];exact c y hy
 ·simp at hx2
  rw[hx2]
  rw[hx,List.pairwise_cons]at sb
  exact sb.1 y hy
 ·rw[List.drop_zero]
  refine List.Perm.trans ?_ (List.Perm.append_left xa (List.Perm.of_eq hx.symm))
  show(z::(xa++xb.drop 1)).Perm _
  exact List.perm_middle.symm
theorem MI.done (sa:xa.Pairwise (leB ltb)) (m:MI ltb xa xb ou ja jb) (h:jb=xb.length):(ou++xa.drop ja++xb.drop jb).Pairwise (leB ltb)∧(ou++xa.drop ja++xb.drop jb).Perm (xa++xb):=by
 have e:xb.drop jb=[]:=by rw[h];exact List.drop_length
 have pm:=m.pm
 rw[e,List.append_nil]at pm ⊢
 refine⟨?_,pm⟩
 rw[List.pairwise_append]
 exact⟨m.srt,sa.drop,m.la⟩
theorem MI.last (sa:xa.Pairwise (leB ltb)) (sb:xb.Pairwise (leB ltb)) (m:MI ltb xa xb ou ja jb) (h:∀x∈xb,∀y∈xa.drop ja,leB ltb x y) :
  (ou++xb.drop jb++xa.drop ja).Pairwise (leB ltb)∧(ou++xb.drop jb++xa.drop ja).Perm (xa++xb):=by
 constructor
 ·rw[List.pairwise_append,List.pairwise_append]
  refine⟨⟨m.srt,sb.drop,m.lb⟩,sa.drop,fun x hx y hy=>?_⟩
  rcases List.mem_append.mp hx with z|z
  ·exact m.la x z y hy
  ·exact h x (List.mem_of_mem_drop z) y hy
 ·refine List.Perm.trans ?_ m.pm
  rw[List.append_assoc]
  exact List.Perm.append_left _ List.perm_append_comm
end
end L2
namespace L2
open PySem PySem.Spec PyProof.Rows
def mloS:Array Keyed→Array Keyed→StateT SortSt Sem (Array Keyed):=sortPriv% PySem.Builtin.mergeLo
def dnS (xa xb ou:Array Keyed) (ja jb:Nat):Array Keyed:=ou++xa.extract ja xa.size++xb.extract jb xb.size
def lsS (xa xb ou:Array Keyed) (ja jb:Nat):Array Keyed:=ou++xb.extract jb xb.size++xa.extract ja xa.size
def smgS (g:Nat):StateT SortSt Sem Unit:=modify fun z=>SortSt.mk' (kindOf z) (arrOf z) (pendingOf z) g (failedOf z)
theorem mloS_eq (xa xb:Array Keyed):mloS xa xb =(do
 rule "list.sort.merge-lo"
 let mut ou:Array Keyed:=#[← elem' xb 0]
 let mut ja:=0
 let mut jb:=1
 if jb == xb.size then return dnS xa xb ou ja jb
 if ja+1 == xa.size then return lsS xa xb ou ja jb
 let mut mg:=gallopOf (← get)
 for _ in [0:xa.size+xb.size] do
  let mut ca:=0
  let mut cb:=0
  for _ in [0:xa.size+xb.size] do
   let some bw ← lt' (← elem' xb jb) (← elem' xa ja)|return dnS xa xb ou ja jb
   if bw then
    ou:=ou.push (← elem' xb jb);jb:=jb+1;cb:=cb+1;ca:=0
    if jb == xb.size then return dnS xa xb ou ja jb
    if cb ≥ mg then break
   else
    ou:=ou.push (← elem' xa ja);ja:=ja+1;ca:=ca+1;cb:=0
    if ja+1 == xa.size then return lsS xa xb ou ja jb
    if ca ≥ mg then break
  rule "list.sort.gallop"
  mg:=mg+1
  for _ in [0:xa.size+xb.size] do
   if mg > 1 then mg:=mg-1
   smgS mg
   let some kk ← galS false (← elem' xb jb) xa ja (xa.size-ja) 0|return dnS xa xb ou ja jb
   ca:=kk
   if kk > 0 then
    ou:=ou++xa.extract ja (ja+kk);ja:=ja+kk
    if ja+1 == xa.size then return lsS xa xb ou ja jb
    if ja == xa.size then return dnS xa xb ou ja jb
   ou:=ou.push (← elem' xb jb);jb:=jb+1
   if jb == xb.size then return dnS xa xb ou ja jb
   let some kk ← galS true (← elem' xa ja) xb jb (xb.size-jb) 0|return dnS xa xb ou ja jb
   cb:=kk
   if kk > 0 then
    ou:=ou++xb.extract jb (jb+kk);jb:=jb+kk
    if jb == xb.size then return dnS xa xb ou ja jb
   ou:=ou.push (← elem' xa ja);ja:=ja+1
   if ja+1 == xa.size then return lsS xa xb ou ja jb
   if ca<7 && cb<7 then break
  mg:=mg+1
  smgS mg
 unsupported "internal:list.sort.merge-bound"):=rfl
theorem ext_drop (x:Array Keyed) (j:Nat):(x.extract j x.size).toList=x.toList.drop j:=by
 rw[Array.toList_extract]
 exact List.take_of_length_le (by simp)
theorem ext_part (x:Array Keyed) (j k:Nat):(x.extract j (j+k)).toList =(x.toList.drop j).take k:=by
 rw[Array.toList_extract]
 show List.take (j+k-j) (List.drop j x.toList)=_
 rw[show j+k-j=k by omega]
section
variable {ltb:Keyed→Keyed→Bool}{xa xb ou:Array Keyed}{ja jb k:Nat}
theorem one_at {x:Array Keyed}{j:Nat}{b:Keyed}(h:x[j]? = some b):(x.toList.drop j).take 1=[b]:=by
 have hj:=(Array.getElem?_eq_some_iff.mp h).1
 have e:=(Array.getElem?_eq_some_iff.mp h).2
 rw[List.drop_eq_getElem_cons (by simpa using hj)]
 simp[e]
theorem MI.pB (O:OrdB ltb) (sa:xa.toList.Pairwise (leB ltb)) (sb:xb.toList.Pairwise (leB ltb)) (m:MI ltb xa.toList xb.toList ou.toList ja jb) {b y:Keyed}(hb:xb[jb]? = some b) (hy:xa[ja]? = some y) (c:leB ltb b y):MI ltb xa.toList xb.toList (ou.push b).toList ja (jb+1):=by
 have hj:=(Array.getElem?_eq_some_iff.mp hb).1
 have:=m.stepB O sa sb (k:=1) (by rw[Array.length_toList];omega) (z:=y) (by simpa using hy) (by rw[one_at hb];intro x hx;simp at hx;rw[hx];exact c)
 rw[one_at hb]at this
 simpa using this
theorem MI.pA (O:OrdB ltb) (sa:xa.toList.Pairwise (leB ltb)) (sb:xb.toList.Pairwise (leB ltb)) (m:MI ltb xa.toList xb.toList ou.toList ja jb) {b y:Keyed}(hb:xb[jb]? = some b) (hy:xa[ja]? = some y) (c:leB ltb y b):MI ltb xa.toList xb.toList (ou.push y).toList (ja+1) jb:=by
 have hj:=(Array.getElem?_eq_some_iff.mp hy).1
 have:=m.stepA O sa sb (k:=1) (by rw[Array.length_toList];omega) (z:=b) (by simpa using hb) (by rw[one_at hy];intro x hx;simp at hx;rw[hx];exact c)
 rw[one_at hy]at this
 simpa using this
theorem part_at {x:Array Keyed}{j k:Nat}{y:Keyed}(h:y∈(x.toList.drop j).take k):∃i,i<k∧x[j+i]? = some y:=by
 obtain⟨i,hi,e⟩:=List.getElem_of_mem h
 rw[List.length_take]at hi
 refine⟨i,by omega,?_⟩
 rw[List.getElem_take,List.getElem_drop]at e
 have hl:j+i<x.size:=by rw[List.length_drop]at hi;simp at hi;omega
 rw[Array.getElem?_eq_getElem hl]
 simpa using e
theorem MI.eA (O:OrdB ltb) (sa:xa.toList.Pairwise (leB ltb)) (sb:xb.toList.Pairwise (leB ltb)) (m:MI ltb xa.toList xb.toList ou.toList ja jb) (hk:ja+k≤xa.size) {b:Keyed}(hb:xb[jb]? = some b) (c:∀i,i<k→∀x,xa[ja+i]? = some x→leB ltb x b) :
  MI ltb xa.toList xb.toList (ou++xa.extract ja (ja+k)).toList (ja+k) jb:=by
 have:=m.stepA O sa sb (k:=k) (by simpa using hk) (z:=b) (by simpa using hb) (fun y hy=>by obtain⟨i,h1,h2⟩:=part_at hy;exact c i h1 y h2)
 rw[Array.toList_append,ext_part];exact this
theorem MI.eB (O:OrdB ltb) (sa:xa.toList.Pairwise (leB ltb)) (sb:xb.toList.Pairwise (leB ltb)) (m:MI ltb xa.toList xb.toList ou.toList ja jb) (hk:jb+k≤xb.size) {y:Keyed}(hy:xa[ja]? = some y) (c:∀i,i<k→∀x,xb[jb+i]? = some x→leB ltb x y) :
  MI ltb xa.toList xb.toList (ou++xb.extract jb (jb+k)).toList ja (jb+k):=by
 have:=m.stepB O sa sb (k:=k) (by simpa using hk) (z:=y) (by simpa using hy) (fun y hy=>by obtain⟨i,h1,h2⟩:=part_at hy;exact c i h1 y h2)
 rw[Array.toList_append,ext_part];exact this
theorem arr_le {x:Array Keyed}(h:x.toList.Pairwise (leB ltb)) {i j:Nat}(hij:i<j) {u v:Keyed}(hu:x[i]? = some u) (hv:x[j]? = some v):leB ltb u v :=
 rise_le h hij (by simpa using hu) (by simpa using hv)
theorem arr_mem {x:Array Keyed}{i:Nat}{u:Keyed}(hu:x[i]? = some u):u∈x.toList:=by
 have:=Array.mem_of_getElem? hu
 simpa using this
end
section
variable {prog:Program}{w:World}{A:Around}{E:Value→Shared→Prop}{s:Shared}{ltb:Keyed→Keyed→Bool}{S:Keyed→Prop}{κ:SortKind}
theorem wpS_galR (O:OrdB ltb) (hO:LtOk prog w A E s ltb S κ) {x:Array Keyed}{bs nn ht:Nat}{ky:Keyed}{st:SortSt}{Q:Option Nat→SortSt→Prop}(hk:kindOf st=κ) (hky:S ky) (Sx:∀u∈x.toList,S u) (sx:∀i j u v,i<j→j<nn→x[bs+i]? = some u→x[bs+j]? = some v→leB ltb u v)
  (hn:bs+nn≤x.size) (hht:ht<nn) (h:∀k,k≤nn→(∀i,i<k→∀u,x[bs+i]? = some u→leB ltb u ky)→(∀i,k≤i→i<nn→∀u,x[bs+i]? = some u→ltb ky u=true)→Q (some k) st):wpS (model prog w) A E s (galS false ky x bs nn ht) Q st:=by
 have ex:∀j,j<nn→∃u,x[bs+j]? = some u:=fun j hj=>⟨_,Array.getElem?_eq_getElem (by omega)⟩
 refine wpS_gal hO hk hky (fun j=>match x[bs+j]? with|some u=>Bf ltb false ky u|none=>false) (fun j hj=>?_) (fun i j hij hj hb=>?_) hht fun k h1 h2 h3=>h k h1 (fun i hi u hu=>?_) fun i hi hi2 u hu=>?_
 ·obtain⟨u,hu⟩:=ex j hj
  exact⟨u,hu,Sx u (arr_mem hu),by simp only[hu]⟩
 ·obtain⟨u,hu⟩:=ex i (by omega)
  obtain⟨v,hv⟩:=ex j hj
  simp only[hu,hv,Bf,Bool.false_eq_true,if_false,Bool.not_eq_true']at hb ⊢
  by_cases e:i=j
  ·subst e;rw[hu]at hv;cases hv;exact hb
  ·exact O.tr (sx i j u v (by omega) hj hu hv) hb
 ·have:=h2 i hi
  simp only[hu,Bf,Bool.false_eq_true,if_false,Bool.not_eq_true']at this
  exact this
 ·have:=h3 i hi hi2
  simp only[hu,Bf,Bool.false_eq_true,if_false,Bool.not_eq_false']at this
  exact this
theorem wpS_galL (O:OrdB ltb) (hO:LtOk prog w A E s ltb S κ) {x:Array Keyed}{bs nn ht:Nat}{ky:Keyed}{st:SortSt}{Q:Option Nat→SortSt→Prop}(hk:kindOf st=κ) (hky:S ky) (Sx:∀u∈x.toList,S u) (sx:∀i j u v,i<j→j<nn→x[bs+i]? = some u→x[bs+j]? = some v→leB ltb u v)
  (hn:bs+nn≤x.size) (hht:ht<nn) (h:∀k,k≤nn→(∀i,i<k→∀u,x[bs+i]? = some u→ltb u ky=true)→(∀i,k≤i→i<nn→∀u,x[bs+i]? = some u→leB ltb ky u)→Q (some k) st):wpS (model prog w) A E s (galS true ky x bs nn ht) Q st:=by
 have ex:∀j,j<nn→∃u,x[bs+j]? = some u:=fun j hj=>⟨_,Array.getElem?_eq_getElem (by omega)⟩
 refine wpS_gal hO hk hky (fun j=>match x[bs+j]? with|some u=>Bf ltb true ky u|none=>false) (fun j hj=>?_) (fun i j hij hj hb=>?_) hht fun k h1 h2 h3=>h k h1 (fun i hi u hu=>?_) fun i hi hi2 u hu=>?_
 ·obtain⟨u,hu⟩:=ex j hj
  exact⟨u,hu,Sx u (arr_mem hu),by simp only[hu]⟩
 ·obtain⟨u,hu⟩:=ex i (by omega)
  obtain⟨v,hv⟩:=ex j hj
  simp only[hu,hv,Bf,if_true]at hb ⊢
  by_cases e:i=j
  ·subst e;rw[hu]at hv;cases hv;exact hb
  ·have l1:=sx i j u v (by omega) hj hu hv
   cases q:ltb u ky with
   | true=>rfl
   | false=>have:=O.tr q l1;rw[this]at hb;cases hb
 ·have:=h2 i hi
  simp only[hu,Bf,if_true]at this
  exact this
 ·have:=h3 i hi hi2
  simp only[hu,Bf,if_true]at this
  exact this
end
section
variable {prog:Program}{w:World}{A:Around}{E:Value→Shared→Prop}{s:Shared}{ltb:Keyed→Keyed→Bool}{S:Keyed→Prop}{κ:SortKind}
structure SS (κ:SortKind) (st st':SortSt):Prop where
 kind:kindOf st'=κ
 fail:failedOf st'=none
 arr:arrOf st'=arrOf st
 pend:pendingOf st'=pendingOf st
theorem SS.smg {st st':SortSt}(h:SS κ st st') (g:Nat):SS κ st (SortSt.mk' (kindOf st') (arrOf st') (pendingOf st') g (failedOf st')):=⟨h.kind,h.fail,h.arr,h.pend⟩
theorem wpS_mlo (O:OrdB ltb) (hO:LtOk prog w A E s ltb S κ) {xa xb:Array Keyed}{st:SortSt}{Q:Array Keyed→SortSt→Prop}(Sa:∀x∈xa.toList,S x) (Sb:∀x∈xb.toList,S x) (sa:xa.toList.Pairwise (leB ltb)) (sb:xb.toList.Pairwise (leB ltb))
  {z:Keyed}(hz:xb[0]? = some z) (hfst:∀y∈xa.toList,leB ltb z y) (ha0:0<xa.size) (hlst:∀x∈xb.toList,∀y,xa[xa.size-1]? = some y→ltb x y=true) (hS:SS κ st st)
  (h:∀r st',r.toList.Pairwise (leB ltb)→r.toList.Perm (xa.toList++xb.toList)→SS κ st st'→Q r st'):wpS (model prog w) A E s (mloS xa xb) Q st:=by
 have hb0:0<xb.size:=by
  have:=(Array.getElem?_eq_some_iff.mp hz).1;exact this
 have mdone:∀(ou:Array Keyed) (ja jb:Nat) (st':SortSt),MI ltb xa.toList xb.toList ou.toList ja jb→jb=xb.size→SS κ st st'→Q (dnS xa xb ou ja jb) st':=fun ou ja jb st' m e ss=>by
  obtain⟨p1,p2⟩:=m.done sa (by rw[e];simp)
  have el:(dnS xa xb ou ja jb).toList=ou.toList++xa.toList.drop ja++xb.toList.drop jb:=by unfold dnS;rw[Array.toList_append,Array.toList_append,ext_drop,ext_drop]
  exact h _ _ (by rw[el];exact p1) (by rw[el];exact p2) ss
 have mlast:∀(ou:Array Keyed) (ja jb:Nat) (st':SortSt),MI ltb xa.toList xb.toList ou.toList ja jb→ja+1=xa.size→SS κ st st'→Q (lsS xa xb ou ja jb) st':=fun ou ja jb st' m e ss=>by
  obtain⟨p1,p2⟩:=m.last sa sb (fun x hx y hy=>by
   obtain⟨i,hi,e2⟩:=List.getElem_of_mem hy
   have hi0:i=0:=by rw[List.length_drop]at hi;simp at hi;omega
   subst hi0
   have e3:xa[xa.size-1]? = some y:=by
    rw[List.getElem_drop]at e2
    rw[show xa.size-1=ja by omega]
    rw[← e2];simp
   exact O.asym (hlst x hx y e3))
  have el:(lsS xa xb ou ja jb).toList=ou.toList++xb.toList.drop jb++xa.toList.drop ja:=by unfold lsS;rw[Array.toList_append,Array.toList_append,ext_drop,ext_drop]
  exact h _ _ (by rw[el];exact p1) (by rw[el];exact p2) ss
 have mi0:MI ltb xa.toList xb.toList [z] 0 1:=MI.start (y0:=z) sb (by simpa using hz) hfst
 rw[mloS_eq]
 refine wpS_bind (wpS_lift (wpAny_rule ⟨rfl,?_⟩))
 refine wpS_bind (wpS_elem hz ?_)
 dsimp only
 by_cases c1:1=xb.size
 ·rw[if_pos (by simpa using c1)]
  exact wpS_pure (mdone #[z] 0 1 st mi0 c1 hS)
 rw[if_neg (by simpa using c1)]
 by_cases c2:0+1=xa.size
 ·rw[if_pos (by simpa using c2)]
  exact wpS_pure (mlast #[z] 0 1 st mi0 c2 hS)
 rw[if_neg (by simpa using c2)]
 refine wpS_bind (wpS_get ?_)
 have at1:∀{x:Array Keyed}{j:Nat},j<x.size→∃u,x[j]? = some u:=fun {x j} hj=>⟨_,Array.getElem?_eq_getElem hj⟩
 refine wpS_bind (wpS_mono (wpS_forRange
  (I:=fun x c st'=>SS κ st st'∧∃ou ja jb mg,c =(none,ou,ja,jb,mg)∧MI ltb xa.toList xb.toList ou.toList ja jb∧ja+1<xa.size∧jb<xb.size∧x+1≤ja+jb)
  (Q:=fun c st'=>∃r ou ja jb mg,c =(some r,ou,ja,jb,mg)∧Q r st') ?stp ?fin ⟨hS,#[z],0,1,_,rfl,mi0,by omega,by omega,by omega⟩) ?post)
 case fin =>
  rintro c st' ⟨ss,ou,ja,jb,mg,rfl,m,b1,b2,b3⟩
  omega
 case post =>
  rintro c st' ⟨r,ou,ja,jb,mg,rfl,hq⟩
  exact wpS_pure hq
 case stp =>
  rintro x c st1 _ hx ⟨ss,ou,ja,jb,mg,rfl,m,b1,b2,b3⟩
  dsimp only
  refine wpS_bind (wpS_mono (wpS_forRange
   (I:=fun y c st'=>SS κ st st'∧∃ou' ja' jb' ca cb,c =(none,ou',ja',jb',ca,cb)∧MI ltb xa.toList xb.toList ou'.toList ja' jb'∧ja'+1<xa.size∧jb'<xb.size∧ja+jb+y≤ja'+jb')
   (Q:=fun c st'=>(∃r ou' ja' jb' ca cb,c =(some r,ou',ja',jb',ca,cb)∧Q r st') ∨(SS κ st st'∧∃ou' ja' jb' ca cb,c =(none,ou',ja',jb',ca,cb)∧MI ltb xa.toList xb.toList ou'.toList ja' jb'∧ja'+1<xa.size∧jb'<xb.size∧ja+jb+1≤ja'+jb')) ?stp1 ?fin1 ⟨ss,ou,ja,jb,0,0,rfl,m,b1,b2,by omega⟩) ?post1)
  case fin1 =>
   rintro c st' ⟨ss,ou',ja',jb',ca,cb,rfl,m,d1,d2,d3⟩
   exact .inr ⟨ss,ou',ja',jb',ca,cb,rfl,m,d1,d2,by omega⟩
  case stp1 =>
   rintro y c st2 _ hy ⟨ss,ou',ja',jb',ca,cb,rfl,m,d1,d2,d3⟩
   dsimp only
   obtain⟨vb,hvb⟩:=at1 (x:=xb) d2
   obtain⟨va,hva⟩:=at1 (x:=xa) (j:=ja') (by omega)
   refine wpS_bind (wpS_elem hvb (wpS_bind (wpS_elem hva (wpS_bind (hO vb va _ _ (Sb _ (arr_mem hvb)) (Sa _ (arr_mem hva)) ss.kind ?_)))))
   dsimp only
   cases hw:ltb vb va with
   | true =>
    simp only[if_true]
    have m2:=m.pB O sa sb hvb hva (O.asym hw)
    refine wpS_bind (wpS_elem hvb ?_)
    by_cases e1:jb'+1=xb.size
    ·rw[if_pos (by simpa using e1)]
     exact wpS_pure (.inl ⟨_,_,_,_,_,_,rfl,mdone _ _ _ _ m2 e1 ss⟩)
    ·rw[if_neg (by simpa using e1)]
     split
     ·exact wpS_pure (.inr ⟨ss,_,_,_,_,_,rfl,m2,d1,by omega,by omega⟩)
     ·exact wpS_pure ⟨ss,_,_,_,_,_,rfl,m2,d1,by omega,by omega⟩
   | false =>
    simp only[Bool.false_eq_true,if_false]
    have m2:=m.pA O sa sb hvb hva hw
    refine wpS_bind (wpS_elem hva ?_)
    by_cases e1:ja'+1+1=xa.size
    ·rw[if_pos (by simpa using e1)]
     exact wpS_pure (.inl ⟨_,_,_,_,_,_,rfl,mlast _ _ _ _ m2 e1 ss⟩)
    ·rw[if_neg (by simpa using e1)]
     split
     ·exact wpS_pure (.inr ⟨ss,_,_,_,_,_,rfl,m2,by omega,d2,by omega⟩)
     ·exact wpS_pure ⟨ss,_,_,_,_,_,rfl,m2,by omega,d2,by omega⟩
  case post1 =>
   rintro c st2 (⟨r,ou',ja',jb',ca,cb,rfl,hq⟩|⟨ss,ou',ja',jb',ca,cb,rfl,m,d1,d2,d3⟩)
   ·exact wpS_pure ⟨r,_,_,_,_,rfl,hq⟩
   dsimp only
   refine wpS_bind (wpS_lift (wpAny_rule ⟨rfl,?_⟩))
   refine wpS_bind (wpS_mono (wpS_forRange
    (I:=fun y c st'=>SS κ st st'∧∃ou' ja' jb' mg ca cb,c =(none,ou',ja',jb',mg,ca,cb)∧MI ltb xa.toList xb.toList ou'.toList ja' jb'∧ja'+1<xa.size∧jb'<xb.size∧ja+jb+1≤ja'+jb')
    (Q:=fun c st'=>(∃r ou' ja' jb' mg ca cb,c =(some r,ou',ja',jb',mg,ca,cb)∧Q r st') ∨(SS κ st st'∧∃ou' ja' jb' mg ca cb,c =(none,ou',ja',jb',mg,ca,cb)∧MI ltb xa.toList xb.toList ou'.toList ja' jb'∧ja'+1<xa.size∧jb'<xb.size∧ja+jb+1≤ja'+jb')) ?stp2 ?fin2 ⟨ss,ou',ja',jb',_,ca,cb,rfl,m,d1,d2,d3⟩) ?post2)
   case fin2 =>
    rintro c st' hh
    exact .inr hh
   case post2 =>
    rintro c st3 (⟨r,ou2,ja2,jb2,mg2,ca2,cb2,rfl,hq⟩|⟨ss,ou2,ja2,jb2,mg2,ca2,cb2,rfl,m,f1,f2,f3⟩)
    ·exact wpS_pure ⟨r,_,_,_,_,rfl,hq⟩
    ·dsimp only
     refine wpS_bind (wpS_modify ?_)
     exact wpS_pure ⟨ss.smg _,_,_,_,_,rfl,m,f1,f2,by omega⟩
   case stp2 =>
    rintro y c st3 _ hy ⟨ss,ou2,ja2,jb2,mg2,ca2,cb2,rfl,m,f1,f2,f3⟩
    dsimp only
    obtain⟨vb,hvb⟩:=at1 (x:=xb) f2
    have sxa:∀(q:Nat) i j u v,i<j→j<xa.size-q→xa[q+i]? = some u→xa[q+j]? = some v→leB ltb u v:=fun q i j u v hij _ hu hv=>arr_le sa (by omega) hu hv
    have sxb:∀(q:Nat) i j u v,i<j→j<xb.size-q→xb[q+i]? = some u→xb[q+j]? = some v→leB ltb u v:=fun q i j u v hij _ hu hv=>arr_le sb (by omega) hu hv
    obtain⟨vl,hvl⟩:=at1 (x:=xa) (j:=xa.size-1) (by omega)
    have hbl:=hlst vb (arr_mem hvb) vl hvl
    by_cases hg:mg2 > 1
    ·rw[if_pos hg]
     refine wpS_bind (wpS_modify ?_)
     have ss2:=ss.smg (mg2-1)
     refine wpS_bind (wpS_elem hvb (wpS_bind (wpS_galR O hO ss2.kind (Sb _ (arr_mem hvb)) Sa (sxa ja2) (by omega) (by omega) fun k hk1 hk2 hk3=>?_)))
     have hkl:k<xa.size-ja2:=by
      by_cases q:k<xa.size-ja2
      ·exact q
      ·have:=hk2 (xa.size-ja2-1) (by omega) vl (by rw[show ja2+(xa.size-ja2-1)=xa.size-1 by omega];exact hvl)
       unfold leB at this
       rw[hbl]at this;cases this
     dsimp only
     by_cases kp:k > 0
     ·rw[if_pos kp]
      have M3:=m.eA O sa sb (k:=k) (by omega) hvb hk2
      by_cases e0:ja2+k+1=xa.size
      ·rw[if_pos (by simpa using e0)]
       exact wpS_pure (.inl ⟨_,_,_,_,_,_,_,rfl,mlast _ _ _ _ M3 e0 ss2⟩)
      rw[if_neg (by simpa using e0),if_neg (by simp;omega)]
      obtain⟨va,hva⟩:=at1 (x:=xa) (j:=ja2+k) (by omega)
      have hw:=hk3 k (Nat.le_refl _) hkl va hva
      refine wpS_bind (wpS_elem hvb ?_)
      have m4:=M3.pB O sa sb hvb hva (O.asym hw)
      by_cases e1:jb2+1=xb.size
      ·rw[if_pos (by simpa using e1)]
       exact wpS_pure (.inl ⟨_,_,_,_,_,_,_,rfl,mdone _ _ _ _ m4 e1 ss2⟩)
      rw[if_neg (by simpa using e1)]
      refine wpS_bind (wpS_elem hva (wpS_bind (wpS_galL O hO ss2.kind (Sa _ (arr_mem hva)) Sb (sxb (jb2+1)) (by omega) (by omega) fun k2 g1 g2 g3=>?_)))
      dsimp only
      by_cases k2p:k2 > 0
      ·rw[if_pos k2p]
       have m5:=m4.eB O sa sb (k:=k2) (by omega) hva (fun i hi u hu=>O.asym (g2 i hi u hu))
       by_cases e2:jb2+1+k2=xb.size
       ·rw[if_pos (by simpa using e2)]
        exact wpS_pure (.inl ⟨_,_,_,_,_,_,_,rfl,mdone _ _ _ _ m5 e2 ss2⟩)
       rw[if_neg (by simpa using e2)]
       obtain⟨vb2,hvb2⟩:=at1 (x:=xb) (j:=jb2+1+k2) (by omega)
       have m6:=m5.pA O sa sb hvb2 hva (g3 k2 (Nat.le_refl _) (by omega) vb2 hvb2)
       refine wpS_bind (wpS_elem hva ?_)
       by_cases e3:ja2+k+1+1=xa.size
       ·rw[if_pos (by simpa using e3)]
        exact wpS_pure (.inl ⟨_,_,_,_,_,_,_,rfl,mlast _ _ _ _ m6 e3 ss2⟩)
       rw[if_neg (by simpa using e3)]
       split
       ·exact wpS_pure (.inr ⟨ss2,_,_,_,_,_,_,rfl,m6,by omega,by omega,by omega⟩)
       ·exact wpS_pure ⟨ss2,_,_,_,_,_,_,rfl,m6,by omega,by omega,by omega⟩
      ·rw[if_neg k2p]
       obtain⟨vb2,hvb2⟩:=at1 (x:=xb) (j:=jb2+1) (by omega)
       have m6:=m4.pA O sa sb hvb2 hva (g3 0 (by omega) (by omega) vb2 hvb2)
       refine wpS_bind (wpS_elem hva ?_)
       by_cases e3:ja2+k+1+1=xa.size
       ·rw[if_pos (by simpa using e3)]
        exact wpS_pure (.inl ⟨_,_,_,_,_,_,_,rfl,mlast _ _ _ _ m6 e3 ss2⟩)
       rw[if_neg (by simpa using e3)]
       split
       ·exact wpS_pure (.inr ⟨ss2,_,_,_,_,_,_,rfl,m6,by omega,by omega,by omega⟩)
       ·exact wpS_pure ⟨ss2,_,_,_,_,_,_,rfl,m6,by omega,by omega,by omega⟩
     ·rw[if_neg kp]
      have M3:=m
      obtain⟨va,hva⟩:=at1 (x:=xa) (j:=ja2) (by omega)
      have hw:=hk3 0 (by omega) (by omega) va hva
      refine wpS_bind (wpS_elem hvb ?_)
      have m4:=M3.pB O sa sb hvb hva (O.asym hw)
      by_cases e1:jb2+1=xb.size
      ·rw[if_pos (by simpa using e1)]
       exact wpS_pure (.inl ⟨_,_,_,_,_,_,_,rfl,mdone _ _ _ _ m4 e1 ss2⟩)
      rw[if_neg (by simpa using e1)]
      refine wpS_bind (wpS_elem hva (wpS_bind (wpS_galL O hO ss2.kind (Sa _ (arr_mem hva)) Sb (sxb (jb2+1)) (by omega) (by omega) fun k2 g1 g2 g3=>?_)))
      dsimp only
      by_cases k2p:k2 > 0
      ·rw[if_pos k2p]
       have m5:=m4.eB O sa sb (k:=k2) (by omega) hva (fun i hi u hu=>O.asym (g2 i hi u hu))
       by_cases e2:jb2+1+k2=xb.size
       ·rw[if_pos (by simpa using e2)]
        exact wpS_pure (.inl ⟨_,_,_,_,_,_,_,rfl,mdone _ _ _ _ m5 e2 ss2⟩)
       rw[if_neg (by simpa using e2)]
       obtain⟨vb2,hvb2⟩:=at1 (x:=xb) (j:=jb2+1+k2) (by omega)
       have m6:=m5.pA O sa sb hvb2 hva (g3 k2 (Nat.le_refl _) (by omega) vb2 hvb2)
       refine wpS_bind (wpS_elem hva ?_)
       by_cases e3:ja2+1+1=xa.size
       ·rw[if_pos (by simpa using e3)]
        exact wpS_pure (.inl ⟨_,_,_,_,_,_,_,rfl,mlast _ _ _ _ m6 e3 ss2⟩)
       rw[if_neg (by simpa using e3)]
       split
       ·exact wpS_pure (.inr ⟨ss2,_,_,_,_,_,_,rfl,m6,by omega,by omega,by omega⟩)
       ·exact wpS_pure ⟨ss2,_,_,_,_,_,_,rfl,m6,by omega,by omega,by omega⟩
      ·rw[if_neg k2p]
       obtain⟨vb2,hvb2⟩:=at1 (x:=xb) (j:=jb2+1) (by omega)
       have m6:=m4.pA O sa sb hvb2 hva (g3 0 (by omega) (by omega) vb2 hvb2)
       refine wpS_bind (wpS_elem hva ?_)
       by_cases e3:ja2+1+1=xa.size
       ·rw[if_pos (by simpa using e3)]
        exact wpS_pure (.inl ⟨_,_,_,_,_,_,_,rfl,mlast _ _ _ _ m6 e3 ss2⟩)
       rw[if_neg (by simpa using e3)]
       split
       ·exact wpS_pure (.inr ⟨ss2,_,_,_,_,_,_,rfl,m6,by omega,by omega,by omega⟩)
       ·exact wpS_pure ⟨ss2,_,_,_,_,_,_,rfl,m6,by omega,by omega,by omega⟩
    ·rw[if_neg hg]
     refine wpS_bind (wpS_modify ?_)
     have ss2:=ss.smg mg2
     refine wpS_bind (wpS_elem hvb (wpS_bind (wpS_galR O hO ss2.kind (Sb _ (arr_mem hvb)) Sa (sxa ja2) (by omega) (by omega) fun k hk1 hk2 hk3=>?_)))
     have hkl:k<xa.size-ja2:=by
      by_cases q:k<xa.size-ja2
      ·exact q
      ·have:=hk2 (xa.size-ja2-1) (by omega) vl (by rw[show ja2+(xa.size-ja2-1)=xa.size-1 by omega];exact hvl)
       unfold leB at this
       rw[hbl]at this;cases this
     dsimp only
     by_cases kp:k > 0
     ·rw[if_pos kp]
      have M3:=m.eA O sa sb (k:=k) (by omega) hvb hk2
      by_cases e0:ja2+k+1=xa.size
      ·rw[if_pos (by simpa using e0)]
       exact wpS_pure (.inl ⟨_,_,_,_,_,_,_,rfl,mlast _ _ _ _ M3 e0 ss2⟩)
      rw[if_neg (by simpa using e0),if_neg (by simp;omega)]
      obtain⟨va,hva⟩:=at1 (x:=xa) (j:=ja2+k) (by omega)
      have hw:=hk3 k (Nat.le_refl _) hkl va hva
      refine wpS_bind (wpS_elem hvb ?_)
      have m4:=M3.pB O sa sb hvb hva (O.asym hw)
      by_cases e1:jb2+1=xb.size
      ·rw[if_pos (by simpa using e1)]
       exact wpS_pure (.inl ⟨_,_,_,_,_,_,_,rfl,mdone _ _ _ _ m4 e1 ss2⟩)
      rw[if_neg (by simpa using e1)]
      refine wpS_bind (wpS_elem hva (wpS_bind (wpS_galL O hO ss2.kind (Sa _ (arr_mem hva)) Sb (sxb (jb2+1)) (by omega) (by omega) fun k2 g1 g2 g3=>?_)))
      dsimp only
      by_cases k2p:k2 > 0
      ·rw[if_pos k2p]
       have m5:=m4.eB O sa sb (k:=k2) (by omega) hva (fun i hi u hu=>O.asym (g2 i hi u hu))
       by_cases e2:jb2+1+k2=xb.size
       ·rw[if_pos (by simpa using e2)]
        exact wpS_pure (.inl ⟨_,_,_,_,_,_,_,rfl,mdone _ _ _ _ m5 e2 ss2⟩)
       rw[if_neg (by simpa using e2)]
       obtain⟨vb2,hvb2⟩:=at1 (x:=xb) (j:=jb2+1+k2) (by omega)
       have m6:=m5.pA O sa sb hvb2 hva (g3 k2 (Nat.le_refl _) (by omega) vb2 hvb2)
       refine wpS_bind (wpS_elem hva ?_)
       by_cases e3:ja2+k+1+1=xa.size
       ·rw[if_pos (by simpa using e3)]
        exact wpS_pure (.inl ⟨_,_,_,_,_,_,_,rfl,mlast _ _ _ _ m6 e3 ss2⟩)
       rw[if_neg (by simpa using e3)]
       split
       ·exact wpS_pure (.inr ⟨ss2,_,_,_,_,_,_,rfl,m6,by omega,by omega,by omega⟩)
       ·exact wpS_pure ⟨ss2,_,_,_,_,_,_,rfl,m6,by omega,by omega,by omega⟩
      ·rw[if_neg k2p]
       obtain⟨vb2,hvb2⟩:=at1 (x:=xb) (j:=jb2+1) (by omega)
       have m6:=m4.pA O sa sb hvb2 hva (g3 0 (by omega) (by omega) vb2 hvb2)
       refine wpS_bind (wpS_elem hva ?_)
       by_cases e3:ja2+k+1+1=xa.size
       ·rw[if_pos (by simpa using e3)]
        exact wpS_pure (.inl ⟨_,_,_,_,_,_,_,rfl,mlast _ _ _ _ m6 e3 ss2⟩)
       rw[if_neg (by simpa using e3)]
       split
       ·exact wpS_pure (.inr ⟨ss2,_,_,_,_,_,_,rfl,m6,by omega,by omega,by omega⟩)
       ·exact wpS_pure ⟨ss2,_,_,_,_,_,_,rfl,m6,by omega,by omega,by omega⟩
     ·rw[if_neg kp]
      have M3:=m
      obtain⟨va,hva⟩:=at1 (x:=xa) (j:=ja2) (by omega)
      have hw:=hk3 0 (by omega) (by omega) va hva
      refine wpS_bind (wpS_elem hvb ?_)
      have m4:=M3.pB O sa sb hvb hva (O.asym hw)
      by_cases e1:jb2+1=xb.size
      ·rw[if_pos (by simpa using e1)]
       exact wpS_pure (.inl ⟨_,_,_,_,_,_,_,rfl,mdone _ _ _ _ m4 e1 ss2⟩)
      rw[if_neg (by simpa using e1)]
      refine wpS_bind (wpS_elem hva (wpS_bind (wpS_galL O hO ss2.kind (Sa _ (arr_mem hva)) Sb (sxb (jb2+1)) (by omega) (by omega) fun k2 g1 g2 g3=>?_)))
      dsimp only
      by_cases k2p:k2 > 0
      ·rw[if_pos k2p]
       have m5:=m4.eB O sa sb (k:=k2) (by omega) hva (fun i hi u hu=>O.asym (g2 i hi u hu))
       by_cases e2:jb2+1+k2=xb.size
       ·rw[if_pos (by simpa using e2)]
        exact wpS_pure (.inl ⟨_,_,_,_,_,_,_,rfl,mdone _ _ _ _ m5 e2 ss2⟩)
       rw[if_neg (by simpa using e2)]
       obtain⟨vb2,hvb2⟩:=at1 (x:=xb) (j:=jb2+1+k2) (by omega)
       have m6:=m5.pA O sa sb hvb2 hva (g3 k2 (Nat.le_refl _) (by omega) vb2 hvb2)
       refine wpS_bind (wpS_elem hva ?_)
       by_cases e3:ja2+1+1=xa.size
       ·rw[if_pos (by simpa using e3)]
        exact wpS_pure (.inl ⟨_,_,_,_,_,_,_,rfl,mlast _ _ _ _ m6 e3 ss2⟩)
       rw[if_neg (by simpa using e3)]
       split
       ·exact wpS_pure (.inr ⟨ss2,_,_,_,_,_,_,rfl,m6,by omega,by omega,by omega⟩)
       ·exact wpS_pure ⟨ss2,_,_,_,_,_,_,rfl,m6,by omega,by omega,by omega⟩
      ·rw[if_neg k2p]
       obtain⟨vb2,hvb2⟩:=at1 (x:=xb) (j:=jb2+1) (by omega)
       have m6:=m4.pA O sa sb hvb2 hva (g3 0 (by omega) (by omega) vb2 hvb2)
       refine wpS_bind (wpS_elem hva ?_)
       by_cases e3:ja2+1+1=xa.size
       ·rw[if_pos (by simpa using e3)]
        exact wpS_pure (.inl ⟨_,_,_,_,_,_,_,rfl,mlast _ _ _ _ m6 e3 ss2⟩)
       rw[if_neg (by simpa using e3)]
       split
       ·exact wpS_pure (.inr ⟨ss2,_,_,_,_,_,_,rfl,m6,by omega,by omega,by omega⟩)
       ·exact wpS_pure ⟨ss2,_,_,_,_,_,_,rfl,m6,by omega,by omega,by omega⟩
end
end L2
namespace L2
open PySem PySem.Spec PyProof.Rows
def mhiS:Array Keyed→Array Keyed→StateT SortSt Sem (Array Keyed):=sortPriv% PySem.Builtin.mergeHi
def dhS (xa xb ou:Array Keyed) (na nb:Nat):Array Keyed:=xa.extract 0 na++xb.extract 0 nb++ou.reverse
def fhS (xa xb ou:Array Keyed) (na nb:Nat):Array Keyed:=xb.extract 0 nb++xa.extract 0 na++ou.reverse
theorem mhiS_eq (xa xb:Array Keyed):mhiS xa xb =(do
 rule "list.sort.merge-hi"
 let mut qa:=xa.size-1
 let mut qb:=xb.size
 let mut ou:Array Keyed:=#[← elem' xa qa]
 if qa == 0 then return dhS xa xb ou qa qb
 if qb == 1 then return fhS xa xb ou qa qb
 let mut mg:=gallopOf (← get)
 for _ in [0:xa.size+xb.size] do
  let mut ca:=0
  let mut cb:=0
  for _ in [0:xa.size+xb.size] do
   let some aw ← lt' (← elem' xb (qb-1)) (← elem' xa (qa-1))|return dhS xa xb ou qa qb
   if aw then
    qa:=qa-1;ou:=ou.push (← elem' xa qa);ca:=ca+1;cb:=0
    if qa == 0 then return dhS xa xb ou qa qb
    if ca ≥ mg then break
   else
    qb:=qb-1;ou:=ou.push (← elem' xb qb);cb:=cb+1;ca:=0
    if qb == 1 then return fhS xa xb ou qa qb
    if cb ≥ mg then break
  rule "list.sort.gallop"
  mg:=mg+1
  for _ in [0:xa.size+xb.size] do
   if mg > 1 then mg:=mg-1
   smgS mg
   let some tt ← galS false (← elem' xb (qb-1)) xa 0 qa (qa-1)|return dhS xa xb ou qa qb
   let kk:=qa-tt
   ca:=kk
   if kk > 0 then
    ou:=ou++(xa.extract tt qa).reverse;qa:=tt
    if qa == 0 then return dhS xa xb ou qa qb
   qb:=qb-1;ou:=ou.push (← elem' xb qb)
   if qb == 1 then return fhS xa xb ou qa qb
   let some tt ← galS true (← elem' xa (qa-1)) xb 0 qb (qb-1)|return dhS xa xb ou qa qb
   let kk:=qb-tt
   cb:=kk
   if kk > 0 then
    ou:=ou++(xb.extract tt qb).reverse;qb:=tt
    if qb == 1 then return fhS xa xb ou qa qb
    if qb == 0 then return dhS xa xb ou qa qb
   qa:=qa-1;ou:=ou.push (← elem' xa qa)
   if qa == 0 then return dhS xa xb ou qa qb
   if ca<7 && cb<7 then break
  mg:=mg+1
  smgS mg
 unsupported "internal:list.sort.merge-bound"):=rfl
def flipB (ltb:Keyed→Keyed→Bool):Keyed→Keyed→Bool:=fun x y=>ltb y x
theorem OrdB.flip {ltb:Keyed→Keyed→Bool}(O:OrdB ltb):OrdB (flipB ltb):=⟨fun h=>O.asym h,fun h1 h2=>O.tr h2 h1⟩
section
variable {ltb:Keyed→Keyed→Bool}{xa xb ou:Array Keyed}{na nb k:Nat}
theorem rev_rise {l:List Keyed}(h:l.Pairwise (leB ltb)):l.reverse.Pairwise (leB (flipB ltb)):=by
 rw[List.pairwise_reverse]
 exact h
theorem rise_rev {l:List Keyed}(h:l.Pairwise (leB (flipB ltb))):l.reverse.Pairwise (leB ltb):=by
 rw[List.pairwise_reverse]
 exact h
def HI (ltb:Keyed→Keyed→Bool) (xa xb ou:Array Keyed) (na nb:Nat):Prop:=MI (flipB ltb) xb.toList.reverse xa.toList.reverse ou.toList (xb.size-nb) (xa.size-na)
theorem rev_drop (x:Array Keyed) {n:Nat}(h:n≤x.size):x.toList.reverse.drop (x.size-n) =(x.toList.take n).reverse:=by
 rw[List.drop_reverse,Array.length_toList,show x.size-(x.size-n)=n by omega]
theorem rev_part (x:Array Keyed) {n t:Nat}(h:n≤x.size) (ht:t≤n):(x.toList.reverse.drop (x.size-n)).take (n-t) =((x.toList.take n).drop t).reverse:=by
 rw[rev_drop x h,List.take_reverse,List.length_take,Array.length_toList,show min n x.size-(n-t)=t by omega]
theorem rev_get (x:Array Keyed) {n:Nat}(h1:1≤n) (h:n≤x.size):x.toList.reverse[x.size-n]? = x[n-1]?:=by
 rw[List.getElem?_reverse (by rw[Array.length_toList];omega),Array.length_toList]
 rw[show x.size-1-(x.size-n)=n-1 by omega]
 simp
theorem HI.chA (O:OrdB ltb) (sa:xa.toList.Pairwise (leB ltb)) (sb:xb.toList.Pairwise (leB ltb)) (m:HI ltb xa xb ou na nb) {t:Nat}(ha:na≤xa.size) (ht:t≤na) (hb1:1≤nb) (hb:nb≤xb.size) {b:Keyed}(hvb:xb[nb-1]? = some b)
  (c:∀i,t≤i→i<na→∀x,xa[i]? = some x→leB ltb b x) {ou2:Array Keyed}(eo:ou2.toList=ou.toList++((xa.toList.take na).drop t).reverse):HI ltb xa xb ou2 t nb:=by
 have q:=MI.stepB O.flip (rev_rise sb) (rev_rise sa) m (k:=na-t) (by rw[List.length_reverse,Array.length_toList];omega) (z:=b) (by rw[rev_get xb hb1 hb];exact hvb) (fun y hy=>by
  rw[rev_part xa ha ht,List.mem_reverse]at hy
  obtain⟨i,hi,e⟩:=List.getElem_of_mem hy
  rw[List.length_drop,List.length_take,Array.length_toList]at hi
  rw[List.getElem_drop,List.getElem_take]at e
  exact c (t+i) (by omega) (by omega) y (by rw[Array.getElem?_eq_getElem (by omega)];simpa using e))
 rw[rev_part xa ha ht,← eo]at q
 unfold HI
 rw[show xa.size-t=xa.size-na+(na-t) by omega]
 exact q
theorem HI.chB (O:OrdB ltb) (sa:xa.toList.Pairwise (leB ltb)) (sb:xb.toList.Pairwise (leB ltb)) (m:HI ltb xa xb ou na nb) {t:Nat}(hb:nb≤xb.size) (ht:t≤nb) (ha1:1≤na) (ha:na≤xa.size) {a:Keyed}(hva:xa[na-1]? = some a)
  (c:∀i,t≤i→i<nb→∀x,xb[i]? = some x→leB ltb a x) {ou2:Array Keyed}(eo:ou2.toList=ou.toList++((xb.toList.take nb).drop t).reverse):HI ltb xa xb ou2 na t:=by
 have q:=MI.stepA O.flip (rev_rise sb) (rev_rise sa) m (k:=nb-t) (by rw[List.length_reverse,Array.length_toList];omega) (z:=a) (by rw[rev_get xa ha1 ha];exact hva) (fun y hy=>by
  rw[rev_part xb hb ht,List.mem_reverse]at hy
  obtain⟨i,hi,e⟩:=List.getElem_of_mem hy
  rw[List.length_drop,List.length_take,Array.length_toList]at hi
  rw[List.getElem_drop,List.getElem_take]at e
  exact c (t+i) (by omega) (by omega) y (by rw[Array.getElem?_eq_getElem (by omega)];simpa using e))
 rw[rev_part xb hb ht,← eo]at q
 unfold HI
 rw[show xb.size-t=xb.size-nb+(nb-t) by omega]
 exact q
theorem one_rev {x:Array Keyed}{n:Nat}(h1:1≤n) (h:n≤x.size) {v:Keyed}(hv:x[n-1]? = some v):((x.toList.take n).drop (n-1)).reverse=[v]:=by
 have e:=(Array.getElem?_eq_some_iff.mp hv).2
 rw[List.drop_eq_getElem_cons (by rw[List.length_take,Array.length_toList];omega)]
 rw[List.drop_eq_nil_of_le (by rw[List.length_take,Array.length_toList];omega)]
 rw[List.getElem_take]
 simp[e]
theorem HI.done (sb:xb.toList.Pairwise (leB ltb)) (m:HI ltb xa xb ou 0 nb) (hb:nb≤xb.size):(dhS xa xb ou 0 nb).toList.Pairwise (leB ltb)∧(dhS xa xb ou 0 nb).toList.Perm (xa.toList++xb.toList):=by
 obtain⟨p1,p2⟩:=MI.done (rev_rise sb) m (by rw[List.length_reverse,Array.length_toList];omega)
 have el:(dhS xa xb ou 0 nb).toList =(ou.toList++xb.toList.reverse.drop (xb.size-nb)++xa.toList.reverse.drop (xa.size-0)).reverse:=by
  unfold dhS
  rw[rev_drop xb hb,rev_drop xa (Nat.zero_le _)]
  simp
 rw[el]
 refine⟨rise_rev p1,((List.reverse_perm _).trans p2).trans ?_⟩
 refine List.perm_append_comm.trans ?_
 exact List.Perm.append (List.reverse_perm _) (List.reverse_perm _)
theorem HI.first (sa:xa.toList.Pairwise (leB ltb)) (sb:xb.toList.Pairwise (leB ltb)) (m:HI ltb xa xb ou na nb) (ha:na≤xa.size) (hb:nb≤xb.size) (h:∀x∈xa.toList,∀y∈xb.toList.take nb,leB ltb y x) :
  (fhS xa xb ou na nb).toList.Pairwise (leB ltb)∧(fhS xa xb ou na nb).toList.Perm (xa.toList++xb.toList):=by
 obtain⟨p1,p2⟩:=MI.last (rev_rise sb) (rev_rise sa) m (fun x hx y hy=>by
  rw[rev_drop xb hb,List.mem_reverse]at hy
  exact h x (List.mem_reverse.mp hx) y hy)
 have el:(fhS xa xb ou na nb).toList =(ou.toList++xa.toList.reverse.drop (xa.size-na)++xb.toList.reverse.drop (xb.size-nb)).reverse:=by
  unfold fhS
  rw[rev_drop xb hb,rev_drop xa ha]
  simp
 rw[el]
 refine⟨rise_rev p1,((List.reverse_perm _).trans p2).trans ?_⟩
 refine List.perm_append_comm.trans ?_
 exact List.Perm.append (List.reverse_perm _) (List.reverse_perm _)
end
end L2
namespace L2
open PySem PySem.Spec PyProof.Rows
section
variable {prog:Program}{w:World}{A:Around}{E:Value→Shared→Prop}{s:Shared}{ltb:Keyed→Keyed→Bool}{S:Keyed→Prop}{κ:SortKind}
local macro_rules | `(tactic| omega)=>`(tactic| omega (config:={}))
theorem wpS_mhi (O:OrdB ltb) (hO:LtOk prog w A E s ltb S κ) {xa xb:Array Keyed}{st:SortSt}{Q:Array Keyed→SortSt→Prop}(Sa:∀x∈xa.toList,S x) (Sb:∀x∈xb.toList,S x) (sa:xa.toList.Pairwise (leB ltb)) (sb:xb.toList.Pairwise (leB ltb))
  {z zl:Keyed}(hz:xb[0]? = some z) (hfst:∀y∈xa.toList,ltb z y=true) (hzl:xa[xa.size-1]? = some zl) (hlst:∀x∈xb.toList,ltb x zl=true) (hS:SS κ st st)
  (h:∀r st',r.toList.Pairwise (leB ltb)→r.toList.Perm (xa.toList++xb.toList)→SS κ st st'→Q r st'):wpS (model prog w) A E s (mhiS xa xb) Q st:=by
 have hb0:0<xb.size:=(Array.getElem?_eq_some_iff.mp hz).1
 have ha0:0<xa.size:=by have:=(Array.getElem?_eq_some_iff.mp hzl).1;omega
 have mdone:∀(ou:Array Keyed) (na nb:Nat) (st':SortSt),HI ltb xa xb ou na nb→na=0→nb≤xb.size→SS κ st st'→Q (dhS xa xb ou na nb) st':=fun ou na nb st' m e hb ss=>by
  subst e
  obtain⟨p1,p2⟩:=m.done sb hb
  exact h _ _ p1 p2 ss
 have mfirst:∀(ou:Array Keyed) (na nb:Nat) (st':SortSt),HI ltb xa xb ou na nb→nb=1→na≤xa.size→SS κ st st'→Q (fhS xa xb ou na nb) st':=fun ou na nb st' m e ha ss=>by
  subst e
  obtain⟨p1,p2⟩:=m.first sa sb ha (by omega) (fun x hx y hy=>by
   have e1:xb.toList.take 1=[z]:=by have:=one_at hz;simpa using this
   rw[e1]at hy
   simp at hy
   rw[hy]
   exact O.asym (hfst x hx))
  exact h _ _ p1 p2 ss
 have mi0:HI ltb xa xb #[zl] (xa.size-1) xb.size:=by
  unfold HI
  rw[Nat.sub_self,show xa.size-(xa.size-1)=1 by omega]
  refine MI.start (y0:=zl) (rev_rise sa) ?_ (fun y hy=>O.asym (hlst y (List.mem_reverse.mp hy)))
  have:=rev_get xa (n:=xa.size) (by omega) (Nat.le_refl _)
  rw[Nat.sub_self]at this
  rw[this];exact hzl
 have at1:∀{x:Array Keyed}{j:Nat},j<x.size→∃u,x[j]? = some u:=fun {x j} hj=>⟨_,Array.getElem?_eq_getElem hj⟩
 have push1:∀(ou:Array Keyed) {x:Array Keyed}{n:Nat}{v:Keyed},1≤n→n≤x.size→x[n-1]? = some v→(ou.push v).toList=ou.toList++((x.toList.take n).drop (n-1)).reverse:=fun ou x n v h1 h2 h3=>by
  rw[one_rev h1 h2 h3];simp
 have ext1:∀(ou x:Array Keyed) (t n:Nat),(ou++(x.extract t n).reverse).toList=ou.toList++((x.toList.take n).drop t).reverse:=fun ou x t n=>by
  rw[Array.toList_append,Array.toList_reverse,Array.toList_extract]
  show ou.toList++(List.take (n-t) (List.drop t x.toList)).reverse=_
  rw[List.drop_take]
 rw[mhiS_eq]
 refine wpS_bind (wpS_lift (wpAny_rule ⟨rfl,?_⟩))
 refine wpS_bind (wpS_elem hzl ?_)
 by_cases c1:xa.size-1=0
 ·rw[if_pos (by simpa using c1)]
  exact wpS_pure (mdone #[zl] _ _ st mi0 c1 (Nat.le_refl _) hS)
 rw[if_neg (by simpa using c1)]
 by_cases c2:xb.size=1
 ·rw[if_pos (by simpa using c2)]
  exact wpS_pure (mfirst #[zl] _ _ st mi0 c2 (by omega) hS)
 rw[if_neg (by simpa using c2)]
 refine wpS_bind (wpS_get ?_)
 refine wpS_bind (wpS_mono (wpS_forRange
  (I:=fun x c st'=>SS κ st st'∧∃qa qb ou mg,c =(none,qa,qb,ou,mg)∧HI ltb xa xb ou qa qb∧1≤qa∧qa≤xa.size∧2≤qb∧qb≤xb.size∧x+1+qa+qb≤xa.size+xb.size)
  (Q:=fun c st'=>∃r qa qb ou mg,c =(some r,qa,qb,ou,mg)∧Q r st') ?stp ?fin ⟨hS,_,_,#[zl],_,rfl,mi0,by omega,by omega,by omega,by omega,by omega⟩) ?post)
 case fin =>
  rintro c st' ⟨ss,qa,qb,ou,mg,rfl,m,b1,b2,b3,b4,b5⟩
  omega
 case post =>
  rintro c st' ⟨r,qa,qb,ou,mg,rfl,hq⟩
  exact wpS_pure hq
 case stp =>
  rintro x c st1 _ hx ⟨ss,qa0,qb0,ou,mg,rfl,m,b1,b2,b3,b4,b5⟩
  dsimp only
  refine wpS_bind (wpS_mono (wpS_forRange
   (I:=fun y c st'=>SS κ st st'∧∃qa qb ou ca cb,c =(none,qa,qb,ou,ca,cb)∧HI ltb xa xb ou qa qb∧1≤qa∧qa≤xa.size∧2≤qb∧qb≤xb.size∧y+qa+qb≤qa0+qb0)
   (Q:=fun c st'=>(∃r qa qb ou ca cb,c =(some r,qa,qb,ou,ca,cb)∧Q r st') ∨(SS κ st st'∧∃qa qb ou ca cb,c =(none,qa,qb,ou,ca,cb)∧HI ltb xa xb ou qa qb∧1≤qa∧qa≤xa.size∧2≤qb∧qb≤xb.size∧1+qa+qb≤qa0+qb0)) ?stp1 ?fin1 ⟨ss,_,_,ou,0,0,rfl,m,b1,b2,b3,b4,by omega⟩) ?post1)
  case fin1 =>
   rintro c st' ⟨ss,qa,qb,ou,ca,cb,rfl,m,d1,d2,d3,d4,d5⟩
   exact .inr ⟨ss,_,_,_,_,_,rfl,m,d1,d2,d3,d4,by omega⟩
  case stp1 =>
   rintro y c st2 _ hy ⟨ss,qa,qb,ou,ca,cb,rfl,m,d1,d2,d3,d4,d5⟩
   dsimp only
   obtain⟨vb,hvb⟩:=at1 (x:=xb) (j:=qb-1) (by omega)
   obtain⟨va,hva⟩:=at1 (x:=xa) (j:=qa-1) (by omega)
   refine wpS_bind (wpS_elem hvb (wpS_bind (wpS_elem hva (wpS_bind (hO vb va _ _ (Sb _ (arr_mem hvb)) (Sa _ (arr_mem hva)) ss.kind ?_)))))
   dsimp only
   cases hw:ltb vb va with
   | true =>
    simp only[if_true]
    have m2:HI ltb xa xb (ou.push va) (qa-1) qb:=m.chA O sa sb d2 (by omega) (by omega) d4 hvb (fun i h1 h2 u hu=>by
     obtain rfl:i=qa-1:=by omega
     rw[hva]at hu;cases hu;exact O.asym hw) (push1 ou d1 d2 hva)
    refine wpS_bind (wpS_elem hva ?_)
    by_cases e1:qa-1=0
    ·rw[if_pos (by simpa using e1)]
     exact wpS_pure (.inl ⟨_,_,_,_,_,_,rfl,mdone _ _ _ _ m2 e1 d4 ss⟩)
    ·rw[if_neg (by simpa using e1)]
     split
     ·exact wpS_pure (.inr ⟨ss,_,_,_,_,_,rfl,m2,by omega,by omega,d3,d4,by omega⟩)
     ·exact wpS_pure ⟨ss,_,_,_,_,_,rfl,m2,by omega,by omega,d3,d4,by omega⟩
   | false =>
    simp only[Bool.false_eq_true,if_false]
    have m2:HI ltb xa xb (ou.push vb) qa (qb-1):=m.chB O sa sb d4 (by omega) d1 d2 hva (fun i h1 h2 u hu=>by
     obtain rfl:i=qb-1:=by omega
     rw[hvb]at hu;cases hu;exact hw) (push1 ou (by omega) d4 hvb)
    refine wpS_bind (wpS_elem hvb ?_)
    by_cases e1:qb-1=1
    ·rw[if_pos (by simpa using e1)]
     exact wpS_pure (.inl ⟨_,_,_,_,_,_,rfl,mfirst _ _ _ _ m2 e1 d2 ss⟩)
    ·rw[if_neg (by simpa using e1)]
     split
     ·exact wpS_pure (.inr ⟨ss,_,_,_,_,_,rfl,m2,d1,d2,by omega,by omega,by omega⟩)
     ·exact wpS_pure ⟨ss,_,_,_,_,_,rfl,m2,d1,d2,by omega,by omega,by omega⟩
  case post1 =>
   rintro c st2 (⟨r,qa,qb,ou,ca,cb,rfl,hq⟩|⟨ss,qa1,qb1,ou,ca,cb,rfl,m,d1,d2,d3,d4,d5⟩)
   ·exact wpS_pure ⟨r,_,_,_,_,rfl,hq⟩
   dsimp only
   refine wpS_bind (wpS_lift (wpAny_rule ⟨rfl,?_⟩))
   refine wpS_bind (wpS_mono (wpS_forRange
    (I:=fun y c st'=>SS κ st st'∧∃qa qb ou mg ca cb,c =(none,qa,qb,ou,mg,ca,cb)∧HI ltb xa xb ou qa qb∧1≤qa∧qa≤xa.size∧2≤qb∧qb≤xb.size∧1+qa+qb≤qa0+qb0)
    (Q:=fun c st'=>(∃r qa qb ou mg ca cb,c =(some r,qa,qb,ou,mg,ca,cb)∧Q r st') ∨(SS κ st st'∧∃qa qb ou mg ca cb,c =(none,qa,qb,ou,mg,ca,cb)∧HI ltb xa xb ou qa qb∧1≤qa∧qa≤xa.size∧2≤qb∧qb≤xb.size∧1+qa+qb≤qa0+qb0)) ?stp2 ?fin2 ⟨ss,_,_,_,_,ca,cb,rfl,m,d1,d2,d3,d4,d5⟩) ?post2)
   case fin2 =>
    rintro c st' hh
    exact .inr hh
   case post2 =>
    rintro c st3 (⟨r,qa,qb,ou2,mg2,ca2,cb2,rfl,hq⟩|⟨ss,qa,qb,ou2,mg2,ca2,cb2,rfl,m,f1,f2,f3,f4,f5⟩)
    ·exact wpS_pure ⟨r,_,_,_,_,rfl,hq⟩
    ·dsimp only
     refine wpS_bind (wpS_modify ?_)
     exact wpS_pure ⟨ss.smg _,_,_,_,_,rfl,m,f1,f2,f3,f4,by omega⟩
   case stp2 =>
    rintro y c st3 _ hy ⟨ss,qa,qb,ou2,mg2,ca2,cb2,rfl,m,f1,f2,f3,f4,f5⟩
    dsimp only
    obtain⟨vb,hvb⟩:=at1 (x:=xb) (j:=qb-1) (by omega)
    have sxa:∀(q:Nat) i j u v,i<j→j<q→xa[0+i]? = some u→xa[0+j]? = some v→leB ltb u v:=fun q i j u v hij _ hu hv=>arr_le sa (by omega) hu hv
    have sxb:∀(q:Nat) i j u v,i<j→j<q→xb[0+i]? = some u→xb[0+j]? = some v→leB ltb u v:=fun q i j u v hij _ hu hv=>arr_le sb (by omega) hu hv
    by_cases hg:mg2 > 1
    ·rw[if_pos hg]
     refine wpS_bind (wpS_modify ?_)
     have ss2:=ss.smg (mg2-1)
     refine wpS_bind (wpS_elem hvb (wpS_bind (wpS_galR O hO ss2.kind (Sb _ (arr_mem hvb)) Sa (sxa qa) (by omega) (by omega) fun tt hk1 hk2 hk3=>?_)))
     dsimp only
     by_cases kp:qa-tt > 0
     ·rw[if_pos kp]
      have M3:=m.chA O sa sb f2 (t:=tt) (by omega) (by omega) f4 hvb (fun i h1 h2 u hu=>O.asym (hk3 i h1 h2 u (by rw[Nat.zero_add];exact hu))) (ext1 _ xa tt qa)
      by_cases e0:tt=0
      ·rw[if_pos (by simpa using e0)]
       exact wpS_pure (.inl ⟨_,_,_,_,_,_,_,rfl,mdone _ _ _ _ M3 e0 f4 ss2⟩)
      rw[if_neg (by simpa using e0)]
      have QA1:1≤tt:=by omega
      obtain⟨va,hva⟩:=at1 (x:=xa) (j:=tt-1) (by omega)
      have hle:leB ltb va vb:=hk2 (tt-1) (by omega) va (by rw[Nat.zero_add];exact hva)
      have m4:=M3.chB O sa sb f4 (t:=qb-1) (by omega) QA1 (by omega) hva (fun i h1 h2 u hu=>by
       obtain rfl:i=qb-1:=by omega
       rw[hvb]at hu;cases hu;exact hle) (push1 _ (by omega) f4 hvb)
      refine wpS_bind (wpS_elem hvb ?_)
      by_cases e1:qb-1=1
      ·rw[if_pos (by simpa using e1)]
       exact wpS_pure (.inl ⟨_,_,_,_,_,_,_,rfl,mfirst _ _ _ _ m4 e1 (by omega) ss2⟩)
      rw[if_neg (by simpa using e1)]
      refine wpS_bind (wpS_elem hva (wpS_bind (wpS_galL O hO ss2.kind (Sa _ (arr_mem hva)) Sb (sxb (qb-1)) (by omega) (by omega) fun t2 g1 g2 g3=>?_)))
      have ht2:0<t2:=by
       rcases Nat.eq_zero_or_pos t2 with q|q
       ·have:=g3 0 (by omega) (by omega) z (by rw[Nat.zero_add];exact hz)
        unfold leB at this
        rw[hfst va (arr_mem hva)]at this;cases this
       ·exact q
      dsimp only
      by_cases k2p:qb-1-t2 > 0
      ·rw[if_pos k2p]
       have m5:=m4.chB O sa sb (by omega) (t:=t2) (by omega) QA1 (by omega) hva (fun i h1 h2 u hu=>g3 i h1 (by omega) u (by rw[Nat.zero_add];exact hu)) (ext1 _ xb t2 (qb-1))
       by_cases e2:t2=1
       ·rw[if_pos (by simpa using e2)]
        exact wpS_pure (.inl ⟨_,_,_,_,_,_,_,rfl,mfirst _ _ _ _ m5 e2 (by omega) ss2⟩)
       rw[if_neg (by simpa using e2),if_neg (by simp;omega)]
       obtain⟨vb2,hvb2⟩:=at1 (x:=xb) (j:=t2-1) (by omega)
       have m6:=m5.chA O sa sb (by omega) (t:=tt-1) (by omega) (by omega) (by omega) hvb2 (fun i h1 h2 u hu=>by
        obtain rfl:i=tt-1:=by omega
        rw[hva]at hu;cases hu;exact O.asym (g2 (t2-1) (by omega) vb2 (by rw[Nat.zero_add];exact hvb2))) (push1 _ QA1 (by omega) hva)
       refine wpS_bind (wpS_elem hva ?_)
       by_cases e3:tt-1=0
       ·rw[if_pos (by simpa using e3)]
        exact wpS_pure (.inl ⟨_,_,_,_,_,_,_,rfl,mdone _ _ _ _ m6 e3 (by omega) ss2⟩)
       rw[if_neg (by simpa using e3)]
       split
       ·exact wpS_pure (.inr ⟨ss2,_,_,_,_,_,_,rfl,m6,by omega,by omega,by omega,by omega,by omega⟩)
       ·exact wpS_pure ⟨ss2,_,_,_,_,_,_,rfl,m6,by omega,by omega,by omega,by omega,by omega⟩
      ·rw[if_neg k2p]
       have et:t2=qb-1:=by omega
       obtain⟨vb2,hvb2⟩:=at1 (x:=xb) (j:=qb-1-1) (by omega)
       have m6:=m4.chA O sa sb (by omega) (t:=tt-1) (by omega) (by omega) (by omega) hvb2 (fun i h1 h2 u hu=>by
        obtain rfl:i=tt-1:=by omega
        rw[hva]at hu;cases hu;exact O.asym (g2 (qb-1-1) (by omega) vb2 (by rw[Nat.zero_add];exact hvb2))) (push1 _ QA1 (by omega) hva)
       refine wpS_bind (wpS_elem hva ?_)
       by_cases e3:tt-1=0
       ·rw[if_pos (by simpa using e3)]
        exact wpS_pure (.inl ⟨_,_,_,_,_,_,_,rfl,mdone _ _ _ _ m6 e3 (by omega) ss2⟩)
       rw[if_neg (by simpa using e3)]
       split
       ·exact wpS_pure (.inr ⟨ss2,_,_,_,_,_,_,rfl,m6,by omega,by omega,by omega,by omega,by omega⟩)
       ·exact wpS_pure ⟨ss2,_,_,_,_,_,_,rfl,m6,by omega,by omega,by omega,by omega,by omega⟩
     ·rw[if_neg kp]
      have et0:tt=qa:=by omega
      have M3:=m
      have QA1:1≤qa:=f1
      obtain⟨va,hva⟩:=at1 (x:=xa) (j:=qa-1) (by omega)
      have hle:leB ltb va vb:=hk2 (qa-1) (by omega) va (by rw[Nat.zero_add];exact hva)
      have m4:=M3.chB O sa sb f4 (t:=qb-1) (by omega) QA1 (by omega) hva (fun i h1 h2 u hu=>by
       obtain rfl:i=qb-1:=by omega
       rw[hvb]at hu;cases hu;exact hle) (push1 _ (by omega) f4 hvb)
      refine wpS_bind (wpS_elem hvb ?_)
      by_cases e1:qb-1=1
      ·rw[if_pos (by simpa using e1)]
       exact wpS_pure (.inl ⟨_,_,_,_,_,_,_,rfl,mfirst _ _ _ _ m4 e1 (by omega) ss2⟩)
      rw[if_neg (by simpa using e1)]
      refine wpS_bind (wpS_elem hva (wpS_bind (wpS_galL O hO ss2.kind (Sa _ (arr_mem hva)) Sb (sxb (qb-1)) (by omega) (by omega) fun t2 g1 g2 g3=>?_)))
      have ht2:0<t2:=by
       rcases Nat.eq_zero_or_pos t2 with q|q
       ·have:=g3 0 (by omega) (by omega) z (by rw[Nat.zero_add];exact hz)
        unfold leB at this
        rw[hfst va (arr_mem hva)]at this;cases this
       ·exact q
      dsimp only
      by_cases k2p:qb-1-t2 > 0
      ·rw[if_pos k2p]
       have m5:=m4.chB O sa sb (by omega) (t:=t2) (by omega) QA1 (by omega) hva (fun i h1 h2 u hu=>g3 i h1 (by omega) u (by rw[Nat.zero_add];exact hu)) (ext1 _ xb t2 (qb-1))
       by_cases e2:t2=1
       ·rw[if_pos (by simpa using e2)]
        exact wpS_pure (.inl ⟨_,_,_,_,_,_,_,rfl,mfirst _ _ _ _ m5 e2 (by omega) ss2⟩)
       rw[if_neg (by simpa using e2),if_neg (by simp;omega)]
       obtain⟨vb2,hvb2⟩:=at1 (x:=xb) (j:=t2-1) (by omega)
       have m6:=m5.chA O sa sb (by omega) (t:=qa-1) (by omega) (by omega) (by omega) hvb2 (fun i h1 h2 u hu=>by
        obtain rfl:i=qa-1:=by omega
        rw[hva]at hu;cases hu;exact O.asym (g2 (t2-1) (by omega) vb2 (by rw[Nat.zero_add];exact hvb2))) (push1 _ QA1 (by omega) hva)
       refine wpS_bind (wpS_elem hva ?_)
       by_cases e3:qa-1=0
       ·rw[if_pos (by simpa using e3)]
        exact wpS_pure (.inl ⟨_,_,_,_,_,_,_,rfl,mdone _ _ _ _ m6 e3 (by omega) ss2⟩)
       rw[if_neg (by simpa using e3)]
       split
       ·exact wpS_pure (.inr ⟨ss2,_,_,_,_,_,_,rfl,m6,by omega,by omega,by omega,by omega,by omega⟩)
       ·exact wpS_pure ⟨ss2,_,_,_,_,_,_,rfl,m6,by omega,by omega,by omega,by omega,by omega⟩
      ·rw[if_neg k2p]
       have et:t2=qb-1:=by omega
       obtain⟨vb2,hvb2⟩:=at1 (x:=xb) (j:=qb-1-1) (by omega)
       have m6:=m4.chA O sa sb (by omega) (t:=qa-1) (by omega) (by omega) (by omega) hvb2 (fun i h1 h2 u hu=>by
        obtain rfl:i=qa-1:=by omega
        rw[hva]at hu;cases hu;exact O.asym (g2 (qb-1-1) (by omega) vb2 (by rw[Nat.zero_add];exact hvb2))) (push1 _ QA1 (by omega) hva)
       refine wpS_bind (wpS_elem hva ?_)
       by_cases e3:qa-1=0
       ·rw[if_pos (by simpa using e3)]
        exact wpS_pure (.inl ⟨_,_,_,_,_,_,_,rfl,mdone _ _ _ _ m6 e3 (by omega) ss2⟩)
       rw[if_neg (by simpa using e3)]
       split
       ·exact wpS_pure (.inr ⟨ss2,_,_,_,_,_,_,rfl,m6,by omega,by omega,by omega,by omega,by omega⟩)
       ·exact wpS_pure ⟨ss2,_,_,_,_,_,_,rfl,m6,by omega,by omega,by omega,by omega,by omega⟩
    ·rw[if_neg hg]
     refine wpS_bind (wpS_modify ?_)
     have ss2:=ss.smg mg2
     refine wpS_bind (wpS_elem hvb (wpS_bind (wpS_galR O hO ss2.kind (Sb _ (arr_mem hvb)) Sa (sxa qa) (by omega) (by omega) fun tt hk1 hk2 hk3=>?_)))
     dsimp only
     by_cases kp:qa-tt > 0
     ·rw[if_pos kp]
      have M3:=m.chA O sa sb f2 (t:=tt) (by omega) (by omega) f4 hvb (fun i h1 h2 u hu=>O.asym (hk3 i h1 h2 u (by rw[Nat.zero_add];exact hu))) (ext1 _ xa tt qa)
      by_cases e0:tt=0
      ·rw[if_pos (by simpa using e0)]
       exact wpS_pure (.inl ⟨_,_,_,_,_,_,_,rfl,mdone _ _ _ _ M3 e0 f4 ss2⟩)
      rw[if_neg (by simpa using e0)]
      have QA1:1≤tt:=by omega
      obtain⟨va,hva⟩:=at1 (x:=xa) (j:=tt-1) (by omega)
      have hle:leB ltb va vb:=hk2 (tt-1) (by omega) va (by rw[Nat.zero_add];exact hva)
      have m4:=M3.chB O sa sb f4 (t:=qb-1) (by omega) QA1 (by omega) hva (fun i h1 h2 u hu=>by
       obtain rfl:i=qb-1:=by omega
       rw[hvb]at hu;cases hu;exact hle) (push1 _ (by omega) f4 hvb)
      refine wpS_bind (wpS_elem hvb ?_)
      by_cases e1:qb-1=1
      ·rw[if_pos (by simpa using e1)]
       exact wpS_pure (.inl ⟨_,_,_,_,_,_,_,rfl,mfirst _ _ _ _ m4 e1 (by omega) ss2⟩)
      rw[if_neg (by simpa using e1)]
      refine wpS_bind (wpS_elem hva (wpS_bind (wpS_galL O hO ss2.kind (Sa _ (arr_mem hva)) Sb (sxb (qb-1)) (by omega) (by omega) fun t2 g1 g2 g3=>?_)))
      have ht2:0<t2:=by
       rcases Nat.eq_zero_or_pos t2 with q|q
       ·have:=g3 0 (by omega) (by omega) z (by rw[Nat.zero_add];exact hz)
        unfold leB at this
        rw[hfst va (arr_mem hva)]at this;cases this
       ·exact q
      dsimp only
      by_cases k2p:qb-1-t2 > 0
      ·rw[if_pos k2p]
       have m5:=m4.chB O sa sb (by omega) (t:=t2) (by omega) QA1 (by omega) hva (fun i h1 h2 u hu=>g3 i h1 (by omega) u (by rw[Nat.zero_add];exact hu)) (ext1 _ xb t2 (qb-1))
       by_cases e2:t2=1
       ·rw[if_pos (by simpa using e2)]
        exact wpS_pure (.inl ⟨_,_,_,_,_,_,_,rfl,mfirst _ _ _ _ m5 e2 (by omega) ss2⟩)
       rw[if_neg (by simpa using e2),if_neg (by simp;omega)]
       obtain⟨vb2,hvb2⟩:=at1 (x:=xb) (j:=t2-1) (by omega)
       have m6:=m5.chA O sa sb (by omega) (t:=tt-1) (by omega) (by omega) (by omega) hvb2 (fun i h1 h2 u hu=>by
        obtain rfl:i=tt-1:=by omega
        rw[hva]at hu;cases hu;exact O.asym (g2 (t2-1) (by omega) vb2 (by rw[Nat.zero_add];exact hvb2))) (push1 _ QA1 (by omega) hva)
       refine wpS_bind (wpS_elem hva ?_)
       by_cases e3:tt-1=0
       ·rw[if_pos (by simpa using e3)]
        exact wpS_pure (.inl ⟨_,_,_,_,_,_,_,rfl,mdone _ _ _ _ m6 e3 (by omega) ss2⟩)
       rw[if_neg (by simpa using e3)]
       split
       ·exact wpS_pure (.inr ⟨ss2,_,_,_,_,_,_,rfl,m6,by omega,by omega,by omega,by omega,by omega⟩)
       ·exact wpS_pure ⟨ss2,_,_,_,_,_,_,rfl,m6,by omega,by omega,by omega,by omega,by omega⟩
      ·rw[if_neg k2p]
       have et:t2=qb-1:=by omega
       obtain⟨vb2,hvb2⟩:=at1 (x:=xb) (j:=qb-1-1) (by omega)
       have m6:=m4.chA O sa sb (by omega) (t:=tt-1) (by omega) (by omega) (by omega) hvb2 (fun i h1 h2 u hu=>by
        obtain rfl:i=tt-1:=by omega
        rw[hva]at hu;cases hu;exact O.asym (g2 (qb-1-1) (by omega) vb2 (by rw[Nat.zero_add];exact hvb2))) (push1 _ QA1 (by omega) hva)
       refine wpS_bind (wpS_elem hva ?_)
       by_cases e3:tt-1=0
       ·rw[if_pos (by simpa using e3)]
        exact wpS_pure (.inl ⟨_,_,_,_,_,_,_,rfl,mdone _ _ _ _ m6 e3 (by omega) ss2⟩)
       rw[if_neg (by simpa using e3)]
       split
       ·exact wpS_pure (.inr ⟨ss2,_,_,_,_,_,_,rfl,m6,by omega,by omega,by omega,by omega,by omega⟩)
       ·exact wpS_pure ⟨ss2,_,_,_,_,_,_,rfl,m6,by omega,by omega,by omega,by omega,by omega⟩
     ·rw[if_neg kp]
      have et0:tt=qa:=by omega
      have M3:=m
      have QA1:1≤qa:=f1
      obtain⟨va,hva⟩:=at1 (x:=xa) (j:=qa-1) (by omega)
      have hle:leB ltb va vb:=hk2 (qa-1) (by omega) va (by rw[Nat.zero_add];exact hva)
      have m4:=M3.chB O sa sb f4 (t:=qb-1) (by omega) QA1 (by omega) hva (fun i h1 h2 u hu=>by
       obtain rfl:i=qb-1:=by omega
       rw[hvb]at hu;cases hu;exact hle) (push1 _ (by omega) f4 hvb)
      refine wpS_bind (wpS_elem hvb ?_)
      by_cases e1:qb-1=1
      ·rw[if_pos (by simpa using e1)]
       exact wpS_pure (.inl ⟨_,_,_,_,_,_,_,rfl,mfirst _ _ _ _ m4 e1 (by omega) ss2⟩)
      rw[if_neg (by simpa using e1)]
      refine wpS_bind (wpS_elem hva (wpS_bind (wpS_galL O hO ss2.kind (Sa _ (arr_mem hva)) Sb (sxb (qb-1)) (by omega) (by omega) fun t2 g1 g2 g3=>?_)))
      have ht2:0<t2:=by
       rcases Nat.eq_zero_or_pos t2 with q|q
       ·have:=g3 0 (by omega) (by omega) z (by rw[Nat.zero_add];exact hz)
        unfold leB at this
        rw[hfst va (arr_mem hva)]at this;cases this
       ·exact q
      dsimp only
      by_cases k2p:qb-1-t2 > 0
      ·rw[if_pos k2p]
       have m5:=m4.chB O sa sb (by omega) (t:=t2) (by omega) QA1 (by omega) hva (fun i h1 h2 u hu=>g3 i h1 (by omega) u (by rw[Nat.zero_add];exact hu)) (ext1 _ xb t2 (qb-1))
       by_cases e2:t2=1
       ·rw[if_pos (by simpa using e2)]
        exact wpS_pure (.inl ⟨_,_,_,_,_,_,_,rfl,mfirst _ _ _ _ m5 e2 (by omega) ss2⟩)
       rw[if_neg (by simpa using e2),if_neg (by simp;omega)]
       obtain⟨vb2,hvb2⟩:=at1 (x:=xb) (j:=t2-1) (by omega)
       have m6:=m5.chA O sa sb (by omega) (t:=qa-1) (by omega) (by omega) (by omega) hvb2 (fun i h1 h2 u hu=>by
        obtain rfl:i=qa-1:=by omega
        rw[hva]at hu;cases hu;exact O.asym (g2 (t2-1) (by omega) vb2 (by rw[Nat.zero_add];exact hvb2))) (push1 _ QA1 (by omega) hva)
       refine wpS_bind (wpS_elem hva ?_)
       by_cases e3:qa-1=0
       ·rw[if_pos (by simpa using e3)]
        exact wpS_pure (.inl ⟨_,_,_,_,_,_,_,rfl,mdone _ _ _ _ m6 e3 (by omega) ss2⟩)
       rw[if_neg (by simpa using e3)]
       split
       ·exact wpS_pure (.inr ⟨ss2,_,_,_,_,_,_,rfl,m6,by omega,by omega,by omega,by omega,by omega⟩)
       ·exact wpS_pure ⟨ss2,_,_,_,_,_,_,rfl,m6,by omega,by omega,by omega,by omega,by omega⟩
      ·rw[if_neg k2p]
       have et:t2=qb-1:=by omega
       obtain⟨vb2,hvb2⟩:=at1 (x:=xb) (j:=qb-1-1) (by omega)
       have m6:=m4.chA O sa sb (by omega) (t:=qa-1) (by omega) (by omega) (by omega) hvb2 (fun i h1 h2 u hu=>by
        obtain rfl:i=qa-1:=by omega
        rw[hva]at hu;cases hu;exact O.asym (g2 (qb-1-1) (by omega) vb2 (by rw[Nat.zero_add];exact hvb2))) (push1 _ QA1 (by omega) hva)
       refine wpS_bind (wpS_elem hva ?_)
       by_cases e3:qa-1=0
       ·rw[if_pos (by simpa using e3)]
        exact wpS_pure (.inl ⟨_,_,_,_,_,_,_,rfl,mdone _ _ _ _ m6 e3 (by omega) ss2⟩)
       rw[if_neg (by simpa using e3)]
       split
       ·exact wpS_pure (.inr ⟨ss2,_,_,_,_,_,_,rfl,m6,by omega,by omega,by omega,by omega,by omega⟩)
       ·exact wpS_pure ⟨ss2,_,_,_,_,_,_,rfl,m6,by omega,by omega,by omega,by omega,by omega⟩
end
end L2
namespace L2
open PySem PySem.Spec PyProof.Rows
def layS (M:Array Keyed) (o:Nat) (ar:Array Keyed):Array Keyed:=M.toList.zipIdx.foldl (fun z q=>z.setIfInBounds (o+q.2) q.1) ar
theorem lay_list:∀(M:List Keyed) (n o:Nat) (ar:Array Keyed),o+n+M.length≤ar.size→((M.zipIdx n).foldl (fun z q=>z.setIfInBounds (o+q.2) q.1) ar).toList=ar.toList.take (o+n)++M++ar.toList.drop (o+n+M.length)
 | [],n,o,ar,h=>by simp
 | p::M,n,o,ar,h=>by
  rw[List.length_cons]at h
  have hs:(ar.setIfInBounds (o+n) p).size=ar.size:=by simp
  have ih:=lay_list M (n+1) o (ar.setIfInBounds (o+n) p) (by rw[hs];omega)
  rw[List.zipIdx_cons,List.foldl_cons,ih,Array.toList_setIfInBounds]
  have hl:o+n<ar.toList.length:=by rw[Array.length_toList];omega
  rw[show o+(n+1)=o+n+1 by omega,List.take_succ_eq_append_getElem (by rw[List.length_set];exact hl),List.getElem_set_self,List.take_set_of_le (by omega),List.drop_set_of_lt (by omega),List.length_cons]
  rw[show o+n+1+M.length=o+n+(M.length+1) by omega]
  simp
theorem lay_eq (M ar:Array Keyed) (o:Nat) (h:o+M.size≤ar.size):(layS M o ar).toList=ar.toList.take o++M.toList++ar.toList.drop (o+M.size):=by
 have:=lay_list M.toList 0 o ar (by rw[Array.length_toList];omega)
 rw[Nat.add_zero,Array.length_toList]at this
 exact this
theorem mergeAt_eq (ii:Nat):mergeAt' ii =(do
 let z ← get
 let (some (ba,ka,pw),some (bb,kb,_)):=((pendingOf z)[ii]?,(pendingOf z)[ii+1]?)|unsupported "internal:list.sort.pending"
 set (setPending z (((pendingOf z).setIfInBounds ii (ba,ka+kb,pw)).eraseIdxIfInBounds (ii+1)))
 let some kk ← galS false (← elem' (arrOf z) bb) (arrOf z) ba ka 0|return false
 let (ba,ka):=(ba+kk,ka-kk)
 if ka == 0 then return true
 let some kb ← galS true (← elem' (arrOf z) (ba+ka-1)) (arrOf z) bb kb (kb-1)|return false
 if kb == 0 then return true
 let mm ← if ka≤kb then mloS ((arrOf z).extract ba bb) ((arrOf z).extract bb (bb+kb)) else mhiS ((arrOf z).extract ba bb) ((arrOf z).extract bb (bb+kb))
 modify fun z=>setArr z (layS mm ba (arrOf z))
 return (failedOf (← get)).isNone):=rfl
theorem app4 {α:Type}(a b c d:List α):a++(b++c)++d =(a++b)++(c++d):=by simp
section
variable {prog:Program}{w:World}{A:Around}{E:Value→Shared→Prop}{s:Shared}{ltb:Keyed→Keyed→Bool}{S:Keyed→Prop}{κ:SortKind}
theorem at_seg {ar:Array Keyed}{P R T:List Keyed}(h:ar.toList=P++R++T) (i:Nat) (hi:i<R.length):ar[P.length+i]? = R[i]?:=by
 have:ar.toList[P.length+i]? = R[i]?:=by
  rw[h,List.append_assoc,List.getElem?_append_right (by omega),Nat.add_sub_cancel_left,List.getElem?_append_left hi]
 simpa using this
theorem wpS_set {α:Type}{st st2:α}{Q:PUnit→α→Prop}(q:Q ⟨⟩ st2):wpS (model prog w) A E s (set st2:StateT α Sem PUnit) Q st:=by
 unfold wpS
 show wpAny _ _ ((StateT.set st2:StateT α Sem PUnit).run st) _ _ _
 exact wpAny_pure ⟨rfl,q⟩
theorem wpS_mergeAt (O:OrdB ltb) (hO:LtOk prog w A E s ltb S κ) {st:SortSt}{Q:Bool→SortSt→Prop}{ii ba ka bb kb pw pv:Nat}{P R1 R2 T:List Keyed}(hk:kindOf st=κ) (hf:failedOf st=none)
  (hp1:(pendingOf st)[ii]? = some (ba,ka,pw)) (hp2:(pendingOf st)[ii+1]? = some (bb,kb,pv)) (harr:(arrOf st).toList=P++R1++R2++T) (eba:ba=P.length) (eka:ka=R1.length) (ebb:bb=P.length+R1.length) (ekb:kb=R2.length)
  (h1:R1 ≠ []) (h2:R2 ≠ []) (s1:R1.Pairwise (leB ltb)) (s2:R2.Pairwise (leB ltb)) (hSa:∀x∈(arrOf st).toList,S x)
  (h:∀(st':SortSt) (R:List Keyed),R.Pairwise (leB ltb)→R.Perm (R1++R2)→(arrOf st').toList=P++R++T→kindOf st'=κ→failedOf st'=none→pendingOf st' =((pendingOf st).setIfInBounds ii (ba,ka+kb,pw)).eraseIdxIfInBounds (ii+1)→Q true st') :
  wpS (model prog w) A E s (mergeAt' ii) Q st:=by
 have l1:0<R1.length:=List.length_pos_iff.mpr h1
 have l2:0<R2.length:=List.length_pos_iff.mpr h2
 have hA1:(arrOf st).toList=P++R1++(R2++T):=by rw[harr];simp
 have hA2:(arrOf st).toList =(P++R1)++R2++T:=by rw[harr]
 have hsz:(arrOf st).size=P.length+R1.length+R2.length+T.length:=by
  have:=congrArg List.length harr
  rw[Array.length_toList]at this
  simp at this;omega
 have g1:∀i,i<R1.length→(arrOf st)[ba+i]? = R1[i]?:=fun i hi=>by rw[eba];exact at_seg hA1 i hi
 have g2:∀i,i<R2.length→(arrOf st)[bb+i]? = R2[i]?:=fun i hi=>by
  have:=at_seg hA2 i hi
  rw[List.length_append]at this
  rw[ebb];exact this
 obtain⟨b0,hb0⟩ : ∃b,R2[0]? = some b:=⟨_,List.getElem?_eq_getElem l2⟩
 have hb0':(arrOf st)[bb]? = some b0:=by have:=g2 0 l2;rw[Nat.add_zero]at this;rw[this];exact hb0
 have b0le:∀y∈R2,leB ltb b0 y∨y=b0:=fun y hy=>by
  obtain⟨i,hi,e⟩:=List.getElem_of_mem hy
  by_cases h0:i=0
  ·subst h0;rw[List.getElem?_eq_getElem l2]at hb0;right;rw[← e];exact Option.some.inj hb0
  ·left;exact rise_le s2 (i:=0) (j:=i) (by omega) hb0 (by rw[List.getElem?_eq_getElem hi,e])
 rw[mergeAt_eq]
 refine wpS_bind (wpS_get ?_)
 rw[hp1,hp2]
 dsimp only
 refine wpS_bind (wpS_set ?_)
 refine wpS_bind (wpS_elem hb0' (wpS_bind (wpS_galR O hO (st:=setPending st _) hk (hSa _ (arr_mem hb0')) hSa (fun i j u v hij hj hu hv=>?_) (by omega) (by omega) fun k k1 k2 k3=>?_)))
 ·rw[g1 i (by omega)]at hu
  rw[g1 j (by omega)]at hv
  exact rise_le s1 hij hu hv
 dsimp only
 have k2':∀i,i<k→∀u,R1[i]? = some u→leB ltb u b0:=fun i hi u hu=>k2 i hi u (by rw[g1 i (by omega)];exact hu)
 by_cases c1:ka-k=0
 ·rw[if_pos (by simpa using c1)]
  refine wpS_pure (h (setPending st _) (R1++R2) ?_ (List.Perm.refl _) (by show(arrOf st).toList=_;rw[harr];simp) hk hf rfl)
  rw[List.pairwise_append]
  refine⟨s1,s2,fun x hx y hy=>?_⟩
  obtain⟨i,hi,e⟩:=List.getElem_of_mem hx
  have hxb:=k2' i (by omega) x (by rw[List.getElem?_eq_getElem hi,e])
  rcases b0le y hy with q|q
  ·exact O.tr hxb q
  ·rw[q];exact hxb
 rw[if_neg (by simpa using c1)]
 have hk:kindOf st=κ:=hk
 obtain⟨al,hal⟩ : ∃a,R1[ka-1]? = some a:=⟨_,List.getElem?_eq_getElem (by omega)⟩
 have hal':(arrOf st)[ba+k+(ka-k)-1]? = some al:=by
  rw[show ba+k+(ka-k)-1=ba+(ka-1) by omega,g1 (ka-1) (by omega)];exact hal
 have alge:∀x∈R1,leB ltb x al∨x=al:=fun x hx=>by
  obtain⟨i,hi,e⟩:=List.getElem_of_mem hx
  by_cases h0:i=ka-1
  ·subst h0;rw[List.getElem?_eq_getElem hi]at hal;right;rw[← e];exact Option.some.inj hal
  ·left;exact rise_le s1 (i:=i) (j:=ka-1) (by omega) (by rw[List.getElem?_eq_getElem hi,e]) hal
 refine wpS_bind (wpS_elem hal' (wpS_bind (wpS_galL O hO (st:=setPending st _) hk (hSa _ (arr_mem hal')) hSa (fun i j u v hij hj hu hv=>?_) (by omega) (by omega) fun n n1 n2 n3=>?_)))
 ·rw[g2 i (by omega)]at hu
  rw[g2 j (by omega)]at hv
  exact rise_le s2 hij hu hv
 dsimp only
 have n3':∀y∈R2.drop n,leB ltb al y:=fun y hy=>by
  obtain⟨i,hi,e⟩:=List.getElem_of_mem hy
  rw[List.length_drop]at hi
  rw[List.getElem_drop]at e
  exact n3 (n+i) (by omega) (by omega) y (by rw[g2 (n+i) (by omega),List.getElem?_eq_getElem (by omega),e])
 by_cases c2:n=0
 ·rw[if_pos (by simpa using c2)]
  refine wpS_pure (h (setPending st _) (R1++R2) ?_ (List.Perm.refl _) (by show(arrOf st).toList=_;rw[harr];simp) hk hf rfl)
  rw[List.pairwise_append]
  refine⟨s1,s2,fun x hx y hy=>?_⟩
  have hy2:=n3' y (by rw[c2];exact hy)
  rcases alge x hx with q|q
  ·exact O.tr q hy2
  ·rw[q];exact hy2
 rw[if_neg (by simpa using c2)]
 have exA:((arrOf st).extract (ba+k) bb).toList=R1.drop k:=by
  rw[show bb=ba+k+(ka-k) by omega,ext_part,hA1]
  rw[show ba+k=P.length+k by omega,List.append_assoc,← List.drop_drop,List.drop_left,List.drop_append_of_le_length (by omega),List.take_append_of_le_length (by rw[List.length_drop];omega),List.take_of_length_le (by rw[List.length_drop];omega)]
 have exB:((arrOf st).extract bb (bb+n)).toList=R2.take n:=by
  rw[ext_part,hA2,show bb =(P++R1).length by rw[List.length_append];omega,List.append_assoc,List.drop_left,List.take_append_of_le_length (by omega)]
 have szA:((arrOf st).extract (ba+k) bb).size=ka-k:=by
  have:=congrArg List.length exA
  rw[Array.length_toList,List.length_drop]at this;omega
 have szB:((arrOf st).extract bb (bb+n)).size=n:=by
  have:=congrArg List.length exB
  rw[Array.length_toList,List.length_take]at this;omega
 have hSA:∀x∈((arrOf st).extract (ba+k) bb).toList,S x:=fun x hx=>by
  rw[exA]at hx
  exact hSa x (by rw[hA1];exact List.mem_append_left _ (List.mem_append_right _ (List.mem_of_mem_drop hx)))
 have hSB:∀x∈((arrOf st).extract bb (bb+n)).toList,S x:=fun x hx=>by
  rw[exB]at hx
  exact hSa x (by rw[hA2];exact List.mem_append_left _ (List.mem_append_right _ (List.mem_of_mem_take hx)))
 have rA:((arrOf st).extract (ba+k) bb).toList.Pairwise (leB ltb):=by rw[exA];exact s1.drop
 have rB:((arrOf st).extract bb (bb+n)).toList.Pairwise (leB ltb):=by rw[exB];exact s2.take
 have zB:((arrOf st).extract bb (bb+n))[0]? = some b0:=by
  have e:((arrOf st).extract bb (bb+n)).toList[0]? = some b0:=by rw[exB,List.getElem?_take,if_pos (by omega)];exact hb0
  rw[← Array.getElem?_toList];exact e
 have zA:((arrOf st).extract (ba+k) bb)[((arrOf st).extract (ba+k) bb).size-1]? = some al:=by
  have e:((arrOf st).extract (ba+k) bb).toList[((arrOf st).extract (ba+k) bb).size-1]? = some al:=by
   rw[exA,szA,List.getElem?_drop,show k+(ka-k-1)=ka-1 by omega];exact hal
  rw[← Array.getElem?_toList];exact e
 have fst:∀y∈((arrOf st).extract (ba+k) bb).toList,ltb b0 y=true:=fun y hy=>by
  rw[exA]at hy
  obtain⟨i,hi,e⟩:=List.getElem_of_mem hy
  rw[List.length_drop]at hi
  rw[List.getElem_drop]at e
  exact k3 (k+i) (by omega) (by omega) y (by rw[g1 (k+i) (by omega),List.getElem?_eq_getElem (by omega),e])
 have lst:∀x∈((arrOf st).extract bb (bb+n)).toList,ltb x al=true:=fun x hx=>by
  rw[exB]at hx
  obtain⟨i,hi,e⟩:=List.getElem_of_mem hx
  rw[List.length_take]at hi
  rw[List.getElem_take]at e
  exact n2 i (by omega) x (by rw[g2 i (by omega),List.getElem?_eq_getElem (by omega),e])
 have fin:∀(r:Array Keyed) (st':SortSt),r.toList.Pairwise (leB ltb)→r.toList.Perm (((arrOf st).extract (ba+k) bb).toList++((arrOf st).extract bb (bb+n)).toList)→SS κ (setPending st (((pendingOf st).setIfInBounds ii (ba,ka+kb,pw)).eraseIdxIfInBounds (ii+1))) st' →
   Q true (setArr st' (layS r (ba+k) (arrOf st'))):=fun r st' rs rp ss=>by
  rw[exA,exB]at rp
  have rsz:r.size=ka-k+n:=by
   have:=rp.length_eq
   rw[Array.length_toList,List.length_append,List.length_drop,List.length_take]at this;omega
  have earr:arrOf st'=arrOf st:=ss.arr
  refine h _ (R1.take k++r.toList++R2.drop n) ?_ ?_ ?_ ss.kind ss.fail ss.pend
  ·have m1:∀x∈R1.take k,leB ltb x b0:=fun x hx=>by
    obtain⟨i,hi,e⟩:=List.getElem_of_mem hx
    rw[List.length_take]at hi
    rw[List.getElem_take]at e
    exact k2' i (by omega) x (by rw[List.getElem?_eq_getElem (by omega),e])
   have m2:∀x∈R1.take k,∀y∈R2,leB ltb x y:=fun x hx y hy=>by
    rcases b0le y hy with q|q
    ·exact O.tr (m1 x hx) q
    ·rw[q];exact m1 x hx
   have m3:∀x∈R1,∀y∈R2.drop n,leB ltb x y:=fun x hx y hy=>by
    rcases alge x hx with q|q
    ·exact O.tr q (n3' y hy)
    ·rw[q];exact n3' y hy
   have d1:=(rise_parts s1 0 k).2
   rw[List.drop_zero,Nat.zero_add]at d1
   have d2:=(rise_parts s2 0 n).2
   rw[List.drop_zero,Nat.zero_add]at d2
   rw[List.pairwise_append,List.pairwise_append]
   refine⟨⟨s1.take,rs,fun x hx y hy=>?_⟩,s2.drop,fun x hx y hy=>?_⟩
   ·rcases List.mem_append.mp (rp.mem_iff.mp hy) with q|q
    ·exact d1 x hx y q
    ·exact m2 x hx y (List.mem_of_mem_take q)
   ·rcases List.mem_append.mp hx with q|q
    ·exact m3 x (List.mem_of_mem_take q) y hy
    ·rcases List.mem_append.mp (rp.mem_iff.mp q) with q|q
     ·exact m3 x (List.mem_of_mem_drop q) y hy
     ·exact d2 x q y hy
  ·have e1:=List.take_append_drop k R1
   have e2:=List.take_append_drop n R2
   have:(R1.take k++r.toList++R2.drop n).Perm (R1.take k++(R1.drop k++R2.take n)++R2.drop n):=List.Perm.append_right _ (List.Perm.append_left _ rp)
   refine this.trans (List.Perm.of_eq ?_)
   rw[app4,e1,e2]
  ·show(layS r (ba+k) (arrOf st')).toList=_
   rw[earr,lay_eq r _ _ (by rw[rsz];omega),rsz,show ba+k+(ka-k+n)=bb+n by omega]
   have t1:(arrOf st).toList.take (ba+k)=P++R1.take k:=by
    rw[hA1,eba,List.append_assoc,List.take_length_add_append,List.take_append_of_le_length (by omega)]
   have t2:(arrOf st).toList.drop (bb+n)=R2.drop n++T:=by
    rw[hA2,show bb =(P++R1).length by rw[List.length_append];omega,List.append_assoc,← List.drop_drop,List.drop_left,List.drop_append_of_le_length (by omega)]
   rw[t1,t2];simp
 have hSS:SS κ (setPending st (((pendingOf st).setIfInBounds ii (ba,ka+kb,pw)).eraseIdxIfInBounds (ii+1))) (setPending st (((pendingOf st).setIfInBounds ii (ba,ka+kb,pw)).eraseIdxIfInBounds (ii+1))):=⟨hk,hf,rfl,rfl⟩
 have after:∀(r:Array Keyed) (st':SortSt),Q true (setArr st' (layS r (ba+k) (arrOf st')))→failedOf st'=none→wpS (model prog w) A E s (do
   modify fun z=>setArr z (layS r (ba+k) (arrOf z))
   return (failedOf (← get)).isNone) Q st':=fun r st' q hfl=>by
  refine wpS_bind (wpS_modify ?_)
  refine wpS_bind (wpS_get ?_)
  refine wpS_pure ?_
  have:(failedOf (setArr st' (layS r (ba+k) (arrOf st')))).isNone=true:=by
   show(failedOf st').isNone=true
   rw[hfl];rfl
  rw[this];exact q
 by_cases c3:ka-k≤n
 ·rw[if_pos c3]
  refine wpS_bind (wpS_mlo O hO hSA hSB rA rB zB (fun y hy=>O.asym (fst y hy)) (by rw[szA];omega) (fun x hx y hy=>by rw[zA]at hy;cases hy;exact lst x hx) hSS fun r st' q1 q2 q3=>?_)
  exact after r st' (fin r st' q1 q2 q3) q3.fail
 ·rw[if_neg c3]
  refine wpS_bind (wpS_mhi O hO hSA hSB rA rB zB fst zA lst hSS fun r st' q1 q2 q3=>?_)
  exact after r st' (fin r st' q1 q2 q3) q3.fail
end
end L2
namespace L2
open PySem PySem.Spec PyProof.Rows
def insB (R:List Keyed) (k l:Nat):List Keyed:=R.take l++((R.drop k).take 1++((R.take k).drop l++R.drop (k+1)))
theorem insB_perm (R:List Keyed) {k l:Nat}(h:l≤k):(insB R k l).Perm R:=by
 unfold insB
 have e1:R.take k=R.take l++(R.take k).drop l:=by
  conv=>lhs;rw[← List.take_append_drop l (R.take k)]
  rw[List.take_take,Nat.min_eq_left h]
 have e2:R=R.take k++((R.drop k).take 1++R.drop (k+1)):=by
  conv=>lhs;rw[← List.take_append_drop k R,drop_take_split R k 1]
 conv=>rhs;rw[e2]
 rw[e1,List.append_assoc]
 refine List.Perm.append_left _ ?_
 have e3:List.drop l (R.take l++(R.take k).drop l) =(R.take k).drop l:=by rw[← e1]
 rw[e3]
 rw[← List.append_assoc,← List.append_assoc]
 exact List.Perm.append_right _ List.perm_append_comm
theorem insB_get (R:List Keyed) {k l:Nat}(hk:k<R.length) (hl:l≤k) (p:Nat):(insB R k l)[p]? = if p=l then R[k]? else if l<p∧p≤k then R[p-1]? else R[p]?:=by
 unfold insB
 have len1:(R.take l).length=l:=by rw[List.length_take];omega
 have len2:((R.drop k).take 1).length=1:=by rw[List.length_take,List.length_drop];omega
 have len3:((R.take k).drop l).length=k-l:=by rw[List.length_drop,List.length_take];omega
 by_cases c1:p<l
 ·rw[List.getElem?_append_left (by omega),if_neg (by omega),if_neg (by omega),List.getElem?_take,if_pos c1]
 rw[List.getElem?_append_right (by omega),len1]
 by_cases c2:p=l
 ·rw[if_pos c2,List.getElem?_append_left (by omega),List.getElem?_take,if_pos (by omega),List.getElem?_drop]
  congr 1;omega
 rw[if_neg c2,List.getElem?_append_right (by omega),len2]
 by_cases c3:p≤k
 ·rw[if_pos ⟨by omega,c3⟩,List.getElem?_append_left (by omega),List.getElem?_drop,List.getElem?_take,if_pos (by omega)]
  congr 1;omega
 ·rw[if_neg (by omega),List.getElem?_append_right (by omega),len3,List.getElem?_drop]
  congr 1;omega
theorem bubble_list {ar:Array Keyed}{P R T:List Keyed}(h:ar.toList=P++R++T) {k l:Nat}(hk:k<R.length) (hl:l≤k):(bubble ar (P.length+k) (k-l)).toList=P++insB R k l++T:=by
 have hsz:ar.size=P.length+R.length+T.length:=by
  have:=congrArg List.length h
  rw[Array.length_toList]at this
  simp at this;omega
 have hil:(insB R k l).length=R.length:=(insB_perm R hl).length_eq
 apply List.ext_getElem?
 intro p
 rw[Array.getElem?_toList,getElem?_bubble (by omega) _ (by omega) p,show P.length+k-(k-l)=P.length+l by omega]
 have get:∀q,ar[q]? =(P++R++T)[q]?:=fun q=>by rw[← h,Array.getElem?_toList]
 by_cases c1:p<P.length
 ·rw[if_neg (by omega),if_neg (by omega),get,List.append_assoc,List.append_assoc,List.getElem?_append_left c1,List.getElem?_append_left c1]
 ·by_cases c2:p<P.length+R.length
  ·have eR:(P++insB R k l++T)[p]? =(insB R k l)[p-P.length]?:=by
    rw[List.append_assoc,List.getElem?_append_right (by omega),List.getElem?_append_left (by omega)]
   have eg:∀q,P.length≤q→q<P.length+R.length→ar[q]? = R[q-P.length]?:=fun q h1 h2=>by
    rw[get,List.append_assoc,List.getElem?_append_right h1,List.getElem?_append_left (by omega)]
   rw[eR,insB_get R hk hl]
   by_cases c3:p=P.length+l
   ·rw[if_pos c3,if_pos (show p-P.length=l by omega),eg _ (by omega) (by omega)];congr 1;omega
   ·rw[if_neg c3,if_neg (show ¬ p-P.length=l by omega)]
    by_cases c4:P.length+l<p∧p≤P.length+k
    ·rw[if_pos c4,if_pos (show l<p-P.length∧p-P.length≤k by omega),eg _ (by omega) (by omega)];congr 1;omega
    ·rw[if_neg c4,if_neg (show ¬(l<p-P.length∧p-P.length≤k) by omega),eg _ (by omega) (by omega)]
  ·rw[if_neg (by omega),if_neg (by omega),get,List.append_assoc,List.append_assoc,List.getElem?_append_right (by omega),List.getElem?_append_right (by omega),List.getElem?_append_right (by omega),List.getElem?_append_right (by omega),hil]
section
variable {prog:Program}{w:World}{A:Around}{E:Value→Shared→Prop}{s:Shared}{ltb:Keyed→Keyed→Bool}{S:Keyed→Prop}{κ:SortKind}
theorem wpS_ltAtB (hO:LtOk prog w A E s ltb S κ) {st:SortSt}{i j:Nat}{x y:Keyed}{Q:Option Bool→SortSt→Prop}(hk:kindOf st=κ) (hi:(arrOf st)[i]? = some x) (hj:(arrOf st)[j]? = some y) (Sx:S x) (Sy:S y) (q:Q (some (ltb x y)) st):wpS (model prog w) A E s (ltAt' i j) Q st:=by
 rw[ltAt'_eq]
 refine wpS_bind (wpS_get ?_)
 exact wpS_bind (wpS_elem hi (wpS_bind (wpS_elem hj (hO x y st Q Sx Sy hk q))))
def RiseTo (ltb:Keyed→Keyed→Bool) (R:List Keyed) (k:Nat):Prop:=∀i j x y,i<j→j<k→R[i]? = some x→R[j]? = some y→leB ltb x y
theorem wpS_binB (O:OrdB ltb) (hO:LtOk prog w A E s ltb S κ) {st:SortSt}{Q:Bool→SortSt→Prop}{P R T:List Keyed}{ok:Nat}(hk:kindOf st=κ) (hf:failedOf st=none) (harr:(arrOf st).toList=P++R++T) (hok:ok≤R.length) (hr:RiseTo ltb R ok) (hSa:∀x∈R,S x)
  (h:∀(st':SortSt) (R':List Keyed),(arrOf st').toList=P++R'++T→R'.Perm R→RiseTo ltb R' R'.length→kindOf st'=κ→failedOf st'=none→pendingOf st'=pendingOf st→Q true st'):wpS (model prog w) A E s (binarySort' P.length R.length ok) Q st:=by
 rw[binarySort'_eq]
 refine wpS_bind (wpS_mono (wpS_forRange (I:=fun k c st'=>c =(none,())∧kindOf st'=κ∧failedOf st'=none∧pendingOf st'=pendingOf st∧∃R',(arrOf st').toList=P++R'++T∧R'.Perm R∧RiseTo ltb R' (min k R.length))
  (Q:=fun c st'=>c =(none,())∧kindOf st'=κ∧failedOf st'=none∧pendingOf st'=pendingOf st∧∃R',(arrOf st').toList=P++R'++T∧R'.Perm R∧RiseTo ltb R' R.length) ?step ?fin ⟨rfl,hk,hf,rfl,R,harr,List.Perm.refl _,?init⟩) ?post)
 case init =>
  intro i j x y hij hj hx hy
  exact hr i j x y hij (by omega) hx hy
 case fin =>
  rintro c st' ⟨hc,k1,k2,k3,R',a1,a2,a3⟩
  exact⟨hc,k1,k2,k3,R',a1,a2,fun i j x y hij hj=>a3 i j x y hij (by omega)⟩
 case post =>
  rintro c st' ⟨rfl,k1,k2,k3,R',a1,a2,a3⟩
  exact wpS_pure (h st' R' a1 a2 (by rw[a2.length_eq];exact a3) k1 k2 k3)
 case step =>
  rintro k c st' h1 hkn ⟨rfl,k1,k2,k3,R',a1,a2,a3⟩
  rw[show min k R.length=k by omega]at a3
  have hlen:=a2.length_eq
  have hS':∀x∈R',S x:=fun x hx=>hSa x (a2.mem_iff.mp hx)
  have gt:∀i,i<R'.length→(arrOf st')[P.length+i]? = R'[i]?:=fun i hi=>at_seg a1 i hi
  obtain⟨v,hv⟩ : ∃v,R'[k]? = some v:=⟨_,List.getElem?_eq_getElem (by omega)⟩
  have Sv:=hS' v (List.mem_of_getElem? hv)
  refine wpS_bind (wpS_mono (wpS_forRange (I:=fun x c st''=>st''=st'∧∃l r,c =(none,l,r)∧l≤r∧r≤k∧r-l≤k-x∧(∀i x,i<l→R'[i]? = some x→leB ltb x v)∧(∀i x,r≤i→i<k→R'[i]? = some x→ltb v x=true))
   (Q:=fun c st''=>st''=st'∧∃l r,c =(none,l,r)∧l≤k∧(∀i x,i<l→R'[i]? = some x→leB ltb x v)∧(∀i x,l≤i→i<k→R'[i]? = some x→ltb v x=true)) ?istep ?ifin ⟨rfl,0,k,rfl,by omega,by omega,by omega,fun i x hi=>by omega,fun i x h1 h2=>by omega⟩) ?ipost)
  case ifin =>
   rintro c st'' ⟨rfl,l,r,rfl,b1,b2,b3,b4,b5⟩
   have:l=r:=by omega
   subst this
   exact⟨rfl,l,l,rfl,b2,b4,b5⟩
  case istep =>
   rintro x c st'' _ hxk ⟨e,l,r,rfl,b1,b2,b3,b4,b5⟩
   rw[e]
   dsimp only
   by_cases hge:l ≥ r
   ·rw[if_pos hge]
    have:l=r:=by omega
    subst this
    exact wpS_pure ⟨rfl,l,l,rfl,b2,b4,b5⟩
   ·rw[if_neg hge]
    obtain⟨u,hu⟩ : ∃u,R'[(l+r) / 2]? = some u:=⟨_,List.getElem?_eq_getElem (by omega)⟩
    refine wpS_bind (wpS_ltAtB hO k1 (by rw[gt k (by omega)];exact hv) (by rw[gt _ (by omega)];exact hu) Sv (hS' u (List.mem_of_getElem? hu)) ?_)
    dsimp only
    cases hw:ltb v u with
    | true =>
     simp only[if_true]
     refine wpS_pure ⟨rfl,l,(l+r) / 2,rfl,by omega,by omega,by omega,b4,fun i y q1 q2 hy=>?_⟩
     by_cases ei:i =(l+r) / 2
     ·subst ei;rw[hu]at hy;cases hy;exact hw
     ·have le1:=a3 ((l+r) / 2) i u y (by omega) q2 hu hy
      cases q:ltb v y with
      | true=>rfl
      | false=>have:=O.tr le1 q;rw[hw]at this;cases this
    | false =>
     simp only[Bool.false_eq_true,if_false]
     refine wpS_pure ⟨rfl,(l+r) / 2+1,r,rfl,by omega,by omega,by omega,fun i y q1 hy=>?_,b5⟩
     by_cases ei:i =(l+r) / 2
     ·subst ei;rw[hu]at hy;cases hy;exact hw
     ·exact O.tr (a3 i ((l+r) / 2) y u (by omega) (by omega) hy hu) hw
  case ipost =>
   rintro c st'' ⟨e,l,r,rfl,b1,b4,b5⟩
   rw[e]
   show wpS _ _ _ _ (do moveDown' (P.length+k) (P.length+l);pure (ForInStep.yield (none,()))) _ _
   rw[moveDown'_eq]
   refine wpS_bind (wpS_modify (wpS_pure ⟨rfl,k1,k2,k3,insB R' k l,?_,(insB_perm R' b1).trans a2,?_⟩))
   ·show(bubble (arrOf st') (P.length+k) (P.length+k-(P.length+l))).toList=_
    rw[show P.length+k-(P.length+l)=k-l by omega]
    exact bubble_list a1 (by omega) b1
   ·rw[show min (k+1) R.length=k+1 by omega]
    intro i j x y hij hj hx hy
    rw[insB_get R' (by omega) b1]at hx hy
    by_cases i1:i=l
    ·rw[if_pos i1,hv]at hx
     cases hx
     rw[if_neg (by omega),if_pos (by omega)]at hy
     exact O.asym (b5 (j-1) y (by omega) (by omega) hy)
    rw[if_neg i1]at hx
    by_cases i2:l<i∧i≤k
    ·rw[if_pos i2]at hx
     rw[if_neg (by omega),if_pos (by omega)]at hy
     exact a3 (i-1) (j-1) x y (by omega) (by omega) hx hy
    rw[if_neg i2]at hx
    by_cases j1:j=l
    ·rw[if_pos j1,hv]at hy
     cases hy
     exact b4 i x (by omega) hx
    rw[if_neg j1]at hy
    by_cases j2:l<j∧j≤k
    ·rw[if_pos j2]at hy
     exact a3 i (j-1) x y (by omega) (by omega) hx hy
    ·rw[if_neg j2]at hy
     exact a3 i j x y hij (by omega) hx hy
end
end L2
namespace L2
open PySem PySem.Spec PyProof.Rows
def revB (R:List Keyed) (i j:Nat):List Keyed:=R.take i++(((R.take j).drop i).reverse++R.drop j)
theorem revB_perm (R:List Keyed) {i j:Nat}(h:i≤j):(revB R i j).Perm R:=by
 unfold revB
 have e1:R.take j=R.take i++(R.take j).drop i:=by
  conv=>lhs;rw[← List.take_append_drop i (R.take j)]
  rw[List.take_take,Nat.min_eq_left h]
 have:(R.take i++(((R.take j).drop i).reverse++R.drop j)).Perm (R.take i++((R.take j).drop i++R.drop j)):=List.Perm.append_left _ (List.Perm.append_right _ (List.reverse_perm _))
 refine this.trans (List.Perm.of_eq ?_)
 rw[← List.append_assoc,← e1,List.take_append_drop]
theorem revB_get (R:List Keyed) {i j:Nat}(hj:j≤R.length) (h:i≤j) (p:Nat):(revB R i j)[p]? = if i≤p∧p<j then R[i+j-1-p]? else R[p]?:=by
 unfold revB
 have len1:(R.take i).length=i:=by rw[List.length_take];omega
 have len2:((R.take j).drop i).length=j-i:=by rw[List.length_drop,List.length_take];omega
 by_cases c1:p<i
 ·rw[List.getElem?_append_left (by omega),if_neg (by omega),List.getElem?_take,if_pos c1]
 rw[List.getElem?_append_right (by omega),len1]
 by_cases c2:p<j
 ·rw[if_pos ⟨by omega,c2⟩,List.getElem?_append_left (by rw[List.length_reverse];omega),List.getElem?_reverse (by omega),len2,List.getElem?_drop,List.getElem?_take,if_pos (by omega)]
  congr 1;omega
 ·rw[if_neg (by omega),List.getElem?_append_right (by rw[List.length_reverse];omega),List.length_reverse,len2,List.getElem?_drop]
  congr 1;omega
theorem mirror_list {ar:Array Keyed}{P R:List Keyed}(h:ar.toList=P++R) {i j:Nat}(hj:j≤R.length) (hi:i≤j):(mirror ar (P.length+i) (P.length+j) ((P.length+j-(P.length+i)) / 2)).toList=P++revB R i j:=by
 have hsz:ar.size=P.length+R.length:=by
  have:=congrArg List.length h
  rw[Array.length_toList]at this
  simp at this;omega
 apply List.ext_getElem?
 intro p
 rw[Array.getElem?_toList,getElem?_mirror_all (by omega) p]
 have get:∀q,ar[q]? =(P++R)[q]?:=fun q=>by rw[← h,Array.getElem?_toList]
 by_cases c1:p<P.length
 ·rw[if_neg (by omega),get,List.getElem?_append_left c1,List.getElem?_append_left c1]
 ·rw[List.getElem?_append_right (by omega),revB_get R hj hi]
  by_cases c2:P.length+i≤p∧p<P.length+j
  ·rw[if_pos c2,if_pos (show i≤p-P.length∧p-P.length<j by omega),get,List.getElem?_append_right (by omega)]
   congr 1;omega
  ·rw[if_neg c2,if_neg (show ¬(i≤p-P.length∧p-P.length<j) by omega),get,List.getElem?_append_right (by omega)]
theorem OrdB.refl {ltb:Keyed→Keyed→Bool}(O:OrdB ltb) (x:Keyed):leB ltb x x:=by
 unfold leB
 cases q:ltb x x with
 | false=>rfl
 | true=>have:=O.asym q;rw[q]at this;cases this
def FallTo (ltb:Keyed→Keyed→Bool) (R:List Keyed) (k:Nat):Prop:=∀i j x y,i<j→j<k→R[i]? = some x→R[j]? = some y→leB ltb y x
def EqSeg (ltb:Keyed→Keyed→Bool) (R:List Keyed) (a b:Nat):Prop:=∀i j x y,a≤i→i<b→a≤j→j<b→R[i]? = some x→R[j]? = some y→leB ltb x y
section
variable {ltb:Keyed→Keyed→Bool}{R:List Keyed}
theorem RiseTo.more (O:OrdB ltb) {n:Nat}(h:RiseTo ltb R n) (hn:1≤n) {u v:Keyed}(hu:R[n-1]? = some u) (hv:R[n]? = some v) (c:leB ltb u v):RiseTo ltb R (n+1):=by
 intro i j x y hij hj hx hy
 by_cases e:j=n
 ·subst e
  rw[hv]at hy;cases hy
  by_cases e2:i=j-1
  ·subst e2;rw[hu]at hx;cases hx;exact c
  ·exact O.tr (h i (j-1) x u (by omega) (by omega) hx hu) c
 ·exact h i j x y hij (by omega) hx hy
theorem FallTo.more (O:OrdB ltb) {n:Nat}(h:FallTo ltb R n) (hn:1≤n) {u v:Keyed}(hu:R[n-1]? = some u) (hv:R[n]? = some v) (c:leB ltb v u):FallTo ltb R (n+1):=by
 intro i j x y hij hj hx hy
 by_cases e:j=n
 ·subst e
  rw[hv]at hy;cases hy
  by_cases e2:i=j-1
  ·subst e2;rw[hu]at hx;cases hx;exact c
  ·exact O.tr c (h i (j-1) x u (by omega) (by omega) hx hu)
 ·exact h i j x y hij (by omega) hx hy
theorem FallTo.seg {n a:Nat}(h:FallTo ltb R n) (ha:a≤n) (hn:n≤R.length) (e:EqSeg ltb R a n):FallTo ltb (revB R a n) n:=by
 intro i j x y hij hj hx hy
 rw[revB_get R hn ha]at hx hy
 by_cases c1:a≤i
 ·rw[if_pos ⟨c1,by omega⟩]at hx
  rw[if_pos ⟨by omega,hj⟩]at hy
  exact e _ _ y x (by omega) (by omega) (by omega) (by omega) hy hx
 ·rw[if_neg (by omega)]at hx
  by_cases c2:a≤j
  ·rw[if_pos ⟨c2,hj⟩]at hy
   exact h i _ x y (by omega) (by omega) hx hy
  ·rw[if_neg (by omega)]at hy
   exact h i j x y hij hj hx hy
theorem FallTo.turn {n:Nat}(h:FallTo ltb R n) (hn:n≤R.length):RiseTo ltb (revB R 0 n) n:=by
 intro i j x y hij hj hx hy
 rw[revB_get R hn (Nat.zero_le _),if_pos ⟨Nat.zero_le _,by omega⟩]at hx
 rw[revB_get R hn (Nat.zero_le _),if_pos ⟨Nat.zero_le _,hj⟩]at hy
 exact h _ _ y x (by omega) (by omega) hy hx
end
section
variable {prog:Program}{w:World}{A:Around}{E:Value→Shared→Prop}{s:Shared}{ltb:Keyed→Keyed→Bool}{S:Keyed→Prop}{κ:SortKind}
structure ZS (κ:SortKind) (st:SortSt) (P R:List Keyed) (st':SortSt) (R':List Keyed):Prop where
 kind:kindOf st'=κ
 fail:failedOf st'=none
 pend:pendingOf st'=pendingOf st
 arr:(arrOf st').toList=P++R'
 perm:R'.Perm R
theorem ZS.rev {st st':SortSt}{P R R':List Keyed}(z:ZS κ st P R st' R') {i j:Nat}(hj:j≤R'.length) (hi:i≤j):ZS κ st P R (setArr st' (mirror (arrOf st') (P.length+i) (P.length+j) ((P.length+j-(P.length+i)) / 2))) (revB R' i j) :=
 ⟨z.kind,z.fail,z.pend,mirror_list z.arr hj hi,(revB_perm R' hi).trans z.perm⟩
theorem ZS.at {st st':SortSt}{P R R':List Keyed}(z:ZS κ st P R st' R') (i:Nat) (hi:i<R'.length):(arrOf st')[P.length+i]? = R'[i]?:=at_seg (T:=[]) (by rw[List.append_nil];exact z.arr) i hi
theorem ZS.ask (hO:LtOk prog w A E s ltb S κ) {st st':SortSt}{P R R':List Keyed}(z:ZS κ st P R st' R') (hS:∀x∈R,S x) {a b i j:Nat}(ea:a=P.length+i) (eb:b=P.length+j) (hi:i<R'.length) (hj:j<R'.length) {Q:Option Bool→SortSt→Prop}(q:∀x y,R'[i]? = some x→R'[j]? = some y→Q (some (ltb x y)) st') :
  wpS (model prog w) A E s (ltAt' a b) Q st':=by
 have m:∀x,x∈R'→S x:=fun x hx=>hS x (z.perm.mem_iff.mp hx)
 obtain⟨x,hx⟩ : ∃x,R'[i]? = some x:=⟨_,List.getElem?_eq_getElem hi⟩
 obtain⟨y,hy⟩ : ∃y,R'[j]? = some y:=⟨_,List.getElem?_eq_getElem hj⟩
 exact wpS_ltAtB hO z.kind (by rw[ea,z.at i hi];exact hx) (by rw[eb,z.at j hj];exact hy) (m x (List.mem_of_getElem? hx)) (m y (List.mem_of_getElem? hy)) (q x y hx hy)
theorem wpS_runB (O:OrdB ltb) (hO:LtOk prog w A E s ltb S κ) {st:SortSt}{Q:Option Nat→SortSt→Prop}{P R:List Keyed}(hk:kindOf st=κ) (hf:failedOf st=none) (harr:(arrOf st).toList=P++R) (hR:1≤R.length) (hS:∀x∈R,S x)
  (h:∀(st':SortSt) (R':List Keyed) (n:Nat),ZS κ st P R st' R'→1≤n→n≤R.length→RiseTo ltb R' n→Q (some n) st'):wpS (model prog w) A E s (countRun' P.length R.length) Q st:=by
 have z0:ZS κ st P R st R:=⟨hk,hf,rfl,harr,List.Perm.refl _⟩
 rw[countRun'_eq]
 refine wpS_bind (wpS_mono (wpS_forRange (I:=fun x c st'=>st'=st∧c =(none,x)∧RiseTo ltb R x∧x≤R.length)
  (Q:=fun c st'=>st'=st∧∃n,c =(none,n)∧1≤n∧n≤R.length∧RiseTo ltb R n∧(n<R.length→∀u v,R[n-1]? = some u→R[n]? = some v→ltb v u=true)) ?stp ?fin ⟨rfl,rfl,fun i j x y hij hj=>by omega,hR⟩) ?post)
 case fin =>
  rintro c st' ⟨rfl,rfl,a1,a2⟩
  exact⟨rfl,_,rfl,by omega,a2,a1,fun q=>by omega⟩
 case stp =>
  rintro x c st' hx1 hx2 ⟨est,rfl,a1,a2⟩
  rw[est]
  dsimp only
  refine wpS_bind (z0.ask hO hS (i:=x) (j:=x-1) rfl (by omega) hx2 (by omega) fun v u hv hu=>?_)
  dsimp only
  cases hw:ltb v u with
  | true =>
   simp only[if_true]
   exact wpS_pure ⟨rfl,x,rfl,hx1,a2,a1,fun _ u' v' hu' hv'=>by rw[hu]at hu';rw[hv]at hv';cases hu';cases hv';exact hw⟩
  | false =>
   simp only[Bool.false_eq_true,if_false]
   exact wpS_pure ⟨rfl,rfl,a1.more O hx1 hu hv hw,by omega⟩
 case post =>
  rintro c st' ⟨est,n,rfl,a1,a2,a3,a4⟩
  rw[est]
  dsimp only
  by_cases c1:n=R.length
  ·rw[if_pos (by simpa using c1)]
   exact wpS_pure (h st R n z0 a1 a2 a3)
  rw[if_neg (by simpa using c1)]
  have a4:=a4 (by omega)
  obtain⟨u0,hu0⟩ : ∃u,R[n-1]? = some u:=⟨_,List.getElem?_eq_getElem (by omega)⟩
  obtain⟨v0,hv0⟩ : ∃v,R[n]? = some v:=⟨_,List.getElem?_eq_getElem (by omega)⟩
  have hw0:=a4 u0 v0 hu0 hv0
  by_cases c2:n > 1
  ·rw[if_pos c2]
   refine wpS_bind (z0.ask hO hS (i:=0) (j:=n-1) rfl (by omega) (by omega) (by omega) fun f l hf0 hl0=>?_)
   rw[hu0]at hl0;cases hl0
   dsimp only
   cases hw1:ltb f u0 with
   | true =>
    simp only[if_true]
    exact wpS_pure (h st R n z0 a1 a2 a3)
   | false =>
    simp only[Bool.false_eq_true,if_false]
    rw[reverseSlice'_eq]
    refine wpS_bind (wpS_modify ?_)
    have z1:=z0.rev (i:=0) (j:=n) (by omega) (Nat.zero_le _)
    rw[Nat.add_zero]at z1
    have eq0:EqSeg ltb R 0 n:=fun i j x y _ i2 _ j2 hx hy=>by
     have t1:leB ltb x u0:=by
      by_cases e:i=n-1
      ·subst e;rw[hu0]at hx;cases hx;exact O.refl _
      ·exact a3 i (n-1) x u0 (by omega) (by omega) hx hu0
     have t2:leB ltb f y:=by
      by_cases e:j=0
      ·subst e;rw[hf0]at hy;cases hy;exact O.refl _
      ·exact a3 0 j f y (by omega) j2 hf0 hy
     exact O.tr (O.tr t1 hw1) t2
    have f1:FallTo ltb (revB R 0 n) (n+1):=by
     have ff:FallTo ltb R n:=fun i j x y hij hj hx hy=>eq0 j i y x (by omega) hj (by omega) (by omega) hy hx
     have fr:=ff.seg (a:=0) (by omega) (by omega) eq0
     obtain⟨u2,hu2⟩ : ∃u2,(revB R 0 n)[n-1]? = some u2:=⟨_,List.getElem?_eq_getElem (by rw[(revB_perm R (by omega)).length_eq];omega)⟩
     have hu3:=hu2
     rw[revB_get R (by omega) (by omega),if_pos (by omega)]at hu3
     refine fr.more O (by omega) hu2 (by rw[revB_get R (by omega) (by omega),if_neg (by omega)];exact hv0) (O.tr (O.asym hw0) (eq0 (n-1) _ u0 u2 (by omega) (by omega) (by omega) (by omega) hu0 hu3))
    generalize setArr st (mirror (arrOf st) P.length (P.length+n) ((P.length+n-P.length) / 2))=st1 at z1 ⊢
    generalize hR1:revB R 0 n=R1 at z1 f1
    refine wpS_bind (wpS_lift (wpAny_rule ⟨rfl,?_⟩))
    refine wpS_bind (wpS_mono (wpS_forRange (I:=fun x c st'=>∃R' q,c =(none,x,q)∧ZS κ st P R st' R'∧q+1≤x∧x≤R.length∧FallTo ltb R' x∧EqSeg ltb R' (x-(q+1)) x)
     (Q:=fun c st'=>∃R' m q,c =(none,m,q)∧ZS κ st P R st' R'∧q+1≤m∧m≤R.length∧FallTo ltb R' m∧EqSeg ltb R' (m-(q+1)) m) ?stp3 ?fin3 ⟨R1,0,rfl,z1,by omega,by omega,f1,fun i j x y i1 i2 j1 j2 hx hy=>by
      have e1:i=j:=by omega
      subst e1;rw[hx]at hy;cases hy;exact O.refl x⟩) ?post3)
    case fin3 =>
     rintro c st' ⟨R',q,rfl,b1,b2,b3,b4,b5⟩
     exact⟨R',_,q,rfl,b1,b2,b3,b4,b5⟩
    case stp3 =>
     rintro x c st' hx1 hx2 ⟨R',q,rfl,b1,b2,b3,b4,b5⟩
     have hl:=b1.perm.length_eq
     dsimp only
     refine wpS_bind (b1.ask hO hS (i:=x) (j:=x-1) rfl (by omega) (by omega) (by omega) fun v u hv hu=>?_)
     dsimp only
     cases hw:ltb v u with
     | true =>
      simp only[if_true]
      by_cases c6:q > 0
      ·rw[if_pos c6,reverseSlice'_eq]
       refine wpS_bind (wpS_modify ?_)
       have zr:=b1.rev (i:=x-(q+1)) (j:=x) (by omega) (by omega)
       have fr:=b4.seg (a:=x-(q+1)) (by omega) (by omega) b5
       have hv2:(revB R' (x-(q+1)) x)[x]? = some v:=by rw[revB_get R' (by omega) (by omega),if_neg (by omega)];exact hv
       obtain⟨u2,hu2⟩ : ∃u2,(revB R' (x-(q+1)) x)[x-1]? = some u2:=⟨_,List.getElem?_eq_getElem (by rw[(revB_perm R' (by omega)).length_eq];omega)⟩
       have hu3:=hu2
       rw[revB_get R' (by omega) (by omega),if_pos (by omega)]at hu3
       have cc:leB ltb v u2:=O.tr (O.asym hw) (b5 (x-1) _ u u2 (by omega) (by omega) (by omega) (by omega) hu hu3)
       refine wpS_pure ⟨_,0,rfl,?_,by omega,by omega,fr.more O (by omega) hu2 hv2 cc,fun i j x y i1 i2 j1 j2 hx hy=>by
        have e1:i=j:=by omega
        subst e1;rw[hx]at hy;cases hy;exact O.refl x⟩
       rw[show P.length+x-(q+1)=P.length+(x-(q+1)) by omega]
       exact zr
      ·rw[if_neg c6]
       exact wpS_pure ⟨R',0,rfl,b1,by omega,by omega,b4.more O (by omega) hu hv (O.asym hw),fun i j x y i1 i2 j1 j2 hx hy=>by
        have e1:i=j:=by omega
        subst e1;rw[hx]at hy;cases hy;exact O.refl x⟩
     | false =>
      simp only[Bool.false_eq_true,if_false]
      refine wpS_bind (b1.ask hO hS (i:=x-1) (j:=x) (by omega) rfl (by omega) (by omega) fun u' v' hu' hv'=>?_)
      rw[hu]at hu';cases hu'
      rw[hv]at hv';cases hv'
      dsimp only
      cases hw2:ltb u v with
      | true =>
       simp only[if_true]
       exact wpS_pure ⟨R',x,q,rfl,b1,b2,b3,b4,b5⟩
      | false =>
       simp only[Bool.false_eq_true,if_false]
       refine wpS_pure ⟨R',q+1,rfl,b1,by omega,by omega,b4.more O (by omega) hu hv hw2,fun i j p r i1 i2 j1 j2 hp hr=>?_⟩
       have toU:∀i p,x+1-(q+1+1)≤i→i<x+1→R'[i]? = some p→leB ltb p u∧leB ltb u p:=fun i p g1 g2 hp=>by
        by_cases e:i=x
        ·subst e;rw[hv]at hp;cases hp;exact⟨hw2,hw⟩
        ·exact⟨b5 i (x-1) p u (by omega) (by omega) (by omega) (by omega) hp hu,b5 (x-1) i u p (by omega) (by omega) (by omega) (by omega) hu hp⟩
       exact O.tr (toU i p (by omega) i2 hp).1 (toU j r (by omega) j2 hr).2
    case post3 =>
     rintro c st3 ⟨R',m,q,rfl,b1,b2,b3,b4,b5⟩
     have hl:=b1.perm.length_eq
     dsimp only
     by_cases c7:q > 0
     ·rw[if_pos c7,reverseSlice'_eq]
      refine wpS_bind (wpS_modify ?_)
      have zr:=b1.rev (i:=m-(q+1)) (j:=m) (by omega) (by omega)
      rw[show P.length+(m-(q+1))=P.length+m-(q+1) by omega]at zr
      have fr:=b4.seg (a:=m-(q+1)) (by omega) (by omega) b5
      have hl2:=zr.perm.length_eq
      generalize setArr st3 (mirror (arrOf st3) (P.length+m-(q+1)) (P.length+m) ((P.length+m-(P.length+m-(q+1))) / 2))=st4 at zr ⊢
      generalize revB R' (m-(q+1)) m=R4 at zr fr hl2
      rw[reverseSlice'_eq]
      refine wpS_bind (wpS_modify ?_)
      have z5:=zr.rev (i:=0) (j:=m) (by omega) (Nat.zero_le _)
      rw[Nat.add_zero]at z5
      have r5:=fr.turn (by omega)
      generalize setArr st4 (mirror (arrOf st4) P.length (P.length+m) ((P.length+m-P.length) / 2))=st5 at z5 ⊢
      refine wpS_bind (wpS_mono (wpS_forRange (I:=fun x c st'=>st'=st5∧c =(none,x)∧RiseTo ltb (revB R4 0 m) x∧x≤R.length)
       (Q:=fun c st'=>st'=st5∧∃n,c =(none,n)∧1≤n∧n≤R.length∧RiseTo ltb (revB R4 0 m) n) ?stp5 ?fin5 ⟨rfl,rfl,r5,by omega⟩) ?post5)
      case fin5 =>
       rintro c st' ⟨est,rfl,b1,b2⟩
       exact⟨est,_,rfl,by omega,b2,b1⟩
      case post5 =>
       rintro c st' ⟨est,n5,rfl,b1,b2,b3⟩
       rw[est]
       exact wpS_pure (h _ _ n5 z5 b1 b2 b3)
      case stp5 =>
       rintro x c st' hx1 hx2 ⟨est,rfl,b1,b2⟩
       rw[est]
       dsimp only
       refine wpS_bind (z5.ask hO hS (i:=x) (j:=x-1) rfl (by omega) (by rw[z5.perm.length_eq];exact hx2) (by rw[z5.perm.length_eq];omega) fun v u hv hu=>?_)
       dsimp only
       cases hw:ltb v u with
       | true =>
        simp only[if_true]
        exact wpS_pure ⟨rfl,x,rfl,by omega,b2,b1⟩
       | false =>
        simp only[Bool.false_eq_true,if_false]
        exact wpS_pure ⟨rfl,rfl,b1.more O (by omega) hu hv hw,by omega⟩
     ·rw[if_neg c7,reverseSlice'_eq]
      refine wpS_bind (wpS_modify ?_)
      have z5:=b1.rev (i:=0) (j:=m) (by omega) (Nat.zero_le _)
      rw[Nat.add_zero]at z5
      have r5:=b4.turn (by omega)
      generalize setArr st3 (mirror (arrOf st3) P.length (P.length+m) ((P.length+m-P.length) / 2))=st5 at z5 ⊢
      refine wpS_bind (wpS_mono (wpS_forRange (I:=fun x c st'=>st'=st5∧c =(none,x)∧RiseTo ltb (revB R' 0 m) x∧x≤R.length)
       (Q:=fun c st'=>st'=st5∧∃n,c =(none,n)∧1≤n∧n≤R.length∧RiseTo ltb (revB R' 0 m) n) ?stp5 ?fin5 ⟨rfl,rfl,r5,by omega⟩) ?post5)
      case fin5 =>
       rintro c st' ⟨est,rfl,b1,b2⟩
       exact⟨est,_,rfl,by omega,b2,b1⟩
      case post5 =>
       rintro c st' ⟨est,n5,rfl,b1,b2,b3⟩
       rw[est]
       exact wpS_pure (h _ _ n5 z5 b1 b2 b3)
      case stp5 =>
       rintro x c st' hx1 hx2 ⟨est,rfl,b1,b2⟩
       rw[est]
       dsimp only
       refine wpS_bind (z5.ask hO hS (i:=x) (j:=x-1) rfl (by omega) (by rw[z5.perm.length_eq];exact hx2) (by rw[z5.perm.length_eq];omega) fun v u hv hu=>?_)
       dsimp only
       cases hw:ltb v u with
       | true =>
        simp only[if_true]
        exact wpS_pure ⟨rfl,x,rfl,by omega,b2,b1⟩
       | false =>
        simp only[Bool.false_eq_true,if_false]
        exact wpS_pure ⟨rfl,rfl,b1.more O (by omega) hu hv hw,by omega⟩
  ·rw[if_neg c2]
   have e1:n=1:=by omega
   have f1:FallTo ltb R (n+1):=by
    have ff:FallTo ltb R n:=fun i j x y hij hj hx hy=>by omega
    exact ff.more O a1 hu0 hv0 (O.asym hw0)
   have z1:=z0
   have hR1:∃R1,R1=R:=⟨_,rfl⟩
   refine wpS_bind (wpS_lift (wpAny_rule ⟨rfl,?_⟩))
   refine wpS_bind (wpS_mono (wpS_forRange (I:=fun x c st'=>∃R' q,c =(none,x,q)∧ZS κ st P R st' R'∧q+1≤x∧x≤R.length∧FallTo ltb R' x∧EqSeg ltb R' (x-(q+1)) x)
    (Q:=fun c st'=>∃R' m q,c =(none,m,q)∧ZS κ st P R st' R'∧q+1≤m∧m≤R.length∧FallTo ltb R' m∧EqSeg ltb R' (m-(q+1)) m) ?stp3 ?fin3 ⟨R,0,rfl,z1,by omega,by omega,f1,fun i j x y i1 i2 j1 j2 hx hy=>by
     have e1:i=j:=by omega
     subst e1;rw[hx]at hy;cases hy;exact O.refl x⟩) ?post3)
   case fin3 =>
    rintro c st' ⟨R',q,rfl,b1,b2,b3,b4,b5⟩
    exact⟨R',_,q,rfl,b1,b2,b3,b4,b5⟩
   case stp3 =>
    rintro x c st' hx1 hx2 ⟨R',q,rfl,b1,b2,b3,b4,b5⟩
    have hl:=b1.perm.length_eq
    dsimp only
    refine wpS_bind (b1.ask hO hS (i:=x) (j:=x-1) rfl (by omega) (by omega) (by omega) fun v u hv hu=>?_)
    dsimp only
    cases hw:ltb v u with
    | true =>
     simp only[if_true]
     by_cases c6:q > 0
     ·rw[if_pos c6,reverseSlice'_eq]
      refine wpS_bind (wpS_modify ?_)
      have zr:=b1.rev (i:=x-(q+1)) (j:=x) (by omega) (by omega)
      have fr:=b4.seg (a:=x-(q+1)) (by omega) (by omega) b5
      have hv2:(revB R' (x-(q+1)) x)[x]? = some v:=by rw[revB_get R' (by omega) (by omega),if_neg (by omega)];exact hv
      obtain⟨u2,hu2⟩ : ∃u2,(revB R' (x-(q+1)) x)[x-1]? = some u2:=⟨_,List.getElem?_eq_getElem (by rw[(revB_perm R' (by omega)).length_eq];omega)⟩
      have hu3:=hu2
      rw[revB_get R' (by omega) (by omega),if_pos (by omega)]at hu3
      have cc:leB ltb v u2:=O.tr (O.asym hw) (b5 (x-1) _ u u2 (by omega) (by omega) (by omega) (by omega) hu hu3)
      refine wpS_pure ⟨_,0,rfl,?_,by omega,by omega,fr.more O (by omega) hu2 hv2 cc,fun i j x y i1 i2 j1 j2 hx hy=>by
       have e1:i=j:=by omega
       subst e1;rw[hx]at hy;cases hy;exact O.refl x⟩
      rw[show P.length+x-(q+1)=P.length+(x-(q+1)) by omega]
      exact zr
     ·rw[if_neg c6]
      exact wpS_pure ⟨R',0,rfl,b1,by omega,by omega,b4.more O (by omega) hu hv (O.asym hw),fun i j x y i1 i2 j1 j2 hx hy=>by
       have e1:i=j:=by omega
       subst e1;rw[hx]at hy;cases hy;exact O.refl x⟩
    | false =>
     simp only[Bool.false_eq_true,if_false]
     refine wpS_bind (b1.ask hO hS (i:=x-1) (j:=x) (by omega) rfl (by omega) (by omega) fun u' v' hu' hv'=>?_)
     rw[hu]at hu';cases hu'
     rw[hv]at hv';cases hv'
     dsimp only
     cases hw2:ltb u v with
     | true =>
      simp only[if_true]
      exact wpS_pure ⟨R',x,q,rfl,b1,b2,b3,b4,b5⟩
     | false =>
      simp only[Bool.false_eq_true,if_false]
      refine wpS_pure ⟨R',q+1,rfl,b1,by omega,by omega,b4.more O (by omega) hu hv hw2,fun i j p r i1 i2 j1 j2 hp hr=>?_⟩
      have toU:∀i p,x+1-(q+1+1)≤i→i<x+1→R'[i]? = some p→leB ltb p u∧leB ltb u p:=fun i p g1 g2 hp=>by
       by_cases e:i=x
       ·subst e;rw[hv]at hp;cases hp;exact⟨hw2,hw⟩
       ·exact⟨b5 i (x-1) p u (by omega) (by omega) (by omega) (by omega) hp hu,b5 (x-1) i u p (by omega) (by omega) (by omega) (by omega) hu hp⟩
      exact O.tr (toU i p (by omega) i2 hp).1 (toU j r (by omega) j2 hr).2
   case post3 =>
    rintro c st3 ⟨R',m,q,rfl,b1,b2,b3,b4,b5⟩
    have hl:=b1.perm.length_eq
    dsimp only
    by_cases c7:q > 0
    ·rw[if_pos c7,reverseSlice'_eq]
     refine wpS_bind (wpS_modify ?_)
     have zr:=b1.rev (i:=m-(q+1)) (j:=m) (by omega) (by omega)
     rw[show P.length+(m-(q+1))=P.length+m-(q+1) by omega]at zr
     have fr:=b4.seg (a:=m-(q+1)) (by omega) (by omega) b5
     have hl2:=zr.perm.length_eq
     generalize setArr st3 (mirror (arrOf st3) (P.length+m-(q+1)) (P.length+m) ((P.length+m-(P.length+m-(q+1))) / 2))=st4 at zr ⊢
     generalize revB R' (m-(q+1)) m=R4 at zr fr hl2
     rw[reverseSlice'_eq]
     refine wpS_bind (wpS_modify ?_)
     have z5:=zr.rev (i:=0) (j:=m) (by omega) (Nat.zero_le _)
     rw[Nat.add_zero]at z5
     have r5:=fr.turn (by omega)
     generalize setArr st4 (mirror (arrOf st4) P.length (P.length+m) ((P.length+m-P.length) / 2))=st5 at z5 ⊢
     refine wpS_bind (wpS_mono (wpS_forRange (I:=fun x c st'=>st'=st5∧c =(none,x)∧RiseTo ltb (revB R4 0 m) x∧x≤R.length)
      (Q:=fun c st'=>st'=st5∧∃n,c =(none,n)∧1≤n∧n≤R.length∧RiseTo ltb (revB R4 0 m) n) ?stp5 ?fin5 ⟨rfl,rfl,r5,by omega⟩) ?post5)
     case fin5 =>
      rintro c st' ⟨est,rfl,b1,b2⟩
      exact⟨est,_,rfl,by omega,b2,b1⟩
     case post5 =>
      rintro c st' ⟨est,n5,rfl,b1,b2,b3⟩
      rw[est]
      exact wpS_pure (h _ _ n5 z5 b1 b2 b3)
     case stp5 =>
      rintro x c st' hx1 hx2 ⟨est,rfl,b1,b2⟩
      rw[est]
      dsimp only
      refine wpS_bind (z5.ask hO hS (i:=x) (j:=x-1) rfl (by omega) (by rw[z5.perm.length_eq];exact hx2) (by rw[z5.perm.length_eq];omega) fun v u hv hu=>?_)
      dsimp only
      cases hw:ltb v u with
      | true =>
       simp only[if_true]
       exact wpS_pure ⟨rfl,x,rfl,by omega,b2,b1⟩
      | false =>
       simp only[Bool.false_eq_true,if_false]
       exact wpS_pure ⟨rfl,rfl,b1.more O (by omega) hu hv hw,by omega⟩
    ·rw[if_neg c7,reverseSlice'_eq]
     refine wpS_bind (wpS_modify ?_)
     have z5:=b1.rev (i:=0) (j:=m) (by omega) (Nat.zero_le _)
     rw[Nat.add_zero]at z5
     have r5:=b4.turn (by omega)
     generalize setArr st3 (mirror (arrOf st3) P.length (P.length+m) ((P.length+m-P.length) / 2))=st5 at z5 ⊢
     refine wpS_bind (wpS_mono (wpS_forRange (I:=fun x c st'=>st'=st5∧c =(none,x)∧RiseTo ltb (revB R' 0 m) x∧x≤R.length)
      (Q:=fun c st'=>st'=st5∧∃n,c =(none,n)∧1≤n∧n≤R.length∧RiseTo ltb (revB R' 0 m) n) ?stp5 ?fin5 ⟨rfl,rfl,r5,by omega⟩) ?post5)
     case fin5 =>
      rintro c st' ⟨est,rfl,b1,b2⟩
      exact⟨est,_,rfl,by omega,b2,b1⟩
     case post5 =>
      rintro c st' ⟨est,n5,rfl,b1,b2,b3⟩
      rw[est]
      exact wpS_pure (h _ _ n5 z5 b1 b2 b3)
     case stp5 =>
      rintro x c st' hx1 hx2 ⟨est,rfl,b1,b2⟩
      rw[est]
      dsimp only
      refine wpS_bind (z5.ask hO hS (i:=x) (j:=x-1) rfl (by omega) (by rw[z5.perm.length_eq];exact hx2) (by rw[z5.perm.length_eq];omega) fun v u hv hu=>?_)
      dsimp only
      cases hw:ltb v u with
      | true =>
       simp only[if_true]
       exact wpS_pure ⟨rfl,x,rfl,by omega,b2,b1⟩
      | false =>
       simp only[Bool.false_eq_true,if_false]
       exact wpS_pure ⟨rfl,rfl,b1.more O (by omega) hu hv hw,by omega⟩
end
end L2
namespace L2
open PySem PySem.Spec PyProof.Rows
def Offs:Nat→List (List Keyed)→List (Nat×Nat×Nat)→Prop
 | _,[],[]=>True
 | o,r::rs,p::ps=>p.1=o∧p.2.1=r.length∧Offs (o+r.length) rs ps
 | _,_,_=>False
theorem Offs.len:∀{o:Nat}{rs:List (List Keyed)}{ps:List (Nat×Nat×Nat)},Offs o rs ps→rs.length=ps.length
 | _,[],[],_=>rfl
 | _,_::_,_::_,⟨_,_,t⟩=>congrArg (· + 1) (Offs.len t)
theorem Offs.app:∀{o:Nat}{rs ts:List (List Keyed)}{ps qs:List (Nat×Nat×Nat)},Offs o rs ps→Offs (o+rs.flatten.length) ts qs→Offs o (rs++ts) (ps++qs)
 | o,[],ts,[],qs,_,h=>by simpa using h
 | o,r::rs,ts,p::ps,qs,⟨a,b,t⟩,h=>⟨a,b,Offs.app t (by rw[List.flatten_cons,List.length_append]at h;rw[Nat.add_assoc];exact h)⟩
theorem Offs.split:∀{o:Nat}{rs ts:List (List Keyed)}{ps:List (Nat×Nat×Nat)},Offs o (rs++ts) ps→∃p1 p2,ps=p1++p2∧p1.length=rs.length∧Offs o rs p1∧Offs (o+rs.flatten.length) ts p2
 | o,[],ts,ps,h=>⟨[],ps,rfl,rfl,trivial,by simpa using h⟩
 | o,r::rs,ts,[],h=>h.elim
 | o,r::rs,ts,p::ps,⟨a,b,t⟩=>by
  obtain⟨p1,p2,rfl,e,f,g⟩:=Offs.split t
  exact⟨p::p1,p2,rfl,congrArg (· + 1) e,⟨a,b,f⟩,by rw[List.flatten_cons,List.length_append,← Nat.add_assoc];exact g⟩
section
variable {ltb:Keyed→Keyed→Bool}{κ:SortKind}
structure RI (ltb:Keyed→Keyed→Bool) (κ:SortKind) (a0:List Keyed) (st:SortSt) (rs:List (List Keyed)) (U:List Keyed):Prop where
 kind:kindOf st=κ
 fail:failedOf st=none
 arr:(arrOf st).toList=rs.flatten++U
 perm:(arrOf st).toList.Perm a0
 offs:Offs 0 rs (pendingOf st).toList
 rise:∀r∈rs,r.Pairwise (leB ltb)∧r ≠ []
theorem flat_len:∀{rs:List (List Keyed)},(∀r∈rs,r ≠ [])→rs.length≤rs.flatten.length
 | [],_=>Nat.le_refl _
 | r::rs,h=>by
  have:=flat_len (rs:=rs) fun x hx=>h x (List.mem_cons_of_mem _ hx)
  have l:=List.length_pos_iff.mpr (h r List.mem_cons_self)
  rw[List.flatten_cons,List.length_append,List.length_cons];omega
end
section
variable {prog:Program}{w:World}{A:Around}{E:Value→Shared→Prop}{s:Shared}{ltb:Keyed→Keyed→Bool}{S:Keyed→Prop}{κ:SortKind}
theorem two_at {α:Type}{l:List α}{i:Nat}(h:i+1<l.length):∃pre x y post,l=pre ++ [x,y]++post∧pre.length=i:=by
 refine⟨l.take i,l[i],l[i+1],l.drop (i+2),?_,by rw[List.length_take];omega⟩
 have e1:=List.drop_eq_getElem_cons (show i<l.length by omega)
 have e2:=List.drop_eq_getElem_cons h
 conv=>lhs;rw[← List.take_append_drop i l,e1,e2]
 simp
theorem wpS_mergeR (O:OrdB ltb) (hO:LtOk prog w A E s ltb S κ) {st:SortSt}{Q:Bool→SortSt→Prop}{a0:List Keyed}{rs:List (List Keyed)}{U:List Keyed}{i:Nat}(hS:∀x∈a0,S x) (ri:RI ltb κ a0 st rs U) (hi:i+1<rs.length)
  (h:∀st' rs',RI ltb κ a0 st' rs' U→rs'.length+1=rs.length→rs'.flatten.length=rs.flatten.length→Q true st'):wpS (model prog w) A E s (mergeAt' i) Q st:=by
 obtain⟨pre,r1,r2,post,rfl,hpre⟩:=two_at hi
 have off:=ri.offs
 rw[List.append_assoc]at off
 obtain⟨p1,p2,ep,lp,o1,o2⟩:=off.split
 cases p2 with
 | nil=>exact o2.elim
 | cons x p2 =>
  cases p2 with
  | nil=>exact o2.2.2.elim
  | cons y p3 =>
   obtain⟨x1,x2,y1,y2,o3⟩:=o2
   obtain⟨ba,ka,pw⟩:=x
   obtain⟨bb,kb,pv⟩:=y
   dsimp only at x1 x2 y1 y2
   have lp':p1.length=i:=by omega
   have g1:(pendingOf st)[i]? = some (ba,ka,pw):=by
    rw[← Array.getElem?_toList,ep,List.getElem?_append_right (by omega),lp',Nat.sub_self];rfl
   have g2:(pendingOf st)[i+1]? = some (bb,kb,pv):=by
    rw[← Array.getElem?_toList,ep,List.getElem?_append_right (by omega),lp',Nat.add_sub_cancel_left];rfl
   have q1:=ri.rise r1 (by simp)
   have q2:=ri.rise r2 (by simp)
   refine wpS_mergeAt O hO (P:=pre.flatten) (R1:=r1) (R2:=r2) (T:=post.flatten++U) ri.kind ri.fail g1 g2 (by rw[ri.arr];simp) (by omega) x2 (by omega) y2 q1.2 q2.2 q1.1 q2.1 (fun x hx=>hS x (ri.perm.mem_iff.mp hx)) fun st' R s1 s2 s3 s4 s5 s6=>?_
   have lR:R.length=r1.length+r2.length:=by rw[s2.length_eq,List.length_append]
   refine h st' (pre ++ [R]++post) ⟨s4,s5,by rw[s3];simp,?_,?_,?_⟩ (by simp;omega) (by simp[lR];omega)
   ·rw[s3]
    refine List.Perm.trans ?_ ri.perm
    rw[ri.arr]
    have:(pre.flatten++R++(post.flatten++U)).Perm (pre.flatten++(r1++r2)++(post.flatten++U)):=List.Perm.append_right _ (List.Perm.append_left _ s2)
    refine this.trans (List.Perm.of_eq (by simp))
   ·have e6:(pendingOf st').toList=p1++((ba,ka+kb,pw)::p3):=by
     rw[s6,Array.toList_eraseIdxIfInBounds,Array.toList_setIfInBounds,ep]
     rw[List.set_append_right _ _ (by omega),lp',Nat.sub_self]
     rw[List.eraseIdx_append_of_length_le (by omega),lp',Nat.add_sub_cancel_left]
     rfl
    rw[e6,List.append_assoc]
    refine Offs.app o1 ⟨x1,by show ka+kb=R.length;omega,?_⟩
    have e7:0+pre.flatten.length+R.length=0+pre.flatten.length+r1.length+r2.length:=by omega
    rw[e7];exact o3
   ·intro r hr
    rcases List.mem_append.mp hr with z|z
    ·rcases List.mem_append.mp z with z|z
     ·exact ri.rise r (by simp[z])
     ·simp at z
      rw[z]
      refine⟨s1,fun e=>?_⟩
      rw[e]at lR
      have:=List.length_pos_iff.mpr q1.2
      simp at lR;omega
    ·exact ri.rise r (by simp[z])
end
end L2
namespace L2
open PySem PySem.Spec PyProof.Rows
theorem Offs.mod {f:Nat×Nat×Nat→Nat×Nat×Nat}(hf:∀p,(f p).1=p.1∧(f p).2.1=p.2.1):∀{o:Nat}{rs:List (List Keyed)}{ps:List (Nat×Nat×Nat)}(k:Nat),Offs o rs ps→Offs o rs (ps.modify k f)
 | _,[],[],k,_=>by cases k <;> exact trivial
 | o,r::rs,p::ps,0,⟨a,b,t⟩=>⟨(hf p).1.trans a,(hf p).2.trans b,t⟩
 | o,r::rs,p::ps,k+1,⟨a,b,t⟩=>⟨a,b,Offs.mod hf k t⟩
section
variable {ltb:Keyed→Keyed→Bool}{κ:SortKind}{a0:List Keyed}{st:SortSt}{rs:List (List Keyed)}
theorem RI.push {run U2:List Keyed}{lo n:Nat}(ri:RI ltb κ a0 st rs (run++U2)) (h1:run.Pairwise (leB ltb)) (h2:run ≠ []) (el:lo=rs.flatten.length) (en:n=run.length):RI ltb κ a0 (setPending st ((pendingOf st).push (lo,n,0))) (rs ++ [run]) U2:=by
 refine⟨ri.kind,ri.fail,by show(arrOf st).toList=_;rw[ri.arr];simp,ri.perm,?_,fun r hr=>?_⟩
 ·show Offs 0 _ ((pendingOf st).push _).toList
  rw[Array.toList_push]
  exact Offs.app ri.offs ⟨by show lo=0+_;omega,en,trivial⟩
 ·rcases List.mem_append.mp hr with z|z
  ·exact ri.rise r z
  ·simp at z;rw[z];exact⟨h1,h2⟩
theorem RI.mod {U:List Keyed}(ri:RI ltb κ a0 st rs U) (pw k:Nat):RI ltb κ a0 (setPending st ((pendingOf st).modify k fun q=>(q.1,q.2.1,pw))) rs U :=
 ⟨ri.kind,ri.fail,ri.arr,ri.perm,by
  show Offs 0 rs ((pendingOf st).modify k _).toList
  rw[Array.toList_modify]
  exact Offs.mod (f:=fun q=>(q.1,q.2.1,pw)) (fun p=>⟨rfl,rfl⟩) k ri.offs,ri.rise⟩
end
theorem flat_snoc (rs:List (List Keyed)) (r:List Keyed):(rs ++ [r]).flatten.length=rs.flatten.length+r.length:=by simp
theorem rise_all {ltb:Keyed→Keyed→Bool}{R:List Keyed}(h:RiseTo ltb R R.length):R.Pairwise (leB ltb):=by
 rw[List.pairwise_iff_getElem]
 intro i j hi hj hij
 exact h i j _ _ hij hj (List.getElem?_eq_getElem hi) (List.getElem?_eq_getElem hj)
theorem rise_take {ltb:Keyed→Keyed→Bool}{R:List Keyed}{n:Nat}(h:RiseTo ltb R n) (hn:n≤R.length):(R.take n).Pairwise (leB ltb):=by
 apply rise_all
 intro i j x y hij hj hx hy
 rw[List.length_take]at hj
 rw[List.getElem?_take,if_pos (by omega)]at hx hy
 exact h i j x y hij (by omega) hx hy
theorem minRun_pos:∀(f n r:Nat),1≤n→1≤minRun' f n r
 | 0,n,r,h=>by show 1≤n+r;omega
 | f+1,n,r,h=>by
  rw[minRun'_succ]
  split
  ·omega
  ·exact minRun_pos f (n / 2) _ (by omega)
section
variable {prog:Program}{w:World}{A:Around}{E:Value→Shared→Prop}{s:Shared}{ltb:Keyed→Keyed→Bool}{S:Keyed→Prop}{κ:SortKind}
theorem wpS_sortB (O:OrdB ltb) (hO:LtOk prog w A E s ltb S κ) {st:SortSt}{Q:Unit→SortSt→Prop}{a0:List Keyed}(hk:kindOf st=κ) (hf:failedOf st=none) (harr:(arrOf st).toList=a0) (hp:pendingOf st = #[]) (hS:∀x∈a0,S x)
  (h:∀st',(arrOf st').toList.Perm a0→(arrOf st').toList.Pairwise (leB ltb)→failedOf st'=none→Q () st'):wpS (model prog w) A E s sortRuns' Q st:=by
 have hN:(arrOf st).size=a0.length:=by rw[← harr,Array.length_toList]
 rw[sortRuns'_eq]
 refine wpS_bind (wpS_get ?_)
 dsimp only
 rw[hN]
 have ri0:RI ltb κ a0 st [] a0:=⟨hk,hf,by rw[harr];rfl,by rw[harr],by rw[hp];exact trivial,fun r hr=>by cases hr⟩
 have split:∀{st' rs U},RI ltb κ a0 st' rs U→rs.flatten.length+U.length=a0.length:=fun {st' rs U} ri=>by
  have:=ri.perm.length_eq
  rw[ri.arr,List.length_append]at this;exact this
 refine wpS_bind (wpS_mono (wpS_forRange (I:=fun x c st'=>∃rs U,c =(none,rs.flatten.length)∧RI ltb κ a0 st' rs U∧x≤rs.flatten.length)
  (Q:=fun c st'=>∃rs,c =(none,a0.length)∧RI ltb κ a0 st' rs []∧rs.flatten.length=a0.length) ?stp ?fin ⟨[],a0,rfl,ri0,Nat.zero_le _⟩) ?post)
 case fin =>
  rintro c st' ⟨rs,U,rfl,ri,hx⟩
  have:=split ri
  have hU:U=[]:=List.length_eq_zero_iff.mp (by omega)
  subst hU
  refine⟨rs,?_,ri,by omega⟩
  rw[show rs.flatten.length=a0.length by omega]
 case post =>
  rintro c st1 ⟨rs,rfl,ri,hfl⟩
  dsimp only
  have hrl:=flat_len (rs:=rs) fun r hr=>(ri.rise r hr).2
  refine wpS_bind (wpS_mono (wpS_forRange (I:=fun x c st'=>∃rs,c =(none,())∧RI ltb κ a0 st' rs []∧rs.length+x≤a0.length)
   (Q:=fun c st'=>∃rs,c =(none,())∧RI ltb κ a0 st' rs []∧rs.length≤1) ?stp9 ?fin9 ⟨rs,rfl,ri,by omega⟩) ?post9)
  case fin9 =>
   rintro c st' ⟨rs,rfl,ri,hx⟩
   exact⟨rs,rfl,ri,by omega⟩
  case post9 =>
   rintro c st' ⟨rs,rfl,ri,hl⟩
   refine wpS_pure (h st' ri.perm ?_ ri.fail)
   rw[ri.arr,List.append_nil]
   cases rs with
   | nil=>exact List.Pairwise.nil
   | cons r rs =>
    have:rs=[]:=by simp at hl;exact hl
    subst this
    simp
    exact(ri.rise r (by simp)).1
  case stp9 =>
   rintro x c st' _ hx ⟨rs,rfl,ri,hl⟩
   have hpl:(pendingOf st').size=rs.length:=by rw[← Array.length_toList,← ri.offs.len]
   refine wpS_bind (wpS_get ?_)
   try dsimp only
   by_cases c1:(pendingOf st').size≤1
   ·rw[if_pos c1]
    exact wpS_pure ⟨rs,rfl,ri,by omega⟩
   rw[if_neg c1]
   refine wpS_bind (wpS_mergeR O hO hS ri ?_ fun st2 rs2 ri2 e1 e2=>?_)
   ·(repeat' split) <;> omega
   ·simp only[Bool.not_true,Bool.false_eq_true,if_false]
    exact wpS_pure ⟨rs2,rfl,ri2,by omega⟩
 case stp =>
  rintro x c st1 _ hx ⟨rs,U,rfl,ri,hxl⟩
  have hsp:=split ri
  dsimp only
  by_cases c1:rs.flatten.length ≥ a0.length
  ·rw[if_pos c1]
   have hU:U=[]:=List.length_eq_zero_iff.mp (by omega)
   subst hU
   refine wpS_pure ⟨rs,?_,ri,by omega⟩
   rw[show rs.flatten.length=a0.length by omega]
  rw[if_neg c1,show a0.length-rs.flatten.length=U.length by omega]
  have hSU:∀x∈U,S x:=fun x hx=>hS x (ri.perm.mem_iff.mp (by rw[ri.arr];exact List.mem_append_right _ hx))
  refine wpS_bind (wpS_runB O hO (P:=rs.flatten) (R:=U) ri.kind ri.fail ri.arr (by omega) hSU fun st2 R' n z n1 n2 rise=>?_)
  have lR':=z.perm.length_eq
  dsimp only
  by_cases c2:n<minRun' a0.length a0.length 0
  ·rw[if_pos c2]
   refine wpS_bind (wpS_lift (wpAny_rule ⟨rfl,?_⟩))
   have mp:=minRun_pos a0.length a0.length 0 (by omega)
   generalize minRun' a0.length a0.length 0=mr at c2 mp
   obtain⟨fo,efo⟩ : ∃fo,min U.length mr=fo:=⟨_,rfl⟩
   rw[efo]
   have lT:(R'.take fo).length=fo:=by rw[List.length_take];omega
   rw[show binarySort' rs.flatten.length fo n=binarySort' rs.flatten.length (R'.take fo).length n by rw[lT]]
   refine wpS_bind (wpS_binB O hO (P:=rs.flatten) (R:=R'.take fo) (T:=R'.drop fo) z.kind z.fail (by rw[z.arr,List.append_assoc,List.take_append_drop]) (by omega) (fun i j x y hij hj hx hy=>by
     rw[List.getElem?_take,if_pos (by omega)]at hx hy
     exact rise i j x y hij hj hx hy) (fun x hx=>hSU x (z.perm.mem_iff.mp (List.mem_of_mem_take hx))) fun st3 R3 a1 a2 a3 a4 a5 a6=>?_)
   simp only[Bool.not_true,Bool.false_eq_true,if_false]
   have l3:R3.length=fo:=by rw[a2.length_eq,lT]
   have r1:=rise_all a3
   have r2:R3 ≠ []:=fun e=>by rw[e]at l3;simp at l3;omega
   have rj:RI ltb κ a0 st3 rs (R3++R'.drop fo):=⟨a4,a5,by rw[a1,List.append_assoc],by
    rw[a1]
    refine List.Perm.trans ?_ ri.perm
    rw[ri.arr,List.append_assoc]
    refine List.Perm.append_left _ ((List.Perm.append_right _ a2).trans ?_)
    rw[List.take_append_drop];exact z.perm,by rw[a6,z.pend];exact ri.offs,ri.rise⟩
   refine wpS_bind (wpS_get ?_)
   cases hb:(pendingOf st3).back? with
   | none =>
    dsimp only
    refine wpS_bind (wpS_modify (wpS_pure ⟨rs ++ [R3],R'.drop fo,?_,rj.push r1 r2 rfl l3.symm,?_⟩))
    ·simp[l3]
    ·have:=List.length_pos_iff.mpr r2
     rw[flat_snoc];omega
   | some t =>
    obtain⟨s1,k1,p1⟩:=t
    dsimp only
    refine wpS_bind (wpS_mono (wpS_forRange (I:=fun x c st'=>∃rs',c =(none,())∧RI ltb κ a0 st' rs' (R3++R'.drop fo)∧rs'.flatten.length=rs.flatten.length)
     (Q:=fun c st'=>∃rs',c =(none,())∧RI ltb κ a0 st' rs' (R3++R'.drop fo)∧rs'.flatten.length=rs.flatten.length) ?stp7 ?fin7 ⟨rs,rfl,rj,rfl⟩) ?post7)
    case fin7 =>
     rintro c st' hh
     exact hh
    case post7 =>
     rintro c st4 ⟨rs',rfl,rk,ef⟩
     dsimp only
     refine wpS_bind (wpS_modify (wpS_bind (wpS_modify (wpS_pure ⟨rs' ++ [R3],R'.drop fo,?_,(rk.mod _ _).push r1 r2 ef.symm l3.symm,?_⟩))))
     ·simp[l3,ef]
     ·have:=List.length_pos_iff.mpr r2
      rw[flat_snoc];omega
    case stp7 =>
     rintro x c st4 _ hx ⟨rs',rfl,rk,ef⟩
     have hpl:(pendingOf st4).size=rs'.length:=by rw[← Array.length_toList,← rk.offs.len]
     refine wpS_bind (wpS_get ?_)
     try dsimp only
     by_cases c5:(pendingOf st4).size > 1
     ·rw[if_pos c5]
      cases hq:(pendingOf st4)[(pendingOf st4).size-2]? with
      | none=>exact wpS_pure ⟨rs',rfl,rk,ef⟩
      | some t =>
       obtain⟨t1,t2,t3⟩:=t
       dsimp only
       split
       ·exact wpS_pure ⟨rs',rfl,rk,ef⟩
       ·refine wpS_bind (wpS_mergeR O hO hS rk (by omega) fun st5 rs5 r5 e1 e2=>?_)
        simp only[Bool.not_true,Bool.false_eq_true,if_false]
        exact wpS_pure ⟨rs5,rfl,r5,by omega⟩
     ·rw[if_neg c5]
      exact wpS_pure ⟨rs',rfl,rk,ef⟩
  ·rw[if_neg c2]
   have lT:(R'.take n).length=n:=by rw[List.length_take];omega
   have r1:=rise_take rise (by omega)
   have r2:R'.take n ≠ []:=fun e=>by rw[e]at lT;simp at lT;omega
   have rj:RI ltb κ a0 st2 rs (R'.take n++R'.drop n):=⟨z.kind,z.fail,by rw[z.arr,List.take_append_drop],by
    rw[z.arr]
    refine List.Perm.trans ?_ ri.perm
    rw[ri.arr]
    exact List.Perm.append_left _ z.perm,by rw[z.pend];exact ri.offs,ri.rise⟩
   refine wpS_bind (wpS_get ?_)
   cases hb:(pendingOf st2).back? with
   | none =>
    dsimp only
    refine wpS_bind (wpS_modify (wpS_pure ⟨rs ++ [R'.take n],R'.drop n,?_,rj.push r1 r2 rfl lT.symm,?_⟩))
    ·simp[lT]
    ·have:=List.length_pos_iff.mpr r2
     rw[flat_snoc];omega
   | some t =>
    obtain⟨s1,k1,p1⟩:=t
    dsimp only
    refine wpS_bind (wpS_mono (wpS_forRange (I:=fun x c st'=>∃rs',c =(none,())∧RI ltb κ a0 st' rs' (R'.take n++R'.drop n)∧rs'.flatten.length=rs.flatten.length)
     (Q:=fun c st'=>∃rs',c =(none,())∧RI ltb κ a0 st' rs' (R'.take n++R'.drop n)∧rs'.flatten.length=rs.flatten.length) ?stp7 ?fin7 ⟨rs,rfl,rj,rfl⟩) ?post7)
    case fin7 =>
     rintro c st' hh
     exact hh
    case post7 =>
     rintro c st4 ⟨rs',rfl,rk,ef⟩
     dsimp only
     refine wpS_bind (wpS_modify (wpS_bind (wpS_modify (wpS_pure ⟨rs' ++ [R'.take n],R'.drop n,?_,(rk.mod _ _).push r1 r2 ef.symm lT.symm,?_⟩))))
     ·simp[lT,ef]
     ·have:=List.length_pos_iff.mpr r2
      rw[flat_snoc];omega
    case stp7 =>
     rintro x c st4 _ hx ⟨rs',rfl,rk,ef⟩
     have hpl:(pendingOf st4).size=rs'.length:=by rw[← Array.length_toList,← rk.offs.len]
     refine wpS_bind (wpS_get ?_)
     try dsimp only
     by_cases c5:(pendingOf st4).size > 1
     ·rw[if_pos c5]
      cases hq:(pendingOf st4)[(pendingOf st4).size-2]? with
      | none=>exact wpS_pure ⟨rs',rfl,rk,ef⟩
      | some t =>
       obtain⟨t1,t2,t3⟩:=t
       dsimp only
       split
       ·exact wpS_pure ⟨rs',rfl,rk,ef⟩
       ·refine wpS_bind (wpS_mergeR O hO hS rk (by omega) fun st5 rs5 r5 e1 e2=>?_)
        simp only[Bool.not_true,Bool.false_eq_true,if_false]
        exact wpS_pure ⟨rs5,rfl,r5,by omega⟩
     ·rw[if_neg c5]
      exact wpS_pure ⟨rs',rfl,rk,ef⟩
end
end L2
namespace L2
open PySem PySem.Spec PyProof.Rows
def ltI (x y:Keyed):Bool:=decide (numOf x.1<numOf y.1)
def isI (x:Keyed):Prop:=∃n t,x.1=Value.int n t
theorem ordI:OrdB ltI:=⟨fun {x y} h=>by
 have:numOf x.1<numOf y.1:=of_decide_eq_true h
 exact decide_eq_false (by omega),fun {x y z} h1 h2=>by
 have a1:¬ numOf y.1<numOf x.1:=of_decide_eq_false h1
 have a2:¬ numOf z.1<numOf y.1:=of_decide_eq_false h2
 exact decide_eq_false (by omega)⟩
section
variable {prog:Program}{w:World}{A:Around}{E:Value→Shared→Prop}{s:Shared}
theorem ltOkI:LtOk prog w A E s ltI isI oneType':=by
 intro x y st Q hx hy hk q
 obtain⟨n,t,e1⟩:=hx
 obtain⟨m,u,e2⟩:=hy
 rw[lt'_eq]
 refine wpS_bind (wpS_get ?_)
 rw[hk,keyLt'_oneType,e1,e2]
 refine wpS_bind (wpS_lift (wpAny_attempt (oneLt_int ⟨rfl,wpS_pure ?_⟩)))
 have:ltI x y=decide (n<m):=by unfold ltI;rw[e1,e2];rfl
 rw[← this];exact q
theorem riseK {xs:Array Keyed}(h:xs.toList.Pairwise (leB ltI)) (k:Nat) (hk:k=xs.size):SortedTo xs k:=by
 intro i j hij hj
 subst hk
 rw[K_eq (by omega),K_eq hj]
 by_cases e:i=j
 ·subst e;exact Int.le_refl _
 ·have:=List.pairwise_iff_getElem.mp h i j (by simp;omega) (by simpa using hj) (by omega)
  have q:¬ numOf xs[j].1<numOf xs[i].1:=by
   have:=of_decide_eq_false this
   simpa using this
  omega
theorem lsort_any {a:Addr}{vs:List Value}{ns:List Int}{n:Nat}{Z:Fin→Shared→Prop}(ho:s.heap.get? a=some (seqObj "list" vs.toArray n)) (hI:IntsAre vs ns) (hv:vs.length≤100000)
  (hZ:∀(out:Array Value) (ms:List Int),IntsAre out.toList ms→ms.Perm ns→ms.Pairwise (· ≤ ·)→Z (.done (.ret .none)) { s with heap:=sortedHeap s.heap a vs out }) :
  wpAny (model prog w) A (Builtin.«list.sort» ⟨[.ref a],[]⟩) Z E s:=by
 by_cases h64:vs.length<64
 ·exact list_sort_tree ho hI h64 hZ
 have hline:(100000:Nat)<sizeLine:=by decide
 have lt0:=Heap.lt_size ho
 rw[list_sort_plain]
 refine(wpAny_bind (listItems_at ho rfl ?_))
 refine(wpAny_bind (listUpdate_at ho rfl ?_ (by simp;omega)))
 obtain⟨k1,hk1⟩ : ∃k1,(s.heap.update a (Obj.mapSeq fun _=>#[])).get? a=some (seqObj "list" #[] k1):=⟨_,(get?_update_seq ho (fun _=>#[]))⟩
 refine(wpAny_bind (seqEpoch_at hk1 rfl ?_))
 refine(wpAny_bind (wpAny_newTuple ?_ (by simp;omega)))
 refine(wpAny_bind (wpAny_newList ?_))
 refine(wpAny_holding ?_)
 have hk6:(((s.heap.update a (Obj.mapSeq fun _=>#[])).push (seqObj "tuple" vs.toArray 0)).push (seqObj "list" #[] 0)).get? a=some (seqObj "list" #[] k1):=(by
  rw[Heap.get?_push_ne _ _ _ (by rw[size_push',Heap.size_update];exact Nat.ne_of_lt (Nat.lt_succ_of_lt lt0)),Heap.get?_push_ne _ _ _ (by rw[Heap.size_update];exact Nat.ne_of_lt lt0)]
  exact hk1)
 show wpAny (model prog w) A _ Z E { s with heap:=((s.heap.update a (Obj.mapSeq fun _=>#[])).push (seqObj "tuple" vs.toArray 0)).push (seqObj "list" #[] 0) }
 dsimp only
 have two:¬ vs.toArray.size<2:=by simp;omega
 rw[if_neg two,if_neg two]
 obtain⟨v,u,r,rfl⟩ : ∃v u r,vs=v::u::r:=by
  cases vs with
  | nil=>simp at h64
  | cons v vs=>cases vs with
   | nil=>simp at h64
   | cons u r=>exact⟨v,u,r,rfl⟩
 rw[keyKind_ints hI]
 refine(wpAny_bind (wpAny_pure ?_))
 have a0S:∀x∈(pairsOf (v::u::r)).toList,isI x:=hI.intKeys
 refine wpAny_bind (wpAny_mono (wpS_sortB ordI ltOkI (st:=SortSt.mk' oneType' ((v::u::r).toArray.zip (v::u::r).toArray) #[] 7 none) (a0:=(pairsOf (v::u::r)).toList) (Q:=fun _ st'=>(arrOf st').toList.Perm (pairsOf (v::u::r)).toList∧(arrOf st').toList.Pairwise (leB ltI)∧failedOf st'=none) rfl rfl rfl rfl a0S fun st' b1 b2 b3=>⟨b1,b2,b3⟩) ?_ fun _ _ e=>e)
 rintro⟨⟨⟩,st'⟩ s' ⟨rfl,b1,b2,b3⟩
 dsimp only
 have hp:(arrOf st').Perm (pairsOf (v::u::r)):=Array.perm_iff_toList_perm.mpr b1
 have hsz:=hp.size_eq
 refine(wpAny_bind (seqEpoch_at hk6 rfl ?_))
 refine wpAny_bind (listUpdate_at hk6 rfl ?_ (hsz2:=by
  rw[Array.size_map,hsz,pairsOf_size];omega))
 rw[b3]
 simp only[bne_self_eq_false,Bool.false_eq_true,if_false]
 obtain⟨ms,c1,c2,c3⟩:=sorted_out hI hp (riseK b2 _ hsz.symm)
 exact wpAny_pure (hZ _ ms c1 c2 c3)
theorem sorted_any {l:Addr}{vs:List Value}{ns:List Int}{Q:Value→Shared→Prop}(hl:s.heap.IsList l vs.toArray) (hI:IntsAre vs ns) (hv:vs.length≤100000)
  (hQ:∀(out:Array Value) (ms:List Int),IntsAre out.toList ms→ms.Perm ns→ms.Pairwise (· ≤ ·)→Q (.ref (s.heap.objs.size+1)) { s with heap:=sortedAll s.heap vs out }) :
  wpAny (model prog w) A (call (.builtin "sorted") [.ref l]) Q E s:=by
 have hline:(100000:Nat)<sizeLine:=by decide
 refine(Calls.call_function_entry kind_sorted plain_sorted entry_sorted (args_sorted1 _) ?_)
 unfold Builtin.«sorted»
 refine(wpAny_bind (m:=checkCount "sorted" 1 1 _) (wpAny_pure ?_))
 refine(wpAny_bind (collect_list hl ?_ (by omega)))
 refine(wpAny_bind (wpAny_newList ?_ (by first|omega|(simp;omega))))
 have sz1:((s.heap.push (seqObj "list" #[] 0)).update s.heap.objs.size (Obj.mapSeq (· ++ vs.toArray))).objs.size=s.heap.objs.size+1:=(by rw[Heap.size_update,size_push'])
 have at1:(((s.heap.push (seqObj "list" #[] 0)).update s.heap.objs.size (Obj.mapSeq (· ++ vs.toArray))).push (seqObj "list" vs.toArray 0)).get? (s.heap.objs.size+1)=some (seqObj "list" vs.toArray 0):=(by
  rw[← sz1];exact Heap.get?_push_size _ rfl)
 show wpAny _ _ _ _ E { s with heap:=((s.heap.push (seqObj "list" #[] 0)).update s.heap.objs.size (Obj.mapSeq (· ++ vs.toArray))).push (seqObj "list" vs.toArray 0) }
 rw[sz1]
 refine wpAny_bind (wpAny_holding (wpAny_call_entry slot_list_sort ⟨_,at1,rfl⟩ entry_list_sort (lsort_any at1 hI hv fun out ms c1 c2 c3=>⟨_,rfl,?_⟩) (args_list_sort _)))
 exact wpAny_pure ⟨_,rfl,hQ out ms c1 c2 c3⟩
end
section
variable {X:Cx}
def rSortL (K:PySem.W.Frag):List V→Hp→VK→Prop:=fun xs H Q=>∃a ns,xs=[.ref a]∧SqL K H a (List.map V.int ns)∧ns.length≤100000∧∀ms l,ms.Perm ns→ms.Pairwise (· ≤ ·)→H l=none→Q (.ref l) (upd H l (.lst (List.map V.int ms)))
theorem call_sortL:CallR X (.builtin "sorted") (rSortL X.K):=by
 intro pins s σ H xs us Q I r h
 obtain⟨a,ns,rfl,hq,hn,q⟩:=h
 obtain⟨u,rfl,r1⟩:=vals1 r
 cases (show u=Value.ref a from r1)
 obtain⟨its,rv,pl,hz⟩:=I.list hq
 have hi:IntsAre its ns:=intsAre_of rv
 refine sorted_any pl.isList hi (by rw[hi.length];exact hn) fun out ms c1 c2 c3=>?_
 obtain⟨e,he⟩:=sortedAll_at s.heap its out
 have hz2:(List.map V.int ms).length≤sizeLine:=by
  have hline:(100000:Nat)<sizeLine:=by decide
  rw[List.length_map,c2.length_eq];omega
 exact⟨.ref (s.heap.objs.size+1),_,I.laid (t':=s.toks) (fun b o hb=>sortedAll_old hb) (Nat.le_succ _) (o:=.lst (List.map V.int ms)) ⟨hz2,out.toList,e,vals_ints c1,by simpa using he⟩,rfl,q ms _ c2 c3 (I.hok.fresh (Nat.le_succ _))⟩
theorem rd_sortL {K:PySem.W.Frag}{H:Hp}{Q:VK}{a:Addr}{ns:List Int}(h:SqL K H a (ns.map V.int)) (n:ns.length≤100000) (q:∀(ms:List Int) (l:Addr),ms.Perm ns→ms.Pairwise (· ≤ ·)→H l=none→Q (.ref l) (upd H l (.lst (ms.map V.int)))):rSortL K [.ref a] H Q:=⟨a,ns,rfl,h,n,q⟩
end
end L2
namespace L2
open PySem PySem.Spec PyProof.Rows
section
variable {X:Cx}{K:PySem.W.Frag}
def rListOf (K:PySem.W.Frag):List V→Hp→VK→Prop:=fun xs H Q=>∃p ys,xs=[.ref p]∧(SqL K H p ys∨SqT K H p ys)∧∀l,H l=none→Q (.ref l) (upd H l (.lst ys))
theorem call_list_ofK (h:X.K=K):CallR X (.type "list") (rListOf K):=by subst h;exact call_list_of
end
section
variable {X:Cx}{K:PySem.W.Frag}{pos:Pos}
theorem pg_tupK {es:List Expr}{k:Nat}{t:TGs}{n:Nat}(h:X.K=K) (hc:X.calm=true) (hp:PGs X es t)
  (hn:(assignEach es X.env).length=n:=by rfl) (hst:(assignEach es X.env).findIdx? (·.1)=none:=by rfl):PG X (.Tuple es k pos) (gTup K n t):=by subst h;exact pg_tup hc hp hn hst
end
theorem rd_listOf {K:PySem.W.Frag}{H:Hp}{Q:VK}{a:Addr}{xs:List V}(h:SqL K H a xs) (q:∀l,H l=none→Q (.ref l) (upd H l (.lst xs))):rListOf K [.ref a] H Q:=⟨a,xs,rfl,.inl h,q⟩
theorem rd_aug {i:Nat}{te:TE}{ti:TIp}{D:Ends}{σ:St}{H:Hp}{x:V}(h:σ[i]? = some (some x)) (q:te σ H fun y H1=>ti x y H1 fun z H2=>D.nx (σ.set i (some z)) H2):tAug i te ti D σ H:=⟨x,h,q⟩
section
variable {σ:St}{H:Hp}{Q:VK}{D:Ends}
theorem rd_dput {td ty tv:TE}(h:tv σ H fun v H1=>td σ H1 fun x H2=>ty σ H2 fun y H3=>∃a H4,x = .ref a∧DPut H3 a y v H4∧D.nx σ H4):sDPut td ty tv D σ H:=h
theorem rd_dnewK (h:∀p,H p=none→Q (.ref p) (upd H p (.dK []))):tDNewK σ H Q:=h
end
section
variable {X:Cx}{elts:List Expr}{x1:_}{tpos:Pos}
end
section
variable {K:PySem.W.Frag}{H:Hp}{Q:VK}{σ:St}
end
end L2
namespace L2
open PySem PySem.Spec PyProof.Rows
section
variable {X:Cx}{pins:List (Addr×Obj)}{σ:St}{H:Hp}{s:Shared}{h':Heap}
theorem Inv.adopt {t':Nat}{ch:List Addr}{a:Addr}{o:HO}(I:Inv X pins σ H s) (k:∀b o,b∉ch→s.heap.get? b=some o→h'.get? b=some o) (f:∀b∈ch,FpOk X pins H b)
  (ha:a∈ch) (new:ObjOk X.prog X.w (upd H a o) h' a o):Inv X pins σ (upd H a o) { s with heap:=h',toks:=t' }:=by
 have nit:∀b u,H b=some u→b∉ch:=fun b u e z=>by rw[(f b z).1]at e;cases e
 have hn:=(f a ha).1
 have up:∀b u,H b=some u→upd H a o b=some u:=fun b u q=>by rw[upd_ne (ne_of_none q hn)];exact q
 refine I.step (g':=s.gens) (d':=s.drawn) (ch:=ch) (fun b hb=>?_) (fun b o _ _ hc e _=>k b o hc e) (fun b o _ _ hc e _=>⟨o.slots,k b o hc e⟩) (fun b ob hc e n=>by rw[upd_ne (show b≠a from fun z=>hc (by rw[z];exact ha))];exact n) (fun b o hc e=>⟨o,k b o hc e⟩) (fun b xs e=>up _ _ e) (fun b ob u e=>up _ _ e)
  (fun b ps e=>⟨#[],by rw[up _ _ e];simp⟩) (fun m hm=>?_) (fun b u e=>?_) I.bare
 ·obtain⟨f0,f1,f2,f3,f4,f5⟩:=f b hb
  exact⟨f3,f1,f4,f5⟩
 ·obtain⟨o,es,ep,ho,r⟩:=hm
  exact⟨o,es,ep,k _ o (fun z=>(f _ z).2.1 rfl) ho,r⟩
 ·by_cases hb:b=a
  ·subst hb;rw[upd_same]at e;cases e;exact new
  ·rw[upd_ne hb]at e
   refine(I.hok b u e).stay (fun c v hc q=>k c v ?_ q) (fun c q=>up _ _ q) fun c xs q=>up _ _ q
   rcases hc with z|z
   ·rw[z];exact nit b u e
   ·exact nit c _ z
variable {A:Around}{E:Value→Shared→Prop}
end
section
variable {prog:Program}{w:World}{A:Around}{E:Value→Shared→Prop}{s:Shared}
end
section
variable {X:Cx}{pins:List (Addr×Obj)}{σ:St}{H:Hp}{s:Shared}{E:Value→Shared→Prop}
end
section
variable {X:Cx}{e:Expr}{t:TA}{y:Str}{ps:List Str}{k:Nat}{sp:Sp}{p p2 kpos pos:Pos}
end
section
variable {X:Cx}
theorem seq_list_iadd:seqSlot? (.type "list") (dunderI "add")=pure (some (.builtin "list.__iadd__")):=PySem.seqSlot_of PySem.F.slot_list_iadd.lookup (by decide +kernel)
theorem iadd_lists {M:Model}{A:Around}{E:Value→Shared→Prop}{s:Shared}{a b:Value}{Q:Value→Shared→Prop}(ha:s.TypeIs a "list") (hb:s.TypeIs b "list") (hc:wpAny M A (call (.builtin "list.__iadd__") [a,b]) Q E s):wpAny M A (inplaceOp .Add a b) Q E s:=by
 unfold inplaceOp
 refine wpAny_holding ?_
 have hfi:fillsInplaceSlot (.type "list") "add" (Operator.Add == .Add)=pure false:=by
  unfold fillsInplaceSlot
  show(typeLookup (.type "list") (dunderI "add") >>= fun fi=>pure (fi.isSome && !isSeqSlot fi))=pure false
  rw[PySem.F.slot_list_iadd.lookup]
  show(pure ((some (Value.builtin "list.__iadd__")).isSome && !isSeqSlot (some (Value.builtin "list.__iadd__"))):Sem Bool)=pure false
  rw[show isSeqSlot (some (Value.builtin "list.__iadd__"))=true by decide +kernel];rfl
 refine wpAny_bind (wpAny_typeOf ha (wpAny_bind (wpAny_of_eq hfi ?_)))
 show wpAny M A (if false=true then _ else _) Q E s
 rw[if_neg Bool.false_ne_true]
 refine wpAny_bind (wpAny_binaryOp1_none (nm := "add") ha hb noFill_list_add ?_)
 refine wpAny_bind (wpAny_of_eq seq_list_iadd ?_)
 exact wpAny_bind (wpAny_rule hc)
def ipCat:TIp:=fun x y H Q=>∃l b xs zs,x = .ref l∧y = .ref b∧H l=some (.lst xs)∧H b=some (.lst zs)∧xs.length+zs.length≤sizeLine∧Q (.ref l) (upd H l (.lst (xs++zs)))
theorem ip_cat:PIp X .Add ipCat:=by
 intro pins s σ H x y v u Q I r1 r2 h
 obtain⟨l,b,xs,zs,rfl,rfl,hH,hB,hz,q⟩:=h
 cases r1
 cases r2
 obtain⟨z,its,n,r,hl,e⟩:=I.lstM hH
 obtain⟨z2,its2,n2,r2,hl2,e2⟩:=I.lstM hB
 have hsz:its.toArray.size+its2.toArray.size≤sizeLine:=by rw[List.size_toArray,List.size_toArray];omega
 have hlong:¬(!its.toArray.isEmpty && Builtin.List.listTooLong (its.toArray.size+its2.toArray.size))=true:=by
  rw[notLongL hsz,Bool.and_false]
  exact Bool.false_ne_true
 refine iadd_lists ⟨_,e,rfl⟩ ⟨_,e2,rfl⟩ ?_
 refine call_meets PySem.F.slot_list_iadd ⟨_,e,rfl⟩ PySem.F.entry_list_iadd (PySem.F.args_list_iadd_2 _ _)
  (AutoSeq1.list___iadd___list_list_0 l its.toArray n b its2.toArray n2 hlong (by rw[List.size_toArray];omega) (by omega)) ⟨e,e2,?_⟩
 refine⟨.ref l,_,I.lset (its':=its++its2) hH e (by simp) (r.append r2) ?_,rfl,q⟩
 rw[List.length_append]
 omega
end
end L2
namespace L2
open PySem PySem.Spec PyProof.Rows
section
variable {X:Cx}{pins:List (Addr×Obj)}{σ:St}{H:Hp}{s:Shared}
end
end L2
namespace L2
open PySem PySem.Spec PyProof.Rows
section
variable {X:Cx}{pins:List (Addr×Obj)}{σ:St}{H:Hp}{s:Shared}{scope:Scope}{y:Str}{fs:List Str}{js:List Nat}
end
section
variable {X:Cx}{e body:Expr}{t:TA}{te:TE}{k:Nat}{p kpos pos lpos:Pos}{params:Arguments}{scope:Scope}{y:Str}{fs:List Str}{js:List Nat}{P c:Addr}
end
section
variable {X:Cx}{a b:Expr}{rest:List Expr}{ta tb:TE}{pos:Pos}
end
end L2
namespace L2
open PySem PySem.Spec PyProof.Rows
theorem KV.get {κ:Type}:∀{kvs:List (κ×V)}{vs:List (κ×Value)}{i:Nat}{p:κ×V},KV kvs vs→kvs[i]? = some p→∃u,vs[i]? = some (p.1,u)∧RelV p.2 u
 | _,_,_,_,.nil,e=>by simp at e
 | _,_,0,_,.cons (b:=b) r _,e=>by
  simp at e;subst e
  exact⟨b.2,by rw[r.1];rfl,r.2⟩
 | _,_,i+1,p,.cons _ t,e=>by
  obtain⟨u,h1,h2⟩:=KV.get (i:=i) (p:=p) t (by simpa using e)
  exact⟨u,by simpa using h1,h2⟩
section
variable {X:Cx}
end
end L2
namespace L2
open PySem PySem.Spec PyProof.Rows
section
variable {X:Cx}
end
end L2
namespace L2
open PySem PySem.Spec PyProof.Rows
def TupI (h:Heap) (v:Value) (k:Int):Prop:=∃(a:Addr) (o:Obj) (n:Nat) (t:Tok) (rest:List Value),v = .ref a∧h.get? a=some o∧o.cls = .type "tuple"∧o.data = .seq (Value.int k t::rest).toArray n
def ltT (kf:Value→Int) (x y:Keyed):Bool:=decide (kf x.1<kf y.1)
theorem ordT (kf:Value→Int):OrdB (ltT kf):=⟨fun {x y} h=>by
 have:kf x.1<kf y.1:=of_decide_eq_true h
 exact decide_eq_false (by omega),fun {x y z} h1 h2=>by
 have a1:¬ kf y.1<kf x.1:=of_decide_eq_false h1
 have a2:¬ kf z.1<kf y.1:=of_decide_eq_false h2
 exact decide_eq_false (by omega)⟩
theorem keyLt'_tuples (b:Bool) (x y:Value):keyLt' (tuples' b) x y =(do
  let xs ← Builtin.List.listItems x;let ys ← Builtin.List.listItems y
  for ((p,q),i) in(xs.toList.zip ys.toList).zipIdx do
   if !(← eqBool p q) then return ← oneLt' (b && i == 0) p q
  return decide (xs.size<ys.size)):=rfl
section
variable {prog:Program}{w:World}{A:Around}{E:Value→Shared→Prop}{s:Shared}
theorem eqBool_self {v:Value}{Q:Bool→Shared→Prop}(q:Q true s):wpAny (model prog w) A (eqBool v v) Q E s:=by
 unfold eqBool
 refine wpAny_holding ?_
 rw[if_pos (by simp)]
 refine wpAny_bind (wpAny_rule ?_)
 exact wpAny_pure q
theorem loop_same {b:Bool}{E':Value→Shared→Prop}:∀(l:List Value) (i:Nat) (Q:Option Bool×Unit→Shared→Prop),Q (none,()) s→wpAny (model prog w) A (forIn ((l.zip l).zipIdx i) ((none,()):Option Bool×Unit) fun x __s=>do
   let __do_lift ← eqBool x.1.fst x.1.snd
   if (!__do_lift)=true then do
     let __do_lift ← oneLt' (b && x.snd == 0) x.1.fst x.1.snd
     pure (ForInStep.done (some __do_lift,()))
    else pure (ForInStep.yield (none,()))) Q E' s
 | [],i,Q,q=>by
  show wpAny (model prog w) A (pure (none,())) Q E' s
  exact wpAny_pure q
 | v::l,i,Q,q=>by
  simp only[List.zip_cons_cons,List.zipIdx_cons,List.forIn_cons]
  refine wpAny_bind (wpAny_bind (eqBool_self ?_))
  rw[if_neg (by simp)]
  refine wpAny_pure ?_
  exact loop_same l (i+1) Q q
theorem ltOkT {kf:Value→Int}{a0:List Keyed}(hT:∀x∈a0,TupI s.heap x.1 (kf x.1)) (hN:∀x∈a0,∀y∈a0,kf x.1=kf y.1→x.1=y.1):LtOk prog w A E s (ltT kf) (fun x=>x∈a0) (tuples' true):=by
 intro x y st Q hx hy hk q
 obtain⟨a,o,n,t,rest,e1,g1,c1,d1⟩:=hT x hx
 obtain⟨a',o',n',t',rest',e2,g2,c2,d2⟩:=hT y hy
 have hxy:=hN x hx y hy
 rw[lt'_eq]
 refine wpS_bind (wpS_get ?_)
 rw[hk,keyLt'_tuples]
 have hq:ltT kf x y=decide (kf x.1<kf y.1):=rfl
 generalize kf x.1=k1 at *
 generalize kf y.1=k2 at *
 rw[e1,e2]
 refine wpS_bind (wpS_lift (wpAny_attempt (wpAny_bind (listItems_at g1 d1 (wpAny_bind (listItems_at g2 d2 ?_))))))
 simp only[List.zip_cons_cons,List.zipIdx_cons,List.forIn_cons]
 by_cases c:k1=k2
 ·have exy:=hxy c
  rw[e1,e2]at exy
  cases exy
  rw[g1]at g2
  cases g2
  rw[d1]at d2
  cases d2
  refine wpAny_bind (wpAny_bind (wpAny_bind (eqBool_self ?_)))
  rw[if_neg (by simp)]
  refine wpAny_pure (loop_same rest _ _ ?_)
  refine wpAny_pure ⟨rfl,wpS_pure ?_⟩
  have e:decide ((Value.int k1 t::rest).toArray.size <(Value.int k1 t::rest).toArray.size)=ltT kf x y:=by rw[hq];simp
  rw[e];exact q
 ·refine wpAny_bind (wpAny_bind (wpAny_bind (wpAny_eqBool_int ?_)))
  rw[if_pos (by simp[c])]
  refine wpAny_bind (oneLt_int (wpAny_pure ?_))
  refine wpAny_pure (wpAny_pure ⟨rfl,wpS_pure ?_⟩)
  rw[← hq];exact q
theorem first_tup {v:Value}{k:Int}{Q:Option Value→Shared→Prop}(h:TupI s.heap v k) (q:∀t,Q (some (.int k t)) s):wpAny (model prog w) A (firstOfTuple' v) Q E s:=by
 obtain⟨a,o,n,t,rest,rfl,g1,c1,d1⟩:=h
 show wpAny (model prog w) A (do
  if (← typeOf (.ref a)) != .type "tuple" then return none
  return (← Builtin.List.listItems (.ref a))[0]?) Q E s
 refine wpAny_bind (wpAny_typeOf_ref g1 ?_)
 rw[c1,if_neg (by simp)]
 refine wpAny_bind (listItems_at g1 d1 (wpAny_pure ?_))
 exact q t
theorem firsts_tup:∀{vs:List Value}{ks:List Int}{Q:List (Option Value)→Shared→Prop},(∀p∈vs.zip ks,TupI s.heap p.1 p.2)→vs.length=ks.length→(∀us:List Value,IntsAre us ks→Q (us.map some) s)→wpAny (model prog w) A (vs.mapM firstOfTuple') Q E s
 | [],[],Q,_,_,q=>by
  rw[List.mapM_nil]
  exact wpAny_pure (q [] .nil)
 | [],_::_,_,_,l,_=>by cases l
 | _::_,[],_,_,l,_=>by cases l
 | v::vs,k::ks,Q,h,l,q=>by
  rw[List.mapM_cons]
  refine wpAny_bind (first_tup (h (v,k) (by simp)) fun t=>?_)
  refine wpAny_bind (firsts_tup (ks:=ks) (fun p hp=>h p (by simp[hp])) (by simpa using l) fun us hu=>?_)
  exact wpAny_pure (q (.int k t::us) (.cons k t hu))
theorem one_int {us:List Value}{k:Int}{ks:List Int}(h:IntsAre us (k::ks)):oneTypeOnly' us.toArray=pure (some (.type "int")):=by
 rw[oneTypeOnly'_eq,List.mapM_toArray,mapM_typeOf_ints h]
 simp only[map_pure,pure_bind]
 cases h with
 | cons n t h =>
  have hall:∀l:List Value,((List.map (fun _=>Value.type "int") l).toArray.all fun x=>x == Value.type "int")=true:=fun l=>by
   simp only[List.all_toArray,List.all_map,List.all_eq_true]
   intro _ _
   rfl
  have h0:∀(u:Value) (l:List Value),(List.map (fun _=>Value.type "int") (u::l)).toArray[0]? = some (Value.type "int"):=fun _ _=>by simp
  rw[h0]
  simp only[hall,if_true]
theorem keyKind_tups {vs:List Value}{k:Int}{ks:List Int}{Q:SortKind→Shared→Prop}(h:∀p∈vs.zip (k::ks),TupI s.heap p.1 p.2) (l:vs.length =(k::ks).length) (q:Q (tuples' true) s):wpAny (model prog w) A (keyKind' vs.toArray) Q E s:=by
 rw[keyKind'_eq,List.mapM_toArray]
 refine wpAny_bind ?_
 refine wpAny_map ?_
 refine firsts_tup h l fun us hu=>?_
 rw[if_pos (by simp)]
 refine wpAny_bind (wpAny_rule ?_)
 have e:(us.map some).toArray.filterMap id=us.toArray:=by simp
 rw[e,one_int hu]
 refine wpAny_bind (wpAny_pure ?_)
 exact wpAny_pure q
theorem TupI.keep {h h':Heap}{v:Value}{k:Int}(t:TupI h v k) (f:∀a o,o.cls = .type "tuple"→h.get? a=some o→h'.get? a=some o):TupI h' v k:=by
 obtain⟨a,o,n,t,rest,e,g,c,d⟩:=t
 exact⟨a,o,n,t,rest,e,f a o c g,c,d⟩
theorem zip_self {vs:List Value}:∀{p:Value×Value},p∈vs.zip vs→p.1=p.2∧p.1∈vs:=fun h=>mem_zip_self h
theorem zipk {kf:Value→Int}:∀{l:List Value}{p:Value×Int},p∈l.zip (l.map kf)→p.1∈l∧p.2=kf p.1
 | [],_,h=>by simp at h
 | v::l,p,h=>by
  rw[List.map_cons,List.zip_cons_cons]at h
  rcases List.mem_cons.mp h with z|z
  ·rw[z];exact⟨List.mem_cons_self,rfl⟩
  ·obtain⟨a,b⟩:=zipk z
   exact⟨List.mem_cons_of_mem _ a,b⟩
theorem lsort_tups {kf:Value→Int}{a:Addr}{vs:List Value}{n:Nat}{Z:Fin→Shared→Prop}(ho:s.heap.get? a=some (seqObj "list" vs.toArray n)) (hT:∀v∈vs,TupI s.heap v (kf v)) (hN:∀v∈vs,∀u∈vs,kf v=kf u→v=u) (hv:vs.length≤100000)
  (hZ:∀out:Array Value,out.toList.Perm vs→out.toList.Pairwise (fun u v=>kf u≤kf v)→Z (.done (.ret .none)) { s with heap:=sortedHeap s.heap a vs out }) :
  wpAny (model prog w) A (Builtin.«list.sort» ⟨[.ref a],[]⟩) Z E s:=by
 have hline:(100000:Nat)<sizeLine:=by decide
 have lt0:=Heap.lt_size ho
 rw[list_sort_plain]
 refine(wpAny_bind (listItems_at ho rfl ?_))
 refine(wpAny_bind (listUpdate_at ho rfl ?_ (by simp;omega)))
 obtain⟨k1,hk1⟩ : ∃k1,(s.heap.update a (Obj.mapSeq fun _=>#[])).get? a=some (seqObj "list" #[] k1):=⟨_,(get?_update_seq ho (fun _=>#[]))⟩
 refine(wpAny_bind (seqEpoch_at hk1 rfl ?_))
 refine(wpAny_bind (wpAny_newTuple ?_ (by simp;omega)))
 refine(wpAny_bind (wpAny_newList ?_))
 refine(wpAny_holding ?_)
 have hk6:(((s.heap.update a (Obj.mapSeq fun _=>#[])).push (seqObj "tuple" vs.toArray 0)).push (seqObj "list" #[] 0)).get? a=some (seqObj "list" #[] k1):=(by
  rw[Heap.get?_push_ne _ _ _ (by rw[size_push',Heap.size_update];exact Nat.ne_of_lt (Nat.lt_succ_of_lt lt0)),Heap.get?_push_ne _ _ _ (by rw[Heap.size_update];exact Nat.ne_of_lt lt0)]
  exact hk1)
 have keep:∀b o,o.cls = .type "tuple"→s.heap.get? b=some o→(((s.heap.update a (Obj.mapSeq fun _=>#[])).push (seqObj "tuple" vs.toArray 0)).push (seqObj "list" #[] 0)).get? b=some o:=fun b o hc hb=>by
  have hlt:=Heap.lt_size hb
  have nb:b≠a:=fun z=>by
   subst z
   rw[ho]at hb
   cases hb
   exact absurd (show Value.type "list" = Value.type "tuple" from hc) (by decide)
  rw[Heap.get?_push_ne _ _ _ (by rw[size_push',Heap.size_update];exact Nat.ne_of_lt (Nat.lt_succ_of_lt hlt)),Heap.get?_push_ne _ _ _ (by rw[Heap.size_update];exact Nat.ne_of_lt hlt),Heap.get?_update_ne _ _ _ _ nb]
  exact hb
 show wpAny (model prog w) A _ Z E { s with heap:=((s.heap.update a (Obj.mapSeq fun _=>#[])).push (seqObj "tuple" vs.toArray 0)).push (seqObj "list" #[] 0) }
 dsimp only
 by_cases two:vs.toArray.size<2
 ·rw[if_pos two,if_pos two]
  refine(wpAny_bind (wpAny_pure ?_))
  refine wpAny_bind ?_
  show wpAny (model prog w) A (pure ((),SortSt.mk' general' (vs.toArray.zip vs.toArray) #[] 7 none)) _ _ _
  refine wpAny_pure ?_
  refine(wpAny_bind (seqEpoch_at hk6 rfl ?_))
  have ev:(vs.toArray.zip vs.toArray).map (·.2)=vs.toArray:=by
   apply Array.ext'
   rw[Array.toList_map,Array.toList_zip,List.map_snd_zip (by simp)]
  refine wpAny_bind (listUpdate_at hk6 rfl ?_ (hsz2:=by
   rw[show arrOf (SortSt.mk' general' (vs.toArray.zip vs.toArray) #[] 7 none)=vs.toArray.zip vs.toArray from rfl,ev];simp;omega))
  dsimp only
  rw[show arrOf (SortSt.mk' general' (vs.toArray.zip vs.toArray) #[] 7 none)=vs.toArray.zip vs.toArray from rfl,ev]
  simp only[bne_self_eq_false,Bool.false_eq_true,if_false]
  refine wpAny_pure (hZ _ (by simp) ?_)
  match vs,two with
  | [],_=>simp
  | [_],_=>simp
  | _::_::_,h=>simp at h;omega
 ·rw[if_neg two,if_neg two]
  obtain⟨v,r,rfl⟩ : ∃v r,vs=v::r:=by
   cases vs with
   | nil=>simp at two
   | cons v r=>exact⟨v,r,rfl⟩
  refine wpAny_bind (keyKind_tups (k:=kf v) (ks:=r.map kf) (fun p hp=>?_) (by simp) ?_)
  ·obtain⟨m1,m2⟩:=zipk (l:=v::r) (p:=p) (by simpa using hp)
   rw[m2]
   exact(hT _ m1).keep keep
  have a0T:∀x∈(pairsOf (v::r)).toList,TupI (((s.heap.update a (Obj.mapSeq fun _=>#[])).push (seqObj "tuple" (v::r).toArray 0)).push (seqObj "list" #[] 0)) x.1 (kf x.1):=fun x hx=>by
   rw[pairsOf_toList]at hx
   exact(hT _ (zip_self hx).2).keep keep
  have a0N:∀x∈(pairsOf (v::r)).toList,∀y∈(pairsOf (v::r)).toList,kf x.1=kf y.1→x.1=y.1:=fun x hx y hy=>by
   rw[pairsOf_toList]at hx hy
   exact hN _ (zip_self hx).2 _ (zip_self hy).2
  refine wpAny_bind (wpAny_mono (wpS_sortB (ordT kf) (ltOkT a0T a0N) (st:=SortSt.mk' (tuples' true) ((v::r).toArray.zip (v::r).toArray) #[] 7 none) (a0:=(pairsOf (v::r)).toList) (Q:=fun _ st'=>(arrOf st').toList.Perm (pairsOf (v::r)).toList∧(arrOf st').toList.Pairwise (leB (ltT kf))∧failedOf st'=none) rfl rfl rfl rfl (fun x hx=>hx) fun st' b1 b2 b3=>⟨b1,b2,b3⟩) ?_ fun _ _ e=>e)
  rintro⟨⟨⟩,st'⟩ s' ⟨rfl,b1,b2,b3⟩
  dsimp only
  have hp:(arrOf st').Perm (pairsOf (v::r)):=Array.perm_iff_toList_perm.mpr b1
  have hsz:=hp.size_eq
  refine(wpAny_bind (seqEpoch_at hk6 rfl ?_))
  refine wpAny_bind (listUpdate_at hk6 rfl ?_ (hsz2:=by
   rw[Array.size_map,hsz,pairsOf_size];omega))
  rw[b3]
  simp only[bne_self_eq_false,Bool.false_eq_true,if_false]
  refine wpAny_pure (hZ _ ?_ ?_)
  ·rw[Array.toList_map]
   have:=b1.map (·.2)
   rw[pairsOf_toList]at this
   refine this.trans ?_
   rw[List.map_snd_zip (by simp)]
  ·rw[Array.toList_map,List.pairwise_map]
   refine b2.imp_of_mem fun {x y} hx hy h=>?_
   have ex:=zip_self (by rw[← pairsOf_toList];exact b1.mem_iff.mp hx)
   have ey:=zip_self (by rw[← pairsOf_toList];exact b1.mem_iff.mp hy)
   rw[← ex.1,← ey.1]
   have:=of_decide_eq_false h
   omega
theorem sorted_tups {kf:Value→Int}{l:Addr}{vs:List Value}{Q:Value→Shared→Prop}(hl:s.heap.IsList l vs.toArray) (hT:∀v∈vs,TupI s.heap v (kf v)) (hN:∀v∈vs,∀u∈vs,kf v=kf u→v=u) (hv:vs.length≤100000)
  (hQ:∀out:Array Value,out.toList.Perm vs→out.toList.Pairwise (fun u v=>kf u≤kf v)→Q (.ref (s.heap.objs.size+1)) { s with heap:=sortedAll s.heap vs out }) :
  wpAny (model prog w) A (call (.builtin "sorted") [.ref l]) Q E s:=by
 have hline:(100000:Nat)<sizeLine:=by decide
 refine(Calls.call_function_entry kind_sorted plain_sorted entry_sorted (args_sorted1 _) ?_)
 unfold Builtin.«sorted»
 refine(wpAny_bind (m:=checkCount "sorted" 1 1 _) (wpAny_pure ?_))
 refine(wpAny_bind (collect_list hl ?_ (by omega)))
 refine(wpAny_bind (wpAny_newList ?_ (by first|omega|(simp;omega))))
 have sz1:((s.heap.push (seqObj "list" #[] 0)).update s.heap.objs.size (Obj.mapSeq (· ++ vs.toArray))).objs.size=s.heap.objs.size+1:=(by rw[Heap.size_update,size_push'])
 have at1:(((s.heap.push (seqObj "list" #[] 0)).update s.heap.objs.size (Obj.mapSeq (· ++ vs.toArray))).push (seqObj "list" vs.toArray 0)).get? (s.heap.objs.size+1)=some (seqObj "list" vs.toArray 0):=(by
  rw[← sz1];exact Heap.get?_push_size _ rfl)
 have keep:∀b o,o.cls = .type "tuple"→s.heap.get? b=some o→(((s.heap.push (seqObj "list" #[] 0)).update s.heap.objs.size (Obj.mapSeq (· ++ vs.toArray))).push (seqObj "list" vs.toArray 0)).get? b=some o:=fun b o _ hb=>by
  have hlt:=Heap.lt_size hb
  rw[Heap.get?_push_ne _ _ _ (by rw[Heap.size_update,size_push'];exact Nat.ne_of_lt (Nat.lt_succ_of_lt hlt)),Heap.get?_update_ne _ _ _ _ (Nat.ne_of_lt hlt),Heap.get?_push_ne _ _ _ (Nat.ne_of_lt hlt)]
  exact hb
 show wpAny _ _ _ _ E { s with heap:=((s.heap.push (seqObj "list" #[] 0)).update s.heap.objs.size (Obj.mapSeq (· ++ vs.toArray))).push (seqObj "list" vs.toArray 0) }
 rw[sz1]
 refine wpAny_bind (wpAny_holding (wpAny_call_entry slot_list_sort ⟨_,at1,rfl⟩ entry_list_sort (lsort_tups (kf:=kf) at1 (fun v hv=>(hT v hv).keep keep) hN hv fun out c1 c2=>⟨_,rfl,?_⟩) (args_list_sort _)))
 exact wpAny_pure ⟨_,rfl,hQ out c1 c2⟩
end
section
variable {X:Cx}
def rSortT (K:PySem.W.Frag):List V→Hp→VK→Prop:=fun xs H Q=>∃(a:Addr) (ts:List Addr) (kf:Addr→Int),xs=[.ref a]∧SqL K H a (ts.map V.ref)∧ts.length≤100000∧(∀t∈ts,∃rest,H t=some (.tup (V.int (kf t)::rest)))∧(∀t∈ts,∀u∈ts,kf t=kf u→t=u) ∧
 ∀(us:List Addr) (l:Addr),us.Perm ts→us.Pairwise (fun t u=>kf t≤kf u)→H l=none→Q (.ref l) (upd H l (.lst (us.map V.ref)))
theorem vals_refs:∀{ts:List Addr}{its:List Value},Vals (ts.map V.ref) its→its=ts.map Value.ref
 | [],_,r=>by cases r;rfl
 | t::ts,_,r=>by
  cases r with
  | cons r1 r2 =>
   rw[vals_refs r2]
   cases (show _=Value.ref t from r1)
   rfl
theorem refs_vals:∀(ts:List Addr),Vals (ts.map V.ref) (ts.map Value.ref)
 | []=>.nil
 | t::ts=>.cons rfl (refs_vals ts)
def kfV (kf:Addr→Int):Value→Int
 | .ref a=>kf a
 | _=>0
theorem call_sortT:CallR X (.builtin "sorted") (rSortT X.K):=by
 intro pins s σ H xs us Q I r h
 obtain⟨a,ts,kf,rfl,hq,hn,hT,hN,q⟩:=h
 obtain⟨u,rfl,r1⟩:=vals1 r
 cases (show u=Value.ref a from r1)
 obtain⟨its,rv,pl,hz⟩:=I.list hq
 have ei:=vals_refs rv
 subst ei
 refine sorted_tups (kf:=kfV kf) pl.isList (fun v hv=>?_) (fun v hv u hu e=>?_) (by rw[List.length_map];exact hn) fun out c1 c2=>?_
 ·obtain⟨t,ht,rfl⟩:=List.mem_map.mp hv
  obtain⟨rest,hr⟩:=hT t ht
  obtain⟨its2,rv2,⟨o,e,c,n,d⟩,_⟩:=I.tuple (SqT.of hr)
  cases rv2 with
  | cons r1 r2 =>
   obtain⟨tk,rfl⟩:=r1
   exact⟨t,o,n,tk,_,rfl,e,c,d⟩
 ·obtain⟨t,ht,rfl⟩:=List.mem_map.mp hv
  obtain⟨t',ht',rfl⟩:=List.mem_map.mp hu
  exact congrArg Value.ref (hN t ht t' ht' e)
 ·obtain⟨e,he⟩:=sortedAll_at s.heap (ts.map Value.ref) out
  obtain⟨us2,p1,p2⟩ : ∃us2:List Addr,us2.Perm ts∧out.toList=us2.map Value.ref:=by
   refine⟨out.toList.map fun v=>match v with | .ref a=>a|_=>0,?_,?_⟩
   ·have:=c1.map (fun v=>match v with|Value.ref a=>a|_=>0)
    refine this.trans ?_
    rw[List.map_map]
    exact List.Perm.of_eq (by simp[Function.comp_def])
   ·rw[List.map_map]
    refine(List.map_id _).symm.trans (List.map_congr_left fun v hv=>?_)
    obtain⟨t,_,rfl⟩:=List.mem_map.mp (c1.mem_iff.mp hv)
    rfl
  have hz2:(us2.map V.ref).length≤sizeLine:=by
   have hline:(100000:Nat)<sizeLine:=by decide
   rw[List.length_map,p1.length_eq];omega
  rw[p2,List.pairwise_map]at c2
  exact⟨.ref (s.heap.objs.size+1),_,I.laid (t':=s.toks) (fun b o hb=>sortedAll_old hb) (Nat.le_succ _) (o:=.lst (us2.map V.ref)) ⟨hz2,out.toList,e,by rw[p2];exact refs_vals us2,by simpa using he⟩,rfl,q us2 _ p1 c2 (I.hok.fresh (Nat.le_succ _))⟩
end
end L2
namespace PySem
namespace F
theorem plain_upd_loop:plainId "dict.update.loop" = true:=by decide +kernel
theorem entry_upd_loop:entryFor table "dict.update.loop" = some Builtin.«dict.update.loop»:=entryFor_of_fast (by kernel_rfl)
theorem list_no_keys:typeLookup (.type "list") "keys" = pure none:=by rw[typeLookup_type,builtinLookup_eq_fast];kernel_rfl
end F
theorem getAttrQ_miss_list {prog:Program}{w:World}{A:Around}{E:Value→Shared→Prop}{s:Shared}{a:Addr}{o:Obj}{xs:Array Value}{k:Nat}{Q:Option Value→Shared→Prop}
  (hx:s.heap.get? a=some o) (hc:o.cls = .type "list") (hdat:o.data = .seq xs k) (hd:o.dict=none) (hA:A.handled=none)
  (h:∀h' tk,(∀b ob,s.heap.get? b=some ob→h'.get? b=some ob)→Q none { s with heap:=h',toks:=tk }) :
  wpAny (model prog w) A (getAttr? (.ref a) "keys") Q E s:=by
 have hmiss:=F.list_no_keys
 obtain⟨c,dct,dat,sl⟩:=o
 simp only at hc hdat hd
 subst hc hdat hd
 obtain⟨hp,g,d,tk,os⟩:=s
 have hT:∀tk',(⟨hp,g,d,tk',os⟩ : Shared).TypeIs (.ref a) "list" := fun _=>⟨_,hx,rfl⟩
 have f1:=sub_AttributeError
 have f3:=F.slot_list_getattribute.lookup
 have f4:=F.slot_list_getattribute.bind (.ref a)
 have f5:=am_list_getattr_none
 unfold getAttr? getAttrBy? getAttrBy
 repeat (any_goals (first|assumption|exact hT _|((with_reducible show wpAny _ _ (call (Value.builtin "list.__getattribute__") _ _) _ _ _);refine call_meets F.slot_list_getattribute (hT _) am_entry_list_getattribute (F.args_list_getattribute_2 _ _) (meets_getattribute_miss_list a xs k sl "keys" _ hmiss (by decide +kernel) (by decide +kernel)) ⟨hx,hA,fun h' tk' e hx'=>?_⟩)|wp_step))
 obtain⟨t',u',he⟩:=hx'.there
 show wpAny _ _ (getattributeRaised _ _ _ _ _ _ _) _ _ _
 unfold getattributeRaised
 repeat (any_goals (first|assumption|wp_step))
 exact h _ _ hx'.keeps
end PySem
namespace L2
open PySem PySem.Spec PyProof.Rows
section
variable {prog:Program}{w:World}{κ:Type} [DecidableEq κ] {knd:KeyKind prog w κ}{A:Around}{E:Value→Shared→Prop}{s:Shared}
inductive PairsAt (knd:KeyKind prog w κ) (h:Heap):List Value→List (κ×Value)→Prop
 | nil:PairsAt knd h [] []
 | cons {a:Addr}{o:Obj}{n:Nat}{key val:Value}{k:κ}{vs:List Value}{rs:List (κ×Value)}:h.get? a=some o→o.cls = .type "tuple"→o.data = .seq #[key,val] n→knd.is k key=true→PairsAt knd h vs rs→PairsAt knd h (.ref a::vs) ((k,val)::rs)
theorem PairsAt.get {h:Heap}:∀{vs:List Value}{rs:List (κ×Value)}{i:Nat}{v:Value},PairsAt knd h vs rs→vs[i]? = some v→∃a o n key val k,v = .ref a∧h.get? a=some o∧o.cls = .type "tuple"∧o.data = .seq #[key,val] n∧knd.is k key=true∧rs[i]? = some (k,val)
 | _,_,_,_,.nil,e=>by simp at e
 | _,_,0,_,.cons h1 h2 h3 h4 t,e=>by
  rw[List.getElem?_cons_zero]at e
  cases e
  exact⟨_,_,_,_,_,_,rfl,h1,h2,h3,h4,rfl⟩
 | _,_,i+1,_,.cons h1 h2 h3 h4 t,e=>PairsAt.get (i:=i) t (by simpa using e)
theorem PairsAt.len {h:Heap}:∀{vs:List Value}{rs:List (κ×Value)},PairsAt knd h vs rs→vs.length=rs.length
 | _,_,.nil=>rfl
 | _,_,.cons _ _ _ _ t=>congrArg (· + 1) t.len
theorem codeAny_pairs_loop {h0:Heap}{l d it:Addr}{items:List Value}{rs:List (κ×Value)}{R:Result→Shared→Prop}(hA:A.in1.handled=none) (hl:h0.IsList l items.toArray) (hP:PairsAt knd h0 items rs) (hd:h0.get? d=none) (hi:h0.get? it=none) (di:d≠it) (hz:items.length≤100000) :
  ∀(k i:Nat) (s:Shared) (vs:List (κ×Value)),items.length-i=k→i≤items.length→vs.length≤i→s.heap.IsListIter it l i→(∀b o,h0.get? b=some o→s.heap.get? b=some o)→s.heap.DictOf knd d vs →
  (∀s',s'.gens=s.gens→s'.drawn=s.drawn→s'.os=s.os→(∀b o,b≠d→b≠it→s.heap.get? b=some o→s'.heap.get? b=some o)→s'.heap.DictOf knd d (merged vs (rs.drop i))→R (.ok (.ret .none)) s') →
  codeAny (model prog w) A (.builtin "dict.update.loop" ⟨[.ref d,.ref it,.int i 0,.none],[]⟩) R s:=by
 have hline:(100000:Nat)<sizeLine:=by decide
 have rl:=hP.len
 intro k
 induction k with
 | zero =>
  intro i s vs hk hi' hv hit hb hm hR
  have hin:i=items.length:=by omega
  refine codeAny_builtin F.entry_upd_loop ?_
  rw[Around.under_plainId F.plain_upd_loop _]
  show wpAny _ A.in1 (pyNext (.ref it) >>= _) _ _ s
  have hl':s.heap.IsList l items.toArray:=by
   obtain⟨o,e,r⟩:=hl
   exact⟨o,hb _ _ e,r⟩
  refine wpAny_bind (wpAny_pyNext_list_end hA hit hl' (by simp;omega) fun h' hx=>?_)
  show wpAny _ A.in1 (Builtin.Dict.addKeywords d [] >>= fun _=>ret .none) _ _ _
  refine wpAny_bind (wpAny_pure ?_)
  refine wpAny_pure (hR _ rfl rfl rfl (fun b o n1 n2 e=>hx b o n2 e) ?_)
  rw[List.drop_eq_nil_of_le (by omega)]
  exact hm.extBut hx di
 | succ k ih =>
  intro i s vs hk hi' hv hit hb hm hR
  have hlt:i<items.length:=by omega
  obtain⟨x,hx⟩ : ∃x,items[i]? = some x:=⟨_,List.getElem?_eq_getElem hlt⟩
  obtain⟨a,o,n,key,val,kk,rfl,g1,c1,d1,k1,r1⟩:=hP.get hx
  refine codeAny_builtin F.entry_upd_loop ?_
  rw[Around.under_plainId F.plain_upd_loop _]
  show wpAny _ A.in1 (pyNext (.ref it) >>= _) _ _ s
  have hl':s.heap.IsList l items.toArray:=by
   obtain⟨o,e,r⟩:=hl
   exact⟨o,hb _ _ e,r⟩
  refine wpAny_bind (wpAny_pyNext_list_item hit hl' (by simpa using hx) fun h' hit' sb=>?_)
  have hb':∀b o,h0.get? b=some o→h'.get? b=some o:=fun b o e=>by
   have nb:b≠it:=fun z=>by rw[z,hi]at e;cases e
   rw[sb.2 b nb];exact hb _ _ e
  have hm':h'.DictOf knd d vs:=hm.sameBut sb di
  have ga:=hb' _ _ g1
  refine wpAny_bind (wpAny_holding ?_)
  refine wpAny_bind (wpAny_tryCatch ?_)
  unfold Builtin.Dict.pairItems
  refine wpAny_bind (wpAny_typeOf_ref ga ?_)
  rw[c1,if_pos (by decide)]
  refine wpAny_bind (wpAny_seqItems ga d1 ?_)
  refine wpAny_pure ?_
  show wpAny _ _ (holding [key,val] (dictSet d key val)) _ _ _
  refine wpAny_holding (wpAny_dictSet_pairs k1 hm' (fun h'' hd'' sb''=>?_) (by omega))
  refine wpAny_pure ⟨plainId_quiet F.plain_upd_loop _,?_⟩
  have e:rawInt ((i:Int)+1) = .int ((i+1:Nat):Int) 0:=rfl
  rw[e]
  have sl:(stored vs kk val).length≤i+1:=by
   unfold stored
   split
   ·rw[List.length_map];omega
   ·rw[List.length_append,List.length_singleton];omega
  refine ih (i+1) _ (stored vs kk val) (by omega) hlt sl ?_ (fun b o e=>?_) hd'' fun s' q1 q2 q3 q5 q6=>hR s' q1 q2 q3 (fun b o n1 n2 e=>q5 b o n1 n2 ?_) ?_
  ·obtain⟨oi,ei,ri⟩:=hit'
   exact⟨oi,(sb''.2 it di.symm).trans ei,ri⟩
  ·have nb:b≠d:=fun z=>by rw[z,hd]at e;cases e
   rw[sb''.2 b nb];exact hb' _ _ e
  ·rw[sb''.2 b n1,sb.2 b n2];exact e
  ·have ed:rs.drop i =(kk,val)::rs.drop (i+1):=by
    obtain⟨h1,h2⟩:=List.getElem?_eq_some_iff.mp r1
    rw[List.drop_eq_getElem_cons h1,h2]
   rw[ed]
   exact q6
theorem call_dict_pairs {l:Addr}{items:List Value}{rs:List (κ×Value)}{Q:Value→Shared→Prop}(hA:A.handled=none) (hl:s.heap.IsList l items.toArray) (hld:∀o,s.heap.get? l=some o→o.dict=none) (hP:PairsAt knd s.heap items rs) (hz:items.length≤100000)
  (h:∀s',s'.gens=s.gens→s'.drawn=s.drawn→s'.os=s.os→(∀b o,s.heap.get? b=some o→s'.heap.get? b=some o)→s'.heap.DictOf knd s.heap.objs.size (merged [] rs)→Q (.ref s.heap.objs.size) s') :
  wpAny (model prog w) A (call (.type "dict") [.ref l]) Q E s:=by
 refine callType_codes (Q₁:=fun obj s₁=>obj = .ref s.heap.objs.size∧s₁ = { s with heap:=s.heap.push { cls:=.type "dict",data:=.dict #[] } }) F.kt_called_dict (F.kt_typeCall_dict_1 _) F.entry_dict_init (kt_code_dict_new _ ⟨rfl,rfl⟩) ?_
 rintro obj s₁ ⟨rfl,rfl⟩
 have hnew:(s.heap.push { cls:=.type "dict",data:=.dict #[] }).DictOf knd s.heap.objs.size []:=Heap.DictOf.new s.heap
 refine⟨hnew.typeIs,F.args_dict_init_2 _ _,?_⟩
 unfold Builtin.«dict.__init__»
 refine wpAny_bind ?_
 unfold Builtin.Dict.selfAndRest
 refine wpAny_bind (wpAny_notOrdered_dict hnew.typeIs ?_)
 show wpAny _ _ (pure (s.heap.objs.size,[Value.ref l])) _ _ _
 refine wpAny_pure ?_
 show wpAny _ _ (Builtin.Dict.updateFrom "dict.__init__" s.heap.objs.size (.ref l) [] .none) _ _ _
 unfold Builtin.Dict.updateFrom
 obtain⟨ol,gl,cl,nl,dl⟩:=id hl
 have gl1:(s.heap.push { cls:=.type "dict",data:=.dict #[] }).get? l=some ol:=Heap.get?_push_of_some _ gl
 refine wpAny_bind (wpAny_typeOf_ref gl1 ?_)
 rw[cl,if_pos (by decide)]
 refine wpAny_bind (getAttrQ_miss_list gl1 cl dl (hld _ gl) (show A.handled=none from hA) (fun h' tk kp=>?_))
 rw[if_pos (show(none:Option Value).isNone=true from rfl)]
 refine wpAny_bind (wpAny_rule ?_)
 have hl2:h'.IsList l items.toArray:=⟨ol,kp _ _ gl1,cl,nl,dl⟩
 refine wpAny_bind (wpAny_pyIter_list (s:={ s with heap:=h',toks:=tk }) hl2 ?_)
 refine wpAny_pure ⟨plainId_quiet F.plain_upd_loop _,?_⟩
 have hit0:s.heap.get? h'.objs.size=none:=by
  cases e:s.heap.get? h'.objs.size with
  | none=>rfl
  | some o=>exact absurd (Heap.lt_size (kp _ _ (Heap.get?_push_of_some _ e))) (Nat.lt_irrefl _)
 obtain⟨od,es,ep,ho,r⟩:=hnew
 have hd2:=kp _ _ ho
 have di:s.heap.objs.size≠h'.objs.size:=Nat.ne_of_lt (Heap.lt_size hd2)
 refine codeAny_pairs_loop (h0:=s.heap) (knd:=knd) (A:=A.in1) (rs:=rs) hA hl hP (Heap.get?_none_of_le (Nat.le_refl _)) hit0 di hz items.length 0 _ [] rfl (Nat.zero_le _) (Nat.le_refl _) ⟨_,Heap.get?_push_size _ rfl,rfl,rfl⟩ (fun b o e=>Heap.get?_push_of_some _ (kp _ _ (Heap.get?_push_of_some _ e))) ⟨od,es,ep,Heap.get?_push_of_some _ hd2,r⟩ fun s' q1 q2 q3 q5 q6=>?_
 refine⟨rfl,h s' q1 q2 q3 (fun b o e=>?_) q6⟩
 have lt:=Heap.lt_size e
 refine q5 b o (Nat.ne_of_lt lt) (fun z=>by rw[z,hit0]at e;cases e) ?_
 exact Heap.get?_push_of_some _ (kp _ _ (Heap.get?_push_of_some _ e))
end
section
variable {X:Cx}
def rDictP (K:PySem.W.Frag):List V→Hp→VK→Prop:=fun xs H Q=>∃(a:Addr) (ts:List Addr) (ps:List (Key×V)),xs=[.ref a]∧SqL K H a (ts.map V.ref)∧ts.length≤100000∧ts.length=ps.length∧(∀(i:Nat) (t:Addr) (p:Key×V),ts[i]? = some t→ps[i]? = some p→H t=some (.tup [kV p.1,p.2])) ∧
 ∀d,H d=none→Q (.ref d) (upd H d (.dK (mergeK [] ps)))
theorem pairs_of {pins:List (Addr×Obj)}{σ:St}{H:Hp}{s:Shared}(I:Inv X pins σ H s):∀{ts:List Addr}{ps:List (Key×V)},ts.length=ps.length→(∀(i:Nat) (t:Addr) (p:Key×V),ts[i]? = some t→ps[i]? = some p→H t=some (.tup [kV p.1,p.2]))→∃rs,PairsAt (mixKind X.prog X.w) s.heap (ts.map Value.ref) rs∧KV ps rs
 | [],[],_,_=>⟨[],.nil,.nil⟩
 | [],_::_,l,_=>by cases l
 | _::_,[],l,_=>by cases l
 | t::ts,p::ps,l,h=>by
  obtain⟨rs,h1,h2⟩:=pairs_of I (ts:=ts) (ps:=ps) (by simpa using l) fun i t p a b=>h (i+1) t p (by simpa using a) (by simpa using b)
  obtain⟨its2,rv2,⟨o,e,c,n,d⟩,_⟩:=I.tuple (SqT.of (h 0 t p rfl rfl))
  cases rv2 with
  | cons r1 r2 =>
   cases r2 with
   | cons r3 r4 =>
    cases r4
    exact⟨(p.1,_)::rs,.cons e c d (kV_is r1) h1,.cons ⟨rfl,r3⟩ h2⟩
theorem call_dictP (hc:X.calm=true):CallR X (.type "dict") (rDictP X.K):=by
 intro pins s σ H xs us Q I r h
 obtain⟨a,ts,ps,rfl,hq,hn,hl,hp,q⟩:=h
 obtain⟨u,rfl,r1⟩:=vals1 r
 cases (show u=Value.ref a from r1)
 obtain⟨its,rv,pl,hz⟩:=I.list hq
 have ei:=vals_refs rv
 subst ei
 obtain⟨rs,hP,hk⟩:=pairs_of I hl hp
 have pl':=pl
 obtain⟨o,n,e,c,dn,d⟩:=pl'
 refine call_dict_pairs (I.ok.hd hc) pl.isList (fun o' e'=>by rw[e]at e';cases e';exact dn) hP (by rw[List.length_map];exact hn) fun s' g1 g2 g3 kp hd=>?_
 obtain⟨h',g',d',t',os'⟩:=s'
 simp only at g1 g2 g3
 subst g1 g2 g3
 have hz2:(mergeK [] ps).length≤sizeLine:=by
  have h1:=length_mergeK ps []
  have hline:(100000:Nat)<sizeLine:=by decide
  rw[List.length_nil]at h1;omega
 exact⟨.ref s.heap.objs.size,_,I.laid (h':=h') (t':=t') kp (Nat.le_refl _) (o:=.dK (mergeK [] ps)) (dk_new hz2 (beq_eq_false_iff_ne.mpr (Ne.symm (Nat.ne_of_lt I.big))) (hk.merge .nil) hd),rfl,q _ (I.hok.fresh (Nat.le_refl _))⟩
end
theorem rd_dget {td ty:TE}{σ:St}{H:Hp}{Q:VK}(h:td σ H fun x H1=>ty σ H1 fun y H2=>∃a v,x = .ref a∧DGet H2 a y (some v)∧Q v H2):tDGet td ty σ H Q:=h
end L2
namespace L2
open PySem PySem.Spec PyProof.Rows
theorem is_kV {P:Program}{w:World}{k:Key}{u:Value}(h:(mixKind P w).is k u=true):RelV (kV k) u:=by
 rw[mixKind_is]at h
 rcases keyIs_shape h with⟨i,t,rfl,rfl⟩|⟨x,t,rfl,rfl⟩
 ·exact⟨t,rfl⟩
 ·exact⟨t,rfl⟩
section
variable {prog:Program}{w:World}{κ:Type} [DecidableEq κ] {knd:KeyKind prog w κ}{A:Around}{E:Value→Shared→Prop}{s:Shared}
theorem hint_dict {d:Addr}{kvs:List (κ×Value)}{Q:Bool→Shared→Prop}(hm:s.heap.DictOf knd d kvs) (h:Q false s):wpAny (model prog w) A (Builtin.List.listLengthHint (.ref d)) Q E s:=by
 unfold Builtin.List.listLengthHint
 refine wpAny_bind (wpAny_specialOf hm.typeIs F.slot_dict_len.lookup ?_)
 generalize hid:("dict.__len__" : String)=id0
 wp_delta
 rw[show splitId id0=some ("dict", "__len__") from by subst hid;decide +kernel]
 subst hid
 refine wpAny_bind (wpAny_isInstance (T := "dict") (b:=true) hm.typeIs (by rw[isSubtype_type];kernel_rfl) ?_)
 refine wpAny_ite_split (fun hab=>absurd hab (by decide)) (fun _=>?_)
 refine wpAny_ite_split (fun _=>?_) (fun hab=>absurd (by decide +kernel) hab)
 refine wpAny_bind (wpAny_typeOf hm.typeIs ?_)
 exact wpAny_pure h
theorem extend_dict {R:Result→Shared→Prop}{d:Addr}{kvs:List (κ×Value)}(hh:A.handled=none) (hd:(d == sysModules)=false) (hm:s.heap.DictOf knd d kvs) (hlen:kvs.length≤2^24) (S:Addr) (res:Value) (c₀:Nat) (hS:s.heap.get? S=some { cls:=.type "list",data:=.seq #[] c₀ })
  (hR:∀h' tk acc' c',(∀b o,b≠S→s.heap.get? b=some o→h'.get? b=some o)→h'.get? S=some { cls:=.type "list",dict:=none,data:=.seq acc' c',slots:=#[] } →
   ItemsOf (fun i v=>∃k x,kvs[i]? = some (k,x)∧knd.is k v=true) acc' kvs.length→R (.ok (.ret res)) { s with heap:=h',toks:=tk }) :
  wpAny (model prog w) A.in1 (Builtin.List.listExtendWith (.ref S) (.ref d) res)
   (fun fin s'=>match fin with | .done f=>R (.ok f) s' | .again c'=>c'.quiet=true∧codeAny (model prog w) A c' R s') (fun e s'=>R (.error e) s') s:=by
 obtain⟨ep,hA⟩:=hm.dictAt
 obtain⟨od,es,god,_⟩:=id hA
 have hSd:S≠d:=fun e=>by
  have h1:=hm.typeIs
  rw[← e]at h1
  obtain⟨o',g',c'⟩:=h1
  rw[hS]at g'
  cases g'
  exact absurd (show Value.type "list" = Value.type "dict" from c') (by decide)
 have hSlt:S<s.heap.objs.size:=Heap.lt_size hS
 have hSI:S≠s.heap.objs.size:=Nat.ne_of_lt hSlt
 have hdI:d≠s.heap.objs.size:=Nat.ne_of_lt (Heap.lt_size god)
 have hSf:S ∉ [s.heap.objs.size,d]:=fun hm=>by
  rcases List.mem_cons.mp hm with z|z
  ·exact hSI z
  ·exact hSd (by simpa using z)
 have W:=(Walks.dictKeys (prog:=prog) (w:=w) (A:=A.in1) (knd:=knd) hh s.heap.objs.size d hdI kvs ep).toS
 have key:∀(h:Heap) (c₁ tk:Nat),(h.IsKeyIter s.heap.objs.size d 0 kvs.length ep∧h.DictAt knd d kvs ep)→(∀b o,b≠S→s.heap.get? b=some o→h.get? b=some o) →
   h.get? S=some { cls:=.type "list",data:=.seq #[] c₁ }→codeAny (model prog w) A (.builtin "list.extend.loop" ⟨[.ref S,.ref s.heap.objs.size,res],[]⟩) R { s with heap:=h,toks:=tk }:=by
  intro h c₁ tk hit hk hS₁
  refine codeAny_extend_loopS W (by rw[sizeLine_eq];omega) S hSf res kvs.length 0 _ #[] c₁ rfl (Nat.zero_le _) hit hS₁ (ItemsOf.nil _) fun s' acc' c' hm hS' hacc=>?_
  rw[Moved.eq_with hm]
  refine hR s'.heap s'.toks acc' c' (fun b o hb e=>hm.heap b o (fun hmem=>?_) (hk b o hb e)) hS' hacc
  rcases List.mem_cons.mp hmem with e'|hmem
  ·exact hb e'
  ·exact absurd (Heap.lt_size e) (by rw[List.mem_singleton.mp hmem];exact Nat.lt_irrefl _)
 unfold Builtin.List.listExtendWith
 refine wpAny_bind (wpAny_typeOf hm.typeIs ?_)
 have h1:Builtin.List.listSameRef (.ref S) (.ref d)=false:=by simp[Builtin.List.listSameRef,hSd]
 have h2:(Value.type "dict" == Value.type "list")=false:=by decide
 have h3:(Value.type "dict" == Value.type "tuple")=false:=by decide
 simp only[h1,h2,h3,Bool.or_false,Bool.false_eq_true,if_false]
 refine wpAny_bind (wpAny_pyIter_dict hd hA ?_)
 refine wpAny_bind (wpAny_holding (hint_dict (hm.push _) ?_))
 have hit₁:(s.heap.push { cls:=.type "dict_keyiterator",data:=.fields #[.ref d,.int 0 0,.int kvs.length 0,.int ep 0] }).IsKeyIter s.heap.objs.size d 0 kvs.length ep:=⟨_,Heap.get?_push_size _ rfl,rfl,rfl⟩
 have hA₁:(s.heap.push { cls:=.type "dict_keyiterator",data:=.fields #[.ref d,.int 0 0,.int kvs.length 0,.int ep 0] }).DictAt knd d kvs ep:=hA.at' fun o e=>Heap.get?_push_of_some _ e
 have hS₁:=Heap.get?_push_of_some { cls:=.type "dict_keyiterator",data:=.fields #[.ref d,.int 0 0,.int kvs.length 0,.int ep 0] } hS
 refine wpAny_ite_split (fun _=>?_) (fun _=>wpAny_pure ⟨plainId_quiet F.plain_extend_loop _,key _ c₀ _ ⟨hit₁,hA₁⟩ (fun b o _ e=>Heap.get?_push_of_some _ e) hS₁⟩)
 refine wpAny_bind (wpAny_rule ?_)
 refine wpAny_bind ?_
 show wpAny _ _ (updateSeq S (·.push .none) >>= fun _=>updateSeq S (·.pop)) _ _ _
 refine wpAny_bind (wpAny_updateSeq hS₁ rfl ?_)
 have hS₂:=Heap.get?_update_self (Obj.mapSeq (·.push Value.none)) hS₁ rfl
 refine wpAny_updateSeq (hz:=by seq_fits) hS₂ rfl ?_
 have hS₃:=Heap.get?_update_self (Obj.mapSeq (·.pop)) hS₂ rfl
 have oth:∀b o,b≠S→(s.heap.push { cls:=.type "dict_keyiterator",data:=.fields #[.ref d,.int 0 0,.int kvs.length 0,.int ep 0] }).get? b=some o→(((s.heap.push { cls:=.type "dict_keyiterator",data:=.fields #[.ref d,.int 0 0,.int kvs.length 0,.int ep 0] }).update S (Obj.mapSeq (·.push Value.none))).update S (Obj.mapSeq (·.pop))).get? b=some o:=fun b o hb e=>(Heap.get?_update_other _ _ (Ne.symm hb)).trans ((Heap.get?_update_other _ _ (Ne.symm hb)).trans e)
 refine wpAny_pure ⟨plainId_quiet F.plain_extend_loop _,key _ _ _ ⟨hit₁.at fun o e=>oth _ o (Ne.symm hSI) e,hA₁.at' fun o e=>oth _ o (Ne.symm hSd) e⟩ (fun b o hb e=>oth b o hb (Heap.get?_push_of_some _ e)) hS₃⟩
theorem init_dict {R:Result→Shared→Prop}{d:Addr}{kvs:List (κ×Value)}(hh:A.handled=none) (hd:(d == sysModules)=false) (hm:s.heap.DictOf knd d kvs) (hlen:kvs.length≤2^24) (S:Addr) (hS:s.heap.get? S=some { cls:=.type "list",data:=.seq #[] })
  (hR:∀h' tk acc' c',(∀b o,b≠S→s.heap.get? b=some o→h'.get? b=some o)→h'.get? S=some { cls:=.type "list",dict:=none,data:=.seq acc' c',slots:=#[] } →
   ItemsOf (fun i v=>∃k x,kvs[i]? = some (k,x)∧knd.is k v=true) acc' kvs.length→R (.ok (.ret .none)) { s with heap:=h',toks:=tk }) :
  wpAny (model prog w) A.in1 (Builtin.«list.__init__» ⟨[.ref S,.ref d],[]⟩)
   (fun fin s'=>match fin with | .done f=>R (.ok f) s' | .again c'=>c'.quiet=true∧codeAny (model prog w) A c' R s') (fun e s'=>R (.error e) s') s:=by
 have hSd:S≠d:=fun e=>by
  have h1:=hm.typeIs
  rw[← e]at h1
  obtain⟨o',g',c'⟩:=h1
  rw[hS]at g'
  cases g'
  exact absurd (show Value.type "list" = Value.type "dict" from c') (by decide)
 show wpAny _ _ (do let old ← Builtin.List.listItems (.ref S);Builtin.List.listUpdate (.ref S) (fun _=>#[]);letGo old.toList.reverse;Builtin.List.listExtendWith (.ref S) (.ref d) .none) _ _ s
 refine wpAny_bind ?_
 unfold Builtin.List.listItems
 refine wpAny_bind (wpAny_seqItems hS rfl (wpAny_pure ?_))
 show wpAny _ _ (updateSeq S (fun _=>#[]) >>= fun _=>letGo (#[]:Array Value).toList.reverse >>= fun _=>Builtin.List.listExtendWith (.ref S) (.ref d) .none) _ _ s
 refine wpAny_bind (wpAny_updateSeq hS rfl ?_)
 have hS₂:=Heap.get?_update_self (Obj.mapSeq (fun _=>(#[]:Array Value))) hS rfl
 have oth:∀b o,b≠S→s.heap.get? b=some o→(s.heap.update S (Obj.mapSeq (fun _=>(#[]:Array Value)))).get? b=some o :=
  fun b o hb e=>(Heap.get?_update_other _ _ (Ne.symm hb)).trans e
 refine wpAny_bind (wpAny_letGo ?_)
 obtain⟨od,es,ep,god,r⟩:=id hm
 refine extend_dict (knd:=knd) (kvs:=kvs) hh hd ⟨od,es,ep,oth d _ (Ne.symm hSd) god,r⟩ hlen S .none _ hS₂ fun h' tk acc' c' hk hS' hacc=>?_
 exact hR h' tk acc' c' (fun b o hb e=>hk b o hb (oth b o hb e)) hS' hacc
theorem call_list_dict {Q:Value→Shared→Prop}{d:Addr}{kvs:List (κ×Value)}(hh:A.handled=none) (hd:(d == sysModules)=false) (hm:s.heap.DictOf knd d kvs) (hlen:kvs.length≤2^24)
  (hQ:∀h' tk acc' c',(∀b o,s.heap.get? b=some o→h'.get? b=some o) →
   h'.get? s.heap.objs.size=some { cls:=.type "list",dict:=none,data:=.seq acc' c',slots:=#[] }→ItemsOf (fun i v=>∃k x,kvs[i]? = some (k,x)∧knd.is k v=true) acc' kvs.length→Q (.ref s.heap.objs.size) { s with heap:=h',toks:=tk }) :
  wpAny (model prog w) A (call (.type "list") [.ref d]) Q E s:=by
 refine callType_codes (Q₁:=fun obj s₁=>obj = .ref s.heap.objs.size∧s₁ = { s with heap:=s.heap.push { cls:=.type "list",data:=.seq #[] } }) F.called_list (F.typeCall_list_1 _) F.entry_list_init
  (code_list_new _ ⟨rfl,rfl⟩) fun obj s₁ h₁=>?_
 obtain⟨rfl,rfl⟩:=h₁
 have hS:(s.heap.push { cls:=.type "list",data:=.seq #[] }).get? s.heap.objs.size=some { cls:=.type "list",data:=.seq #[] }:=Heap.get?_push_size _ rfl
 refine⟨⟨_,hS,rfl⟩,F.args_list_init_2 _ _,init_dict (A:=A.in1) (knd:=knd) (kvs:=kvs) hh hd (hm.push _) hlen _ hS fun h' tk acc' c' hk hS' hacc=>?_⟩
 exact⟨rfl,hQ h' tk acc' c' (fun b o e=>hk b o (Nat.ne_of_lt (Heap.lt_size e)) (Heap.get?_push_of_some _ e)) hS' hacc⟩
end
section
variable {X:Cx}
def rListD:List V→Hp→VK→Prop:=fun xs H Q=>∃(d:Addr) (kvs:List (Key×V)),xs=[.ref d]∧H d=some (.dK kvs)∧∀l,H l=none→Q (.ref l) (upd H l (.lst (kvs.map fun kv=>kV kv.1)))
theorem keys_vals {P:Program}{w:World}:∀{kvs:List (Key×V)}{vs:List (Key×Value)}{us:List Value},KV kvs vs→us.length=vs.length→(∀(i:Nat) v,us[i]? = some v→∃k x,vs[i]? = some (k,x)∧(mixKind P w).is k v=true)→Vals (kvs.map fun kv=>kV kv.1) us
 | _,_,[],.nil,_,_=>.nil
 | _,_,_::_,.nil,l,_=>by cases l
 | _,_,[],.cons _ _,l,_=>by cases l
 | _,_,u::us,.cons (a:=p) (b:=b) r t,l,h=>by
  obtain⟨k,x,h1,h2⟩:=h 0 u rfl
  have e:b =(k,x):=by simpa using h1
  refine .cons ?_ (keys_vals (P:=P) (w:=w) t (by simpa using l) fun i v hv=>?_)
  ·have:=is_kV h2
   show RelV (kV p.1) u
   rw[r.1,e];exact this
  ·obtain⟨k',x',h3,h4⟩:=h (i+1) v (by simpa using hv)
   exact⟨k',x',by simpa using h3,h4⟩
theorem call_listD (hc:X.calm=true):CallR X (.type "list") rListD:=by
 intro pins s σ H xs us Q I r h
 obtain⟨d,kvs,rfl,hd,q⟩:=h
 obtain⟨u,rfl,r1⟩:=vals1 r
 cases (show u=Value.ref d from r1)
 obtain⟨hz,lo,vs,rk,hD⟩ : kvs.length≤sizeLine∧(d == sysModules)=false∧∃vs,KV kvs vs∧s.heap.DictOf (mixKind X.prog X.w) d vs:=I.hok d _ hd
 have hl:kvs.length=vs.length:=Paired.length rk
 refine call_list_dict (I.ok.hd hc) lo hD (by rw[← hl];exact hz) fun h' tk acc c kp hS hacc=>?_
 have hv:Vals (kvs.map fun kv=>kV kv.1) acc.toList:=keys_vals (P:=X.prog) (w:=X.w) rk (by rw[← hacc.1];simp) fun i v e=>hacc.2 i v (by simpa using e)
 have hz2:(kvs.map fun kv=>kV kv.1).length≤sizeLine:=by rw[List.length_map];exact hz
 exact⟨.ref s.heap.objs.size,_,I.laid (t':=tk) kp (Nat.le_refl _) (o:=.lst (kvs.map fun kv=>kV kv.1)) ⟨hz2,acc.toList,c,hv,by simpa using hS⟩,rfl,q _ (I.hok.fresh (Nat.le_refl _))⟩
end
end L2
namespace L2
open PySem PySem.Spec PyProof.Rows
inductive NumU:Value→Int→Prop
 | int (i:Int) (t:Tok):NumU (.int i t) i
 | bl (b:Bool):NumU (.bool b) (if b=true then(1:Int) else 0)
section
variable {prog:Program}{w:World}{A:Around}{E:Value→Shared→Prop}{s:Shared}{Q:Value→Shared→Prop}{a b:Value}{i j:Int}
end
section
variable {prog:Program}{w:World}{A:Around}{E:Value→Shared→Prop}{s:Shared}{Q:Value→Shared→Prop}{a b:Value}{i j:Int}
end
inductive Num:V→Int→Prop
 | int (i:Int):Num (.int i) i
 | bl (b:Bool):Num (.bl b) (if b=true then(1:Int) else 0)
section
variable {X:Cx}
end
end L2
namespace L2
open PySem PySem.Spec PyProof.Rows
section
variable {X:Cx}
end
end L2
namespace L2
open PySem PySem.Spec PyProof.Rows
section
variable {X:Cx}
end
end L2
namespace L2
open PySem PySem.Spec PyProof.Rows
abbrev lc2 (elt t1 i1:Expr) (fs1:List Expr) (t2 i2:Expr) (fs2:List Expr) (scope:Scope) (pos:Pos):Expr:=.ListComp elt [⟨t1,i1,fs1,0⟩,⟨t2,i2,fs2,0⟩] scope pos
theorem compTurn2_0 (elt t1 i1:Expr) (fs1:List Expr) (t2 i2:Expr) (fs2:List Expr) (scope:Scope) (pos:Pos) (it acc:Value) (env:Env) :
  compTurn (lc2 elt t1 i1 fs1 t2 i2 fs2 scope pos) 0 it acc env =(do
   standAt i1.pos
   match ← pyNext it with
   | none=>pure (.done .next)
   | some v =>
    letOwnedTupleGo t1 it v
    assign t1 env v
    let mut ok:=true
    for c in fs1 do
     if ok then ok ← isTrue c env (eval c env)
    if ok then
     let x ← eval i2 env
     standAt i2.pos
     let x ← foldedSetIterable i2 env x
     let _ ← runOwn (.compStart (lc2 elt t1 i1 fs1 t2 i2 fs2 scope pos) 1 (← holding [x] (pyIter x)) acc env) env
    again (.compLoop (lc2 elt t1 i1 fs1 t2 i2 fs2 scope pos) 0 it acc env)):=by rfl
theorem compTurn2_1 (elt t1 i1:Expr) (fs1:List Expr) (t2 i2:Expr) (fs2:List Expr) (scope:Scope) (pos:Pos) (it acc:Value) (env:Env) :
  compTurn (lc2 elt t1 i1 fs1 t2 i2 fs2 scope pos) 1 it acc env =(do
   standAt i2.pos
   match ← pyNext it with
   | none=>pure (.done .next)
   | some v =>
    letOwnedTupleGo t2 it v
    assign t2 env v
    let mut ok:=true
    for c in fs2 do
     if ok then ok ← isTrue c env (eval c env)
    if ok then
     (do let _ ← call (.builtin "list.append") [acc,← eval elt env])
    again (.compLoop (lc2 elt t1 i1 fs1 t2 i2 fs2 scope pos) 1 it acc env)):=by rfl
section
variable {prog:Program}{w:World}{A:Around}{R:Result→Shared→Prop}{s:Shared}{elt t1 i1 t2 i2:Expr}{fs1 fs2:List Expr}{scope:Scope}{pos:Pos}{it acc:Value}{env:Env}
theorem compLoop2_1 (I:Nat→Shared→Prop)
  (turn:∀n s,I n s→wpAny (model prog w) A (pyNext it) (fun r s₁=>match r with
   | none=>R (.ok .next) s₁
   | some v=>wpAny (model prog w) A (letOwnedTupleGo t2 it v) (fun _ s₁'=>wpAny (model prog w) A (assign t2 env v) (fun _ s₂ =>
     wpAny (model prog w) A (forIn fs2 true fun c r=>if r=true then do let ok ← isTrue c env (eval c env);pure (ForInStep.yield ok) else pure (ForInStep.yield r)) (fun ok s₃ =>
      if ok=true then wpAny (model prog w) A (eval elt env) (fun x s₄ =>
       wpAny (model prog w) A (call (.builtin "list.append") [acc,x]) (fun _ s₅=>∃m,m<n∧I m s₅) (fun _ _=>False) s₄) (fun _ _=>False) s₃
      else ∃m,m<n∧I m s₃) (fun _ _=>False) s₂) (fun _ _=>False) s₁') (fun _ _=>False) s₁) (fun _ _=>False) s)
  (n:Nat) (h:I n s) :
  codeAny (model prog w) A (.compLoop (lc2 elt t1 i1 fs1 t2 i2 fs2 scope pos) 1 it acc env) R s:=by
 refine codeAny_loop rfl I (fun n s hI=>?_) n h
 show wpAny _ A ((compTurn (lc2 elt t1 i1 fs1 t2 i2 fs2 scope pos) 1 it acc env).onRaise (fun x=>do noteFrame x env;theTreesLotGoes x)) _ _ s
 refine wpAny_noted ?_
 rw[compTurn2_1]
 refine wpAny_bind (wpAny_standAt (wpAny_bind (wpAny_mono (turn n s hI) (fun r s₁ h₁=>?_) fun _ _ h'=>h'.elim)))
 cases r with
 | none=>exact wpAny_pure h₁
 | some v =>
  refine wpAny_bind (wpAny_mono h₁ (fun _ s₁' h₁'=>?_) fun _ _ h'=>h'.elim)
  refine wpAny_bind (wpAny_mono h₁' (fun _ s₂ h₂=>wpAny_bind (wpAny_mono h₂ (fun ok s₃ h₃=>?_) fun _ _ h'=>h'.elim)) fun _ _ h'=>h'.elim)
  cases ok with
  | false=>exact wpAny_pure ⟨rfl,h₃⟩
  | true =>
   exact wpAny_bind (wpAny_bind (wpAny_mono h₃ (fun x s₄ h₄=>wpAny_bind (wpAny_mono h₄ (fun _ s₅ h₅=>wpAny_pure (wpAny_pure ⟨rfl,h₅⟩)) fun _ _ h'=>h'.elim)) fun _ _ h'=>h'.elim))
theorem compLoop2_0 (I:Nat→Shared→Prop) (hs:∀x,foldedSetIterable i2 env x=pure x)
  (turn:∀n s,I n s→wpAny (model prog w) A (pyNext it) (fun r s₁=>match r with
   | none=>R (.ok .next) s₁
   | some v=>wpAny (model prog w) A (letOwnedTupleGo t1 it v) (fun _ s₁'=>wpAny (model prog w) A (assign t1 env v) (fun _ s₂ =>
     wpAny (model prog w) A (forIn fs1 true fun c r=>if r=true then do let ok ← isTrue c env (eval c env);pure (ForInStep.yield ok) else pure (ForInStep.yield r)) (fun ok s₃ =>
      if ok=true then wpAny (model prog w) A (eval i2 env) (fun x s₄=>wpAny (model prog w) A (pyIter x) (fun it2 s₅ =>
       codeAny (model prog w) A (.compStart (lc2 elt t1 i1 fs1 t2 i2 fs2 scope pos) 1 it2 acc env) (fun r s₆=>match r with | .ok _=>∃m,m<n∧I m s₆ | .error _=>False) s₅) (fun _ _=>False) s₄) (fun _ _=>False) s₃
      else ∃m,m<n∧I m s₃) (fun _ _=>False) s₂) (fun _ _=>False) s₁') (fun _ _=>False) s₁) (fun _ _=>False) s)
  (n:Nat) (h:I n s) :
  codeAny (model prog w) A (.compLoop (lc2 elt t1 i1 fs1 t2 i2 fs2 scope pos) 0 it acc env) R s:=by
 refine codeAny_loop rfl I (fun n s hI=>?_) n h
 show wpAny _ A ((compTurn (lc2 elt t1 i1 fs1 t2 i2 fs2 scope pos) 0 it acc env).onRaise (fun x=>do noteFrame x env;theTreesLotGoes x)) _ _ s
 refine wpAny_noted ?_
 rw[compTurn2_0]
 refine wpAny_bind (wpAny_standAt (wpAny_bind (wpAny_mono (turn n s hI) (fun r s₁ h₁=>?_) fun _ _ h'=>h'.elim)))
 cases r with
 | none=>exact wpAny_pure h₁
 | some v =>
  refine wpAny_bind (wpAny_mono h₁ (fun _ s₁' h₁'=>?_) fun _ _ h'=>h'.elim)
  refine wpAny_bind (wpAny_mono h₁' (fun _ s₂ h₂=>wpAny_bind (wpAny_mono h₂ (fun ok s₃ h₃=>?_) fun _ _ h'=>h'.elim)) fun _ _ h'=>h'.elim)
  cases ok with
  | false=>exact wpAny_pure ⟨rfl,h₃⟩
  | true =>
   refine wpAny_bind (wpAny_mono h₃ (fun x s₄ h₄=>wpAny_bind (wpAny_standAt (wpAny_bind (wpAny_of_eq (hs x) (wpAny_bind (wpAny_holding (wpAny_mono h₄ (fun it2 s₅ h₅=>wpAny_bind (wpAny_runOwn (codeAny_mono h₅ fun r s₆ h₆=>?_))) fun _ _ h'=>h'.elim))))))) fun _ _ h'=>h'.elim)
   cases r with
   | ok f=>exact wpAny_pure ⟨rfl,h₆⟩
   | error e=>exact h₆.elim
theorem compStart2_1
  (h0:codeAny (model prog w) A (.compLoop (lc2 elt t1 i1 fs1 t2 i2 fs2 scope pos) 1 it acc env) R s)
  (h:wpAny (model prog w) A (pyIter it) (fun it' s'=>codeAny (model prog w) A (.compLoop (lc2 elt t1 i1 fs1 t2 i2 fs2 scope pos) 1 it' acc env) R s')
   (notedBy (model prog w) A env fun x s'=>R (.error x) s') s) :
  codeAny (model prog w) A (.compStart (lc2 elt t1 i1 fs1 t2 i2 fs2 scope pos) 1 it acc env) R s:=by
 refine codeAny_of_tree ?_
 show wpAny _ _ ((compStart (lc2 elt t1 i1 fs1 t2 i2 fs2 scope pos) 1 it acc env).onRaise (fun x=>do noteFrame x env;standAt theWindowsPlace)) _ _ s
 refine wpAny_notedAt ?_
 unfold compStart
 show wpAny _ _ (ask >>= _) _ _ s
 refine wpAny_bind (wpAny_askSetting (wpAny_ite ?_))
 split
 ·first
   | exact wpAny_bind (wpAny_pure (wpAny_pure (And.intro rfl h0)))
   | exact wpAny_pure (And.intro rfl h0)
 ·first
   | exact wpAny_bind (wpAny_rule (wpAny_bind (wpAny_standAt (wpAny_bind (wpAny_mono h (fun it' s' h'=>wpAny_pure (And.intro rfl h')) fun _ _ x=>x)))))
   | (refine wpAny_bind (wpAny_rule ?_);show wpAny _ _ (standAt i2.pos >>= _) _ _ s;exact wpAny_bind (wpAny_standAt (wpAny_bind (wpAny_mono h (fun it' s' h'=>wpAny_pure (And.intro rfl h')) fun _ _ x=>x))))
end
def tIn (wi2:TI) (g2:TG) (tt2:TT) (te:TE) (D:Addr) (ys:List V) (σ:St) (H:Hp) (N0:St→List V→Hp→Prop):Prop:=wi2 σ H fun J H1 =>
 ∃W:Nat→Nat→St→List V→Hp→Prop,(∃m,W 0 m σ ys H1)∧∀i m σ' ys' H',W i m σ' ys' H' →
  (J.stop i H'∧N0 σ' ys' H') ∨(J.go i H'∧∃N:St→List V→Hp→Prop,(∀σ2 zs H2,N σ2 zs H2→∃m',m'<m∧W (i+1) m' σ2 zs H2) ∧
   ∀x H2,J.yld i H' x H2→g2 x σ' H2 fun σ3 H3=>tt2 σ3 H3 fun b H4=>if b=true then te σ3 H4 fun y H5=>H5 D=some (.lst ys')∧ys'.length<sizeLine∧N σ3 (ys' ++ [y]) (upd H5 D (.lst (ys' ++ [y]))) else N σ3 ys' H4)
def CompW2 (J:It) (vs:List Str) (js:List Nat) (σ:St) (g1:TG) (tt1:TT) (wi2:TI) (g2:TG) (tt2:TT) (te:TE) (Q:VK) (D:Addr) (H1:Hp):Prop :=
 ∃W:Nat→Nat→St→List V→Hp→Prop,(∃m,W 0 m (blkSt vs js σ) [] (upd H1 D (.lst [])))∧∀i m σ' ys H',W i m σ' ys H' →
  (J.stop i H'∧Q (.ref D) H') ∨(J.go i H'∧∃N:St→List V→Hp→Prop,(∀σ2 zs H2,N σ2 zs H2→∃m',m'<m∧W (i+1) m' σ2 zs H2) ∧
   ∀x H2,J.yld i H' x H2→g1 x σ' H2 fun σ3 H3=>tt1 σ3 H3 fun b H4=>if b=true then tIn wi2 g2 tt2 te D ys σ3 H4 N else N σ3 ys H4)
def tComp2 (vs:List Str) (js:List Nat) (wi:TI) (g1:TG) (tt1:TT) (wi2:TI) (g2:TG) (tt2:TT) (te:TE):TE:=fun σ H Q=>wi σ H fun J H1=>∀D,H1 D=none→CompW2 J vs js σ g1 tt1 wi2 g2 tt2 te Q D H1
section
variable {X:Cx}{pins:List (Addr×Obj)}{σ:St}{H:Hp}{s:Shared}{scope:Scope}{vs fs:List Str}{js:List Nat}
theorem blk_run2 {t1 i1 t2 i2 elt:Expr}{ifs1 ifs2:List Expr}{pos:Pos}{g1 g2:TG}{tt1 tt2:TT}{wi2:TI}{te:TE}(hc:X.calm=true) (B:BlkOk X scope vs fs js)
  (hg:∀C s H ex,PG (cxBlk X scope (vs++fs) C s H ex) t1 g1) (ht:∀C s H ex,PIfs (cxBlk X scope (vs++fs) C s H ex) ifs1 tt1)
  (hi2:∀C s H ex,PI (cxBlk X scope (vs++fs) C s H ex) t2 i2 wi2) (hs2:∀C x,foldedSetIterable i2 (compEnvC scope (clOf X.env scope.names []) C X.env) x=pure x)
  (hg2:∀C s H ex,PG (cxBlk X scope (vs++fs) C s H ex) t2 g2) (ht2:∀C s H ex,PIfs (cxBlk X scope (vs++fs) C s H ex) ifs2 tt2) (he:∀C s H ex,PE (cxBlk X scope (vs++fs) C s H ex) elt te)
  {it:Addr}{fp:List Addr}{tn:Nat→Heap→Prop}{J:It}{Q:VK}{E:Value→Shared→Prop}(I2:Inv X pins σ H s) (T:Turn X.prog X.w X.K t1 J fp it tn) (st2:tn 0 s.heap) (f2:∀b∈fp,FpOk X pins H b)
  (hW:∀D,H D=none→CompW2 J vs js σ g1 tt1 wi2 g2 tt2 te Q D H)
  {RR:Value→Addr→Result→Shared→Prop}
  (hR:∀D C H' s',Inv X pins σ H' s'→(∃m,s'.heap.Ns C m)→H' C=none→s.heap.objs.size≤C→Q (.ref D) H'→RR (.ref D) C (.ok .next) s') :
  wpAny (model X.prog X.w) X.A (newList []) (fun acc s₃=>wpAny (model X.prog X.w) X.A (newFunctionEnv scope X.env.globals (clOf X.env scope.names []) [] X.env.qual none .none (some X.env)) (fun cenv s₄ =>
   codeAny (model X.prog X.w) X.A (.compStart (lc2 elt t1 i1 ifs1 t2 i2 ifs2 scope pos) 0 (.ref it) acc { cenv with scope:=relabel scope X.env }) (RR acc cenv.locals) s₄) E s₃) E s:=by
 have hfp:∀b∈fp,b<s.heap.objs.size:=fun b hb=>by
  obtain⟨o,e,_⟩:=T.obj _ _ st2 b hb
  exact Heap.lt_size e
 refine wpAny_newObj_type (wpAny_newFunctionEnv B.cell (by intro y hy;simp at hy) (fun h₁ hns₁ hsb₁=>?_) B.kind)
 dsimp only at hns₁ hsb₁ ⊢
 generalize hH2:s.heap.push { cls:=.type "list",dict:=none,data:=.seq ([]:List Value).toArray } = HH at hns₁ hsb₁ ⊢
 have hC:HH.objs.size=s.heap.objs.size+1:=by rw[← hH2,Heap.size_push]
 have hlt:s.heap.objs.size<HH.objs.size:=by rw[hC];exact Nat.lt_succ_self _
 have old:∀b o,s.heap.get? b=some o→h₁.get? b=some o:=fun b o e=>hsb₁.extBut b o (Nat.ne_of_lt (Nat.lt_trans (Heap.lt_size e) hlt)) (Heap.get?_push_of_some _ (hH2 ▸ Heap.get?_push_of_some _ e))
 have hacc:h₁.get? s.heap.objs.size=some { cls:=.type "list",data:=.seq ([]:List Value).toArray }:=hsb₁.extBut _ _ (Nat.ne_of_lt hlt) (Heap.get?_push_of_some _ (hH2 ▸ Heap.get?_push_size _ rfl))
 have I0:Inv (cxBlk X scope (vs++fs) HH.objs.size s H fp) [] (blkSt vs js σ) (upd H s.heap.objs.size (.lst [])) { s with heap:=h₁,toks:=s.toks+([]:List (Str×Value)).length }:=blk_start I2 B f2 hfp hns₁ old rfl hlt hacc
 obtain⟨W,⟨m0,w0⟩,turn⟩:=hW s.heap.objs.size (I2.hok.fresh (Nat.le_refl _))
 have st1:tn 0 h₁:=T.keep _ _ _ st2 fun b hb o e=>old b o e
 have hch:∀b∈fp,(b∈X.ex∨X.s₀.heap.objs.size≤b)∧b≠X.env.locals∧(∀x c,X.env.cells.lookup x=some c→c≠b)∧∀p∈X.pn++pins,p.1≠b:=fun b hb=>by
  obtain⟨_,a2,_,a4,a5,a6⟩:=f2 b hb
  exact⟨a4,a2,a5,a6⟩
 have back:∀{pl:List (Addr×Obj)}{σ':St}{H':Hp}{s':Shared},Inv (cxBlk X scope (vs++fs) HH.objs.size s H fp) pl σ' H' s'→Inv X pins σ H' s':=fun {pl σ' H' s'} J'=>I2.call' (ch:=fp) J'.os J'.base J'.hok J'.bare hch
 have nD:∀b∈fp,b≠s.heap.objs.size:=fun b hb=>Nat.ne_of_lt (hfp b hb)
 have stat:∀{H':Hp},(∀b∈fp,H' b=none)→∀b∈fp,FpOk (cxBlk X scope (vs++fs) HH.objs.size s H fp) [] H' b:=fun {H'} hn b hb=>by
  have z:=I0.ok
  refine⟨hn b hb,(z.exf b hb).1,z.exfs b hb,.inl hb,(z.exf b hb).2,fun p hp=>absurd (show p∈([]:List (Addr×Obj)) from hp) (by simp)⟩
 have loop:∀s₃:Shared,s₃ = { s with heap:=h₁,toks:=s.toks+([]:List (Str×Value)).length } →
   codeAny (model X.prog X.w) X.A (.compLoop (lc2 elt t1 i1 ifs1 t2 i2 ifs2 scope pos) 0 (.ref it) (.ref s.heap.objs.size) (compEnvC scope (clOf X.env scope.names []) HH.objs.size X.env)) (RR (.ref s.heap.objs.size) HH.objs.size) s₃:=by
  rintro s₃ rfl
  refine compLoop2_0 (fun n s'=>∃i σ' ys H',Inv (cxBlk X scope (vs++fs) HH.objs.size s H fp) [] σ' H' s'∧tn i s'.heap∧(∀b∈fp,H' b=none)∧W i n σ' ys H') (hs2 _) ?_ m0
   ⟨0,_,_,_,I0,st1,fun b hb=>by rw[upd_ne (nD b hb)];exact(f2 b hb).1,w0⟩
  rintro n s3 ⟨i,σ3,ys,H3,I3,st3,fr3,w3⟩
  rcases turn i n σ3 ys H3 w3 with⟨stop,q⟩|⟨go,N,hN,step⟩
  ·refine thn (T.done (cxBlk X scope (vs++fs) HH.objs.size s H fp) rfl rfl rfl hc i [] s3 σ3 H3 _ I3 (stat fr3) st3 stop) fun r s4 ⟨hr,I4⟩=>?_
   subst hr
   obtain⟨m,hm,_⟩:=I4.loc
   exact hR _ _ H3 s4 (back I4) ⟨m,hm⟩ I4.free (Nat.le_of_lt hlt) q
  ·refine thn (T.item (cxBlk X scope (vs++fs) HH.objs.size s H fp) rfl rfl rfl hc i [] s3 σ3 H3 _ I3 (stat fr3) st3 go) fun r s4 ⟨u,hr,h4⟩=>?_
   subst hr
   refine thn h4 fun _ s5 ⟨x,H5,I5,r5,y5,st5,fr5⟩=>?_
   have I5':=I5.pinned (stat fr5) (T.obj _ _ st5)
   have again:∀{σ7:St}{H7:Hp}{s7:Shared}{zs:List V},Inv (cxBlk X scope (vs++fs) HH.objs.size s H fp) ([]++pinsAt fp s5.heap) σ7 H7 s7→N σ7 zs H7→∃m,m<n∧∃i σ' ys H',Inv (cxBlk X scope (vs++fs) HH.objs.size s H fp) [] σ' H' s7∧tn i s7.heap∧(∀b∈fp,H' b=none)∧W i m σ' ys H':=fun {σ7 H7 s7 zs} I7 n7=>by
    obtain⟨m',hm,w7⟩:=hN σ7 zs H7 n7
    refine⟨m',hm,i+1,σ7,zs,H7,I7.unpinned,T.keep _ _ _ st5 fun b hb o e=>(I7.pin (b,o) (List.mem_append_right _ (List.mem_append_right _ (mem_pinsAt hb e)))).1,fun b hb=>?_,w7⟩
    obtain⟨o,e,d⟩:=T.obj _ _ st5 b hb
    exact(I7.pin (b,o) (List.mem_append_right _ (List.mem_append_right _ (mem_pinsAt hb e)))).2.1
   refine thn (hg _ _ _ _ _ s5 σ3 H5 x u _ I5' r5 (step x H5 y5)) fun _ s6 ⟨σ6,H6,I6,q6⟩=>?_
   refine thn (ht _ _ _ _ _ s6 σ6 H6 _ I6 q6) fun ok s7 ⟨H7,I7,q7⟩=>?_
   cases ok with
   | false =>
    rw[if_neg Bool.false_ne_true]at q7 ⊢
    exact again I7 q7
   | true =>
    rw[if_pos rfl]at q7 ⊢
    refine thn (hi2 _ _ _ _ _ s7 σ6 H7 _ I7 q7) fun v7 s8 h8=>thn h8 fun itv s9 h9=>?_
    obtain⟨it2,fp2,tn2,J2,H9,e9,I9,T2,st9,f9,W2,⟨m20,w20⟩,turn2⟩:=h9
    subst e9
    have stat2:∀{H':Hp},(∀b∈fp2,H' b=none)→∀b∈fp2,FpOk (cxBlk X scope (vs++fs) HH.objs.size s H fp) ([]++pinsAt fp s5.heap) H' b:=fun hn b hb=>⟨hn b hb,(f9 b hb).2⟩
    have loop2:codeAny (model X.prog X.w) X.A (.compLoop (lc2 elt t1 i1 ifs1 t2 i2 ifs2 scope pos) 1 (.ref it2) (.ref s.heap.objs.size) (compEnvC scope (clOf X.env scope.names []) HH.objs.size X.env)) (fun r s₆=>match r with | .ok _=>∃m,m<n∧∃i σ' ys H',Inv (cxBlk X scope (vs++fs) HH.objs.size s H fp) [] σ' H' s₆∧tn i s₆.heap∧(∀b∈fp,H' b=none)∧W i m σ' ys H' | .error _=>False) s9:=by
     refine compLoop2_1 (fun n s'=>∃i σ' ys H',Inv (cxBlk X scope (vs++fs) HH.objs.size s H fp) ([]++pinsAt fp s5.heap) σ' H' s'∧tn2 i s'.heap∧(∀b∈fp2,H' b=none)∧W2 i n σ' ys H') ?_ m20 ⟨0,_,_,_,I9,st9,fun b hb=>(f9 b hb).1,w20⟩
     rintro n2 sa ⟨i',σa,yz,Ha,Ia,sta,fra,wa⟩
     rcases turn2 i' n2 σa yz Ha wa with⟨stop,q⟩|⟨go,N2,hN2,step2⟩
     ·refine thn (T2.done (cxBlk X scope (vs++fs) HH.objs.size s H fp) rfl rfl rfl hc i' _ sa σa Ha _ Ia (stat2 fra) sta stop) fun r sb ⟨hr,Ib⟩=>?_
      subst hr
      exact again Ib q
     ·refine thn (T2.item (cxBlk X scope (vs++fs) HH.objs.size s H fp) rfl rfl rfl hc i' _ sa σa Ha _ Ia (stat2 fra) sta go) fun r sb ⟨u2,hr,hb⟩=>?_
      subst hr
      refine thn hb fun _ sc ⟨x2,Hc,Ic,rc,yc,stc,frc⟩=>?_
      have Ic':=Ic.pinned (stat2 frc) (T2.obj _ _ stc)
      have again2:∀{σ7:St}{H7:Hp}{s7:Shared}{zs:List V},Inv (cxBlk X scope (vs++fs) HH.objs.size s H fp) (([]++pinsAt fp s5.heap)++pinsAt fp2 sc.heap) σ7 H7 s7→N2 σ7 zs H7→∃m,m<n2∧∃i σ' ys H',Inv (cxBlk X scope (vs++fs) HH.objs.size s H fp) ([]++pinsAt fp s5.heap) σ' H' s7∧tn2 i s7.heap∧(∀b∈fp2,H' b=none)∧W2 i m σ' ys H':=fun {σ7 H7 s7 zs} I7 n7=>by
       obtain⟨m',hm,w7⟩:=hN2 σ7 zs H7 n7
       refine⟨m',hm,i'+1,σ7,zs,H7,I7.unpinned,T2.keep _ _ _ stc fun b hb o e=>(I7.pin (b,o) (List.mem_append_right _ (List.mem_append_right _ (mem_pinsAt hb e)))).1,fun b hb=>?_,w7⟩
       obtain⟨o,e,d⟩:=T2.obj _ _ stc b hb
       exact(I7.pin (b,o) (List.mem_append_right _ (List.mem_append_right _ (mem_pinsAt hb e)))).2.1
      refine thn (hg2 _ _ _ _ _ sc σa Hc x2 u2 _ Ic' rc (step2 x2 Hc yc)) fun _ sd ⟨σd,Hd,Id,qd⟩=>?_
      refine thn (ht2 _ _ _ _ _ sd σd Hd _ Id qd) fun ok se ⟨He,Ie,qe⟩=>?_
      cases ok with
      | false =>
       rw[if_neg Bool.false_ne_true]at qe ⊢
       exact again2 Ie qe
      | true =>
       rw[if_pos rfl]at qe ⊢
       refine thn (he _ _ _ _ _ se σd He _ Ie qe) fun y sf ⟨yv,Hf,If,rf,hDf,hz,nf⟩=>?_
       refine thn (mt_append _ sf σd Hf (.ref s.heap.objs.size) [yv] (.ref s.heap.objs.size) [y] (fun _ H9=>N2 σd (yz ++ [yv]) H9) If rfl (.cons rf .nil) ⟨_,yz,yv,rfl,rfl,hDf,hz,nf⟩) fun _ sg ⟨_,Hg,Ig,_,ng⟩=>?_
       exact again2 Ig ng
    exact compStart2_1 loop2 (T2.self X.A 0 _ _ _ st9 loop2)
 exact codeAny_compStart_list (loop _ rfl) (T.self X.A 0 _ _ _ st1 (loop _ rfl))
theorem pe_comp2 {t1 i1 t2 i2 elt:Expr}{ifs1 ifs2:List Expr}{pos:Pos}{wi wi2:TI}{g1 g2:TG}{tt1 tt2:TT}{te:TE}(hc:X.calm=true) (B:BlkOk X scope vs fs js) (hi:PI X t1 i1 wi)
  (hg:∀C s H ex,PG (cxBlk X scope (vs++fs) C s H ex) t1 g1) (ht:∀C s H ex,PIfs (cxBlk X scope (vs++fs) C s H ex) ifs1 tt1)
  (hi2:∀C s H ex,PI (cxBlk X scope (vs++fs) C s H ex) t2 i2 wi2)
  (hg2:∀C s H ex,PG (cxBlk X scope (vs++fs) C s H ex) t2 g2) (ht2:∀C s H ex,PIfs (cxBlk X scope (vs++fs) C s H ex) ifs2 tt2) (he:∀C s H ex,PE (cxBlk X scope (vs++fs) C s H ex) elt te)
  (hs:∀x,foldedSetIterable i1 X.env x=pure x:=by intro _;rfl) (hs2:∀C x,foldedSetIterable i2 (compEnvC scope (clOf X.env scope.names []) C X.env) x=pure x:=by intro _ _;rfl) :
  PE X (lc2 elt t1 i1 ifs1 t2 i2 ifs2 scope pos) (tComp2 vs js wi g1 tt1 wi2 g2 tt2 te):=by
 intro pins s σ H Q I h
 rw[eval_ListComp]
 refine wpAny_comprehension_free (use:=none) rfl hs (closure_eq fun y hy hf=>I.ok.has y.1 (B.free y hy hf)) B.kind B.names (thn (hi pins s σ H _ I h) fun v s1 h1=>thn h1 fun itv s2 h2=>?_)
 obtain⟨it,fp,tn,J,H2,e,I2,T,st2,f2,hW⟩:=h2
 subst e
 refine blk_run2 (RR:=fun acc C=>compPost (model X.prog X.w) X.A X.xe none (EP X pins σ Q) acc C) hc B hg ht hi2 hs2 hg2 ht2 he I2 T st2 f2 hW ?_
 intro D C H' s' I' hn hC hle q
 obtain⟨m,hn⟩:=hn
 exact⟨m,hn,fun h'' hs''=>⟨.ref D,H',I2.goneC I' hC hle hs'',rfl,q⟩⟩
end
section
variable {X:Cx}{pins:List (Addr×Obj)}{σ:St}{H:Hp}{s:Shared}{scope:Scope}{vs fs:List Str}{js:List Nat}
end
section
variable {vs:List Str}{js:List Nat}{σ:St}{H:Hp}{Q:VK}
theorem rd_comp2 {wi wi2:TI}{g1 g2:TG}{tt1 tt2:TT}{te:TE}(h:wi σ H fun J H1=>∀D,H1 D=none→CompW2 J vs js σ g1 tt1 wi2 g2 tt2 te Q D H1):tComp2 vs js wi g1 tt1 wi2 g2 tt2 te σ H Q:=h
theorem rd_in {wi2:TI}{g2:TG}{tt2:TT}{te:TE}{D:Addr}{ys:List V}{N0:St→List V→Hp→Prop}(h:wi2 σ H fun J H1 =>
  ∃W:Nat→Nat→St→List V→Hp→Prop,(∃m,W 0 m σ ys H1)∧∀i m σ' ys' H',W i m σ' ys' H' →
   (J.stop i H'∧N0 σ' ys' H') ∨(J.go i H'∧∃N:St→List V→Hp→Prop,(∀σ2 zs H2,N σ2 zs H2→∃m',m'<m∧W (i+1) m' σ2 zs H2) ∧
    ∀x H2,J.yld i H' x H2→g2 x σ' H2 fun σ3 H3=>tt2 σ3 H3 fun b H4=>if b=true then te σ3 H4 fun y H5=>H5 D=some (.lst ys')∧ys'.length<sizeLine∧N σ3 (ys' ++ [y]) (upd H5 D (.lst (ys' ++ [y]))) else N σ3 ys' H4)):tIn wi2 g2 tt2 te D ys σ H N0:=h
theorem comp2_list {K:PySem.W.Frag}{a:Addr}{xs:List V}{wi2:TI}{g1 g2:TG}{tt1 tt2:TT}{te:TE}(Pv:Nat→St→List V→Hp→Prop) (D:Addr) (h0:Pv 0 (blkSt vs js σ) [] (upd H D (.lst []))) (hl:∀i σ' ys H',i≤xs.length→Pv i σ' ys H'→SqL K H' a xs)
  (hs:∀i x σ' ys H',xs[i]? = some x→Pv i σ' ys H'→g1 x σ' H' fun σ3 H3=>tt1 σ3 H3 fun b H4=>if b=true then tIn wi2 g2 tt2 te D ys σ3 H4 (Pv (i+1)) else Pv (i+1) σ3 ys H4)
  (hd:∀σ' ys H',Pv xs.length σ' ys H'→Q (.ref D) H') :
  CompW2 (Itl K a) vs js σ g1 tt1 wi2 g2 tt2 te Q D H:=by
 refine⟨fun i m σ' ys H'=>m=xs.length-i∧i≤xs.length∧Pv i σ' ys H',⟨xs.length,by simp,Nat.zero_le _,h0⟩,?_⟩
 rintro i m σ' ys H' ⟨rfl,hi,p⟩
 have q:=hl i σ' ys H' hi p
 by_cases hlt:i<xs.length
 ·refine .inr ⟨⟨xs,xs[i],q,by simp[hlt]⟩,Pv (i+1),fun σ2 zs H2 p'=>⟨xs.length-(i+1),by omega,rfl,hlt,p'⟩,fun x H2 y=>?_⟩
  obtain⟨e,y⟩:=y
  subst e
  exact hs i x σ' ys _ (y xs q) p
 ·have e:i=xs.length:=by omega
  subst e
  exact .inl ⟨⟨xs,q,Nat.le_refl _⟩,hd σ' ys H' p⟩
theorem in_list {K:PySem.W.Frag}{g2:TG}{tt2:TT}{te:TE}{D:Addr}{ys:List V}{N0:St→List V→Hp→Prop}{a:Addr}{xs:List V}(Pv:Nat→St→List V→Hp→Prop) (h0:Pv 0 σ ys H) (hl:∀i σ' ys' H',i≤xs.length→Pv i σ' ys' H'→SqL K H' a xs)
  (hs:∀i x σ' ys' H',xs[i]? = some x→Pv i σ' ys' H'→g2 x σ' H' fun σ3 H3=>tt2 σ3 H3 fun b H4=>if b=true then te σ3 H4 fun y H5=>H5 D=some (.lst ys')∧ys'.length<sizeLine∧Pv (i+1) σ3 (ys' ++ [y]) (upd H5 D (.lst (ys' ++ [y]))) else Pv (i+1) σ3 ys' H4)
  (hd:∀σ' ys' H',Pv xs.length σ' ys' H'→N0 σ' ys' H') :
  ∃W:Nat→Nat→St→List V→Hp→Prop,(∃m,W 0 m σ ys H)∧∀i m σ' ys' H',W i m σ' ys' H' →
   ((Itl K a).stop i H'∧N0 σ' ys' H') ∨((Itl K a).go i H'∧∃N:St→List V→Hp→Prop,(∀σ2 zs H2,N σ2 zs H2→∃m',m'<m∧W (i+1) m' σ2 zs H2) ∧
    ∀x H2,(Itl K a).yld i H' x H2→g2 x σ' H2 fun σ3 H3=>tt2 σ3 H3 fun b H4=>if b=true then te σ3 H4 fun y H5=>H5 D=some (.lst ys')∧ys'.length<sizeLine∧N σ3 (ys' ++ [y]) (upd H5 D (.lst (ys' ++ [y]))) else N σ3 ys' H4):=by
 refine⟨fun i m σ' ys H'=>m=xs.length-i∧i≤xs.length∧Pv i σ' ys H',⟨xs.length,by simp,Nat.zero_le _,h0⟩,?_⟩
 rintro i m σ' ys H' ⟨rfl,hi,p⟩
 have q:=hl i σ' ys H' hi p
 by_cases hlt:i<xs.length
 ·refine .inr ⟨⟨xs,xs[i],q,by simp[hlt]⟩,Pv (i+1),fun σ2 zs H2 p'=>⟨xs.length-(i+1),by omega,rfl,hlt,p'⟩,fun x H2 y=>?_⟩
  obtain⟨e,y⟩:=y
  subst e
  exact hs i x σ' ys _ (y xs q) p
 ·have e:i=xs.length:=by omega
  subst e
  exact .inl ⟨⟨xs,q,Nat.le_refl _⟩,hd σ' ys H' p⟩
end
end L2
namespace L2
open PySem PySem.Spec PyProof.Rows
section
variable {X:Cx}
end
end L2
namespace L2
open PySem PySem.Spec PyProof.Rows
section
variable {X:Cx}{x m:Str}{C:Addr}{ps:List Str}{k:Nat}{sp:Sp}{e o:Expr}{es:List Expr}{t:TA}{ta:TE}{p pos apos:Pos}
end
section
variable {σ:St}{H:Hp}{Q:VK}
theorem rd_dnin {ty td:TE}(h:ty σ H fun y H1=>td σ H1 fun x H2=>∃a o,x = .ref a∧DGet H2 a y o∧Q (.bl (!o.isSome)) H2):tDNotIn ty td σ H Q:=h
end
section
variable {X:Cx}
end
section
variable {X:Cx}{pins:List (Addr×Obj)}{σ:St}{H:Hp}{s:Shared}{d:Addr}{o:Obj}{kvs:List (Key×V)}
end
section
variable {X:Cx}
end
end L2
namespace L2
open PySem PySem.Spec PyProof.Rows
section
variable {prog:Program}{w:World}{A:Around}{E:Value→Shared→Prop}{s:Shared}{κ:Type} [DecidableEq κ] {knd:KeyKind prog w κ}
theorem collect_dict {Q:List Value→Shared→Prop}{d:Addr}{kvs:List (κ×Value)}(hh:A.handled=none) (hd:(d == sysModules)=false) (hm:s.heap.DictOf knd d kvs) (hlen:kvs.length≤2^24)
  (hQ:∀h' tk acc,(∀b o,s.heap.get? b=some o→h'.get? b=some o)→ItemsOf (fun i v=>∃k x,kvs[i]? = some (k,x)∧knd.is k v=true) acc kvs.length→Q acc.toList { s with heap:=h',toks:=tk }) :
  wpAny (model prog w) A (collect (.ref d)) Q E s:=by
 unfold collect
 refine wpAny_bind (wpAny_runValue (codeAny_builtin PySem.F.entry_proto_collect ?_))
 rw[Around.under_plainId PySem.F.plain_proto_collect _]
 show wpAny _ A.in1 (newList [] >>= fun l=>again (.builtin "list.__iadd__" ⟨[l,.ref d],[]⟩)) _ _ s
 refine wpAny_bind (wpAny_newObj_type ?_)
 refine wpAny_pure ⟨plainId_quiet PySem.F.plain_list_iadd _,codeAny_builtin PySem.F.entry_list_iadd ?_⟩
 rw[Around.under_plainId PySem.F.plain_list_iadd _]
 have hS:(s.heap.push { cls:=.type "list",data:=.seq ([]:List Value).toArray }).get? s.heap.objs.size=some { cls:=.type "list",data:=.seq ([]:List Value).toArray }:=Heap.get?_push_size _ rfl
 show wpAny _ A.in1 (Builtin.List.listExtendWith (.ref s.heap.objs.size) (.ref d) (.ref s.heap.objs.size)) _ _ _
 refine extend_dict (knd:=knd) (kvs:=kvs) (R:=fun r s'=>match r with
   | .ok (.ret v)=>wpAny (model prog w) A (match v with
     | .ref a=>do
      let o ← load a
      match o.data with
      | .seq xs _=>pure xs.toList
      | _=>unsupported "internal:collect"
     | _=>unsupported "internal:collect") Q E s'
   | .ok _=>False
   | .error e=>E e s') (s:={ s with heap:=s.heap.push { cls:=.type "list",data:=.seq ([]:List Value).toArray } }) hh hd (hm.push _) hlen s.heap.objs.size _ _ hS fun h' tk acc' c' hk hS' hacc=>?_
 show wpAny _ A (load s.heap.objs.size >>= _) _ _ _
 refine wpAny_bind (wpAny_load hS' ?_)
 exact wpAny_pure (hQ h' tk acc' (fun b o e=>hk b o (Nat.ne_of_lt (Heap.lt_size e)) (Heap.get?_push_of_some _ e)) hacc)
theorem sorted_pairs {x:Value}{Q:Value→Shared→Prop}{n:Nat}(hv:n≤100000) (P:Heap→List Value→(Value→Int)→Prop)
  (hC:∀(A':Around) (R:List Value→Shared→Prop) (E':Value→Shared→Prop),A'.handled=A.handled→(∀h' tk vs kf,P h' vs kf→vs.length=n→(∀v∈vs,TupI h' v (kf v))→(∀v∈vs,∀u∈vs,kf v=kf u→v=u)→R vs { s with heap:=h',toks:=tk })→wpAny (model prog w) A' (collect x) R E' s)
  (hQ:∀(h':Heap) (tk:Nat) (vs:List Value) (kf:Value→Int) (out:Array Value) (hF:Heap) (e:Nat),P h' vs kf→out.toList.Perm vs→out.toList.Pairwise (fun u v=>kf u≤kf v)→(∀b o,h'.get? b=some o→hF.get? b=some o)→hF.get? h'.objs.size=some (seqObj "list" out e)→Q (.ref h'.objs.size) { s with heap:=hF,toks:=tk }) :
  wpAny (model prog w) A (call (.builtin "sorted") [x]) Q E s:=by
 have hline:(100000:Nat)<sizeLine:=by decide
 refine(Calls.call_function_entry kind_sorted plain_sorted entry_sorted (args_sorted1 _) ?_)
 unfold Builtin.«sorted»
 refine(wpAny_bind (m:=checkCount "sorted" 1 1 _) (wpAny_pure ?_))
 refine(wpAny_bind (hC _ _ _ rfl fun h' tk vs kf hP hl hT hN=>?_))
 have hvl:vs.length≤100000:=by rw[hl];exact hv
 refine(wpAny_bind (wpAny_newList ?_ (by first|omega|(simp;omega))))
 have at1:(h'.push (seqObj "list" vs.toArray 0)).get? h'.objs.size=some (seqObj "list" vs.toArray 0):=Heap.get?_push_size _ rfl
 show wpAny _ _ _ _ E { s with heap:=h'.push (seqObj "list" vs.toArray 0),toks:=tk }
 refine wpAny_bind (wpAny_holding (wpAny_call_entry slot_list_sort ⟨_,at1,rfl⟩ entry_list_sort (lsort_tups (kf:=kf) at1 (fun v hv=>(hT v hv).keep fun b o _ hb=>Heap.get?_push_of_some _ hb) hN hvl fun out c1 c2=>⟨_,rfl,?_⟩) (args_list_sort _)))
 obtain⟨e,he⟩:=sortedHeap_at (vs:=vs) (out:=out) at1
 exact wpAny_pure ⟨_,rfl,hQ h' tk vs kf out _ e hP c1 c2 (fun b o hb=>by
  have hlt:=Heap.lt_size hb
  refine(sortedHeap_old (Nat.ne_of_lt hlt) (by rw[size_push'];exact Nat.lt_succ_of_lt hlt)).trans ?_
  rw[Heap.get?_push_ne _ _ _ (Nat.ne_of_lt hlt)];exact hb) he⟩
end
def kfI (e:Int×V):Key×V:=((Sum.inl e.1:Key),e.2)
section
variable {X:Cx}
def ViewI (v d:Addr):HO:=.ext fun h=>h.IsItemsView v d
def rItems:V→List V→Hp→VK→Prop:=fun x vs H Q=>∃d kvs,x = .ref d∧vs=[]∧H d=some (.dK kvs)∧∀v,H v=none→Q (.ref v) (upd H v (ViewI v d))
theorem mt_items:MtR X "dict.items" rItems:=by
 intro pins s σ H x xs v us Q I rx rs h
 obtain⟨d,kvs,rfl,rfl,hd,q⟩:=h
 cases rx
 cases rs
 obtain⟨hz,lo,vs,r,hD⟩ : kvs.length≤sizeLine∧(d == sysModules)=false∧∃vs,KV kvs vs∧s.heap.DictOf (mixKind X.prog X.w) d vs:=I.hok d _ hd
 refine call_meetsIn PySem.F.slot_dict_items hD.typeIs PySem.F.entry_dict_items (PySem.F.args_dict_items_1 _) (meets_dict_items (mixKind X.prog X.w) d lo) ⟨⟨vs,hD⟩,?_⟩
 exact⟨.ref s.heap.objs.size,_,I.laid (t':=s.toks) (a:=s.heap.objs.size) (o:=ViewI s.heap.objs.size d) (fun b u q=>Heap.get?_push_of_some _ q) (Nat.le_refl _) ⟨⟨_,Heap.get?_push_size _ rfl,rfl,rfl⟩,⟨_,Heap.get?_push_size _ rfl⟩,fun h1 h2 ⟨o,ho,r⟩ k=>⟨o,k _ ho,r⟩⟩,rfl,q _ (I.hok.fresh (Nat.le_refl _))⟩
theorem adopt_tups:∀{ps:List (Int×V)}{ts:List Addr}{pins:List (Addr×Obj)}{σ:St}{H:Hp}{s:Shared},Inv X pins σ H s→ts.Nodup→ts.length=ps.length→(∀t∈ts,FpOk X pins H t)→(∀(i:Nat) (t:Addr) (p:Int×V),ts[i]? = some t→ps[i]? = some p→∃its:List Value,Vals [.int p.1,p.2] its∧IsTup s.heap t its.toArray) →
  ∃H',Inv X pins σ H' s∧Same H H'∧(∀b,b∉ts→H' b=H b)∧∀(i:Nat) (t:Addr) (p:Int×V),ts[i]? = some t→ps[i]? = some p→H' t=some (.tup [.int p.1,p.2])
 | [],[],pins,σ,H,s,I,_,_,_,_=>⟨H,I,fun _ _ e=>e,fun _ _=>rfl,fun i t p e=>by simp at e⟩
 | [],_::_,_,_,_,_,_,_,l,_,_=>by cases l
 | _::_,[],_,_,_,_,_,_,l,_,_=>by cases l
 | p::ps,t::ts,pins,σ,H,s,I,nd,l,f,h=>by
  obtain⟨n1,n2⟩:=List.nodup_cons.mp nd
  obtain⟨its,rv,tu⟩:=h 0 t p rfl rfl
  have ft:=f t List.mem_cons_self
  have I1:Inv X pins σ (upd H t (.tup [.int p.1,p.2])) { s with heap:=s.heap,toks:=s.toks }:=I.adopt (t':=s.toks) (ch:=[t]) (fun b o _ e=>e) (fun b hb=>by rw[List.mem_singleton.mp hb];exact ft) (by simp) ⟨(by show 2≤sizeLine;decide),its,rv,tu⟩
  obtain⟨H',I',s',k',h'⟩:=adopt_tups (ps:=ps) (ts:=ts) I1 n2 (by simpa using l) (fun u hu=>by
   obtain⟨f0,f1⟩:=f u (List.mem_cons_of_mem _ hu)
   exact⟨by rw[upd_ne (show u≠t from fun z=>n1 (z ▸ hu))];exact f0,f1⟩) fun i u q e1 e2=>h (i+1) u q (by simpa using e1) (by simpa using e2)
  refine⟨H',I',fun b o e=>s' b o (by rw[upd_ne (ne_of_none e ft.1)];exact e),fun b hb=>?_,fun i u q e1 e2=>?_⟩
  ·rw[k' b (fun z=>hb (List.mem_cons_of_mem _ z)),upd_ne (show b≠t from fun z=>hb (z ▸ List.mem_cons_self))]
  ·cases i with
   | zero =>
    cases e1;cases e2
    exact s' _ _ upd_same
   | succ i=>exact h' i u q (by simpa using e1) (by simpa using e2)
def rSortI:List V→Hp→VK→Prop:=fun xs H Q=>∃(v d:Addr) (kvs:List (Int×V)),xs=[.ref v]∧H v=some (ViewI v d)∧H d=some (.dK (kvs.map kfI))∧(kvs.map (·.1)).Nodup∧kvs.length≤100000 ∧
 ∀(ps:List (Int×V)) (ts:List Addr) (l:Addr) (H':Hp),ps.Perm kvs→ps.Pairwise (fun a b=>a.1≤b.1)→Same H H'→H l=none→H' l=some (.lst (ts.map V.ref))→ts.length=ps.length→(∀(i:Nat) (t:Addr) (p:Int×V),ts[i]? = some t→ps[i]? = some p→H' t=some (.tup [.int p.1,p.2]))→Q (.ref l) H'
theorem call_sortI (hc:X.calm=true):CallR X (.builtin "sorted") rSortI:=by
 intro pins s σ H xs us Q I r h
 obtain⟨v,d,kvs,rfl,hv,hd,nd,hn,q⟩:=h
 obtain⟨u,rfl,r1⟩:=vals1 r
 cases (show u=Value.ref v from r1)
 obtain⟨hz,lo,vs,rk,hD⟩ : (kvs.map kfI).length≤sizeLine∧(d == sysModules)=false∧∃vs,KV (kvs.map kfI) vs∧s.heap.DictOf (mixKind X.prog X.w) d vs:=I.hok d _ hd
 have hl:(kvs.map kfI).length=vs.length:=Paired.length rk
 rw[List.length_map]at hl
 have view:s.heap.IsItemsView v d:=(I.hok _ _ hv).1
 obtain⟨ep,hA⟩:=hD.dictAt
 refine sorted_pairs (n:=kvs.length) hn (fun h' ws kf=>(∀b o,s.heap.get? b=some o→h'.get? b=some o)∧∃as:List Addr,ws=as.map Value.ref∧as.length=kvs.length∧as.Nodup∧(∀a∈as,s.heap.objs.size≤a)∧∀(i:Nat) (a:Addr) (p:Int×V),as[i]? = some a→kvs[i]? = some p→kf (.ref a)=p.1∧∃its:List Value,Vals [.int p.1,p.2] its∧IsTup h' a its.toArray) (fun A' R E' hA' hR=>?_) fun h' tk ws kf out hF e hP c1 c2 keep he=>?_
 ·refine PySem.W.kdx_collect (knd:=mixKind X.prog X.w) (kvs:=vs) (ep:=ep) (hA'.trans (I.ok.hd hc)) view hA (Nat.le_trans (Nat.le_of_eq hl.symm) (Nat.le_trans hn (Nat.le_of_lt (show(100000:Nat)<sizeLine by decide)))) fun h' tk as kp al G=>?_
  have pr:∀(i:Nat) (a:Addr) (p:Int×V),as[i]? = some a→kvs[i]? = some p→∃(t:Tok) (y:Value),RelV p.2 y∧h'.get? a=some { cls:=.type "tuple",data:=.seq #[.int p.1 t,y] }:=fun i a p e1 e2=>by
   obtain⟨key,k,x,g1,g2,g3⟩:=G.pairs i a e1
   have e3:(kvs.map kfI)[i]? = some (kfI p):=by rw[List.getElem?_map,e2];rfl
   obtain⟨u,hu,ru⟩:=KV.get rk e3
   rw[hu]at g1
   cases g1
   obtain⟨t,rfl⟩ : ∃t,key=Value.int p.1 t:=is_kV g2
   exact⟨t,_,ru,g3⟩
  have nda:as.Nodup:=G.rise.imp fun h=>Nat.ne_of_lt h
  let kf:Value→Int:=fun v=>match v with
   | .ref a=>(match as.findIdx? (· == a) with
    | some i=>(match kvs[i]? with
     | some p=>p.1
     | none=>0)
    | none=>0)
   | _=>0
  have kfe:∀(i:Nat) (a:Addr) (p:Int×V),as[i]? = some a→kvs[i]? = some p→kf (.ref a)=p.1:=fun i a p e1 e2=>by
   have il:=(List.getElem?_eq_some_iff.mp e1).1
   have hf:as.findIdx? (· == a)=some i:=by
    rw[List.findIdx?_eq_some_iff_getElem]
    refine⟨il,by rw[(List.getElem?_eq_some_iff.mp e1).2];simp,fun j hj=>?_⟩
    have:as[j]≠as[i]:=fun z=>by
     have:=(List.getElem_inj nda).mp z
     omega
    rw[(List.getElem?_eq_some_iff.mp e1).2]at this
    simpa using this
   show(match as.findIdx? (· == a) with
    | some i=>(match kvs[i]? with
     | some p=>p.1
     | none=>0)
    | none=>0)=p.1
   rw[hf]
   show(match kvs[i]? with|some p=>p.1|none=>0)=p.1
   rw[e2]
  have al':as.length=kvs.length:=by omega
  refine hR h' tk (as.map Value.ref) kf ⟨kp,as,rfl,al',nda,fun a ha=>Nat.le_of_lt (G.above a ha),fun i a p e1 e2=>⟨kfe i a p e1 e2,?_⟩⟩ (by rw[List.length_map];exact al') (fun v hv=>?_) fun v hv u hu e=>?_
  ·obtain⟨t,y,ry,g⟩:=pr i a p e1 e2
   exact⟨[.int p.1 t,y],.cons ⟨t,rfl⟩ (.cons ry .nil),⟨_,g,rfl,_,rfl⟩⟩
  ·obtain⟨a,ha,rfl⟩:=List.mem_map.mp hv
   obtain⟨i,hi⟩:=List.getElem?_of_mem ha
   have il:=(List.getElem?_eq_some_iff.mp hi).1
   have e2:=List.getElem?_eq_getElem (l:=kvs) (i:=i) (by omega)
   obtain⟨t,y,ry,g⟩:=pr i a _ hi e2
   rw[kfe i a _ hi e2]
   exact⟨a,_,0,t,[y],rfl,g,rfl,rfl⟩
  ·obtain⟨a,ha,rfl⟩:=List.mem_map.mp hv
   obtain⟨a',ha',rfl⟩:=List.mem_map.mp hu
   obtain⟨i,hi⟩:=List.getElem?_of_mem ha
   obtain⟨i',hi'⟩:=List.getElem?_of_mem ha'
   have il:=(List.getElem?_eq_some_iff.mp hi).1
   have il':=(List.getElem?_eq_some_iff.mp hi').1
   rw[kfe i a _ hi (List.getElem?_eq_getElem (by omega)),kfe i' a' _ hi' (List.getElem?_eq_getElem (by omega))]at e
   have e1:(kvs.map (·.1))[i]'(by rw[List.length_map];omega) =(kvs.map (·.1))[i']'(by rw[List.length_map];omega):=by simpa using e
   have ii:=(List.getElem_inj nd).mp e1
   subst ii
   rw[hi]at hi'
   rw[Option.some.inj hi']
 ·obtain⟨kp,as,rfl,al,nda,ab,hp⟩:=hP
  have I1:Inv X pins σ H { s with heap:=h',toks:=tk }:=I.kept kp
  obtain⟨H1,I2,s2,k2,h2⟩:=adopt_tups (ps:=kvs) (ts:=as) I1 nda al (fun t ht=>I.fpOk (ab t ht) (I.hok.fresh (ab t ht))) fun i t p e1 e2=>(hp i t p e1 e2).2
  have out':∃us2:List Addr,us2.Perm as∧out.toList=us2.map Value.ref:=by
   refine⟨out.toList.map fun v=>match v with | .ref a=>a|_=>0,?_,?_⟩
   ·have:=c1.map (fun v=>match v with|Value.ref a=>a|_=>0)
    refine this.trans ?_
    rw[List.map_map]
    exact List.Perm.of_eq (by simp[Function.comp_def])
   ·rw[List.map_map]
    refine(List.map_id _).symm.trans (List.map_congr_left fun v hv=>?_)
    obtain⟨t,_,rfl⟩:=List.mem_map.mp (c1.mem_iff.mp hv)
    rfl
  obtain⟨us2,p1,p2⟩:=out'
  have hz2:(us2.map V.ref).length≤sizeLine:=by
   have hline:(100000:Nat)<sizeLine:=by decide
   rw[List.length_map,p1.length_eq];omega
  have nl:H1 h'.objs.size=none:=I2.hok.fresh (Nat.le_refl _)
  have I3:=I2.laid (t':=tk) (h':=hF) keep (Nat.le_refl _) (o:=.lst (us2.map V.ref)) ⟨hz2,out.toList,e,by rw[p2];exact refs_vals us2,by simpa using he⟩
  let g:Addr→Int×V:=fun a=>match as.findIdx? (· == a) with
   | some i=>(kvs[i]?).getD (0,.non)
   | none=>(0,.non)
  have ge:∀(i:Nat) (a:Addr) (p:Int×V),as[i]? = some a→kvs[i]? = some p→g a=p:=fun i a p e1 e2=>by
   have hf:as.findIdx? (· == a)=some i:=by
    rw[List.findIdx?_eq_some_iff_getElem]
    refine⟨(List.getElem?_eq_some_iff.mp e1).1,by rw[(List.getElem?_eq_some_iff.mp e1).2];simp,fun j hj=>?_⟩
    have il:=(List.getElem?_eq_some_iff.mp e1).1
    have:as[j]≠as[i]:=fun z=>by
     have:=(List.getElem_inj nda).mp z
     omega
    rw[(List.getElem?_eq_some_iff.mp e1).2]at this
    simpa using this
   show(match as.findIdx? (· == a) with
    | some i=>(kvs[i]?).getD (0,V.non)
    | none=>(0,V.non))=p
   rw[hf]
   show(kvs[i]?).getD (0,.non)=p
   rw[e2];rfl
  have gk:as.map g=kvs:=by
   refine List.ext_getElem? fun i=>?_
   rw[List.getElem?_map]
   cases c:as[i]? with
   | none=>rw[List.getElem?_eq_none (by have:=List.getElem?_eq_none_iff.mp c;omega)];rfl
   | some a =>
    have il:=(List.getElem?_eq_some_iff.mp c).1
    have e2:=List.getElem?_eq_getElem (l:=kvs) (i:=i) (by omega)
    rw[e2]
    show some (g a)=_
    rw[ge i a _ c e2]
  have at':∀a∈as,∃i p,as[i]? = some a∧kvs[i]? = some p:=fun a ha=>by
   obtain⟨i,hi⟩:=List.getElem?_of_mem ha
   have il:=(List.getElem?_eq_some_iff.mp hi).1
   exact⟨i,_,hi,List.getElem?_eq_getElem (by omega)⟩
  refine⟨.ref h'.objs.size,_,I3,rfl,q (us2.map g) us2 _ _ ?_ ?_ ?_ (I1.hok.fresh (Nat.le_refl _)) upd_same (by rw[List.length_map]) fun i t p e1 e2=>?_⟩
  ·rw[← gk];exact p1.map g
  ·rw[p2,List.pairwise_map]at c2
   rw[List.pairwise_map]
   refine c2.imp_of_mem fun {a b} ha hb h=>?_
   obtain⟨i,p,i1,i2⟩:=at' a (p1.mem_iff.mp ha)
   obtain⟨j,r,j1,j2⟩:=at' b (p1.mem_iff.mp hb)
   rw[(hp i a p i1 i2).1,(hp j b r j1 j2).1]at h
   rw[ge i a p i1 i2,ge j b r j1 j2]
   exact h
  ·intro b o e
   have n:b≠h'.objs.size:=ne_of_none (s2 _ _ e) nl
   rw[upd_ne n];exact s2 _ _ e
  ·rw[List.getElem?_map,e1]at e2
   have e3:g t=p:=Option.some.inj e2
   obtain⟨j,r,j1,j2⟩:=at' t (p1.mem_iff.mp (List.mem_of_getElem? e1))
   have ht:=h2 j t r j1 j2
   rw[ge j t r j1 j2]at e3
   rw[upd_ne (ne_of_none ht nl),ht,e3]
end
end L2
namespace L2
open PySem PySem.Spec PyProof.Rows
section
variable {σ:St}{H:Hp}{Q:VK}{D:Ends}
def IsT (R t:TS):Prop:=R=t
theorem rd_seqO {t u:TS}(h:∀R,IsT R u→t { D with nx:=R D } σ H):tSeq t u D σ H:=h u rfl
theorem rd_ifSO {c:TT}{t u:TS}(h:∀R S,IsT R t→IsT S u→c σ H fun b H1=>if b=true then R D σ H1 else S D σ H1):tIfS c t u D σ H:=h t u rfl rfl
theorem rd_forO {wi:TI}{g:TG}{tb:TS}(h:∀R,IsT R tb→wi σ H fun J H1=>∃W:Nat→Nat→St→Hp→Prop,(∃m,W 0 m σ H1)∧∀i m σ H,W i m σ H →
 (J.stop i H∧D.nx σ H) ∨(J.go i H∧∃N:St→Hp→Prop,(∀σ' H',N σ' H'→∃m',m'<m∧W (i+1) m' σ' H')∧∀x H',J.yld i H x H'→g x σ H' fun σ2 H2=>R { D with nx:=N,ct:=N,bk:=D.nx } σ2 H2)):tFor wi g tb D σ H:=h tb rfl
theorem rd_tx {R t:TS}(e:IsT R t) (h:t D σ H):R D σ H:=by cases e;exact h
def IsN (N I:St→Hp→Prop):Prop:=∀σ H,I σ H→N σ H
def AllN (I:St→Hp→Prop) (t:(St→Hp→Prop)→Prop):Prop:=∀N,IsN N I→t N
theorem rd_allN {I:St→Hp→Prop}{t:(St→Hp→Prop)→Prop}(h:∀N,IsN N I→t N):AllN I t:=h
theorem rd_isN {N I:St→Hp→Prop}(e:IsN N I) (h:I σ H):N σ H:=e σ H h
theorem cutO {t:TS}(R:St→Hp→Prop) (h:AllN R fun N=>t { D with nx:=N } σ H) (k:∀σ' H',R σ' H'→D.nx σ' H'):tCut t D σ H:=⟨R,h _ fun _ _ z=>z,k⟩
theorem for_rangeO {lo:Int}{n:Nat}{g:TG}{tb:TS}(Pv:Nat→St→Hp→Prop) (h0:Pv 0 σ H)
  (hs:∀i σ H,i<n→Pv i σ H→AllN (Pv (i+1)) fun N=>g (.int (lo+i)) σ H fun σ2 H2=>tb { D with nx:=N,ct:=N,bk:=D.nx } σ2 H2) (hd:∀σ H,Pv n σ H→D.nx σ H) :
  ∃W:Nat→Nat→St→Hp→Prop,(∃m,W 0 m σ H)∧∀i m σ H,W i m σ H →
   ((Itr lo n).stop i H∧D.nx σ H) ∨((Itr lo n).go i H∧∃N:St→Hp→Prop,(∀σ' H',N σ' H'→∃m',m'<m∧W (i+1) m' σ' H')∧∀x H',(Itr lo n).yld i H x H'→g x σ H' fun σ2 H2=>tb { D with nx:=N,ct:=N,bk:=D.nx } σ2 H2) :=
 for_range Pv h0 (fun i σ H a b=>hs i σ H a b _ fun _ _ z=>z) hd
theorem for_listO {K:PySem.W.Frag}{a:Addr}{xs:List V}{g:TG}{tb:TS}(Pv:Nat→St→Hp→Prop) (h0:Pv 0 σ H) (hl:∀i σ H,i≤xs.length→Pv i σ H→SqL K H a xs)
  (hs:∀i x σ H,xs[i]? = some x→Pv i σ H→AllN (Pv (i+1)) fun N=>g x σ H fun σ2 H2=>tb { D with nx:=N,ct:=N,bk:=D.nx } σ2 H2) (hd:∀σ H,Pv xs.length σ H→D.nx σ H) :
  ∃W:Nat→Nat→St→Hp→Prop,(∃m,W 0 m σ H)∧∀i m σ H,W i m σ H →
   ((Itl K a).stop i H∧D.nx σ H) ∨((Itl K a).go i H∧∃N:St→Hp→Prop,(∀σ' H',N σ' H'→∃m',m'<m∧W (i+1) m' σ' H')∧∀x H',(Itl K a).yld i H x H'→g x σ H' fun σ2 H2=>tb { D with nx:=N,ct:=N,bk:=D.nx } σ2 H2) :=
 for_list Pv h0 hl (fun i x σ H a b=>hs i x σ H a b _ fun _ _ z=>z) hd
end
end L2
namespace L2
open PySem PySem.Spec PyProof.Rows
section
variable {X:Cx}{σ:St}{H:Hp}{Q:VK}{D:DK}
end
section
variable {K:PySem.W.Frag}
def Ga (K:PySem.W.Frag) (x:Str) (st:Stmt):Prop:=∃f:Addr,PySem.W.nsIn K mainGlobals x=some (some (.ref f))∧∃fd:FuncData,Fun K x x st f fd
def Ga2 (K:PySem.W.Frag) (x y:Str) (st:Stmt):Prop:=∃f:Addr,PySem.W.nsIn K mainGlobals x=some (some (.ref f))∧PySem.W.nsIn K mainGlobals y=some (some (.ref f))∧∃fd:FuncData,Fun K x x st f fd
def Me (K:PySem.W.Frag) (C:Addr) (m q:Str) (st:Stmt):Prop:=∃f:Addr,PySem.W.findIn K (.ref C) m=some (some (.ref f))∧PySem.W.isFn K (.ref f)=true∧PySem.W.keepIn K (.ref f)=true∧∃fd:FuncData,Fun K m q st f fd
theorem Ga.elim {x:Str}{st:Stmt}{R:Prop}(g:Ga K x st) (k:∀f,PySem.W.nsIn K mainGlobals x=some (some (.ref f))→∀fd,Fun K x x st f fd→R):R:=by
 obtain⟨f,a,fd,F⟩:=g
 exact k f a fd F
theorem Ga.mk {x:Str}{st:Stmt}{f:Addr}{oc:Value}{od an:Option Addr}{osl:Array (Option Value)}{kV doc pm cdv ct:Value}(a:PySem.W.nsIn K mainGlobals x=some (some (.ref f))) (l:K.lookup f=some ⟨oc,od,.func (PySem.W.fnOf x x (defArgs st) (defBody st) (defScope st) .none kV doc pm an cdv ct),osl⟩) (c:PySem.W.codeIn K cdv x=true) (k:PySem.W.keepIn K (.ref f)=true):Ga K x st:=⟨f,a,_,fun_mk l c k⟩
end
end L2
namespace L2
open PySem PySem.Spec PyProof.Rows
mutual
inductive DW (H:Hp):V→PyData→Prop
 | non:DW H .non .none
 | bl (b:Bool):DW H (.bl b) (.bool b)
 | int (i:Int):DW H (.int i) (.int i)
 | str (x:Str):DW H (.str x) (.str x)
 | lst {a:Addr}{xs:List V}{ds:List PyData}:H a=some (.lst xs)→DWs H xs ds→DW H (.ref a) (.list ds)
 | tup {a:Addr}{xs:List V}{ds:List PyData}:H a=some (.tup xs)→DWs H xs ds→DW H (.ref a) (.tuple ds)
 | dic {a:Addr}:H a=some (.dK [])→DW H (.ref a) (.dict [])
inductive DWs (H:Hp):List V→List PyData→Prop
 | nil:DWs H [] []
 | cons {x:V}{d:PyData}{xs:List V}{ds:List PyData}:DW H x d→DWs H xs ds→DWs H (x::xs) (d::ds)
end
mutual
def nlD:PyData→Bool
 | .list _=>false
 | .tuple xs=>nlDs xs
 | _=>true
def nlDs:List PyData→Bool
 | []=>true
 | x::xs=>nlD x && nlDs xs
end
section
variable {X:Cx}{pins:List (Addr×Obj)}{σ:St}{H:Hp}{s:Shared}
end
section
variable {X:Cx}
end
section
variable {X:Cx}
end
def Sub (M:Addr→Bool) (H H':Hp):Prop:=∀a o,M a=false→H a=some o→H' a=some o
end L2
namespace L2
open PySem PySem.Spec PyProof.Rows
section
variable {K:PySem.W.Frag}{σ:St}{H:Hp}{Q:VK}
theorem comp_enum {vs:List Str}{js:List Nat}{g:TG}{tt:TT}{te:TE}{a:Addr}{xs:List V}(Pv:Nat→St→List V→Hp→Prop) (D:Addr) (h0:Pv 0 (blkSt vs js σ) [] (upd H D (.lst []))) (hl:∀i σ' ys H',i≤xs.length→Pv i σ' ys H'→SqL K H' a xs)
  (hs:∀(i:Nat) x σ' ys H' t,xs[i]? = some x→Pv i σ' ys H'→H' t=none→g (.ref t) σ' (upd H' t (.tup [.int i,x])) fun σ3 H3=>tt σ3 H3 fun b H4=>if b=true then te σ3 H4 fun y H5=>H5 D=some (.lst ys)∧ys.length<sizeLine∧Pv (i+1) σ3 (ys ++ [y]) (upd H5 D (.lst (ys ++ [y]))) else Pv (i+1) σ3 ys H4)
  (hd:∀σ' ys H',Pv xs.length σ' ys H'→Q (.ref D) H'):CompW (Ite K a) vs js σ g tt te Q D H:=by
 refine⟨fun i m σ' ys H'=>m=xs.length-i∧i≤xs.length∧Pv i σ' ys H',⟨xs.length,by simp,Nat.zero_le _,h0⟩,?_⟩
 rintro i m σ' ys H' ⟨rfl,hi,p⟩
 have q:=hl i σ' ys H' hi p
 by_cases lt:i<xs.length
 ·refine .inr ⟨⟨xs,xs[i],q,by simp[lt]⟩,Pv (i+1),fun σ2 zs H2 p2=>⟨xs.length-(i+1),by omega,rfl,lt,p2⟩,fun x H2 y=>?_⟩
  obtain⟨t,u,nt,rfl,rfl,y1⟩:=y
  exact hs i u σ' ys _ t (y1 xs q) p nt
 ·obtain rfl:i=xs.length:=by omega
  exact .inl ⟨⟨xs,q,Nat.le_refl _⟩,hd σ' ys H' p⟩
end
section
variable {X:Cx}
end
end L2
namespace L2
open PySem PySem.Spec PyProof.Rows
section
variable {X:Cx}{pins:List (Addr×Obj)}{σ:St}{H:Hp}{s:Shared}{a:Addr}{kvs:List (Key×V)}{k:Key}{u r:Value}{A:Around}{E:Value→Shared→Prop}
theorem RelO.of_some {o:Option V}{w:Value}(r:RelO o (some w)):∃x,o=some x∧RelV x w:=by
 cases o with
 | none=>exact absurd r.isSome_eq (by simp)
 | some x=>exact⟨x,rfl,r⟩
theorem d_setd {v:V}{Q:Value→Shared→Prop}(I:Inv X pins σ H s) (e:H a=some (.dK kvs)) (ry:RelV (kV k) u) (rv:RelV v r) (hz:kvs.length<sizeLine)
  (h1:∀x w' s',valV kvs k=some x→Inv X pins σ H s'→RelV x w'→Q w' s') (h2:valV kvs k=none→∀s',Inv X pins σ (upd H a (.dK (putK kvs k v))) s'→Q r s'):wpAny (model X.prog X.w) A (call (.builtin "dict.setdefault") [.ref a,u,r]) Q E s:=by
 obtain⟨z,hd,vs,rel,dd⟩:=dk_of I.hok e
 refine call_meetsIn PySem.F.slot_dict_setdefault dd.typeIs PySem.F.entry_dict_setdefault (PySem.F.args_dict_setdefault_3 _ _ _) (kt_meets_setdefault (mixKind X.prog X.w) a (kV_is ry) hd r)
  ⟨vs,dd,by rw[← rel.length];exact z,fun w' hw=>?_,fun hn h' dd' hs=>?_⟩
 ·obtain⟨x,hx,rx⟩:=RelO.of_some (o:=valV kvs k) (w:=w') (by rw[← hw];exact rel.val k)
  exact h1 x w' _ hx (I.tok _) rx
 ·have hv:valV kvs k=none:=by
   cases c:valV kvs k with
   | none=>rfl
   | some x =>
    have:=(rel.val k).isSome_eq
    rw[c,hn]at this
    cases this
  have hl:(putK kvs k v).length≤sizeLine:=by have:=length_putK kvs k v;omega
  have he:∃q,h'.get? a=some q:=let ⟨q,_,_,hq,_⟩:=dd';⟨q,hq⟩
  exact h2 hv _ (d_write I (by rw[e];exact True.intro) hs he (dk_new hl hd (rel.put k rv) dd'))
def tDSetd (td ty tx:TE):TE:=fun σ H Q=>td σ H fun x H1=>∃a,x = .ref a∧IsD H1 a∧ty σ H1 fun y H2=>tx σ H2 fun z H3=>∃kvs k,H3 a=some (.dK kvs)∧y=kV k∧kvs.length<sizeLine ∧
 (∀v,valV kvs k=some v→Q v H3)∧(valV kvs k=none→Q z (upd H3 a (.dK (putK kvs k z))))
theorem rd_dsetd {Q:VK}{td ty tx:TE}(h:td σ H fun x H1=>∃a,x = .ref a∧IsD H1 a∧ty σ H1 fun y H2=>tx σ H2 fun z H3=>∃kvs k,H3 a=some (.dK kvs)∧y=kV k∧kvs.length<sizeLine ∧
 (∀v,valV kvs k=some v→Q v H3)∧(valV kvs k=none→Q z (upd H3 a (.dK (putK kvs k z))))):tDSetd td ty tx σ H Q:=h
theorem pe_dsetd {o e f:Expr}{apos cpos:Pos}{td ty tx:TE}(ho:PE X o td) (he:PE X e ty) (hf:PE X f tx) (m:M2 X o "setdefault" apos e f cpos):PE X (.Call (.Attribute o "setdefault" apos) [e,f] [] cpos) (tDSetd td ty tx):=by
 intro pins s σ H Q I h
 refine wpAny_Call_method m.base m.few m.line PySem.F.plainAttrs_dict PySem.F.slot_dict_setdefault PySem.F.type_dict_setdefault (thn (ho pins s σ H _ I h) fun u s1 ⟨x,H1,I1,rx,a,ex,d,q1⟩=>?_)
 subst ex
 obtain rfl:u=Value.ref a:=rx
 obtain⟨t1,t2,_⟩:=isD_at I1 d
 refine⟨t1,t2,?_⟩
 rw[m.trees]
 refine Calls.callWith_builtin rfl (Calls.evalArgs_plain (Calls.spliced_cons (thn (he pins s1 σ H1 _ I1 q1) fun iv s2 ⟨y,H2,I2,ry,q2⟩ =>
  Calls.spliced_cons (thn (hf pins s2 σ H2 _ I2 q2) fun fv s3 ⟨z,H3,I3,rz,kvs,k,ea,ey,hz,q3,q4⟩=>Calls.spliced_nil ?_))))
 subst ey
 exact d_setd I3 ea ry rz hz (fun x w' s4 hx I4 rx=>⟨x,H3,I4,rx,q3 x hx⟩) fun hn s4 I4=>⟨z,_,I4,rz,q4 hn⟩
end
section
variable {X:Cx}
def rListI:List V→Hp→VK→Prop:=fun xs H Q=>∃(v d:Addr) (kvs:List (Int×V)),xs=[.ref v]∧H v=some (ViewI v d)∧H d=some (.dK (kvs.map kfI)) ∧
 ∀(ts:List Addr) (l:Addr) (H':Hp),Same H H'→H l=none→H' l=some (.lst (ts.map V.ref))→ts.length=kvs.length→(∀(i:Nat) (t:Addr) (p:Int×V),ts[i]? = some t→kvs[i]? = some p→H' t=some (.tup [.int p.1,p.2]))→Q (.ref l) H'
theorem call_listI (hc:X.calm=true):CallR X (.type "list") rListI:=by
 intro pins s σ H xs us Q I r h
 obtain⟨v,d,kvs,rfl,hv,hd,q⟩:=h
 obtain⟨u,rfl,r1⟩:=vals1 r
 cases (show u=Value.ref v from r1)
 obtain⟨hz,lo,vs,rk,hD⟩ : (kvs.map kfI).length≤sizeLine∧(d == sysModules)=false∧∃vs,KV (kvs.map kfI) vs∧s.heap.DictOf (mixKind X.prog X.w) d vs:=I.hok d _ hd
 have hl:(kvs.map kfI).length=vs.length:=Paired.length rk
 have view:s.heap.IsItemsView v d:=(I.hok _ _ hv).1
 obtain⟨ep,hA⟩:=hD.dictAt
 refine PySem.W.kdx_call (knd:=mixKind X.prog X.w) (kvs:=vs) (ep:=ep) (I.ok.hd hc) view hA (by rw[← hl];exact hz) fun h' tk acc c as kp hS al G hacc=>?_
 rw[List.length_map]at hl
 have al':as.length=kvs.length:=by omega
 have nda:as.Nodup:=G.rise.imp fun h=>Nat.ne_of_lt h
 have pr:∀(i:Nat) (a:Addr) (p:Int×V),as[i]? = some a→kvs[i]? = some p→∃its:List Value,Vals [.int p.1,p.2] its∧IsTup h' a its.toArray:=fun i a p e1 e2=>by
  obtain⟨key,k,x,g1,g2,g3⟩:=G.pairs i a e1
  have e3:(kvs.map kfI)[i]? = some (kfI p):=by rw[List.getElem?_map,e2];rfl
  obtain⟨u,hu,ru⟩:=KV.get rk e3
  rw[hu]at g1
  cases g1
  obtain⟨t,rfl⟩ : ∃t,key=Value.int p.1 t:=is_kV g2
  exact⟨[.int p.1 t,_],.cons ⟨t,rfl⟩ (.cons ru .nil),⟨_,g3,rfl,_,rfl⟩⟩
 have I1:Inv X pins σ H { s with heap:=h',toks:=tk }:=I.kept kp
 obtain⟨H1,I2,s2,k2,h2⟩:=adopt_tups (ps:=kvs) (ts:=as) I1 nda al' (fun t ht=>I.fpOk (Nat.le_of_lt (G.above t ht)) (I.hok.fresh (Nat.le_of_lt (G.above t ht)))) pr
 have nl:H s.heap.objs.size=none:=I.hok.fresh (Nat.le_refl _)
 have nas:s.heap.objs.size∉as:=fun m=>Nat.lt_irrefl _ (G.above _ m)
 have nl1:H1 s.heap.objs.size=none:=by rw[k2 _ nas];exact nl
 have f0:FpOk X pins H s.heap.objs.size:=I.fpOk (Nat.le_refl _) nl
 have f1:FpOk X pins H1 s.heap.objs.size:=⟨nl1,f0.2⟩
 have hz2:(as.map V.ref).length≤sizeLine:=by rw[List.length_map,al'];rw[List.length_map]at hz;exact hz
 have I3:Inv X pins σ (upd H1 s.heap.objs.size (.lst (as.map V.ref))) { s with heap:=h',toks:=tk }:=I2.adopt (t':=tk) (ch:=[s.heap.objs.size]) (fun b o _ e=>e) (fun b hb=>by rw[List.mem_singleton.mp hb];exact f1) (by simp) ⟨hz2,acc.toList,c,by rw[hacc];exact refs_vals as,by simpa using hS⟩
 refine⟨.ref s.heap.objs.size,_,I3,rfl,q as _ _ (fun b o e=>?_) nl upd_same al' fun i t p e1 e2=>?_⟩
 ·rw[upd_ne (ne_of_none e nl)];exact s2 _ _ e
 ·have ht:=h2 i t p e1 e2
  rw[upd_ne (ne_of_none ht nl1)];exact ht
end
theorem pt_truthK {X:Cx}{K:PySem.W.Frag}{a:Expr}{ta:TE}(hK:X.K=K) (ha:PE X a ta) (he:∀whole,isTrue a X.env whole =(do let v ← whole;standAt a.pos;holding [v] (truthy v))) :
  PT X a (fun σ H Q=>ta σ H fun x H'=>∃k,TruV K x H' k∧Q k H'):=by
 subst hK;exact pt_truth ha he
end L2
set_option maxHeartbeats 4000000
local macro_rules | `(tactic| walk_at"rdc")=>`(tactic| first
  | (show (0:Int) < _; omega)
  | (show (0:Int) ≤ _; omega)
  | (show (0:Int) < _∧_ < 2 ^ 100; omega)
  | (show (-(2 ^ 64) < _∧_ < 2 ^ 64) ∨ (-(2 ^ 64) < _∧_ < 2 ^ 64); omega)
  | (show (0:Int) ≤ _∧_ ≤ 1000000∧Int.natAbs _ < 2 ^ 64; omega))
local macro_rules | `(tactic| walk_at"rd1")=>`(tactic| first
  | (with_reducible refine' L2.rd_allN (fun _ _=>?_)) | (with_reducible refine' L2.rd_seqO (fun _ _=>?_)) | (with_reducible refine' L2.rd_asg ?_) | ((with_reducible refine' L2.rd_gname ?_); (try dsimp only [List.set_cons_zero,List.set_cons_succ])) | (with_reducible refine' L2.rd_ret ?_) | (with_reducible refine' L2.rd_retN ?_) | (with_reducible refine' L2.rd_next ?_) | (with_reducible refine' L2.rd_drop ?_) | (with_reducible refine' L2.rd_ifSO (fun _ _ _ _=>?_))
  | (with_reducible refine' L2.rd_op ?_) | (with_reducible refine' L2.rd_un ?_) | (with_reducible refine' L2.rd_c ?_) | ((with_reducible refine' L2.rd_var ?rdv ?_); (case rdv=>rfl))
  | (with_reducible refine' L2.rd_I0 ?_) | (with_reducible refine' L2.rd_U ?_) | (with_reducible refine' L2.rd_eqI ?_) | (with_reducible refine' L2.rd_neI ?_) | (with_reducible refine' L2.rd_eqB ?_) | (with_reducible refine' L2.rd_neB ?_)
  | (with_reducible refine' L2.rd_test ?_) | (with_reducible refine' L2.rd_tB ?_) | (with_reducible refine' L2.rd_and ?_) | (with_reducible refine' L2.rd_or ?_) | (with_reducible refine' L2.rd_not ?_) | (with_reducible refine' L2.rd_andV ?_) | (with_reducible refine' L2.rd_orV ?_) | (with_reducible refine' L2.rd_notV ?_) | (with_reducible refine' L2.rd_chain ?_) | (with_reducible refine' L2.rd_ifE ?_)
  | (with_reducible refine' L2.rd_nil ?_) | (with_reducible refine' L2.rd_cons ?_) | (with_reducible refine' L2.rd_call ?_) | (with_reducible refine' L2.rd_cb ?_) | (with_reducible refine' L2.rd_lst ?_) | (with_reducible refine' L2.rd_tup ?_) | (with_reducible refine' L2.rd_bm0 ?_) | (with_reducible refine' L2.rd_bm ?_) | (with_reducible refine' L2.rd_augS ?_) | ((with_reducible refine' L2.rd_ip ?_); (try dsimp only [List.set_cons_zero,List.set_cons_succ])) | ((with_reducible refine' L2.rd_aug ?rdv ?_); (case rdv=>rfl)) | (with_reducible refine' L2.rd_izip ?_) | (with_reducible refine' L2.rd_ivals ?_) | (with_reducible refine' L2.rd_dget2 ?_) | (with_reducible refine' L2.rd_dput ?_) | (with_reducible refine' L2.rd_dget ?_) | (with_reducible refine' L2.rd_dnewK ?_) | (with_reducible refine' L2.rd_sortK ?_) | (with_reducible refine' L2.rd_sortLam ?_) | (with_reducible refine' L2.rd_orG ?_) | (with_reducible refine' L2.rd_isB ?_) | (with_reducible refine' L2.rd_gsub ?_)
  | (with_reducible refine' L2.rd_sl ?_) | (with_reducible refine' L2.rd_nop ?_) | (with_reducible refine' L2.rd_part ?_) | (with_reducible refine' L2.rd_bl ?_) | (with_reducible refine' L2.rd_int ?_)
  | (with_reducible refine' L2.rd_iteT ?_) | (with_reducible refine' L2.rd_iteF ?_) | (with_reducible refine' L2.rd_iteNF ?_) | (with_reducible refine' L2.rd_iteNT ?_)
  | (with_reducible refine' L2.rd_forO (fun _ _=>?_)) | (with_reducible refine' L2.rd_rng1 ?_) | (with_reducible refine' L2.rd_rng2 ?_) | (with_reducible refine' L2.rd_ilist ?_) | (with_reducible refine' L2.rd_comp ?_) | (with_reducible refine' L2.rd_yes ?_)
  | (with_reducible refine' L2.rd_itup ?_) | (with_reducible refine' L2.rd_istr ?_) | (with_reducible refine' L2.rd_leS ?_) | (with_reducible refine' L2.rd_inS ?_)
  | (with_reducible refine' L2.rd_abs ?_) | (with_reducible refine' L2.rd_max ?_) | (with_reducible refine' L2.rd_min ?_) | (with_reducible refine' L2.rd_bitlen ?_)
  | (with_reducible refine' L2.rd_rev ?_) | (with_reducible refine' L2.rd_ienum ?_) | (with_reducible refine' L2.rd_intB ?_)
  | ((with_reducible refine' L2.rd_ixL (L2.SqL.of ?rdh) ?rde ?_); (case rdh=>assumption); (case rde=>rfl))
  | ((with_reducible refine' L2.rd_set0 ?rdh ?_); (case rdh=>assumption))
  | ((with_reducible refine' L2.rd_set1 ?rdh ?_); (case rdh=>assumption))
  | ((with_reducible refine' L2.rd_setL ?rdh ?rde ?_); (case rdh=>assumption); (case rde=>rfl))
  | ((with_reducible refine' L2.rd_ixT (L2.SqT.of ?rdh) ?rde ?_); (case rdh=>assumption); (case rde=>rfl))
  | ((with_reducible refine' L2.rd_lenL (L2.SqL.of ?rdh) ?_); (case rdh=>assumption))
  | ((with_reducible refine' L2.rd_I ?rdc ?_); (case rdc=>walk_at"rdc"))
  | ((with_reducible refine' L2.rd_tx ?rdt ?_); (case rdt=>assumption); (try dsimp only [List.set_cons_zero,List.set_cons_succ]))
  | (dsimp only; (with_reducible refine' L2.rd_tx ?rdt ?_); (case rdt=>assumption); (try dsimp only [List.set_cons_zero,List.set_cons_succ]))
  | ((with_reducible refine' L2.rd_isN ?rdt ?_); (case rdt=>assumption); (try dsimp only))
  | (dsimp only; (with_reducible refine' L2.rd_isN ?rdt ?_); (case rdt=>assumption); (try dsimp only)))
local macro_rules | `(tactic| walk_at"rd")=>`(tactic| repeat walk_at"rd1")
local macro_rules | `(tactic| walk_at"lk")=>`(tactic| first | k_is | ((refine' L2.Ga.mk ?lka ?lkl ?lkc ?lkk); (case lka=>k_is); (case lkl=>k_is); (case lkc=>k_is); (case lkk=>k_is)) | ((refine' L2.Ga2.mk ?lka ?lkb ?lkl ?lkc ?lkk); (case lka=>k_is); (case lkb=>k_is); (case lkl=>k_is); (case lkc=>k_is); (case lkk=>k_is)) | ((refine' L2.Me.mk ?lka ?lkb ?lkl ?lkc ?lkk); (case lka=>k_is); (case lkb=>k_is); (case lkl=>k_is); (case lkc=>k_is); (case lkk=>k_is)))
namespace Law
open PySem PySem.Spec PyProof.Rows L2
def top (i:Nat):Stmt:=PySem.Challenge.pw_tailrooms_k47_mended_and_mending.main.body.getD i (.Pass ⟨0,0,0,0⟩)
abbrev s_last_bits:Stmt:=top 1
abbrev s_level:Stmt:=top 2
abbrev s_turn:Stmt:=top 3
abbrev s_bits_for:Stmt:=top 4
abbrev s_room_of:Stmt:=top 5
abbrev s_rows_for:Stmt:=top 7
abbrev s_cut_rows:Stmt:=top 8
abbrev s_spread:Stmt:=top 10
abbrev s_yard_of:Stmt:=top 12
abbrev s_entries_in:Stmt:=top 13
abbrev s_rows_at:Stmt:=top 14
abbrev s_done_all:Stmt:=top 15
abbrev s_lay_row:Stmt:=top 16
abbrev s_cut_room:Stmt:=top 17
abbrev s_leave_last_rooms:Stmt:=top 18
abbrev s_unlike_rows:Stmt:=top 20
abbrev s_onward:Stmt:=top 21
abbrev s_mended:Stmt:=top 23
abbrev s_mending:Stmt:=top 24
abbrev s__law_open:Stmt:=top 26
abbrev s__law_draw:Stmt:=top 27
abbrev s__law_far:Stmt:=top 28
abbrev s__law_power:Stmt:=top 29
abbrev s__law_key:Stmt:=top 30
abbrev s__law_thing:Stmt:=top 31
abbrev s__law_whole:Stmt:=top 32
abbrev s__law_room:Stmt:=top 33
abbrev s__law_cut:Stmt:=top 34
abbrev s__law_clean:Stmt:=top 35
abbrev s__law_copy:Stmt:=top 36
abbrev s__law_is_yard:Stmt:=top 37
abbrev s__law_onward:Stmt:=top 38
abbrev s__law_places:Stmt:=top 39
abbrev s__law_row:Stmt:=top 40
abbrev s__law_drawn:Stmt:=top 41
abbrev s__law_standing:Stmt:=top 42
abbrev s__law_steps_due:Stmt:=top 43
abbrev s_law:Stmt:=top 44
theorem sc_last_bits:FnScope ["key", "many"] ["key", "many"] (defScope s_last_bits):=⟨rfl,rfl,rfl,by decide +kernel,rfl,by decide +kernel,by decide +kernel⟩
theorem sc_level:FnScope ["rooms"] ["rooms"] (defScope s_level):=⟨rfl,rfl,rfl,by decide +kernel,rfl,by decide +kernel,by decide +kernel⟩
theorem sc_turn:FnScope ["rooms"] ["rooms"] (defScope s_turn):=⟨rfl,rfl,rfl,by decide +kernel,rfl,by decide +kernel,by decide +kernel⟩
theorem sc_bits_for:FnScope ["room", "rooms", "deep"] ["room", "rooms"] (defScope s_bits_for):=⟨rfl,rfl,rfl,by decide +kernel,rfl,by decide +kernel,by decide +kernel⟩
theorem sc_room_of:FnScope ["key", "rooms"] ["key", "rooms"] (defScope s_room_of):=⟨rfl,rfl,rfl,by decide +kernel,rfl,by decide +kernel,by decide +kernel⟩
theorem sc_rows_for:FnScope ["many", "wide"] ["many", "wide"] (defScope s_rows_for):=⟨rfl,rfl,rfl,by decide +kernel,rfl,by decide +kernel,by decide +kernel⟩
theorem sc_cut_rows:FnScope ["things", "wide"] ["things", "wide"] (defScope s_cut_rows):=⟨rfl,rfl,rfl,by decide +kernel,rfl,by decide +kernel,by decide +kernel⟩
theorem sc_spread:FnScope ["keys", "rooms", "told", "key"] ["keys", "rooms"] (defScope s_spread):=⟨rfl,rfl,rfl,by decide +kernel,rfl,by decide +kernel,by decide +kernel⟩
theorem sc_yard_of:FnScope ["wide", "rooms", "entries", "things", "held"] ["wide", "rooms", "entries"] (defScope s_yard_of):=⟨rfl,rfl,rfl,by decide +kernel,rfl,by decide +kernel,by decide +kernel⟩
theorem sc_entries_in:FnScope ["rows"] ["rows"] (defScope s_entries_in):=⟨rfl,rfl,rfl,by decide +kernel,rfl,by decide +kernel,by decide +kernel⟩
theorem sc_rows_at:FnScope ["held", "room"] ["held", "room"] (defScope s_rows_at):=⟨rfl,rfl,rfl,by decide +kernel,rfl,by decide +kernel,by decide +kernel⟩
theorem sc_done_all:FnScope ["yard", "steps", "wide", "rooms", "held", "fresh", "step"] ["yard", "steps"] (defScope s_done_all):=⟨rfl,rfl,rfl,by decide +kernel,rfl,by decide +kernel,by decide +kernel⟩
theorem sc_lay_row:FnScope ["held", "room", "at", "row", "rows"] ["held", "room", "at", "row"] (defScope s_lay_row):=⟨rfl,rfl,rfl,by decide +kernel,rfl,by decide +kernel,by decide +kernel⟩
theorem sc_cut_room:FnScope ["held", "room", "many"] ["held", "room", "many"] (defScope s_cut_room):=⟨rfl,rfl,rfl,by decide +kernel,rfl,by decide +kernel,by decide +kernel⟩
theorem sc_leave_last_rooms:FnScope ["held"] ["held"] (defScope s_leave_last_rooms):=⟨rfl,rfl,rfl,by decide +kernel,rfl,by decide +kernel,by decide +kernel⟩
theorem sc_unlike_rows:FnScope ["room", "old", "new"] ["room", "old", "new"] (defScope s_unlike_rows):=⟨rfl,rfl,rfl,by decide +kernel,rfl,by decide +kernel,by decide +kernel⟩
theorem sc_onward:FnScope ["room", "old", "new", "steps"] ["room", "old", "new"] (defScope s_onward):=⟨rfl,rfl,rfl,by decide +kernel,rfl,by decide +kernel,by decide +kernel⟩
theorem sc_mended:FnScope ["yard", "wide", "rooms", "held", "kept", "room", "rows", "key", "thing"] ["yard"] (defScope s_mended):=⟨rfl,rfl,rfl,by decide +kernel,rfl,by decide +kernel,by decide +kernel⟩
theorem sc_mending:FnScope ["yard", "wide", "rooms", "held", "steps", "room", "rows", "further"] ["yard"] (defScope s_mending):=⟨rfl,rfl,rfl,by decide +kernel,rfl,by decide +kernel,by decide +kernel⟩
theorem sc__law_open:FnScope ["_law_script", "_law_place", "_law_cells", "_law_at", "_law_digits"] ["_law_script", "_law_place"] (defScope s__law_open):=⟨rfl,rfl,rfl,by decide +kernel,rfl,by decide +kernel,by decide +kernel⟩
theorem sc__law_draw:FnScope ["_law_hand", "_law_many", "_law_got", "_law_k", "_law_number"] ["_law_hand", "_law_many"] (defScope s__law_draw):=⟨rfl,rfl,rfl,by decide +kernel,rfl,by decide +kernel,by decide +kernel⟩
theorem sc__law_far:FnScope ["_law_hand", "_law_many", "_law_number", "_law_k"] ["_law_hand", "_law_many"] (defScope s__law_far):=⟨rfl,rfl,rfl,by decide +kernel,rfl,by decide +kernel,by decide +kernel⟩
theorem sc__law_power:FnScope ["_law_many", "_law_number", "_law_k"] ["_law_many"] (defScope s__law_power):=⟨rfl,rfl,rfl,by decide +kernel,rfl,by decide +kernel,by decide +kernel⟩
theorem sc__law_key:FnScope ["_law_hand", "_law_way", "_law_low"] ["_law_hand"] (defScope s__law_key):=⟨rfl,rfl,rfl,by decide +kernel,rfl,by decide +kernel,by decide +kernel⟩
theorem sc__law_thing:FnScope ["_law_hand", "_law_letters"] ["_law_hand"] (defScope s__law_thing):=⟨rfl,rfl,rfl,by decide +kernel,rfl,by decide +kernel,by decide +kernel⟩
theorem sc__law_whole:FnScope ["_law_got"] ["_law_got"] (defScope s__law_whole):=⟨rfl,rfl,rfl,by decide +kernel,rfl,by decide +kernel,by decide +kernel⟩
theorem sc__law_room:FnScope ["_law_key_here", "_law_rooms", "_law_room_here", "_law_grade"] ["_law_key_here", "_law_rooms"] (defScope s__law_room):=⟨rfl,rfl,rfl,by decide +kernel,rfl,by decide +kernel,by decide +kernel⟩
theorem sc__law_cut:FnScope ["_law_wide", "_law_entries", "_law_some", "_law_rows"] ["_law_wide", "_law_entries"] (defScope s__law_cut):=⟨rfl,rfl,rfl,by decide +kernel,rfl,by decide +kernel,by decide +kernel⟩
theorem sc__law_clean:FnScope ["_law_wide", "_law_rooms", "_law_entries", "_law_parts", "_law_entry"] ["_law_wide", "_law_rooms", "_law_entries"] (defScope s__law_clean):=⟨rfl,rfl,rfl,by decide +kernel,rfl,by decide +kernel,by decide +kernel⟩
theorem sc__law_copy:FnScope ["_law_yard"] ["_law_yard"] (defScope s__law_copy):=⟨rfl,rfl,rfl,by decide +kernel,rfl,by decide +kernel,by decide +kernel⟩
theorem sc__law_is_yard:FnScope ["_law_got", "_law_due"] ["_law_got", "_law_due"] (defScope s__law_is_yard):=⟨rfl,rfl,rfl,by decide +kernel,rfl,by decide +kernel,by decide +kernel⟩
theorem sc__law_onward:FnScope ["_law_room_here", "_law_rows", "_law_now", "_law_steps", "_law_at", "_law_row_here"] ["_law_room_here", "_law_rows", "_law_now"] (defScope s__law_onward):=⟨rfl,rfl,rfl,by decide +kernel,rfl,by decide +kernel,by decide +kernel⟩
theorem sc__law_places:FnScope ["_law_script", "_law_least", "_law_most"] ["_law_script", "_law_least", "_law_most"] (defScope s__law_places):=⟨rfl,rfl,rfl,by decide +kernel,rfl,by decide +kernel,by decide +kernel⟩
theorem sc__law_row:FnScope ["_law_hand", "_law_keys", "_law_room_here", "_law_row_here", "_law_k", "_law_own", "_law_key_here"] ["_law_hand", "_law_keys", "_law_room_here"] (defScope s__law_row):=⟨rfl,rfl,rfl,by decide +kernel,rfl,by decide +kernel,by decide +kernel⟩
theorem sc__law_drawn:FnScope ["_law_hand", "_law_rooms", "_law_keys", "_law_held", "_law_room_here", "_law_far_here"] ["_law_hand"] (defScope s__law_drawn):=⟨rfl,rfl,rfl,by decide +kernel,rfl,by decide +kernel,by decide +kernel⟩
theorem sc__law_standing:FnScope ["_law_yard", "_law_wide", "_law_rooms", "_law_held", "_law_entries", "_law_room_here", "_law_row_here", "_law_key_here", "_law_thing_here"] ["_law_yard"] (defScope s__law_standing):=⟨rfl,rfl,rfl,by decide +kernel,rfl,by decide +kernel,by decide +kernel⟩
theorem sc__law_steps_due:FnScope ["_law_yard", "_law_due", "_law_wide", "_law_rooms", "_law_held", "_law_steps", "_law_room_here", "_law_further"] ["_law_yard", "_law_due"] (defScope s__law_steps_due):=⟨rfl,rfl,rfl,by decide +kernel,rfl,by decide +kernel,by decide +kernel⟩
theorem sc_law:FnScope ["_law_script", "_law_place", "_law_hand", "_law_clean_here", "_law_yard", "_law_due", "_law_kept", "_law_there", "_law_steps"] ["_law_script"] (defScope s_law):=⟨rfl,rfl,rfl,by decide +kernel,rfl,by decide +kernel,by decide +kernel⟩
theorem st_last_bits (x0 x1:V):start ["key", "many"] [x0,x1]=[some x0,some x1]:=rfl
theorem st_level (x0:V):start ["rooms"] [x0]=[some x0]:=rfl
theorem st_turn (x0:V):start ["rooms"] [x0]=[some x0]:=rfl
theorem st_bits_for (x0 x1:V):start ["room", "rooms", "deep"] [x0,x1]=[some x0,some x1,none]:=rfl
theorem st_room_of (x0 x1:V):start ["key", "rooms"] [x0,x1]=[some x0,some x1]:=rfl
theorem st_rows_for (x0 x1:V):start ["many", "wide"] [x0,x1]=[some x0,some x1]:=rfl
theorem st_cut_rows (x0 x1:V):start ["things", "wide"] [x0,x1]=[some x0,some x1]:=rfl
theorem st_spread (x0 x1:V):start ["keys", "rooms", "told", "key"] [x0,x1]=[some x0,some x1,none,none]:=rfl
theorem st_yard_of (x0 x1 x2:V):start ["wide", "rooms", "entries", "things", "held"] [x0,x1,x2]=[some x0,some x1,some x2,none,none]:=rfl
theorem st_entries_in (x0:V):start ["rows"] [x0]=[some x0]:=rfl
theorem st_rows_at (x0 x1:V):start ["held", "room"] [x0,x1]=[some x0,some x1]:=rfl
theorem st_done_all (x0 x1:V):start ["yard", "steps", "wide", "rooms", "held", "fresh", "step"] [x0,x1]=[some x0,some x1,none,none,none,none,none]:=rfl
theorem st_lay_row (x0 x1 x2 x3:V):start ["held", "room", "at", "row", "rows"] [x0,x1,x2,x3]=[some x0,some x1,some x2,some x3,none]:=rfl
theorem st_cut_room (x0 x1 x2:V):start ["held", "room", "many"] [x0,x1,x2]=[some x0,some x1,some x2]:=rfl
theorem st_leave_last_rooms (x0:V):start ["held"] [x0]=[some x0]:=rfl
theorem st_unlike_rows (x0 x1 x2:V):start ["room", "old", "new"] [x0,x1,x2]=[some x0,some x1,some x2]:=rfl
theorem st_onward (x0 x1 x2:V):start ["room", "old", "new", "steps"] [x0,x1,x2]=[some x0,some x1,some x2,none]:=rfl
theorem st_mended (x0:V):start ["yard", "wide", "rooms", "held", "kept", "room", "rows", "key", "thing"] [x0]=[some x0,none,none,none,none,none,none,none,none]:=rfl
theorem st_mending (x0:V):start ["yard", "wide", "rooms", "held", "steps", "room", "rows", "further"] [x0]=[some x0,none,none,none,none,none,none,none]:=rfl
theorem st__law_open (x0 x1:V):start ["_law_script", "_law_place", "_law_cells", "_law_at", "_law_digits"] [x0,x1]=[some x0,some x1,none,none,none]:=rfl
theorem st__law_draw (x0 x1:V):start ["_law_hand", "_law_many", "_law_got", "_law_k", "_law_number"] [x0,x1]=[some x0,some x1,none,none,none]:=rfl
theorem st__law_far (x0 x1:V):start ["_law_hand", "_law_many", "_law_number", "_law_k"] [x0,x1]=[some x0,some x1,none,none]:=rfl
theorem st__law_power (x0:V):start ["_law_many", "_law_number", "_law_k"] [x0]=[some x0,none,none]:=rfl
theorem st__law_key (x0:V):start ["_law_hand", "_law_way", "_law_low"] [x0]=[some x0,none,none]:=rfl
theorem st__law_thing (x0:V):start ["_law_hand", "_law_letters"] [x0]=[some x0,none]:=rfl
theorem st__law_whole (x0:V):start ["_law_got"] [x0]=[some x0]:=rfl
theorem st__law_room (x0 x1:V):start ["_law_key_here", "_law_rooms", "_law_room_here", "_law_grade"] [x0,x1]=[some x0,some x1,none,none]:=rfl
theorem st__law_cut (x0 x1:V):start ["_law_wide", "_law_entries", "_law_some", "_law_rows"] [x0,x1]=[some x0,some x1,none,none]:=rfl
theorem st__law_clean (x0 x1 x2:V):start ["_law_wide", "_law_rooms", "_law_entries", "_law_parts", "_law_entry"] [x0,x1,x2]=[some x0,some x1,some x2,none,none]:=rfl
theorem st__law_copy (x0:V):start ["_law_yard"] [x0]=[some x0]:=rfl
theorem st__law_is_yard (x0 x1:V):start ["_law_got", "_law_due"] [x0,x1]=[some x0,some x1]:=rfl
theorem st__law_onward (x0 x1 x2:V):start ["_law_room_here", "_law_rows", "_law_now", "_law_steps", "_law_at", "_law_row_here"] [x0,x1,x2]=[some x0,some x1,some x2,none,none,none]:=rfl
theorem st__law_places (x0 x1 x2:V):start ["_law_script", "_law_least", "_law_most"] [x0,x1,x2]=[some x0,some x1,some x2]:=rfl
theorem st__law_row (x0 x1 x2:V):start ["_law_hand", "_law_keys", "_law_room_here", "_law_row_here", "_law_k", "_law_own", "_law_key_here"] [x0,x1,x2]=[some x0,some x1,some x2,none,none,none,none]:=rfl
theorem st__law_drawn (x0:V):start ["_law_hand", "_law_rooms", "_law_keys", "_law_held", "_law_room_here", "_law_far_here"] [x0]=[some x0,none,none,none,none,none]:=rfl
theorem st__law_standing (x0:V):start ["_law_yard", "_law_wide", "_law_rooms", "_law_held", "_law_entries", "_law_room_here", "_law_row_here", "_law_key_here", "_law_thing_here"] [x0]=[some x0,none,none,none,none,none,none,none,none]:=rfl
theorem st__law_steps_due (x0 x1:V):start ["_law_yard", "_law_due", "_law_wide", "_law_rooms", "_law_held", "_law_steps", "_law_room_here", "_law_further"] [x0,x1]=[some x0,some x1,none,none,none,none,none,none]:=rfl
theorem st_law (x0:V):start ["_law_script", "_law_place", "_law_hand", "_law_clean_here", "_law_yard", "_law_due", "_law_kept", "_law_there", "_law_steps"] [x0]=[some x0,none,none,none,none,none,none,none,none]:=rfl
structure Bl (mg:Str→Option Value):Prop where
 max:mg "max" = none
 range:mg "range" = none
 len:mg "len" = none
 sorted:mg "sorted" = none
 dict:mg "dict" = none
 list:mg "list" = none
 enumerate:mg "enumerate" = none
 abs:mg "abs" = none
 isinstance:mg "isinstance" = none
 int:mg "int" = none
 bool:mg "bool" = none
 tuple:mg "tuple" = none
 min:mg "min" = none
structure Hand (H:Hp) (p:Addr) (N:Nat):Prop where
 ex:∃(l:Addr) (d c:Int) (ns:List Int),H p=some (.lst [.int d,.int c,.ref l])∧H l=some (.lst (ns.map V.int))∧0≤c∧c≤N∧ns ≠ []
theorem Hand.mono {H:Hp}{p:Addr}{N M:Nat}(h:Hand H p N) (hm:N≤M):Hand H p M:=by
 obtain⟨l,d,c,ns,h1,h2,h3,h4,h5⟩:=h.ex
 exact⟨l,d,c,ns,h1,h2,h3,by omega,h5⟩
def cellsOf (H:Hp) (p:Addr):Option Addr:=match H p with
 | some (.lst [_,_,.ref l])=>some l
 | _=>none
theorem cells_of {H:Hp}{p l:Addr}{a b:V}(h:H p=some (.lst [a,b,.ref l])):cellsOf H p=some l:=by unfold cellsOf;rw[h]
def Kp (H H':Hp) (p:Addr):Prop:=(∀b o,H b=some o→b≠p→H' b=some o)∧cellsOf H' p=cellsOf H p
theorem Kp.refl (H:Hp) (p:Addr):Kp H H p:=⟨fun _ _ h _=>h,rfl⟩
theorem Kp.trans {H H1 H2:Hp}{p:Addr}(a:Kp H H1 p) (b:Kp H1 H2 p):Kp H H2 p:=⟨fun c o h n=>b.1 c o (a.1 c o h n) n,b.2.trans a.2⟩
theorem Kp.hand {H:Hp}{p l:Addr}{a b a' b':V}(h:H p=some (.lst [a,b,.ref l])):Kp H (upd H p (.lst [a',b',.ref l])) p :=
 ⟨fun b u h n=>by rw[upd_ne n];exact h,by rw[cells_of upd_same,cells_of h]⟩
theorem Kp.of {H H':Hp}{p:Addr}{N:Nat}(h:Same H H') (hh:Hand H p N):Kp H H' p:=by
 obtain⟨l,d,c,ns,h1,_⟩:=hh.ex
 exact⟨fun b o q _=>h b o q,by rw[cells_of h1,cells_of (h _ _ h1)]⟩
theorem Kp.new {H H1 H2:Hp}{p:Addr}(a:Same H H1) (n:H p=none) (b:Kp H1 H2 p):Same H H2:=fun c o h=>b.1 c o (a c o h) (ne_of_none h n)
theorem Kp.free {H H':Hp}{p l:Addr}(k:Kp H H' p) (n:H' l=none) (h:l≠p):H l=none:=by
 cases e:H l with
 | none=>rfl
 | some o=>rw[k.1 _ _ e h]at n;cases n
theorem Hand.upd {H:Hp}{p c:Addr}{N:Nat}{o:HO}(h:Hand H p N) (n:c≠p) (nl:cellsOf H p≠some c):Hand (L2.upd H c o) p N:=by
 obtain⟨l,d,k,ns,h1,h2,r⟩:=h.ex
 have ne:l≠c:=fun z=>nl (by rw[cells_of h1,z])
 exact⟨l,d,k,ns,by rw[upd_ne n.symm];exact h1,by rw[upd_ne ne];exact h2,r⟩
theorem cells_new {H:Hp}{p c:Addr}{N:Nat}(h:Hand H p N) (n:H c=none):cellsOf H p≠some c:=by
 obtain⟨l,d,k,ns,h1,h2,r⟩:=h.ex
 rw[cells_of h1]
 intro z
 exact ne_of_none h2 n (Option.some.inj z)
theorem cells_upd {H:Hp}{p c:Addr}{o:HO}(n:c≠p):cellsOf (L2.upd H c o) p=cellsOf H p:=by unfold cellsOf;rw[upd_ne n.symm]
theorem Hand.same {H H':Hp}{p:Addr}{N:Nat}(h:Hand H p N) (s:Same H H'):Hand H' p N:=by
 obtain⟨l,d,c,ns,h1,h2,r⟩:=h.ex
 exact⟨l,d,c,ns,s _ _ h1,s _ _ h2,r⟩
theorem nsMod {ns:List Int}(h:ns ≠ []) (k:Int):∃v,atI (ns.map V.int) (k%((ns.map V.int).length:Int))=some (.int v):=by
 have hl:0<ns.length:=List.length_pos_iff.mpr h
 rw[List.length_map]
 have h0:0≤k%(ns.length:Int):=Int.emod_nonneg _ (by omega)
 have h1:k%(ns.length:Int)<ns.length:=Int.emod_lt_of_pos _ (by omega)
 have ek:k%(ns.length:Int) =(((k%(ns.length:Int)).toNat:Nat):Int):=by omega
 have hk:(k%(ns.length:Int)).toNat<ns.length:=by omega
 obtain⟨j,hj⟩ : ∃j:Nat,k%(ns.length:Int) =(j:Int):=⟨_,ek⟩
 have hk2:j<ns.length:=by omega
 refine⟨ns[j],?_⟩
 rw[hj]
 exact atI_nat (by rw[List.getElem?_map,List.getElem?_eq_getElem hk2] <;> rfl)
theorem hand_ne {H:Hp}{p l:Addr}{d c:Int}{ns:List Int}(hp:H p=some (.lst [.int d,.int c,.ref l])) (hl:H l=some (.lst (ns.map V.int))):l≠p:=by
 refine ne_of hl hp fun z=>?_
 injection z with z
 have q:=congrArg (fun x=>x[2]?) z
 rw[List.getElem?_map]at q
 cases e:ns[2]? with
 | none=>rw[e]at q;cases q
 | some v=>rw[e]at q;cases q
theorem len_pos {ns:List Int}(h:ns ≠ []):(0:Int) <((ns.map V.int).length:Int):=by
 rw[List.length_map]
 have:=List.length_pos_iff.mpr h
 omega
theorem pow2_cast (a:Nat):(2:Int)^a =((2^a:Nat):Int):=by
 induction a with
 | zero=>rfl
 | succ a ih=>rw[Int.pow_succ,Nat.pow_succ,ih];push_cast;rfl
theorem pow2_le {a b:Nat}(h:a≤b):(2:Int)^a≤2^b:=by
 rw[pow2_cast,pow2_cast]
 exact Int.ofNat_le.mpr (Nat.pow_le_pow_right (by decide) h)
theorem pow2_pos (a:Nat):(0:Int)<2^a:=by
 rw[pow2_cast]
 have:=Nat.two_pow_pos a
 omega
theorem newo {H1 H2:Hp}{l:Addr}{o:HO}(n:H1 l=none) (e:L2.upd H1 l o=H2):H2 l=some o∧Same H1 H2:=by
 subst e;exact⟨upd_same,same_new n _⟩
theorem Hand.ne {H:Hp}{p l:Addr}{N:Nat}(hh:Hand H p N) (n:H l=none):l≠p:=by
 obtain⟨l1,d,c,ns,h1,_⟩:=hh.ex
 exact(ne_of_none h1 n).symm
structure CK (H0:Hp) (p D:Addr) (N:Nat) (ys:List V) (H':Hp):Prop where
 hh:Hand H' p N
 lat:H' D=some (.lst ys)
 kp:Kp H0 H' p
 n0:H0 D=none
 np:D≠p
 nc:cellsOf H0 p≠some D
theorem CK.start {H0:Hp}{p D:Addr}{N:Nat}(hh:Hand H0 p N) (n:H0 D=none) {ys:List V}:CK H0 p D N ys (L2.upd H0 D (.lst ys)) where
 hh:=hh.same (same_new n _)
 lat:=upd_same
 kp:=Kp.of (same_new n _) hh
 n0:=n
 np:=by
  obtain⟨l1,d,c,ns,h1,_⟩:=hh.ex
  exact(ne_of_none h1 n).symm
 nc:=cells_new hh n
theorem CK.draw {H0 H' H2:Hp}{p D:Addr}{N M:Nat}{ys:List V}(c:CK H0 p D N ys H') (k:Kp H' H2 p) (hh:Hand H2 p M):CK H0 p D M ys H2 :=
 ⟨hh,k.1 _ _ c.lat c.np,c.kp.trans k,c.n0,c.np,c.nc⟩
theorem CK.push {H0 H':Hp}{p D:Addr}{N:Nat}{ys zs:List V}(c:CK H0 p D N ys H'):CK H0 p D N zs (L2.upd H' D (.lst zs)) where
 hh:=c.hh.upd c.np (by rw[c.kp.2];exact c.nc)
 lat:=upd_same
 kp:=⟨fun b o h n=>by rw[upd_ne (ne_of_none h c.n0)];exact c.kp.1 _ _ h n,by rw[cells_upd c.np];exact c.kp.2⟩
 n0:=c.n0
 np:=c.np
 nc:=c.nc
theorem CK.new {H0 H' H2:Hp}{p D l:Addr}{N:Nat}{ys:List V}{o:HO}(c:CK H0 p D N ys H') (n:H' l=none) (e:L2.upd H' l o=H2):CK H0 p D N ys H2∧H2 l=some o∧l≠p∧l≠D:=by
 subst e
 exact⟨⟨c.hh.same (same_new n _),same_new n _ _ _ c.lat,c.kp.trans (Kp.of (same_new n _) c.hh),c.n0,c.np,c.nc⟩,upd_same,c.hh.ne n,(ne_of_none c.lat n).symm⟩
def sp__law_draw (K:PySem.W.Frag):Sp:=fun vs H Q _=>∃(p:Addr) (N:Nat) (n:Int),vs=[.ref p,.int n]∧Hand H p N∧N<2^60∧0<n∧n<2^100 ∧
 ∀(r:Int) (H':Hp),0≤r→r<n→Hand H' p (N+1)→Kp H H' p→Q (.int r) H'
def sp__law_far (K:PySem.W.Frag):Sp:=fun vs H Q _=>∃(p:Addr) (N:Nat) (n:Int),vs=[.ref p,.int n]∧Hand H p N∧N+10<2^60∧0<n∧n<2^100 ∧
 ∀(r:Int) (H':Hp),0≤r→r<n→Hand H' p (N+7)→Kp H H' p→Q (.int r) H'
def sp__law_power (K:PySem.W.Frag):Sp:=fun vs H Q _=>∃(m:Nat),vs=[.int m]∧m≤1000∧Q (.int (2^m)) H
def sp__law_open (K:PySem.W.Frag):Sp:=fun vs H Q _=>∃(a:Addr) (ns:List Int) (pl:Int),vs=[.ref a,.int pl]∧SqL K H a (ns.map V.int)∧ns.length≤63∧0≤pl∧pl≤1000 ∧
 ∀(p:Addr) (H':Hp),H p=none→Same H H'→Hand H' p 1100000→Q (.ref p) H'
def sp__law_key (K:PySem.W.Frag):Sp:=fun vs H Q _=>∃(p:Addr) (N:Nat),vs=[.ref p]∧Hand H p N∧N+30<2^60 ∧
 ∀(r:Int) (H':Hp),0≤r→r<2^60→Hand H' p (N+20)→Kp H H' p→Q (.int r) H'
def sp_law (K:PySem.W.Frag):Sp:=fun vs H Q _=>∃(a:Addr) (ns:List Int),vs=[.ref a]∧SqL K H a (ns.map V.int)∧ns.length≤63∧∀H',Q (.bl true) H'
def sp__law_keys (K:PySem.W.Frag):Sp:=fun vs H Q _=>∃(p:Addr) (N:Nat) (n:Int),vs=[.ref p,.int n]∧Hand H p N∧N+5000<2^60∧0≤n∧n≤125 ∧
 ∀(l:Addr) (ns:List Int) (H':Hp),H l=none→H' l=some (.lst (ns.map V.int))→ns.Nodup→(ns.length:Int)=n→(∀k∈ns,0≤k∧k<1152921504606846976)→Hand H' p (N+3000)→Kp H H' p→Q (.ref l) H'
def lg (R:Int):Nat:=R.toNat.log2
theorem lg_le {R:Int}(h:1≤R):(2:Int)^lg R≤R:=by
 have h1:R.toNat≠0:=by omega
 have h2:=Nat.log2_self_le h1
 rw[pow2_cast]
 unfold lg
 omega
theorem lg_lt {R:Int}(h:1≤R):R <(2:Int)^(lg R+1):=by
 have h1:R.toNat≠0:=by omega
 have h2:=(Nat.log2_lt h1).mp (Nat.lt_succ_self R.toNat.log2)
 rw[pow2_cast]
 unfold lg
 have h3:R.toNat<2^(R.toNat.log2+1):=h2
 omega
theorem lg_60 {R:Int}(h:1≤R) (h2:R≤2^60):lg R≤60:=by
 have h1:R.toNat≠0:=by omega
 have h3:R.toNat.log2<61:=(Nat.log2_lt h1).mpr (by omega)
 unfold lg
 omega
theorem bits_eq {R:Int}(h:1≤R):((Builtin.Int.intBits R:Nat):Int)-1 =(lg R:Int):=by
 unfold Builtin.Int.intBits lg
 have h0:(R == 0)=false:=by
  rw[beq_eq_false_iff_ne];omega
 rw[h0]
 have e:R.natAbs=R.toNat:=by omega
 rw[e]
 simp
def roomV (k R:Int):Int:=if R-2^lg R≤k%2^lg R then k%2^lg R else k%2^(lg R+1)
theorem roomV_lt {k R:Int}(h:1≤R):0≤roomV k R∧roomV k R<R:=by
 have p:=pow2_pos (lg R)
 have a:=lg_le h
 have b:=lg_lt h
 rw[Int.pow_succ]at b
 unfold roomV
 rw[Int.pow_succ]
 generalize (2:Int)^lg R=w at p a b ⊢
 have m0:=Int.emod_nonneg k (show w≠0 by omega)
 have m1:=Int.emod_lt_of_pos k p
 have d0:=Int.emod_nonneg k (show w*2≠0 by omega)
 have d1:=Int.emod_lt_of_pos k (show(0:Int)<w*2 by omega)
 have e:k%(w*2)%w=k%w:=Int.emod_emod_of_dvd k ⟨2,rfl⟩
 split
 ·omega
 ·rename_i hn
  refine⟨d0,?_⟩
  by_cases c:k%(w*2)<w
  ·rw[Int.emod_eq_of_lt d0 c]at e;omega
  ·have e2:k%(w*2)%w=k%(w*2)-w:=by
    have:k%(w*2) =(k%(w*2)-w)+w:=by omega
    rw[this,Int.add_emod_right,Int.emod_eq_of_lt (by omega) (by omega)]
    omega
   omega
def sp_last_bits (K:PySem.W.Frag):Sp:=fun vs H Q _=>∃(k:Int) (m:Nat),vs=[.int k,.int m]∧m≤100∧Q (.int (k%2^m)) H
def sp_level (K:PySem.W.Frag):Sp:=fun vs H Q _=>∃(R:Int),vs=[.int R]∧1≤R∧Q (.int (lg R)) H
def sp_turn (K:PySem.W.Frag):Sp:=fun vs H Q _=>∃(R:Int),vs=[.int R]∧1≤R∧R≤2^60∧Q (.int (R-2^lg R)) H
def bitsV (r R:Int):Nat:=if R-2^lg R≤r∧r<2^lg R then lg R else lg R+1
theorem bitsV_room {k R:Int}:k%2^bitsV (k%2^lg R) R=roomV k R:=by
 have lt:=Int.emod_lt_of_pos k (pow2_pos (lg R))
 unfold bitsV roomV
 by_cases c:R-2^lg R≤k%2^lg R
 ·rw[if_pos ⟨c,lt⟩,if_pos c]
 ·rw[if_neg (fun z=>c z.1),if_neg c]
def sp_bits_for (K:PySem.W.Frag):Sp:=fun vs H Q _=>∃(r R:Int),vs=[.int r,.int R]∧1≤R∧R≤2^60∧Q (.int (bitsV r R)) H
def sp_room_of (K:PySem.W.Frag):Sp:=fun vs H Q _=>∃(k R:Int),vs=[.int k,.int R]∧1≤R∧R≤2^60∧Q (.int (roomV k R)) H
theorem up_div {m w g:Int}(hw:1≤w) (hm:0≤m) (hg:g=max 1 ((m+w-1) / w)):1≤g∧m≤w*g∧(g=1∨w*(g-1)<m):=by
 have h1:=Int.emod_add_mul_ediv (m+w-1) w
 have h2:=Int.emod_nonneg (m+w-1) (show w≠0 by omega)
 have h3:=Int.emod_lt_of_pos (m+w-1) (show 0<w by omega)
 generalize (m+w-1) / w=q at h1 hg
 generalize (m+w-1)%w=r at h1 h2 h3
 have e:w*(g-1)=w*g-w:=by rw[Int.mul_sub,Int.mul_one]
 refine⟨by omega,?_,?_⟩
 ·by_cases c:1≤q
  ·have:g=q:=by omega
   rw[this];omega
  ·have:g=1:=by omega
   rw[this,Int.mul_one]
   have:w*q≤0:=Int.mul_nonpos_of_nonneg_of_nonpos (by omega) (by omega)
   omega
 ·by_cases c:2≤q
  ·right
   have:g=q:=by omega
   rw[e,this];omega
  ·left;omega
def rfor (m w:Int):Int:=max 1 ((m+w-1) / w)
theorem cut_mid {xs:List V}{a b:Nat}(h:a≤b):cutV xs (some (a:Int)) (some (b:Int)) =(xs.drop a).take (b-a):=by
 unfold cutV
 rw[HT.sIx_nat,HT.sIx_nat]
 by_cases c:a≤xs.length
 ·rw[Nat.min_eq_left c]
  by_cases d:b≤xs.length
  ·rw[Nat.min_eq_left d]
  ·rw[Nat.min_eq_right (by omega),List.take_of_length_le (by rw[List.length_drop];omega),List.take_of_length_le (by rw[List.length_drop];omega)]
 ·rw[List.drop_eq_nil_of_le (by omega),List.drop_eq_nil_of_le (by omega)]
  simp
def Ls (H:Hp):List Addr→List (List Int)→Prop
 | [],[]=>True
 | a::as,r::rs=>H a=some (.lst (r.map V.int))∧Ls H as rs
 | _,_=>False
theorem Ls.same {H H':Hp}:∀{as:List Addr}{rs:List (List Int)},(∀a∈as,∀o,H a=some o→H' a=some o)→Ls H as rs→Ls H' as rs
 | [],[],_,_=>trivial
 | a::_,_::_,s,⟨h,t⟩=>⟨s a List.mem_cons_self _ h,Ls.same (fun b hb=>s b (List.mem_cons_of_mem _ hb)) t⟩
theorem Ls.len {H:Hp}:∀{as:List Addr}{rs:List (List Int)},Ls H as rs→as.length=rs.length
 | [],[],_=>rfl
 | _::_,_::_,⟨_,t⟩=>congrArg (· + 1) (Ls.len t)
theorem Ls.snoc {H:Hp}{a:Addr}{r:List Int}(hb:H a=some (.lst (r.map V.int))):∀{as:List Addr}{rs:List (List Int)},Ls H as rs→Ls H (as ++ [a]) (rs ++ [r])
 | [],[],_=>⟨hb,trivial⟩
 | _::_,_::_,⟨h,t⟩=>⟨h,Ls.snoc hb t⟩
theorem Ls.get {H:Hp}:∀{as:List Addr}{rs:List (List Int)}{i:Nat}{a:Addr},Ls H as rs→as[i]? = some a→∃r,rs[i]? = some r∧H a=some (.lst (r.map V.int))
 | [],[],_,_,_,e=>by cases e
 | _::_,r::_,0,_,⟨h,_⟩,e=>by cases e;exact⟨r,rfl,h⟩
 | _::_,_::_,i+1,_,⟨_,t⟩,e=>Ls.get (i:=i) t e
def sp_rows_for (K:PySem.W.Frag):Sp:=fun vs H Q _=>∃(m w:Int),vs=[.int m,.int w]∧1≤w∧w≤8∧Q (.int (rfor m w)) H
def rowsNV (ms:List V) (w n:Nat):List (List V):=(List.range n).map fun i=>(ms.drop (i*w)).take w
theorem rowsNV_succ (ms:List V) (w n:Nat):rowsNV ms w (n+1)=rowsNV ms w n ++ [(ms.drop (n*w)).take w]:=by
 unfold rowsNV;rw[List.range_succ,List.map_append];rfl
theorem rowsNV_len (ms:List V) (w n:Nat):(rowsNV ms w n).length=n:=by unfold rowsNV;rw[List.length_map,List.length_range]
def rowsVV (ms:List V) (w:Nat):List (List V):=rowsNV ms w (rfor ms.length w).toNat
def RwsN (H0 H:Hp) (l:Addr) (X:List (List V)):Prop:=∃as:List Addr,H l=some (.lst (as.map V.ref))∧as.length=X.length∧(∀(i:Nat) (a:Addr) (es:List V),as[i]? = some a→X[i]? = some es→H a=some (.lst es))∧as.Nodup∧∀a∈as,H0 a=none∧a≠l
def sp_cut_rows (K:PySem.W.Frag):Sp:=fun vs H Q _=>∃(a:Addr) (ms:List V) (w:Nat),vs=[.ref a,.int w]∧H a=some (.lst ms)∧ms.length≤200∧1≤w∧w≤8 ∧
 ∀l H',H l=none→RwsN H H' l (rowsVV ms w)→Same H H'→Q (.ref l) H'
theorem refs_get {as:List Addr}{i:Nat}{x:V}(hx:(as.map V.ref)[i]? = some x):∃a,as[i]? = some a∧x = .ref a:=by
 rw[List.getElem?_map]at hx
 cases e:as[i]? with
 | none=>rw[e]at hx;cases hx
 | some a=>rw[e]at hx;exact⟨a,rfl,(Option.some.inj hx).symm⟩
theorem ints_get {ns:List Int}{i:Nat}{x:V}(hx:(ns.map V.int)[i]? = some x):∃z,ns[i]? = some z∧x = .int z:=by
 rw[List.getElem?_map]at hx
 cases e:ns[i]? with
 | none=>rw[e]at hx;cases hx
 | some a=>rw[e]at hx;exact⟨a,rfl,(Option.some.inj hx).symm⟩
theorem drop_get {α:Type}{xs:List α}{i:Nat}{x:α}(h:xs[i]? = some x):xs.drop i=x::xs.drop (i+1):=by
 obtain⟨hi,e⟩:=List.getElem?_eq_some_iff.mp h
 rw[List.drop_eq_getElem_cons hi,e]
theorem take_get {α:Type}{xs:List α}{i:Nat}{x:α}(h:xs[i]? = some x):xs.take (i+1)=xs.take i ++ [x]:=by
 obtain⟨hi,e⟩:=List.getElem?_eq_some_iff.mp h
 rw[List.take_succ_eq_append_getElem hi,e]
theorem at_ref {as:List Addr}{i:Nat}{a:Addr}(h:as[i]? = some a):atI (as.map V.ref) (0+(i:Int))=some (.ref a):=by
 rw[Int.zero_add]
 exact atI_nat (by rw[List.getElem?_map,h];rfl)
theorem at_ref' {as:List Addr}{i:Nat}{a:Addr}(h:as[i]? = some a):atI (as.map V.ref) (i:Int)=some (.ref a) :=
 atI_nat (by rw[List.getElem?_map,h];rfl)
theorem at_int {ns:List Int}{i:Nat}{z:Int}(h:ns[i]? = some z):atI (ns.map V.int) (i:Int)=some (.int z) :=
 atI_nat (by rw[List.getElem?_map,h];rfl)
theorem at_zero {a:V}{r:List V}:atI (a::r) 0=some a:=atI_nat (j:=0) rfl
theorem Ls.mem {H:Hp}:∀{as:List Addr}{rs:List (List Int)}{a:Addr},Ls H as rs→a∈as→∃r,r∈rs∧H a=some (.lst (r.map V.int))
 | [],[],_,_,h=>by cases h
 | b::as,r::rs,a,⟨h,t⟩,m=>by
  rcases List.mem_cons.mp m with e|m
  ·exact⟨r,List.mem_cons_self,e ▸ h⟩
  ·obtain⟨q,q1,q2⟩:=Ls.mem t m
   exact⟨q,List.mem_cons_of_mem _ q1,q2⟩
theorem refs_ne {H:Hp}{p a:Addr}{N:Nat}{as:List Addr}(hh:Hand H p N) (h:H a=some (.lst (as.map V.ref))):a≠p:=by
 obtain⟨l,d,c,ms,h1,h2,_⟩:=hh.ex
 intro e
 rw[e,h1]at h
 have q:=congrArg (fun x=>x[0]?) (HO.lst.inj (Option.some.inj h))
 rw[List.getElem?_map]at q
 cases z:as[0]? with
 | none=>rw[z]at q;cases q
 | some v=>rw[z]at q;cases q
theorem dv_nil {K:PySem.W.Frag}{H:Hp}{a:Addr}(h:H a=some (.lst [])):DV K H (.ref a) (.list []):=.lst (SqL.of h) .nil
def spreadV (ms:List Int) (R:Nat):List (List Int):=(List.range R).map fun(r:Nat)=>ms.filter fun k=>decide (roomV k R =(r:Int))
theorem spreadV_len (ms:List Int) (R:Nat):(spreadV ms R).length=R:=by unfold spreadV;rw[List.length_map,List.length_range]
theorem spreadV_at {ms:List Int}{R j:Nat}(h:j<R):(spreadV ms R)[j]? = some (ms.filter fun k=>decide (roomV k R =(j:Int))):=by
 unfold spreadV
 rw[List.getElem?_map,List.getElem?_range h];rfl
theorem spreadV_nil (R:Nat):spreadV [] R=List.replicate R []:=by
 refine List.ext_getElem? fun i=>?_
 rw[List.getElem?_replicate]
 by_cases h:i<R
 ·rw[spreadV_at h,if_pos h];rfl
 ·rw[if_neg h,List.getElem?_eq_none (by rw[spreadV_len];omega)]
theorem spreadV_push {ms:List Int}{R j:Nat}{k:Int}(hj:roomV k R =(j:Int)) (h:j<R):spreadV (ms ++ [k]) R =(spreadV ms R).set j ((ms.filter fun k=>decide (roomV k R =(j:Int))) ++ [k]):=by
 refine List.ext_getElem? fun i=>?_
 rw[List.getElem?_set,spreadV_len]
 by_cases hi:i<R
 ·rw[spreadV_at hi,List.filter_append,List.filter_cons]
  by_cases e:j=i
  ·subst e
   rw[if_pos rfl,if_pos hi,if_pos (decide_eq_true hj)];rfl
  ·rw[if_neg e,spreadV_at hi,if_neg (by rw[hj];simp;omega)]
   simp
 ·rw[List.getElem?_eq_none (by rw[spreadV_len];omega)]
  by_cases e:j=i
  ·omega
  ·rw[if_neg e,List.getElem?_eq_none (by rw[spreadV_len];omega)]
theorem Ls.set {H:Hp}{a:Addr}{r:List Int}:∀{as:List Addr}{rs:List (List Int)}{j:Nat},as.Nodup→as[j]? = some a→Ls H as rs→Ls (upd H a (.lst (r.map V.int))) as (rs.set j r)
 | [],_,_,_,h,_=>by simp at h
 | b::as,q::rs,0,hn,h,⟨h1,t⟩=>by
  simp at h;subst h
  rw[List.nodup_cons]at hn
  exact⟨upd_same,t.same fun c hc o e=>by rw[upd_ne (show c≠b from fun z=>hn.1 (by rw[← z];exact hc))];exact e⟩
 | b::as,q::rs,j+1,hn,h,⟨h1,t⟩=>by
  rw[List.nodup_cons]at hn
  have h':as[j]? = some a:=by simpa using h
  have ne:b≠a:=fun z=>hn.1 (by rw[z];exact List.mem_of_getElem? h')
  exact⟨by rw[upd_ne ne];exact h1,Ls.set hn.2 h' t⟩
def LN (H0 H:Hp) (l:Addr) (rs:List (List Int)):Prop:=∃as:List Addr,H l=some (.lst (as.map V.ref))∧Ls H as rs∧as.Nodup∧∀a∈as,H0 a=none∧a≠l
theorem Ls.rep {H:Hp}:∀{as:List Addr}{n:Nat},Ls H as (List.replicate n [])→as.length=n:=fun h=>by rw[h.len,List.length_replicate]
def sp_spread (K:PySem.W.Frag):Sp:=fun vs H Q _=>∃(a:Addr) (ns:List Int) (R:Nat),vs=[.ref a,.int R]∧H a=some (.lst (ns.map V.int))∧ns.length≤200∧1≤R∧R≤200 ∧
 ∀ms l H',ms.Perm ns→ms.Pairwise (· ≤ ·)→H l=none→LN H H' l (spreadV ms R)→Same H H'→Q (.ref l) H'
def sp_counts (K:PySem.W.Frag):Sp:=fun vs H Q _=>∃(a:Addr) (ns:List Int) (R:Nat),vs=[.ref a,.int R]∧H a=some (.lst (ns.map V.int))∧ns.length≤200∧1≤R∧R≤200 ∧
 ∀ms l H',ms.Perm ns→ms.Pairwise (· ≤ ·)→H l=none→H' l=some (.lst (((spreadV ms R).map fun r=>(r.length:Int)).map V.int))→Same H H'→Q (.ref l) H'
def Rws (H:Hp) (l:Addr) (X:List (List V)):Prop:=∃as:List Addr,H l=some (.lst (as.map V.ref))∧as.length=X.length∧∀(i:Nat) (a:Addr) (es:List V),as[i]? = some a→X[i]? = some es→H a=some (.lst es)
theorem Rws.same {H H':Hp}{l:Addr}{X:List (List V)}(h:Rws H l X) (s:Same H H'):Rws H' l X:=by
 obtain⟨as,h1,h2,h3⟩:=h
 exact⟨as,s _ _ h1,h2,fun i a es e1 e2=>s _ _ (h3 i a es e1 e2)⟩
def sp_entries_in (K:PySem.W.Frag):Sp:=fun vs H Q _=>∃(l:Addr) (X:List (List V)),vs=[.ref l]∧Rws H l X∧X.flatten.length≤100000 ∧
 ∀(D:Addr) (H':Hp),H D=none→H' D=some (.lst X.flatten)→Same H H'→Q (.ref D) H'
def Rms (H:Hp) (l:Addr) (Y:List (List (List V))):Prop:=∃as:List Addr,H l=some (.lst (as.map V.ref))∧as.length=Y.length∧∀(i:Nat) (a:Addr) (X:List (List V)),as[i]? = some a→Y[i]? = some X→Rws H a X
def allV (Y:List (List (List V))):List V:=(Y.map List.flatten).flatten
def sp_all_entries (K:PySem.W.Frag):Sp:=fun vs H Q _=>∃(t l:Addr) (w r:V) (Y:List (List (List V))),vs=[.ref t]∧H t=some (.tup [w,r,.ref l])∧Rms H l Y∧(allV Y).length≤100000 ∧
 ∀(D:Addr) (H':Hp),H D=none→H' D=some (.lst (allV Y))→Same H H'→Q (.ref D) H'
theorem flat_take {X:List (List V)}{i:Nat}{es:List V}(h:X[i]? = some es):(X.take (i+1)).flatten =(X.take i).flatten++es:=by
 rw[List.take_add_one,h];simp
theorem flat_len {X:List (List V)}{i:Nat}{es:List V}(h:X[i]? = some es):(X.take i).flatten.length+es.length≤X.flatten.length:=by
 have e:=flat_take h
 have:(X.take (i+1)).flatten.length≤X.flatten.length:=by
  conv=>rhs;rw[← List.take_append_drop (i+1) X,List.flatten_append,List.length_append]
  omega
 rw[e,List.length_append]at this
 exact this
def kf (e:Int×V):Key×V:=((Sum.inl e.1:Key),e.2)
def putI (qs:List (Int×V)) (k:Int) (v:V):List (Int×V):=if (qs.any fun e=>decide (e.1=k))=true then qs.map (fun e=>if e.1=k then(e.1,v) else e) else qs ++ [(k,v)]
def mergeI (qs ps:List (Int×V)):List (Int×V):=ps.foldl (fun acc e=>putI acc e.1 e.2) qs
theorem putI_map {qs:List (Int×V)}{k:Int}{v:V}:putK (qs.map kf) (Sum.inl k) v =(putI qs k v).map kf:=by
 unfold putK putI
 have e:((qs.map kf).any fun kv=>decide (kv.1 =(Sum.inl k:Key)))=qs.any fun e=>decide (e.1=k):=by
  rw[List.any_map]
  congr 1
  funext e
  simp[kf]
 rw[e]
 split
 ·rw[List.map_map,List.map_map]
  apply List.map_congr_left
  intro e _
  by_cases c:e.1=k
  ·simp[kf,c]
  ·simp[kf,c]
 ·rw[List.map_append];rfl
theorem mergeI_map:∀{ps qs:List (Int×V)},mergeK (qs.map kf) (ps.map kf) =(mergeI qs ps).map kf
 | [],qs=>rfl
 | p::ps,qs=>by
  show mergeK (putK (qs.map kf) (Sum.inl p.1) p.2) (ps.map kf) =(mergeI (putI qs p.1 p.2) ps).map kf
  rw[putI_map,mergeI_map]
theorem putI_keys {qs:List (Int×V)}{k:Int}{v:V}:(putI qs k v).map (·.1)=if k∈qs.map (·.1) then qs.map (·.1) else qs.map (·.1) ++ [k]:=by
 unfold putI
 by_cases c:k∈qs.map (·.1)
 ·have e:(qs.any fun e=>decide (e.1=k))=true:=by
   obtain⟨e,h1,h2⟩:=List.mem_map.mp c
   exact List.any_eq_true.mpr ⟨e,h1,decide_eq_true h2⟩
  rw[if_pos e,if_pos c,List.map_map]
  apply List.map_congr_left
  intro e _
  by_cases d:e.1=k <;> simp[d]
 ·have e:¬(qs.any fun e=>decide (e.1=k))=true:=fun z=>by
   obtain⟨e,h1,h2⟩:=List.any_eq_true.mp z
   exact c (List.mem_map.mpr ⟨e,h1,of_decide_eq_true h2⟩)
  rw[if_neg e,if_neg c,List.map_append];rfl
theorem mergeI_nodup:∀{ps qs:List (Int×V)},(qs.map (·.1)).Nodup→((mergeI qs ps).map (·.1)).Nodup
 | [],qs,h=>h
 | p::ps,qs,h=>by
  show((mergeI (putI qs p.1 p.2) ps).map (·.1)).Nodup
  apply mergeI_nodup
  rw[putI_keys]
  split
  ·exact h
  ·rename_i c
   rw[List.nodup_append]
   refine⟨h,by simp,fun a ha b hb=>?_⟩
   have:b=p.1:=by simpa using hb
   rw[this]
   rintro rfl
   exact c ha
theorem mergeI_mem {k:Int}:∀{ps qs:List (Int×V)},k∈(mergeI qs ps).map (·.1)↔k∈qs.map (·.1)∨k∈ps.map (·.1)
 | [],qs=>by simp[mergeI]
 | p::ps,qs=>by
  show k∈(mergeI (putI qs p.1 p.2) ps).map (·.1)↔_
  rw[mergeI_mem,putI_keys,List.map_cons,List.mem_cons]
  split
  ·rename_i c
   constructor
   ·rintro(h|h)
    ·exact .inl h
    ·exact .inr (.inr h)
   ·rintro(h|h|h)
    ·exact .inl h
    ·exact .inl (h ▸ c)
    ·exact .inr h
  ·constructor
   ·rintro(h|h)
    ·rcases List.mem_append.mp h with h|h
     ·exact .inl h
     ·exact .inr (.inl (by simpa using h))
    ·exact .inr (.inr h)
   ·rintro(h|h|h)
    ·exact .inl (List.mem_append_left _ h)
    ·exact .inl (List.mem_append_right _ (by simp[h]))
    ·exact .inr h
theorem mergeI_id:∀{ps qs:List (Int×V)},((qs++ps).map (·.1)).Nodup→mergeI qs ps=qs++ps
 | [],qs,_=>by simp[mergeI]
 | p::ps,qs,h=>by
  show mergeI (putI qs p.1 p.2) ps=_
  have c:p.1∉qs.map (·.1):=fun z=>by
   rw[List.map_append,List.nodup_append]at h
   exact h.2.2 p.1 z p.1 (by simp) rfl
  have e:putI qs p.1 p.2=qs ++ [p]:=by
   unfold putI
   rw[if_neg]
   intro z
   obtain⟨e,h1,h2⟩:=List.any_eq_true.mp z
   exact c (List.mem_map.mpr ⟨e,h1,of_decide_eq_true h2⟩)
  rw[e,mergeI_id (by rw[List.append_assoc];exact h),List.append_assoc];rfl
def valI (qs:List (Int×V)) (k:Int):V:=((qs.find? fun e=>decide (e.1=k)).map (·.2)).getD .non
theorem valI_some:∀{qs:List (Int×V)}{k:Int},k∈qs.map (·.1)→L2.valV (qs.map kf) (Sum.inl k)=some (valI qs k)
 | [],k,h=>by simp at h
 | e::qs,k,h=>by
  by_cases c:e.1=k
  ·rw[List.map_cons,valV_pos (by simp[kf,c])]
   unfold valI
   rw[List.find?_cons,decide_eq_true c];rfl
  ·rw[List.map_cons,valV_neg (by simp[kf,c]),valI_some (by
    rw[List.map_cons,List.mem_cons]at h
    rcases h with h|h
    ·exact absurd h.symm c
    ·exact h)]
   unfold valI
   rw[List.find?_cons,decide_eq_false c]
def Own (H:Hp) (val:Int→V) (d:Addr) (ks:List Int):Prop:=∃ts:List Addr,H d=some (.lst (ts.map V.ref))∧ts.length=ks.length∧∀(i:Nat) (t:Addr) (k:Int),ts[i]? = some t→ks[i]? = some k→H t=some (.tup [.int k,val k])
theorem Own.same {H H':Hp}{val:Int→V}{d:Addr}{ks:List Int}(h:Own H val d ks) (s:Same H H'):Own H' val d ks:=by
 obtain⟨ts,h1,h2,h3⟩:=h
 exact⟨ts,s _ _ h1,h2,fun i t k e1 e2=>s _ _ (h3 i t k e1 e2)⟩
def OwnA (H:Hp) (val:Int→V) (w:Nat) (r:Addr) (bs:List Addr) (ks:List Int):Prop:=∃ts:List Addr,ts.length=ks.length∧(∀(i:Nat) (t:Addr) (k:Int),ts[i]? = some t→ks[i]? = some k→H t=some (.tup [.int k,val k]))∧H r=some (.lst (bs.map V.ref))∧bs.length =(rowsVV (ts.map V.ref) w).length∧∀(i:Nat) (a:Addr) (es:List V),bs[i]? = some a→(rowsVV (ts.map V.ref) w)[i]? = some es→H a=some (.lst es)
theorem OwnA.same {H H':Hp}{val:Int→V}{w:Nat}{r:Addr}{bs:List Addr}{ks:List Int}(h:OwnA H val w r bs ks) (s:Same H H'):OwnA H' val w r bs ks:=by
 obtain⟨ts,h1,h2,h3,h4,h5⟩:=h
 exact⟨ts,h1,fun i t k e1 e2=>s _ _ (h2 i t k e1 e2),s _ _ h3,h4,fun i a es e1 e2=>s _ _ (h5 i a es e1 e2)⟩
def plc (rs:List Addr) (bss:List (List Addr)):List Addr:=(List.zipWith (fun r bs=>r::bs) rs bss).flatten
theorem plc_snoc {rs:List Addr}{bss:List (List Addr)}{r:Addr}{bs:List Addr}(h:rs.length=bss.length):plc (rs ++ [r]) (bss ++ [bs])=plc rs bss++(r::bs):=by
 unfold plc
 rw[List.zipWith_append h,List.flatten_append];simp
def YardN (H0 H:Hp) (val:Int→V) (w:Nat) (l:Addr) (owns:List (List Int)):Prop:=∃(rs:List Addr) (bss:List (List Addr)),H l=some (.lst (rs.map V.ref))∧rs.length=owns.length∧bss.length=owns.length∧(∀(j:Nat) (r:Addr) (bs:List Addr) (own:List Int),rs[j]? = some r→bss[j]? = some bs→owns[j]? = some own→OwnA H val w r bs own)∧(l::plc rs bss).Nodup∧∀b∈l::plc rs bss,H0 b=none
theorem of_snoc3 {p:Hp→Addr→List Addr→List Int→Prop}{H:Hp}{ds:List Addr}{bss:List (List Addr)}{owns:List (List Int)}{i:Nat}{d:Addr}{bs:List Addr}{own:List Int}(hl:ds.length=i) (hl2:bss.length=i) (ho:owns[i]? = some own)
  (h:∀(j:Nat) (d:Addr) (bs:List Addr) (own:List Int),ds[j]? = some d→bss[j]? = some bs→owns[j]? = some own→p H d bs own) (hd:p H d bs own):∀(j:Nat) (d':Addr) (bs':List Addr) (own:List Int),(ds ++ [d])[j]? = some d'→(bss ++ [bs])[j]? = some bs'→owns[j]? = some own→p H d' bs' own:=by
 intro j d' bs' own' e1 e3 e2
 by_cases z:j<ds.length
 ·rw[List.getElem?_append_left z]at e1
  rw[List.getElem?_append_left (by omega)]at e3
  exact h j d' bs' own' e1 e3 e2
 ·have kl:=(List.getElem?_eq_some_iff.mp e1).1
  rw[List.length_append]at kl
  have hk:j=ds.length:=by have:[d].length=1:=rfl;omega
  subst hk
  rw[List.getElem?_append_right (Nat.le_refl _),Nat.sub_self]at e1
  rw[List.getElem?_append_right (by omega),show ds.length-bss.length=0 by omega]at e3
  rw[hl,ho]at e2
  cases e1;cases e2;cases e3
  exact hd
def hid (D:Addr) (H:Hp):Hp:=fun b=>if b=D then none else H b
theorem hid_ne {D b:Addr}{H:Hp}(n:b≠D):hid D H b=H b:=if_neg n
theorem hid_upd {D:Addr}{H:Hp}{o:HO}:hid D (L2.upd H D o)=hid D H:=by
 funext b
 unfold hid
 by_cases c:b=D
 ·rw[if_pos c,if_pos c]
 ·rw[if_neg c,if_neg c,upd_ne c]
theorem hid_same {D:Addr}{H H':Hp}(s:Same H H'):Same (hid D H) (hid D H'):=fun b o e=>by
 unfold hid at e ⊢
 by_cases c:b=D
 ·rw[if_pos c]at e;cases e
 ·rw[if_neg c]at e ⊢;exact s _ _ e
theorem hid_le {D:Addr}{H:Hp}:Same (hid D H) H:=fun b o e=>by
 unfold hid at e
 by_cases c:b=D
 ·rw[if_pos c]at e;cases e
 ·rw[if_neg c]at e;exact e
theorem spread_mem {ms own:List Int}{R j:Nat}{k:Int}(h:(spreadV ms R)[j]? = some own) (hk:k∈own):k∈ms:=by
 have jl:j<R:=by have:=(List.getElem?_eq_some_iff.mp h).1;rw[spreadV_len]at this;exact this
 rw[spreadV_at jl]at h
 cases h
 exact(List.mem_filter.mp hk).1
theorem spread_len2 {ms own:List Int}{R j:Nat}(h:(spreadV ms R)[j]? = some own):own.length≤ms.length:=by
 have jl:j<R:=by have:=(List.getElem?_eq_some_iff.mp h).1;rw[spreadV_len]at this;exact this
 rw[spreadV_at jl]at h
 cases h
 exact List.length_filter_le _ _
def sp_yard_of (K:PySem.W.Frag):Sp:=fun vs H Q _=>∃(a:Addr) (ts:List Addr) (ps:List (Int×V)) (w R:Nat),vs=[.int w,.int R,.ref a]∧H a=some (.lst (ts.map V.ref))∧ts.length=ps.length∧ps.length≤200∧(∀(i:Nat) (t:Addr) (p:Int×V),ts[i]? = some t→ps[i]? = some p→H t=some (.tup [.int p.1,p.2]))∧1≤w∧w≤8∧1≤R∧R≤200 ∧
 ∀(ms:List Int) (t h:Addr) (H':Hp),ms.Perm ((mergeI [] ps).map (·.1))→ms.Pairwise (· ≤ ·)→H' t=some (.tup [.int w,.int R,.ref h])→YardN H H' (valI (mergeI [] ps)) w h (spreadV ms R)→Same H H'→Q (.ref t) H'
theorem of_snoc {p:Hp→Addr→List Int→Prop}{H:Hp}{ds:List Addr}{owns:List (List Int)}{i:Nat}{d:Addr}{own:List Int}(hl:ds.length=i) (ho:owns[i]? = some own)
  (h:∀(j:Nat) (d:Addr) (own:List Int),ds[j]? = some d→owns[j]? = some own→p H d own) (hd:p H d own):∀(j:Nat) (d':Addr) (own:List Int),(ds ++ [d])[j]? = some d'→owns[j]? = some own→p H d' own:=by
 intro j d' own' e1 e2
 by_cases z:j<ds.length
 ·rw[List.getElem?_append_left z]at e1
  exact h j d' own' e1 e2
 ·have kl:=(List.getElem?_eq_some_iff.mp e1).1
  rw[List.length_append]at kl
  have hk:j=ds.length:=by have:[d].length=1:=rfl;omega
  subst hk
  rw[List.getElem?_append_right (Nat.le_refl _),Nat.sub_self]at e1
  rw[hl,ho]at e2
  cases e1;cases e2
  exact hd
def P1 {α:Type}(p:Addr→α→Prop) (as:List Addr) (xs:List α):Prop:=as.length=xs.length∧∀(i:Nat) (a:Addr) (x:α),as[i]? = some a→xs[i]? = some x→p a x
section
variable {α:Type}{p p':Addr→α→Prop}{as bs:List Addr}{xs ys:List α}{a b:Addr}{x y:α}{i:Nat}
theorem P1.imp (f:∀a x,p a x→p' a x) (h:P1 p as xs):P1 p' as xs:=⟨h.1,fun i a x e1 e2=>f a x (h.2 i a x e1 e2)⟩
theorem P1.imp' (f:∀a x,a∈as→x∈xs→p a x→p' a x) (h:P1 p as xs):P1 p' as xs:=⟨h.1,fun i a x e1 e2=>f a x (List.mem_of_getElem? e1) (List.mem_of_getElem? e2) (h.2 i a x e1 e2)⟩
theorem P1.nil:P1 p [] []:=⟨rfl,fun i a x e=>by simp at e⟩
theorem P1.get (h:P1 p as xs) (e:as[i]? = some a):∃x,xs[i]? = some x∧p a x:=by
 have il:=(List.getElem?_eq_some_iff.mp e).1
 rw[h.1]at il
 exact⟨_,List.getElem?_eq_getElem il,h.2 i a _ e (List.getElem?_eq_getElem il)⟩
theorem P1.app (h:P1 p as xs) (h':P1 p bs ys):P1 p (as++bs) (xs++ys):=by
 refine⟨by rw[List.length_append,List.length_append,h.1,h'.1],fun i a x e1 e2=>?_⟩
 have hl:=h.1
 by_cases z:i<as.length
 ·rw[List.getElem?_append_left z]at e1
  rw[List.getElem?_append_left (by omega)]at e2
  exact h.2 i a x e1 e2
 ·rw[List.getElem?_append_right (by omega)]at e1
  rw[List.getElem?_append_right (by omega),← hl]at e2
  exact h'.2 _ a x e1 e2
theorem P1.one (hb:p b y):P1 p [b] [y]:=by
 refine⟨rfl,fun i a x e1 e2=>?_⟩
 cases i with
 | zero=>cases e1;cases e2;exact hb
 | succ i=>simp at e1
theorem P1.snoc (h:P1 p as xs) (hb:p b y):P1 p (as ++ [b]) (xs ++ [y]):=h.app (P1.one hb)
theorem P1.set (h:P1 p as xs) (hb:p b y):P1 p (as.set i b) (xs.set i y):=by
 refine⟨by rw[List.length_set,List.length_set,h.1],fun j a x e1 e2=>?_⟩
 have hl:=h.1
 rw[List.getElem?_set]at e1 e2
 by_cases z:i=j
 ·rw[if_pos z]at e1 e2
  subst z
  by_cases c:i<as.length
  ·rw[if_pos c]at e1
   rw[if_pos (by omega)]at e2
   cases e1;cases e2;exact hb
  ·rw[if_neg c]at e1;cases e1
 ·rw[if_neg z]at e1 e2
  exact h.2 j a x e1 e2
theorem P1.setx (h:P1 p as xs) (n:as.Nodup) (e:as[i]? = some a) (f:∀b x,b∈as→b≠a→p b x→p' b x) (hy:p' a y):P1 p' as (xs.set i y):=by
 refine⟨by rw[List.length_set,h.1],fun j b x e1 e2=>?_⟩
 rw[List.getElem?_set]at e2
 by_cases z:i=j
 ·rw[if_pos z]at e2
  subst z
  rw[e]at e1
  cases e1
  split at e2
  ·cases e2;exact hy
  ·cases e2
 ·rw[if_neg z]at e2
  refine f b x (List.mem_of_getElem? e1) (fun w=>z ?_) (h.2 j b x e1 e2)
  subst w
  exact(List.getElem?_inj (List.getElem?_eq_some_iff.mp e).1 n).mp (e.trans e1.symm)
theorem P1.take (h:P1 p as xs) (n:Nat):P1 p (as.take n) (xs.take n):=by
 refine⟨by rw[List.length_take,List.length_take,h.1],fun i a x e1 e2=>?_⟩
 rw[List.getElem?_take]at e1 e2
 split at e1
 ·rename_i c
  rw[if_pos c]at e2
  exact h.2 i a x e1 e2
 ·cases e1
theorem P1.drop (h:P1 p as xs) (n:Nat):P1 p (as.drop n) (xs.drop n):=by
 refine⟨by rw[List.length_drop,List.length_drop,h.1],fun i a x e1 e2=>?_⟩
 rw[List.getElem?_drop]at e1 e2
 exact h.2 _ a x e1 e2
theorem P1.dropLast (h:P1 p as xs):P1 p as.dropLast xs.dropLast:=by
 rw[List.dropLast_eq_take,List.dropLast_eq_take,← h.1]
 exact h.take _
theorem P1.tail (h:P1 p (a::as) (x::xs)):p a x∧P1 p as xs:=by
 refine⟨h.2 0 a x rfl rfl,by have:=h.1;simpa using this,fun i b y e1 e2=>h.2 (i+1) b y (by simpa using e1) (by simpa using e2)⟩
end
def GD (K:PySem.W.Frag) (H:Hp) (n:Nat) (v:V) (d:PyData):Prop:=DV K H v d∧PyData.canLay0 d=true∧PyData.depth d≤n
def GDs (K:PySem.W.Frag) (H:Hp) (n:Nat) (vs:List V) (ds:List PyData):Prop:=DVs K H vs ds∧PyData.canLayAll0 ds=true∧PyData.depthAll ds≤n
section
variable {K:PySem.W.Frag}{H:Hp}{n:Nat}{v:V}{d:PyData}{vs:List V}{ds:List PyData}
theorem GDs.nil:GDs K H n [] []:=⟨.nil,rfl,by simp[PyData.depthAll]⟩
theorem GDs.cons (h:GD K H n v d) (t:GDs K H n vs ds):GDs K H n (v::vs) (d::ds):=by
 refine⟨.cons h.1 t.1,?_,?_⟩
 ·rw[PyData.canLayAll0,h.2.1,t.2.1];rfl
 ·rw[PyData.depthAll];exact Nat.max_le.mpr ⟨h.2.2,t.2.2⟩
theorem GD.mono {m:Nat}(h:GD K H n v d) (l:n≤m):GD K H m v d:=⟨h.1,h.2.1,Nat.le_trans h.2.2 l⟩
theorem GD.lst {a:Addr}(h:H a=some (.lst vs)) (g:GDs K H n vs ds):GD K H (n+1) (.ref a) (.list ds) :=
 ⟨.lst (SqL.of h) g.1,by rw[PyData.canLay0];exact g.2.1,by rw[PyData.depth];have:=g.2.2;omega⟩
theorem GD.tup {a:Addr}(h:H a=some (.tup vs)) (g:GDs K H n vs ds):GD K H (n+1) (.ref a) (.tuple ds) :=
 ⟨.tup (SqT.of h) g.1,by rw[PyData.canLay0];exact g.2.1,by rw[PyData.depth];have:=g.2.2;omega⟩
theorem GD.int (i:Int):GD K H n (.int i) (.int i):=⟨.int i,rfl,by simp[PyData.depth]⟩
theorem GD.str {z:Str}(h:PyData.strOk z=true):GD K H n (.str z) (.str z):=⟨.str z,by rw[PyData.canLay0];exact h,by simp[PyData.depth]⟩
theorem GD.shaped (h:GD K H n v d) (l:n≤64):SeqAt.shaped d=true:=by
 have:=h.2.2
 simp[SeqAt.shaped,h.2.1];omega
theorem GD.refl (h:GD K H n v d):PyData.eqv d d=true:=SeqAt.eqv_refl d h.2.1
theorem gds_map {α:Type}{p:Addr→α→Prop}{f:α→PyData}:∀{as:List Addr}{xs:List α},P1 p as xs→(∀a x,x∈xs→p a x→GD K H n (.ref a) (f x))→GDs K H n (as.map V.ref) (xs.map f)
 | [],[],_,_=>GDs.nil
 | [],_::_,h,_=>by cases h.1
 | _::_,[],h,_=>by cases h.1
 | a::as,x::xs,h,g=>GDs.cons (g a x List.mem_cons_self h.tail.1) (gds_map h.tail.2 fun a x m=>g a x (List.mem_cons_of_mem _ m))
end
def En (H:Hp) (v:V):Prop:=∃t k z,v = .ref t∧H t=some (.tup [.int k,.str z])∧PyData.strOk z=true∧0≤k∧k<1152921504606846976∧z.length≤100
def dE (H:Hp) (v:V):PyData:=match v with
 | .ref t=>(match H t with
  | some (.tup [.int k,.str z])=>.tuple [.int k,.str z]
  | _=>.none)
 | _=>.none
theorem En.gd {K:PySem.W.Frag}{H:Hp}{v:V}(h:En H v):GD K H 1 v (dE H v):=by
 obtain⟨t,k,z,rfl,h1,h2⟩:=h
 have e:dE H (.ref t) = .tuple [.int k,.str z]:=by
  show(match H t with|some (.tup [.int k,.str z])=>PyData.tuple [.int k,.str z] | _=>.none)=_
  rw[h1]
 rw[e]
 exact GD.tup h1 (.cons (.int _) (.cons (.str h2.1) .nil))
theorem En.keep {H H':Hp}{v:V}(kt:∀t xs,H t=some (.tup xs)→H' t=some (.tup xs)) (h:En H v):En H' v:=by
 obtain⟨t,k,z,rfl,h1,h2⟩:=h
 exact⟨t,k,z,rfl,kt _ _ h1,h2⟩
theorem gds_en {K:PySem.W.Frag}{H:Hp}:∀{es:List V},(∀v∈es,En H v)→GDs K H 1 es (es.map (dE H))
 | [],_=>GDs.nil
 | v::es,h=>GDs.cons (h v List.mem_cons_self).gd (gds_en fun v m=>h v (List.mem_cons_of_mem _ m))
def R1 (S:Addr→Prop) (H:Hp) (a:Addr) (es:List V):Prop:=S a∧H a=some (.lst es)
def R2 (S:Addr→Prop) (H:Hp) (b:Addr) (rows:List (List V)):Prop:=S b∧∃as:List Addr,H b=some (.lst (as.map V.ref))∧P1 (R1 S H) as rows
def R3 (S:Addr→Prop) (H:Hp) (h:Addr) (X:List (List (List V))):Prop:=∃bs:List Addr,H h=some (.lst (bs.map V.ref))∧P1 (R2 S H) bs X
section
variable {S S':Addr→Prop}{H H':Hp}{a b h:Addr}{es:List V}{rows:List (List V)}{X:List (List (List V))}
theorem R1.keep (kl:∀a o,S a→H a=some o→H' a=some o) (r:R1 S H a es):R1 S H' a es:=⟨r.1,kl _ _ r.1 r.2⟩
theorem R2.keep (kl:∀a o,S a→H a=some o→H' a=some o) (r:R2 S H b rows):R2 S H' b rows:=by
 obtain⟨s,as,h1,h2⟩:=r
 exact⟨s,as,kl _ _ s h1,h2.imp fun _ _ r=>r.keep kl⟩
theorem R1.weak (w:∀a,S a→S' a) (r:R1 S H a es):R1 S' H a es:=⟨w _ r.1,r.2⟩
theorem R2.weak (w:∀a,S a→S' a) (r:R2 S H b rows):R2 S' H b rows:=by
 obtain⟨s,as,h1,h2⟩:=r
 exact⟨w _ s,as,h1,h2.imp fun _ _ r=>r.weak w⟩
theorem R3.same (s:Same H H') (r:R3 S H h X):R3 S H' h X:=by
 obtain⟨bs,h1,h2⟩:=r
 exact⟨bs,s _ _ h1,h2.imp fun _ _ r=>r.keep fun _ _ _ e=>s _ _ e⟩
end
theorem R2.mem {S:Addr→Prop}{H:Hp}{b:Addr}{rows:List (List V)}(r:R2 S H b rows):R2 (fun x=>S x∧∃o,H x=some o) H b rows:=by
 obtain⟨s,as,h1,h2⟩:=r
 exact⟨⟨s,_,h1⟩,as,h1,h2.imp fun _ _ r=>⟨⟨r.1,_,r.2⟩,r.2⟩⟩
def EnX (H:Hp) (X:List (List (List V))):Prop:=∀rows∈X,∀es∈rows,∀v∈es,En H v
def SzX (X:List (List (List V))):Prop:=X.length≤131∧∀rows∈X,rows.length≤131∧∀es∈rows,es.length≤9
theorem EnX.keep {H H':Hp}{X:List (List (List V))}(kt:∀t xs,H t=some (.tup xs)→H' t=some (.tup xs)) (h:EnX H X):EnX H' X:=fun r hr es he v hv=>(h r hr es he v hv).keep kt
theorem EnX.same {H H':Hp}{X:List (List (List V))}(s:Same H H') (h:EnX H X):EnX H' X:=h.keep fun _ _ e=>s _ _ e
def dRow (H:Hp) (es:List V):PyData:=.list (es.map (dE H))
def dRows (H:Hp) (rows:List (List V)):PyData:=.list (rows.map (dRow H))
def dX (H:Hp) (X:List (List (List V))):PyData:=.list (X.map (dRows H))
theorem R3.gd {K:PySem.W.Frag}{S:Addr→Prop}{H:Hp}{h:Addr}{X:List (List (List V))}(r:R3 S H h X) (e:EnX H X):GD K H 4 (.ref h) (dX H X):=by
 obtain⟨bs,h1,h2⟩:=r
 refine GD.lst h1 (gds_map h2 fun b rows hm hb=>?_)
 obtain⟨_,as,h3,h4⟩:=hb
 refine GD.lst h3 (gds_map h4 fun a es hm2 ha=>?_)
 exact GD.lst ha.2 (gds_en fun v hv=>e rows hm es hm2 v hv)
def Yd (H:Hp) (y:Addr) (w R:Int) (X:List (List (List V))):Prop:=∃h,H y=some (.tup [.int w,.int R,.ref h])∧R3 (fun _=>True) H h X∧EnX H X∧SzX X
def SzQ (X:List (List (List V))):Prop:=X.length≤131∧(∀rows∈X,rows.length≤200)∧(allV X).length≤190
def Yq (H:Hp) (y:Addr) (w R:Int) (X:List (List (List V))):Prop:=∃h,H y=some (.tup [.int w,.int R,.ref h])∧R3 (fun _=>True) H h X∧EnX H X∧SzQ X
def dY (H:Hp) (w R:Int) (X:List (List (List V))):PyData:=.tuple [.int w,.int R,dX H X]
theorem Yd.same {H H':Hp}{y:Addr}{w R:Int}{X:List (List (List V))}(s:Same H H') (h:Yd H y w R X):Yd H' y w R X:=by
 obtain⟨t,h1,h2,h3,h4⟩:=h
 exact⟨t,s _ _ h1,h2.same s,h3.same s,h4⟩
theorem Yd.gd {K:PySem.W.Frag}{H:Hp}{y:Addr}{w R:Int}{X:List (List (List V))}(h:Yd H y w R X):GD K H 5 (.ref y) (dY H w R X):=by
 obtain⟨t,h1,h2,h3,h4⟩:=h
 exact GD.tup h1 (.cons (.int _) (.cons (.int _) (.cons (h2.gd h3) .nil)))
inductive St3
 | rooms (n:Nat)
 | cut (r m:Nat)
 | row (r a:Nat) (es:List V)
def StA (H:Hp) (s:Addr):St3→Prop
 | .rooms n=>H s=some (.tup [.str "rooms",.int n])∧1≤n∧n≤130
 | .cut r m=>H s=some (.tup [.str "cut",.int r,.int m])∧r≤129∧m≤130
 | .row r a es=>∃l,H s=some (.tup [.str "row",.int r,.int a,.ref l])∧H l=some (.lst es)∧r≤129∧a≤129∧es.length≤8∧∀v∈es,En H v
theorem StA.same {H H':Hp}{s:Addr}{st:St3}(sm:Same H H') (h:StA H s st):StA H' s st:=by
 cases st with
 | rooms n=>exact⟨sm _ _ h.1,h.2⟩
 | cut r m=>exact⟨sm _ _ h.1,h.2⟩
 | row r a es =>
  obtain⟨l,h1,h2,h3,h4,h5,h6⟩:=h
  exact⟨l,sm _ _ h1,sm _ _ h2,h3,h4,h5,fun v hv=>(h6 v hv).keep fun _ _ e=>sm _ _ e⟩
def dSt (H:Hp):St3→PyData
 | .rooms n=>.tuple [.str "rooms",.int n]
 | .cut r m=>.tuple [.str "cut",.int r,.int m]
 | .row r a es=>.tuple [.str "row",.int r,.int a,dRow H es]
theorem StA.gd {K:PySem.W.Frag}{H:Hp}{s:Addr}{st:St3}(h:StA H s st):GD K H 5 (.ref s) (dSt H st):=by
 cases st with
 | rooms n=>exact(GD.tup (n:=1) h.1 (.cons (.str (by decide +kernel)) (.cons (.int _) .nil))).mono (by omega)
 | cut r m=>exact(GD.tup (n:=1) h.1 (.cons (.str (by decide +kernel)) (.cons (.int _) (.cons (.int _) .nil)))).mono (by omega)
 | row r a es =>
  obtain⟨l,h1,h2,h3,h4,h5,h6⟩:=h
  exact(GD.tup (n:=2) h1 (.cons (.str (by decide +kernel)) (.cons (.int _) (.cons (.int _) (.cons (GD.lst h2 (gds_en h6)) .nil))))).mono (by omega)
def trim {α:Type}(X:List (List α)):List (List α):=(X.reverse.dropWhile (·.isEmpty)).reverse
theorem trim_nil {α:Type}:trim ([]:List (List α))=[]:=rfl
theorem trim_snoc {α:Type}{X:List (List α)}:trim (X ++ [[]])=trim X:=by
 unfold trim
 rw[List.reverse_append];rfl
theorem trim_stop {α:Type}{X:List (List α)}{r:List α}(h:r ≠ []):trim (X ++ [r])=X ++ [r]:=by
 unfold trim
 rw[List.reverse_append]
 show(List.dropWhile (·.isEmpty) (r::X.reverse)).reverse=_
 rw[List.dropWhile_cons,if_neg (by simpa using h),List.reverse_cons,List.reverse_reverse]
theorem trim_sub {α:Type}{X:List (List α)}:(∀r∈trim X,r∈X)∧(trim X).length≤X.length:=by
 unfold trim
 have s:=List.dropWhile_sublist (l:=X.reverse) (p:=fun r:List α=>r.isEmpty)
 exact⟨fun r hr=>List.mem_reverse.mp (s.subset (List.mem_reverse.mp hr)),by rw[List.length_reverse];have:=s.length_le;rw[List.length_reverse]at this;exact this⟩
def pad {α:Type}(X:List (List α)) (n:Nat):List (List α):=X++List.replicate (n-X.length) []
theorem pad_len {α:Type}{X:List (List α)}{n:Nat}:(pad X n).length=max X.length n:=by
 unfold pad;rw[List.length_append,List.length_replicate];omega
theorem pad_done {α:Type}{X:List (List α)}{n:Nat}(h:n≤X.length):pad X n=X:=by
 unfold pad;rw[Nat.sub_eq_zero_of_le h];simp
theorem pad_more {α:Type}{X:List (List α)}{n:Nat}(h:X.length<n):pad (X ++ [[]]) n=pad X n:=by
 unfold pad
 rw[List.length_append,List.length_singleton,List.append_assoc]
 congr 1
 rw[show n-X.length =(n-(X.length+1))+1 by omega,List.replicate_succ];rfl
theorem pad_mem {α:Type}{X:List (List α)}{n:Nat}{r:List α}(h:r∈pad X n):r∈X∨r=[]:=by
 unfold pad at h
 rcases List.mem_append.mp h with z|z
 ·exact .inl z
 ·exact .inr (List.eq_of_mem_replicate z)
def rowX (X:List (List (List V))) (r a:Nat) (es:List V):List (List (List V)):=(pad X (r+1)).modify r fun rows=>(pad rows (a+1)).set a es
def doX (X:List (List (List V))):St3→List (List (List V))
 | .rooms _=>trim X
 | .cut r m=>trim (X.modify r (List.take m))
 | .row r a es=>trim (rowX X r a es)
def doR (R:Int):St3→Int
 | .rooms n=>n
 | _=>R
theorem mod_mem {α:Type}{X:List α}{r:Nat}{f:α→α}{y:α}(h:y∈X.modify r f):y∈X ∨ ∃x∈X,y=f x:=by
 obtain⟨i,hi⟩:=List.getElem?_of_mem h
 rw[List.getElem?_modify]at hi
 cases e:X[i]? with
 | none=>rw[e]at hi;simp at hi
 | some x =>
  rw[e]at hi
  have hm:=List.mem_of_getElem? e
  by_cases z:r=i
  ·have e2:f x=y:=by simpa [z] using hi
   exact .inr ⟨x,hm,e2.symm⟩
  ·have e2:x=y:=by simpa [z] using hi
   exact .inl (e2 ▸ hm)
theorem mod_set {α:Type}{X:List α}{r:Nat}{f:α→α}{x:α}(h:X[r]? = some x):X.modify r f=X.set r (f x):=by
 refine List.ext_getElem? fun i=>?_
 rw[List.getElem?_modify,List.getElem?_set]
 by_cases z:r=i
 ·subst z
  obtain⟨hl,e⟩:=List.getElem?_eq_some_iff.mp h
  simp[hl,e]
 ·simp[z]
theorem mod_none {α:Type}{X:List α}{r:Nat}{f:α→α}(h:X.length≤r):X.modify r f=X:=by
 refine List.ext_getElem? fun i=>?_
 rw[List.getElem?_modify]
 by_cases z:r=i
 ·subst z
  rw[List.getElem?_eq_none h];rfl
 ·simp[z]
def doM (X:List (List (List V))):St3→List (List (List V))
 | .rooms _=>X
 | .cut r m=>X.modify r (List.take m)
 | .row r a es=>rowX X r a es
theorem doX_eq {X:List (List (List V))}{st:St3}:doX X st=trim (doM X st):=by cases st <;> rfl
theorem do_of {X:List (List (List V))}{q:List V→Prop}{st:St3}(h:∀rows∈X,∀es∈rows,q es) (h0:q []) (hs:∀r a es,st = .row r a es→q es):∀rows∈doX X st,∀es∈rows,q es:=by
 cases st with
 | rooms n=>exact fun rows hr=>h rows (trim_sub.1 rows hr)
 | cut r m =>
  intro rows hr es he
  rcases mod_mem (trim_sub.1 rows hr) with z|⟨x,hx,rfl⟩
  ·exact h rows z es he
  ·exact h x hx es (List.mem_of_mem_take he)
 | row r a e2 =>
  intro rows hr es he
  have hp:∀rows∈pad X (r+1),∀es∈rows,q es:=fun rows hr es he=>by
   rcases pad_mem hr with z|z
   ·exact h rows z es he
   ·rw[z]at he;cases he
  rcases mod_mem (trim_sub.1 rows hr) with z|⟨x,hx,rfl⟩
  ·exact hp rows z es he
  ·rcases List.mem_or_eq_of_mem_set he with z|z
   ·rcases pad_mem z with w|w
    ·exact hp x hx es w
    ·rw[w];exact h0
   ·rw[z];exact hs r a e2 rfl
theorem SzX.step {H:Hp}{s:Addr}{X:List (List (List V))}{st:St3}(h:SzX X) (hs:StA H s st):SzX (doX X st):=by
 have q:=do_of (X:=X) (q:=fun es=>es.length≤9) (st:=st) (fun rows hr es he=>(h.2 rows hr).2 es he) (by simp) (fun r a es e=>by subst e;obtain⟨l,_,_,_,_,h5,_⟩:=hs;omega)
 refine⟨?_,fun rows hr=>⟨?_,q rows hr⟩⟩
 ·have h1:=h.1
  cases st with
  | rooms n=>exact Nat.le_trans trim_sub.2 h1
  | cut r m=>exact Nat.le_trans trim_sub.2 (by rw[List.length_modify];exact h1)
  | row r a es =>
   obtain⟨l,_,_,h3,_⟩:=hs
   refine Nat.le_trans trim_sub.2 ?_
   unfold rowX
   rw[List.length_modify,pad_len];omega
 ·cases st with
  | rooms n=>exact(h.2 rows (trim_sub.1 rows hr)).1
  | cut r m =>
   rcases mod_mem (trim_sub.1 rows hr) with z|⟨x,hx,rfl⟩
   ·exact(h.2 rows z).1
   ·have:=(h.2 x hx).1
    rw[List.length_take];omega
  | row r a es =>
   obtain⟨l,_,_,h3,h4,_⟩:=hs
   have hp:∀rows∈pad X (r+1),rows.length≤131:=fun rows hr=>by
    rcases pad_mem hr with z|z
    ·exact(h.2 rows z).1
    ·rw[z];simp
   rcases mod_mem (trim_sub.1 rows hr) with z|⟨x,hx,rfl⟩
   ·exact hp rows z
   ·have:=hp x hx
    rw[List.length_set,pad_len];omega
theorem EnX.step {H:Hp}{s:Addr}{X:List (List (List V))}{st:St3}(h:EnX H X) (hs:StA H s st):EnX H (doX X st) :=
 do_of (q:=fun es=>∀v∈es,En H v) h (fun v hv=>by cases hv) fun r a es e=>by subst e;obtain⟨l,_,_,_,_,_,h6⟩:=hs;exact h6
def T1 (S:Addr→Prop) (h:Addr) (bs:List Addr) (H:Hp) (a:Addr) (es:List V):Prop:=S a∧a≠h∧a∉bs∧H a=some (.lst es)
def T2 (S:Addr→Prop) (h:Addr) (bs:List Addr) (H:Hp) (b:Addr) (rows:List (List V)):Prop:=S b∧∃as:List Addr,H b=some (.lst (as.map V.ref))∧P1 (T1 S h bs H) as rows
def T3 (S:Addr→Prop) (H:Hp) (h:Addr) (bs:List Addr) (X:List (List (List V))):Prop:=S h∧H h=some (.lst (bs.map V.ref))∧bs.Nodup∧h∉bs∧P1 (T2 S h bs H) bs X
def Kq (S:Addr→Prop) (H H':Hp):Prop:=∀b o,¬ S b→H b=some o→H' b=some o
def Fr (S:Addr→Prop) (H:Hp):Prop:=∀e,H e=none→S e
theorem Kq.trans {S:Addr→Prop}{H H1 H2:Hp}(a:Kq S H H1) (b:Kq S H1 H2):Kq S H H2:=fun c o n e=>b c o n (a c o n e)
theorem Fr.keep {S:Addr→Prop}{H H':Hp}(f:Fr S H) (k:Kq S H H'):Fr S H':=fun e n=>by
 by_cases z:S e
 ·exact z
 ·cases c:H e with
  | none=>exact f e c
  | some o=>rw[k e o z c]at n;cases n
section
variable {S:Addr→Prop}{H H':Hp}{h a b c e:Addr}{bs bs' as:List Addr}{es:List V}{rows:List (List V)}{X:List (List (List V))}{i j m:Nat}
theorem T2.keep (kb:∀o,H b=some o→H' b=some o) (kr:∀a o,a≠h→a∉bs→H a=some o→H' a=some o∧a∉bs') (t:T2 S h bs H b rows):T2 S h bs' H' b rows:=by
 obtain⟨s,as,h1,h2⟩:=t
 refine⟨s,as,kb _ h1,h2.imp fun a es t=>?_⟩
 obtain⟨t1,t2,t3,t4⟩:=t
 obtain⟨k1,k2⟩:=kr a _ t2 t3 t4
 exact⟨t1,t2,k2,k1⟩
theorem T3.has (t:T3 S H h bs X) (hb:b∈bs):∃o,H b=some o:=by
 obtain⟨i,hi⟩:=List.getElem?_of_mem hb
 obtain⟨rows,_,_,as,h1,_⟩:=t.2.2.2.2.get hi
 exact⟨_,h1⟩
theorem T3.new (t:T3 S H h bs X) (ne:H e=none):e≠h∧e∉bs:=by
 refine⟨fun z=>(by rw[z,t.2.1]at ne;cases ne),fun z=>?_⟩
 obtain⟨o,ho⟩:=t.has z
 rw[ho]at ne;cases ne
theorem T3.push (t:T3 S H h bs X) (ne:H e=none) (se:S e) (hk:∀b o,b≠h→H b=some o→H' b=some o) (hh:H' h=some (.lst ((bs ++ [e]).map V.ref))) (he:H' e=some (.lst [])):T3 S H' h (bs ++ [e]) (X ++ [[]]):=by
 obtain⟨n1,n2⟩:=t.new ne
 obtain⟨sh,h1,h2,h3,h4⟩:=t
 refine⟨sh,hh,?_,?_,(h4.imp' fun b rows hb _ t=>t.keep (fun o e=>hk _ _ (fun z=>h3 (z ▸ hb)) e) fun a o m1 m2 e'=>⟨hk _ _ m1 e',fun z=>?_⟩).snoc ⟨se,[],he,P1.nil⟩⟩
 ·rw[List.nodup_append]
  refine⟨h2,by simp,fun x hx y hy z=>n2 ?_⟩
  have:y=e:=by simpa using hy
  rw[← this,← z];exact hx
 ·intro z
  rcases List.mem_append.mp z with w|w
  ·exact h3 w
  ·have:h=e:=by simpa using w
   exact n1 this.symm
 ·rcases List.mem_append.mp z with w|w
  ·exact m2 w
  ·have:a=e:=by simpa using w
   rw[this,ne]at e';cases e'
theorem T3.add (t:T3 S H h bs X) (hk:∀b o,b≠h→H b=some o→H' b=some o) (hh:H' h=some (.lst ((bs ++ [c]).map V.ref))) (nc:H c=none) (sc:S c) (hc:H' c=some (.lst (as.map V.ref))) (hA:P1 (fun a es=>S a∧H a=none∧a≠c∧H' a=some (.lst es)) as rows):T3 S H' h (bs ++ [c]) (X ++ [rows]):=by
 obtain⟨n1,n2⟩:=t.new nc
 have t0:=t
 obtain⟨sh,h1,h2,h3,h4⟩:=t
 refine⟨sh,hh,?_,?_,(h4.imp' fun b rows hb _ t=>t.keep (fun o e=>hk _ _ (fun z=>h3 (z ▸ hb)) e) fun a o m1 m2 e'=>⟨hk _ _ m1 e',fun z=>?_⟩).snoc ⟨sc,as,hc,hA.imp fun a es t=>?_⟩⟩
 ·rw[List.nodup_append]
  refine⟨h2,by simp,fun x hx y hy z=>n2 ?_⟩
  have:y=c:=by simpa using hy
  rw[← this,← z];exact hx
 ·intro z
  rcases List.mem_append.mp z with w|w
  ·exact h3 w
  ·have:h=c:=by simpa using w
   exact n1 this.symm
 ·obtain⟨m1,m2⟩:=t0.new t.2.1
  refine⟨t.1,m1,fun z=>?_,t.2.2.2⟩
  rcases List.mem_append.mp z with w|w
  ·exact m2 w
  ·exact t.2.2.1 (by simpa using w)
 ·rcases List.mem_append.mp z with w|w
  ·exact m2 w
  ·have:a=c:=by simpa using w
   rw[this,nc]at e';cases e'
theorem T3.inrow (t:T3 S H h bs X) (hb:bs[i]? = some b) (hr:X[i]? = some rows):S b∧∃as:List Addr,H b=some (.lst (as.map V.ref))∧P1 (T1 S h bs H) as rows:=t.2.2.2.2.2 i b rows hb hr
theorem T3.one (t:T3 S H h bs X) (hb:bs[i]? = some b) (hk:∀c o,c≠b→H c=some o→H' c=some o) (hn:T2 S h bs H' b rows):T3 S H' h bs (X.set i rows):=by
 obtain⟨sh,h1,h2,h3,h4⟩:=t
 have bm:=List.mem_of_getElem? hb
 refine⟨sh,hk _ _ (fun z=>h3 (z ▸ bm)) h1,h2,h3,h4.setx h2 hb (fun c rows hc n t=>t.keep (fun o e=>hk _ _ n e) fun a o m1 m2 e=>⟨hk _ _ (fun z=>m2 (z ▸ bm)) e,m2⟩) hn⟩
theorem nodup_set {bs:List Addr}{c:Addr}(n:bs.Nodup) (nc:c∉bs):∀{i:Nat},(bs.set i c).Nodup:=by
 intro i
 induction bs generalizing i with
 | nil=>simp
 | cons x bs ih =>
  obtain⟨n1,n2⟩:=List.nodup_cons.mp n
  cases i with
  | zero=>exact List.nodup_cons.mpr ⟨fun z=>nc (List.mem_cons_of_mem _ z),n2⟩
  | succ i =>
   refine List.nodup_cons.mpr ⟨fun z=>?_,ih n2 (fun z=>nc (List.mem_cons_of_mem _ z))⟩
   rcases List.mem_or_eq_of_mem_set z with w|w
   ·exact n1 w
   ·exact nc (w ▸ List.mem_cons_self)
theorem T3.put (t:T3 S H h bs X) (nc:H c=none) (hk:∀b o,b≠h→H b=some o→H' b=some o) (hh:H' h=some (.lst ((bs.set i c).map V.ref))) (hn:T2 S h (bs.set i c) H' c rows):T3 S H' h (bs.set i c) (X.set i rows):=by
 obtain⟨n1,n2⟩:=t.new nc
 obtain⟨sh,h1,h2,h3,h4⟩:=t
 have mem:∀{x},x∈bs.set i c→x∈bs∨x=c:=fun z=>List.mem_or_eq_of_mem_set z
 refine⟨sh,hh,nodup_set h2 n2,fun z=>?_,P1.set (h4.imp' fun b rows hb _ t=>t.keep (fun o e=>hk _ _ (fun z=>h3 (z ▸ hb)) e) fun a o m1 m2 e'=>⟨hk _ _ m1 e',fun z=>?_⟩) hn⟩
 ·rcases mem z with w|w
  ·exact h3 w
  ·exact n1 w.symm
 ·rcases mem z with w|w
  ·exact m2 w
  ·rw[w,nc]at e';cases e'
theorem T3.pop (t:T3 S H h bs X) (hk:∀b o,b≠h→H b=some o→H' b=some o) (hh:H' h=some (.lst (bs.dropLast.map V.ref))):T3 S H' h bs.dropLast X.dropLast:=by
 obtain⟨sh,h1,h2,h3,h4⟩:=t
 have sub:=List.dropLast_sublist bs
 refine⟨sh,hh,h2.sublist sub,fun z=>h3 (sub.subset z),P1.dropLast (h4.imp' fun b rows hb _ t=>t.keep (fun o e=>hk _ _ (fun z=>h3 (z ▸ hb)) e) fun a o m1 m2 e'=>⟨hk _ _ m1 e',fun z=>m2 (sub.subset z)⟩)⟩
theorem T3.same (s:Same H H') (t:T3 S H h bs X):T3 S H' h bs X:=by
 obtain⟨sh,h1,h2,h3,h4⟩:=t
 exact⟨sh,s _ _ h1,h2,h3,h4.imp fun b rows t=>t.keep (fun o e=>s _ _ e) fun a o m1 m2 e=>⟨s _ _ e,m2⟩⟩
theorem T3.r3 (t:T3 S H h bs X):R3 (fun _=>True) H h X:=by
 obtain⟨sh,h1,h2,h3,h4⟩:=t
 refine⟨bs,h1,h4.imp fun b rows t=>?_⟩
 obtain⟨s,as,h5,h6⟩:=t
 exact⟨trivial,as,h5,h6.imp fun a es t=>⟨trivial,t.2.2.2⟩⟩
end
theorem ixN_in {n j:Nat}(h:j<n):ixN n (j:Int)=some j:=by
 unfold ixN
 rw[if_pos (by omega),if_pos (by omega),Int.toNat_natCast]
theorem cut_refsT {as:List Addr}{k:Nat}:cutV (as.map V.ref) none (some (k:Int)) =(as.take k).map V.ref:=by
 unfold cutV
 rw[HT.sIx_nat,HT.sIx_none,List.drop_zero,Nat.sub_zero,List.map_take,List.length_map]
 by_cases h:k≤as.length
 ·rw[Nat.min_eq_left h]
 ·rw[Nat.min_eq_right (by omega),List.take_of_length_le (by rw[List.length_map];omega),List.take_of_length_le (by rw[List.length_map];omega)]
theorem set_id {α:Type}{xs:List α}{i:Nat}{x:α}(h:xs[i]? = some x):xs.set i x=xs:=by
 refine List.ext_getElem? fun j=>?_
 rw[List.getElem?_set]
 by_cases z:i=j
 ·subst z
  rw[if_pos rfl,if_pos (List.getElem?_eq_some_iff.mp h).1,h]
 ·rw[if_neg z]
theorem snoc_ex {α:Type}{xs:List α}(h:xs ≠ []):∃ys y,xs=ys ++ [y]:=⟨xs.dropLast,xs.getLast h,(List.dropLast_concat_getLast h).symm⟩
theorem tru_refs {as:List Addr}:decide (as ≠ []) = !(as.map V.ref).isEmpty:=by cases as <;> rfl
def sp_cut_room (K:PySem.W.Frag):Sp:=fun vs H Q _=>∃(S:Addr→Prop) (h:Addr) (bs:List Addr) (X:List (List (List V))) (r m:Nat),vs=[.ref h,.int r,.int m]∧T3 S H h bs X∧Fr S H ∧
 ∀bs' H',T3 S H' h bs' (X.modify r (List.take m))→Kq S H H'→Q .non H'
def sp_leave_last_rooms (K:PySem.W.Frag):Sp:=fun vs H Q _=>∃(S:Addr→Prop) (h:Addr) (bs:List Addr) (X:List (List (List V))),vs=[.ref h]∧T3 S H h bs X ∧
 ∀bs' H',T3 S H' h bs' (trim X)→Kq S H H'→Q .non H'
def sp_lay_row (K:PySem.W.Frag):Sp:=fun vs H Q _=>∃(S:Addr→Prop) (h:Addr) (bs:List Addr) (X:List (List (List V))) (r a:Nat) (l:Addr) (es:List V),vs=[.ref h,.int r,.int a,.ref l]∧T3 S H h bs X∧Fr S H∧SzX X∧r≤129∧a≤129∧¬ S l∧H l=some (.lst es)∧es.length≤9 ∧
 ∀bs' H',T3 S H' h bs' (rowX X r a es)→Kq S H H'→Q .non H'
def sp_done_all (K:PySem.W.Frag):Sp:=fun vs H Q _=>∃(y ss:Addr) (w R:Int) (X:List (List (List V))) (sa:List Addr) (sts:List St3),vs=[.ref y,.ref ss]∧Yd H y w R X∧H ss=some (.lst (sa.map V.ref))∧P1 (StA H) sa sts ∧
 ∀y' h' bs' H',H' y'=some (.tup [.int w,.int (sts.foldl doR R),.ref h'])→T3 (fun b=>H b=none) H' h' bs' (sts.foldl doX X)→Same H H'→Q (.ref y') H'
def sp_done (K:PySem.W.Frag):Sp:=fun vs H Q _=>∃(y s:Addr) (w R:Int) (X:List (List (List V))) (st:St3),vs=[.ref y,.ref s]∧Yd H y w R X∧StA H s st ∧
 ∀y' h' bs' H',H' y'=some (.tup [.int w,.int (doR R st),.ref h'])→T3 (fun b=>H b=none) H' h' bs' (doX X st)→Same H H'→Q (.ref y') H'
theorem str_app (a b:Str):(a++b).cps=a.cps++b.cps:=rfl
theorem str_applen (a b:Str):(a++b).length=a.length+b.length:=by
 show(a.cps++b.cps).size=_
 rw[Array.size_append];rfl
theorem app_low {a b:Str}(h1:∀c∈a.cps,c<128) (h2:∀c∈b.cps,c<128):∀c∈(a++b).cps,c<128:=by
 intro c hc
 rw[str_app]at hc
 rcases Array.mem_append.mp hc with z|z
 ·exact h1 c z
 ·exact h2 c z
theorem join_low:∀ys:List Str,(∀y∈ys,y.length=1∧∀c∈y.cps,c<128)→(Str.join ⟨#[]⟩ ys).length=ys.length∧∀c∈(Str.join ⟨#[]⟩ ys).cps,c<128
 | [],_=>⟨rfl,fun c hc=>absurd hc (by simp[Str.join,Str.empty])⟩
 | y::r,h=>by
  obtain⟨h1,h2⟩:=join_low r fun z hz=>h z (List.mem_cons_of_mem _ hz)
  obtain⟨g1,g2⟩:=h y List.mem_cons_self
  rw[PyProof.Rows.join_nil_cons]
  refine⟨by rw[str_applen,h1,g1,List.length_cons];omega,app_low g2 h2⟩
theorem joinT (ys:List Str):Txt.join (Str.ofString "") ys=Str.join ⟨#[]⟩ ys:=by
 have e:Str.ofString "" =⟨#[]⟩:=by decide
 rw[e]
 exact StrLaws.glued_eq_join _ _
theorem sum_ones:∀ys:List Str,(∀y∈ys,y.length=1∧∀c∈y.cps,c<128)→(ys.map (·.length)).sum=ys.length
 | [],_=>rfl
 | y::r,h=>by
  rw[List.map_cons,List.sum_cons,sum_ones r fun z hz=>h z (List.mem_cons_of_mem _ hz),(h y List.mem_cons_self).1,List.length_cons];omega
theorem strOk_low {z:Str}(h:∀c∈z.cps,c<128):PyData.strOk z=true:=by
 unfold PyData.strOk
 rw[Array.all_eq_true_iff_forall_mem]
 intro c hc
 have:=h c hc
 simp;omega
def sp__law_thing (K:PySem.W.Frag):Sp:=fun vs H Q _=>∃(p:Addr) (N:Nat),vs=[.ref p]∧Hand H p N∧N+30<2^60 ∧
 ∀(z:Str) (H':Hp),PyData.strOk z=true→z.length≤100→Hand H' p (N+20)→Kp H H' p→Q (.str z) H'
def sp__law_whole (K:PySem.W.Frag):Sp:=fun vs H Q _=>∃(n:Int),vs=[.int n]∧Q (.bl true) H
def sp__law_copy (K:PySem.W.Frag):Sp:=fun vs H Q _=>∃(y:Addr) (w R:Int) (X:List (List (List V))),vs=[.ref y]∧Yd H y w R X ∧
 ∀y' h' bs' H',H y'=none→H' y'=some (.tup [.int w,.int R,.ref h'])→T3 (fun b=>H b=none) H' h' bs' X→Same H H'→Q (.ref y') H'
theorem kt_of {H H':Hp}{p:Addr}{N:Nat}(hh:Hand H p N) (k:Kp H H' p):∀t xs,H t=some (.tup xs)→H' t=some (.tup xs):=fun t xs e=>by
 obtain⟨l1,d,c,ns,h1,_⟩:=hh.ex
 exact k.1 _ _ e (ne_of e h1 (by intro z;cases z))
theorem let26 {r:Int}(h0:0≤r) (h1:r<26):∃c,atI (Str.ofString "abcdefghijklmnopqrstuvwxyz").cps.toList r=some c∧c<128:=by
 obtain⟨n,rfl⟩ : ∃n:Nat,r =(n:Int):=⟨r.toNat,by omega⟩
 have hl:(Str.ofString "abcdefghijklmnopqrstuvwxyz").cps.toList.length=26:=by decide +kernel
 have ha:∀c∈(Str.ofString "abcdefghijklmnopqrstuvwxyz").cps.toList,c<128:=by decide +kernel
 have hi:=List.getElem?_eq_getElem (l:=(Str.ofString "abcdefghijklmnopqrstuvwxyz").cps.toList) (i:=n) (by omega)
 exact⟨_,atI_nat hi,ha _ (List.mem_of_getElem? hi)⟩
theorem eqv_nil {α:Type}{f:α→PyData}{xs:List α}:PyData.eqv (.list (xs.map f)) (.list [])=decide (xs=[]):=by
 rw[PyData.eqv]
 cases xs with
 | nil=>rfl
 | cons x xs=>rw[List.map_cons,PyData.eqvAll];simp
theorem cut_refsD {as:List Addr}{k:Nat}:cutV (as.map V.ref) (some (k:Int)) none =(as.drop k).map V.ref:=by
 unfold cutV
 rw[HT.sIx_nat,HT.sIx_none,List.length_map,← List.map_drop]
 by_cases h:k≤as.length
 ·rw[Nat.min_eq_left h,List.take_of_length_le (by rw[List.length_map,List.length_drop];omega)]
 ·rw[List.drop_eq_nil_of_le (by omega:as.length≤min k as.length),List.drop_eq_nil_of_le (by omega:as.length≤k)]
  simp
section
variable {S:Addr→Prop}{H H0 H1:Hp}{h a0 b:Addr}{bs as:List Addr}{X:List (List (List V))}{i n m:Nat}{es0:List V}{v:V}{o:HO}
end
def eD (H:Hp) (v:V):Int×Str:=match v with
 | .ref t=>(match H t with
  | some (.tup [.int k,.str z])=>(k,z)
  | _=>(0,⟨#[]⟩))
 | _=>(0,⟨#[]⟩)
theorem eD_at {H:Hp}{t:Addr}{k:Int}{z:Str}(h:H t=some (.tup [.int k,.str z])):eD H (.ref t) =(k,z):=by
 show(match H t with|some (.tup [.int k,.str z])=>(k,z)|_=>(0,⟨#[]⟩))=_
 rw[h]
theorem En.pt {H:Hp}{v:V}(h:En H v):∃t,v = .ref t∧H t=some (.tup [.int (eD H v).1,.str (eD H v).2])∧PyData.strOk (eD H v).2=true∧0 ≤(eD H v).1∧(eD H v).1<1152921504606846976∧(eD H v).2.length≤100:=by
 obtain⟨t,k,z,rfl,h1,h2⟩:=h
 rw[eD_at h1]
 exact⟨t,rfl,h1,h2⟩
theorem En.eD {H H':Hp}{v:V}(kt:∀t xs,H t=some (.tup xs)→H' t=some (.tup xs)) (h:En H v):eD H' v=eD H v:=by
 obtain⟨t,k,z,rfl,h1,h2⟩:=h
 rw[eD_at h1,eD_at (kt _ _ h1)]
def rowD (H:Hp) (es:List V):List (Int×Str):=es.map (eD H)
def rowsDD (H:Hp) (rows:List (List V)):List (List (Int×Str)):=rows.map (rowD H)
theorem rowD_keep {H H':Hp}{es:List V}(kt:∀t xs,H t=some (.tup xs)→H' t=some (.tup xs)) (h:∀v∈es,En H v):rowD H' es=rowD H es:=List.map_congr_left fun v hv=>(h v hv).eD kt
theorem rowsDD_keep {H H':Hp}{rows:List (List V)}(kt:∀t xs,H t=some (.tup xs)→H' t=some (.tup xs)) (h:∀es∈rows,∀v∈es,En H v):rowsDD H' rows=rowsDD H rows:=List.map_congr_left fun es he=>rowD_keep kt (h es he)
def ownR (X:List (List (List V))) (k R:Int):List (List V):=(X[(roomV k R).toNat]?).getD []
def sp__law_room (K:PySem.W.Frag):Sp:=fun vs H Q _=>∃(k R:Int),vs=[.int k,.int R]∧0≤k∧k<2^61∧1≤R∧R≤2^60∧Q (.int (roomV k R)) H
def sp_rows_at (K:PySem.W.Frag):Sp:=fun vs H Q _=>∃(h:Addr) (bs:List Addr) (r:Nat),vs=[.ref h,.int r]∧H h=some (.lst (bs.map V.ref))∧∀o H1,Same H H1→(bs[r]? = some o ∨(bs.length≤r∧H1 o=some (.lst [])))→Q (.ref o) H1
theorem CK.mono {H0 H':Hp}{p D:Addr}{N M:Nat}{ys:List V}(c:CK H0 p D N ys H') (h:N≤M):CK H0 p D M ys H':=⟨c.hh.mono h,c.lat,c.kp,c.n0,c.np,c.nc⟩
def sp__law_places (K:PySem.W.Frag):Sp:=fun vs H Q _=>∃(a:Addr) (ns:List Int) (l m:Int),vs=[.ref a,.int l,.int m]∧SqL K H a (ns.map V.int)∧ns.length≤63∧0≤l∧l≤100∧0≤m∧m≤100 ∧
 ∀(n:Nat) (l':Addr) (H':Hp),n≤100→H l'=none→H' l'=some (.lst ((upN n).map V.int))→Same H H'→Q (.ref l') H'
def kE (H:Hp) (t:Addr):Int:=(eD H (.ref t)).1
theorem rowD_refs {H:Hp}{ts:List Addr}:(rowD H (ts.map V.ref)).map (·.1)=ts.map (kE H):=by
 unfold rowD kE
 rw[List.map_map,List.map_map];rfl
theorem inj_of {α:Type}{f:Addr→α}{ts:List Addr}(n:(ts.map f).Nodup):∀t∈ts,∀u∈ts,f t=f u→t=u:=fun t ht u hu e=>by
 obtain⟨i,hi⟩:=List.getElem?_of_mem ht
 obtain⟨j,hj⟩:=List.getElem?_of_mem hu
 have e1:(ts.map f)[i]? =(ts.map f)[j]?:=by rw[List.getElem?_map,List.getElem?_map,hi,hj];exact congrArg some e
 have il:i <(ts.map f).length:=by rw[List.length_map];exact(List.getElem?_eq_some_iff.mp hi).1
 have ij:=(List.getElem?_inj il n).mp e1
 subst ij
 rw[hi]at hj
 exact Option.some.inj hj
theorem upd_kp {H0 H:Hp}{p b:Addr}{N:Nat}{o:HO}(hh0:Hand H0 p N) (k:Kp H0 H p) (nb:H0 b=none):Kp H0 (upd H b o) p∧(∀{M:Nat},Hand H p M→Hand (upd H b o) p M):=by
 obtain⟨l,d,c,ns,h1,h2,_⟩:=hh0.ex
 have bp:b≠p:=fun z=>by rw[z,h1]at nb;cases nb
 refine⟨⟨fun x u e n=>by rw[upd_ne (ne_of_none e nb)];exact k.1 _ _ e n,by rw[cells_upd bp];exact k.2⟩,fun hh=>hh.upd bp ?_⟩
 rw[k.2,cells_of h1]
 intro z
 have:l=b:=Option.some.inj z
 rw[this,nb]at h2;cases h2
theorem roomV_pow {k:Int}{j:Nat}:k%2^(j+1)=k%2^j+2^j*(k / 2^j%2):=by
 have pp:=pow2_pos j
 rw[Int.pow_succ]
 generalize (2:Int)^j=p at *
 have e:k / (p*2)=k / p / 2:=(Int.ediv_ediv_of_nonneg (show 0≤p by omega)).symm
 rw[Int.emod_def k (p*2),Int.emod_def k p,Int.emod_def (k / p) 2,e,Int.mul_sub]
 have a:p*2*(k / p / 2)=p*(2*(k / p / 2)):=Int.mul_assoc _ _ _
 omega
theorem low_of {k:Int}{i j:Nat}(h0:0≤k) (h:k / 2^j≤0) (hij:j≤i):k%2^i=k:=by
 have p:=pow2_pos j
 have m:=pow2_le hij
 have:k<2^j:=by
  by_cases c:k<2^j
  ·exact c
  ·have:=Int.le_ediv_of_mul_le p (show 1*2^j≤k by omega)
   omega
 exact Int.emod_eq_of_lt h0 (by omega)
theorem refs_of {H:Hp}:∀{es:List V},(∀v∈es,En H v)→∃ts:List Addr,es=ts.map V.ref
 | [],_=>⟨[],rfl⟩
 | v::es,h=>by
  obtain⟨t,_,_,rfl,_⟩:=h v List.mem_cons_self
  obtain⟨ts,rfl⟩:=refs_of fun v hv=>h v (List.mem_cons_of_mem _ hv)
  exact⟨t::ts,rfl⟩
section
def rowsG {α:Type}(s:List α) (w:Nat):List (List α):=(List.range (rfor s.length w).toNat).map fun i=>(s.drop (i*w)).take w
theorem rowsG_len {α:Type}(s:List α) (w:Nat):(rowsG s w).length =(rfor s.length w).toNat:=by unfold rowsG;rw[List.length_map,List.length_range]
theorem rowsG_map {α β:Type}(f:α→β) (s:List α) (w:Nat):(rowsG s w).map (List.map f)=rowsG (s.map f) w:=by
 unfold rowsG
 rw[List.map_map,List.length_map]
 apply List.map_congr_left
 intro i _
 show List.map f ((s.drop (i*w)).take w)=_
 rw[List.map_take,List.map_drop]
theorem rows_take {α:Type}(s:List α) (w:Nat):∀n:Nat,((List.range n).map fun i=>(s.drop (i*w)).take w).flatten=s.take (n*w)
 | 0=>by simp
 | n+1=>by
  rw[List.range_succ,List.map_append,List.flatten_append,rows_take s w n,Nat.succ_mul,List.take_add]
  simp
theorem rowsG_flat {α:Type}(s:List α) {w:Nat}(h:1≤w):(rowsG s w).flatten=s:=by
 unfold rowsG
 rw[rows_take]
 obtain⟨g1,g2,_⟩:=up_div (g:=rfor s.length w) (w:=w) (m:=s.length) (by omega) (by omega) rfl
 apply List.take_of_length_le
 have e:(((rfor s.length w).toNat*w:Nat):Int)=w*rfor s.length w:=by
  rw[Int.natCast_mul,Int.mul_comm]
  congr 1
  omega
 omega
theorem rfor_is {m w:Nat}{i:Nat}(h1:1≤w) (h2:m ≤(i+1)*w) (h3:i=0∨i*w<m):(rfor m w).toNat=i+1:=by
 obtain⟨g1,g2,g3⟩:=up_div (g:=rfor m w) (w:=w) (m:=m) (by omega) (by omega) rfl
 obtain⟨g,hg⟩ : ∃g:Nat,rfor m w =(g:Int):=⟨(rfor m w).toNat,by omega⟩
 rw[hg]at g1 g2 g3 ⊢
 rw[Int.toNat_natCast]
 have g2':m≤w*g:=by exact_mod_cast g2
 by_cases c:i+1<g
 ·exfalso
  have:(i+1)*w≤w*(g-1):=by rw[Nat.mul_comm w];exact Nat.mul_le_mul_right _ (by omega)
  rcases g3 with g3|g3
  ·omega
  ·have e:(w:Int)*((g:Int)-1) =((w*(g-1):Nat):Int):=by
    rw[Int.natCast_mul];congr 1;omega
   omega
 ·by_cases d:g<i+1
  ·exfalso
   have:w*g≤i*w:=by rw[Nat.mul_comm i];exact Nat.mul_le_mul_left _ (by omega)
   omega
  ·omega
variable {τ:Type}
def IsCl (w R:Nat) (es:List (Int×τ)) (P:List (List (List (Int×τ)))):Prop :=
 P.length=R∧∀(r:Nat) (rows:List (List (Int×τ))),P[r]? = some rows→∃s,s.Perm (es.filter fun e=>decide (roomV e.1 R =(r:Int)))∧s.Pairwise (fun a b=>a.1≤b.1)∧rows=rowsG s w
def flatP (P:List (List (List (Int×τ)))):List (Int×τ):=(P.map List.flatten).flatten
theorem key_inj {s:List (Int×τ)}(h:(s.map (·.1)).Nodup) {a b:Int×τ}(ha:a∈s) (hb:b∈s) (e:a.1=b.1):a=b:=by
 induction s with
 | nil=>cases ha
 | cons x s ih =>
  rw[List.map_cons,List.nodup_cons]at h
  rcases List.mem_cons.mp ha with h1|h1
  ·rcases List.mem_cons.mp hb with h2|h2
   ·rw[h1,h2]
   ·exact absurd (List.mem_map.mpr ⟨b,h2,by rw[← e,h1]⟩) h.1
  ·rcases List.mem_cons.mp hb with h2|h2
   ·exact absurd (List.mem_map.mpr ⟨a,h1,by rw[e,h2]⟩) h.1
   ·exact ih h.2 h1 h2
theorem srt_uniq {s s' l:List (Int×τ)}(hl:(l.map (·.1)).Nodup) (p:s.Perm l) (p':s'.Perm l) (h:s.Pairwise (fun a b=>a.1≤b.1)) (h':s'.Pairwise (fun a b=>a.1≤b.1)):s=s' :=
 List.Perm.eq_of_pairwise (le:=fun a b:Int×τ=>a.1≤b.1) (fun a b ha hb x y=>key_inj hl (p.mem_iff.mp ha) (p'.mem_iff.mp hb) (by omega)) h h' (p.trans p'.symm)
theorem keys_filter {es:List (Int×τ)}(hn:(es.map (·.1)).Nodup) (f:Int×τ→Bool):((es.filter f).map (·.1)).Nodup:=hn.sublist (List.filter_sublist.map _)
theorem IsCl.uniq {w R:Nat}{es:List (Int×τ)}{P P':List (List (List (Int×τ)))}(hn:(es.map (·.1)).Nodup) (h:IsCl w R es P) (h':IsCl w R es P'):P=P':=by
 refine List.ext_getElem? fun r=>?_
 by_cases c:r<R
 ·have e1:P[r]? = some (P[r]'(by rw[h.1];exact c)):=List.getElem?_eq_getElem _
  have e2:P'[r]? = some (P'[r]'(by rw[h'.1];exact c)):=List.getElem?_eq_getElem _
  obtain⟨s,p,q,e⟩:=h.2 r _ e1
  obtain⟨s',p',q',e'⟩:=h'.2 r _ e2
  rw[e1,e2,e,e',srt_uniq (keys_filter hn _) p p' q q']
 ·rw[List.getElem?_eq_none (by rw[h.1];omega),List.getElem?_eq_none (by rw[h'.1];omega)]
theorem IsCl.perm {w R:Nat}{es es':List (Int×τ)}{P:List (List (List (Int×τ)))}(p:es.Perm es') (h:IsCl w R es P):IsCl w R es' P:=by
 refine⟨h.1,fun r rows e=>?_⟩
 obtain⟨s,p1,p2,p3⟩:=h.2 r rows e
 exact⟨s,p1.trans (p.filter _),p2,p3⟩
theorem IsCl.room {w R:Nat}{es:List (Int×τ)}{P:List (List (List (Int×τ)))}(h:IsCl w R es P) (hw:1≤w) {r:Nat}{rows:List (List (Int×τ))}(e:P[r]? = some rows) (x:Int×τ):x∈rows.flatten↔x∈es∧roomV x.1 R =(r:Int):=by
 obtain⟨s,p1,p2,p3⟩:=h.2 r rows e
 rw[p3,rowsG_flat _ hw,p1.mem_iff,List.mem_filter]
 simp
theorem IsCl.mem {w R:Nat}{es:List (Int×τ)}{P:List (List (List (Int×τ)))}(h:IsCl w R es P) (hw:1≤w) (hR:1≤R) (x:Int×τ):x∈flatP P↔x∈es:=by
 unfold flatP
 rw[List.mem_flatten]
 constructor
 ·rintro⟨l,hl,hx⟩
  obtain⟨rows,hr,rfl⟩:=List.mem_map.mp hl
  obtain⟨r,e⟩:=List.getElem?_of_mem hr
  exact((h.room hw e x).mp hx).1
 ·intro hx
  have b:=roomV_lt (k:=x.1) (R:=R) (by omega)
  obtain⟨r,hr,hl⟩ : ∃r:Nat,roomV x.1 R =(r:Int)∧r<R:=⟨(roomV x.1 R).toNat,by omega,by omega⟩
  have e1:P[r]? = some (P[r]'(by rw[h.1];exact hl)):=List.getElem?_eq_getElem _
  exact⟨_,List.mem_map.mpr ⟨_,List.mem_of_getElem? e1,rfl⟩,(h.room hw e1 x).mpr ⟨hx,hr⟩⟩
theorem pw_ix {α:Type}{L:List α}{Q:α→α→Prop}(h:∀(i j:Nat) (a b:α),i<j→L[i]? = some a→L[j]? = some b→Q a b):L.Pairwise Q:=by
 rw[List.pairwise_iff_getElem]
 intro i j hi hj hij
 exact h i j _ _ hij (List.getElem?_eq_getElem hi) (List.getElem?_eq_getElem hj)
theorem IsCl.nodup {w R:Nat}{es:List (Int×τ)}{P:List (List (List (Int×τ)))}(hn:(es.map (·.1)).Nodup) (h:IsCl w R es P) (hw:1≤w):((flatP P).map (·.1)).Nodup:=by
 unfold flatP
 rw[List.nodup_iff_pairwise_ne,List.pairwise_map,List.pairwise_flatten]
 refine⟨fun l hl=>?_,?_⟩
 ·obtain⟨rows,hr,rfl⟩:=List.mem_map.mp hl
  obtain⟨r,e⟩:=List.getElem?_of_mem hr
  obtain⟨s,p1,p2,p3⟩:=h.2 r rows e
  rw[p3,rowsG_flat _ hw,← List.pairwise_map (f:=fun x:Int×τ=>x.1) (R:=fun a b=>a≠b),← List.nodup_iff_pairwise_ne]
  exact(p1.map _).nodup_iff.mpr (keys_filter hn _)
 ·rw[List.pairwise_map]
  refine pw_ix fun i j a b hij ha hb x hx y hy z=>?_
  have h1:=((h.room hw ha x).mp hx).2
  have h2:=((h.room hw hb y).mp hy).2
  rw[z]at h1
  omega
theorem nd_of_keys {es:List (Int×τ)}(hn:(es.map (·.1)).Nodup):es.Nodup:=by
 rw[List.nodup_iff_pairwise_ne]at hn ⊢
 rw[List.pairwise_map]at hn
 exact hn.imp fun h e=>h (by rw[e])
theorem IsCl.flat {w R:Nat}{es:List (Int×τ)}{P:List (List (List (Int×τ)))}(hn:(es.map (·.1)).Nodup) (h:IsCl w R es P) (hw:1≤w) (hR:1≤R):(flatP P).Perm es :=
 (List.perm_ext_iff_of_nodup (nd_of_keys (h.nodup hn hw)) (nd_of_keys hn)).mpr (h.mem hw hR)
end
theorem rowsG_mem {α:Type}{s:List α}{w:Nat}{r:List α}{x:α}(hr:r∈rowsG s w) (hx:x∈r):x∈s:=by
 unfold rowsG at hr
 obtain⟨i,_,rfl⟩:=List.mem_map.mp hr
 exact List.mem_of_mem_drop (List.mem_of_mem_take hx)
def yD (H:Hp) (X:List (List (List V))):List (List (List (Int×Str))):=X.map (rowsDD H)
theorem yD_keep {H H':Hp}{X:List (List (List V))}(kt:∀t xs,H t=some (.tup xs)→H' t=some (.tup xs)) (h:EnX H X):yD H' X=yD H X:=List.map_congr_left fun rows hr=>rowsDD_keep kt (h rows hr)
theorem yD_same {H H':Hp}{X:List (List (List V))}(s:Same H H') (h:EnX H X):yD H' X=yD H X:=yD_keep (fun _ _ e=>s _ _ e) h
theorem flat_yD {H:Hp}{X:List (List (List V))}:flatP (yD H X) =(allV X).map (eD H):=by
 unfold flatP yD allV
 rw[List.map_flatten,List.map_map,List.map_map]
 congr 1
 apply List.map_congr_left
 intro rows _
 show(rowsDD H rows).flatten=List.map (eD H) rows.flatten
 rw[List.map_flatten];rfl
def pE (e:Int×Str):PyData:=.tuple [.int e.1,.str e.2]
def pRow (r:List (Int×Str)):PyData:=.list (r.map pE)
def pRows (r:List (List (Int×Str))):PyData:=.list (r.map pRow)
def pX (P:List (List (List (Int×Str)))):PyData:=.list (P.map pRows)
def pY (w R:Int) (P:List (List (List (Int×Str)))):PyData:=.tuple [.int w,.int R,pX P]
theorem eqv_pE (a b:Int×Str):PyData.eqv (pE a) (pE b)=decide (a=b):=by
 obtain⟨k,z⟩:=a
 obtain⟨k',z'⟩:=b
 rw[Bool.eq_iff_iff]
 simp[pE,PyData.eqv,PyData.eqvAll]
theorem eqvAll_map {α:Type} [DecidableEq α] {f:α→PyData}(hf:∀a b,PyData.eqv (f a) (f b)=decide (a=b)):∀xs ys:List α,PyData.eqvAll (xs.map f) (ys.map f)=decide (xs=ys)
 | [],[]=>by simp[PyData.eqvAll]
 | [],_::_=>by simp[PyData.eqvAll]
 | _::_,[]=>by simp[PyData.eqvAll]
 | x::xs,y::ys=>by
  rw[List.map_cons,List.map_cons,PyData.eqvAll,hf,eqvAll_map hf xs ys,Bool.eq_iff_iff]
  simp
theorem eqv_pRow (a b:List (Int×Str)):PyData.eqv (pRow a) (pRow b)=decide (a=b):=by
 unfold pRow;rw[PyData.eqv,eqvAll_map eqv_pE]
theorem dE_pE {H:Hp}{v:V}(h:En H v):dE H v=pE (eD H v):=by
 obtain⟨t,k,z,rfl,h1,h2⟩:=h
 rw[eD_at h1]
 show(match H t with|some (.tup [.int k,.str z])=>PyData.tuple [.int k,.str z] | _=>.none)=_
 rw[h1];rfl
theorem dRow_pRow {H:Hp}{es:List V}(h:∀v∈es,En H v):dRow H es=pRow (rowD H es):=by
 unfold dRow pRow rowD
 rw[List.map_map]
 congr 1
 exact List.map_congr_left fun v hv=>dE_pE (h v hv)
theorem dRows_pRows {H:Hp}{rows:List (List V)}(h:∀es∈rows,∀v∈es,En H v):dRows H rows=pRows (rowsDD H rows):=by
 unfold dRows pRows rowsDD
 rw[List.map_map]
 congr 1
 exact List.map_congr_left fun v hv=>dRow_pRow (h v hv)
theorem dX_pX {H:Hp}{X:List (List (List V))}(h:EnX H X):dX H X=pX (yD H X):=by
 unfold dX pX yD
 rw[List.map_map]
 congr 1
 exact List.map_congr_left fun v hv=>dRows_pRows (h v hv)
def EL (H:Hp) (ts:List Addr) (es:List (Int×Str)):Prop:=P1 (fun t e=>H t=some (.tup [.int e.1,.str e.2])∧PyData.strOk e.2=true∧0≤e.1∧e.1<1152921504606846976∧e.2.length≤100) ts es
theorem EL.same {H H':Hp}{ts:List Addr}{es:List (Int×Str)}(s:Same H H') (h:EL H ts es):EL H' ts es:=h.imp fun t e z=>⟨s _ _ z.1,z.2⟩
theorem EL.en {H:Hp}{ts:List Addr}{es:List (Int×Str)}(h:EL H ts es):∀v∈ts.map V.ref,En H v:=fun v hv=>by
 obtain⟨t,ht,rfl⟩:=List.mem_map.mp hv
 obtain⟨i,hi⟩:=List.getElem?_of_mem ht
 obtain⟨e,_,h1,h2⟩:=h.get hi
 exact⟨t,e.1,e.2,rfl,h1,h2⟩
theorem EL.row {H:Hp}{ts:List Addr}{es:List (Int×Str)}(h:EL H ts es):rowD H (ts.map V.ref)=es:=by
 refine List.ext_getElem? fun i=>?_
 unfold rowD
 rw[List.getElem?_map,List.getElem?_map]
 cases c:ts[i]? with
 | none =>
  have:=List.getElem?_eq_none_iff.mp c
  rw[List.getElem?_eq_none (by rw[← h.1];exact this)];rfl
 | some t =>
  obtain⟨e,he,h1,_⟩:=h.get c
  rw[he]
  show some (eD H (.ref t))=some e
  rw[eD_at h1]
theorem EL.of {H:Hp}{vs:List V}(h:∀v∈vs,En H v):∃ts:List Addr,vs=ts.map V.ref∧EL H ts (rowD H vs):=by
 obtain⟨ts,rfl⟩:=refs_of h
 refine⟨ts,rfl,by unfold rowD;rw[List.length_map,List.length_map],fun i t e e1 e2=>?_⟩
 unfold rowD at e2
 rw[List.getElem?_map,List.getElem?_map,e1]at e2
 have e3:eD H (.ref t)=e:=Option.some.inj e2
 obtain⟨t',et,h1,h2⟩:=(h (.ref t) (List.mem_map.mpr ⟨t,List.mem_of_getElem? e1,rfl⟩)).pt
 cases et
 rw[← e3]
 exact⟨h1,h2⟩
theorem choose_ix {α β:Type}:∀{as:List α}{p:Nat→α→β→Prop},(∀i a,as[i]? = some a→∃x,p i a x)→∃xs:List β,xs.length=as.length∧∀i a x,as[i]? = some a→xs[i]? = some x→p i a x
 | [],p,_=>⟨[],rfl,fun i a x e=>by simp at e⟩
 | a::as,p,h=>by
  obtain⟨x,hx⟩:=h 0 a rfl
  obtain⟨xs,hl,hxs⟩:=choose_ix (as:=as) (p:=fun i=>p (i+1)) fun i b e=>h (i+1) b (by simpa using e)
  refine⟨x::xs,by rw[List.length_cons,List.length_cons,hl],fun i b y e1 e2=>?_⟩
  cases i with
  | zero=>cases e1;cases e2;exact hx
  | succ i=>exact hxs i b y (by simpa using e1) (by simpa using e2)
def unS:V→Str
 | .str z=>z
 | _=>⟨#[]⟩
def vE (e:Int×Str):Int×V:=(e.1,.str e.2)
def uE (e:Int×V):Int×Str:=(e.1,unS e.2)
def mES (es:List (Int×Str)):List (Int×Str):=(mergeI [] (es.map vE)).map uE
theorem putI_all {p:V→Prop}{qs:List (Int×V)}{k:Int}{v:V}(h:∀e∈qs,p e.2) (hv:p v):∀e∈putI qs k v,p e.2:=fun e he=>by
 unfold putI at he
 split at he
 ·obtain⟨x,hx,rfl⟩:=List.mem_map.mp he
  split
  ·exact hv
  ·exact h x hx
 ·rcases List.mem_append.mp he with z|z
  ·exact h e z
  ·rw[List.mem_singleton.mp z];exact hv
theorem mergeI_all {p:V→Prop}:∀{ps qs:List (Int×V)},(∀e∈qs,p e.2)→(∀e∈ps,p e.2)→∀e∈mergeI qs ps,p e.2
 | [],qs,h,_=>h
 | x::ps,qs,h,g=>by
  show ∀e∈mergeI (putI qs x.1 x.2) ps,p e.2
  exact mergeI_all (putI_all h (g x List.mem_cons_self)) fun e he=>g e (List.mem_cons_of_mem _ he)
theorem putI_len {qs:List (Int×V)}{k:Int}{v:V}:(putI qs k v).length≤qs.length+1:=by
 unfold putI
 split
 ·rw[List.length_map];omega
 ·rw[List.length_append];exact Nat.le_refl _
theorem mergeI_len:∀{ps qs:List (Int×V)},(mergeI qs ps).length≤qs.length+ps.length
 | [],qs=>Nat.le_refl _
 | x::ps,qs=>by
  show(mergeI (putI qs x.1 x.2) ps).length≤_
  have h1:=mergeI_len (ps:=ps) (qs:=putI qs x.1 x.2)
  have h2:=putI_len (qs:=qs) (k:=x.1) (v:=x.2)
  rw[List.length_cons];omega
theorem mES_keys {es:List (Int×Str)}:(mES es).map (·.1) =(mergeI [] (es.map vE)).map (·.1):=by
 unfold mES;rw[List.map_map];rfl
theorem mES_id {es:List (Int×Str)}(h:(es.map (·.1)).Nodup):mES es=es:=by
 unfold mES
 rw[mergeI_id (by rw[List.nil_append,List.map_map];exact h),List.nil_append,List.map_map]
 have:(uE ∘ vE)=id:=rfl
 rw[this,List.map_id]
theorem mES_len {es:List (Int×Str)}:(mES es).length≤es.length:=by
 unfold mES
 rw[List.length_map]
 have:=mergeI_len (ps:=es.map vE) (qs:=[])
 rw[List.length_map]at this
 simpa using this
theorem valI_at:∀{qs:List (Int×V)}{e:Int×V},(qs.map (·.1)).Nodup→e∈qs→valI qs e.1=e.2
 | [],e,_,h=>by cases h
 | x::qs,e,hn,h=>by
  rw[List.map_cons,List.nodup_cons]at hn
  unfold valI
  by_cases c:x.1=e.1
  ·rw[List.find?_cons_of_pos (by simpa using c)]
   rcases List.mem_cons.mp h with z|z
   ·rw[z];rfl
   ·exact absurd (List.mem_map.mpr ⟨e,z,c.symm⟩) hn.1
  ·rw[List.find?_cons_of_neg (by simpa using c)]
   rcases List.mem_cons.mp h with z|z
   ·exact absurd (by rw[z]) c
   ·exact valI_at hn.2 z
def rowOf (H:Hp) (a:Addr):List V:=match H a with
 | some (.lst es)=>es
 | _=>[]
theorem rowOf_at {H:Hp}{a:Addr}{es:List V}(h:H a=some (.lst es)):rowOf H a=es:=by unfold rowOf;rw[h]
def XA (H:Hp) (ass:List (List Addr)):List (List (List V)):=ass.map fun as=>as.map (rowOf H)
structure Sy (S:Addr→Prop) (H:Hp) (h:Addr) (bs:List Addr) (ass:List (List Addr)):Prop where
 hh:H h=some (.lst (bs.map V.ref))
 hb:P1 (fun b (as:List Addr)=>H b=some (.lst (as.map V.ref))) bs ass
 ha:∀a∈ass.flatten,∃es,H a=some (.lst es)
 nd:(h::(bs++ass.flatten)).Nodup
 ns:∀b∈h::(bs++ass.flatten),S b
theorem Sy.r3 {S:Addr→Prop}{H:Hp}{h:Addr}{bs:List Addr}{ass:List (List Addr)}(y:Sy S H h bs ass):R3 (fun _=>True) H h (XA H ass):=by
 refine⟨bs,y.hh,by unfold XA;rw[List.length_map];exact y.hb.1,fun i b rows e1 e2=>?_⟩
 unfold XA at e2
 rw[List.getElem?_map]at e2
 obtain⟨as,ha,hb⟩:=y.hb.get e1
 rw[ha]at e2
 have e3:as.map (rowOf H)=rows:=Option.some.inj e2
 refine⟨trivial,as,hb,by rw[← e3,List.length_map],fun j a es f1 f2=>⟨trivial,?_⟩⟩
 rw[← e3,List.getElem?_map,f1]at f2
 have f3:rowOf H a=es:=Option.some.inj f2
 obtain⟨es',he⟩:=y.ha a (List.mem_flatten.mpr ⟨as,List.mem_of_getElem? ha,List.mem_of_getElem? f1⟩)
 rw[rowOf_at he]at f3
 rw[he,f3]
theorem XA_len {H:Hp}{ass:List (List Addr)}:(XA H ass).length=ass.length:=by unfold XA;rw[List.length_map]
theorem Sy.weak {S S':Addr→Prop}{H:Hp}{h:Addr}{bs:List Addr}{ass:List (List Addr)}(k:∀b,S b→S' b) (y:Sy S H h bs ass):Sy S' H h bs ass:=⟨y.hh,y.hb,y.ha,y.nd,fun b hb=>k b (y.ns b hb)⟩
theorem plc_perm:∀{rs:List Addr}{bss:List (List Addr)},rs.length=bss.length→(plc rs bss).Perm (rs++bss.flatten)
 | [],[],_=>by simp[plc]
 | r::rs,bs::bss,h=>by
  have ih:=plc_perm (rs:=rs) (bss:=bss) (by simpa using h)
  show(r::bs++plc rs bss).Perm (r::(rs++(bs++bss.flatten)))
  rw[List.cons_append]
  refine List.Perm.cons r ?_
  refine(ih.append_left bs).trans ?_
  rw[← List.append_assoc,← List.append_assoc]
  exact List.perm_append_comm.append_right _
theorem yard_is {H0 H:Hp}{es:List (Int×Str)}{ms:List Int}{w R:Nat}{h:Addr}(ok:∀e∈es,PyData.strOk e.2=true∧0≤e.1∧e.1<1152921504606846976∧e.2.length≤100) (hl:es.length≤190) (w1:1≤w) (r1:1≤R) (r2:R≤131)
  (mp:ms.Perm ((mergeI [] (es.map vE)).map (·.1))) (mo:ms.Pairwise (· ≤ ·)) (hy:YardN H0 H (valI (mergeI [] (es.map vE))) w h (spreadV ms R)) :
  ∃(rs:List Addr) (bss:List (List Addr)),Sy (fun b=>H0 b=none) H h rs bss∧EnX H (XA H bss)∧SzQ (XA H bss)∧IsCl w R (mES es) (yD H (XA H bss)):=by
 obtain⟨rs,bss,h1,h2,h3,h4,h5,h6⟩:=hy
 rw[spreadV_len]at h2 h3
 have mn:((mergeI [] (es.map vE)).map (·.1)).Nodup:=mergeI_nodup (by simp)
 have mv:∀e∈mergeI [] (es.map vE),∃z,e.2=V.str z∧PyData.strOk z=true∧z.length≤100:=mergeI_all (p:=fun v=>∃z,v=V.str z∧PyData.strOk z=true∧z.length≤100) (fun e he=>by cases he) fun e he=>by
  obtain⟨x,hx,rfl⟩:=List.mem_map.mp he
  exact⟨x.2,rfl,(ok x hx).1,(ok x hx).2.2.2⟩
 have mk:∀k∈(mergeI [] (es.map vE)).map (·.1),0≤k∧k<1152921504606846976:=fun k hk=>by
  rcases mergeI_mem.mp hk with z|z
  ·cases z
  ·rw[List.map_map]at z
   obtain⟨x,hx,rfl⟩:=List.mem_map.mp z
   exact⟨(ok x hx).2.1,(ok x hx).2.2.1⟩
 have ml:(mES es).length≤es.length:=mES_len
 have mel:mES es =(mergeI [] (es.map vE)).map uE:=rfl
 have mk2:=mES_keys (es:=es)
 rw[mel]at ml mk2 ⊢
 generalize mergeI [] (es.map vE)=m at *
 have sl:∀j,j<R→(spreadV ms R)[j]? = some (ms.filter fun k=>decide (roomV k R =(j:Int))):=fun j hj=>spreadV_at hj
 obtain⟨tss,tl,hts⟩:=choose_ix (as:=rs) (p:=fun j r (ts:List Addr)=>∀bs,bss[j]? = some bs→ts.length =(ms.filter fun k=>decide (roomV k R =(j:Int))).length∧(∀(i:Nat) (t:Addr) (k:Int),ts[i]? = some t→(ms.filter fun k=>decide (roomV k R =(j:Int)))[i]? = some k→H t=some (.tup [.int k,valI m k]))∧H r=some (.lst (bs.map V.ref))∧bs.length =(rowsVV (ts.map V.ref) w).length∧∀(i:Nat) (a:Addr) (es:List V),bs[i]? = some a→(rowsVV (ts.map V.ref) w)[i]? = some es→H a=some (.lst es)) fun j r hr=>by
  have jl:=(List.getElem?_eq_some_iff.mp hr).1
  have hb:bss[j]? = some (bss[j]'(by omega)):=List.getElem?_eq_getElem _
  obtain⟨ts,g1,g2,g3,g4,g5⟩:=h4 j r _ _ hr hb (sl j (by omega))
  refine⟨ts,fun bs e=>?_⟩
  rw[hb]at e
  cases e
  exact⟨g1,g2,g3,g4,g5⟩
 have key:∀(j:Nat) (ts:List Addr),tss[j]? = some ts→j<R∧∃r bs,rs[j]? = some r∧bss[j]? = some bs:=fun j ts e=>by
  have jl:=(List.getElem?_eq_some_iff.mp e).1
  exact⟨by omega,_,_,List.getElem?_eq_getElem (by omega),List.getElem?_eq_getElem (by omega)⟩
 have val:∀(j:Nat) (ts:List Addr),tss[j]? = some ts→EL H ts ((ms.filter fun k=>decide (roomV k R =(j:Int))).map fun k=>(k,unS (valI m k))):=fun j ts e=>by
  obtain⟨jl,r,bs,er,eb⟩:=key j ts e
  obtain⟨g1,g2,_⟩:=hts j r ts er e bs eb
  refine⟨by rw[List.length_map];exact g1,fun i t x e1 e2=>?_⟩
  rw[List.getElem?_map]at e2
  cases c:(ms.filter fun k=>decide (roomV k R =(j:Int)))[i]? with
  | none=>rw[c]at e2;cases e2
  | some k =>
   rw[c]at e2
   have e3:(k,unS (valI m k))=x:=Option.some.inj e2
   subst e3
   have km:k∈m.map (·.1):=mp.mem_iff.mp (List.mem_filter.mp (List.mem_of_getElem? c)).1
   obtain⟨e,he,hek⟩:=List.mem_map.mp km
   have hv:=valI_at mn he
   obtain⟨z,hz,hzo,hzl⟩:=mv e he
   have hv2:valI m k=V.str z:=by rw[← hek,hv,hz]
   have:=g2 i t k e1 c
   rw[hv2]at this ⊢
   exact⟨this,hzo,(mk k km).1,(mk k km).2,hzl⟩
 have hX:XA H bss=tss.map fun ts=>rowsG (ts.map V.ref) w:=by
  refine List.ext_getElem? fun j=>?_
  unfold XA
  rw[List.getElem?_map,List.getElem?_map]
  cases c:tss[j]? with
  | none=>rw[List.getElem?_eq_none (by have:=List.getElem?_eq_none_iff.mp c;omega)];rfl
  | some ts =>
   obtain⟨jl,r,bs,er,eb⟩:=key j ts c
   obtain⟨_,_,_,g4,g5⟩:=hts j r ts er c bs eb
   rw[eb]
   show some (bs.map (rowOf H))=some (rowsVV (ts.map V.ref) w)
   congr 1
   refine List.ext_getElem? fun i=>?_
   rw[List.getElem?_map]
   cases d:bs[i]? with
   | none=>rw[List.getElem?_eq_none (by have:=List.getElem?_eq_none_iff.mp d;omega)];rfl
   | some a =>
    have il:=(List.getElem?_eq_some_iff.mp d).1
    have e2:(rowsVV (ts.map V.ref) w)[i]? = some ((rowsVV (ts.map V.ref) w)[i]'(by omega)):=List.getElem?_eq_getElem _
    rw[e2]
    show some (rowOf H a)=_
    rw[rowOf_at (g5 i a _ d e2)]
 have hcl:IsCl w R (m.map uE) (yD H (XA H bss)):=by
  refine⟨by unfold yD;rw[List.length_map,XA_len,h3],fun j rows e=>?_⟩
  rw[hX]at e
  unfold yD at e
  rw[List.getElem?_map,List.getElem?_map]at e
  cases c:tss[j]? with
  | none=>rw[c]at e;cases e
  | some ts =>
   rw[c]at e
   have e2:rowsDD H (rowsG (ts.map V.ref) w)=rows:=Option.some.inj e
   have vr:=(val j ts c).row
   refine⟨(ms.filter fun k=>decide (roomV k R =(j:Int))).map fun k=>(k,unS (valI m k)),?_,?_,?_⟩
   ·rw[List.filter_map]
    have p1:(ms.filter fun k=>decide (roomV k R =(j:Int))).Perm ((m.map (·.1)).filter fun k=>decide (roomV k R =(j:Int))):=mp.filter _
    rw[List.filter_map]at p1
    refine(p1.map _).trans ?_
    rw[List.map_map]
    have:((m.filter ((fun k=>decide (roomV k R =(j:Int))) ∘ fun x=>x.1)).map ((fun k=>(k,unS (valI m k))) ∘ fun x=>x.1)) =(m.filter ((fun e:Int×Str=>decide (roomV e.1 R =(j:Int))) ∘ uE)).map uE:=by
     have ef:((fun k=>decide (roomV k R =(j:Int))) ∘ fun x:Int×V=>x.1) =((fun e:Int×Str=>decide (roomV e.1 R =(j:Int))) ∘ uE):=rfl
     rw[ef]
     apply List.map_congr_left
     intro x hx
     show(x.1,unS (valI m x.1)) =(x.1,unS x.2)
     rw[valI_at mn (List.mem_filter.mp hx).1]
    rw[this]
   ·rw[List.pairwise_map]
    exact mo.filter _
   ·rw[← e2]
    unfold rowsDD
    rw[show rowD H=List.map (eD H) from rfl,rowsG_map]
    congr 1
 have hen:EnX H (XA H bss):=by
  rw[hX]
  intro rows hr es' he v hv
  obtain⟨ts,ht,rfl⟩:=List.mem_map.mp hr
  obtain⟨j,hj⟩:=List.getElem?_of_mem ht
  exact(val j ts hj).en v (rowsG_mem he hv)
 refine⟨rs,bss,⟨h1,⟨by omega,fun j r bs e1 e2=>?_⟩,fun a ha=>?_,?_,fun b hb=>h6 b ?_⟩,hen,⟨by rw[XA_len];omega,fun rows hr=>?_,?_⟩,hcl⟩
 ·have e3:tss[j]? = some (tss[j]'(by have:=(List.getElem?_eq_some_iff.mp e1).1;omega)):=List.getElem?_eq_getElem _
  exact(hts j r _ e1 e3 bs e2).2.2.1
 ·obtain⟨bs,hb,ha⟩:=List.mem_flatten.mp ha
  obtain⟨j,ej⟩:=List.getElem?_of_mem hb
  have jl:=(List.getElem?_eq_some_iff.mp ej).1
  have e3:tss[j]? = some (tss[j]'(by omega)):=List.getElem?_eq_getElem _
  have e4:rs[j]? = some (rs[j]'(by omega)):=List.getElem?_eq_getElem _
  obtain⟨_,_,_,g4,g5⟩:=hts j _ _ e4 e3 bs ej
  obtain⟨i,hi⟩:=List.getElem?_of_mem ha
  have il:=(List.getElem?_eq_some_iff.mp hi).1
  exact⟨_,g5 i a _ hi (List.getElem?_eq_getElem (by omega))⟩
 ·exact(List.Perm.cons h (plc_perm (by omega))).nodup_iff.mp h5
 ·exact(List.Perm.cons h (plc_perm (by omega))).mem_iff.mpr hb
 ·rw[hX]at hr
  obtain⟨ts,ht,rfl⟩:=List.mem_map.mp hr
  obtain⟨j,hj⟩:=List.getElem?_of_mem ht
  have tl:=(val j ts hj).1
  rw[List.length_map]at tl
  have l1:=List.length_filter_le (fun k=>decide (roomV k R =(j:Int))) ms
  have l2:=mp.length_eq
  rw[List.length_map]at l2 ml
  rw[rowsG_len,List.length_map]
  obtain⟨g1,g2,g3⟩:=up_div (g:=rfor ts.length w) (w:=w) (m:=ts.length) (by omega) (by omega) rfl
  rcases g3 with z|z
  ·omega
  ·by_cases q:rfor ts.length w≤200
   ·omega
   ·have:(1:Int)*(rfor ts.length w-1)≤w*(rfor ts.length w-1):=Int.mul_le_mul_of_nonneg_right (by omega) (by omega)
    omega
 ·have hf:=(hcl.flat (by rw[mk2];exact mn) w1 r1).length_eq
  rw[flat_yD,List.length_map,List.length_map]at hf
  rw[List.length_map]at ml
  omega
def sp__law_cut (K:PySem.W.Frag):Sp:=fun vs H Q _=>∃(w:Nat) (a:Addr) (ts:List Addr) (es:List (Int×Str)),vs=[.int w,.ref a]∧H a=some (.lst (ts.map V.ref))∧EL H ts es∧(es.map (·.1)).Nodup∧es.length≤190∧1≤w∧w≤8 ∧
 ∀(l:Addr) (us:List Addr) (H':Hp),H l=none→us.Perm ts→((rowD H (us.map V.ref)).Pairwise fun a b=>a.1≤b.1)→RwsN H H' l (rowsVV (us.map V.ref) w)→Same H H'→Q (.ref l) H'
def sp__law_clean (K:PySem.W.Frag):Sp:=fun vs H Q _=>∃(w R:Nat) (a:Addr) (ts:List Addr) (es:List (Int×Str)),vs=[.int w,.int R,.ref a]∧H a=some (.lst (ts.map V.ref))∧EL H ts es∧(es.map (·.1)).Nodup∧es.length≤190∧1≤w∧w≤8∧1≤R∧R≤131 ∧
 ∀(y:Addr) (X:List (List (List V))) (H':Hp),Yq H' y w R X→IsCl w R es (yD H' X)→Same H H'→Q (.ref y) H'
theorem rowsG_le {α:Type}{s:List α}{w:Nat}(w1:1≤w):(rowsG s w).length≤s.length+1:=by
 rw[rowsG_len]
 obtain⟨g1,g2,g3⟩:=up_div (g:=rfor s.length w) (w:=w) (m:=s.length) (by omega) (by omega) rfl
 rcases g3 with z|z
 ·omega
 ·by_cases q:rfor s.length w≤s.length+1
  ·omega
  ·have:(1:Int)*(rfor s.length w-1)≤w*(rfor s.length w-1):=Int.mul_le_mul_of_nonneg_right (by omega) (by omega)
   omega
theorem ix_snoc {α β:Type}{p:Nat→α→β→Prop}{as:List α}{bs:List β}{a:α}{b:β}{i:Nat}(hl:as.length=i) (hl2:bs.length=i) (h:∀j a b,as[j]? = some a→bs[j]? = some b→p j a b) (hd:p i a b):∀j a' b',(as ++ [a])[j]? = some a'→(bs ++ [b])[j]? = some b'→p j a' b':=by
 intro j a' b' e1 e2
 by_cases z:j<as.length
 ·rw[List.getElem?_append_left z]at e1
  rw[List.getElem?_append_left (by omega)]at e2
  exact h j a' b' e1 e2
 ·have kl:=(List.getElem?_eq_some_iff.mp e1).1
  rw[List.length_append]at kl
  have hk:j=i:=by have:[a].length=1:=rfl;omega
  subst hk
  rw[List.getElem?_append_right (by omega),show j-as.length=0 by omega]at e1
  rw[List.getElem?_append_right (by omega),show j-bs.length=0 by omega]at e2
  cases e1;cases e2
  exact hd
theorem Rws.r2 {H:Hp}{l:Addr}{X:List (List V)}(h:Rws H l X):R2 (fun _=>True) H l X:=by
 obtain⟨as,h1,h2,h3⟩:=h
 exact⟨trivial,as,h1,h2,fun i a es e1 e2=>⟨trivial,h3 i a es e1 e2⟩⟩
theorem clean_is {H:Hp}{ts:List Addr}{es:List (Int×Str)}{w R:Nat}{h:Addr}{ls:List Addr}{uss:List (List Addr)}(el:EL H ts es) (nd:(es.map (·.1)).Nodup) (hl:es.length≤190) (w1:1≤w) (r1:1≤R) (r2:R≤131)
  (hh:H h=some (.lst (ls.map V.ref))) (l1:ls.length=R) (l2:uss.length=R)
  (hu:∀(j:Nat) (l:Addr) (us:List Addr),ls[j]? = some l→uss[j]? = some us→us.Perm (ts.filter fun t=>decide (roomV (kE H t) R =(j:Int)))∧((rowD H (us.map V.ref)).Pairwise fun a b=>a.1≤b.1)∧Rws H l (rowsVV (us.map V.ref) w)) :
  ∃X,R3 (fun _=>True) H h X∧EnX H X∧SzQ X∧IsCl w R es (yD H X):=by
 have er:=el.row
 have hen:EnX H (uss.map fun us=>rowsG (us.map V.ref) w):=by
  intro rows hr es' he v hv
  obtain⟨us,hm,rfl⟩:=List.mem_map.mp hr
  obtain⟨j,hj⟩:=List.getElem?_of_mem hm
  have jl:=(List.getElem?_eq_some_iff.mp hj).1
  obtain⟨p1,_,_⟩:=hu j _ us (List.getElem?_eq_getElem (by omega)) hj
  obtain⟨t,ht,rfl⟩:=List.mem_map.mp (rowsG_mem he hv)
  exact el.en _ (List.mem_map.mpr ⟨t,(List.mem_filter.mp (p1.mem_iff.mp ht)).1,rfl⟩)
 have hcl:IsCl w R es (yD H (uss.map fun us=>rowsG (us.map V.ref) w)):=by
  refine⟨by unfold yD;rw[List.length_map,List.length_map,l2],fun j rows e=>?_⟩
  unfold yD at e
  rw[List.getElem?_map,List.getElem?_map]at e
  cases c:uss[j]? with
  | none=>rw[c]at e;cases e
  | some us =>
   rw[c]at e
   have e2:rowsDD H (rowsG (us.map V.ref) w)=rows:=Option.some.inj e
   have jl:=(List.getElem?_eq_some_iff.mp c).1
   obtain⟨p1,p2,_⟩:=hu j _ us (List.getElem?_eq_getElem (by omega)) c
   refine⟨rowD H (us.map V.ref),?_,p2,?_⟩
   ·have p3:=(p1.map V.ref).map (eD H)
    refine p3.trans ?_
    rw[← er]
    unfold rowD
    rw[List.map_map,List.map_map,List.filter_map]
    exact .refl _
   ·rw[← e2]
    unfold rowsDD
    rw[show rowD H=List.map (eD H) from rfl,rowsG_map]
 refine⟨_,⟨ls,hh,by rw[List.length_map];omega,fun j l rows e1 e2=>?_⟩,hen,⟨by rw[List.length_map];omega,fun rows hr=>?_,?_⟩,hcl⟩
 ·rw[List.getElem?_map]at e2
  cases c:uss[j]? with
  | none=>rw[c]at e2;cases e2
  | some us =>
   rw[c]at e2
   cases e2
   exact(hu j l us e1 c).2.2.r2
 ·obtain⟨us,hm,rfl⟩:=List.mem_map.mp hr
  obtain⟨j,hj⟩:=List.getElem?_of_mem hm
  have jl:=(List.getElem?_eq_some_iff.mp hj).1
  obtain⟨p1,_,_⟩:=hu j _ us (List.getElem?_eq_getElem (by omega)) hj
  have h1:=rowsG_le (s:=us.map V.ref) w1
  have h2:=List.length_filter_le (fun t=>decide (roomV (kE H t) R =(j:Int))) ts
  rw[List.length_map,p1.length_eq]at h1
  have:=el.1
  omega
 ·have hf:=(hcl.flat nd w1 r1).length_eq
  rw[flat_yD,List.length_map]at hf
  omega
def unB (H:Hp) (os:List (List V)) (es:List V) (i:Nat):Bool:=match os[i]? with
 | none=>true
 | some o=>!decide (rowD H o=rowD H es)
def unl (H:Hp) (r:Nat) (os ns:List (List V)):Nat→List St3
 | 0=>[]
 | k+1=>unl H r os ns k++(match ns[k]? with
  | some es=>if unB H os es k=true then [.row r k es] else []
  | none=>[])
theorem unl_yes {H:Hp}{r:Nat}{os ns:List (List V)}{k:Nat}{es:List V}(h:ns[k]? = some es) (c:unB H os es k=true):unl H r os ns (k+1)=unl H r os ns k ++ [.row r k es]:=by
 show unl H r os ns k++(match ns[k]? with|some es=>if unB H os es k=true then [St3.row r k es] else [] | none=>[])=_
 rw[h]
 show unl H r os ns k++(if unB H os es k=true then [St3.row r k es] else [])=_
 rw[if_pos c]
theorem unl_no {H:Hp}{r:Nat}{os ns:List (List V)}{k:Nat}{es:List V}(h:ns[k]? = some es) (c:unB H os es k=false):unl H r os ns (k+1)=unl H r os ns k:=by
 show unl H r os ns k++(match ns[k]? with|some es=>if unB H os es k=true then [St3.row r k es] else [] | none=>[])=_
 rw[h]
 show unl H r os ns k++(if unB H os es k=true then [St3.row r k es] else [])=_
 rw[if_neg (by rw[c];exact nofun),List.append_nil]
def RowsOk (H:Hp) (X:List (List V)):Prop:=X.length≤130∧∀es∈X,es.length≤8∧∀v∈es,En H v
theorem RowsOk.same {H H':Hp}{X:List (List V)}(s:Same H H') (h:RowsOk H X):RowsOk H' X:=⟨h.1,fun es he=>⟨(h.2 es he).1,fun v hv=>((h.2 es he).2 v hv).keep fun _ _ e=>s _ _ e⟩⟩
theorem row_gd {K:PySem.W.Frag}{H:Hp}{a:Addr}{es:List V}(h:H a=some (.lst es)) (en:∀v∈es,En H v):GD K H 2 (.ref a) (pRow (rowD H es)):=by
 rw[← dRow_pRow en]
 exact GD.lst h (gds_en en)
def OkD (H:Hp) (b D D0:Addr):Prop:=D0=D ∨((∃xs,H D0=some (.lst xs))∧∀bs:List Addr,H b=some (.lst (bs.map V.ref))→D0∉bs)
def Pst (H H':Hp) (b D:Addr) (ss:List Addr) (sts:List St3):Prop:=∀D0,OkD H b D D0→P1 (StA (hid D0 (hid D H'))) ss sts
theorem hid_hid {D:Addr}{H:Hp}:hid D (hid D H)=hid D H:=by
 funext b
 unfold hid
 split <;> rfl
theorem Pst.plain {H H':Hp}{b D:Addr}{ss:List Addr}{sts:List St3}(h:Pst H H' b D ss sts):P1 (StA (hid D H')) ss sts:=by
 have:=h D (.inl rfl)
 rw[hid_hid]at this;exact this
theorem hid2_ne {D D0 x:Addr}{H:Hp}(n:x≠D) (n0:x≠D0):hid D0 (hid D H) x=H x:=by rw[hid_ne n0,hid_ne n]
theorem OkD.new {H H3:Hp}{b D D0 x:Addr}(ok:OkD H b D D0) (s:Same H H3) (n:H3 x=none) (nD:x≠D):x≠D0:=fun z=>by
 rcases ok with e|⟨⟨xs,e⟩,_⟩
 ·exact nD (z.trans e)
 ·rw[z,s _ _ e]at n;cases n
theorem OkD.tup {H:Hp}{b D D0 x:Addr}{xs:List V}(ok:OkD H b D D0) (h:H x=some (.tup xs)) (nD:x≠D):x≠D0:=fun z=>by
 rcases ok with e|⟨⟨xs,e⟩,_⟩
 ·exact nD (z.trans e)
 ·rw[z,e]at h;cases h
theorem OkD.row {H:Hp}{b D D0 x:Addr}{bs:List Addr}(ok:OkD H b D D0) (hb:H b=some (.lst (bs.map V.ref))) (m:x∈bs) (nD:x≠D):x≠D0:=fun z=>by
 rcases ok with e|⟨_,e⟩
 ·exact nD (z.trans e)
 ·exact e bs hb (z ▸ m)
def sp_unlike_rows (K:PySem.W.Frag):Sp:=fun vs H Q _=>∃(r:Nat) (a b:Addr) (os ns:List (List V)),vs=[.int r,.ref a,.ref b]∧Rws H a os∧Rws H b ns∧RowsOk H os∧RowsOk H ns∧r≤129 ∧
 ∀(D:Addr) (ss:List Addr) (H':Hp),H D=none→H' D=some (.lst (ss.map V.ref))→Pst H H' b D ss (unl H r os ns ns.length)→Same H H'→Q (.ref D) H'
def onS (H:Hp) (r:Nat) (os ns:List (List V)):List St3:=unl H r os ns ns.length++(if os.length > ns.length then [.cut r ns.length] else [])
def sp_onward (K:PySem.W.Frag):Sp:=fun vs H Q _=>∃(r:Nat) (a b:Addr) (os ns:List (List V)),vs=[.int r,.ref a,.ref b]∧Rws H a os∧Rws H b ns∧RowsOk H os∧RowsOk H ns∧r≤129 ∧
 ∀(D:Addr) (ss:List Addr) (H':Hp),H D=none→H' D=some (.lst (ss.map V.ref))→Pst H H' b D ss (onS H r os ns)→Same H H'→Q (.ref D) H'
def sp_backward (K:PySem.W.Frag):Sp:=fun vs H Q _=>∃(r:Nat) (a b:Addr) (os ns:List (List V)),vs=[.int r,.ref a,.ref b]∧Rws H a os∧Rws H b ns∧RowsOk H os∧RowsOk H ns∧r≤129 ∧
 ∀(D:Addr) (ss:List Addr) (H':Hp),H D=none→H' D=some (.lst (ss.map V.ref))→Pst H H' b D ss (unl H r os ns ns.length).reverse→Same H H'→Q (.ref D) H'
def othV (H:Hp) (X:List (List V)) (k:Int):List V:=X.flatten.filter fun v=>!decide ((eD H v).1=k)
def sp_others_in (K:PySem.W.Frag):Sp:=fun vs H Q _=>∃(a:Addr) (X:List (List V)) (k:Int),vs=[.ref a,.int k]∧Rws H a X∧X.flatten.length≤600∧(∀es∈X,∀v∈es,En H v) ∧
 ∀(D:Addr) (H':Hp),H D=none→H' D=some (.lst (othV H X k))→Same H H'→Q (.ref D) H'
theorem unl_keep {H H':Hp}{r:Nat}{os ns:List (List V)}(kt:∀t xs,H t=some (.tup xs)→H' t=some (.tup xs)) (eo:∀es∈os,∀v∈es,En H v) (en:∀es∈ns,∀v∈es,En H v):∀k:Nat,unl H' r os ns k=unl H r os ns k
 | 0=>rfl
 | k+1=>by
  have ih:=unl_keep (r:=r) kt eo en k
  show unl H' r os ns k++(match ns[k]? with|some es=>if unB H' os es k=true then [St3.row r k es] else [] | none=>[])=unl H r os ns k++(match ns[k]? with|some es=>if unB H os es k=true then [St3.row r k es] else [] | none=>[])
  rw[ih]
  cases e:ns[k]? with
  | none=>rfl
  | some es =>
   have eb:unB H' os es k=unB H os es k:=by
    unfold unB
    cases e2:os[k]? with
    | none=>rfl
    | some o =>
     show(!decide (rowD H' o=rowD H' es)) = !decide (rowD H o=rowD H es)
     rw[rowD_keep kt (eo o (List.mem_of_getElem? e2)),rowD_keep kt (en es (List.mem_of_getElem? e))]
   show unl H r os ns k++(if unB H' os es k=true then [St3.row r k es] else [])=unl H r os ns k++(if unB H os es k=true then [St3.row r k es] else [])
   rw[eb]
def sp_putting (K:PySem.W.Frag):Sp:=fun vs H Q _=>∃(y:Addr) (w R:Nat) (X:List (List (List V))) (k:Int) (z:Str),vs=[.ref y,.int k,.str z]∧Yd H y w R X∧(0≤k∧k<1152921504606846976)∧(PyData.strOk z=true∧z.length≤100)∧1≤w∧w≤4∧1≤R∧R≤130∧RowsOk H (ownR X k R)∧(ownR X k R).flatten.length≤100∧((rowD H (ownR X k R).flatten).map (·.1)).Nodup ∧
 ∀(D:Addr) (ss:List Addr) (t:Addr) (us:List V) (H':Hp),H D=none→H' D=some (.lst (ss.map V.ref))→H' t=some (.tup [.int k,.str z])→us.Perm (othV H (ownR X k R) k ++ [.ref t])→((rowD H' us).Pairwise fun a b=>a.1<b.1)→P1 (StA (hid D H')) ss (unl H' (roomV k R).toNat (ownR X k R) (rowsG us w) (rowsG us w).length).reverse→Same H H'→Q (.ref D) H'
def sp_dropping (K:PySem.W.Frag):Sp:=fun vs H Q _=>∃(y:Addr) (w R:Nat) (X:List (List (List V))) (k:Int),vs=[.ref y,.int k]∧Yd H y w R X∧1≤w∧w≤4∧1≤R∧R≤130∧RowsOk H (ownR X k R)∧(ownR X k R).flatten.length≤100∧k∈(rowD H (ownR X k R).flatten).map (·.1) ∧
 ∀(D:Addr) (ss:List Addr) (H':Hp),H D=none→H' D=some (.lst (ss.map V.ref))→P1 (StA (hid D H')) ss (onS H (roomV k R).toNat (ownR X k R) (rowsG (othV H (ownR X k R) k) w))→Same H H'→Q (.ref D) H'
theorem unl_len {H:Hp}{r:Nat}{os ns:List (List V)}:∀k:Nat,(unl H r os ns k).length≤k
 | 0=>Nat.le_refl 0
 | k+1=>by
  have ih:=unl_len (H:=H) (r:=r) (os:=os) (ns:=ns) k
  show(unl H r os ns k++(match ns[k]? with|some es=>if unB H os es k=true then [St3.row r k es] else [] | none=>[])).length≤k+1
  rw[List.length_append]
  have:(match ns[k]? with|some es=>if unB H os es k=true then [St3.row r k es] else [] | none=>[]).length≤1:=by
   split
   ·split <;> simp
   ·simp
  omega
def sp__law_near (K:PySem.W.Frag):Sp:=fun vs H Q _=>∃(p:Addr) (N:Nat) (n g:Int),vs=[.ref p,.int n,.int g]∧Hand H p N∧N+20000<2^60∧0≤n∧n≤125∧1≤g∧g≤16 ∧
 ∀(l:Addr) (ts:List Addr) (es:List (Int×Str)) (H':Hp),H l=none→H' l=some (.lst (ts.map V.ref))→EL H' ts es→(es.map (·.1)).Nodup→(es.length:Int)=n→Hand H' p (N+10000)→Kp H H' p→Q (.ref l) H'
def sp__law_spoilt (K:PySem.W.Frag):Sp:=fun vs H Q _=>∃(p y:Addr) (N w R:Nat) (X:List (List (List V))),vs=[.ref p,.ref y]∧Hand H p N∧N+100<2^60∧Yq H y w R X∧1≤w∧w≤8∧1≤R∧R≤130∧X.length=R∧(∀rows∈X,rows ≠ []∧rows.length≤150)∧(allV X).length≤150∧((flatP (yD H X)).map (·.1)).Nodup ∧
 ∀(y':Addr) (w' R':Nat) (X':List (List (List V))) (H':Hp),Yq H' y' w' R' X'→1≤w'→w'≤8→1≤R'→R'≤130→Hand H' p (N+50)→Kp H H' p→Q (.ref y') H'
theorem trim_split {α:Type}(Y:List (List α)):∃n:Nat,Y=trim Y++List.replicate n []:=by
 refine⟨(Y.reverse.takeWhile (·.isEmpty)).length,?_⟩
 have e:=List.takeWhile_append_dropWhile (p:=fun r:List α=>r.isEmpty) (l:=Y.reverse)
 have e2:=congrArg List.reverse e
 rw[List.reverse_append,List.reverse_reverse]at e2
 have e3:(Y.reverse.takeWhile (·.isEmpty)).reverse=List.replicate (Y.reverse.takeWhile (·.isEmpty)).length []:=by
  refine List.eq_replicate_iff.mpr ⟨List.length_reverse,fun r hr=>?_⟩
  have:=List.all_eq_true.mp (List.all_takeWhile (p:=fun r:List α=>r.isEmpty) (l:=Y.reverse)) r (List.mem_reverse.mp hr)
  simpa using this
 rw[e3]at e2
 exact e2.symm
theorem trim_at {α:Type}(Y:List (List α)) (i:Nat):((trim Y)[i]?).getD [] =(Y[i]?).getD []:=by
 obtain⟨n,e⟩:=trim_split Y
 conv=>rhs;rw[e]
 by_cases c:i <(trim Y).length
 ·rw[List.getElem?_append_left c]
 ·rw[List.getElem?_eq_none (by omega),List.getElem?_append_right (by omega),List.getElem?_replicate]
  split <;> rfl
theorem pad_at {α:Type}(Y:List (List α)) (n i:Nat):((pad Y n)[i]?).getD [] =(Y[i]?).getD []:=by
 unfold pad
 by_cases c:i<Y.length
 ·rw[List.getElem?_append_left c]
 ·rw[List.getElem?_eq_none (l:=Y) (by omega),List.getElem?_append_right (by omega),List.getElem?_replicate]
  split <;> rfl
def stepR (rows:List (List V)):St3→List (List V)
 | .rooms _=>rows
 | .cut _ m=>rows.take m
 | .row _ a es=>(pad rows (a+1)).set a es
def inRoom (r:Nat):St3→Prop
 | .rooms _=>False
 | .cut r' _=>r'=r
 | .row r' _ _=>r'=r
def atR (X:List (List (List V))) (i:Nat):List (List V):=(X[i]?).getD []
theorem at_do {X:List (List (List V))}{st:St3}{i r:Nat}(h:inRoom r st):atR (doX X st) i=if i=r then stepR (atR X i) st else atR X i:=by
 rw[doX_eq]
 unfold atR
 rw[trim_at]
 cases st with
 | rooms n=>exact h.elim
 | cut r' m =>
  have h:r'=r:=h
  subst h
  show(((X.modify r' (List.take m)))[i]?).getD []=if i=r' then((X[i]?).getD []).take m else _
  rw[List.getElem?_modify]
  by_cases c:i=r'
  ·rw[if_pos c]
   cases e:X[i]? with
   | none=>simp
   | some x=>simp[c]
  ·rw[if_neg c]
   cases e:X[i]? with
   | none=>simp
   | some x=>simp[Ne.symm c]
 | row r' a es =>
  have h:r'=r:=h
  subst h
  show(((rowX X r' a es))[i]?).getD []=if i=r' then(pad ((X[i]?).getD []) (a+1)).set a es else _
  unfold rowX
  rw[List.getElem?_modify]
  by_cases c:i=r'
  ·rw[if_pos c]
   have pl:=pad_len (X:=X) (n:=r'+1)
   have e1:=pad_at X (r'+1) i
   cases e:(pad X (r'+1))[i]? with
   | none=>exact absurd (List.getElem?_eq_none_iff.mp e) (by omega)
   | some x =>
    rw[e]at e1
    have e2:x =(X[i]?).getD []:=e1
    rw[← e2]
    simp[c]
  ·rw[if_neg c,← pad_at X (r'+1) i]
   cases e:(pad X (r'+1))[i]? with
   | none=>simp
   | some x=>simp[Ne.symm c]
theorem at_steps {i r:Nat}:∀{sts:List St3}{X:List (List (List V))},(∀st∈sts,inRoom r st)→atR (sts.foldl doX X) i=if i=r then sts.foldl stepR (atR X i) else atR X i
 | [],X,_=>by
  show atR X i=if _ then atR X i else _
  split <;> rfl
 | st::sts,X,h=>by
  show atR (sts.foldl doX (doX X st)) i=if _ then sts.foldl stepR (stepR (atR X i) st) else _
  rw[at_steps fun s hs=>h s (List.mem_cons_of_mem _ hs),at_do (h st (List.mem_cons_self ..))]
  split <;> rfl
theorem rowsDD_len {H:Hp}{rows:List (List V)}:(rowsDD H rows).length=rows.length:=by unfold rowsDD;rw[List.length_map]
theorem rowsDD_at {H:Hp}{rows:List (List V)}{i:Nat}:(rowsDD H rows)[i]? =(rows[i]?).map (rowD H):=by unfold rowsDD;rw[List.getElem?_map]
theorem unl_room {H:Hp}{r:Nat}{os ns:List (List V)}:∀(p:Nat),∀st∈unl H r os ns p,inRoom r st
 | 0,st,h=>absurd h List.not_mem_nil
 | p+1,st,h=>by
  have ih:=unl_room (H:=H) (r:=r) (os:=os) (ns:=ns) p st
  cases e:ns[p]? with
  | none =>
   have e1:unl H r os ns (p+1)=unl H r os ns p:=by
    show unl H r os ns p++(match ns[p]? with|some es=>if unB H os es p=true then [St3.row r p es] else [] | none=>[])=_
    rw[e];exact List.append_nil _
   rw[e1]at h;exact ih h
  | some es =>
   cases c:unB H os es p with
   | false=>rw[unl_no e c]at h;exact ih h
   | true =>
    rw[unl_yes e c]at h
    rcases List.mem_append.mp h with h|h
    ·exact ih h
    ·rw[List.mem_singleton.mp h];rfl
theorem trim_tail {α:Type}{X:List (List α)}:∀n:Nat,trim (X++List.replicate n [])=trim X
 | 0=>by rw[List.replicate_zero,List.append_nil]
 | n+1=>by rw[List.replicate_succ',← List.append_assoc,trim_snoc];exact trim_tail n
theorem rows_gd46 {K:PySem.W.Frag}{S:Addr→Prop}{H:Hp}{b:Addr}{rows:List (List V)}(r:R2 S H b rows) (e:∀es∈rows,∀v∈es,En H v):GD K H 3 (.ref b) (dRows H rows):=by
 obtain⟨_,as,h1,h2⟩:=r
 exact GD.lst h1 (gds_map h2 fun a es m t=>GD.lst t.2 (gds_en (e es m)))
theorem yD_at {H:Hp}{X:List (List (List V))}{r:Nat}:(yD H X)[r]? =(X[r]?).map (rowsDD H):=by unfold yD;rw[List.getElem?_map]
theorem rowsG_ne {α:Type}{s:List α}{w:Nat}:1 ≤(rowsG s w).length:=by
 rw[rowsG_len]
 unfold rfor
 omega
theorem rowD_flat {H:Hp}{rows:List (List V)}:rowD H rows.flatten =(rowsDD H rows).flatten:=by
 unfold rowD rowsDD
 rw[List.map_flatten];rfl
theorem on_room {H:Hp}{r:Nat}{os ns:List (List V)}:∀st∈onS H r os ns,inRoom r st:=fun st h=>by
 unfold onS at h
 rcases List.mem_append.mp h with h|h
 ·exact unl_room _ st h
 ·split at h
  ·rw[List.mem_singleton.mp h];rfl
  ·exact absurd h List.not_mem_nil
def OkE (es:List (Int×Str)):Prop:=∀e∈es,PyData.strOk e.2=true∧(0≤e.1∧e.1<1152921504606846976)∧e.2.length≤100
theorem on_keep {H H':Hp}{r:Nat}{os ns:List (List V)}(kt:∀t xs,H t=some (.tup xs)→H' t=some (.tup xs)) (eo:∀es∈os,∀v∈es,En H v) (en:∀es∈ns,∀v∈es,En H v):onS H' r os ns=onS H r os ns:=by
 unfold onS;rw[unl_keep kt eo en]
theorem on_len {H:Hp}{r:Nat}{os ns:List (List V)}:(onS H r os ns).length≤ns.length+1:=by
 unfold onS
 rw[List.length_append]
 have:=unl_len (H:=H) (r:=r) (os:=os) (ns:=ns) ns.length
 have:(if os.length > ns.length then [St3.cut r ns.length] else []).length≤1:=by split <;> simp
 omega
theorem yq_yd {H:Hp}{y:Addr}{X:List (List (List V))}{w R:Nat}{es:List (Int×Str)}(h:Yq H y w R X) (cl:IsCl w R es (yD H X)) (w1:1≤w) (w2:w≤8) (R2:R≤130) (el:es.length≤129):Yd H y w R X:=by
 obtain⟨t,h1,h2,en,_⟩:=h
 have xl:X.length=R:=by have:=cl.1;unfold yD at this;rw[List.length_map]at this;exact this
 refine⟨t,h1,h2,en,by omega,fun rows hr=>?_⟩
 obtain⟨i,hi⟩:=List.getElem?_of_mem hr
 obtain⟨s,p1,_,p3⟩:=cl.2 i (rowsDD H rows) (by rw[yD_at,hi];rfl)
 have sl:s.length≤es.length:=by rw[p1.length_eq];exact List.length_filter_le _ _
 have lr:=congrArg List.length p3
 rw[rowsDD_len]at lr
 refine⟨by rw[lr];exact Nat.le_trans (rowsG_le w1) (by omega),fun e he=>?_⟩
 have hm:rowD H e∈rowsG s w:=by rw[← p3];exact List.mem_map.mpr ⟨e,he,rfl⟩
 unfold rowsG at hm
 obtain⟨i,_,hi⟩:=List.mem_map.mp hm
 have l:=congrArg List.length hi
 unfold rowD at l
 rw[List.length_take,List.length_map]at l
 omega
theorem rowsDD_pad {H:Hp}{X:List (List V)}{n:Nat}:rowsDD H (pad X n)=pad (rowsDD H X) n:=by
 unfold pad rowsDD
 rw[List.map_append,List.map_replicate,List.length_map];rfl
theorem rowsDD_set {H:Hp}{X:List (List V)}{i:Nat}{es:List V}:rowsDD H (X.set i es) =(rowsDD H X).set i (rowD H es):=by unfold rowsDD;rw[List.map_set]
theorem trim_len {α:Type}{Y:List (List α)}{n:Nat}(h:∀i,n≤i→(Y[i]?).getD []=[]):(trim Y).length≤n:=by
 by_cases c:(trim Y).length≤n
 ·exact c
 ·exfalso
  have ne:trim Y ≠ []:=fun z=>by rw[z]at c;simp at c
  have e:=trim_at Y ((trim Y).length-1)
  rw[h _ (by omega)]at e
  have hl:(trim Y)[(trim Y).length-1]? =(trim Y).getLast?:=by rw[List.getLast?_eq_getElem?]
  rw[hl]at e
  unfold trim at e ne
  rw[List.getLast?_reverse]at e
  have hd:=List.head?_dropWhile_not (fun r:List α=>r.isEmpty) Y.reverse
  cases z:(Y.reverse.dropWhile (·.isEmpty)).head? with
  | none=>rw[List.head?_eq_none_iff]at z;rw[z]at ne;simp at ne
  | some x =>
   rw[z]at e hd
   have:x=[]:=e
   rw[this]at hd
   simp at hd
theorem cl_of_at {H:Hp}{Z:List (List (List V))}{w R:Nat}{es:List (Int×Str)}(zl:Z.length≤R) (h:∀i,i<R→∃s,s.Perm (es.filter fun e=>decide (roomV e.1 R =(i:Int)))∧(s.Pairwise fun a b=>a.1≤b.1)∧rowsDD H (atR Z i)=rowsG s w):IsCl w R es (yD H Z):=by
 have ne:∀i,i<R→atR Z i ≠ []:=fun i hi z=>by
  obtain⟨s,_,_,e⟩:=h i hi
  rw[z]at e
  have:=rowsG_ne (s:=s) (w:=w)
  rw[← e]at this
  exact absurd this (by simp[rowsDD])
 have zl':Z.length=R:=by
  by_cases g:Z.length=R
  ·exact g
  ·exact absurd (by unfold atR;rw[List.getElem?_eq_none (by omega)];rfl) (ne (R-1) (by omega))
 refine⟨by unfold yD;rw[List.length_map];exact zl',fun i rowsd hi=>?_⟩
 rw[yD_at]at hi
 cases e:Z[i]? with
 | none=>rw[e]at hi;cases hi
 | some rows =>
  rw[e]at hi
  have hi:rowsDD H rows=rowsd:=Option.some.inj hi
  have il:=(List.getElem?_eq_some_iff.mp e).1
  obtain⟨s,p1,p2,p3⟩:=h i (by omega)
  have ea:atR Z i=rows:=by unfold atR;rw[e];rfl
  rw[ea,hi]at p3
  exact⟨s,p1,p2,p3⟩
theorem at_rws {H H1:Hp}{bs:List Addr}{X:List (List (List V))}{o:Addr}{r:Nat}(hP:P1 (R2 (fun _=>True) H) bs X) (s1:Same H H1) (ho:bs[r]? = some o ∨(bs.length≤r∧H1 o=some (.lst []))):Rws H1 o (atR X r):=by
 have bl:=hP.1
 rcases ho with ho|⟨ho,h1⟩
 ·obtain⟨rows,hx,_,as,h2,h3⟩:=hP.get ho
  unfold atR
  rw[hx]
  exact⟨as,s1 _ _ h2,h3.1,fun i a es e1 e2=>s1 _ _ (h3.2 i a es e1 e2).2⟩
 ·unfold atR
  rw[List.getElem?_eq_none (by omega)]
  exact⟨[],h1,rfl,fun i a es e=>by simp at e⟩
def addE (acc:List (Int×Str)) (e:Int×Str):List (Int×Str):=if e.1∈acc.map (·.1) then acc else acc ++ [e]
def stepE (R:Int) (i:Nat) (acc:List (Int×Str)) (e:Int×Str):List (Int×Str):=if roomV e.1 R =(i:Int) then addE acc e else acc
def standN (R:Int) (D:List (List (List (Int×Str)))):Nat→List (Int×Str)
 | 0=>[]
 | n+1=>(((D[n]?).getD []).flatten).foldl (stepE R n) (standN R D n)
def stand (R:Nat) (D:List (List (List (Int×Str)))):List (Int×Str):=standN R D (min R D.length)
theorem stepE_nd {R:Int}{i:Nat}{acc:List (Int×Str)}{e:Int×Str}(h:(acc.map (·.1)).Nodup):((stepE R i acc e).map (·.1)).Nodup:=by
 unfold stepE addE
 split
 ·split
  ·exact h
  ·rename_i c
   rw[List.map_append]
   refine List.nodup_append.mpr ⟨h,by simp,fun a ha b hb z=>c ?_⟩
   have:b=e.1:=by simpa using hb
   rw[← this,← z];exact ha
 ·exact h
theorem fold_nd {R:Int}{i:Nat}:∀{l acc:List (Int×Str)},(acc.map (·.1)).Nodup→((l.foldl (stepE R i) acc).map (·.1)).Nodup
 | [],_,h=>h
 | e::l,acc,h=>fold_nd (l:=l) (acc:=stepE R i acc e) (stepE_nd h)
theorem standN_nd {R:Int}{D:List (List (List (Int×Str)))}:∀n:Nat,((standN R D n).map (·.1)).Nodup
 | 0=>by simp[standN]
 | n+1=>fold_nd (standN_nd n)
theorem stepE_ok {p:Int×Str→Prop}{R:Int}{i:Nat}{acc:List (Int×Str)}{e:Int×Str}(h:∀x∈acc,p x) (he:p e):∀x∈stepE R i acc e,p x:=by
 unfold stepE addE
 split
 ·split
  ·exact h
  ·intro x hx
   rcases List.mem_append.mp hx with z|z
   ·exact h x z
   ·rw[List.mem_singleton.mp z];exact he
 ·exact h
theorem fold_ok {p:Int×Str→Prop}{R:Int}{i:Nat}:∀{l acc:List (Int×Str)},(∀x∈acc,p x)→(∀x∈l,p x)→∀x∈l.foldl (stepE R i) acc,p x
 | [],_,h,_=>h
 | e::l,acc,h,hl=>fold_ok (l:=l) (acc:=stepE R i acc e) (stepE_ok h (hl e (List.mem_cons_self ..))) fun x hx=>hl x (List.mem_cons_of_mem _ hx)
theorem standN_ok {p:Int×Str→Prop}{R:Int}{D:List (List (List (Int×Str)))}(h:∀rows∈D,∀r∈rows,∀e∈r,p e):∀n:Nat,∀x∈standN R D n,p x
 | 0=>fun _ h=>absurd h List.not_mem_nil
 | n+1=>fold_ok (standN_ok h n) fun x hx=>by
  obtain⟨r,hr,hx⟩:=List.mem_flatten.mp hx
  cases e:D[n]? with
  | none=>rw[e]at hr;exact absurd hr List.not_mem_nil
  | some rows=>rw[e]at hr;exact h rows (List.mem_of_getElem? e) r hr x hx
theorem fold_len {R:Int}{i:Nat}:∀{l acc:List (Int×Str)},(l.foldl (stepE R i) acc).length≤acc.length+l.length
 | [],_=>Nat.le_refl _
 | e::l,acc=>by
  have ih:=fold_len (R:=R) (i:=i) (l:=l) (acc:=stepE R i acc e)
  have:(stepE R i acc e).length≤acc.length+1:=by
   unfold stepE addE
   split
   ·split
    ·omega
    ·rw[List.length_append];exact Nat.le_refl _
   ·omega
  show(l.foldl (stepE R i) (stepE R i acc e)).length≤acc.length+(l.length+1)
  omega
theorem standN_len {R:Int}{D:List (List (List (Int×Str)))}:∀n:Nat,(standN R D n).length ≤(flatP (D.take n)).length
 | 0=>Nat.zero_le _
 | n+1=>by
  have ih:=standN_len (R:=R) (D:=D) n
  refine Nat.le_trans (show(standN R D (n+1)).length≤_ from fold_len) ?_
  cases e:D[n]? with
  | none =>
   have:D.take (n+1)=D.take n:=by rw[List.take_add_one,e,Option.toList_none,List.append_nil]
   rw[this];exact ih
  | some rows =>
   rw[take_get e]
   unfold flatP at ih ⊢
   rw[List.map_append,List.flatten_append,List.length_append]
   show _+rows.flatten.length≤_ + [rows.flatten].flatten.length
   rw[List.flatten_singleton]
   omega
theorem flatP_take {α:Type}{D:List (List (List (Int×α)))}{n:Nat}:(flatP (D.take n)).length ≤(flatP D).length:=by
 conv=>rhs;rw[← List.take_append_drop n D]
 unfold flatP
 rw[List.map_append,List.flatten_append,List.length_append]
 omega
theorem stand_nd {R:Nat}{D:List (List (List (Int×Str)))}:((stand R D).map (·.1)).Nodup:=standN_nd _
theorem stand_len {R:Nat}{D:List (List (List (Int×Str)))}:(stand R D).length ≤(flatP D).length:=Nat.le_trans (standN_len _) flatP_take
def eV (es:List (Int×Str)):List (Key×V):=(es.map vE).map kf
theorem eV_cons {e:Int×Str}{es:List (Int×Str)}:eV (e::es) =((Sum.inl e.1:Key),V.str e.2)::eV es:=rfl
theorem find_some {es:List (Int×Str)}{k:Int}:(L2.valV (eV es) (Sum.inl k:Key)).isSome=decide (k∈es.map (·.1)):=by
 induction es with
 | nil=>rfl
 | cons e es ih =>
  rw[eV_cons]
  unfold L2.valV at ih ⊢
  rw[List.find?_cons]
  by_cases c:e.1=k
  ·rw[decide_eq_true (show((Sum.inl e.1:Key)=Sum.inl k) by rw[c]),decide_eq_true (by rw[← c];simp)];rfl
  ·rw[decide_eq_false (show ¬((Sum.inl e.1:Key)=Sum.inl k) from fun z=>c (Sum.inl.inj z))]
   show(Option.map _ (List.find? _ (eV es))).isSome=_
   rw[ih,List.map_cons]
   by_cases g:k∈es.map (·.1)
   ·rw[decide_eq_true g,decide_eq_true (List.mem_cons_of_mem _ g)]
   ·rw[decide_eq_false g,decide_eq_false fun z=>(List.mem_cons.mp z).elim (fun q=>c q.symm) g]
theorem put_new {es:List (Int×Str)}{k:Int}{z:Str}(h:k∉es.map (·.1)):putK (eV es) (Sum.inl k:Key) (.str z)=eV (es ++ [(k,z)]):=by
 have an:((eV es).any fun kv=>decide (kv.1 =(Sum.inl k:Key)))=false:=by
  rw[List.any_eq_false]
  intro kv hkv
  unfold eV at hkv
  obtain⟨e1,he1,rfl⟩:=List.mem_map.mp hkv
  obtain⟨e2,he2,rfl⟩:=List.mem_map.mp he1
  intro q
  have q:=of_decide_eq_true q
  exact h (List.mem_map.mpr ⟨e2,he2,Sum.inl.inj q⟩)
 unfold putK
 rw[an]
 unfold eV
 rw[List.map_append,List.map_append];rfl
theorem yD_mem {H:Hp}{X:List (List (List V))}{p:Int×Str→Prop}(h:∀rows∈X,∀es∈rows,∀v∈es,p (eD H v)):∀rows∈yD H X,∀r∈rows,∀e∈r,p e:=fun rows hr r hr2 e he=>by
 unfold yD rowsDD rowD at hr
 obtain⟨x,hx,rfl⟩:=List.mem_map.mp hr
 obtain⟨es,hes,rfl⟩:=List.mem_map.mp hr2
 obtain⟨v,hv,rfl⟩:=List.mem_map.mp he
 exact h x hx es hes v hv
theorem stand_okE {H:Hp}{X:List (List (List V))}{R:Nat}(en:EnX H X):OkE (stand R (yD H X)):=fun e he=>standN_ok (p:=fun e=>PyData.strOk e.2=true∧(0≤e.1∧e.1<1152921504606846976)∧e.2.length≤100) (yD_mem fun rows hr es he v hv=>by
 obtain⟨_,_,_,h2,h3,h4,h5⟩:=(en rows hr es he v hv).pt
 exact⟨h2,⟨h3,h4⟩,h5⟩) _ e he
def sp_mended (K:PySem.W.Frag):Sp:=fun vs H Q _=>∃(y:Addr) (w R:Nat) (X:List (List (List V))),vs=[.ref y]∧Yd H y w R X∧1≤w∧w≤8∧1≤R∧R≤130∧(allV X).length≤190 ∧
 ∀(t h:Addr) (rs:List Addr) (bss:List (List Addr)) (H':Hp),H' t=some (.tup [.int w,.int R,.ref h])→Sy (fun b=>H b=none) H' h rs bss→EnX H' (XA H' bss)→SzQ (XA H' bss)→IsCl w R (stand R (yD H X)) (yD H' (XA H' bss))→Same H H'→Q (.ref t) H'
theorem on_mixG {H:Hp}{r:Nat}{os ns:List (List V)}:∀p:Nat,p≤ns.length→rowsDD H ((unl H r os ns p).foldl stepR os) =(rowsDD H ns).take p++(rowsDD H os).drop p
 | 0,_=>by
  show rowsDD H os=_
  rw[List.take_zero,List.drop_zero,List.nil_append]
 | p+1,hp=>by
  have ih:=on_mixG (H:=H) (r:=r) (os:=os) (ns:=ns) p (by omega)
  obtain⟨es,hes⟩ : ∃es,ns[p]? = some es:=⟨_,List.getElem?_eq_getElem (by omega)⟩
  have hn:(rowsDD H ns)[p]? = some (rowD H es):=by rw[rowsDD_at,hes];rfl
  rw[take_get hn,List.append_assoc]
  have tl:((rowsDD H ns).take p).length=p:=by rw[List.length_take,rowsDD_len];omega
  cases ho:os[p]? with
  | none =>
   have ol:=List.getElem?_eq_none_iff.mp ho
   rw[unl_yes hes (by unfold unB;rw[ho]),List.foldl_append]
   show rowsDD H ((pad ((unl H r os ns p).foldl stepR os) (p+1)).set p es)=_
   rw[List.drop_eq_nil_of_le (by rw[rowsDD_len];exact ol),List.append_nil]at ih
   rw[rowsDD_set,rowsDD_pad,ih,List.drop_eq_nil_of_le (by rw[rowsDD_len];omega),List.append_nil]
   unfold pad
   rw[tl,show p+1-p=1 by omega,List.set_append_right _ _ (by omega),tl,Nat.sub_self];rfl
  | some o =>
   have ol:=(List.getElem?_eq_some_iff.mp ho).1
   have hd:(rowsDD H os)[p]? = some (rowD H o):=by rw[rowsDD_at,ho];rfl
   have ub:unB H os es p = !decide (rowD H o=rowD H es):=by unfold unB;rw[ho]
   rw[drop_get hd]at ih
   by_cases c:rowD H o=rowD H es
   ·rw[unl_no hes (by rw[ub,decide_eq_true c];rfl),ih,c];rfl
   ·rw[unl_yes hes (by rw[ub,decide_eq_false c];rfl),List.foldl_append]
    show rowsDD H ((pad ((unl H r os ns p).foldl stepR os) (p+1)).set p es)=_
    have ll:=congrArg List.length ih
    rw[rowsDD_len,List.length_append,tl,List.length_cons]at ll
    rw[pad_done (by omega),rowsDD_set,ih,List.set_append_right _ _ (by omega),tl,Nat.sub_self];rfl
theorem on_doneG {H:Hp}{r:Nat}{os ns:List (List V)}:rowsDD H ((onS H r os ns).foldl stepR os)=rowsDD H ns:=by
 have m:=on_mixG (H:=H) (r:=r) (os:=os) ns.length (Nat.le_refl _)
 have e0:(rowsDD H ns).take ns.length=rowsDD H ns:=List.take_of_length_le (by rw[rowsDD_len];exact Nat.le_refl _)
 rw[e0]at m
 unfold onS
 by_cases g:os.length > ns.length
 ·rw[if_pos g,List.foldl_append]
  show rowsDD H (((unl H r os ns ns.length).foldl stepR os).take ns.length)=_
  unfold rowsDD at m ⊢
  rw[List.map_take,m,List.take_append_of_le_length (by rw[List.length_map];exact Nat.le_refl _),List.take_of_length_le (by rw[List.length_map];exact Nat.le_refl _)]
 ·rw[if_neg g,List.append_nil,m,List.drop_eq_nil_of_le (by rw[rowsDD_len];omega),List.append_nil]
def mendN (H:Hp) (X Z:List (List (List V))):Nat→List St3
 | 0=>[]
 | n+1=>mendN H X Z n++onS H n (atR X n) (atR Z n)
def furN (X:List (List (List V))) (R:Nat):Nat→List Nat
 | 0=>[]
 | n+1=>furN X R n++(if atR X (R+n)=[] then [] else [R+n])
def cutS (l:List Nat):List St3:=l.map fun r=>.cut r 0
def mendS (H:Hp) (R:Nat) (X Z:List (List (List V))):List St3:=mendN H X Z R++cutS (furN X R (X.length-R)).reverse
theorem fur_mem {X:List (List (List V))}{R i:Nat}:∀{n:Nat},i∈furN X R n↔R≤i∧i<R+n∧atR X i ≠ []
 | 0=>⟨fun h=>absurd h List.not_mem_nil,fun h=>absurd h.2.1 (by omega)⟩
 | n+1=>by
  have ih:=fur_mem (X:=X) (R:=R) (i:=i) (n:=n)
  show i∈furN X R n++(if atR X (R+n)=[] then [] else [R+n])↔_
  rw[List.mem_append,ih]
  by_cases c:atR X (R+n)=[]
  ·rw[if_pos c]
   constructor
   ·rintro(h|h)
    ·exact⟨h.1,by omega,h.2.2⟩
    ·exact absurd h List.not_mem_nil
   ·rintro⟨h1,h2,h3⟩
    exact .inl ⟨h1,by
     by_cases e:i=R+n
     ·rw[e]at h3;exact absurd c h3
     ·omega,h3⟩
  ·rw[if_neg c,List.mem_singleton]
   constructor
   ·rintro(h|h)
    ·exact⟨h.1,by omega,h.2.2⟩
    ·rw[h];exact⟨by omega,by omega,c⟩
   ·rintro⟨h1,h2,h3⟩
    by_cases e:i=R+n
    ·exact .inr e
    ·exact .inl ⟨h1,by omega,h3⟩
theorem fur_len {X:List (List (List V))}{R:Nat}:∀n:Nat,(furN X R n).length≤n
 | 0=>Nat.le_refl _
 | n+1=>by
  have:=fur_len (X:=X) (R:=R) n
  show(furN X R n++(if atR X (R+n)=[] then [] else [R+n])).length≤n+1
  rw[List.length_append]
  have:(if atR X (R+n)=[] then [] else [R+n]).length≤1:=by split <;> simp
  omega
theorem mendN_len {H:Hp}{X Z:List (List (List V))}(h:∀i,(atR Z i).length≤130):∀n:Nat,(mendN H X Z n).length≤131*n
 | 0=>Nat.zero_le _
 | n+1=>by
  have a:=mendN_len (H:=H) (X:=X) h n
  have b:=on_len (H:=H) (r:=n) (os:=atR X n) (ns:=atR Z n)
  have c:=h n
  show(mendN H X Z n++onS H n (atR X n) (atR Z n)).length≤_
  rw[List.length_append];omega
theorem at_en {H:Hp}{X:List (List (List V))}(en:EnX H X) {i:Nat}:∀es∈atR X i,∀v∈es,En H v:=fun es he v hv=>by
 unfold atR at he
 cases e:X[i]? with
 | none=>rw[e]at he;exact absurd he List.not_mem_nil
 | some x=>rw[e]at he;exact en x (List.mem_of_getElem? e) es he v hv
theorem mendN_keep {H H':Hp}{X Z:List (List (List V))}(kt:∀t xs,H t=some (.tup xs)→H' t=some (.tup xs)) (eX:EnX H X) (eZ:EnX H Z):∀n:Nat,mendN H' X Z n=mendN H X Z n
 | 0=>rfl
 | n+1=>by
  show mendN H' X Z n++onS H' n (atR X n) (atR Z n)=mendN H X Z n++onS H n (atR X n) (atR Z n)
  rw[mendN_keep kt eX eZ n,on_keep kt (at_en eX) (at_en eZ)]
theorem cl_rows {H:Hp}{Z:List (List (List V))}{w R:Nat}{es:List (Int×Str)}(cl:IsCl w R es (yD H Z)) (w1:1≤w) (w2:w≤8) (el:es.length≤129) (en:EnX H Z) (i:Nat):RowsOk H (atR Z i):=by
 cases e:Z[i]? with
 | none=>unfold atR;rw[e];exact⟨by show 0≤130;omega,fun _ h=>absurd h List.not_mem_nil⟩
 | some rows =>
  obtain⟨s,p1,_,p3⟩:=cl.2 i (rowsDD H rows) (by rw[yD_at,e];rfl)
  have sl:s.length≤es.length:=by rw[p1.length_eq];exact List.length_filter_le _ _
  have lr:=congrArg List.length p3
  rw[rowsDD_len]at lr
  have ea:atR Z i=rows:=by unfold atR;rw[e];rfl
  refine⟨by rw[ea,lr];exact Nat.le_trans (rowsG_le w1) (by omega),fun e he=>⟨?_,at_en en e he⟩⟩
  rw[ea]at he
  have hm:rowD H e∈rowsG s w:=by rw[← p3];exact List.mem_map.mpr ⟨e,he,rfl⟩
  unfold rowsG at hm
  obtain⟨i,_,hi⟩:=List.mem_map.mp hm
  have l:=congrArg List.length hi
  unfold rowD at l
  rw[List.length_take,List.length_map]at l
  omega
def sp_mending (K:PySem.W.Frag):Sp:=fun vs H Q _=>∃(y:Addr) (w R:Nat) (X:List (List (List V))),vs=[.ref y]∧Yd H y w R X∧1≤w∧w≤8∧1≤R∧R≤130∧X.length≤130∧(∀i,RowsOk H (atR X i))∧(allV X).length≤129 ∧
 ∀(D:Addr) (ss:List Addr) (Z:List (List (List V))) (H':Hp),H D=none→H' D=some (.lst (ss.map V.ref))→EnX H' Z→IsCl w R (stand R (yD H X)) (yD H' Z)→P1 (StA (hid D H')) ss (mendS H' R X Z)→Same H H'→Q (.ref D) H'
theorem refs_inj {as bs:List Addr}(h:as.map V.ref=bs.map V.ref):as=bs:=by
 have:=congrArg (List.map fun v=>match v with|V.ref a=>a|_=>0) h
 rw[List.map_map,List.map_map]at this
 simpa [Function.comp_def] using this
theorem flatY_len {H:Hp}{X:List (List (List V))}:(flatP (yD H X)).length =(allV X).length:=by rw[flat_yD,List.length_map]
def sp__law_onward (K:PySem.W.Frag):Sp:=fun vs H Q _=>∃(r:Nat) (a b:Addr) (os ns:List (List V)),vs=[.int r,.ref b,.ref a]∧Rws H a os∧Rws H b ns∧RowsOk H os∧RowsOk H ns∧r≤129 ∧
 ∀(D:Addr) (ss:List Addr) (H':Hp),H' D=some (.lst (ss.map V.ref))→P1 (StA H') ss (onS H r os ns)→Same H H'→Q (.ref D) H'
def sp__law_standing (K:PySem.W.Frag):Sp:=fun vs H Q _=>∃(y:Addr) (w R:Nat) (X:List (List (List V))),vs=[.ref y]∧Yd H y w R X∧1≤R∧R≤130∧(allV X).length≤190 ∧
 ∀(l:Addr) (ts:List Addr) (es:List (Int×Str)) (H':Hp),H' l=some (.lst (ts.map V.ref))→EL H' ts es→es.Perm (stand R (yD H X))→Same H H'→Q (.ref l) H'
def sp__law_steps_due (K:PySem.W.Frag):Sp:=fun vs H Q _=>∃(y y':Addr) (w w' R R':Nat) (X Z:List (List (List V))),vs=[.ref y,.ref y']∧Yd H y w R X∧Yd H y' w' R' Z∧Z.length=R∧R≤130∧X.length≤130∧(∀i,RowsOk H (atR X i))∧(∀i,RowsOk H (atR Z i)) ∧
 ∀(D:Addr) (ss:List Addr) (H':Hp),H' D=some (.lst (ss.map V.ref))→P1 (StA H') ss (mendS H R X Z)→Same H H'→Q (.ref D) H'
def sp__law_is_yard (K:PySem.W.Frag):Sp:=fun vs H Q _=>∃(y y' h:Addr) (w R:Int) (P:List (List (List (Int×Str)))),vs=[.ref y,.ref y']∧H y=some (.tup [.int w,.int R,.ref h])∧GD K H 5 (.ref y) (pY w R P)∧GD K H 5 (.ref y') (pY w R P)∧Q (.bl true) H
def sp__law_row (K:PySem.W.Frag):Sp:=fun vs H Q _=>∃(p kl:Addr) (N:Nat) (ks:List Int) (r:Int),vs=[.ref p,.ref kl,.int r]∧Hand H p N∧N+2000<2^60∧H kl=some (.lst (ks.map V.int))∧kl≠p∧ks ≠ []∧ks.length≤50∧(∀k∈ks,0≤k∧k<1152921504606846976)∧0≤r∧r≤129 ∧
 ∀(l:Addr) (es:List V) (H':Hp),H l=none→H' l=some (.lst es)→es.length≤4→(∀v∈es,En H' v)→Hand H' p (N+200)→Kp H H' p→Q (.ref l) H'
def Bo (H:Hp) (p D:Addr) (bs:List Addr) (X:List (List (List V))):Prop:=H D=some (.lst (bs.map V.ref))∧P1 (R2 (fun b=>b≠D∧b≠p) H) bs X∧EnX H X
theorem Bo.kp {H H':Hp}{p D:Addr}{N:Nat}{bs:List Addr}{X:List (List (List V))}(hh:Hand H p N) (k:Kp H H' p) (b:Bo H p D bs X):Bo H' p D bs X:=by
 obtain⟨h1,h2,h3⟩:=b
 exact⟨k.1 _ _ h1 (refs_ne hh h1),h2.imp fun b rows r=>r.keep fun a o s e=>k.1 _ _ e s.2,h3.keep (kt_of hh k)⟩
theorem Bo.same {H H':Hp}{p D:Addr}{bs:List Addr}{X:List (List (List V))}(s:Same H H') (b:Bo H p D bs X):Bo H' p D bs X:=by
 obtain⟨h1,h2,h3⟩:=b
 exact⟨s _ _ h1,h2.imp fun b rows r=>r.keep fun a o _ e=>s _ _ e,h3.same s⟩
theorem Bo.upd {H:Hp}{p D:Addr}{bs bs':List Addr}{X X':List (List (List V))}(b:Bo H p D bs X) (h:P1 (R2 (fun b=>b≠D∧b≠p) H) bs' X') (en:EnX H X'):Bo (upd H D (.lst (bs'.map V.ref))) p D bs' X':=by
 refine⟨upd_same,h.imp fun c rows r=>r.keep fun a o s e=>by rw[upd_ne s.1];exact e,en.keep fun t xs e=>?_⟩
 rw[upd_ne (ne_of e b.1 (by intro z;cases z))];exact e
theorem Bo.free {H:Hp}{p D e:Addr}{bs:List Addr}{X:List (List (List V))}(b:Bo H p D bs X) (n:H e=none):P1 (R2 (fun b=>b≠e∧b≠p) H) bs X:=b.2.1.imp fun c rows r=>r.mem.weak fun a s=>⟨fun z=>(by
 obtain⟨o,ho⟩:=s.2
 rw[z,n]at ho
 cases ho),s.1.2⟩
theorem allV_snoc {X:List (List (List V))}{rows:List (List V)}:(allV (X ++ [rows])).length =(allV X).length+rows.flatten.length:=by
 unfold allV
 rw[List.map_append,List.flatten_append,List.length_append]
 show _ + [rows.flatten].flatten.length=_
 rw[List.flatten_singleton]
theorem flat_le {a b:Nat}:∀{rows:List (List V)},rows.length≤a→(∀es∈rows,es.length≤b)→rows.flatten.length≤a*b
 | [],_,_=>Nat.zero_le _
 | es::rows,h1,h2=>by
  cases a with
  | zero=>simp at h1
  | succ a =>
   have ih:=flat_le (a:=a) (b:=b) (rows:=rows) (by simpa using h1) fun e he=>h2 e (List.mem_cons_of_mem _ he)
   rw[List.flatten_cons,List.length_append,Nat.add_mul,Nat.one_mul]
   have:=h2 es (List.mem_cons_self ..)
   omega
theorem allV_pad {X:List (List (List V))}{n:Nat}:allV (pad X n)=allV X:=by
 unfold allV pad
 rw[List.map_append,List.flatten_append,List.map_replicate]
 have:(List.replicate (n-X.length) (([]:List (List V)).flatten)).flatten=[]:=by
  induction (n-X.length) with
  | zero=>rfl
  | succ k ih=>rw[List.replicate_succ,List.flatten_cons,ih];rfl
 rw[this,List.append_nil]
theorem allV_set {rows r:List (List V)}:∀{X:List (List (List V))}{i:Nat},X[i]? = some rows→(allV (X.set i r)).length+rows.flatten.length =(allV X).length+r.flatten.length
 | [],_,h=>by simp at h
 | x::X,0,h=>by
  have e:x=rows:=by simpa using h
  subst e
  show(r.flatten++allV X).length+x.flatten.length =(x.flatten++allV X).length+r.flatten.length
  rw[List.length_append,List.length_append];omega
 | x::X,i+1,h=>by
  have ih:=allV_set (r:=r) (X:=X) (i:=i) (by simpa using h)
  show(x.flatten++allV (X.set i r)).length+rows.flatten.length =(x.flatten++allV X).length+r.flatten.length
  rw[List.length_append,List.length_append];omega
theorem trim_trim {α:Type}{X:List (List α)}:trim (trim X)=trim X:=by
 obtain⟨n,e⟩:=trim_split X
 conv=>rhs;rw[e]
 rw[trim_tail]
def SzD (X:List (List (List V))):Prop:=X.length≤130∧(∀rows∈X,rows.length≤4∧∀es∈rows,es.length≤4)∧(allV X).length≤124
def sp__law_drawn (K:PySem.W.Frag):Sp:=fun vs H Q _=>∃(p:Addr) (N:Nat),vs=[.ref p]∧Hand H p N∧N+100000<2^60 ∧
 ∀(y:Addr) (w R:Nat) (X:List (List (List V))) (H':Hp),Yd H' y w R X→1≤w→w≤8→1≤R→R≤130→SzD X→trim X=X→Hand H' p (N+20000)→Kp H H' p→Q (.ref y) H'
theorem SzD.szx {X:List (List (List V))}(h:SzD X):SzX X:=⟨by have:=h.1;omega,fun rows hr=>⟨by have:=(h.2.1 rows hr).1;omega,fun es he=>by have:=(h.2.1 rows hr).2 es he;omega⟩⟩
theorem mend_at {H:Hp}{X Z:List (List (List V))}{i:Nat}:∀n:Nat,atR ((mendN H X Z n).foldl doX X) i=if i<n then(onS H i (atR X i) (atR Z i)).foldl stepR (atR X i) else atR X i
 | 0=>by rw[if_neg (by omega)];rfl
 | n+1=>by
  have ih:=mend_at (H:=H) (X:=X) (Z:=Z) (i:=i) n
  show atR ((mendN H X Z n++onS H n (atR X n) (atR Z n)).foldl doX X) i=_
  rw[List.foldl_append,at_steps on_room,ih]
  by_cases c:i=n
  ·subst c
   rw[if_pos rfl,if_neg (by omega),if_pos (by omega)]
  ·rw[if_neg c]
   by_cases g:i<n
   ·rw[if_pos g,if_pos (by omega)]
   ·rw[if_neg g,if_neg (by omega)]
theorem cut_at {i:Nat}:∀{l:List Nat}{Y:List (List (List V))},atR ((cutS l).foldl doX Y) i=if i∈l then [] else atR Y i
 | [],Y=>by rw[if_neg List.not_mem_nil];rfl
 | r::l,Y=>by
  show atR ((cutS l).foldl doX (doX Y (.cut r 0))) i=_
  rw[cut_at,at_do (r:=r) (show inRoom r (.cut r 0) from rfl)]
  by_cases c:i∈l
  ·rw[if_pos c,if_pos (List.mem_cons_of_mem _ c)]
  ·rw[if_neg c]
   by_cases g:i=r
   ·rw[if_pos g,if_pos (by rw[g];exact List.mem_cons_self ..)]
    show List.take 0 (atR Y i)=[]
    exact List.take_zero
   ·rw[if_neg g,if_neg fun z=>(List.mem_cons.mp z).elim g c]
theorem fold_trim:∀{sts:List St3}{X:List (List (List V))},trim X=X→trim (sts.foldl doX X)=sts.foldl doX X
 | [],_,h=>h
 | st::sts,X,_=>fold_trim (sts:=sts) (X:=doX X st) (by rw[doX_eq];exact trim_trim)
theorem doR_not:∀{sts:List St3}{R:Int},(∀st∈sts,∀n,st ≠ .rooms n)→sts.foldl doR R=R
 | [],_,_=>rfl
 | st::sts,R,h=>by
  have e:doR R st=R:=by
   have:=h st (List.mem_cons_self ..)
   cases st with
   | rooms n=>exact absurd rfl (this n)
   | cut _ _=>rfl
   | row _ _ _=>rfl
  show sts.foldl doR (doR R st)=R
  rw[e];exact doR_not fun s hs=>h s (List.mem_cons_of_mem _ hs)
theorem mendN_not {H:Hp}{X Z:List (List (List V))}:∀n:Nat,∀st∈mendN H X Z n,∀m,st ≠ .rooms m
 | 0,_,h=>absurd h List.not_mem_nil
 | n+1,st,h=>by
  rcases List.mem_append.mp (show st∈mendN H X Z n++onS H n (atR X n) (atR Z n) from h) with z|z
  ·exact mendN_not n st z
  ·have:=on_room st z
   intro m e
   rw[e]at this;exact this
theorem mendS_R {H:Hp}{R:Nat}{X Z:List (List (List V))}{Q:Int}:(mendS H R X Z).foldl doR Q=Q:=doR_not fun st h m e=>by
 unfold mendS at h
 rcases List.mem_append.mp h with z|z
 ·exact mendN_not R st z m e
 ·unfold cutS at z
  obtain⟨r,_,rfl⟩:=List.mem_map.mp z
  cases e
theorem mend_fin {H:Hp}{R w:Nat}{X Z:List (List (List V))}{es:List (Int×Str)}(cl:IsCl w R es (yD H Z)) (tx:trim X=X):IsCl w R es (yD H ((mendS H R X Z).foldl doX X)):=by
 have zl:Z.length=R:=by have:=cl.1;unfold yD at this;rw[List.length_map]at this;exact this
 have at':∀i,atR ((mendS H R X Z).foldl doX X) i=if i∈(furN X R (X.length-R)).reverse then [] else if i<R then(onS H i (atR X i) (atR Z i)).foldl stepR (atR X i) else atR X i:=fun i=>by
  unfold mendS
  rw[List.foldl_append,cut_at,mend_at]
 have ft:=fold_trim (sts:=mendS H R X Z) tx
 refine cl_of_at ?_ fun i hi=>?_
 ·rw[← ft]
  refine trim_len fun i hi=>?_
  have:=at' i
  unfold atR at this
  rw[this]
  by_cases c:i∈(furN X R (X.length-R)).reverse
  ·rw[if_pos c]
  ·rw[if_neg c,if_neg (by omega)]
   by_cases g:i<X.length
   ·by_cases e:atR X i=[]
    ·exact e
    ·exact absurd (List.mem_reverse.mpr (fur_mem.mpr ⟨hi,by omega,e⟩)) c
   ·rw[List.getElem?_eq_none (by omega)];rfl
 ·rw[at' i,if_neg (fun z=>by have:=(fur_mem.mp (List.mem_reverse.mp z)).1;omega),if_pos hi,on_doneG]
  obtain⟨rows,hx⟩ : ∃rows,Z[i]? = some rows:=⟨_,List.getElem?_eq_getElem (by omega)⟩
  obtain⟨s,p1,p2,p3⟩:=cl.2 i (rowsDD H rows) (by rw[yD_at,hx];rfl)
  have ea:atR Z i=rows:=by unfold atR;rw[hx];rfl
  exact⟨s,p1,p2,by rw[ea];exact p3⟩
theorem unl_data {H:Hp}{r:Nat}{os ns ns':List (List V)}(e:rowsDD H ns=rowsDD H ns') (en:∀es∈ns,∀v∈es,En H v) (en':∀es∈ns',∀v∈es,En H v):∀k:Nat,(unl H r os ns k).map (dSt H) =(unl H r os ns' k).map (dSt H)
 | 0=>rfl
 | k+1=>by
  have ih:=unl_data (r:=r) (os:=os) e en en' k
  have ek:(rowsDD H ns)[k]? =(rowsDD H ns')[k]?:=by rw[e]
  rw[rowsDD_at,rowsDD_at]at ek
  show(unl H r os ns k++(match ns[k]? with|some es=>if unB H os es k=true then [St3.row r k es] else [] | none=>[])).map (dSt H) =(unl H r os ns' k++(match ns'[k]? with|some es=>if unB H os es k=true then [St3.row r k es] else [] | none=>[])).map (dSt H)
  rw[List.map_append,List.map_append,ih]
  congr 1
  cases c:ns[k]? with
  | none =>
   rw[c]at ek
   cases c':ns'[k]? with
   | none=>rfl
   | some es'=>rw[c']at ek;cases ek
  | some es =>
   rw[c]at ek
   cases c':ns'[k]? with
   | none=>rw[c']at ek;cases ek
   | some es' =>
    rw[c']at ek
    have er:rowD H es=rowD H es':=Option.some.inj ek
    have ub:unB H os es k=unB H os es' k:=by
     unfold unB
     cases os[k]? with
     | none=>rfl
     | some o =>
      show(!decide (rowD H o=rowD H es)) = !decide (rowD H o=rowD H es')
      rw[er]
    show(if unB H os es k=true then [St3.row r k es] else []).map (dSt H) =(if unB H os es' k=true then [St3.row r k es'] else []).map (dSt H)
    rw[ub]
    split
    ·show [PyData.tuple [.str "row",.int r,.int k,dRow H es]]=[PyData.tuple [.str "row",.int r,.int k,dRow H es']]
     rw[dRow_pRow (en es (List.mem_of_getElem? c)),dRow_pRow (en' es' (List.mem_of_getElem? c')),er]
    ·rfl
theorem on_data {H:Hp}{r:Nat}{os ns ns':List (List V)}(e:rowsDD H ns=rowsDD H ns') (en:∀es∈ns,∀v∈es,En H v) (en':∀es∈ns',∀v∈es,En H v):(onS H r os ns).map (dSt H) =(onS H r os ns').map (dSt H):=by
 have l:=congrArg List.length e
 rw[rowsDD_len,rowsDD_len]at l
 unfold onS
 rw[List.map_append,List.map_append,unl_data e en en',l]
theorem rows_eq {H:Hp}{Z Z':List (List (List V))}(e:yD H Z=yD H Z') (i:Nat):rowsDD H (atR Z i)=rowsDD H (atR Z' i):=by
 have ei:(yD H Z)[i]? =(yD H Z')[i]?:=by rw[e]
 rw[yD_at,yD_at]at ei
 unfold atR
 cases c:Z[i]? with
 | none =>
  rw[c]at ei
  cases c':Z'[i]? with
  | none=>rfl
  | some x=>rw[c']at ei;cases ei
 | some x =>
  rw[c]at ei
  cases c':Z'[i]? with
  | none=>rw[c']at ei;cases ei
  | some x'=>rw[c']at ei;exact Option.some.inj ei
theorem mendN_data {H:Hp}{X Z Z':List (List (List V))}(e:yD H Z=yD H Z') (en:EnX H Z) (en':EnX H Z'):∀n:Nat,(mendN H X Z n).map (dSt H) =(mendN H X Z' n).map (dSt H)
 | 0=>rfl
 | n+1=>by
  show(mendN H X Z n++onS H n (atR X n) (atR Z n)).map (dSt H) =(mendN H X Z' n++onS H n (atR X n) (atR Z' n)).map (dSt H)
  rw[List.map_append,List.map_append,mendN_data e en en' n,on_data (rows_eq e n) (at_en en) (at_en en')]
theorem mendS_data {H:Hp}{R:Nat}{X Z Z':List (List (List V))}(e:yD H Z=yD H Z') (en:EnX H Z) (en':EnX H Z'):(mendS H R X Z).map (dSt H) =(mendS H R X Z').map (dSt H):=by
 unfold mendS
 rw[List.map_append,List.map_append,mendN_data e en en']
theorem unl_like {H:Hp}{r:Nat}{os ns:List (List V)}(e:rowsDD H os=rowsDD H ns):∀k:Nat,unl H r os ns k=[]
 | 0=>rfl
 | k+1=>by
  have ih:=unl_like (r:=r) e k
  have ek:(rowsDD H os)[k]? =(rowsDD H ns)[k]?:=by rw[e]
  rw[rowsDD_at,rowsDD_at]at ek
  show unl H r os ns k++(match ns[k]? with|some es=>if unB H os es k=true then [St3.row r k es] else [] | none=>[])=[]
  rw[ih]
  cases c:ns[k]? with
  | none=>rfl
  | some es =>
   rw[c]at ek
   cases c':os[k]? with
   | none=>rw[c']at ek;cases ek
   | some o =>
    rw[c']at ek
    have er:rowD H o=rowD H es:=Option.some.inj ek
    have ub:unB H os es k=false:=by unfold unB;rw[c'];simp[er]
    show []++(if unB H os es k=true then [St3.row r k es] else [])=[]
    rw[ub];rfl
theorem mendS_none {H:Hp}{R:Nat}{X Z:List (List (List V))}(e:yD H X=yD H Z) (xl:X.length=R):mendS H R X Z=[]:=by
 have m:∀n,mendN H X Z n=[]:=fun n=>by
  induction n with
  | zero=>rfl
  | succ n ih =>
   show mendN H X Z n++onS H n (atR X n) (atR Z n)=[]
   have r:=rows_eq e n
   have l:=congrArg List.length r
   rw[rowsDD_len,rowsDD_len]at l
   rw[ih]
   unfold onS
   rw[unl_like r,if_neg (by omega)];rfl
 unfold mendS
 rw[m,show X.length-R=0 by omega];rfl
theorem step_mono {R:Int}{i:Nat}{acc:List (Int×Str)}{e x:Int×Str}(h:x∈acc):x∈stepE R i acc e:=by
 unfold stepE addE
 split
 ·split
  ·exact h
  ·exact List.mem_append_left _ h
 ·exact h
theorem fold_mono {R:Int}{i:Nat}{x:Int×Str}:∀{l acc:List (Int×Str)},x∈acc→x∈l.foldl (stepE R i) acc
 | [],_,h=>h
 | e::l,acc,h=>fold_mono (l:=l) (acc:=stepE R i acc e) (step_mono h)
theorem fold_has {R:Int}{i:Nat}{e:Int×Str}(he:roomV e.1 R =(i:Int)):∀{l acc:List (Int×Str)},e∈l→∃x∈l.foldl (stepE R i) acc,x.1=e.1
 | [],_,h=>absurd h List.not_mem_nil
 | a::l,acc,h=>by
  rcases List.mem_cons.mp h with z|z
  ·subst z
   show ∃x∈l.foldl (stepE R i) (stepE R i acc e),x.1=e.1
   by_cases c:e.1∈acc.map (·.1)
   ·obtain⟨x,hx,ex⟩:=List.mem_map.mp c
    exact⟨x,fold_mono (step_mono hx),ex⟩
   ·refine⟨e,fold_mono ?_,rfl⟩
    unfold stepE addE
    rw[if_pos he,if_neg c]
    simp
  ·exact fold_has he (l:=l) (acc:=stepE R i acc a) z
theorem stand_mono {R:Int}{D:List (List (List (Int×Str)))}{x:Int×Str}{n:Nat}(h:x∈standN R D n):∀m:Nat,x∈standN R D (n+m)
 | 0=>h
 | m+1=>fold_mono (stand_mono h m)
theorem stand_clean {w R:Nat}{es:List (Int×Str)}{D:List (List (List (Int×Str)))}(cl:IsCl w R es D) (nd:(es.map (·.1)).Nodup) (w1:1≤w) (R1:1≤R):(stand R D).Perm es:=by
 have sub:∀x∈stand R D,x∈es:=standN_ok (p:=fun x=>x∈es) (fun rows hr r hr2 e he=>by
  obtain⟨i,hi⟩:=List.getElem?_of_mem hr
  exact((cl.room w1 hi e).mp (List.mem_flatten.mpr ⟨r,hr2,he⟩)).1) _
 refine(List.perm_ext_iff_of_nodup (nd_of_keys stand_nd) (nd_of_keys nd)).mpr fun x=>⟨sub x,fun hx=>?_⟩
 have rb:=roomV_lt (k:=x.1) (R:=(R:Int)) (by omega)
 obtain⟨r,hr⟩ : ∃r:Nat,roomV x.1 R =(r:Int):=⟨(roomV x.1 R).toNat,by omega⟩
 have dl:=cl.1
 obtain⟨rows,hrow⟩ : ∃rows,D[r]? = some rows:=⟨_,List.getElem?_eq_getElem (by omega)⟩
 have hm:=(cl.room w1 hrow x).mpr ⟨hx,hr⟩
 obtain⟨z,hz,ez⟩:=fold_has (R:=(R:Int)) (i:=r) (e:=x) hr (l:=rows.flatten) (acc:=standN R D r) hm
 have hz1:z∈standN R D (r+1):=by
  show z∈(((D[r]?).getD []).flatten).foldl (stepE R r) (standN R D r)
  rw[hrow];exact hz
 have hz2:z∈stand R D:=by
  have:=stand_mono hz1 (R-(r+1))
  unfold stand
  rw[dl,Nat.min_self]
  rw[show r+1+(R-(r+1))=R by omega]at this
  exact this
 rw[← key_inj nd (sub z hz2) hx ez];exact hz2
theorem cl_trim {H:Hp}{Z:List (List (List V))}{w R:Nat}{es:List (Int×Str)}(cl:IsCl w R es (yD H Z)) (R1:1≤R):trim Z=Z:=by
 have zl:Z.length=R:=by have:=cl.1;unfold yD at this;rw[List.length_map]at this;exact this
 obtain⟨Y,rows,rfl⟩:=snoc_ex (xs:=Z) (fun z=>by rw[z]at zl;simp at zl;omega)
 refine trim_stop fun z=>?_
 obtain⟨s,_,_,p3⟩:=cl.2 Y.length (rowsDD H rows) (by rw[yD_at];simp)
 have:=rowsG_ne (s:=s) (w:=w)
 rw[← p3,z]at this
 exact absurd this (by simp[rowsDD])
theorem yard_pd {K:PySem.W.Frag}{S:Addr→Prop}{H:Hp}{y h:Addr}{w R:Int}{X:List (List (List V))}(hy:H y=some (.tup [.int w,.int R,.ref h])) (r:R3 S H h X) (e:EnX H X):GD K H 5 (.ref y) (pY w R (yD H X)):=by
 have g:=r.gd (K:=K) e
 rw[dX_pX e]at g
 exact GD.tup hy (.cons (.int _) (.cons (.int _) (.cons g .nil)))
theorem Yd.pd {K:PySem.W.Frag}{H:Hp}{y:Addr}{w R:Int}{X:List (List (List V))}(h:Yd H y w R X):GD K H 5 (.ref y) (pY w R (yD H X)):=by
 obtain⟨t,h1,h2,h3,_⟩:=h
 exact yard_pd h1 h2 h3
theorem steps_gd {K:PySem.W.Frag}{H:Hp}{D:Addr}{ss:List Addr}{sts:List St3}(hD:H D=some (.lst (ss.map V.ref))) (hP:P1 (StA H) ss sts):GD K H 6 (.ref D) (.list (sts.map (dSt H))):=GD.lst hD (gds_map hP fun a x _ h=>h.gd)
theorem Sy.apart {S:Addr→Prop}{H:Hp}{h r0 a0:Addr}{rs as0:List Addr}{bss:List (List Addr)}(y:Sy S H h (r0::rs) ((a0::as0)::bss)):P1 (R2 (fun b=>b≠a0) H) rs (XA H bss):=by
 have nd:=y.nd
 rw[List.nodup_cons,List.cons_append,List.nodup_cons]at nd
 obtain⟨_,n1,n2⟩:=nd
 rw[List.flatten_cons,List.cons_append]at n1 n2
 have n3:a0∉rs:=fun m=>by
  have:=(List.nodup_append.mp n2).2.2 a0 m a0 (List.mem_cons_self ..)
  exact this rfl
 have n4:a0∉as0++bss.flatten:=(List.nodup_cons.mp (List.nodup_append.mp n2).2.1).1
 obtain⟨_,hb⟩:=y.hb.tail
 refine⟨by rw[XA_len];exact hb.1,fun i b rows e1 e2=>?_⟩
 unfold XA at e2
 rw[List.getElem?_map]at e2
 cases c:bss[i]? with
 | none=>rw[c]at e2;cases e2
 | some as =>
  rw[c]at e2
  have e2:as.map (rowOf H)=rows:=Option.some.inj e2
  subst e2
  refine⟨fun z=>n3 (z ▸ List.mem_of_getElem? e1),as,hb.2 i b as e1 c,by rw[List.length_map],fun j a es e3 e4=>?_⟩
  rw[List.getElem?_map,e3]at e4
  have e4:rowOf H a=es:=Option.some.inj e4
  have am:a∈bss.flatten:=List.mem_flatten.mpr ⟨as,List.mem_of_getElem? c,List.mem_of_getElem? e3⟩
  obtain⟨es',he⟩:=y.ha a (by rw[List.flatten_cons];exact List.mem_append_right _ am)
  rw[rowOf_at he]at e4
  exact⟨fun z=>n4 (List.mem_append_right _ (z ▸ am)),by rw[← e4];exact he⟩
theorem cut_refsF {as:List Addr}{k:Nat}:cutV (as.map V.ref) (some (k:Int)) none =(as.drop k).map V.ref:=by
 unfold cutV
 rw[HT.sIx_nat,HT.sIx_none,List.length_map,← List.map_drop]
 by_cases h:k≤as.length
 ·rw[Nat.min_eq_left h,List.take_of_length_le (by rw[List.length_map,List.length_drop];omega)]
 ·rw[List.drop_eq_nil_of_le (by omega:as.length≤min k as.length),List.drop_eq_nil_of_le (by omega:as.length≤k)]
  simp
theorem stX_enA {H:Hp}:∀{sa:List Addr}{sts:List St3}{X:List (List (List V))},EnX H X→P1 (StA H) sa sts→EnX H (sts.foldl doX X)
 | _,[],_,h,_=>h
 | [],_::_,_,_,hP=>absurd hP.1 (by simp)
 | a::sa,st::sts,X,h,hP=>by
  obtain⟨h1,h2⟩:=hP.tail
  exact stX_enA (sts:=sts) (h.step h1) h2
section
variable {P:Program}{w:World}{K:PySem.W.Frag}{mg:Str→Option Value}{base:Heap}
theorem ok_last_bits {f:Addr}{fd:FuncData}(F:Fun K "last_bits" "last_bits" s_last_bits f fd) (mF:mg "last_bits" = some (.ref f)) (bF:Binds K fd ["key", "many"] []) (T:Bl mg)  : Cal P w K mg base "last_bits" ["key", "many"] 1 (sp_last_bits K):=by
 refine Cal.of F mF bF sc_last_bits (fun vs H Q E h=>?_) (fun cdv A outer s H vs Q E hr h=>?_)
 ·obtain⟨k,m,rfl,_⟩:=h;rfl
 obtain⟨k,m,rfl,hm,q⟩:=h
 refine⟨_,(pss_one (ps_ret (pe_op op_mod (pv 0) (pe_op op_shl pe_int (pv 1))))),?_⟩
 rw[st_last_bits]
 have p:=pow2_pos m
 walk_at"rd"
 have e:(1:Int)*2^(m:Int).toNat=2^m:=by rw[Int.one_mul,Int.toNat_natCast]
 rw[e]
 walk_at"rd"
 exact q
theorem ok_level {f:Addr}{fd:FuncData}(F:Fun K "level" "level" s_level f fd) (mF:mg "level" = some (.ref f)) (bF:Binds K fd ["rooms"] []) (T:Bl mg)  : Cal P w K mg base "level" ["rooms"] 1 (sp_level K):=by
 refine Cal.of F mF bF sc_level (fun vs H Q E h=>?_) (fun cdv A outer s H vs Q E hr h=>?_)
 ·obtain⟨R,rfl,_⟩:=h;rfl
 obtain⟨R,rfl,h1,q⟩:=h
 refine⟨_,(pss_one (ps_ret (pe_op op_sub (pe_bm0 PySem.F.plainAttrs_int PySem.F.slot_int_bit_length PySem.F.type_int_bit_length mt_bitlen (pv 0)) pe_int))),?_⟩
 rw[st_level]
 walk_at"rd"
 refine⟨rfl,?_⟩
 walk_at"rd"
 rw[bits_eq h1]
 exact q
theorem ok_turn {f:Addr}{fd:FuncData}(F:Fun K "turn" "turn" s_turn f fd) (mF:mg "turn" = some (.ref f)) (bF:Binds K fd ["rooms"] []) (T:Bl mg) (C_level:Cal P w K mg base "level" ["rooms"] 1 (sp_level K)):Cal P w K mg base "turn" ["rooms"] 2 (sp_turn K):=by
 refine Cal.of F mF bF sc_turn (fun vs H Q E h=>?_) (fun cdv A outer s H vs Q E hr h=>?_)
 ·obtain⟨R,rfl,_⟩:=h;rfl
 obtain⟨R,rfl,h1,h2,q⟩:=h
 have hl:=lg_60 h1 h2
 refine⟨_,(pss_one (ps_ret (pe_op op_sub (pv 0) (pe_op op_shl pe_int (pcl C_level (hr.mono (by decide)) (pa_cons (pv 0) pa_nil stx_Name)))))),?_⟩
 rw[st_turn]
 walk_at"rd"
 refine⟨R,rfl,h1,?_⟩
 walk_at"rd"
 have e:(1:Int)*2^(lg R:Int).toNat=2^lg R:=by rw[Int.one_mul,Int.toNat_natCast]
 rw[e]
 exact q
theorem ok_bits_for {f:Addr}{fd:FuncData}(F:Fun K "bits_for" "bits_for" s_bits_for f fd) (mF:mg "bits_for" = some (.ref f)) (bF:Binds K fd ["room", "rooms"] []) (T:Bl mg) (C_level:Cal P w K mg base "level" ["rooms"] 1 (sp_level K)) (C_turn:Cal P w K mg base "turn" ["rooms"] 2 (sp_turn K)):Cal P w K mg base "bits_for" ["room", "rooms"] 3 (sp_bits_for K):=by
 refine Cal.of F mF bF sc_bits_for (fun vs H Q E h=>?_) (fun cdv A outer s H vs Q E hr h=>?_)
 ·obtain⟨r,R,rfl,_⟩:=h;rfl
 obtain⟨r,R,rfl,h1,h2,q⟩:=h
 have hl:=lg_60 h1 h2
 refine⟨_,(pss_cons (ps_set (i:=2) sc_bits_for.nd rfl (Or.inl rfl) (pcl C_level (hr.mono (by decide)) (pa_cons (pv 1) pa_nil stx_Name)))
   (pss_cons (ps_if (pt_chain op_le op_lt (pcl C_turn (hr.mono (by decide)) (pa_cons (pv 1) pa_nil stx_Name)) (pv 0) (pe_op op_shl pe_int (pv 2))) (pss_one (ps_ret (pv 2))) pss_nil)
   (pss_one (ps_ret (pe_op op_add (pv 2) pe_int))))),?_⟩
 rw[st_bits_for]
 walk_at"rd"
 refine⟨R,rfl,h1,?_⟩
 walk_at"rd"
 refine⟨R,rfl,h1,h2,?_⟩
 walk_at"rd"
 have e:(1:Int)*2^(lg R:Int).toNat=2^lg R:=by rw[Int.one_mul,Int.toNat_natCast]
 refine rd_if (fun c=>?_) (fun c=>?_)
 ·walk_at"rd"
  rw[e]
  refine rd_if (fun d=>?_) (fun d=>?_)
  ·walk_at"rd"
   unfold bitsV at q
   rw[if_pos ⟨c,d⟩]at q
   exact q
  ·walk_at"rd"
   unfold bitsV at q
   rw[if_neg (fun z=>d z.2)]at q
   exact q
 ·walk_at"rd"
  unfold bitsV at q
  rw[if_neg (fun z=>c z.1)]at q
  exact q
theorem ok_room_of {f:Addr}{fd:FuncData}(F:Fun K "room_of" "room_of" s_room_of f fd) (mF:mg "room_of" = some (.ref f)) (bF:Binds K fd ["key", "rooms"] []) (T:Bl mg) (C_last_bits:Cal P w K mg base "last_bits" ["key", "many"] 1 (sp_last_bits K)) (C_bits_for:Cal P w K mg base "bits_for" ["room", "rooms"] 3 (sp_bits_for K)) (C_level:Cal P w K mg base "level" ["rooms"] 1 (sp_level K)):Cal P w K mg base "room_of" ["key", "rooms"] 4 (sp_room_of K):=by
 refine Cal.of F mF bF sc_room_of (fun vs H Q E h=>?_) (fun cdv A outer s H vs Q E hr h=>?_)
 ·obtain⟨k,R,rfl,_⟩:=h;rfl
 obtain⟨k,R,rfl,h1,h2,q⟩:=h
 have hl:=lg_60 h1 h2
 refine⟨_,(pss_one (ps_ret (pcl C_last_bits (hr.mono (by decide)) (pa_cons (pv 0) (pa_cons (pcl C_bits_for (hr.mono (by decide)) (pa_cons (pcl C_last_bits (hr.mono (by decide)) (pa_cons (pv 0) (pa_cons (pcl C_level (hr.mono (by decide)) (pa_cons (pv 1) pa_nil stx_Name)) pa_nil stx_Call) stx_Name)) (pa_cons (pv 1) pa_nil stx_Name) stx_Call)) pa_nil stx_Call) stx_Name)))),?_⟩
 rw[st_room_of]
 walk_at"rd"
 refine⟨R,rfl,h1,?_⟩
 walk_at"rd"
 refine⟨k,lg R,rfl,by omega,?_⟩
 walk_at"rd"
 refine⟨_,R,rfl,h1,h2,?_⟩
 walk_at"rd"
 refine⟨k,bitsV (k%2^lg R) R,rfl,by unfold bitsV;split <;> omega,?_⟩
 rw[bitsV_room]
 exact q
theorem ok_rows_for {f:Addr}{fd:FuncData}(F:Fun K "rows_for" "rows_for" s_rows_for f fd) (mF:mg "rows_for" = some (.ref f)) (bF:Binds K fd ["many", "wide"] []) (T:Bl mg)  : Cal P w K mg base "rows_for" ["many", "wide"] 1 (sp_rows_for K):=by
 refine Cal.of F mF bF sc_rows_for (fun vs H Q E h=>?_) (fun cdv A outer s H vs Q E hr h=>?_)
 ·obtain⟨m,w,rfl,_⟩:=h;rfl
 obtain⟨m,w,rfl,h1,h2,q⟩:=h
 refine⟨_,(pss_one (ps_ret (pe_callB (call_maxI rfl) rfl T.max bt_max (pa_cons pe_int (pa_cons (pe_op op_fdivB (pe_op op_sub (pe_op op_add (pv 0) (pv 1)) pe_int) (pv 1)) pa_nil stx_BinOp) stx_Constant)))),?_⟩
 rw[st_rows_for]
 walk_at"rd"
 exact q
theorem ok_cut_rows {f:Addr}{fd:FuncData}(F:Fun K "cut_rows" "cut_rows" s_cut_rows f fd) (mF:mg "cut_rows" = some (.ref f)) (bF:Binds K fd ["things", "wide"] []) (T:Bl mg) (C_rows_for:Cal P w K mg base "rows_for" ["many", "wide"] 1 (sp_rows_for K)):Cal P w K mg base "cut_rows" ["things", "wide"] 2 (sp_cut_rows K):=by
 refine Cal.of F mF bF sc_cut_rows (fun vs H Q E h=>?_) (fun cdv A outer s H vs Q E hr h=>?_)
 ·obtain⟨a,ms,w,rfl,_⟩:=h;rfl
 obtain⟨a,ms,w,rfl,ha,hl,w1,w2,q⟩:=h
 refine⟨_,(pss_one (ps_ret (pe_comp rfl (blkOk (sc:=defScope s_cut_rows) (N:=["things", "wide"]) (vs:=["at"]) (fs:=["things", "wide"]) (js:=[0,1]) (by decide +kernel) rfl rfl) (pi_range1 rfl T.range (pa_cons (pcl C_rows_for (hr.mono (by decide)) (pa_cons (pe_callB call_lenL rfl T.len bt_len (pa_cons (pv 0) pa_nil stx_Name)) (pa_cons (pv 1) pa_nil stx_Name) stx_Call)) pa_nil stx_Call)) (fun _ _ _ _=>pg_name (i:=0) (show(["at", "things", "wide"]:List Str).Nodup by decide +kernel) rfl (Or.inl rfl)) (fun _ _ _ _=>pif0) (fun _ _ _ _=>(pe_slice (sl_listK (K:=K) rfl) (pv 1) (po_some (pe_op op_mul (pv 0) (pv 2))) (po_some (pe_op op_mul (pe_op op_add (pv 0) pe_int) (pv 2)))))))),?_⟩
 rw[st_cut_rows]
 walk_at"rd"
 refine⟨_,w,rfl,by omega,by omega,?_⟩
 obtain⟨g1,g2,g3⟩:=up_div (g:=rfor ms.length w) (w:=w) (m:=ms.length) (by omega) (by omega) rfl
 have gb:rfor (ms.length:Int) w≤201:=by
  rcases g3 with z|z
  ·omega
  ·by_cases q:rfor (ms.length:Int) w≤201
   ·exact q
   ·have:(1:Int)*(rfor ms.length w-1)≤w*(rfor ms.length w-1):=Int.mul_le_mul_of_nonneg_right (by omega) (by omega)
    omega
 refine⟨_,rfl,by omega,by omega,fun D nD=>?_⟩
 unfold rowsVV at q
 have n201:(rfor (ms.length:Int) w).toNat≤201:=by omega
 generalize (rfor (ms.length:Int) w).toNat=n at q n201 ⊢
 refine comp_range (n:=n) (fun i σ' ys H'=>(∃x,σ'=[x,some (.ref a),some (.int w)])∧(∃as:List Addr,ys=as.map V.ref∧as.length=i∧(∀(k:Nat) (b:Addr) (es:List V),as[k]? = some b→(rowsNV ms w i)[k]? = some es→H' b=some (.lst es))∧(as.Nodup∧∀b∈as,∃o,H' b=some o)∧∀b∈as,H b=none∧b≠D)∧Same H H'∧H' D=some (.lst ys)) D ?_ ?_ ?_
 ·exact⟨⟨_,rfl⟩,⟨[],rfl,rfl,fun k b es e _=>by simp at e,⟨.nil,fun b hb=>by cases hb⟩,fun b hb=>by cases hb⟩,same_new nD _,upd_same⟩
 ·rintro i σ' ys H' hi ⟨⟨x,rfl⟩,⟨as,rfl,al,hL,⟨hN,hS⟩,hn⟩,s1,hD⟩
  have ha':=s1 _ _ ha
  walk_at"rd"
  have e1:(0+(i:Int))*w =((i*w:Nat):Int):=by rw[Int.zero_add,Int.natCast_mul]
  have e2:(0+(i:Int)+1)*w =(((i+1)*w:Nat):Int):=by rw[Int.zero_add,Int.natCast_mul];rfl
  have e3:(i+1)*w=i*w+w:=Nat.succ_mul i w
  rw[e1,e2]
  refine rd_slL (SqL.of ha') fun b nb=>?_
  rw[cut_mid (by omega),show(i+1)*w-i*w=w by omega]
  generalize hE:upd H' b _=H1
  obtain⟨hb1,s2⟩:=newo nb hE
  clear hE
  have bD:b≠D:=by intro e;rw[e,hD]at nb;cases nb
  refine⟨s2 _ _ hD,by rw[List.length_map];exact small1000 (by omega),⟨_,rfl⟩,⟨as ++ [b],by rw[List.map_append];rfl,by rw[List.length_append,al];rfl,?_,⟨?_,fun c hc=>?_⟩,fun c hc=>?_⟩,fun c o e=>?_,upd_same⟩
  ·intro k c es e1 e2
   rw[rowsNV_succ]at e2
   by_cases z:k<as.length
   ·rw[List.getElem?_append_left z]at e1
    rw[List.getElem?_append_left (by rw[rowsNV_len];omega)]at e2
    rw[upd_ne (hn c (List.mem_of_getElem? e1)).2];exact s2 _ _ (hL k c es e1 e2)
   ·have kl:=(List.getElem?_eq_some_iff.mp e1).1
    rw[List.length_append]at kl
    have hk:k=as.length:=by have:[b].length=1:=rfl;omega
    subst hk
    rw[List.getElem?_append_right (Nat.le_refl _),Nat.sub_self]at e1
    rw[List.getElem?_append_right (by rw[rowsNV_len];omega),rowsNV_len,al,Nat.sub_self]at e2
    have ec:b=c:=Option.some.inj e1
    have ee:(ms.drop (i*w)).take w=es:=Option.some.inj e2
    subst ec ee
    rw[upd_ne bD];exact hb1
  ·rw[List.nodup_append]
   refine⟨hN,by simp,fun x hx y hy z=>?_⟩
   rw[List.mem_singleton.mp hy]at z
   obtain⟨o,ho⟩:=hS x hx
   rw[z,nb]at ho;cases ho
  ·rcases List.mem_append.mp hc with z|z
   ·obtain⟨o,ho⟩:=hS c z
    exact⟨o,by rw[upd_ne (hn c z).2];exact s2 _ _ ho⟩
   ·rw[List.mem_singleton.mp z];exact⟨_,by rw[upd_ne bD];exact hb1⟩
  ·rcases List.mem_append.mp hc with z|z
   ·exact hn c z
   ·rw[List.mem_singleton.mp z];exact⟨s1.free nb,bD⟩
  ·rw[upd_ne (ne_of_none e nD)];exact s2 _ _ (s1 _ _ e)
 ·rintro σ' ys H' ⟨⟨x,rfl⟩,⟨as,rfl,al,hL,⟨hN,hS⟩,hn⟩,s1,hD⟩
  exact q D H' nD ⟨as,hD,by rw[al,rowsNV_len],hL,hN,hn⟩ s1
theorem ok_spread {f:Addr}{fd:FuncData}(F:Fun K "spread" "spread" s_spread f fd) (mF:mg "spread" = some (.ref f)) (bF:Binds K fd ["keys", "rooms"] []) (T:Bl mg) (C_room_of:Cal P w K mg base "room_of" ["key", "rooms"] 4 (sp_room_of K)):Cal P w K mg base "spread" ["keys", "rooms"] 5 (sp_spread K):=by
 refine Cal.of F mF bF sc_spread (fun vs H Q E h=>?_) (fun cdv A outer s H vs Q E hr h=>?_)
 ·obtain⟨a,ns,R,rfl,_⟩:=h;rfl
 obtain⟨a,ns,R,rfl,ha,hl,r1,r2,q⟩:=h
 refine⟨_,(pss_cons (ps_setc (i:=2) sc_spread.nd rfl rfl rfl (blkOk (sc:=defScope s_spread) (N:=["keys", "rooms", "told", "key"]) (vs:=["room"]) (fs:=[]) (js:=[]) (by decide +kernel) rfl rfl) (pi_range1 rfl T.range (pa_cons (pv 1) pa_nil stx_Name)) (fun _ _ _ _=>pg_name (i:=0) (show(["room"]:List Str).Nodup by decide +kernel) rfl (Or.inl rfl)) (fun _ _ _ _=>pif0) (fun _ _ _ _=>(pe_lst pa_nil)))
   (pss_cons (ps_for PassesOwn.never rfl (pi_list (pe_callB call_sortL rfl T.sorted bt_sorted (pa_cons (pv 0) pa_nil stx_Name))) (pg_name (i:=3) sc_spread.nd rfl (Or.inl rfl)) (pss_one (ps_expr (pe_bm PySem.F.plainAttrs_list PySem.F.slot_list_append PySem.F.type_list_append mt_append (pe_ix ix_list (pv 2) (pcl C_room_of (hr.mono (by decide)) (pa_cons (pv 3) (pa_cons (pv 1) pa_nil stx_Name) stx_Name)) (fun _ _=>rfl)) (pa_cons (pv 3) pa_nil stx_Name)))))
   (pss_one (ps_ret (pv 2))))),?_⟩
 rw[st_spread]
 walk_at"rd"
 refine⟨R,rfl,by omega,by omega,fun D nD=>?_⟩
 rw[Int.toNat_natCast]
 refine comp_range (n:=R) (fun i σ' ys H'=>(∃x,σ'=[x])∧Same H H'∧∃as:List Addr,ys=as.map V.ref∧H' D=some (.lst ys)∧Ls H' as (List.replicate i [])∧as.Nodup∧∀b∈as,H b=none∧b≠D) D ⟨⟨_,rfl⟩,same_new nD _,[],rfl,upd_same,trivial,List.nodup_nil,fun _ h=>by(cases h)⟩ ?_ ?_
 ·rintro i σ' ys H1 hi ⟨⟨x,rfl⟩,s1,as,rfl,hD,hL,hn,h4⟩
  walk_at"rd"
  refine⟨by decide,fun b nb=>?_⟩
  generalize hE:upd H1 b _=H2
  obtain⟨hb,s2⟩:=newo nb hE
  clear hE
  have bD:b≠D:=by intro e;rw[e,hD]at nb;cases nb
  have bas:b∉as:=fun m=>by
   obtain⟨r,_,e⟩:=hL.mem m
   rw[e]at nb;cases nb
  have al:=hL.rep
  refine⟨s2 _ _ hD,by rw[List.length_map,al];exact small1000 (by omega),⟨_,rfl⟩,fun c o e=>?_,as ++ [b],by rw[List.map_append];rfl,upd_same,?_,?_⟩
  ·rw[upd_ne (ne_of_none e nD)];exact s2 _ _ (s1 _ _ e)
  ·rw[List.replicate_succ']
   exact Ls.snoc (r:=[]) (by rw[upd_ne bD];exact hb) (hL.same fun c hc o e=>by rw[upd_ne (h4 c hc).2];exact s2 _ _ e)
  ·refine⟨?_,fun c hc=>?_⟩
   ·rw[List.nodup_append]
    exact⟨hn,by simp,fun x hx y hy e=>by simp at hy;rw[hy]at e;exact bas (e ▸ hx)⟩
   ·rcases List.mem_append.mp hc with m|m
    ·exact h4 c m
    ·rw[List.mem_singleton.mp m];exact⟨s1.free nb,bD⟩
 ·rintro σ' ys H1 ⟨⟨x,rfl⟩,s1,as,rfl,hD,hL,hn,h4⟩
  have hL:Ls H1 as (spreadV [] R):=by rw[spreadV_nil];exact hL
  walk_at"rd"
  refine rd_sortL (SqL.of (s1 _ _ ha)) (by omega) fun ms e p1 p2 ne=>?_
  generalize hE:upd H1 e _=H2
  obtain⟨he,s2⟩:=newo ne hE
  clear hE
  have eas:∀b∈as,b≠e:=fun b m z=>by
   obtain⟨r,_,hb⟩:=hL.mem m
   rw[z,ne]at hb;cases hb
  have ml:ms.length≤200:=by rw[p1.length_eq];exact hl
  have eD:D≠e:=fun z=>by rw[← z,hD]at ne;cases ne
  refine⟨e,rfl,⟨_,SqL.of he⟩,?_⟩
  refine for_listO (xs:=ms.map V.int) (fun i σ H'=>(∃x,σ=[some (.ref a),some (.int R),some (.ref D),x])∧Same H H'∧H' e=some (.lst (ms.map V.int))∧H' D=some (.lst (as.map V.ref))∧Ls H' as (spreadV (ms.take i) R)) ⟨⟨_,rfl⟩,s1.trans s2,he,s2 _ _ hD,hL.same fun b _ o=>s2 b o⟩ (fun _ _ _ _ h=>SqL.of h.2.2.1) ?_ ?_
  ·rintro i x σ H3 hx ⟨⟨x1,rfl⟩,s3,he3,hD3,hL3⟩
   obtain⟨k,hk,rfl⟩:=ints_get hx
   have il:=(List.getElem?_eq_some_iff.mp hk).1
   have rb:=roomV_lt (k:=k) (R:=R) (by omega)
   obtain⟨j,hj,jl⟩ : ∃j:Nat,roomV k R =(j:Int)∧j<R:=⟨(roomV k R).toNat,by omega,by omega⟩
   obtain⟨b,hb⟩ : ∃b,as[j]? = some b:=⟨_,List.getElem?_eq_getElem (show j<as.length by rw[hL3.len,spreadV_len];exact jl)⟩
   obtain⟨r,hr1,hbr⟩:=hL3.get hb
   have hr2:r =(ms.take i).filter fun k=>decide (roomV k R =(j:Int)):=by
    rw[spreadV_at jl]at hr1
    exact(Option.some.inj hr1).symm
   have hm:=List.mem_of_getElem? hb
   walk_at"rd"
   refine⟨k,R,rfl,by omega,by omega,?_⟩
   rw[hj]
   refine rd_ixL (SqL.of hD3) (at_ref' hb) ?_
   walk_at"rd"
   refine⟨.inl ⟨rfl,_,SqL.of hbr⟩,?_⟩
   walk_at"rd"
   refine⟨b,_,_,rfl,rfl,hbr,?_,?_⟩
   ·rw[List.length_map,hr2]
    refine small1000 (Nat.le_trans (List.length_filter_le _ _) ?_)
    rw[List.length_take];omega
   walk_at"rd"
   refine⟨⟨_,rfl⟩,fun c o e=>?_,?_,?_,?_⟩
   ·rw[upd_ne (ne_of_none e (h4 b hm).1)];exact s3 _ _ e
   ·rw[upd_ne (eas b hm).symm];exact he3
   ·rw[upd_ne (h4 b hm).2.symm];exact hD3
   ·rw[take_get hk,spreadV_push hj jl,← hr2]
    have:=hL3.set (r:=r ++ [k]) hn hb
    rw[List.map_append]at this
    exact this
  ·rintro σ H3 ⟨⟨x1,rfl⟩,s3,he3,hD3,hL3⟩
   rw[List.length_map,List.take_length]at hL3
   walk_at"rd"
   exact q ms D H3 p1 p2 nD ⟨as,hD3,hL3,hn,h4⟩ s3
theorem ok_yard_of {f:Addr}{fd:FuncData}(F:Fun K "yard_of" "yard_of" s_yard_of f fd) (mF:mg "yard_of" = some (.ref f)) (bF:Binds K fd ["wide", "rooms", "entries"] []) (T:Bl mg) (C_spread:Cal P w K mg base "spread" ["keys", "rooms"] 5 (sp_spread K)) (C_cut_rows:Cal P w K mg base "cut_rows" ["things", "wide"] 2 (sp_cut_rows K)):Cal P w K mg base "yard_of" ["wide", "rooms", "entries"] 6 (sp_yard_of K):=by
 refine Cal.of F mF bF sc_yard_of (fun vs H Q E h=>?_) (fun cdv A outer s H vs Q E hr h=>?_)
 ·obtain⟨a,ts,ps,w,R,rfl,_⟩:=h;rfl
 obtain⟨a,ts,ps,w,R,rfl,ha,tl,pl,hT,w1,w2,r1,r2,q⟩:=h
 have hu:=hr.units
 have hu1:=hu_of hr
 refine⟨_,(pss_cons (ps_set (i:=3) sc_yard_of.nd rfl (Or.inr rfl) (pe_callTy (call_dictP rfl) rfl T.dict bt_dict (pa_cons (pv 2) pa_nil stx_Name)))
   (pss_cons (ps_setc (i:=4) sc_yard_of.nd rfl rfl rfl (blkOk (sc:=defScope s_yard_of) (N:=["wide", "rooms", "entries", "things", "held"]) (vs:=["own"]) (fs:=["things"]) (js:=[3]) (by decide +kernel) rfl rfl) (pi_list (pcl C_spread (hr.mono (by decide)) (pa_cons (pe_callTy (call_listD rfl) rfl T.list bt_list (pa_cons (pv 3) pa_nil stx_Name)) (pa_cons (pv 1) pa_nil stx_Name) stx_Call))) (fun _ _ _ _=>pg_name (i:=0) (show(["own", "things"]:List Str).Nodup by decide +kernel) rfl (Or.inl rfl)) (fun _ _ _ _=>pif0) (fun _ _ _ _=>(pe_comp rfl (blkOkM (N:=["own", "things"]) (vs:=["key"]) (fs:=["things"]) (js:=[1]) rfl rfl (by kernel_rfl)) (pi_listK (K:=K) rfl (pv 0)) (fun _ _ _ _=>pg_name (i:=0) (show(["key", "things"]:List Str).Nodup by decide +kernel) rfl (Or.inl rfl)) (fun _ _ _ _=>pif0) (fun _ _ _ _=>(pe_tup (pa_cons (pv 0) (pa_cons (pe_dget hu1 (pv 1) (pv 0) (fun _ _=>rfl)) pa_nil stx_Subscript) stx_Name))))))
   (pss_one (ps_ret (pe_tup (pa_cons (pv 0) (pa_cons (pv 1) (pa_cons (pe_comp rfl (blkOk (sc:=defScope s_yard_of) (N:=["wide", "rooms", "entries", "things", "held"]) (vs:=["own"]) (fs:=["wide"]) (js:=[0]) (by decide +kernel) rfl rfl) (pi_list (pv 4)) (fun _ _ _ _=>pg_name (i:=0) (show(["own", "wide"]:List Str).Nodup by decide +kernel) rfl (Or.inl rfl)) (fun _ _ _ _=>pif0) (fun _ _ _ _=>(pcl C_cut_rows (hr.mono (by decide)) (pa_cons (pv 0) (pa_cons (pv 1) pa_nil stx_Name) stx_Name)))) pa_nil stx_ListComp) stx_Name) stx_Name)))))),?_⟩
 rw[st_yard_of]
 walk_at"rd"
 refine⟨a,ts,ps.map kf,rfl,SqL.of ha,by omega,by rw[List.length_map];exact tl,fun i t p e1 e2=>?_,fun d nd=>?_⟩
 ·rw[List.getElem?_map]at e2
  cases e:ps[i]? with
  | none=>rw[e]at e2;cases e2
  | some p'=>rw[e]at e2;cases e2;exact hT i t p' e1 e
 rw[show mergeK [] (ps.map kf) =(mergeI [] ps).map kf from mergeI_map (qs:=[])]
 generalize hE:upd H d _=H1
 obtain⟨hd,s1⟩:=newo nd hE
 clear hE
 have ql:(mergeI [] ps).length≤200:=by
  have h1:=length_mergeK (ps.map kf) []
  rw[show mergeK [] (ps.map kf) =(mergeI [] ps).map kf from mergeI_map (qs:=[]),List.length_map,List.length_map]at h1
  simp at h1;omega
 generalize mergeI [] ps=qs at hd q ql
 walk_at"rd"
 refine⟨d,_,rfl,hd,fun l nl=>?_⟩
 rw[List.map_map,show(qs.map ((fun kv:Key×V=>kV kv.1) ∘ kf)) =(qs.map (·.1)).map V.int by rw[List.map_map];rfl]
 generalize hE:upd H1 l _=H2
 obtain⟨hl,s2⟩:=newo nl hE
 clear hE
 walk_at"rd"
 refine⟨l,_,R,rfl,hl,by rw[List.length_map];exact ql,r1,r2,fun ms sp H3 mp mo nsp LNs s3=>?_⟩
 obtain⟨as,hsp,hLs,_,hnew⟩:=LNs
 have al:=hLs.len
 refine⟨sp,rfl,⟨_,SqL.of hsp⟩,fun D nD=>?_⟩
 have hd3:=s3 _ _ (s2 _ _ hd)
 have ml:ms.length≤200:=by rw[mp.length_eq,List.length_map];exact ql
 refine comp_list (xs:=as.map V.ref) (fun i σ' ys H'=>(∃x,σ'=[x,some (.ref d)])∧Same H3 H'∧(∃ds:List Addr,ys=ds.map V.ref∧ds.length=i∧∀(j:Nat) (dd:Addr) (own:List Int),ds[j]? = some dd→(spreadV ms R)[j]? = some own→Own (hid D H') (valI qs) dd own)∧H' D=some (.lst ys)) D ⟨⟨_,rfl⟩,same_new nD _,⟨[],rfl,rfl,fun j dd own e=>by simp at e⟩,upd_same⟩ (fun i σ' ys H' _ h=>SqL.of (h.2.1 _ _ hsp)) ?_ ?_
 ·rintro i x σ' ys H4 hx ⟨⟨x1,rfl⟩,s4,⟨ds,rfl,dl,hds⟩,hD⟩
  obtain⟨b,hb,rfl⟩ : ∃b,as[i]? = some b∧x=V.ref b:=by
   rw[List.getElem?_map]at hx
   cases e:as[i]? with
   | none=>rw[e]at hx;cases hx
   | some b=>rw[e]at hx;exact⟨b,rfl,(Option.some.inj hx).symm⟩
  obtain⟨own,ho,hob⟩:=hLs.get hb
  have il:i<200:=by have:=(List.getElem?_eq_some_iff.mp ho).1;rw[spreadV_len]at this;omega
  have ol:=spread_len2 ho
  have hb4:=s4 _ _ hob
  have hd4:=s4 _ _ hd3
  walk_at"rd"
  refine⟨b,rfl,⟨_,SqL.of hb4⟩,fun D2 nD2=>?_⟩
  have D2D:D2≠D:=fun z=>by rw[z,hD]at nD2;cases nD2
  refine comp_list (xs:=own.map V.int) (fun k σ' ys H'=>(∃x,σ'=[x,some (.ref d)])∧Same H4 H'∧(∃us:List Addr,ys=us.map V.ref∧us.length=k∧(∀u∈us,u≠D∧u≠D2)∧∀(n:Nat) (u:Addr) (key:Int),us[n]? = some u→own[n]? = some key→H' u=some (.tup [.int key,valI qs key]))∧H' D2=some (.lst ys)) D2 ⟨⟨_,rfl⟩,same_new nD2 _,⟨[],rfl,rfl,fun u hu=>by simp at hu,fun n u key e=>by simp at e⟩,upd_same⟩ (fun i σ' ys H' _ h=>SqL.of (h.2.1 _ _ hb4)) ?_ ?_
  ·rintro k x σ' ys H5 hx2 ⟨⟨x2,rfl⟩,s5,⟨us,rfl,ul,hne,hus⟩,hD2⟩
   obtain⟨key,hkey,rfl⟩:=ints_get hx2
   have kl:=(List.getElem?_eq_some_iff.mp hkey).1
   have hd5:=s5 _ _ hd4
   have km:key∈qs.map (·.1):=mp.mem_iff.mp (spread_mem ho (List.mem_of_getElem? hkey))
   walk_at"rd"
   refine⟨d,_,rfl,by rw[← valI_some km];exact DGet.k (k:=Sum.inl key) hd5,?_⟩
   walk_at"rd"
   refine⟨(by show 2≤sizeLine;decide),fun u nu=>?_⟩
   generalize hE:upd H5 u _=H6
   obtain⟨hu6,s6⟩:=newo nu hE
   clear hE
   have uD2:u≠D2:=fun z=>by rw[z,hD2]at nu;cases nu
   have uD:u≠D:=fun z=>by rw[z,s5 _ _ hD]at nu;cases nu
   refine⟨s6 _ _ hD2,by rw[List.length_map];exact small1000 (by omega),⟨_,rfl⟩,fun c o e=>?_,⟨us ++ [u],by rw[List.map_append];rfl,by rw[List.length_append,ul];rfl,fun v hv=>?_,fun n v kk e1 e2=>?_⟩,upd_same⟩
   ·rw[upd_ne (ne_of_none e nD2)];exact s6 _ _ (s5 _ _ e)
   ·rcases List.mem_append.mp hv with z|z
    ·exact hne v z
    ·rw[List.mem_singleton.mp z];exact⟨uD,uD2⟩
   ·by_cases z:n<us.length
    ·rw[List.getElem?_append_left z]at e1
     rw[upd_ne (hne v (List.mem_of_getElem? e1)).2];exact s6 _ _ (hus n v kk e1 e2)
    ·have nl:=(List.getElem?_eq_some_iff.mp e1).1
     rw[List.length_append]at nl
     have hk:n=us.length:=by have:[u].length=1:=rfl;omega
     subst hk
     rw[List.getElem?_append_right (Nat.le_refl _),Nat.sub_self]at e1
     rw[ul,hkey]at e2
     have ev:u=v:=Option.some.inj e1
     have ek:key=kk:=Option.some.inj e2
     subst ev ek
     rw[upd_ne uD2];exact hu6
  ·rintro σ' ys H5 ⟨⟨x2,rfl⟩,s5,⟨us,rfl,ul,hne,hus⟩,hD2⟩
   rw[List.length_map]at ul
   have hO:Own (hid D H5) (valI qs) D2 own:=⟨us,by rw[hid_ne D2D];exact hD2,ul,fun n u kk e1 e2=>by rw[hid_ne (hne u (List.mem_of_getElem? e1)).1];exact hus n u kk e1 e2⟩
   refine⟨s5 _ _ hD,by rw[List.length_map];exact small1000 (by omega),⟨_,rfl⟩,fun c o e=>?_,⟨ds ++ [D2],by rw[List.map_append];rfl,by rw[List.length_append,dl];rfl,?_⟩,upd_same⟩
   ·rw[upd_ne (ne_of_none e nD)];exact s5 _ _ (s4 _ _ e)
   ·rw[hid_upd]
    exact of_snoc (p:=fun H d own=>Own H (valI qs) d own) dl ho (fun j dd own' e1 e2=>(hds j dd own' e1 e2).same (hid_same s5)) hO
 ·rintro σ' ys H4 ⟨⟨x1,rfl⟩,s4,⟨ds,rfl,dl,hds⟩,hD⟩
  rw[List.length_map,al]at dl
  have hds':∀(j:Nat) (dd:Addr) (own:List Int),ds[j]? = some dd→(spreadV ms R)[j]? = some own→Own H4 (valI qs) dd own:=fun j dd own e1 e2=>(hds j dd own e1 e2).same hid_le
  clear hds
  have sA:=((s1.trans s2).trans s3).trans s4
  walk_at"rd"
  refine⟨D,rfl,⟨_,SqL.of hD⟩,fun E' nE=>?_⟩
  refine comp_list (xs:=ds.map V.ref) (fun i σ' ys H'=>(∃x,σ'=[x,some (.int w)])∧Same H4 H'∧(∃(rs:List Addr) (bss:List (List Addr)),ys=rs.map V.ref∧rs.length=i∧bss.length=i∧(∀(j:Nat) (r:Addr) (bs:List Addr) (own:List Int),rs[j]? = some r→bss[j]? = some bs→(spreadV ms R)[j]? = some own→OwnA (hid E' H') (valI qs) w r bs own)∧(plc rs bss).Nodup∧∀b∈plc rs bss,H4 b=none∧b≠E'∧∃o,H' b=some o)∧H' E'=some (.lst ys)) E' ⟨⟨_,rfl⟩,same_new nE _,⟨[],[],rfl,rfl,rfl,fun j r bs own e=>by simp at e,.nil,fun b hb=>by cases hb⟩,upd_same⟩ (fun i σ' ys H' _ h=>SqL.of (h.2.1 _ _ hD)) ?_ ?_
  ·rintro i x σ' ys H5 hx ⟨⟨x1,rfl⟩,s5,⟨rs,bss,rfl,rl,bl,hrs,hnd,hpl⟩,hE'⟩
   obtain⟨dd,hdd,rfl⟩ : ∃b,ds[i]? = some b∧x=V.ref b:=by
    rw[List.getElem?_map]at hx
    cases e:ds[i]? with
    | none=>rw[e]at hx;cases hx
    | some b=>rw[e]at hx;exact⟨b,rfl,(Option.some.inj hx).symm⟩
   have il:i <(spreadV ms R).length:=by rw[← dl];exact(List.getElem?_eq_some_iff.mp hdd).1
   have ho:(spreadV ms R)[i]? = some (spreadV ms R)[i]:=List.getElem?_eq_getElem il
   generalize (spreadV ms R)[i]=own at ho
   have ol:=spread_len2 ho
   rw[spreadV_len]at il
   obtain⟨us,hu1',ul,hus⟩:=hds' i dd own hdd ho
   walk_at"rd"
   refine⟨dd,us.map V.ref,w,rfl,s5 _ _ hu1',by rw[List.length_map];omega,w1,w2,fun l6 H6 nl6 RN s6=>?_⟩
   obtain⟨as6,h1,h2,h3,hN6,h4⟩:=RN
   have l6E:l6≠E':=fun z=>by rw[z,hE']at nl6;cases nl6
   have hO:OwnA (hid E' H6) (valI qs) w l6 as6 own:=by
    refine⟨us,ul,fun n u kk e1 e2=>?_,by rw[hid_ne l6E];exact h1,h2,fun n b es e1 e2=>?_⟩
    ·have hu4:=hus n u kk e1 e2
     rw[hid_ne (ne_of_none hu4 nE)]
     exact s6 _ _ (s5 _ _ hu4)
    ·have nb:=(h4 b (List.mem_of_getElem? e1)).1
     rw[hid_ne (fun z=>by rw[z,hE']at nb;cases nb)]
     exact h3 n b es e1 e2
   refine⟨s6 _ _ hE',by rw[List.length_map];exact small1000 (by omega),⟨_,rfl⟩,fun c o e=>?_,⟨rs ++ [l6],bss ++ [as6],by rw[List.map_append];rfl,by rw[List.length_append,rl];rfl,by rw[List.length_append,bl];rfl,?_,?_,fun b hb=>?_⟩,upd_same⟩
   ·rw[upd_ne (ne_of_none e nE)];exact s6 _ _ (s5 _ _ e)
   ·rw[hid_upd]
    exact of_snoc3 (p:=fun H r bs own=>OwnA H (valI qs) w r bs own) rl bl ho (fun j dd bs own' e1 e3 e2=>(hrs j dd bs own' e1 e3 e2).same (hid_same s6)) hO
   ·rw[plc_snoc (by omega),List.nodup_append]
    refine⟨hnd,List.nodup_cons.mpr ⟨fun z=>(h4 l6 z).2 rfl,hN6⟩,fun x hx y hy z=>?_⟩
    obtain⟨o,hox⟩:=(hpl x hx).2.2
    have:H5 y=none:=by
     rcases List.mem_cons.mp hy with c|c
     ·rw[c];exact nl6
     ·exact(h4 y c).1
    rw[z,this]at hox;cases hox
   ·rw[plc_snoc (by omega)]at hb
    rcases List.mem_append.mp hb with z|z
    ·obtain⟨g1,g2,o,g3⟩:=hpl b z
     exact⟨g1,g2,o,by rw[upd_ne g2];exact s6 _ _ g3⟩
    ·have n5:H5 b=none:=by
      rcases List.mem_cons.mp z with c|c
      ·rw[c];exact nl6
      ·exact(h4 b c).1
     have bE:b≠E':=fun c=>by rw[c,hE']at n5;cases n5
     refine⟨s5.free n5,bE,?_⟩
     rw[upd_ne bE]
     rcases List.mem_cons.mp z with c|c
     ·rw[c];exact⟨_,h1⟩
     ·obtain⟨n,hn⟩:=List.getElem?_of_mem c
      have nl:=(List.getElem?_eq_some_iff.mp hn).1
      rw[h2]at nl
      exact⟨_,h3 n b _ hn (List.getElem?_eq_getElem nl)⟩
  ·rintro σ' ys H5 ⟨⟨x1,rfl⟩,s5,⟨rs,bss,rfl,rl,bl,hrs,hnd,hpl⟩,hE'⟩
   rw[List.length_map,dl]at rl bl
   walk_at"rd"
   refine⟨(by show 3≤sizeLine;decide),fun t nt=>?_⟩
   generalize hE:upd H5 t _=H6
   obtain⟨ht,s6⟩:=newo nt hE
   clear hE
   exact q ms t E' H6 mp mo ht ⟨rs,bss,s6 _ _ hE',rl,bl,fun j r bs own e1 e3 e2=>((hrs j r bs own e1 e3 e2).same hid_le).same s6,List.nodup_cons.mpr ⟨fun z=>(hpl E' z).2.1 rfl,hnd⟩,fun b hb=>sA.free (by
    rcases List.mem_cons.mp hb with c|c
    ·rw[c];exact nE
    ·exact(hpl b c).1)⟩ ((sA.trans s5).trans s6)
theorem ok_entries_in {f:Addr}{fd:FuncData}(F:Fun K "entries_in" "entries_in" s_entries_in f fd) (mF:mg "entries_in" = some (.ref f)) (bF:Binds K fd ["rows"] []) (T:Bl mg)  : Cal P w K mg base "entries_in" ["rows"] 1 (sp_entries_in K):=by
 refine Cal.of F mF bF sc_entries_in (fun vs H Q E h=>?_) (fun cdv A outer s H vs Q E hr h=>?_)
 ·obtain⟨l,X,rfl,_⟩:=h;rfl
 obtain⟨l,X,rfl,⟨as,hl,al,hr2⟩,hz,q⟩:=h
 refine⟨_,(pss_one (ps_ret (pe_comp2 rfl (blkOk (sc:=defScope s_entries_in) (N:=["rows"]) (vs:=["row", "entry"]) (fs:=[]) (js:=[]) (by decide +kernel) rfl rfl) (pi_list (pv 0)) (fun _ _ _ _=>pg_name (i:=0) (show(["row", "entry"]:List Str).Nodup by decide +kernel) rfl (Or.inl rfl)) (fun _ _ _ _=>pif0) (fun _ _ _ _=>(pi_listK (K:=K) rfl (pv 0))) (fun _ _ _ _=>pg_name (i:=1) (show(["row", "entry"]:List Str).Nodup by decide +kernel) rfl (Or.inl rfl)) (fun _ _ _ _=>pif0) (fun _ _ _ _=>(pv 1))))),?_⟩
 rw[st_entries_in]
 walk_at"rd"
 refine rd_comp2 ?_
 walk_at"rd"
 refine⟨l,rfl,⟨_,SqL.of hl⟩,fun D nD=>?_⟩
 refine comp2_list (xs:=as.map V.ref) (fun i σ' ys H'=>(∃x y,σ'=[x,y])∧Same H H'∧ys =(X.take i).flatten∧H' D=some (.lst ys)) D ⟨⟨_,_,rfl⟩,same_new nD _,rfl,upd_same⟩ (fun i σ' ys H' _ h=>SqL.of (h.2.1 _ _ hl)) ?_ ?_
 ·rintro i x σ' ys H1 hx ⟨⟨x1,y1,rfl⟩,s1,rfl,hD⟩
  obtain⟨a,ha,rfl⟩ : ∃a,as[i]? = some a∧x=V.ref a:=by
   rw[List.getElem?_map]at hx
   cases e:as[i]? with
   | none=>rw[e]at hx;cases hx
   | some a=>rw[e]at hx;exact⟨a,rfl,(Option.some.inj hx).symm⟩
  have il:i<X.length:=by rw[← al];exact(List.getElem?_eq_some_iff.mp ha).1
  have hes:=hr2 i a _ ha (List.getElem?_eq_getElem il)
  have hX:X[i]? = some X[i]:=List.getElem?_eq_getElem il
  generalize X[i]=es at hes hX
  have fl:=flat_len hX
  walk_at"rd"
  refine rd_in ?_
  walk_at"rd"
  refine⟨a,rfl,⟨_,SqL.of (s1 _ _ hes)⟩,?_⟩
  refine in_list (xs:=es) (fun j σ' ys' H'=>(∃x y,σ'=[x,y])∧Same H H'∧ys' =(X.take i).flatten++es.take j∧H' D=some (.lst ys')) ⟨⟨_,_,rfl⟩,s1,by simp,hD⟩ (fun j σ' ys' H' _ h=>SqL.of (h.2.1 _ _ hes)) ?_ ?_
  ·rintro j z σ' ys' H2 hz' ⟨⟨x2,y2,rfl⟩,s2,rfl,hD2⟩
   have jl:=(List.getElem?_eq_some_iff.mp hz').1
   walk_at"rd"
   refine⟨hD2,?_,⟨_,_,rfl⟩,fun c o e=>?_,?_,upd_same⟩
   ·rw[List.length_append,List.length_take,sizeLine_eq];omega
   ·rw[upd_ne (ne_of_none e nD)];exact s2 _ _ e
   ·rw[List.take_add_one,hz',← List.append_assoc];rfl
  ·rintro σ' ys' H2 ⟨⟨x2,y2,rfl⟩,s2,rfl,hD2⟩
   rw[List.take_length]at hD2
   refine⟨⟨_,_,rfl⟩,s2,by rw[List.take_length,flat_take hX],?_⟩
   rw[List.take_length];exact hD2
 ·rintro σ' ys H1 ⟨⟨x1,y1,rfl⟩,s1,rfl,hD⟩
  rw[List.length_map,al,List.take_length]at hD
  exact q D H1 nD hD s1
theorem ok_rows_at {f:Addr}{fd:FuncData}(F:Fun K "rows_at" "rows_at" s_rows_at f fd) (mF:mg "rows_at" = some (.ref f)) (bF:Binds K fd ["held", "room"] []) (T:Bl mg)  : Cal P w K mg base "rows_at" ["held", "room"] 1 (sp_rows_at K):=by
 refine Cal.of F mF bF sc_rows_at (fun vs H Q E h=>?_) (fun cdv A outer s H vs Q E hr h=>?_)
 ·obtain⟨h,bs,r,rfl,_⟩:=h;rfl
 obtain⟨h,bs,r,rfl,hh,q⟩:=h
 refine⟨_,(pss_one (ps_ret (pe_ifExp (pt_cmpR op_lt (pv 1) (pe_callB call_lenL rfl T.len bt_len (pa_cons (pv 0) pa_nil stx_Name)) (nomark _)) (pe_ix ix_list (pv 0) (pv 1) (fun _ _=>rfl)) (pe_lst pa_nil)))),?_⟩
 rw[st_rows_at]
 walk_at"rd"
 refine rd_if (fun c=>?_) (fun c=>?_)
 ·rw[List.length_map]at c
  have hb:=List.getElem?_eq_getElem (show r<bs.length by omega)
  walk_at"rd"
  refine rd_ixL (SqL.of hh) (at_ref' hb) ?_
  exact q _ H (Same.refl H) (.inl hb)
 ·rw[List.length_map]at c
  walk_at"rd"
  exact⟨by decide,fun e ne=>q e _ (same_new ne _) (.inr ⟨by omega,upd_same⟩)⟩
theorem ok_done_all {f:Addr}{fd:FuncData}(F:Fun K "done_all" "done_all" s_done_all f fd) (mF:mg "done_all" = some (.ref f)) (bF:Binds K fd ["yard", "steps"] []) (T:Bl mg) (C_leave_last_rooms:Cal P w K mg base "leave_last_rooms" ["held"] 1 (sp_leave_last_rooms K)) (C_lay_row:Cal P w K mg base "lay_row" ["held", "room", "at", "row"] 1 (sp_lay_row K)) (C_cut_room:Cal P w K mg base "cut_room" ["held", "room", "many"] 1 (sp_cut_room K)):Cal P w K mg base "done_all" ["yard", "steps"] 2 (sp_done_all K):=by
 refine Cal.of F mF bF sc_done_all (fun vs H Q E h=>?_) (fun cdv A outer s H vs Q E hr h=>?_)
 ·obtain⟨y,ss,w,R,X,sa,sts,rfl,_⟩:=h;rfl
 obtain⟨y,ss,w,R,X,sa,sts,rfl,⟨h0,hy,⟨bs0,hh0,hP0⟩,hen,sz⟩,hss,hS,q⟩:=h
 refine⟨_,(pss_cons (ps_asg (pv 0) (pg_tup rfl (pgs_cons (pg_name (i:=2) sc_done_all.nd rfl (Or.inl rfl)) (pgs_cons (pg_name (i:=3) sc_done_all.nd rfl (Or.inl rfl)) (pgs_cons (pg_name (i:=4) sc_done_all.nd rfl (Or.inl rfl)) pgs_nil)))))
   (pss_cons (ps_setc (i:=5) sc_done_all.nd rfl rfl rfl (blkOk (sc:=defScope s_done_all) (N:=["yard", "steps", "wide", "rooms", "held", "fresh", "step"]) (vs:=["rows"]) (fs:=[]) (js:=[]) (by decide +kernel) rfl rfl) (pi_list (pv 4)) (fun _ _ _ _=>pg_name (i:=0) (show(["rows"]:List Str).Nodup by decide +kernel) rfl (Or.inl rfl)) (fun _ _ _ _=>pif0) (fun _ _ _ _=>(pe_comp rfl (blkOkM (N:=["rows"]) (vs:=["row"]) (fs:=[]) (js:=[]) rfl rfl (by kernel_rfl)) (pi_listK (K:=K) rfl (pv 0)) (fun _ _ _ _=>pg_name (i:=0) (show(["row"]:List Str).Nodup by decide +kernel) rfl (Or.inl rfl)) (fun _ _ _ _=>pif0) (fun _ _ _ _=>(pe_callTy (call_list_ofK (K:=K) rfl) rfl T.list bt_list (pa_cons (pv 0) pa_nil stx_Name))))))
   (pss_cons (ps_for PassesOwn.never rfl (pi_list (pv 1)) (pg_name (i:=6) sc_done_all.nd rfl (Or.inl rfl)) (pss_cons (ps_cut (ps_if (pt_cmpR op_eq (pe_ix ix_tup (pv 6) pe_int (fun _ _=>rfl)) pe_str (nomark _)) (pss_one (ps_expr (pcl C_lay_row (hr.mono (by decide)) (pa_cons (pv 5) (pa_cons (pe_ix ix_tup (pv 6) pe_int (fun _ _=>rfl)) (pa_cons (pe_ix ix_tup (pv 6) pe_int (fun _ _=>rfl)) (pa_cons (pe_ix ix_tup (pv 6) pe_int (fun _ _=>rfl)) pa_nil stx_Subscript) stx_Subscript) stx_Subscript) stx_Name)))) (pss_one (ps_if (pt_cmpR op_eq (pe_ix ix_tup (pv 6) pe_int (fun _ _=>rfl)) pe_str (nomark _)) (pss_one (ps_expr (pcl C_cut_room (hr.mono (by decide)) (pa_cons (pv 5) (pa_cons (pe_ix ix_tup (pv 6) pe_int (fun _ _=>rfl)) (pa_cons (pe_ix ix_tup (pv 6) pe_int (fun _ _=>rfl)) pa_nil stx_Subscript) stx_Subscript) stx_Name)))) (pss_one (ps_set (i:=3) sc_done_all.nd rfl (Or.inl rfl) (pe_ix ix_tup (pv 6) pe_int (fun _ _=>rfl))))))))
   (pss_one (ps_expr (pcl C_leave_last_rooms (hr.mono (by decide)) (pa_cons (pv 5) pa_nil stx_Name))))))
   (pss_one (ps_ret (pe_tup (pa_cons (pv 2) (pa_cons (pv 3) (pa_cons (pv 5) pa_nil stx_Name) stx_Name) stx_Name))))))),?_⟩
 rw[st_done_all]
 walk_at"rd"
 refine⟨y,_,rfl,SqT.of hy,rfl,_,_,rfl,_,_,rfl,_,_,rfl,rfl,?_⟩
 walk_at"rd"
 refine⟨h0,rfl,⟨_,SqL.of hh0⟩,fun D nD=>?_⟩
 refine comp_list (xs:=bs0.map V.ref) (fun i σ' ys H'=>(∃x,σ'=[x])∧Same H H'∧∃cs:List Addr,ys=cs.map V.ref∧T3 (fun b=>H b=none) H' D cs (X.take i)) D ⟨⟨_,rfl⟩,same_new nD _,[],rfl,nD,upd_same,List.nodup_nil,(fun z=>by cases z),P1.nil⟩ (fun i σ' ys H' _ h=>SqL.of (h.2.1 _ _ hh0)) ?_ ?_
 ·rintro i x σ' ys H1 hx ⟨⟨x1,rfl⟩,s1,cs,rfl,t1⟩
  obtain⟨b,hb,rfl⟩:=refs_get hx
  obtain⟨rows,hxi,_,as,hb1,hA⟩:=hP0.get hb
  have il:=(List.getElem?_eq_some_iff.mp hb).1
  have bl0:=hP0.1
  have szr:=(sz.2 rows (List.mem_of_getElem? hxi)).1
  have al:=hA.1
  have hD1:=t1.2.1
  walk_at"rd"
  refine⟨b,rfl,⟨_,SqL.of (s1 _ _ hb1)⟩,fun D' nD'=>?_⟩
  obtain⟨nDD,_⟩:=t1.new nD'
  refine comp_list (xs:=as.map V.ref) (fun j σ' ys H'=>(∃x,σ'=[x])∧Same H1 H'∧∃cs':List Addr,ys=cs'.map V.ref∧H' D'=some (.lst ys)∧P1 (fun a es=>H1 a=none∧a≠D'∧H' a=some (.lst es)) cs' (rows.take j)) D' ⟨⟨_,rfl⟩,same_new nD' _,[],rfl,upd_same,P1.nil⟩ (fun i σ' ys H' _ h=>SqL.of (h.2.1 _ _ (s1 _ _ hb1))) ?_ ?_
  ·rintro j x σ' ys H2 hx ⟨⟨x2,rfl⟩,s2,cs',rfl,hD',hC⟩
   obtain⟨a,ha,rfl⟩:=refs_get hx
   obtain⟨es,hes,_,ha1⟩:=hA.get ha
   have jl:=(List.getElem?_eq_some_iff.mp ha).1
   have cl:=hC.1
   rw[List.length_take]at cl
   walk_at"rd"
   refine rd_listOf (SqL.of (s2 _ _ (s1 _ _ ha1))) fun e ne=>?_
   generalize hE:upd H2 e _=H3
   obtain⟨he,s3⟩:=newo ne hE
   clear hE
   have eD:e≠D':=fun z=>by rw[z,hD']at ne;cases ne
   refine⟨s3 _ _ hD',by rw[List.length_map];exact small1000 (by omega),⟨_,rfl⟩,fun c o e=>by rw[upd_ne (ne_of_none e nD')];exact s3 _ _ (s2 _ _ e),cs' ++ [e],by rw[List.map_append];rfl,upd_same,?_⟩
   rw[take_get hes]
   refine(hC.imp fun a es t=>⟨t.1,t.2.1,?_⟩).snoc ⟨s2.free ne,eD,?_⟩
   ·rw[upd_ne eD];exact he
   ·rw[upd_ne t.2.1];exact s3 _ _ t.2.2
  ·rintro σ' ys H2 ⟨⟨x2,rfl⟩,s2,cs',rfl,hD',hC⟩
   rw[List.length_map,al,List.take_length]at hC
   have hD2:=s2 _ _ hD1
   have cl:=t1.2.2.2.2.1
   rw[List.length_take]at cl
   walk_at"rd"
   refine⟨hD2,by rw[List.length_map];exact small1000 (by have:=sz.1;omega),⟨_,rfl⟩,fun c o e=>by rw[upd_ne (ne_of_none e nD)];exact s2 _ _ (s1 _ _ e),cs ++ [D'],by rw[List.map_append];rfl,?_⟩
   rw[take_get hxi]
   refine t1.add (fun b o n e=>by rw[upd_ne n];exact s2 _ _ e) (by rw[upd_same,List.map_append];rfl) nD' (s1.free nD') (by rw[upd_ne nDD];exact hD') (hC.imp fun a es t=>⟨s1.free t.1,t.1,t.2.1,?_⟩)
   rw[upd_ne (t1.new t.1).1];exact t.2.2
 rintro σ' ys H1 ⟨⟨x1,rfl⟩,s1,cs,rfl,t1⟩
 rw[List.length_map,hP0.1,List.take_length]at t1
 walk_at"rd"
 refine⟨ss,rfl,⟨_,SqL.of (s1 _ _ hss)⟩,?_⟩
 have sl:=hS.1
 refine for_listO (xs:=sa.map V.ref) (fun i σ H'=>(∃x6,σ=[some (.ref y),some (.ref ss),some (.int w),some (.int ((sts.take i).foldl doR R)),some (.ref h0),some (.ref D),x6])∧Same H H'∧SzX ((sts.take i).foldl doX X)∧∃bs',T3 (fun b=>H b=none) H' D bs' ((sts.take i).foldl doX X)) ⟨⟨_,rfl⟩,s1,sz,cs,t1⟩ (fun _ _ _ _ h=>SqL.of (h.2.1 _ _ hss)) ?_ ?_
 ·rintro i x σ H2 hx ⟨⟨x6,rfl⟩,s2,sz2,bs2,t2⟩
  obtain⟨sp,hsp,rfl⟩:=refs_get hx
  obtain⟨st,hst,hA⟩:=hS.get hsp
  have hA2:=hA.same s2
  have szn:=sz2.step hA2
  have frn:Fr (fun b=>H b=none) H2:=fun e n=>s2.free n
  have back:∀{H3:Hp},Kq (fun b=>H b=none) H2 H3→Same H H3:=fun k b o e=>k b o (fun z=>by have z':H b=none:=z;rw[e]at z';cases z') (s2 _ _ e)
  have frk:∀{H3:Hp},Kq (fun b=>H b=none) H2 H3→Fr (fun b=>H b=none) H3:=fun k=>frn.keep k
  rw[take_get hst,List.foldl_append,List.foldl_append]
  show _
  generalize (sts.take i).foldl doX X=Y at t2 sz2 szn ⊢
  generalize (sts.take i).foldl doR R=R2
  have nrow:∀z:Str,decide (V.str z=V.str "row")=decide (z = "row"):=fun z=>by simp
  have ncut:∀z:Str,decide (V.str z=V.str "cut")=decide (z = "cut"):=fun z=>by simp
  cases st with
  | row r a es =>
   obtain⟨l,h1,h2,r2,a2,el,_⟩:=hA2
   obtain⟨l',h1',h2',_⟩:=hA
   have el':l'=l:=by
    have:=s2 _ _ h1'
    rw[h1]at this
    simpa using this.symm
   subst el'
   walk_at"rd"
   refine⟨fun σ' H'=>σ'=[some (.ref y),some (.ref ss),some (.int w),some (.int R2),some (.ref h0),some (.ref D),some (.ref sp)]∧∃bs',T3 (fun b=>H b=none) H' D bs' (rowX Y r a es)∧Kq (fun b=>H b=none) H2 H',?_,?_⟩
   ·walk_at"rd"
    refine⟨rfl,?_⟩
    rw[decide_eq_true rfl]
    walk_at"rd"
    refine⟨_,D,bs2,Y,r,a,l',es,rfl,t2,frn,sz2,r2,a2,(fun z=>by have z':H l'=none:=z;rw[h2']at z';cases z'),h2,by omega,fun bs3 H3 t3 k3=>?_⟩
    exact⟨rfl,bs3,t3,k3⟩
   ·rintro σ' H3 ⟨rfl,bs3,t3,k3⟩
    walk_at"rd"
    refine⟨_,D,bs3,_,rfl,t3,fun bs4 H4 t4 k4=>?_⟩
    walk_at"rd"
    exact⟨⟨_,rfl⟩,back (k3.trans k4),szn,bs4,t4⟩
  | cut r m =>
   obtain⟨h1,_⟩:=hA2
   walk_at"rd"
   refine⟨fun σ' H'=>σ'=[some (.ref y),some (.ref ss),some (.int w),some (.int R2),some (.ref h0),some (.ref D),some (.ref sp)]∧∃bs',T3 (fun b=>H b=none) H' D bs' (Y.modify r (List.take m))∧Kq (fun b=>H b=none) H2 H',?_,?_⟩
   ·walk_at"rd"
    refine⟨rfl,?_⟩
    rw[show decide (V.str "cut" = V.str "row")=false from by decide +kernel]
    walk_at"rd"
    refine⟨rfl,?_⟩
    rw[decide_eq_true rfl]
    walk_at"rd"
    refine⟨_,D,bs2,Y,r,m,rfl,t2,frn,fun bs3 H3 t3 k3=>?_⟩
    exact⟨rfl,bs3,t3,k3⟩
   ·rintro σ' H3 ⟨rfl,bs3,t3,k3⟩
    walk_at"rd"
    refine⟨_,D,bs3,_,rfl,t3,fun bs4 H4 t4 k4=>?_⟩
    walk_at"rd"
    exact⟨⟨_,rfl⟩,back (k3.trans k4),szn,bs4,t4⟩
  | rooms n =>
   obtain⟨h1,_⟩:=hA2
   walk_at"rd"
   refine⟨fun σ' H'=>σ'=[some (.ref y),some (.ref ss),some (.int w),some (.int n),some (.ref h0),some (.ref D),some (.ref sp)]∧∃bs',T3 (fun b=>H b=none) H' D bs' Y∧Kq (fun b=>H b=none) H2 H',?_,?_⟩
   ·walk_at"rd"
    refine⟨rfl,?_⟩
    rw[show decide (V.str "rooms" = V.str "row")=false from by decide +kernel]
    walk_at"rd"
    refine⟨rfl,?_⟩
    rw[show decide (V.str "rooms" = V.str "cut")=false from by decide +kernel]
    walk_at"rd"
    exact⟨rfl,bs2,t2,fun _ _ _ e=>e⟩
   ·rintro σ' H3 ⟨rfl,bs3,t3,k3⟩
    walk_at"rd"
    refine⟨_,D,bs3,_,rfl,t3,fun bs4 H4 t4 k4=>?_⟩
    walk_at"rd"
    exact⟨⟨_,rfl⟩,back (k3.trans k4),szn,bs4,t4⟩
 ·rintro σ H2 ⟨⟨x6,rfl⟩,s2,sz2,bs2,t2⟩
  rw[List.length_map,sl,List.take_length]at t2 ⊢
  walk_at"rd"
  refine⟨(by show 3≤sizeLine;decide),fun t nt=>?_⟩
  generalize hE:upd H2 t _=H3
  obtain⟨ht,s3⟩:=newo nt hE
  clear hE
  exact q t D bs2 H3 ht (t2.same s3) (s2.trans s3)
theorem ok_lay_row {f:Addr}{fd:FuncData}(F:Fun K "lay_row" "lay_row" s_lay_row f fd) (mF:mg "lay_row" = some (.ref f)) (bF:Binds K fd ["held", "room", "at", "row"] []) (T:Bl mg)  : Cal P w K mg base "lay_row" ["held", "room", "at", "row"] 1 (sp_lay_row K):=by
 refine Cal.of F mF bF sc_lay_row (fun vs H Q E h=>?_) (fun cdv A outer s H vs Q E hr h=>?_)
 ·obtain⟨S,h,bs,X,r,a,l,es,rfl,_⟩:=h;rfl
 obtain⟨S,h,bs,X,r,a,l,es,rfl,t,fr,sz,r2,a2,nl,hl,el,q⟩:=h
 obtain⟨sh,hh,nd,hnb,hP⟩:=id t
 refine⟨_,(pss_cons (ps_while PassesOwn.never (pt_cmpR op_le (pe_callB call_lenL rfl T.len bt_len (pa_cons (pv 0) pa_nil stx_Name)) (pv 1) (nomark _)) (pss_one (ps_expr (pe_bm PySem.F.plainAttrs_list PySem.F.slot_list_append PySem.F.type_list_append mt_append (pv 0) (pa_cons (pe_lst pa_nil) pa_nil stx_List)))))
   (pss_cons (ps_set (i:=4) sc_lay_row.nd rfl (Or.inl rfl) (pe_ix ix_list (pv 0) (pv 1) (fun _ _=>rfl)))
   (pss_cons (ps_while PassesOwn.never (pt_cmpR op_le (pe_callB call_lenL rfl T.len bt_len (pa_cons (pv 4) pa_nil stx_Name)) (pv 2) (nomark _)) (pss_one (ps_expr (pe_bm PySem.F.plainAttrs_list PySem.F.slot_list_append PySem.F.type_list_append mt_append (pv 4) (pa_cons (pe_lst pa_nil) pa_nil stx_List)))))
   (pss_one (ps_asg (pe_callTy call_list_of rfl T.list bt_list (pa_cons (pv 3) pa_nil stx_Name)) (pg_sub (pv 4) (pv 2) set_list)))))),?_⟩
 rw[st_lay_row]
 walk_at"rd"
 refine⟨fun m σ H'=>∃bs' X',σ=[some (.ref h),some (.int r),some (.int a),some (.ref l),none]∧T3 S H' h bs' X'∧pad X' (r+1)=pad X (r+1)∧X'.length≤131∧Kq S H H'∧m=r+1-X'.length,⟨_,bs,X,rfl,t,rfl,sz.1,fun _ _ _ e=>e,rfl⟩,?_⟩
 rintro m σ H1 ⟨bs1,X1,rfl,t1,e1,l1,k1,rfl⟩
 obtain⟨_,hh1,_,_,hP1⟩:=id t1
 have fr1:=fr.keep k1
 have bl1:=hP1.1
 walk_at"rd"
 refine rd_if (fun c=>?_) (fun c=>?_)
 ·rw[List.length_map]at c
  refine⟨_,fun σ' H'' h=>h,?_⟩
  walk_at"rd"
  refine⟨.inl ⟨rfl,_,SqL.of hh1⟩,?_⟩
  walk_at"rd"
  refine⟨by decide,fun e ne=>?_⟩
  generalize hE:upd H1 e _=H2
  obtain⟨he,s2⟩:=newo ne hE
  clear hE
  obtain⟨n1,n2⟩:=t1.new ne
  refine⟨h,_,_,rfl,rfl,s2 _ _ hh1,by rw[List.length_map];exact small1000 (by omega),?_⟩
  have hk:∀b o,b≠h→H1 b=some o→(upd H2 h (.lst (bs1.map V.ref ++ [V.ref e]))) b=some o:=fun b o n e=>by rw[upd_ne n];exact s2 _ _ e
  refine⟨r+1-(X1 ++ [[]]).length,by rw[List.length_append,List.length_singleton];omega,bs1 ++ [e],X1 ++ [[]],rfl,t1.push ne (fr1 e ne) hk (by rw[upd_same,List.map_append];rfl) (by rw[upd_ne n1];exact he),by rw[pad_more (by omega),e1],by rw[List.length_append,List.length_singleton];omega,k1.trans fun b o n e=>hk _ _ (fun z=>n (z ▸ sh)) e,rfl⟩
 ·rw[List.length_map]at c
  rw[pad_done (by omega)]at e1
  have rl:r<bs1.length:=by omega
  have hb:=List.getElem?_eq_getElem rl
  generalize bs1[r]=b at hb
  obtain⟨rows,hx,sb,as,hb2,hA⟩:=hP1.get hb
  have hrl:rows.length≤131:=by
   rw[e1]at hx
   rcases pad_mem (List.mem_of_getElem? hx) with z|z
   ·exact(sz.2 rows z).1
   ·rw[z];simp
  walk_at"rd"
  refine rd_ixL (SqL.of hh1) (at_ref' hb) ?_
  walk_at"rd"
  refine⟨fun m σ H'=>∃rows',σ=[some (.ref h),some (.int r),some (.int a),some (.ref l),some (.ref b)]∧T3 S H' h bs1 (X1.set r rows')∧pad rows' (a+1)=pad rows (a+1)∧rows'.length≤131∧Kq S H H'∧m=a+1-rows'.length,⟨_,rows,rfl,by rw[set_id hx];exact t1,rfl,hrl,k1,rfl⟩,?_⟩
  rintro m σ H2 ⟨rows2,rfl,t2,e2,l2,k2,rfl⟩
  have hx2:(X1.set r rows2)[r]? = some rows2:=List.getElem?_set_self (by omega)
  obtain⟨sb2,as2,hb3,hA2⟩:=t2.inrow hb hx2
  have al:=hA2.1
  have fr2:=fr.keep k2
  have hbh:b≠h:=fun z=>t1.2.2.2.1 (z ▸ List.mem_of_getElem? hb)
  walk_at"rd"
  refine rd_if (fun c2=>?_) (fun c2=>?_)
  ·rw[List.length_map]at c2
   refine⟨_,fun σ' H'' h=>h,?_⟩
   walk_at"rd"
   refine⟨.inl ⟨rfl,_,SqL.of hb3⟩,?_⟩
   walk_at"rd"
   refine⟨by decide,fun e ne=>?_⟩
   generalize hE:upd H2 e _=H3
   obtain⟨he,s3⟩:=newo ne hE
   clear hE
   obtain⟨n1,n2⟩:=t2.new ne
   have eb:e≠b:=fun z=>n2 (z ▸ List.mem_of_getElem? hb)
   refine⟨b,_,_,rfl,rfl,s3 _ _ hb3,by rw[List.length_map];exact small1000 (by omega),?_⟩
   have hk:∀c o,c≠b→H2 c=some o→(upd H3 b (.lst (as2.map V.ref ++ [V.ref e]))) c=some o:=fun c o n e=>by rw[upd_ne n];exact s3 _ _ e
   refine⟨a+1-(rows2 ++ [[]]).length,by rw[List.length_append,List.length_singleton];omega,rows2 ++ [[]],rfl,?_,by rw[pad_more (by omega),e2],by rw[List.length_append,List.length_singleton];omega,k2.trans fun c o n e=>hk _ _ (fun z=>n (z ▸ sb2)) e,rfl⟩
   have:=t2.one hb hk (rows:=rows2 ++ [[]]) ⟨sb2,as2 ++ [e],by rw[upd_same,List.map_append];rfl,(hA2.imp fun a es t=>⟨t.1,t.2.1,t.2.2.1,hk _ _ (fun z=>t.2.2.1 (z ▸ List.mem_of_getElem? hb)) t.2.2.2⟩).snoc ⟨fr2 e ne,n1,n2,by rw[upd_ne eb];exact he⟩⟩
   rw[List.set_set]at this
   exact this
  ·rw[List.length_map]at c2
   rw[pad_done (by omega)]at e2
   walk_at"rd"
   have hl2:=k2 _ _ nl hl
   refine⟨l,_,rfl,.inl (SqL.of hl2),fun e ne=>?_⟩
   generalize hE:upd H2 e _=H3
   obtain⟨he,s3⟩:=newo ne hE
   clear hE
   obtain⟨n1,n2⟩:=t2.new ne
   have eb:e≠b:=fun z=>n2 (z ▸ List.mem_of_getElem? hb)
   walk_at"rd"
   refine rd_setL (s3 _ _ hb3) (by rw[List.length_map];exact ixN_in (by omega)) ?_
   rw[show(as2.map V.ref).set a (V.ref e) =(as2.set a e).map V.ref from List.map_set.symm]
   have hk:∀c o,c≠b→H2 c=some o→(upd H3 b (.lst ((as2.set a e).map V.ref))) c=some o:=fun c o n e=>by rw[upd_ne n];exact s3 _ _ e
   refine q bs1 _ ?_ (k2.trans fun c o n e=>hk _ _ (fun z=>n (z ▸ sb2)) e)
   have:=t2.one hb hk (rows:=rows2.set a es) ⟨sb2,as2.set a e,upd_same,P1.set (hA2.imp fun a es t=>⟨t.1,t.2.1,t.2.2.1,hk _ _ (fun z=>t.2.2.1 (z ▸ List.mem_of_getElem? hb)) t.2.2.2⟩) ⟨fr2 e ne,n1,n2,by rw[upd_ne eb];exact he⟩⟩
   rw[List.set_set]at this
   unfold rowX
   rw[← e1,mod_set hx,← e2]
   exact this
theorem ok_cut_room {f:Addr}{fd:FuncData}(F:Fun K "cut_room" "cut_room" s_cut_room f fd) (mF:mg "cut_room" = some (.ref f)) (bF:Binds K fd ["held", "room", "many"] []) (T:Bl mg)  : Cal P w K mg base "cut_room" ["held", "room", "many"] 1 (sp_cut_room K):=by
 refine Cal.of F mF bF sc_cut_room (fun vs H Q E h=>?_) (fun cdv A outer s H vs Q E hr h=>?_)
 ·obtain⟨S,h,bs,X,r,m,rfl,_⟩:=h;rfl
 obtain⟨S,h,bs,X,r,m,rfl,t,fr,q⟩:=h
 obtain⟨sh,hh,nd,hnb,hP⟩:=id t
 refine⟨_,(pss_one (ps_if (pt_cmpR op_lt (pv 1) (pe_callB call_lenL rfl T.len bt_len (pa_cons (pv 0) pa_nil stx_Name)) (nomark _)) (pss_one (ps_asg (pe_slice sl_list (pe_ix ix_list (pv 0) (pv 1) (fun _ _=>rfl)) po_none (po_some (pv 2))) (pg_sub (pv 0) (pv 1) set_list))) pss_nil)),?_⟩
 rw[st_cut_room]
 walk_at"rd"
 refine rd_if (fun c=>?_) (fun c=>?_)
 ·rw[List.length_map]at c
  have rl:r<bs.length:=by omega
  have hb:=List.getElem?_eq_getElem rl
  generalize bs[r]=b at hb
  obtain⟨rows,hx,sb,as,hb2,hA⟩:=hP.get hb
  walk_at"rd"
  refine rd_ixL (SqL.of hh) (at_ref' hb) ?_
  walk_at"rd"
  refine rd_slL (SqL.of hb2) fun e ne=>?_
  rw[cut_refsT]
  generalize hE:upd H e _=H1
  obtain⟨he,s1⟩:=newo ne hE
  clear hE
  walk_at"rd"
  refine rd_setL (s1 _ _ hh) (by rw[List.length_map];exact ixN_in rl) ?_
  rw[show(bs.map V.ref).set r (V.ref e) =(bs.set r e).map V.ref from List.map_set.symm]
  have se:=fr e ne
  obtain⟨n1,n2⟩:=t.new ne
  have hk:∀b o,b≠h→H b=some o→(upd H1 h (.lst ((bs.set r e).map V.ref))) b=some o:=fun b o n e=>by rw[upd_ne n];exact s1 _ _ e
  refine q (bs.set r e) _ ?_ (fun b o n e=>?_)
  ·rw[mod_set hx]
   refine t.put ne hk upd_same ⟨se,as.take m,by rw[upd_ne n1];exact he,(hA.take m).imp fun a es t=>⟨t.1,t.2.1,fun z=>?_,hk _ _ t.2.1 t.2.2.2⟩⟩
   rcases List.mem_or_eq_of_mem_set z with w|w
   ·exact t.2.2.1 w
   ·have:=t.2.2.2
    rw[w,ne]at this;cases this
  ·exact hk _ _ (fun z=>n (z ▸ sh)) e
 ·rw[List.length_map,hP.1]at c
  walk_at"rd"
  refine q bs H ?_ fun _ _ _ e=>e
  rw[mod_none (by omega)];exact t
theorem ok_leave_last_rooms {f:Addr}{fd:FuncData}(F:Fun K "leave_last_rooms" "leave_last_rooms" s_leave_last_rooms f fd) (mF:mg "leave_last_rooms" = some (.ref f)) (bF:Binds K fd ["held"] []) (T:Bl mg)  : Cal P w K mg base "leave_last_rooms" ["held"] 1 (sp_leave_last_rooms K):=by
 refine Cal.of F mF bF sc_leave_last_rooms (fun vs H Q E h=>?_) (fun cdv A outer s H vs Q E hr h=>?_)
 ·obtain⟨S,h,bs,X,rfl,_⟩:=h;rfl
 obtain⟨S,h,bs,X,rfl,t,q⟩:=h
 obtain⟨sh,hh,nd,hnb,hP⟩:=id t
 refine⟨_,(pss_one (ps_while PassesOwn.never (PW.pt (pw_and (pt_truth (pv 0) (fun _=>rfl)) (pw_and1 (pt_not (pt_truth (pe_ix ix_list (pv 0) (pe_un un_neg pe_int) (fun _ _=>rfl)) (fun _=>rfl)))))) (pss_one (ps_expr (pe_bm0 PySem.F.plainAttrs_list PySem.F.slot_list_pop PySem.F.type_list_pop mt_pop (pv 0)))))),?_⟩
 rw[st_leave_last_rooms]
 walk_at"rd"
 refine⟨fun m σ H'=>∃bs' X',σ=[some (.ref h)]∧T3 S H' h bs' X'∧trim X'=trim X∧Kq S H H'∧m=X'.length,⟨X.length,bs,X,rfl,t,rfl,fun _ _ _ e=>e,rfl⟩,?_⟩
 rintro m σ H1 ⟨bs1,X1,rfl,t1,e1,k1,rfl⟩
 obtain⟨_,hh1,_,_,hP1⟩:=id t1
 walk_at"rd"
 refine⟨decide (bs1 ≠ []),.inl ⟨_,SqL.of hh1,tru_refs⟩,?_⟩
 by_cases c:bs1=[]
 ·rw[decide_eq_false (by simpa using c)]
  have x0:X1=[]:=List.eq_nil_of_length_eq_zero (by rw[← hP1.1,c];rfl)
  walk_at"rd"
  refine q bs1 H1 ?_ k1
  rw[← e1,x0,trim_nil,← x0];exact t1
 ·rw[decide_eq_true c]
  obtain⟨cs,b,rfl⟩:=snoc_ex c
  obtain⟨Y,rows,rfl⟩:=snoc_ex (xs:=X1) (fun z=>by have:=hP1.1;rw[z,List.length_append]at this;simp at this)
  have yl:cs.length=Y.length:=by have:=hP1.1;rw[List.length_append,List.length_append]at this;simpa using this
  obtain⟨sb,as,hb2,hA⟩:=hP1.2 cs.length b rows (by simp) (by rw[yl];simp)
  walk_at"rd"
  refine rd_ixL (SqL.of hh1) (v:=.ref b) (by rw[List.map_append];exact atI_last _ _) ?_
  refine⟨decide (as ≠ []),.inl ⟨_,SqL.of hb2,tru_refs⟩,?_⟩
  by_cases c2:as=[]
  ·rw[decide_eq_false (by simpa using c2)]
   have r0:rows=[]:=List.eq_nil_of_length_eq_zero (by rw[← hA.1,c2];rfl)
   subst r0
   walk_at"rd"
   refine⟨_,fun σ' H'' h=>h,?_⟩
   walk_at"rd"
   refine⟨.inl ⟨rfl,_,SqL.of hh1⟩,?_⟩
   walk_at"rd"
   refine⟨h,_,.ref b,rfl,rfl,hh1,by simp,?_⟩
   rw[show((cs ++ [b]).map V.ref).dropLast =(cs ++ [b]).dropLast.map V.ref from List.map_dropLast.symm]
   refine⟨Y.length,by rw[List.length_append];exact Nat.lt_succ_self _,(cs ++ [b]).dropLast,(Y ++ [[]]).dropLast,rfl,t1.pop (fun b o n e=>by rw[upd_ne n];exact e) upd_same,?_,k1.trans fun b o n e=>?_,by simp⟩
   ·rw[List.dropLast_concat,← e1,trim_snoc]
   ·rw[upd_ne (show b≠h from fun z=>n (z ▸ sh))];exact e
  ·rw[decide_eq_true c2]
   have r0:rows ≠ []:=fun z=>c2 (List.eq_nil_of_length_eq_zero (by rw[hA.1,z];rfl))
   walk_at"rd"
   refine q (cs ++ [b]) H1 ?_ k1
   rw[← e1,trim_stop r0];exact t1
theorem ok_unlike_rows {f:Addr}{fd:FuncData}(F:Fun K "unlike_rows" "unlike_rows" s_unlike_rows f fd) (mF:mg "unlike_rows" = some (.ref f)) (bF:Binds K fd ["room", "old", "new"] []) (T:Bl mg)  : Cal P w K mg base "unlike_rows" ["room", "old", "new"] 1 (sp_unlike_rows K):=by
 refine Cal.of F mF bF sc_unlike_rows (fun vs H Q E h=>?_) (fun cdv A outer s H vs Q E hr h=>?_)
 ·obtain⟨r,a,b,os,ns,rfl,_⟩:=h;rfl
 obtain⟨r,a,b,os,ns,rfl,⟨as,ha,al,hA⟩,⟨bs,hb,bl,hB⟩,oO,oN,r1,q⟩:=h
 have hu:=hr.units
 refine⟨_,(pss_one (ps_ret (pe_comp rfl (blkOk (sc:=defScope s_unlike_rows) (N:=["room", "old", "new"]) (vs:=["at", "row"]) (fs:=["old", "room"]) (js:=[1,0]) (by decide +kernel) rfl rfl) (pi_enum rfl T.enumerate (pa_cons (pv 2) pa_nil stx_Name)) (fun _ _ _ _=>pg_tupK (K:=K) (n:=2) rfl rfl (pgs_cons (pg_name (i:=0) (show(["at", "row", "old", "room"]:List Str).Nodup by decide +kernel) rfl (Or.inl rfl)) (pgs_cons (pg_name (i:=1) (show(["at", "row", "old", "room"]:List Str).Nodup by decide +kernel) rfl (Or.inl rfl)) pgs_nil))) (fun _ _ _ _=>pif1 (PW.pt (pw_or (pt_cmpR op_ge (pv 0) (pe_callB (call_lenLK (K:=K) rfl) rfl T.len bt_len (pa_cons (pv 2) pa_nil stx_Name)) (nomark _)) (pw_or1 (pt_cmpR (op_neDK (K:=K) rfl hu) (pe_ix (ix_listK (K:=K) rfl) (pv 2) (pv 0) (fun _ _=>rfl)) (pv 1) (nomark _)))))) (fun _ _ _ _=>(pe_tup (pa_cons pe_str (pa_cons (pv 3) (pa_cons (pv 0) (pa_cons (pv 1) pa_nil stx_Name) stx_Name) stx_Name) stx_Constant)))))),?_⟩
 rw[st_unlike_rows]
 walk_at"rd"
 refine⟨b,rfl,⟨_,SqL.of hb⟩,fun D nD=>?_⟩
 refine comp_enum (xs:=bs.map V.ref) (fun k σ' ys H'=>(∃x y,σ'=[x,y,some (.ref a),some (.int r)])∧Same H H'∧H' D=some (.lst ys)∧∃ss:List Addr,ys=ss.map V.ref∧ss.length≤k∧Pst H H' b D ss (unl H r os ns k)) D ⟨⟨_,_,rfl⟩,same_new nD _,upd_same,[],rfl,Nat.le_refl _,fun _ _=>P1.nil⟩ (fun k σ' ys H' _ h=>SqL.of (h.2.1 _ _ hb)) ?_ ?_
 ·rintro k x σ' ys H1 t hx ⟨⟨x1,y1,rfl⟩,s1,hD,ss,rfl,sl,hP⟩ nt
  obtain⟨c,hc,rfl⟩:=refs_get hx
  have kl:=(List.getElem?_eq_some_iff.mp hc).1
  obtain⟨es,hes⟩ : ∃es,ns[k]? = some es:=⟨_,List.getElem?_eq_getElem (by omega)⟩
  have hce:=hB k c es hc hes
  have oes:=oN.2 es (List.mem_of_getElem? hes)
  have nk:=oN.1
  generalize hE:upd H1 t _=H2
  obtain⟨ht,s2⟩:=newo nt hE
  clear hE
  have s02:=s1.trans s2
  have ha2:=s02 _ _ ha
  have hD2:=s2 _ _ hD
  have fin:unB H os es k=true→∀(s3:Addr) (H3 H4:Hp),Same H2 H3→H3 s3=none→upd H3 s3 (.tup [.str "row",.int r,.int k,.ref c])=H4→H4 D=some (.lst (ss.map V.ref))∧(ss.map V.ref).length<sizeLine∧(∃x y,[some (V.int k),some (.ref c),some (.ref a),some (.int r)]=[x,y,some (.ref a),some (.int r)])∧Same H (upd H4 D (.lst (ss.map V.ref ++ [.ref s3])))∧upd H4 D (.lst (ss.map V.ref ++ [.ref s3])) D=some (.lst (ss.map V.ref ++ [.ref s3]))∧∃ss':List Addr,ss.map V.ref ++ [.ref s3]=ss'.map V.ref∧ss'.length≤k+1∧Pst H (upd H4 D (.lst (ss.map V.ref ++ [.ref s3]))) b D ss' (unl H r os ns (k+1)):=fun u s3 H3 H4 s23 n3 e=>by
   obtain⟨h3,s34⟩:=newo n3 e
   have s24:=s23.trans s34
   have s04:=s02.trans s24
   have hD4:=s24 _ _ hD2
   have n3D:s3≠D:=fun z=>by
    rw[z,s23 _ _ hD2]at n3;cases n3
   refine⟨hD4,by rw[List.length_map];exact small1000 (by omega),⟨_,_,rfl⟩,fun x o e=>by rw[upd_ne (ne_of_none e nD)];exact s04 _ _ e,upd_same,ss ++ [s3],by rw[List.map_append];rfl,by rw[List.length_append];exact Nat.add_le_add_right sl 1,fun D0 ok0=>?_⟩
   rw[hid_upd,unl_yes hes u]
   have n30:=ok0.new (s02.trans s23) n3 n3D
   have cD:c≠D:=ne_of_none hce nD
   refine((hP D0 ok0).imp fun s st h=>h.same (hid_same (hid_same (s2.trans s24)))).snoc ⟨c,by rw[hid2_ne n3D n30];exact h3,?_,r1,by omega,oes.1,fun v hv=>?_⟩
   ·rw[hid2_ne cD (ok0.row hb (List.mem_of_getElem? hc) cD)];exact s04 _ _ hce
   ·obtain⟨t',k',z',rfl,h1,h2⟩:=oes.2 v hv
    have tD:t'≠D:=ne_of_none h1 nD
    exact⟨t',k',z',rfl,by rw[hid2_ne tD (ok0.tup h1 tD)];exact s04 _ _ h1,h2⟩
  refine⟨t,_,rfl,SqT.of ht,rfl,_,_,rfl,_,_,rfl,rfl,?_⟩
  walk_at"rd"
  rw[List.length_map]
  refine rd_if (fun g=>?_) (fun g=>?_)
  ·have u:unB H os es k=true:=by
    unfold unB
    rw[List.getElem?_eq_none (by omega)]
   walk_at"rd"
   refine⟨(by show 4≤sizeLine;decide),fun s3 n3=>?_⟩
   exact fin u s3 H2 _ (fun _ _ e=>e) n3 rfl
  ·have ko:k<os.length:=by omega
   obtain⟨c2,hc2⟩ : ∃c2,as[k]? = some c2:=⟨_,List.getElem?_eq_getElem (by omega)⟩
   obtain⟨o,ho⟩ : ∃o,os[k]? = some o:=⟨_,List.getElem?_eq_getElem ko⟩
   have hco:=hA k c2 o hc2 ho
   have oo:=oO.2 o (List.mem_of_getElem? ho)
   have kt:∀t xs,H t=some (.tup xs)→H2 t=some (.tup xs):=fun _ _ e=>s02 _ _ e
   walk_at"rd"
   refine rd_ixL (SqL.of ha2) (at_ref' hc2) ?_
   walk_at"rd"
   have g1:=row_gd (K:=K) (s02 _ _ hco) fun v hv=>(oo.2 v hv).keep kt
   have g2:=row_gd (K:=K) (s02 _ _ hce) fun v hv=>(oes.2 v hv).keep kt
   refine⟨_,_,g1.1,g2.1,g1.shaped (by omega),g2.shaped (by omega),?_⟩
   rw[eqv_pRow,rowD_keep kt oo.2,rowD_keep kt oes.2]
   have ub:unB H os es k = !decide (rowD H o=rowD H es):=by unfold unB;rw[ho]
   by_cases e:rowD H o=rowD H es
   ·rw[decide_eq_true e]at ub ⊢
    walk_at"rd"
    refine⟨⟨_,_,rfl⟩,s02,hD2,ss,rfl,by omega,fun D0 ok0=>?_⟩
    rw[unl_no hes ub]
    exact(hP D0 ok0).imp fun s st h=>h.same (hid_same (hid_same s2))
   ·rw[decide_eq_false e]at ub ⊢
    walk_at"rd"
    refine⟨(by show 4≤sizeLine;decide),fun s3 n3=>?_⟩
    exact fin ub s3 H2 _ (fun _ _ e=>e) n3 rfl
 ·rintro σ' ys H1 ⟨⟨x1,y1,rfl⟩,s1,hD,ss,rfl,sl,hP⟩
  rw[List.length_map,bl]at hP
  exact q D ss H1 nD hD hP s1
theorem ok_onward {f:Addr}{fd:FuncData}(F:Fun K "onward" "onward" s_onward f fd) (mF:mg "onward" = some (.ref f)) (bF:Binds K fd ["room", "old", "new"] []) (T:Bl mg) (C_unlike_rows:Cal P w K mg base "unlike_rows" ["room", "old", "new"] 1 (sp_unlike_rows K)):Cal P w K mg base "onward" ["room", "old", "new"] 2 (sp_onward K):=by
 refine Cal.of F mF bF sc_onward (fun vs H Q E h=>?_) (fun cdv A outer s H vs Q E hr h=>?_)
 ·obtain⟨r,a,b,os,ns,rfl,_⟩:=h;rfl
 obtain⟨r,a,b,os,ns,rfl,hO,hN,oO,oN,r1,q⟩:=h
 refine⟨_,(pss_cons (ps_set (i:=3) sc_onward.nd rfl (Or.inl rfl) (pcl C_unlike_rows (hr.mono (by decide)) (pa_cons (pv 0) (pa_cons (pv 1) (pa_cons (pv 2) pa_nil stx_Name) stx_Name) stx_Name)))
   (pss_cons (ps_cut (ps_if (pt_cmpR op_gt (pe_callB call_lenL rfl T.len bt_len (pa_cons (pv 1) pa_nil stx_Name)) (pe_callB call_lenL rfl T.len bt_len (pa_cons (pv 2) pa_nil stx_Name)) (nomark _)) (pss_one (ps_expr (pe_bm PySem.F.plainAttrs_list PySem.F.slot_list_append PySem.F.type_list_append mt_append (pv 3) (pa_cons (pe_tup (pa_cons pe_str (pa_cons (pv 0) (pa_cons (pe_callB call_lenL rfl T.len bt_len (pa_cons (pv 2) pa_nil stx_Name)) pa_nil stx_Call) stx_Name) stx_Constant)) pa_nil stx_Tuple)))) pss_nil))
   (pss_one (ps_ret (pv 3))))),?_⟩
 rw[st_onward]
 walk_at"rd"
 refine⟨r,a,b,os,ns,rfl,hO,hN,oO,oN,r1,fun D ss H1 nD hD hP s1=>?_⟩
 obtain⟨as,ha,al,_⟩:=hO
 obtain⟨bs,hb,bl,_⟩:=id hN
 have ha1:=s1 _ _ ha
 have hb1:=s1 _ _ hb
 have nk:=oN.1
 have ls:ss.length≤130:=by rw[hP.plain.1];exact Nat.le_trans (unl_len _) nk
 walk_at"rd"
 refine⟨fun σ H2=>∃ss':List Addr,σ=[some (.int r),some (.ref a),some (.ref b),some (.ref D)]∧H2 D=some (.lst (ss'.map V.ref))∧Pst H H2 b D ss' (onS H r os ns)∧Same H H2,?_,?_⟩
 ·walk_at"rd"
  rw[List.length_map,List.length_map]
  refine rd_if (fun g=>?_) (fun g=>?_)
  ·walk_at"rd"
   refine⟨.inl ⟨rfl,_,SqL.of hD⟩,?_⟩
   walk_at"rd"
   rw[List.length_map]
   refine⟨(by show 3≤sizeLine;decide),fun s3 n3=>?_⟩
   generalize hE:upd H1 s3 _=H2
   obtain⟨h3,s2⟩:=newo n3 hE
   clear hE
   have n3D:s3≠D:=fun z=>by rw[z,hD]at n3;cases n3
   refine⟨D,_,_,rfl,rfl,s2 _ _ hD,by rw[List.length_map];exact small1000 (by omega),?_⟩
   walk_at"rd"
   refine⟨ss ++ [s3],rfl,by rw[upd_same,List.map_append];rfl,fun D0 ok0=>?_,fun x o e=>by rw[upd_ne (ne_of_none e nD)];exact s2 _ _ (s1 _ _ e)⟩
   rw[hid_upd]
   unfold onS
   rw[if_pos (by omega)]
   refine((hP D0 ok0).imp fun s st h=>h.same (hid_same (hid_same s2))).snoc ⟨?_,r1,nk⟩
   rw[hid2_ne n3D (ok0.new s1 n3 n3D),h3,bl]
  ·walk_at"rd"
   refine⟨ss,rfl,hD,?_,s1⟩
   unfold onS
   rw[if_neg (by omega),List.append_nil]
   exact hP
 ·rintro σ H2 ⟨ss',rfl,hD2,hP2,s2⟩
  walk_at"rd"
  exact q D ss' _ nD hD2 hP2 s2
theorem ok_mended {f:Addr}{fd:FuncData}(F:Fun K "mended" "mended" s_mended f fd) (mF:mg "mended" = some (.ref f)) (bF:Binds K fd ["yard"] []) (T:Bl mg) (C_yard_of:Cal P w K mg base "yard_of" ["wide", "rooms", "entries"] 6 (sp_yard_of K)) (C_entries_in:Cal P w K mg base "entries_in" ["rows"] 1 (sp_entries_in K)) (C_room_of:Cal P w K mg base "room_of" ["key", "rooms"] 4 (sp_room_of K)):Cal P w K mg base "mended" ["yard"] 7 (sp_mended K):=by
 refine Cal.of F mF bF sc_mended (fun vs H Q E h=>?_) (fun cdv A outer s H vs Q E hr h=>?_)
 ·obtain⟨y,w,R,X,rfl,_⟩:=h;rfl
 obtain⟨y,w,R,X,rfl,hY,w1,w2,R1,R2,sz,q⟩:=h
 obtain⟨h,hy,⟨bs,hh,hbs⟩,en,szx⟩:=hY
 have hu:=hr.units
 have bl:=hbs.1
 have okE:=stand_okE (R:=R) en
 have flen:(flatP (yD H X)).length≤190:=by rw[flat_yD,List.length_map];exact sz
 refine⟨_,(pss_cons (ps_asg (pv 0) (pg_tup rfl (pgs_cons (pg_name (i:=1) sc_mended.nd rfl (Or.inl rfl)) (pgs_cons (pg_name (i:=2) sc_mended.nd rfl (Or.inl rfl)) (pgs_cons (pg_name (i:=3) sc_mended.nd rfl (Or.inl rfl)) pgs_nil)))))
   (pss_cons (ps_set (i:=4) sc_mended.nd rfl (Or.inl rfl) pe_dnewK)
   (pss_cons (ps_for PassesOwn.never rfl (pi_enum rfl T.enumerate (pa_cons (pe_slice sl_list (pv 3) po_none (po_some (pv 2))) pa_nil stx_Subscript)) (pg_tup rfl (pgs_cons (pg_name (i:=5) sc_mended.nd rfl (Or.inl rfl)) (pgs_cons (pg_name (i:=6) sc_mended.nd rfl (Or.inl rfl)) pgs_nil))) (pss_one (ps_for PassesOwn.never rfl (pi_list (pcl C_entries_in (hr.mono (by decide)) (pa_cons (pv 6) pa_nil stx_Name))) (pg_tup rfl (pgs_cons (pg_name (i:=7) sc_mended.nd rfl (Or.inl rfl)) (pgs_cons (pg_name (i:=8) sc_mended.nd rfl (Or.inl rfl)) pgs_nil))) (pss_one (ps_if (pt_cmpR op_eq (pcl C_room_of (hr.mono (by decide)) (pa_cons (pv 7) (pa_cons (pv 2) pa_nil stx_Name) stx_Name)) (pv 5) (nomark _)) (pss_one (ps_expr (pe_dsetd (pv 4) (pv 7) (pv 8) ⟨rfl,rfl,rfl,rfl⟩))) pss_nil)))))
   (pss_one (ps_ret (pcl C_yard_of (hr.mono (by decide)) (pa_cons (pv 1) (pa_cons (pv 2) (pa_cons (pe_callTy (call_listI rfl) rfl T.list bt_list (pa_cons (pe_bm0 PySem.F.plainAttrs_dict PySem.F.slot_dict_items PySem.F.type_dict_items mt_items (pv 4)) pa_nil stx_Call)) pa_nil stx_Call) stx_Name) stx_Name))))))),?_⟩
 rw[st_mended]
 walk_at"rd"
 refine⟨y,_,rfl,SqT.of hy,rfl,_,_,rfl,_,_,rfl,_,_,rfl,rfl,?_⟩
 walk_at"rd"
 intro d nd
 generalize hE:upd H d _=H1
 obtain⟨hd,s1⟩:=newo nd hE
 clear hE
 walk_at"rd"
 refine rd_slL (SqL.of (s1 _ _ hh)) fun L nL=>?_
 rw[cut_refsT]
 generalize hE:upd H1 L _=H2
 obtain⟨hL,s2⟩:=newo nL hE
 clear hE
 have Ld:L≠d:=fun z=>by rw[z,hd]at nL;cases nL
 refine⟨L,rfl,⟨_,SqL.of hL⟩,?_⟩
 refine for_enum (xs:=(bs.take R).map V.ref) (fun i σ H'=>(∃x5 x6 x7 x8,σ=[some (.ref y),some (.int w),some (.int R),some (.ref h),some (.ref d),x5,x6,x7,x8])∧Same H H'∧H' L=some (.lst ((bs.take R).map V.ref))∧H' d=some (.dK (eV (standN R (yD H X) i)))) ⟨⟨_,_,_,_,rfl⟩,s1.trans s2,hL,s2 _ _ hd⟩ (fun _ _ _ _ h=>SqL.of h.2.2.1) ?_ ?_
 ·rintro i x σ H3 u hx ⟨⟨x5,x6,x7,x8,rfl⟩,s3,hL3,hd3⟩ nu
  obtain⟨b,hb,rfl⟩:=refs_get hx
  have il:=(List.getElem?_eq_some_iff.mp hb).1
  rw[List.length_take]at il
  rw[List.getElem?_take_of_lt (by omega)]at hb
  obtain⟨rows,hxr,_,as,hb1,hA⟩:=hbs.get hb
  have rm:=List.mem_of_getElem? hxr
  have enr:∀es∈rows,∀v∈es,En H v:=en rows rm
  have rl:rows.flatten.length≤190:=by
   refine Nat.le_trans (List.Sublist.length_le ?_) sz
   unfold allV
   exact List.sublist_flatten_of_mem (List.mem_map.mpr ⟨rows,rm,rfl⟩)
  have e1:standN R (yD H X) (i+1) =(rowD H rows.flatten).foldl (stepE R i) (standN R (yD H X) i):=by
   show((((yD H X)[i]?).getD []).flatten).foldl _ _=_
   rw[yD_at,hxr,rowD_flat];rfl
  have a1:(standN R (yD H X) i).length≤190:=Nat.le_trans (standN_len i) (Nat.le_trans flatP_take flen)
  generalize hE:upd H3 u _=H4
  obtain⟨hu4,s4⟩:=newo nu hE
  clear hE
  refine⟨u,_,rfl,SqT.of hu4,rfl,_,_,rfl,_,_,rfl,rfl,?_⟩
  have s04:=s3.trans s4
  walk_at"rd"
  refine⟨b,rows,rfl,⟨as,s04 _ _ hb1,hA.1,fun i a es e1 e2=>s04 _ _ (hA.2 i a es e1 e2).2⟩,by omega,fun L2 H5 nL2 hL2 s5=>?_⟩
  have hd5:=s5 _ _ (s4 _ _ hd3)
  have L2d:L2≠d:=fun z=>by rw[z,s4 _ _ hd3]at nL2;cases nL2
  rw[e1]
  have rdl:(rowD H rows.flatten).length=rows.flatten.length:=by unfold rowD;rw[List.length_map]
  generalize standN R (yD H X) i=acc0 at hd5 a1
  refine⟨L2,rfl,⟨_,SqL.of hL2⟩,?_⟩
  refine for_listO (xs:=rows.flatten) (fun j σ H'=>(∃x7 x8,σ=[some (.ref y),some (.int w),some (.int R),some (.ref h),some (.ref d),some (.int i),some (.ref b),x7,x8])∧Same H H'∧H' L=some (.lst ((bs.take R).map V.ref))∧H' L2=some (.lst rows.flatten)∧H' d=some (.dK (eV (((rowD H rows.flatten).take j).foldl (stepE R i) acc0)))) ⟨⟨_,_,rfl⟩,s04.trans s5,s5 _ _ (s4 _ _ hL3),hL2,hd5⟩ (fun _ _ _ _ h=>SqL.of h.2.2.2.1) ?_ ?_
  ·rintro j x σ H6 hx2 ⟨⟨x7,x8,rfl⟩,s6,hL6,hL26,hd6⟩
   obtain⟨es,he,hv⟩:=List.mem_flatten.mp (List.mem_of_getElem? hx2)
   have hxd:(rowD H rows.flatten)[j]? = some (eD H x):=by unfold rowD;rw[List.getElem?_map,hx2];rfl
   obtain⟨t,rfl,ht,_⟩:=(enr es he x hv).pt
   have nx:((rowD H rows.flatten).take (j+1)).foldl (stepE R i) acc0=stepE R i (((rowD H rows.flatten).take j).foldl (stepE R i) acc0) (eD H (.ref t)):=by rw[take_get hxd,List.foldl_append];rfl
   have al:(((rowD H rows.flatten).take j).foldl (stepE R i) acc0).length≤400:=by
    refine Nat.le_trans fold_len ?_
    rw[List.length_take];omega
   rw[nx]
   generalize ((rowD H rows.flatten).take j).foldl (stepE R i) acc0=acc at hd6 al
   generalize eD H (.ref t)=e at ht
   walk_at"rd"
   refine⟨t,_,rfl,SqT.of (s6 _ _ ht),rfl,_,_,rfl,_,_,rfl,rfl,?_⟩
   walk_at"rd"
   refine⟨e.1,R,rfl,by omega,by omega,?_⟩
   walk_at"rd"
   refine rd_if (fun c=>?_) (fun c=>?_)
   ·walk_at"rd"
    refine rd_dsetd ?_
    walk_at"rd"
    refine⟨d,rfl,.inl ⟨_,.inl hd6⟩,?_⟩
    walk_at"rd"
    refine⟨_,Sum.inl e.1,hd6,rfl,by unfold eV;rw[List.length_map,List.length_map];exact small1000 (by omega),fun v hv=>?_,fun hn=>?_⟩
    ·have hm:e.1∈acc.map (·.1):=by
      have:=find_some (es:=acc) (k:=e.1)
      rw[hv]at this
      exact of_decide_eq_true this.symm
     walk_at"rd"
     refine⟨⟨_,_,rfl⟩,s6,hL6,hL26,?_⟩
     unfold stepE addE
     rw[if_pos c,if_pos hm];exact hd6
    ·have hm:e.1∉acc.map (·.1):=by
      have:=find_some (es:=acc) (k:=e.1)
      rw[hn]at this
      exact of_decide_eq_false this.symm
     walk_at"rd"
     refine⟨⟨_,_,rfl⟩,fun b o e=>by rw[upd_ne (ne_of_none e nd)];exact s6 _ _ e,by rw[upd_ne Ld];exact hL6,by rw[upd_ne L2d];exact hL26,?_⟩
     unfold stepE addE
     rw[if_pos c,if_neg hm,upd_same,put_new hm]
   ·walk_at"rd"
    refine⟨⟨_,_,rfl⟩,s6,hL6,hL26,?_⟩
    unfold stepE
    rw[if_neg c];exact hd6
  ·rintro σ H6 ⟨⟨x7,x8,rfl⟩,s6,hL6,hL26,hd6⟩
   rw[← rdl,List.take_length]at hd6
   walk_at"rd"
   exact⟨⟨_,_,_,_,rfl⟩,s6,hL6,hd6⟩
 ·rintro σ H3 ⟨⟨x5,x6,x7,x8,rfl⟩,s3,hL3,hd3⟩
  have el:standN R (yD H X) ((bs.take R).map V.ref).length=stand R (yD H X):=by
   unfold stand yD
   rw[List.length_map,List.length_take,List.length_map,bl]
  rw[el]at hd3
  have sl:(stand R (yD H X)).length≤190:=Nat.le_trans stand_len flen
  have snd:=stand_nd (R:=R) (D:=yD H X)
  generalize stand R (yD H X)=es at hd3 okE sl snd q
  walk_at"rd"
  refine⟨.inr (.inr (.inl ⟨rfl,.inl ⟨_,hd3⟩⟩)),?_⟩
  refine⟨d,_,rfl,rfl,hd3,fun v nv=>?_⟩
  generalize hE:upd H3 v _=H4
  obtain⟨hv,s4⟩:=newo nv hE
  clear hE
  walk_at"rd"
  refine⟨v,d,es.map vE,rfl,hv,s4 _ _ hd3,fun ts l H5 s5 nl hl tl ht=>?_⟩
  have s05:=(s3.trans s4).trans s5
  walk_at"rd"
  refine⟨l,ts,es.map vE,w,R,rfl,hl,tl,by rw[List.length_map];omega,ht,w1,w2,R1,by omega,fun ms t h' H6 mp mo ht6 hyn s6=>?_⟩
  have s06:=s05.trans s6
  obtain⟨rs,bss,sy,ex,sq,cl⟩:=yard_is (es:=es) (fun e he=>⟨(okE e he).1,(okE e he).2.1.1,(okE e he).2.1.2,(okE e he).2.2⟩) sl w1 R1 (by omega) mp mo hyn
  rw[mES_id snd]at cl
  exact q t h' rs bss H6 ht6 (sy.weak fun b hb=>s05.free hb) ex sq cl s06
theorem ok_mending {f:Addr}{fd:FuncData}(F:Fun K "mending" "mending" s_mending f fd) (mF:mg "mending" = some (.ref f)) (bF:Binds K fd ["yard"] []) (T:Bl mg) (C_onward:Cal P w K mg base "onward" ["room", "old", "new"] 2 (sp_onward K)) (C_mended:Cal P w K mg base "mended" ["yard"] 7 (sp_mended K)) (C_rows_at:Cal P w K mg base "rows_at" ["held", "room"] 1 (sp_rows_at K)):Cal P w K mg base "mending" ["yard"] 8 (sp_mending K):=by
 refine Cal.of F mF bF sc_mending (fun vs H Q E h=>?_) (fun cdv A outer s H vs Q E hr h=>?_)
 ·obtain⟨y,w,R,X,rfl,_⟩:=h;rfl
 obtain⟨y,w,R,X,rfl,hY,w1,w2,R1,R2,xl,rok,sz,q⟩:=h
 obtain⟨h,hy,⟨bs,hh,hbs⟩,en,szx⟩:=id hY
 have bl:=hbs.1
 refine⟨_,(pss_cons (ps_asg (pv 0) (pg_tup rfl (pgs_cons (pg_name (i:=1) sc_mending.nd rfl (Or.inl rfl)) (pgs_cons (pg_name (i:=2) sc_mending.nd rfl (Or.inl rfl)) (pgs_cons (pg_name (i:=3) sc_mending.nd rfl (Or.inr rfl)) pgs_nil)))))
   (pss_cons (ps_set (i:=4) sc_mending.nd rfl (Or.inl rfl) (pe_lst pa_nil))
   (pss_cons (ps_for PassesOwn.never rfl (pi_enum rfl T.enumerate (pa_cons (pe_ix ix_tup (pcl C_mended (hr.mono (by decide)) (pa_cons (pv 0) pa_nil stx_Name)) pe_int (fun _ _=>rfl)) pa_nil stx_Subscript)) (pg_tup rfl (pgs_cons (pg_name (i:=5) sc_mending.nd rfl (Or.inl rfl)) (pgs_cons (pg_name (i:=6) sc_mending.nd rfl (Or.inl rfl)) pgs_nil))) (pss_one (ps_aug (i:=4) sc_mending.nd rfl (Or.inl rfl) (pcl C_onward (hr.mono (by decide)) (pa_cons (pv 5) (pa_cons (pcl C_rows_at (hr.mono (by decide)) (pa_cons (pv 3) (pa_cons (pv 5) pa_nil stx_Name) stx_Name)) (pa_cons (pv 6) pa_nil stx_Name) stx_Call) stx_Name)) ip_cat)))
   (pss_cons (ps_setc (i:=7) sc_mending.nd rfl rfl rfl (blkOk (sc:=defScope s_mending) (N:=["yard", "wide", "rooms", "held", "steps", "room", "rows", "further"]) (vs:=["room"]) (fs:=["held"]) (js:=[3]) (by decide +kernel) rfl rfl) (pi_range2 rfl T.range (pa_cons (pv 2) (pa_cons (pe_callB call_lenL rfl T.len bt_len (pa_cons (pv 3) pa_nil stx_Name)) pa_nil stx_Call) stx_Name)) (fun _ _ _ _=>pg_name (i:=0) (show(["room", "held"]:List Str).Nodup by decide +kernel) rfl (Or.inl rfl)) (fun _ _ _ _=>pif1 (pt_truthK (K:=K) rfl (pe_ix (ix_listK (K:=K) rfl) (pv 1) (pv 0) (fun _ _=>rfl)) (fun _=>rfl))) (fun _ _ _ _=>(pv 0)))
   (pss_one (ps_ret (pe_op op_cat (pv 4) (pe_comp rfl (blkOk (sc:=defScope s_mending) (N:=["yard", "wide", "rooms", "held", "steps", "room", "rows", "further"]) (vs:=["room"]) (fs:=[]) (js:=[]) (by decide +kernel) rfl rfl) (pi_list (pe_rev (pv 7))) (fun _ _ _ _=>pg_name (i:=0) (show(["room"]:List Str).Nodup by decide +kernel) rfl (Or.inl rfl)) (fun _ _ _ _=>pif0) (fun _ _ _ _=>(pe_tup (pa_cons pe_str (pa_cons (pv 0) (pa_cons pe_int pa_nil stx_Constant) stx_Name) stx_Constant))))))))))),?_⟩
 rw[st_mending]
 walk_at"rd"
 refine⟨y,_,rfl,SqT.of hy,rfl,_,_,rfl,_,_,rfl,_,_,rfl,rfl,?_⟩
 walk_at"rd"
 refine⟨by decide,fun D nD=>?_⟩
 generalize hE:upd H D _=H1
 obtain⟨hD,s1⟩:=newo nD hE
 clear hE
 walk_at"rd"
 refine⟨y,w,R,X,rfl,hY.same s1,w1,w2,R1,R2,by omega,fun t h' rs bss H2 ht sy ez sq cl s2=>?_⟩
 rw[yD_same s1 en]at cl
 have s02:=s1.trans s2
 have sdl:(stand R (yD H X)).length≤129:=Nat.le_trans stand_len (by rw[flatY_len];exact sz)
 have zok:=cl_rows cl w1 w2 sdl ez
 have zl:(XA H2 bss).length=R:=by have:=cl.1;unfold yD at this;rw[List.length_map]at this;exact this
 have hD2:=s2 _ _ hD
 have neD:∀b,H1 b=none→b≠D:=fun b hb z=>by rw[z,hD]at hb;cases hb
 have rsl:rs.length=R:=by rw[sy.hb.1];rw[XA_len]at zl;exact zl
 have hZ:∀(i:Nat) (r:Addr),rs[i]? = some r→∀H3:Hp,(∀b o,H2 b=some o→b≠D→H3 b=some o)→Rws H3 r (atR (XA H2 bss) i):=fun i r hr H3 k3=>by
  obtain⟨bsi,hbi,h1⟩:=sy.hb.get hr
  have ea:atR (XA H2 bss) i=bsi.map (rowOf H2):=by unfold atR XA;rw[List.getElem?_map,hbi];rfl
  rw[ea]
  refine⟨bsi,k3 _ _ h1 (neD r (sy.ns r (List.mem_cons_of_mem _ (List.mem_append_left _ (List.mem_of_getElem? hr))))),by rw[List.length_map],fun j a es e1 e2=>?_⟩
  rw[List.getElem?_map,e1]at e2
  have e2:rowOf H2 a=es:=Option.some.inj e2
  have am:a∈bss.flatten:=List.mem_flatten.mpr ⟨bsi,List.mem_of_getElem? hbi,List.mem_of_getElem? e1⟩
  obtain⟨es',he⟩:=sy.ha a am
  rw[rowOf_at he]at e2
  rw[← e2]
  exact k3 _ _ he (neD a (sy.ns a (List.mem_cons_of_mem _ (List.mem_append_right _ am))))
 have hZb:∀(i:Nat) (r:Addr),rs[i]? = some r→∃bsi:List Addr,H2 r=some (.lst (bsi.map V.ref))∧r≠D∧D∉bsi:=fun i r hr=>by
  obtain⟨bsi,hbi,h1⟩:=sy.hb.get hr
  exact⟨bsi,h1,neD r (sy.ns r (List.mem_cons_of_mem _ (List.mem_append_left _ (List.mem_of_getElem? hr)))),fun m=>neD D (sy.ns D (List.mem_cons_of_mem _ (List.mem_append_right _ (List.mem_flatten.mpr ⟨bsi,List.mem_of_getElem? hbi,m⟩)))) rfl⟩
 have hhr:=sy.hh
 have h'D:h'≠D:=neD h' (sy.ns h' (List.mem_cons_self ..))
 generalize XA H2 bss=Z at ez cl zok zl hZ
 walk_at"rd"
 refine⟨h',rfl,⟨_,SqL.of hhr⟩,?_⟩
 have kt02:∀t xs,H t=some (.tup xs)→H2 t=some (.tup xs):=fun _ _ e=>s02 _ _ e
 have en2:=en.keep kt02
 refine for_enum (xs:=rs.map V.ref) (fun i σ H'=>(∃x5 x6,σ=[some (.ref y),some (.int w),some (.int R),some (.ref h),some (.ref D),x5,x6,none])∧(∀b o,H2 b=some o→b≠D→H' b=some o)∧∃ss:List Addr,H' D=some (.lst (ss.map V.ref))∧P1 (StA (hid D H')) ss (mendN H2 X Z i)) ⟨⟨_,_,rfl⟩,fun _ _ e _=>e,[],hD2,P1.nil⟩ (fun _ _ _ _ h=>SqL.of (h.2.1 _ _ hhr h'D)) ?_ ?_
 ·rintro i x σ H3 u hx ⟨⟨x5,x6,rfl⟩,k3,ss,hD3,hP3⟩ nu
  obtain⟨r,hr2,rfl⟩:=refs_get hx
  have il:=(List.getElem?_eq_some_iff.mp hr2).1
  have s03:Same H H3:=fun b o e=>k3 _ _ (s02 _ _ e) (ne_of_none e nD)
  generalize hE:upd H3 u _=H4
  obtain⟨hu4,s4⟩:=newo nu hE
  clear hE
  have s04:=s03.trans s4
  have k4:∀b o,H2 b=some o→b≠D→H4 b=some o:=fun b o e n=>s4 _ _ (k3 b o e n)
  refine⟨u,_,rfl,SqT.of hu4,rfl,_,_,rfl,_,_,rfl,rfl,?_⟩
  walk_at"rd"
  refine⟨h,bs,i,rfl,s04 _ _ hh,fun o H5 s5 ho=>?_⟩
  have s05:=s04.trans s5
  have hO:=at_rws hbs s05 ho
  have k5:∀b o,H2 b=some o→b≠D→H5 b=some o:=fun b o e n=>s5 _ _ (k4 b o e n)
  have kt5:∀t xs,H2 t=some (.tup xs)→H5 t=some (.tup xs):=fun t xs e=>k5 t _ e (fun z=>by rw[z,hD2]at e;cases e)
  walk_at"rd"
  refine⟨i,o,r,atR X i,atR Z i,rfl,hO,hZ i r hr2 H5 k5,(rok i).same s05,⟨(zok i).1,fun es he=>⟨((zok i).2 es he).1,fun v hv=>(((zok i).2 es he).2 v hv).keep kt5⟩⟩,by omega,fun D2 ss2 H6 nD2 hD6 hP6 s6=>?_⟩
  rw[on_keep kt5 (at_en en2) (at_en ez)]at hP6
  obtain⟨bsi,hbi,rD,Dbi⟩:=hZb i r hr2
  have okD:OkD H5 r D2 D:=.inr ⟨⟨_,s5 _ _ (s4 _ _ hD3)⟩,fun bs2 hb2 m=>by
   rw[k5 _ _ hbi rD]at hb2
   have:bsi.map V.ref=bs2.map V.ref:=by injection hb2 with hb2;injection hb2
   exact Dbi (refs_inj this ▸ m)⟩
  have hDv:=s6 _ _ (s5 _ _ (s4 _ _ hD3))
  have D2D:D2≠D:=fun z=>by rw[z,s5 _ _ (s4 _ _ hD3)]at nD2;cases nD2
  have l1:ss.length≤131*i:=by rw[hP3.1];exact mendN_len (fun i=>(zok i).1) i
  have l2:ss2.length≤131:=by
   rw[hP6.plain.1]
   exact Nat.le_trans on_len (by have:=(zok i).1;omega)
  walk_at"rd"
  refine⟨D,D2,_,_,rfl,rfl,hDv,hD6,Nat.le_trans (show _≤100000 by rw[List.length_map,List.length_map];omega) (by decide),?_⟩
  rw[← List.map_append]
  walk_at"rd"
  refine⟨⟨_,_,rfl⟩,fun b o e n=>by rw[upd_ne n];exact s6 _ _ (k5 b o e n),ss++ss2,upd_same,?_⟩
  rw[hid_upd]
  show P1 _ _ (mendN H2 X Z i++onS H2 i (atR X i) (atR Z i))
  exact(hP3.imp fun s st h=>h.same (hid_same ((s4.trans s5).trans s6))).app ((hP6 D okD).imp fun s st h=>h.same (hid_same hid_le))
 ·rintro σ H3 ⟨⟨x5,x6,rfl⟩,k3,ss,hD3,hP3⟩
  rw[List.length_map,rsl]at hP3
  have s03:Same H H3:=fun b o e=>k3 _ _ (s02 _ _ e) (ne_of_none e nD)
  have kt3:∀t xs,H2 t=some (.tup xs)→H3 t=some (.tup xs):=fun t xs e=>k3 t _ e (fun z=>by rw[z,hD2]at e;cases e)
  have hh3:=s03 _ _ hh
  walk_at"rd"
  rw[List.length_map,bl]
  refine⟨_,_,rfl,by omega,fun D2 nD2=>?_⟩
  have nn:((X.length:Int)-(R:Int)).toNat=X.length-R:=by omega
  rw[nn]
  refine comp_range (n:=X.length-R) (fun i σ' ys H'=>(∃x,σ'=[x,some (.ref h)])∧Same H3 H'∧ys =((furN X R i).map (fun(r:Nat)=>(r:Int))).map V.int∧H' D2=some (.lst ys)) D2 ⟨⟨_,rfl⟩,same_new nD2 _,rfl,upd_same⟩ ?_ ?_
  ·rintro i σ' ys H4 hi ⟨⟨x1,rfl⟩,s4,rfl,hD4⟩
   have hb:=List.getElem?_eq_getElem (show R+i<bs.length by omega)
   generalize bs[R+i]=b at hb
   obtain⟨rows,hx,_,as,hb1,hA⟩:=hbs.get hb
   have ea:atR X (R+i)=rows:=by unfold atR;rw[hx];rfl
   have s04:=s03.trans s4
   walk_at"rd"
   rw[show(R:Int)+(i:Int) =((R+i:Nat):Int) by omega]
   refine rd_ixL (SqL.of (s04 _ _ hh)) (at_ref' hb) ?_
   refine⟨decide (as ≠ []),.inl ⟨_,SqL.of (s04 _ _ hb1),tru_refs⟩,?_⟩
   have fl:=fur_len (X:=X) (R:=R) i
   have aA:=hA.1
   by_cases c:as=[]
   ·have re:rows=[]:=List.eq_nil_of_length_eq_zero (by rw[← aA,c];rfl)
    rw[decide_eq_false (by simpa using c),if_neg Bool.false_ne_true]
    refine⟨⟨_,rfl⟩,s4,?_,hD4⟩
    show _ =((furN X R i++(if atR X (R+i)=[] then [] else [R+i])).map _).map _
    rw[ea,if_pos re,List.append_nil]
   ·have re:rows ≠ []:=fun z=>c (List.eq_nil_of_length_eq_zero (by rw[aA,z];rfl))
    rw[decide_eq_true c,if_pos rfl]
    walk_at"rd"
    refine⟨hD4,by rw[List.length_map,List.length_map];exact small1000 (by omega),⟨_,rfl⟩,fun b o e=>by rw[upd_ne (ne_of_none e nD2)];exact s4 _ _ e,?_,upd_same⟩
    show _ =((furN X R i++(if atR X (R+i)=[] then [] else [R+i])).map _).map _
    rw[ea,if_neg re,List.map_append,List.map_append];rfl
  ·rintro σ' ys H4 ⟨⟨x1,rfl⟩,s4,rfl,hD4⟩
   have fm:=fun i=>fur_mem (X:=X) (R:=R) (i:=i) (n:=X.length-R)
   have fl:=fur_len (X:=X) (R:=R) (X.length-R)
   have em:mendS H2 R X Z=mendN H2 X Z R++cutS (furN X R (X.length-R)).reverse:=rfl
   generalize furN X R (X.length-R)=fu at hD4 fm fl em
   have hD34:=s4 _ _ hD3
   walk_at"rd"
   refine⟨D2,_,rfl,SqL.of hD4,fun L nL=>?_⟩
   rw[← List.map_reverse,← List.map_reverse]
   generalize hE:upd H4 L _=H5
   obtain⟨hL,s5⟩:=newo nL hE
   clear hE
   refine⟨L,rfl,⟨_,SqL.of hL⟩,fun D3 nD3=>?_⟩
   refine comp_list (xs:=(fu.reverse.map (fun(r:Nat)=>(r:Int))).map V.int) (fun j σ' ys H'=>(∃x,σ'=[x])∧Same H5 H'∧H' D3=some (.lst ys)∧∃ss3:List Addr,ys=ss3.map V.ref∧ss3.length=j∧j≤fu.length∧P1 (StA (hid D3 H')) ss3 (cutS (fu.reverse.take j))) D3 ⟨⟨_,rfl⟩,same_new nD3 _,upd_same,[],rfl,rfl,Nat.zero_le _,P1.nil⟩ (fun i σ' ys H' _ h=>SqL.of (h.2.1 _ _ hL)) ?_ ?_
   ·rintro j x σ' ys H6 hx ⟨⟨x1,rfl⟩,s6,hD6,ss3,rfl,sl3,_,hP6⟩
    obtain⟨z,hz,rfl⟩:=ints_get hx
    rw[List.getElem?_map]at hz
    cases ez:fu.reverse[j]? with
    | none=>rw[ez]at hz;cases hz
    | some r =>
     rw[ez]at hz
     have hz:(r:Int)=z:=Option.some.inj hz
     subst hz
     have jl:=(List.getElem?_eq_some_iff.mp ez).1
     rw[List.length_reverse]at jl
     have rb:=(fm r).mp (List.mem_reverse.mp (List.mem_of_getElem? ez))
     walk_at"rd"
     refine⟨(by show 3≤sizeLine;decide),fun s3 n3=>?_⟩
     generalize hE:upd H6 s3 _=H7
     obtain⟨h3,s7⟩:=newo n3 hE
     clear hE
     have n3D:s3≠D3:=fun z=>by rw[z,hD6]at n3;cases n3
     refine⟨s7 _ _ hD6,by rw[List.length_map];exact small1000 (by omega),⟨_,rfl⟩,fun b o e=>by rw[upd_ne (ne_of_none e nD3)];exact s7 _ _ (s6 _ _ e),upd_same,ss3 ++ [s3],by rw[List.map_append];rfl,by rw[List.length_append,sl3];rfl,by omega,?_⟩
     rw[hid_upd,take_get ez]
     unfold cutS at hP6 ⊢
     rw[List.map_append]
     refine(hP6.imp fun s st h=>h.same (hid_same s7)).snoc ⟨?_,by omega,by omega⟩
     rw[hid_ne n3D];exact h3
   ·rintro σ' ys H6 ⟨⟨x1,rfl⟩,s6,hD6,ss3,rfl,sl3,_,hP6⟩
    rw[List.take_of_length_le (by simp)]at hP6
    have s36:=(s4.trans s5).trans s6
    have s06:=s03.trans s36
    have l1:ss.length≤131*R:=by rw[hP3.1];exact mendN_len (fun i=>(zok i).1) R
    have sl3':ss3.length≤130:=by
     rw[sl3,List.length_map,List.length_map,List.length_reverse];omega
    walk_at"rd"
    refine⟨D,D3,_,_,rfl,rfl,s36 _ _ hD3,hD6,Nat.le_trans (show _≤100000 by rw[List.length_map,List.length_map];omega) (by decide),fun L4 nL4=>?_⟩
    rw[← List.map_append]
    generalize hE:upd H6 L4 _=H7
    obtain⟨hL4,s7⟩:=newo nL4 hE
    clear hE
    have up:∀{s st},StA H6 s st→StA (hid L4 H7) s st:=fun h=>h.same fun x o e=>by rw[hid_ne (ne_of_none e nL4)];exact s7 _ _ e
    have kt7:∀t xs,H2 t=some (.tup xs)→H7 t=some (.tup xs):=fun t xs e=>s7 _ _ (s36 _ _ (kt3 _ _ e))
    refine q L4 (ss++ss3) Z H7 (s06.free nL4) hL4 (ez.keep kt7) (by rw[yD_keep kt7 ez];exact cl) ?_ (s06.trans s7)
    have e7:mendS H7 R X Z=mendS H2 R X Z:=by unfold mendS;rw[mendN_keep kt7 en2 ez]
    rw[e7,em]
    exact(hP3.imp fun s st h=>up ((h.same hid_le).same s36)).app (hP6.imp fun s st h=>up (h.same hid_le))
theorem ok__law_open {f:Addr}{fd:FuncData}(F:Fun K "_law_open" "_law_open" s__law_open f fd) (mF:mg "_law_open" = some (.ref f)) (bF:Binds K fd ["_law_script", "_law_place"] []) (T:Bl mg)  : Cal P w K mg base "_law_open" ["_law_script", "_law_place"] 1 (sp__law_open K):=by
 refine Cal.of F mF bF sc__law_open (fun vs H Q E h=>?_) (fun cdv A outer s H vs Q E hr h=>?_)
 ·obtain⟨a,ns,pl,rfl,_⟩:=h;rfl
 obtain⟨a,ns,pl,rfl,hS,hlen,h0,h1,q⟩:=h
 have hu:=hr.units
 refine⟨_,(pss_cons (ps_setc (i:=2) sc__law_open.nd rfl rfl rfl (blkOk (sc:=defScope s__law_open) (N:=["_law_script", "_law_place", "_law_cells", "_law_at", "_law_digits"]) (vs:=["_law_cell"]) (fs:=[]) (js:=[]) (by decide +kernel) rfl rfl) (pi_list (pe_slice sl_list (pv 0) po_none (po_some pe_int))) (fun _ _ _ _=>pg_name (i:=0) (show(["_law_cell"]:List Str).Nodup by decide +kernel) rfl (Or.inl rfl)) (fun _ _ _ _=>pif0) (fun _ _ _ _=>(pe_callB call_abs1 rfl T.abs bt_abs (pa_cons (pv 0) pa_nil stx_Name))))
   (pss_cons (ps_cut (ps_if (pt_cmpR (op_eqD hu) (pv 2) (pe_lst pa_nil) (nomark _)) (pss_one (ps_set (i:=2) sc__law_open.nd rfl (Or.inl rfl) (pe_lst (pa_cons pe_int pa_nil stx_Constant)))) pss_nil))
   (pss_cons (ps_set (i:=3) sc__law_open.nd rfl (Or.inl rfl) (pe_op op_mod (pv 1) (pe_callB call_lenL rfl T.len bt_len (pa_cons (pv 2) pa_nil stx_Name))))
   (pss_cons (ps_set (i:=4) sc__law_open.nd rfl (Or.inl rfl) pe_int)
   (pss_cons (ps_cut (ps_if (PW.pt (pw_and (pt_cmpR op_ge (pe_ix ix_list (pv 2) (pv 3) (fun _ _=>rfl)) (pe_powC (c:=1000000000000000000) (by decide +kernel) ⟨by decide,by decide,by decide⟩) (nomark _)) (pw_and1 (pt_cmpR op_lt (pv 1) (pe_callB call_lenL rfl T.len bt_len (pa_cons (pv 2) pa_nil stx_Name)) (nomark _))))) (pss_one (ps_set (i:=4) sc__law_open.nd rfl (Or.inl rfl) (pe_ix ix_list (pv 2) (pv 3) (fun _ _=>rfl)))) pss_nil))
   (pss_one (ps_ret (pe_lst (pa_cons (pv 4) (pa_cons (pe_op op_add pe_int (pe_op op_mul pe_int (pv 1))) (pa_cons (pe_op op_cat (pe_slice sl_list (pv 2) (po_some (pv 3)) po_none) (pe_slice sl_list (pv 2) po_none (po_some (pv 3)))) pa_nil stx_BinOp) stx_BinOp) stx_Name))))))))),?_⟩
 rw[st__law_open]
 walk_at"rd"
 refine rd_slL hS fun p1 n1=>?_
 have hcut:cutV (ns.map V.int) none (some 63)=ns.map V.int:=by
  have:=cut_hi (ms:=ns) (k:=63)
  rw[List.take_of_length_le hlen]at this
  exact this
 rw[hcut]
 have s1:=same_new n1 (.lst (ns.map V.int))
 have hp1:(upd H p1 (.lst (ns.map V.int))) p1=some (.lst (ns.map V.int)):=upd_same
 generalize upd H p1 (.lst (ns.map V.int))=H1 at s1 hp1 ⊢
 refine⟨p1,rfl,⟨_,SqL.of hp1⟩,fun D nD=>?_⟩
 have nD0:H D=none:=s1.free nD
 have npD:p1≠D:=ne_of_none hp1 nD
 refine comp_list (xs:=ns.map V.int) (fun i σ' ys H'=>(∃x,σ'=[x])∧(∃ms:List Int,ys=ms.map V.int∧ms.length=i)∧Same H H'∧H' p1=some (.lst (ns.map V.int))∧H' D=some (.lst ys)) D ?_ (fun i σ' ys H' _ h=>SqL.of h.2.2.2.1) ?_ ?_
 ·exact⟨⟨_,rfl⟩,⟨[],rfl,rfl⟩,s1.trans (same_new nD _),by rw[upd_ne npD];exact hp1,upd_same⟩
 ·rintro i x σ' ys H' hx ⟨⟨y,rfl⟩,⟨ms,rfl,hms⟩,g1,g2,g3⟩
  have hil:i <(ns.map V.int).length:=(List.getElem?_eq_some_iff.mp hx).1
  rw[List.length_map]at hil
  obtain⟨z,rfl⟩ : ∃z,x=V.int z:=by
   rw[List.getElem?_map]at hx
   cases e:ns[i]? with
   | none=>rw[e]at hx;cases hx
   | some z=>rw[e]at hx;exact⟨z,(Option.some.inj hx).symm⟩
  walk_at"rd"
  refine⟨g3,by rw[List.length_map];exact small1000 (by omega),⟨_,rfl⟩,⟨ms ++ [_],(by rw[List.map_append];rfl),by rw[List.length_append,hms];rfl⟩,fun b o e=>?_,?_,upd_same⟩
  ·rw[upd_ne (ne_of_none e nD0)];exact g1 _ _ e
  ·rw[upd_ne npD];exact g2
 ·rintro σ' ys H' ⟨⟨y,rfl⟩,⟨ms,rfl,hms⟩,g1,g2,g3⟩
  walk_at"rd"
  refine⟨fun σ H2=>∃C ms,σ=[some (.ref a),some (.int pl),some (.ref C),none,none]∧ms ≠ []∧ms.length≤63∧H2 C=some (.lst (List.map V.int ms))∧Same H H2,?_,?_⟩
  ·walk_at"rd"
   refine⟨by decide,fun p2 n2=>?_⟩
   refine⟨.list (ms.map PyData.int),.list [],DV.lst (SqL.of (by rw[upd_ne (ne_of_none g3 n2)];exact g3)) (DVs.ints ms),DV.lst (SqL.of upd_same) .nil,shaped_ints ms,rfl,?_⟩
   have e:PyData.eqv (.list (ms.map PyData.int)) (.list [])=decide (ms=[]):=by
    have:=eqv_ints ms []
    rw[← this,PyData.eqv];rfl
   rw[e]
   have s2:=g1.trans (same_new n2 (.lst []))
   have g32:(upd H' p2 (.lst [])) D=some (.lst (ms.map V.int)):=by rw[upd_ne (ne_of_none g3 n2)];exact g3
   generalize upd H' p2 (.lst [])=H2 at s2 g32 ⊢
   walk_at"rd"
   refine rd_if (fun h=>?_) (fun h=>?_)
   ·walk_at"rd"
    refine⟨by decide,fun p3 n3=>?_⟩
    walk_at"rd"
    exact⟨p3,[0],rfl,by simp,by simp,upd_same,s2.trans (same_new n3 _)⟩
   ·walk_at"rd"
    exact⟨D,ms,rfl,h,by rw[hms,List.length_map];exact hlen,g32,s2⟩
  ·rintro σ H2 ⟨C,ms,rfl,hne,hml,hC,s2⟩
   have hnl:=len_pos hne
   obtain⟨v,hv⟩:=nsMod hne pl
   walk_at"rd"
   refine⟨fun σ H3=>H3=H2∧∃d,σ=[some (.ref a),some (.int pl),some (.ref C),some (.int (pl%((ms.map V.int).length:Int))),some (.int d)],?_,?_⟩
   ·walk_at"rd"
    refine rd_ixL (SqL.of hC) hv ?_
    walk_at"rd"
    refine rd_if (fun h=>?_) (fun h=>?_)
    ·walk_at"rd"
     refine rd_if (fun h=>?_) (fun h=>?_)
     ·walk_at"rd"
      refine rd_ixL (SqL.of hC) hv ?_
      walk_at"rd"
      exact⟨rfl,_,rfl⟩
     ·walk_at"rd"
      exact⟨rfl,_,rfl⟩
    ·walk_at"rd"
     exact⟨rfl,_,rfl⟩
   ·rintro σ H3 ⟨rfl,d,rfl⟩
    obtain⟨k,hk,hk2⟩ : ∃k:Nat,pl%((ms.map V.int).length:Int) =(k:Int)∧k<ms.length:=by
     have z0:=Int.emod_nonneg pl (show((ms.map V.int).length:Int)≠0 by omega)
     have z1:=Int.emod_lt_of_pos pl hnl
     rw[List.length_map]at z0 z1 ⊢
     exact⟨(pl%(ms.length:Int)).toNat,by omega,by omega⟩
    rw[hk]
    walk_at"rd"
    refine rd_slL (SqL.of hC) fun p4 n4=>?_
    walk_at"rd"
    have hC4:(upd H3 p4 (.lst (cutV (ms.map V.int) (some (k:Int)) none))) C=some (.lst (ms.map V.int)):=by rw[upd_ne (ne_of_none hC n4)];exact hC
    refine rd_slL (SqL.of hC4) fun p5 n5=>?_
    rw[cut_lo,cut_hi]
    rw[cut_lo]at hC4 n5
    have s4:=s2.trans (same_new n4 (.lst ((ms.drop k).map V.int)))
    have hp4:(upd H3 p4 (.lst ((ms.drop k).map V.int))) p4=some (.lst ((ms.drop k).map V.int)):=upd_same
    generalize upd H3 p4 (.lst ((ms.drop k).map V.int))=H4 at s4 hp4 hC4 n5 ⊢
    have s5:=s4.trans (same_new n5 (.lst ((ms.take k).map V.int)))
    have hp5:(upd H4 p5 (.lst ((ms.take k).map V.int))) p5=some (.lst ((ms.take k).map V.int)):=upd_same
    have hp45:(upd H4 p5 (.lst ((ms.take k).map V.int))) p4=some (.lst ((ms.drop k).map V.int)):=by rw[upd_ne (ne_of_none hp4 n5)];exact hp4
    generalize upd H4 p5 (.lst ((ms.take k).map V.int))=H5 at s5 hp5 hp45 ⊢
    refine⟨p4,p5,_,_,rfl,rfl,hp45,hp5,(by rw[List.length_map,List.length_map,List.length_drop,List.length_take];exact Nat.le_of_lt (small1000 (by omega))),fun p6 n6=>?_⟩
    walk_at"rd"
    refine⟨(by show 3≤sizeLine;decide),fun p7 n7=>?_⟩
    have s6:=s5.trans (same_new n6 (.lst ((ms.drop k).map V.int++(ms.take k).map V.int)))
    refine q p7 _ (s6.free n7) (s6.trans (same_new n7 _)) ⟨p6,d,1+1009*pl,ms.drop k++ms.take k,upd_same,?_,by omega,by omega,?_⟩
    ·rw[upd_ne (ne_of_none upd_same n7),upd_same,List.map_append]
    ·intro e
     have:=congrArg List.length e
     rw[List.length_append,List.length_drop]at this
     simp at this
     omega
theorem ok__law_draw {f:Addr}{fd:FuncData}(F:Fun K "_law_draw" "_law_draw" s__law_draw f fd) (mF:mg "_law_draw" = some (.ref f)) (bF:Binds K fd ["_law_hand", "_law_many"] []) (T:Bl mg)  : Cal P w K mg base "_law_draw" ["_law_hand", "_law_many"] 1 (sp__law_draw K):=by
 refine Cal.of F mF bF sc__law_draw (fun vs H Q E h=>?_) (fun cdv A outer s H vs Q E hr h=>?_)
 ·obtain⟨p,N,n,rfl,_⟩:=h;rfl
 obtain⟨p,N,n,rfl,hh,hN,hn,hn2,q⟩:=h
 obtain⟨l,d,c,ns,hp,hl,hc0,hcN,hns⟩:=hh.ex
 have npl:l≠p:=hand_ne hp hl
 have hnl:=len_pos hns
 refine⟨_,(pss_cons (ps_if (pt_cmpR op_gt (pe_ix ix_list (pv 0) pe_int (fun _ _=>rfl)) pe_int (nomark _)) (pss_cons (ps_set (i:=2) sc__law_draw.nd rfl (Or.inl rfl) (pe_op op_mod (pe_ix ix_list (pv 0) pe_int (fun _ _=>rfl)) (pv 1)))
   (pss_cons (ps_asg (pe_op op_fdivB (pe_ix ix_list (pv 0) pe_int (fun _ _=>rfl)) (pv 1)) (pg_sub (pv 0) pe_int set_list))
   (pss_one (ps_ret (pv 2))))) pss_nil)
   (pss_cons (ps_augS (pv 0) pe_int get_list pe_int ip_add set_list)
   (pss_cons (ps_set (i:=3) sc__law_draw.nd rfl (Or.inl rfl) (pe_ix ix_list (pv 0) pe_int (fun _ _=>rfl)))
   (pss_cons (ps_set (i:=4) sc__law_draw.nd rfl (Or.inl rfl) (pe_op op_mod (pe_op op_add (pe_op op_mod (pe_ix ix_list (pe_ix ix_list (pv 0) pe_int (fun _ _=>rfl)) (pe_op op_mod (pv 3) (pe_callB call_lenL rfl T.len bt_len (pa_cons (pe_ix ix_list (pv 0) pe_int (fun _ _=>rfl)) pa_nil stx_Subscript))) (fun _ _=>rfl)) pe_int) (pe_op op_mul pe_int (pv 3))) pe_int))
   (pss_cons (ps_set (i:=4) sc__law_draw.nd rfl (Or.inl rfl) (pe_op op_mod (pe_op op_add (pe_op op_add (pe_op op_pow (pv 4) pe_int) (pe_op op_mul (pe_op op_mul pe_int (pv 3)) (pv 3))) pe_int) pe_int))
   (pss_cons (ps_set (i:=4) sc__law_draw.nd rfl (Or.inl rfl) (pe_op op_mod (pe_op op_add (pe_op op_mul (pe_op op_pow (pv 4) pe_int) (pe_op op_add (pe_op op_mul pe_int (pv 3)) pe_int)) pe_int) pe_int))
   (pss_one (ps_ret (pe_op op_mod (pe_op op_fdivB (pe_op op_mod (pe_op op_mul (pv 4) pe_int) pe_int) pe_int) (pv 1)))))))))),?_⟩
 rw[st__law_draw]
 walk_at"rd"
 refine rd_if (fun h=>?_) (fun h=>?_)
 ·walk_at"rd"
  refine q _ _ (Int.emod_nonneg _ (by omega)) (Int.emod_lt_of_pos _ hn) ⟨l,d / n,c,ns,upd_same,?_,hc0,by omega,hns⟩ (Kp.hand hp)
  rw[upd_ne npl];exact hl
 ·walk_at"rd"
  have hp1:(upd H p (.lst [V.int d,.int (c+1),.ref l])) p=some (.lst [.int d,.int (c+1),.ref l]):=upd_same
  have hl1:(upd H p (.lst [V.int d,.int (c+1),.ref l])) l=some (.lst (ns.map V.int)):=by rw[upd_ne npl];exact hl
  have k1:Kp H (upd H p (.lst [V.int d,.int (c+1),.ref l])) p:=Kp.hand hp
  generalize upd H p (.lst [V.int d,.int (c+1),.ref l])=H1 at hp1 hl1 k1 ⊢
  walk_at"rd"
  obtain⟨v,hv⟩:=nsMod hns (c+1)
  refine rd_ixL (SqL.of hl1) hv ?_
  walk_at"rd"
  have hn0:n≠0:=by omega
  exact q _ _ (Int.emod_nonneg _ hn0) (Int.emod_lt_of_pos _ hn) ⟨l,d,c+1,ns,hp1,hl1,by omega,by omega,hns⟩ k1
theorem ok__law_far {f:Addr}{fd:FuncData}(F:Fun K "_law_far" "_law_far" s__law_far f fd) (mF:mg "_law_far" = some (.ref f)) (bF:Binds K fd ["_law_hand", "_law_many"] []) (T:Bl mg) (C__law_draw:Cal P w K mg base "_law_draw" ["_law_hand", "_law_many"] 1 (sp__law_draw K)):Cal P w K mg base "_law_far" ["_law_hand", "_law_many"] 2 (sp__law_far K):=by
 refine Cal.of F mF bF sc__law_far (fun vs H Q E h=>?_) (fun cdv A outer s H vs Q E hr h=>?_)
 ·obtain⟨p,N,n,rfl,_⟩:=h;rfl
 obtain⟨p,N,n,rfl,hh,hN,hn,hn2,q⟩:=h
 obtain⟨l,d,c,ns,hp,hl,hc0,hcN,hns⟩:=hh.ex
 refine⟨_,(pss_cons (ps_if (pt_cmpR op_gt (pe_ix ix_list (pv 0) pe_int (fun _ _=>rfl)) pe_int (nomark _)) (pss_one (ps_ret (pcl C__law_draw (hr.mono (by decide)) (pa_cons (pv 0) (pa_cons (pv 1) pa_nil stx_Name) stx_Name)))) pss_nil)
   (pss_cons (ps_set (i:=2) sc__law_far.nd rfl (Or.inl rfl) pe_int)
   (pss_cons (ps_for PassesOwn.never rfl (pi_range1 rfl T.range (pa_cons pe_int pa_nil stx_Constant)) (pg_name (i:=3) sc__law_far.nd rfl (Or.inl rfl)) (pss_one (ps_set (i:=2) sc__law_far.nd rfl (Or.inl rfl) (pe_op op_add (pe_op op_mul (pv 2) (pe_powC (c:=1000000) (by decide +kernel) ⟨by decide,by decide,by decide⟩)) (pcl C__law_draw (hr.mono (by decide)) (pa_cons (pv 0) (pa_cons (pe_powC (c:=1000000) (by decide +kernel) ⟨by decide,by decide,by decide⟩) pa_nil stx_BinOp) stx_Name))))))
   (pss_one (ps_ret (pe_op op_mod (pv 2) (pv 1))))))),?_⟩
 rw[st__law_far]
 walk_at"rd"
 refine rd_if (fun h=>?_) (fun h=>?_)
 ·walk_at"rd"
  exact⟨p,N,n,rfl,hh,by omega,hn,hn2,fun r H' h0 h1 h2 h3=>q r H' h0 h1 (h2.mono (by omega)) h3⟩
 ·walk_at"rd"
  refine⟨7,rfl,by omega,by omega,?_⟩
  refine for_rangeO (n:=7) (fun i σ H'=>(∃v x,σ=[some (.ref p),some (.int n),some (.int v),x])∧Hand H' p (N+i)∧Kp H H' p∧i≤7) ⟨⟨_,_,rfl⟩,hh,Kp.refl _ _,by omega⟩ ?_ ?_
  ·rintro i σ H' hi ⟨⟨v,x,rfl⟩,h1,h2,h3⟩
   walk_at"rd"
   exact⟨p,N+i,_,rfl,h1,by omega,by decide,by decide,fun r H2 h0 h4 h5 h6=>by
    walk_at"rd"
    exact⟨⟨_,_,rfl⟩,h5,h2.trans h6,by omega⟩⟩
  ·rintro σ H' ⟨⟨v,x,rfl⟩,h1,h2,h3⟩
   walk_at"rd"
   exact q _ _ (Int.emod_nonneg _ (by omega)) (Int.emod_lt_of_pos _ hn) h1 h2
theorem ok__law_power {f:Addr}{fd:FuncData}(F:Fun K "_law_power" "_law_power" s__law_power f fd) (mF:mg "_law_power" = some (.ref f)) (bF:Binds K fd ["_law_many"] []) (T:Bl mg)  : Cal P w K mg base "_law_power" ["_law_many"] 1 (sp__law_power K):=by
 refine Cal.of F mF bF sc__law_power (fun vs H Q E h=>?_) (fun cdv A outer s H vs Q E hr h=>?_)
 ·obtain⟨m,rfl,_⟩:=h;rfl
 obtain⟨m,rfl,hm,q⟩:=h
 refine⟨_,(pss_cons (ps_set (i:=1) sc__law_power.nd rfl (Or.inl rfl) pe_int)
   (pss_cons (ps_for PassesOwn.never rfl (pi_range1 rfl T.range (pa_cons (pv 0) pa_nil stx_Name)) (pg_name (i:=2) sc__law_power.nd rfl (Or.inl rfl)) (pss_one (ps_set (i:=1) sc__law_power.nd rfl (Or.inl rfl) (pe_op op_mul (pv 1) pe_int))))
   (pss_one (ps_ret (pv 1))))),?_⟩
 rw[st__law_power]
 walk_at"rd"
 refine⟨(m:Int),rfl,by omega,by omega,?_⟩
 rw[show((m:Int)).toNat=m from by omega]
 refine for_rangeO (n:=m) (fun i σ H'=>(∃x,σ=[some (.int m),some (.int (2^i)),x])∧H'=H) ⟨⟨_,rfl⟩,rfl⟩ ?_ ?_
 ·rintro i σ H' hi ⟨⟨x,rfl⟩,rfl⟩
  walk_at"rd"
  exact⟨⟨_,by rw[Int.pow_succ]⟩,rfl⟩
 ·rintro σ H' ⟨⟨x,rfl⟩,rfl⟩
  walk_at"rd"
  exact q
theorem ok__law_key {f:Addr}{fd:FuncData}(F:Fun K "_law_key" "_law_key" s__law_key f fd) (mF:mg "_law_key" = some (.ref f)) (bF:Binds K fd ["_law_hand"] []) (T:Bl mg) (C__law_draw:Cal P w K mg base "_law_draw" ["_law_hand", "_law_many"] 1 (sp__law_draw K)) (C__law_far:Cal P w K mg base "_law_far" ["_law_hand", "_law_many"] 2 (sp__law_far K)) (C__law_power:Cal P w K mg base "_law_power" ["_law_many"] 1 (sp__law_power K)):Cal P w K mg base "_law_key" ["_law_hand"] 3 (sp__law_key K):=by
 refine Cal.of F mF bF sc__law_key (fun vs H Q E h=>?_) (fun cdv A outer s H vs Q E hr h=>?_)
 ·obtain⟨p,N,rfl,_⟩:=h;rfl
 obtain⟨p,N,rfl,hh,hN,q⟩:=h
 refine⟨_,(pss_cons (ps_set (i:=1) sc__law_key.nd rfl (Or.inl rfl) (pcl C__law_draw (hr.mono (by decide)) (pa_cons (pv 0) (pa_cons pe_int pa_nil stx_Constant) stx_Name)))
   (pss_cons (ps_set (i:=2) sc__law_key.nd rfl (Or.inl rfl) (pcl C__law_draw (hr.mono (by decide)) (pa_cons (pv 0) (pa_cons (pe_ix ix_list (pe_lst (pa_cons pe_int (pa_cons pe_int (pa_cons pe_int pa_nil stx_Constant) stx_Constant) stx_Constant)) (pcl C__law_draw (hr.mono (by decide)) (pa_cons (pv 0) (pa_cons pe_int pa_nil stx_Constant) stx_Name)) (fun _ _=>rfl)) pa_nil stx_Subscript) stx_Name)))
   (pss_cons (ps_if (pt_cmpR op_lt (pv 1) pe_int (nomark _)) (pss_one (ps_ret (pv 2))) pss_nil)
   (pss_cons (ps_if (pt_cmpR op_eq (pv 1) pe_int (nomark _)) (pss_one (ps_ret (pe_op op_sub (pe_op op_sub (pe_powC (c:=1152921504606846976) (by decide +kernel) ⟨by decide,by decide,by decide⟩) pe_int) (pv 2)))) pss_nil)
   (pss_cons (ps_if (pt_cmpR op_eq (pv 1) pe_int (nomark _)) (pss_one (ps_ret (pe_op op_add (pv 2) (pcl C__law_power (hr.mono (by decide)) (pa_cons (pe_op op_add pe_int (pcl C__law_draw (hr.mono (by decide)) (pa_cons (pv 0) (pa_cons pe_int pa_nil stx_Constant) stx_Name))) pa_nil stx_BinOp))))) pss_nil)
   (pss_cons (ps_if (pt_cmpR op_eq (pv 1) pe_int (nomark _)) (pss_one (ps_ret (pe_op op_add (pe_op op_mod (pv 2) pe_int) (pe_op op_mul pe_int (pcl C__law_far (hr.mono (by decide)) (pa_cons (pv 0) (pa_cons (pe_powC (c:=72057594037927936) (by decide +kernel) ⟨by decide,by decide,by decide⟩) pa_nil stx_BinOp) stx_Name)))))) pss_nil)
   (pss_one (ps_ret (pcl C__law_far (hr.mono (by decide)) (pa_cons (pv 0) (pa_cons (pe_powC (c:=1152921504606846976) (by decide +kernel) ⟨by decide,by decide,by decide⟩) pa_nil stx_BinOp) stx_Name)))))))))),?_⟩
 rw[st__law_key]
 walk_at"rd"
 refine⟨p,N,7,rfl,hh,by omega,by decide,by decide,fun way H1 w0 w1 hh1 k1=>?_⟩
 walk_at"rd"
 refine⟨(by show 3≤sizeLine;decide),fun l nl=>?_⟩
 walk_at"rd"
 have k2:=k1.trans (Kp.of (same_new nl (.lst [V.int 4,V.int 16,V.int 200])) hh1)
 have hh2:=hh1.same (same_new nl (.lst [V.int 4,V.int 16,V.int 200]))
 have hl:(upd H1 l (.lst [V.int 4,V.int 16,V.int 200])) l=some (.lst [V.int 4,V.int 16,V.int 200]):=upd_same
 have nlp:l≠p:=by
  obtain⟨l1,d,c,ns,h1,_⟩:=hh1.ex
  exact(ne_of_none h1 nl).symm
 generalize upd H1 l (.lst [V.int 4,V.int 16,V.int 200])=H2 at k2 hh2 hl ⊢
 refine⟨p,N+1,3,rfl,hh2,by omega,by decide,by decide,fun r H3 r0 r1 hh3 k3=>?_⟩
 have hl3:=k3.1 _ _ hl nlp
 obtain⟨b,hb,b0,b1⟩ : ∃b:Int,atI [V.int 4,V.int 16,V.int 200] r=some (.int b)∧0<b∧b≤200:=by
  have:r=0∨r=1∨r=2:=by omega
  rcases this with rfl|rfl|rfl
  ·exact⟨4,rfl,by decide,by decide⟩
  ·exact⟨16,rfl,by decide,by decide⟩
  ·exact⟨200,rfl,by decide,by decide⟩
 refine rd_ixL (SqL.of hl3) hb ?_
 walk_at"rd"
 refine⟨p,N+1+1,b,rfl,hh3,by omega,b0,by omega,fun low H4 l0 l1 hh4 k4=>?_⟩
 have k5:=(k2.trans k3).trans k4
 walk_at"rd"
 refine rd_if (fun c1=>?_) (fun c1=>?_)
 ·walk_at"rd"
  exact q _ _ l0 (by omega) (hh4.mono (by omega)) k5
 walk_at"rd"
 refine rd_if (fun c2=>?_) (fun c2=>?_)
 ·walk_at"rd"
  exact q _ _ (by omega) (by omega) (hh4.mono (by omega)) k5
 walk_at"rd"
 refine rd_if (fun c3=>?_) (fun c3=>?_)
 ·walk_at"rd"
  refine⟨p,N+1+1+1,52,rfl,hh4,by omega,by decide,by decide,fun e H5 e0 e1 hh5 k6=>?_⟩
  walk_at"rd"
  obtain⟨m,rfl⟩ : ∃m:Nat,e =(m:Int):=⟨e.toNat,by omega⟩
  refine⟨8+m,(by show [V.int (8+(m:Int))]=[V.int ((8+m:Nat):Int)];rw[show(8+(m:Int)) =((8+m:Nat):Int) by omega]),by omega,?_⟩
  walk_at"rd"
  have h1:(2:Int)^(8+m)≤2^59:=pow2_le (by omega)
  have h2:(0:Int)<2^(8+m):=Int.pow_pos (by decide)
  have h3:(2:Int)^59=576460752303423488:=by decide
  exact q _ _ (by omega) (by omega) (hh5.mono (by omega)) (k5.trans k6)
 walk_at"rd"
 refine rd_if (fun c4=>?_) (fun c4=>?_)
 ·walk_at"rd"
  refine⟨p,N+1+1+1,_,rfl,hh4,by omega,by decide,by decide,fun e H5 e0 e1 hh5 k6=>?_⟩
  walk_at"rd"
  exact q _ _ (by omega) (by omega) (hh5.mono (by omega)) (k5.trans k6)
 ·walk_at"rd"
  exact⟨p,N+1+1+1,_,rfl,hh4,by omega,by decide,by decide,fun e H5 e0 e1 hh5 k6=>q _ _ e0 e1 (hh5.mono (by omega)) (k5.trans k6)⟩
theorem ok__law_thing {f:Addr} {fd:FuncData} (F:Fun K "_law_thing" "_law_thing" s__law_thing f fd) (mF:mg "_law_thing" = some (.ref f)) (bF:Binds K fd ["_law_hand"] []) (T:Bl mg) (C__law_draw:Cal P w K mg base "_law_draw" ["_law_hand", "_law_many"] 1 (sp__law_draw K)) : Cal P w K mg base "_law_thing" ["_law_hand"] 2 (sp__law_thing K):=by
  refine Cal.of F mF bF sc__law_thing (fun vs H Q E h=>?_) (fun cdv A outer s H vs Q E hr h=>?_)
  · obtain ⟨p,N,rfl,_⟩:=h; rfl
  obtain ⟨p,N,rfl,hh,hN,q⟩:=h
  refine ⟨_,(pss_cons (ps_set (i:=1) sc__law_thing.nd rfl (Or.inr rfl) pe_str)
      (pss_one (ps_ret (pe_bm PySem.F.plainAttrs_str PySem.F.slot_str_join PySem.F.type_str_join mt_join pe_str (pa_cons (pe_comp rfl (blkOk (sc:=defScope s__law_thing) (N:=["_law_hand", "_law_letters"]) (vs:=["_law_k"]) (fs:=["_law_letters", "_law_hand"]) (js:=[1,0]) (by decide +kernel) rfl rfl) (pi_range1 rfl T.range (pa_cons (pe_op op_add pe_int (pcl C__law_draw (hr.mono (by decide)) (pa_cons (pv 0) (pa_cons pe_int pa_nil stx_Constant) stx_Name))) pa_nil stx_BinOp)) (fun _ _ _ _=>pg_name (i:=0) (show (["_law_k", "_law_letters", "_law_hand"] : List Str).Nodup by decide +kernel) rfl (Or.inl rfl)) (fun _ _ _ _=>pif0) (fun _ _ _ _=>(pe_ix ix_str (pv 1) (pcl C__law_draw (hr.mono (by decide)) (pa_cons (pv 2) (pa_cons pe_int pa_nil stx_Constant) stx_Name)) (fun _ _=>rfl)))) pa_nil stx_ListComp))))),?_⟩
  rw [st__law_thing]
  walk_at"rd"
  refine ⟨rfl,?_⟩
  walk_at"rd"
  refine ⟨p,_,8,rfl,hh,by omega,by decide,by decide,fun n H1 n0 n1 hh1 k1=>?_⟩
  walk_at"rd"
  refine ⟨_,rfl,by omega,by omega,fun D nD=>?_⟩
  refine comp_range (n:=(1 + n).toNat) (fun j σ' ys H'=>(∃ x,σ' = [x,some (.str (Str.ofString "abcdefghijklmnopqrstuvwxyz")),some (.ref p)])∧(∃ zs:List Str,ys = zs.map V.str∧zs.length = j∧∀ y ∈ zs,y.length = 1∧∀ c ∈ y.cps,c < 128)∧j ≤ 8∧CK H1 p D (N + 1 + j) ys H') D ⟨⟨_,rfl⟩,⟨[],rfl,rfl,fun _ h=>(by cases h)⟩,by omega,CK.start hh1 nD⟩ ?_ ?_
  · rintro j σ' ys H2 hj ⟨⟨x,rfl⟩,⟨zs,rfl,zl,zc⟩,j8,ck⟩
    walk_at"rd"
    refine ⟨p,_,26,rfl,ck.hh,by omega,by decide,by decide,fun v H3 v0 v1 hh3 k3=>?_⟩
    have ck:=ck.draw k3 hh3
    obtain ⟨c,hc,c1⟩:=let26 v0 v1
    refine rd_ixS (by decide +kernel) hc ?_
    refine ⟨ck.lat,by rw [List.length_map]; exact small1000 (by omega),⟨_,rfl⟩,⟨zs ++ [⟨#[c]⟩],by rw [List.map_append]; rfl,by rw [List.length_append,zl]; rfl,fun y hy=>?_⟩,by omega,ck.push⟩
    rcases List.mem_append.mp hy with h | h
    · exact zc y h
    · have e:y = ⟨#[c]⟩:=by simpa using h
      subst e
      exact ⟨rfl, fun d hd => by have : d = c := by simpa using hd
                                 omega⟩
  · rintro σ' ys H2 ⟨⟨x,rfl⟩,⟨zs,rfl,zl,zc⟩,j8,ck⟩
    walk_at"rd"
    refine ⟨_,D,zs,rfl,rfl,SqL.of ck.lat,?_,?_⟩
    · rw [sum_ones zs zc,show (Str.ofString "").length = 0 by decide]; omega
    obtain ⟨w1,w2⟩:=join_low zs zc
    rw [joinT]
    exact q _ _ (strOk_low w2) (by rw [w1]; omega) (ck.hh.mono (by omega)) (k1.trans ck.kp)
theorem ok__law_whole {f:Addr}{fd:FuncData}(F:Fun K "_law_whole" "_law_whole" s__law_whole f fd) (mF:mg "_law_whole" = some (.ref f)) (bF:Binds K fd ["_law_got"] []) (T:Bl mg)  : Cal P w K mg base "_law_whole" ["_law_got"] 1 (sp__law_whole K):=by
 refine Cal.of F mF bF sc__law_whole (fun vs H Q E h=>?_) (fun cdv A outer s H vs Q E hr h=>?_)
 ·obtain⟨n,rfl,_⟩:=h;rfl
 obtain⟨n,rfl,q⟩:=h
 refine⟨_,(pss_one (ps_ret (pe_and (pe_callB call_isinst rfl T.isinstance bt_isinstance (pa_cons (pv 0) (pa_cons (pe_bltn (v:=.ty "int") rfl T.int bt_int rfl) pa_nil stx_Name) stx_Name)) (pe_one (pe_not (pe_callB call_isinst rfl T.isinstance bt_isinstance (pa_cons (pv 0) (pa_cons (pe_bltn (v:=.ty "bool") rfl T.bool bt_bool rfl) pa_nil stx_Name) stx_Name))))))),?_⟩
 rw[st__law_whole]
 walk_at"rd"
 refine rd_isi (.int n) (b:=true) rfl ?_
 walk_at"rd"
 refine rd_isi (.int n) (b:=false) rfl ?_
 walk_at"rd"
 exact q
theorem ok__law_room {f:Addr}{fd:FuncData}(F:Fun K "_law_room" "_law_room" s__law_room f fd) (mF:mg "_law_room" = some (.ref f)) (bF:Binds K fd ["_law_key_here", "_law_rooms"] []) (T:Bl mg)  : Cal P w K mg base "_law_room" ["_law_key_here", "_law_rooms"] 1 (sp__law_room K):=by
 refine Cal.of F mF bF sc__law_room (fun vs H Q E h=>?_) (fun cdv A outer s H vs Q E hr h=>?_)
 ·obtain⟨k,R,rfl,_⟩:=h;rfl
 obtain⟨k,R,rfl,k0,k1,h1,h2,q⟩:=h
 have hl:=lg_60 h1 h2
 have gl:=lg_le h1
 have gt:=lg_lt h1
 refine⟨_,(pss_cons (ps_set (i:=2) sc__law_room.nd rfl (Or.inl rfl) pe_int)
   (pss_cons (ps_set (i:=3) sc__law_room.nd rfl (Or.inl rfl) pe_int)
   (pss_cons (ps_while PassesOwn.never (PW.pt (pw_and (pt_cmpR op_gt (pv 0) pe_int (nomark _)) (pw_and1 (pt_cmpR op_lt (pv 3) (pv 1) (nomark _))))) (pss_cons (ps_cut (ps_if (PW.pt (pw_and (pt_cmpR op_eq (pe_op op_mod (pv 0) pe_int) pe_int (nomark _)) (pw_and1 (pt_cmpR op_lt (pe_op op_add (pv 2) (pv 3)) (pv 1) (nomark _))))) (pss_one (ps_set (i:=2) sc__law_room.nd rfl (Or.inl rfl) (pe_op op_add (pv 2) (pv 3)))) pss_nil))
   (pss_cons (ps_set (i:=0) sc__law_room.nd rfl (Or.inl rfl) (pe_op op_fdivB (pv 0) pe_int))
   (pss_one (ps_set (i:=3) sc__law_room.nd rfl (Or.inl rfl) (pe_op op_mul (pv 3) pe_int))))))
   (pss_one (ps_ret (pv 2)))))),?_⟩
 rw[st__law_room]
 walk_at"rd"
 refine⟨fun m σ H'=>H'=H∧((∃j:Nat,σ=[some (.int (k / 2^j)),some (.int R),some (.int (k%2^j)),some (.int (2^j))]∧j≤lg R∧m=lg R+1-j) ∨(σ=[some (.int (k / 2^(lg R+1))),some (.int R),some (.int (roomV k R)),some (.int (2^(lg R+1)))]∧m=0)),⟨lg R+1,rfl,.inl ⟨0,by simp,by omega,by omega⟩⟩,?_⟩
 rintro m σ H' ⟨rfl,⟨j,rfl,hj,rfl⟩|⟨rfl,rfl⟩⟩
 ·have pj:=pow2_pos j
  have pl:=pow2_le hj
  have lo1:=Int.emod_nonneg k (b:=2^j) (by omega)
  have lo2:=Int.emod_lt_of_pos k pj
  walk_at"rd"
  refine rd_if (fun c=>?_) (fun c=>?_)
  ·walk_at"rd"
   refine rd_if (fun c2=>?_) (fun c2=>?_)
   ·refine⟨_,fun σ' H'' h=>h,?_⟩
    have hp:=roomV_pow (k:=k) (j:=j)
    have hpl:=roomV_pow (k:=k) (j:=lg R)
    have ep:(2:Int)^(j+1)=2^j*2:=Int.pow_succ 2 j
    have small:j<lg R→(2:Int)^(j+1)≤2^lg R:=fun h=>pow2_le h
    have fin:∀v:Int,v =(if j=lg R then roomV k R else k%2^(j+1))→∃m',m'<lg R+1-j∧(H'=H'∧((∃j':Nat,[some (V.int (k / 2^j / 2)),some (V.int R),some (V.int v),some (V.int (2^j*2))]=[some (.int (k / 2^j')),some (.int R),some (.int (k%2^j')),some (.int (2^j'))]∧j'≤lg R∧m'=lg R+1-j') ∨([some (V.int (k / 2^j / 2)),some (V.int R),some (V.int v),some (V.int (2^j*2))]=[some (.int (k / 2^(lg R+1))),some (.int R),some (.int (roomV k R)),some (.int (2^(lg R+1)))]∧m'=0))):=fun v hv=>by
     have ed:k / 2^j / 2=k / 2^(j+1):=by rw[ep];exact Int.ediv_ediv_of_nonneg (show(0:Int)≤2^j by omega)
     rw[ed,← ep,hv]
     by_cases z:j=lg R
     ·rw[if_pos z]
      exact⟨0,by omega,rfl,.inr ⟨by rw[z],rfl⟩⟩
     ·rw[if_neg z]
      exact⟨lg R+1-(j+1),by omega,rfl,.inl ⟨j+1,rfl,by omega,rfl⟩⟩
    walk_at"rd"
    refine⟨fun σ' H''=>H''=H'∧σ'=[some (.int (k / 2^j)),some (.int R),some (.int (if j=lg R then roomV k R else k%2^(j+1))),some (.int (2^j))],?_,?_⟩
    ·walk_at"rd"
     refine rd_if (fun b1=>?_) (fun b1=>?_)
     ·rw[b1,Int.mul_one]at hp
      walk_at"rd"
      refine rd_if (fun b2=>?_) (fun b2=>?_)
      ·walk_at"rd"
       refine⟨rfl,?_⟩
       have ev:k%2^j+2^j =(if j=lg R then roomV k R else k%2^(j+1)):=by
        split
        ·rename_i z
         unfold roomV
         rw[if_neg (by rw[← z];omega),← z,hp]
        ·exact hp.symm
       rw[ev]
      ·walk_at"rd"
       refine⟨rfl,?_⟩
       have z:j=lg R:=by
        by_cases z:j=lg R
        ·exact z
        ·have:=small (by omega)
         omega
       have ev:k%2^j =(if j=lg R then roomV k R else k%2^(j+1)):=by
        rw[if_pos z]
        unfold roomV
        rw[if_pos (by rw[← z];omega),← z]
       rw[← ev]
     ·have b0:k / 2^j%2=0:=by omega
      rw[b0,Int.mul_zero,Int.add_zero]at hp
      walk_at"rd"
      refine⟨rfl,?_⟩
      have ev:k%2^j =(if j=lg R then roomV k R else k%2^(j+1)):=by
       split
       ·rename_i z
        unfold roomV
        split
        ·rw[z]
        ·rw[← z,hp]
       ·exact hp.symm
      rw[← ev]
    ·rintro σ' H'' ⟨rfl,rfl⟩
     walk_at"rd"
     exact fin _ rfl
   ·walk_at"rd"
    have z:j=lg R:=by
     by_cases z:j=lg R
     ·exact z
     ·have m:=pow2_le (show j+1≤lg R by omega)
      rw[Int.pow_succ]at m
      omega
    unfold roomV at q
    rw[if_pos (by rw[← z];omega),← z]at q
    exact q
  ·walk_at"rd"
   have e1:=low_of (i:=j) (j:=j) k0 (by omega) (Nat.le_refl _)
   have e2:=low_of (i:=lg R) (j:=j) k0 (by omega) hj
   have e3:=low_of (i:=lg R+1) (j:=j) k0 (by omega) (by omega)
   unfold roomV at q
   rw[e2,e3]at q
   rw[e1]
   split at q <;> exact q
 ·walk_at"rd"
  refine rd_if (fun c=>?_) (fun c=>?_)
  ·walk_at"rd"
   refine rd_if (fun c2=>absurd c2 (by omega)) (fun c2=>?_)
   walk_at"rd"
   exact q
  ·walk_at"rd"
   exact q
theorem ok__law_cut {f:Addr}{fd:FuncData}(F:Fun K "_law_cut" "_law_cut" s__law_cut f fd) (mF:mg "_law_cut" = some (.ref f)) (bF:Binds K fd ["_law_wide", "_law_entries"] []) (T:Bl mg)  : Cal P w K mg base "_law_cut" ["_law_wide", "_law_entries"] 1 (sp__law_cut K):=by
 refine Cal.of F mF bF sc__law_cut (fun vs H Q E h=>?_) (fun cdv A outer s H vs Q E hr h=>?_)
 ·obtain⟨w,a,ts,es,rfl,_⟩:=h;rfl
 obtain⟨w,a,ts,es,rfl,ha,el,nd,esl,w1,w2,q⟩:=h
 have tl:=el.1
 have er:=el.row
 refine⟨_,(pss_cons (ps_set (i:=2) sc__law_cut.nd rfl (Or.inl rfl) (pe_callB call_sortT rfl T.sorted bt_sorted (pa_cons (pv 1) pa_nil stx_Name)))
   (pss_cons (ps_set (i:=3) sc__law_cut.nd rfl (Or.inl rfl) (pe_lst (pa_cons (pe_slice sl_list (pv 2) po_none (po_some (pv 0))) pa_nil stx_Subscript)))
   (pss_cons (ps_while PassesOwn.never (pt_cmpR op_gt (pe_callB call_lenL rfl T.len bt_len (pa_cons (pv 2) pa_nil stx_Name)) (pv 0) (nomark _)) (pss_cons (ps_set (i:=2) sc__law_cut.nd rfl (Or.inl rfl) (pe_slice sl_list (pv 2) (po_some (pv 0)) po_none))
   (pss_one (ps_expr (pe_bm PySem.F.plainAttrs_list PySem.F.slot_list_append PySem.F.type_list_append mt_append (pv 3) (pa_cons (pe_slice sl_list (pv 2) po_none (po_some (pv 0))) pa_nil stx_Subscript))))))
   (pss_one (ps_ret (pv 3)))))),?_⟩
 rw[st__law_cut]
 walk_at"rd"
 have hNd:(ts.map (kE H)).Nodup:=by rw[← rowD_refs,er];exact nd
 refine⟨a,ts,kE H,rfl,SqL.of ha,by omega,fun t ht=>?_,inj_of hNd,fun us l p1 p2 nl=>?_⟩
 ·obtain⟨t',et,ht',_⟩:=(el.en (.ref t) (List.mem_map.mpr ⟨t,ht,rfl⟩)).pt
  cases et
  exact⟨_,ht'⟩
 generalize hE:upd H l _=H1
 obtain⟨hl,s1⟩:=newo nl hE
 clear hE
 have ul:us.length≤190:=by rw[p1.length_eq];omega
 walk_at"rd"
 refine rd_slL (SqL.of hl) fun r0 nr0=>?_
 rw[cut_refsT]
 generalize hE:upd H1 r0 _=H2
 obtain⟨hr0,s2⟩:=newo nr0 hE
 clear hE
 walk_at"rd"
 refine⟨(by show 1≤sizeLine;decide),fun D nD=>?_⟩
 generalize hE:upd H2 D _=H3
 obtain⟨hD,s3⟩:=newo nD hE
 clear hE
 have s03:=(s1.trans s2).trans s3
 have q':∀(l:Addr) (H':Hp),H l=none→RwsN H H' l (rowsVV (us.map V.ref) w)→Same H H'→Q (.ref l) H':=fun l H' n1 n2 n3=>q l us H' n1 p1 (by
  have:(us.map V.ref).map (eD H)=us.map (fun t=>eD H (.ref t)):=by rw[List.map_map];rfl
  unfold rowD
  rw[this,List.pairwise_map]
  exact p2) n2 n3
 clear q
 have D0:H D=none:=(s1.trans s2).free nD
 walk_at"rd"
 refine⟨fun m σ H'=>∃(i:Nat) (b:Addr) (as:List Addr),σ=[some (.int w),some (.ref a),some (.ref b),some (.ref D)]∧Same H H'∧m=us.length-i*w∧H' b=some (.lst ((us.drop (i*w)).map V.ref))∧H' D=some (.lst (as.map V.ref))∧b≠D∧as.length=i+1∧(∀(k:Nat) (c:Addr) (es:List V),as[k]? = some c→(rowsNV (us.map V.ref) w (i+1))[k]? = some es→H' c=some (.lst es))∧as.Nodup∧(∀c∈as,H c=none∧c≠D∧∃o,H' c=some o)∧(i=0∨i*w<us.length),?_,?_⟩
 ·refine⟨_,0,l,[r0],rfl,s03,rfl,by simpa using (s2.trans s3) _ _ hl,hD,?_,rfl,?_,by simp,?_,.inl rfl⟩
  ·intro z;rw[z]at hl;rw[s2 _ _ hl]at nD;cases nD
  ·intro k c es e1 e2
   cases k with
   | zero =>
    cases e1
    unfold rowsNV at e2
    simp at e2
    rw[← e2,← List.map_take]
    exact s3 _ _ hr0
   | succ k=>simp at e1
  ·intro c hc
   rw[List.mem_singleton.mp hc]
   exact⟨s1.free nr0,(fun z=>by rw[z]at hr0;rw[hr0]at nD;cases nD),_,s3 _ _ hr0⟩
 ·rintro m σ H' ⟨i,b,as,rfl,s4,rfl,hb,hD4,bD,al,hrow,hnd,hnew,hi⟩
  have dl:((us.drop (i*w)).map V.ref).length=us.length-i*w:=by rw[List.length_map,List.length_drop]
  have mulw:(i+1)*w=i*w+w:=Nat.succ_mul i w
  have mulw2:(i+2)*w=i*w+w+w:=by rw[Nat.succ_mul (i+1) w,mulw]
  walk_at"rd"
  rw[dl]
  refine rd_if (fun c=>?_) (fun c=>?_)
  ·refine⟨_,fun σ' H'' h=>h,?_⟩
   have c':w<us.length-i*w:=by omega
   walk_at"rd"
   refine rd_slL (SqL.of hb) fun b2 nb2=>?_
   rw[cut_refsD,List.drop_drop]
   generalize hE:upd H' b2 _=H5
   obtain⟨hb2,s5⟩:=newo nb2 hE
   clear hE
   walk_at"rd"
   refine⟨.inl ⟨rfl,_,SqL.of (s5 _ _ hD4)⟩,?_⟩
   walk_at"rd"
   refine rd_slL (SqL.of hb2) fun r nr=>?_
   rw[cut_refsT]
   generalize hE:upd H5 r _=H6
   obtain⟨hr6,s6⟩:=newo nr hE
   clear hE
   have hD6:=s6 _ _ (s5 _ _ hD4)
   have ib:i<190:=by
    have:i*1≤i*w:=Nat.mul_le_mul_left _ w1
    omega
   walk_at"rd"
   refine⟨D,_,_,rfl,rfl,hD6,by rw[List.length_map];exact small1000 (by omega),?_⟩
   have rD:r≠D:=fun z=>by rw[z]at nr;rw[s5 _ _ hD4]at nr;cases nr
   have b2D:b2≠D:=fun z=>by rw[z,hD4]at nb2;cases nb2
   have rn:H r=none:=(s4.trans s5).free nr
   walk_at"rd"
   refine⟨_,?_,i+1,b2,as ++ [r],rfl,fun c o e=>?_,rfl,?_,?_,b2D,by rw[List.length_append,al];rfl,?_,?_,?_,.inr (by omega)⟩
   ·omega
   ·rw[upd_ne (ne_of_none e D0)];exact s6 _ _ (s5 _ _ (s4 _ _ e))
   ·rw[upd_ne b2D,mulw];exact s6 _ _ hb2
   ·rw[upd_same,List.map_append];rfl
   ·intro k c es e1 e2
    rw[rowsNV_succ]at e2
    by_cases z:k<as.length
    ·rw[List.getElem?_append_left z]at e1
     rw[List.getElem?_append_left (by rw[rowsNV_len];omega)]at e2
     rw[upd_ne (hnew c (List.mem_of_getElem? e1)).2.1];exact s6 _ _ (s5 _ _ (hrow k c es e1 e2))
    ·have kl:=(List.getElem?_eq_some_iff.mp e1).1
     rw[List.length_append]at kl
     have hk:k=as.length:=by have:[r].length=1:=rfl;omega
     subst hk
     rw[List.getElem?_append_right (Nat.le_refl _),Nat.sub_self]at e1
     rw[List.getElem?_append_right (by rw[rowsNV_len];omega),rowsNV_len,al,Nat.sub_self]at e2
     have ec:r=c:=Option.some.inj e1
     have ee:=Option.some.inj e2
     subst ec
     rw[upd_ne rD,← ee,hr6,List.map_take,List.map_drop,mulw]
   ·rw[List.nodup_append]
    refine⟨hnd,by simp,fun x hx y hy z=>?_⟩
    rw[List.mem_singleton.mp hy]at z
    obtain⟨o,ho⟩:=(hnew x hx).2.2
    rw[z]at ho;rw[s5 _ _ ho]at nr;cases nr
   ·intro c hc
    rcases List.mem_append.mp hc with z|z
    ·obtain⟨g1,g2,o,g3⟩:=hnew c z
     exact⟨g1,g2,o,by rw[upd_ne g2];exact s6 _ _ (s5 _ _ g3)⟩
    ·rw[List.mem_singleton.mp z]
     exact⟨rn,rD,_,by rw[upd_ne rD];exact hr6⟩
  ·walk_at"rd"
   refine q' D H' D0 ⟨as,hD4,?_,?_,hnd,fun c hc=>⟨(hnew c hc).1,(hnew c hc).2.1⟩⟩ s4
   ·unfold rowsVV
    rw[rowsNV_len,List.length_map,rfor_is w1 (i:=i) (by omega) hi,al]
   ·unfold rowsVV
    rw[List.length_map,rfor_is w1 (i:=i) (by omega) hi]
    exact hrow
theorem ok__law_clean {f:Addr}{fd:FuncData}(F:Fun K "_law_clean" "_law_clean" s__law_clean f fd) (mF:mg "_law_clean" = some (.ref f)) (bF:Binds K fd ["_law_wide", "_law_rooms", "_law_entries"] []) (T:Bl mg) (C__law_cut:Cal P w K mg base "_law_cut" ["_law_wide", "_law_entries"] 1 (sp__law_cut K)) (C__law_room:Cal P w K mg base "_law_room" ["_law_key_here", "_law_rooms"] 1 (sp__law_room K)):Cal P w K mg base "_law_clean" ["_law_wide", "_law_rooms", "_law_entries"] 2 (sp__law_clean K):=by
 refine Cal.of F mF bF sc__law_clean (fun vs H Q E h=>?_) (fun cdv A outer s H vs Q E hr h=>?_)
 ·obtain⟨w,R,a,ts,es,rfl,_⟩:=h;rfl
 obtain⟨w,R,a,ts,es,rfl,ha,el,nd,esl,w1,w2,r1,r2,q⟩:=h
 have tl:=el.1
 refine⟨_,(pss_cons (ps_setc (i:=3) sc__law_clean.nd rfl rfl rfl (blkOk (sc:=defScope s__law_clean) (N:=["_law_wide", "_law_rooms", "_law_entries", "_law_parts", "_law_entry"]) (vs:=["_law_k"]) (fs:=[]) (js:=[]) (by decide +kernel) rfl rfl) (pi_range1 rfl T.range (pa_cons (pv 1) pa_nil stx_Name)) (fun _ _ _ _=>pg_name (i:=0) (show(["_law_k"]:List Str).Nodup by decide +kernel) rfl (Or.inl rfl)) (fun _ _ _ _=>pif0) (fun _ _ _ _=>(pe_lst pa_nil)))
   (pss_cons (ps_for PassesOwn.never rfl (pi_list (pv 2)) (pg_name (i:=4) sc__law_clean.nd rfl (Or.inl rfl)) (pss_one (ps_expr (pe_bm PySem.F.plainAttrs_list PySem.F.slot_list_append PySem.F.type_list_append mt_append (pe_ix ix_list (pv 3) (pcl C__law_room (hr.mono (by decide)) (pa_cons (pe_ix ix_tup (pv 4) pe_int (fun _ _=>rfl)) (pa_cons (pv 1) pa_nil stx_Name) stx_Subscript)) (fun _ _=>rfl)) (pa_cons (pv 4) pa_nil stx_Name)))))
   (pss_one (ps_ret (pe_tup (pa_cons (pv 0) (pa_cons (pv 1) (pa_cons (pe_comp rfl (blkOk (sc:=defScope s__law_clean) (N:=["_law_wide", "_law_rooms", "_law_entries", "_law_parts", "_law_entry"]) (vs:=["_law_part"]) (fs:=["_law_wide"]) (js:=[0]) (by decide +kernel) rfl rfl) (pi_list (pv 3)) (fun _ _ _ _=>pg_name (i:=0) (show(["_law_part", "_law_wide"]:List Str).Nodup by decide +kernel) rfl (Or.inl rfl)) (fun _ _ _ _=>pif0) (fun _ _ _ _=>(pcl C__law_cut (hr.mono (by decide)) (pa_cons (pv 1) (pa_cons (pv 0) pa_nil stx_Name) stx_Name)))) pa_nil stx_ListComp) stx_Name) stx_Name)))))),?_⟩
 rw[st__law_clean]
 walk_at"rd"
 refine⟨R,rfl,by omega,by omega,fun D nD=>?_⟩
 rw[Int.toNat_natCast]
 refine comp_range (n:=R) (fun i σ' ys H'=>(∃x,σ'=[x])∧Same H H'∧∃as:List Addr,ys=as.map V.ref∧H' D=some (.lst ys)∧as.length=i∧(∀b∈as,H' b=some (.lst []))∧as.Nodup∧∀b∈as,H b=none∧b≠D) D ⟨⟨_,rfl⟩,same_new nD _,[],rfl,upd_same,rfl,fun _ h=>by(cases h),List.nodup_nil,fun _ h=>by(cases h)⟩ ?_ ?_
 ·rintro i σ' ys H1 hi ⟨⟨x,rfl⟩,s1,as,rfl,hD,al,hL,hn,h4⟩
  walk_at"rd"
  refine⟨by decide,fun b nb=>?_⟩
  generalize hE:upd H1 b _=H2
  obtain⟨hb,s2⟩:=newo nb hE
  clear hE
  have bD:b≠D:=by intro e;rw[e,hD]at nb;cases nb
  have bas:b∉as:=fun m=>by rw[hL b m]at nb;cases nb
  refine⟨s2 _ _ hD,by rw[List.length_map,al];exact small1000 (by omega),⟨_,rfl⟩,fun c o e=>?_,as ++ [b],by rw[List.map_append];rfl,upd_same,by rw[List.length_append,al];rfl,fun c hc=>?_,?_,fun c hc=>?_⟩
  ·rw[upd_ne (ne_of_none e nD)];exact s2 _ _ (s1 _ _ e)
  ·rcases List.mem_append.mp hc with m|m
   ·rw[upd_ne (h4 c m).2];exact s2 _ _ (hL c m)
   ·rw[List.mem_singleton.mp m,upd_ne bD];exact hb
  ·rw[List.nodup_append]
   exact⟨hn,by simp,fun x hx y hy e=>by simp at hy;rw[hy]at e;exact bas (e ▸ hx)⟩
  ·rcases List.mem_append.mp hc with m|m
   ·exact h4 c m
   ·rw[List.mem_singleton.mp m];exact⟨s1.free nb,bD⟩
 ·rintro σ' ys H1 ⟨⟨x,rfl⟩,s1,as,rfl,hD,al,hL,hn,h4⟩
  walk_at"rd"
  refine⟨a,rfl,⟨_,SqL.of (s1 _ _ ha)⟩,?_⟩
  have aas:∀b∈as,b≠a:=fun b m z=>by have:=(h4 b m).1;rw[z,ha]at this;cases this
  refine for_listO (xs:=ts.map V.ref) (fun i σ H'=>(∃x,σ=[some (.int w),some (.int R),some (.ref a),some (.ref D),x])∧Same H H'∧H' D=some (.lst (as.map V.ref))∧∀(j:Nat) (b:Addr),as[j]? = some b→H' b=some (.lst (((ts.take i).filter fun t=>decide (roomV (kE H t) R =(j:Int))).map V.ref))) ⟨⟨_,rfl⟩,s1,hD,fun j b e=>by simpa using hL b (List.mem_of_getElem? e)⟩ (fun _ _ _ _ h=>SqL.of (h.2.1 _ _ ha)) ?_ ?_
  ·rintro i x σ H3 hx ⟨⟨x1,rfl⟩,s3,hD3,hL3⟩
   obtain⟨t,ht,rfl⟩:=refs_get hx
   have il:=(List.getElem?_eq_some_iff.mp ht).1
   obtain⟨e,he,het,_,k0,k1,_⟩:=el.get ht
   have hk:kE H t=e.1:=by unfold kE;rw[eD_at het]
   have rb:=roomV_lt (k:=e.1) (R:=R) (by omega)
   obtain⟨j,hj,jl⟩ : ∃j:Nat,roomV e.1 R =(j:Int)∧j<R:=⟨(roomV e.1 R).toNat,by omega,by omega⟩
   obtain⟨b,hb⟩ : ∃b,as[j]? = some b:=⟨_,List.getElem?_eq_getElem (show j<as.length by omega)⟩
   have hm:=List.mem_of_getElem? hb
   have hbr:=hL3 j b hb
   walk_at"rd"
   refine rd_ixT (SqT.of (s3 _ _ het)) at_zero ?_
   walk_at"rd"
   refine⟨e.1,R,rfl,k0,by omega,by omega,by omega,?_⟩
   rw[hj]
   refine rd_ixL (SqL.of hD3) (at_ref' hb) ?_
   walk_at"rd"
   refine⟨.inl ⟨rfl,_,SqL.of hbr⟩,?_⟩
   walk_at"rd"
   refine⟨b,_,_,rfl,rfl,hbr,?_,?_⟩
   ·rw[List.length_map]
    refine small1000 (Nat.le_trans (List.length_filter_le _ _) ?_)
    rw[List.length_take];omega
   walk_at"rd"
   refine⟨⟨_,rfl⟩,fun c o e=>?_,?_,fun j' b' e'=>?_⟩
   ·rw[upd_ne (ne_of_none e (h4 b hm).1)];exact s3 _ _ e
   ·rw[upd_ne (h4 b hm).2.symm];exact hD3
   ·rw[take_get ht,List.filter_append,List.filter_cons,hk,hj]
    by_cases z:j=j'
    ·subst z
     have:b=b':=by rw[hb]at e';exact Option.some.inj e'
     subst this
     rw[upd_same,if_pos (decide_eq_true rfl),List.map_append];rfl
    ·have:b'≠b:=fun w=>by
      subst w
      exact z ((List.getElem?_inj (List.getElem?_eq_some_iff.mp hb).1 hn).mp (hb.trans e'.symm))
     rw[upd_ne this,if_neg (by simp;omega)]
     simpa using hL3 j' b' e'
  ·rintro σ H3 ⟨⟨x1,rfl⟩,s3,hD3,hL3⟩
   rw[List.length_map,List.take_length]at hL3
   have el3:=el.same s3
   have kk:∀t∈ts,kE H3 t=kE H t:=fun t ht=>by
    unfold kE
    rw[(el.en (.ref t) (List.mem_map.mpr ⟨t,ht,rfl⟩)).eD fun _ _ e=>s3 _ _ e]
   have hL3':∀(j:Nat) (b:Addr),as[j]? = some b→H3 b=some (.lst ((ts.filter fun t=>decide (roomV (kE H3 t) R =(j:Int))).map V.ref)):=fun j b e=>by
    rw[hL3 j b e]
    congr 3
    apply List.filter_congr
    intro t ht
    rw[kk t ht]
   clear hL3 kk
   walk_at"rd"
   refine⟨D,rfl,⟨_,SqL.of hD3⟩,fun D2 nD2=>?_⟩
   refine comp_list (xs:=as.map V.ref) (fun i σ' ys H'=>(∃x,σ'=[x,some (.int w)])∧Same H3 H'∧H' D2=some (.lst ys)∧∃(ls:List Addr) (uss:List (List Addr)),ys=ls.map V.ref∧ls.length=i∧uss.length=i∧∀(j:Nat) (l:Addr) (us:List Addr),ls[j]? = some l→uss[j]? = some us→us.Perm (ts.filter fun t=>decide (roomV (kE H3 t) R =(j:Int)))∧((rowD H3 (us.map V.ref)).Pairwise fun a b=>a.1≤b.1)∧Rws (hid D2 H') l (rowsVV (us.map V.ref) w)) D2 ⟨⟨_,rfl⟩,same_new nD2 _,upd_same,[],[],rfl,rfl,rfl,fun j l us e=>by simp at e⟩ (fun i σ' ys H' _ h=>SqL.of (h.2.1 _ _ hD3)) ?_ ?_
   ·rintro i x σ' ys H4 hx ⟨⟨x1,rfl⟩,s4,hD2,ls,uss,rfl,ll,ul,hu⟩
    obtain⟨b,hb,rfl⟩:=refs_get hx
    have il:=(List.getElem?_eq_some_iff.mp hb).1
    have hb4:=s4 _ _ (hL3' i b hb)
    have el4:=el3.same s4
    have enf:∀v∈(ts.filter fun t=>decide (roomV (kE H3 t) R =(i:Int))).map V.ref,En H4 v:=fun v hv=>by
     obtain⟨t,ht,rfl⟩:=List.mem_map.mp hv
     exact el4.en _ (List.mem_map.mpr ⟨t,(List.mem_filter.mp ht).1,rfl⟩)
    obtain⟨ts',e1,e2⟩:=EL.of enf
    have et:ts'=ts.filter fun t=>decide (roomV (kE H3 t) R =(i:Int)):=(List.map_inj_right (fun a b e=>by cases e;rfl)).mp e1.symm
    subst et
    have fl:(ts.filter fun t=>decide (roomV (kE H3 t) R =(i:Int))).length≤190:=Nat.le_trans (List.length_filter_le _ _) (by omega)
    have fn:((rowD H4 ((ts.filter fun t=>decide (roomV (kE H3 t) R =(i:Int))).map V.ref)).map (·.1)).Nodup:=by
     rw[rowD_refs]
     have:(ts.map (kE H4)).Nodup:=by rw[← rowD_refs,el4.row];exact nd
     exact this.sublist (List.filter_sublist.map _)
    walk_at"rd"
    refine⟨w,b,_,_,rfl,hb4,e2,fn,by rw[← e2.1];exact fl,w1,w2,fun l us H5 nl p1 p2 rn s5=>?_⟩
    have lD:l≠D2:=fun z=>by rw[z,hD2]at nl;cases nl
    have hid5:Rws (hid D2 H5) l (rowsVV (us.map V.ref) w):=by
     obtain⟨as5,g1,g2,g3,_,g4⟩:=rn
     exact⟨as5,by rw[hid_ne lD];exact g1,g2,fun k c es c1 c2=>by
      have nb:=(g4 c (List.mem_of_getElem? c1)).1
      rw[hid_ne (fun z=>by rw[z,hD2]at nb;cases nb)]
      exact g3 k c es c1 c2⟩
    have p2':(rowD H3 (us.map V.ref)).Pairwise fun a b=>a.1≤b.1:=by
     rw[rowD_keep (fun _ _ e=>s4 _ _ e) (fun v hv=>by
      obtain⟨t,ht,rfl⟩:=List.mem_map.mp hv
      exact el3.en _ (List.mem_map.mpr ⟨t,(List.mem_filter.mp (p1.mem_iff.mp ht)).1,rfl⟩))]at p2
     exact p2
    refine⟨s5 _ _ hD2,by rw[List.length_map];exact small1000 (by omega),⟨_,rfl⟩,fun c o e=>?_,upd_same,ls ++ [l],uss ++ [us],by rw[List.map_append];rfl,by rw[List.length_append,ll];rfl,by rw[List.length_append,ul];rfl,?_⟩
    ·rw[upd_ne (ne_of_none e nD2)];exact s5 _ _ (s4 _ _ e)
    ·rw[hid_upd]
     exact ix_snoc (p:=fun j l us=>us.Perm (ts.filter fun t=>decide (roomV (kE H3 t) R =(j:Int)))∧((rowD H3 (us.map V.ref)).Pairwise fun a b=>a.1≤b.1)∧Rws (hid D2 H5) l (rowsVV (us.map V.ref) w)) ll ul (fun j l us c1 c2=>by
      obtain⟨g1,g2,g3⟩:=hu j l us c1 c2
      exact⟨g1,g2,g3.same (hid_same s5)⟩) ⟨p1,p2',hid5⟩
   ·rintro σ' ys H4 ⟨⟨x1,rfl⟩,s4,hD2,ls,uss,rfl,ll,ul,hu⟩
    rw[List.length_map,al]at ll ul
    walk_at"rd"
    refine⟨(by show 3≤sizeLine;decide),fun t nt=>?_⟩
    generalize hE:upd H4 t _=H5
    obtain⟨ht,s5⟩:=newo nt hE
    clear hE
    have s35:=s4.trans s5
    have kk:∀t∈ts,kE H5 t=kE H3 t:=fun t ht=>by
     unfold kE
     rw[(el3.en (.ref t) (List.mem_map.mpr ⟨t,ht,rfl⟩)).eD fun _ _ e=>s35 _ _ e]
    obtain⟨X,x1,x2,x3,x4⟩:=clean_is (H:=H5) (h:=D2) (ls:=ls) (uss:=uss) (el3.same s35) nd esl w1 r1 r2 (s5 _ _ hD2) ll ul fun j l us c1 c2=>by
     obtain⟨g1,g2,g3⟩:=hu j l us c1 c2
     refine⟨?_,?_,(g3.same hid_le).same s5⟩
     ·rw[show(ts.filter fun t=>decide (roomV (kE H5 t) R =(j:Int)))=ts.filter fun t=>decide (roomV (kE H3 t) R =(j:Int)) from List.filter_congr fun t ht=>by rw[kk t ht]]
      exact g1
     ·rw[rowD_keep (fun _ _ e=>s35 _ _ e) (fun v hv=>by
       obtain⟨t,ht,rfl⟩:=List.mem_map.mp hv
       exact el3.en _ (List.mem_map.mpr ⟨t,(List.mem_filter.mp (g1.mem_iff.mp ht)).1,rfl⟩))]
      exact g2
    exact q t X H5 ⟨D2,ht,x1,x2,x3⟩ x4 (s3.trans s35)
theorem ok__law_copy {f:Addr}{fd:FuncData}(F:Fun K "_law_copy" "_law_copy" s__law_copy f fd) (mF:mg "_law_copy" = some (.ref f)) (bF:Binds K fd ["_law_yard"] []) (T:Bl mg)  : Cal P w K mg base "_law_copy" ["_law_yard"] 1 (sp__law_copy K):=by
 refine Cal.of F mF bF sc__law_copy (fun vs H Q E h=>?_) (fun cdv A outer s H vs Q E hr h=>?_)
 ·obtain⟨y,w,R,X,rfl,_⟩:=h;rfl
 obtain⟨y,w,R,X,rfl,⟨h0,hy,⟨bs0,hh0,hP0⟩,hen,sz⟩,q⟩:=h
 refine⟨_,(pss_one (ps_ret (pe_tup (pa_cons (pe_ix ix_tup (pv 0) pe_int (fun _ _=>rfl)) (pa_cons (pe_ix ix_tup (pv 0) pe_int (fun _ _=>rfl)) (pa_cons (pe_comp rfl (blkOk (sc:=defScope s__law_copy) (N:=["_law_yard"]) (vs:=["_law_rows"]) (fs:=[]) (js:=[]) (by decide +kernel) rfl rfl) (pi_list (pe_ix ix_tup (pv 0) pe_int (fun _ _=>rfl))) (fun _ _ _ _=>pg_name (i:=0) (show(["_law_rows"]:List Str).Nodup by decide +kernel) rfl (Or.inl rfl)) (fun _ _ _ _=>pif0) (fun _ _ _ _=>(pe_comp rfl (blkOkM (N:=["_law_rows"]) (vs:=["_law_row_here"]) (fs:=[]) (js:=[]) rfl rfl (by kernel_rfl)) (pi_listK (K:=K) rfl (pv 0)) (fun _ _ _ _=>pg_name (i:=0) (show(["_law_row_here"]:List Str).Nodup by decide +kernel) rfl (Or.inl rfl)) (fun _ _ _ _=>pif0) (fun _ _ _ _=>(pe_callTy (call_list_ofK (K:=K) rfl) rfl T.list bt_list (pa_cons (pv 0) pa_nil stx_Name)))))) pa_nil stx_ListComp) stx_Subscript) stx_Subscript)))),?_⟩
 rw[st__law_copy]
 walk_at"rd"
 refine⟨h0,rfl,⟨_,SqL.of hh0⟩,fun D nD=>?_⟩
 refine comp_list (xs:=bs0.map V.ref) (fun i σ' ys H'=>(∃x,σ'=[x])∧Same H H'∧∃cs:List Addr,ys=cs.map V.ref∧T3 (fun b=>H b=none) H' D cs (X.take i)) D ⟨⟨_,rfl⟩,same_new nD _,[],rfl,nD,upd_same,List.nodup_nil,(fun z=>by cases z),P1.nil⟩ (fun i σ' ys H' _ h=>SqL.of (h.2.1 _ _ hh0)) ?_ ?_
 ·rintro i x σ' ys H1 hx ⟨⟨x1,rfl⟩,s1,cs,rfl,t1⟩
  obtain⟨b,hb,rfl⟩:=refs_get hx
  obtain⟨rows,hxi,_,as,hb1,hA⟩:=hP0.get hb
  have il:=(List.getElem?_eq_some_iff.mp hb).1
  have bl0:=hP0.1
  have szr:=(sz.2 rows (List.mem_of_getElem? hxi)).1
  have al:=hA.1
  have hD1:=t1.2.1
  walk_at"rd"
  refine⟨b,rfl,⟨_,SqL.of (s1 _ _ hb1)⟩,fun D' nD'=>?_⟩
  obtain⟨nDD,_⟩:=t1.new nD'
  refine comp_list (xs:=as.map V.ref) (fun j σ' ys H'=>(∃x,σ'=[x])∧Same H1 H'∧∃cs':List Addr,ys=cs'.map V.ref∧H' D'=some (.lst ys)∧P1 (fun a es=>H1 a=none∧a≠D'∧H' a=some (.lst es)) cs' (rows.take j)) D' ⟨⟨_,rfl⟩,same_new nD' _,[],rfl,upd_same,P1.nil⟩ (fun i σ' ys H' _ h=>SqL.of (h.2.1 _ _ (s1 _ _ hb1))) ?_ ?_
  ·rintro j x σ' ys H2 hx ⟨⟨x2,rfl⟩,s2,cs',rfl,hD',hC⟩
   obtain⟨a,ha,rfl⟩:=refs_get hx
   obtain⟨es,hes,_,ha1⟩:=hA.get ha
   have jl:=(List.getElem?_eq_some_iff.mp ha).1
   have cl:=hC.1
   rw[List.length_take]at cl
   walk_at"rd"
   refine rd_listOf (SqL.of (s2 _ _ (s1 _ _ ha1))) fun e ne=>?_
   generalize hE:upd H2 e _=H3
   obtain⟨he,s3⟩:=newo ne hE
   clear hE
   have eD:e≠D':=fun z=>by rw[z,hD']at ne;cases ne
   refine⟨s3 _ _ hD',by rw[List.length_map];exact small1000 (by omega),⟨_,rfl⟩,fun c o e=>by rw[upd_ne (ne_of_none e nD')];exact s3 _ _ (s2 _ _ e),cs' ++ [e],by rw[List.map_append];rfl,upd_same,?_⟩
   rw[take_get hes]
   refine(hC.imp fun a es t=>⟨t.1,t.2.1,?_⟩).snoc ⟨s2.free ne,eD,?_⟩
   ·rw[upd_ne eD];exact he
   ·rw[upd_ne t.2.1];exact s3 _ _ t.2.2
  ·rintro σ' ys H2 ⟨⟨x2,rfl⟩,s2,cs',rfl,hD',hC⟩
   rw[List.length_map,al,List.take_length]at hC
   have hD2:=s2 _ _ hD1
   have cl:=t1.2.2.2.2.1
   rw[List.length_take]at cl
   walk_at"rd"
   refine⟨hD2,by rw[List.length_map];exact small1000 (by have:=sz.1;omega),⟨_,rfl⟩,fun c o e=>by rw[upd_ne (ne_of_none e nD)];exact s2 _ _ (s1 _ _ e),cs ++ [D'],by rw[List.map_append];rfl,?_⟩
   rw[take_get hxi]
   refine t1.add (fun b o n e=>by rw[upd_ne n];exact s2 _ _ e) (by rw[upd_same,List.map_append];rfl) nD' (s1.free nD') (by rw[upd_ne nDD];exact hD') (hC.imp fun a es t=>⟨s1.free t.1,t.1,t.2.1,?_⟩)
   rw[upd_ne (t1.new t.1).1];exact t.2.2
 rintro σ' ys H1 ⟨⟨x1,rfl⟩,s1,cs,rfl,t1⟩
 rw[List.length_map,hP0.1,List.take_length]at t1
 walk_at"rd"
 refine⟨(by show 3≤sizeLine;decide),fun t nt=>?_⟩
 generalize hE:upd H1 t _=H2
 obtain⟨ht,s2⟩:=newo nt hE
 clear hE
 exact q t D cs H2 (s1.free nt) ht (t1.same s2) (s1.trans s2)
theorem ok__law_is_yard {f:Addr}{fd:FuncData}(F:Fun K "_law_is_yard" "_law_is_yard" s__law_is_yard f fd) (mF:mg "_law_is_yard" = some (.ref f)) (bF:Binds K fd ["_law_got", "_law_due"] []) (T:Bl mg) (C__law_whole:Cal P w K mg base "_law_whole" ["_law_got"] 1 (sp__law_whole K)):Cal P w K mg base "_law_is_yard" ["_law_got", "_law_due"] 2 (sp__law_is_yard K):=by
 refine Cal.of F mF bF sc__law_is_yard (fun vs H Q E h=>?_) (fun cdv A outer s H vs Q E hr h=>?_)
 ·obtain⟨y,y',h,w,R,P,rfl,_⟩:=h;rfl
 obtain⟨y,y',t,w,R,P,rfl,hy,h1,h2,q⟩:=h
 have hu:=hr.units
 refine⟨_,(pss_cons (ps_if (PW.pt (pw_or (pt_not (pt_val (pe_callB call_isinst rfl T.isinstance bt_isinstance (pa_cons (pv 0) (pa_cons (pe_bltn (v:=.ty "tuple") rfl T.tuple bt_tuple rfl) pa_nil stx_Name) stx_Name)))) (pw_or1 (pt_cmpR op_ne (pe_callB call_lenL rfl T.len bt_len (pa_cons (pv 0) pa_nil stx_Name)) pe_int (nomark _))))) (pss_one (ps_ret pe_bl)) pss_nil)
   (pss_one (ps_ret (pe_and (pe_cmpR (op_eqD hu) (pv 0) (pv 1) (nomark _)) (pe_and (pcl C__law_whole (hr.mono (by decide)) (pa_cons (pe_ix ix_tup (pv 0) pe_int (fun _ _=>rfl)) pa_nil stx_Subscript)) (pe_one (pcl C__law_whole (hr.mono (by decide)) (pa_cons (pe_ix ix_tup (pv 0) pe_int (fun _ _=>rfl)) pa_nil stx_Subscript)))))))),?_⟩
 rw[st__law_is_yard]
 walk_at"rd"
 refine rd_isi (.tup hy) (b:=true) rfl ?_
 walk_at"rd"
 refine⟨y,_,rfl,.inr (SqT.of hy),?_⟩
 rw[show(([V.int w,V.int R,V.ref t].length:Nat):Int)=3 from rfl]
 walk_at"rd"
 rw[if_neg (by simp)]
 walk_at"rd"
 refine⟨_,_,h1.1,h2.1,h1.shaped (by omega),h2.shaped (by omega),?_⟩
 rw[h1.refl]
 walk_at"rd"
 refine⟨w,rfl,?_⟩
 walk_at"rd"
 refine⟨R,rfl,?_⟩
 walk_at"rd"
 exact q
theorem ok__law_onward {f:Addr}{fd:FuncData}(F:Fun K "_law_onward" "_law_onward" s__law_onward f fd) (mF:mg "_law_onward" = some (.ref f)) (bF:Binds K fd ["_law_room_here", "_law_rows", "_law_now"] []) (T:Bl mg)  : Cal P w K mg base "_law_onward" ["_law_room_here", "_law_rows", "_law_now"] 1 (sp__law_onward K):=by
 refine Cal.of F mF bF sc__law_onward (fun vs H Q E h=>?_) (fun cdv A outer s H vs Q E hr h=>?_)
 ·obtain⟨r,a,b,os,ns,rfl,_⟩:=h;rfl
 obtain⟨r,a,b,os,ns,rfl,⟨as,ha,al,hA⟩,⟨bs,hb,bl,hB⟩,oO,oN,r1,q⟩:=h
 have hu:=hr.units
 have nk:=oN.1
 refine⟨_,(pss_cons (ps_set (i:=3) sc__law_onward.nd rfl (Or.inl rfl) (pe_lst pa_nil))
   (pss_cons (ps_for PassesOwn.never rfl (pi_enum rfl T.enumerate (pa_cons (pv 1) pa_nil stx_Name)) (pg_tup rfl (pgs_cons (pg_name (i:=4) sc__law_onward.nd rfl (Or.inl rfl)) (pgs_cons (pg_name (i:=5) sc__law_onward.nd rfl (Or.inl rfl)) pgs_nil))) (pss_one (ps_if (PW.pt (pw_or (pt_cmpR op_ge (pv 4) (pe_callB call_lenL rfl T.len bt_len (pa_cons (pv 2) pa_nil stx_Name)) (nomark _)) (pw_or1 (pt_cmpR (op_neD hu) (pe_ix ix_list (pv 2) (pv 4) (fun _ _=>rfl)) (pv 5) (nomark _))))) (pss_one (ps_expr (pe_bm PySem.F.plainAttrs_list PySem.F.slot_list_append PySem.F.type_list_append mt_append (pv 3) (pa_cons (pe_tup (pa_cons pe_str (pa_cons (pv 0) (pa_cons (pv 4) (pa_cons (pv 5) pa_nil stx_Name) stx_Name) stx_Name) stx_Constant)) pa_nil stx_Tuple)))) pss_nil)))
   (pss_cons (ps_cut (ps_if (pt_cmpR op_gt (pe_callB call_lenL rfl T.len bt_len (pa_cons (pv 2) pa_nil stx_Name)) (pe_callB call_lenL rfl T.len bt_len (pa_cons (pv 1) pa_nil stx_Name)) (nomark _)) (pss_one (ps_expr (pe_bm PySem.F.plainAttrs_list PySem.F.slot_list_append PySem.F.type_list_append mt_append (pv 3) (pa_cons (pe_tup (pa_cons pe_str (pa_cons (pv 0) (pa_cons (pe_callB call_lenL rfl T.len bt_len (pa_cons (pv 1) pa_nil stx_Name)) pa_nil stx_Call) stx_Name) stx_Constant)) pa_nil stx_Tuple)))) pss_nil))
   (pss_one (ps_ret (pv 3)))))),?_⟩
 rw[st__law_onward]
 walk_at"rd"
 refine⟨by decide,fun D nD=>?_⟩
 generalize hE:upd H D _=H1
 obtain⟨hD,s1⟩:=newo nD hE
 clear hE
 walk_at"rd"
 refine⟨b,rfl,⟨_,SqL.of (s1 _ _ hb)⟩,?_⟩
 refine for_enum (xs:=bs.map V.ref) (fun k σ H'=>(∃x y,σ=[some (.int r),some (.ref b),some (.ref a),some (.ref D),x,y])∧Same H H'∧∃ss:List Addr,H' D=some (.lst (ss.map V.ref))∧ss.length≤k∧P1 (StA (hid D H')) ss (unl H r os ns k)) ⟨⟨_,_,rfl⟩,s1,[],hD,Nat.le_refl _,P1.nil⟩ (fun _ _ _ _ h=>SqL.of (h.2.1 _ _ hb)) ?_ ?_
 ·rintro k x σ H1 t hx ⟨⟨x1,y1,rfl⟩,s1,ss,hD,sl,hP⟩ nt
  obtain⟨c,hc,rfl⟩:=refs_get hx
  have kl:=(List.getElem?_eq_some_iff.mp hc).1
  obtain⟨es,hes⟩ : ∃es,ns[k]? = some es:=⟨_,List.getElem?_eq_getElem (by omega)⟩
  have hce:=hB k c es hc hes
  have oes:=oN.2 es (List.mem_of_getElem? hes)
  generalize hE:upd H1 t _=H2
  obtain⟨ht,s2⟩:=newo nt hE
  clear hE
  have s02:=s1.trans s2
  have ha2:=s02 _ _ ha
  have hD2:=s2 _ _ hD
  have fin:unB H os es k=true→∀(s3:Addr),H2 s3=none→(ss.map V.ref).length<sizeLine∧Same H (upd (upd H2 s3 (.tup [.str "row",.int r,.int k,.ref c])) D (.lst (ss.map V.ref ++ [.ref s3])))∧∃ss':List Addr,upd (upd H2 s3 (.tup [.str "row",.int r,.int k,.ref c])) D (.lst (ss.map V.ref ++ [.ref s3])) D=some (.lst (ss'.map V.ref))∧ss'.length≤k+1∧P1 (StA (hid D (upd (upd H2 s3 (.tup [.str "row",.int r,.int k,.ref c])) D (.lst (ss.map V.ref ++ [.ref s3]))))) ss' (unl H r os ns (k+1)):=fun u s3 n3=>by
   generalize e:upd H2 s3 (.tup [.str "row",.int r,.int k,.ref c])=H4
   obtain⟨h3,s24⟩:=newo n3 e
   have s04:=s02.trans s24
   have n3D:s3≠D:=fun z=>by
    rw[z,hD2]at n3;cases n3
   refine⟨by rw[List.length_map];exact small1000 (by omega),fun x o e=>by rw[upd_ne (ne_of_none e nD)];exact s04 _ _ e,ss ++ [s3],by rw[upd_same,List.map_append];rfl,by rw[List.length_append];exact Nat.add_le_add_right sl 1,?_⟩
   rw[hid_upd,unl_yes hes u]
   refine(hP.imp fun s st h=>h.same (hid_same (s2.trans s24))).snoc ⟨c,by rw[hid_ne n3D];exact h3,?_,r1,by omega,oes.1,fun v hv=>?_⟩
   ·rw[hid_ne (ne_of_none hce nD)];exact s04 _ _ hce
   ·obtain⟨t',k',z',rfl,h1,h2⟩:=oes.2 v hv
    exact⟨t',k',z',rfl,by rw[hid_ne (ne_of_none h1 nD)];exact s04 _ _ h1,h2⟩
  refine⟨t,_,rfl,SqT.of ht,rfl,_,_,rfl,_,_,rfl,rfl,?_⟩
  walk_at"rd"
  rw[List.length_map]
  refine rd_if (fun g=>?_) (fun g=>?_)
  ·have u:unB H os es k=true:=by
    unfold unB
    rw[List.getElem?_eq_none (by omega)]
   walk_at"rd"
   refine⟨.inl ⟨rfl,_,SqL.of hD2⟩,?_⟩
   walk_at"rd"
   refine⟨(by show 4≤sizeLine;decide),fun s3 n3=>?_⟩
   obtain⟨f1,f2,f3⟩:=fin u s3 n3
   refine⟨D,_,_,rfl,rfl,(newo n3 rfl).2 _ _ hD2,f1,?_⟩
   walk_at"rd"
   exact⟨⟨_,_,rfl⟩,f2,f3⟩
  ·have ko:k<os.length:=by omega
   obtain⟨c2,hc2⟩ : ∃c2,as[k]? = some c2:=⟨_,List.getElem?_eq_getElem (by omega)⟩
   obtain⟨o,ho⟩ : ∃o,os[k]? = some o:=⟨_,List.getElem?_eq_getElem ko⟩
   have hco:=hA k c2 o hc2 ho
   have oo:=oO.2 o (List.mem_of_getElem? ho)
   have kt:∀t xs,H t=some (.tup xs)→H2 t=some (.tup xs):=fun _ _ e=>s02 _ _ e
   walk_at"rd"
   refine rd_ixL (SqL.of ha2) (at_ref' hc2) ?_
   walk_at"rd"
   have g1:=row_gd (K:=K) (s02 _ _ hco) fun v hv=>(oo.2 v hv).keep kt
   have g2:=row_gd (K:=K) (s02 _ _ hce) fun v hv=>(oes.2 v hv).keep kt
   refine⟨_,_,g1.1,g2.1,g1.shaped (by omega),g2.shaped (by omega),?_⟩
   rw[eqv_pRow,rowD_keep kt oo.2,rowD_keep kt oes.2]
   have ub:unB H os es k = !decide (rowD H o=rowD H es):=by unfold unB;rw[ho]
   by_cases e:rowD H o=rowD H es
   ·rw[decide_eq_true e]at ub ⊢
    walk_at"rd"
    refine⟨⟨_,_,rfl⟩,s02,ss,hD2,by omega,?_⟩
    rw[unl_no hes ub]
    exact hP.imp fun s st h=>h.same (hid_same s2)
   ·rw[decide_eq_false e]at ub ⊢
    walk_at"rd"
    refine⟨.inl ⟨rfl,_,SqL.of hD2⟩,?_⟩
    walk_at"rd"
    refine⟨(by show 4≤sizeLine;decide),fun s3 n3=>?_⟩
    obtain⟨f1,f2,f3⟩:=fin ub s3 n3
    refine⟨D,_,_,rfl,rfl,(newo n3 rfl).2 _ _ hD2,f1,?_⟩
    walk_at"rd"
    exact⟨⟨_,_,rfl⟩,f2,f3⟩
 ·rintro σ H1 ⟨⟨x1,y1,rfl⟩,s1,ss,hD,sl,hP⟩
  rw[List.length_map,bl]at hP
  rw[List.length_map]at sl
  have ha1:=s1 _ _ ha
  have hb1:=s1 _ _ hb
  walk_at"rd"
  refine cutO (fun σ H2=>∃ss':List Addr,(∃x y,σ=[some (.int r),some (.ref b),some (.ref a),some (.ref D),x,y])∧H2 D=some (.lst (ss'.map V.ref))∧P1 (StA (hid D H2)) ss' (onS H r os ns)∧Same H H2) ?_ ?_
  ·walk_at"rd"
   rw[List.length_map,List.length_map]
   refine rd_if (fun g=>?_) (fun g=>?_)
   ·walk_at"rd"
    refine⟨.inl ⟨rfl,_,SqL.of hD⟩,?_⟩
    walk_at"rd"
    rw[List.length_map]
    refine⟨(by show 3≤sizeLine;decide),fun s3 n3=>?_⟩
    generalize hE:upd H1 s3 _=H2
    obtain⟨h3,s2⟩:=newo n3 hE
    clear hE
    have n3D:s3≠D:=fun z=>by rw[z,hD]at n3;cases n3
    refine⟨D,_,_,rfl,rfl,s2 _ _ hD,by rw[List.length_map];exact small1000 (by omega),?_⟩
    walk_at"rd"
    refine⟨ss ++ [s3],⟨_,_,rfl⟩,by rw[upd_same,List.map_append];rfl,?_,fun x o e=>by rw[upd_ne (ne_of_none e nD)];exact s2 _ _ (s1 _ _ e)⟩
    rw[hid_upd]
    unfold onS
    rw[if_pos (by omega)]
    refine(hP.imp fun s st h=>h.same (hid_same s2)).snoc ⟨?_,r1,nk⟩
    rw[hid_ne n3D,h3,bl]
   ·walk_at"rd"
    refine⟨ss,⟨_,_,rfl⟩,hD,?_,s1⟩
    unfold onS
    rw[if_neg (by omega),List.append_nil]
    exact hP
  ·rintro σ H2 ⟨ss',⟨x,y,rfl⟩,hD2,hP2,s2⟩
   walk_at"rd"
   exact q D ss' _ hD2 (hP2.imp fun s st h=>h.same hid_le) s2
theorem ok__law_places {f:Addr}{fd:FuncData}(F:Fun K "_law_places" "_law_places" s__law_places f fd) (mF:mg "_law_places" = some (.ref f)) (bF:Binds K fd ["_law_script", "_law_least", "_law_most"] []) (T:Bl mg)  : Cal P w K mg base "_law_places" ["_law_script", "_law_least", "_law_most"] 1 (sp__law_places K):=by
 refine Cal.of F mF bF sc__law_places (fun vs H Q E h=>?_) (fun cdv A outer s H vs Q E hr h=>?_)
 ·obtain⟨a,ns,l,m,rfl,_⟩:=h;rfl
 obtain⟨a,ns,l,m,rfl,ha,hl,l0,l1,m0,m1,q⟩:=h
 refine⟨_,(pss_one (ps_ret (pe_callTy (call_listR rfl) rfl T.list bt_list (pa_cons (pe_callTy call_rng1 rfl T.range bt_range (pa_cons (pe_callB (call_maxI rfl) rfl T.max bt_max (pa_cons (pv 1) (pa_cons (pe_callB (call_minI rfl) rfl T.min bt_min (pa_cons (pe_callB call_lenL rfl T.len bt_len (pa_cons (pv 0) pa_nil stx_Name)) (pa_cons (pv 2) pa_nil stx_Name) stx_Call)) pa_nil stx_Call) stx_Name)) pa_nil stx_Call)) pa_nil stx_Call)))),?_⟩
 rw[st__law_places]
 walk_at"rd"
 refine⟨a,_,rfl,.inl ha,?_⟩
 rw[List.length_map]
 walk_at"rd"
 refine rd_rngV fun r nr=>?_
 generalize hE:upd H r _=H1
 obtain⟨hr1,s1⟩:=newo nr hE
 clear hE
 walk_at"rd"
 refine⟨r,_,rfl,hr1,by omega,by omega,fun l' nl'=>?_⟩
 exact q _ l' _ (by omega) (s1.free nl') upd_same (s1.trans (same_new nl' _))
theorem ok__law_row {f:Addr}{fd:FuncData}(F:Fun K "_law_row" "_law_row" s__law_row f fd) (mF:mg "_law_row" = some (.ref f)) (bF:Binds K fd ["_law_hand", "_law_keys", "_law_room_here"] []) (T:Bl mg) (C__law_draw:Cal P w K mg base "_law_draw" ["_law_hand", "_law_many"] 1 (sp__law_draw K)) (C__law_thing:Cal P w K mg base "_law_thing" ["_law_hand"] 2 (sp__law_thing K)):Cal P w K mg base "_law_row" ["_law_hand", "_law_keys", "_law_room_here"] 3 (sp__law_row K):=by
 refine Cal.of F mF bF sc__law_row (fun vs H Q E h=>?_) (fun cdv A outer s H vs Q E hr h=>?_)
 ·obtain⟨p,kl,N,ks,r,rfl,_⟩:=h;rfl
 obtain⟨p,kl,N,ks,r,rfl,hh,hN,hkl,klp,kne,ksl,kb,r0,r1,q⟩:=h
 refine⟨_,(pss_cons (ps_set (i:=3) sc__law_row.nd rfl (Or.inl rfl) (pe_lst pa_nil))
   (pss_cons (ps_for PassesOwn.never rfl (pi_range1 rfl T.range (pa_cons (pcl C__law_draw (hr.mono (by decide)) (pa_cons (pv 0) (pa_cons pe_int pa_nil stx_Constant) stx_Name)) pa_nil stx_Call)) (pg_name (i:=4) sc__law_row.nd rfl (Or.inl rfl)) (pss_cons (ps_set (i:=5) sc__law_row.nd rfl (Or.inl rfl) (pcl C__law_draw (hr.mono (by decide)) (pa_cons (pv 0) (pa_cons pe_int pa_nil stx_Constant) stx_Name)))
   (pss_cons (ps_set (i:=6) sc__law_row.nd rfl (Or.inl rfl) (pe_ix ix_list (pv 1) (pe_op op_mod (pcl C__law_draw (hr.mono (by decide)) (pa_cons (pv 0) (pa_cons pe_int pa_nil stx_Constant) stx_Name)) (pe_callB call_lenL rfl T.len bt_len (pa_cons (pv 1) pa_nil stx_Name))) (fun _ _=>rfl)))
   (pss_cons (ps_cut (ps_if (pt_cmpR op_gt (pv 5) pe_int (nomark _)) (pss_one (ps_set (i:=6) sc__law_row.nd rfl (Or.inl rfl) (pe_callB (call_minI rfl) rfl T.min bt_min (pa_cons (pe_op op_sub (pe_powC (c:=1152921504606846976) (by decide +kernel) ⟨by decide,by decide,by decide⟩) pe_int) (pa_cons (pe_op op_add (pe_op op_mul (pe_op op_fdivB (pv 6) pe_int) pe_int) (pv 2)) pa_nil stx_BinOp) stx_BinOp)))) pss_nil))
   (pss_one (ps_expr (pe_bm PySem.F.plainAttrs_list PySem.F.slot_list_append PySem.F.type_list_append mt_append (pv 3) (pa_cons (pe_tup (pa_cons (pv 6) (pa_cons (pcl C__law_thing (hr.mono (by decide)) (pa_cons (pv 0) pa_nil stx_Name)) pa_nil stx_Call) stx_Name)) pa_nil stx_Tuple))))))))
   (pss_one (ps_ret (pv 3))))),?_⟩
 rw[st__law_row]
 walk_at"rd"
 refine⟨by decide,fun D nD=>?_⟩
 have ck:=CK.start (ys:=[]) hh nD
 generalize upd H D _=H1 at ck ⊢
 have kp0:0<ks.length:=List.length_pos_iff.mpr kne
 walk_at"rd"
 refine⟨p,_,5,rfl,ck.hh,by omega,by decide,by decide,fun n H2 n0 n1 hh2 k2=>?_⟩
 have ck:=ck.draw k2 hh2
 walk_at"rd"
 refine⟨_,rfl,by omega,by omega,?_⟩
 have nl:n.toNat≤4:=by omega
 generalize n.toNat=m at nl
 refine for_rangeO (n:=m) (fun i σ H'=>(∃x1 x2 x3,σ=[some (.ref p),some (.ref kl),some (.int r),some (.ref D),x1,x2,x3])∧i≤m∧∃ts:List Addr,ts.length=i∧CK H p D (N+1+40*i) (ts.map V.ref) H'∧∀v∈ts.map V.ref,En H' v) ⟨⟨_,_,_,rfl⟩,Nat.zero_le _,[],rfl,ck,fun _ h=>absurd h List.not_mem_nil⟩ ?_ ?_
 ·rintro i σ H3 hi ⟨⟨x1,x2,x3,rfl⟩,im,ts,tl,ck,en⟩
  walk_at"rd"
  refine⟨p,_,3,rfl,ck.hh,by omega,by decide,by decide,fun own H4 o0 o1 hh4 k4=>?_⟩
  have kt4:=kt_of ck.hh k4
  have ck4:=ck.draw k4 hh4
  have hkl4:=ck4.kp.1 _ _ hkl klp
  walk_at"rd"
  refine⟨p,_,500,rfl,hh4,by omega,by decide,by decide,fun v H5 v0 v1 hh5 k5=>?_⟩
  have kt5:=kt_of hh4 k5
  have ck5:=ck4.draw k5 hh5
  have hkl5:=ck5.kp.1 _ _ hkl klp
  have z0:0≤v%(ks.length:Int):=Int.emod_nonneg _ (by omega)
  have z1:v%(ks.length:Int)<ks.length:=Int.emod_lt_of_pos _ (by omega)
  walk_at"rd"
  rw[List.length_map]
  walk_at"rd"
  obtain⟨j,hj⟩ : ∃j:Nat,v%(ks.length:Int) =(j:Int):=⟨(v%(ks.length:Int)).toNat,by omega⟩
  rw[hj]
  have hv:=List.getElem?_eq_getElem (show j<ks.length by omega)
  generalize ks[j]=kv at hv
  obtain⟨g0,g1⟩:=kb kv (List.mem_of_getElem? hv)
  refine rd_ixL (SqL.of hkl5) (at_int hv) ?_
  walk_at"rd"
  refine cutO (fun σ H'=>H'=H5∧∃key:Int,σ=[some (.ref p),some (.ref kl),some (.int r),some (.ref D),some (.int (0+i)),some (.int own),some (.int key)]∧0≤key∧key<1152921504606846976) ?_ ?_
  ·walk_at"rd"
   refine rd_if (fun c=>?_) (fun c=>?_)
   ·walk_at"rd"
    exact⟨rfl,_,rfl,by omega,by omega⟩
   ·walk_at"rd"
    exact⟨rfl,kv,rfl,g0,g1⟩
  ·rintro σ H' ⟨rfl,key,rfl,b0,b1⟩
   walk_at"rd"
   refine⟨.inl ⟨rfl,_,SqL.of ck5.lat⟩,?_⟩
   walk_at"rd"
   refine⟨p,_,rfl,ck5.hh,by omega,fun z H6 zo zl hh6 k6=>?_⟩
   have kt6:=kt_of ck5.hh k6
   have ck6:=ck5.draw k6 hh6
   walk_at"rd"
   refine⟨(by show 2≤sizeLine;decide),fun t nt=>?_⟩
   generalize hE:upd H6 t _=H7
   have s7:=(newo nt hE).2
   obtain⟨ck7,ht,tp,tD⟩:=ck6.new nt hE
   clear hE
   refine⟨D,_,_,rfl,rfl,ck7.lat,by rw[List.length_map];exact small1000 (by omega),?_⟩
   walk_at"rd"
   have ck8:=(ck7.mono (M:=N+1+40*(i+1)) (by omega)).push (zs:=(ts ++ [t]).map V.ref)
   have kt8:∀t' xs,H7 t'=some (.tup xs)→(upd H7 D (.lst ((ts ++ [t]).map V.ref))) t'=some (.tup xs):=fun t' xs e=>by rw[upd_ne (ne_of e ck7.lat (by intro z;cases z))];exact e
   rw[show ts.map V.ref ++ [V.ref t] =(ts ++ [t]).map V.ref by rw[List.map_append];rfl]
   refine⟨⟨_,_,_,rfl⟩,by omega,ts ++ [t],by rw[List.length_append,tl];rfl,ck8,fun v hv=>?_⟩
   rw[List.map_append]at hv
   rcases List.mem_append.mp hv with hv|hv
   ·exact(en v hv).keep fun t' xs e=>kt8 _ _ (s7 _ _ (kt6 _ _ (kt5 _ _ (kt4 _ _ e))))
   ·rw[List.mem_singleton.mp hv]
    exact⟨t,key,z,rfl,kt8 _ _ ht,zo,b0,b1,zl⟩
 ·rintro σ H3 ⟨⟨x1,x2,x3,rfl⟩,im,ts,tl,ck,en⟩
  walk_at"rd"
  exact q D _ H3 nD ck.lat (by rw[List.length_map];omega) en (ck.hh.mono (by omega)) ck.kp
theorem ok__law_drawn {f:Addr}{fd:FuncData}(F:Fun K "_law_drawn" "_law_drawn" s__law_drawn f fd) (mF:mg "_law_drawn" = some (.ref f)) (bF:Binds K fd ["_law_hand"] []) (T:Bl mg) (C__law_draw:Cal P w K mg base "_law_draw" ["_law_hand", "_law_many"] 1 (sp__law_draw K)) (C__law_key:Cal P w K mg base "_law_key" ["_law_hand"] 3 (sp__law_key K)) (C__law_row:Cal P w K mg base "_law_row" ["_law_hand", "_law_keys", "_law_room_here"] 3 (sp__law_row K)):Cal P w K mg base "_law_drawn" ["_law_hand"] 4 (sp__law_drawn K):=by
 refine Cal.of F mF bF sc__law_drawn (fun vs H Q E h=>?_) (fun cdv A outer s H vs Q E hr h=>?_)
 ·obtain⟨p,N,rfl,_⟩:=h;rfl
 obtain⟨p,N,rfl,hh,hN,q⟩:=h
 have hu:=hr.units
 refine⟨_,(pss_cons (ps_set (i:=1) sc__law_drawn.nd rfl (Or.inl rfl) (pe_op op_add pe_int (pcl C__law_draw (hr.mono (by decide)) (pa_cons (pv 0) (pa_cons (pe_ix ix_list (pe_lst (pa_cons pe_int (pa_cons pe_int (pa_cons pe_int pa_nil stx_Constant) stx_Constant) stx_Constant)) (pcl C__law_draw (hr.mono (by decide)) (pa_cons (pv 0) (pa_cons pe_int pa_nil stx_Constant) stx_Name)) (fun _ _=>rfl)) pa_nil stx_Subscript) stx_Name))))
   (pss_cons (ps_set (i:=2) sc__law_drawn.nd rfl (Or.inr rfl) (pe_comp rfl (blkOk (sc:=defScope s__law_drawn) (N:=["_law_hand", "_law_rooms", "_law_keys", "_law_held", "_law_room_here", "_law_far_here"]) (vs:=["_law_k"]) (fs:=["_law_hand"]) (js:=[0]) (by decide +kernel) rfl rfl) (pi_range1 rfl T.range (pa_cons (pe_op op_add pe_int (pcl C__law_draw (hr.mono (by decide)) (pa_cons (pv 0) (pa_cons pe_int pa_nil stx_Constant) stx_Name))) pa_nil stx_BinOp)) (fun _ _ _ _=>pg_name (i:=0) (show(["_law_k", "_law_hand"]:List Str).Nodup by decide +kernel) rfl (Or.inl rfl)) (fun _ _ _ _=>pif0) (fun _ _ _ _=>(pcl C__law_key (hr.mono (by decide)) (pa_cons (pv 1) pa_nil stx_Name)))))
   (pss_cons (ps_set (i:=3) sc__law_drawn.nd rfl (Or.inl rfl) (pe_lst pa_nil))
   (pss_cons (ps_for PassesOwn.never rfl (pi_range1 rfl T.range (pa_cons (pcl C__law_draw (hr.mono (by decide)) (pa_cons (pv 0) (pa_cons pe_int pa_nil stx_Constant) stx_Name)) pa_nil stx_Call)) (pg_name (i:=4) sc__law_drawn.nd rfl (Or.inr rfl)) (pss_one (ps_expr (pe_bm PySem.F.plainAttrs_list PySem.F.slot_list_append PySem.F.type_list_append mt_append (pv 3) (pa_cons (pe_comp rfl (blkOk (sc:=defScope s__law_drawn) (N:=["_law_hand", "_law_rooms", "_law_keys", "_law_held", "_law_room_here", "_law_far_here"]) (vs:=["_law_k"]) (fs:=["_law_hand", "_law_keys", "_law_room_here"]) (js:=[0,2,4]) (by decide +kernel) rfl rfl) (pi_range1 rfl T.range (pa_cons (pcl C__law_draw (hr.mono (by decide)) (pa_cons (pv 0) (pa_cons pe_int pa_nil stx_Constant) stx_Name)) pa_nil stx_Call)) (fun _ _ _ _=>pg_name (i:=0) (show(["_law_k", "_law_hand", "_law_keys", "_law_room_here"]:List Str).Nodup by decide +kernel) rfl (Or.inl rfl)) (fun _ _ _ _=>pif0) (fun _ _ _ _=>(pcl C__law_row (hr.mono (by decide)) (pa_cons (pv 1) (pa_cons (pv 2) (pa_cons (pv 3) pa_nil stx_Name) stx_Name) stx_Name)))) pa_nil stx_ListComp)))))
   (pss_cons (ps_set (i:=5) sc__law_drawn.nd rfl (Or.inl rfl) (pcl C__law_draw (hr.mono (by decide)) (pa_cons (pv 0) (pa_cons (pe_op op_mul pe_int pe_int) pa_nil stx_BinOp) stx_Name)))
   (pss_cons (ps_cut (ps_if (pt_cmpR op_lt (pv 5) pe_int (nomark _)) (pss_cons (ps_set (i:=3) sc__law_drawn.nd rfl (Or.inl rfl) (pe_op op_cat (pv 3) (pe_comp rfl (blkOk (sc:=defScope s__law_drawn) (N:=["_law_hand", "_law_rooms", "_law_keys", "_law_held", "_law_room_here", "_law_far_here"]) (vs:=["_law_k"]) (fs:=[]) (js:=[]) (by decide +kernel) rfl rfl) (pi_range1 rfl T.range (pa_cons (pe_op op_sub (pe_op op_add (pv 5) pe_int) (pe_callB call_lenL rfl T.len bt_len (pa_cons (pv 3) pa_nil stx_Name))) pa_nil stx_BinOp)) (fun _ _ _ _=>pg_name (i:=0) (show(["_law_k"]:List Str).Nodup by decide +kernel) rfl (Or.inl rfl)) (fun _ _ _ _=>pif0) (fun _ _ _ _=>(pe_lst pa_nil)))))
   (pss_one (ps_asg (pe_op op_cat (pe_ix ix_list (pv 3) (pv 5) (fun _ _=>rfl)) (pe_lst (pa_cons (pcl C__law_row (hr.mono (by decide)) (pa_cons (pv 0) (pa_cons (pv 2) (pa_cons (pv 5) pa_nil stx_Name) stx_Name) stx_Name)) pa_nil stx_Call))) (pg_sub (pv 3) (pv 5) set_list)))) pss_nil))
   (pss_cons (ps_while PassesOwn.never (PW.pt (pw_and (pt_cmpR (op_neD hu) (pv 3) (pe_lst pa_nil) (nomark _)) (pw_and1 (pt_cmpR (op_eqD hu) (pe_ix ix_list (pv 3) (pe_un un_neg pe_int) (fun _ _=>rfl)) (pe_lst pa_nil) (nomark _))))) (pss_one (ps_expr (pe_bm0 PySem.F.plainAttrs_list PySem.F.slot_list_pop PySem.F.type_list_pop mt_pop (pv 3)))))
   (pss_one (ps_ret (pe_tup (pa_cons (pe_op op_add pe_int (pcl C__law_draw (hr.mono (by decide)) (pa_cons (pv 0) (pa_cons pe_int pa_nil stx_Constant) stx_Name))) (pa_cons (pv 1) (pa_cons (pv 3) pa_nil stx_Name) stx_Name) stx_BinOp))))))))))),?_⟩
 rw[st__law_drawn]
 walk_at"rd"
 refine⟨(by show 3≤sizeLine;decide),fun l1 nl1=>?_⟩
 generalize hE:upd H l1 _=H1
 obtain⟨hl1,s1⟩:=newo nl1 hE
 clear hE
 have hh1:=hh.same s1
 have l1p:=hh.ne nl1
 walk_at"rd"
 refine⟨p,_,3,rfl,hh1,by omega,by decide,by decide,fun few H2 f0 f1 hh2 k2=>?_⟩
 have hl2:=k2.1 _ _ hl1 l1p
 obtain⟨b1,hb1,b10,b11⟩ : ∃b:Int,atI [V.int 2,V.int 12,V.int 130] few=some (.int b)∧1≤b∧b≤130:=by
  rcases(by omega:few=0∨few=1∨few=2) with h|h|h <;> rw[h] <;> exact⟨_,rfl,by decide,by decide⟩
 walk_at"rd"
 refine rd_ixL (SqL.of hl2) hb1 ?_
 walk_at"rd"
 refine⟨p,_,b1,rfl,hh2,by omega,by omega,by omega,fun r0 H3 r00 r01 hh3 k3=>?_⟩
 have k03:Kp H H3 p:=((Kp.of s1 hh).trans k2).trans k3
 walk_at"rd"
 obtain⟨R,hR⟩ : ∃R:Nat,1+r0 =(R:Int):=⟨(1+r0).toNat,by omega⟩
 have R1:1≤R:=by omega
 have Rb:R≤130:=by omega
 rw[hR]
 refine⟨p,_,6,rfl,hh3,by omega,by decide,by decide,fun m0 H4 m00 m01 hh4 k4=>?_⟩
 have k04:=k03.trans k4
 walk_at"rd"
 refine⟨_,rfl,by omega,by omega,fun kl nkl=>?_⟩
 have ml:(1+m0).toNat≤6∧1 ≤(1+m0).toNat:=by omega
 generalize (1+m0).toNat=mm at ml
 refine comp_range (n:=mm) (fun j σ' ys H'=>(∃x,σ'=[x,some (.ref p)])∧j≤mm∧∃zs:List Int,ys=zs.map V.int∧zs.length=j∧(∀z∈zs,0≤z∧z<1152921504606846976)∧CK H4 p kl (N+10+20*j) ys H') kl ⟨⟨_,rfl⟩,Nat.zero_le _,[],rfl,rfl,fun _ h=>absurd h List.not_mem_nil,(CK.start hh4 nkl).mono (by omega)⟩ ?_ ?_
 ·rintro j σ' ys H7 hj ⟨⟨x,rfl⟩,j9,zs,rfl,zl,zc,ck⟩
  walk_at"rd"
  refine⟨p,_,rfl,ck.hh,by omega,fun k H8 k0 k1 hh8 k8=>?_⟩
  have ck:=ck.draw k8 hh8
  refine⟨ck.lat,by rw[List.length_map];exact small1000 (by omega),⟨_,rfl⟩,by omega,zs ++ [k],by rw[List.map_append];rfl,by rw[List.length_append,zl];rfl,fun z hz=>?_,ck.push.mono (by omega)⟩
  rcases List.mem_append.mp hz with w|w
  ·exact zc z w
  ·have e:z=k:=by simpa using w
   rw[e];exact⟨k0,by omega⟩
 rintro σ' ys H5 ⟨⟨x,rfl⟩,j9,ks,rfl,kll,kb,ck⟩
 have hkl5:=ck.lat
 have hh5:=ck.hh
 have k05:=k04.trans ck.kp
 have klp:=ck.np
 have kne:ks ≠ []:=fun z=>by rw[z]at kll;simp at kll;omega
 clear ck
 walk_at"rd"
 refine⟨by decide,fun D nD=>?_⟩
 generalize hE:upd H5 D _=H6
 obtain⟨hD,s6⟩:=newo nD hE
 clear hE
 have hh6:=hh5.same s6
 have k06:=k05.trans (Kp.of s6 hh5)
 have hkl6:=s6 _ _ hkl5
 walk_at"rd"
 refine⟨p,_,11,rfl,hh6,by omega,by decide,by decide,fun n0 H7 n00 n01 hh7 k7=>?_⟩
 have bo7:Bo H7 p D [] []:=Bo.kp hh6 k7 ⟨hD,P1.nil,fun _ h=>absurd h List.not_mem_nil⟩
 have k07:=k06.trans k7
 walk_at"rd"
 refine⟨_,rfl,by omega,by omega,?_⟩
 have nl:n0.toNat≤10:=by omega
 generalize n0.toNat=nn at nl
 have row:∀(H':Hp) (M:Nat) (r:Int) (Q2:VK),Hand H' p M→M+2000<2^60→H' kl=some (.lst (ks.map V.int))→0≤r→r≤129→(∀(l:Addr) (es:List V) (H'':Hp),H' l=none→H'' l=some (.lst es)→es.length≤4→(∀v∈es,En H'' v)→Hand H'' p (M+200)→Kp H' H'' p→Q2 (.ref l) H'')→sp__law_row K [.ref p,.ref kl,.int r] H' Q2 E0:=fun H' M r Q2 a1 a2 a3 a4 a5 a6=>⟨p,kl,M,ks,r,rfl,a1,a2,a3,klp,kne,by omega,kb,a4,a5,a6⟩
 refine for_rangeO (n:=nn) (fun i σ H'=>∃(bs:List Addr) (X:List (List (List V))) (x4:Option V),σ=[some (.ref p),some (.int R),some (.ref kl),some (.ref D),x4,none]∧i≤nn∧Bo H' p D bs X∧X.length=i∧(∀rows∈X,rows.length≤3∧∀es∈rows,es.length≤4)∧(allV X).length≤12*i∧Hand H' p (N+200+1000*i)∧Kp H H' p∧H' kl=some (.lst (ks.map V.int))) ⟨[],[],_,rfl,Nat.zero_le _,bo7,rfl,fun _ h=>absurd h List.not_mem_nil,Nat.zero_le _,hh7.mono (by omega),k07,k7.1 _ _ hkl6 klp⟩ ?_ ?_
 ·rintro i σ H8 hi ⟨bs,X,x4,rfl,ile,bo,xl,szX,cnt,hh8,k08,hkl8⟩
  walk_at"rd"
  refine⟨.inl ⟨rfl,_,SqL.of bo.1⟩,?_⟩
  walk_at"rd"
  refine⟨p,_,4,rfl,hh8,by omega,by decide,by decide,fun m H9 mz0 mz1 hh9 k9=>?_⟩
  have bo9:=bo.kp hh8 k9
  have hkl9:=k9.1 _ _ hkl8 klp
  walk_at"rd"
  refine⟨_,rfl,by omega,by omega,fun D' nD'=>?_⟩
  have m3:m.toNat≤3:=by omega
  generalize m.toNat=mt at m3
  refine comp_range (n:=mt) (fun j σ' ys H'=>(∃x,σ'=[x,some (.ref p),some (.ref kl),some (.int (0+i))])∧j≤mt∧∃(as:List Addr) (rows:List (List V)),ys=as.map V.ref∧rows.length=j∧CK H9 p D' (N+210+1000*i+200*j) ys H'∧P1 (fun a es=>H9 a=none∧a≠D'∧a≠p∧H' a=some (.lst es)) as rows∧∀es∈rows,es.length≤4∧∀v∈es,En H' v) D' ⟨⟨_,rfl⟩,Nat.zero_le _,[],[],rfl,rfl,(CK.start hh9 nD').mono (by omega),P1.nil,fun _ h=>absurd h List.not_mem_nil⟩ ?_ ?_
  ·rintro j σ' ys Ha hj ⟨⟨x,rfl⟩,jm,as,rows,rfl,rlen,ck,hP,hes⟩
   have hkla:=ck.kp.1 _ _ hkl9 klp
   have asl:=hP.1
   walk_at"rd"
   refine row Ha _ _ _ ck.hh (by omega) hkla (by omega) (by omega) fun l es Hb nl hl esl ees hhb kb2=>?_
   have ktb:=kt_of ck.hh kb2
   have lD:l≠D':=fun z=>by rw[z,ck.lat]at nl;cases nl
   have lp:=ck.hh.ne nl
   have ckb:=ck.draw kb2 hhb
   refine⟨ckb.lat,by rw[List.length_map];exact small1000 (by omega),⟨_,rfl⟩,by omega,as ++ [l],rows ++ [es],by rw[List.map_append];rfl,by rw[List.length_append,rlen];rfl,ckb.push.mono (by omega),?_,?_⟩
   ·refine(hP.imp fun a e h=>⟨h.1,h.2.1,h.2.2.1,by rw[upd_ne h.2.1];exact kb2.1 _ _ h.2.2.2 h.2.2.1⟩).snoc ⟨ck.kp.free nl lp,lD,lp,by rw[upd_ne lD];exact hl⟩
   ·intro e he
    have ktu:∀t' xs,Hb t'=some (.tup xs)→(upd Hb D' (.lst (as.map V.ref ++ [V.ref l]))) t'=some (.tup xs):=fun t' xs e=>by rw[upd_ne (ne_of e ckb.lat (by intro z;cases z))];exact e
    rcases List.mem_append.mp he with he|he
    ·exact⟨(hes e he).1,fun v hv=>((hes e he).2 v hv).keep fun t xs e=>ktu _ _ (ktb _ _ e)⟩
    ·rw[List.mem_singleton.mp he]
     exact⟨esl,fun v hv=>(ees v hv).keep ktu⟩
  ·rintro σ' ys Ha ⟨⟨x,rfl⟩,jm,as,rows,rfl,rlen,ck,hP,hes⟩
   have boa:=bo9.kp hh9 ck.kp
   have D'D:D'≠D:=fun z=>by rw[z,bo9.1]at nD';cases nD'
   have blen:bs.length=i:=by rw[bo9.2.1.1,xl]
   have Dp:D≠p:=refs_ne hh9 bo9.1
   walk_at"rd"
   refine⟨D,_,_,rfl,rfl,boa.1,by rw[List.length_map];exact small1000 (by omega),?_⟩
   rw[show bs.map V.ref ++ [V.ref D'] =(bs ++ [D']).map V.ref by rw[List.map_append];rfl]
   walk_at"rd"
   have new:P1 (R2 (fun b=>b≠D∧b≠p) Ha) (bs ++ [D']) (X ++ [rows]):=boa.2.1.snoc ⟨⟨D'D,ck.np⟩,as,ck.lat,hP.imp fun a e h=>⟨⟨fun z=>(by
    have h1:=h.1
    rw[z,bo9.1]at h1
    cases h1),h.2.2.1⟩,h.2.2.2⟩⟩
   have enx:EnX Ha (X ++ [rows]):=fun rw' hr e he=>by
    rcases List.mem_append.mp hr with hr|hr
    ·exact boa.2.2 rw' hr e he
    ·rw[List.mem_singleton.mp hr]at he
     exact(hes e he).2
   have bou:=boa.upd new enx
   have D0:H D=none:=by
    have:=k05.free (H':=H5) nD
    exact this (fun z=>by rw[z]at Dp;exact Dp rfl)
   obtain⟨ku,hu2⟩:=upd_kp (o:=.lst ((bs ++ [D']).map V.ref)) hh (k08.trans (k9.trans ck.kp)) D0
   have klD:kl≠D:=fun z=>by rw[← z,hkl5]at nD;cases nD
   refine⟨bs ++ [D'],X ++ [rows],_,rfl,by omega,bou,by rw[List.length_append,xl];rfl,fun rw' hr=>?_,?_,(hu2 ck.hh).mono (by omega),ku,by rw[upd_ne klD];exact ck.kp.1 _ _ hkl9 klp⟩
   ·rcases List.mem_append.mp hr with hr|hr
    ·exact szX rw' hr
    ·rw[List.mem_singleton.mp hr]
     exact⟨by omega,fun e he=>(hes e he).1⟩
   ·rw[allV_snoc]
    have:=flat_le (a:=3) (b:=4) (rows:=rows) (by omega) fun e he=>(hes e he).1
    omega
 ·rintro σ H8 ⟨bs,X,x4,rfl,ile,bo,xl,szX,cnt,hh8,k08,hkl8⟩
  walk_at"rd"
  refine⟨p,_,520,rfl,hh8,by omega,by decide,by decide,fun far H9 fz0 fz1 hh9 k9=>?_⟩
  have bo9:=bo.kp hh8 k9
  have hkl9:=k9.1 _ _ hkl8 klp
  have k09:=k08.trans k9
  have blen:bs.length=nn:=by rw[bo9.2.1.1,xl]
  walk_at"rd"
  refine cutO (fun σ H'=>∃(D:Addr) (bs:List Addr) (X:List (List (List V))) (x4:Option V),σ=[some (.ref p),some (.int R),some (.ref kl),some (.ref D),x4,some (.int far)]∧Bo H' p D bs X∧SzD X∧Hand H' p (N+15000)∧Kp H H' p∧H D=none) ?_ ?_
  ·walk_at"rd"
   refine rd_if (fun c=>?_) (fun c=>?_)
   ·obtain⟨fr,rfl⟩ : ∃fr:Nat,far =(fr:Int):=⟨far.toNat,by omega⟩
    have hD9:=bo9.1
    walk_at"rd"
    rw[List.length_map]
    refine⟨_,rfl,by omega,by omega,fun E1 nE1=>?_⟩
    have en1:((fr:Int)+1-(bs.length:Int)).toNat=fr+1-bs.length:=by omega
    rw[en1]
    refine comp_range (n:=fr+1-bs.length) (fun j σ' ys H'=>(∃x,σ'=[x])∧j≤fr+1-bs.length∧Same H9 H'∧H' E1=some (.lst ys)∧∃es:List Addr,ys=es.map V.ref∧P1 (fun a e=>a≠E1∧a≠p∧H' a=some (.lst e)) es (List.replicate j ([]:List V))) E1 ⟨⟨_,rfl⟩,Nat.zero_le _,same_new nE1 _,upd_same,[],rfl,P1.nil⟩ ?_ ?_
    ·rintro j σ' ys Ha hj ⟨⟨x,rfl⟩,jm,sa,hEa,es,rfl,hP⟩
     have el:=hP.1
     rw[List.length_replicate]at el
     walk_at"rd"
     refine⟨by decide,fun b nb=>?_⟩
     generalize hE:upd Ha b _=Hb
     obtain⟨hb,sb⟩:=newo nb hE
     clear hE
     have bE:b≠E1:=fun z=>by rw[z,hEa]at nb;cases nb
     have bp:b≠p:=(hh9.same sa).ne nb
     refine⟨sb _ _ hEa,by rw[List.length_map];exact small1000 (by omega),⟨_,rfl⟩,by omega,fun x o e=>by rw[upd_ne (ne_of_none e nE1)];exact sb _ _ (sa _ _ e),upd_same,es ++ [b],by rw[List.map_append];rfl,?_⟩
     rw[List.replicate_succ']
     exact(hP.imp fun a e h=>⟨h.1,h.2.1,by rw[upd_ne h.1];exact sb _ _ h.2.2⟩).snoc ⟨bE,bp,by rw[upd_ne bE];exact hb⟩
    ·rintro σ' ys Ha ⟨⟨x,rfl⟩,jm,sa,hEa,es,rfl,hP⟩
     have el:=hP.1
     rw[List.length_replicate]at el
     have boa:=bo9.same sa
     have hha:=hh9.same sa
     walk_at"rd"
     refine⟨D,E1,_,_,rfl,rfl,boa.1,hEa,Nat.le_trans (show _≤1000 by rw[List.length_map,List.length_map];omega) (by decide),fun D2 nD2=>?_⟩
     rw[← List.map_append]
     generalize hE:upd Ha D2 _=Hb
     obtain⟨hD2,sb⟩:=newo nD2 hE
     clear hE
     have hhb:=hha.same sb
     have D2p:D2≠p:=hha.ne nD2
     have k0b:=(k09.trans (Kp.of sa hh9)).trans (Kp.of sb hha)
     have nD20:H D2=none:=(k09.trans (Kp.of sa hh9)).free nD2 D2p
     have padX:pad X (fr+1)=X++List.replicate (fr+1-X.length) []:=rfl
     have bob:Bo Hb p D2 (bs++es) (pad X (fr+1)):=by
      refine⟨hD2,?_,?_⟩
      ·rw[padX,xl,← blen]
       refine((boa.free nD2).imp fun c rows r=>r.keep fun a o _ e=>sb _ _ e).app ⟨by rw[List.length_replicate];exact el,fun i a e e1 e2=>?_⟩
       have ea:=hP.2 i a [] e1 (by
        have il:=(List.getElem?_eq_some_iff.mp e1).1
        rw[List.getElem?_replicate,if_pos (by omega)])
       have ee:e=[]:=by
        rw[List.getElem?_replicate]at e2
        split at e2
        ·exact(Option.some.inj e2).symm
        ·cases e2
       rw[ee]
       exact⟨⟨ne_of_none ea.2.2 nD2,ea.2.1⟩,[],sb _ _ ea.2.2,P1.nil⟩
      ·intro rows hr e he
       rcases pad_mem hr with z|z
       ·exact fun v hv=>(boa.2.2 rows z e he v hv).keep fun _ _ e=>sb _ _ e
       ·rw[z]at he;exact absurd he List.not_mem_nil
     have plen:(pad X (fr+1)).length=max X.length (fr+1):=pad_len
     have bl2:=bob.2.1.1
     have pok:∀rows∈pad X (fr+1),rows.length≤3∧∀es∈rows,es.length≤4:=fun rows hr=>by
      rcases pad_mem hr with z|z
      ·exact szX rows z
      ·rw[z];exact⟨by show 0≤3;omega,fun _ h=>absurd h List.not_mem_nil⟩
     have pcnt:(allV (pad X (fr+1))).length≤120:=by rw[allV_pad];omega
     have hklb:=sb _ _ (sa _ _ hkl9)
     generalize pad X (fr+1)=Y at bob plen pok pcnt bl2
     generalize bs++es=cs at bob bl2 hD2
     have hc:=List.getElem?_eq_getElem (show fr<cs.length by omega)
     generalize cs[fr]=c at hc
     walk_at"rd"
     refine rd_ixL (SqL.of hD2) (at_ref' hc) ?_
     walk_at"rd"
     refine row Hb _ _ _ hhb (by omega) hklb (by omega) (by omega) fun l e Hc nl hl esl ees hhc kc=>?_
     have boc:=bob.kp hhb kc
     have lp:=hhb.ne nl
     obtain⟨rows,hy,⟨cD,cp⟩,as,hcc,hA⟩:=boc.2.1.get hc
     walk_at"rd"
     refine⟨(by show 1≤sizeLine;decide),fun e1 ne1=>?_⟩
     generalize hE:upd Hc e1 _=Hd
     obtain⟨he1,sd⟩:=newo ne1 hE
     clear hE
     have rok:=pok rows (List.mem_of_getElem? hy)
     walk_at"rd"
     refine⟨c,e1,_,_,rfl,rfl,sd _ _ hcc,he1,Nat.le_trans (show _≤1000 by rw[List.length_map,hA.1];simp;omega) (by decide),fun c2 nc2=>?_⟩
     rw[show as.map V.ref ++ [V.ref l] =(as ++ [l]).map V.ref by rw[List.map_append];rfl]
     generalize hE:upd Hd c2 _=He
     obtain⟨hc2,se⟩:=newo nc2 hE
     clear hE
     have sce:=sd.trans se
     have boe:=boc.same sce
     have hhe:=hhc.same sce
     have k0e:=(k0b.trans kc).trans (Kp.of sce hhc)
     have c2D:c2≠D2:=fun z=>by rw[z,sd _ _ boc.1]at nc2;cases nc2
     have c2p:c2≠p:=(hhc.same sd).ne nc2
     have lD2:l≠D2:=fun z=>by rw[z,hD2]at nl;cases nl
     walk_at"rd"
     refine rd_setL boe.1 (by rw[List.length_map];exact ixN_in (by omega)) ?_
     rw[← List.map_set]
     walk_at"rd"
     have new:P1 (R2 (fun b=>b≠D2∧b≠p) He) (cs.set fr c2) (Y.set fr (rows ++ [e])):=boe.2.1.set ⟨⟨c2D,c2p⟩,as ++ [l],hc2,(hA.imp fun a es r=>r.keep fun a o _ e=>sce _ _ e).snoc ⟨⟨lD2,lp⟩,sce _ _ hl⟩⟩
     have enx:EnX He (Y.set fr (rows ++ [e])):=fun rw' hr e' he'=>by
      rcases List.mem_or_eq_of_mem_set hr with z|z
      ·exact boe.2.2 rw' z e' he'
      ·rw[z]at he'
       rcases List.mem_append.mp he' with he'|he'
       ·exact boe.2.2 rows (List.mem_of_getElem? hy) e' he'
       ·rw[List.mem_singleton.mp he']
        exact fun v hv=>(ees v hv).keep fun _ _ e=>sce _ _ e
     obtain⟨ku,hu2⟩:=upd_kp (o:=.lst ((cs.set fr c2).map V.ref)) hh k0e nD20
     refine⟨D2,cs.set fr c2,Y.set fr (rows ++ [e]),_,rfl,boe.upd new enx,⟨?_,fun rw' hr=>?_,?_⟩,(hu2 hhe).mono (by omega),ku,nD20⟩
     ·rw[List.length_set,plen];omega
     ·rcases List.mem_or_eq_of_mem_set hr with z|z
      ·have:=pok rw' z
       exact⟨by omega,this.2⟩
      ·rw[z]
       refine⟨by rw[List.length_append];show _+1≤4;omega,fun e' he'=>?_⟩
       rcases List.mem_append.mp he' with he'|he'
       ·exact rok.2 e' he'
       ·rw[List.mem_singleton.mp he'];exact esl
     ·have:=allV_set (r:=rows ++ [e]) hy
      rw[List.flatten_append,List.length_append,List.flatten_singleton]at this
      omega
   ·walk_at"rd"
    have D0:H D=none:=by
     have Dp:D≠p:=refs_ne hh9 bo9.1
     exact k05.free nD Dp
    exact⟨D,bs,X,_,rfl,bo9,⟨by omega,fun rows hr=>⟨by have:=(szX rows hr).1;omega,(szX rows hr).2⟩,by omega⟩,hh9.mono (by omega),k09,D0⟩
  ·clear bo bo9 szX cnt hh8 k08 hkl8 hh9 k9 k09 hkl9 blen xl hD hkl6 hkl5
   rintro σ H9 ⟨D,bs,X,x4,rfl,bo,szd,hh9,k09,nD0⟩
   walk_at"rd"
   refine⟨fun m σ H'=>∃bs' X',σ=[some (.ref p),some (.int R),some (.ref kl),some (.ref D),x4,some (.int far)]∧Bo H' p D bs' X'∧trim X'=trim X∧SzD X'∧Hand H' p (N+15000)∧Kp H H' p∧m=X'.length,⟨X.length,bs,X,rfl,bo,rfl,szd,hh9,k09,rfl⟩,?_⟩
   rintro m σ Ha ⟨bs1,X1,rfl,bo1,e1,sz1,hha,k0a,rfl⟩
   have hD1:=bo1.1
   walk_at"rd"
   refine⟨by decide,fun d0 nd0=>?_⟩
   generalize hE:upd Ha d0 _=Hb
   obtain⟨hd0,sb⟩:=newo nd0 hE
   clear hE
   have bob:=bo1.same sb
   have hhb:=hha.same sb
   have k0b:=k0a.trans (Kp.of sb hha)
   have r3:R3 (fun _=>True) Hb D X1:=⟨bs1,bob.1,bob.2.1.imp fun _ _ r=>r.weak fun _ _=>trivial⟩
   have g1:=r3.gd (K:=K) bob.2.2
   refine⟨_,_,g1.1,(GD.lst (K:=K) (n:=0) hd0 GDs.nil).1,g1.shaped (by omega),rfl,?_⟩
   rw[show PyData.eqv (dX Hb X1) (.list [])=decide (X1=[]) from eqv_nil]
   by_cases c:X1=[]
   ·rw[decide_eq_true c]
    walk_at"rd"
    refine⟨p,_,8,rfl,hhb,by omega,by decide,by decide,fun v Hz v0 v1 hhz kz=>?_⟩
    have boz:=bob.kp hhb kz
    walk_at"rd"
    obtain⟨w,hw⟩ : ∃w:Nat,1+v =(w:Int):=⟨(1+v).toNat,by omega⟩
    rw[hw]
    refine⟨(by show 3≤sizeLine;decide),fun y ny=>?_⟩
    generalize hE:upd Hz y _=Hy
    obtain⟨hy,sy⟩:=newo ny hE
    clear hE
    have boy:=boz.same sy
    exact q y w R _ Hy ⟨D,hy,⟨_,boy.1,boy.2.1.imp fun _ _ r=>r.weak fun _ _=>trivial⟩,boy.2.2,sz1.szx⟩ (by omega) (by omega) R1 Rb sz1 (by rw[c];rfl) ((hhz.same sy).mono (by omega)) ((k0b.trans kz).trans (Kp.of sy hhz))
   ·rw[decide_eq_false c]
    obtain⟨Y,rows,rfl⟩:=snoc_ex c
    obtain⟨cs,b,rfl⟩:=snoc_ex (xs:=bs1) (fun z=>by have:=bob.2.1.1;rw[z,List.length_append]at this;simp at this)
    have yl:cs.length=Y.length:=by have:=bob.2.1.1;rw[List.length_append,List.length_append]at this;simpa using this
    have hR2:=bob.2.1.2 cs.length b rows (by simp) (by rw[yl];simp)
    walk_at"rd"
    refine rd_ixL (SqL.of bob.1) (v:=.ref b) (by rw[List.map_append];exact atI_last _ _) ?_
    walk_at"rd"
    refine⟨by decide,fun d1 nd1=>?_⟩
    generalize hE:upd Hb d1 _=Hc
    obtain⟨hd1,sc⟩:=newo nd1 hE
    clear hE
    have boc:=bob.same sc
    have hhc:=hhb.same sc
    have k0c:=k0b.trans (Kp.of sc hhb)
    have g2:=rows_gd46 (K:=K) (hR2.keep fun _ _ _ e=>sc _ _ e) fun es he v hv=>boc.2.2 rows (by simp) es he v hv
    walk_at"rd"
    refine⟨_,_,g2.1,(GD.lst (K:=K) (n:=0) hd1 GDs.nil).1,g2.shaped (by omega),rfl,?_⟩
    rw[show PyData.eqv (dRows Hc rows) (.list [])=decide (rows=[]) from eqv_nil]
    by_cases c2:rows=[]
    ·rw[decide_eq_true c2]
     subst c2
     walk_at"rd"
     refine⟨_,fun σ' H'' h=>h,?_⟩
     walk_at"rd"
     refine⟨.inl ⟨rfl,_,SqL.of boc.1⟩,?_⟩
     walk_at"rd"
     refine⟨D,_,.ref b,rfl,rfl,boc.1,by simp,?_⟩
     rw[show((cs ++ [b]).map V.ref).dropLast =(cs ++ [b]).dropLast.map V.ref from List.map_dropLast.symm]
     walk_at"rd"
     obtain⟨ku,hu2⟩:=upd_kp (o:=.lst ((cs ++ [b]).dropLast.map V.ref)) hh k0c nD0
     have ed:(Y ++ [[]]).dropLast=Y:=List.dropLast_concat
     refine⟨Y.length,by rw[List.length_append];exact Nat.lt_succ_self _,(cs ++ [b]).dropLast,Y,rfl,boc.upd (by have:=boc.2.1.dropLast;rw[ed]at this;exact this) (fun r hr=>boc.2.2 r (by simp[hr])),by rw[← e1,trim_snoc],⟨by have:=sz1.1;rw[List.length_append]at this;omega,fun r hr=>sz1.2.1 r (by simp[hr]),?_⟩,hu2 hhc,ku,rfl⟩
     have:=sz1.2.2
     rw[allV_snoc]at this
     exact this
    ·rw[decide_eq_false c2]
     have tr:trim (Y ++ [rows])=Y ++ [rows]:=trim_stop c2
     walk_at"rd"
     refine⟨p,_,8,rfl,hhc,by omega,by decide,by decide,fun v Hz v0 v1 hhz kz=>?_⟩
     have boz:=boc.kp hhc kz
     walk_at"rd"
     obtain⟨w,hw⟩ : ∃w:Nat,1+v =(w:Int):=⟨(1+v).toNat,by omega⟩
     rw[hw]
     refine⟨(by show 3≤sizeLine;decide),fun y ny=>?_⟩
     generalize hE:upd Hz y _=Hy
     obtain⟨hy,sy⟩:=newo ny hE
     clear hE
     have boy:=boz.same sy
     exact q y w R _ Hy ⟨D,hy,⟨_,boy.1,boy.2.1.imp fun _ _ r=>r.weak fun _ _=>trivial⟩,boy.2.2,sz1.szx⟩ (by omega) (by omega) R1 Rb sz1 tr ((hhz.same sy).mono (by omega)) ((k0c.trans kz).trans (Kp.of sy hhz))
theorem ok__law_standing {f:Addr}{fd:FuncData}(F:Fun K "_law_standing" "_law_standing" s__law_standing f fd) (mF:mg "_law_standing" = some (.ref f)) (bF:Binds K fd ["_law_yard"] []) (T:Bl mg) (C__law_room:Cal P w K mg base "_law_room" ["_law_key_here", "_law_rooms"] 1 (sp__law_room K)):Cal P w K mg base "_law_standing" ["_law_yard"] 2 (sp__law_standing K):=by
 refine Cal.of F mF bF sc__law_standing (fun vs H Q E h=>?_) (fun cdv A outer s H vs Q E hr h=>?_)
 ·obtain⟨y,w,R,X,rfl,_⟩:=h;rfl
 obtain⟨y,w,R,X,rfl,hY,R1,R2,sz,q⟩:=h
 obtain⟨h,hy,⟨bs,hh,hbs⟩,en,szx⟩:=hY
 have hu1:=hu_of hr
 have hu:=hr.units
 have bl:=hbs.1
 have okE:=stand_okE (R:=R) en
 have flen:(flatP (yD H X)).length≤190:=by rw[flat_yD,List.length_map];exact sz
 refine⟨_,(pss_cons (ps_asg (pv 0) (pg_tup rfl (pgs_cons (pg_name (i:=1) sc__law_standing.nd rfl (Or.inl rfl)) (pgs_cons (pg_name (i:=2) sc__law_standing.nd rfl (Or.inl rfl)) (pgs_cons (pg_name (i:=3) sc__law_standing.nd rfl (Or.inl rfl)) pgs_nil)))))
   (pss_cons (ps_set (i:=4) sc__law_standing.nd rfl (Or.inl rfl) pe_dnewK)
   (pss_cons (ps_for PassesOwn.never rfl (pi_range1 rfl T.range (pa_cons (pe_callB (call_minI rfl) rfl T.min bt_min (pa_cons (pv 2) (pa_cons (pe_callB call_lenL rfl T.len bt_len (pa_cons (pv 3) pa_nil stx_Name)) pa_nil stx_Call) stx_Name)) pa_nil stx_Call)) (pg_name (i:=5) sc__law_standing.nd rfl (Or.inl rfl)) (pss_one (ps_for PassesOwn.never rfl (pi_list (pe_ix ix_list (pv 3) (pv 5) (fun _ _=>rfl))) (pg_name (i:=6) sc__law_standing.nd rfl (Or.inl rfl)) (pss_one (ps_for PassesOwn.never rfl (pi_list (pv 6)) (pg_tup rfl (pgs_cons (pg_name (i:=7) sc__law_standing.nd rfl (Or.inl rfl)) (pgs_cons (pg_name (i:=8) sc__law_standing.nd rfl (Or.inl rfl)) pgs_nil))) (pss_one (ps_if (PW.pt (pw_and (pt_cmpR op_eq (pcl C__law_room (hr.mono (by decide)) (pa_cons (pv 7) (pa_cons (pv 2) pa_nil stx_Name) stx_Name)) (pv 5) (nomark _)) (pw_and1 (pt_cmp (pc_dnotin hu1 (pv 7) (pv 4)))))) (pss_one (ps_dput hu1 (pv 4) (pv 7) (pv 8) rfl)) pss_nil)))))))
   (pss_one (ps_ret (pe_callB (call_sortI rfl) rfl T.sorted bt_sorted (pa_cons (pe_bm0 PySem.F.plainAttrs_dict PySem.F.slot_dict_items PySem.F.type_dict_items mt_items (pv 4)) pa_nil stx_Call))))))),?_⟩
 rw[st__law_standing]
 walk_at"rd"
 refine⟨y,_,rfl,SqT.of hy,rfl,_,_,rfl,_,_,rfl,_,_,rfl,rfl,?_⟩
 walk_at"rd"
 intro d nd
 generalize hE:upd H d _=H1
 obtain⟨hd,s1⟩:=newo nd hE
 clear hE
 have hh1:=s1 _ _ hh
 walk_at"rd"
 rw[List.length_map,bl]
 refine⟨_,rfl,by omega,by omega,?_⟩
 have nn:(min (R:Int) (X.length:Int)).toNat=min R X.length:=by omega
 rw[nn]
 refine for_rangeO (n:=min R X.length) (fun i σ H'=>(∃x5 x6 x7 x8,σ=[some (.ref y),some (.int w),some (.int R),some (.ref h),some (.ref d),x5,x6,x7,x8])∧Same H H'∧H' d=some (.dK (eV (standN R (yD H X) i)))) ⟨⟨_,_,_,_,rfl⟩,s1,hd⟩ ?_ ?_
 ·rintro i σ H3 hi ⟨⟨x5,x6,x7,x8,rfl⟩,s3,hd3⟩
  have hb:=List.getElem?_eq_getElem (show i<bs.length by omega)
  generalize bs[i]=b at hb
  obtain⟨rows,hxr,_,as,hb1,hA⟩:=hbs.get hb
  have rm:=List.mem_of_getElem? hxr
  have enr:∀es∈rows,∀v∈es,En H v:=en rows rm
  have rl:rows.flatten.length≤190:=by
   refine Nat.le_trans (List.Sublist.length_le ?_) sz
   unfold allV
   exact List.sublist_flatten_of_mem (List.mem_map.mpr ⟨rows,rm,rfl⟩)
  have e1:standN R (yD H X) (i+1) =(rowsDD H rows).flatten.foldl (stepE R i) (standN R (yD H X) i):=by
   show((((yD H X)[i]?).getD []).flatten).foldl _ _=_
   rw[yD_at,hxr];rfl
  have a1:(standN R (yD H X) i).length≤190:=Nat.le_trans (standN_len i) (Nat.le_trans flatP_take flen)
  have fl2:(rowsDD H rows).flatten.length≤190:=by
   rw[← rowD_flat];unfold rowD;rw[List.length_map];exact rl
  rw[e1]
  generalize standN R (yD H X) i=acc0 at hd3 a1
  have hh3:=s3 _ _ hh
  walk_at"rd"
  refine rd_ixL (SqL.of hh3) (at_ref hb) ?_
  refine⟨b,rfl,⟨_,SqL.of (s3 _ _ hb1)⟩,?_⟩
  refine for_listO (xs:=as.map V.ref) (fun j σ H'=>(∃x6 x7 x8,σ=[some (.ref y),some (.int w),some (.int R),some (.ref h),some (.ref d),some (.int (0+i)),x6,x7,x8])∧Same H H'∧H' d=some (.dK (eV (((rowsDD H rows).take j).flatten.foldl (stepE R i) acc0)))) ⟨⟨_,_,_,rfl⟩,s3,hd3⟩ (fun _ _ _ _ h=>SqL.of (h.2.1 _ _ hb1)) ?_ ?_
  ·rintro j x σ H4 hx ⟨⟨x6,x7,x8,rfl⟩,s4,hd4⟩
   obtain⟨a,ha,rfl⟩:=refs_get hx
   obtain⟨es,hes,_,ha1⟩:=hA.get ha
   have hem:=List.mem_of_getElem? hes
   have hrd:(rowsDD H rows)[j]? = some (rowD H es):=by rw[rowsDD_at,hes];rfl
   have jn:((rowsDD H rows).take (j+1)).flatten.foldl (stepE R i) acc0 =(rowD H es).foldl (stepE R i) (((rowsDD H rows).take j).flatten.foldl (stepE R i) acc0):=by
    rw[take_get hrd,List.flatten_append,List.foldl_append,List.flatten_singleton]
   have al:(((rowsDD H rows).take j).flatten.foldl (stepE R i) acc0).length≤380:=by
    refine Nat.le_trans fold_len ?_
    have:((rowsDD H rows).take j).flatten.length ≤(rowsDD H rows).flatten.length:=by
     conv=>rhs;rw[← List.take_append_drop j (rowsDD H rows)]
     rw[List.flatten_append,List.length_append];omega
    omega
   rw[jn]
   generalize ((rowsDD H rows).take j).flatten.foldl (stepE R i) acc0=acc1 at hd4 al
   have rdl:(rowD H es).length=es.length:=by unfold rowD;rw[List.length_map]
   have esl:es.length≤9:=(szx.2 rows rm).2 es hem
   walk_at"rd"
   refine⟨a,rfl,⟨_,SqL.of (s4 _ _ ha1)⟩,?_⟩
   refine for_listO (xs:=es) (fun m σ H'=>(∃x7 x8,σ=[some (.ref y),some (.int w),some (.int R),some (.ref h),some (.ref d),some (.int (0+i)),some (.ref a),x7,x8])∧Same H H'∧H' d=some (.dK (eV (((rowD H es).take m).foldl (stepE R i) acc1)))) ⟨⟨_,_,rfl⟩,s4,hd4⟩ (fun _ _ _ _ h=>SqL.of (h.2.1 _ _ ha1)) ?_ ?_
   ·rintro m x σ H6 hx2 ⟨⟨x7,x8,rfl⟩,s6,hd6⟩
    have hxd:(rowD H es)[m]? = some (eD H x):=by unfold rowD;rw[List.getElem?_map,hx2];rfl
    have ml:=(List.getElem?_eq_some_iff.mp hx2).1
    obtain⟨t,rfl,ht,_,k0,k1,_⟩:=(enr es hem x (List.mem_of_getElem? hx2)).pt
    have nx:((rowD H es).take (m+1)).foldl (stepE R i) acc1=stepE R i (((rowD H es).take m).foldl (stepE R i) acc1) (eD H (.ref t)):=by rw[take_get hxd,List.foldl_append];rfl
    have al2:(((rowD H es).take m).foldl (stepE R i) acc1).length≤400:=by
     refine Nat.le_trans fold_len ?_
     rw[List.length_take];omega
    rw[nx]
    generalize ((rowD H es).take m).foldl (stepE R i) acc1=acc at hd6 al2
    generalize eD H (.ref t)=e at ht k0 k1
    walk_at"rd"
    refine⟨t,_,rfl,SqT.of (s6 _ _ ht),rfl,_,_,rfl,_,_,rfl,rfl,?_⟩
    walk_at"rd"
    refine⟨e.1,R,rfl,k0,by omega,by omega,by omega,?_⟩
    walk_at"rd"
    refine rd_if (fun c=>?_) (fun c=>?_)
    ·have c:roomV e.1 R =(i:Int):=by rw[c];omega
     walk_at"rd"
     refine rd_dnin ?_
     walk_at"rd"
     refine⟨d,_,rfl,DGet.k (k:=Sum.inl e.1) hd6,?_⟩
     rw[find_some]
     by_cases g:e.1∈acc.map (·.1)
     ·rw[decide_eq_true g]
      walk_at"rd"
      refine⟨⟨_,_,rfl⟩,s6,?_⟩
      unfold stepE addE
      rw[if_pos c,if_pos g];exact hd6
     ·rw[decide_eq_false g]
      walk_at"rd"
      refine⟨d,_,rfl,DPut.k (k:=Sum.inl e.1) hd6 (by unfold eV;rw[List.length_map,List.length_map];exact small1000 (by omega)),?_⟩
      walk_at"rd"
      refine⟨⟨_,_,rfl⟩,fun b o e=>by rw[upd_ne (ne_of_none e nd)];exact s6 _ _ e,?_⟩
      unfold stepE addE
      rw[if_pos c,if_neg g,upd_same,put_new g]
    ·have c:¬ roomV e.1 R =(i:Int):=fun z=>c (by rw[z];omega)
     walk_at"rd"
     refine⟨⟨_,_,rfl⟩,s6,?_⟩
     unfold stepE
     rw[if_neg c];exact hd6
   ·rintro σ H6 ⟨⟨x7,x8,rfl⟩,s6,hd6⟩
    rw[← rdl,List.take_length]at hd6
    walk_at"rd"
    exact⟨⟨_,_,_,rfl⟩,s6,hd6⟩
  ·rintro σ H6 ⟨⟨x6,x7,x8,rfl⟩,s6,hd6⟩
   rw[List.length_map,hA.1,← rowsDD_len (H:=H),List.take_length]at hd6
   walk_at"rd"
   exact⟨⟨_,_,_,_,rfl⟩,s6,hd6⟩
 ·rintro σ H3 ⟨⟨x5,x6,x7,x8,rfl⟩,s3,hd3⟩
  have el:standN R (yD H X) (min R X.length)=stand R (yD H X):=by
   unfold stand yD
   rw[List.length_map]
  rw[el]at hd3
  have sl:(stand R (yD H X)).length≤190:=Nat.le_trans stand_len flen
  have snd:=stand_nd (R:=R) (D:=yD H X)
  generalize stand R (yD H X)=es at hd3 okE sl snd q
  walk_at"rd"
  refine⟨.inr (.inr (.inl ⟨rfl,.inl ⟨_,hd3⟩⟩)),?_⟩
  refine⟨d,_,rfl,rfl,hd3,fun v nv=>?_⟩
  generalize hE:upd H3 v _=H4
  obtain⟨hv,s4⟩:=newo nv hE
  clear hE
  walk_at"rd"
  refine⟨v,d,es.map vE,rfl,hv,s4 _ _ hd3,by rw[List.map_map];exact snd,by rw[List.length_map];omega,fun ps us l2 HI pp po sI nl2 hl2 ul hu2=>?_⟩
  have pv:(ps.map uE).map vE=ps:=by
   rw[List.map_map]
   refine(List.map_congr_left fun x hx=>?_).trans (List.map_id _)
   obtain⟨y,_,rfl⟩:=List.mem_map.mp (pp.mem_iff.mp hx)
   rfl
  have pm:(ps.map uE).Perm es:=by
   have:=pp.map uE
   rw[List.map_map,show(uE ∘ vE)=id from rfl,List.map_id]at this
   exact this
  refine q l2 us (ps.map uE) HI hl2 ⟨by rw[List.length_map];exact ul,fun i' t' e e1 e2=>?_⟩ pm ((s3.trans s4).trans sI)
  have e3:ps[i']? = some (vE e):=by rw[← pv,List.getElem?_map,e2];rfl
  obtain⟨o1,o2,o3⟩:=okE e (pm.mem_iff.mp (List.mem_of_getElem? e2))
  exact⟨hu2 i' t' _ e1 e3,o1,o2.1,o2.2,o3⟩
theorem ok__law_steps_due {f:Addr}{fd:FuncData}(F:Fun K "_law_steps_due" "_law_steps_due" s__law_steps_due f fd) (mF:mg "_law_steps_due" = some (.ref f)) (bF:Binds K fd ["_law_yard", "_law_due"] []) (T:Bl mg) (C__law_onward:Cal P w K mg base "_law_onward" ["_law_room_here", "_law_rows", "_law_now"] 1 (sp__law_onward K)):Cal P w K mg base "_law_steps_due" ["_law_yard", "_law_due"] 2 (sp__law_steps_due K):=by
 refine Cal.of F mF bF sc__law_steps_due (fun vs H Q E h=>?_) (fun cdv A outer s H vs Q E hr h=>?_)
 ·obtain⟨y,y',w,w',R,R',X,Z,rfl,_⟩:=h;rfl
 obtain⟨y,y',w,w',R,R',X,Z,rfl,hY,hZ,zl,R2,xl,rok,zok,q⟩:=h
 obtain⟨h,hy,⟨bs,hh,hbs⟩,en,szx⟩:=hY
 obtain⟨h2,hy2,⟨cs,hh2,hcs⟩,ez,szz⟩:=hZ
 have hu:=hr.units
 have bl:=hbs.1
 have cl:=hcs.1
 refine⟨_,(pss_cons (ps_asg (pv 0) (pg_tup rfl (pgs_cons (pg_name (i:=2) sc__law_steps_due.nd rfl (Or.inl rfl)) (pgs_cons (pg_name (i:=3) sc__law_steps_due.nd rfl (Or.inl rfl)) (pgs_cons (pg_name (i:=4) sc__law_steps_due.nd rfl (Or.inr rfl)) pgs_nil)))))
   (pss_cons (ps_set (i:=5) sc__law_steps_due.nd rfl (Or.inl rfl) (pe_lst pa_nil))
   (pss_cons (ps_for PassesOwn.never rfl (pi_range1 rfl T.range (pa_cons (pv 3) pa_nil stx_Name)) (pg_name (i:=6) sc__law_steps_due.nd rfl (Or.inl rfl)) (pss_one (ps_set (i:=5) sc__law_steps_due.nd rfl (Or.inl rfl) (pe_op op_cat (pv 5) (pcl C__law_onward (hr.mono (by decide)) (pa_cons (pv 6) (pa_cons (pe_ix ix_list (pe_ix ix_tup (pv 1) pe_int (fun _ _=>rfl)) (pv 6) (fun _ _=>rfl)) (pa_cons (pe_ix ix_list (pe_op op_cat (pv 4) (pe_op op_rep (pe_lst (pa_cons (pe_lst pa_nil) pa_nil stx_List)) (pv 3))) (pv 6) (fun _ _=>rfl)) pa_nil stx_Subscript) stx_Subscript) stx_Name))))))
   (pss_cons (ps_setc (i:=7) sc__law_steps_due.nd rfl rfl rfl (blkOk (sc:=defScope s__law_steps_due) (N:=["_law_yard", "_law_due", "_law_wide", "_law_rooms", "_law_held", "_law_steps", "_law_room_here", "_law_further"]) (vs:=["_law_room_here"]) (fs:=["_law_held"]) (js:=[4]) (by decide +kernel) rfl rfl) (pi_range2 rfl T.range (pa_cons (pv 3) (pa_cons (pe_callB call_lenL rfl T.len bt_len (pa_cons (pv 4) pa_nil stx_Name)) pa_nil stx_Call) stx_Name)) (fun _ _ _ _=>pg_name (i:=0) (show(["_law_room_here", "_law_held"]:List Str).Nodup by decide +kernel) rfl (Or.inl rfl)) (fun _ _ _ _=>pif1 (pt_cmpR (op_neDK (K:=K) rfl hu) (pe_ix (ix_listK (K:=K) rfl) (pv 1) (pv 0) (fun _ _=>rfl)) (pe_lst pa_nil) (nomark _))) (fun _ _ _ _=>(pv 0)))
   (pss_one (ps_ret (pe_op op_cat (pv 5) (pe_comp rfl (blkOk (sc:=defScope s__law_steps_due) (N:=["_law_yard", "_law_due", "_law_wide", "_law_rooms", "_law_held", "_law_steps", "_law_room_here", "_law_further"]) (vs:=["_law_room_here"]) (fs:=[]) (js:=[]) (by decide +kernel) rfl rfl) (pi_list (pe_rev (pv 7))) (fun _ _ _ _=>pg_name (i:=0) (show(["_law_room_here"]:List Str).Nodup by decide +kernel) rfl (Or.inl rfl)) (fun _ _ _ _=>pif0) (fun _ _ _ _=>(pe_tup (pa_cons pe_str (pa_cons (pv 0) (pa_cons pe_int pa_nil stx_Constant) stx_Name) stx_Constant))))))))))),?_⟩
 rw[st__law_steps_due]
 walk_at"rd"
 refine⟨y,_,rfl,SqT.of hy,rfl,_,_,rfl,_,_,rfl,_,_,rfl,rfl,?_⟩
 walk_at"rd"
 refine⟨by decide,fun D nD=>?_⟩
 generalize hE:upd H D _=H1
 obtain⟨hD,s1⟩:=newo nD hE
 clear hE
 walk_at"rd"
 refine⟨_,rfl,by omega,by omega,?_⟩
 rw[Int.toNat_natCast]
 refine for_rangeO (n:=R) (fun i σ H'=>(∃D x6,σ=[some (.ref y),some (.ref y'),some (.int w),some (.int R),some (.ref h),some (.ref D),x6,none]∧∃ss:List Addr,H' D=some (.lst (ss.map V.ref))∧P1 (StA H') ss (mendN H X Z i))∧Same H H') ⟨⟨D,_,rfl,[],hD,P1.nil⟩,s1⟩ ?_ ?_
 ·rintro i σ H3 hi ⟨⟨D,x6,rfl,ss,hD3,hP3⟩,s3⟩
  have hc:=List.getElem?_eq_getElem (show i<cs.length by omega)
  generalize cs[i]=c at hc
  have hy3:=s3 _ _ hy2
  have hh3:=s3 _ _ hh2
  walk_at"rd"
  refine rd_ixL (SqL.of hh3) (at_ref hc) ?_
  walk_at"rd"
  refine⟨by decide,fun e0 ne0=>?_⟩
  generalize hE:upd H3 e0 _=H4
  obtain⟨he0,s4⟩:=newo ne0 hE
  clear hE
  walk_at"rd"
  refine⟨(by show 1≤sizeLine;decide),fun e1 ne1=>?_⟩
  generalize hE:upd H4 e1 _=H5
  obtain⟨he1,s5⟩:=newo ne1 hE
  clear hE
  walk_at"rd"
  refine⟨e1,R,_,rfl,rfl,he1,by omega,by omega,Nat.le_trans (show _≤1000 by simp;omega) (by decide),fun e2 ne2=>?_⟩
  generalize hE:upd H5 e2 _=H6
  obtain⟨he2,s6⟩:=newo ne2 hE
  clear hE
  have s36:=(s4.trans s5).trans s6
  have s06:=s3.trans s36
  have er:(List.replicate (R:Int).toNat [V.ref e0]).flatten =(List.replicate R e0).map V.ref:=by
   rw[Int.toNat_natCast,List.map_replicate]
   exact List.flatten_replicate_singleton
  rw[er]at he2
  walk_at"rd"
  refine⟨h,e2,_,_,rfl,rfl,s06 _ _ hh,he2,Nat.le_trans (show _≤1000 by rw[List.length_map,List.length_map,List.length_replicate];omega) (by decide),fun e3 ne3=>?_⟩
  rw[← List.map_append]
  generalize hE:upd H6 e3 _=H7
  obtain⟨he3,s7⟩:=newo ne3 hE
  clear hE
  have s37:=s36.trans s7
  have s07:=s3.trans s37
  obtain⟨o,ho,hoo⟩ : ∃o,(bs++List.replicate R e0)[i]? = some o∧(bs[i]? = some o ∨(bs.length≤i∧H7 o=some (.lst []))):=by
   by_cases g:i<bs.length
   ·exact⟨_,by rw[List.getElem?_append_left g];exact List.getElem?_eq_getElem g,.inl (List.getElem?_eq_getElem g)⟩
   ·refine⟨e0,?_,.inr ⟨by omega,s7 _ _ (s6 _ _ (s5 _ _ he0))⟩⟩
    rw[List.getElem?_append_right (by omega),List.getElem?_replicate,if_pos (by omega)]
  have hO:=at_rws hbs s07 hoo
  walk_at"rd"
  refine rd_ixL (SqL.of he3) (at_ref ho) ?_
  walk_at"rd"
  rw[Int.zero_add]
  have hN:=at_rws hcs s07 (.inl hc)
  refine⟨i,o,c,atR X i,atR Z i,rfl,hO,hN,(rok i).same s07,(zok i).same s07,by omega,fun D2 ss2 H8 hD8 hP8 s8=>?_⟩
  have kt7:∀t xs,H t=some (.tup xs)→H7 t=some (.tup xs):=fun _ _ e=>s07 _ _ e
  rw[on_keep kt7 (at_en en) (at_en ez)]at hP8
  have s38:=s37.trans s8
  have l1:ss.length≤131*i:=by rw[hP3.1];exact mendN_len (fun i=>(zok i).1) i
  have l2:ss2.length≤131:=by
   rw[hP8.1]
   exact Nat.le_trans on_len (by have:=(zok i).1;omega)
  walk_at"rd"
  refine⟨D,D2,_,_,rfl,rfl,s38 _ _ hD3,hD8,Nat.le_trans (show _≤100000 by rw[List.length_map,List.length_map];omega) (by decide),fun L nL=>?_⟩
  rw[← List.map_append]
  generalize hE:upd H8 L _=H9
  obtain⟨hL,s9⟩:=newo nL hE
  clear hE
  walk_at"rd"
  refine⟨⟨L,_,rfl,ss++ss2,hL,?_⟩,s3.trans (s38.trans s9)⟩
  exact(hP3.imp fun s st h=>h.same (s38.trans s9)).app (hP8.imp fun s st h=>h.same s9)
 ·rintro σ H3 ⟨⟨D,x6,rfl,ss,hD3,hP3⟩,s03⟩
  have hh3:=s03 _ _ hh
  walk_at"rd"
  rw[List.length_map,bl]
  refine⟨_,_,rfl,by omega,fun D2 nD2=>?_⟩
  have nn:((X.length:Int)-(R:Int)).toNat=X.length-R:=by omega
  rw[nn]
  refine comp_range (n:=X.length-R) (fun i σ' ys H'=>(∃x,σ'=[x,some (.ref h)])∧Same H3 H'∧ys =((furN X R i).map (fun(r:Nat)=>(r:Int))).map V.int∧H' D2=some (.lst ys)) D2 ⟨⟨_,rfl⟩,same_new nD2 _,rfl,upd_same⟩ ?_ ?_
  ·rintro i σ' ys H4 hi ⟨⟨x1,rfl⟩,s4,rfl,hD4⟩
   have hb:=List.getElem?_eq_getElem (show R+i<bs.length by omega)
   generalize bs[R+i]=b at hb
   obtain⟨rows,hx,hR2⟩:=hbs.get hb
   have ea:atR X (R+i)=rows:=by unfold atR;rw[hx];rfl
   have s04:=s03.trans s4
   walk_at"rd"
   rw[show(R:Int)+(i:Int) =((R+i:Nat):Int) by omega]
   refine rd_ixL (SqL.of (s04 _ _ hh)) (at_ref' hb) ?_
   walk_at"rd"
   refine⟨by decide,fun d nd=>?_⟩
   generalize hE:upd H4 d _=H5
   obtain⟨hd,s5⟩:=newo nd hE
   clear hE
   have s35:=s4.trans s5
   have s05:=s03.trans s35
   have hD5:=s5 _ _ hD4
   have g4:=rows_gd46 (K:=K) (hR2.keep fun _ _ _ e=>s05 _ _ e) fun es he v hv=>(en rows (List.mem_of_getElem? hx) es he v hv).keep fun _ _ e=>s05 _ _ e
   have fl:=fur_len (X:=X) (R:=R) i
   walk_at"rd"
   refine⟨_,_,g4.1,(GD.lst (K:=K) (n:=0) hd GDs.nil).1,g4.shaped (by omega),rfl,?_⟩
   rw[show PyData.eqv (dRows H5 rows) (.list [])=decide (rows=[]) from eqv_nil]
   by_cases c:rows=[]
   ·rw[decide_eq_true c]
    walk_at"rd"
    refine⟨⟨_,rfl⟩,s35,?_,hD5⟩
    show _ =((furN X R i++(if atR X (R+i)=[] then [] else [R+i])).map _).map _
    rw[ea,if_pos c,List.append_nil]
   ·rw[decide_eq_false c]
    walk_at"rd"
    refine⟨hD5,by rw[List.length_map,List.length_map];exact small1000 (by omega),⟨_,rfl⟩,fun b o e=>by rw[upd_ne (ne_of_none e nD2)];exact s35 _ _ e,?_,upd_same⟩
    show _ =((furN X R i++(if atR X (R+i)=[] then [] else [R+i])).map _).map _
    rw[ea,if_neg c,List.map_append,List.map_append];rfl
  ·rintro σ' ys H4 ⟨⟨x1,rfl⟩,s4,rfl,hD4⟩
   have fm:=fun i=>fur_mem (X:=X) (R:=R) (i:=i) (n:=X.length-R)
   have fl:=fur_len (X:=X) (R:=R) (X.length-R)
   have em:mendS H R X Z=mendN H X Z R++cutS (furN X R (X.length-R)).reverse:=rfl
   generalize furN X R (X.length-R)=fu at hD4 fm fl em
   have hD34:=s4 _ _ hD3
   walk_at"rd"
   refine⟨D2,_,rfl,SqL.of hD4,fun L nL=>?_⟩
   rw[← List.map_reverse,← List.map_reverse]
   generalize hE:upd H4 L _=H5
   obtain⟨hL,s5⟩:=newo nL hE
   clear hE
   refine⟨L,rfl,⟨_,SqL.of hL⟩,fun D3 nD3=>?_⟩
   refine comp_list (xs:=(fu.reverse.map (fun(r:Nat)=>(r:Int))).map V.int) (fun j σ' ys H'=>(∃x,σ'=[x])∧Same H5 H'∧H' D3=some (.lst ys)∧∃ss3:List Addr,ys=ss3.map V.ref∧ss3.length=j∧j≤fu.length∧P1 (StA (hid D3 H')) ss3 (cutS (fu.reverse.take j))) D3 ⟨⟨_,rfl⟩,same_new nD3 _,upd_same,[],rfl,rfl,Nat.zero_le _,P1.nil⟩ (fun i σ' ys H' _ h=>SqL.of (h.2.1 _ _ hL)) ?_ ?_
   ·rintro j x σ' ys H6 hx ⟨⟨x1,rfl⟩,s6,hD6,ss3,rfl,sl3,_,hP6⟩
    obtain⟨z,hz,rfl⟩:=ints_get hx
    rw[List.getElem?_map]at hz
    cases ez:fu.reverse[j]? with
    | none=>rw[ez]at hz;cases hz
    | some r =>
     rw[ez]at hz
     have hz:(r:Int)=z:=Option.some.inj hz
     subst hz
     have jl:=(List.getElem?_eq_some_iff.mp ez).1
     rw[List.length_reverse]at jl
     have rb:=(fm r).mp (List.mem_reverse.mp (List.mem_of_getElem? ez))
     walk_at"rd"
     refine⟨(by show 3≤sizeLine;decide),fun s3 n3=>?_⟩
     generalize hE:upd H6 s3 _=H7
     obtain⟨h3,s7⟩:=newo n3 hE
     clear hE
     have n3D:s3≠D3:=fun z=>by rw[z,hD6]at n3;cases n3
     refine⟨s7 _ _ hD6,by rw[List.length_map];exact small1000 (by omega),⟨_,rfl⟩,fun b o e=>by rw[upd_ne (ne_of_none e nD3)];exact s7 _ _ (s6 _ _ e),upd_same,ss3 ++ [s3],by rw[List.map_append];rfl,by rw[List.length_append,sl3];rfl,by omega,?_⟩
     rw[hid_upd,take_get ez]
     unfold cutS at hP6 ⊢
     rw[List.map_append]
     refine(hP6.imp fun s st h=>h.same (hid_same s7)).snoc ⟨?_,by omega,by omega⟩
     rw[hid_ne n3D];exact h3
   ·rintro σ' ys H6 ⟨⟨x1,rfl⟩,s6,hD6,ss3,rfl,sl3,_,hP6⟩
    rw[List.take_of_length_le (by simp)]at hP6
    have s36:=(s4.trans s5).trans s6
    have s06:=s03.trans s36
    have l1:ss.length≤131*R:=by rw[hP3.1];exact mendN_len (fun i=>(zok i).1) R
    have sl3':ss3.length≤130:=by
     rw[sl3,List.length_map,List.length_map,List.length_reverse];omega
    walk_at"rd"
    refine⟨D,D3,_,_,rfl,rfl,s36 _ _ hD3,hD6,Nat.le_trans (show _≤100000 by rw[List.length_map,List.length_map];omega) (by decide),fun L4 nL4=>?_⟩
    rw[← List.map_append]
    generalize hE:upd H6 L4 _=H7
    obtain⟨hL4,s7⟩:=newo nL4 hE
    clear hE
    refine q L4 (ss++ss3) H7 hL4 ?_ (s06.trans s7)
    rw[em]
    exact(hP3.imp fun s st h=>h.same (s36.trans s7)).app (hP6.imp fun s st h=>(h.same hid_le).same s7)
theorem ok_law {f:Addr}{fd:FuncData}(F:Fun K "law" "law" s_law f fd) (T:Bl mg) (C__law_places:Cal P w K mg base "_law_places" ["_law_script", "_law_least", "_law_most"] 1 (sp__law_places K)) (C__law_open:Cal P w K mg base "_law_open" ["_law_script", "_law_place"] 1 (sp__law_open K)) (C__law_drawn:Cal P w K mg base "_law_drawn" ["_law_hand"] 4 (sp__law_drawn K)) (C__law_clean:Cal P w K mg base "_law_clean" ["_law_wide", "_law_rooms", "_law_entries"] 2 (sp__law_clean K)) (C__law_copy:Cal P w K mg base "_law_copy" ["_law_yard"] 1 (sp__law_copy K)) (C_mended:Cal P w K mg base "mended" ["yard"] 7 (sp_mended K)) (C_mending:Cal P w K mg base "mending" ["yard"] 8 (sp_mending K)) (C__law_draw:Cal P w K mg base "_law_draw" ["_law_hand", "_law_many"] 1 (sp__law_draw K)) (C__law_standing:Cal P w K mg base "_law_standing" ["_law_yard"] 2 (sp__law_standing K)) (C__law_is_yard:Cal P w K mg base "_law_is_yard" ["_law_got", "_law_due"] 2 (sp__law_is_yard K)) (C__law_steps_due:Cal P w K mg base "_law_steps_due" ["_law_yard", "_law_due"] 2 (sp__law_steps_due K)) (C_done_all:Cal P w K mg base "done_all" ["yard", "steps"] 2 (sp_done_all K)):FnOk P w K mg base CX0 9 f fd ["_law_script"] (sp_law K):=by
 refine F.ok sc_law (fun vs H Q E h=>?_) (fun cdv A outer s H vs Q E hr h=>?_)
 ·obtain⟨a,ns,rfl,_⟩:=h;rfl
 obtain⟨a,ms,rfl,hS,hlen,q⟩:=h
 have hu:=hr.units
 refine⟨_,(pss_cons (ps_for PassesOwn.never rfl (pi_list (pcl C__law_places (hr.mono (by decide)) (pa_cons (pv 0) (pa_cons pe_int (pa_cons pe_int pa_nil stx_Constant) stx_Constant) stx_Name))) (pg_name (i:=1) sc_law.nd rfl (Or.inl rfl)) (pss_cons (ps_set (i:=2) sc_law.nd rfl (Or.inl rfl) (pcl C__law_open (hr.mono (by decide)) (pa_cons (pv 0) (pa_cons (pv 1) pa_nil stx_Name) stx_Name)))
   (pss_cons (ps_set (i:=3) sc_law.nd rfl (Or.inl rfl) (pe_cmpR op_eq (pcl C__law_draw (hr.mono (by decide)) (pa_cons (pv 2) (pa_cons pe_int pa_nil stx_Constant) stx_Name)) pe_int (nomark _)))
   (pss_cons (ps_set (i:=4) sc_law.nd rfl (Or.inl rfl) (pcl C__law_drawn (hr.mono (by decide)) (pa_cons (pv 2) pa_nil stx_Name)))
   (pss_cons (ps_set (i:=5) sc_law.nd rfl (Or.inl rfl) (pcl C__law_clean (hr.mono (by decide)) (pa_cons (pe_ix ix_tup (pv 4) pe_int (fun _ _=>rfl)) (pa_cons (pe_ix ix_tup (pv 4) pe_int (fun _ _=>rfl)) (pa_cons (pcl C__law_standing (hr.mono (by decide)) (pa_cons (pv 4) pa_nil stx_Name)) pa_nil stx_Call) stx_Subscript) stx_Subscript)))
   (pss_cons (ps_cut (ps_if (pt_val (pv 3)) (pss_one (ps_set (i:=4) sc_law.nd rfl (Or.inl rfl) (pcl C__law_copy (hr.mono (by decide)) (pa_cons (pv 5) pa_nil stx_Name)))) pss_nil))
   (pss_cons (ps_set (i:=6) sc_law.nd rfl (Or.inl rfl) (pcl C__law_copy (hr.mono (by decide)) (pa_cons (pv 4) pa_nil stx_Name)))
   (pss_cons (ps_set (i:=7) sc_law.nd rfl (Or.inl rfl) (pcl C_mended (hr.mono (by decide)) (pa_cons (pv 4) pa_nil stx_Name)))
   (pss_cons (ps_if (PW.pt (pw_or (pt_not (pt_val (pcl C__law_is_yard (hr.mono (by decide)) (pa_cons (pv 7) (pa_cons (pv 5) pa_nil stx_Name) stx_Name)))) (pw_or1 (pt_cmpR (op_neD hu) (pv 4) (pv 6) (nomark _))))) (pss_one (ps_ret pe_bl)) pss_nil)
   (pss_cons (ps_expr (pe_bm PySem.F.plainAttrs_list PySem.F.slot_list_append PySem.F.type_list_append mt_append (pe_ix ix_list (pe_ix ix_list (pe_ix ix_tup (pv 7) pe_int (fun _ _=>rfl)) pe_int (fun _ _=>rfl)) pe_int (fun _ _=>rfl)) (pa_cons (pe_tup (pa_cons pe_int (pa_cons pe_str pa_nil stx_Constant) stx_Constant)) pa_nil stx_Tuple)))
   (pss_cons (ps_if (PW.pt (pw_or (pt_cmpR (op_neD hu) (pe_slice sl_list (pe_ix ix_tup (pv 7) pe_int (fun _ _=>rfl)) (po_some pe_int) po_none) (pe_slice sl_list (pe_ix ix_tup (pv 5) pe_int (fun _ _=>rfl)) (po_some pe_int) po_none) (nomark _)) (pw_or1 (pt_cmpR (op_neD hu) (pcl C_mended (hr.mono (by decide)) (pa_cons (pv 4) pa_nil stx_Name)) (pv 5) (nomark _))))) (pss_one (ps_ret pe_bl)) pss_nil)
   (pss_cons (ps_set (i:=8) sc_law.nd rfl (Or.inl rfl) (pcl C_mending (hr.mono (by decide)) (pa_cons (pv 4) pa_nil stx_Name)))
   (pss_cons (ps_if (PW.pt (pw_or (pt_not (pt_val (pe_callB call_isinst rfl T.isinstance bt_isinstance (pa_cons (pv 8) (pa_cons (pe_bltn (v:=.ty "list") rfl T.list bt_list rfl) pa_nil stx_Name) stx_Name)))) (pw_or (pt_cmpR (op_neD hu) (pv 8) (pcl C__law_steps_due (hr.mono (by decide)) (pa_cons (pv 6) (pa_cons (pv 5) pa_nil stx_Name) stx_Name)) (nomark _)) (pw_or1 (pt_cmpR (op_neD hu) (pv 4) (pv 6) (nomark _)))))) (pss_one (ps_ret pe_bl)) pss_nil)
   (pss_one (ps_if (PW.pt (pw_or (pt_not (pt_val (pcl C__law_is_yard (hr.mono (by decide)) (pa_cons (pcl C_done_all (hr.mono (by decide)) (pa_cons (pv 4) (pa_cons (pv 8) pa_nil stx_Name) stx_Name)) (pa_cons (pv 5) pa_nil stx_Name) stx_Call)))) (pw_or1 (PW.pt (pw_and (pt_val (pv 3)) (pw_and1 (pt_cmpR (op_neD hu) (pv 8) (pe_lst pa_nil) (nomark _)))))))) (pss_one (ps_ret pe_bl)) pss_nil)))))))))))))))
   (pss_one (ps_ret pe_bl))),?_⟩
 rw[st_law]
 walk_at"rd"
 refine⟨a,ms,8,30,rfl,hS,hlen,by omega,by omega,by omega,by omega,fun np' pl H15 npl nplH hpl s15=>?_⟩
 walk_at"rd"
 refine⟨pl,rfl,⟨_,SqL.of hpl⟩,?_⟩
 refine for_listO (xs:=(upN np').map V.int) (fun i σ H'=>(∃y1 y2 y3 y4 y5 y6 y7 y8,σ=[some (.ref a),y1,y2,y3,y4,y5,y6,y7,y8])∧Same H15 H') ⟨⟨_,_,_,_,_,_,_,_,rfl⟩,Same.refl H15⟩ (fun _ _ _ _ h=>SqL.of (h.2 _ _ hpl)) ?_ ?_
 ·rintro i x σ H1 hx ⟨⟨y1,y2,y3,y4,y5,y6,y7,y8,rfl⟩,sm⟩
  obtain⟨iln,rfl⟩:=upN_get hx
  walk_at"rd"
  refine⟨a,ms,i,rfl,(s15.trans sm).seq hS,hlen,by omega,by omega,fun p H2 np s2 hh2=>?_⟩
  walk_at"rd"
  refine⟨p,_,4,rfl,hh2,by decide,by decide,by decide,fun way H3 f0 f1 hh3 k3=>?_⟩
  walk_at"rd"
  generalize hcb:decide (way=1)=ch
  refine⟨p,_,rfl,hh3,by omega,fun y w R X HA hY w1 w2 R1 Rb szd tx hhA kA=>?_⟩
  have sA:Same H1 HA:=Kp.new s2 np (k3.trans kA)
  have nd:=stand_nd (R:=R) (D:=yD HA X)
  have sl:(stand R (yD HA X)).length≤124:=Nat.le_trans stand_len (by rw[flatY_len];exact szd.2.2)
  have enA:EnX HA X:=hY.choose_spec.2.2.1
  have okE:=stand_okE (R:=R) enA
  obtain⟨h,hy,_⟩:=id hY
  walk_at"rd"
  refine⟨y,w,R,X,rfl,hY,R1,Rb,by have:=szd.2.2;omega,fun l ts es HB hl el pm sB=>?_⟩
  walk_at"rd"
  refine⟨w,R,l,ts,es,rfl,hl,el,(pm.map _).nodup_iff.mpr nd,by rw[pm.length_eq];omega,w1,w2,R1,by omega,fun yd Z HC hYd cl sC=>?_⟩
  have cl:=cl.perm pm
  have hZC:=yq_yd hYd cl w1 w2 Rb (by omega)
  clear hYd hl el pm
  have sAC:=sB.trans sC
  have hYC:=hY.same sAC
  have enC:=enA.same sAC
  have eyC:yD HC X=yD HA X:=yD_same sAC enA
  have ezC:EnX HC Z:=hZC.choose_spec.2.2.1
  rw[← eyC]at nd sl okE cl
  clear hY enA eyC hy
  walk_at"rd"
  refine cutO (fun σ H'=>∃(y:Addr) (X:List (List (List V))),σ=[some (.ref a),some (.int i),some (.ref p),some (.bl ch),some (.ref y),some (.ref yd),y6,y7,y8]∧Yd H' y w R X∧Yd H' yd w R Z∧trim X=X∧X.length≤130∧(∀i,RowsOk H' (atR X i))∧(allV X).length≤124∧IsCl w R (stand R (yD H' X)) (yD H' Z)∧(ch=true→yD H' X=yD H' Z∧X.length=R)∧Same H1 H') ?_ ?_
  ·walk_at"rd"
   cases ch with
   | true =>
    walk_at"rd"
    refine⟨yd,w,R,Z,rfl,hZC,fun y' h' bs' HD ny' hy' t' sD=>?_⟩
    have zl:Z.length=R:=by have:=cl.1;unfold yD at this;rw[List.length_map]at this;exact this
    have ezD:=ezC.same sD
    have eD2:yD HD Z=yD HC Z:=yD_same sD ezC
    have clD:IsCl w R (stand R (yD HC X)) (yD HD Z):=by rw[eD2];exact cl
    have pc:=stand_clean clD nd w1 R1
    have fl:=(clD.flat nd w1 R1).length_eq
    rw[flatY_len]at fl
    walk_at"rd"
    exact⟨y',Z,rfl,⟨h',hy',t'.r3,ezD,hZC.choose_spec.2.2.2⟩,hZC.same sD,cl_trim clD R1,by omega,cl_rows clD w1 w2 (by omega) ezD,by omega,clD.perm pc.symm,fun _=>⟨rfl,zl⟩,(sA.trans sAC).trans sD⟩
   | false =>
    walk_at"rd"
    refine⟨y,X,rfl,hYC,hZC,tx,szd.1,fun i=>?_,szd.2.2,cl,fun z=>(by cases z),sA.trans sAC⟩
    refine⟨?_,fun e he=>⟨?_,at_en enC e he⟩⟩
    ·unfold atR
     cases c:X[i]? with
     | none=>show 0≤130;omega
     | some rows=>show rows.length≤130;have:=(szd.2.1 rows (List.mem_of_getElem? c)).1;omega
    ·unfold atR at he
     cases c:X[i]? with
     | none=>rw[c]at he;exact absurd he List.not_mem_nil
     | some rows=>rw[c]at he;have:=(szd.2.1 rows (List.mem_of_getElem? c)).2 e he;omega
  clear hYC hZC enC ezC nd sl okE cl tx szd sAC sB sC sA hh3 k3 kA hhA
  rintro σ HD ⟨y,X,rfl,hY,hZ,tx,xl,rok,cnt,cl,hch,s1D⟩
  have nd:=stand_nd (R:=R) (D:=yD HD X)
  have sl:(stand R (yD HD X)).length≤124:=Nat.le_trans stand_len (by rw[flatY_len];exact cnt)
  have enD:EnX HD X:=hY.choose_spec.2.2.1
  have ezD:EnX HD Z:=hZ.choose_spec.2.2.1
  have zl:Z.length=R:=by have:=cl.1;unfold yD at this;rw[List.length_map]at this;exact this
  have zok:=cl_rows cl w1 w2 (by omega) ezD
  walk_at"rd"
  refine⟨y,w,R,X,rfl,hY,fun k h' bs' HE nk hk t' sE=>?_⟩
  have hK:Yd HE k w R X:=⟨h',hk,t'.r3,enD.same sE,hY.choose_spec.2.2.2⟩
  have cleq:∀{H':Hp}{Z':List (List (List V))},Same HD H'→IsCl w R (stand R (yD HD X)) (yD H' Z')→yD H' Z'=yD H' Z:=fun {H'}{Z'} s c=>by
   have e:yD H' Z=yD HD Z:=yD_same s ezD
   rw[e];exact c.uniq nd cl
  have hYE:=hY.same sE
  have eyE:yD HE X=yD HD X:=yD_same sE enD
  walk_at"rd"
  refine⟨y,w,R,X,rfl,hYE,w1,w2,R1,Rb,by omega,fun t ht rs bss HF htF sy ez sq clF sF=>?_⟩
  rw[eyE]at clF
  have sDF:=sE.trans sF
  have eF:=cleq sDF clF
  have gF:=yard_pd (K:=K) htF sy.r3 ez
  have gZ:=(hZ.same sDF).pd (K:=K)
  rw[eF]at gF
  walk_at"rd"
  refine⟨t,yd,ht,w,R,_,rfl,htF,gF,gZ,?_⟩
  have gy:=(hYE.same sF).gd (K:=K)
  have gk:=(hK.same sF).gd (K:=K)
  walk_at"rd"
  refine⟨_,_,gy.1,gk.1,gy.shaped (by omega),gk.shaped (by omega),?_⟩
  rw[gy.refl]
  walk_at"rd"
  have bl:bss.length=R:=by have:=clF.1;unfold yD at this;rw[List.length_map,XA_len]at this;exact this
  obtain⟨r0,rs,rfl⟩ : ∃r0 rs',rs=r0::rs':=by
   cases rs with
   | nil=>have:=sy.hb.1;rw[bl]at this;simp at this;omega
   | cons r0 rs=>exact⟨_,_,rfl⟩
  obtain⟨b0,bss,rfl⟩ : ∃b0 bss',bss=b0::bss':=by
   cases bss with
   | nil=>simp at bl;omega
   | cons r0 rs=>exact⟨_,_,rfl⟩
  obtain⟨a0,as0,rfl⟩ : ∃a0 as0,b0=a0::as0:=by
   cases b0 with
   | cons a0 as0=>exact⟨_,_,rfl⟩
   | nil =>
    obtain⟨s,_,_,p3⟩:=clF.2 0 [] rfl
    have:=rowsG_ne (s:=s) (w:=w)
    rw[← p3]at this
    simp at this
  have ap:=sy.apart
  have hhF:HF ht=some (.lst (V.ref r0::rs.map V.ref)):=sy.hh
  have hr0:HF r0=some (.lst (V.ref a0::as0.map V.ref)):=sy.hb.2 0 r0 (a0::as0) rfl rfl
  obtain⟨es0,ha0⟩:=sy.ha a0 (by simp)
  have na0:HE a0=none:=sy.ns a0 (by simp)
  walk_at"rd"
  refine rd_ixL (SqL.of hhF) (v:=.ref r0) (atI_nat (j:=0) rfl) ?_
  walk_at"rd"
  refine rd_ixL (SqL.of hr0) (v:=.ref a0) (atI_nat (j:=0) rfl) ?_
  walk_at"rd"
  refine⟨.inl ⟨rfl,_,SqL.of ha0⟩,?_⟩
  walk_at"rd"
  refine⟨(by show 2≤sizeLine;decide),fun t7 nt7=>?_⟩
  generalize hE:upd HF t7 _=HG
  obtain⟨ht7,sG⟩:=newo nt7 hE
  clear hE
  have ha0G:=sG _ _ ha0
  have es0l:es0.length≤8:=((cl_rows clF w1 w2 (by omega) ez 0).2 es0 (show es0∈(a0::as0).map (rowOf HF) from List.mem_map.mpr ⟨a0,by simp,rowOf_at ha0⟩)).1
  refine⟨a0,_,_,rfl,rfl,ha0G,small1000 (by omega),?_⟩
  generalize hE:upd HG a0 _=HI
  have kI:∀b o,HG b=some o→b≠a0→HI b=some o:=fun b o e n=>by rw[← hE,upd_ne n];exact e
  have sEI:Same HE HI:=fun b o e=>kI _ _ (sG _ _ (sF _ _ e)) (ne_of_none e na0)
  have ktI:∀t xs,HF t=some (.tup xs)→HI t=some (.tup xs):=fun t xs e=>kI _ _ (sG _ _ e) (ne_of e ha0 (by intro z;cases z))
  have sDI:=sE.trans sEI
  clear hE
  have nds:=sy.nd
  have h0:ht≠a0:=fun z=>by
   rw[z]at nds
   exact(List.nodup_cons.mp nds).1 (by simp)
  have hhI:HI ht=some (.lst ((r0::rs).map V.ref)):=kI _ _ (sG _ _ hhF) h0
  have htI:=ktI _ _ htF
  have hZI:=hZ.same sDI
  obtain⟨hz,hyz,⟨cs,hhz,hcs⟩,ezI,_⟩:=id hZI
  walk_at"rd"
  refine rd_slL (SqL.of hhI) fun L1 nL1=>?_
  rw[show(1:Int) =((1:Nat):Int) from rfl,cut_refsF]
  generalize hE:upd HI L1 _=HJ
  obtain⟨hL1,sJ⟩:=newo nL1 hE
  clear hE
  have hyzJ:=sJ _ _ hyz
  have hhzJ:=sJ _ _ hhz
  walk_at"rd"
  refine rd_slL (SqL.of hhzJ) fun L2 nL2=>?_
  rw[cut_refsF]
  generalize hE:upd HJ L2 _=HK
  obtain⟨hL2,sK⟩:=newo nL2 hE
  clear hE
  have sIK:=sJ.trans sK
  have ezK:=ezI.same sIK
  have apK:P1 (R2 (fun _=>True) HK) rs (XA HF bss):=ap.imp fun b rows r=>(r.keep fun x o n e=>sIK _ _ (kI _ _ (sG _ _ e) n)).weak fun _ _=>trivial
  have ex1:EnX HF (XA HF bss):=fun rows hr=>ez rows (by show rows∈(a0::as0).map (rowOf HF)::XA HF bss;exact List.mem_cons_of_mem _ hr)
  have ktK:∀t xs,HF t=some (.tup xs)→HK t=some (.tup xs):=fun t xs e=>sIK _ _ (ktI _ _ e)
  have ex1K:=ex1.keep ktK
  have g1:=R3.gd (K:=K) (S:=fun _=>True) (H:=HK) (h:=L1) (X:=XA HF bss) ⟨rs,sK _ _ hL1,apK⟩ ex1K
  have ezd:EnX HK (Z.drop 1):=fun rows hr=>ezK rows (List.mem_of_mem_drop hr)
  have g2:=R3.gd (K:=K) (S:=fun _=>True) (H:=HK) (h:=L2) (X:=Z.drop 1) ⟨cs.drop 1,hL2,(hcs.drop 1).imp fun b rows r=>r.keep fun x o _ e=>sIK _ _ e⟩ ezd
  have e12:dX HK (XA HF bss)=dX HK (Z.drop 1):=by
   rw[dX_pX ex1K,dX_pX ezd]
   congr 1
   have e1:yD HK (XA HF bss)=yD HF (XA HF bss):=yD_keep ktK ex1
   have e2:yD HK (Z.drop 1) =(yD HK Z).drop 1:=by unfold yD;rw[List.map_drop]
   have e3:yD HK Z=yD HF Z:=by rw[yD_same (sDI.trans sIK) ezD,yD_same sDF ezD]
   have e4:(yD HF (XA HF ((a0::as0)::bss))).drop 1=yD HF (XA HF bss):=rfl
   rw[e1,e2,e3,← eF,e4]
  walk_at"rd"
  refine⟨_,_,g1.1,g2.1,g1.shaped (by omega),g2.shaped (by omega),?_⟩
  rw[e12,g2.refl]
  clear g1 g2 e12 ex1 ex1K apK ap sy hhF hr0 gF gZ gy gk ez sq clF eF ezd hhI htI htF
  have sDK:=sDI.trans sIK
  have hYK:=hY.same sDK
  walk_at"rd"
  refine⟨y,w,R,X,rfl,hYK,w1,w2,R1,Rb,by omega,fun t2 ht2 rs2 bss2 HL htL sy2 ez2 sq2 clL sL=>?_⟩
  rw[yD_same sDK enD]at clL
  have sDL:=sDK.trans sL
  have eL:=cleq sDL clL
  have gL:=yard_pd (K:=K) htL sy2.r3 ez2
  have gZL:=(hZ.same sDL).pd (K:=K)
  rw[eL]at gL
  walk_at"rd"
  refine⟨_,_,gL.1,gZL.1,gL.shaped (by omega),gZL.shaped (by omega),?_⟩
  rw[gZL.refl]
  clear gL gZL eL clL sq2 ez2 sy2 htL
  walk_at"rd"
  refine⟨y,w,R,X,rfl,hY.same sDL,w1,w2,R1,Rb,xl,fun i=>(rok i).same sDL,by omega,fun D ss Zs HM nD hD ezs clM hP sM=>?_⟩
  rw[yD_same sDL enD]at clM
  have sDM:=sDL.trans sM
  have eM:=cleq sDM clM
  have hPM:P1 (StA HM) ss (mendS HM R X Zs):=hP.imp fun s st h=>h.same hid_le
  walk_at"rd"
  refine rd_isi (.lst hD) (b:=true) rfl ?_
  walk_at"rd"
  refine⟨k,yd,w,w,R,R,X,Z,rfl,hK.same ((sEI.trans sIK).trans (sL.trans sM)),hZ.same sDM,zl,Rb,xl,fun i=>(rok i).same sDM,fun i=>(zok i).same sDM,fun D2 ss2 HN hD2 hP2 sN=>?_⟩
  have sDN:=sDM.trans sN
  have ktN:∀t xs,HM t=some (.tup xs)→HN t=some (.tup xs):=fun _ _ e=>sN _ _ e
  have enM:=enD.same sDM
  have ezM:=ezD.same sDM
  have eS:mendS HN R X Zs=mendS HM R X Zs:=by unfold mendS;rw[mendN_keep ktN enM ezs]
  have eS2:mendS HN R X Z=mendS HM R X Z:=by unfold mendS;rw[mendN_keep ktN enM ezM]
  have hPN:P1 (StA HN) ss (mendS HN R X Zs):=by rw[eS];exact hPM.imp fun s st h=>h.same sN
  have hP2N:P1 (StA HN) ss2 (mendS HN R X Z):=by rw[eS2];exact hP2
  have eN:yD HN Zs=yD HN Z:=by rw[yD_same sN ezs,yD_same sN ezM,eM]
  have gs:=steps_gd (K:=K) (sN _ _ hD) hPN
  have gs2:=steps_gd (K:=K) hD2 hP2N
  walk_at"rd"
  refine⟨_,_,gs.1,gs2.1,gs.shaped (by omega),gs2.shaped (by omega),?_⟩
  rw[mendS_data eN (ezs.same sN) (ezM.same sN),gs2.refl]
  have hYN:=hY.same sDN
  have hKN:=hK.same ((sEI.trans sIK).trans ((sL.trans sM).trans sN))
  have gy:=hYN.gd (K:=K)
  have gk:=hKN.gd (K:=K)
  walk_at"rd"
  refine⟨_,_,gy.1,gk.1,gy.shaped (by omega),gk.shaped (by omega),?_⟩
  rw[gy.refl]
  walk_at"rd"
  refine⟨y,D,w,R,X,ss,_,rfl,hYN,sN _ _ hD,hPN,fun y' h' bs' HO2 hy' t' sO=>?_⟩
  rw[mendS_R]at hy'
  have sDO:=sDN.trans sO
  have ezsN:=ezs.same sN
  have clN:IsCl w R (stand R (yD HD X)) (yD HN Zs):=by rw[eN,yD_same sDN ezD];exact cl
  have fin:=mend_fin (X:=X) clN tx
  have enF:EnX HN ((mendS HN R X Zs).foldl doX X):=by
   have:=stX_enA (enD.same sDN) hPN
   exact this
  have gO:=yard_pd (K:=K) hy' t'.r3 (enF.same sO)
  have eO:yD HO2 ((mendS HN R X Zs).foldl doX X)=yD HO2 Z:=by
   rw[yD_same sO enF,yD_same sO (ezD.same sDN)]
   exact cleq sDN fin
  rw[eO]at gO
  have gZO:=(hZ.same sDO).pd (K:=K)
  walk_at"rd"
  refine⟨y',yd,h',w,R,_,rfl,hy',gO,gZO,?_⟩
  walk_at"rd"
  cases ch with
  | false =>
   walk_at"rd"
   exact⟨⟨_,_,_,_,_,_,_,_,rfl⟩,sm.trans (s1D.trans sDO)⟩
  | true =>
   obtain⟨ec,xr⟩:=hch rfl
   have en0:mendS HN R X Zs=[]:=mendS_none (by rw[eN,yD_same sDN enD,yD_same sDN ezD];exact ec) xr
   rw[en0]at hPN
   have ss0:ss=[]:=List.eq_nil_of_length_eq_zero hPN.1
   subst ss0
   have hDO:=sO _ _ (sN _ _ hD)
   walk_at"rd"
   refine⟨by decide,fun d0 nd0=>?_⟩
   generalize hE:upd HO2 d0 _=HP
   obtain⟨hd0,sP⟩:=newo nd0 hE
   clear hE
   walk_at"rd"
   refine⟨_,_,dv_nil (sP _ _ hDO),dv_nil hd0,rfl,rfl,?_⟩
   rw[show PyData.eqv (.list []) (.list [])=true from rfl]
   walk_at"rd"
   exact⟨⟨_,_,_,_,_,_,_,_,rfl⟩,sm.trans ((s1D.trans sDO).trans sP)⟩
 ·rintro σ H' ⟨⟨y1,y2,y3,y4,y5,y6,y7,y8,rfl⟩,s1⟩
  walk_at"rd"
  exact q _
end
theorem all_mk {l:PySem.W.OpenLaw}{w:World}{K:PySem.W.Frag}{h:Heap}{mg:Str→Option Value}{fa:Addr}(X:K.In h) (G:h.Ns mainGlobals mg) (hfa:mg "law" = some (.ref fa))
  (g0:Ga K "last_bits" s_last_bits)
  (g1:Ga K "level" s_level)
  (g2:Ga K "turn" s_turn)
  (g3:Ga K "bits_for" s_bits_for)
  (g4:Ga K "room_of" s_room_of)
  (g5:Ga K "rows_for" s_rows_for)
  (g6:Ga K "cut_rows" s_cut_rows)
  (g7:Ga K "spread" s_spread)
  (g8:Ga K "yard_of" s_yard_of)
  (g9:Ga K "entries_in" s_entries_in)
  (g10:Ga K "rows_at" s_rows_at)
  (g11:Ga K "done_all" s_done_all)
  (g12:Ga K "lay_row" s_lay_row)
  (g13:Ga K "cut_room" s_cut_room)
  (g14:Ga K "leave_last_rooms" s_leave_last_rooms)
  (g15:Ga K "unlike_rows" s_unlike_rows)
  (g16:Ga K "onward" s_onward)
  (g17:Ga K "mended" s_mended)
  (g18:Ga K "mending" s_mending)
  (g19:Ga K "_law_open" s__law_open)
  (g20:Ga K "_law_draw" s__law_draw)
  (g21:Ga K "_law_far" s__law_far)
  (g22:Ga K "_law_power" s__law_power)
  (g23:Ga K "_law_key" s__law_key)
  (g24:Ga K "_law_thing" s__law_thing)
  (g25:Ga K "_law_whole" s__law_whole)
  (g26:Ga K "_law_room" s__law_room)
  (g27:Ga K "_law_cut" s__law_cut)
  (g28:Ga K "_law_clean" s__law_clean)
  (g29:Ga K "_law_copy" s__law_copy)
  (g30:Ga K "_law_is_yard" s__law_is_yard)
  (g31:Ga K "_law_onward" s__law_onward)
  (g32:Ga K "_law_places" s__law_places)
  (g33:Ga K "_law_row" s__law_row)
  (g34:Ga K "_law_drawn" s__law_drawn)
  (g35:Ga K "_law_standing" s__law_standing)
  (g36:Ga K "_law_steps_due" s__law_steps_due)
  {f37:Addr}{od37 an37:Option Addr}{sl37:Array (Option Value)}{oc37 kV37 dc37 pm37 cd37 ct37:Value}(a37:PySem.W.nsIn K mainGlobals "law" = some (some (.ref f37))) (l37:K.lookup f37=some ⟨oc37,od37,.func (PySem.W.fnOf "law" "law" (defArgs s_law) (defBody s_law) (defScope s_law) .none kV37 dc37 pm37 an37 cd37 ct37),sl37⟩) (c37:PySem.W.codeIn K cd37 "law" = true) (k37:PySem.W.keepIn K (.ref f37)=true)
  (z_max:PySem.W.nsIn K mainGlobals "max" = some none)
  (z_range:PySem.W.nsIn K mainGlobals "range" = some none)
  (z_len:PySem.W.nsIn K mainGlobals "len" = some none)
  (z_sorted:PySem.W.nsIn K mainGlobals "sorted" = some none)
  (z_dict:PySem.W.nsIn K mainGlobals "dict" = some none)
  (z_list:PySem.W.nsIn K mainGlobals "list" = some none)
  (z_enumerate:PySem.W.nsIn K mainGlobals "enumerate" = some none)
  (z_abs:PySem.W.nsIn K mainGlobals "abs" = some none)
  (z_isinstance:PySem.W.nsIn K mainGlobals "isinstance" = some none)
  (z_int:PySem.W.nsIn K mainGlobals "int" = some none)
  (z_bool:PySem.W.nsIn K mainGlobals "bool" = some none)
  (z_tuple:PySem.W.nsIn K mainGlobals "tuple" = some none)
  (z_min:PySem.W.nsIn K mainGlobals "min" = some none)
  : ∃fd:FuncData,(∀(s:Shared) (v:Value),BindsTo s fd ⟨[v],[]⟩ [("_law_script",v)])∧∀base:Heap,K.In base→base.Ns mainGlobals mg→FnOk l.prog w K mg base CX0 9 fa fd ["_law_script"] (sp_law K):=by
 have e:=hfa.symm.trans (PySem.W.mg_of X G a37)
 cases e
 have T:Bl mg:=⟨PySem.W.mg_none_of X G z_max,PySem.W.mg_none_of X G z_range,PySem.W.mg_none_of X G z_len,PySem.W.mg_none_of X G z_sorted,PySem.W.mg_none_of X G z_dict,PySem.W.mg_none_of X G z_list,PySem.W.mg_none_of X G z_enumerate,PySem.W.mg_none_of X G z_abs,PySem.W.mg_none_of X G z_isinstance,PySem.W.mg_none_of X G z_int,PySem.W.mg_none_of X G z_bool,PySem.W.mg_none_of X G z_tuple,PySem.W.mg_none_of X G z_min⟩
 refine⟨PySem.W.fnOf "law" "law" (defArgs s_law) (defBody s_law) (defScope s_law) .none kV37 dc37 pm37 an37 cd37 ct37,fun s v=>.of_eq rfl,fun base _ _=>?_⟩
 have C_last_bits:=g0.elim fun f a fd F=>ok_last_bits (P:=l.prog) (w:=w) (base:=base) F (PySem.W.mg_of X G a) (F.binds (ps:=["key", "many"]) fun _ _ _ _ _ _ us hl=>match us,hl with | [_,_],_=>rfl) T
 have C_level:=g1.elim fun f a fd F=>ok_level (P:=l.prog) (w:=w) (base:=base) F (PySem.W.mg_of X G a) (F.binds (ps:=["rooms"]) fun _ _ _ _ _ _ us hl=>match us,hl with | [_],_=>rfl) T
 have C_rows_for:=g5.elim fun f a fd F=>ok_rows_for (P:=l.prog) (w:=w) (base:=base) F (PySem.W.mg_of X G a) (F.binds (ps:=["many", "wide"]) fun _ _ _ _ _ _ us hl=>match us,hl with | [_,_],_=>rfl) T
 have C_entries_in:=g9.elim fun f a fd F=>ok_entries_in (P:=l.prog) (w:=w) (base:=base) F (PySem.W.mg_of X G a) (F.binds (ps:=["rows"]) fun _ _ _ _ _ _ us hl=>match us,hl with | [_],_=>rfl) T
 have C_rows_at:=g10.elim fun f a fd F=>ok_rows_at (P:=l.prog) (w:=w) (base:=base) F (PySem.W.mg_of X G a) (F.binds (ps:=["held", "room"]) fun _ _ _ _ _ _ us hl=>match us,hl with | [_,_],_=>rfl) T
 have C_lay_row:=g12.elim fun f a fd F=>ok_lay_row (P:=l.prog) (w:=w) (base:=base) F (PySem.W.mg_of X G a) (F.binds (ps:=["held", "room", "at", "row"]) fun _ _ _ _ _ _ us hl=>match us,hl with | [_,_,_,_],_=>rfl) T
 have C_cut_room:=g13.elim fun f a fd F=>ok_cut_room (P:=l.prog) (w:=w) (base:=base) F (PySem.W.mg_of X G a) (F.binds (ps:=["held", "room", "many"]) fun _ _ _ _ _ _ us hl=>match us,hl with | [_,_,_],_=>rfl) T
 have C_leave_last_rooms:=g14.elim fun f a fd F=>ok_leave_last_rooms (P:=l.prog) (w:=w) (base:=base) F (PySem.W.mg_of X G a) (F.binds (ps:=["held"]) fun _ _ _ _ _ _ us hl=>match us,hl with | [_],_=>rfl) T
 have C_unlike_rows:=g15.elim fun f a fd F=>ok_unlike_rows (P:=l.prog) (w:=w) (base:=base) F (PySem.W.mg_of X G a) (F.binds (ps:=["room", "old", "new"]) fun _ _ _ _ _ _ us hl=>match us,hl with | [_,_,_],_=>rfl) T
 have C__law_open:=g19.elim fun f a fd F=>ok__law_open (P:=l.prog) (w:=w) (base:=base) F (PySem.W.mg_of X G a) (F.binds (ps:=["_law_script", "_law_place"]) fun _ _ _ _ _ _ us hl=>match us,hl with | [_,_],_=>rfl) T
 have C__law_draw:=g20.elim fun f a fd F=>ok__law_draw (P:=l.prog) (w:=w) (base:=base) F (PySem.W.mg_of X G a) (F.binds (ps:=["_law_hand", "_law_many"]) fun _ _ _ _ _ _ us hl=>match us,hl with | [_,_],_=>rfl) T
 have C__law_power:=g22.elim fun f a fd F=>ok__law_power (P:=l.prog) (w:=w) (base:=base) F (PySem.W.mg_of X G a) (F.binds (ps:=["_law_many"]) fun _ _ _ _ _ _ us hl=>match us,hl with | [_],_=>rfl) T
 have C__law_whole:=g25.elim fun f a fd F=>ok__law_whole (P:=l.prog) (w:=w) (base:=base) F (PySem.W.mg_of X G a) (F.binds (ps:=["_law_got"]) fun _ _ _ _ _ _ us hl=>match us,hl with | [_],_=>rfl) T
 have C__law_room:=g26.elim fun f a fd F=>ok__law_room (P:=l.prog) (w:=w) (base:=base) F (PySem.W.mg_of X G a) (F.binds (ps:=["_law_key_here", "_law_rooms"]) fun _ _ _ _ _ _ us hl=>match us,hl with | [_,_],_=>rfl) T
 have C__law_cut:=g27.elim fun f a fd F=>ok__law_cut (P:=l.prog) (w:=w) (base:=base) F (PySem.W.mg_of X G a) (F.binds (ps:=["_law_wide", "_law_entries"]) fun _ _ _ _ _ _ us hl=>match us,hl with | [_,_],_=>rfl) T
 have C__law_copy:=g29.elim fun f a fd F=>ok__law_copy (P:=l.prog) (w:=w) (base:=base) F (PySem.W.mg_of X G a) (F.binds (ps:=["_law_yard"]) fun _ _ _ _ _ _ us hl=>match us,hl with | [_],_=>rfl) T
 have C__law_onward:=g31.elim fun f a fd F=>ok__law_onward (P:=l.prog) (w:=w) (base:=base) F (PySem.W.mg_of X G a) (F.binds (ps:=["_law_room_here", "_law_rows", "_law_now"]) fun _ _ _ _ _ _ us hl=>match us,hl with | [_,_,_],_=>rfl) T
 have C__law_places:=g32.elim fun f a fd F=>ok__law_places (P:=l.prog) (w:=w) (base:=base) F (PySem.W.mg_of X G a) (F.binds (ps:=["_law_script", "_law_least", "_law_most"]) fun _ _ _ _ _ _ us hl=>match us,hl with | [_,_,_],_=>rfl) T
 have C_turn:=g2.elim fun f a fd F=>ok_turn (P:=l.prog) (w:=w) (base:=base) F (PySem.W.mg_of X G a) (F.binds (ps:=["rooms"]) fun _ _ _ _ _ _ us hl=>match us,hl with | [_],_=>rfl) T C_level
 have C_cut_rows:=g6.elim fun f a fd F=>ok_cut_rows (P:=l.prog) (w:=w) (base:=base) F (PySem.W.mg_of X G a) (F.binds (ps:=["things", "wide"]) fun _ _ _ _ _ _ us hl=>match us,hl with | [_,_],_=>rfl) T C_rows_for
 have C_done_all:=g11.elim fun f a fd F=>ok_done_all (P:=l.prog) (w:=w) (base:=base) F (PySem.W.mg_of X G a) (F.binds (ps:=["yard", "steps"]) fun _ _ _ _ _ _ us hl=>match us,hl with | [_,_],_=>rfl) T C_leave_last_rooms C_lay_row C_cut_room
 have C_onward:=g16.elim fun f a fd F=>ok_onward (P:=l.prog) (w:=w) (base:=base) F (PySem.W.mg_of X G a) (F.binds (ps:=["room", "old", "new"]) fun _ _ _ _ _ _ us hl=>match us,hl with | [_,_,_],_=>rfl) T C_unlike_rows
 have C__law_far:=g21.elim fun f a fd F=>ok__law_far (P:=l.prog) (w:=w) (base:=base) F (PySem.W.mg_of X G a) (F.binds (ps:=["_law_hand", "_law_many"]) fun _ _ _ _ _ _ us hl=>match us,hl with | [_,_],_=>rfl) T C__law_draw
 have C__law_thing:=g24.elim fun f a fd F=>ok__law_thing (P:=l.prog) (w:=w) (base:=base) F (PySem.W.mg_of X G a) (F.binds (ps:=["_law_hand"]) fun _ _ _ _ _ _ us hl=>match us,hl with | [_],_=>rfl) T C__law_draw
 have C__law_clean:=g28.elim fun f a fd F=>ok__law_clean (P:=l.prog) (w:=w) (base:=base) F (PySem.W.mg_of X G a) (F.binds (ps:=["_law_wide", "_law_rooms", "_law_entries"]) fun _ _ _ _ _ _ us hl=>match us,hl with | [_,_,_],_=>rfl) T C__law_cut C__law_room
 have C__law_is_yard:=g30.elim fun f a fd F=>ok__law_is_yard (P:=l.prog) (w:=w) (base:=base) F (PySem.W.mg_of X G a) (F.binds (ps:=["_law_got", "_law_due"]) fun _ _ _ _ _ _ us hl=>match us,hl with | [_,_],_=>rfl) T C__law_whole
 have C__law_standing:=g35.elim fun f a fd F=>ok__law_standing (P:=l.prog) (w:=w) (base:=base) F (PySem.W.mg_of X G a) (F.binds (ps:=["_law_yard"]) fun _ _ _ _ _ _ us hl=>match us,hl with | [_],_=>rfl) T C__law_room
 have C__law_steps_due:=g36.elim fun f a fd F=>ok__law_steps_due (P:=l.prog) (w:=w) (base:=base) F (PySem.W.mg_of X G a) (F.binds (ps:=["_law_yard", "_law_due"]) fun _ _ _ _ _ _ us hl=>match us,hl with | [_,_],_=>rfl) T C__law_onward
 have C_bits_for:=g3.elim fun f a fd F=>ok_bits_for (P:=l.prog) (w:=w) (base:=base) F (PySem.W.mg_of X G a) (F.binds (ps:=["room", "rooms"]) fun _ _ _ _ _ _ us hl=>match us,hl with | [_,_],_=>rfl) T C_level C_turn
 have C__law_key:=g23.elim fun f a fd F=>ok__law_key (P:=l.prog) (w:=w) (base:=base) F (PySem.W.mg_of X G a) (F.binds (ps:=["_law_hand"]) fun _ _ _ _ _ _ us hl=>match us,hl with | [_],_=>rfl) T C__law_draw C__law_far C__law_power
 have C__law_row:=g33.elim fun f a fd F=>ok__law_row (P:=l.prog) (w:=w) (base:=base) F (PySem.W.mg_of X G a) (F.binds (ps:=["_law_hand", "_law_keys", "_law_room_here"]) fun _ _ _ _ _ _ us hl=>match us,hl with | [_,_,_],_=>rfl) T C__law_draw C__law_thing
 have C_room_of:=g4.elim fun f a fd F=>ok_room_of (P:=l.prog) (w:=w) (base:=base) F (PySem.W.mg_of X G a) (F.binds (ps:=["key", "rooms"]) fun _ _ _ _ _ _ us hl=>match us,hl with | [_,_],_=>rfl) T C_last_bits C_bits_for C_level
 have C__law_drawn:=g34.elim fun f a fd F=>ok__law_drawn (P:=l.prog) (w:=w) (base:=base) F (PySem.W.mg_of X G a) (F.binds (ps:=["_law_hand"]) fun _ _ _ _ _ _ us hl=>match us,hl with | [_],_=>rfl) T C__law_draw C__law_key C__law_row
 have C_spread:=g7.elim fun f a fd F=>ok_spread (P:=l.prog) (w:=w) (base:=base) F (PySem.W.mg_of X G a) (F.binds (ps:=["keys", "rooms"]) fun _ _ _ _ _ _ us hl=>match us,hl with | [_,_],_=>rfl) T C_room_of
 have C_yard_of:=g8.elim fun f a fd F=>ok_yard_of (P:=l.prog) (w:=w) (base:=base) F (PySem.W.mg_of X G a) (F.binds (ps:=["wide", "rooms", "entries"]) fun _ _ _ _ _ _ us hl=>match us,hl with | [_,_,_],_=>rfl) T C_spread C_cut_rows
 have C_mended:=g17.elim fun f a fd F=>ok_mended (P:=l.prog) (w:=w) (base:=base) F (PySem.W.mg_of X G a) (F.binds (ps:=["yard"]) fun _ _ _ _ _ _ us hl=>match us,hl with | [_],_=>rfl) T C_yard_of C_entries_in C_room_of
 have C_mending:=g18.elim fun f a fd F=>ok_mending (P:=l.prog) (w:=w) (base:=base) F (PySem.W.mg_of X G a) (F.binds (ps:=["yard"]) fun _ _ _ _ _ _ us hl=>match us,hl with | [_],_=>rfl) T C_onward C_mended C_rows_at
 exact ok_law (fun_mk (st:=s_law) l37 c37 k37) T C__law_places C__law_open C__law_drawn C__law_clean C__law_copy C_mended C_mending C__law_draw C__law_standing C__law_is_yard C__law_steps_due C_done_all
theorem walk {l:PySem.W.OpenLaw}{q:Program}{loose:List Str}{XP:(Str→Option Value)→Heap→Prop}{YP:World→Heap→Prop}{d:DefRec}{K:Params→PySem.W.Frag}(hn:l.most=some 63) (hdf:d.params.defaults=[])
  (hY:∀(w:World) (h:Heap),YP w h→(K w.params).In h)
  (F:∀(w:World) (mg:Str→Option Value) (fa:Addr) (h:Heap),(K w.params).In h→h.Ns mainGlobals mg→mg d.name=some (.ref fa) →
   ∃fd:FuncData,(∀(s:Shared) (u:Value),BindsTo s fd ⟨[u],[]⟩ [("_law_script",u)])∧∀base:Heap,(K w.params).In base→base.Ns mainGlobals mg→FnOk l.prog w (K w.params) mg base CX0 9 fa fd ["_law_script"] (sp_law (K w.params))) :
  PySem.W.WalkO q loose XP YP l.row.toRowW d [] (fun f vs=>PySem.call f vs) :=
 L2.walk_of (n:=63) (k:=9) (x := "_law_script") (CX:=fun _=>CX0) (sp:=fun w=>sp_law (K w.params)) hn (by decide) hdf ⟨rfl,by decide,by decide,rfl⟩ hY F (fun _ _ a ns hl _ hS=>⟨a,ns,rfl,hS,hl,fun _=>rfl⟩) fun _ _ _ _ _ z=>z
end Law
namespace HD
open PySem PySem.W PySem.PyData
noncomputable def pB:List Stmt:=PySem.Challenge.pw_tailrooms_k47_mended_and_mending.main.body
noncomputable def nS:List Stmt→Nat→Stmt
 | s::_,0=>s
 | _::r,n+1=>nS r n
 | [],_=>.Pass ⟨0,0,0,0⟩
noncomputable def bS:Stmt→List Stmt
 | .FunctionDef _ _ b ..=>b
 | .ClassDef _ _ _ b ..=>b
 | _=>[]
noncomputable def aS:Stmt→Arguments
 | .FunctionDef _ a ..=>a
 | _=>⟨[],[],none,[],[],none,[]⟩
noncomputable def sS:Stmt→Scope
 | .FunctionDef _ _ _ _ _ _ s ..=>s
 | _=>⟨.function,[],false,false,[]⟩
noncomputable def f (i:Nat):Stmt:=nS pB i
noncomputable def m (i j:Nat):Stmt:=nS (bS (f i)) j
abbrev O:=Params→Obj
noncomputable def E (P:Params) (x:Str) (n:Nat) (v:Value):DictEntry:=⟨keyHash P x,.str x n,v⟩
abbrev B:=Params→BT
noncomputable def n (o:O) (l r:B):B:=fun P=>.node (o P) (l P) (r P)
noncomputable def w (o:O):B:=fun P=>.node (o P) .nil .nil
noncomputable def u:B:=fun _=>.nil
noncomputable def c0 (P:Params) (r:List DictEntry):List DictEntry:=(E P "__name__" 165 (.str "law_tailrooms_k47_mended_and_mending" 348))::(E P "__doc__" 166 .none)::(E P "__package__" 167 .none)::(E P "__loader__" 168 (.builtin "__main__.__loader__#opaque"))::(E P "__spec__" 169 .none)::(E P "__annotations__" 170 (.ref 6))::(E P "__builtins__" 171 (.ref 4))::(E P "__file__" 173 (.str "/claim/cut.py" 172))::r
noncomputable def c1 (P:Params) (r:List DictEntry):List DictEntry:=(E P "__cached__" 174 .none)::(E P "last_bits" 196 (.ref 21))::(E P "level" 203 (.ref 28))::(E P "turn" 210 (.ref 35))::(E P "bits_for" 219 (.ref 42))::(E P "room_of" 227 (.ref 49))::(E P "rows_for" 237 (.ref 56))::(E P "cut_rows" 243 (.ref 61))::r
noncomputable def c2 (P:Params) (r:List DictEntry):List DictEntry:=(E P "spread" 251 (.ref 66))::(E P "yard_of" 259 (.ref 71))::(E P "entries_in" 265 (.ref 76))::(E P "rows_at" 273 (.ref 83))::(E P "done_all" 279 (.ref 88))::(E P "lay_row" 290 (.ref 95))::(E P "cut_room" 299 (.ref 102))::(E P "leave_last_rooms" 306 (.ref 109))::r
noncomputable def c3 (P:Params) (r:List DictEntry):List DictEntry:=(E P "unlike_rows" 314 (.ref 114))::(E P "onward" 324 (.ref 121))::(E P "mended" 341 (.ref 128))::(E P "mending" 347 (.ref 133))::(E P "_law_open" 355 (.ref 138))::(E P "_law_draw" 366 (.ref 145))::(E P "_law_far" 376 (.ref 152))::(E P "_law_power" 385 (.ref 159))::r
noncomputable def c4 (P:Params) (r:List DictEntry):List DictEntry:=(E P "_law_key" 394 (.ref 166))::(E P "_law_thing" 400 (.ref 171))::(E P "_law_whole" 407 (.ref 178))::(E P "_law_room" 417 (.ref 185))::(E P "_law_cut" 427 (.ref 192))::(E P "_law_clean" 433 (.ref 197))::(E P "_law_copy" 439 (.ref 202))::(E P "_law_is_yard" 447 (.ref 209))::r
noncomputable def c5 (P:Params) (r:List DictEntry):List DictEntry:=(E P "_law_onward" 459 (.ref 216))::(E P "_law_places" 468 (.ref 223))::(E P "_law_row" 481 (.ref 230))::(E P "_law_drawn" 487 (.ref 235))::(E P "_law_standing" 502 (.ref 242))::(E P "_law_steps_due" 508 (.ref 247))::r
noncomputable def c6 (P:Params) (r:List Value):List Value:=(.int 2 0)::(.int 0 0)::(.ref 20)::(.int 4 0)::(.int 0 0)::(.ref 27)::(.int 6 0)::(.int 0 0)::(.ref 34)::(.int 8 0)::(.int 0 0)::(.ref 41)::(.int 13 0)::(.int 0 0)::(.ref 48)::(.int 16 0)::(.int 0 0)::(.ref 55)::r
noncomputable def c7 (P:Params) (r:List Value):List Value:=(.int 18 0)::(.int 0 0)::(.ref 60)::(.int 21 0)::(.int 0 0)::(.ref 65)::(.int 27 0)::(.int 0 0)::(.ref 70)::(.int 31 0)::(.int 0 0)::(.ref 75)::(.int 33 0)::(.int 0 0)::(.ref 82)::(.int 35 0)::(.int 0 0)::(.ref 87)::r
noncomputable def c8 (P:Params) (r:List Value):List Value:=(.int 47 0)::(.int 0 0)::(.ref 94)::(.int 54 0)::(.int 0 0)::(.ref 101)::(.int 57 0)::(.int 0 0)::(.ref 108)::(.int 61 0)::(.int 0 0)::(.ref 113)::(.int 63 0)::(.int 0 0)::(.ref 120)::(.int 69 0)::(.int 0 0)::(.ref 127)::r
noncomputable def c9 (P:Params) (r:List Value):List Value:=(.int 77 0)::(.int 0 0)::(.ref 132)::(.int 85 0)::(.int 0 0)::(.ref 137)::(.int 94 0)::(.int 0 0)::(.ref 144)::(.int 105 0)::(.int 0 0)::(.ref 151)::(.int 112 0)::(.int 0 0)::(.ref 158)::(.int 117 0)::(.int 0 0)::(.ref 165)::r
noncomputable def c10 (P:Params) (r:List Value):List Value:=(.int 129 0)::(.int 0 0)::(.ref 170)::(.int 132 0)::(.int 0 0)::(.ref 177)::(.int 134 0)::(.int 0 0)::(.ref 184)::(.int 143 0)::(.int 0 0)::(.ref 191)::(.int 150 0)::(.int 0 0)::(.ref 196)::(.int 155 0)::(.int 0 0)::(.ref 201)::r
noncomputable def c11 (P:Params) (r:List Value):List Value:=(.int 157 0)::(.int 0 0)::(.ref 208)::(.int 161 0)::(.int 0 0)::(.ref 215)::(.int 169 0)::(.int 0 0)::(.ref 222)::(.int 171 0)::(.int 0 0)::(.ref 229)::(.int 180 0)::(.int 0 0)::(.ref 234)::(.int 193 0)::(.int 0 0)::(.ref 241)::r
noncomputable def c12 (P:Params) (r:List Value):List Value:=(.int 202 0)::(.int 0 0)::(.ref 246)::r
noncomputable def c13 (P:Params) (r:List DictEntry):List DictEntry:=(E P "_law_key" 394 (.ref 166))::r
noncomputable def c14 (P:Params) (r:List DictEntry):List DictEntry:=(E P "_law_onward" 459 (.ref 216))::(E P "_law_places" 468 (.ref 223))::(E P "_law_row" 481 (.ref 230))::(E P "_law_drawn" 487 (.ref 235))::(E P "_law_standing" 502 (.ref 242))::(E P "_law_steps_due" 508 (.ref 247))::(E P "law" 523 (.ref 254))::r
noncomputable def c15 (P:Params) (r:List Value):List Value:=(.int 202 0)::(.int 0 0)::(.ref 246)::(.int 209 0)::(.int 0 0)::(.ref 253)::r
noncomputable def t16 (a0:Str) (a1:Stmt) (P:Params):Obj:=⟨.none,none,(.func ⟨a0,a0,(aS a1),(.stmts (bS a1)),(sS a1),0,[],.none,.none,.none,.none,none,.none,.none,0⟩),#[]⟩
noncomputable def t17 (a0:Str) (a1:Stmt) (a2:Str) (a3:Nat) (a4:Nat) (P:Params):Obj:=⟨(.type "function"),none,(.func ⟨a0,a0,(aS a1),(.stmts (bS a1)),(sS a1),3,[],.none,.none,.none,(.str a2 a3),none,(.ref a4),.none,0⟩),#[]⟩
noncomputable def t18 (a0:Str) (a1:Nat) (a2:Str) (a3:Str) (a4:Str) (a5:Str) (a6:Str) (a7:Str) (a8:Str) (a9:Str) (P:Params):Obj:=⟨(.type "tuple"),none,(.seq #[(.str a0 a1),(.str a2 (a1+1)),(.str a3 (a1+2)),(.str a4 (a1+3)),(.str a5 (a1+4)),(.str a6 (a1+5)),(.str a7 (a1+6)),(.str a8 (a1+7)),(.str a9 (a1+8))] 0),#[]⟩
noncomputable def t19 (a0:Str) (a1:Nat) (a2:Str) (a3:Str) (a4:Str) (P:Params):Obj:=⟨(.type "tuple"),none,(.seq #[(.str a0 a1),(.str a2 (a1+1)),(.str a3 (a1+2)),(.str a4 (a1+3))] 0),#[]⟩
noncomputable def t20 (a0:Str) (a1:Nat) (a2:Int) (a3:Int) (a4:Nat) (a5:Int) (a6:Nat) (P:Params):Obj:=⟨(.type "code"),none,(.fields #[(.str a0 a1),(.str a0 (a1+1)),(.str "/claim/cut.py" (a1+2)),(.int a2 0),(.int a3 0),(.int 0 0),(.int 0 0),(.int 3 0),(.ref a4),(.bool .true),(.int 181 0),(.ref (a4+1)),.none,(.ref (a4+2)),(.ref (a4+3)),(.ref (a4+4)),(.int a5 0),(.int a2 0),(.str "/claim/cut.py" a6)]),#[]⟩
noncomputable def t21 (a0:Str) (a1:Nat) (a2:Int) (a3:Int) (a4:Nat) (a5:Int) (P:Params):Obj:=⟨(.type "code"),none,(.fields #[(.str a0 a1),(.str a0 (a1+1)),(.str "/claim/cut.py" (a1+2)),(.int a2 0),(.int a3 0),(.int 0 0),(.int 0 0),(.int 3 0),(.ref a4),(.bool .true),(.int 181 0),(.ref (a4+1)),.none,.none,.none,(.ref (a4+2)),(.int a5 0),(.int a2 0),(.str "/claim/cut.py" (a1+4))]),#[]⟩
noncomputable def t22 (a0:Str) (a1:Nat) (a2:Str) (a3:Str) (P:Params):Obj:=⟨(.type "tuple"),none,(.seq #[(.str a0 a1),(.str a2 (a1+1)),(.str a3 (a1+2))] 0),#[]⟩
noncomputable def t23 (a0:Str) (a1:Nat) (P:Params):Obj:=⟨(.type "tuple"),none,(.seq #[(.str a0 a1)] 0),#[]⟩
noncomputable def t24 (a0:Str) (a1:Nat) (a2:Str) (P:Params):Obj:=⟨(.type "tuple"),none,(.seq #[(.str a0 a1),(.str a2 (a1+1))] 0),#[]⟩
noncomputable def o0:O:=fun P=>⟨(.type "dict"),none,(.dict (c0 P (c1 P (c2 P (c3 P (c4 P (c5 P [])))))).toArray 46),#[]⟩
noncomputable def o1:O:=fun P=>⟨(.type "tuple"),none,(.seq #[] 0),#[]⟩
noncomputable def o2:O:=fun P=>⟨.none,none,(.fields (c6 P (c7 P (c8 P (c9 P (c10 P (c11 P (c12 P []))))))).toArray),#[]⟩
noncomputable def o3:O:=fun P=>⟨(.type "code"),none,(.fields #[(.str "<module>" 182),(.str "<module>" 183),(.str "/claim/cut.py" 184),(.int 1 0),(.int 0 0),(.int 0 0),(.int 0 0),(.int 0 0),(.ref 11),(.bool .false),(.int 181 0),(.ref 12),.none,.none,.none,.none,(.int 185 0),(.int 1 0),(.str "/claim/cut.py" 186)]),#[]⟩
noncomputable def o4:O:=fun P=>⟨(.type "frame"),none,.plain,#[(some (.ref 13)),(some (.ref 3)),(some (.ref 3)),none,(some (.str "__main__" 164)),none,(some (.ref 0))]⟩
noncomputable def o5:O:=fun P=>⟨.none,none,(.fields #[]),#[]⟩
noncomputable def o6:O:=t24 "key" 192 "many"
noncomputable def o7:O:=t16 "last_bits" (f 1)
noncomputable def o8:O:=t20 "last_bits" 189 2 2 15 194 195
noncomputable def o9:O:=t17 "last_bits" (f 1) "tailrooms.bits" 187 20
noncomputable def o10:O:=t23 "rooms" 200
noncomputable def o11:O:=t16 "level" (f 2)
noncomputable def o12:O:=t20 "level" 197 4 1 22 201 202
noncomputable def o13:O:=t17 "level" (f 2) "tailrooms.bits" 187 27
noncomputable def o14:O:=t23 "rooms" 207
noncomputable def o15:O:=t16 "turn" (f 3)
noncomputable def o16:O:=t20 "turn" 204 6 1 29 208 209
noncomputable def o17:O:=t17 "turn" (f 3) "tailrooms.bits" 187 34
noncomputable def o18:O:=t22 "room" 214 "rooms" "deep"
noncomputable def o19:O:=t16 "bits_for" (f 4)
noncomputable def o20:O:=t20 "bits_for" 211 8 2 36 217 218
noncomputable def o21:O:=t17 "bits_for" (f 4) "tailrooms.bits" 187 41
noncomputable def o22:O:=t24 "key" 223 "rooms"
noncomputable def o23:O:=t16 "room_of" (f 5)
noncomputable def o24:O:=t20 "room_of" 220 13 2 43 225 226
noncomputable def o25:O:=t17 "room_of" (f 5) "tailrooms.bits" 187 48
noncomputable def o26:O:=t24 "many" 233 "wide"
noncomputable def o27:O:=t16 "rows_for" (f 7)
noncomputable def o28:O:=t20 "rows_for" 230 16 2 50 235 236
noncomputable def o29:O:=t17 "rows_for" (f 7) "tailrooms.rows" 228 55
noncomputable def o30:O:=t16 "cut_rows" (f 8)
noncomputable def o31:O:=t21 "cut_rows" 238 18 2 57 241
noncomputable def o32:O:=t17 "cut_rows" (f 8) "tailrooms.rows" 228 60
noncomputable def o33:O:=t16 "spread" (f 10)
noncomputable def o34:O:=t21 "spread" 246 21 2 62 249
noncomputable def o35:O:=t17 "spread" (f 10) "tailrooms.spread" 244 65
noncomputable def o36:O:=t16 "yard_of" (f 12)
noncomputable def o37:O:=t21 "yard_of" 254 27 3 67 257
noncomputable def o38:O:=t17 "yard_of" (f 12) "tailrooms.yards" 252 70
noncomputable def o39:O:=t16 "entries_in" (f 13)
noncomputable def o40:O:=t21 "entries_in" 260 31 1 72 263
noncomputable def o41:O:=t17 "entries_in" (f 13) "tailrooms.yards" 252 75
noncomputable def o42:O:=t24 "held" 269 "room"
noncomputable def o43:O:=t16 "rows_at" (f 14)
noncomputable def o44:O:=t20 "rows_at" 266 33 2 77 271 272
noncomputable def o45:O:=t17 "rows_at" (f 14) "tailrooms.yards" 252 82
noncomputable def o46:O:=t16 "done_all" (f 15)
noncomputable def o47:O:=t21 "done_all" 274 35 2 84 277
noncomputable def o48:O:=t17 "done_all" (f 15) "tailrooms.yards" 252 87
noncomputable def o49:O:=fun P=>⟨(.type "tuple"),none,(.seq #[(.str "held" 283),(.str "room" 284),(.str "at" 285),(.str "row" 286),(.str "rows" 287)] 0),#[]⟩
noncomputable def o50:O:=t16 "lay_row" (f 16)
noncomputable def o51:O:=t20 "lay_row" 280 47 4 89 288 289
noncomputable def o52:O:=t17 "lay_row" (f 16) "tailrooms.yards" 252 94
noncomputable def o53:O:=t22 "held" 294 "room" "many"
noncomputable def o54:O:=t16 "cut_room" (f 17)
noncomputable def o55:O:=t20 "cut_room" 291 54 3 96 297 298
noncomputable def o56:O:=t17 "cut_room" (f 17) "tailrooms.yards" 252 101
noncomputable def o57:O:=t23 "held" 303
noncomputable def o58:O:=t16 "leave_last_rooms" (f 18)
noncomputable def o59:O:=t20 "leave_last_rooms" 300 57 1 103 304 305
noncomputable def o60:O:=t17 "leave_last_rooms" (f 18) "tailrooms.yards" 252 108
noncomputable def o61:O:=t16 "unlike_rows" (f 20)
noncomputable def o62:O:=t21 "unlike_rows" 309 61 3 110 312
noncomputable def o63:O:=t17 "unlike_rows" (f 20) "tailrooms.changes" 307 113
noncomputable def o64:O:=t19 "room" 318 "old" "new" "steps"
noncomputable def o65:O:=t16 "onward" (f 21)
noncomputable def o66:O:=t20 "onward" 315 63 3 115 322 323
noncomputable def o67:O:=t17 "onward" (f 21) "tailrooms.changes" 307 120
noncomputable def o68:O:=t18 "yard" 330 "wide" "rooms" "held" "kept" "room" "rows" "key" "thing"
noncomputable def o69:O:=t16 "mended" (f 23)
noncomputable def o70:O:=t20 "mended" 327 69 1 122 339 340
noncomputable def o71:O:=t17 "mended" (f 23) "tailrooms.mends" 325 127
noncomputable def o72:O:=t16 "mending" (f 24)
noncomputable def o73:O:=t21 "mending" 342 77 1 129 345
noncomputable def o74:O:=t17 "mending" (f 24) "tailrooms.mends" 325 132
noncomputable def o75:O:=t16 "_law_open" (f 26)
noncomputable def o76:O:=t21 "_law_open" 350 85 2 134 353
noncomputable def o77:O:=t17 "_law_open" (f 26) "law_tailrooms_k47_mended_and_mending" 348 137
noncomputable def o78:O:=fun P=>⟨(.type "tuple"),none,(.seq #[(.str "_law_hand" 359),(.str "_law_many" 360),(.str "_law_got" 361),(.str "_law_k" 362),(.str "_law_number" 363)] 0),#[]⟩
noncomputable def o79:O:=t16 "_law_draw" (f 27)
noncomputable def o80:O:=t20 "_law_draw" 356 94 2 139 364 365
noncomputable def o81:O:=t17 "_law_draw" (f 27) "law_tailrooms_k47_mended_and_mending" 348 144
noncomputable def o82:O:=t19 "_law_hand" 370 "_law_many" "_law_number" "_law_k"
noncomputable def o83:O:=t16 "_law_far" (f 28)
noncomputable def o84:O:=t20 "_law_far" 367 105 2 146 374 375
noncomputable def o85:O:=t17 "_law_far" (f 28) "law_tailrooms_k47_mended_and_mending" 348 151
noncomputable def o86:O:=t22 "_law_many" 380 "_law_number" "_law_k"
noncomputable def o87:O:=t16 "_law_power" (f 29)
noncomputable def o88:O:=t20 "_law_power" 377 112 1 153 383 384
noncomputable def o89:O:=t17 "_law_power" (f 29) "law_tailrooms_k47_mended_and_mending" 348 158
noncomputable def o90:O:=t22 "_law_hand" 389 "_law_way" "_law_low"
noncomputable def o91:O:=t16 "_law_key" (f 30)
noncomputable def o92:O:=t20 "_law_key" 386 117 1 160 392 393
noncomputable def o93:O:=t17 "_law_key" (f 30) "law_tailrooms_k47_mended_and_mending" 348 165
noncomputable def o94:O:=t16 "_law_thing" (f 31)
noncomputable def o95:O:=t21 "_law_thing" 395 129 1 167 398
noncomputable def o96:O:=t17 "_law_thing" (f 31) "law_tailrooms_k47_mended_and_mending" 348 170
noncomputable def o97:O:=t23 "_law_got" 404
noncomputable def o98:O:=t16 "_law_whole" (f 32)
noncomputable def o99:O:=t20 "_law_whole" 401 132 1 172 405 406
noncomputable def o100:O:=t17 "_law_whole" (f 32) "law_tailrooms_k47_mended_and_mending" 348 177
noncomputable def o101:O:=t19 "_law_key_here" 411 "_law_rooms" "_law_room_here" "_law_grade"
noncomputable def o102:O:=t16 "_law_room" (f 33)
noncomputable def o103:O:=t20 "_law_room" 408 134 2 179 415 416
noncomputable def o104:O:=t17 "_law_room" (f 33) "law_tailrooms_k47_mended_and_mending" 348 184
noncomputable def o105:O:=t19 "_law_wide" 421 "_law_entries" "_law_some" "_law_rows"
noncomputable def o106:O:=t16 "_law_cut" (f 34)
noncomputable def o107:O:=t20 "_law_cut" 418 143 2 186 425 426
noncomputable def o108:O:=t17 "_law_cut" (f 34) "law_tailrooms_k47_mended_and_mending" 348 191
noncomputable def o109:O:=t16 "_law_clean" (f 35)
noncomputable def o110:O:=t21 "_law_clean" 428 150 3 193 431
noncomputable def o111:O:=t17 "_law_clean" (f 35) "law_tailrooms_k47_mended_and_mending" 348 196
noncomputable def o112:O:=t16 "_law_copy" (f 36)
noncomputable def o113:O:=t21 "_law_copy" 434 155 1 198 437
noncomputable def o114:O:=t17 "_law_copy" (f 36) "law_tailrooms_k47_mended_and_mending" 348 201
noncomputable def o115:O:=t24 "_law_got" 443 "_law_due"
noncomputable def o116:O:=t16 "_law_is_yard" (f 37)
noncomputable def o117:O:=t20 "_law_is_yard" 440 157 2 203 445 446
noncomputable def o118:O:=t17 "_law_is_yard" (f 37) "law_tailrooms_k47_mended_and_mending" 348 208
noncomputable def o119:O:=fun P=>⟨(.type "tuple"),none,(.seq #[(.str "_law_room_here" 451),(.str "_law_rows" 452),(.str "_law_now" 453),(.str "_law_steps" 454),(.str "_law_at" 455),(.str "_law_row_here" 456)] 0),#[]⟩
noncomputable def o120:O:=t16 "_law_onward" (f 38)
noncomputable def o121:O:=t20 "_law_onward" 448 161 3 210 457 458
noncomputable def o122:O:=t17 "_law_onward" (f 38) "law_tailrooms_k47_mended_and_mending" 348 215
noncomputable def o123:O:=t22 "_law_script" 463 "_law_least" "_law_most"
noncomputable def o124:O:=t16 "_law_places" (f 39)
noncomputable def o125:O:=t20 "_law_places" 460 169 3 217 466 467
noncomputable def o126:O:=t17 "_law_places" (f 39) "law_tailrooms_k47_mended_and_mending" 348 222
noncomputable def o127:O:=fun P=>⟨(.type "tuple"),none,(.seq #[(.str "_law_hand" 472),(.str "_law_keys" 473),(.str "_law_room_here" 474),(.str "_law_row_here" 475),(.str "_law_k" 476),(.str "_law_own" 477),(.str "_law_key_here" 478)] 0),#[]⟩
noncomputable def o128:O:=t16 "_law_row" (f 40)
noncomputable def o129:O:=t20 "_law_row" 469 171 3 224 479 480
noncomputable def o130:O:=t17 "_law_row" (f 40) "law_tailrooms_k47_mended_and_mending" 348 229
noncomputable def o131:O:=t16 "_law_drawn" (f 41)
noncomputable def o132:O:=t21 "_law_drawn" 482 180 1 231 485
noncomputable def o133:O:=t17 "_law_drawn" (f 41) "law_tailrooms_k47_mended_and_mending" 348 234
noncomputable def o134:O:=t18 "_law_yard" 491 "_law_wide" "_law_rooms" "_law_held" "_law_entries" "_law_room_here" "_law_row_here" "_law_key_here" "_law_thing_here"
noncomputable def o135:O:=t16 "_law_standing" (f 42)
noncomputable def o136:O:=t20 "_law_standing" 488 193 1 236 500 501
noncomputable def o137:O:=t17 "_law_standing" (f 42) "law_tailrooms_k47_mended_and_mending" 348 241
noncomputable def o138:O:=t16 "_law_steps_due" (f 43)
noncomputable def o139:O:=t21 "_law_steps_due" 503 202 2 243 506
noncomputable def o140:O:=t17 "_law_steps_due" (f 43) "law_tailrooms_k47_mended_and_mending" 348 246
noncomputable def o141:O:=fun P=>⟨(.type "dict"),none,(.dict (c0 P (c1 P (c2 P (c3 P (c13 P []))))).toArray 33),#[]⟩
noncomputable def o142:O:=fun P=>⟨.none,none,(.fields (c6 P (c7 P (c8 P (c9 P [])))).toArray),#[]⟩
noncomputable def o143:O:=fun P=>⟨(.type "dict"),none,(.dict (c0 P (c1 P (c2 P (c3 P (c4 P (c14 P [])))))).toArray 47),#[]⟩
noncomputable def o144:O:=fun P=>⟨.none,none,(.fields (c6 P (c7 P (c8 P (c9 P (c10 P (c11 P (c15 P []))))))).toArray),#[]⟩
noncomputable def o145:O:=t18 "_law_script" 512 "_law_place" "_law_hand" "_law_clean_here" "_law_yard" "_law_due" "_law_kept" "_law_there" "_law_steps"
noncomputable def o146:O:=t16 "law" (f 44)
noncomputable def o147:O:=t20 "law" 509 209 1 248 521 522
noncomputable def o148:O:=t17 "law" (f 44) "law_tailrooms_k47_mended_and_mending" 348 253
noncomputable def qB (_:Params→BT):Bool:=true
noncomputable def qH (_:Params→Heap):Bool:=true
noncomputable def qP (_:Program):Bool:=true
noncomputable def qS (_:List Stmt):Bool:=true
noncomputable def X_sts_125:List Stmt:=[f 16,f 17,f 18,f 19,f 20,f 21,f 22,f 23,f 24,f 25,f 26,f 27,f 28,f 29,f 30]
noncomputable def c25:B:=n o14 (n o5 (w o70) (w o107)) (n o52 (w o89) (w o126))
noncomputable def c26:B:=n o23 (n o42 (w o79) (w o116)) (n o5 (w o1) (w o1))
noncomputable def c27:B:=n o1 (n o38 (w o5) (w o5)) (n o1 (w o1) (w o1))
noncomputable def c28:B:=n o28 (n o47 (w o84) (w o121)) (n o65 (w o102) (w o140))
noncomputable def c29:B:=n o17 (n o1 (w o72) (w o109)) (n o1 (w o1) (w o1))
noncomputable def c30:B:=n o5 (n o45 (w o5) (w o5)) (n o1 (w o1) (w o1))
noncomputable def c31:B:=n o1 (n o40 (w o1) (w o1)) (n o58 (w o96) (w o133))
noncomputable def c32:B:=n o30 (n o49 (w o86) (w o123)) (n o5 (w o5) u)
noncomputable def c33:B:=n o15 (n o34 (w o1) (w o1)) (n o5 (w o5) (w o5))
noncomputable def c34:B:=n o25 (n o43 (w o81) (w o118)) (n o62 (w o99) (w o136))
noncomputable def c35:B:=n o20 (n o5 (w o76) (w o113)) (n o57 (w o94) (w o131))
noncomputable def c36:B:=n o1 (n o1 (w o1) (w o1)) (n o67 (w o104) u)
noncomputable def c37:B:=n o5 (n o36 (w o74) (w o111)) (n o55 (w o92) (w o129))
noncomputable def c38:B:=n o1 (n o5 (w o1) (w o1)) (n o64 (w o101) (w o138))
noncomputable def c39:B:=n o22 (n o1 (w o78) (w o115)) (n o60 (w o5) (w o5))
noncomputable def c40:B:=n o32 (n o50 (w o87) (w o124)) (n o1 (w o1) u)
noncomputable def c41:B:=n o1 (n o33 (w o71) (w o108)) (n o1 (w o1) (w o1))
noncomputable def c42:B:=n o24 (n o1 (w o80) (w o117)) (n o61 (w o98) (w o135))
noncomputable def c43:B:=n o19 (n o1 (w o75) (w o112)) (n o5 (w o5) (w o5))
noncomputable def c44:B:=n o29 (n o48 (w o85) (w o122)) (n o66 (w o103) u)
noncomputable def c45:B:=n o1 (n o5 (w o73) (w o110)) (n o54 (w o91) (w o128))
noncomputable def c46:B:=n o26 (n o1 (w o82) (w o119)) (n o5 (w o5) (w o5))
noncomputable def c47:B:=n o5 (n o41 (w o5) (w o5)) (n o59 (w o1) (w o1))
noncomputable def c48:B:=n o31 (n o1 (w o1) (w o1)) (n o68 (w o105) u)
noncomputable def c49:B:=n o16 (n o35 (w o5) (w o5)) (n o53 (w o90) (w o127))
noncomputable def c50:B:=n o1 (n o44 (w o1) (w o1)) (n o63 (w o100) (w o137))
noncomputable def c51:B:=n o21 (n o39 (w o77) (w o114)) (n o1 (w o95) (w o132))
noncomputable def c52:B:=n o5 (n o5 (w o5) (w o5)) (n o1 (w o1) u)
noncomputable def c53:B:=n o18 (n o37 (w o1) (w o1)) (n o56 (w o93) (w o130))
noncomputable def c54:B:=n o27 (n o46 (w o83) (w o120)) (n o1 (w o1) (w o139))
noncomputable def c55:B:=n o1 (n o5 (w o1) (w o1)) (n o1 (w o97) (w o134))
noncomputable def c56:B:=n o1 (n o51 (w o88) (w o125)) (n o69 (w o106) u)
noncomputable def X_tree_287:Params→BT:=(n boot_o_0 (n boot_o_1 (n o0 (n boot_o_7 (n o1 c25 c26) (n o5 c27 c28)) (n o1 (n o7 c29 c30) (n o12 c31 c32))) (n boot_o_5 (n boot_o_9 (n o6 c33 c34) (n o1 c35 c36)) (n o3 (n o9 c37 c38) (n o1 c39 c40)))) (n boot_o_2 (n boot_o_4 (n boot_o_8 (n o5 c41 c42) (n o10 c43 c44)) (n o2 (n o8 c45 c46) (n o13 c47 c48))) (n boot_o_6 (n boot_o_10 (n o1 c49 c50) (n o11 c51 c52)) (n o4 (n o1 c53 c54) (n o5 c55 c56)))))
noncomputable def X_view_39:Program:={ PySem.Challenge.pw_tailrooms_k47_mended_and_mending with main:={ PySem.Challenge.pw_tailrooms_k47_mended_and_mending.main with body:=[f 1,f 2,f 3,f 4,f 5,f 7,f 8,f 10,f 12,f 13,f 14,f 15,f 16,f 17,f 18,f 20,f 21,f 23,f 24,f 26,f 27,f 28,f 29,f 30,f 31,f 32,f 33,f 34,f 35,f 36,f 37,f 38,f 39,f 40,f 41,f 42,f 43,f 44] } }
noncomputable def X_sts_205:List Stmt:=[f 31,f 32,f 33,f 34,f 35,f 36,f 37,f 38,f 39,f 40,f 41,f 42,f 43]
noncomputable def X_sts_288:List Stmt:=[f 44]
noncomputable def c57:B:=n o14 (n o5 (w o70) u) (n o52 (w o89) u)
noncomputable def c58:B:=n o23 (n o42 (w o79) u) (w o5)
noncomputable def c59:B:=n o1 (n o38 (w o5) u) (w o1)
noncomputable def c60:B:=n o28 (n o47 (w o84) u) (w o65)
noncomputable def c61:B:=n o17 (n o1 (w o72) u) (n o1 (w o1) u)
noncomputable def c62:B:=n o5 (n o45 (w o5) u) (w o1)
noncomputable def c63:B:=n o1 (n o40 (w o1) u) (w o58)
noncomputable def c64:B:=n o30 (n o49 (w o86) u) (w o5)
noncomputable def c65:B:=n o15 (n o34 (w o1) u) (n o5 (w o5) u)
noncomputable def c66:B:=n o25 (n o43 (w o81) u) (w o62)
noncomputable def c67:B:=n o20 (n o5 (w o76) u) (w o57)
noncomputable def c68:B:=n o1 (n o1 (w o1) u) (w o67)
noncomputable def c69:B:=n o5 (n o36 (w o74) u) (n o55 (w o92) u)
noncomputable def c70:B:=n o1 (n o5 (w o1) u) (w o64)
noncomputable def c71:B:=n o22 (n o1 (w o78) u) (w o60)
noncomputable def c72:B:=n o32 (n o50 (w o87) u) (w o1)
noncomputable def c73:B:=n o1 (n o33 (w o71) u) (n o1 (w o1) u)
noncomputable def c74:B:=n o24 (n o1 (w o80) u) (w o61)
noncomputable def c75:B:=n o19 (n o1 (w o75) u) (w o5)
noncomputable def c76:B:=n o29 (n o48 (w o85) u) (w o66)
noncomputable def c77:B:=n o1 (n o5 (w o73) u) (n o54 (w o91) u)
noncomputable def c78:B:=n o26 (n o1 (w o82) u) (w o5)
noncomputable def c79:B:=n o5 (n o41 (w o5) u) (w o59)
noncomputable def c80:B:=n o31 (n o1 (w o1) u) (w o68)
noncomputable def c81:B:=n o16 (n o35 (w o5) u) (n o53 (w o90) u)
noncomputable def c82:B:=n o1 (n o44 (w o1) u) (w o63)
noncomputable def c83:B:=n o21 (n o39 (w o77) u) (w o1)
noncomputable def c84:B:=n o5 (n o5 (w o5) u) (w o1)
noncomputable def c85:B:=n o18 (n o37 (w o1) u) (n o56 (w o93) u)
noncomputable def c86:B:=n o27 (n o46 (w o83) u) (w o1)
noncomputable def c87:B:=n o1 (n o5 (w o1) u) (w o1)
noncomputable def c88:B:=n o1 (n o51 (w o88) u) (w o69)
noncomputable def X_tree_204:Params→BT:=(n boot_o_0 (n boot_o_1 (n o141 (n boot_o_7 (n o1 c57 c58) (n o5 c59 c60)) (n o1 (n o7 c61 c62) (n o12 c63 c64))) (n boot_o_5 (n boot_o_9 (n o6 c65 c66) (n o1 c67 c68)) (n o3 (n o9 c69 c70) (n o1 c71 c72)))) (n boot_o_2 (n boot_o_4 (n boot_o_8 (n o5 c73 c74) (n o10 c75 c76)) (n o142 (n o8 c77 c78) (n o13 c79 c80))) (n boot_o_6 (n boot_o_10 (n o1 c81 c82) (n o11 c83 c84)) (n o4 (n o1 c85 c86) (n o5 c87 c88)))))
noncomputable def c89 (P:Params) (r:List Obj):List Obj:=boot_o_0 P::boot_o_1 P::boot_o_2 P::o143 P::boot_o_4 P::boot_o_5 P::boot_o_6 P::boot_o_7 P::boot_o_8 P::boot_o_9 P::boot_o_10 P::o1 P::o144 P::o3 P::o4 P::o1 P::r
noncomputable def c90 (P:Params) (r:List Obj):List Obj:=o5 P::o6 P::o1 P::o7 P::o8 P::o9 P::o1 P::o5 P::o10 P::o1 P::o11 P::o12 P::o13 P::o1 P::o5 P::o14 P::r
noncomputable def c91 (P:Params) (r:List Obj):List Obj:=o1 P::o15 P::o16 P::o17 P::o1 P::o5 P::o18 P::o1 P::o19 P::o20 P::o21 P::o1 P::o5 P::o22 P::o1 P::o23 P::r
noncomputable def c92 (P:Params) (r:List Obj):List Obj:=o24 P::o25 P::o1 P::o5 P::o26 P::o1 P::o27 P::o28 P::o29 P::o1 P::o5 P::o30 P::o31 P::o32 P::o1 P::o5 P::r
noncomputable def c93 (P:Params) (r:List Obj):List Obj:=o33 P::o34 P::o35 P::o1 P::o5 P::o36 P::o37 P::o38 P::o1 P::o5 P::o39 P::o40 P::o41 P::o1 P::o5 P::o42 P::r
noncomputable def c94 (P:Params) (r:List Obj):List Obj:=o1 P::o43 P::o44 P::o45 P::o1 P::o5 P::o46 P::o47 P::o48 P::o1 P::o5 P::o49 P::o1 P::o50 P::o51 P::o52 P::r
noncomputable def c95 (P:Params) (r:List Obj):List Obj:=o1 P::o5 P::o53 P::o1 P::o54 P::o55 P::o56 P::o1 P::o5 P::o57 P::o1 P::o58 P::o59 P::o60 P::o1 P::o5 P::r
noncomputable def c96 (P:Params) (r:List Obj):List Obj:=o61 P::o62 P::o63 P::o1 P::o5 P::o64 P::o1 P::o65 P::o66 P::o67 P::o1 P::o5 P::o68 P::o1 P::o69 P::o70 P::r
noncomputable def c97 (P:Params) (r:List Obj):List Obj:=o71 P::o1 P::o5 P::o72 P::o73 P::o74 P::o1 P::o5 P::o75 P::o76 P::o77 P::o1 P::o5 P::o78 P::o1 P::o79 P::r
noncomputable def c98 (P:Params) (r:List Obj):List Obj:=o80 P::o81 P::o1 P::o5 P::o82 P::o1 P::o83 P::o84 P::o85 P::o1 P::o5 P::o86 P::o1 P::o87 P::o88 P::o89 P::r
noncomputable def c99 (P:Params) (r:List Obj):List Obj:=o1 P::o5 P::o90 P::o1 P::o91 P::o92 P::o93 P::o1 P::o5 P::o94 P::o95 P::o96 P::o1 P::o5 P::o97 P::o1 P::r
noncomputable def c100 (P:Params) (r:List Obj):List Obj:=o98 P::o99 P::o100 P::o1 P::o5 P::o101 P::o1 P::o102 P::o103 P::o104 P::o1 P::o5 P::o105 P::o1 P::o106 P::o107 P::r
noncomputable def c101 (P:Params) (r:List Obj):List Obj:=o108 P::o1 P::o5 P::o109 P::o110 P::o111 P::o1 P::o5 P::o112 P::o113 P::o114 P::o1 P::o5 P::o115 P::o1 P::o116 P::r
noncomputable def c102 (P:Params) (r:List Obj):List Obj:=o117 P::o118 P::o1 P::o5 P::o119 P::o1 P::o120 P::o121 P::o122 P::o1 P::o5 P::o123 P::o1 P::o124 P::o125 P::o126 P::r
noncomputable def c103 (P:Params) (r:List Obj):List Obj:=o1 P::o5 P::o127 P::o1 P::o128 P::o129 P::o130 P::o1 P::o5 P::o131 P::o132 P::o133 P::o1 P::o5 P::o134 P::o1 P::r
noncomputable def c104 (P:Params) (r:List Obj):List Obj:=o135 P::o136 P::o137 P::o1 P::o5 P::o138 P::o139 P::o140 P::o1 P::o5 P::o145 P::o1 P::o146 P::o147 P::o148 P::r
noncomputable def X_heap_297:Params→Heap:=fun P=>⟨⟨(c89 P (c90 P (c91 P (c92 P (c93 P (c94 P (c95 P (c96 P (c97 P (c98 P (c99 P (c100 P (c101 P (c102 P (c103 P (c104 P []))))))))))))))))⟩,⟨[],[],[],0,[],[],.false,#[],[],0,.false,.false,.false,0,[2000,10,10],.false,0,.true,[],[],0,.false⟩⟩
noncomputable def c105:B:=n o30 (n o49 (w o86) (w o123)) (n o5 (w o5) (w o1))
noncomputable def c106:B:=n o1 (n o1 (w o1) (w o1)) (n o67 (w o104) (w o5))
noncomputable def c107:B:=n o32 (n o50 (w o87) (w o124)) (n o1 (w o1) (w o147))
noncomputable def c108:B:=n o29 (n o48 (w o85) (w o122)) (n o66 (w o103) (w o1))
noncomputable def c109:B:=n o31 (n o1 (w o1) (w o1)) (n o68 (w o105) (w o146))
noncomputable def c110:B:=n o5 (n o5 (w o5) (w o5)) (n o1 (w o1) (w o145))
noncomputable def c111:B:=n o1 (n o51 (w o88) (w o125)) (n o69 (w o106) (w o148))
noncomputable def X_tree_296:Params→BT:=(n boot_o_0 (n boot_o_1 (n o143 (n boot_o_7 (n o1 c25 c26) (n o5 c27 c28)) (n o1 (n o7 c29 c30) (n o12 c31 c105))) (n boot_o_5 (n boot_o_9 (n o6 c33 c34) (n o1 c35 c106)) (n o3 (n o9 c37 c38) (n o1 c39 c107)))) (n boot_o_2 (n boot_o_4 (n boot_o_8 (n o5 c41 c42) (n o10 c43 c108)) (n o144 (n o8 c45 c46) (n o13 c47 c109))) (n boot_o_6 (n boot_o_10 (n o1 c49 c50) (n o11 c51 c110)) (n o4 (n o1 c53 c54) (n o5 c55 c111)))))
noncomputable def X_sts_49:List Stmt:=[f 0,f 1,f 2,f 3,f 4,f 5,f 6,f 7,f 8,f 9,f 10,f 11,f 12,f 13,f 14,f 15]
theorem z:(qS X_sts_125 && qB X_tree_287 && qP X_view_39 && qS X_sts_205 && qS X_sts_288 && qB X_tree_204 && qH X_heap_297 && qB X_tree_296 && qS X_sts_49)=true:=by k_qdec
end HD
noncomputable def PySem.W.Fast.tw15049172759587932417:List PySem.Stmt:=PySem.W.Fast.tw3194935385797071793
theorem PySem.W.Fast.te15049172759587932417:HD.X_sts_125=PySem.W.Fast.tw15049172759587932417:=PySem.W.Fast.te3194935385797071793
noncomputable def PySem.W.Fast.tw2964553881432622435:PySem.Params→PySem.W.BT:=PySem.W.Fast.tw13064780229495130775
theorem PySem.W.Fast.te2964553881432622435:HD.X_tree_287=PySem.W.Fast.tw2964553881432622435:=PySem.W.Fast.te13064780229495130775
noncomputable def PySem.W.Fast.tw9506476155366498108:PySem.Program:=PySem.W.Fast.tw18025189030367128546
theorem PySem.W.Fast.te9506476155366498108:HD.X_view_39=PySem.W.Fast.tw9506476155366498108:=PySem.W.Fast.te18025189030367128546
noncomputable def PySem.W.Fast.tw9584778227224666555:List PySem.Stmt:=PySem.W.Fast.tw7894115982463958007
theorem PySem.W.Fast.te9584778227224666555:HD.X_sts_205=PySem.W.Fast.tw9584778227224666555:=PySem.W.Fast.te7894115982463958007
noncomputable def PySem.W.Fast.tw3885062861997246913:Nat:=0
theorem PySem.W.Fast.te3885062861997246913:True:=trivial
noncomputable def PySem.W.Fast.tw15315222346748647571:List PySem.Stmt:=PySem.W.Fast.tw14271591419956221916
theorem PySem.W.Fast.te15315222346748647571:HD.X_sts_288=PySem.W.Fast.tw15315222346748647571:=PySem.W.Fast.te14271591419956221916
noncomputable def PySem.W.Fast.tw13451367811061300500:PySem.Params→PySem.W.BT:=PySem.W.Fast.tw13316510307397919643
theorem PySem.W.Fast.te13451367811061300500:HD.X_tree_204=PySem.W.Fast.tw13451367811061300500:=PySem.W.Fast.te13316510307397919643
noncomputable def PySem.W.Fast.tw17281421080633513671:PySem.Params→PySem.Heap:=PySem.W.Fast.tw4097314196797508402
theorem PySem.W.Fast.te17281421080633513671:HD.X_heap_297=PySem.W.Fast.tw17281421080633513671:=PySem.W.Fast.te4097314196797508402
noncomputable def PySem.W.Fast.tw308083778199721846:PySem.Params→PySem.W.BT:=PySem.W.Fast.tw7949880651402769902
theorem PySem.W.Fast.te308083778199721846:HD.X_tree_296=PySem.W.Fast.tw308083778199721846:=PySem.W.Fast.te7949880651402769902
noncomputable def PySem.W.Fast.tw6179488872238731992:List PySem.Stmt:=PySem.W.Fast.tw5485031703581270831
theorem PySem.W.Fast.te6179488872238731992:HD.X_sts_49=PySem.W.Fast.tw6179488872238731992:=PySem.W.Fast.te5485031703581270831
open PySem PySem.W PyProof.Rows
set_option maxRecDepth 100000 in
set_option maxHeartbeats 0 in
theorem PySem.Challenge.cw_tailrooms_k47_mended_and_mending_holds : PySem.Challenge.rw_tailrooms_k47_mended_and_mending.Holds := by
  w_on; o_law; k_head; (case hw=>w_witness2)
  k_fill
  refine Law.walk (l:=PySem.Challenge.rw_tailrooms_k47_mended_and_mending) rfl rfl (fun w h Y=>PySem.W.kIn_of Y) ?F
  case F =>
    intro w mg fa h KX G hmg
    refine' Law.all_mk KX G hmg ?ga0 ?ga1 ?ga2 ?ga3 ?ga4 ?ga5 ?ga6 ?ga7 ?ga8 ?ga9 ?ga10 ?ga11 ?ga12 ?ga13 ?ga14 ?ga15 ?ga16 ?ga17 ?ga18 ?ga19 ?ga20 ?ga21 ?ga22 ?ga23 ?ga24 ?ga25 ?ga26 ?ga27 ?ga28 ?ga29 ?ga30 ?ga31 ?ga32 ?ga33 ?ga34 ?ga35 ?ga36 ?a37 ?l37 ?c37 ?k37 ?z_max ?z_range ?z_len ?z_sorted ?z_dict ?z_list ?z_enumerate ?z_abs ?z_isinstance ?z_int ?z_bool ?z_tuple ?z_min
    (case ga0=>walk_at"lk")
    (case ga1=>walk_at"lk")
    (case ga2=>walk_at"lk")
    (case ga3=>walk_at"lk")
    (case ga4=>walk_at"lk")
    (case ga5=>walk_at"lk")
    (case ga6=>walk_at"lk")
    (case ga7=>walk_at"lk")
    (case ga8=>walk_at"lk")
    (case ga9=>walk_at"lk")
    (case ga10=>walk_at"lk")
    (case ga11=>walk_at"lk")
    (case ga12=>walk_at"lk")
    (case ga13=>walk_at"lk")
    (case ga14=>walk_at"lk")
    (case ga15=>walk_at"lk")
    (case ga16=>walk_at"lk")
    (case ga17=>walk_at"lk")
    (case ga18=>walk_at"lk")
    (case ga19=>walk_at"lk")
    (case ga20=>walk_at"lk")
    (case ga21=>walk_at"lk")
    (case ga22=>walk_at"lk")
    (case ga23=>walk_at"lk")
    (case ga24=>walk_at"lk")
    (case ga25=>walk_at"lk")
    (case ga26=>walk_at"lk")
    (case ga27=>walk_at"lk")
    (case ga28=>walk_at"lk")
    (case ga29=>walk_at"lk")
    (case ga30=>walk_at"lk")
    (case ga31=>walk_at"lk")
    (case ga32=>walk_at"lk")
    (case ga33=>walk_at"lk")
    (case ga34=>walk_at"lk")
    (case ga35=>walk_at"lk")
    (case ga36=>walk_at"lk")
    (case a37=>walk_at"lk")
    (case l37=>walk_at"lk")
    (case c37=>walk_at"lk")
    (case k37=>walk_at"lk")
    (case z_max=>walk_at"lk")
    (case z_range=>walk_at"lk")
    (case z_len=>walk_at"lk")
    (case z_sorted=>walk_at"lk")
    (case z_dict=>walk_at"lk")
    (case z_list=>walk_at"lk")
    (case z_enumerate=>walk_at"lk")
    (case z_abs=>walk_at"lk")
    (case z_isinstance=>walk_at"lk")
    (case z_int=>walk_at"lk")
    (case z_bool=>walk_at"lk")
    (case z_tuple=>walk_at"lk")
    (case z_min=>walk_at"lk")
