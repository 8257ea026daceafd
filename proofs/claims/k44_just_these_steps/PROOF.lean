import PyProof.Rows.All
import Wide.All
import OpenK.AllK
import Wide.FinOn
import PyProof.EqAt
import PyProof.EqKinds
import PyProof.TupleCall
import PyProof.ExcArgsOwn
import PyProof.ExcAttrAll.ValueError
import PyProof.ExcBaseAll.ValueError
import PyProof.ExcClass2
import PyProof.ExcInit
import PyProof.InstStore
import PyProof.InstStoreFacts
import PyProof.NsDelKeeps
import PyProof.NsMap
import PyProof.Rows.CatchOwn
import PyProof.StationsW
import PySem.Challenge.RW_tailrooms_k44_just_these_steps
set_option Elab.async false
set_option linter.all false
set_option maxRecDepth 100000
local macro_rules | `(tactic| omega)=>`(tactic| first | lia | omega (config:={}))
namespace L2
open PySem PySem.Spec PyProof.Rows
abbrev Key:=Sum Int Str
def keyIs:Key→Value→Bool
 | .inl k,v=>Value.isInt k v
 | .inr x,v=>Value.isStrOf x v
def keyH (w:World):Key→Int
 | .inl k=>hashInt k
 | .inr x=>hashStr w x
theorem keyIs_shape:∀{k:Key}{v:Value},keyIs k v=true→(∃i t,k=Sum.inl i∧v=Value.int i t) ∨(∃x t,k=Sum.inr x∧v=Value.str x t)
 | .inl i,v,h=>by
  obtain⟨t,e⟩:=Value.isInt_shape (k:=i) (v:=v) h
  exact .inl ⟨i,t,rfl,e⟩
 | .inr x,v,h=>by
  obtain⟨t,e⟩:=Value.isStrOf_shape (x:=x) (v:=v) h
  exact .inr ⟨x,t,rfl,e⟩
theorem keyIs_int (i:Int) (t:Tok):keyIs (.inl i) (.int i t)=true:=by simp[keyIs,Value.isInt]
theorem keyIs_str (x:Str) (t:Tok):keyIs (.inr x) (.str x t)=true:=by simp[keyIs,Value.isStrOf]
theorem key_ll (a b:Int):decide ((Sum.inl a:Key)=Sum.inl b) =(a == b):=by
 by_cases e:a=b
 ·subst e;simp
 ·have h:¬(Sum.inl a:Key)=Sum.inl b:=fun q=>e (Sum.inl.inj q)
  rw[decide_eq_false h]
  exact(beq_eq_false_iff_ne.mpr e).symm
theorem key_rr (a b:Str):decide ((Sum.inr a:Key)=Sum.inr b)=decide (a=b):=by
 by_cases e:a=b
 ·subst e;simp
 ·have h:¬(Sum.inr a:Key)=Sum.inr b:=fun q=>e (Sum.inr.inj q)
  rw[decide_eq_false h,decide_eq_false e]
theorem key_lr (a:Int) (b:Str):decide ((Sum.inl a:Key)=Sum.inr b)=false:=decide_eq_false (fun q=>nomatch q)
theorem key_rl (a:Str) (b:Int):decide ((Sum.inr a:Key)=Sum.inl b)=false:=decide_eq_false (fun q=>nomatch q)
def mixKind (prog:Program) (w:World):PySem.KeyKind prog w Key where
 is:=keyIs
 hash:=keyH w
 inj:=fun v a b ha hb=>by
  rcases keyIs_shape ha with⟨i,t,rfl,rfl⟩|⟨x,t,rfl,rfl⟩
  ·rcases keyIs_shape hb with⟨j,u,rfl,e⟩|⟨y,u,rfl,e⟩
   ·injection e with e1 _;rw[e1]
   ·exact nomatch e
  ·rcases keyIs_shape hb with⟨j,u,rfl,e⟩|⟨y,u,rfl,e⟩
   ·exact nomatch e
   ·injection e with e1 _;rw[e1]
 byValue:=fun k v h=>by
  rcases keyIs_shape h with⟨i,t,rfl,rfl⟩|⟨x,t,rfl,rfl⟩ <;> rfl
 pyHash:=fun hv h=>by
  rcases keyIs_shape hv with⟨i,t,rfl,rfl⟩|⟨x,t,rfl,rfl⟩
  ·exact wpAny_pyHash_int h
  ·exact wpAny_pyHash_str h
 eqBool:=fun hu hv h=>by
  rcases keyIs_shape hu with⟨i,t,rfl,rfl⟩|⟨x,t,rfl,rfl⟩
  ·rcases keyIs_shape hv with⟨j,u,rfl,rfl⟩|⟨y,u,rfl,rfl⟩
   ·rw[key_ll]at h;exact wpAny_eqBool_int h
   ·rw[key_lr]at h;exact SeqAt.EqAt.int_str i t y u _ _ _ _ h
  ·rcases keyIs_shape hv with⟨j,u,rfl,rfl⟩|⟨y,u,rfl,rfl⟩
   ·rw[key_rl]at h;exact SeqAt.EqAt.str_int x t j u _ _ _ _ h
   ·rw[key_rr]at h;exact wpAny_eqBool_str h
 «strs»:=fun k x t v h=>by
  rcases keyIs_shape h with⟨i,u,rfl,e⟩|⟨y,u,rfl,e⟩
  ·exact nomatch e
  ·injection e with e1 _
   subst e1
   cases v <;> rfl
theorem mixKind_int (prog:Program) (w:World) (i:Int) (t:Tok):(mixKind prog w).is (.inl i) (.int i t)=true:=keyIs_int i t
theorem mixKind_str (prog:Program) (w:World) (x:Str) (t:Tok):(mixKind prog w).is (.inr x) (.str x t)=true:=keyIs_str x t
inductive V where
 | non|bl (b:Bool)|int (i:Int)|str (x:Str)|byt (b:Array UInt8)|flt (b:UInt64)|ref (a:Addr)|ty (n:String)
 deriving DecidableEq
def RelV:V→Value→Prop
 | .non,u=>u=Value.none
 | .bl b,u=>u=Value.bool b
 | .int i,u=>∃t,u=Value.int i t
 | .str x,u=>∃t,u=Value.str x t
 | .byt b,u=>∃t,u=Value.bytes b t
 | .flt b,u=>∃t,u=Value.float b t
 | .ref a,u=>u=Value.ref a
 | .ty n,u=>u=Value.type n
abbrev Vals:List V→List Value→Prop:=Paired RelV
theorem Vals.length {xs:List V}{us:List Value}(r:Vals xs us):xs.length=us.length:=Paired.length r
theorem Vals.get:∀{xs:List V}{us:List Value}{i:Nat}{x:V},Vals xs us→xs[i]? = some x→∃u,us[i]? = some u∧RelV x u
 | _,_,_,_,.nil,e=>by simp at e
 | _,_,0,_,.cons r _,e=>by simp at e;subst e;exact⟨_,rfl,r⟩
 | _,_,i+1,x,.cons _ t,e=>by
  obtain⟨u,h1,h2⟩:=Vals.get (i:=i) (x:=x) t (by simpa using e)
  exact⟨u,by simpa using h1,h2⟩
theorem Vals.set {x:V}{u:Value}(r:RelV x u):∀{xs:List V}{us:List Value}(i:Nat),Vals xs us→Vals (xs.set i x) (us.set i u)
 | _,_,_,.nil=>.nil
 | _,_,0,.cons _ t=>.cons r t
 | _,_,i+1,.cons q t=>.cons q (Vals.set r i t)
theorem Vals.append:∀{xs ys:List V}{us ws:List Value},Vals xs us→Vals ys ws→Vals (xs++ys) (us++ws)
 | _,_,_,_,.nil,s=>s
 | _,_,_,_,.cons r t,s=>.cons r (Vals.append t s)
theorem Vals.take:∀{xs:List V}{us:List Value}(n:Nat),Vals xs us→Vals (xs.take n) (us.take n)
 | _,_,0,_=>.nil
 | _,_,_+1,.nil=>.nil
 | _,_,n+1,.cons r t=>.cons r (Vals.take n t)
theorem Vals.drop:∀{xs:List V}{us:List Value}(n:Nat),Vals xs us→Vals (xs.drop n) (us.drop n)
 | _,_,0,r=>r
 | _,_,_+1,.nil=>.nil
 | _,_,n+1,.cons _ t=>Vals.drop n t
def RelO:Option V→Option Value→Prop
 | some v,some u=>RelV v u
 | none,none=>True
 | _,_=>False
def KV {κ:Type}:List (κ×V)→List (κ×Value)→Prop:=Paired fun(p:κ×V) (q:κ×Value)=>p.1=q.1∧RelV p.2 q.2
def kV:Key→V
 | .inl i=>.int i
 | .inr x=>.str x
inductive HO where
 | lst (xs:List V)
 | tup (xs:List V)
 | dK (kvs:List (Key×V))|dT (kvs:List (List Key×V))
 | set (S:Int→Bool) (n:Nat)
 | ins (C dx:Addr) (fs:List (Str×V))
 | own (x:Addr)
 | xd (fs:List (Str×V))
 | met (f x:Addr)
 | rng (lo hi:Int)
 | frz (o:Obj) (u:HO)
 | tbl (ps:Array Value)
 | ext (φ:Heap→Prop)
abbrev Hp:=Addr→Option HO
def upd (H:Hp) (a:Addr) (o:HO):Hp:=fun b=>if b=a then some o else H b
theorem upd_same {H:Hp}{a:Addr}{o:HO}:upd H a o a=some o:=by unfold upd;rw[if_pos rfl]
theorem upd_ne {H:Hp}{a b:Addr}{o:HO}(h:b≠a):upd H a o b=H b:=by unfold upd;rw[if_neg h]
theorem ne_of {H:Hp}{a b:Addr}{o u:HO}(h:H a=some o) (h':H b=some u) (d:o≠u):a≠b:=by
 intro e;subst e;rw[h]at h';exact d (Option.some.inj h')
theorem ne_of_none {H:Hp}{a b:Addr}{o:HO}(h:H a=some o) (h':H b=none):a≠b:=by
 intro e;subst e;rw[h]at h';cases h'
section
variable (P:Program) (w:World)
def ObjOk (H:Hp) (h:Heap) (a:Addr):HO→Prop
 | .lst xs=>xs.length≤sizeLine∧∃(its:List Value) (n:Nat),Vals xs its∧h.get? a=some { cls:=.type "list",data:=.seq its.toArray n }
 | .tup xs=>xs.length≤sizeLine∧∃its:List Value,Vals xs its∧IsTup h a its.toArray
 | .dK kvs=>kvs.length≤sizeLine∧(a == sysModules)=false∧∃vs,KV kvs vs∧h.DictOf (mixKind P w) a vs
 | .dT kvs=>kvs.length≤sizeLine∧(a == sysModules)=false∧∃xs:List (List Key×Addr×Value),
   Paired (fun(p:List Key×V) (q:List Key×Addr×Value)=>p.1=q.1∧H q.2.1=some (.tup (p.1.map kV))∧RelV p.2 q.2.2) kvs xs ∧
   ∃o es ep,h.get? a=some o∧o.ExactDict∧o.data = .dict es ep∧es.toList=xs.map (entryOfKey (tupleKind (mixKind P w)))∧(xs.map (·.1)).Nodup
 | .set S n=>h.SetOf (intKind P w) a S n
 | .ins C dx fs=>H dx=some (.own a)∧fs.length≤1000∧dx≠a∧h.get? a=some (PySem.W.instObj C dx) ∧
   ∃mA,h.Ns1 dx mA∧(∀f,RelO (fs.lookup f) (mA f))∧PySem.Within mA (fs.map (·.1))
 | .own _=>∃o,h.get? a=some o
 | .xd fs=>∃mA,h.Ns1 a mA∧∀f,RelO (fs.lookup f) (mA f)
 | .rng lo hi=>∃t u v,h.get? a=some { cls:=.type "range",data:=.fields #[.int lo t,.int hi u,.int 1 v] }
 | .frz o u=>h.get? a=some o∧ObjOk H h a u
 | .tbl ps=>h.get? a=some { cls:=.none,data:=.fields ps }
 | .met f x=>h.get? a=some (PySem.W.methodObj (.ref f) (.ref x))
 | .ext φ=>φ h∧(∃o,h.get? a=some o)∧∀h1 h2:Heap,φ h1→(∀o,h1.get? a=some o→h2.get? a=some o)→φ h2
def HOk (H:Hp) (h:Heap):Prop:=∀a o,H a=some o→ObjOk P w H h a o
end
section
variable {P:Program}{w:World}{H H':Hp}{h h':Heap}{a:Addr}{o:HO}
theorem ObjOk.lt (x:ObjOk P w H h a o):a<h.objs.size:=by
 cases o with
 | lst xs=>obtain⟨_,_,_,_,e⟩:=x;exact Heap.lt_size e
 | tup xs=>obtain⟨_,_,_,p⟩:=x;exact p.lt
 | dK kvs=>obtain⟨_,_,_,_,o,_,_,e,_⟩:=x;exact Heap.lt_size e
 | dT kvs=>obtain⟨_,_,_,_,o,_,_,e,_⟩:=x;exact Heap.lt_size e
 | set S n=>obtain⟨o,_,_,_,e,_⟩:=x;exact Heap.lt_size e
 | ins C dx fs=>obtain⟨_,_,_,e,_⟩:=x;exact Heap.lt_size e
 | own y=>obtain⟨_,e⟩:=x;exact Heap.lt_size e
 | xd fs=>obtain⟨_,⟨_,_,_,e,_⟩,_⟩:=x;exact Heap.lt_size e
 | rng lo hi=>obtain⟨_,_,_,e⟩:=x;exact Heap.lt_size e
 | frz ob u=>obtain⟨e,_⟩:=x;exact Heap.lt_size e
 | tbl ps=>exact Heap.lt_size (show h.get? a=some _ from x)
 | met f y=>exact Heap.lt_size (show h.get? a=some _ from x)
 | ext φ=>obtain⟨_,⟨_,e⟩,_⟩:=x;exact Heap.lt_size e
theorem Paired.mapP {α β:Type}{F G:α→β→Prop}:∀{l₁:List α}{l₂:List β},Paired F l₁ l₂→(∀a b,F a b→G a b)→Paired G l₁ l₂
 | _,_,.nil,_=>.nil
 | _,_,.cons r t,f=>.cons (f _ _ r) (Paired.mapP t f)
theorem ObjOk.stay (x:ObjOk P w H h a o) (k:∀b u,(b=a∨H b=some (.own a))→h.get? b=some u→h'.get? b=some u)
  (ho:∀b,H b=some (.own a)→H' b=some (.own a)) (ht:∀b xs,H b=some (.tup xs)→H' b=some (.tup xs)):ObjOk P w H' h' a o:=by
 induction o with
 | lst xs=>obtain⟨z,its,n,r,e⟩:=x;exact⟨z,its,n,r,k _ _ (.inl rfl) e⟩
 | tup xs=>obtain⟨z,its,r,ob,e,c⟩:=x;exact⟨z,its,r,ob,k _ _ (.inl rfl) e,c⟩
 | dK kvs=>obtain⟨z,y,vs,r,ob,es,ep,e,c⟩:=x;exact⟨z,y,vs,r,ob,es,ep,k _ _ (.inl rfl) e,c⟩
 | dT kvs =>
  obtain⟨z,y,xs,r,ob,es,ep,e,c⟩:=x
  exact⟨z,y,xs,Paired.mapP r fun p q z=>⟨z.1,ht _ _ z.2.1,z.2.2⟩,ob,es,ep,k _ _ (.inl rfl) e,c⟩
 | set S n=>obtain⟨ob,es,ep,t,e,c⟩:=x;exact⟨ob,es,ep,t,k _ _ (.inl rfl) e,c⟩
 | ins C dx fs =>
  obtain⟨d,z,ne,e,mA,⟨od,es,ep,e2,c⟩,r⟩:=x
  exact⟨ho _ d,z,ne,k _ _ (.inl rfl) e,mA,⟨od,es,ep,k _ _ (.inr d) e2,c⟩,r⟩
 | own y=>obtain⟨ob,e⟩:=x;exact⟨ob,k _ _ (.inl rfl) e⟩
 | xd fs=>obtain⟨mA,⟨od,es,ep,e,c⟩,r⟩:=x;exact⟨mA,⟨od,es,ep,k _ _ (.inl rfl) e,c⟩,r⟩
 | rng lo hi=>obtain⟨t,u,v,e⟩:=x;exact⟨t,u,v,k _ _ (.inl rfl) e⟩
 | frz ob u ih=>obtain⟨e,q⟩:=x;exact⟨k _ _ (.inl rfl) e,ih q⟩
 | tbl ps =>
  have e:h.get? a=some { cls:=.none,data:=.fields ps }:=x
  show h'.get? a=some { cls:=.none,data:=.fields ps }
  exact k a _ (.inl rfl) e
 | met f y =>
  have e:h.get? a=some (PySem.W.methodObj (.ref f) (.ref y)):=x
  show h'.get? a=some (PySem.W.methodObj (.ref f) (.ref y))
  exact k a _ (.inl rfl) e
 | ext φ=>obtain⟨p,⟨o,e⟩,st⟩:=x;exact⟨st _ _ p fun o q=>k _ _ (.inl rfl) q,⟨o,k _ _ (.inl rfl) e⟩,st⟩
theorem HOk.lt (x:HOk P w H h) (e:H a=some o):a<h.objs.size:=(x a o e).lt
theorem HOk.fresh (x:HOk P w H h) (e:h.objs.size≤a):H a=none:=by
 cases q:H a with
 | none=>rfl
 | some u=>exact absurd (Nat.lt_of_lt_of_le (x.lt q) e) (Nat.lt_irrefl _)
theorem HOk.kept (x:HOk P w H h) (k:∀b u,h.get? b=some u→h'.get? b=some u):HOk P w H h':=fun a o e =>
 (x a o e).stay (fun b u _ q=>k b u q) (fun _ q=>q) fun _ _ q=>q
theorem HOk.laid (x:HOk P w H h) (k:∀b u,h.get? b=some u→h'.get? b=some u) (hp:h.objs.size≤a) (new:ObjOk P w (upd H a o) h' a o):HOk P w (upd H a o) h':=fun b u e=>by
 have hn:=x.fresh hp
 by_cases hb:b=a
 ·subst hb;rw[upd_same]at e;cases e;exact new
 ·rw[upd_ne hb]at e
  exact(x b u e).stay (fun c v _ q=>k c v q) (fun c q=>by rw[upd_ne (ne_of_none q hn)];exact q) fun c xs q=>by rw[upd_ne (ne_of_none q hn)];exact q
end
def Rd (H:Hp) (a:Addr) (u:HO):Prop:=H a=some u ∨ ∃o,H a=some (.frz o u)
theorem Rd.ok {P:Program}{w:World}{H:Hp}{h:Heap}{a:Addr}{u:HO}(r:Rd H a u) (x:HOk P w H h):ObjOk P w H h a u:=by
 rcases r with r|⟨o,r⟩
 ·exact x a u r
 ·obtain⟨_,q⟩:=x a _ r
  exact q
def Mut:Option HO→Prop
 | some (.lst _)=>True
 | some (.dK _)=>True
 | some (.dT _)=>True
 | some (.set _ _)=>True
 | some (.ins _ _ _)=>True
 | some (.ext _)=>True
 | _=>False
section
variable {P:Program}{w:World}{H:Hp}{h h':Heap}{x e:Addr}{o':HO}
theorem HOk.write (ok:HOk P w H h) (mu:Mut (H x)) (he:e=x∨H e=some (.own x)) (k:∀b u,b≠e→h.get? b=some u→h'.get? b=some u) (heo:∃u,h'.get? e=some u)
  (new:ObjOk P w (upd H x o') h' x o'):HOk P w (upd H x o') h':=fun b u q=>by
 have nown:∀c y,H c=some (.own y)→c≠x:=fun c y r z=>by subst z;rw[r]at mu;exact mu
 have ntup:∀c xs,H c=some (.tup xs)→c≠x:=fun c xs r z=>by subst z;rw[r]at mu;exact mu
 by_cases hb:b=x
 ·subst hb;rw[upd_same]at q;cases q;exact new
 ·rw[upd_ne hb]at q
  by_cases hbe:b=e
  ·have q':H b=some (.own x):=by
    rcases he with z|z
    ·exact absurd (hbe.trans z) hb
    ·rw[hbe];exact z
   rw[q]at q';cases q'
   obtain⟨v,hv⟩:=heo
   exact⟨v,by rw[hbe];exact hv⟩
  ·refine(ok b u q).stay (fun c v hc r=>k c v ?_ r) (fun c r=>by rw[upd_ne (nown c b r)];exact r) fun c xs r=>by rw[upd_ne (ntup c xs r)];exact r
   rcases hc with rfl|hc
   ·exact hbe
   ·rintro rfl
    rcases he with z|z
    ·exact nown c b hc z
    ·rw[hc]at z;cases z;exact hb rfl
end
structure Un (fs ex:List Addr) (H H':Hp) (h h':Heap):Prop where
 keep:∀b o,h.get? b=some o→H b=none→b∉fs→b∉ex→h'.get? b=some o
 slot:∀b o,h.get? b=some o→H b=none→b∈fs→b∉ex→∃sl,h'.get? b=some { o with slots:=sl }
 free:∀b o,h.get? b=some o→H b=none→b∉ex→H' b=none
 there:∀b o,h.get? b=some o→b∉ex→∃o',h'.get? b=some o'
 tups:∀b xs,H b=some (.tup xs)→H' b=some (.tup xs)
 frzs:∀b o u,H b=some (.frz o u)→H' b=some (.frz o u)
 tbls:∀b ps,H b=some (.tbl ps)→∃more,H' b=some (.tbl (ps++more))
section
variable {fs fs' ex ex':List Addr}{H H1 H2:Hp}{h h1 h2 h':Heap}{a x e:Addr}{o:HO}
theorem Un.any (u:Un fs ex H H1 h h1) {b:Addr}{ob:Obj}(q:h.get? b=some ob) (n:H b=none) (hx:b∉ex):∃sl,h1.get? b=some { ob with slots:=sl }:=by
 by_cases hb:b∈fs
 ·exact u.slot b ob q n hb hx
 ·exact⟨ob.slots,u.keep b ob q n hb hx⟩
theorem Un.kept (k:∀b u,h.get? b=some u→h'.get? b=some u):Un fs ex H H h h' :=
 ⟨fun b ob q _ _ _=>k b ob q,fun b ob q _ _ _=>⟨ob.slots,k b ob q⟩,fun _ _ _ n _=>n,fun b ob q _=>⟨ob,k b ob q⟩,fun _ _ q=>q,fun _ _ _ q=>q,fun _ ps q=>⟨#[],by rw[q];simp⟩⟩
theorem Un.refl:Un fs ex H H h h:=Un.kept fun _ _ q=>q
theorem Un.laid (k:∀b u,h.get? b=some u→h'.get? b=some u) (hp:h.objs.size≤a) (hn:H a=none):Un fs ex H (upd H a o) h h' where
 keep:=fun b u q _ _ _=>k b u q
 slot:=fun b u q _ _ _=>⟨u.slots,k b u q⟩
 free:=fun b u q n _=>by rw[upd_ne (Nat.ne_of_lt (Nat.lt_of_lt_of_le (Heap.lt_size q) hp))];exact n
 there:=fun b u q _=>⟨u,k b u q⟩
 tups:=fun b xs q=>by rw[upd_ne (ne_of_none q hn)];exact q
 frzs:=fun b u xs q=>by rw[upd_ne (ne_of_none q hn)];exact q
 tbls:=fun b ps q=>⟨#[],by rw[upd_ne (ne_of_none q hn),q];simp⟩
theorem Un.write (mu:Mut (H x)) (he:e=x∨H e=some (.own x)) (k:∀b u,b≠e→h.get? b=some u→h'.get? b=some u) (heo:∃u,h'.get? e=some u):Un fs ex H (upd H x o) h h':=by
 have hx:∀b,H b=none→b≠x:=fun b n z=>by subst z;rw[n]at mu;exact mu
 have hb:∀b,H b=none→b≠e:=fun b n z=>by
  subst z
  rcases he with r|r
  ·exact hx b n r
  ·rw[n]at r;cases r
 have hm:∀b u,H b=some u→¬ Mut (some u)→b≠x:=fun b u q nm z=>by subst z;rw[q]at mu;exact nm mu
 refine⟨fun b u q n _ _=>k b u (hb b n) q,fun b u q n _ _=>⟨u.slots,k b u (hb b n) q⟩,fun b u q n _=>by rw[upd_ne (hx b n)];exact n,fun b u q _=>?_,
  fun b xs q=>by rw[upd_ne (hm b _ q fun z=>z)];exact q,fun b u xs q=>by rw[upd_ne (hm b _ q fun z=>z)];exact q,fun b ps q=>⟨#[],by rw[upd_ne (hm b _ q fun z=>z),q];simp⟩⟩
 by_cases hbe:b=e
 ·subst hbe;exact heo
 ·exact⟨u,k b u hbe q⟩
end
def trk (h:Heap) (H:Hp):List Addr:=(List.range h.objs.size).filter fun a=>(H a).isSome
def hidT (h:Heap) (H:Hp):Heap:=PySem.W.hideAll h (trk h H)
theorem hidT_size (h:Heap) (H:Hp):(hidT h H).objs.size=h.objs.size:=PySem.W.hideAll_size _ _
theorem hidT_get {h:Heap}{H:Hp}{b:Addr}{o:Obj}(e:h.get? b=some o) (n:H b=none):(hidT h H).get? b=some o :=
 PySem.W.hideAll_get _ e fun hm=>by
  have q:(H b).isSome=true:=(List.mem_filter.mp hm).2
  rw[n]at q;simp at q
theorem of_hidT {h:Heap}{H:Hp}{b:Addr}{o:Obj}(e:(hidT h H).get? b=some o):h.get? b=some o∧H b=none:=by
 have e':h.get? b=some o:=PySem.W.of_hideAll (trk h H) e
 refine⟨e',?_⟩
 cases q:H b with
 | none=>rfl
 | some x =>
  have hm:b∈trk h H:=List.mem_filter.mpr ⟨List.mem_range.mpr (Heap.lt_size e'),by simp[q]⟩
  have z:(hidT h H).get? b=none:=PySem.W.hideAll_none (trk h H) hm
  rw[z]at e;cases e
def allNews (g h:Heap) (L:Addr):List (Addr×Obj):=(List.range h.objs.size).filterMap fun a=>if a=L ∨(g.get? a).isSome=true then none else(h.get? a).map fun o=>(a,o)
def rest (g h:Heap) (L d:Addr):List (Addr×Obj):=(allNews g h L).filter fun p=>decide (p.1≠d)
structure Mod (K:PySem.W.Frag) (mg:Str→Option Value) (base:Heap):Prop where
 kin:K.In base
 glob:base.Ns mainGlobals mg
 blt:∃mb,base.Ns builtinsNs mb∧∀x:Str,x ≠ "__name__"→mb x=bootBuiltins x
 nolimit:base.NoLimit
structure Cx where
 prog:Program
 w:World
 K:PySem.W.Frag
 mg:Str→Option Value
 base:Heap
 A:Around
 N:List Str
 s₀:Shared
 H₀:Hp
 env:Env
 outer:List Env
 stack:List Env
 ex:List Addr
 fn:Str→Bool
 calm:Bool
 pn:List (Addr×Obj)
 xe:Value→Shared→Prop
def frs (l:List Env):List Addr:=l.filterMap (·.frame)
abbrev Cx.fs (X:Cx):List Addr:=frs X.outer
def Vis (sc:Scope) (x:Str):Prop:=sc.names.lookup x=some .local∨sc.names.lookup x=some .cell∨sc.names.lookup x=some .free
def Loc (sc:Scope) (x:Str):Prop:=sc.names.lookup x=some .local∨sc.names.lookup x=some .cell
def Look (env:Env) (h:Heap) (m:Str→Option Value) (x:Str) (u:Value):Prop :=
 (env.kindOf x=some .local∧m x=some u) ∨((env.kindOf x=some .cell∨env.kindOf x=some .free)∧∃c,env.cells.lookup x=some c∧h.IsCell c (some u))
structure Cx.Ok (X:Cx):Prop where
 mod:Mod X.K X.mg X.base
 kind:X.env.scope.kind = .function
 glob:X.env.globals=mainGlobals
 blt:X.env.builtins=builtinsNs
 above:X.s₀.heap.objs.size≤X.env.locals
 inj:∀x y c,X.env.cells.lookup x=some c→X.env.cells.lookup y=some c→x=y
 has:∀x,(X.env.kindOf x=some .cell∨X.env.kindOf x=some .free)→∃c,X.env.cells.lookup x=some c
 cab:∀x c,X.fn x=true→X.env.cells.lookup x=some c→X.s₀.heap.objs.size≤c
 hd:X.calm=true→X.A.handled=none
 frames:X.A.frames=some X.stack
 stk:X.stack=X.outer ∨(X.stack=X.env::X.outer∧X.env.frame=some X.env.locals)
 exf:∀b∈X.ex,b≠X.env.locals∧∀x c,X.env.cells.lookup x=some c→c≠b
 bs:∀b o,X.base.get? b=some o→X.s₀.heap.get? b=some o∧X.H₀ b=none
 bsz:X.base.objs.size≤X.s₀.heap.objs.size
 noex:∀b o,X.base.get? b=some o→b∉X.ex
 exfs:∀b∈X.ex,b∉X.fs
 funs:X.s₀.heap.FunFrames X.base X.outer
 frf:∀b∈X.fs,X.H₀ b=none
structure Inv (X:Cx) (pins:List (Addr×Obj)) (σ:List (Option V)) (H:Hp) (s:Shared):Prop where
 ok:X.Ok
 os:s.os=X.s₀.os
 bare:AllBare s.gens
 base:Un X.fs X.ex X.H₀ H X.s₀.heap s.heap
 loc:∃m,s.heap.Ns X.env.locals m∧∀(i:Nat) (x:Str) (v:V),X.N[i]? = some x→σ[i]? = some (some v)→Vis X.env.scope x→∃u,RelV v u∧Look X.env s.heap m x u
 cell:∀x c,X.env.cells.lookup x=some c→∃v,s.heap.IsCell c v
 free:H X.env.locals=none
 freeC:∀x c,X.env.cells.lookup x=some c→H c=none
 pin:∀p∈X.pn++pins,s.heap.get? p.1=some p.2∧H p.1=none∧p.1≠X.env.locals∧p.1∉X.fs∧∀v,p.2.data ≠ .cell v
 hok:HOk X.prog X.w H s.heap
 len:σ.length=X.N.length
section
variable {X:Cx}{pins:List (Addr×Obj)}{σ:List (Option V)}{H H':Hp}{s:Shared}{h':Heap}
theorem Cx.Ok.nofr (ok:X.Ok) {b:Addr}{o:Obj}(e:X.base.get? b=some o):b∉X.fs:=fun hb=>by
 have:=(ok.funs.mem hb).1
 rw[e]at this;cases this
theorem Inv.bs (I:Inv X pins σ H s):∀b o,X.base.get? b=some o→s.heap.get? b=some o∧H b=none:=fun b o e =>
 ⟨I.base.keep b o (I.ok.bs b o e).1 (I.ok.bs b o e).2 (I.ok.nofr e) (I.ok.noex b o e),I.base.free b o (I.ok.bs b o e).1 (I.ok.bs b o e).2 (I.ok.noex b o e)⟩
theorem Inv.bk (I:Inv X pins σ H s):∀b o,X.base.get? b=some o→s.heap.get? b=some o:=fun b o e=>(I.bs b o e).1
theorem Inv.mod (I:Inv X pins σ H s):Mod X.K X.mg X.base:=I.ok.mod
theorem Inv.kIn (I:Inv X pins σ H s):X.K.In s.heap:=I.ok.mod.kin.keeps I.bk
theorem Inv.lt (I:Inv X pins σ H s):X.env.locals<s.heap.objs.size:=let ⟨_,hn,_⟩:=I.loc;hn.lt
theorem Inv.sz (I:Inv X pins σ H s):X.s₀.heap.objs.size≤s.heap.objs.size:=Nat.le_trans I.ok.above (Nat.le_of_lt I.lt)
theorem Inv.nofs (I:Inv X pins σ H s) {a:Addr}(h:s.heap.objs.size≤a):a∉X.fs:=fun hb=>by
 obtain⟨_,o,ho,_⟩:=I.ok.funs.mem hb
 exact absurd (Nat.lt_of_lt_of_le (Heap.lt_size ho) (Nat.le_trans I.sz h)) (Nat.lt_irrefl _)
theorem Inv.cne (I:Inv X pins σ H s):∀x c,X.env.cells.lookup x=some c→c≠X.env.locals:=fun x c e z=>by
 obtain⟨v,o,ho,hd⟩:=I.cell x c e
 obtain⟨m,⟨o',es,ep,ho',hd',_⟩,_⟩:=I.loc
 rw[z,ho']at ho;cases ho;rw[hd']at hd;cases hd
theorem Inv.funs (I:Inv X pins σ H s):s.heap.FunFrames X.base X.outer:=by
 have all:∀(l:List Env),(∀b∈frs l,b∈X.fs)→X.s₀.heap.FunFrames X.base l→s.heap.FunFrames X.base l:=by
  intro l
  induction l with
  | nil=>intro _ _;trivial
  | cons env r ih =>
   intro hs hl
   obtain⟨hk,⟨L,o,hf,hn,ho,hd⟩,hr⟩:=hl
   have hL:L∈X.fs:=hs L (by unfold frs;rw[List.filterMap_cons,hf];exact List.mem_cons_self)
   obtain⟨sl,e⟩:=I.base.slot L o ho (I.ok.frf L hL) hL fun z=>I.ok.exfs L z hL
   exact⟨hk,⟨L,_,hf,hn,e,hd⟩,ih (fun b hb=>hs b (by unfold frs;rw[List.filterMap_cons,hf];exact List.mem_cons_of_mem _ hb)) hr⟩
 exact all X.outer (fun _ hb=>hb) I.ok.funs
theorem Inv.stack (I:Inv X pins σ H s):s.heap.FunFrames X.base X.stack:=by
 rcases I.ok.stk with e|⟨e,hf⟩
 ·rw[e];exact I.funs
 ·rw[e]
  obtain⟨m,hn,_⟩:=I.loc
  refine .cons (by rw[I.ok.kind];decide) hf hn ?_ I.funs
  exact Heap.get?_none_of_le (Nat.le_trans I.ok.bsz I.ok.above)
theorem Inv.stkSub (I:Inv X pins σ H s):∀b∈frs X.stack,b∈X.env.locals::X.fs:=fun b hb=>by
 rcases I.ok.stk with e|⟨e,hf⟩
 ·rw[e]at hb;exact List.mem_cons_of_mem _ hb
 ·rw[e]at hb
  unfold frs at hb
  rw[List.filterMap_cons,hf]at hb
  exact hb
theorem Inv.stkFree (I:Inv X pins σ H s):∀b∈frs X.stack,H b=none:=fun b hb=>by
 rcases List.mem_cons.mp (I.stkSub b hb) with e|hb
 ·rw[e];exact I.free
 ·obtain⟨_,o,ho,_⟩:=I.ok.funs.mem hb
  exact I.base.free b o ho (I.ok.frf b hb) fun z=>I.ok.exfs b z hb
theorem Inv.step {g':Array GenState}{t':Nat}{d':Drawn}{ch:List Addr}(I:Inv X pins σ H s)
  (hch:∀b∈ch,(b∈X.ex∨X.s₀.heap.objs.size≤b)∧b≠X.env.locals∧(∀x c,X.env.cells.lookup x=some c→c≠b)∧∀p∈X.pn++pins,p.1≠b)
  (keep:∀b o,b≠X.env.locals→b∉X.fs→b∉ch→s.heap.get? b=some o→H b=none→h'.get? b=some o)
  (slot:∀b o,b≠X.env.locals→b∈X.fs→b∉ch→s.heap.get? b=some o→H b=none→∃sl,h'.get? b=some { o with slots:=sl }) (free:∀b o,b∉ch→s.heap.get? b=some o→H b=none→H' b=none)
  (there:∀b o,b∉ch→s.heap.get? b=some o→∃o',h'.get? b=some o')
  (tups:∀b xs,H b=some (.tup xs)→H' b=some (.tup xs)) (frzs:∀b o u,H b=some (.frz o u)→H' b=some (.frz o u)) (tbls:∀b ps,H b=some (.tbl ps)→∃more,H' b=some (.tbl (ps++more)))
  (ns:∀m,s.heap.Ns X.env.locals m→h'.Ns X.env.locals m) (hok:HOk X.prog X.w H' h') (hg:AllBare g') :
  Inv X pins σ H' { s with heap:=h',gens:=g',drawn:=d',toks:=t' }:=by
 have neL:∀b o,X.s₀.heap.get? b=some o→b≠X.env.locals:=fun b o e=>Nat.ne_of_lt (Nat.lt_of_lt_of_le (Heap.lt_size e) I.ok.above)
 have neC:∀b o,X.s₀.heap.get? b=some o→b∉X.ex→b∉ch:=fun b o e hx hb=>by
  rcases(hch b hb).1 with z|z
  ·exact hx z
  ·exact absurd (Nat.lt_of_lt_of_le (Heap.lt_size e) z) (Nat.lt_irrefl _)
 have cellK:∀x c,X.env.cells.lookup x=some c→∀v,s.heap.IsCell c v→h'.IsCell c v:=fun x c e v ⟨o,ho,hd⟩=>by
  have nch:c∉ch:=fun z=>(hch c z).2.2.1 x c e rfl
  by_cases hc:c∈X.fs
  ·obtain⟨sl,q⟩:=slot c o (I.cne x c e) hc nch ho (I.freeC x c e)
   exact⟨_,q,hd⟩
  ·exact⟨o,keep c o (I.cne x c e) hc nch ho (I.freeC x c e),hd⟩
 refine⟨I.ok,I.os,hg,⟨fun b o e n hb hx=>?_,fun b o e n hb hx=>?_,fun b o e n hx=>?_,fun b o e hx=>?_,fun b xs e=>tups b xs (I.base.tups b xs e),fun b o xs e=>frzs b o xs (I.base.frzs b o xs e),fun b ps e=>?_⟩,?_,fun x c e=>?_,?_,fun x c e=>?_,fun p hp=>?_,hok,I.len⟩
 ·exact keep b o (neL b o e) hb (neC b o e hx) (I.base.keep b o e n hb hx) (I.base.free b o e n hx)
 ·obtain⟨sl,e1⟩:=I.base.slot b o e n hb hx
  obtain⟨sl',e2⟩:=slot b _ (neL b o e) hb (neC b o e hx) e1 (I.base.free b o e n hx)
  exact⟨sl',e2⟩
 ·obtain⟨o',e1⟩:=I.base.there b o e hx
  exact free b o' (neC b o e hx) e1 (I.base.free b o e n hx)
 ·obtain⟨o',e1⟩:=I.base.there b o e hx
  exact there b o' (neC b o e hx) e1
 ·obtain⟨m1,e1⟩:=I.base.tbls b ps e
  obtain⟨m2,e2⟩:=tbls b _ e1
  exact⟨m1++m2,by rw[e2,Array.append_assoc]⟩
 ·obtain⟨m,hn,hl⟩:=I.loc
  refine⟨m,ns m hn,fun i x v e1 e2 e3=>?_⟩
  obtain⟨u,r,l⟩:=hl i x v e1 e2 e3
  refine⟨u,r,?_⟩
  rcases l with l|⟨k,c,e,z⟩
  ·exact .inl l
  ·exact .inr ⟨k,c,e,cellK x c e _ z⟩
 ·obtain⟨v,z⟩:=I.cell x c e
  exact⟨v,cellK x c e v z⟩
 ·obtain⟨m,⟨o,_,_,ho,_⟩,_⟩:=I.loc
  exact free _ o (fun z=>(hch _ z).2.1 rfl) ho I.free
 ·obtain⟨v,o,ho,hd⟩:=I.cell x c e
  exact free c o (fun z=>(hch c z).2.2.1 x c e rfl) ho (I.freeC x c e)
 ·obtain⟨e,n,ne,nf,d⟩:=I.pin p hp
  have nch:p.1∉ch:=fun z=>(hch p.1 z).2.2.2 p hp rfl
  exact⟨keep p.1 p.2 ne nf nch e n,free p.1 p.2 nch e n,ne,nf,d⟩
theorem Inv.un {t':Nat}(I:Inv X pins σ H s) (u:Un X.fs [] H H' s.heap h') (hok:HOk X.prog X.w H' h'):Inv X pins σ H' { s with heap:=h',toks:=t' }:=by
 obtain⟨m,⟨o,es,ep,ho,r⟩,_⟩:=id I.loc
 obtain⟨sl,hL⟩:=u.any ho I.free (by simp)
 exact I.step (g':=s.gens) (d':=s.drawn) (ch:=[]) (fun _ z=>nomatch z) (fun b o _ hb _ e n=>u.keep b o e n hb (by simp)) (fun b o _ hb _ e n=>u.slot b o e n hb (by simp)) (fun b o _ e n=>u.free b o e n (by simp)) (fun b o _ e=>u.there b o e (by simp)) u.tups u.frzs u.tbls (fun m' hm=>by
  obtain⟨o',es',ep',ho',r'⟩:=hm
  rw[ho]at ho';cases ho'
  exact⟨_,es',ep',hL,r'⟩) hok I.bare
theorem Inv.call {g':Array GenState}{t':Nat}{d':Drawn}{ch:List Addr}(I:Inv X pins σ H s) (u:Un (frs X.stack) ch H H' s.heap h') (hok:HOk X.prog X.w H' h') (hg:AllBare g')
  (hch:∀b∈ch,(b∈X.ex∨X.s₀.heap.objs.size≤b)∧b≠X.env.locals∧(∀x c,X.env.cells.lookup x=some c→c≠b)∧∀p∈X.pn++pins,p.1≠b) :
  Inv X pins σ H' { s with heap:=h',gens:=g',drawn:=d',toks:=t' }:=by
 obtain⟨m,⟨o,es,ep,ho,r⟩,_⟩:=id I.loc
 obtain⟨sl,hL⟩:=u.any ho I.free fun z=>(hch _ z).2.1 rfl
 exact I.step (ch:=ch) hch (fun b o hL hb hc e n=>u.keep b o e n (fun z=>(List.mem_cons.mp (I.stkSub b z)).elim hL hb) hc) (fun b o _ _ hc e n=>u.any e n hc) (fun b o hc e n=>u.free b o e n hc) (fun b o hc e=>u.there b o e hc) u.tups u.frzs u.tbls (fun m' hm=>by
  obtain⟨o',es',ep',ho',r'⟩:=hm
  rw[ho]at ho';cases ho'
  exact⟨_,es',ep',hL,r'⟩) hok hg
theorem Inv.turned {t':Nat}{it:Addr}(I:Inv X pins σ H s) (k:∀b o,b≠it→s.heap.get? b=some o→h'.get? b=some o) (hn:H it=none) (hL:it≠X.env.locals)
  (h1:it∈X.ex∨X.s₀.heap.objs.size≤it) (h2:∀x c,X.env.cells.lookup x=some c→c≠it) (h3:∀p∈X.pn++pins,p.1≠it):Inv X pins σ H { s with heap:=h',toks:=t' }:=by
 have nit:∀b u,H b=some u→b≠it:=fun b u e z=>by rw[z,hn]at e;cases e
 refine I.step (g':=s.gens) (d':=s.drawn) (ch:=[it]) (fun b hb=>?_) (fun b o _ _ hc e _=>k b o (fun z=>hc (by simp[z])) e) (fun b o _ _ hc e _=>⟨o.slots,k b o (fun z=>hc (by simp[z])) e⟩) (fun _ _ _ _ n=>n)
  (fun b o hc e=>⟨o,k b o (fun z=>hc (by simp[z])) e⟩) (fun _ _ e=>e) (fun _ _ _ e=>e) (fun b ps e=>⟨#[],by rw[e];simp⟩) (fun m hm=>?_) (fun b u e=>?_) I.bare
 ·have e:b=it:=by simpa using hb
  subst e
  exact⟨h1,hL,h2,h3⟩
 ·obtain⟨o,es,ep,ho,r⟩:=hm
  exact⟨o,es,ep,k _ o (Ne.symm hL) ho,r⟩
 ·refine(I.hok b u e).stay (fun c v hc q=>k c v ?_ q) (fun _ q=>q) fun _ _ q=>q
  rcases hc with z|z
  ·rw[z];exact nit b u e
  ·exact nit c _ z
theorem Inv.tok (I:Inv X pins σ H s) (t:Nat):Inv X pins σ H { s with toks:=t }:=I.un (h':=s.heap) (t':=t) Un.refl I.hok
theorem Inv.kept {t':Nat}(I:Inv X pins σ H s) (k:∀b u,s.heap.get? b=some u→h'.get? b=some u):Inv X pins σ H { s with heap:=h',toks:=t' }:=I.un (Un.kept k) (I.hok.kept k)
theorem Inv.laid {a:Addr}{o:HO}{t':Nat}(I:Inv X pins σ H s) (k:∀b u,s.heap.get? b=some u→h'.get? b=some u) (hp:s.heap.objs.size≤a) (new:ObjOk X.prog X.w (upd H a o) h' a o) :
  Inv X pins σ (upd H a o) { s with heap:=h',toks:=t' }:=I.un (Un.laid k hp (I.hok.fresh hp)) (I.hok.laid k hp new)
theorem Inv.write {x e:Addr}{o:HO}{t':Nat}(I:Inv X pins σ H s) (mu:Mut (H x)) (he:e=x∨H e=some (.own x)) (k:∀b u,b≠e→s.heap.get? b=some u→h'.get? b=some u) (heo:∃u,h'.get? e=some u)
  (new:ObjOk X.prog X.w (upd H x o) h' x o):Inv X pins σ (upd H x o) { s with heap:=h',toks:=t' }:=I.un (Un.write mu he k heo) (I.hok.write mu he k heo new)
theorem Inv.pins_of {pins':List (Addr×Obj)}(I:Inv X pins σ H s) (h:∀p∈pins',s.heap.get? p.1=some p.2∧H p.1=none∧p.1≠X.env.locals∧p.1∉X.fs∧∀v,p.2.data ≠ .cell v):Inv X pins' σ H s :=
 ⟨I.ok,I.os,I.bare,I.base,I.loc,I.cell,I.free,I.freeC,fun p hp=>(List.mem_append.mp hp).elim (fun z=>I.pin p (List.mem_append_left _ z)) (h p),I.hok,I.len⟩
theorem nodup_ix {N:List Str}(hN:N.Nodup) {i j:Nat}{x:Str}(a:N[i]? = some x) (b:N[j]? = some x):i=j:=by
 obtain⟨h1,e1⟩:=List.getElem?_eq_some_iff.mp a
 obtain⟨h2,e2⟩:=List.getElem?_eq_some_iff.mp b
 exact(List.getElem_inj hN).mp (e1.trans e2.symm)
theorem store_ok2 {M:Model}{A:Around}{E:Value→Shared→Prop}{i:Nat}{x:Str}{v:V}{u:Value}{Q:Unit→Shared→Prop}(I:Inv X pins σ H s) (hN:X.N.Nodup) (hi:X.N[i]? = some x) (hx:Loc X.env.scope x) (r:RelV v u)
  (h:∀s',Inv X pins (σ.set i (some v)) H s'→(∃a,Heap.SameBut a s.heap s'.heap∧(a=X.env.locals∨X.env.cells.lookup x=some a))→Q () s') (hf:X.fn x=true∨X.env.scope.names.lookup x=some .local:=by first|exact .inl rfl|exact .inr rfl|assumption):wpAny M A (storeName X.env x u) Q E s:=by
 obtain⟨m,hn,hl⟩:=id I.loc
 have hcls:(X.env.scope.kind == .class || (X.env.scope.kind == .module && X.env.locals != X.env.globals))=false:=by rw[I.ok.kind];rfl
 have hiσ:i<σ.length:=by rw[I.len];exact(List.getElem?_eq_some_iff.mp hi).1
 have cne:=I.cne
 have tracked:∀{a:Addr}{h':Heap},(∃o,s.heap.get? a=some o∧H a=none)→Heap.SameBut a s.heap h'→HOk X.prog X.w H h':=fun {a h'} ha hs b ob e=>by
  obtain⟨_,_,hfree⟩:=ha
  refine(I.hok b ob e).stay (fun c w' hc q=>(hs.2 c ?_).trans q) (fun _ q=>q) fun _ _ q=>q
  rintro rfl
  rcases hc with rfl|hc
  ·rw[hfree]at e;cases e
  ·rw[hfree]at hc;cases hc
 rcases hx with hk|hk
 ·refine wpAny_storeName_local hk hn (fun h' hn' hs=>?_) hcls
  obtain⟨oL,_,_,hoL,_⟩:=id hn
  refine h _ ⟨I.ok,I.os,I.bare,⟨fun b o e n hb hx=>?_,fun b o e n hb hx=>?_,I.base.free,fun b o e hx=>?_,I.base.tups,I.base.frzs,I.base.tbls⟩,⟨_,hn',fun j y v' e1 e2 e3=>?_⟩,fun y c e=>?_,I.free,I.freeC,fun p hp=>?_,tracked ⟨oL,hoL,I.free⟩ hs,by simpa using I.len⟩ ⟨_,hs,.inl rfl⟩
  ·exact(hs.2 b (Nat.ne_of_lt (Nat.lt_of_lt_of_le (Heap.lt_size e) I.ok.above))).trans (I.base.keep b o e n hb hx)
  ·obtain⟨sl,e1⟩:=I.base.slot b o e n hb hx
   exact⟨sl,(hs.2 b (Nat.ne_of_lt (Nat.lt_of_lt_of_le (Heap.lt_size e) I.ok.above))).trans e1⟩
  ·obtain⟨o',e1⟩:=I.base.there b o e hx
   exact⟨o',(hs.2 b (Nat.ne_of_lt (Nat.lt_of_lt_of_le (Heap.lt_size e) I.ok.above))).trans e1⟩
  ·by_cases hj:j=i
   ·subst hj
    rw[hi]at e1;cases e1
    rw[List.getElem?_set_self hiσ]at e2
    cases e2
    exact⟨u,r,.inl ⟨hk,by simp⟩⟩
   ·rw[List.getElem?_set_ne (Ne.symm hj)]at e2
    obtain⟨u',r',q⟩:=hl j y v' e1 e2 e3
    refine⟨u',r',?_⟩
    rcases q with⟨k,e⟩|⟨k,c,e,z⟩
    ·refine .inl ⟨k,?_⟩
     have:y≠x:=fun e=>hj (nodup_ix hN e1 (e ▸ hi))
     simp[this,e]
    ·exact .inr ⟨k,c,e,z.sameBut hs (cne y c e)⟩
  ·obtain⟨w',z⟩:=I.cell y c e
   exact⟨w',z.sameBut hs (cne y c e)⟩
  ·obtain⟨e,n,ne,nf,d⟩:=I.pin p hp
   exact⟨(hs.2 p.1 ne).trans e,n,ne,nf,d⟩
 ·have hfn:X.fn x=true:=by
   rcases hf with z|z
   ·exact z
   ·rw[z]at hk;cases hk
  obtain⟨c,hc⟩:=I.ok.has x (.inl hk)
  obtain⟨w',z⟩:=I.cell x c hc
  refine wpAny_storeName_cell I.ok.kind hk hc z (fun h' hc' hs=>?_)
  obtain⟨oc,hoc,hocd⟩:=id z
  refine h { s with heap:=h' } ⟨I.ok,I.os,I.bare,⟨fun b o e n hb hx=>?_,fun b o e n hb hx=>?_,I.base.free,fun b o e hx=>?_,I.base.tups,I.base.frzs,I.base.tbls⟩,⟨m,hn.sameBut hs (Ne.symm (cne x c hc)),fun j y v' e1 e2 e3=>?_⟩,fun y c' e=>?_,I.free,I.freeC,fun p hp=>?_,tracked ⟨oc,hoc,I.freeC x c hc⟩ hs,by simpa using I.len⟩ ⟨c,hs,.inr hc⟩
  ·exact(hs.2 b (Nat.ne_of_lt (Nat.lt_of_lt_of_le (Heap.lt_size e) (I.ok.cab x c hfn hc)))).trans (I.base.keep b o e n hb hx)
  ·obtain⟨sl,e1⟩:=I.base.slot b o e n hb hx
   exact⟨sl,(hs.2 b (Nat.ne_of_lt (Nat.lt_of_lt_of_le (Heap.lt_size e) (I.ok.cab x c hfn hc)))).trans e1⟩
  ·obtain⟨o',e1⟩:=I.base.there b o e hx
   exact⟨o',(hs.2 b (Nat.ne_of_lt (Nat.lt_of_lt_of_le (Heap.lt_size e) (I.ok.cab x c hfn hc)))).trans e1⟩
  ·by_cases hj:j=i
   ·subst hj
    rw[hi]at e1;cases e1
    rw[List.getElem?_set_self hiσ]at e2
    cases e2
    exact⟨u,r,.inr ⟨.inl hk,c,hc,hc'⟩⟩
   ·rw[List.getElem?_set_ne (Ne.symm hj)]at e2
    obtain⟨u',r',q⟩:=hl j y v' e1 e2 e3
    refine⟨u',r',?_⟩
    rcases q with q|⟨k,c',e,z'⟩
    ·exact .inl q
    ·refine .inr ⟨k,c',e,z'.sameBut hs ?_⟩
     rintro rfl
     exact hj (nodup_ix hN e1 (I.ok.inj _ _ _ e hc ▸ hi))
  ·by_cases hcc:c'=c
   ·subst hcc;exact⟨_,hc'⟩
   ·obtain⟨w2,z2⟩:=I.cell y c' e
    exact⟨w2,z2.sameBut hs hcc⟩
  ·obtain⟨e,n,ne,nf,d⟩:=I.pin p hp
   refine⟨(hs.2 p.1 ?_).trans e,n,ne,nf,d⟩
   intro q
   rw[q,hoc]at e
   have q':oc=p.2:=Option.some.inj e
   exact d w' (by rw[← q'];exact hocd)
theorem store_ok {M:Model}{A:Around}{E:Value→Shared→Prop}{i:Nat}{x:Str}{v:V}{u:Value}{Q:Unit→Shared→Prop}(I:Inv X pins σ H s) (hN:X.N.Nodup) (hi:X.N[i]? = some x) (hx:Loc X.env.scope x) (r:RelV v u)
  (h:∀s',Inv X pins (σ.set i (some v)) H s'→Q () s') (hf:X.fn x=true∨X.env.scope.names.lookup x=some .local:=by first|exact .inl rfl|exact .inr rfl|assumption):wpAny M A (storeName X.env x u) Q E s :=
 store_ok2 I hN hi hx r (fun s' I' _=>h s' I') hf
theorem Inv.call' {s':Shared}{ch:List Addr}(I:Inv X pins σ H s) (ho:s'.os=s.os) (u:Un (frs X.stack) ch H H' s.heap s'.heap) (hok:HOk X.prog X.w H' s'.heap) (hg:AllBare s'.gens)
  (hch:∀b∈ch,(b∈X.ex∨X.s₀.heap.objs.size≤b)∧b≠X.env.locals∧(∀x c,X.env.cells.lookup x=some c→c≠b)∧∀p∈X.pn++pins,p.1≠b):Inv X pins σ H' s':=by
 obtain⟨h',g',d',t',o'⟩:=s'
 have e:o'=s.os:=ho
 subst e
 exact I.call (g':=g') (t':=t') (d':=d') u hok hg hch
end
abbrev XK:=Value→Option Addr→Hp→Prop
abbrev St:=List (Option V)
abbrev VK:=V→Hp→Prop
abbrev TE:=St→Hp→VK→Prop
abbrev TT:=St→Hp→(Bool→Hp→Prop)→Prop
abbrev TA:=St→Hp→(List V→Hp→Prop)→Prop
structure Ends where
 nx:St→Hp→Prop
 rt:VK
 bk:St→Hp→Prop:=fun _ _=>False
 ct:St→Hp→Prop:=fun _ _=>False
abbrev TS:=Ends→St→Hp→Prop
def EP (X:Cx) (pins:List (Addr×Obj)) (σ:St) (Q:VK) (u:Value) (s':Shared):Prop:=∃v H',Inv X pins σ H' s'∧RelV v u∧Q v H'
def TP (X:Cx) (pins:List (Addr×Obj)) (σ:St) (Q:Bool→Hp→Prop) (b:Bool) (s':Shared):Prop:=∃H',Inv X pins σ H' s'∧Q b H'
def AP (X:Cx) (pins:List (Addr×Obj)) (σ:St) (Q:List V→Hp→Prop) (us:List Value) (s':Shared):Prop:=∃vs H',Inv X pins σ H' s'∧Vals vs us∧Q vs H'
def SP (X:Cx) (pins:List (Addr×Obj)) (D:Ends) (f:Flow) (s':Shared):Prop :=
 match f with
 | .next=>∃σ' H',Inv X pins σ' H' s'∧D.nx σ' H'
 | .brk=>∃σ' H',Inv X pins σ' H' s'∧D.bk σ' H'
 | .cont=>∃σ' H',Inv X pins σ' H' s'∧D.ct σ' H'
 | .ret u=>∃v σ' H',Inv X pins σ' H' s'∧RelV v u∧D.rt v H'
def PE (X:Cx) (e:Expr) (t:TE):Prop :=
 ∀(pins:List (Addr×Obj)) (s:Shared) (σ:St) (H:Hp) (Q:VK),Inv X pins σ H s→t σ H Q→wpAny (model X.prog X.w) X.A (eval e X.env) (EP X pins σ Q) X.xe s
def PT (X:Cx) (e:Expr) (t:TT):Prop :=
 ∀(pins:List (Addr×Obj)) (s:Shared) (σ:St) (H:Hp) (Q:Bool→Hp→Prop),Inv X pins σ H s→t σ H Q→wpAny (model X.prog X.w) X.A (isTrue e X.env (eval e X.env)) (TP X pins σ Q) X.xe s
def PW (X:Cx) (e:Expr) (t:TT):Prop :=
 ∀(whole:Sem Value) (pins:List (Addr×Obj)) (s:Shared) (σ:St) (H:Hp) (Q:Bool→Hp→Prop),Inv X pins σ H s→t σ H Q→wpAny (model X.prog X.w) X.A (isTrue e X.env whole) (TP X pins σ Q) X.xe s
theorem PW.pt {X:Cx}{e:Expr}{t:TT}(h:PW X e t):PT X e t:=h _
def PA (X:Cx) (es:List Expr) (t:TA):Prop :=
 ∀(pos:Pos) (pins:List (Addr×Obj)) (s:Shared) (σ:St) (H:Hp) (Q:List V→Hp→Prop),Inv X pins σ H s→t σ H Q→wpAny (model X.prog X.w) X.A (spliced (backTo pos (starEach es X.env))) (AP X pins σ Q) X.xe s
def PS (X:Cx) (st:Stmt) (t:TS):Prop :=
 ∀(pins:List (Addr×Obj)) (s:Shared) (σ:St) (H:Hp) (D:Ends),Inv X pins σ H s→t D σ H→wpAny (model X.prog X.w) X.A (exec st X.env) (SP X pins D) X.xe s
def PSs (X:Cx) (st:List Stmt) (t:TS):Prop :=
 ∀(pins:List (Addr×Obj)) (s:Shared) (σ:St) (H:Hp) (D:Ends),Inv X pins σ H s→t D σ H→wpAny (model X.prog X.w) X.A (execs st X.env) (SP X pins D) X.xe s
theorem thn {α:Type}{t:Sem α}{Q Q':α→Shared→Prop}{M:Model}{A:Around}{E:Value→Shared→Prop}{s:Shared}(h:wpAny M A t Q E s) (hQ:∀a s,Q a s→Q' a s):wpAny M A t Q' E s:=wpAny_mono h hQ fun _ _ x=>x
section
variable {X:Cx}
theorem bin {a b:Expr}{ta tb:TE}(ha:PE X a ta) (hb:PE X b tb) {pins:List (Addr×Obj)}{s:Shared}{σ:St}{H:Hp}{R:V→V→Hp→Prop}(I:Inv X pins σ H s) (h:ta σ H fun x H1=>tb σ H1 fun y H2=>R x y H2)
  {α:Type}{Q:α→Shared→Prop}{f:Value→Value→Sem α}
  (hf:∀v u s2 x y H2,Inv X pins σ H2 s2→RelV x v→RelV y u→R x y H2→wpAny (model X.prog X.w) X.A (f v u) Q X.xe s2) :
  wpAny (model X.prog X.w) X.A (eval a X.env) (fun v s₁=>wpAny (model X.prog X.w) X.A (eval b X.env) (fun u s₂=>wpAny (model X.prog X.w) X.A (f v u) Q X.xe s₂) X.xe s₁) X.xe s:=by
 refine thn (ha pins s σ H _ I h) fun v s1 ⟨x,H1,I1,r1,q1⟩=>?_
 refine thn (hb pins s1 σ H1 _ I1 q1) fun u s2 ⟨y,H2,I2,r2,q2⟩=>?_
 exact hf v u s2 x y H2 I2 r1 r2 q2
def tVar (i:Nat):TE:=fun σ H Q=>∃v,σ[i]? = some (some v)∧Q v H
def tC (v:V):TE:=fun _ H Q=>Q v H
theorem pe_var {i:Nat}{x:Str}{pos:Pos}(hN:X.N[i]? = some x) (hv:Vis X.env.scope x) (hd:(x ==("__debug__" : Str))=false:=by decide) (hcd:(x ==("__classdict__" : Str))=false:=by decide):PE X (.Name x pos) (tVar i):=by
 intro pins s σ H Q I h
 obtain⟨v,e,h⟩:=h
 obtain⟨m,hn,hl⟩:=I.loc
 obtain⟨u,r,l⟩:=hl i x v hN e hv
 have fin:EP X pins σ Q u s:=⟨v,H,I,r,h⟩
 rcases l with⟨hk,hm⟩|⟨hk,c,hc,hcell⟩
 ·exact wpAny_Name (wpAny_loadName_local I.ok.kind hk hn hm fin) hd
 ·rcases hk with hk|hk
  ·exact wpAny_Name (wpAny_loadName_cell I.ok.kind hk hc hcell fin) hd
  ·exact wpAny_Name (wpAny_loadName_free I.ok.kind hk hc hcell fin hcd) hd
theorem pe_int {i j pos}:PE X (.Constant (.int i) j pos) (tC (.int i)):=fun _ _ _ H _ I h=>wpAny_Constant_int ⟨.int i,H,I.tok _,⟨_,rfl⟩,h⟩
theorem pe_bl {b j pos}:PE X (.Constant (.bool b) j pos) (tC (.bl b)):=fun _ _ _ H _ I h=>Constant_bool ⟨.bl b,H,I,rfl,h⟩
theorem pe_non {j pos}:PE X (.Constant .none j pos) (tC .non):=fun _ _ _ H _ I h=>Constant_none ⟨.non,H,I,rfl,h⟩
theorem pe_str {x j pos}:PE X (.Constant (.str x) j pos) (tC (.str x)):=fun _ _ _ H _ I h=>Calls.Constant_str ⟨.str x,H,I.tok _,⟨_,rfl⟩,h⟩
def Gl (X:Cx) (x:Str):Prop:=X.env.kindOf x=some .globalImplicit
theorem ld_glob {E:Value→Shared→Prop}{pins:List (Addr×Obj)}{s:Shared}{σ:St}{H:Hp}{x:Str}{u:Value}{pos:Pos}{Q:Value→Shared→Prop}(I:Inv X pins σ H s) (hg:Gl X x) (hm:X.mg x=some u) (h:Q u s)
  (hd:(x ==("__debug__" : Str))=false:=by decide):wpAny (model X.prog X.w) X.A (eval (.Name x pos) X.env) Q E s :=
 Calls.Name_function_global I.ok.kind hg (Calls.loadGlobal_global (by rw[I.ok.glob];exact I.mod.glob.keeps I.bk) hm h) hd
theorem ld_blt {E:Value→Shared→Prop}{pins:List (Addr×Obj)}{s:Shared}{σ:St}{H:Hp}{x:Str}{u:Value}{pos:Pos}{Q:Value→Shared→Prop}(I:Inv X pins σ H s) (hg:Gl X x) (hm:X.mg x=none) (hv:bootBuiltins x=some u) (h:Q u s)
  (hn:x ≠ "__name__" := by decide) (hd:(x ==("__debug__" : Str))=false:=by decide):wpAny (model X.prog X.w) X.A (eval (.Name x pos) X.env) Q E s:=by
 obtain⟨mb,h1,h2⟩:=I.mod.blt
 exact Calls.Name_function_global I.ok.kind hg (Calls.loadGlobal_builtin (by rw[I.ok.glob];exact I.mod.glob.keeps I.bk) hm (by rw[I.ok.blt];exact h1.keeps I.bk) ((h2 x hn).trans hv) h) hd
theorem pe_glob {x:Str}{v:V}{u:Value}{pos:Pos}(hg:Gl X x) (hm:X.mg x=some u) (r:RelV v u) (hd:(x ==("__debug__" : Str))=false:=by decide):PE X (.Name x pos) (tC v) :=
 fun _ _ _ H _ I h=>ld_glob I hg hm ⟨v,H,I,r,h⟩ hd
theorem pe_bltn {x:Str}{v:V}{u:Value}{pos:Pos}(hg:Gl X x) (hm:X.mg x=none) (hv:bootBuiltins x=some u) (r:RelV v u) (hn:x ≠ "__name__" := by decide) (hd:(x ==("__debug__" : Str))=false:=by decide):PE X (.Name x pos) (tC v) :=
 fun _ _ _ H _ I h=>ld_blt I hg hm hv ⟨v,H,I,r,h⟩ hn hd
variable {a b:Expr}{ta tb:TE}{pos:Pos}
def PC (X:Cx) (op:CmpOp) (a b:Expr) (t:TE):Prop :=
 ∀(pins:List (Addr×Obj)) (s:Shared) (σ:St) (H:Hp) (Q:VK),Inv X pins σ H s→t σ H Q →
  wpAny (model X.prog X.w) X.A (eval a X.env) (fun v s₁=>wpAny (model X.prog X.w) X.A (eval b X.env) (fun u s₂=>wpAny (model X.prog X.w) X.A (compareOp op v u) (EP X pins σ Q) X.xe s₂) X.xe s₁) X.xe s
def tB (t:TE):TT:=fun σ H Q=>t σ H fun x H1=>∃c,x = .bl c∧Q c H1
theorem pt_cmp {op:CmpOp}{t:TE}(h:PC X op a b t) (h1:behindInMarks op b=false:=by first|exact nobehind _ (by decide) (by decide)|rfl):PT X (.Compare a [op] [b] pos) (tB t):=by
 intro pins s σ H Q I hw
 refine wpAny_isTrue_Compare1 (thn (h pins s σ H _ I hw) fun v s1 h1=>thn h1 fun u s2 h2=>thn h2 fun c s3 ⟨x,H1,I1,r1,q1⟩=>?_) h1
 obtain⟨d,rfl,q⟩:=q1
 cases r1
 exact wpAny_truthy_bool ⟨H1,I1,q⟩
theorem pt_val {e:Expr}{t:TE}(h:PE X e t) (he:∀whole,isTrue e X.env whole =(do let v ← whole;standAt e.pos;holding [v] (truthy v)):=by intro _;rfl):PT X e (tB t):=by
 intro pins s σ H Q I hw
 refine isTrue_plain (thn (h pins s σ H _ I hw) fun v s1 ⟨x,H1,I1,r1,q1⟩=>?_) (he _)
 obtain⟨d,rfl,q⟩:=q1
 cases r1
 exact wpAny_truthy_bool ⟨H1,I1,q⟩
variable {tA tB':TT}{rest:List Expr}
def tAnd (t u:TT):TT:=fun σ H Q=>t σ H fun c H1=>if c=true then u σ H1 Q else Q false H1
def tOr (t u:TT):TT:=fun σ H Q=>t σ H fun c H1=>if c=true then Q true H1 else u σ H1 Q
def tNot (t:TT):TT:=fun σ H Q=>t σ H fun c H1=>Q (!c) H1
theorem pw_and1 (ha:PT X a tA):PW X (.BoolOp .And [a] pos) tA:=by
 intro wh pins s σ H Q I h
 refine isTrue_and (thn (ha pins s σ H Q I h) fun c s1 e=>?_)
 cases c with
 | true=>exact isTrue_and_nil e
 | false=>exact e
theorem pw_or1 (ha:PT X a tA):PW X (.BoolOp .Or [a] pos) tA:=by
 intro wh pins s σ H Q I h
 refine isTrue_or (thn (ha pins s σ H Q I h) fun c s1 e=>?_)
 cases c with
 | false=>exact isTrue_or_nil e
 | true=>exact e
theorem pw_and (ha:PT X a tA) (hb:PW X (.BoolOp .And (b::rest) pos) tB'):PW X (.BoolOp .And (a::b::rest) pos) (tAnd tA tB'):=by
 intro wh pins s σ H Q I h
 refine isTrue_and (thn (ha pins s σ H _ I h) fun c s1 ⟨H1,I1,q1⟩=>?_)
 cases c with
 | true=>exact hb wh pins s1 σ H1 Q I1 q1
 | false=>exact⟨H1,I1,q1⟩
theorem pw_or (ha:PT X a tA) (hb:PW X (.BoolOp .Or (b::rest) pos) tB'):PW X (.BoolOp .Or (a::b::rest) pos) (tOr tA tB'):=by
 intro wh pins s σ H Q I h
 refine isTrue_or (thn (ha pins s σ H _ I h) fun c s1 ⟨H1,I1,q1⟩=>?_)
 cases c with
 | true=>exact⟨H1,I1,q1⟩
 | false=>exact hb wh pins s1 σ H1 Q I1 q1
theorem pt_not (ha:PT X a tA):PT X (.UnaryOp .Not a pos) (tNot tA):=by
 intro pins s σ H Q I h
 exact isTrue_not (ha pins s σ H (fun c H1=>Q (!c) H1) I h)
def tAndV (ta tb:TE):TE:=fun σ H Q=>ta σ H fun x H1=>∃c,x = .bl c∧if c=true then tb σ H1 Q else Q (.bl false) H1
def tNotV (ta:TE):TE:=fun σ H Q=>ta σ H fun x H1=>∃c,x = .bl c∧Q (.bl (!c)) H1
theorem pe_one {op}{t:TE}(h:PE X a t):PE X (.BoolOp op [a] pos) t:=fun pins s σ H Q I hw=>BoolOp_one (h pins s σ H Q I hw)
theorem pe_and (ha:PE X a ta) (hb:PE X (.BoolOp .And (b::rest) pos) tb):PE X (.BoolOp .And (a::b::rest) pos) (tAndV ta tb):=by
 intro pins s σ H Q I h
 refine BoolOp_and (thn (ha pins s σ H _ I h) fun v s1 ⟨x,H1,I1,r1,q1⟩=>?_)
 obtain⟨c,rfl,q1⟩:=q1
 cases r1
 refine wpAny_truthy_bool ?_
 cases c with
 | true=>exact hb pins s1 σ H1 Q I1 q1
 | false=>exact⟨.bl false,H1,I1,rfl,q1⟩
theorem pe_not (ha:PE X a ta):PE X (.UnaryOp .Not a pos) (tNotV ta):=by
 intro pins s σ H Q I h
 refine UnaryOp_ (thn (ha pins s σ H _ I h) fun v s1 ⟨x,H1,I1,r1,q1⟩=>?_)
 obtain⟨c,rfl,q1⟩:=q1
 cases r1
 exact not_of (wpAny_truthy_bool ⟨.bl (!c),H1,I1,rfl,q1⟩)
def tIf (t:TT) (ta tb:TE):TE:=fun σ H Q=>t σ H fun c H1=>if c=true then ta σ H1 Q else tb σ H1 Q
theorem pe_ifExp {c:Expr}(hc:PT X c tA) (ha:PE X a ta) (hb:PE X b tb):PE X (.IfExp c a b pos) (tIf tA ta tb):=by
 intro pins s σ H Q I h
 refine wpAny_IfExp (thn (hc pins s σ H _ I h) fun d s1 ⟨H1,I1,q1⟩=>?_)
 cases d with
 | true=>exact ha pins s1 σ H1 Q I1 q1
 | false=>exact hb pins s1 σ H1 Q I1 q1
end
def SqL (K:PySem.W.Frag) (H:Hp) (a:Addr) (xs:List V):Prop :=
 Rd H a (.lst xs) ∨
  ∃(o:Obj) (its:Array Value) (n:Nat),K.lookup a=some o∧o.cls = .type "list"∧o.dict=none∧o.data = .seq its n∧its.size≤sizeLine∧Vals xs its.toList
def SqT (K:PySem.W.Frag) (H:Hp) (a:Addr) (xs:List V):Prop :=
 Rd H a (.tup xs) ∨
  ∃(o:Obj) (its:Array Value) (n:Nat),K.lookup a=some o∧o.cls = .type "tuple"∧o.data = .seq its n∧its.size≤sizeLine∧Vals xs its.toList
def absV:Value→Option V
 | .none=>some .non
 | .bool b=>some (.bl b)
 | .int i _=>some (.int i)
 | .str x _=>some (.str x)
 | .bytes b _=>some (.byt b)
 | .float b _=>some (.flt b)
 | .ref a=>some (.ref a)
 | .type n=>some (.ty n)
 | _=>none
theorem RelV.abs {x:V}{u:Value}(r:RelV x u):absV u=some x:=by
 cases x with
 | non=>cases r;rfl
 | bl _=>cases r;rfl
 | int _=>obtain⟨t,rfl⟩:=r;rfl
 | str _=>obtain⟨t,rfl⟩:=r;rfl
 | byt _=>obtain⟨t,rfl⟩:=r;rfl
 | flt _=>obtain⟨t,rfl⟩:=r;rfl
 | ref _=>cases r;rfl
 | ty _=>cases r;rfl
theorem RelV.inj {x y:V}{u:Value}(r:RelV x u) (q:RelV y u):x=y:=Option.some.inj (r.abs.symm.trans q.abs)
theorem Vals.inj:∀{xs ys:List V}{us:List Value},Vals xs us→Vals ys us→xs=ys
 | _,_,_,.nil,.nil=>rfl
 | _,_,_,.cons r t,.cons r' t'=>by rw[r.inj r',Vals.inj t t']
section
variable {X:Cx}{pins:List (Addr×Obj)}{σ:St}{H:Hp}{s:Shared}{a:Addr}{xs ys:List V}
theorem SqL.of {K:PySem.W.Frag}(h:H a=some (.lst xs)):SqL K H a xs:=.inl (.inl h)
theorem SqT.of {K:PySem.W.Frag}(h:H a=some (.tup xs)):SqT K H a xs:=.inl (.inl h)
theorem Inv.list (I:Inv X pins σ H s) (h:SqL X.K H a xs):∃its:List Value,Vals xs its∧PlainL s.heap a its.toArray∧xs.length≤sizeLine:=by
 rcases h with h|⟨o,its,n,hk,hc,hd,hs,hz,r⟩
 ·obtain⟨z,its,n,r,e⟩:=h.ok I.hok
  exact⟨its,r,⟨_,n,e,rfl,rfl,rfl⟩,z⟩
 ·refine⟨its.toList,r,⟨o,n,I.kIn a o hk,hc,hd,by simpa using hs⟩,?_⟩
  have e:=r.length
  simp only[Array.length_toList]at e
  omega
theorem Inv.tuple (I:Inv X pins σ H s) (h:SqT X.K H a xs):∃its:List Value,Vals xs its∧IsTup s.heap a its.toArray∧xs.length≤sizeLine:=by
 rcases h with h|⟨o,its,n,hk,hc,hs,hz,r⟩
 ·obtain⟨z,its,r,p⟩:=h.ok I.hok
  exact⟨its,r,p,z⟩
 ·refine⟨its.toList,r,⟨o,I.kIn a o hk,hc,n,by simpa using hs⟩,?_⟩
  have e:=r.length
  simp only[Array.length_toList]at e
  omega
theorem Inv.list_inj (I:Inv X pins σ H s) (h:SqL X.K H a xs) (h':SqL X.K H a ys):xs=ys:=by
 obtain⟨its,r,⟨o,n,e,_,_,d⟩,_⟩:=I.list h
 obtain⟨its',r',⟨o',n',e',_,_,d'⟩,_⟩:=I.list h'
 rw[e]at e';cases e'
 rw[d]at d'
 injection d' with d1 _
 have:its=its':=by simpa using congrArg Array.toList d1
 subst this
 exact r.inj r'
end
abbrev Cx.wish (X:Cx) (E:Value→Shared→Prop):Cx:={ X with xe:=E }
abbrev Cx.nox (X:Cx):Cx:=X.wish fun _ _=>False
theorem Cx.Ok.wish {X:Cx}(ok:X.Ok) (E:Value→Shared→Prop):(X.wish E).Ok :=
 ⟨ok.mod,ok.kind,ok.glob,ok.blt,ok.above,ok.inj,ok.has,ok.cab,ok.hd,ok.frames,ok.stk,ok.exf,ok.bs,ok.bsz,ok.noex,ok.exfs,ok.funs,ok.frf⟩
theorem Cx.Ok.unwish {X:Cx}{E:Value→Shared→Prop}(ok:(X.wish E).Ok):X.Ok :=
 ⟨ok.mod,ok.kind,ok.glob,ok.blt,ok.above,ok.inj,ok.has,ok.cab,ok.hd,ok.frames,ok.stk,ok.exf,ok.bs,ok.bsz,ok.noex,ok.exfs,ok.funs,ok.frf⟩
section
variable {X:Cx}{pins:List (Addr×Obj)}{σ:St}{H:Hp}{s:Shared}{E:Value→Shared→Prop}
theorem Inv.wish (I:Inv X pins σ H s) (E:Value→Shared→Prop):Inv (X.wish E) pins σ H s:=⟨I.ok.wish E,I.os,I.bare,I.base,I.loc,I.cell,I.free,I.freeC,I.pin,I.hok,I.len⟩
theorem Inv.unwish (I:Inv (X.wish E) pins σ H s):Inv X pins σ H s:=⟨I.ok.unwish,I.os,I.bare,I.base,I.loc,I.cell,I.free,I.freeC,I.pin,I.hok,I.len⟩
theorem SP.unwish {D:Ends}{f:Flow}{s':Shared}(h:SP (X.wish E) pins D f s'):SP X pins D f s':=by
 cases f with
 | next=>obtain⟨σ',H',I,q⟩:=h;exact⟨σ',H',I.unwish,q⟩
 | brk=>obtain⟨σ',H',I,q⟩:=h;exact⟨σ',H',I.unwish,q⟩
 | cont=>obtain⟨σ',H',I,q⟩:=h;exact⟨σ',H',I.unwish,q⟩
 | ret u=>obtain⟨v,σ',H',I,r,q⟩:=h;exact⟨v,σ',H',I.unwish,r,q⟩
theorem PSs.nox {st:List Stmt}{t:TS}(h:PSs X.nox st t):PSs X st t:=fun pins s σ H D I hw =>
 wpAny_mono (h pins s σ H D (I.wish _) hw) (fun _ _ q=>q.unwish) fun _ _ z=>False.elim z
end
section
variable {X:Cx}{st:Stmt}{rest:List Stmt}{t u:TS}{e:Expr}{te:TE}{pos:Pos}
def tNext:TS:=fun D σ H=>D.nx σ H
def tSeq (t u:TS):TS:=fun D σ H=>t { D with nx:=u D } σ H
theorem pss_nil:PSs X [] tNext:=fun _ _ σ H _ I h=>wpAny_execs_nil ⟨σ,H,I,h⟩
theorem pss_cons (h1:PS X st t) (h2:PSs X rest u):PSs X (st::rest) (tSeq t u):=by
 intro pins s σ H D I h
 refine wpAny_execs_cons (thn (h1 pins s σ H { D with nx:=u D } I h) fun f s1 q=>?_)
 cases f with
 | next =>
  obtain⟨σ',H',I',q⟩:=q
  exact h2 pins s1 σ' H' D I' q
 | ret v=>exact q
 | brk=>exact q
 | cont=>exact q
theorem pss_one (h1:PS X st t):PSs X [st] t:=by
 intro pins s σ H D I h
 refine wpAny_execs_cons (thn (h1 pins s σ H D I h) fun f s1 q=>?_)
 cases f with
 | next=>exact wpAny_execs_nil q
 | ret v=>exact q
 | brk=>exact q
 | cont=>exact q
theorem Inv.quiet {pins:List (Addr×Obj)}{σ:St}{H:Hp}{s:Shared}(I:Inv X pins σ H s):interactive X.env=false:=by simp[interactive,I.ok.kind]
def tDrop (te:TE):TS:=fun D σ H=>te σ H fun _ H1=>D.nx σ H1
theorem ps_expr (he:PE X e te) (hs:swapsWith e none pos.line X.env=pure false:=by rfl):PS X (.Expr e pos) (tDrop te):=by
 intro pins s σ H D I h
 exact wpAny_Expr_any (thn (he pins s σ H _ I h) fun v s1 ⟨x,H1,I1,r1,q1⟩=>⟨σ,H1,I1,q1⟩) I.quiet hs
def tRet (te:TE):TS:=fun D σ H=>te σ H D.rt
theorem ps_ret (he:PE X e te):PS X (.Return (some e) pos) (tRet te):=by
 intro pins s σ H D I h
 exact wpAny_Return_some (thn (he pins s σ H _ I h) fun v s1 ⟨x,H1,I1,r1,q1⟩=>⟨x,σ,H1,I1,r1,q1⟩)
def tIfS (c:TT) (t u:TS):TS:=fun D σ H=>c σ H fun b H1=>if b=true then t D σ H1 else u D σ H1
theorem ps_if {c:Expr}{a b:List Stmt}{tc:TT}(hc:PT X c tc) (ha:PSs X a t) (hb:PSs X b u):PS X (.If c a b pos) (tIfS tc t u):=by
 intro pins s σ H D I h
 refine wpAny_If (thn (hc pins s σ H _ I h) fun d s1 ⟨H1,I1,q1⟩=>?_)
 cases d with
 | true=>exact ha pins s1 σ H1 D I1 q1
 | false=>exact hb pins s1 σ H1 D I1 q1
end
abbrev TG:=V→St→Hp→(St→Hp→Prop)→Prop
abbrev TGs:=List V→St→Hp→(St→Hp→Prop)→Prop
def PG (X:Cx) (target:Expr) (t:TG):Prop :=
 ∀(pins:List (Addr×Obj)) (s:Shared) (σ:St) (H:Hp) (v:V) (u:Value) (Q:St→Hp→Prop),Inv X pins σ H s→RelV v u→t v σ H Q →
  wpAny (model X.prog X.w) X.A (assign target X.env u) (fun _ s'=>∃σ' H',Inv X pins σ' H' s'∧Q σ' H') X.xe s
def PGs (X:Cx) (ts:List Expr) (t:TGs):Prop :=
 ∀(pins:List (Addr×Obj)) (s:Shared) (σ:St) (H:Hp) (vs:List V) (us:List Value) (Q:St→Hp→Prop),Inv X pins σ H s→Vals vs us→t vs σ H Q →
  wpAny (model X.prog X.w) X.A (assignInOrder ((assignEach ts X.env).map (·.2)) us) (fun _ s'=>∃σ' H',Inv X pins σ' H' s'∧Q σ' H') X.xe s
abbrev TSet:=V→V→V→Hp→(Hp→Prop)→Prop
def PSet (X:Cx) (t:TSet):Prop :=
 ∀(pins:List (Addr×Obj)) (s:Shared) (σ:St) (H:Hp) (o i v:V) (ov iv u:Value) (Q:Hp→Prop),Inv X pins σ H s→RelV o ov→RelV i iv→RelV v u→t o i v H Q →
  wpAny (model X.prog X.w) X.A (setItem ov iv u) (fun _ s'=>∃H',Inv X pins σ H' s'∧Q H') X.xe s
abbrev TIp:=V→V→Hp→VK→Prop
def PIp (X:Cx) (op:Operator) (t:TIp):Prop :=
 ∀(pins:List (Addr×Obj)) (s:Shared) (σ:St) (H:Hp) (x y:V) (v u:Value) (Q:VK),Inv X pins σ H s→RelV x v→RelV y u→t x y H Q →
  wpAny (model X.prog X.w) X.A (inplaceOp op v u) (EP X pins σ Q) X.xe s
section
variable {X:Cx}{pos:Pos}
def gName (i:Nat):TG:=fun v σ H Q=>Q (σ.set i (some v)) H
theorem pg_name {i:Nat}{x:Str}(hN:X.N.Nodup) (hi:X.N[i]? = some x) (hx:Loc X.env.scope x) (hf:X.fn x=true∨X.env.scope.names.lookup x=some .local:=by first|exact .inl rfl|exact .inr rfl|assumption):PG X (.Name x pos) (gName i):=by
 intro pins s σ H v u Q I r h
 exact wpAny_assign_Name (store_ok I hN hi hx r (fun s' I'=>⟨_,H,I',h⟩) hf)
def gNil:TGs:=fun vs σ H Q=>vs=[]∧Q σ H
def gCons (t:TG) (u:TGs):TGs:=fun vs σ H Q=>∃v r,vs=v::r∧t v σ H fun σ' H'=>u r σ' H' Q
theorem pgs_nil:PGs X [] gNil:=by
 intro pins s σ H vs us Q I r h
 obtain⟨e,h⟩:=h
 subst e
 cases r
 exact assignInOrder_nil ⟨σ,H,I,h⟩
theorem pgs_cons {e:Expr}{es:List Expr}{t:TG}{u:TGs}(h1:PG X e t) (h2:PGs X es u)
  (hs:(assignEach (e::es) X.env).map (·.2)=assign e X.env::(assignEach es X.env).map (·.2):=by rfl):PGs X (e::es) (gCons t u):=by
 intro pins s σ H vs us Q I r h
 obtain⟨v,vr,e1,h⟩:=h
 subst e1
 cases r with
 | cons r rr =>
  rw[hs]
  refine assignInOrder_cons (thn (h1 pins s σ H _ _ _ I r h) fun _ s1 ⟨σ1,H1,I1,q1⟩=>?_)
  exact h2 pins s1 σ1 H1 _ _ Q I1 rr q1
def gTup (K:PySem.W.Frag) (n:Nat) (t:TGs):TG:=fun v σ H Q=>∃a xs,v = .ref a∧SqT K H a xs∧xs.length=n∧t xs σ H Q
theorem pg_tup {es:List Expr}{k:Nat}{t:TGs}{n:Nat}(hc:X.calm=true) (h:PGs X es t)
  (hn:(assignEach es X.env).length=n:=by rfl) (hst:(assignEach es X.env).findIdx? (·.1)=none:=by rfl):PG X (.Tuple es k pos) (gTup X.K n t):=by
 intro pins s σ H v u Q I r hw
 obtain⟨a,xs,e1,hq,hl,hw⟩:=hw
 subst e1
 cases r
 obtain⟨its,rv,ht,hz⟩:=I.tuple hq
 refine assign_Tuple_tuple (I.ok.hd hc) ht (by simp[hn,← hl,rv.length]) hst fun h' hx=>?_
 have I1:Inv X pins σ H { s with heap:=h' }:=I.kept (t':=s.toks) fun b o e=>hx b o (Nat.ne_of_lt (Heap.lt_size e)) e
 exact h pins _ σ H xs _ Q I1 (by simpa using rv) hw
def gSub (to ti:TE) (t:TSet):TG:=fun v σ H Q=>to σ H fun o H1=>ti σ H1 fun i H2=>t o i v H2 fun H3=>Q σ H3
theorem pg_sub {o i:Expr}{to ti:TE}{t:TSet}(ho:PE X o to) (hi:PE X i ti) (hs:PSet X t)
  (ha:∀v,assign (.Subscript o i pos) X.env v =(do
   let ov ← holding [v] (eval o X.env)
   let iv ← holding [v,ov] (eval i X.env)
   standAt pos
   holding [v,ov,iv] (setItem ov iv v)
   release [v,ov,iv] []):=by intro _;rfl):PG X (.Subscript o i pos) (gSub to ti t):=by
 intro pins s σ H v u Q I r h
 rw[ha]
 refine wpAny_bind (wpAny_holding (thn (ho pins s σ H _ I h) fun ov s1 ⟨x,H1,I1,r1,q1⟩=>?_))
 refine wpAny_bind (wpAny_holding (thn (hi pins s1 σ H1 _ I1 q1) fun iv s2 ⟨y,H2,I2,r2,q2⟩=>?_))
 refine wpAny_bind (wpAny_standAt (wpAny_bind (wpAny_holding (thn (hs pins s2 σ H2 x y v ov iv u _ I2 r1 r2 r q2) fun _ s3 ⟨H3,I3,q3⟩=>?_))))
 exact wpAny_release ⟨σ,H3,I3,q3⟩
def tAsg (te:TE) (g:TG):TS:=fun D σ H=>te σ H fun x H1=>g x σ H1 D.nx
theorem ps_asg {tg e:Expr}{te:TE}{g:TG}(he:PE X e te) (hg:PG X tg g) (hs:swapsWithSole [tg] e pos.line X.env=pure false:=by rfl) (hw:swappedStores [tg] e X.env=pure none:=by rfl)
  (h1:(assignEach [tg] X.env).map (·.2)=[assign tg X.env]:=by rfl):PS X (.Assign [tg] e pos) (tAsg te g):=by
 intro pins s σ H D I h
 refine wpAny_Assign_stores (thn (he pins s σ H _ I h) fun v s1 ⟨x,H1,I1,r1,q1⟩=>?_) hs hw
 rw[h1]
 exact thn (hg pins s1 σ H1 x v _ I1 r1 q1) fun _ s2 q=>q
theorem ps_set {i:Nat}{x:Str}{e:Expr}{te:TE}{pos':Pos}(hN:X.N.Nodup) (hi:X.N[i]? = some x) (hx:Loc X.env.scope x) (he:PE X e te) (hs:swapsWith e (some (.Name x pos')) pos.line X.env=pure false:=by rfl) (hf:X.fn x=true∨X.env.scope.names.lookup x=some .local:=by first|exact .inl rfl|exact .inr rfl|assumption) :
  PS X (.Assign [.Name x pos'] e pos) (tAsg te (gName i)):=by
 intro pins s σ H D I h
 refine wpAny_Assign_Name (thn (he pins s σ H _ I h) fun v s1 ⟨y,H1,I1,r1,q1⟩=>?_) hs
 exact store_ok I1 hN hi hx r1 (fun s2 I2=>⟨_,H1,I2,q1⟩) hf
def tAugS (to ti te:TE) (tget:V→V→Hp→VK→Prop) (tip:TIp) (tset:TSet):TS:=fun D σ H=>to σ H fun o H1=>ti σ H1 fun i H2=>tget o i H2 fun x H3=>te σ H3 fun y H4=>tip x y H4 fun z H5=>tset o i z H5 fun H6=>D.nx σ H6
def PGet (X:Cx) (t:V→V→Hp→VK→Prop):Prop :=
 ∀(pins:List (Addr×Obj)) (s:Shared) (σ:St) (H:Hp) (o i:V) (ov iv:Value) (Q:VK),Inv X pins σ H s→RelV o ov→RelV i iv→t o i H Q →
  wpAny (model X.prog X.w) X.A (getItem ov iv) (EP X pins σ Q) X.xe s
theorem ps_augS {o i e:Expr}{to ti te:TE}{tget:V→V→Hp→VK→Prop}{tip:TIp}{tset:TSet}{op:Operator}{tpos:Pos}(ho:PE X o to) (hi:PE X i ti) (hg:PGet X tget) (he:PE X e te) (hp:PIp X op tip) (hs:PSet X tset)
  (ha:∀ov iv new,augStore i ov iv new =(do holding [new,ov,iv] (setItem ov iv new);release [new,ov,iv] [];pure .next):=by intros;rfl):PS X (.AugAssign (.Subscript o i tpos) op e pos) (tAugS to ti te tget tip tset):=by
 intro pins s σ H D I h
 refine wpAny_AugAssign_SubscriptAny (thn (ho pins s σ H _ I h) fun ov s1 ⟨x1,H1,I1,r1,q1⟩=>?_) ha
 refine thn (hi pins s1 σ H1 _ I1 q1) fun iv s2 ⟨x2,H2,I2,r2,q2⟩=>?_
 refine thn (hg pins s2 σ H2 x1 x2 ov iv _ I2 r1 r2 q2) fun old s3 ⟨x3,H3,I3,r3,q3⟩=>?_
 refine thn (he pins s3 σ H3 _ I3 q3) fun v s4 ⟨x4,H4,I4,r4,q4⟩=>?_
 refine thn (hp pins s4 σ H4 x3 x4 old v _ I4 r3 r4 q4) fun new s5 ⟨x5,H5,I5,r5,q5⟩=>?_
 exact thn (hs pins s5 σ H5 x1 x2 x5 ov iv new _ I5 r1 r2 r5 q5) fun _ s6 ⟨H6,I6,q6⟩=>⟨σ,H6,I6,q6⟩
def ipI (f:Int→Int→Int):TIp:=fun x y H Q=>∃i j,x = .int i∧y = .int j∧Q (.int (f i j)) H
theorem ip_add:PIp X .Add (ipI fun i j=>i+j):=by
 intro pins s σ H x y v u Q I r1 r2 h
 obtain⟨i,j,e1,e2,q⟩:=h
 subst e1;subst e2
 obtain⟨t,rfl⟩:=r1
 obtain⟨t',rfl⟩:=r2
 exact iadd_int ⟨.int _,H,I.tok _,⟨_,rfl⟩,q⟩
end
section
variable {X:Cx}{pos:Pos}
def tWhile (c:TT) (tb:TS):TS:=fun D σ H=>∃W:Nat→St→Hp→Prop,(∃m,W m σ H)∧∀m σ H,W m σ H →
 c σ H fun b H1=>if b=true then ∃N:St→Hp→Prop,(∀σ' H',N σ' H'→∃m',m'<m∧W m' σ' H')∧tb { D with nx:=N,ct:=N,bk:=D.nx } σ H1 else D.nx σ H1
theorem ps_while {c:Expr}{body:List Stmt}{tc:TT}{tb:TS}(hp:PassesOwn (model X.prog X.w) X.A X.env X.xe) (hc:PT X c tc) (hb:PSs X body tb):PS X (.While c body [] pos) (tWhile tc tb):=by
 intro pins s σ H D I h
 obtain⟨W,⟨m0,w0⟩,turn⟩:=h
 refine wpAny_While (codeAny_whileLoop (fun n s'=>∃σ' H',Inv X pins σ' H' s'∧W n σ' H') ?_ m0 ⟨σ,H,I,w0⟩)
 rintro n s1 ⟨σ1,H1,I1,w1⟩
 refine wpAny_passesOwn hp (thn (hc pins s1 σ1 H1 _ I1 (turn n σ1 H1 w1)) fun b s2 ⟨H2,I2,q2⟩=>?_)
 cases b with
 | true =>
  obtain⟨N,hN,q2⟩:=q2
  rw[if_pos rfl]
  refine wpAny_passesOwn hp (thn (hb pins s2 σ1 H2 _ I2 q2) fun f s3 q3=>?_)
  cases f with
  | next =>
   obtain⟨σ3,H3,I3,n3⟩:=q3
   obtain⟨m',hm,w3⟩:=hN σ3 H3 n3
   exact⟨m',hm,σ3,H3,I3,w3⟩
  | cont =>
   obtain⟨σ3,H3,I3,n3⟩:=q3
   obtain⟨m',hm,w3⟩:=hN σ3 H3 n3
   exact⟨m',hm,σ3,H3,I3,w3⟩
  | brk=>exact q3
  | ret v=>exact q3
 | false =>
  rw[if_neg Bool.false_ne_true]
  exact wpAny_execs_nil ⟨σ1,H2,I2,q2⟩
end
structure It where
 go:Nat→Hp→Prop
 yld:Nat→Hp→V→Hp→Prop
 stop:Nat→Hp→Prop
def FpOk (X:Cx) (pins:List (Addr×Obj)) (H:Hp) (b:Addr):Prop :=
 H b=none∧b≠X.env.locals∧b∉X.fs∧(b∈X.ex∨X.s₀.heap.objs.size≤b)∧(∀x c,X.env.cells.lookup x=some c→c≠b)∧∀p∈X.pn++pins,p.1≠b
theorem Inv.fpOk {X:Cx}{pins:List (Addr×Obj)}{σ:St}{H H':Hp}{s:Shared}{b:Addr}(I:Inv X pins σ H s) (hb:s.heap.objs.size≤b) (hn:H' b=none):FpOk X pins H' b:=by
 refine⟨hn,Nat.ne_of_gt (Nat.lt_of_lt_of_le I.lt hb),I.nofs hb,.inr (Nat.le_trans I.sz hb),fun x c e z=>?_,fun p hp z=>?_⟩
 ·obtain⟨v,q⟩:=I.cell x c e
  exact absurd (Nat.lt_of_lt_of_le q.lt (by rw[z];exact hb)) (Nat.lt_irrefl _)
 ·exact absurd (Nat.lt_of_lt_of_le (Heap.lt_size (I.pin p hp).1) (by rw[z];exact hb)) (Nat.lt_irrefl _)
structure Turn (P:Program) (w:World) (K:PySem.W.Frag) (tg:Expr) (J:It) (fp:List Addr) (it:Addr) (tn:Nat→Heap→Prop):Prop where
 mem:it∈fp
 obj:∀i h,tn i h→∀b∈fp,∃o,h.get? b=some o∧∀v,o.data ≠ .cell v
 keep:∀i h h',tn i h→(∀b∈fp,∀o,h.get? b=some o→h'.get? b=some o)→tn i h'
 item:∀(X:Cx),X.prog=P→X.w=w→X.K=K→X.calm=true→∀(i:Nat) (pins:List (Addr×Obj)) (s:Shared) (σ:St) (H:Hp) (E:Value→Shared→Prop),Inv X pins σ H s→(∀b∈fp,FpOk X pins H b)→tn i s.heap→J.go i H →
  wpAny (model P w) X.A (pyNext (.ref it)) (fun r s1=>∃u,r=some u ∧
   wpAny (model P w) X.A (letOwnedTupleGo tg (.ref it) u) (fun _ s2=>∃x H',Inv X pins σ H' s2∧RelV x u∧J.yld i H x H'∧tn (i+1) s2.heap∧∀b∈fp,H' b=none) E s1) E s
 done:∀(X:Cx),X.prog=P→X.w=w→X.K=K→X.calm=true→∀(i:Nat) (pins:List (Addr×Obj)) (s:Shared) (σ:St) (H:Hp) (E:Value→Shared→Prop),Inv X pins σ H s→(∀b∈fp,FpOk X pins H b)→tn i s.heap→J.stop i H →
  wpAny (model P w) X.A (pyNext (.ref it)) (fun r s1=>r=none∧Inv X pins σ H s1) E s
 self:∀(A:Around) (i:Nat) (s:Shared) (Q:Value→Shared→Prop) (E:Value→Shared→Prop),tn i s.heap→Q (.ref it) s→wpAny (model P w) A (pyIter (.ref it)) Q E s
abbrev TI:=St→Hp→(It→Hp→Prop)→Prop
def PIE (X:Cx) (pins:List (Addr×Obj)) (σ:St) (tg:Expr) (R:It→Hp→Prop) (itv:Value) (s2:Shared):Prop :=
 ∃(it:Addr) (fp:List Addr) (tn:Nat→Heap→Prop) (J:It) (H':Hp),itv = .ref it∧Inv X pins σ H' s2∧Turn X.prog X.w X.K tg J fp it tn∧tn 0 s2.heap∧(∀b∈fp,FpOk X pins H' b)∧R J H'
def PI (X:Cx) (tg iter:Expr) (wi:TI):Prop :=
 ∀(pins:List (Addr×Obj)) (s:Shared) (σ:St) (H:Hp) (R:It→Hp→Prop),Inv X pins σ H s→wi σ H R →
  wpAny (model X.prog X.w) X.A (eval iter X.env) (fun v s1=>wpAny (model X.prog X.w) X.A (pyIter v) (PIE X pins σ tg R) X.xe s1) X.xe s
theorem go_of {M:Model} {A:Around} {E:Value→Shared→Prop} {s:Shared} {tg:Expr} {it:Addr} {u:Value} {o:Obj} {n:String} {vs:Array Value} {Q:Unit→Shared→Prop} (ho:s.heap.get? it = some o) (hc:o.cls = .type n) (hd:o.data = .fields vs)
    (hn:["enumerate", "zip", "dict_itemiterator", "dict_reverseitemiterator", "odict_iterator", "itertools.zip_longest", "itertools.pairwise"].contains n = false) (hQ:Q () s) : wpAny M A (letOwnedTupleGo tg (.ref it) u) Q E s:=by
  unfold letOwnedTupleGo
  cases tg <;> first
    | exact wpAny_pure hQ
    | (cases u <;> first
        | exact wpAny_pure hQ
        | (refine wpAny_bind (wpAny_load ho ?_)
           rw [hc,hd]
           show wpAny M A (if (["enumerate", "zip", "dict_itemiterator", "dict_reverseitemiterator", "odict_iterator", "itertools.zip_longest", "itertools.pairwise"].contains n && vs[0]? == some (rawInt _)) = true then _ else _) Q E s
           rw [if_neg (by intro h; rw [hn,Bool.false_and] at h; cases h)]
           exact wpAny_pure hQ))
def Itl (K:PySem.W.Frag) (a:Addr):It :=
 ⟨fun i H=>∃xs x,SqL K H a xs∧xs[i]? = some x,fun i H x H'=>H'=H∧∀xs,SqL K H a xs→xs[i]? = some x,fun i H=>∃xs,SqL K H a xs∧xs.length≤i⟩
def Itr (lo:Int) (n:Nat):It:=⟨fun i _=>i<n,fun i H x H'=>H'=H∧x = .int (lo+i),fun i _=>n≤i⟩
theorem turn_list {P:Program}{w:World}{K:PySem.W.Frag}{tg:Expr}(a it:Addr):Turn P w K tg (Itl K a) [it] it (fun i h=>h.IsListIter it a i) where
 mem:=by simp
 obj:=fun i h st b hb=>by
  have e:b=it:=by simpa using hb
  subst e
  obtain⟨o,e,c,d⟩:=st
  exact⟨o,e,fun v z=>by rw[d]at z;cases z⟩
 keep:=fun i h h' st k=>st.at fun o e=>k it (by simp) o e
 item:=by
  intro X hP hw hK hc i pins s σ H E I hf st hg
  subst hP hw hK
  obtain⟨xs,x,hq,hx⟩:=hg
  obtain⟨its,rv,p,hz⟩:=I.list hq
  obtain⟨u,hu,ru⟩:=rv.get hx
  obtain⟨f0,f1,f2,f3,f4,f5⟩:=hf it (by simp)
  refine wpAny_pyNext_list_item st p.isList (x:=u) (by simpa using hu) fun h' st' sb=>?_
  have I1:Inv X pins σ H { s with heap:=h' }:=I.turned (t':=s.toks) (fun b o hb e=>(sb.2 b hb).trans e) f0 f1 f3 f4 f5
  obtain⟨o,e,c,d⟩:=id st'
  exact⟨u,rfl,go_of (s:={ s with heap:=h' }) e c d (by decide) ⟨x,H,I1,ru,⟨rfl,fun ys hy=>by rw[I.list_inj hy hq];exact hx⟩,st',fun b hb=>(hf b hb).1⟩⟩
 done:=by
  intro X hP hw hK hc i pins s σ H E I hf st hg
  subst hP hw hK
  obtain⟨xs,hq,hx⟩:=hg
  obtain⟨its,rv,p,hz⟩:=I.list hq
  obtain⟨f0,f1,f2,f3,f4,f5⟩:=hf it (by simp)
  have hl:=rv.length
  exact wpAny_pyNext_list_end (I.ok.hd hc) st p.isList (by simp;omega) fun h' eb=>⟨rfl,I.turned (t':=s.toks) (fun b o hb e=>eb b o hb e) f0 f1 f3 f4 f5⟩
 self:=fun _ _ _ _ _ st h=>wpAny_pyIter_listiter st h
theorem turn_range {P:Program}{w:World}{K:PySem.W.Frag}{tg:Expr}(it:Addr) (lo:Int) (n:Nat):Turn P w K tg (Itr lo n) [it] it (fun i h=>IsRangeIter h it (lo+(i:Nat)*1) ((n:Int)-(i:Nat)) 1) where
 mem:=by simp
 obj:=fun i h st b hb=>by
  have e:b=it:=by simpa using hb
  subst e
  exact⟨_,st,fun v z=>by
   have z':Data.fields _=Data.cell v:=z
   cases z'⟩
 keep:=fun i h h' st k=>k it (by simp) _ st
 item:=by
  intro X hP hw hK hc i pins s σ H E I hf st hg
  subst hP hw hK
  obtain⟨f0,f1,f2,f3,f4,f5⟩:=hf it (by simp)
  have W:=Walks.range (prog:=X.prog) (w:=X.w) (I.ok.hd hc) it lo 1 n
  refine W.item i s _ _ hg st fun v h' tk hv st' kk=>?_
  obtain⟨t,rfl⟩:=hv
  have I1:Inv X pins σ H { s with heap:=h',toks:=tk }:=I.turned (fun b o hb e=>kk b o (by simpa using hb) e) f0 f1 f3 f4 f5
  refine⟨_,rfl,go_of (s:={ s with heap:=h',toks:=tk }) (n := "range_iterator") st' rfl rfl (by decide) ⟨.int (lo+i),H,I1,⟨t,?_⟩,⟨rfl,rfl⟩,st',fun b hb=>(hf b hb).1⟩⟩
  rw[Int.mul_one]
 done:=by
  intro X hP hw hK hc i pins s σ H E I hf st hg
  subst hP hw hK
  obtain⟨f0,f1,f2,f3,f4,f5⟩:=hf it (by simp)
  exact wpAny_pyNext_range_end (I.ok.hd hc) st (by have:n≤i:=hg;omega) fun h' eb=>⟨rfl,I.turned (t':=s.toks) (fun b o hb e=>eb b o hb e) f0 f1 f3 f4 f5⟩
 self:=fun _ _ _ _ _ st h=>wpAny_pyIter_rangeiter st h
section
variable {X:Cx}{tg:Expr}
def iList (K:PySem.W.Frag) (tl:TE):TI:=fun σ H R=>tl σ H fun x H1=>∃a,x = .ref a∧(∃xs,SqL K H1 a xs)∧R (Itl K a) H1
theorem pi_list {l:Expr}{tl:TE}(hl:PE X l tl):PI X tg l (iList X.K tl):=by
 intro pins s σ H R I h
 refine thn (hl pins s σ H _ I h) fun v s1 ⟨x,H1,I1,r1,q1⟩=>?_
 obtain⟨a,e,⟨xs,hq⟩,q⟩:=q1
 subst e
 cases r1
 obtain⟨its,rv,p,hz⟩:=I1.list hq
 refine wpAny_pyIter_list p.isList ?_
 refine⟨s1.heap.objs.size,[s1.heap.objs.size],_,_,H1,rfl,I1.kept (t':=s1.toks) fun b o e=>Heap.get?_push_of_some _ e,turn_list a _,⟨_,Heap.get?_push_size _ rfl,rfl,rfl⟩,fun b hb=>?_,q⟩
 have e:b=s1.heap.objs.size:=by simpa using hb
 subst e
 exact I1.fpOk (Nat.le_refl _) (I1.hok.fresh (Nat.le_refl _))
theorem range_it {pins:List (Addr×Obj)}{σ:St}{H:Hp}{s:Shared}{R:It→Hp→Prop}{E:Value→Shared→Prop}{lo hi:Int}{t u v:Tok}{tk:Nat}(I:Inv X pins σ H s) (h1:-(2^62)≤lo) (h2:lo<2^62) (h3:-(2^62)≤hi) (h4:hi<2^62)
  (q:R (Itr lo (hi-lo).toNat) H):wpAny (model X.prog X.w) X.A (pyIter (.ref s.heap.objs.size)) (PIE X pins σ tg R) E { s with heap:=s.heap.push { cls:=.type "range",data:=.fields #[.int lo t,.int hi u,.int 1 v] },toks:=tk }:=by
 refine wpAny_pyIter_range (IsRange.new ..) (small_one h1 h2 h3 h4) ?_
 have I1:Inv X pins σ H { s with heap:=s.heap.push { cls:=.type "range",data:=.fields #[.int lo t,.int hi u,.int 1 v] },toks:=tk }:=I.kept fun b o e=>Heap.get?_push_of_some _ e
 refine⟨(s.heap.push { cls:=.type "range",data:=.fields #[.int lo t,.int hi u,.int 1 v] }).objs.size,[(s.heap.push { cls:=.type "range",data:=.fields #[.int lo t,.int hi u,.int 1 v] }).objs.size],_,_,H,rfl,
  I1.kept (t':=tk) fun b o e=>Heap.get?_push_of_some _ e,turn_range _ lo (hi-lo).toNat,?_,fun b hb=>?_,q⟩
 ·have e1:lo+((0:Nat):Int)*1=lo:=by simp
  have e2:(((hi-lo).toNat:Nat):Int)-((0:Nat):Int)=Builtin.Range.rangeSize lo hi 1:=by rw[rangeSize_one];split <;> omega
  show IsRangeIter _ _ (lo+((0:Nat):Int)*1) ((((hi-lo).toNat:Nat):Int)-((0:Nat):Int)) 1
  rw[e1,e2]
  exact Heap.get?_push_size _ rfl
 ·have e:b =(s.heap.push { cls:=.type "range",data:=.fields #[.int lo t,.int hi u,.int 1 v] }).objs.size:=by simpa using hb
  subst e
  exact I1.fpOk (Nat.le_refl _) (I1.hok.fresh (Nat.le_refl _))
def iRng1 (ta:TA):TI:=fun σ H R=>ta σ H fun vs H1=>∃j:Int,vs=[.int j]∧-(2^62)≤j∧j<2^62∧R (Itr 0 j.toNat) H1
theorem pi_range1 {a:Expr}{ta:TA}{p pos:Pos}(hg:Gl X "range") (hm:X.mg "range" = none) (ha:PA X [a] ta) (hs:starEach [a] X.env=[(false,eval a X.env)]:=by rfl):PI X tg (.Call (.Name "range" p) [a] [] pos) (iRng1 ta):=by
 intro pins s σ H R I h
 refine Call_ (ld_blt I hg hm boot_range (PyProof.Rows.callWith_type1 (thn (ha pos pins s σ H _ I h) fun us s1 ⟨vs,H1,I1,r1,q1⟩=>?_) hs rfl))
 obtain⟨j,e,q1,q2,q⟩:=q1
 subst e
 cases r1 with
 | cons r rr =>
  cases rr
  obtain⟨t,rfl⟩:=r
  exact call_range_1 (range_it I1 (by omega) (by omega) q1 q2 (by simpa using q))
def tFor (wi:TI) (g:TG) (tb:TS):TS:=fun D σ H=>wi σ H fun J H1=>∃W:Nat→Nat→St→Hp→Prop,(∃m,W 0 m σ H1)∧∀i m σ H,W i m σ H →
 (J.stop i H∧D.nx σ H) ∨(J.go i H∧∃N:St→Hp→Prop,(∀σ' H',N σ' H'→∃m',m'<m∧W (i+1) m' σ' H')∧∀x H',J.yld i H x H'→g x σ H' fun σ2 H2=>tb { D with nx:=N,ct:=N,bk:=D.nx } σ2 H2)
def pinsAt (fp:List Addr) (h:Heap):List (Addr×Obj):=fp.filterMap fun b=>(h.get? b).map fun o=>(b,o)
theorem mem_pinsAt {fp:List Addr}{h:Heap}{b:Addr}{o:Obj}(hb:b∈fp) (e:h.get? b=some o):(b,o)∈pinsAt fp h:=List.mem_filterMap.mpr ⟨b,hb,by rw[e];rfl⟩
theorem of_pinsAt {fp:List Addr}{h:Heap}{p:Addr×Obj}(hp:p∈pinsAt fp h):p.1∈fp∧h.get? p.1=some p.2:=by
 obtain⟨b,hb,e⟩:=List.mem_filterMap.mp hp
 cases q:h.get? b with
 | none=>rw[q]at e;cases e
 | some o =>
  rw[q]at e
  have e':(b,o)=p:=Option.some.inj e
  subst e'
  exact⟨hb,q⟩
theorem Inv.pinned {pins:List (Addr×Obj)}{σ:St}{H:Hp}{s:Shared}{fp:List Addr}(I:Inv X pins σ H s) (hf:∀b∈fp,FpOk X pins H b) (ho:∀b∈fp,∃o,s.heap.get? b=some o∧∀v,o.data ≠ .cell v):Inv X (pins++pinsAt fp s.heap) σ H s :=
 I.pins_of fun p hp=>(List.mem_append.mp hp).elim (fun z=>I.pin p (List.mem_append_right _ z)) fun z=>by
  obtain⟨hb,e⟩:=of_pinsAt z
  obtain⟨f0,f1,f2,_⟩:=hf p.1 hb
  obtain⟨o,e',d⟩:=ho p.1 hb
  rw[e]at e';cases e'
  exact⟨e,f0,f1,f2,d⟩
theorem Inv.unpinned {pins pl:List (Addr×Obj)}{σ:St}{H:Hp}{s:Shared}(I:Inv X (pins++pl) σ H s):Inv X pins σ H s:=I.pins_of fun p hp=>I.pin p (List.mem_append_right _ (List.mem_append_left _ hp))
theorem ps_for {iter:Expr}{body:List Stmt}{wi:TI}{g:TG}{tb:TS}{pos:Pos}(hp:PassesOwn (model X.prog X.w) X.A X.env X.xe) (hc:X.calm=true) (hi:PI X tg iter wi) (hg:PG X tg g) (hb:PSs X body tb)
  (hs:∀x,foldedSetIterable iter X.env x=pure x:=by intro _;rfl):PS X (.For tg iter body [] pos) (tFor wi g tb):=by
 intro pins s σ H D I h
 refine wpAny_For (thn (hi pins s σ H _ I h) fun v s1 h1=>thn h1 fun itv s2 h2=>?_) hs
 obtain⟨it,fp,tn,J,H2,e,I2,T,st2,f2,W,⟨m0,w0⟩,turn⟩:=h2
 subst e
 have stat:∀{H':Hp},(∀b∈fp,H' b=none)→∀b∈fp,FpOk X pins H' b:=fun hn b hb=>⟨hn b hb,(f2 b hb).2⟩
 refine codeAny_forLoop_any (fun n s'=>∃i σ' H',Inv X pins σ' H' s'∧tn i s'.heap∧(∀b∈fp,H' b=none)∧W i n σ' H') ?_ m0 ⟨0,σ,H2,I2,st2,fun b hb=>(f2 b hb).1,w0⟩
 rintro n s3 ⟨i,σ3,H3,I3,st3,fr3,w3⟩
 rcases turn i n σ3 H3 w3 with⟨stop,qn⟩|⟨go,N,hN,step⟩
 ·refine wpAny_passesOwn hp (thn (T.done X rfl rfl rfl hc i pins s3 σ3 H3 X.xe I3 (stat fr3) st3 stop) fun r s4 ⟨hr,I4⟩=>?_)
  subst hr
  exact wpAny_execs_nil ⟨σ3,H3,I4,qn⟩
 ·refine wpAny_passesOwn hp (thn (T.item X rfl rfl rfl hc i pins s3 σ3 H3 X.xe I3 (stat fr3) st3 go) fun r s4 ⟨u,hr,h4⟩=>?_)
  subst hr
  refine wpAny_passesOwn hp (thn h4 fun _ s5 ⟨x,H5,I5,r5,y5,st5,fr5⟩=>?_)
  have I5':=I5.pinned (stat fr5) (T.obj _ _ st5)
  refine wpAny_passesOwn hp (thn (hg _ s5 σ3 H5 x u _ I5' r5 (step x H5 y5)) fun _ s6 ⟨σ6,H6,I6,q6⟩=>?_)
  refine wpAny_passesOwn hp (thn (hb _ s6 σ6 H6 _ I6 q6) fun f s7 q7=>?_)
  have again:∀{σ7:St}{H7:Hp},Inv X (pins++pinsAt fp s5.heap) σ7 H7 s7→N σ7 H7→∃m,m<n∧∃i σ' H',Inv X pins σ' H' s7∧tn i s7.heap∧(∀b∈fp,H' b=none)∧W i m σ' H':=fun {σ7 H7} I7 n7=>by
   obtain⟨m',hm,w7⟩:=hN σ7 H7 n7
   refine⟨m',hm,i+1,σ7,H7,I7.unpinned,T.keep _ _ _ st5 fun b hb o e=>(I7.pin (b,o) (List.mem_append_right _ (List.mem_append_right _ (mem_pinsAt hb e)))).1,fun b hb=>?_,w7⟩
   obtain⟨o,e,d⟩:=T.obj _ _ st5 b hb
   exact(I7.pin (b,o) (List.mem_append_right _ (List.mem_append_right _ (mem_pinsAt hb e)))).2.1
  cases f with
  | next=>obtain⟨σ7,H7,I7,n7⟩:=q7;exact again I7 n7
  | cont=>obtain⟨σ7,H7,I7,n7⟩:=q7;exact again I7 n7
  | brk=>obtain⟨σ7,H7,I7,q7⟩:=q7;exact⟨σ7,H7,I7.unpinned,q7⟩
  | ret v=>obtain⟨x7,σ7,H7,I7,r7,q7⟩:=q7;exact⟨x7,σ7,H7,I7.unpinned,r7,q7⟩
end
theorem for_list {K:PySem.W.Frag}{a:Addr}{xs:List V}{g:TG}{tb:TS}{D:Ends}{σ:St}{H:Hp}(Pv:Nat→St→Hp→Prop) (h0:Pv 0 σ H) (hl:∀i σ H,i≤xs.length→Pv i σ H→SqL K H a xs)
  (hs:∀i x σ H,xs[i]? = some x→Pv i σ H→g x σ H fun σ2 H2=>tb { D with nx:=Pv (i+1),ct:=Pv (i+1),bk:=D.nx } σ2 H2) (hd:∀σ H,Pv xs.length σ H→D.nx σ H) :
  ∃W:Nat→Nat→St→Hp→Prop,(∃m,W 0 m σ H)∧∀i m σ H,W i m σ H →
   ((Itl K a).stop i H∧D.nx σ H) ∨((Itl K a).go i H∧∃N:St→Hp→Prop,(∀σ' H',N σ' H'→∃m',m'<m∧W (i+1) m' σ' H')∧∀x H',(Itl K a).yld i H x H'→g x σ H' fun σ2 H2=>tb { D with nx:=N,ct:=N,bk:=D.nx } σ2 H2):=by
 refine⟨fun i m σ H=>m=xs.length-i∧i≤xs.length∧Pv i σ H,⟨xs.length,by simp,Nat.zero_le _,h0⟩,?_⟩
 rintro i m σ H ⟨rfl,hi,p⟩
 have q:=hl i σ H hi p
 by_cases hlt:i<xs.length
 ·refine .inr ⟨⟨xs,xs[i],q,by simp[hlt]⟩,Pv (i+1),fun σ' H' p'=>⟨xs.length-(i+1),by omega,rfl,hlt,p'⟩,fun x H' y=>?_⟩
  obtain⟨e,y⟩:=y
  subst e
  exact hs i x σ _ (y xs q) p
 ·have e:i=xs.length:=by omega
  subst e
  exact .inl ⟨⟨xs,q,Nat.le_refl _⟩,hd σ H p⟩
theorem for_range {lo:Int}{n:Nat}{g:TG}{tb:TS}{D:Ends}{σ:St}{H:Hp}(Pv:Nat→St→Hp→Prop) (h0:Pv 0 σ H)
  (hs:∀i σ H,i<n→Pv i σ H→g (.int (lo+i)) σ H fun σ2 H2=>tb { D with nx:=Pv (i+1),ct:=Pv (i+1),bk:=D.nx } σ2 H2) (hd:∀σ H,Pv n σ H→D.nx σ H) :
  ∃W:Nat→Nat→St→Hp→Prop,(∃m,W 0 m σ H)∧∀i m σ H,W i m σ H →
   ((Itr lo n).stop i H∧D.nx σ H) ∨((Itr lo n).go i H∧∃N:St→Hp→Prop,(∀σ' H',N σ' H'→∃m',m'<m∧W (i+1) m' σ' H')∧∀x H',(Itr lo n).yld i H x H'→g x σ H' fun σ2 H2=>tb { D with nx:=N,ct:=N,bk:=D.nx } σ2 H2):=by
 refine⟨fun i m σ H=>m=n-i∧i≤n∧Pv i σ H,⟨n,by simp,Nat.zero_le _,h0⟩,?_⟩
 rintro i m σ H ⟨rfl,hi,p⟩
 by_cases hlt:i<n
 ·refine .inr ⟨hlt,Pv (i+1),fun σ' H' p'=>⟨n-(i+1),by omega,rfl,hlt,p'⟩,fun x H' y=>?_⟩
  obtain⟨e,y⟩:=y
  subst e y
  exact hs i σ _ hlt p
 ·have e:i=n:=by omega
  subst e
  exact .inl ⟨Nat.le_refl _,hd σ H p⟩
abbrev R2:=V→V→Hp→VK→Prop
def OpR (X:Cx) (f:Value→Value→Sem Value) (r:R2):Prop :=
 ∀(pins:List (Addr×Obj)) (s:Shared) (σ:St) (H:Hp) (x y:V) (v u:Value) (Q:VK),Inv X pins σ H s→RelV x v→RelV y u→r x y H Q →
  wpAny (model X.prog X.w) X.A (f v u) (EP X pins σ Q) X.xe s
def UnR (X:Cx) (f:Value→Sem Value) (r:V→Hp→VK→Prop):Prop :=
 ∀(pins:List (Addr×Obj)) (s:Shared) (σ:St) (H:Hp) (x:V) (v:Value) (Q:VK),Inv X pins σ H s→RelV x v→r x H Q →
  wpAny (model X.prog X.w) X.A (f v) (EP X pins σ Q) X.xe s
def CallR (X:Cx) (f:Value) (r:List V→Hp→VK→Prop):Prop :=
 ∀(pins:List (Addr×Obj)) (s:Shared) (σ:St) (H:Hp) (xs:List V) (us:List Value) (Q:VK),Inv X pins σ H s→Vals xs us→r xs H Q →
  wpAny (model X.prog X.w) X.A (call f us) (EP X pins σ Q) X.xe s
def TruR (X:Cx) (r:V→Hp→(Bool→Hp→Prop)→Prop):Prop :=
 ∀(pins:List (Addr×Obj)) (s:Shared) (σ:St) (H:Hp) (x:V) (v:Value) (Q:Bool→Hp→Prop),Inv X pins σ H s→RelV x v→r x H Q →
  wpAny (model X.prog X.w) X.A (truthy v) (TP X pins σ Q) X.xe s
def tOp (r:R2) (ta tb:TE):TE:=fun σ H Q=>ta σ H fun x H1=>tb σ H1 fun y H2=>r x y H2 Q
def tUn (r:V→Hp→VK→Prop) (ta:TE):TE:=fun σ H Q=>ta σ H fun x H1=>r x H1 Q
def rI (C:Int→Int→Prop) (g:Int→Int→V):R2:=fun x y H Q=>∃i j,x = .int i∧y = .int j∧C i j∧Q (g i j) H
def rI0 (g:Int→Int→V):R2:=fun x y H Q=>∃i j,x = .int i∧y = .int j∧Q (g i j) H
def rU (g:Int→V):V→Hp→VK→Prop:=fun x H Q=>∃i,x = .int i∧Q (g i) H
section
variable {X:Cx}{a b c:Expr}{ta tb tc:TE}{pos:Pos}
theorem binT (ha:PE X a ta) (hb:PE X b tb) {pins:List (Addr×Obj)}{s:Shared}{σ:St}{H:Hp}{R:V→V→Hp→Prop}(I:Inv X pins σ H s)
  (h:ta σ H fun x H1=>tb σ H1 fun y H2=>R x y H2) {Q:Value→Shared→Prop}{f:Value→Value→Sem Value}
  (hf:∀v u s2 x y H2,Inv X pins σ H2 s2→RelV x v→RelV y u→R x y H2→wpAny (model X.prog X.w) X.A (f v u) Q X.xe s2) :
  wpAny (model X.prog X.w) X.A (eval a X.env) (fun v s₁=>wpAny (model X.prog X.w) X.A (eval b X.env) (fun u s₂=>wpAny (model X.prog X.w) X.A (f v u) Q X.xe s₂) X.xe s₁) X.xe s:=by
 refine thn (ha pins s σ H _ I h) fun v s1 ⟨x,H1,I1,r1,q1⟩=>?_
 refine thn (hb pins s1 σ H1 _ I1 q1) fun u s2 ⟨y,H2,I2,r2,q2⟩=>?_
 exact hf v u s2 x y H2 I2 r1 r2 q2
theorem pe_op {op:Operator}{r:R2}(ho:OpR X (binaryOp op) r) (ha:PE X a ta) (hb:PE X b tb):PE X (.BinOp a op b pos) (tOp r ta tb):=by
 intro pins s σ H Q I h
 exact wpAny_BinOp (binT ha hb I h fun v u s2 x y H2 I2 rx ry q=>ho pins s2 σ H2 x y v u Q I2 rx ry q)
theorem pe_un {op:UnaryOp}{r:V→Hp→VK→Prop}(ho:UnR X (unaryOp op) r) (ha:PE X a ta):PE X (.UnaryOp op a pos) (tUn r ta):=by
 intro pins s σ H Q I h
 exact UnaryOp_ (thn (ha pins s σ H _ I h) fun v s1 ⟨x,H1,I1,r1,q1⟩=>ho pins s1 σ H1 x v Q I1 r1 q1)
theorem opI {f:Value→Value→Sem Value}{C:Int→Int→Prop}{g:Int→Int→Int}
  (rule:∀(i j:Int) (t u:Tok) (s:Shared) (Q:Value→Shared→Prop) (E:Value→Shared→Prop),C i j→Q (.int (g i j) s.toks) { s with toks:=s.toks+1 }→wpAny (model X.prog X.w) X.A (f (.int i t) (.int j u)) Q E s) :
  OpR X f (rI C fun i j=>.int (g i j)):=by
 intro pins s σ H x y v u Q I rx ry h
 obtain⟨i,j,rfl,rfl,hc,q⟩:=h
 obtain⟨t,rfl⟩:=rx
 obtain⟨t',rfl⟩:=ry
 exact rule i j t t' s _ _ hc ⟨.int (g i j),H,I.tok _,⟨_,rfl⟩,q⟩
theorem opI0 {f:Value→Value→Sem Value}{g:Int→Int→Int}
  (rule:∀(i j:Int) (t u:Tok) (s:Shared) (Q:Value→Shared→Prop) (E:Value→Shared→Prop),Q (.int (g i j) s.toks) { s with toks:=s.toks+1 }→wpAny (model X.prog X.w) X.A (f (.int i t) (.int j u)) Q E s) :
  OpR X f (rI0 fun i j=>.int (g i j)):=by
 intro pins s σ H x y v u Q I rx ry h
 obtain⟨i,j,rfl,rfl,q⟩:=h
 obtain⟨t,rfl⟩:=rx
 obtain⟨t',rfl⟩:=ry
 exact rule i j t t' s _ _ ⟨.int (g i j),H,I.tok _,⟨_,rfl⟩,q⟩
theorem opB0 {f:Value→Value→Sem Value}{g:Int→Int→Bool}
  (rule:∀(i j:Int) (t u:Tok) (s:Shared) (Q:Value→Shared→Prop) (E:Value→Shared→Prop),Q (.bool (g i j)) s→wpAny (model X.prog X.w) X.A (f (.int i t) (.int j u)) Q E s) :
  OpR X f (rI0 fun i j=>.bl (g i j)):=by
 intro pins s σ H x y v u Q I rx ry h
 obtain⟨i,j,rfl,rfl,q⟩:=h
 obtain⟨t,rfl⟩:=rx
 obtain⟨t',rfl⟩:=ry
 exact rule i j t t' s _ _ ⟨.bl (g i j),H,I,rfl,q⟩
def CPow (i j:Int):Prop:=0≤j∧j≤1000000∧i.natAbs<2^64
def CMul (i j:Int):Prop:=(-(2^64)<i∧i<2^64) ∨(-(2^64)<j∧j<2^64)
theorem CMul.ok {i j:Int}(h:CMul i j):IntMulOk i j:=by
 rcases h with⟨h1,h2⟩|⟨h1,h2⟩
 ·exact .of_left (intBits_le_64 h1 h2)
 ·exact .of_right (intBits_le_64 h1 h2)
theorem op_add:OpR X (binaryOp .Add) (rI0 fun i j=>.int (i+j)):=opI0 fun _ _ _ _ _ _ _ q=>add_int q
theorem op_sub:OpR X (binaryOp .Sub) (rI0 fun i j=>.int (i-j)):=opI0 fun _ _ _ _ _ _ _ q=>sub_int q
theorem op_mul:OpR X (binaryOp .Mult) (rI CMul fun i j=>.int (i*j)):=opI fun _ _ _ _ _ _ _ hc q=>mul_int q hc.ok
theorem op_mod:OpR X (binaryOp .Mod) (rI (fun _ j=>0<j) fun i j=>.int (i%j)):=opI fun i j _ _ _ _ _ hc q=>by
 have h1:(0:Int)<j:=hc
 exact mod_int' (by omega) (by rw[Int.fmod_eq_emod_of_nonneg i (by omega)];exact q)
theorem op_pow:OpR X (binaryOp .Pow) (rI CPow fun i j=>.int (i^j.toNat)):=opI fun _ _ _ _ _ _ _ hc q=>pow_int_small hc.1 hc.2.1 hc.2.2 q
theorem op_shl:OpR X (binaryOp .LShift) (rI CPow fun i j=>.int (i*2^j.toNat)):=opI fun _ _ _ _ _ _ _ hc q=>lshift_int_small hc.1 hc.2.1 hc.2.2 q
theorem unI {f:Value→Sem Value}{g:Int→Int}
  (rule:∀(i:Int) (t:Tok) (s:Shared) (Q:Value→Shared→Prop) (E:Value→Shared→Prop),Q (.int (g i) s.toks) { s with toks:=s.toks+1 }→wpAny (model X.prog X.w) X.A (f (.int i t)) Q E s) :
  UnR X f (rU fun i=>.int (g i)):=by
 intro pins s σ H x v Q I rx h
 obtain⟨i,rfl,q⟩:=h
 obtain⟨t,rfl⟩:=rx
 exact rule i t s _ _ ⟨.int (g i),H,I.tok _,⟨_,rfl⟩,q⟩
theorem un_neg:UnR X (unaryOp .USub) (rU fun i=>.int (-i)):=unI fun _ _ _ _ _ q=>neg_int q
end
def scal:V→V→Bool
 | .non,.non=>true | .non,.int _=>true | .int _,.non=>true | .non,.bl _=>true | .bl _,.non=>true | .non,.str _=>true | .str _,.non=>true
 | .int _,.int _=>true | .bl _,.bl _=>true | .str _,.str _=>true | .byt _,.byt _=>true
 | .int _,.str _=>true | .str _,.int _=>true | .bl _,.str _=>true | .str _,.bl _=>true
 | _,_=>false
def rEq:R2:=fun x y H Q=>scal x y=true∧Q (.bl (decide (x=y))) H
def rNe:R2:=fun x y H Q=>scal x y=true∧Q (.bl (!decide (x=y))) H
theorem dec_int {i j:Int}:decide (V.int i=V.int j) =(i == j):=by
 rw[Bool.eq_iff_iff]
 simp
theorem dec_bl {i j:Bool}:decide (V.bl i=V.bl j) =(i == j):=by
 rw[Bool.eq_iff_iff]
 simp
theorem dec_str {i j:Str}:decide (V.str i=V.str j) =(i == j):=by
 rw[Bool.eq_iff_iff]
 simp
theorem dec_byt {i j:Array UInt8}:decide (V.byt i=V.byt j) =(i.toList == j.toList):=by
 rw[Bool.eq_iff_iff]
 cases i
 cases j
 simp
section
variable {X:Cx}{a b c:Expr}{ta tb tc:TE}{pos:Pos}
theorem fin_bl {pins:List (Addr×Obj)}{σ:St}{H:Hp}{s:Shared}{Q:VK}{k k':Bool}(I:Inv X pins σ H s) (q:Q (.bl k) H) (e:k=k'):EP X pins σ Q (.bool k') s:=by
 subst e
 exact⟨.bl k,H,I,rfl,q⟩
theorem op_eq:OpR X (compareOp .Eq) rEq:=by
 intro pins s σ H x y v u Q I rx ry h
 obtain⟨hs,q⟩:=h
 cases x with
 | non =>
  cases rx
  cases y with
  | non=>cases ry;exact PySem.EqNone.eq_none_none (fin_bl I q (by simp))
  | bl j=>cases ry;exact PySem.EqNone.eq_none_bool (fin_bl I q (by simp))
  | int j=>obtain⟨t',rfl⟩:=ry;exact PySem.EqNone.eq_none_int (fin_bl I q (by simp))
  | str j=>obtain⟨t',rfl⟩:=ry;exact PySem.EqNone.eq_none_str (fin_bl I q (by simp))
  | _=>exact absurd (show false=true from hs) Bool.false_ne_true
 | bl i =>
  cases rx
  cases y with
  | non=>cases ry;exact PySem.EqNone.eq_bool_none (fin_bl I q (by simp))
  | bl j=>cases ry;exact eq_bool (fin_bl I q dec_bl)
  | str j=>obtain⟨t',rfl⟩:=ry;exact PySem.EqMixed.eq_bool_str (fin_bl I q (by simp))
  | _=>exact absurd (show false=true from hs) Bool.false_ne_true
 | int i =>
  obtain⟨t,rfl⟩:=rx
  cases y with
  | non=>cases ry;exact PySem.EqNone.eq_int_none (fin_bl I q (by simp))
  | int j=>obtain⟨t',rfl⟩:=ry;exact eq_int (fin_bl I q dec_int)
  | str j=>obtain⟨t',rfl⟩:=ry;exact PySem.EqMixed.eq_int_str (fin_bl I q (by simp))
  | _=>exact absurd (show false=true from hs) Bool.false_ne_true
 | str i =>
  obtain⟨t,rfl⟩:=rx
  cases y with
  | non=>cases ry;exact PySem.EqNone.eq_str_none (fin_bl I q (by simp))
  | bl j=>cases ry;exact PySem.EqMixed.eq_str_bool (fin_bl I q (by simp))
  | int j=>obtain⟨t',rfl⟩:=ry;exact PySem.EqMixed.eq_str_int (fin_bl I q (by simp))
  | str j=>obtain⟨t',rfl⟩:=ry;exact eq_str (fin_bl I q dec_str)
  | _=>exact absurd (show false=true from hs) Bool.false_ne_true
 | byt i =>
  obtain⟨t,rfl⟩:=rx
  cases y with
  | byt j=>obtain⟨t',rfl⟩:=ry;exact PySem.W.eq_bytes (fin_bl I q dec_byt)
  | _=>exact absurd (show false=true from hs) Bool.false_ne_true
 | _=>cases y <;> exact absurd (show false=true from hs) Bool.false_ne_true
theorem op_ne:OpR X (compareOp .NotEq) rNe:=by
 intro pins s σ H x y v u Q I rx ry h
 obtain⟨hs,q⟩:=h
 cases x with
 | non =>
  cases rx
  cases y with
  | non=>cases ry;exact PySem.EqNone.ne_none_none (fin_bl I q (by simp))
  | bl j=>cases ry;exact PySem.EqNone.ne_none_bool (fin_bl I q (by simp))
  | int j=>obtain⟨t',rfl⟩:=ry;exact PySem.EqNone.ne_none_int (fin_bl I q (by simp))
  | str j=>obtain⟨t',rfl⟩:=ry;exact PySem.EqNone.ne_none_str (fin_bl I q (by simp))
  | _=>exact absurd (show false=true from hs) Bool.false_ne_true
 | bl i =>
  cases rx
  cases y with
  | non=>cases ry;exact PySem.EqNone.ne_bool_none (fin_bl I q (by simp))
  | bl j=>cases ry;exact ne_bool (fin_bl I q (congrArg not dec_bl))
  | str j=>obtain⟨t',rfl⟩:=ry;exact PySem.EqMixed.ne_bool_str (fin_bl I q (by simp))
  | _=>exact absurd (show false=true from hs) Bool.false_ne_true
 | int i =>
  obtain⟨t,rfl⟩:=rx
  cases y with
  | non=>cases ry;exact PySem.EqNone.ne_int_none (fin_bl I q (by simp))
  | int j=>obtain⟨t',rfl⟩:=ry;exact ne_int (fin_bl I q (congrArg not dec_int))
  | str j=>obtain⟨t',rfl⟩:=ry;exact PySem.EqMixed.ne_int_str (fin_bl I q (by simp))
  | _=>exact absurd (show false=true from hs) Bool.false_ne_true
 | str i =>
  obtain⟨t,rfl⟩:=rx
  cases y with
  | non=>cases ry;exact PySem.EqNone.ne_str_none (fin_bl I q (by simp))
  | bl j=>cases ry;exact PySem.EqMixed.ne_str_bool (fin_bl I q (by simp))
  | int j=>obtain⟨t',rfl⟩:=ry;exact PySem.EqMixed.ne_str_int (fin_bl I q (by simp))
  | str j=>obtain⟨t',rfl⟩:=ry;exact ne_str (fin_bl I q (congrArg not dec_str))
  | _=>exact absurd (show false=true from hs) Bool.false_ne_true
 | byt i =>
  obtain⟨t,rfl⟩:=rx
  cases y with
  | byt j=>obtain⟨t',rfl⟩:=ry;exact PySem.W.ne_bytes (fin_bl I q (congrArg not dec_byt))
  | _=>exact absurd (show false=true from hs) Bool.false_ne_true
 | _=>cases y <;> exact absurd (show false=true from hs) Bool.false_ne_true
theorem op_lt:OpR X (compareOp .Lt) (rI0 fun i j=>.bl (decide (i<j))):=opB0 fun _ _ _ _ _ _ _ q=>lt_int q
theorem op_le:OpR X (compareOp .LtE) (rI0 fun i j=>.bl (decide (i≤j))):=opB0 fun _ _ _ _ _ _ _ q=>le_int q
theorem op_gt:OpR X (compareOp .Gt) (rI0 fun i j=>.bl (decide (j<i))):=opB0 fun _ _ _ _ _ _ _ q=>gt_int q
theorem op_ge:OpR X (compareOp .GtE) (rI0 fun i j=>.bl (decide (j≤i))):=opB0 fun _ _ _ _ _ _ _ q=>ge_int q
theorem nomark (b:Expr) {op:CmpOp}(h:op ≠ .In:=by decide) (h2:op ≠ .NotIn:=by decide):behindInMarks op b=false:=by
 have e1:(op == CmpOp.In)=false:=by cases op <;> first|rfl|exact absurd rfl h
 have e2:(op == CmpOp.NotIn)=false:=by cases op <;> first|rfl|exact absurd rfl h2
 cases b <;> simp[behindInMarks,e1,e2]
theorem pe_cmpR {op:CmpOp}{r:R2}(ho:OpR X (compareOp op) r) (ha:PE X a ta) (hb:PE X b tb) (hm:behindInMarks op b=false):PE X (.Compare a [op] [b] pos) (tOp r ta tb):=by
 intro pins s σ H Q I h
 exact wpAny_Compare1 (binT ha hb I h fun v u s2 x y H2 I2 rx ry q=>ho pins s2 σ H2 x y v u Q I2 rx ry q) hm
def tTest (t:TE):TT:=fun σ H Q=>t σ H fun x H'=>∃k,x = .bl k∧Q k H'
theorem pt_cmpR {op:CmpOp}{r:R2}(ho:OpR X (compareOp op) r) (ha:PE X a ta) (hb:PE X b tb) (hm:behindInMarks op b=false):PT X (.Compare a [op] [b] pos) (tTest (tOp r ta tb)):=by
 intro pins s σ H Q I h
 refine wpAny_isTrue_Compare1 (thn (ha pins s σ H _ I h) fun v s1 ⟨x,H1,I1,r1,q1⟩=>thn (hb pins s1 σ H1 _ I1 q1) fun u s2 ⟨y,H2,I2,r2,q2⟩ =>
  thn (ho pins s2 σ H2 x y v u _ I2 r1 r2 q2) fun c s3 ⟨z,H3,I3,r3,k,e,q3⟩=>?_) hm
 subst e
 cases r3
 exact wpAny_truthy_bool ⟨H3,I3,q3⟩
def tChain (r r':R2) (ta tb tc:TE):TE:=fun σ H Q=>ta σ H fun x H1=>tb σ H1 fun y H2=>r x y H2 fun z H3=>∃k,z = .bl k ∧
 (if k=true then tc σ H3 fun w' H4=>r' y w' H4 Q else Q (.bl false) H3)
theorem pt_chain {op op':CmpOp}{r r':R2}(ho:OpR X (compareOp op) r) (ho':OpR X (compareOp op') r') (ha:PE X a ta) (hb:PE X b tb) (hc:PE X c tc)
  (hm:lastMarks [op,op'] [b,c]=false:=by with_unfolding_all rfl):PT X (.Compare a [op,op'] [b,c] pos) (tTest (tChain r r' ta tb tc)):=by
 intro pins s σ H Q I h
 refine isTrue_chain (thn (ha pins s σ H _ I h) fun v s1 ⟨x,H1,I1,r1,q1⟩=>test_link (thn (hb pins s1 σ H1 _ I1 q1) fun u s2 ⟨y,H2,I2,r2,q2⟩ =>
  thn (ho pins s2 σ H2 x y v u _ I2 r1 r2 q2) fun d s3 ⟨z,H3,I3,r3,k,e,q3⟩=>?_)) hm
 subst e
 cases r3
 refine wpAny_truthy_bool ?_
 cases k with
 | false =>
  obtain⟨k',e',q'⟩:=q3
  cases e'
  exact ite_ff ⟨H3,I3,q'⟩
 | true =>
  refine ite_tt (test_last (thn (hc pins s3 σ H3 _ I3 q3) fun w' s4 ⟨z',H4,I4,r4,q4⟩=>thn (ho' pins s4 σ H4 y z' u w' _ I4 r2 r4 q4) fun d' s5 ⟨z2,H5,I5,r5,k2,e2,q5⟩=>?_))
  subst e2
  cases r5
  exact wpAny_truthy_bool ⟨H5,I5,q5⟩
def TruV (K:PySem.W.Frag) (x:V) (H:Hp) (k:Bool):Prop :=
 match x with
 | .non=>k=false
 | .bl b=>k=b
 | .int i=>k =(i != 0)
 | .str y=>y.length≤sizeLine∧k =((y.length:Int) != 0)
 | .byt y=>y.size≤sizeLine∧k =((y.size:Int) != 0)
 | .ref p=>(∃xs,SqL K H p xs∧k = !xs.isEmpty) ∨(∃xs,SqT K H p xs∧k = !xs.isEmpty) ∨ ∃kvs,H p=some (.dK kvs)∧k = !kvs.isEmpty
 | _=>False
theorem isEmpty_kv {κ:Type}{kvs:List (κ×V)}{vs:List (κ×Value)}(r:KV kvs vs):(!vs.isEmpty) = !kvs.isEmpty:=by
 cases r <;> rfl
theorem isEmpty_of {xs:List V}{its:List Value}(r:Vals xs its):(!its.toArray.isEmpty) = !xs.isEmpty:=by
 cases r <;> simp
theorem line63:(sizeLine:Nat)<2^63:=by rw[sizeLine_eq];decide
theorem tru_ok:TruR X (fun x H Q=>∃k,TruV X.K x H k∧Q k H):=by
 intro pins s σ H x v Q I rx h
 obtain⟨k,e,q⟩:=h
 have hl:=line63
 have hs:sizeLine=16777216:=sizeLine_eq
 cases x with
 | non =>
  cases rx
  have e':k=false:=e
  subst e'
  exact truthy_none ⟨H,I,q⟩
 | bl b =>
  cases rx
  have e':k=b:=e
  subst e'
  exact wpAny_truthy_bool ⟨H,I,q⟩
 | int i =>
  obtain⟨t,rfl⟩:=rx
  have e':k =(i != 0):=e
  subst e'
  exact PySem.P.truthy_int ⟨H,I,q⟩
 | str y =>
  obtain⟨t,rfl⟩:=rx
  obtain⟨hy,e'⟩ : y.length≤sizeLine∧k =((y.length:Int) != 0):=e
  subst e'
  exact PySem.P.truthy_str (by omega) ⟨H,I.tok _,q⟩
 | byt y =>
  obtain⟨t,rfl⟩:=rx
  obtain⟨hy,e'⟩ : y.size≤sizeLine∧k =((y.size:Int) != 0):=e
  subst e'
  exact PySem.W.truthy_bytes (by omega) ⟨H,I.tok _,q⟩
 | ref p =>
  cases rx
  have e':(∃xs,SqL X.K H p xs∧k = !xs.isEmpty) ∨(∃xs,SqT X.K H p xs∧k = !xs.isEmpty) ∨ ∃kvs,H p=some (.dK kvs)∧k = !kvs.isEmpty:=e
  rcases e' with⟨xs,hx,e'⟩|⟨xs,hx,e'⟩|⟨kvs,hx,e'⟩
  ·subst e'
   obtain⟨its,r,pl,hz⟩:=I.list hx
   have hlen:=r.length
   exact wpAny_truthy_list pl.isList (by simp only[List.size_toArray];omega) ⟨H,I.tok _,by rw[isEmpty_of r];exact q⟩
  ·subst e'
   obtain⟨its,r,pl,hz⟩:=I.tuple hx
   have hlen:=r.length
   exact truthy_tuple pl (by simp only[List.size_toArray];omega) ⟨H,I.tok _,by rw[isEmpty_of r];exact q⟩
  ·subst e'
   obtain⟨hz,hS,vs,r,m⟩ : kvs.length≤sizeLine∧(p == sysModules)=false∧∃vs,KV kvs vs∧s.heap.DictOf (mixKind X.prog X.w) p vs:=I.hok p _ hx
   have hlen:kvs.length=vs.length:=Paired.length r
   exact wpAny_truthy_dict hS m (by omega) ⟨H,I.tok _,by rw[isEmpty_kv r];exact q⟩
 | _=>exact(show False from e).elim
theorem pt_truth (ha:PE X a ta) (he:∀whole,isTrue a X.env whole =(do let v ← whole;standAt a.pos;holding [v] (truthy v))) :
  PT X a (fun σ H Q=>ta σ H fun x H'=>∃k,TruV X.K x H' k∧Q k H'):=by
 intro pins s σ H Q I h
 exact isTrue_plain (thn (ha pins s σ H _ I h) fun v s1 ⟨x,H1,I1,r1,q1⟩=>tru_ok pins s1 σ H1 x v Q I1 r1 q1) (he _)
theorem vals1 {x:V}{us:List Value}(r:Vals [x] us):∃u,us=[u]∧RelV x u:=by
 cases r with
 | cons r1 r2=>cases r2;exact⟨_,rfl,r1⟩
theorem vals2 {x y:V}{us:List Value}(r:Vals [x,y] us):∃u w',us=[u,w']∧RelV x u∧RelV y w':=by
 cases r with
 | cons r1 r2 =>
  cases r2 with
  | cons r3 r4=>cases r4;exact⟨_,_,rfl,r1,r3⟩
theorem call_abs:CallR X (.builtin "abs") (fun xs H Q=>∃i,xs=[.int i]∧Q (.int (if i<0 then -i else i)) H):=by
 intro pins s σ H xs us Q I r h
 obtain⟨i,rfl,q⟩:=h
 obtain⟨u,rfl,t,rfl⟩:=vals1 r
 exact call_abs_int fun u tk=>⟨.int (if i<0 then -i else i),H,I.tok _,⟨_,rfl⟩,q⟩
theorem call_max2 (hc:X.calm=true):CallR X (.builtin "max") (fun xs H Q=>∃i j,xs=[.int i,.int j]∧Q (.int (if j > i then j else i)) H):=by
 intro pins s σ H xs us Q I r h
 obtain⟨i,j,rfl,q⟩:=h
 obtain⟨u,w',rfl,⟨t,rfl⟩,⟨t',rfl⟩⟩:=vals2 r
 refine max_two_ints (I.ok.hd hc) fun h' tk k=>⟨_,H,I.kept k,?_,q⟩
 by_cases hj:j > i
 ·rw[if_pos hj,if_pos hj];exact⟨_,rfl⟩
 ·rw[if_neg hj,if_neg hj];exact⟨_,rfl⟩
theorem call_min2 (hc:X.calm=true):CallR X (.builtin "min") (fun xs H Q=>∃i j,xs=[.int i,.int j]∧Q (.int (if j<i then j else i)) H):=by
 intro pins s σ H xs us Q I r h
 obtain⟨i,j,rfl,q⟩:=h
 obtain⟨u,w',rfl,⟨t,rfl⟩,⟨t',rfl⟩⟩:=vals2 r
 refine min_two_ints (I.ok.hd hc) fun h' tk k=>⟨_,H,I.kept k,?_,q⟩
 by_cases hj:j<i
 ·rw[if_pos hj,if_pos hj];exact⟨_,rfl⟩
 ·rw[if_neg hj,if_neg hj];exact⟨_,rfl⟩
theorem call_int1:CallR X (.type "int") (fun xs H Q=>(∃i,xs=[.int i]∧Q (.int i) H) ∨ ∃k,xs=[.bl k]∧Q (.int (if k then 1 else 0)) H):=by
 intro pins s σ H xs us Q I r h
 rcases h with⟨i,rfl,q⟩|⟨k,rfl,q⟩
 ·obtain⟨u,rfl,t,rfl⟩:=vals1 r
  exact call_int_int ⟨.int i,H,I,⟨_,rfl⟩,q⟩
 ·obtain⟨u,rfl,r1⟩:=vals1 r
  cases r1
  exact call_int_bool ⟨.int (if k then 1 else 0),H,I.tok _,⟨_,rfl⟩,q⟩
end
structure ObjM (h:Heap) (x dx C:Addr) (mA:Str→Option Value):Prop where
 obj:h.get? x=some (PySem.W.instObj C dx)
 ns:h.Ns1 dx mA
 ne:dx≠x
theorem lookIn_ns {h:Heap}{dx:Addr}{mA:Str→Option Value}(n:h.Ns1 dx mA):∃od,h.get? dx=some od∧∀name,PySem.W.lookIn name od=some (mA name):=by
 obtain⟨o,es,ep,ho,hd,hk,_,hm⟩:=n
 refine⟨o,ho,fun name=>?_⟩
 have e:=hm name
 unfold nsFind findBy at e
 rw[← Array.find?_toList]at e
 unfold PySem.W.lookIn
 rw[hd]
 dsimp only
 split
 ·rename_i y q
  rw[q]at e
  exact congrArg some e
 ·rename_i q
  rw[q]at e
  have a:es.toList.any (·.refKey)=false:=by
   rw[List.any_eq_false]
   intro y hy
   obtain⟨z,t,hkey⟩:=hk y (Array.mem_toList_iff.mp hy)
   simp[DictEntry.refKey,hkey]
  have a':¬ es.toList.any (·.refKey)=true:=by rw[a];exact Bool.false_ne_true
  rw[if_neg a']
  exact congrArg some e
theorem ObjM.look {h:Heap}{x dx C:Addr}{mA:Str→Option Value}(I:ObjM h x dx C mA):∃od,PySem.W.InstAt h x (PySem.W.instObj C dx) C (some od)∧∀name,PySem.W.lookIn name od=some (mA name) :=
 let ⟨od,ho,hl⟩:=lookIn_ns I.ns
 ⟨od,⟨I.obj,rfl,rfl,ho⟩,hl⟩
theorem RelO.some_of {v:V}{o:Option Value}(r:RelO (some v) o):∃u,o=some u∧RelV v u:=by
 cases o with
 | none=>exact(show False from r).elim
 | some u=>exact⟨u,rfl,r⟩
theorem handed_of {v:V}{u:Value}(r:RelV v u):PySem.W.handedIn u=true:=by
 cases v with
 | non=>cases (show u=Value.none from r);rfl
 | bl b=>cases (show u=Value.bool b from r);rfl
 | int i=>obtain⟨t,e⟩:=(show ∃t,u=Value.int i t from r);cases e;rfl
 | str x=>obtain⟨t,e⟩:=(show ∃t,u=Value.str x t from r);cases e;rfl
 | byt b=>obtain⟨t,e⟩:=(show ∃t,u=Value.bytes b t from r);cases e;rfl
 | flt b=>obtain⟨t,e⟩:=(show ∃t,u=Value.float b t from r);cases e;rfl
 | ref a=>cases (show u=Value.ref a from r);rfl
 | ty n=>cases (show u=Value.type n from r);rfl
section
variable {P:Program}{w:World}{H H':Hp}{h h':Heap}{a C dx:Addr}{fs fs':List (Str×V)}
theorem ins_get (hok:HOk P w H h) (e:H a=some (.ins C dx fs)):∃mA,ObjM h a dx C mA∧(∀f,RelO (fs.lookup f) (mA f))∧PySem.Within mA (fs.map (·.1))∧fs.length≤1000∧H dx=some (.own a):=by
 obtain⟨d,z,ne,ob,mA,n,r,q⟩:=(show ObjOk P w H h a (.ins C dx fs) from hok a _ e)
 exact⟨mA,⟨ob,n,ne⟩,r,q,z,d⟩
end
structure Cls (K:PySem.W.Frag) (C:Addr):Prop where
 pg:PySem.W.plainGet K C Str.empty=true
 hd:PySem.W.hasDictIn K C=true
 po:PySem.W.plainOver K C=true
 sa:PySem.W.findIn K (.ref C) "__setattr__" = some (some (.builtin "object.__setattr__"))
theorem Cls.get {K:PySem.W.Frag}{C:Addr}(c:Cls K C) (f:Str):PySem.W.plainGet K C f=true:=c.pg
section
variable {X:Cx}{pins:List (Addr×Obj)}{σ:St}{H:Hp}{s:Shared}{a C dx:Addr}{fs:List (Str×V)}{f:Str}{v:V}{A:Around}{E:Value→Shared→Prop}
theorem attr_of {prog:Program}{w:World}{env:Env}{e:Expr}{f:Str}{pos:Pos}{s:Shared}{Q:Value→Shared→Prop}(hb:attributeBase e f env (eval e env)=eval e env)
  (h:wpAny (model prog w) A (eval e env) (fun o s₁=>wpAny (model prog w) A (getAttr o f true) Q E s₁) E s):wpAny (model prog w) A (eval (.Attribute e f pos) env) Q E s :=
 Attribute_any_ h (by rw[arm_eval_Attribute,hb])
end
section
variable {X:Cx}{pins:List (Addr×Obj)}{σ:St}{H:Hp}{s:Shared}{A:Around}{E:Value→Shared→Prop}{Q:Value→Shared→Prop}{c:Value}{b:Bool}
inductive TyOf (K:PySem.W.Frag) (H:Hp):V→Value→Prop where
 | non:TyOf K H .non (.type "NoneType")
 | bl (x:Bool):TyOf K H (.bl x) (.type "bool")
 | int (i:Int):TyOf K H (.int i) (.type "int")
 | str (x:Str):TyOf K H (.str x) (.type "str")
 | flt (x:UInt64):TyOf K H (.flt x) (.type "float")
 | lst {a:Addr}{xs:List V}(e:H a=some (.lst xs)):TyOf K H (.ref a) (.type "list")
 | frz {a:Addr}{o:Obj}{xs:List V}(e:H a=some (.frz o (.lst xs))):TyOf K H (.ref a) (.type "list")
 | tup {a:Addr}{xs:List V}(e:H a=some (.tup xs)):TyOf K H (.ref a) (.type "tuple")
 | dK {a:Addr}{kvs:List (Key×V)}(e:H a=some (.dK kvs)):TyOf K H (.ref a) (.type "dict")
 | dT {a:Addr}{kvs:List (List Key×V)}(e:H a=some (.dT kvs)):TyOf K H (.ref a) (.type "dict")
 | ins {a C dx:Addr}{fs:List (Str×V)}(e:H a=some (.ins C dx fs)) (cl:Cls K C) (ha:PySem.W.findIn K (.ref C) "__class__" = some (some (.builtin "object.__class__")))
   (hn:PySem.W.specialIn K (.builtin "object.__class__") "__get__" = some (some (.builtin "getset_descriptor.__get__"))) (htk:PySem.W.takesIn K (.builtin "object.__class__")=some true)
   (hm:PySem.W.mroIn K C (.type "object")=some true):TyOf K H (.ref a) (.ref C)
theorem isinst_ok {x:V}{u t:Value}(I:Inv X pins σ H s) (rx:RelV x u) (ty:TyOf X.K H x t) (e:PySem.W.kitOne X.K t c=some b) (h:∀tk,Q (.bool b) { s with toks:=tk }) :
  wpAny (model X.prog X.w) A (call (.builtin "isinstance") [u,c]) Q E s:=by
 cases ty with
 | non=>cases (show u=Value.none from rx);exact PySem.W.kia_one PySem.W.kitx_none I.kIn True.intro e (fun z=>nomatch z) h
 | bl y=>cases (show u=Value.bool y from rx);exact PySem.W.kia_one PySem.W.kitx_bool I.kIn True.intro e (fun z=>nomatch z) h
 | int i=>obtain⟨t,q⟩:=(show ∃t,u=Value.int i t from rx);cases q;exact PySem.W.kia_one PySem.W.kitx_int I.kIn True.intro e (fun z=>nomatch z) h
 | str y=>obtain⟨t,q⟩:=(show ∃t,u=Value.str y t from rx);cases q;exact PySem.W.kia_one PySem.W.kitx_str I.kIn True.intro e (fun z=>nomatch z) h
 | flt y=>obtain⟨t,q⟩:=(show ∃t,u=Value.float y t from rx);cases q;exact PySem.W.kia_one PySem.W.kitx_float I.kIn True.intro e (fun z=>nomatch z) h
 | @lst a xs ea =>
  cases (show u=Value.ref a from rx)
  obtain⟨_,_,n,_,h1⟩:=(show ObjOk X.prog X.w H s.heap a (.lst xs) from I.hok a _ ea)
  exact PySem.W.kia_one PySem.W.kitx_list I.kIn ⟨_,h1,rfl⟩ e (fun z=>nomatch z) h
 | @frz a ob xs ea =>
  cases (show u=Value.ref a from rx)
  obtain⟨_,_,_,n,_,h1⟩:=(show ObjOk X.prog X.w H s.heap a (.frz ob (.lst xs)) from I.hok a _ ea)
  exact PySem.W.kia_one PySem.W.kitx_list I.kIn ⟨_,h1,rfl⟩ e (fun z=>nomatch z) h
 | @tup a xs ea =>
  cases (show u=Value.ref a from rx)
  obtain⟨_,_,_,p⟩:=(show ObjOk X.prog X.w H s.heap a (.tup xs) from I.hok a _ ea)
  obtain⟨o,h1,h2,_⟩:=p
  exact PySem.W.kia_one PySem.W.kitx_tuple I.kIn ⟨o,h1,h2⟩ e (fun z=>nomatch z) h
 | @dK a kvs ea =>
  cases (show u=Value.ref a from rx)
  obtain⟨_,_,vs,_,p⟩:=(show ObjOk X.prog X.w H s.heap a (.dK kvs) from I.hok a _ ea)
  obtain⟨o,es,ep,h1,h2,_⟩:=p
  exact PySem.W.kia_one PySem.W.kitx_dict I.kIn ⟨o,h1,h2.1⟩ e (fun z=>nomatch z) h
 | @dT a kvs ea =>
  cases (show u=Value.ref a from rx)
  obtain⟨_,_,xs,_,o,es,ep,h1,h2,_⟩:=(show ObjOk X.prog X.w H s.heap a (.dT kvs) from I.hok a _ ea)
  exact PySem.W.kia_one PySem.W.kitx_dict I.kIn ⟨o,h1,h2.1⟩ e (fun z=>nomatch z) h
 | @ins a C dx fs ea cl ha hn htk hm =>
  cases (show u=Value.ref a from rx)
  obtain⟨mA,O,_⟩:=ins_get I.hok ea
  obtain⟨od,J,_⟩:=O.look
  exact PySem.W.kia_one (PySem.W.kitx_own (cl.get _) cl.hd ha hn htk hm) I.kIn J e (fun z=>nomatch z) h
end
structure Room (k:Nat) (A:Around):Prop where
 hd:A.handled=none
 dp:A.depth+3*k+5<recursionLimit
 un:A.units+16*k+200<cLine
 gd:A.guards=some []
theorem Room.mono {j k:Nat}{A:Around}(r:Room k A) (h:j≤k):Room j A:=⟨r.hd,by have:=r.dp;omega,by have:=r.un;omega,r.gd⟩
theorem guards_deeper {A:Around}{env:Env}(h:A.guards=some []):(A.deeper env).guards=some []:=by
 first|exact h|simp[Around.deeper,Around.under,Code.guards,Code.isGuard,pushGuards,h]
theorem Room.deeper {k:Nat}{A:Around}(r:Room (k+1) A) (env:Env):Room k (A.deeper env) :=
 ⟨r.hd,by have:=r.dp;show A.depth+1+3*k+5<_;omega,by have:=r.un;show A.units+3+16*k+200<_;omega,guards_deeper r.gd⟩
theorem make_depth {A:Around}{C:Addr}{us:List Value}{kw:List (Str×Value)}:(A.under (.builtin "type.__call__" ⟨.ref C::us,kw⟩)).depth=A.depth+1:=by
 first|rfl|simp[Around.under,Code.weight,Code.isCreation,Code.isGuard,Code.isCaller,Code.frames,Code.isFrame,guardIds]
theorem make_units {A:Around}{C:Addr}{us:List Value}{kw:List (Str×Value)}:(A.under (.builtin "type.__call__" ⟨.ref C::us,kw⟩)).units=A.units+1:=by
 first|rfl|simp[Around.under,Code.cUnits,Code.frames,Code.isFrame]
theorem guards_make {A:Around}{C:Addr}{us:List Value}{kw:List (Str×Value)}(h:A.guards=some []):(A.under (.builtin "type.__call__" ⟨.ref C::us,kw⟩)).guards=some []:=by
 first|exact h|(show pushGuards _ A.guards=_;rw[h];rfl)
theorem Room.make {k:Nat}{A:Around}(r:Room (k+1) A) (C:Addr) (us:List Value) (kw:List (Str×Value)):Room k (A.under (.builtin "type.__call__" ⟨.ref C::us,kw⟩)) :=
 ⟨r.hd,by have:=r.dp;rw[make_depth];omega,by have:=r.un;rw[make_units];omega,guards_make r.gd⟩
theorem Room.depth {k:Nat}{A:Around}(r:Room k A):A.depth<recursionLimit:=by have:=r.dp;omega
theorem Room.units {k:Nat}{A:Around}(r:Room k A):A.units+64<cLine:=by have:=r.un;omega
def tNil:TA:=fun _ H Q=>Q [] H
def tCons (ta:TE) (tr:TA):TA:=fun σ H Q=>ta σ H fun x H1=>tr σ H1 fun xs H2=>Q (x::xs) H2
section
variable {X:Cx}{e:Expr}{es:List Expr}{te:TE}{t:TA}{pos:Pos}
theorem pa_nil:PA X [] tNil:=fun _ _ _ _ H Q I h=>Calls.spliced_nil ⟨[],H,I,.nil,h⟩
theorem pa_cons (ha:PE X e te) (hr:PA X es t) (hs:starEach (e::es) X.env =(false,eval e X.env)::starEach es X.env:=by rfl):PA X (e::es) (tCons te t):=by
 intro pos pins s σ H Q I h
 rw[hs]
 show wpAny _ _ (spliced ((false,eval e X.env)::backTo pos (starEach es X.env))) _ _ s
 refine Calls.spliced_cons (thn (ha pins s σ H _ I h) fun u s1 ⟨x,H1,I1,r1,q1⟩=>?_)
 exact thn (hr pos pins s1 σ H1 _ I1 q1) fun us s2 ⟨xs,H2,I2,r2,q2⟩=>⟨x::xs,H2,I2,.cons r1 r2,q2⟩
def tTup (t:TA):TE:=fun σ H Q=>t σ H fun xs H1=>xs.length≤sizeLine∧∀p,H1 p=none→Q (.ref p) (upd H1 p (.tup xs))
def tLst (t:TA):TE:=fun σ H Q=>t σ H fun xs H1=>xs.length≤sizeLine∧∀p,H1 p=none→Q (.ref p) (upd H1 p (.lst xs))
theorem pe_tup {x1}(h:PA X es t):PE X (.Tuple es x1 pos) (tTup t):=by
 intro pins s σ H Q I hq
 refine wpAny_Tuple_spliced (thn (h pos pins s σ H _ I hq) fun us s1 ⟨xs,H1,I1,r,z,q⟩=>⟨by rw[← r.length];exact z,?_⟩)
 have hf:H1 s1.heap.objs.size=none:=I1.hok.fresh (Nat.le_refl _)
 refine⟨.ref s1.heap.objs.size,upd H1 s1.heap.objs.size (.tup xs),I1.laid (t':=s1.toks) (fun b u e=>Heap.get?_push_of_some _ e) (Nat.le_refl _) ?_,rfl,q _ hf⟩
 exact⟨z,us,r,⟨_,Heap.get?_push_size _ rfl,rfl,_,rfl⟩⟩
theorem pe_lst (h:PA X es t):PE X (.List es pos) (tLst t):=by
 intro pins s σ H Q I hq
 refine wpAny_List_spliced (thn (h pos pins s σ H _ I hq) fun us s1 ⟨xs,H1,I1,r,z,q⟩=>⟨by rw[← r.length];exact z,?_⟩)
 have hf:H1 s1.heap.objs.size=none:=I1.hok.fresh (Nat.le_refl _)
 refine⟨.ref s1.heap.objs.size,upd H1 s1.heap.objs.size (.lst xs),I1.laid (t':=s1.toks) (fun b u e=>Heap.get?_push_of_some _ e) (Nat.le_refl _) ?_,rfl,q _ hf⟩
 exact⟨z,us,0,r,Heap.get?_push_size _ rfl⟩
end
abbrev Sp:=List V→Hp→VK→XK→Prop
abbrev CXT:=List Env→Hp→Shared→XK→Value→Shared→Prop
structure Env0 (P:Program) (w:World) (K:PySem.W.Frag) (mg:Str→Option Value) (base:Heap) (A:Around) (outer:List Env) (s:Shared) (H:Hp):Prop where
 frames:A.frames=some outer
 mod:Mod K mg base
 bs:∀b o,base.get? b=some o→s.heap.get? b=some o∧H b=none
 bsz:base.objs.size≤s.heap.objs.size
 funs:s.heap.FunFrames base outer
 frf:∀b∈frs outer,H b=none
 hok:HOk P w H s.heap
 bare:AllBare s.gens
def CE (outer:List Env) (P:Program) (w:World) (H:Hp) (s:Shared) (Q:VK) (u:Value) (s':Shared):Prop :=
 ∃v H',s'.os=s.os∧AllBare s'.gens∧Un (frs outer) [] H H' s.heap s'.heap∧HOk P w H' s'.heap∧RelV v u∧Q v H'
def CR (CX:CXT) (outer:List Env) (P:Program) (w:World) (H:Hp) (s:Shared) (Q:VK) (E:XK) (r:Result) (s':Shared):Prop :=
 match r with
 | .ok (.ret u)=>CE outer P w H s Q u s'
 | .ok _=>False
 | .error e=>CX outer H s E e s'
structure FnOk (P:Program) (w:World) (K:PySem.W.Frag) (mg:Str→Option Value) (base:Heap) (CX:CXT) (k:Nat) (f:Addr) (fd:FuncData) (ps:List Str) (sp:Sp):Prop where
 len:∀vs H Q E,sp vs H Q E→vs.length=ps.length
 run:∀(A:Around) (outer:List Env) (s:Shared) (H:Hp) (args:Args) (us:List Value) (vs:List V) (Q:VK) (E:XK),Room k A→Env0 P w K mg base A outer s H→BindsTo s fd args (ps.zip us)→Vals vs us→sp vs H Q E →
  codeAny (model P w) A (.call (.ref f) args) (CR CX outer P w H s Q E) s
section
variable {X:Cx}{pins:List (Addr×Obj)}{σ:St}{H:Hp}{s s':Shared}
theorem Inv.env0 (I:Inv X pins σ H s):Env0 X.prog X.w X.K X.mg X.base X.A X.stack s H :=
 ⟨I.ok.frames,I.ok.mod,I.bs,Nat.le_trans I.ok.bsz I.sz,I.stack,I.stkFree,I.hok,I.bare⟩
theorem Inv.after {Q:VK}{u:Value}(I:Inv X pins σ H s) (h:CE X.stack X.prog X.w H s Q u s'):EP X pins σ Q u s':=by
 obtain⟨v,H',os,bare,un,hok,r,q⟩:=h
 obtain⟨hh,g,d,t,os'⟩:=s'
 obtain rfl:os'=s.os:=os
 exact⟨v,H',I.call (h':=hh) (g':=g) (d':=d) (t':=t) (ch:=[]) un hok bare (fun b z=>absurd z (by simp)),r,q⟩
end
def tCall (sp:Sp) (dvs:List V) (E:XK) (t:TA):TE:=fun σ H Q=>t σ H fun vs H1=>sp (vs++dvs) H1 Q E
def Binds (K:PySem.W.Frag) (fd:FuncData) (ps:List Str) (ds:List Value):Prop :=
 ∀(s:Shared) (us:List Value),K.In s.heap→(us++ds).length=ps.length→BindsTo s fd ⟨us,[]⟩ (ps.zip (us++ds))
theorem Binds.all {K:PySem.W.Frag}{fd:FuncData}{ps:List Str}(h:∀us:List Value,us.length=ps.length→bindArgs fd ⟨us,[]⟩=pure (ps.zip us)):Binds K fd ps []:=fun s us _ hl=>by
 rw[List.append_nil]at hl ⊢
 exact .of_eq (h us hl)
def Passes (CX:CXT) (X:Cx) (E:XK):Prop:=∀(pins:List (Addr×Obj)) (σ:St) (H:Hp) (s:Shared) (e:Value) (s':Shared),Inv X pins σ H s→CX X.stack H s E e s'→X.xe e s'
section
variable {X:Cx}{CX:CXT}{k:Nat}{f C:Addr}{fd:FuncData}{ps:List Str}{sp:Sp}{dvs:List V}{ds:List Value}{E:XK}{x m:Str}{p pos apos:Pos}{e o:Expr}{es:List Expr}{ta:TE}{t:TA}
theorem run_fn {pins:List (Addr×Obj)}{σ:St}{H:Hp}{s:Shared}{Q:VK}{us:List Value}{vs:List V}(F:FnOk X.prog X.w X.K X.mg X.base CX k f fd ps sp) (hr:Room k X.A) (hb:Binds X.K fd ps ds) (hd:Vals dvs ds) (hx:Passes CX X E)
  (I:Inv X pins σ H s) (r:Vals vs us) (h:sp (vs++dvs) H Q E):wpAny (model X.prog X.w) X.A (call (.ref f) us) (EP X pins σ Q) X.xe s:=by
 have r2:Vals (vs++dvs) (us++ds):=r.append hd
 have hl:(us++ds).length=ps.length:=by rw[← r2.length];exact F.len _ _ _ _ h
 refine wpAny_call (codeAny_mono (F.run X.A X.stack s H ⟨us,[]⟩ (us++ds) (vs++dvs) Q E hr I.env0 (hb s us I.kIn hl) r2 h) fun r s' hq=>?_)
 cases r with
 | error e=>exact hx pins σ H s e s' I hq
 | ok fl =>
  cases fl with
  | ret u=>exact I.after hq
  | next=>exact False.elim hq
  | brk=>exact False.elim hq
  | cont=>exact False.elim hq
theorem pe_call (F:FnOk X.prog X.w X.K X.mg X.base CX k f fd ps sp) (hr:Room k X.A) (hg:Gl X x) (hm:X.mg x=some (.ref f)) (hk:PySem.W.keepIn X.K (.ref f)=true) (hb:Binds X.K fd ps ds) (hd:Vals dvs ds) (hx:Passes CX X E)
  (ha:PA X (e::es) t) (hdb:(x ==("__debug__" : Str))=false:=by decide) (he:starEach (e::es) X.env =(false,eval e X.env)::starEach es X.env:=by rfl) (hpl:(backTo pos (starEach es X.env)).any (·.1)=false:=by rfl) :
  PE X (.Call (.Name x p) (e::es) [] pos) (tCall sp dvs E t):=by
 intro pins s σ H Q I h
 refine wpAny_Call_Name_kw (ld_glob I hg hm ?_ hdb)
 refine PySem.W.callWith_K (h₀:=X.base) I.ok.mod.kin hk (thn (ha pos pins s σ H _ I h) fun us s1 ⟨vs,H1,I1,r,q⟩=>⟨I1.kIn,?_⟩) he hpl
 exact run_fn F hr hb hd hx I1 r q
end
structure FnScope (N P:List Str) (sc:Scope):Prop where
 kind:sc.kind = .function
 co:sc.isCoroutine=false
 gen:sc.isGenerator=false
 nd:N.Nodup
 pre:N.take P.length=P
 par:∀x∈P,sc.names.lookup x=some .local∨sc.names.lookup x=some .cell
 nofree:∀y∈sc.names,y.2 ≠ .free
theorem bindL_out {kindOf:Str→Option NameKind}{x:Str}:∀{binds:List (Str×Value)}{m:Str→Option Value},(∀v,(x,v)∉binds)→bindL kindOf binds m x=m x
 | [],_,_=>rfl
 | (n,v)::r,m,h=>by
  unfold bindL
  rw[bindL_out fun w hw=>h w (List.mem_cons_of_mem _ hw)]
  split
  ·have:x≠n:=by rintro rfl;exact h v List.mem_cons_self
   simp[this]
  ·rfl
theorem bindC_out {kindOf:Str→Option NameKind}{x:Str}:∀{binds:List (Str×Value)}{m:Str→Option Value},(∀v,(x,v)∉binds)→bindC kindOf binds m x=m x
 | [],_,_=>rfl
 | (n,v)::r,m,h=>by
  unfold bindC
  rw[bindC_out fun w hw=>h w (List.mem_cons_of_mem _ hw)]
  split
  ·rfl
  ·have:x≠n:=by rintro rfl;exact h v List.mem_cons_self
   simp[this]
theorem bindL_get {kindOf:Str→Option NameKind}{x:Str}{v:Value}:∀{P:List Str}{vs:List Value}{i:Nat}{m:Str→Option Value},P.Nodup→P[i]? = some x→vs[i]? = some v→kindOf x=some .local →
  bindL kindOf (P.zip vs) m x=some v
 | [],_,_,_,_,h,_,_=>by simp at h
 | _::_,[],_,_,_,_,h,_=>by simp at h
 | p::P,w::vs,0,m,nd,h1,h2,hk=>by
  simp at h1 h2;subst h1;subst h2
  show bindL kindOf ((p,w)::P.zip vs) m p=_
  unfold bindL
  rw[bindL_out fun v hv=>(List.nodup_cons.mp nd).1 (List.of_mem_zip hv).1,if_pos hk]
  simp
 | p::P,w::vs,i+1,m,nd,h1,h2,hk=>by
  show bindL kindOf ((p,w)::P.zip vs) m x=_
  unfold bindL
  exact bindL_get (i:=i) (List.nodup_cons.mp nd).2 (by simpa using h1) (by simpa using h2) hk
theorem bindC_get {kindOf:Str→Option NameKind}{x:Str}{v:Value}:∀{P:List Str}{vs:List Value}{i:Nat}{m:Str→Option Value},P.Nodup→P[i]? = some x→vs[i]? = some v→kindOf x≠some .local →
  bindC kindOf (P.zip vs) m x=some v
 | [],_,_,_,_,h,_,_=>by simp at h
 | _::_,[],_,_,_,_,h,_=>by simp at h
 | p::P,w::vs,0,m,nd,h1,h2,hk=>by
  simp at h1 h2;subst h1;subst h2
  show bindC kindOf ((p,w)::P.zip vs) m p=_
  unfold bindC
  rw[bindC_out fun v hv=>(List.nodup_cons.mp nd).1 (List.of_mem_zip hv).1,if_neg hk]
  simp
 | p::P,w::vs,i+1,m,nd,h1,h2,hk=>by
  show bindC kindOf ((p,w)::P.zip vs) m x=_
  unfold bindC
  exact bindC_get (i:=i) (List.nodup_cons.mp nd).2 (by simpa using h1) (by simpa using h2) hk
def start (N:List Str) (vs:List V):St:=vs.map some++List.replicate (N.length-vs.length) none
def cxOf (CX:CXT) (P:Program) (w:World) (K:PySem.W.Frag) (mg:Str→Option Value) (base:Heap) (N:List Str) (qual:Str) (scope:Scope) (f:Addr) (cd:Value) (A:Around) (outer:List Env) (s:Shared) (H:Hp) (E:XK):Cx where
 prog:=P
 w:=w
 K:=K
 mg:=mg
 base:=base
 A:=A.deeper (envOfC qual scope s.heap.objs.size f cd)
 N:=N
 s₀:=s
 H₀:=H
 env:=envOfC qual scope s.heap.objs.size f cd
 outer:=outer
 stack:=envOfC qual scope s.heap.objs.size f cd::outer
 ex:=[]
 calm:=true
 fn:=fun _=>true
 pn:=[]
 xe:=fun e s'=>wpAny (model P w) (A.deeper (envOfC qual scope s.heap.objs.size f cd)) (leaving (envOfC qual scope s.heap.objs.size f cd) e) (fun _ s''=>CX outer H s E e s'') (fun e' s''=>CX outer H s E e' s'') s'
theorem cell_has {sc:Scope}{n:Nat}{x:Str}(h:sc.names.lookup x=some .cell):∃c,(cellsFrom n sc.names []).lookup x=some c:=by
 have q:=PySem.W.cellsFrom_some sc.names n [] (.inl h)
 exact Option.isSome_iff_exists.mp q
theorem inv_start {CX:CXT}{P:Program}{w:World}{K:PySem.W.Frag}{mg:Str→Option Value}{base:Heap}{N ps:List Str}{qual:Str}{scope:Scope}{f:Addr}{cd:Value}{A:Around}{outer:List Env}{s s1:Shared}{H:Hp}{E:XK}{us:List Value}{vs:List V}
  (S:FnScope N ps scope) (hd:A.handled=none) (e0:Env0 P w K mg base A outer s H) (hl:vs.length=ps.length) (r:Vals vs us)
  (x:InCallC s s.heap.objs.size (bindL (envOfC qual scope s.heap.objs.size f cd).kindOf (ps.zip us) fun _=>none) (cellsFrom (s.heap.objs.size+1) scope.names []) (bindC (envOfC qual scope s.heap.objs.size f cd).kindOf (ps.zip us) fun _=>none) s1) :
  Inv (cxOf CX P w K mg base N qual scope f cd A outer s H E) [] (start N vs) H s1:=by
 have hpl:ps.length≤N.length:=by have:=congrArg List.length S.pre;rw[List.length_take]at this;omega
 obtain⟨h1,tk,rfl,hk⟩:=x.done
 have noA:∀b:Addr,b∉(cxOf CX P w K mg base N qual scope f cd A outer s H E).ex:=fun b z=>absurd (show b∈([]:List Addr) from z) (by simp)
 refine⟨⟨e0.mod,S.kind,rfl,rfl,Nat.le_refl _,fun y z c h1 h2=>?_,fun y hy=>?_,fun y c _ h=>?_,fun _=>hd,Around.frames_deeper e0.frames,.inr ⟨rfl,rfl⟩,fun b z=>absurd z (noA b),e0.bs,e0.bsz,fun b _ _=>noA b,fun b z=>absurd z (noA b),e0.funs,e0.frf⟩,
  rfl,e0.bare,Un.kept hk,⟨_,x.toInCall.ns,fun i y v h1 h2 h3=>?_⟩,fun y c h=>⟨_,x.cell y c h⟩,e0.hok.fresh (Nat.le_refl _),fun y c h=>?_,fun p hp=>absurd (show p∈([]:List (Addr×Obj)) from hp) (by simp),e0.hok.kept hk,?_⟩
 ·exact name_of_addr x.apart (PySem.mem_of_lookup h1) (PySem.mem_of_lookup h2)
 ·have hy:scope.names.lookup y=some .cell∨scope.names.lookup y=some .free:=hy
  rcases hy with hy|hy
  ·exact cell_has hy
  ·exact absurd rfl (S.nofree _ (PySem.mem_of_lookup hy))
 ·exact Nat.le_of_lt (x.above y c (PySem.mem_of_lookup h))
 ·have hi:i<vs.length:=by
   unfold start at h2
   by_cases hi:i<vs.length
   ·exact hi
   ·rw[List.getElem?_append_right (by simpa using hi)]at h2
    rw[List.getElem?_replicate]at h2
    split at h2 <;> cases h2
  have ha:vs[i]? = some v:=by
   unfold start at h2
   rw[List.getElem?_append_left (by simpa using hi),List.getElem?_map]at h2
   cases e:vs[i]? with
   | none=>rw[e]at h2;cases h2
   | some a=>rw[e]at h2;cases h2;rfl
  obtain⟨u,hu,rv⟩:=r.get ha
  have hp:ps[i]? = some y:=by
   rw[← S.pre,List.getElem?_take_of_lt (by omega)];exact h1
  have ndP:ps.Nodup:=by rw[← S.pre];exact S.nd.sublist (List.take_sublist _ _)
  refine⟨u,rv,?_⟩
  rcases S.par y (List.mem_of_getElem? hp) with k|k
  ·exact .inl ⟨k,bindL_get ndP hp hu k⟩
  ·obtain⟨c,e⟩:=cell_has (n:=s.heap.objs.size+1) k
   refine .inr ⟨.inl k,c,e,?_⟩
   have q:=x.cell y c e
   rw[bindC_get ndP hp hu (by show scope.names.lookup y≠_;rw[k];decide)]at q
   exact q
 ·exact e0.hok.fresh (Nat.le_of_lt (x.above y c (PySem.mem_of_lookup h)))
 ·unfold start
  show _=N.length
  rw[List.length_append,List.length_map,List.length_replicate]
  omega
theorem fn_of {CX:CXT}{P:Program}{w:World}{K:PySem.W.Frag}{mg:Str→Option Value}{base:Heap}{k:Nat}{f:Addr}{name qual:Str}{params:Arguments}{body:List Stmt}{scope:Scope}{dV kV doc pm cdv ct oc:Value}{an od:Option Addr}
  {osl:Array (Option Value)}{N ps:List Str}{sp:Sp}(lk:K.lookup f=some ⟨oc,od,.func (PySem.W.fnOf name qual params body scope dV kV doc pm an cdv ct),osl⟩) (hcd:PySem.W.codeIn K cdv qual=true) (S:FnScope N ps scope)
  (len:∀vs H Q E,sp vs H Q E→vs.length=ps.length)
  (hbody:∀(A:Around) (outer:List Env) (s:Shared) (H:Hp) (vs:List V) (Q:VK) (E:XK),Room k (A.deeper (envOfC qual scope s.heap.objs.size f cdv))→sp vs H Q E →
   ∃t,PSs (cxOf CX P w K mg base N qual scope f cdv A outer s H E) body t∧t { nx:=fun _ H'=>Q .non H',rt:=Q } (start N vs) H) :
  FnOk P w K mg base CX (k+1) f (PySem.W.fnOf name qual params body scope dV kV doc pm an cdv ct) ps sp:=by
 refine⟨len,fun A outer s H args us vs Q E hr e0 hb r hsp=>?_⟩
 have hl:=len _ _ _ _ hsp
 have KX:K.In s.heap:=e0.mod.kin.keeps fun b o e=>(e0.bs b o e).1
 have lim:s.heap.NoLimit:=e0.mod.nolimit.keeps fun b o e=>(e0.bs b o e).1
 have hkind:∀y∈ps.zip us,scope.names.lookup y.1=some .local ∨(scope.names.lookup y.1=some .cell∧((cellsFrom (s.heap.objs.size+1) scope.names []).lookup y.1).isSome=true):=fun⟨n,v⟩ hy=>by
  rcases S.par n (List.of_mem_zip hy).1 with q|q
  ·exact .inl q
  ·exact .inr ⟨q,PySem.W.cellsFrom_some _ _ _ (.inl q)⟩
 refine codeAny_call_function hr.depth (KX _ _ lk) rfl S.co S.gen rfl (PySem.W.codeRec_of KX hcd) (hb _ _ _ _ ?_)
 refine wpAny_newFunctionEnv_cells S.kind hkind fun env he s1 x=>?_
 subst he
 refine⟨lim.keeps x.toInCall.keep,codeAny_func ?_⟩
 obtain⟨t,ht,hq⟩:=hbody A outer s H vs Q E (hr.deeper _) hsp
 have I:Inv (cxOf CX P w K mg base N qual scope f cdv A outer s H E) [] (start N vs) H s1:=inv_start S hr.hd e0 hl r x
 refine wpAny_mono (ht [] s1 (start N vs) H _ I hq) (fun fl s' hs=>?_) fun e s' hs=>hs
 have fin:∀{σ':St}{H':Hp}{v:V}{u:Value},Inv (cxOf CX P w K mg base N qual scope f cdv A outer s H E) [] σ' H' s'→RelV v u→Q v H'→CE outer P w H s Q u s' :=
  fun {σ' H' v u} J rv q=>⟨v,H',J.os,J.bare,J.base,J.hok,rv,q⟩
 cases fl with
 | ret u =>
  obtain⟨v,σ',H',J,rv,q⟩:=hs
  exact fin J rv q
 | next =>
  obtain⟨σ',H',J,q⟩:=hs
  exact fin (v:=V.non) (u:=Value.none) J rfl q
 | brk =>
  obtain⟨_,_,_,q⟩:=hs
  exact False.elim q
 | cont =>
  obtain⟨_,_,_,q⟩:=hs
  exact False.elim q
section
variable {X:Cx}{x:Str}{p pos:Pos}{e:Expr}{es:List Expr}{t:TA}{id T:String}{r:List V→Hp→VK→Prop}
def tCB (r:List V→Hp→VK→Prop) (t:TA):TE:=fun σ H Q=>t σ H fun vs H1=>r vs H1 Q
theorem pe_callB (hc:CallR X (.builtin id) r) (hg:Gl X x) (hm:X.mg x=none) (hv:bootBuiltins x=some (.builtin id)) (ha:PA X (e::es) t) (hn:x ≠ "__name__" := by decide) (hdb:(x ==("__debug__" : Str))=false:=by decide)
  (he:starEach (e::es) X.env =(false,eval e X.env)::starEach es X.env:=by rfl) (hpl:(backTo pos (starEach es X.env)).any (·.1)=false:=by rfl):PE X (.Call (.Name x p) (e::es) [] pos) (tCB r t):=by
 intro pins s σ H Q I h
 refine wpAny_Call_Name_kw (ld_blt I hg hm hv ?_ hn hdb)
 exact PyProof.Rows.callWith_builtin1 (thn (ha pos pins s σ H _ I h) fun us s1 ⟨vs,H1,I1,r1,q1⟩=>hc pins s1 σ H1 vs us Q I1 r1 q1) he hpl
theorem pe_callTy (hc:CallR X (.type T) r) (hg:Gl X x) (hm:X.mg x=none) (hv:bootBuiltins x=some (.type T)) (ha:PA X (e::es) t) (hn:x ≠ "__name__" := by decide) (hdb:(x ==("__debug__" : Str))=false:=by decide)
  (he:starEach (e::es) X.env =(false,eval e X.env)::starEach es X.env:=by rfl) (hpl:(backTo pos (starEach es X.env)).any (·.1)=false:=by rfl):PE X (.Call (.Name x p) (e::es) [] pos) (tCB r t):=by
 intro pins s σ H Q I h
 refine wpAny_Call_Name_kw (ld_blt I hg hm hv ?_ hn hdb)
 exact PyProof.Rows.callWith_type1 (thn (ha pos pins s σ H _ I h) fun us s1 ⟨vs,H1,I1,r1,q1⟩=>hc pins s1 σ H1 vs us Q I1 r1 q1) he hpl
end
end L2
namespace HT
open PySem PyProof.Rows
section
open PySem.SeqAt
open PySem.AutoSeq1 (wpAny_loadPart')
open PySem.MeetsSeq PySem.MeetsSeq2 PySem.MeetsSeq3
end
section
variable {prog:Program}{w:World}{A:Around}{E:Value→Shared→Prop}{s:Shared}
def sIx (n d:Nat):Option Int→Nat
 | none=>d
 | some v=>if v<0 then(v+(n:Int)).toNat else min v.toNat n
theorem sIx_none (n d:Nat):sIx n d none=d:=rfl
theorem sIx_nat (n d k:Nat):sIx n d (some (k:Int))=min k n:=by
 show(if (k:Int)<0 then((k:Int)+(n:Int)).toNat else min (k:Int).toNat n)=min k n
 rw[if_neg (by omega),Int.toNat_natCast]
end
end HT
namespace L2
open PySem PySem.Spec PyProof.Rows
abbrev TO:=St→Hp→(Option Int→Hp→Prop)→Prop
def PO (X:Cx) (e:Option Expr) (t:TO):Prop :=
 ∀(pins:List (Addr×Obj)) (s:Shared) (σ:St) (H:Hp) (Q:Option Int→Hp→Prop),Inv X pins σ H s→t σ H Q →
  wpAny (model X.prog X.w) X.A (evalPart e X.env) (fun u s'=>∃o H',Inv X pins σ H' s'∧IsPart u o∧Q o H') X.xe s
def tNoPart:TO:=fun _ H Q=>Q none H
def tPart (t:TE):TO:=fun σ H Q=>t σ H fun x H1=>∃i,x = .int i∧Q (some i) H1
section
variable {X:Cx}{e:Expr}{te:TE}{lo hi:Option Expr}{tl th:TO}{pos p2:Pos}
theorem po_none:PO X none tNoPart:=by
 intro pins s σ H Q I h
 rw[evalPart_none]
 exact wpAny_pure ⟨none,H,I,.none,h⟩
theorem po_some (h:PE X e te):PO X (some e) (tPart te):=by
 intro pins s σ H Q I hw
 rw[evalPart_some]
 refine thn (h pins s σ H _ I hw) fun u s1 ⟨x,H1,I1,r1,q1⟩=>?_
 obtain⟨i,rfl,q⟩:=q1
 obtain⟨t,rfl⟩:=r1
 exact⟨some i,H1,I1,.int i t,q⟩
def SlR (X:Cx) (r:V→Option Int→Option Int→Hp→VK→Prop):Prop :=
 ∀(pins:List (Addr×Obj)) (s:Shared) (σ:St) (H:Hp) (x:V) (v vl vu:Value) (lo hi:Option Int) (sl:Addr) (Q:VK),Inv X pins σ H s→RelV x v→s.heap.IsSliceOf sl vl vu .none→IsPart vl lo→IsPart vu hi→r x lo hi H Q →
  ∃T id,typeLookup (.type T) "__getitem__" = pure (some (.builtin id))∧s.TypeIs v T∧wpAny (model X.prog X.w) X.A (getItem v (.ref sl)) (EP X pins σ Q) X.xe s
def tSl (r:V→Option Int→Option Int→Hp→VK→Prop) (te:TE) (tl th:TO):TE:=fun σ H Q=>te σ H fun x H1=>tl σ H1 fun l H2=>th σ H2 fun u H3=>r x l u H3 Q
theorem pe_slice {r:V→Option Int→Option Int→Hp→VK→Prop}(hr:SlR X r) (he:PE X e te) (hl:PO X lo tl) (hu:PO X hi th):PE X (.Subscript e (.Slice lo hi none p2) pos) (tSl r te tl th):=by
 intro pins s σ H Q I h
 refine Subscript_ (thn (he pins s σ H _ I h) fun v s1 ⟨x,H1,I1,r1,q1⟩=>?_)
 refine wpAny_Slice (thn (hl pins s1 σ H1 _ I1 q1) fun vl s2 ⟨l,H2,I2,pl,q2⟩=>thn (hu pins s2 σ H2 _ I2 q2) fun vu s3 ⟨u,H3,I3,pu,q3⟩=>?_)
 rw[evalPart_none]
 refine wpAny_pure ?_
 have I4:Inv X pins σ H3 { s3 with heap:=s3.heap.push { cls:=.type "slice",data:=.fields #[vl,vu,.none] } }:=I3.kept (t':=s3.toks) fun b ob q=>Heap.get?_push_of_some _ q
 obtain⟨T,id,hT,ht,hg⟩:=hr pins { s3 with heap:=s3.heap.push { cls:=.type "slice",data:=.fields #[vl,vu,.none] } } σ H3 x v vl vu l u s3.heap.objs.size Q I4 r1 (Heap.IsSliceOf.new ..) pl pu q3
 show wpAny (model X.prog X.w) X.A (subscriptTail e (.Slice lo hi none p2) v (.ref s3.heap.objs.size)) (EP X pins σ Q) X.xe { s3 with heap:=s3.heap.push { cls:=.type "slice",data:=.fields #[vl,vu,.none] } }
 exact tail_any (ops:=[.ref s3.heap.objs.size,v]) ht hT hg (by with_unfolding_all rfl)
def cutV (xs:List V) (lo hi:Option Int):List V:=(xs.drop (HT.sIx xs.length 0 lo)).take (HT.sIx xs.length xs.length hi-HT.sIx xs.length 0 lo)
theorem cutV_length (xs:List V) (lo hi:Option Int):(cutV xs lo hi).length≤xs.length:=by
 unfold cutV
 rw[List.length_take,List.length_drop]
 omega
end
def ixN (n:Nat) (i:Int):Option Nat:=if 0≤i then(if i<n then some i.toNat else none) else if -(n:Int)≤i then some (i+n).toNat else none
def atI {α:Type}(xs:List α) (i:Int):Option α:=(ixN xs.length i).bind fun j=>xs[j]?
theorem ixN_seq {n:Nat}{i:Int}{j:Nat}(h:ixN n i=some j):seqIndex? i n=some j∧j<n∧-(n:Int)≤i∧i<n:=by
 unfold ixN at h
 by_cases h0:0≤i
 ·rw[if_pos h0]at h
  by_cases h1:i<n
  ·rw[if_pos h1]at h
   have e:i.toNat=j:=Option.some.inj h
   exact⟨by rw[seqIndex_of h0 h1,e],by omega,by omega,h1⟩
  ·rw[if_neg h1]at h;cases h
 ·rw[if_neg h0]at h
  by_cases h1:-(n:Int)≤i
  ·rw[if_pos h1]at h
   have e:(i+n).toNat=j:=Option.some.inj h
   exact⟨by rw[seqIndex_neg (by omega) h1,e],by omega,h1,by omega⟩
  ·rw[if_neg h1]at h;cases h
theorem atI_get {α:Type}{xs:List α}{i:Int}{v:α}(h:atI xs i=some v):∃j,seqIndex? i xs.length=some j∧xs[j]? = some v∧j<xs.length∧-(xs.length:Int)≤i∧i<xs.length:=by
 unfold atI at h
 cases e:ixN xs.length i with
 | none=>rw[e]at h;cases h
 | some j =>
  rw[e]at h
  obtain⟨h1,h2,h3,h4⟩:=ixN_seq e
  exact⟨j,h1,h,h2,h3,h4⟩
theorem atI_nat {α:Type}{xs:List α}{j:Nat}{v:α}(h:xs[j]? = some v):atI xs (j:Int)=some v:=by
 have hj:j<xs.length:=(List.getElem?_eq_some_iff.mp h).1
 have e:ixN xs.length (j:Int)=some j:=by
  unfold ixN
  rw[if_pos (by omega),if_pos (by omega)];simp
 unfold atI;rw[e];exact h
theorem atI_last {α:Type}(xs:List α) (v:α):atI (xs ++ [v]) (-1)=some v:=by
 have hl:(xs ++ [v]).length=xs.length+1:=by simp
 have e:ixN (xs ++ [v]).length (-1)=some xs.length:=by
  unfold ixN
  rw[hl,if_neg (by decide),if_pos (by omega)]
  congr 1
  omega
 unfold atI
 rw[e]
 show(xs ++ [v])[xs.length]? = some v
 simp
def PlainIx (b:Expr):Prop:=∀o i,subscripted b false o i=operate [o,i] (getItem o i)
def IxR (X:Cx) (r:R2):Prop :=
 ∀(value slice:Expr) (pins:List (Addr×Obj)) (s:Shared) (σ:St) (H:Hp) (x y:V) (v u:Value) (Q:VK),Inv X pins σ H s→RelV x v→RelV y u→r x y H Q →
  subscripted slice false v u=operate [v,u] (getItem v u)→wpAny (model X.prog X.w) X.A (subscriptTail value slice v u) (EP X pins σ Q) X.xe s
def MtR (X:Cx) (id:String) (r:V→List V→Hp→VK→Prop):Prop :=
 ∀(pins:List (Addr×Obj)) (s:Shared) (σ:St) (H:Hp) (x:V) (xs:List V) (v:Value) (us:List Value) (Q:VK),Inv X pins σ H s→RelV x v→Vals xs us→r x xs H Q →
  wpAny (model X.prog X.w) X.A (call (.builtin id) (v::us)) (EP X pins σ Q) X.xe s
section
variable {X:Cx}{a b:Expr}{ta tb:TE}{pos:Pos}
theorem pe_ix {r:R2}(hr:IxR X r) (ha:PE X a ta) (hb:PE X b tb) (hs:PlainIx b):PE X (.Subscript a b pos) (tOp r ta tb):=by
 intro pins s σ H Q I h
 exact Subscript_ (binT ha hb I h fun v u s2 x y H2 I2 rx ry q=>hr a b pins s2 σ H2 x y v u Q I2 rx ry q (hs _ _))
def rIxL (K:PySem.W.Frag):R2:=fun x y H Q=>∃p xs i v,x = .ref p∧y = .int i∧SqL K H p xs∧atI xs i=some v∧Q v H
def rIxT (K:PySem.W.Frag):R2:=fun x y H Q=>∃p xs i v,x = .ref p∧y = .int i∧SqT K H p xs∧atI xs i=some v∧Q v H
def rIxS:R2:=fun x y H Q=>∃z i c,x = .str z∧y = .int i∧z.length≤sizeLine∧atI z.cps.toList i=some c∧Q (.str ⟨#[c]⟩) H
theorem ix_list:IxR X (rIxL X.K):=by
 intro value slice pins s σ H x y v u Q I rx ry h hs
 obtain⟨p,xs,i,z,rfl,rfl,hq,he,q⟩:=h
 cases rx
 obtain⟨t,rfl⟩:=ry
 obtain⟨its,r,pl,hz⟩:=I.list hq
 obtain⟨j,h1,h2,h3,h4,h5⟩:=atI_get he
 obtain⟨w,ew,rw'⟩:=r.get h2
 have hl:=r.length
 have hn:=line63
 have fin:EP X pins σ Q w s:=⟨z,H,I,rw',q⟩
 by_cases h0:0≤i
 ·have hj:i.toNat=j:=by
   rw[seqIndex_of h0 h5]at h1
   exact Option.some.inj h1
  exact item_listR pl.isList h0 (by omega) (by rw[hj];simpa using ew) fin hs
 ·have hj:(i+(its.toArray.size:Int)).toNat=j:=by
   rw[seqIndex_neg (by omega) h4]at h1
   rw[List.size_toArray,← hl]
   exact Option.some.inj h1
  exact subscriptTail_builtinR (x:=w) pl.isList.typeIs slot_list_getitem.lookup
   (wpAny_getItem_list_neg (Q:=fun r s'=>r=w∧EP X pins σ Q r s') pl.isList (by omega) (by rw[List.size_toArray] <;> omega) (by omega) (by rw[hj];simpa using ew) ⟨rfl,fin⟩) hs
theorem ix_tup:IxR X (rIxT X.K):=by
 intro value slice pins s σ H x y v u Q I rx ry h hs
 obtain⟨p,xs,i,z,rfl,rfl,hq,he,q⟩:=h
 cases rx
 obtain⟨t,rfl⟩:=ry
 obtain⟨its,r,pl,hz⟩:=I.tuple hq
 obtain⟨j,h1,h2,h3,h4,h5⟩:=atI_get he
 obtain⟨w,ew,rw'⟩:=r.get h2
 have hl:=r.length
 have hn:=line63
 have fin:EP X pins σ Q w s:=⟨z,H,I,rw',q⟩
 exact subscriptTail_builtinR (x:=w) pl.typeIs slot_tuple_getitem.lookup
  (getItem_tuple (j:=j) (Q:=fun r s'=>r=w∧EP X pins σ Q r s') pl (by omega) (by omega) (by rw[List.size_toArray,← hl];exact h1) (by simpa using ew) ⟨rfl,fin⟩) hs
theorem ix_str:IxR X rIxS:=by
 intro value slice pins s σ H x y v u Q I rx ry h hs
 obtain⟨z,i,c,rfl,rfl,hz,he,q⟩:=h
 obtain⟨t,rfl⟩:=rx
 obtain⟨t',rfl⟩:=ry
 obtain⟨j,h1,h2,h3,h4,h5⟩:=atI_get he
 have hl:z.cps.toList.length=z.length:=by simp[Str.length]
 rw[hl]at h1 h4 h5
 have hn:=line63
 exact tail_any (typeIs_str s z t) slot_str_getitem.lookup (getItem_str (c:=c) (by
  have e1:decide (i < -(2^63:Int))=false:=decide_eq_false (by omega)
  have e2:decide (i ≥ 2^63)=false:=decide_eq_false (by omega)
  rw[e1,e2,Bool.or_false]) (by rw[h1];simpa using h2) ⟨.str ⟨#[c]⟩,H,I.tok _,⟨_,rfl⟩,q⟩) hs
theorem mapSeq_set (its:List Value) (n j:Nat) (u:Value):Obj.mapSeq (·.setIfInBounds j u) { cls:=.type "list",data:=.seq its.toArray n } = { cls:=.type "list",data:=.seq (its.set j u).toArray n }:=by
 simp[Obj.mapSeq]
theorem Inv.lst {pins:List (Addr×Obj)}{σ:St}{H:Hp}{s:Shared}{p:Addr}{xs:List V}(I:Inv X pins σ H s) (h:H p=some (.lst xs)) :
  ∃(its:List Value) (n:Nat),Vals xs its∧s.heap.get? p=some { cls:=.type "list",data:=.seq its.toArray n }∧xs.length≤sizeLine:=by
 obtain⟨z,its,n,r,e⟩:=I.hok p _ h
 exact⟨its,n,r,e,z⟩
theorem Inv.lstUpd {pins:List (Addr×Obj)}{σ:St}{H:Hp}{s:Shared}{p:Addr}{xs ys:List V}{its its':List Value}{n n':Nat}{f:Obj→Obj}(I:Inv X pins σ H s) (h:H p=some (.lst xs))
  (ho:s.heap.get? p=some { cls:=.type "list",data:=.seq its.toArray n }) (hf:f { cls:=.type "list",data:=.seq its.toArray n } = { cls:=.type "list",data:=.seq its'.toArray n' }) (r:Vals ys its') (hz:ys.length≤sizeLine) (t:Nat) :
  Inv X pins σ (upd H p (.lst ys)) { s with heap:=s.heap.update p f,toks:=t }:=by
 have e:(s.heap.update p f).get? p=some { cls:=.type "list",data:=.seq its'.toArray n' }:=by
  rw[Heap.get?_update_self f ho (by rw[hf] <;> rfl),hf]
 refine I.write (x:=p) (e:=p) (by rw[h];trivial) (.inl rfl) (fun b u hb q=>(Heap.get?_update_other _ _ (Ne.symm hb)).trans q) ⟨_,e⟩ ?_
 exact⟨hz,its',n',r,e⟩
def rSetL:V→V→V→Hp→(Hp→Prop)→Prop:=fun o i v H Q=>∃p xs k j,o = .ref p∧i = .int k∧H p=some (.lst xs)∧ixN xs.length k=some j∧Q (upd H p (.lst (xs.set j v)))
theorem set_list:PSet X rSetL:=by
 intro pins s σ H o i v ov iv u Q I ro ri rv h
 obtain⟨p,xs,k,j,rfl,rfl,hp,hj,q⟩:=h
 cases ro
 obtain⟨t,rfl⟩:=ri
 obtain⟨its,n,r,ho,hz⟩:=I.lst hp
 obtain⟨h1,h2,h3,h4⟩:=ixN_seq hj
 have hl:=r.length
 have hn:=line63
 have I':Inv X pins σ (upd H p (.lst (xs.set j v))) { s with heap:=s.heap.update p (Obj.mapSeq (·.setIfInBounds j u)) } :=
  I.lstUpd hp ho (mapSeq_set its n j u) (r.set rv j) (by rw[List.length_set];exact hz) s.toks
 by_cases h0:0≤k
 ·have hk:k.toNat=j:=by
   rw[seqIndex_of h0 h4]at h1
   exact Option.some.inj h1
  exact PySem.W.ki_setAt ho h0 (by omega) (by rw[List.size_toArray,← hl];exact h4) (by rw[hk];exact⟨_,I',q⟩)
 ·have hk:(k+(its.toArray.size:Int)).toNat=j:=by
   rw[seqIndex_neg (by omega) h3]at h1
   rw[List.size_toArray,← hl]
   exact Option.some.inj h1
  exact PySem.W.ki_setBack ho (by omega) (by rw[List.size_toArray,← hl];exact h3) (by omega) (by rw[hk];exact⟨_,I',q⟩)
theorem slice_bounds (lo hi:Option Int) (n:Nat):(sliceBounds lo hi none n).1 =((HT.sIx n 0 lo:Nat):Int)∧(sliceBounds lo hi none n).2.1 =((HT.sIx n n hi:Nat):Int)∧(sliceBounds lo hi none n).2.2=1:=by
 refine⟨?_,?_,rfl⟩
 ·cases lo with
  | none=>simp[sliceBounds,HT.sIx]
  | some i =>
   simp only[sliceBounds,HT.sIx,Option.getD_none,show(1:Int) > 0 by decide,if_true]
   by_cases h:i<0
   ·simp only[h,if_true] <;> omega
   ·simp only[h,if_false] <;> omega
 ·cases hi with
  | none=>simp[sliceBounds,HT.sIx]
  | some i =>
   simp only[sliceBounds,HT.sIx,Option.getD_none,show(1:Int) > 0 by decide,if_true]
   by_cases h:i<0
   ·simp only[h,if_true] <;> omega
   ·simp only[h,if_false] <;> omega
theorem slicePick_cut (its:List Value) (lo hi:Option Int):slicePick its.toArray lo hi none =((its.drop (HT.sIx its.length 0 lo)).take (HT.sIx its.length its.length hi-HT.sIx its.length 0 lo)).toArray:=by
 obtain⟨h1,h2,h3⟩:=slice_bounds lo hi its.toArray.size
 unfold slicePick
 rw[h1,h2,h3]
 simp only[sliceRange_one,pick_run,List.size_toArray] <;> rfl
def rSlL (K:PySem.W.Frag):V→Option Int→Option Int→Hp→VK→Prop:=fun x lo hi H Q=>∃a xs,x = .ref a∧SqL K H a xs∧∀p,H p=none→Q (.ref p) (upd H p (.lst (cutV xs lo hi)))
theorem sl_list:SlR X (rSlL X.K):=by
 intro pins s σ H x v vl vu lo hi sl Q I rx hs pl pu h
 obtain⟨a,xs,rfl,hx,q⟩:=h
 cases rx
 obtain⟨its,r,ht,hz⟩:=I.list hx
 have hlen:=r.length
 refine⟨"list",_,slot_list_getitem.lookup,ht.isList.typeIs,?_⟩
 refine wpAny_getItem_list_slice ht.isList hs pl pu .none (by simp) ?_ (by rw[List.size_toArray] <;> omega)
 rw[slicePick_cut,← hlen]
 refine⟨.ref s.heap.objs.size,_,I.laid (t':=s.toks) (o:=.lst (cutV xs lo hi)) (fun b ob q=>Heap.get?_push_of_some _ q) (Nat.le_refl _) ?_,rfl,q _ (I.hok.fresh (Nat.le_refl _))⟩
 exact⟨Nat.le_trans (cutV_length xs lo hi) hz,_,0,(r.drop (HT.sIx xs.length 0 lo)).take (HT.sIx xs.length xs.length hi-HT.sIx xs.length 0 lo),Heap.get?_push_size _ rfl⟩
def flatV:V→Bool
 | .non=>true
 | .bl _=>true
 | .int _=>true
 | .str _=>true
 | _=>false
def eqV:V→V→Bool
 | .non,.non=>true
 | .bl a,.bl b=>a == b
 | .bl a,.int b=>(if a then 1 else 0) == b
 | .int a,.bl b=>a ==(if b then 1 else 0)
 | .int a,.int b=>a == b
 | .str a,.str b=>a == b
 | _,_=>false
theorem eqAt_V {A:Around}{s:Shared}{y x:V}{u v:Value}(ry:RelV y u) (rx:RelV x v) (fy:flatV y=true) (fx:flatV x=true):SeqAt.EqAt A s u v (eqV y x):=by
 cases y with
 | non =>
  cases ry
  cases x with
  | non=>cases rx;exact SeqAt.EqAt.same _
  | bl b=>cases rx;exact SeqAt.EqAt.none_bool b
  | int b=>obtain⟨t,rfl⟩:=rx;exact SeqAt.EqAt.none_int b t
  | str b=>obtain⟨t,rfl⟩:=rx;exact SeqAt.EqAt.none_str b t
  | _=>exact absurd (show false=true from fx) Bool.false_ne_true
 | bl a =>
  cases ry
  cases x with
  | non=>cases rx;exact SeqAt.EqAt.bool_none a
  | bl b=>cases rx;exact SeqAt.EqAt.bool_bool a b
  | int b=>obtain⟨t,rfl⟩:=rx;exact SeqAt.EqAt.bool_int a b t
  | str b=>obtain⟨t,rfl⟩:=rx;exact SeqAt.EqAt.bool_str a b t
  | _=>exact absurd (show false=true from fx) Bool.false_ne_true
 | int a =>
  obtain⟨t',rfl⟩:=ry
  cases x with
  | non=>cases rx;exact SeqAt.EqAt.int_none a t'
  | bl b=>cases rx;exact SeqAt.EqAt.int_bool a t' b
  | int b=>obtain⟨t,rfl⟩:=rx;exact SeqAt.EqAt.int_int a t' b t
  | str b=>obtain⟨t,rfl⟩:=rx;exact SeqAt.EqAt.int_str a t' b t
  | _=>exact absurd (show false=true from fx) Bool.false_ne_true
 | str a =>
  obtain⟨t',rfl⟩:=ry
  cases x with
  | non=>cases rx;exact SeqAt.EqAt.str_none a t'
  | bl b=>cases rx;exact SeqAt.EqAt.str_bool a t' b
  | int b=>obtain⟨t,rfl⟩:=rx;exact SeqAt.EqAt.str_int a t' b t
  | str b=>obtain⟨t,rfl⟩:=rx;exact SeqAt.EqAt.str_str a t' b t
  | _=>exact absurd (show false=true from fx) Bool.false_ne_true
 | _=>exact absurd (show false=true from fy) Bool.false_ne_true
def eqU (x:V) (u:Value):Bool:=match u with
 | .none=>eqV .non x
 | .bool b=>eqV (.bl b) x
 | .int i _=>eqV (.int i) x
 | .str z _=>eqV (.str z) x
 | _=>false
theorem eqU_of {x y:V}{u:Value}(r:RelV y u) (f:flatV y=true):eqU x u=eqV y x:=by
 cases y with
 | non=>cases r;rfl
 | bl b=>cases r;rfl
 | int i=>obtain⟨t,rfl⟩:=r;rfl
 | str z=>obtain⟨t,rfl⟩:=r;rfl
 | _=>exact absurd (show false=true from f) Bool.false_ne_true
theorem any_eqU {x:V}:∀{xs:List V}{us:List Value},Vals xs us→xs.all flatV=true→us.any (eqU x)=xs.any fun y=>eqV y x
 | _,_,.nil,_=>rfl
 | y::xs,u::us,.cons r t,f=>by
  rw[List.all_cons,Bool.and_eq_true]at f
  rw[List.any_cons,List.any_cons,eqU_of r f.1,any_eqU t f.2]
theorem mem_eqAt {A:Around}{s:Shared}{x:V}{v:Value}(rx:RelV x v) (fx:flatV x=true):∀{xs:List V}{us:List Value},Vals xs us→xs.all flatV=true→∀u∈us,SeqAt.EqAt A s u v (eqU x u)
 | _,_,.nil,_=>fun u hu=>by cases hu
 | y::xs,u::us,.cons r t,f=>fun u' hu=>by
  rw[List.all_cons,Bool.and_eq_true]at f
  rcases List.mem_cons.mp hu with rfl|hu
  ·rw[eqU_of r f.1];exact eqAt_V r rx f.1 fx
  ·exact mem_eqAt rx fx t f.2 u' hu
def inV (x:V) (xs:List V):Bool:=xs.any fun y=>eqV y x
def rIn (K:PySem.W.Frag) (neg:Bool):R2:=fun x y H Q=>∃p xs,y = .ref p∧(SqL K H p xs∨SqT K H p xs)∧flatV x=true∧xs.all flatV=true∧Q (.bl (if neg then !inV x xs else inV x xs)) H
theorem op_in_seq:OpR X (compareOp .In) (rIn X.K false):=by
 intro pins s σ H x y v u Q I rx ry h
 obtain⟨p,xs,rfl,hq,fx,fs,q⟩:=h
 cases ry
 rcases hq with hq|hq
 ·obtain⟨its,r,pl,hz⟩:=I.list hq
  refine SeqAt.in_listAt (eqU x) pl.isList (fun w hw=>mem_eqAt rx fx r fs w (by simpa using hw)) ⟨.bl _,H,I,rfl,?_⟩
  rw[show its.toArray.any (eqU x)=its.any (eqU x) by simp,any_eqU r fs]
  exact q
 ·obtain⟨its,r,pl,hz⟩:=I.tuple hq
  refine SeqAt.in_tupleAt (eqU x) pl (fun w hw=>mem_eqAt rx fx r fs w (by simpa using hw)) ⟨.bl _,H,I,rfl,?_⟩
  rw[show its.toArray.any (eqU x)=its.any (eqU x) by simp,any_eqU r fs]
  exact q
theorem call_len_seq:CallR X (.builtin "len") (fun xs H Q=>∃p ys,xs=[.ref p]∧(SqL X.K H p ys∨SqT X.K H p ys)∧Q (.int ys.length) H):=by
 intro pins s σ H xs us Q I r h
 obtain⟨p,ys,rfl,hq,q⟩:=h
 obtain⟨u,rfl,rx⟩:=vals1 r
 cases rx
 have hn:=line63
 rcases hq with hq|hq
 ·obtain⟨its,r',pl,hz⟩:=I.list hq
  have hlen:=r'.length
  exact Calls.call_len_list pl.isList (by simp only[List.size_toArray] <;> omega) ⟨.int ys.length,H,I.tok _,⟨s.toks+1,by rw[List.size_toArray,hlen]⟩,q⟩
 ·obtain⟨its,r',pl,hz⟩:=I.tuple hq
  have hlen:=r'.length
  exact len_tuple pl (by simp only[List.size_toArray] <;> omega) ⟨.int ys.length,H,I.tok _,⟨s.toks+1,by rw[List.size_toArray,hlen]⟩,q⟩
theorem call_list_of:CallR X (.type "list") (fun xs H Q=>∃p ys,xs=[.ref p]∧(SqL X.K H p ys∨SqT X.K H p ys)∧∀l,H l=none→Q (.ref l) (upd H l (.lst ys))):=by
 intro pins s σ H xs us Q I r h
 obtain⟨p,ys,rfl,hq,q⟩:=h
 obtain⟨u,rfl,rx⟩:=vals1 r
 cases rx
 have fin:∀(its:List Value),Vals ys its→ys.length≤sizeLine→∀(h':Heap) (c':Nat),(∀b o',s.heap.get? b=some o'→h'.get? b=some o') →
   h'.get? s.heap.objs.size=some { cls:=.type "list",dict:=none,data:=.seq its.toArray c',slots:=#[] }→EP X pins σ Q (.ref s.heap.objs.size) { s with heap:=h' }:=fun its r' hz h' c' kp e =>
  ⟨.ref s.heap.objs.size,_,I.laid (t':=s.toks) kp (Nat.le_refl _) (show ObjOk X.prog X.w _ h' _ (.lst ys) from⟨hz,its,c',r',e⟩),rfl,q _ (I.hok.fresh (Nat.le_refl _))⟩
 rcases hq with hq|hq
 ·obtain⟨its,r',pl,hz⟩:=I.list hq
  have hlen:=r'.length
  obtain⟨o,ho,hc,n,hd⟩:=pl.isList
  exact call_list_seq p (.inl rfl) ho hc hd (fun h' c' kp e=>fin its r' hz h' c' kp e) (by simp only[List.size_toArray] <;> omega)
 ·obtain⟨its,r',pl,hz⟩:=I.tuple hq
  have hlen:=r'.length
  obtain⟨o,ho,hc,n,hd⟩:=pl
  exact call_list_seq p (.inr rfl) ho hc hd (fun h' c' kp e=>fin its r' hz h' c' kp e) (by simp only[List.size_toArray] <;> omega)
def tyV (K:PySem.W.Frag) (T:String) (x:V) (H:Hp):Prop:=match x with
 | .str _=>T = "str"
 | .int _=>T = "int"
 | .ref p=>(T = "list"∧∃xs,SqL K H p xs) ∨(T = "tuple"∧∃o,K.lookup p=some o∧o.cls = .type "tuple"∧o.dict=none) ∨
   (T = "dict"∧((∃kvs,H p=some (.dK kvs)) ∨ ∃kvs,H p=some (.dT kvs))) ∨(T = "set"∧∃S n,H p=some (.set S n))
 | _=>False
theorem tyV_is {pins:List (Addr×Obj)}{σ:St}{H:Hp}{s:Shared}{T:String}{x:V}{v:Value}(I:Inv X pins σ H s) (r:RelV x v) (ty:tyV X.K T x H) :
  s.TypeIs v T∧∀a,v = .ref a→∃ob,s.heap.get? a=some ob∧ob.dict=none:=by
 cases x with
 | str z =>
  obtain⟨t,rfl⟩:=r
  cases (show T = "str" from ty)
  exact⟨typeIs_str s z t,fun _ e=>nomatch e⟩
 | int i =>
  obtain⟨t,rfl⟩:=r
  cases (show T = "int" from ty)
  exact⟨typeIs_int s i t,fun _ e=>nomatch e⟩
 | ref p =>
  cases r
  rcases ty with⟨rfl,xs,hq⟩|⟨rfl,o,hk,hc,hd⟩|⟨rfl,hk⟩|⟨rfl,S,n,hk⟩
  ·obtain⟨its,_,pl,_⟩:=I.list hq
   refine⟨pl.isList.typeIs,fun a e=>?_⟩
   cases e
   obtain⟨o,n,e,c,hd,_⟩:=pl
   exact⟨o,e,hd⟩
  ·refine⟨⟨o,I.kIn p o hk,hc⟩,fun a e=>?_⟩
   cases e
   exact⟨o,I.kIn _ o hk,hd⟩
  ·have z:∃o,s.heap.get? p=some o∧o.ExactDict:=by
    rcases hk with⟨kvs,hk⟩|⟨kvs,hk⟩
    ·obtain⟨_,_,_,_,o,_,_,e,ex,_⟩:=I.hok p _ hk
     exact⟨o,e,ex⟩
    ·obtain⟨_,_,_,_,o,_,_,e,ex,_⟩:=I.hok p _ hk
     exact⟨o,e,ex⟩
   obtain⟨o,e,ex⟩:=z
   refine⟨⟨o,e,ex.1⟩,fun a e2=>?_⟩
   cases e2
   exact⟨o,e,ex.2.1⟩
  ·obtain⟨o,_,_,_,e,ex,_⟩:=I.hok p _ hk
   refine⟨⟨o,e,ex.1⟩,fun a e2=>?_⟩
   cases e2
   exact⟨o,e,ex.2.1⟩
 | _=>exact False.elim ty
def tBM0 (K:PySem.W.Frag) (T:String) (r:V→List V→Hp→VK→Prop) (to:TE):TE:=fun σ H Q=>to σ H fun x H1=>tyV K T x H1∧r x [] H1 Q
def tBM (K:PySem.W.Frag) (T:String) (r:V→List V→Hp→VK→Prop) (to:TE) (t:TA):TE:=fun σ H Q=>to σ H fun x H1=>tyV K T x H1∧t σ H1 fun xs H2=>r x xs H2 Q
variable {o e:Expr}{es:List Expr}{to:TE}{t:TA}{name:Str}{apos cpos:Pos}{T id:String}{r:V→List V→Hp→VK→Prop}
theorem pe_bm0 (pa:PlainAttrs T) (slot:Slot T name id) (hty:typeOf (.builtin id)=pure (.type "method_descriptor")) (hm:MtR X id r) (ho:PE X o to)
  (hbase:attributeBase o name X.env (eval o X.env)=eval o X.env:=by rfl) (hline:(apos.endLine == cpos.line)=true:=by rfl):PE X (.Call (.Attribute o name apos) [] [] cpos) (tBM0 X.K T r to):=by
 intro pins s σ H Q I h
 refine wpAny_Call_method0_late hbase hline (thn (ho pins s σ H _ I h) fun v s1 ⟨x,H1,I1,r1,ty,q1⟩=>?_)
 obtain⟨h1,h2⟩:=tyV_is I1 r1 ty
 exact⟨T,id,pa,slot,hty,h1,h2,Calls.callWith_builtin rfl (PySem.evalArgs_none (hm pins s1 σ H1 x [] v [] Q I1 r1 .nil q1))⟩
theorem pe_bm (pa:PlainAttrs T) (slot:Slot T name id) (hty:typeOf (.builtin id)=pure (.type "method_descriptor")) (hm:MtR X id r) (ho:PE X o to) (ha:PA X (e::es) t)
  (hbase:attributeBase o name X.env (eval o X.env)=eval o X.env:=by rfl)
  (hfew:((backTo cpos (starEach (e::es) X.env)).all (fun x=>!x.1) && (backToKw cpos (keywordEach [] X.env)).all (fun x=>x.1.isSome)
   && decide ((e::es).length+([]:List Keyword).length+(if ([]:List Keyword).isEmpty then 0 else 1)<30))=true:=by rfl)
  (hline:(apos.endLine == cpos.line)=true:=by rfl) (hs:starEach (e::es) X.env =(false,eval e X.env)::starEach es X.env:=by rfl) (hplain:(backTo cpos (starEach es X.env)).any (·.1)=false:=by rfl) :
  PE X (.Call (.Attribute o name apos) (e::es) [] cpos) (tBM X.K T r to t):=by
 intro pins s σ H Q I h
 refine wpAny_Call_method_late hbase hfew hline rfl (thn (ho pins s σ H _ I h) fun v s1 ⟨x,H1,I1,r1,ty,q1⟩=>?_)
 obtain⟨h1,h2⟩:=tyV_is I1 r1 ty
 refine⟨T,id,pa,slot,hty,h1,h2,?_⟩
 have hA:=ha cpos pins s1 σ H1 _ I1 q1
 rw[hs]at hA ⊢
 refine Calls.callWith_builtin (by show(false || (backTo cpos (starEach es X.env)).any (·.1))=false;rw[hplain] <;> rfl) (Calls.evalArgs_plain ?_)
 exact thn hA fun us s2 ⟨vs,H2,I2,r2,q2⟩=>hm pins s2 σ H2 x vs v us Q I2 r1 r2 q2
end
def MtM (X:Cx) (id:String) (r:V→List V→Hp→VK→Prop):Prop :=
 ∀(pins:List (Addr×Obj)) (s:Shared) (σ:St) (H:Hp) (x:V) (xs:List V) (v:Value) (us:List Value) (Q:VK),Inv X pins σ H s→RelV x v→Vals xs us→r x xs H Q →
  wpAny (model X.prog X.w) X.A (call (.builtin id) (v::us)) (EP X pins σ Q) X.xe s
theorem Vals.one:∀{x:V}{us:List Value},Vals [x] us→∃u,us=[u]∧RelV x u
 | _,_,.cons r .nil=>⟨_,rfl,r⟩
theorem Vals.zero:∀{us:List Value},Vals [] us→us=[]
 | _,.nil=>rfl
theorem Vals.dropLast {xs:List V}{us:List Value}(h:Vals xs us):Vals xs.dropLast us.dropLast:=by
 induction h with
 | nil=>exact .nil
 | cons r t ih =>
  cases t with
  | nil=>exact .nil
  | cons q t'=>exact .cons r ih
theorem Vals.reverse {xs:List V}{us:List Value}(h:Vals xs us):Vals xs.reverse us.reverse:=by
 induction h with
 | nil=>exact .nil
 | cons r t ih=>rw[List.reverse_cons,List.reverse_cons];exact Vals.append ih (.cons r .nil)
theorem Vals.rep {xs:List V}{us:List Value}(h:Vals xs us):∀k:Nat,Vals (List.replicate k xs).flatten (List.replicate k us).flatten
 | 0=>.nil
 | k+1=>by
  rw[List.replicate_succ,List.replicate_succ,List.flatten_cons,List.flatten_cons]
  exact Vals.append h (Vals.rep h k)
theorem erase_last {α:Type}(l:List α):l.eraseIdx (l.length-1)=l.dropLast:=by
 induction l with
 | nil=>rfl
 | cons a r ih =>
  cases r with
  | nil=>rfl
  | cons b r =>
   have e:(a::b::r).length-1 =((b::r).length-1)+1:=by
    have h1:(a::b::r).length=r.length+2:=rfl
    have h2:(b::r).length=r.length+1:=rfl
    omega
   rw[e,List.eraseIdx_cons_succ,ih]
   all_goals rfl
theorem foldl_rep (its:List Value):∀(k:Nat) (acc:List Value),
  List.foldl (fun x1 x2=>x1++x2) acc.toArray (List.replicate k its.toArray) =(acc++(List.replicate k its).flatten).toArray
 | 0,acc=>by simp
 | k+1,acc=>by
  have e:acc.toArray++its.toArray =(acc++its).toArray:=by simp
  have e2:(acc++its)++(List.replicate k its).flatten=acc++(List.replicate (k+1) its).flatten:=by
   rw[List.replicate_succ,List.flatten_cons,List.append_assoc]
  rw[← e2,← foldl_rep its k (acc++its),← e,List.replicate_succ,List.foldl_cons]
section
variable {X:Cx}{pins:List (Addr×Obj)}{σ:St}{H:Hp}{s:Shared}{l b:Addr}{xs ys zs:List V}
theorem Inv.lset {its its':List Value}{n:Nat}{f:Array Value→Array Value}{t':Nat}(I:Inv X pins σ H s) (hH:H l=some (.lst xs))
  (e:s.heap.get? l=some { cls:=.type "list",data:=.seq its.toArray n }) (hf:f its.toArray=its'.toArray) (hv:Vals ys its') (hz:ys.length≤sizeLine) :
  Inv X pins σ (upd H l (.lst ys)) { s with heap:=s.heap.update l (Obj.mapSeq f),toks:=t' }:=by
 have q:=PySem.IsL.update e f
 rw[hf]at q
 refine I.write (x:=l) (e:=l) (by rw[hH];exact trivial) (.inl rfl) (fun b' u hb hu=>(Heap.get?_update_other s.heap (Obj.mapSeq f) (Ne.symm hb)).trans hu) ⟨_,q⟩ ?_
 exact⟨hz,its',_,hv,q⟩
theorem Inv.lnew {its:List Value}{t':Nat}(I:Inv X pins σ H s) (hv:Vals ys its) (hz:ys.length≤sizeLine) :
  Inv X pins σ (upd H s.heap.objs.size (.lst ys)) { s with heap:=s.heap.push { cls:=.type "list",data:=.seq its.toArray },toks:=t' } :=
 I.laid (fun _ _ q=>Heap.get?_push_of_some _ q) (Nat.le_refl _) ⟨hz,its,0,hv,Heap.get?_push_size _ rfl⟩
theorem Inv.fresh (I:Inv X pins σ H s):H s.heap.objs.size=none:=I.hok.fresh (Nat.le_refl _)
theorem Inv.lstM (I:Inv X pins σ H s) (hH:H l=some (.lst xs)):xs.length≤sizeLine∧∃(its:List Value) (n:Nat),Vals xs its∧xs.length=its.length∧s.heap.get? l=some { cls:=.type "list",data:=.seq its.toArray n }:=by
 obtain⟨z,its,n,r,e⟩:=I.hok l _ hH
 exact⟨z,its,n,r,r.length,e⟩
theorem notLongL {n:Nat}(h:n≤sizeLine):Builtin.List.listTooLong n=false:=by
 unfold Builtin.List.listTooLong
 exact decide_eq_false (by omega)
end
section
variable {X:Cx}
def rAppend:V→List V→Hp→VK→Prop:=fun x vs H Q=>∃l xs y,x = .ref l∧vs=[y]∧H l=some (.lst xs)∧xs.length<sizeLine∧Q .non (upd H l (.lst (xs ++ [y])))
theorem mt_append:MtM X "list.append" rAppend:=by
 intro pins s σ H x vs v us Q I rx rv h
 obtain⟨l,xs,y,rfl,rfl,hH,hz,q⟩:=h
 cases rx
 obtain⟨u,rfl,ru⟩:=rv.one
 obtain⟨z,its,n,r,hl,e⟩:=I.lstM hH
 refine call_meets F.slot_list_append ⟨_,e,rfl⟩ F.entry_list_append (F.args_list_append_2 _ _) (PySem.list_append l its.toArray n u (by rw[List.size_toArray];omega)) ⟨e,?_⟩
 refine⟨.non,_,I.lset (its':=its ++ [u]) hH e (by simp) (r.append (.cons ru .nil)) ?_,rfl,q⟩
 rw[List.length_append,List.length_singleton]
 omega
def rExtend:V→List V→Hp→VK→Prop:=fun x vs H Q=>∃l b xs zs,x = .ref l∧vs=[.ref b]∧H l=some (.lst xs)∧H b=some (.lst zs)∧xs.length+zs.length≤sizeLine∧Q .non (upd H l (.lst (xs++zs)))
theorem mt_extend:MtM X "list.extend" rExtend:=by
 intro pins s σ H x vs v us Q I rx rv h
 obtain⟨l,b,xs,zs,rfl,rfl,hH,hB,hz,q⟩:=h
 cases rx
 obtain⟨u,rfl,ru⟩:=rv.one
 cases ru
 obtain⟨z,its,n,r,hl,e⟩:=I.lstM hH
 obtain⟨z2,its2,n2,r2,hl2,e2⟩:=I.lstM hB
 have hsz:its.toArray.size+its2.toArray.size≤sizeLine:=by rw[List.size_toArray,List.size_toArray];omega
 have hlong:¬(!its.toArray.isEmpty && Builtin.List.listTooLong (its.toArray.size+its2.toArray.size))=true:=by
  rw[notLongL hsz,Bool.and_false]
  exact Bool.false_ne_true
 refine call_meets F.slot_list_extend ⟨_,e,rfl⟩ F.entry_list_extend (F.args_list_extend_2 _ _)
  (AutoSeq1.list_extend_list_list_0 l its.toArray n b its2.toArray n2 hlong (by rw[List.size_toArray];omega) (by omega)) ⟨e,e2,?_⟩
 refine⟨.non,_,I.lset (its':=its++its2) hH e (by simp) (r.append r2) ?_,rfl,q⟩
 rw[List.length_append]
 omega
def rPop:V→List V→Hp→VK→Prop:=fun x vs H Q=>∃l xs y,x = .ref l∧vs=[]∧H l=some (.lst xs)∧xs[xs.length-1]? = some y∧Q y (upd H l (.lst xs.dropLast))
theorem mt_pop:MtM X "list.pop" rPop:=by
 intro pins s σ H x vs v us Q I rx rv h
 obtain⟨l,xs,y,rfl,rfl,hH,hy,q⟩:=h
 cases rx
 have hus:=rv.zero
 subst hus
 obtain⟨z,its,n,r,hl,e⟩:=I.lstM hH
 obtain⟨u,hu,ru⟩:=r.get hy
 have hy':its.toArray[its.toArray.size-1]? = some u:=by
  show its.toArray[its.length-1]? = some u
  rw[← Array.getElem?_toList,← hl]
  exact hu
 refine call_meets F.slot_list_pop ⟨_,e,rfl⟩ F.entry_list_pop (F.args_list_pop_1 _) (MeetsSeq.list_pop_last l its.toArray n u hy' (by rw[List.size_toArray];omega)) ⟨e,?_⟩
 refine⟨y,_,I.lset (its':=its.dropLast) hH e ?_ r.dropLast ?_,ru,q⟩
 ·show its.toArray.eraseIdxIfInBounds (its.toArray.size-1)=its.dropLast.toArray
  rw[List.size_toArray,List.eraseIdxIfInBounds_toArray,erase_last]
 ·rw[List.length_dropLast]
  omega
def rCat:R2:=fun x y H Q=>∃l b xs zs,x = .ref l∧y = .ref b∧H l=some (.lst xs)∧H b=some (.lst zs)∧xs.length+zs.length≤sizeLine∧∀p,H p=none→Q (.ref p) (upd H p (.lst (xs++zs)))
theorem op_cat:OpR X (binaryOp .Add) rCat:=by
 intro pins s σ H x y v u Q I rx ry h
 obtain⟨l,b,xs,zs,rfl,rfl,hH,hB,hz,q⟩:=h
 cases rx
 cases ry
 obtain⟨z,its,n,r,hl,e⟩:=I.lstM hH
 obtain⟨z2,its2,n2,r2,hl2,e2⟩:=I.lstM hB
 refine PySem.P.add_list e e2 ?_ (by rw[List.size_toArray,List.size_toArray];omega)
 have ea:its.toArray++its2.toArray =(its++its2).toArray:=by simp
 rw[ea]
 exact⟨.ref _,_,I.lnew (t':=s.toks) (r.append r2) (by rw[List.length_append];omega),rfl,q _ I.fresh⟩
def rRep:R2:=fun x y H Q=>∃l k xs,x = .ref l∧y = .int k∧H l=some (.lst xs)∧-(2^63)≤k∧k<2^63∧xs.length*k.toNat≤sizeLine ∧
 ∀p,H p=none→Q (.ref p) (upd H p (.lst (List.replicate k.toNat xs).flatten))
theorem len_rep {α:Type}(xs:List α) (k:Nat):(List.replicate k xs).flatten.length=k*xs.length:=by
 induction k with
 | zero=>simp
 | succ k ih=>rw[List.replicate_succ,List.flatten_cons,List.length_append,ih,Nat.succ_mul,Nat.add_comm]
theorem op_rep:OpR X (binaryOp .Mult) rRep:=by
 intro pins s σ H x y v u Q I rx ry h
 obtain⟨l,k,xs,rfl,rfl,hH,h1,h2,hz,q⟩:=h
 cases rx
 obtain⟨t,rfl⟩:=ry
 obtain⟨z,its,n,r,hl,e⟩:=I.lstM hH
 have hlen:its.toArray.size*k.toNat≤sizeLine:=by rw[List.size_toArray,← hl];exact hz
 have hcap:¬ its.toArray.size*k.toNat > (2^63-1) / 8:=by
  have:(sizeLine:Nat) ≤(2^63-1) / 8:=by decide
  omega
 have hfit:¬(!Builtin.List.listFitsIndex k)=true:=by
  rw[fitsIndex_both h1 h2]
  exact Bool.false_ne_true
 have hlong:¬ Builtin.List.listTooLong (its.toArray.size*k.toNat)=true:=by
  rw[notLongL hlen]
  exact Bool.false_ne_true
 have hnew:List.foldl (fun x1 x2=>x1++x2) #[] (List.replicate (if its.toArray.isEmpty=true then 0 else k.toNat) its.toArray) =(List.replicate k.toNat its).flatten.toArray:=by
  have f0:∀m:Nat,List.foldl (fun x1 x2=>x1++x2) #[] (List.replicate m its.toArray) =(List.replicate m its).flatten.toArray:=fun m=>by
   have:=foldl_rep its m []
   rw[List.nil_append]at this
   exact this
  rw[f0]
  cases its with
  | nil=>simp
  | cons a r'=>rw[if_neg (by simp)]
 refine wpAny_binaryOp_repeat_ref (T := "list") (U := "int") (by decide) ⟨_,e,rfl⟩ (fun s'=>typeIs_int s' k t) noFill_list_mul F.fills_int_mul F.slot_int_rmul repeat_list F.slot_int_index.lookup
  (call_meets F.slot_int_rmul (typeIs_int s k t) F.entry_int_rmul (F.args_int_rmul_2 _ _) (int___rmul___int_list k t l its.toArray n)
   ⟨e,rfl,⟨_,e,rfl⟩,call_meets F.slot_list_mul ⟨_,e,rfl⟩ F.entry_list_mul (F.args_list_mul_2 _ _) (AutoListH.list___mul___list_int_3 l its.toArray n k t hfit hcap hlong) ⟨e,?_⟩⟩)
 rw[hnew]
 exact⟨.ref _,_,I.lnew (t':=s.toks) (r.rep k.toNat) (by rw[len_rep,Nat.mul_comm];exact hz),rfl,q _ I.fresh⟩
end
end L2
namespace Att
open PySem PySem.W PySem.Calls PyProof.Rows
theorem ints_of_wellAll {P:Params}{h:Heap}:∀(ns:List Int) (vs:List Value),WellAll P h vs (ns.map WData.int)→IntsAre vs ns:=by
 intro ns
 induction ns with
 | nil =>
  intro vs w
  rw[List.map_nil]at w
  cases w
  exact .nil
 | cons n ns ih =>
  intro vs w
  rw[List.map_cons]at w
  cases w with
  | cons a b =>
   cases a
   exact .cons _ _ (ih _ b)
theorem script_of {l:OpenLaw}{n:Nat}(hn:l.most=some n) {P:Params}{h:Heap}{args:List WData}{vals:List Value}
  (hpre:l.row.toRowW.claim.pre args=true) (hwl:WellAll P h vals args) :
  ∃a vs ns,vals=[Value.ref a]∧args=[WData.list (ns.map WData.int)]∧h.get? a=some { cls:=.type "list",data:=.seq vs.toArray }∧IntsAre vs ns∧ns.length≤n:=by
 have hsh:WShape.hasAll [] args [.list .int]=true:=(pre_splitW hpre).1
 have hc:l.pre.holds [] { args:=args } = true:=(pre_splitW hpre).2
 obtain⟨d,r,rfl,h1,h2⟩:=hasAllW_cons hsh
 obtain rfl:=hasAllW_nil h2
 obtain⟨xs,rfl,h3⟩:=hasW_list h1
 obtain⟨ns,rfl⟩:=items_int h3
 have hlen:ns.length≤n:=by
  unfold OpenLaw.pre at hc
  have h4:(WTm.not (.lt (.lit (.int (n:Int))) (.len (.arg 0)))).holds [] { args:=[.list (ns.map .int)] } = true:=by
   have h4:=(holds_andW hc).1
   rw[hn]at h4
   exact h4
  have h5:=condW_of h4 (w_not (w_lt w_lit (w_len_list (w_arg rfl))))
  rw[List.length_map]at h5
  refine Nat.le_of_not_lt fun q=>?_
  have q':(n:Int) <((ns.length:Nat):Int):=by omega
  first
   | (rw[decide_eq_true q']at h5;exact absurd h5 (by decide))
   | (simp at h5;omega)
 cases hwl with
 | cons w1 w2 =>
  cases w2
  cases w1 with
  | list ho hall=>exact⟨_,_,ns,rfl,rfl,ho,ints_of_wellAll ns _ hall,hlen⟩
theorem post_true (l:OpenLaw) (args:List WData):l.row.toRowW.claim.post args (.bool true) args=true :=
 postW_of (r:=l.row.toRowW) (X:=(true == true))
  (show WShape.has [] (.bool true) .bool=true by first|rfl|decide|simp[WShape.has,WShape.arms,WShape.armsAll])
  (show(WTm.eq .res (.lit (.bool true))).value [] { args:=args,res:=some (.bool true),after:=args } = some (.bool (true == true)) from w_eq_bool (w_res rfl) w_lit) rfl
theorem attach_call {l:OpenLaw}{n:Nat}{q:Program}{loose:List Str}{XP:(Str→Option Value)→Heap→Prop}{YP:World→Heap→Prop}{d:DefRec}
  (hn:l.most=some n) (hdf:d.params.defaults=[])
  (call:∀(w:World) (s₀ s₁:Shared) (mg mb:Str→Option Value) (fa:Addr) (o:Obj) (pm cd doc:Value) (a:Addr) (vs:List Value) (ns:List Int),
   Ground q loose [] XP w s₀ mg mb s₁.heap→YP w s₁.heap →
   s₁.heap.get? fa=some o→o.data = .func (docDef d.name d.params d.body d.scope pm cd doc)→s₁.heap.CodeRec cd d.name→mg d.name=some (.ref fa) →
   s₁.heap.get? a=some { cls:=.type "list",data:=.seq vs.toArray }→IntsAre vs ns→ns.length≤n→s₁.gens = #[] →
   codeAny (model l.prog w) callerA (.call (.ref fa) ⟨[.ref a],[]⟩) (fun r s'=>r = .ok (.ret (.bool true))∧OldK s₁.heap s'.heap∧s'.os=s₁.os∧AllBare s'.gens) s₁) :
  WalkO q loose XP YP l.row.toRowW d [] (fun f vs=>PySem.call f vs):=by
 intro w s₀ s₁ mg mb G Y fa o pm cd doc dV kV ho hd hcd hD hmg hg args vals as hpre hlay hrd hwl hlo
 obtain rfl:dV = .none:=Dflts.none hD hdf
 obtain rfl:kV = .none:=Dflts.noKw hD
 obtain⟨a,vs,ns,rfl,rfl,hobj,hints,hlen⟩:=script_of hn hpre hwl
 refine enter_call (codeAny_mono (call w s₀ s₁ mg mb fa o pm cd doc a vs ns G Y ho (fd_plain hd) hcd hmg hobj hints hlen hg) fun r s' hq=>?_)
 obtain⟨rfl,h2,h3,h4⟩:=hq
 exact⟨.inl ⟨.bool true,.bool true,[],rfl,fun _=>rfl,.bool true,post_true l _,fun _=>⟨List.Pairwise.nil,fun _ hm=>(nomatch hm)⟩⟩,h2,h3,h4⟩
end Att
namespace L2
open PySem PySem.Spec PyProof.Rows
theorem vals_ints:∀{vs:List Value}{ns:List Int},IntsAre vs ns→Vals (ns.map V.int) vs
 | _,_,.nil=>.nil
 | _,_,.cons n t h=>.cons ⟨t,rfl⟩ (vals_ints h)
def Only (H:Hp):Prop:=∀b,H b=none ∨ ∃o xs,H b=some (.frz o (.lst xs))
theorem law_call {P:Program}{w:World}{K:PySem.W.Frag}{mg mb:Str→Option Value}{CX:CXT}{k:Nat}{fa a:Addr}{fd:FuncData}{x:Str}{sp:Sp}{s₁:Shared}{vs:List Value}{ns:List Int}
  (KX:K.In s₁.heap) (hns:s₁.heap.Ns mainGlobals mg) (hb:s₁.heap.Ns builtinsNs mb) (hbb:∀x:Str,x ≠ "__name__"→mb x=bootBuiltins x) (hlim:s₁.heap.NoLimit) (hg:s₁.gens = #[])
  (ha:s₁.heap.get? a=some { cls:=.type "list",data:=.seq vs.toArray }) (hi:IntsAre vs ns) (hl:ns.length≤sizeLine) (hr:Room k callerA)
  (F:∀base:Heap,K.In base→base.Ns mainGlobals mg→FnOk P w K mg base CX k fa fd [x] sp) (hbind:∀(s:Shared) (u:Value),BindsTo s fd ⟨[u],[]⟩ [(x,u)])
  (hsp:∀H:Hp,Only H→SqL K H a (ns.map V.int)→sp [.ref a] H (fun v _=>v = .bl true) fun _ _ _=>False)
  (hCX:∀H e s',CX [] H s₁ (fun _ _ _=>False) e s'→False) :
  codeAny (model P w) callerA (.call (.ref fa) ⟨[.ref a],[]⟩) (fun r s'=>r = .ok (.ret (.bool true))∧OldK s₁.heap s'.heap∧s'.os=s₁.os∧AllBare s'.gens) s₁:=by
 have rv:=vals_ints hi
 have lenV:=hi.length
 have core:∀H:Hp,Only H→SqL K H a (ns.map V.int)→HOk P w H s₁.heap→(∀b,H b≠none→b=a)→(H a≠none→K.lookup a=none) →
   codeAny (model P w) callerA (.call (.ref fa) ⟨[.ref a],[]⟩) (fun r s'=>r = .ok (.ret (.bool true))∧OldK s₁.heap s'.heap∧s'.os=s₁.os∧AllBare s'.gens) s₁:=by
  intro H hO hS hok hA hK
  have base_of:∀{b:Addr}{o:Obj},s₁.heap.get? b=some o→H b=none→(hidT s₁.heap H).get? b=some o:=fun e n=>hidT_get e n
  have noA:∀{b:Addr}{o:Obj}{es:Array DictEntry}{ep:Nat},s₁.heap.get? b=some o→o.data = .dict es ep→H b=none:=fun {b o es ep} e d=>by
   cases q:H b with
   | none=>rfl
   | some u =>
    have e':b=a:=hA b (by rw[q];simp)
    subst e'
    rw[ha]at e;cases e
    have d':Data.seq vs.toArray _=Data.dict es ep:=d
    cases d'
  have nsK:∀{b:Addr}{m:Str→Option Value},s₁.heap.Ns b m→(hidT s₁.heap H).Ns b m:=fun {b m} ⟨o,es,ep,e,d,r⟩=>⟨o,es,ep,base_of e (noA e d),d,r⟩
  have hKb:K.In (hidT s₁.heap H):=fun b o e=>base_of (KX b o e) (by
   cases q:H b with
   | none=>rfl
   | some u =>
    have e':b=a:=hA b (by rw[q];simp)
    subst e'
    rw[hK (by rw[q];simp)]at e;cases e)
  have hM:Mod K mg (hidT s₁.heap H):=⟨hKb,nsK hns,⟨mb,nsK hb,hbb⟩,let ⟨mc,h1,h2⟩:=hlim;⟨mc,nsK h1,h2⟩⟩
  have e0:Env0 P w K mg (hidT s₁.heap H) callerA [] s₁ H:=⟨rfl,hM,fun b o e=>of_hidT e,Nat.le_of_eq (hidT_size _ _),trivial,fun b hb=>absurd (show b∈([]:List Addr) from hb) (by simp),hok,.of_eq hg⟩
  refine codeAny_mono ((F _ hKb (nsK hns)).run callerA [] s₁ H ⟨[.ref a],[]⟩ [.ref a] [.ref a] _ _ hr e0 (hbind s₁ (.ref a)) (.cons rfl .nil) (hsp H hO hS)) fun r s' h=>?_
  cases r with
  | error e=>exact(hCX H e s' h).elim
  | ok fl =>
   cases fl with
   | next=>exact False.elim h
   | brk=>exact False.elim h
   | cont=>exact False.elim h
   | ret u =>
    obtain⟨v,H',os,bare,un,hok',r',q⟩:=h
    have q':v = .bl true:=q
    subst q'
    obtain rfl:u=Value.bool true:=r'
    refine⟨rfl,OldK.of_keep fun b o e=>?_,os,bare⟩
    cases q:H b with
    | none=>exact un.keep b o e q (by intro z;exact absurd (show b∈([]:List Addr) from z) (by simp)) (by simp)
    | some u =>
     rcases hO b with z|⟨ob,xs,z⟩
     ·rw[q]at z;cases z
     ·have z2:=un.frzs b ob _ z
      obtain⟨e1,_⟩:=hok b _ z
      obtain⟨e2,_⟩:=hok' b _ z2
      rw[e]at e1;cases e1
      exact e2
 cases hk:K.lookup a with
 | some o =>
  have e:=KX a o hk
  rw[ha]at e
  cases e
  refine core (fun _=>none) (fun _=>.inl rfl) (.inr ⟨_,vs.toArray,_,hk,rfl,rfl,rfl,by rw[List.size_toArray,lenV];exact hl,by simpa using rv⟩) (fun b u z=>by have z':(none:Option HO)=some u:=z;cases z') (fun b z=>absurd rfl z) fun z=>absurd rfl z
 | none =>
  refine core (fun b=>if b=a then some (.frz { cls:=.type "list",data:=.seq vs.toArray } (.lst (ns.map V.int))) else none) (fun b=>?_) (.inl (.inr ⟨{ cls:=.type "list",data:=.seq vs.toArray },if_pos rfl⟩)) (fun b u z=>?_) (fun b z=>?_) fun _=>hk
  ·by_cases hb:b=a
   ·exact .inr ⟨_,_,if_pos hb⟩
   ·exact .inl (if_neg hb)
  ·by_cases hb:b=a
   ·have z':=(if_pos hb).symm.trans z
    cases z'
    subst hb
    exact⟨ha,by rw[List.length_map];exact hl,vs,_,rv,ha⟩
   ·have z':=(if_neg hb).symm.trans z
    cases z'
  ·by_cases hb:b=a
   ·exact hb
   ·exact absurd (if_neg hb) z
theorem walk_of {l:PySem.W.OpenLaw}{n k:Nat}{q:Program}{loose:List Str}{XP:(Str→Option Value)→Heap→Prop}{YP:World→Heap→Prop}{d:DefRec}{K:Params→PySem.W.Frag}{CX:World→CXT}{sp:World→Sp}{x:Str}
  (hn:l.most=some n) (hn2:n≤sizeLine) (hdf:d.params.defaults=[]) (hr:Room k callerA)
  (hY:∀(w:World) (h:Heap),YP w h→(K w.params).In h)
  (F:∀(w:World) (mg:Str→Option Value) (fa:Addr) (h:Heap),(K w.params).In h→h.Ns mainGlobals mg→mg d.name=some (.ref fa) →
   ∃fd:FuncData,(∀(s:Shared) (u:Value),BindsTo s fd ⟨[u],[]⟩ [(x,u)]) ∧
    ∀base:Heap,(K w.params).In base→base.Ns mainGlobals mg→FnOk l.prog w (K w.params) mg base (CX w) k fa fd [x] (sp w))
  (hsp:∀(w:World) (H:Hp) (a:Addr) (ns:List Int),ns.length≤n→Only H→SqL (K w.params) H a (ns.map V.int)→sp w [.ref a] H (fun v _=>v = .bl true) fun _ _ _=>False)
  (hCX:∀(w:World) (H:Hp) (s:Shared) (e:Value) (s':Shared),CX w [] H s (fun _ _ _=>False) e s'→False) :
  PySem.W.WalkO q loose XP YP l.row.toRowW d [] (fun f vs=>PySem.call f vs):=by
 refine Att.attach_call hn hdf fun w s₀ s₁ mg mb fa o pm cd doc a vs ns G Y ho hd hcd hmg hobj hints hlen hg=>?_
 have KX:=hY w _ Y
 obtain⟨fd,hb,hF⟩:=F w mg fa _ KX G.T.g hmg
 exact law_call KX G.T.g G.T.b G.T.builtins G.T.nolimit hg hobj hints (Nat.le_trans hlen hn2) hr hF hb (fun H hO hS=>hsp w H a ns hlen hO hS) fun H e s'=>hCX w H s₁ e s'
def inClass (s:Stmt) (j:Nat):Stmt:=match s with
 | .ClassDef _ _ _ body _ _ _ _ _ _ _=>body.getD j (.Pass ⟨0,0,0,0⟩)
 | _=>.Pass ⟨0,0,0,0⟩
def defArgs (s:Stmt):Arguments:=match s with
 | .FunctionDef _ a _ _ _ _ _ _ _ _=>a
 | _=>{ posonlyargs:=[],args:=[],vararg:=none,kwonlyargs:=[],kw_defaults:=[],kwarg:=none,defaults:=[] }
def defBody (s:Stmt):List Stmt:=match s with
 | .FunctionDef _ _ b _ _ _ _ _ _ _=>b
 | _=>[]
def defScope (s:Stmt):Scope:=match s with
 | .FunctionDef _ _ _ _ _ _ sc _ _ _=>sc
 | _=>{ kind:=.function,names:=[],isGenerator:=false,isCoroutine:=false }
abbrev CX0:CXT:=fun _ _ _ _ _ _=>False
abbrev E0:XK:=fun _ _ _=>False
theorem pass0 {X:Cx}:Passes CX0 X E0:=fun _ _ _ _ _ _ _ h=>h.elim
structure Fun (K:PySem.W.Frag) (x qual:Str) (st:Stmt) (f:Addr) (fd:FuncData):Prop where
 ex:∃(oc:Value) (od:Option Addr) (kV doc pm:Value) (an:Option Addr) (cdv ct:Value) (osl:Array (Option Value)),
  fd=PySem.W.fnOf x qual (defArgs st) (defBody st) (defScope st) .none kV doc pm an cdv ct∧K.lookup f=some ⟨oc,od,.func fd,osl⟩∧PySem.W.codeIn K cdv qual=true
 kp:PySem.W.keepIn K (.ref f)=true
section
variable {P:Program}{w:World}{K:PySem.W.Frag}{mg:Str→Option Value}{base:Heap}
theorem Fun.ok {x qual:Str}{st:Stmt}{f:Addr}{fd:FuncData}{N ps:List Str}{k:Nat}{sp:Sp}(F:Fun K x qual st f fd) (S:FnScope N ps (defScope st)) (len:∀vs H Q E,sp vs H Q E→vs.length=ps.length)
  (hbody:∀(cdv:Value) (A:Around) (outer:List Env) (s:Shared) (H:Hp) (vs:List V) (Q:VK) (E:XK),Room k (A.deeper (envOfC qual (defScope st) s.heap.objs.size f cdv))→sp vs H Q E →
   ∃t,PSs (cxOf CX0 P w K mg base N qual (defScope st) f cdv A outer s H E).nox (defBody st) t∧t { nx:=fun _ H'=>Q .non H',rt:=Q } (start N vs) H):FnOk P w K mg base CX0 (k+1) f fd ps sp:=by
 obtain⟨oc,od,kV,doc,pm,an,cdv,ct,osl,rfl,lk,hcd⟩:=F.ex
 refine fn_of lk hcd S len fun A outer s H vs Q E hr hsp=>?_
 obtain⟨t,h,q⟩:=hbody cdv A outer s H vs Q E hr hsp
 exact⟨t,h.nox,q⟩
theorem Fun.binds {x qual:Str}{st:Stmt}{f:Addr}{fd:FuncData}{ps:List Str}(F:Fun K x qual st f fd)
  (h:∀(kV doc pm:Value) (an:Option Addr) (cdv ct:Value) (us:List Value),us.length=ps.length→bindArgs (PySem.W.fnOf x qual (defArgs st) (defBody st) (defScope st) .none kV doc pm an cdv ct) ⟨us,[]⟩=pure (ps.zip us)):Binds K fd ps []:=by
 obtain⟨oc,od,kV,doc,pm,an,cdv,ct,osl,rfl,lk,hcd⟩:=F.ex
 exact .all (h kV doc pm an cdv ct)
theorem fun_mk {x qual:Str}{st:Stmt}{f:Addr}{oc:Value}{od an:Option Addr}{osl:Array (Option Value)}{kV doc pm cdv ct:Value}(l:K.lookup f=some ⟨oc,od,.func (PySem.W.fnOf x qual (defArgs st) (defBody st) (defScope st) .none kV doc pm an cdv ct),osl⟩)
  (c:PySem.W.codeIn K cdv qual=true) (k:PySem.W.keepIn K (.ref f)=true):Fun K x qual st f (PySem.W.fnOf x qual (defArgs st) (defBody st) (defScope st) .none kV doc pm an cdv ct):=⟨⟨oc,od,kV,doc,pm,an,cdv,ct,osl,rfl,l,c⟩,k⟩
end
theorem hu_of {A:Around}{k:Nat}(hr:Room k A):A.units+1<cLine:=Nat.lt_of_le_of_lt (Nat.add_le_add_left (by decide:1≤64) _) hr.units
theorem small1000 {n:Nat}(h:n≤1000):n<sizeLine:=Nat.lt_of_le_of_lt h (by decide)
section
variable {X:Cx}
theorem pv (i:Nat) {x:Str}{pos:Pos}(hN:X.N[i]? = some x:=by rfl) (hv:Vis X.env.scope x:=by first|exact Or.inl rfl|exact Or.inr (Or.inl rfl)|exact Or.inr (Or.inr rfl)) (hd:(x ==("__debug__" : Str))=false:=by decide)
  (hcd:(x ==("__classdict__" : Str))=false:=by decide):PE X (.Name x pos) (tVar i):=pe_var hN hv hd hcd
end
theorem iteF {A B:Prop}(h:B):if false=true then A else B:=by
 rw[if_neg Bool.false_ne_true]
 exact h
theorem iteT {A B:Prop}(h:A):if true=true then A else B:=by
 rw[if_pos rfl]
 exact h
def Same (H H':Hp):Prop:=∀b o,H b=some o→H' b=some o
theorem Same.refl (H:Hp):Same H H:=fun _ _ h=>h
theorem Same.trans {H H1 H2:Hp}(a:Same H H1) (b:Same H1 H2):Same H H2:=fun c o h=>b c o (a c o h)
theorem Same.free {H H':Hp}(e:Same H H') {l:Addr}(h:H' l=Option.none):H l=Option.none:=by
 cases q:H l with
 | none=>rfl
 | some o =>
  rw[e l o q]at h
  cases h
theorem Same.seq {K:PySem.W.Frag}{H H':Hp}{a:Addr}{xs:List V}(e:Same H H') (h:SqL K H a xs):SqL K H' a xs:=by
 rcases h with(h|⟨o,h⟩)|h
 ·exact .inl (.inl (e _ _ h))
 ·exact .inl (.inr ⟨o,e _ _ h⟩)
 ·exact .inr h
def clOf (env:Env):List (Str×NameKind)→List (Str×Addr)→List (Str×Addr)
 | [],cs=>cs
 | (n,k)::r,cs=>clOf env r (if k == .free then(n,(env.cells.lookup n).getD 0)::cs else cs)
def clStep (env:Env) (x:Str×NameKind) (s:List (Str×Addr)):Sem (ForInStep (List (Str×Addr))):=if (x.2 == NameKind.free)=true then cellOf env x.1 >>= fun c=>pure (ForInStep.yield ((x.1,c)::s)) else pure (ForInStep.yield s)
theorem clStep_run {env:Env}:∀{ns:List (Str×NameKind)}(cs:List (Str×Addr)),(∀y∈ns,y.2 = .free→∃c,env.cells.lookup y.1=some c)→(forIn ns cs (clStep env):Sem (List (Str×Addr)))=pure (clOf env ns cs)
 | [],cs,_=>rfl
 | (n,k)::r,cs,h=>by
  rw[List.forIn_cons]
  have hr:∀y∈r,y.2 = .free→∃c,env.cells.lookup y.1=some c:=fun z hz=>h z (List.mem_cons_of_mem _ hz)
  cases hk:(k == NameKind.free) with
  | false =>
   have e1:clStep env (n,k) cs=pure (ForInStep.yield cs):=by
    unfold clStep
    exact if_neg (by rw[show(n,k).2=k from rfl,hk];decide)
   rw[e1,pure_bind]
   show forIn r cs (clStep env)=_
   rw[clStep_run cs hr]
   show pure (clOf env r cs)=pure (clOf env r (if (k == NameKind.free)=true then(n,(List.lookup n env.cells).getD 0)::cs else cs))
   rw[hk]
   rfl
  | true =>
   have hk':k = .free:=by simpa using hk
   obtain⟨c,hc⟩:=h (n,k) List.mem_cons_self hk'
   have hc':env.cells.lookup n=some c:=hc
   have q:cellOf env n=pure c:=by unfold cellOf;rw[hc']
   have e1:clStep env (n,k) cs=pure (ForInStep.yield ((n,c)::cs)):=by
    unfold clStep
    rw[if_pos (by rw[show(n,k).2=k from rfl,hk]),show(n,k).1=n from rfl,q,pure_bind]
   rw[e1,pure_bind]
   show forIn r ((n,c)::cs) (clStep env)=_
   rw[clStep_run _ hr]
   show pure (clOf env r ((n,c)::cs))=pure (clOf env r (if (k == NameKind.free)=true then(n,(List.lookup n env.cells).getD 0)::cs else cs))
   rw[hk,hc']
   rfl
theorem closure_eq {scope:Scope}{env:Env}(h:∀y∈scope.names,y.2 = .free→∃c,env.cells.lookup y.1=some c):closureFor scope env=pure (clOf env scope.names []):=by
 show(forIn scope.names ([]:List (Str×Addr)) (clStep env) >>= fun s=>(pure s:Sem (List (Str×Addr))))=_
 rw[clStep_run [] h,pure_bind]
theorem clOf_sound {env:Env}{n:Str}{c:Addr}:∀{ns:List (Str×NameKind)}{cs:List (Str×Addr)},(∀y∈ns,y.2 = .free→∃c,env.cells.lookup y.1=some c)→(∀p∈cs,env.cells.lookup p.1=some p.2)→(clOf env ns cs).lookup n=some c→env.cells.lookup n=some c
 | [],cs,_,hc,h=>hc _ (PySem.mem_of_lookup h)
 | (m,k)::r,cs,hn,hc,h=>by
  unfold clOf at h
  refine clOf_sound (fun y hy=>hn y (List.mem_cons_of_mem _ hy)) ?_ h
  intro p hp
  split at hp
  ·rename_i hk
   have hk':k = .free:=by simpa using hk
   obtain⟨c',hc'⟩:=hn (m,k) List.mem_cons_self hk'
   have hc2:env.cells.lookup m=some c':=hc'
   rw[hc2]at hp
   rcases List.mem_cons.mp hp with rfl|hp
   ·exact hc2
   ·exact hc p hp
  ·exact hc p hp
theorem lookup_mono_isSome {n:Str}:∀{cs:List (Str×Addr)},(∃c,(n,c)∈cs)→∃c,cs.lookup n=some c
 | [],⟨_,h⟩=>absurd h (by simp)
 | (m,d)::r,⟨c,h⟩=>by
  rw[List.lookup_cons]
  by_cases e:n=m
  ·subst e;exact⟨d,by simp⟩
  ·have:(n == m)=false:=beq_eq_false_iff_ne.mpr e
   rw[this]
   rcases List.mem_cons.mp h with z|z
   ·cases z;exact absurd rfl e
   ·exact lookup_mono_isSome ⟨c,z⟩
theorem clOf_keeps {env:Env}{p:Str×Addr}:∀{ns:List (Str×NameKind)}{cs:List (Str×Addr)},p∈cs→p∈clOf env ns cs
 | [],_,h=>h
 | (m,k)::r,cs,h=>by
  unfold clOf
  refine clOf_keeps ?_
  split
  ·exact List.mem_cons_of_mem _ h
  ·exact h
theorem clOf_has {env:Env}{n:Str}:∀{ns:List (Str×NameKind)}{cs:List (Str×Addr)},(n,NameKind.free)∈ns→∃c,(n,c)∈clOf env ns cs
 | [],_,h=>absurd h (by simp)
 | (m,k)::r,cs,h=>by
  unfold clOf
  rcases List.mem_cons.mp h with z|z
  ·cases z
   exact⟨(env.cells.lookup n).getD 0,clOf_keeps (by simp)⟩
  ·exact clOf_has z
def cxBlk (X:Cx) (scope:Scope) (N:List Str) (C:Addr) (s:Shared) (H:Hp) (ex:List Addr):Cx :=
 { X with N:=N,s₀:=s,H₀:=H,env:=compEnvC scope (clOf X.env scope.names []) C X.env,outer:=X.stack,ex:=ex,fn:=fun _=>false,pn:=[],xe:=fun _ _=>False }
structure BlkOk (X:Cx) (scope:Scope) (vs fs:List Str) (js:List Nat):Prop where
 kind:scope.kind = .function
 cell:∀y∈scope.names,y.2 ≠ .cell
 names:∀y∈scope.names,y.2 = .local→scope.names.lookup y.1=some .local
 free:∀y∈scope.names,y.2 = .free→X.env.kindOf y.1=some .cell∨X.env.kindOf y.1=some .free
 own:∀y∈vs,scope.names.lookup y=some .local
 cap:∀y∈fs,scope.names.lookup y=some .free
 ix:js.map (fun j=>X.N[j]?)=fs.map some
def blkSt (vs:List Str) (js:List Nat) (σ:St):St:=vs.map (fun _=>none)++js.map (fun j=>(σ[j]?).join)
theorem lookup_relabel_free {env:Env}{names:List (Str×NameKind)}{x:Str}(h:names.lookup x=some .free) :
  (names.map fun(n,k)=>if (k == NameKind.free && env.scope.kind == .function && env.kindOf n == some .cell) then(n,NameKind.cell) else(n,k)).lookup x=some .cell ∨
  (names.map fun(n,k)=>if (k == NameKind.free && env.scope.kind == .function && env.kindOf n == some .cell) then(n,NameKind.cell) else(n,k)).lookup x=some .free:=by
 induction names with
 | nil=>cases h
 | cons y r ih =>
  obtain⟨n,k⟩:=y
  rw[List.map_cons]
  show List.lookup x ((if (k == NameKind.free && env.scope.kind == .function && env.kindOf n == some .cell)=true then(n,NameKind.cell) else(n,k))::_)=_∨List.lookup x ((if (k == NameKind.free && env.scope.kind == .function && env.kindOf n == some .cell)=true then(n,NameKind.cell) else(n,k))::_)=_
  rw[List.lookup_cons]at h
  cases e:x == n with
  | true =>
   rw[e]at h
   have h':k = .free:=by simpa using h
   subst h'
   split
   ·left;rw[List.lookup_cons,e]
   ·right;rw[List.lookup_cons,e]
  | false =>
   rw[e]at h
   have h':=ih h
   split
   ·rw[List.lookup_cons,e];exact h'
   ·rw[List.lookup_cons,e];exact h'
theorem relabel_back {env:Env}{names:List (Str×NameKind)}{x:Str}{kk:NameKind}
  (h:(names.map fun(n,k)=>if (k == NameKind.free && env.scope.kind == .function && env.kindOf n == some .cell) then(n,NameKind.cell) else(n,k)).lookup x=some kk) :
  (kk = .cell∧(x,NameKind.free)∈names) ∨(x,kk)∈names:=by
 induction names with
 | nil=>cases h
 | cons y r ih =>
  obtain⟨n,k⟩:=y
  rw[List.map_cons]at h
  have h2:List.lookup x ((if (k == NameKind.free && env.scope.kind == .function && env.kindOf n == some .cell)=true then(n,NameKind.cell) else(n,k))::(r.map fun(n,k)=>if (k == NameKind.free && env.scope.kind == .function && env.kindOf n == some .cell) then(n,NameKind.cell) else(n,k)))=some kk:=h
  cases e:x == n with
  | true =>
   have e':x=n:=by simpa using e
   subst e'
   split at h2
   ·rename_i hc
    rw[List.lookup_cons,e]at h2
    have h3:kk = .cell:=by simpa using h2.symm
    have hk:k = .free:=by
     have:=(Bool.and_eq_true _ _ ▸ hc).1
     have:=(Bool.and_eq_true _ _ ▸ this).1
     simpa using this
    subst hk
    exact .inl ⟨h3,List.mem_cons_self⟩
   ·rw[List.lookup_cons,e]at h2
    have h3:kk=k:=by simpa using h2.symm
    subst h3
    exact .inr List.mem_cons_self
  | false =>
   have h3:(r.map fun(n,k)=>if (k == NameKind.free && env.scope.kind == .function && env.kindOf n == some .cell) then(n,NameKind.cell) else(n,k)).lookup x=some kk:=by
    split at h2
    ·rw[List.lookup_cons,e]at h2;exact h2
    ·rw[List.lookup_cons,e]at h2;exact h2
   rcases ih h3 with⟨a,b⟩|b
   ·exact .inl ⟨a,List.mem_cons_of_mem _ b⟩
   ·exact .inr (List.mem_cons_of_mem _ b)
section
variable {prog:Program}{w:World}{A:Around}{R:Result→Shared→Prop}{s:Shared}
theorem codeAny_compLoop_gen {elt target iter:Expr}{ifs:List Expr}{scope:Scope}{pos:Pos}{it acc:Value}{env:Env}(I:Nat→Shared→Prop)
  (turn:∀n s,I n s→wpAny (model prog w) A (pyNext it) (fun r s₁=>match r with
   | none=>R (.ok .next) s₁
   | some v=>wpAny (model prog w) A (letOwnedTupleGo target it v) (fun _ s₁'=>wpAny (model prog w) A (assign target env v) (fun _ s₂ =>
     wpAny (model prog w) A (forIn ifs true fun c r=>if r=true then do let ok ← isTrue c env (eval c env);pure (ForInStep.yield ok) else pure (ForInStep.yield r)) (fun ok s₃ =>
      if ok=true then wpAny (model prog w) A (eval elt env) (fun x s₄ =>
       wpAny (model prog w) A (call (.builtin "list.append") [acc,x]) (fun _ s₅=>∃m,m<n∧I m s₅) (fun _ _=>False) s₄) (fun _ _=>False) s₃
      else ∃m,m<n∧I m s₃) (fun _ _=>False) s₂) (fun _ _=>False) s₁') (fun _ _=>False) s₁) (fun _ _=>False) s)
  (n:Nat) (h:I n s) :
  codeAny (model prog w) A (.compLoop (.ListComp elt [⟨target,iter,ifs,0⟩] scope pos) 0 it acc env) R s:=by
 refine codeAny_loop rfl I (fun n s hI=>?_) n h
 show wpAny _ A ((compTurn (.ListComp elt [⟨target,iter,ifs,0⟩] scope pos) 0 it acc env).onRaise (fun x=>do noteFrame x env;theTreesLotGoes x)) _ _ s
 refine wpAny_noted ?_
 rw[compTurn_list]
 refine wpAny_bind (wpAny_standAt (wpAny_bind (wpAny_mono (turn n s hI) (fun r s₁ h₁=>?_) fun _ _ h'=>h'.elim)))
 cases r with
 | none=>exact wpAny_pure h₁
 | some v =>
  refine wpAny_bind (wpAny_mono h₁ (fun _ s₁' h₁'=>?_) fun _ _ h'=>h'.elim)
  refine wpAny_bind (wpAny_mono h₁' (fun _ s₂ h₂=>wpAny_bind (wpAny_mono h₂ (fun ok s₃ h₃=>?_) fun _ _ h'=>h'.elim)) fun _ _ h'=>h'.elim)
  cases ok with
  | false=>exact wpAny_pure ⟨rfl,h₃⟩
  | true =>
   exact wpAny_bind (wpAny_bind (wpAny_mono h₃ (fun x s₄ h₄=>wpAny_bind (wpAny_mono h₄ (fun _ s₅ h₅=>wpAny_pure (wpAny_pure ⟨rfl,h₅⟩)) fun _ _ h'=>h'.elim)) fun _ _ h'=>h'.elim))
end
def PIfs (X:Cx) (ifs:List Expr) (t:TT):Prop :=
 ∀(pins:List (Addr×Obj)) (s:Shared) (σ:St) (H:Hp) (Q:Bool→Hp→Prop),Inv X pins σ H s→t σ H Q →
  wpAny (model X.prog X.w) X.A (forIn ifs true fun c r=>if r=true then do let ok ← isTrue c X.env (eval c X.env);pure (ForInStep.yield ok) else pure (ForInStep.yield r)) (TP X pins σ Q) X.xe s
def tYes:TT:=fun _ H Q=>Q true H
theorem pif0 {X:Cx}:PIfs X [] tYes:=fun _ _ _ H _ I h=>wpAny_tests_nil ⟨H,I,h⟩
theorem pif1 {X:Cx}{c:Expr}{t:TT}(h:PT X c t):PIfs X [c] t:=fun pins s σ H Q I q=>wpAny_tests_one (h pins s σ H Q I q)
def CompW (J:It) (vs:List Str) (js:List Nat) (σ:St) (g:TG) (tt:TT) (te:TE) (Q:VK) (D:Addr) (H1:Hp):Prop :=
 ∃W:Nat→Nat→St→List V→Hp→Prop,(∃m,W 0 m (blkSt vs js σ) [] (upd H1 D (.lst [])))∧∀i m σ' ys H',W i m σ' ys H' →
  (J.stop i H'∧Q (.ref D) H') ∨(J.go i H'∧∃N:St→List V→Hp→Prop,(∀σ2 zs H2,N σ2 zs H2→∃m',m'<m∧W (i+1) m' σ2 zs H2) ∧
   ∀x H2,J.yld i H' x H2→g x σ' H2 fun σ3 H3=>tt σ3 H3 fun b H4=>if b=true then te σ3 H4 fun y H5=>H5 D=some (.lst ys)∧ys.length<sizeLine∧N σ3 (ys ++ [y]) (upd H5 D (.lst (ys ++ [y]))) else N σ3 ys H4)
def tComp (vs:List Str) (js:List Nat) (wi:TI) (g:TG) (tt:TT) (te:TE):TE:=fun σ H Q=>wi σ H fun J H1=>∀D,H1 D=none→CompW J vs js σ g tt te Q D H1
section
variable {X:Cx}{pins:List (Addr×Obj)}{σ:St}{H:Hp}{s:Shared}{scope:Scope}{vs fs:List Str}{js:List Nat}
theorem blk_start {fp:List Addr}{C D:Addr}{h₁:Heap}{tk:Nat}{m:Str→Option Value}(I:Inv X pins σ H s) (B:BlkOk X scope vs fs js) (hf:∀b∈fp,FpOk X pins H b) (hfp:∀b∈fp,b<s.heap.objs.size)
  (hn:h₁.Ns C m) (hk:∀b o,s.heap.get? b=some o→h₁.get? b=some o) (hD:D=s.heap.objs.size) (hC:s.heap.objs.size<C)
  (hl:h₁.get? D=some { cls:=.type "list",data:=.seq ([]:List Value).toArray }) :
  Inv (cxBlk X scope (vs++fs) C s H fp) [] (blkSt vs js σ) (upd H D (.lst [])) { s with heap:=h₁,toks:=tk }:=by
 have hasX:∀y∈scope.names,y.2 = .free→∃c,X.env.cells.lookup y.1=some c:=fun y hy hf=>I.ok.has y.1 (B.free y hy hf)
 have snd:∀{y:Str}{c:Addr},(clOf X.env scope.names []).lookup y=some c→X.env.cells.lookup y=some c:=fun h=>clOf_sound hasX (fun p hp=>absurd hp (by simp)) h
 have clt:∀{y:Str}{c:Addr},X.env.cells.lookup y=some c→c<s.heap.objs.size:=fun {y c} h=>by
  obtain⟨v,o,ho,_⟩:=I.cell y c h
  exact Heap.lt_size ho
 have hfr:H D=none:=by rw[hD];exact I.hok.fresh (Nat.le_refl _)
 have hfC:H C=none:=I.hok.fresh (Nat.le_of_lt hC)
 have nCD:C≠D:=by rw[hD];exact Nat.ne_of_gt hC
 refine⟨⟨I.ok.mod,B.kind,I.ok.glob,I.ok.blt,Nat.le_of_lt hC,fun y z c h1 h2=>I.ok.inj y z c (snd h1) (snd h2),fun y hy=>?_,fun y c z _=>absurd (show false=true from z) Bool.false_ne_true,I.ok.hd,I.ok.frames,.inl rfl,fun b hb=>⟨?_,fun y c h=>(hf b hb).2.2.2.2.1 y c (snd h)⟩,I.bs,Nat.le_trans I.ok.bsz I.sz,fun b o e hb=>?_,fun b hb z=>?_,I.stack,I.stkFree⟩,
  rfl,I.bare,Un.laid hk (Nat.le_of_eq hD.symm) hfr,⟨m,hn,fun i y v h1 h2 h3=>?_⟩,fun y c h=>?_,?_,fun y c h=>?_,fun p hp=>absurd (show p∈([]:List (Addr×Obj)) from hp) (by simp),I.hok.laid hk (Nat.le_of_eq hD.symm) ⟨by simp,[],0,.nil,hl⟩,?_⟩
 ·-- has
  have key:(y,NameKind.free)∈scope.names:=by
   rcases hy with hy|hy
   ·rcases relabel_back hy with⟨_,z⟩|z
    ·exact z
    ·exact absurd rfl (B.cell _ z)
   ·rcases relabel_back hy with⟨z,_⟩|z
    ·cases z
    ·exact z
  exact lookup_mono_isSome (clOf_has key)
 ·exact Nat.ne_of_lt (Nat.lt_trans (hfp b hb) hC)
 ·rcases(hf b hb).2.2.2.1 with z|z
  ·exact I.ok.noex b o e z
  ·exact absurd (Nat.lt_of_lt_of_le (Heap.lt_size e) (Nat.le_trans I.ok.bsz z)) (Nat.lt_irrefl _)
 ·rcases List.mem_cons.mp (I.stkSub b z) with e|e
  ·exact(hf b hb).2.1 e
  ·exact(hf b hb).2.2.1 e
 ·-- loc
  have hlen:js.length=fs.length:=by have:=congrArg List.length B.ix;simpa using this
  have hi:¬ i<vs.length:=fun hi=>by
   unfold blkSt at h2
   rw[List.getElem?_append_left (by simpa using hi),List.getElem?_map]at h2
   cases e:vs[i]? with
   | none=>rw[e]at h2;cases h2
   | some a=>rw[e]at h2;cases h2
  have hi':vs.length≤i:=Nat.le_of_not_lt hi
  have h1':fs[i-vs.length]? = some y:=by
   have:=h1
   rw[show(cxBlk X scope (vs++fs) C s H fp).N=vs++fs from rfl,List.getElem?_append_right hi']at this
   exact this
  have h2':(js[i-vs.length]?).map (fun j=>(σ[j]?).join)=some (some v):=by
   unfold blkSt at h2
   rw[List.getElem?_append_right (by simpa using hi'),List.length_map,List.getElem?_map]at h2
   exact h2
  cases ej:js[i-vs.length]? with
  | none=>rw[ej]at h2';cases h2'
  | some j =>
   rw[ej]at h2'
   have hσ:σ[j]? = some (some v):=by
    have z:(σ[j]?).join=some v:=Option.some.inj h2'
    cases q:σ[j]? with
    | none=>rw[q]at z;cases z
    | some o=>rw[q]at z;have z':o=some v:=z;rw[z']
   have hNj:X.N[j]? = some y:=by
    have q:=congrArg (fun l=>l[i-vs.length]?) B.ix
    simp only[List.getElem?_map,ej,h1',Option.map_some]at q
    exact Option.some.inj q
   have hcap:=B.cap y (List.mem_of_getElem? h1')
   have hmem:(y,NameKind.free)∈scope.names:=PySem.mem_of_lookup hcap
   have hkX:=B.free _ hmem rfl
   have vis:Vis X.env.scope y:=by
    rcases hkX with z|z
    ·exact .inr (.inl z)
    ·exact .inr (.inr z)
   obtain⟨m0,hn0,hl0⟩:=I.loc
   obtain⟨u,r,l⟩:=hl0 j y v hNj hσ vis
   refine⟨u,r,.inr ⟨lookup_relabel_free hcap,?_⟩⟩
   rcases l with⟨z,_⟩|⟨_,c,hc,hcell⟩
   ·rcases hkX with q|q <;> (rw[q]at z;cases z)
   ·obtain⟨c',hc'⟩:=lookup_mono_isSome (clOf_has (env:=X.env) (cs:=[]) hmem)
    have e:=snd hc'
    rw[hc]at e
    cases e
    exact⟨c,hc',hcell.keeps hk⟩
 ·obtain⟨v,z⟩:=I.cell y c (snd h)
  exact⟨v,z.keeps hk⟩
 ·rw[show(cxBlk X scope (vs++fs) C s H fp).env.locals=C from rfl,upd_ne nCD]
  exact hfC
 ·have q:=snd h
  have ne:c≠D:=by rw[hD];exact Nat.ne_of_lt (clt q)
  rw[upd_ne ne]
  exact I.freeC y c q
 ·have hlen:js.length=fs.length:=by have:=congrArg List.length B.ix;simpa using this
  show(vs.map _++js.map _).length =(vs++fs).length
  rw[List.length_append,List.length_append,List.length_map,List.length_map,hlen]
theorem Inv.goneC {H':Hp}{s':Shared}{C:Addr}{h'':Heap}(I2:Inv X pins σ H s) {σ':St}(I':Inv X pins σ' H' s') (hC:H' C=none) (hle:s.heap.objs.size≤C) (hs:Heap.SameBut C s'.heap h''):Inv X pins σ' H' { s' with heap:=h'' }:=by
 refine I'.turned (t':=s'.toks) (fun b o hb e=>(hs.2 b hb).trans e) hC (Nat.ne_of_gt (Nat.lt_of_lt_of_le I2.lt hle)) (.inr (Nat.le_trans I2.sz hle)) (fun y c e z=>?_) fun p hp z=>?_
 ·obtain⟨v,o,ho,_⟩:=I2.cell y c e
  have:=Heap.lt_size ho
  rw[z]at this
  exact absurd (Nat.lt_of_lt_of_le this hle) (Nat.lt_irrefl _)
 ·have:=Heap.lt_size (I2.pin p hp).1
  rw[z]at this
  exact absurd (Nat.lt_of_lt_of_le this hle) (Nat.lt_irrefl _)
theorem blk_run {tg iter elt:Expr}{ifs:List Expr}{pos:Pos}{g:TG}{tt:TT}{te:TE}(hc:X.calm=true) (B:BlkOk X scope vs fs js)
  (hg:∀C s H ex,PG (cxBlk X scope (vs++fs) C s H ex) tg g) (ht:∀C s H ex,PIfs (cxBlk X scope (vs++fs) C s H ex) ifs tt) (he:∀C s H ex,PE (cxBlk X scope (vs++fs) C s H ex) elt te)
  {it:Addr}{fp:List Addr}{tn:Nat→Heap→Prop}{J:It}{Q:VK}{E:Value→Shared→Prop}(I2:Inv X pins σ H s) (T:Turn X.prog X.w X.K tg J fp it tn) (st2:tn 0 s.heap) (f2:∀b∈fp,FpOk X pins H b)
  (hW:∀D,H D=none→CompW J vs js σ g tt te Q D H)
  {RR:Value→Addr→Result→Shared→Prop}
  (hR:∀D C H' s',Inv X pins σ H' s'→(∃m,s'.heap.Ns C m)→H' C=none→s.heap.objs.size≤C→Q (.ref D) H'→RR (.ref D) C (.ok .next) s') :
  wpAny (model X.prog X.w) X.A (newList []) (fun acc s₃=>wpAny (model X.prog X.w) X.A (newFunctionEnv scope X.env.globals (clOf X.env scope.names []) [] X.env.qual none .none (some X.env)) (fun cenv s₄ =>
   codeAny (model X.prog X.w) X.A (.compStart (.ListComp elt [⟨tg,iter,ifs,0⟩] scope pos) 0 (.ref it) acc { cenv with scope:=relabel scope X.env }) (RR acc cenv.locals) s₄) E s₃) E s:=by
 have hfp:∀b∈fp,b<s.heap.objs.size:=fun b hb=>by
  obtain⟨o,e,_⟩:=T.obj _ _ st2 b hb
  exact Heap.lt_size e
 refine wpAny_newObj_type (wpAny_newFunctionEnv B.cell (by intro y hy;simp at hy) (fun h₁ hns₁ hsb₁=>?_) B.kind)
 dsimp only at hns₁ hsb₁ ⊢
 generalize hH2:s.heap.push { cls:=.type "list",dict:=none,data:=.seq ([]:List Value).toArray } = HH at hns₁ hsb₁ ⊢
 have hC:HH.objs.size=s.heap.objs.size+1:=by rw[← hH2,Heap.size_push]
 have hlt:s.heap.objs.size<HH.objs.size:=by rw[hC];exact Nat.lt_succ_self _
 have old:∀b o,s.heap.get? b=some o→h₁.get? b=some o:=fun b o e=>hsb₁.extBut b o (Nat.ne_of_lt (Nat.lt_trans (Heap.lt_size e) hlt)) (Heap.get?_push_of_some _ (hH2 ▸ Heap.get?_push_of_some _ e))
 have hacc:h₁.get? s.heap.objs.size=some { cls:=.type "list",data:=.seq ([]:List Value).toArray }:=hsb₁.extBut _ _ (Nat.ne_of_lt hlt) (Heap.get?_push_of_some _ (hH2 ▸ Heap.get?_push_size _ rfl))
 have I0:Inv (cxBlk X scope (vs++fs) HH.objs.size s H fp) [] (blkSt vs js σ) (upd H s.heap.objs.size (.lst [])) { s with heap:=h₁,toks:=s.toks+([]:List (Str×Value)).length }:=blk_start I2 B f2 hfp hns₁ old rfl hlt hacc
 obtain⟨W,⟨m0,w0⟩,turn⟩:=hW s.heap.objs.size (I2.hok.fresh (Nat.le_refl _))
 have st1:tn 0 h₁:=T.keep _ _ _ st2 fun b hb o e=>old b o e
 have hch:∀b∈fp,(b∈X.ex∨X.s₀.heap.objs.size≤b)∧b≠X.env.locals∧(∀x c,X.env.cells.lookup x=some c→c≠b)∧∀p∈X.pn++pins,p.1≠b:=fun b hb=>by
  obtain⟨_,a2,_,a4,a5,a6⟩:=f2 b hb
  exact⟨a4,a2,a5,a6⟩
 have back:∀{pl:List (Addr×Obj)}{σ':St}{H':Hp}{s':Shared},Inv (cxBlk X scope (vs++fs) HH.objs.size s H fp) pl σ' H' s'→Inv X pins σ H' s':=fun {pl σ' H' s'} J'=>I2.call' (ch:=fp) J'.os J'.base J'.hok J'.bare hch
 have nD:∀b∈fp,b≠s.heap.objs.size:=fun b hb=>Nat.ne_of_lt (hfp b hb)
 have stat:∀{H':Hp},(∀b∈fp,H' b=none)→∀b∈fp,FpOk (cxBlk X scope (vs++fs) HH.objs.size s H fp) [] H' b:=fun {H'} hn b hb=>by
  have z:=I0.ok
  refine⟨hn b hb,(z.exf b hb).1,z.exfs b hb,.inl hb,(z.exf b hb).2,fun p hp=>absurd (show p∈([]:List (Addr×Obj)) from hp) (by simp)⟩
 have loop:∀s₃:Shared,s₃ = { s with heap:=h₁,toks:=s.toks+([]:List (Str×Value)).length } →
   codeAny (model X.prog X.w) X.A (.compLoop (.ListComp elt [⟨tg,iter,ifs,0⟩] scope pos) 0 (.ref it) (.ref s.heap.objs.size) (compEnvC scope (clOf X.env scope.names []) HH.objs.size X.env)) (RR (.ref s.heap.objs.size) HH.objs.size) s₃:=by
  rintro s₃ rfl
  refine codeAny_compLoop_gen (fun n s'=>∃i σ' ys H',Inv (cxBlk X scope (vs++fs) HH.objs.size s H fp) [] σ' H' s'∧tn i s'.heap∧(∀b∈fp,H' b=none)∧W i n σ' ys H') ?_ m0
   ⟨0,_,_,_,I0,st1,fun b hb=>by rw[upd_ne (nD b hb)];exact(f2 b hb).1,w0⟩
  rintro n s3 ⟨i,σ3,ys,H3,I3,st3,fr3,w3⟩
  rcases turn i n σ3 ys H3 w3 with⟨stop,q⟩|⟨go,N,hN,step⟩
  ·refine thn (T.done (cxBlk X scope (vs++fs) HH.objs.size s H fp) rfl rfl rfl hc i [] s3 σ3 H3 _ I3 (stat fr3) st3 stop) fun r s4 ⟨hr,I4⟩=>?_
   subst hr
   obtain⟨m,hm,_⟩:=I4.loc
   exact hR _ _ H3 s4 (back I4) ⟨m,hm⟩ I4.free (Nat.le_of_lt hlt) q
  ·refine thn (T.item (cxBlk X scope (vs++fs) HH.objs.size s H fp) rfl rfl rfl hc i [] s3 σ3 H3 _ I3 (stat fr3) st3 go) fun r s4 ⟨u,hr,h4⟩=>?_
   subst hr
   refine thn h4 fun _ s5 ⟨x,H5,I5,r5,y5,st5,fr5⟩=>?_
   have I5':=I5.pinned (stat fr5) (T.obj _ _ st5)
   have again:∀{σ7:St}{H7:Hp}{s7:Shared}{zs:List V},Inv (cxBlk X scope (vs++fs) HH.objs.size s H fp) ([]++pinsAt fp s5.heap) σ7 H7 s7→N σ7 zs H7→∃m,m<n∧∃i σ' ys H',Inv (cxBlk X scope (vs++fs) HH.objs.size s H fp) [] σ' H' s7∧tn i s7.heap∧(∀b∈fp,H' b=none)∧W i m σ' ys H':=fun {σ7 H7 s7 zs} I7 n7=>by
    obtain⟨m',hm,w7⟩:=hN σ7 zs H7 n7
    refine⟨m',hm,i+1,σ7,zs,H7,I7.unpinned,T.keep _ _ _ st5 fun b hb o e=>(I7.pin (b,o) (List.mem_append_right _ (List.mem_append_right _ (mem_pinsAt hb e)))).1,fun b hb=>?_,w7⟩
    obtain⟨o,e,d⟩:=T.obj _ _ st5 b hb
    exact(I7.pin (b,o) (List.mem_append_right _ (List.mem_append_right _ (mem_pinsAt hb e)))).2.1
   refine thn (hg _ _ _ _ _ s5 σ3 H5 x u _ I5' r5 (step x H5 y5)) fun _ s6 ⟨σ6,H6,I6,q6⟩=>?_
   refine thn (ht _ _ _ _ _ s6 σ6 H6 _ I6 q6) fun ok s7 ⟨H7,I7,q7⟩=>?_
   cases ok with
   | false =>
    rw[if_neg Bool.false_ne_true]at q7 ⊢
    exact again I7 q7
   | true =>
    rw[if_pos rfl]at q7 ⊢
    refine thn (he _ _ _ _ _ s7 σ6 H7 _ I7 q7) fun y s8 ⟨yv,H8,I8,r8,hD8,hz,n8⟩=>?_
    refine thn (mt_append _ s8 σ6 H8 (.ref s.heap.objs.size) [yv] (.ref s.heap.objs.size) [y] (fun _ H9=>N σ6 (ys ++ [yv]) H9) I8 rfl (.cons r8 .nil) ⟨_,ys,yv,rfl,rfl,hD8,hz,n8⟩) fun _ s9 ⟨_,H9,I9,_,n9⟩=>?_
    exact again I9 n9
 exact codeAny_compStart_list (loop _ rfl) (T.self X.A 0 _ _ _ st1 (loop _ rfl))
theorem pe_comp {tg iter elt:Expr}{ifs:List Expr}{pos:Pos}{wi:TI}{g:TG}{tt:TT}{te:TE}(hc:X.calm=true) (B:BlkOk X scope vs fs js) (hi:PI X tg iter wi)
  (hg:∀C s H ex,PG (cxBlk X scope (vs++fs) C s H ex) tg g) (ht:∀C s H ex,PIfs (cxBlk X scope (vs++fs) C s H ex) ifs tt) (he:∀C s H ex,PE (cxBlk X scope (vs++fs) C s H ex) elt te)
  (hs:∀x,foldedSetIterable iter X.env x=pure x:=by intro _;rfl):PE X (.ListComp elt [⟨tg,iter,ifs,0⟩] scope pos) (tComp vs js wi g tt te):=by
 intro pins s σ H Q I h
 rw[eval_ListComp]
 refine wpAny_comprehension_free (use:=none) rfl hs (closure_eq fun y hy hf=>I.ok.has y.1 (B.free y hy hf)) B.kind B.names (thn (hi pins s σ H _ I h) fun v s1 h1=>thn h1 fun itv s2 h2=>?_)
 obtain⟨it,fp,tn,J,H2,e,I2,T,st2,f2,hW⟩:=h2
 subst e
 refine blk_run (RR:=fun acc C=>compPost (model X.prog X.w) X.A X.xe none (EP X pins σ Q) acc C) hc B hg ht he I2 T st2 f2 hW ?_
 intro D C H' s' I' hn hC hle q
 obtain⟨m,hn⟩:=hn
 exact⟨m,hn,fun h'' hs''=>⟨.ref D,H',I2.goneC I' hC hle hs'',rfl,q⟩⟩
theorem ps_setc {i:Nat}{y:Str}{py spos:Pos}{tg iter elt:Expr}{ifs:List Expr}{pos:Pos}{wi:TI}{g:TG}{tt:TT}{te:TE}(hN:X.N.Nodup) (hi':X.N[i]? = some y) (hy:X.env.scope.names.lookup y=some .local) (hc:X.calm=true) (B:BlkOk X scope vs fs js) (hi:PI X tg iter wi)
  (hg:∀C s H ex,PG (cxBlk X scope (vs++fs) C s H ex) tg g) (ht:∀C s H ex,PIfs (cxBlk X scope (vs++fs) C s H ex) ifs tt) (he:∀C s H ex,PE (cxBlk X scope (vs++fs) C s H ex) elt te)
  (hsw:swapsWith (.ListComp elt [⟨tg,iter,ifs,0⟩] scope pos) (some (.Name y py)) spos.line X.env=pure true:=by rfl)
  (hs:∀x,foldedSetIterable iter X.env x=pure x:=by intro _;rfl):PS X (.Assign [.Name y py] (.ListComp elt [⟨tg,iter,ifs,0⟩] scope pos) spos) (tAsg (tComp vs js wi g tt te) (gName i)):=by
 intro pins s σ H D I h
 rw[exec_Assign_Name_used _ _ _ _ hsw]
 refine wpAny_bind (wpAny_standAt (wpAny_bind ?_))
 show wpAny _ X.A (do let _ ← comprehension (.ListComp elt [⟨tg,iter,ifs,0⟩] scope pos) scope X.env _ (newList []) false (eval iter X.env) (some (assign (.Name y py) X.env))) _ _ s
 refine wpAny_bind (wpAny_mono (wpAny_comprehension_free (use:=some (assign (.Name y py) X.env)) (Q:=fun _ s'=>SP X pins D .next s') rfl hs (closure_eq fun y hy hf=>I.ok.has y.1 (B.free y hy hf)) B.kind B.names
  (thn (hi pins s σ H _ I h) fun v s1 h1=>thn h1 fun itv s2 h2=>?_)) (fun _ s' hq=>wpAny_pure (wpAny_pure hq)) fun _ _ e=>e)
 obtain⟨it,fp,tn,J,H2,e,I2,T,st2,f2,hW⟩:=h2
 subst e
 refine blk_run (Q:=fun x H1=>gName i x σ H1 D.nx) (RR:=fun acc C=>compPost (model X.prog X.w) X.A X.xe (some (assign (.Name y py) X.env)) (fun _ s'=>SP X pins D .next s') acc C) hc B hg ht he I2 T st2 f2 hW ?_
 intro D' C H' s' I' hn hC hle q
 obtain⟨m,hn⟩:=hn
 show wpAny _ X.A (assign (.Name y py) X.env (.ref D')) _ _ _
 refine wpAny_assign_Name (store_ok2 I' hN hi' (.inl hy) (v:=.ref D') rfl (fun s'' I'' hsb=>?_) (.inr hy))
 obtain⟨a,hsb,ha⟩:=hsb
 have nCa:C≠a:=by
  rcases ha with z|z
  ·rw[z];exact Nat.ne_of_gt (Nat.lt_of_lt_of_le I2.lt hle)
  ·obtain⟨v,o,ho,_⟩:=I2.cell y a z
   exact Nat.ne_of_gt (Nat.lt_of_lt_of_le (Heap.lt_size ho) hle)
 exact⟨m,hn.sameBut hsb nCa,fun h'' hs''=>⟨_,H',I2.goneC I'' hC hle hs'',q⟩⟩
end
section
variable {vs:List Str}{js:List Nat}{σ:St}{g:TG}{tt:TT}{te:TE}{Q:VK}
theorem comp_range {lo:Int}{n:Nat}{H:Hp}(Pv:Nat→St→List V→Hp→Prop) (D:Addr) (h0:Pv 0 (blkSt vs js σ) [] (upd H D (.lst [])))
  (hs:∀i σ' ys H',i<n→Pv i σ' ys H'→g (.int (lo+i)) σ' H' fun σ3 H3=>tt σ3 H3 fun b H4=>if b=true then te σ3 H4 fun y H5=>H5 D=some (.lst ys)∧ys.length<sizeLine∧Pv (i+1) σ3 (ys ++ [y]) (upd H5 D (.lst (ys ++ [y]))) else Pv (i+1) σ3 ys H4)
  (hd:∀σ' ys H',Pv n σ' ys H'→Q (.ref D) H') :
  CompW (Itr lo n) vs js σ g tt te Q D H:=by
 refine⟨fun i m σ' ys H'=>m=n-i∧i≤n∧Pv i σ' ys H',⟨n,by simp,Nat.zero_le _,h0⟩,?_⟩
 rintro i m σ' ys H' ⟨rfl,hi,p⟩
 by_cases hlt:i<n
 ·refine .inr ⟨hlt,Pv (i+1),fun σ2 zs H2 p'=>⟨n-(i+1),by omega,rfl,hlt,p'⟩,fun x H2 y=>?_⟩
  obtain⟨e,y⟩:=y
  subst e y
  exact hs i σ' ys _ hlt p
 ·have e:i=n:=by omega
  subst e
  exact .inl ⟨Nat.le_refl _,hd σ' ys H' p⟩
theorem comp_list {K:PySem.W.Frag}{a:Addr}{xs:List V}{H:Hp}(Pv:Nat→St→List V→Hp→Prop) (D:Addr) (h0:Pv 0 (blkSt vs js σ) [] (upd H D (.lst []))) (hl:∀i σ' ys H',i≤xs.length→Pv i σ' ys H'→SqL K H' a xs)
  (hs:∀i x σ' ys H',xs[i]? = some x→Pv i σ' ys H'→g x σ' H' fun σ3 H3=>tt σ3 H3 fun b H4=>if b=true then te σ3 H4 fun y H5=>H5 D=some (.lst ys)∧ys.length<sizeLine∧Pv (i+1) σ3 (ys ++ [y]) (upd H5 D (.lst (ys ++ [y]))) else Pv (i+1) σ3 ys H4)
  (hd:∀σ' ys H',Pv xs.length σ' ys H'→Q (.ref D) H') :
  CompW (Itl K a) vs js σ g tt te Q D H:=by
 refine⟨fun i m σ' ys H'=>m=xs.length-i∧i≤xs.length∧Pv i σ' ys H',⟨xs.length,by simp,Nat.zero_le _,h0⟩,?_⟩
 rintro i m σ' ys H' ⟨rfl,hi,p⟩
 have q:=hl i σ' ys H' hi p
 by_cases hlt:i<xs.length
 ·refine .inr ⟨⟨xs,xs[i],q,by simp[hlt]⟩,Pv (i+1),fun σ2 zs H2 p'=>⟨xs.length-(i+1),by omega,rfl,hlt,p'⟩,fun x H2 y=>?_⟩
  obtain⟨e,y⟩:=y
  subst e
  exact hs i x σ' ys _ (y xs q) p
 ·have e:i=xs.length:=by omega
  subst e
  exact .inl ⟨⟨xs,q,Nat.le_refl _⟩,hd σ' ys H' p⟩
end
theorem bt_len:bootBuiltins "len" = some (.builtin "len"):=by decide +kernel
theorem bt_abs:bootBuiltins "abs" = some (.builtin "abs"):=by decide +kernel
theorem bt_max:bootBuiltins "max" = some (.builtin "max"):=by decide +kernel
theorem bt_min:bootBuiltins "min" = some (.builtin "min"):=by decide +kernel
theorem bt_isinstance:bootBuiltins "isinstance" = some (.builtin "isinstance"):=by decide +kernel
theorem bt_sorted:bootBuiltins "sorted" = some (.builtin "sorted"):=by decide +kernel
theorem bt_int:bootBuiltins "int" = some (.type "int"):=by decide +kernel
theorem bt_bool:bootBuiltins "bool" = some (.type "bool"):=by decide +kernel
theorem bt_list:bootBuiltins "list" = some (.type "list"):=by decide +kernel
theorem bt_tuple:bootBuiltins "tuple" = some (.type "tuple"):=by decide +kernel
theorem bt_range:bootBuiltins "range" = some (.type "range"):=by decide +kernel
theorem bt_enumerate:bootBuiltins "enumerate" = some (.type "enumerate"):=by decide +kernel
structure Cal (P:Program) (w:World) (K:PySem.W.Frag) (mg:Str→Option Value) (base:Heap) (x:Str) (ps:List Str) (k:Nat) (sp:Sp):Prop where
 ex:∃(f:Addr) (fd:FuncData),FnOk P w K mg base CX0 k f fd ps sp∧Binds K fd ps []∧mg x=some (.ref f)∧PySem.W.keepIn K (.ref f)=true
section
variable {X:Cx}{x:Str}{ps:List Str}{k:Nat}{sp:Sp}{e:Expr}{es:List Expr}{t:TA}{p pos:Pos}
theorem pcl (C:Cal X.prog X.w X.K X.mg X.base x ps k sp) (hr:Room k X.A) (ha:PA X (e::es) t) (hg:Gl X x:=by rfl) (hdb:(x ==("__debug__" : Str))=false:=by decide) (he:starEach (e::es) X.env =(false,eval e X.env)::starEach es X.env:=by rfl) (hpl:(backTo pos (starEach es X.env)).any (·.1)=false:=by rfl) :
  PE X (.Call (.Name x p) (e::es) [] pos) (tCall sp [] E0 t):=by
 obtain⟨f,fd,F,hb,hm,hk⟩:=C.ex
 exact pe_call F hr hg hm hk hb .nil pass0 ha hdb he hpl
end
theorem Cal.of {P:Program}{w:World}{K:PySem.W.Frag}{mg:Str→Option Value}{base:Heap}{x:Str}{st:Stmt}{f:Addr}{fd:FuncData}{N ps:List Str}{k:Nat}{sp:Sp}(F:Fun K x x st f fd) (mF:mg x=some (.ref f)) (bF:Binds K fd ps []) (S:FnScope N ps (defScope st)) (len:∀vs H Q E,sp vs H Q E→vs.length=ps.length)
  (hbody:∀(cdv:Value) (A:Around) (outer:List Env) (s:Shared) (H:Hp) (vs:List V) (Q:VK) (E:XK),Room k (A.deeper (envOfC x (defScope st) s.heap.objs.size f cdv))→sp vs H Q E →
   ∃t,PSs (cxOf CX0 P w K mg base N x (defScope st) f cdv A outer s H E).nox (defBody st) t∧t { nx:=fun _ H'=>Q .non H',rt:=Q } (start N vs) H):Cal P w K mg base x ps (k+1) sp :=
 ⟨f,fd,F.ok S len hbody,bF,mF,F.kp⟩
def blkB (sc scope:Scope) (N vs fs:List Str) (js:List Nat):Bool :=
 (scope.kind == .function) && scope.names.all (fun y=>y.2 != .cell) && scope.names.all (fun y=>y.2 != .local || scope.names.lookup y.1 == some .local) &&
 scope.names.all (fun y=>y.2 != .free || sc.names.lookup y.1 == some .cell || sc.names.lookup y.1 == some .free) && vs.all (fun y=>scope.names.lookup y == some .local) && fs.all (fun y=>scope.names.lookup y == some .free) &&
 (js.map (fun j=>N[j]?) == fs.map some)
theorem blkOk {X:Cx}{sc scope:Scope}{N vs fs:List Str}{js:List Nat}(h:blkB sc scope N vs fs js=true) (hs:X.env.scope=sc) (hN:X.N=N):BlkOk X scope vs fs js:=by
 unfold blkB at h
 simp only[Bool.and_eq_true,List.all_eq_true,beq_iff_eq,bne_iff_ne,Bool.or_eq_true]at h
 obtain⟨⟨⟨⟨⟨⟨h1,h2⟩,h3⟩,h4⟩,h5⟩,h6⟩,h7⟩:=h
 refine⟨h1,h2,fun y hy hl=>?_,fun y hy hf=>?_,h5,h6,?_⟩
 ·rcases h3 y hy with z|z
  ·exact absurd hl z
  ·exact z
 ·unfold Env.kindOf
  rw[hs]
  rcases h4 y hy with(z|z)|z
  ·exact absurd hf z
  ·exact .inl z
  ·exact .inr z
 ·rw[hN];exact h7
def tCut (t:TS):TS:=fun D σ H=>∃R:St→Hp→Prop,t { D with nx:=R } σ H∧∀σ' H',R σ' H'→D.nx σ' H'
theorem ps_cut {X:Cx}{st:Stmt}{t:TS}(h:PS X st t):PS X st (tCut t):=by
 intro pins s σ H D I hw
 obtain⟨R,h1,h2⟩:=hw
 refine thn (h pins s σ H _ I h1) fun f s' q=>?_
 cases f with
 | next =>
  obtain⟨σ',H',I',q⟩:=q
  exact⟨σ',H',I',h2 _ _ q⟩
 | brk=>exact q
 | cont=>exact q
 | ret u=>exact q
section
variable {X:Cx}
def CDivB (i j:Int):Prop:=0<j∧j<2^100
theorem op_fdivB:OpR X (binaryOp .FloorDiv) (rI CDivB fun i j=>.int (i / j)):=opI fun i j _ _ _ _ _ hc q=>by
 have h1:(0:Int)<j:=hc.1
 have h2:j<2^100:=hc.2
 refine floordiv_int (by omega) (by rw[Int.fdiv_eq_ediv_of_nonneg i (by omega)];exact q) (.inl (PyProof.noPylong_of_log2 ?_))
 have h0:j.natAbs≠0:=by omega
 have h3:j.natAbs.log2<100:=(Nat.log2_lt h0).mpr (by omega)
 omega
theorem pe_powC {a b c:Int}{j1 j2:Nat}{p1 p2 pos:Pos}(h:a^b.toNat=c) (h1:CPow a b):PE X (.BinOp (.Constant (.int a) j1 p1) .Pow (.Constant (.int b) j2 p2) pos) (tC (.int c)):=by
 intro pins s σ H Q I q
 subst h
 exact pe_op op_pow pe_int pe_int pins s σ H Q I ⟨a,b,rfl,rfl,h1,q⟩
theorem get_list:PGet X (rIxL X.K):=by
 intro pins s σ H x y v u Q I rx ry h
 obtain⟨p,xs,i,z,rfl,rfl,hq,he,q⟩:=h
 cases rx
 obtain⟨t,rfl⟩:=ry
 obtain⟨its,r,pl,hz⟩:=I.list hq
 obtain⟨j,h1,h2,h3,h4,h5⟩:=atI_get he
 obtain⟨w,ew,rw'⟩:=r.get h2
 have hl:=r.length
 have hn:=line63
 have fin:EP X pins σ Q w s:=⟨z,H,I,rw',q⟩
 by_cases h0:0≤i
 ·have hj:i.toNat=j:=by
   rw[seqIndex_of h0 h5]at h1
   exact Option.some.inj h1
  exact wpAny_getItem_list pl.isList h0 (by omega) (by rw[hj];simpa using ew) fin
 ·have hj:(i+(its.toArray.size:Int)).toNat=j:=by
   rw[seqIndex_neg (by omega) h4]at h1
   rw[List.size_toArray,← hl]
   exact Option.some.inj h1
  exact wpAny_getItem_list_neg pl.isList (by omega) (by rw[List.size_toArray] <;> omega) (by omega) (by rw[hj];simpa using ew) fin
def rBitLen:V→List V→Hp→VK→Prop:=fun x vs H Q=>∃i,x = .int i∧vs=[]∧Q (.int (Builtin.Int.intBits i:Nat)) H
theorem mt_bitlen:MtR X "int.bit_length" rBitLen:=by
 intro pins s σ H x xs v us Q I rx rs h
 obtain⟨i,rfl,rfl,q⟩:=h
 obtain⟨t,rfl⟩:=rx
 cases rs
 exact call_int_bit_length ⟨.int _,H,I.tok _,⟨_,rfl⟩,q⟩
def rLenL (K:PySem.W.Frag):List V→Hp→VK→Prop:=fun xs H Q=>∃p ys,xs=[.ref p]∧(SqL K H p ys∨SqT K H p ys)∧Q (.int ys.length) H
theorem call_lenL:CallR X (.builtin "len") (rLenL X.K):=call_len_seq
def rAbs1:List V→Hp→VK→Prop:=fun xs H Q=>∃i,xs=[.int i]∧Q (.int (if i<0 then -i else i)) H
theorem call_abs1:CallR X (.builtin "abs") rAbs1:=call_abs
def rMaxI:List V→Hp→VK→Prop:=fun xs H Q=>∃i j,xs=[.int i,.int j]∧Q (.int (if j > i then j else i)) H
theorem call_maxI (hc:X.calm=true):CallR X (.builtin "max") rMaxI:=call_max2 hc
def rMinI:List V→Hp→VK→Prop:=fun xs H Q=>∃i j,xs=[.int i,.int j]∧Q (.int (if j<i then j else i)) H
theorem call_minI (hc:X.calm=true):CallR X (.builtin "min") rMinI:=call_min2 hc
def rIsi (K:PySem.W.Frag):List V→Hp→VK→Prop:=fun xs H Q=>∃x t T b,xs=[x,.ty T]∧TyOf K H x t∧PySem.W.kitOne K t (.type T)=some b∧Q (.bl b) H
theorem call_isinst:CallR X (.builtin "isinstance") (rIsi X.K):=by
 intro pins s σ H xs us Q I r h
 obtain⟨x,t,T,b,rfl,ty,e,q⟩:=h
 obtain⟨u,w',rfl,r1,r2⟩:=vals2 r
 cases (show w'=Value.type T from r2)
 exact isinst_ok I r1 ty e fun tk=>⟨.bl b,H,I.tok _,rfl,q⟩
end
section
variable {σ:St}{H:Hp}{Q:VK}{D:Ends}
theorem rd_var {i:Nat}{v:V}(h:σ[i]? = some (some v)) (q:Q v H):tVar i σ H Q:=⟨v,h,q⟩
theorem rd_c {v:V}(q:Q v H):tC v σ H Q:=q
theorem rd_op {r:R2}{ta tb:TE}(h:ta σ H fun x H1=>tb σ H1 fun y H2=>r x y H2 Q):tOp r ta tb σ H Q:=h
theorem rd_un {r:V→Hp→VK→Prop}{ta:TE}(h:ta σ H fun x H1=>r x H1 Q):tUn r ta σ H Q:=h
theorem rd_I0 {g:Int→Int→V}{i j:Int}(q:Q (g i j) H):rI0 g (.int i) (.int j) H Q:=⟨i,j,rfl,rfl,q⟩
theorem rd_I {C:Int→Int→Prop}{g:Int→Int→V}{i j:Int}(c:C i j) (q:Q (g i j) H):rI C g (.int i) (.int j) H Q:=⟨i,j,rfl,rfl,c,q⟩
theorem rd_U {g:Int→V}{i:Int}(q:Q (g i) H):rU g (.int i) H Q:=⟨i,rfl,q⟩
theorem dec_int' {i j:Int}:decide (V.int i=V.int j)=decide (i=j):=by
 rw[Bool.eq_iff_iff];simp
theorem rd_eqI {i j:Int}(q:Q (.bl (decide (i=j))) H):rEq (.int i) (.int j) H Q:=⟨rfl,by rw[dec_int'];exact q⟩
theorem rd_neI {i j:Int}(q:Q (.bl (!decide (i=j))) H):rNe (.int i) (.int j) H Q:=⟨rfl,by rw[dec_int'];exact q⟩
theorem rd_bl {c:Bool}{P:Bool→Prop}(h:P c):∃k,V.bl c=V.bl k∧P k:=⟨c,rfl,h⟩
theorem rd_test {t:TE}{R:Bool→Hp→Prop}(h:t σ H fun x H'=>∃k,x = .bl k∧R k H'):tTest t σ H R:=h
theorem rd_tB {t:TE}{R:Bool→Hp→Prop}(h:t σ H fun x H'=>∃k,x = .bl k∧R k H'):tB t σ H R:=h
theorem rd_and {t u:TT}{R:Bool→Hp→Prop}(h:t σ H fun c H1=>if c=true then u σ H1 R else R false H1):tAnd t u σ H R:=h
theorem rd_or {t u:TT}{R:Bool→Hp→Prop}(h:t σ H fun c H1=>if c=true then R true H1 else u σ H1 R):tOr t u σ H R:=h
theorem rd_not {t:TT}{R:Bool→Hp→Prop}(h:t σ H fun c H1=>R (!c) H1):tNot t σ H R:=h
theorem rd_andV {ta tb:TE}(h:ta σ H fun x H1=>∃c,x = .bl c∧if c=true then tb σ H1 Q else Q (.bl false) H1):tAndV ta tb σ H Q:=h
theorem rd_notV {ta:TE}(h:ta σ H fun x H1=>∃c,x = .bl c∧Q (.bl (!c)) H1):tNotV ta σ H Q:=h
theorem rd_chain {r r':R2}{ta tb tc:TE}(h:ta σ H fun x H1=>tb σ H1 fun y H2=>r x y H2 fun z H3=>∃k,z = .bl k∧(if k=true then tc σ H3 fun w' H4=>r' y w' H4 Q else Q (.bl false) H3)):tChain r r' ta tb tc σ H Q:=h
theorem rd_ifE {t:TT}{ta tb:TE}(h:t σ H fun c H1=>if c=true then ta σ H1 Q else tb σ H1 Q):tIf t ta tb σ H Q:=h
theorem rd_nil {R:List V→Hp→Prop}(h:R [] H):tNil σ H R:=h
theorem rd_cons {ta:TE}{tr:TA}{R:List V→Hp→Prop}(h:ta σ H fun x H1=>tr σ H1 fun xs H2=>R (x::xs) H2):tCons ta tr σ H R:=h
theorem rd_call {sp:Sp}{dvs:List V}{E:XK}{t:TA}(h:t σ H fun vs H1=>sp (vs++dvs) H1 Q E):tCall sp dvs E t σ H Q:=h
theorem rd_cb {r:List V→Hp→VK→Prop}{t:TA}(h:t σ H fun vs H1=>r vs H1 Q):tCB r t σ H Q:=h
theorem rd_lst {t:TA}(h:t σ H fun xs H1=>xs.length≤sizeLine∧∀p,H1 p=none→Q (.ref p) (upd H1 p (.lst xs))):tLst t σ H Q:=h
theorem rd_tup {t:TA}(h:t σ H fun xs H1=>xs.length≤sizeLine∧∀p,H1 p=none→Q (.ref p) (upd H1 p (.tup xs))):tTup t σ H Q:=h
theorem rd_asg {te:TE}{g:TG}(h:te σ H fun x H1=>g x σ H1 D.nx):tAsg te g D σ H:=h
theorem rd_gname {i:Nat}{v:V}{R:St→Hp→Prop}(h:R (σ.set i (some v)) H):gName i v σ H R:=h
theorem rd_ret {te:TE}(h:te σ H D.rt):tRet te D σ H:=h
theorem rd_next (h:D.nx σ H):tNext D σ H:=h
theorem rd_drop {te:TE}(h:te σ H fun _ H1=>D.nx σ H1):tDrop te D σ H:=h
theorem rd_ixL {K:PySem.W.Frag}{p:Addr}{xs:List V}{i:Int}{v:V}(h:SqL K H p xs) (e:atI xs i=some v) (q:Q v H):rIxL K (.ref p) (.int i) H Q:=⟨p,xs,i,v,rfl,rfl,h,e,q⟩
theorem rd_bm0 {K:PySem.W.Frag}{T:String}{r:V→List V→Hp→VK→Prop}{to:TE}(h:to σ H fun x H1=>tyV K T x H1∧r x [] H1 Q):tBM0 K T r to σ H Q:=h
theorem rd_bm {K:PySem.W.Frag}{T:String}{r:V→List V→Hp→VK→Prop}{to:TE}{t:TA}(h:to σ H fun x H1=>tyV K T x H1∧t σ H1 fun xs H2=>r x xs H2 Q):tBM K T r to t σ H Q:=h
theorem rd_augS {to ti te:TE}{tget:V→V→Hp→VK→Prop}{tip:TIp}{tset:TSet}(h:to σ H fun o H1=>ti σ H1 fun i H2=>tget o i H2 fun x H3=>te σ H3 fun y H4=>tip x y H4 fun z H5=>tset o i z H5 fun H6=>D.nx σ H6):tAugS to ti te tget tip tset D σ H:=h
theorem rd_ip {f:Int→Int→Int}{i j:Int}(q:Q (.int (f i j)) H):ipI f (.int i) (.int j) H Q:=⟨i,j,rfl,rfl,q⟩
theorem rd_setL {p:Addr}{xs:List V}{i:Int}{j:Nat}{v:V}{R:Hp→Prop}(h:H p=some (.lst xs)) (e:ixN xs.length i=some j) (q:R (upd H p (.lst (xs.set j v)))):rSetL (.ref p) (.int i) v H R:=⟨p,xs,i,j,rfl,rfl,h,e,q⟩
theorem rd_set0 {p:Addr}{a:V}{r:List V}{v:V}{R:Hp→Prop}(h:H p=some (.lst (a::r))) (q:R (upd H p (.lst (v::r)))):rSetL (.ref p) (.int 0) v H R :=
 ⟨p,_,0,0,rfl,rfl,h,by unfold ixN;rw[if_pos (by decide),if_pos (by rw[List.length_cons];omega)];rfl,q⟩
theorem rd_set1 {p:Addr}{a b:V}{r:List V}{v:V}{R:Hp→Prop}(h:H p=some (.lst (a::b::r))) (q:R (upd H p (.lst (a::v::r)))):rSetL (.ref p) (.int 1) v H R :=
 ⟨p,_,1,1,rfl,rfl,h,by unfold ixN;rw[if_pos (by decide),if_pos (by rw[List.length_cons,List.length_cons];omega)];rfl,q⟩
theorem rd_gsub {to ti:TE}{t:TSet}{v:V}{R:St→Hp→Prop}(h:to σ H fun o H1=>ti σ H1 fun i H2=>t o i v H2 fun H3=>R σ H3):gSub to ti t v σ H R:=h
theorem rd_sl {r:V→Option Int→Option Int→Hp→VK→Prop}{te:TE}{tl th:TO}(h:te σ H fun x H1=>tl σ H1 fun l H2=>th σ H2 fun u H3=>r x l u H3 Q):tSl r te tl th σ H Q:=h
theorem rd_nop {R:Option Int→Hp→Prop}(h:R none H):tNoPart σ H R:=h
theorem rd_part {t:TE}{R:Option Int→Hp→Prop}(h:t σ H fun x H1=>∃i,x = .int i∧R (some i) H1):tPart t σ H R:=h
theorem rd_int {i:Int}{P:Int→Prop}(h:P i):∃k,V.int i=V.int k∧P k:=⟨i,rfl,h⟩
theorem rd_slL {K:PySem.W.Frag}{a:Addr}{xs:List V}{lo hi:Option Int}(h:SqL K H a xs) (q:∀p,H p=none→Q (.ref p) (upd H p (.lst (cutV xs lo hi)))):rSlL K (.ref a) lo hi H Q:=⟨a,xs,rfl,h,q⟩
theorem rd_lenL {K:PySem.W.Frag}{a:Addr}{ys:List V}(h:SqL K H a ys) (q:Q (.int ys.length) H):rLenL K [.ref a] H Q:=⟨a,ys,rfl,.inl h,q⟩
theorem rd_abs {i:Int}(q:Q (.int (if i<0 then -i else i)) H):rAbs1 [.int i] H Q:=⟨i,rfl,q⟩
theorem rd_max {i j:Int}(q:Q (.int (max i j)) H):rMaxI [.int i,.int j] H Q:=⟨i,j,rfl,by
 have e:(if j > i then j else i)=max i j:=by omega
 rw[e];exact q⟩
theorem rd_min {i j:Int}(q:Q (.int (min i j)) H):rMinI [.int i,.int j] H Q:=⟨i,j,rfl,by
 have e:(if j<i then j else i)=min i j:=by omega
 rw[e];exact q⟩
theorem rd_isi {K:PySem.W.Frag}{x:V}{t:Value}{T:String}{b:Bool}(h:TyOf K H x t) (e:PySem.W.kitOne K t (.type T)=some b) (q:Q (.bl b) H):rIsi K [x,.ty T] H Q:=⟨x,t,T,b,rfl,h,e,q⟩
theorem rd_bitlen {i:Int}(q:Q (.int (Builtin.Int.intBits i:Nat)) H):rBitLen (.int i) [] H Q:=⟨i,rfl,rfl,q⟩
theorem rd_if {c:Prop} [Decidable c] {A B:Prop}(h1:c→A) (h2:¬ c→B):if decide c=true then A else B:=by
 by_cases h:c
 ·rw[decide_eq_true h,if_pos rfl];exact h1 h
 ·rw[decide_eq_false h,if_neg Bool.false_ne_true];exact h2 h
theorem rd_ifn {c:Prop} [Decidable c] {A B:Prop}(h1:¬ c→A) (h2:c→B):if (!decide c)=true then A else B:=by
 by_cases h:c
 ·rw[decide_eq_true h];exact(if_neg (by decide)).mpr (h2 h)
 ·rw[decide_eq_false h];exact(if_pos rfl).mpr (h1 h)
theorem rd_rng1 {ta:TA}{R:It→Hp→Prop}(h:ta σ H fun vs H1=>∃j:Int,vs=[.int j]∧-(2^62)≤j∧j<2^62∧R (Itr 0 j.toNat) H1):iRng1 ta σ H R:=h
theorem rd_ilist {K:PySem.W.Frag}{tl:TE}{R:It→Hp→Prop}(h:tl σ H fun x H1=>∃a,x = .ref a∧(∃xs,SqL K H1 a xs)∧R (Itl K a) H1):iList K tl σ H R:=h
theorem rd_comp {vs:List Str}{js:List Nat}{wi:TI}{g:TG}{tt:TT}{te:TE}(h:wi σ H fun J H1=>∀D,H1 D=none→CompW J vs js σ g tt te Q D H1):tComp vs js wi g tt te σ H Q:=h
theorem rd_yes {R:Bool→Hp→Prop}(h:R true H):tYes σ H R:=h
theorem rd_iteT {A B:Prop}(h:A):if true=true then A else B:=iteT h
theorem rd_iteF {A B:Prop}(h:B):if false=true then A else B:=iteF h
theorem rd_iteNF {A B:Prop}(h:A):if (!false)=true then A else B:=iteT h
theorem rd_iteNT {A B:Prop}(h:B):if (!true)=true then A else B:=iteF h
theorem cut_lo {ms:List Int}{k:Nat}:cutV (ms.map V.int) (some (k:Int)) none =(ms.drop k).map V.int:=by
 unfold cutV
 rw[HT.sIx_nat,HT.sIx_none,List.length_map,← List.map_drop]
 by_cases h:k≤ms.length
 ·rw[Nat.min_eq_left h,List.take_of_length_le (by rw[List.length_map,List.length_drop];omega)]
 ·rw[List.drop_eq_nil_of_le (by omega:ms.length≤min k ms.length),List.drop_eq_nil_of_le (by omega:ms.length≤k)]
  simp
theorem cut_hi {ms:List Int}{k:Nat}:cutV (ms.map V.int) none (some (k:Int)) =(ms.take k).map V.int:=by
 unfold cutV
 rw[HT.sIx_nat,HT.sIx_none,List.length_map,List.drop_zero,Nat.sub_zero,← List.map_take]
 by_cases h:k≤ms.length
 ·rw[Nat.min_eq_left h]
 ·rw[Nat.min_eq_right (by omega),List.take_of_length_le (Nat.le_refl _),List.take_of_length_le (by omega)]
theorem same_new {H:Hp}{p:Addr}(h:H p=none) (o:HO):Same H (upd H p o):=fun b u q=>by rw[upd_ne (ne_of_none q h)];exact q
end
mutual
inductive DV (K:PySem.W.Frag) (H:Hp):V→PyData→Prop
 | non:DV K H .non .none
 | bl (b:Bool):DV K H (.bl b) (.bool b)
 | int (i:Int):DV K H (.int i) (.int i)
 | str (x:Str):DV K H (.str x) (.str x)
 | lst {a:Addr}{xs:List V}{ds:List PyData}:SqL K H a xs→DVs K H xs ds→DV K H (.ref a) (.list ds)
 | tup {a:Addr}{xs:List V}{ds:List PyData}:SqT K H a xs→DVs K H xs ds→DV K H (.ref a) (.tuple ds)
inductive DVs (K:PySem.W.Frag) (H:Hp):List V→List PyData→Prop
 | nil:DVs K H [] []
 | cons {x:V}{d:PyData}{xs:List V}{ds:List PyData}:DV K H x d→DVs K H xs ds→DVs K H (x::xs) (d::ds)
end
section
variable {X:Cx}{pins:List (Addr×Obj)}{σ:St}{H:Hp}{s:Shared}
mutual
theorem DV.reads (I:Inv X pins σ H s):∀{x:V}{d:PyData}{v:Value},DV X.K H x d→RelV x v→∃as,Reads s.heap v d as
 | _,_,_,.non,r=>by cases r;exact⟨_,.none⟩
 | _,_,_,.bl b,r=>by cases r;exact⟨_,.bool b⟩
 | _,_,_,.int i,r=>by obtain⟨t,rfl⟩:=r;exact⟨_,.int i t⟩
 | _,_,_,.str x,r=>by obtain⟨t,rfl⟩:=r;exact⟨_,.str x t⟩
 | _,_,_,.lst (a:=a) h ds,r=>by
  cases r
  obtain⟨its,rv,⟨o,n,e,c,_,d⟩,_⟩:=I.list h
  obtain⟨as,q⟩:=DVs.reads I ds rv
  exact⟨_,.list e c d (by simpa using q)⟩
 | _,_,_,.tup (a:=a) h ds,r=>by
  cases r
  obtain⟨its,rv,⟨o,e,c,n,d⟩,_⟩:=I.tuple h
  obtain⟨as,q⟩:=DVs.reads I ds rv
  exact⟨_,.tuple e c d (by simpa using q)⟩
theorem DVs.reads (I:Inv X pins σ H s):∀{xs:List V}{ds:List PyData}{vs:List Value},DVs X.K H xs ds→Vals xs vs→∃as,ReadsAll s.heap vs ds as
 | _,_,_,.nil,r=>by cases r;exact⟨_,.nil⟩
 | _,_,_,.cons h t,r=>by
  cases r with
  | cons r1 r2 =>
   obtain⟨as,q⟩:=DV.reads I h r1
   obtain⟨bs,p⟩:=DVs.reads I t r2
   exact⟨_,.cons q p⟩
end
end
theorem DVs.ints {K:PySem.W.Frag}{H:Hp}:∀ns:List Int,DVs K H (ns.map V.int) (ns.map PyData.int)
 | []=>.nil
 | n::r=>.cons (.int n) (DVs.ints r)
theorem lay_ints:∀ns:List Int,PyData.canLayAll0 (ns.map PyData.int)=true∧PyData.depthAll (ns.map PyData.int)=0
 | []=>⟨rfl,rfl⟩
 | n::r=>by
  obtain⟨h1,h2⟩:=lay_ints r
  simp[PyData.canLayAll0,PyData.canLay0,PyData.depthAll,PyData.depth,h1,h2]
theorem shaped_ints (ns:List Int):SeqAt.shaped (.list (ns.map PyData.int))=true:=by
 obtain⟨h1,h2⟩:=lay_ints ns
 simp[SeqAt.shaped,PyData.canLay0,PyData.depth,h1,h2]
theorem eqv_ints:∀ns ms:List Int,PyData.eqvAll (ns.map PyData.int) (ms.map PyData.int)=decide (ns=ms)
 | [],[]=>rfl
 | [],_::_=>rfl
 | _::_,[]=>rfl
 | n::ns,m::ms=>by
  rw[List.map_cons,List.map_cons,PyData.eqvAll,PyData.eqv,eqv_ints ns ms,Bool.eq_iff_iff]
  simp
section
variable {X:Cx}
def rEqD (K:PySem.W.Frag):R2:=fun x y H Q=>∃d e,DV K H x d∧DV K H y e∧SeqAt.shaped d=true∧SeqAt.shaped e=true∧Q (.bl (PyData.eqv d e)) H
def rNeD (K:PySem.W.Frag):R2:=fun x y H Q=>∃d e,DV K H x d∧DV K H y e∧SeqAt.shaped d=true∧SeqAt.shaped e=true∧Q (.bl (!PyData.eqv d e)) H
theorem op_eqD (hu:X.A.units+64<cLine):OpR X (compareOp .Eq) (rEqD X.K):=by
 intro pins s σ H x y v u Q I rx ry h
 obtain⟨d,e,h1,h2,h3,h4,q⟩:=h
 obtain⟨as,r1⟩:=h1.reads I rx
 obtain⟨bs,r2⟩:=h2.reads I ry
 exact eq_dataH r1 r2 h3 h4 hu ⟨.bl _,H,I,rfl,q⟩
theorem op_neD (hu:X.A.units+64<cLine):OpR X (compareOp .NotEq) (rNeD X.K):=by
 intro pins s σ H x y v u Q I rx ry h
 obtain⟨d,e,h1,h2,h3,h4,q⟩:=h
 obtain⟨as,r1⟩:=h1.reads I rx
 obtain⟨bs,r2⟩:=h2.reads I ry
 exact ne_dataH r1 r2 h3 h4 hu ⟨.bl _,H,I,rfl,q⟩
end
end L2
namespace L2
open PySem PySem.Spec PyProof.Rows
section
variable {X:Cx}{K:PySem.W.Frag}
theorem call_lenLK (h:X.K=K):CallR X (.builtin "len") (rLenL K):=by subst h;exact call_lenL
theorem ix_listK (h:X.K=K):IxR X (rIxL K):=by subst h;exact ix_list
theorem ix_tupK (h:X.K=K):IxR X (rIxT K):=by subst h;exact ix_tup
theorem sl_listK (h:X.K=K):SlR X (rSlL K):=by subst h;exact sl_list
theorem op_neDK (h:X.K=K) (hu:X.A.units+64<cLine):OpR X (compareOp .NotEq) (rNeD K):=by subst h;exact op_neD hu
end
section
variable {σ:St}{H:Hp}{Q:VK}{D:Ends}
theorem rd_ixT {K:PySem.W.Frag}{p:Addr}{xs:List V}{i:Int}{v:V}(h:SqT K H p xs) (e:atI xs i=some v) (q:Q v H):rIxT K (.ref p) (.int i) H Q:=⟨p,xs,i,v,rfl,rfl,h,e,q⟩
end
section
variable {κ:Type} [DecidableEq κ]
def valV (kvs:List (κ×V)) (k:κ):Option V:=(kvs.find? fun kv=>decide (kv.1=k)).map (·.2)
def putK (kvs:List (κ×V)) (k:κ) (v:V):List (κ×V) :=
 if (kvs.any fun kv=>decide (kv.1=k))=true then kvs.map (fun kv=>if kv.1=k then(kv.1,v) else kv) else kvs ++ [(k,v)]
theorem valV_pos {p:κ×V}{r:List (κ×V)}{k:κ}(e:p.1=k):valV (p::r) k=some p.2:=by simp[valV,List.find?_cons,e]
theorem valV_neg {p:κ×V}{r:List (κ×V)}{k:κ}(e:¬ p.1=k):valV (p::r) k=valV r k:=by simp[valV,List.find?_cons,e]
theorem length_putK (kvs:List (κ×V)) (k:κ) (v:V):(putK kvs k v).length≤kvs.length+1:=by
 unfold putK
 split
 ·rw[List.length_map];omega
 ·rw[List.length_append,List.length_cons,List.length_nil];omega
theorem RelO.getD {o:Option V}{u:Option Value}{d:V}{d':Value}(r:RelO o u) (rd:RelV d d'):RelV (o.getD d) (u.getD d'):=by
 cases o with
 | none=>cases u with
  | none=>exact rd
  | some _=>exact(show False from r).elim
 | some _=>cases u with
  | none=>exact(show False from r).elim
  | some _=>exact r
theorem KV.val {kvs:List (κ×V)}{vs:List (κ×Value)}(r:KV kvs vs) (k:κ):RelO (valV kvs k) (valueAt vs k):=by
 unfold KV at r
 induction r with
 | nil=>exact True.intro
 | @cons p q ps qs h t ih =>
  obtain⟨h1,h2⟩:=h
  by_cases e:p.1=k
  ·have e':q.1=k:=h1.symm.trans e
   have b:valueAt (q::qs) k=some q.2:=by simp[valueAt,List.find?_cons,e']
   rw[valV_pos e,b];exact h2
  ·have e':¬ q.1=k:=fun z=>e (h1.trans z)
   have b:valueAt (q::qs) k=valueAt qs k:=by simp[valueAt,List.find?_cons,e']
   rw[valV_neg e,b];exact ih
theorem KV.any {kvs:List (κ×V)}{vs:List (κ×Value)}(r:KV kvs vs) (k:κ):(kvs.any fun kv=>decide (kv.1=k))=vs.any fun kv=>decide (kv.1=k):=by
 unfold KV at r
 induction r with
 | nil=>rfl
 | cons h t ih=>rw[List.any_cons,List.any_cons,ih,h.1]
theorem KV.repl {kvs:List (κ×V)}{vs:List (κ×Value)}(r:KV kvs vs) (k:κ) {y:V}{u:Value}(ry:RelV y u) :
  KV (kvs.map fun kv=>if kv.1=k then(kv.1,y) else kv) (vs.map fun kv=>if kv.1=k then(kv.1,u) else kv):=by
 unfold KV at r ⊢
 induction r with
 | nil=>exact .nil
 | @cons p q ps qs h t ih =>
  rw[List.map_cons,List.map_cons]
  refine .cons ?_ ih
  obtain⟨h1,h2⟩:=h
  by_cases e:p.1=k
  ·rw[if_pos e,if_pos (h1.symm.trans e)];exact⟨h1,ry⟩
  ·rw[if_neg e,if_neg (fun z=>e (h1.trans z))];exact⟨h1,h2⟩
theorem KV.put {kvs:List (κ×V)}{vs:List (κ×Value)}(r:KV kvs vs) (k:κ) {y:V}{u:Value}(ry:RelV y u):KV (putK kvs k y) (stored vs k u):=by
 unfold putK stored
 rw[r.any k]
 by_cases e:(vs.any fun kv=>decide (kv.1=k))=true
 ·rw[if_pos e,if_pos e];exact r.repl k ry
 ·rw[if_neg e,if_neg e];exact Paired.snoc r ⟨rfl,ry⟩
end
theorem kV_is {P:Program}{w:World}{k:Key}{u:Value}(r:RelV (kV k) u):(mixKind P w).is k u=true:=by
 cases k with
 | inl i=>obtain⟨t,e⟩:=(show ∃t,u=Value.int i t from r);subst e;exact mixKind_int P w i t
 | inr x=>obtain⟨t,e⟩:=(show ∃t,u=Value.str x t from r);subst e;exact mixKind_str P w x t
theorem items_are {P:Program}{w:World}:∀{ks:List Key}{us:List Value},Vals (ks.map kV) us→ItemsAre (mixKind P w) ks us
 | [],_,r=>by rw[List.map_nil]at r;cases r;exact .nil
 | k::ks,_,r=>by
  rw[List.map_cons]at r
  cases r with
  | cons h t=>exact .cons (kV_is h) (items_are t)
abbrev KT (H:Hp):List (List Key×V)→List (List Key×Addr×Value)→Prop:=Paired fun p q=>p.1=q.1∧H q.2.1=some (.tup (p.1.map kV))∧RelV p.2 q.2.2
theorem KT.val {H:Hp}{kvs:List (List Key×V)}{xs:List (List Key×Addr×Value)}(r:KT H kvs xs) (k:List Key):RelO (valV kvs k) ((atKey xs k).map (·.2)):=by
 induction r with
 | nil=>exact True.intro
 | @cons p q ps qs h t ih =>
  obtain⟨h1,_,h2⟩:=h
  by_cases e:p.1=k
  ·have e':q.1=k:=h1.symm.trans e
   have b:atKey (q::qs) k=some q.2:=by simp[atKey,List.find?_cons,e']
   rw[valV_pos e,b];exact h2
  ·have e':¬ q.1=k:=fun z=>e (h1.trans z)
   have b:atKey (q::qs) k=atKey qs k:=by simp[atKey,List.find?_cons,e']
   rw[valV_neg e,b];exact ih
section
variable {P:Program}{w:World}{H:Hp}{h:Heap}{a:Addr}
theorem rd_of {u:HO}(ok:HOk P w H h) (e:Rd H a u):ObjOk P w H h a u:=e.ok ok
theorem dk_rd {kvs:List (Key×V)}(ok:HOk P w H h) (e:Rd H a (.dK kvs)):kvs.length≤sizeLine∧(a == sysModules)=false∧∃vs,KV kvs vs∧h.DictOf (mixKind P w) a vs :=
 show ObjOk P w H h a (.dK kvs) from rd_of ok e
theorem dk_of {kvs:List (Key×V)}(ok:HOk P w H h) (e:H a=some (.dK kvs)):kvs.length≤sizeLine∧(a == sysModules)=false∧∃vs,KV kvs vs∧h.DictOf (mixKind P w) a vs:=dk_rd ok (.inl e)
theorem key_of {ks:List Key}(ok:HOk P w H h) (e:H a=some (.tup (ks.map kV))):(tupleKind (mixKind P w)).is h ks a:=by
 obtain⟨_,its,r,o,h1,h2,n,h3⟩:=(show ObjOk P w H h a (.tup (ks.map kV)) from ok a _ e)
 exact⟨o,its.toArray,n,h1,h2,h3,by simpa using items_are r⟩
theorem dt_rd {kvs:List (List Key×V)}(ok:HOk P w H h) (e:Rd H a (.dT kvs)):kvs.length≤sizeLine∧(a == sysModules)=false ∧
  ∃xs,KT H kvs xs∧h.DictOfH (tupleKind (mixKind P w)) a xs:=by
 obtain⟨z,y,xs,r,o,es,ep,h1,h2,h3,h4,h5⟩:=(show ObjOk P w H h a (.dT kvs) from rd_of ok e)
 refine⟨z,y,xs,r,o,es,ep,h1,h2,h3,h4,fun x hx=>?_,h5⟩
 have all:∀{l:List (List Key×V)}{m:List (List Key×Addr×Value)},KT H l m→∀x∈m,(tupleKind (mixKind P w)).is h x.1 x.2.1:=by
  intro l m q
  induction q with
  | nil=>intro x hx;exact nomatch hx
  | @cons p q ps qs hq t ih =>
   intro x hx
   rcases List.mem_cons.mp hx with e|hx
   ·subst e
    exact key_of ok (by rw[← hq.1];exact hq.2.1)
   ·exact ih x hx
 exact all r x hx
end
def DGet (H:Hp) (a:Addr) (y:V) (r:Option V):Prop :=
 (∃kvs k,Rd H a (.dK kvs)∧y=kV k∧r=valV kvs k) ∨ ∃kvs k b,Rd H a (.dT kvs)∧y = .ref b∧H b=some (.tup (k.map kV))∧r=valV kvs k
theorem DGet.k {H:Hp}{a:Addr}{kvs:List (Key×V)}{k:Key}(e:H a=some (.dK kvs)):DGet H a (kV k) (valV kvs k):=.inl ⟨kvs,k,.inl e,rfl,rfl⟩
section
variable {X:Cx}{pins:List (Addr×Obj)}{σ:St}{H:Hp}{s:Shared}{a:Addr}{y v:V}{u r:Value}{o:Option V}{A:Around}{E:Value→Shared→Prop}
theorem Inv.big (I:Inv X pins σ H s):sysModules<s.heap.objs.size:=by
 have h:mainGlobals<s.heap.objs.size:=(I.mod.glob.keeps I.bk).lt
 exact Nat.lt_trans (by decide) h
theorem d_write {h':Heap}{t':Nat}{ob:HO}(I:Inv X pins σ H s) (mu:Mut (H a)) (hs:Heap.SameBut a s.heap h') (he:∃q,h'.get? a=some q) (new:ObjOk X.prog X.w (upd H a ob) h' a ob) :
  Inv X pins σ (upd H a ob) { s with heap:=h',toks:=t' } :=
 I.write (x:=a) (e:=a) mu (.inl rfl) (fun b q hb z=>(hs.2 b hb).trans z) he new
theorem dk_new {P:Program}{w:World}{H':Hp}{h':Heap}{kvs:List (Key×V)}{vs:List (Key×Value)}(z:kvs.length≤sizeLine) (hd:(a == sysModules)=false) (rel:KV kvs vs) (dd:h'.DictOf (mixKind P w) a vs) :
  ObjOk P w H' h' a (.dK kvs):=⟨z,hd,vs,rel,dd⟩
end
theorem dk_empty {P:Program}{w:World}{H:Hp}(h:Heap) (hb:sysModules<h.objs.size):ObjOk P w H (h.push { cls:=.type "dict",data:=.dict #[] }) h.objs.size (.dK []) :=
 ⟨Nat.zero_le _,beq_eq_false_iff_ne.mpr (Ne.symm (Nat.ne_of_lt hb)),[],.nil,Heap.DictOf.new h⟩
def tPairs:List (TE×TE)→St→Hp→(List (V×V)→Hp→Prop)→Prop
 | [],_,H,Q=>Q [] H
 | (tk,tv)::r,σ,H,Q=>tk σ H fun x H1=>tv σ H1 fun y H2=>tPairs r σ H2 fun ps H3=>Q ((x,y)::ps) H3
abbrev VV:List (V×V)→List (Value×Value)→Prop:=Paired fun p q=>RelV p.1 q.1∧RelV p.2 q.2
def PPs (X:Cx) (pos:Pos) (keys:List (Option Expr)) (values:List Expr) (trs:List (TE×TE)):Prop :=
 ∀(pins:List (Addr×Obj)) (s:Shared) (σ:St) (H:Hp) (Q:List (V×V)→Hp→Prop),Inv X pins σ H s→tPairs trs σ H Q →
  wpAny (model X.prog X.w) X.A (evalPairs (pairTrees keys values X.env pos)) (fun vs s'=>∃ps H',Inv X pins σ H' s'∧VV ps vs∧Q ps H') X.xe s
theorem pps_nil {X:Cx}{pos:Pos}:PPs X pos [] [] []:=fun pins s σ H Q I h=>pairTrees_nil_walk ⟨[],H,I,.nil,h⟩
theorem pps_cons {X:Cx}{pos:Pos}{k v:Expr}{ks:List (Option Expr)}{vs:List Expr}{tk tv:TE}{trs:List (TE×TE)}(hk:PE X k tk) (hv:PE X v tv) (hr:PPs X pos ks vs trs) :
  PPs X pos (some k::ks) (v::vs) ((tk,tv)::trs):=fun pins s σ H Q I h =>
 pairTrees_cons_walk (thn (hk pins s σ H _ I h) fun u s1 ⟨x,H1,I1,rx,q1⟩=>thn (hv pins s1 σ H1 _ I1 q1) fun w2 s2 ⟨y,H2,I2,ry,q2⟩ =>
  thn (hr pins s2 σ H2 _ I2 q2) fun ws s3 ⟨ps,H3,I3,rel,q3⟩=>⟨(x,y)::ps,H3,I3,.cons ⟨rx,ry⟩ rel,q3⟩)
def mergeK (kvs more:List (Key×V)):List (Key×V):=more.foldl (fun acc kv=>putK acc kv.1 kv.2) kvs
theorem KV.merge:∀{more:List (Key×V)}{rs:List (Key×Value)}{kvs:List (Key×V)}{vs:List (Key×Value)},KV more rs→KV kvs vs→KV (mergeK kvs more) (merged vs rs):=by
 intro more rs kvs vs r
 unfold KV at r
 induction r generalizing kvs vs with
 | nil=>intro q;exact q
 | @cons p q ps qs h t ih =>
  intro r0
  have e:KV (putK kvs p.1 p.2) (stored vs q.1 q.2):=by
   have:=r0.put p.1 h.2
   rw[← h.1];exact this
  exact ih e
theorem length_mergeK:∀(more kvs:List (Key×V)),(mergeK kvs more).length≤kvs.length+more.length
 | [],kvs=>by show kvs.length≤kvs.length+0;omega
 | p::r,kvs=>by
  have h1:=length_mergeK r (putK kvs p.1 p.2)
  have h2:=length_putK kvs p.1 p.2
  show(mergeK (putK kvs p.1 p.2) r).length≤_
  rw[List.length_cons];omega
theorem carries_of {P:Program}{w:World}:∀{kvs:List (Key×V)}{ws:List (Value×Value)},VV (kvs.map fun kv=>(kV kv.1,kv.2)) ws→∃rs,Carries (mixKind P w) ws rs∧KV kvs rs
 | [],_,r=>by rw[List.map_nil]at r;cases r;exact⟨[],True.intro,.nil⟩
 | p::kvs,_,r=>by
  rw[List.map_cons]at r
  cases r with
  | @cons a b as bs h t =>
   obtain⟨rs,c,q⟩:=carries_of (P:=P) (w:=w) t
   obtain⟨b1,b2⟩:=b
   exact⟨(p.1,b2)::rs,⟨kV_is h.1,rfl,c⟩,.cons ⟨rfl,h.2⟩ q⟩
def tDisp (trs:List (TE×TE)):TE:=fun σ H Q=>∀p,H p=none→tPairs trs σ (upd H p (.dK [])) fun ps H2=>H2 p=some (.dK [])∧∃kvs:List (Key×V),ps=kvs.map (fun kv=>(kV kv.1,kv.2))∧kvs.length≤15∧Q (.ref p) (upd H2 p (.dK (mergeK [] kvs)))
theorem pe_disp {X:Cx}{pos:Pos}{keys:List (Option Expr)}{values:List Expr}{trs:List (TE×TE)}(h:PPs X pos keys values trs) (hall:keys.all (·.isSome)=true) (hl:keys.length=values.length) (h0:keys ≠ [])
  (h15:keys.length≤15):PE X (.Dict keys values pos) (tDisp trs):=by
 intro pins s σ H Q I q
 have hn:=I.hok.fresh (Nat.le_refl s.heap.objs.size)
 have I1:=I.laid (a:=s.heap.objs.size) (o:=.dK []) (h':=s.heap.push { cls:=.type "dict",data:=.dict #[] }) (t':=s.toks) (fun _ _ q=>Heap.get?_push_of_some _ q) (Nat.le_refl _) (dk_empty s.heap I.big)
 refine wpAny_Dict_walk (knd:=mixKind X.prog X.w) hall hl h0 h15 (thn (h pins _ σ _ _ I1 (q _ hn)) fun ws s2 ⟨ps,H2,I2,rel,e,kvs,ep,lk,q2⟩=>?_)
 subst ep
 obtain⟨rs,c,rk⟩:=carries_of (P:=X.prog) (w:=X.w) rel
 obtain⟨z,hd,vs0,r0,dd⟩:=dk_of I2.hok e
 cases r0
 refine⟨rs,c,dd,fun h' dd' hs=>⟨.ref s.heap.objs.size,_,?_,rfl,q2⟩⟩
 have hz:(mergeK [] kvs).length≤sizeLine:=by
  have h1:=length_mergeK kvs []
  rw[List.length_nil]at h1
  rw[sizeLine_eq];omega
 have he:∃q,h'.get? s.heap.objs.size=some q:=let ⟨q,_,_,hq,_⟩:=dd';⟨q,hq⟩
 exact d_write I2 (by rw[e];exact True.intro) hs he (dk_new hz hd (rk.merge .nil) dd')
structure M2 (X:Cx) (o:Expr) (m:Str) (apos:Pos) (e f:Expr) (cpos:Pos):Prop where
 base:attributeBase o m X.env (eval o X.env)=eval o X.env
 few:((backTo cpos (starEach [e,f] X.env)).all (fun x=>!x.1) && (backToKw cpos (keywordEach [] X.env)).all (fun x=>x.1.isSome)
  && decide (([e,f]:List Expr).length+([]:List Keyword).length+(if ([]:List Keyword).isEmpty then 0 else 1)<30))=true
 line:(apos.endLine == cpos.line)=true
 trees:backTo cpos (starEach [e,f] X.env)=[(false,eval e X.env),(false,eval f X.env)]
def IsD (H:Hp) (a:Addr):Prop:=(∃kvs,Rd H a (.dK kvs)) ∨ ∃kvs,Rd H a (.dT kvs)
theorem isD_at {X:Cx}{pins:List (Addr×Obj)}{σ:St}{H:Hp}{s:Shared}{a:Addr}(I:Inv X pins σ H s) (d:IsD H a) :
  s.TypeIs (.ref a) "dict"∧(∀b,Value.ref a = .ref b→∃ob,s.heap.get? b=some ob∧ob.dict=none)∧(a == sysModules)=false:=by
 rcases d with⟨kvs,e⟩|⟨kvs,e⟩
 ·obtain⟨_,hd,vs,_,dd⟩:=dk_rd I.hok e
  refine⟨dd.typeIs,fun b q=>?_,hd⟩
  cases q
  obtain⟨ob,_,_,h1,h2,_⟩:=dd
  exact⟨ob,h1,h2.2.1⟩
 ·obtain⟨_,hd,xs,_,dd⟩:=dt_rd I.hok e
  refine⟨dd.typeIs,fun b q=>?_,hd⟩
  cases q
  obtain⟨ob,_,_,h1,h2,_⟩:=dd
  exact⟨ob,h1,h2.2.1⟩
section
variable {X:Cx}{pins:List (Addr×Obj)}{σ:St}{H:Hp}{s:Shared}{a:Addr}{y d:V}{u r:Value}{o:Option V}{A:Around}{E:Value→Shared→Prop}
theorem d_get2 {Q:Value→Shared→Prop}(hu:A.units+1<cLine) (I:Inv X pins σ H s) (g:DGet H a y o) (ry:RelV y u) (rd:RelV d r) (h:∀w' s',Inv X pins σ H s'→RelV (o.getD d) w'→Q w' s') :
  wpAny (model X.prog X.w) A (call (.builtin "dict.get") [.ref a,u,r]) Q E s:=by
 rcases g with⟨kvs,k,e,ey,l⟩|⟨kvs,k,b,e,ey,eb,l⟩
 ·subst ey
  obtain⟨z,hd,vs,rel,dd⟩:=dk_rd I.hok e
  refine call_meetsIn PySem.F.slot_dict_get dd.typeIs PySem.F.entry_dict_get (PySem.F.args_dict_get_3 _ _ _) (meets_dict_get_default (mixKind X.prog X.w) a (kV_is ry) hd r) ⟨_,dd.mapOf,h _ _ (I.tok _) ?_⟩
  rw[l]
  exact(rel.val k).getD rd
 ·subst ey
  cases (show u=Value.ref b from ry)
  obtain⟨z,hd,xs,rel,dd⟩:=dt_rd I.hok e
  refine call_meetsIn PySem.F.slot_dict_get dd.typeIs PySem.F.entry_dict_get (PySem.F.args_dict_get_3 _ _ _) (meetsH_dict_get_default (tupleKind (mixKind X.prog X.w)) a b hd r) ⟨tupleKind_room_in1 hu,k,xs,key_of I.hok eb,dd,h _ _ (I.tok _) ?_⟩
  rw[l]
  exact(rel.val k).getD rd
end
def tDGet2 (td ty tx:TE):TE:=fun σ H Q=>td σ H fun x H1=>∃a,x = .ref a∧IsD H1 a∧ty σ H1 fun y H2=>tx σ H2 fun z H3=>∃o,DGet H3 a y o∧Q (o.getD z) H3
section
variable {X:Cx}{o e f:Expr}{apos cpos:Pos}{td ty tx:TE}
theorem pe_dget2 (hu:X.A.units+1<cLine) (ho:PE X o td) (he:PE X e ty) (hf:PE X f tx) (m:M2 X o "get" apos e f cpos):PE X (.Call (.Attribute o "get" apos) [e,f] [] cpos) (tDGet2 td ty tx):=by
 intro pins s σ H Q I h
 refine wpAny_Call_method m.base m.few m.line PySem.F.plainAttrs_dict PySem.F.slot_dict_get PySem.F.type_dict_get (thn (ho pins s σ H _ I h) fun u s1 ⟨x,H1,I1,rx,a,ex,d,q1⟩=>?_)
 subst ex
 obtain rfl:u=Value.ref a:=rx
 obtain⟨t1,t2,_⟩:=isD_at I1 d
 refine⟨t1,t2,?_⟩
 rw[m.trees]
 refine Calls.callWith_builtin rfl (Calls.evalArgs_plain (Calls.spliced_cons (thn (he pins s1 σ H1 _ I1 q1) fun iv s2 ⟨y,H2,I2,ry,q2⟩ =>
  Calls.spliced_cons (thn (hf pins s2 σ H2 _ I2 q2) fun fv s3 ⟨z,H3,I3,rz,ov,g,q3⟩=>Calls.spliced_nil ?_))))
 exact d_get2 hu I3 g ry rz fun w' s4 I4 rw'=>⟨_,H3,I4,rw',q3⟩
end
section
variable {X:Cx}
theorem strsAre_of {ns:List Str}:∀{us:List Value},Vals (ns.map V.str) us→StrsAre us ns:=by
 induction ns with
 | nil=>intro us r;cases r;exact .nil
 | cons n ns ih =>
  intro us r
  cases r with
  | cons r t =>
   obtain⟨tk,rfl⟩:=r
   exact .cons n tk (ih t)
def rJoin (K:PySem.W.Frag):V→List V→Hp→VK→Prop:=fun x vs H Q=>∃z a ys,x = .str z∧vs=[.ref a]∧SqL K H a (List.map V.str ys)∧(ys.map (·.length)).sum+ys.length*z.length≤16777216∧Q (.str (Txt.join z ys)) H
theorem mt_join:MtR X "str.join" (rJoin X.K):=by
 intro pins s σ H x xs v us Q I rx rs h
 obtain⟨z,a,ys,rfl,rfl,hq,hz,q⟩:=h
 obtain⟨t,rfl⟩:=rx
 obtain⟨u,rfl,ru⟩:=vals1 rs
 cases (show u=Value.ref a from ru)
 obtain⟨its,rv,pl,_⟩:=I.list hq
 exact join_list pl.isList (by simpa using strsAre_of rv) hz fun t' k=>⟨.str _,H,I.tok _,⟨_,rfl⟩,q⟩
end
section
variable {σ:St}{H:Hp}{Q:VK}{D:Ends}
theorem rd_ixS {z:Str}{i:Int}{c:Nat}(h:z.length≤sizeLine) (e:atI z.cps.toList i=some c) (q:Q (.str ⟨#[c]⟩) H):rIxS (.str z) (.int i) H Q:=⟨z,i,c,rfl,rfl,h,e,q⟩
end
section
variable {es:List Expr}{env:Env}
theorem stx_Constant {c j p}:starEach (.Constant c j p::es) env =(false,eval (.Constant c j p) env)::starEach es env:=rfl
theorem stx_Name {x p}:starEach (.Name x p::es) env =(false,eval (.Name x p) env)::starEach es env:=rfl
theorem stx_BinOp {a o b p}:starEach (.BinOp a o b p::es) env =(false,eval (.BinOp a o b p) env)::starEach es env:=rfl
theorem stx_Compare {a o b p}:starEach (.Compare a o b p::es) env =(false,eval (.Compare a o b p) env)::starEach es env:=rfl
theorem stx_Call {a o b p}:starEach (.Call a o b p::es) env =(false,eval (.Call a o b p) env)::starEach es env:=rfl
theorem stx_Attribute {a o p}:starEach (.Attribute a o p::es) env =(false,eval (.Attribute a o p) env)::starEach es env:=rfl
theorem stx_Subscript {a o p}:starEach (.Subscript a o p::es) env =(false,eval (.Subscript a o p) env)::starEach es env:=rfl
theorem stx_List {a p}:starEach (.List a p::es) env =(false,eval (.List a p) env)::starEach es env:=rfl
theorem stx_Tuple {a k p}:starEach (.Tuple a k p::es) env =(false,eval (.Tuple a k p) env)::starEach es env:=rfl
theorem stx_ListComp {a b c p}:starEach (.ListComp a b c p::es) env =(false,eval (.ListComp a b c p) env)::starEach es env:=rfl
end
section
variable {X:Cx}
def rRng1:List V→Hp→VK→Prop:=fun xs H Q=>∃j,xs=[.int j]∧∀r,H r=none→Q (.ref r) (upd H r (.rng 0 j))
theorem call_rng1:CallR X (.type "range") rRng1:=by
 intro pins s σ H xs us Q I r h
 obtain⟨j,rfl,q⟩:=h
 obtain⟨u,rfl,rx⟩:=vals1 r
 obtain⟨t,rfl⟩:=rx
 refine call_range_1 ⟨.ref s.heap.objs.size,_,I.laid (fun b u e=>Heap.get?_push_of_some _ e) (Nat.le_refl _) (o:=.rng 0 j) ?_,rfl,q _ (I.hok.fresh (Nat.le_refl _))⟩
 exact⟨_,_,_,Heap.get?_push_size _ rfl⟩
def upN (n:Nat):List Int:=(List.range n).map fun(i:Nat)=>(i:Int)
def rListR:List V→Hp→VK→Prop:=fun xs H Q=>∃r j,xs=[.ref r]∧H r=some (.rng 0 j)∧0≤j∧j≤100000∧∀l,H l=none→Q (.ref l) (upd H l (.lst ((upN j.toNat).map V.int)))
theorem vals_of_items {n:Nat}{acc:Array Value}(h:ItemsOf (fun i v=>∃t,v=Value.int (0+i*1) t) acc n):Vals ((upN n).map V.int) acc.toList:=by
 obtain⟨hs,hi⟩:=h
 have key:∀(m:Nat) (l:List Value),l.length=m→(∀(i:Nat) v,l[i]? = some v→∃t,v=Value.int (0+(i:Int)*1) t)→Vals ((upN m).map V.int) l:=by
  intro m
  induction m with
  | zero=>intro l hl _;cases l with
   | nil=>exact .nil
   | cons a b=>cases hl
  | succ m ih =>
   intro l hl hv
   have hne:l ≠ []:=by intro z;rw[z]at hl;cases hl
   have hd:l=l.dropLast ++ [l.getLast hne]:=(List.dropLast_concat_getLast hne).symm
   have e:(upN (m+1)).map V.int =(upN m).map V.int ++ [V.int (m:Int)]:=by
    unfold upN
    rw[List.range_succ,List.map_append,List.map_append];rfl
   rw[e,hd]
   refine Vals.append (ih _ (by rw[List.length_dropLast,hl];rfl) fun i v hh=>hv i v ?_) (.cons ?_ .nil)
   ·have:i<l.dropLast.length:=(List.getElem?_eq_some_iff.mp hh).1
    rw[hd,List.getElem?_append_left this];exact hh
   ·obtain⟨t,ht⟩:=hv m (l.getLast hne) (by
     rw[List.getLast_eq_getElem,← List.getElem?_eq_getElem]
     congr 1
     omega)
    exact⟨t,by rw[ht];congr 1;omega⟩
 refine key n acc.toList (by rw[← hs];simp) fun i v hh=>?_
 exact hi i v (by simpa using hh)
theorem call_listR (hc:X.calm=true):CallR X (.type "list") rListR:=by
 intro pins s σ H xs us Q I r h
 obtain⟨a,j,rfl,ha,hj0,hj,q⟩:=h
 obtain⟨u,rfl,rx⟩:=vals1 r
 cases rx
 obtain⟨t,u,v,e⟩:=I.hok _ _ ha
 have hn:Builtin.Range.rangeSize 0 j 1 =(j.toNat:Nat):=by rw[rangeSize_one];split <;> omega
 have hlow:-(2^62)≤j:=by omega
 ·refine call_list_range (n:=j.toNat) (I.ok.hd hc) e (small_one (by omega) (by omega) hlow (by omega)) hn (by omega) fun h' tk acc c hk hD hI=>?_
  have hv:=vals_of_items hI
  have hz:((upN j.toNat).map V.int).length≤sizeLine:=by
   rw[List.length_map];unfold upN;rw[List.length_map,List.length_range]
   have:(100000:Nat)≤sizeLine:=by decide
   omega
  refine⟨.ref s.heap.objs.size,_,I.laid (t':=tk) hk (Nat.le_refl _) (o:=.lst ((upN j.toNat).map V.int)) ⟨hz,acc.toList,c,hv,by simpa using hD⟩,rfl,q _ (I.hok.fresh (Nat.le_refl _))⟩
theorem rd_rngV {j:Int}{H:Hp}{Q:VK}(q:∀r,H r=none→Q (.ref r) (upd H r (.rng 0 j))):rRng1 [.int j] H Q:=⟨j,rfl,q⟩
theorem upN_get {n i:Nat}{x:V}(h:((upN n).map V.int)[i]? = some x):i<n∧x = .int i:=by
 have hl:=(List.getElem?_eq_some_iff.mp h).1
 rw[List.length_map]at hl
 unfold upN at hl h
 rw[List.length_map,List.length_range]at hl
 rw[List.getElem?_map,List.getElem?_map,List.getElem?_range hl]at h
 exact⟨hl,(Option.some.inj h).symm⟩
end
section
variable {X:Cx}
def rRevL (K:PySem.W.Frag):V→Hp→VK→Prop:=fun x H Q=>∃a xs,x = .ref a∧SqL K H a xs∧∀p,H p=none→Q (.ref p) (upd H p (.lst xs.reverse))
def tRev (K:PySem.W.Frag) (te:TE):TE:=fun σ H Q=>te σ H fun x H1=>rRevL K x H1 Q
theorem evalPart_neg1 {env:Env}{j:Nat}{q1 q2:Pos}{M:Program}{w:World}{A:Around}{E:Value→Shared→Prop}{s:Shared}{Q:Value→Shared→Prop}(h:∀t tk,Q (.int (-1) t) { s with toks:=tk }) :
  wpAny (model M w) A (evalPart (some (.UnaryOp .USub (.Constant (.int 1) j q1) q2)) env) Q E s:=by
 show wpAny (model M w) A (eval (.UnaryOp .USub (.Constant (.int 1) j q1) q2) env) Q E s
 refine UnaryOp_ (wpAny_Constant_int ?_)
 exact neg_int (h _ _)
theorem pe_rev {e:Expr}{te:TE}{j:Nat}{q1 q2 p2 pos:Pos}(he:PE X e te):PE X (.Subscript e (.Slice none none (some (.UnaryOp .USub (.Constant (.int 1) j q1) q2)) p2) pos) (tRev X.K te):=by
 intro pins s σ H Q I h
 refine Subscript_ (thn (he pins s σ H _ I h) fun v s1 ⟨x,H1,I1,r1,q1⟩=>?_)
 obtain⟨a,xs,rfl,hx,q⟩:=q1
 cases r1
 refine wpAny_Slice ?_
 rw[evalPart_none]
 refine wpAny_pure ?_
 refine wpAny_pure ?_
 refine evalPart_neg1 fun t tk=>?_
 have I4:Inv X pins σ H1 { s1 with heap:=s1.heap.push { cls:=.type "slice",data:=.fields #[.none,.none,.int (-1) t] },toks:=tk }:=I1.kept (t':=tk) fun b ob q=>Heap.get?_push_of_some _ q
 obtain⟨its,r,ht,hz⟩:=I4.list hx
 have hlen:=r.length
 show wpAny (model X.prog X.w) X.A (subscriptTail e (.Slice none none (some (.UnaryOp .USub (.Constant (.int 1) j _) q2)) p2) (.ref a) (.ref s1.heap.objs.size)) (EP X pins σ Q) X.xe { s1 with heap:=s1.heap.push { cls:=.type "slice",data:=.fields #[.none,.none,.int (-1) t] },toks:=tk }
 refine tail_any (T := "list") (ops:=[.ref a,.ref s1.heap.objs.size]) ht.isList.typeIs slot_list_getitem.lookup ?_ (by with_unfolding_all rfl)
 refine wpAny_getItem_list_slice ht.isList (Heap.IsSliceOf.new ..) .none .none (.int (-1) t) (by simp) ?_ (by rw[List.size_toArray] <;> omega)
 rw[PySem.W.krv_pick]
 refine⟨.ref _,_,I4.laid (t':=tk) (o:=.lst xs.reverse) (fun b ob q=>Heap.get?_push_of_some _ q) (Nat.le_refl _) ?_,rfl,q _ (I4.hok.fresh (Nat.le_refl _))⟩
 exact⟨by rw[List.length_reverse];exact hz,its.reverse,0,r.reverse,(Heap.get?_push_size _ rfl:_)⟩
def rIntB:List V→Hp→VK→Prop:=fun xs H Q=>∃k,xs=[.bl k]∧Q (.int (if k then 1 else 0)) H
theorem call_intB:CallR X (.type "int") rIntB:=by
 intro pins s σ H xs us Q I r h
 exact call_int1 pins s σ H xs us Q I r (.inr h)
end
section
variable {K:PySem.W.Frag}{H:Hp}{Q:VK}{σ:St}
theorem rd_rev {te:TE}(h:te σ H fun x H1=>rRevL K x H1 Q):tRev K te σ H Q:=h
theorem rd_revL {a:Addr}{xs:List V}(h:SqL K H a xs) (q:∀p,H p=none→Q (.ref p) (upd H p (.lst xs.reverse))):rRevL K (.ref a) H Q:=⟨a,xs,rfl,h,q⟩
theorem rd_intB {k:Bool}(q:Q (.int (if k then 1 else 0)) H):rIntB [.bl k] H Q:=⟨k,rfl,q⟩
theorem flat_ints:∀ns:List Int,(ns.map V.int).all flatV=true
 | []=>rfl
 | n::r=>by rw[List.map_cons,List.all_cons,flat_ints r];rfl
theorem inV_ints (k:Int):∀ns:List Int,inV (.int k) (ns.map V.int)=decide (k∈ns)
 | []=>by simp[inV]
 | n::r=>by
  have ih:=inV_ints k r
  unfold inV at ih ⊢
  rw[List.map_cons,List.any_cons,ih]
  have e:eqV (V.int n) (V.int k)=decide (k=n):=by
   by_cases h:k=n
   ·subst h;simp[eqV]
   ·rw[decide_eq_false h]
    have h2:¬ n=k:=fun z=>h z.symm
    simp[eqV,h2]
  rw[e]
  simp[List.mem_cons]
theorem rd_inI {a:Addr}{ns:List Int}{k:Int}(h:SqL K H a (ns.map V.int)) (q:Q (.bl (decide (k∈ns))) H):rIn K false (.int k) (.ref a) H Q :=
 ⟨a,_,rfl,.inl h,rfl,flat_ints ns,by rw[inV_ints];exact q⟩
end
section
variable {X:Cx}{pins:List (Addr×Obj)}{σ:St}{H:Hp}{s:Shared}{h':Heap}
theorem Inv.turnedN {t':Nat}{ch:List Addr}{a:Addr}{o:HO}(I:Inv X pins σ H s) (k:∀b o,b∉ch→s.heap.get? b=some o→h'.get? b=some o) (f:∀b∈ch,FpOk X pins H b)
  (ha:s.heap.objs.size≤a) (new:ObjOk X.prog X.w (upd H a o) h' a o):Inv X pins σ (upd H a o) { s with heap:=h',toks:=t' }:=by
 have nit:∀b u,H b=some u→b∉ch:=fun b u e z=>by rw[(f b z).1]at e;cases e
 have hn:=I.hok.fresh ha
 have old:∀b ob,s.heap.get? b=some ob→b≠a:=fun b ob q=>Nat.ne_of_lt (Nat.lt_of_lt_of_le (Heap.lt_size q) ha)
 have up:∀b u,H b=some u→upd H a o b=some u:=fun b u q=>by rw[upd_ne (ne_of_none q hn)];exact q
 refine I.step (g':=s.gens) (d':=s.drawn) (ch:=ch) (fun b hb=>?_) (fun b o _ _ hc e _=>k b o hc e) (fun b o _ _ hc e _=>⟨o.slots,k b o hc e⟩) (fun b ob _ e n=>by rw[upd_ne (old b ob e)];exact n) (fun b o hc e=>⟨o,k b o hc e⟩) (fun b xs e=>up _ _ e) (fun b ob u e=>up _ _ e)
  (fun b ps e=>⟨#[],by rw[up _ _ e];simp⟩) (fun m hm=>?_) (fun b u e=>?_) I.bare
 ·obtain⟨f0,f1,f2,f3,f4,f5⟩:=f b hb
  exact⟨f3,f1,f4,f5⟩
 ·obtain⟨o,es,ep,ho,r⟩:=hm
  exact⟨o,es,ep,k _ o (fun z=>(f _ z).2.1 rfl) ho,r⟩
 ·by_cases hb:b=a
  ·subst hb;rw[upd_same]at e;cases e;exact new
  ·rw[upd_ne hb]at e
   refine(I.hok b u e).stay (fun c v hc q=>k c v ?_ q) (fun c q=>up _ _ q) fun c xs q=>up _ _ q
   rcases hc with z|z
   ·rw[z];exact nit b u e
   ·exact nit c _ z
end
def Ite (K:PySem.W.Frag) (a:Addr):It :=
 ⟨fun i H=>∃xs x,SqL K H a xs∧xs[i]? = some x,fun i H x H'=>∃t y,H t=none∧H'=upd H t (.tup [.int i,y])∧x = .ref t∧∀xs,SqL K H a xs→xs[i]? = some y,fun i H=>∃xs,SqL K H a xs∧xs.length≤i⟩
theorem turn_enum {P:Program}{w:World}{K:PySem.W.Frag}{elts:List Expr}{x1}{tpos:Pos}(a e it:Addr) (hne:e≠it) :
  Turn P w K (.Tuple elts x1 tpos) (Ite K a) [e,it] e (fun i h=>(∃old,IsEnum h e it ((i:Nat):Int) old)∧h.IsListIter it a i) where
 mem:=by simp
 obj:=fun i h st b hb=>by
  obtain⟨⟨old,he⟩,⟨o,e1,c,d⟩⟩:=st
  have:b=e∨b=it:=by simpa using hb
  rcases this with rfl|rfl
  ·exact⟨_,he,fun v z=>by cases z⟩
  ·exact⟨o,e1,fun v z=>by rw[d]at z;cases z⟩
 keep:=fun i h h' st k=>by
  obtain⟨⟨old,he⟩,hi⟩:=st
  exact⟨⟨old,k e (by simp) _ he⟩,hi.at fun o q=>k it (by simp) o q⟩
 item:=by
  intro X hP hw hK hc i pins s σ H E I hf st hg
  subst hP hw hK
  obtain⟨xs,x,hq,hx⟩:=hg
  obtain⟨⟨old,he⟩,hit⟩:=st
  obtain⟨its,rv,p,hz⟩:=I.list hq
  obtain⟨u,hu,ru⟩:=rv.get hx
  have fe:=hf e (by simp)
  have fi:=hf it (by simp)
  have heH:e<s.heap.objs.size:=Heap.lt_size he
  obtain⟨oi,hoi,ci,di⟩:=id hit
  have hiH:it<s.heap.objs.size:=Heap.lt_size hoi
  refine wpAny_pyNext_enum_item he hit p.isList (x:=u) (by simpa using hu) hne fun h₁ heo hit₁ ht₁ hz₁ hk₁=>⟨_,rfl,?_⟩
  refine wpAny_letOwnedTupleGo_enum heo fun h₂ he₂ hs₂=>?_
  replace hs₂:Heap.SameBut e h₁ h₂:=hs₂
  have hnew:h₂.get? s.heap.objs.size=some { cls:=.type "tuple",data:=.seq #[.int i s.toks,u] }:=(hs₂.2 _ (Nat.ne_of_gt heH)).trans ht₁
  have hkeep:∀b o,b ∉ [e,it]→s.heap.get? b=some o→h₂.get? b=some o:=fun b o hb q=>by
   have n1:b≠e:=fun z=>hb (by simp[z])
   have n2:b≠it:=fun z=>hb (by simp[z])
   exact(hs₂.2 b n1).trans (hk₁ b o n1 n2 q)
  have free0:=I.hok.fresh (Nat.le_refl s.heap.objs.size)
  have hT:ObjOk X.prog X.w (upd H s.heap.objs.size (.tup [.int i,x])) h₂ s.heap.objs.size (.tup [.int i,x]) :=
   ⟨(by show 2≤sizeLine;decide),[.int i s.toks,u],.cons ⟨_,rfl⟩ (.cons ru .nil),⟨_,hnew,rfl,_,rfl⟩⟩
  have I2:Inv X pins σ (upd H s.heap.objs.size (.tup [.int i,x])) { s with heap:=h₂,toks:=s.toks+1 }:=I.turnedN (t':=s.toks+1) hkeep hf (Nat.le_refl _) hT
  refine⟨.ref s.heap.objs.size,upd H s.heap.objs.size (.tup [.int i,x]),I2,rfl,⟨s.heap.objs.size,x,free0,rfl,rfl,fun ys hy=>by rw[I.list_inj hy hq];exact hx⟩,⟨⟨u,?_⟩,?_⟩,fun b hb=>?_⟩
  ·have:(((i+1:Nat)):Int) =(i:Int)+1:=by omega
   rw[this];exact he₂
  ·exact hit₁.extBut hs₂.extBut (Ne.symm hne)
  ·have hb2:b=e∨b=it:=by simpa using hb
   rw[upd_ne]
   ·exact(hf b hb).1
   ·rcases hb2 with z|z
    ·rw[z];exact Nat.ne_of_lt heH
    ·rw[z];exact Nat.ne_of_lt hiH
 done:=by
  intro X hP hw hK hc i pins s σ H E I hf st hg
  subst hP hw hK
  obtain⟨xs,hq,hx⟩:=hg
  obtain⟨⟨old,he⟩,hit⟩:=st
  obtain⟨its,rv,p,hz⟩:=I.list hq
  obtain⟨f0,f1,f2,f3,f4,f5⟩:=hf it (by simp)
  have hl:=rv.length
  exact wpAny_pyNext_enum_end (I.ok.hd hc) he hit p.isList (by simp;omega) fun h' eb=>⟨rfl,I.turned (t':=s.toks) (fun b o hb e=>eb b o hb e) f0 f1 f3 f4 f5⟩
 self:=fun _ _ _ _ _ st h=>by
  obtain⟨⟨old,he⟩,_⟩:=st
  exact wpAny_pyIter_enum he h
section
variable {X:Cx}{elts:List Expr}{x1:_}{tpos:Pos}
def iEnum (K:PySem.W.Frag) (ta:TA):TI:=fun σ H R=>ta σ H fun vs H1=>∃a,vs=[.ref a]∧(∃xs,SqL K H1 a xs)∧R (Ite K a) H1
theorem pi_enum {x1}{l:Expr}{ta:TA}{p pos:Pos}(hg:Gl X "enumerate") (hm:X.mg "enumerate" = none) (ha:PA X [l] ta) (hs:starEach [l] X.env=[(false,eval l X.env)]:=by rfl) :
  PI X (.Tuple elts x1 tpos) (.Call (.Name "enumerate" p) [l] [] pos) (iEnum X.K ta):=by
 intro pins s σ H R I h
 refine Call_ (ld_blt I hg hm bt_enumerate (PyProof.Rows.callWith_type1 (thn (ha pos pins s σ H _ I h) fun us s1 ⟨vs,H1,I1,r1,q1⟩=>?_) hs rfl))
 obtain⟨a,rfl,⟨xs,hq⟩,q⟩:=q1
 obtain⟨u,rfl,ru⟩:=vals1 r1
 cases ru
 obtain⟨its,rv,pl,hz⟩:=I1.list hq
 refine call_enumerate_list pl.isList fun h' he hit hsz hk=>?_
 refine wpAny_pyIter_enum he ?_
 have I2:Inv X pins σ H1 { s1 with heap:=h' }:=I1.kept (t':=s1.toks) hk
 refine⟨s1.heap.objs.size+1,[s1.heap.objs.size+1,s1.heap.objs.size],_,_,H1,rfl,I2,turn_enum a (s1.heap.objs.size+1) s1.heap.objs.size (Nat.succ_ne_self _),⟨⟨_,he⟩,hit⟩,fun b hb=>?_,q⟩
 have hb2:b=s1.heap.objs.size+1∨b=s1.heap.objs.size:=by simpa using hb
 rcases hb2 with rfl|rfl
 ·exact I1.fpOk (Nat.le_succ _) (I1.hok.fresh (Nat.le_succ _))
 ·exact I1.fpOk (Nat.le_refl _) (I1.hok.fresh (Nat.le_refl _))
end
section
variable {K:PySem.W.Frag}{H:Hp}{Q:VK}{σ:St}
theorem rd_ienum {ta:TA}{R:It→Hp→Prop}(h:ta σ H fun vs H1=>∃a,vs=[.ref a]∧(∃xs,SqL K H1 a xs)∧R (Ite K a) H1):iEnum K ta σ H R:=h
theorem for_enum {a:Addr}{xs:List V}{g:TG}{tb:TS}{D:Ends}(Pv:Nat→St→Hp→Prop) (h0:Pv 0 σ H) (hl:∀i σ H,i≤xs.length→Pv i σ H→SqL K H a xs)
  (hs:∀i x σ H t,xs[i]? = some x→Pv i σ H→H t=none→g (.ref t) σ (upd H t (.tup [.int i,x])) fun σ2 H2=>tb { D with nx:=Pv (i+1),ct:=Pv (i+1),bk:=D.nx } σ2 H2) (hd:∀σ H,Pv xs.length σ H→D.nx σ H) :
  ∃W:Nat→Nat→St→Hp→Prop,(∃m,W 0 m σ H)∧∀i m σ H,W i m σ H →
   ((Ite K a).stop i H∧D.nx σ H) ∨((Ite K a).go i H∧∃N:St→Hp→Prop,(∀σ' H',N σ' H'→∃m',m'<m∧W (i+1) m' σ' H')∧∀x H',(Ite K a).yld i H x H'→g x σ H' fun σ2 H2=>tb { D with nx:=N,ct:=N,bk:=D.nx } σ2 H2):=by
 refine⟨fun i m σ H=>m=xs.length-i∧i≤xs.length∧Pv i σ H,⟨xs.length,by simp,Nat.zero_le _,h0⟩,?_⟩
 rintro i m σ H ⟨rfl,hi,p⟩
 have q:=hl i σ H hi p
 by_cases hlt:i<xs.length
 ·refine .inr ⟨⟨xs,xs[i],q,by simp[hlt]⟩,Pv (i+1),fun σ2 H2 p'=>⟨xs.length-(i+1),by omega,rfl,hlt,p'⟩,fun x H2 y=>?_⟩
  obtain⟨t,z,nt,rfl,rfl,hz⟩:=y
  exact hs i z σ H t (hz xs q) p nt
 ·have e:i=xs.length:=by omega
  subst e
  exact .inl ⟨⟨xs,q,Nat.le_refl _⟩,hd σ H p⟩
end
section
variable {X:Cx}{K:PySem.W.Frag}{tg:Expr}
theorem pi_listK {l:Expr}{tl:TE}(h:X.K=K) (hl:PE X l tl):PI X tg l (iList K tl):=by subst h;exact pi_list hl
end
theorem blkOkM {X:Cx}{k n g c}{scope:Scope}{N vs fs:List Str}{js:List Nat}(hs:X.env.scope = { kind:=k,names:=n,isGenerator:=g,isCoroutine:=c }) (hN:X.N=N)
  (h:blkB { kind:=k,names:=n,isGenerator:=g,isCoroutine:=c } scope N vs fs js=true):BlkOk X scope vs fs js:=blkOk h hs hN
section
variable {prog:Program}{w:World}{A:Around}{E:Value→Shared→Prop}{s:Shared}
def LtOk (prog:Program) (w:World) (A:Around) (E:Value→Shared→Prop) (s:Shared) (ltb:Keyed→Keyed→Bool) (S:Keyed→Prop) (κ:SortKind):Prop :=
 ∀(x y:Keyed) (st:SortSt) (Q:Option Bool→SortSt→Prop),S x→S y→kindOf st=κ→Q (some (ltb x y)) st→wpS (model prog w) A E s (lt' x y) Q st
variable {ltb:Keyed→Keyed→Bool}{S:Keyed→Prop}{κ:SortKind}
theorem wpS_elem {ar:Array Keyed}{i:Nat}{x:Keyed}{st:SortSt}{Q:Keyed→SortSt→Prop}(h:ar[i]? = some x) (q:Q x st):wpS (model prog w) A E s (elem' ar i) Q st:=by
 rw[elem'_eq,h];exact wpS_pure q
end
structure OrdB (ltb:Keyed→Keyed→Bool):Prop where
 asym:∀{x y},ltb x y=true→ltb y x=false
 tr:∀{x y z},ltb y x=false→ltb z y=false→ltb z x=false
def leB (ltb:Keyed→Keyed→Bool) (x y:Keyed):Prop:=ltb y x=false
section
variable {ltb:Keyed→Keyed→Bool}{xa xb ou:List Keyed}{ja jb k:Nat}
theorem drop_take_split {α:Type}(l:List α) (j k:Nat):l.drop j =(l.drop j).take k++l.drop (j+k):=by
 rw[← List.drop_drop];exact(List.take_append_drop k (l.drop j)).symm
structure MI (ltb:Keyed→Keyed→Bool) (xa xb ou:List Keyed) (ja jb:Nat):Prop where
 srt:ou.Pairwise (leB ltb)
 la:∀x∈ou,∀y∈xa.drop ja,leB ltb x y
 lb:∀x∈ou,∀y∈xb.drop jb,leB ltb x y
 pm:(ou++(xa.drop ja++xb.drop jb)).Perm (xa++xb)
 sz:ou.length=ja+jb
end
def flipB (ltb:Keyed→Keyed→Bool):Keyed→Keyed→Bool:=fun x y=>ltb y x
section
variable {ltb:Keyed→Keyed→Bool}{xa xb ou:Array Keyed}{na nb k:Nat}
def HI (ltb:Keyed→Keyed→Bool) (xa xb ou:Array Keyed) (na nb:Nat):Prop:=MI (flipB ltb) xb.toList.reverse xa.toList.reverse ou.toList (xb.size-nb) (xa.size-na)
end
section
variable {prog:Program}{w:World}{A:Around}{E:Value→Shared→Prop}{s:Shared}{ltb:Keyed→Keyed→Bool}{S:Keyed→Prop}{κ:SortKind}
theorem at_seg {ar:Array Keyed}{P R T:List Keyed}(h:ar.toList=P++R++T) (i:Nat) (hi:i<R.length):ar[P.length+i]? = R[i]?:=by
 have:ar.toList[P.length+i]? = R[i]?:=by
  rw[h,List.append_assoc,List.getElem?_append_right (by omega),Nat.add_sub_cancel_left,List.getElem?_append_left hi]
 simpa using this
end
def insB (R:List Keyed) (k l:Nat):List Keyed:=R.take l++((R.drop k).take 1++((R.take k).drop l++R.drop (k+1)))
theorem insB_perm (R:List Keyed) {k l:Nat}(h:l≤k):(insB R k l).Perm R:=by
 unfold insB
 have e1:R.take k=R.take l++(R.take k).drop l:=by
  conv=>lhs;rw[← List.take_append_drop l (R.take k)]
  rw[List.take_take,Nat.min_eq_left h]
 have e2:R=R.take k++((R.drop k).take 1++R.drop (k+1)):=by
  conv=>lhs;rw[← List.take_append_drop k R,drop_take_split R k 1]
 conv=>rhs;rw[e2]
 rw[e1,List.append_assoc]
 refine List.Perm.append_left _ ?_
 have e3:List.drop l (R.take l++(R.take k).drop l) =(R.take k).drop l:=by rw[← e1]
 rw[e3]
 rw[← List.append_assoc,← List.append_assoc]
 exact List.Perm.append_right _ List.perm_append_comm
theorem insB_get (R:List Keyed) {k l:Nat}(hk:k<R.length) (hl:l≤k) (p:Nat):(insB R k l)[p]? = if p=l then R[k]? else if l<p∧p≤k then R[p-1]? else R[p]?:=by
 unfold insB
 have len1:(R.take l).length=l:=by rw[List.length_take];omega
 have len2:((R.drop k).take 1).length=1:=by rw[List.length_take,List.length_drop];omega
 have len3:((R.take k).drop l).length=k-l:=by rw[List.length_drop,List.length_take];omega
 by_cases c1:p<l
 ·rw[List.getElem?_append_left (by omega),if_neg (by omega),if_neg (by omega),List.getElem?_take,if_pos c1]
 rw[List.getElem?_append_right (by omega),len1]
 by_cases c2:p=l
 ·rw[if_pos c2,List.getElem?_append_left (by omega),List.getElem?_take,if_pos (by omega),List.getElem?_drop]
  congr 1;omega
 rw[if_neg c2,List.getElem?_append_right (by omega),len2]
 by_cases c3:p≤k
 ·rw[if_pos ⟨by omega,c3⟩,List.getElem?_append_left (by omega),List.getElem?_drop,List.getElem?_take,if_pos (by omega)]
  congr 1;omega
 ·rw[if_neg (by omega),List.getElem?_append_right (by omega),len3,List.getElem?_drop]
  congr 1;omega
theorem bubble_list {ar:Array Keyed}{P R T:List Keyed}(h:ar.toList=P++R++T) {k l:Nat}(hk:k<R.length) (hl:l≤k):(bubble ar (P.length+k) (k-l)).toList=P++insB R k l++T:=by
 have hsz:ar.size=P.length+R.length+T.length:=by
  have:=congrArg List.length h
  rw[Array.length_toList]at this
  simp at this;omega
 have hil:(insB R k l).length=R.length:=(insB_perm R hl).length_eq
 apply List.ext_getElem?
 intro p
 rw[Array.getElem?_toList,getElem?_bubble (by omega) _ (by omega) p,show P.length+k-(k-l)=P.length+l by omega]
 have get:∀q,ar[q]? =(P++R++T)[q]?:=fun q=>by rw[← h,Array.getElem?_toList]
 by_cases c1:p<P.length
 ·rw[if_neg (by omega),if_neg (by omega),get,List.append_assoc,List.append_assoc,List.getElem?_append_left c1,List.getElem?_append_left c1]
 ·by_cases c2:p<P.length+R.length
  ·have eR:(P++insB R k l++T)[p]? =(insB R k l)[p-P.length]?:=by
    rw[List.append_assoc,List.getElem?_append_right (by omega),List.getElem?_append_left (by omega)]
   have eg:∀q,P.length≤q→q<P.length+R.length→ar[q]? = R[q-P.length]?:=fun q h1 h2=>by
    rw[get,List.append_assoc,List.getElem?_append_right h1,List.getElem?_append_left (by omega)]
   rw[eR,insB_get R hk hl]
   by_cases c3:p=P.length+l
   ·rw[if_pos c3,if_pos (show p-P.length=l by omega),eg _ (by omega) (by omega)];congr 1;omega
   ·rw[if_neg c3,if_neg (show ¬ p-P.length=l by omega)]
    by_cases c4:P.length+l<p∧p≤P.length+k
    ·rw[if_pos c4,if_pos (show l<p-P.length∧p-P.length≤k by omega),eg _ (by omega) (by omega)];congr 1;omega
    ·rw[if_neg c4,if_neg (show ¬(l<p-P.length∧p-P.length≤k) by omega),eg _ (by omega) (by omega)]
  ·rw[if_neg (by omega),if_neg (by omega),get,List.append_assoc,List.append_assoc,List.getElem?_append_right (by omega),List.getElem?_append_right (by omega),List.getElem?_append_right (by omega),List.getElem?_append_right (by omega),hil]
section
variable {prog:Program}{w:World}{A:Around}{E:Value→Shared→Prop}{s:Shared}{ltb:Keyed→Keyed→Bool}{S:Keyed→Prop}{κ:SortKind}
theorem wpS_ltAtB (hO:LtOk prog w A E s ltb S κ) {st:SortSt}{i j:Nat}{x y:Keyed}{Q:Option Bool→SortSt→Prop}(hk:kindOf st=κ) (hi:(arrOf st)[i]? = some x) (hj:(arrOf st)[j]? = some y) (Sx:S x) (Sy:S y) (q:Q (some (ltb x y)) st):wpS (model prog w) A E s (ltAt' i j) Q st:=by
 rw[ltAt'_eq]
 refine wpS_bind (wpS_get ?_)
 exact wpS_bind (wpS_elem hi (wpS_bind (wpS_elem hj (hO x y st Q Sx Sy hk q))))
def RiseTo (ltb:Keyed→Keyed→Bool) (R:List Keyed) (k:Nat):Prop:=∀i j x y,i<j→j<k→R[i]? = some x→R[j]? = some y→leB ltb x y
theorem wpS_binB (O:OrdB ltb) (hO:LtOk prog w A E s ltb S κ) {st:SortSt}{Q:Bool→SortSt→Prop}{P R T:List Keyed}{ok:Nat}(hk:kindOf st=κ) (hf:failedOf st=none) (harr:(arrOf st).toList=P++R++T) (hok:ok≤R.length) (hr:RiseTo ltb R ok) (hSa:∀x∈R,S x)
  (h:∀(st':SortSt) (R':List Keyed),(arrOf st').toList=P++R'++T→R'.Perm R→RiseTo ltb R' R'.length→kindOf st'=κ→failedOf st'=none→pendingOf st'=pendingOf st→Q true st'):wpS (model prog w) A E s (binarySort' P.length R.length ok) Q st:=by
 rw[binarySort'_eq]
 refine wpS_bind (wpS_mono (wpS_forRange (I:=fun k c st'=>c =(none,())∧kindOf st'=κ∧failedOf st'=none∧pendingOf st'=pendingOf st∧∃R',(arrOf st').toList=P++R'++T∧R'.Perm R∧RiseTo ltb R' (min k R.length))
  (Q:=fun c st'=>c =(none,())∧kindOf st'=κ∧failedOf st'=none∧pendingOf st'=pendingOf st∧∃R',(arrOf st').toList=P++R'++T∧R'.Perm R∧RiseTo ltb R' R.length) ?step ?fin ⟨rfl,hk,hf,rfl,R,harr,List.Perm.refl _,?init⟩) ?post)
 case init =>
  intro i j x y hij hj hx hy
  exact hr i j x y hij (by omega) hx hy
 case fin =>
  rintro c st' ⟨hc,k1,k2,k3,R',a1,a2,a3⟩
  exact⟨hc,k1,k2,k3,R',a1,a2,fun i j x y hij hj=>a3 i j x y hij (by omega)⟩
 case post =>
  rintro c st' ⟨rfl,k1,k2,k3,R',a1,a2,a3⟩
  exact wpS_pure (h st' R' a1 a2 (by rw[a2.length_eq];exact a3) k1 k2 k3)
 case step =>
  rintro k c st' h1 hkn ⟨rfl,k1,k2,k3,R',a1,a2,a3⟩
  rw[show min k R.length=k by omega]at a3
  have hlen:=a2.length_eq
  have hS':∀x∈R',S x:=fun x hx=>hSa x (a2.mem_iff.mp hx)
  have gt:∀i,i<R'.length→(arrOf st')[P.length+i]? = R'[i]?:=fun i hi=>at_seg a1 i hi
  obtain⟨v,hv⟩ : ∃v,R'[k]? = some v:=⟨_,List.getElem?_eq_getElem (by omega)⟩
  have Sv:=hS' v (List.mem_of_getElem? hv)
  refine wpS_bind (wpS_mono (wpS_forRange (I:=fun x c st''=>st''=st'∧∃l r,c =(none,l,r)∧l≤r∧r≤k∧r-l≤k-x∧(∀i x,i<l→R'[i]? = some x→leB ltb x v)∧(∀i x,r≤i→i<k→R'[i]? = some x→ltb v x=true))
   (Q:=fun c st''=>st''=st'∧∃l r,c =(none,l,r)∧l≤k∧(∀i x,i<l→R'[i]? = some x→leB ltb x v)∧(∀i x,l≤i→i<k→R'[i]? = some x→ltb v x=true)) ?istep ?ifin ⟨rfl,0,k,rfl,by omega,by omega,by omega,fun i x hi=>by omega,fun i x h1 h2=>by omega⟩) ?ipost)
  case ifin =>
   rintro c st'' ⟨rfl,l,r,rfl,b1,b2,b3,b4,b5⟩
   have:l=r:=by omega
   subst this
   exact⟨rfl,l,l,rfl,b2,b4,b5⟩
  case istep =>
   rintro x c st'' _ hxk ⟨e,l,r,rfl,b1,b2,b3,b4,b5⟩
   rw[e]
   dsimp only
   by_cases hge:l ≥ r
   ·rw[if_pos hge]
    have:l=r:=by omega
    subst this
    exact wpS_pure ⟨rfl,l,l,rfl,b2,b4,b5⟩
   ·rw[if_neg hge]
    obtain⟨u,hu⟩ : ∃u,R'[(l+r) / 2]? = some u:=⟨_,List.getElem?_eq_getElem (by omega)⟩
    refine wpS_bind (wpS_ltAtB hO k1 (by rw[gt k (by omega)];exact hv) (by rw[gt _ (by omega)];exact hu) Sv (hS' u (List.mem_of_getElem? hu)) ?_)
    dsimp only
    cases hw:ltb v u with
    | true =>
     simp only[if_true]
     refine wpS_pure ⟨rfl,l,(l+r) / 2,rfl,by omega,by omega,by omega,b4,fun i y q1 q2 hy=>?_⟩
     by_cases ei:i =(l+r) / 2
     ·subst ei;rw[hu]at hy;cases hy;exact hw
     ·have le1:=a3 ((l+r) / 2) i u y (by omega) q2 hu hy
      cases q:ltb v y with
      | true=>rfl
      | false=>have:=O.tr le1 q;rw[hw]at this;cases this
    | false =>
     simp only[Bool.false_eq_true,if_false]
     refine wpS_pure ⟨rfl,(l+r) / 2+1,r,rfl,by omega,by omega,by omega,fun i y q1 hy=>?_,b5⟩
     by_cases ei:i =(l+r) / 2
     ·subst ei;rw[hu]at hy;cases hy;exact hw
     ·exact O.tr (a3 i ((l+r) / 2) y u (by omega) (by omega) hy hu) hw
  case ipost =>
   rintro c st'' ⟨e,l,r,rfl,b1,b4,b5⟩
   rw[e]
   show wpS _ _ _ _ (do moveDown' (P.length+k) (P.length+l);pure (ForInStep.yield (none,()))) _ _
   rw[moveDown'_eq]
   refine wpS_bind (wpS_modify (wpS_pure ⟨rfl,k1,k2,k3,insB R' k l,?_,(insB_perm R' b1).trans a2,?_⟩))
   ·show(bubble (arrOf st') (P.length+k) (P.length+k-(P.length+l))).toList=_
    rw[show P.length+k-(P.length+l)=k-l by omega]
    exact bubble_list a1 (by omega) b1
   ·rw[show min (k+1) R.length=k+1 by omega]
    intro i j x y hij hj hx hy
    rw[insB_get R' (by omega) b1]at hx hy
    by_cases i1:i=l
    ·rw[if_pos i1,hv]at hx
     cases hx
     rw[if_neg (by omega),if_pos (by omega)]at hy
     exact O.asym (b5 (j-1) y (by omega) (by omega) hy)
    rw[if_neg i1]at hx
    by_cases i2:l<i∧i≤k
    ·rw[if_pos i2]at hx
     rw[if_neg (by omega),if_pos (by omega)]at hy
     exact a3 (i-1) (j-1) x y (by omega) (by omega) hx hy
    rw[if_neg i2]at hx
    by_cases j1:j=l
    ·rw[if_pos j1,hv]at hy
     cases hy
     exact b4 i x (by omega) hx
    rw[if_neg j1]at hy
    by_cases j2:l<j∧j≤k
    ·rw[if_pos j2]at hy
     exact a3 i (j-1) x y (by omega) (by omega) hx hy
    ·rw[if_neg j2]at hy
     exact a3 i j x y hij (by omega) hx hy
end
def revB (R:List Keyed) (i j:Nat):List Keyed:=R.take i++(((R.take j).drop i).reverse++R.drop j)
theorem revB_perm (R:List Keyed) {i j:Nat}(h:i≤j):(revB R i j).Perm R:=by
 unfold revB
 have e1:R.take j=R.take i++(R.take j).drop i:=by
  conv=>lhs;rw[← List.take_append_drop i (R.take j)]
  rw[List.take_take,Nat.min_eq_left h]
 have:(R.take i++(((R.take j).drop i).reverse++R.drop j)).Perm (R.take i++((R.take j).drop i++R.drop j)):=List.Perm.append_left _ (List.Perm.append_right _ (List.reverse_perm _))
 refine this.trans (List.Perm.of_eq ?_)
 rw[← List.append_assoc,← e1,List.take_append_drop]
theorem revB_get (R:List Keyed) {i j:Nat}(hj:j≤R.length) (h:i≤j) (p:Nat):(revB R i j)[p]? = if i≤p∧p<j then R[i+j-1-p]? else R[p]?:=by
 unfold revB
 have len1:(R.take i).length=i:=by rw[List.length_take];omega
 have len2:((R.take j).drop i).length=j-i:=by rw[List.length_drop,List.length_take];omega
 by_cases c1:p<i
 ·rw[List.getElem?_append_left (by omega),if_neg (by omega),List.getElem?_take,if_pos c1]
 rw[List.getElem?_append_right (by omega),len1]
 by_cases c2:p<j
 ·rw[if_pos ⟨by omega,c2⟩,List.getElem?_append_left (by rw[List.length_reverse];omega),List.getElem?_reverse (by omega),len2,List.getElem?_drop,List.getElem?_take,if_pos (by omega)]
  congr 1;omega
 ·rw[if_neg (by omega),List.getElem?_append_right (by rw[List.length_reverse];omega),List.length_reverse,len2,List.getElem?_drop]
  congr 1;omega
theorem mirror_list {ar:Array Keyed}{P R:List Keyed}(h:ar.toList=P++R) {i j:Nat}(hj:j≤R.length) (hi:i≤j):(mirror ar (P.length+i) (P.length+j) ((P.length+j-(P.length+i)) / 2)).toList=P++revB R i j:=by
 have hsz:ar.size=P.length+R.length:=by
  have:=congrArg List.length h
  rw[Array.length_toList]at this
  simp at this;omega
 apply List.ext_getElem?
 intro p
 rw[Array.getElem?_toList,getElem?_mirror_all (by omega) p]
 have get:∀q,ar[q]? =(P++R)[q]?:=fun q=>by rw[← h,Array.getElem?_toList]
 by_cases c1:p<P.length
 ·rw[if_neg (by omega),get,List.getElem?_append_left c1,List.getElem?_append_left c1]
 ·rw[List.getElem?_append_right (by omega),revB_get R hj hi]
  by_cases c2:P.length+i≤p∧p<P.length+j
  ·rw[if_pos c2,if_pos (show i≤p-P.length∧p-P.length<j by omega),get,List.getElem?_append_right (by omega)]
   congr 1;omega
  ·rw[if_neg c2,if_neg (show ¬(i≤p-P.length∧p-P.length<j) by omega),get,List.getElem?_append_right (by omega)]
theorem OrdB.refl {ltb:Keyed→Keyed→Bool}(O:OrdB ltb) (x:Keyed):leB ltb x x:=by
 unfold leB
 cases q:ltb x x with
 | false=>rfl
 | true=>have:=O.asym q;rw[q]at this;cases this
def FallTo (ltb:Keyed→Keyed→Bool) (R:List Keyed) (k:Nat):Prop:=∀i j x y,i<j→j<k→R[i]? = some x→R[j]? = some y→leB ltb y x
def EqSeg (ltb:Keyed→Keyed→Bool) (R:List Keyed) (a b:Nat):Prop:=∀i j x y,a≤i→i<b→a≤j→j<b→R[i]? = some x→R[j]? = some y→leB ltb x y
section
variable {ltb:Keyed→Keyed→Bool}{R:List Keyed}
theorem RiseTo.more (O:OrdB ltb) {n:Nat}(h:RiseTo ltb R n) (hn:1≤n) {u v:Keyed}(hu:R[n-1]? = some u) (hv:R[n]? = some v) (c:leB ltb u v):RiseTo ltb R (n+1):=by
 intro i j x y hij hj hx hy
 by_cases e:j=n
 ·subst e
  rw[hv]at hy;cases hy
  by_cases e2:i=j-1
  ·subst e2;rw[hu]at hx;cases hx;exact c
  ·exact O.tr (h i (j-1) x u (by omega) (by omega) hx hu) c
 ·exact h i j x y hij (by omega) hx hy
theorem FallTo.more (O:OrdB ltb) {n:Nat}(h:FallTo ltb R n) (hn:1≤n) {u v:Keyed}(hu:R[n-1]? = some u) (hv:R[n]? = some v) (c:leB ltb v u):FallTo ltb R (n+1):=by
 intro i j x y hij hj hx hy
 by_cases e:j=n
 ·subst e
  rw[hv]at hy;cases hy
  by_cases e2:i=j-1
  ·subst e2;rw[hu]at hx;cases hx;exact c
  ·exact O.tr c (h i (j-1) x u (by omega) (by omega) hx hu)
 ·exact h i j x y hij (by omega) hx hy
theorem FallTo.seg {n a:Nat}(h:FallTo ltb R n) (ha:a≤n) (hn:n≤R.length) (e:EqSeg ltb R a n):FallTo ltb (revB R a n) n:=by
 intro i j x y hij hj hx hy
 rw[revB_get R hn ha]at hx hy
 by_cases c1:a≤i
 ·rw[if_pos ⟨c1,by omega⟩]at hx
  rw[if_pos ⟨by omega,hj⟩]at hy
  exact e _ _ y x (by omega) (by omega) (by omega) (by omega) hy hx
 ·rw[if_neg (by omega)]at hx
  by_cases c2:a≤j
  ·rw[if_pos ⟨c2,hj⟩]at hy
   exact h i _ x y (by omega) (by omega) hx hy
  ·rw[if_neg (by omega)]at hy
   exact h i j x y hij hj hx hy
theorem FallTo.turn {n:Nat}(h:FallTo ltb R n) (hn:n≤R.length):RiseTo ltb (revB R 0 n) n:=by
 intro i j x y hij hj hx hy
 rw[revB_get R hn (Nat.zero_le _),if_pos ⟨Nat.zero_le _,by omega⟩]at hx
 rw[revB_get R hn (Nat.zero_le _),if_pos ⟨Nat.zero_le _,hj⟩]at hy
 exact h _ _ y x (by omega) (by omega) hy hx
end
section
variable {prog:Program}{w:World}{A:Around}{E:Value→Shared→Prop}{s:Shared}{ltb:Keyed→Keyed→Bool}{S:Keyed→Prop}{κ:SortKind}
structure ZS (κ:SortKind) (st:SortSt) (P R:List Keyed) (st':SortSt) (R':List Keyed):Prop where
 kind:kindOf st'=κ
 fail:failedOf st'=none
 pend:pendingOf st'=pendingOf st
 arr:(arrOf st').toList=P++R'
 perm:R'.Perm R
theorem ZS.rev {st st':SortSt}{P R R':List Keyed}(z:ZS κ st P R st' R') {i j:Nat}(hj:j≤R'.length) (hi:i≤j):ZS κ st P R (setArr st' (mirror (arrOf st') (P.length+i) (P.length+j) ((P.length+j-(P.length+i)) / 2))) (revB R' i j) :=
 ⟨z.kind,z.fail,z.pend,mirror_list z.arr hj hi,(revB_perm R' hi).trans z.perm⟩
theorem ZS.at {st st':SortSt}{P R R':List Keyed}(z:ZS κ st P R st' R') (i:Nat) (hi:i<R'.length):(arrOf st')[P.length+i]? = R'[i]?:=at_seg (T:=[]) (by rw[List.append_nil];exact z.arr) i hi
theorem ZS.ask (hO:LtOk prog w A E s ltb S κ) {st st':SortSt}{P R R':List Keyed}(z:ZS κ st P R st' R') (hS:∀x∈R,S x) {a b i j:Nat}(ea:a=P.length+i) (eb:b=P.length+j) (hi:i<R'.length) (hj:j<R'.length) {Q:Option Bool→SortSt→Prop}(q:∀x y,R'[i]? = some x→R'[j]? = some y→Q (some (ltb x y)) st') :
  wpS (model prog w) A E s (ltAt' a b) Q st':=by
 have m:∀x,x∈R'→S x:=fun x hx=>hS x (z.perm.mem_iff.mp hx)
 obtain⟨x,hx⟩ : ∃x,R'[i]? = some x:=⟨_,List.getElem?_eq_getElem hi⟩
 obtain⟨y,hy⟩ : ∃y,R'[j]? = some y:=⟨_,List.getElem?_eq_getElem hj⟩
 exact wpS_ltAtB hO z.kind (by rw[ea,z.at i hi];exact hx) (by rw[eb,z.at j hj];exact hy) (m x (List.mem_of_getElem? hx)) (m y (List.mem_of_getElem? hy)) (q x y hx hy)
theorem wpS_runB (O:OrdB ltb) (hO:LtOk prog w A E s ltb S κ) {st:SortSt}{Q:Option Nat→SortSt→Prop}{P R:List Keyed}(hk:kindOf st=κ) (hf:failedOf st=none) (harr:(arrOf st).toList=P++R) (hR:1≤R.length) (hS:∀x∈R,S x)
  (h:∀(st':SortSt) (R':List Keyed) (n:Nat),ZS κ st P R st' R'→1≤n→n≤R.length→RiseTo ltb R' n→Q (some n) st'):wpS (model prog w) A E s (countRun' P.length R.length) Q st:=by
 have z0:ZS κ st P R st R:=⟨hk,hf,rfl,harr,List.Perm.refl _⟩
 rw[countRun'_eq]
 refine wpS_bind (wpS_mono (wpS_forRange (I:=fun x c st'=>st'=st∧c =(none,x)∧RiseTo ltb R x∧x≤R.length)
  (Q:=fun c st'=>st'=st∧∃n,c =(none,n)∧1≤n∧n≤R.length∧RiseTo ltb R n∧(n<R.length→∀u v,R[n-1]? = some u→R[n]? = some v→ltb v u=true)) ?stp ?fin ⟨rfl,rfl,fun i j x y hij hj=>by omega,hR⟩) ?post)
 case fin =>
  rintro c st' ⟨rfl,rfl,a1,a2⟩
  exact⟨rfl,_,rfl,by omega,a2,a1,fun q=>by omega⟩
 case stp =>
  rintro x c st' hx1 hx2 ⟨est,rfl,a1,a2⟩
  rw[est]
  dsimp only
  refine wpS_bind (z0.ask hO hS (i:=x) (j:=x-1) rfl (by omega) hx2 (by omega) fun v u hv hu=>?_)
  dsimp only
  cases hw:ltb v u with
  | true =>
   simp only[if_true]
   exact wpS_pure ⟨rfl,x,rfl,hx1,a2,a1,fun _ u' v' hu' hv'=>by rw[hu]at hu';rw[hv]at hv';cases hu';cases hv';exact hw⟩
  | false =>
   simp only[Bool.false_eq_true,if_false]
   exact wpS_pure ⟨rfl,rfl,a1.more O hx1 hu hv hw,by omega⟩
 case post =>
  rintro c st' ⟨est,n,rfl,a1,a2,a3,a4⟩
  rw[est]
  dsimp only
  by_cases c1:n=R.length
  ·rw[if_pos (by simpa using c1)]
   exact wpS_pure (h st R n z0 a1 a2 a3)
  rw[if_neg (by simpa using c1)]
  have a4:=a4 (by omega)
  obtain⟨u0,hu0⟩ : ∃u,R[n-1]? = some u:=⟨_,List.getElem?_eq_getElem (by omega)⟩
  obtain⟨v0,hv0⟩ : ∃v,R[n]? = some v:=⟨_,List.getElem?_eq_getElem (by omega)⟩
  have hw0:=a4 u0 v0 hu0 hv0
  by_cases c2:n > 1
  ·rw[if_pos c2]
   refine wpS_bind (z0.ask hO hS (i:=0) (j:=n-1) rfl (by omega) (by omega) (by omega) fun f l hf0 hl0=>?_)
   rw[hu0]at hl0;cases hl0
   dsimp only
   cases hw1:ltb f u0 with
   | true =>
    simp only[if_true]
    exact wpS_pure (h st R n z0 a1 a2 a3)
   | false =>
    simp only[Bool.false_eq_true,if_false]
    rw[reverseSlice'_eq]
    refine wpS_bind (wpS_modify ?_)
    have z1:=z0.rev (i:=0) (j:=n) (by omega) (Nat.zero_le _)
    rw[Nat.add_zero]at z1
    have eq0:EqSeg ltb R 0 n:=fun i j x y _ i2 _ j2 hx hy=>by
     have t1:leB ltb x u0:=by
      by_cases e:i=n-1
      ·subst e;rw[hu0]at hx;cases hx;exact O.refl _
      ·exact a3 i (n-1) x u0 (by omega) (by omega) hx hu0
     have t2:leB ltb f y:=by
      by_cases e:j=0
      ·subst e;rw[hf0]at hy;cases hy;exact O.refl _
      ·exact a3 0 j f y (by omega) j2 hf0 hy
     exact O.tr (O.tr t1 hw1) t2
    have f1:FallTo ltb (revB R 0 n) (n+1):=by
     have ff:FallTo ltb R n:=fun i j x y hij hj hx hy=>eq0 j i y x (by omega) hj (by omega) (by omega) hy hx
     have fr:=ff.seg (a:=0) (by omega) (by omega) eq0
     obtain⟨u2,hu2⟩ : ∃u2,(revB R 0 n)[n-1]? = some u2:=⟨_,List.getElem?_eq_getElem (by rw[(revB_perm R (by omega)).length_eq];omega)⟩
     have hu3:=hu2
     rw[revB_get R (by omega) (by omega),if_pos (by omega)]at hu3
     refine fr.more O (by omega) hu2 (by rw[revB_get R (by omega) (by omega),if_neg (by omega)];exact hv0) (O.tr (O.asym hw0) (eq0 (n-1) _ u0 u2 (by omega) (by omega) (by omega) (by omega) hu0 hu3))
    generalize setArr st (mirror (arrOf st) P.length (P.length+n) ((P.length+n-P.length) / 2))=st1 at z1 ⊢
    generalize hR1:revB R 0 n=R1 at z1 f1
    refine wpS_bind (wpS_lift (wpAny_rule ⟨rfl,?_⟩))
    refine wpS_bind (wpS_mono (wpS_forRange (I:=fun x c st'=>∃R' q,c =(none,x,q)∧ZS κ st P R st' R'∧q+1≤x∧x≤R.length∧FallTo ltb R' x∧EqSeg ltb R' (x-(q+1)) x)
     (Q:=fun c st'=>∃R' m q,c =(none,m,q)∧ZS κ st P R st' R'∧q+1≤m∧m≤R.length∧FallTo ltb R' m∧EqSeg ltb R' (m-(q+1)) m) ?stp3 ?fin3 ⟨R1,0,rfl,z1,by omega,by omega,f1,fun i j x y i1 i2 j1 j2 hx hy=>by
      have e1:i=j:=by omega
      subst e1;rw[hx]at hy;cases hy;exact O.refl x⟩) ?post3)
    case fin3 =>
     rintro c st' ⟨R',q,rfl,b1,b2,b3,b4,b5⟩
     exact⟨R',_,q,rfl,b1,b2,b3,b4,b5⟩
    case stp3 =>
     rintro x c st' hx1 hx2 ⟨R',q,rfl,b1,b2,b3,b4,b5⟩
     have hl:=b1.perm.length_eq
     dsimp only
     refine wpS_bind (b1.ask hO hS (i:=x) (j:=x-1) rfl (by omega) (by omega) (by omega) fun v u hv hu=>?_)
     dsimp only
     cases hw:ltb v u with
     | true =>
      simp only[if_true]
      by_cases c6:q > 0
      ·rw[if_pos c6,reverseSlice'_eq]
       refine wpS_bind (wpS_modify ?_)
       have zr:=b1.rev (i:=x-(q+1)) (j:=x) (by omega) (by omega)
       have fr:=b4.seg (a:=x-(q+1)) (by omega) (by omega) b5
       have hv2:(revB R' (x-(q+1)) x)[x]? = some v:=by rw[revB_get R' (by omega) (by omega),if_neg (by omega)];exact hv
       obtain⟨u2,hu2⟩ : ∃u2,(revB R' (x-(q+1)) x)[x-1]? = some u2:=⟨_,List.getElem?_eq_getElem (by rw[(revB_perm R' (by omega)).length_eq];omega)⟩
       have hu3:=hu2
       rw[revB_get R' (by omega) (by omega),if_pos (by omega)]at hu3
       have cc:leB ltb v u2:=O.tr (O.asym hw) (b5 (x-1) _ u u2 (by omega) (by omega) (by omega) (by omega) hu hu3)
       refine wpS_pure ⟨_,0,rfl,?_,by omega,by omega,fr.more O (by omega) hu2 hv2 cc,fun i j x y i1 i2 j1 j2 hx hy=>by
        have e1:i=j:=by omega
        subst e1;rw[hx]at hy;cases hy;exact O.refl x⟩
       rw[show P.length+x-(q+1)=P.length+(x-(q+1)) by omega]
       exact zr
      ·rw[if_neg c6]
       exact wpS_pure ⟨R',0,rfl,b1,by omega,by omega,b4.more O (by omega) hu hv (O.asym hw),fun i j x y i1 i2 j1 j2 hx hy=>by
        have e1:i=j:=by omega
        subst e1;rw[hx]at hy;cases hy;exact O.refl x⟩
     | false =>
      simp only[Bool.false_eq_true,if_false]
      refine wpS_bind (b1.ask hO hS (i:=x-1) (j:=x) (by omega) rfl (by omega) (by omega) fun u' v' hu' hv'=>?_)
      rw[hu]at hu';cases hu'
      rw[hv]at hv';cases hv'
      dsimp only
      cases hw2:ltb u v with
      | true =>
       simp only[if_true]
       exact wpS_pure ⟨R',x,q,rfl,b1,b2,b3,b4,b5⟩
      | false =>
       simp only[Bool.false_eq_true,if_false]
       refine wpS_pure ⟨R',q+1,rfl,b1,by omega,by omega,b4.more O (by omega) hu hv hw2,fun i j p r i1 i2 j1 j2 hp hr=>?_⟩
       have toU:∀i p,x+1-(q+1+1)≤i→i<x+1→R'[i]? = some p→leB ltb p u∧leB ltb u p:=fun i p g1 g2 hp=>by
        by_cases e:i=x
        ·subst e;rw[hv]at hp;cases hp;exact⟨hw2,hw⟩
        ·exact⟨b5 i (x-1) p u (by omega) (by omega) (by omega) (by omega) hp hu,b5 (x-1) i u p (by omega) (by omega) (by omega) (by omega) hu hp⟩
       exact O.tr (toU i p (by omega) i2 hp).1 (toU j r (by omega) j2 hr).2
    case post3 =>
     rintro c st3 ⟨R',m,q,rfl,b1,b2,b3,b4,b5⟩
     have hl:=b1.perm.length_eq
     dsimp only
     by_cases c7:q > 0
     ·rw[if_pos c7,reverseSlice'_eq]
      refine wpS_bind (wpS_modify ?_)
      have zr:=b1.rev (i:=m-(q+1)) (j:=m) (by omega) (by omega)
      rw[show P.length+(m-(q+1))=P.length+m-(q+1) by omega]at zr
      have fr:=b4.seg (a:=m-(q+1)) (by omega) (by omega) b5
      have hl2:=zr.perm.length_eq
      generalize setArr st3 (mirror (arrOf st3) (P.length+m-(q+1)) (P.length+m) ((P.length+m-(P.length+m-(q+1))) / 2))=st4 at zr ⊢
      generalize revB R' (m-(q+1)) m=R4 at zr fr hl2
      rw[reverseSlice'_eq]
      refine wpS_bind (wpS_modify ?_)
      have z5:=zr.rev (i:=0) (j:=m) (by omega) (Nat.zero_le _)
      rw[Nat.add_zero]at z5
      have r5:=fr.turn (by omega)
      generalize setArr st4 (mirror (arrOf st4) P.length (P.length+m) ((P.length+m-P.length) / 2))=st5 at z5 ⊢
      refine wpS_bind (wpS_mono (wpS_forRange (I:=fun x c st'=>st'=st5∧c =(none,x)∧RiseTo ltb (revB R4 0 m) x∧x≤R.length)
       (Q:=fun c st'=>st'=st5∧∃n,c =(none,n)∧1≤n∧n≤R.length∧RiseTo ltb (revB R4 0 m) n) ?stp5 ?fin5 ⟨rfl,rfl,r5,by omega⟩) ?post5)
      case fin5 =>
       rintro c st' ⟨est,rfl,b1,b2⟩
       exact⟨est,_,rfl,by omega,b2,b1⟩
      case post5 =>
       rintro c st' ⟨est,n5,rfl,b1,b2,b3⟩
       rw[est]
       exact wpS_pure (h _ _ n5 z5 b1 b2 b3)
      case stp5 =>
       rintro x c st' hx1 hx2 ⟨est,rfl,b1,b2⟩
       rw[est]
       dsimp only
       refine wpS_bind (z5.ask hO hS (i:=x) (j:=x-1) rfl (by omega) (by rw[z5.perm.length_eq];exact hx2) (by rw[z5.perm.length_eq];omega) fun v u hv hu=>?_)
       dsimp only
       cases hw:ltb v u with
       | true =>
        simp only[if_true]
        exact wpS_pure ⟨rfl,x,rfl,by omega,b2,b1⟩
       | false =>
        simp only[Bool.false_eq_true,if_false]
        exact wpS_pure ⟨rfl,rfl,b1.more O (by omega) hu hv hw,by omega⟩
     ·rw[if_neg c7,reverseSlice'_eq]
      refine wpS_bind (wpS_modify ?_)
      have z5:=b1.rev (i:=0) (j:=m) (by omega) (Nat.zero_le _)
      rw[Nat.add_zero]at z5
      have r5:=b4.turn (by omega)
      generalize setArr st3 (mirror (arrOf st3) P.length (P.length+m) ((P.length+m-P.length) / 2))=st5 at z5 ⊢
      refine wpS_bind (wpS_mono (wpS_forRange (I:=fun x c st'=>st'=st5∧c =(none,x)∧RiseTo ltb (revB R' 0 m) x∧x≤R.length)
       (Q:=fun c st'=>st'=st5∧∃n,c =(none,n)∧1≤n∧n≤R.length∧RiseTo ltb (revB R' 0 m) n) ?stp5 ?fin5 ⟨rfl,rfl,r5,by omega⟩) ?post5)
      case fin5 =>
       rintro c st' ⟨est,rfl,b1,b2⟩
       exact⟨est,_,rfl,by omega,b2,b1⟩
      case post5 =>
       rintro c st' ⟨est,n5,rfl,b1,b2,b3⟩
       rw[est]
       exact wpS_pure (h _ _ n5 z5 b1 b2 b3)
      case stp5 =>
       rintro x c st' hx1 hx2 ⟨est,rfl,b1,b2⟩
       rw[est]
       dsimp only
       refine wpS_bind (z5.ask hO hS (i:=x) (j:=x-1) rfl (by omega) (by rw[z5.perm.length_eq];exact hx2) (by rw[z5.perm.length_eq];omega) fun v u hv hu=>?_)
       dsimp only
       cases hw:ltb v u with
       | true =>
        simp only[if_true]
        exact wpS_pure ⟨rfl,x,rfl,by omega,b2,b1⟩
       | false =>
        simp only[Bool.false_eq_true,if_false]
        exact wpS_pure ⟨rfl,rfl,b1.more O (by omega) hu hv hw,by omega⟩
  ·rw[if_neg c2]
   have e1:n=1:=by omega
   have f1:FallTo ltb R (n+1):=by
    have ff:FallTo ltb R n:=fun i j x y hij hj hx hy=>by omega
    exact ff.more O a1 hu0 hv0 (O.asym hw0)
   have z1:=z0
   have hR1:∃R1,R1=R:=⟨_,rfl⟩
   refine wpS_bind (wpS_lift (wpAny_rule ⟨rfl,?_⟩))
   refine wpS_bind (wpS_mono (wpS_forRange (I:=fun x c st'=>∃R' q,c =(none,x,q)∧ZS κ st P R st' R'∧q+1≤x∧x≤R.length∧FallTo ltb R' x∧EqSeg ltb R' (x-(q+1)) x)
    (Q:=fun c st'=>∃R' m q,c =(none,m,q)∧ZS κ st P R st' R'∧q+1≤m∧m≤R.length∧FallTo ltb R' m∧EqSeg ltb R' (m-(q+1)) m) ?stp3 ?fin3 ⟨R,0,rfl,z1,by omega,by omega,f1,fun i j x y i1 i2 j1 j2 hx hy=>by
     have e1:i=j:=by omega
     subst e1;rw[hx]at hy;cases hy;exact O.refl x⟩) ?post3)
   case fin3 =>
    rintro c st' ⟨R',q,rfl,b1,b2,b3,b4,b5⟩
    exact⟨R',_,q,rfl,b1,b2,b3,b4,b5⟩
   case stp3 =>
    rintro x c st' hx1 hx2 ⟨R',q,rfl,b1,b2,b3,b4,b5⟩
    have hl:=b1.perm.length_eq
    dsimp only
    refine wpS_bind (b1.ask hO hS (i:=x) (j:=x-1) rfl (by omega) (by omega) (by omega) fun v u hv hu=>?_)
    dsimp only
    cases hw:ltb v u with
    | true =>
     simp only[if_true]
     by_cases c6:q > 0
     ·rw[if_pos c6,reverseSlice'_eq]
      refine wpS_bind (wpS_modify ?_)
      have zr:=b1.rev (i:=x-(q+1)) (j:=x) (by omega) (by omega)
      have fr:=b4.seg (a:=x-(q+1)) (by omega) (by omega) b5
      have hv2:(revB R' (x-(q+1)) x)[x]? = some v:=by rw[revB_get R' (by omega) (by omega),if_neg (by omega)];exact hv
      obtain⟨u2,hu2⟩ : ∃u2,(revB R' (x-(q+1)) x)[x-1]? = some u2:=⟨_,List.getElem?_eq_getElem (by rw[(revB_perm R' (by omega)).length_eq];omega)⟩
      have hu3:=hu2
      rw[revB_get R' (by omega) (by omega),if_pos (by omega)]at hu3
      have cc:leB ltb v u2:=O.tr (O.asym hw) (b5 (x-1) _ u u2 (by omega) (by omega) (by omega) (by omega) hu hu3)
      refine wpS_pure ⟨_,0,rfl,?_,by omega,by omega,fr.more O (by omega) hu2 hv2 cc,fun i j x y i1 i2 j1 j2 hx hy=>by
       have e1:i=j:=by omega
       subst e1;rw[hx]at hy;cases hy;exact O.refl x⟩
      rw[show P.length+x-(q+1)=P.length+(x-(q+1)) by omega]
      exact zr
     ·rw[if_neg c6]
      exact wpS_pure ⟨R',0,rfl,b1,by omega,by omega,b4.more O (by omega) hu hv (O.asym hw),fun i j x y i1 i2 j1 j2 hx hy=>by
       have e1:i=j:=by omega
       subst e1;rw[hx]at hy;cases hy;exact O.refl x⟩
    | false =>
     simp only[Bool.false_eq_true,if_false]
     refine wpS_bind (b1.ask hO hS (i:=x-1) (j:=x) (by omega) rfl (by omega) (by omega) fun u' v' hu' hv'=>?_)
     rw[hu]at hu';cases hu'
     rw[hv]at hv';cases hv'
     dsimp only
     cases hw2:ltb u v with
     | true =>
      simp only[if_true]
      exact wpS_pure ⟨R',x,q,rfl,b1,b2,b3,b4,b5⟩
     | false =>
      simp only[Bool.false_eq_true,if_false]
      refine wpS_pure ⟨R',q+1,rfl,b1,by omega,by omega,b4.more O (by omega) hu hv hw2,fun i j p r i1 i2 j1 j2 hp hr=>?_⟩
      have toU:∀i p,x+1-(q+1+1)≤i→i<x+1→R'[i]? = some p→leB ltb p u∧leB ltb u p:=fun i p g1 g2 hp=>by
       by_cases e:i=x
       ·subst e;rw[hv]at hp;cases hp;exact⟨hw2,hw⟩
       ·exact⟨b5 i (x-1) p u (by omega) (by omega) (by omega) (by omega) hp hu,b5 (x-1) i u p (by omega) (by omega) (by omega) (by omega) hu hp⟩
      exact O.tr (toU i p (by omega) i2 hp).1 (toU j r (by omega) j2 hr).2
   case post3 =>
    rintro c st3 ⟨R',m,q,rfl,b1,b2,b3,b4,b5⟩
    have hl:=b1.perm.length_eq
    dsimp only
    by_cases c7:q > 0
    ·rw[if_pos c7,reverseSlice'_eq]
     refine wpS_bind (wpS_modify ?_)
     have zr:=b1.rev (i:=m-(q+1)) (j:=m) (by omega) (by omega)
     rw[show P.length+(m-(q+1))=P.length+m-(q+1) by omega]at zr
     have fr:=b4.seg (a:=m-(q+1)) (by omega) (by omega) b5
     have hl2:=zr.perm.length_eq
     generalize setArr st3 (mirror (arrOf st3) (P.length+m-(q+1)) (P.length+m) ((P.length+m-(P.length+m-(q+1))) / 2))=st4 at zr ⊢
     generalize revB R' (m-(q+1)) m=R4 at zr fr hl2
     rw[reverseSlice'_eq]
     refine wpS_bind (wpS_modify ?_)
     have z5:=zr.rev (i:=0) (j:=m) (by omega) (Nat.zero_le _)
     rw[Nat.add_zero]at z5
     have r5:=fr.turn (by omega)
     generalize setArr st4 (mirror (arrOf st4) P.length (P.length+m) ((P.length+m-P.length) / 2))=st5 at z5 ⊢
     refine wpS_bind (wpS_mono (wpS_forRange (I:=fun x c st'=>st'=st5∧c =(none,x)∧RiseTo ltb (revB R4 0 m) x∧x≤R.length)
      (Q:=fun c st'=>st'=st5∧∃n,c =(none,n)∧1≤n∧n≤R.length∧RiseTo ltb (revB R4 0 m) n) ?stp5 ?fin5 ⟨rfl,rfl,r5,by omega⟩) ?post5)
     case fin5 =>
      rintro c st' ⟨est,rfl,b1,b2⟩
      exact⟨est,_,rfl,by omega,b2,b1⟩
     case post5 =>
      rintro c st' ⟨est,n5,rfl,b1,b2,b3⟩
      rw[est]
      exact wpS_pure (h _ _ n5 z5 b1 b2 b3)
     case stp5 =>
      rintro x c st' hx1 hx2 ⟨est,rfl,b1,b2⟩
      rw[est]
      dsimp only
      refine wpS_bind (z5.ask hO hS (i:=x) (j:=x-1) rfl (by omega) (by rw[z5.perm.length_eq];exact hx2) (by rw[z5.perm.length_eq];omega) fun v u hv hu=>?_)
      dsimp only
      cases hw:ltb v u with
      | true =>
       simp only[if_true]
       exact wpS_pure ⟨rfl,x,rfl,by omega,b2,b1⟩
      | false =>
       simp only[Bool.false_eq_true,if_false]
       exact wpS_pure ⟨rfl,rfl,b1.more O (by omega) hu hv hw,by omega⟩
    ·rw[if_neg c7,reverseSlice'_eq]
     refine wpS_bind (wpS_modify ?_)
     have z5:=b1.rev (i:=0) (j:=m) (by omega) (Nat.zero_le _)
     rw[Nat.add_zero]at z5
     have r5:=b4.turn (by omega)
     generalize setArr st3 (mirror (arrOf st3) P.length (P.length+m) ((P.length+m-P.length) / 2))=st5 at z5 ⊢
     refine wpS_bind (wpS_mono (wpS_forRange (I:=fun x c st'=>st'=st5∧c =(none,x)∧RiseTo ltb (revB R' 0 m) x∧x≤R.length)
      (Q:=fun c st'=>st'=st5∧∃n,c =(none,n)∧1≤n∧n≤R.length∧RiseTo ltb (revB R' 0 m) n) ?stp5 ?fin5 ⟨rfl,rfl,r5,by omega⟩) ?post5)
     case fin5 =>
      rintro c st' ⟨est,rfl,b1,b2⟩
      exact⟨est,_,rfl,by omega,b2,b1⟩
     case post5 =>
      rintro c st' ⟨est,n5,rfl,b1,b2,b3⟩
      rw[est]
      exact wpS_pure (h _ _ n5 z5 b1 b2 b3)
     case stp5 =>
      rintro x c st' hx1 hx2 ⟨est,rfl,b1,b2⟩
      rw[est]
      dsimp only
      refine wpS_bind (z5.ask hO hS (i:=x) (j:=x-1) rfl (by omega) (by rw[z5.perm.length_eq];exact hx2) (by rw[z5.perm.length_eq];omega) fun v u hv hu=>?_)
      dsimp only
      cases hw:ltb v u with
      | true =>
       simp only[if_true]
       exact wpS_pure ⟨rfl,x,rfl,by omega,b2,b1⟩
      | false =>
       simp only[Bool.false_eq_true,if_false]
       exact wpS_pure ⟨rfl,rfl,b1.more O (by omega) hu hv hw,by omega⟩
end
def Offs:Nat→List (List Keyed)→List (Nat×Nat×Nat)→Prop
 | _,[],[]=>True
 | o,r::rs,p::ps=>p.1=o∧p.2.1=r.length∧Offs (o+r.length) rs ps
 | _,_,_=>False
theorem Offs.len:∀{o:Nat}{rs:List (List Keyed)}{ps:List (Nat×Nat×Nat)},Offs o rs ps→rs.length=ps.length
 | _,[],[],_=>rfl
 | _,_::_,_::_,⟨_,_,t⟩=>congrArg (· + 1) (Offs.len t)
theorem Offs.app:∀{o:Nat}{rs ts:List (List Keyed)}{ps qs:List (Nat×Nat×Nat)},Offs o rs ps→Offs (o+rs.flatten.length) ts qs→Offs o (rs++ts) (ps++qs)
 | o,[],ts,[],qs,_,h=>by simpa using h
 | o,r::rs,ts,p::ps,qs,⟨a,b,t⟩,h=>⟨a,b,Offs.app t (by rw[List.flatten_cons,List.length_append]at h;rw[Nat.add_assoc];exact h)⟩
section
variable {ltb:Keyed→Keyed→Bool}{κ:SortKind}
structure RI (ltb:Keyed→Keyed→Bool) (κ:SortKind) (a0:List Keyed) (st:SortSt) (rs:List (List Keyed)) (U:List Keyed):Prop where
 kind:kindOf st=κ
 fail:failedOf st=none
 arr:(arrOf st).toList=rs.flatten++U
 perm:(arrOf st).toList.Perm a0
 offs:Offs 0 rs (pendingOf st).toList
 rise:∀r∈rs,r.Pairwise (leB ltb)∧r ≠ []
end
section
variable {ltb:Keyed→Keyed→Bool}{κ:SortKind}{a0:List Keyed}{st:SortSt}{rs:List (List Keyed)}
theorem RI.push {run U2:List Keyed}{lo n:Nat}(ri:RI ltb κ a0 st rs (run++U2)) (h1:run.Pairwise (leB ltb)) (h2:run ≠ []) (el:lo=rs.flatten.length) (en:n=run.length):RI ltb κ a0 (setPending st ((pendingOf st).push (lo,n,0))) (rs ++ [run]) U2:=by
 refine⟨ri.kind,ri.fail,by show(arrOf st).toList=_;rw[ri.arr];simp,ri.perm,?_,fun r hr=>?_⟩
 ·show Offs 0 _ ((pendingOf st).push _).toList
  rw[Array.toList_push]
  exact Offs.app ri.offs ⟨by show lo=0+_;omega,en,trivial⟩
 ·rcases List.mem_append.mp hr with z|z
  ·exact ri.rise r z
  ·simp at z;rw[z];exact⟨h1,h2⟩
end
theorem rise_all {ltb:Keyed→Keyed→Bool}{R:List Keyed}(h:RiseTo ltb R R.length):R.Pairwise (leB ltb):=by
 rw[List.pairwise_iff_getElem]
 intro i j hi hj hij
 exact h i j _ _ hij hj (List.getElem?_eq_getElem hi) (List.getElem?_eq_getElem hj)
theorem rise_take {ltb:Keyed→Keyed→Bool}{R:List Keyed}{n:Nat}(h:RiseTo ltb R n) (hn:n≤R.length):(R.take n).Pairwise (leB ltb):=by
 apply rise_all
 intro i j x y hij hj hx hy
 rw[List.length_take]at hj
 rw[List.getElem?_take,if_pos (by omega)]at hx hy
 exact h i j x y hij (by omega) hx hy
section
variable {prog:Program}{w:World}{A:Around}{E:Value→Shared→Prop}{s:Shared}{ltb:Keyed→Keyed→Bool}{S:Keyed→Prop}{κ:SortKind}
theorem wpS_sortB (O:OrdB ltb) (hO:LtOk prog w A E s ltb S κ) {st:SortSt}{Q:Unit→SortSt→Prop}{a0:List Keyed}(hn:a0.length<64) (hk:kindOf st=κ) (hf:failedOf st=none) (harr:(arrOf st).toList=a0) (hp:pendingOf st = #[]) (hS:∀x∈a0,S x)
  (h:∀st',(arrOf st').toList.Perm a0→(arrOf st').toList.Pairwise (leB ltb)→failedOf st'=none→Q () st'):wpS (model prog w) A E s sortRuns' Q st:=by
 have hN:(arrOf st).size=a0.length:=by rw[← harr,Array.length_toList]
 rw[sortRuns'_eq]
 refine wpS_bind (wpS_get ?_)
 dsimp only
 rw[hN]
 have ri0:RI ltb κ a0 st [] a0:=⟨hk,hf,by rw[harr];rfl,by rw[harr],by rw[hp];exact trivial,fun r hr=>by cases hr⟩
 have split:∀{st' rs U},RI ltb κ a0 st' rs U→rs.flatten.length+U.length=a0.length:=fun {st' rs U} ri=>by
  have:=ri.perm.length_eq
  rw[ri.arr,List.length_append]at this;exact this
 refine wpS_bind (wpS_mono (wpS_forRange (I:=fun x c st'=>∃rs U,c =(none,rs.flatten.length)∧RI ltb κ a0 st' rs U∧x≤rs.flatten.length∧rs.length≤1∧(U=[]∨rs=[]))
  (Q:=fun c st'=>∃rs,c =(none,a0.length)∧RI ltb κ a0 st' rs []∧rs.length≤1) ?stp ?fin ⟨[],a0,rfl,ri0,Nat.zero_le _,Nat.zero_le _,.inr rfl⟩) ?post)
 case fin =>
  rintro c st' ⟨rs,U,rfl,ri,hx,l1,_⟩
  have:=split ri
  have hU:U=[]:=List.length_eq_zero_iff.mp (by omega)
  subst hU
  refine⟨rs,?_,ri,l1⟩
  rw[show rs.flatten.length=a0.length by omega]
 case post =>
  rintro c st1 ⟨rs,rfl,ri,l1⟩
  dsimp only
  refine wpS_bind (wpS_mono (wpS_forRange (I:=fun x c st'=>∃rs,c =(none,())∧RI ltb κ a0 st' rs []∧rs.length≤1)
   (Q:=fun c st'=>∃rs,c =(none,())∧RI ltb κ a0 st' rs []∧rs.length≤1) ?stp9 ?fin9 ⟨rs,rfl,ri,l1⟩) ?post9)
  case fin9 =>
   rintro c st' hh
   exact hh
  case post9 =>
   rintro c st' ⟨rs,rfl,ri,hl⟩
   refine wpS_pure (h st' ri.perm ?_ ri.fail)
   rw[ri.arr,List.append_nil]
   cases rs with
   | nil=>exact List.Pairwise.nil
   | cons r rs =>
    have:rs=[]:=by simp at hl;exact hl
    subst this
    simp
    exact(ri.rise r (by simp)).1
  case stp9 =>
   rintro x c st' _ hx ⟨rs,rfl,ri,hl⟩
   have hpl:(pendingOf st').size=rs.length:=by rw[← Array.length_toList,← ri.offs.len]
   refine wpS_bind (wpS_get ?_)
   try dsimp only
   rw[if_pos (by omega)]
   exact wpS_pure ⟨rs,rfl,ri,hl⟩
 case stp =>
  rintro x c st1 _ hx ⟨rs,U,rfl,ri,hxl,l1,ur⟩
  have hsp:=split ri
  dsimp only
  by_cases c1:rs.flatten.length ≥ a0.length
  ·rw[if_pos c1]
   have hU:U=[]:=List.length_eq_zero_iff.mp (by omega)
   subst hU
   refine wpS_pure ⟨rs,?_,ri,l1⟩
   rw[show rs.flatten.length=a0.length by omega]
  have hrs:rs=[]:=by
   rcases ur with e|e
   ·rw[e,List.length_nil]at hsp;omega
   ·exact e
  subst hrs
  have hUl:U.length=a0.length:=by simpa using hsp
  have hmr:minRun' a0.length a0.length 0=a0.length:=by
   cases e:a0.length with
   | zero=>rfl
   | succ k=>rw[minRun'_succ,if_pos (by omega)]
  have noB:∀{st':SortSt},pendingOf st'=pendingOf st1→(pendingOf st').back? = none:=fun {st'} e=>by
   have hpl:(pendingOf st1).size=0:=by rw[← Array.length_toList,← ri.offs.len];rfl
   rw[e,Array.back?_eq_getElem?]
   exact Array.getElem?_eq_none (by omega)
  rw[if_neg c1,show a0.length-([]:List (List Keyed)).flatten.length=U.length by omega]
  have hSU:∀x∈U,S x:=fun x hx=>hS x (ri.perm.mem_iff.mp (by rw[ri.arr];exact List.mem_append_right _ hx))
  refine wpS_bind (wpS_runB O hO (P:=([]:List (List Keyed)).flatten) (R:=U) ri.kind ri.fail ri.arr (by omega) hSU fun st2 R' n z n1 n2 rise=>?_)
  have lR':=z.perm.length_eq
  dsimp only
  rw[hmr]
  by_cases c2:n<a0.length
  ·rw[if_pos c2]
   refine wpS_bind (wpS_lift (wpAny_rule ⟨rfl,?_⟩))
   rw[show min U.length a0.length=R'.length by omega]
   refine wpS_bind (wpS_binB O hO (P:=([]:List (List Keyed)).flatten) (R:=R') (T:=[]) z.kind z.fail (by rw[z.arr,List.append_nil]) (by omega) (fun i j x y hij hj hx hy=>rise i j x y hij hj hx hy) (fun x hx=>hSU x (z.perm.mem_iff.mp hx)) fun st3 R3 a1 a2 a3 a4 a5 a6=>?_)
   simp only[Bool.not_true,Bool.false_eq_true,if_false]
   have l3:R3.length=R'.length:=a2.length_eq
   have r1:=rise_all a3
   have r2:R3 ≠ []:=fun e=>by rw[e]at l3;simp at l3;omega
   have rj:RI ltb κ a0 st3 [] (R3 ++ []):=⟨a4,a5,by rw[a1,List.append_assoc],by
    rw[a1]
    refine List.Perm.trans ?_ ri.perm
    rw[ri.arr,List.append_assoc]
    refine List.Perm.append_left _ ?_
    rw[List.append_nil]
    exact a2.trans z.perm,by rw[a6,z.pend];exact ri.offs,ri.rise⟩
   refine wpS_bind (wpS_get ?_)
   rw[noB (a6.trans z.pend)]
   dsimp only
   refine wpS_bind (wpS_modify (wpS_pure ⟨[R3],[],?_,rj.push r1 r2 rfl l3.symm,?_,Nat.le_refl _,.inl rfl⟩))
   ·simp[l3]
   ·have e1:[R3].flatten.length=a0.length:=by simp;omega
    omega
  ·rw[if_neg c2]
   have en:n=R'.length:=by omega
   subst en
   have r1:=rise_take rise (Nat.le_refl _)
   rw[List.take_length]at r1
   have r2:R' ≠ []:=fun e=>by rw[e]at n1;simp at n1
   have rj:RI ltb κ a0 st2 [] (R' ++ []):=⟨z.kind,z.fail,by rw[z.arr,List.append_nil],by
    rw[z.arr]
    refine List.Perm.trans ?_ ri.perm
    rw[ri.arr]
    exact List.Perm.append_left _ z.perm,by rw[z.pend];exact ri.offs,ri.rise⟩
   refine wpS_bind (wpS_get ?_)
   rw[noB z.pend]
   dsimp only
   refine wpS_bind (wpS_modify (wpS_pure ⟨[R'],[],?_,rj.push r1 r2 rfl rfl,?_,Nat.le_refl _,.inl rfl⟩))
   ·simp
   ·have e1:[R'].flatten.length=a0.length:=by simp;omega
    omega
end
section
variable {X:Cx}{K:PySem.W.Frag}
def rListOf (K:PySem.W.Frag):List V→Hp→VK→Prop:=fun xs H Q=>∃p ys,xs=[.ref p]∧(SqL K H p ys∨SqT K H p ys)∧∀l,H l=none→Q (.ref l) (upd H l (.lst ys))
theorem call_list_ofK (h:X.K=K):CallR X (.type "list") (rListOf K):=by subst h;exact call_list_of
end
section
variable {X:Cx}{K:PySem.W.Frag}{pos:Pos}
theorem pg_tupK {es:List Expr}{k:Nat}{t:TGs}{n:Nat}(h:X.K=K) (hc:X.calm=true) (hp:PGs X es t)
  (hn:(assignEach es X.env).length=n:=by rfl) (hst:(assignEach es X.env).findIdx? (·.1)=none:=by rfl):PG X (.Tuple es k pos) (gTup K n t):=by subst h;exact pg_tup hc hp hn hst
end
theorem rd_listOf {K:PySem.W.Frag}{H:Hp}{Q:VK}{a:Addr}{xs:List V}(h:SqL K H a xs) (q:∀l,H l=none→Q (.ref l) (upd H l (.lst xs))):rListOf K [.ref a] H Q:=⟨a,xs,rfl,.inl h,q⟩
section
variable {σ:St}{H:Hp}{Q:VK}{D:Ends}
theorem rd_dget2 {td ty tx:TE}(h:td σ H fun x H1=>∃a,x = .ref a∧IsD H1 a∧ty σ H1 fun y H2=>tx σ H2 fun z H3=>∃o,DGet H3 a y o∧Q (o.getD z) H3):tDGet2 td ty tx σ H Q:=h
end
section
variable {X:Cx}{pins:List (Addr×Obj)}{σ:St}{H:Hp}{s:Shared}{h':Heap}
theorem Inv.adopt {t':Nat}{ch:List Addr}{a:Addr}{o:HO}(I:Inv X pins σ H s) (k:∀b o,b∉ch→s.heap.get? b=some o→h'.get? b=some o) (f:∀b∈ch,FpOk X pins H b)
  (ha:a∈ch) (new:ObjOk X.prog X.w (upd H a o) h' a o):Inv X pins σ (upd H a o) { s with heap:=h',toks:=t' }:=by
 have nit:∀b u,H b=some u→b∉ch:=fun b u e z=>by rw[(f b z).1]at e;cases e
 have hn:=(f a ha).1
 have up:∀b u,H b=some u→upd H a o b=some u:=fun b u q=>by rw[upd_ne (ne_of_none q hn)];exact q
 refine I.step (g':=s.gens) (d':=s.drawn) (ch:=ch) (fun b hb=>?_) (fun b o _ _ hc e _=>k b o hc e) (fun b o _ _ hc e _=>⟨o.slots,k b o hc e⟩) (fun b ob hc e n=>by rw[upd_ne (show b≠a from fun z=>hc (by rw[z];exact ha))];exact n) (fun b o hc e=>⟨o,k b o hc e⟩) (fun b xs e=>up _ _ e) (fun b ob u e=>up _ _ e)
  (fun b ps e=>⟨#[],by rw[up _ _ e];simp⟩) (fun m hm=>?_) (fun b u e=>?_) I.bare
 ·obtain⟨f0,f1,f2,f3,f4,f5⟩:=f b hb
  exact⟨f3,f1,f4,f5⟩
 ·obtain⟨o,es,ep,ho,r⟩:=hm
  exact⟨o,es,ep,k _ o (fun z=>(f _ z).2.1 rfl) ho,r⟩
 ·by_cases hb:b=a
  ·subst hb;rw[upd_same]at e;cases e;exact new
  ·rw[upd_ne hb]at e
   refine(I.hok b u e).stay (fun c v hc q=>k c v ?_ q) (fun c q=>up _ _ q) fun c xs q=>up _ _ q
   rcases hc with z|z
   ·rw[z];exact nit b u e
   ·exact nit c _ z
variable {A:Around}{E:Value→Shared→Prop}
end
def TupI (h:Heap) (v:Value) (k:Int):Prop:=∃(a:Addr) (o:Obj) (n:Nat) (t:Tok) (rest:List Value),v = .ref a∧h.get? a=some o∧o.cls = .type "tuple"∧o.data = .seq (Value.int k t::rest).toArray n
def ltT (kf:Value→Int) (x y:Keyed):Bool:=decide (kf x.1<kf y.1)
theorem ordT (kf:Value→Int):OrdB (ltT kf):=⟨fun {x y} h=>by
 have:kf x.1<kf y.1:=of_decide_eq_true h
 exact decide_eq_false (by omega),fun {x y z} h1 h2=>by
 have a1:¬ kf y.1<kf x.1:=of_decide_eq_false h1
 have a2:¬ kf z.1<kf y.1:=of_decide_eq_false h2
 exact decide_eq_false (by omega)⟩
theorem keyLt'_tuples (b:Bool) (x y:Value):keyLt' (tuples' b) x y =(do
  let xs ← Builtin.List.listItems x;let ys ← Builtin.List.listItems y
  for ((p,q),i) in(xs.toList.zip ys.toList).zipIdx do
   if !(← eqBool p q) then return ← oneLt' (b && i == 0) p q
  return decide (xs.size<ys.size)):=rfl
section
variable {prog:Program}{w:World}{A:Around}{E:Value→Shared→Prop}{s:Shared}
theorem eqBool_self {v:Value}{Q:Bool→Shared→Prop}(q:Q true s):wpAny (model prog w) A (eqBool v v) Q E s:=by
 unfold eqBool
 refine wpAny_holding ?_
 rw[if_pos (by simp)]
 refine wpAny_bind (wpAny_rule ?_)
 exact wpAny_pure q
theorem loop_same {b:Bool}{E':Value→Shared→Prop}:∀(l:List Value) (i:Nat) (Q:Option Bool×Unit→Shared→Prop),Q (none,()) s→wpAny (model prog w) A (forIn ((l.zip l).zipIdx i) ((none,()):Option Bool×Unit) fun x __s=>do
   let __do_lift ← eqBool x.1.fst x.1.snd
   if (!__do_lift)=true then do
     let __do_lift ← oneLt' (b && x.snd == 0) x.1.fst x.1.snd
     pure (ForInStep.done (some __do_lift,()))
    else pure (ForInStep.yield (none,()))) Q E' s
 | [],i,Q,q=>by
  show wpAny (model prog w) A (pure (none,())) Q E' s
  exact wpAny_pure q
 | v::l,i,Q,q=>by
  simp only[List.zip_cons_cons,List.zipIdx_cons,List.forIn_cons]
  refine wpAny_bind (wpAny_bind (eqBool_self ?_))
  rw[if_neg (by simp)]
  refine wpAny_pure ?_
  exact loop_same l (i+1) Q q
theorem ltOkT {kf:Value→Int}{a0:List Keyed}(hT:∀x∈a0,TupI s.heap x.1 (kf x.1)) (hN:∀x∈a0,∀y∈a0,kf x.1=kf y.1→x.1=y.1):LtOk prog w A E s (ltT kf) (fun x=>x∈a0) (tuples' true):=by
 intro x y st Q hx hy hk q
 obtain⟨a,o,n,t,rest,e1,g1,c1,d1⟩:=hT x hx
 obtain⟨a',o',n',t',rest',e2,g2,c2,d2⟩:=hT y hy
 have hxy:=hN x hx y hy
 rw[lt'_eq]
 refine wpS_bind (wpS_get ?_)
 rw[hk,keyLt'_tuples]
 have hq:ltT kf x y=decide (kf x.1<kf y.1):=rfl
 generalize kf x.1=k1 at *
 generalize kf y.1=k2 at *
 rw[e1,e2]
 refine wpS_bind (wpS_lift (wpAny_attempt (wpAny_bind (listItems_at g1 d1 (wpAny_bind (listItems_at g2 d2 ?_))))))
 simp only[List.zip_cons_cons,List.zipIdx_cons,List.forIn_cons]
 by_cases c:k1=k2
 ·have exy:=hxy c
  rw[e1,e2]at exy
  cases exy
  rw[g1]at g2
  cases g2
  rw[d1]at d2
  cases d2
  refine wpAny_bind (wpAny_bind (wpAny_bind (eqBool_self ?_)))
  rw[if_neg (by simp)]
  refine wpAny_pure (loop_same rest _ _ ?_)
  refine wpAny_pure ⟨rfl,wpS_pure ?_⟩
  have e:decide ((Value.int k1 t::rest).toArray.size <(Value.int k1 t::rest).toArray.size)=ltT kf x y:=by rw[hq];simp
  rw[e];exact q
 ·refine wpAny_bind (wpAny_bind (wpAny_bind (wpAny_eqBool_int ?_)))
  rw[if_pos (by simp[c])]
  refine wpAny_bind (oneLt_int (wpAny_pure ?_))
  refine wpAny_pure (wpAny_pure ⟨rfl,wpS_pure ?_⟩)
  rw[← hq];exact q
theorem first_tup {v:Value}{k:Int}{Q:Option Value→Shared→Prop}(h:TupI s.heap v k) (q:∀t,Q (some (.int k t)) s):wpAny (model prog w) A (firstOfTuple' v) Q E s:=by
 obtain⟨a,o,n,t,rest,rfl,g1,c1,d1⟩:=h
 show wpAny (model prog w) A (do
  if (← typeOf (.ref a)) != .type "tuple" then return none
  return (← Builtin.List.listItems (.ref a))[0]?) Q E s
 refine wpAny_bind (wpAny_typeOf_ref g1 ?_)
 rw[c1,if_neg (by simp)]
 refine wpAny_bind (listItems_at g1 d1 (wpAny_pure ?_))
 exact q t
theorem firsts_tup:∀{vs:List Value}{ks:List Int}{Q:List (Option Value)→Shared→Prop},(∀p∈vs.zip ks,TupI s.heap p.1 p.2)→vs.length=ks.length→(∀us:List Value,IntsAre us ks→Q (us.map some) s)→wpAny (model prog w) A (vs.mapM firstOfTuple') Q E s
 | [],[],Q,_,_,q=>by
  rw[List.mapM_nil]
  exact wpAny_pure (q [] .nil)
 | [],_::_,_,_,l,_=>by cases l
 | _::_,[],_,_,l,_=>by cases l
 | v::vs,k::ks,Q,h,l,q=>by
  rw[List.mapM_cons]
  refine wpAny_bind (first_tup (h (v,k) (by simp)) fun t=>?_)
  refine wpAny_bind (firsts_tup (ks:=ks) (fun p hp=>h p (by simp[hp])) (by simpa using l) fun us hu=>?_)
  exact wpAny_pure (q (.int k t::us) (.cons k t hu))
theorem one_int {us:List Value}{k:Int}{ks:List Int}(h:IntsAre us (k::ks)):oneTypeOnly' us.toArray=pure (some (.type "int")):=by
 rw[oneTypeOnly'_eq,List.mapM_toArray,mapM_typeOf_ints h]
 simp only[map_pure,pure_bind]
 cases h with
 | cons n t h =>
  have hall:∀l:List Value,((List.map (fun _=>Value.type "int") l).toArray.all fun x=>x == Value.type "int")=true:=fun l=>by
   simp only[List.all_toArray,List.all_map,List.all_eq_true]
   intro _ _
   rfl
  have h0:∀(u:Value) (l:List Value),(List.map (fun _=>Value.type "int") (u::l)).toArray[0]? = some (Value.type "int"):=fun _ _=>by simp
  rw[h0]
  simp only[hall,if_true]
theorem keyKind_tups {vs:List Value}{k:Int}{ks:List Int}{Q:SortKind→Shared→Prop}(h:∀p∈vs.zip (k::ks),TupI s.heap p.1 p.2) (l:vs.length =(k::ks).length) (q:Q (tuples' true) s):wpAny (model prog w) A (keyKind' vs.toArray) Q E s:=by
 rw[keyKind'_eq,List.mapM_toArray]
 refine wpAny_bind ?_
 refine wpAny_map ?_
 refine firsts_tup h l fun us hu=>?_
 rw[if_pos (by simp)]
 refine wpAny_bind (wpAny_rule ?_)
 have e:(us.map some).toArray.filterMap id=us.toArray:=by simp
 rw[e,one_int hu]
 refine wpAny_bind (wpAny_pure ?_)
 exact wpAny_pure q
theorem TupI.keep {h h':Heap}{v:Value}{k:Int}(t:TupI h v k) (f:∀a o,o.cls = .type "tuple"→h.get? a=some o→h'.get? a=some o):TupI h' v k:=by
 obtain⟨a,o,n,t,rest,e,g,c,d⟩:=t
 exact⟨a,o,n,t,rest,e,f a o c g,c,d⟩
theorem zip_self {vs:List Value}:∀{p:Value×Value},p∈vs.zip vs→p.1=p.2∧p.1∈vs:=fun h=>mem_zip_self h
theorem zipk {kf:Value→Int}:∀{l:List Value}{p:Value×Int},p∈l.zip (l.map kf)→p.1∈l∧p.2=kf p.1
 | [],_,h=>by simp at h
 | v::l,p,h=>by
  rw[List.map_cons,List.zip_cons_cons]at h
  rcases List.mem_cons.mp h with z|z
  ·rw[z];exact⟨List.mem_cons_self,rfl⟩
  ·obtain⟨a,b⟩:=zipk z
   exact⟨List.mem_cons_of_mem _ a,b⟩
theorem lsort_tups {kf:Value→Int}{a:Addr}{vs:List Value}{n:Nat}{Z:Fin→Shared→Prop}(ho:s.heap.get? a=some (seqObj "list" vs.toArray n)) (hT:∀v∈vs,TupI s.heap v (kf v)) (hN:∀v∈vs,∀u∈vs,kf v=kf u→v=u) (hv:vs.length≤63)
  (hZ:∀out:Array Value,out.toList.Perm vs→out.toList.Pairwise (fun u v=>kf u≤kf v)→Z (.done (.ret .none)) { s with heap:=sortedHeap s.heap a vs out }) :
  wpAny (model prog w) A (Builtin.«list.sort» ⟨[.ref a],[]⟩) Z E s:=by
 have hline:(63:Nat)<sizeLine:=by decide
 have lt0:=Heap.lt_size ho
 rw[list_sort_plain]
 refine(wpAny_bind (listItems_at ho rfl ?_))
 refine(wpAny_bind (listUpdate_at ho rfl ?_ (by simp;omega)))
 obtain⟨k1,hk1⟩ : ∃k1,(s.heap.update a (Obj.mapSeq fun _=>#[])).get? a=some (seqObj "list" #[] k1):=⟨_,(get?_update_seq ho (fun _=>#[]))⟩
 refine(wpAny_bind (seqEpoch_at hk1 rfl ?_))
 refine(wpAny_bind (wpAny_newTuple ?_ (by simp;omega)))
 refine(wpAny_bind (wpAny_newList ?_))
 refine(wpAny_holding ?_)
 have hk6:(((s.heap.update a (Obj.mapSeq fun _=>#[])).push (seqObj "tuple" vs.toArray 0)).push (seqObj "list" #[] 0)).get? a=some (seqObj "list" #[] k1):=(by
  rw[Heap.get?_push_ne _ _ _ (by rw[size_push',Heap.size_update];exact Nat.ne_of_lt (Nat.lt_succ_of_lt lt0)),Heap.get?_push_ne _ _ _ (by rw[Heap.size_update];exact Nat.ne_of_lt lt0)]
  exact hk1)
 have keep:∀b o,o.cls = .type "tuple"→s.heap.get? b=some o→(((s.heap.update a (Obj.mapSeq fun _=>#[])).push (seqObj "tuple" vs.toArray 0)).push (seqObj "list" #[] 0)).get? b=some o:=fun b o hc hb=>by
  have hlt:=Heap.lt_size hb
  have nb:b≠a:=fun z=>by
   subst z
   rw[ho]at hb
   cases hb
   exact absurd (show Value.type "list" = Value.type "tuple" from hc) (by decide)
  rw[Heap.get?_push_ne _ _ _ (by rw[size_push',Heap.size_update];exact Nat.ne_of_lt (Nat.lt_succ_of_lt hlt)),Heap.get?_push_ne _ _ _ (by rw[Heap.size_update];exact Nat.ne_of_lt hlt),Heap.get?_update_ne _ _ _ _ nb]
  exact hb
 show wpAny (model prog w) A _ Z E { s with heap:=((s.heap.update a (Obj.mapSeq fun _=>#[])).push (seqObj "tuple" vs.toArray 0)).push (seqObj "list" #[] 0) }
 dsimp only
 by_cases two:vs.toArray.size<2
 ·rw[if_pos two,if_pos two]
  refine(wpAny_bind (wpAny_pure ?_))
  refine wpAny_bind ?_
  show wpAny (model prog w) A (pure ((),SortSt.mk' general' (vs.toArray.zip vs.toArray) #[] 7 none)) _ _ _
  refine wpAny_pure ?_
  refine(wpAny_bind (seqEpoch_at hk6 rfl ?_))
  have ev:(vs.toArray.zip vs.toArray).map (·.2)=vs.toArray:=by
   apply Array.ext'
   rw[Array.toList_map,Array.toList_zip,List.map_snd_zip (by simp)]
  refine wpAny_bind (listUpdate_at hk6 rfl ?_ (hsz2:=by
   rw[show arrOf (SortSt.mk' general' (vs.toArray.zip vs.toArray) #[] 7 none)=vs.toArray.zip vs.toArray from rfl,ev];simp;omega))
  dsimp only
  rw[show arrOf (SortSt.mk' general' (vs.toArray.zip vs.toArray) #[] 7 none)=vs.toArray.zip vs.toArray from rfl,ev]
  simp only[bne_self_eq_false,Bool.false_eq_true,if_false]
  refine wpAny_pure (hZ _ (by simp) ?_)
  match vs,two with
  | [],_=>simp
  | [_],_=>simp
  | _::_::_,h=>simp at h;omega
 ·rw[if_neg two,if_neg two]
  obtain⟨v,r,rfl⟩ : ∃v r,vs=v::r:=by
   cases vs with
   | nil=>simp at two
   | cons v r=>exact⟨v,r,rfl⟩
  refine wpAny_bind (keyKind_tups (k:=kf v) (ks:=r.map kf) (fun p hp=>?_) (by simp) ?_)
  ·obtain⟨m1,m2⟩:=zipk (l:=v::r) (p:=p) (by simpa using hp)
   rw[m2]
   exact(hT _ m1).keep keep
  have a0T:∀x∈(pairsOf (v::r)).toList,TupI (((s.heap.update a (Obj.mapSeq fun _=>#[])).push (seqObj "tuple" (v::r).toArray 0)).push (seqObj "list" #[] 0)) x.1 (kf x.1):=fun x hx=>by
   rw[pairsOf_toList]at hx
   exact(hT _ (zip_self hx).2).keep keep
  have a0N:∀x∈(pairsOf (v::r)).toList,∀y∈(pairsOf (v::r)).toList,kf x.1=kf y.1→x.1=y.1:=fun x hx y hy=>by
   rw[pairsOf_toList]at hx hy
   exact hN _ (zip_self hx).2 _ (zip_self hy).2
  refine wpAny_bind (wpAny_mono (wpS_sortB (ordT kf) (ltOkT a0T a0N) (hn:=by simp[pairsOf]at hv ⊢;omega) (st:=SortSt.mk' (tuples' true) ((v::r).toArray.zip (v::r).toArray) #[] 7 none) (a0:=(pairsOf (v::r)).toList) (Q:=fun _ st'=>(arrOf st').toList.Perm (pairsOf (v::r)).toList∧(arrOf st').toList.Pairwise (leB (ltT kf))∧failedOf st'=none) rfl rfl rfl rfl (fun x hx=>hx) fun st' b1 b2 b3=>⟨b1,b2,b3⟩) ?_ fun _ _ e=>e)
  rintro⟨⟨⟩,st'⟩ s' ⟨rfl,b1,b2,b3⟩
  dsimp only
  have hp:(arrOf st').Perm (pairsOf (v::r)):=Array.perm_iff_toList_perm.mpr b1
  have hsz:=hp.size_eq
  refine(wpAny_bind (seqEpoch_at hk6 rfl ?_))
  refine wpAny_bind (listUpdate_at hk6 rfl ?_ (hsz2:=by
   rw[Array.size_map,hsz,pairsOf_size];omega))
  rw[b3]
  simp only[bne_self_eq_false,Bool.false_eq_true,if_false]
  refine wpAny_pure (hZ _ ?_ ?_)
  ·rw[Array.toList_map]
   have:=b1.map (·.2)
   rw[pairsOf_toList]at this
   refine this.trans ?_
   rw[List.map_snd_zip (by simp)]
  ·rw[Array.toList_map,List.pairwise_map]
   refine b2.imp_of_mem fun {x y} hx hy h=>?_
   have ex:=zip_self (by rw[← pairsOf_toList];exact b1.mem_iff.mp hx)
   have ey:=zip_self (by rw[← pairsOf_toList];exact b1.mem_iff.mp hy)
   rw[← ex.1,← ey.1]
   have:=of_decide_eq_false h
   omega
theorem sorted_tups {kf:Value→Int}{l:Addr}{vs:List Value}{Q:Value→Shared→Prop}(hl:s.heap.IsList l vs.toArray) (hT:∀v∈vs,TupI s.heap v (kf v)) (hN:∀v∈vs,∀u∈vs,kf v=kf u→v=u) (hv:vs.length≤63)
  (hQ:∀out:Array Value,out.toList.Perm vs→out.toList.Pairwise (fun u v=>kf u≤kf v)→Q (.ref (s.heap.objs.size+1)) { s with heap:=sortedAll s.heap vs out }) :
  wpAny (model prog w) A (call (.builtin "sorted") [.ref l]) Q E s:=by
 have hline:(63:Nat)<sizeLine:=by decide
 refine(Calls.call_function_entry kind_sorted plain_sorted entry_sorted (args_sorted1 _) ?_)
 unfold Builtin.«sorted»
 refine(wpAny_bind (m:=checkCount "sorted" 1 1 _) (wpAny_pure ?_))
 refine(wpAny_bind (collect_list hl ?_ (by omega)))
 refine(wpAny_bind (wpAny_newList ?_ (by first|omega|(simp;omega))))
 have sz1:((s.heap.push (seqObj "list" #[] 0)).update s.heap.objs.size (Obj.mapSeq (· ++ vs.toArray))).objs.size=s.heap.objs.size+1:=(by rw[Heap.size_update,size_push'])
 have at1:(((s.heap.push (seqObj "list" #[] 0)).update s.heap.objs.size (Obj.mapSeq (· ++ vs.toArray))).push (seqObj "list" vs.toArray 0)).get? (s.heap.objs.size+1)=some (seqObj "list" vs.toArray 0):=(by
  rw[← sz1];exact Heap.get?_push_size _ rfl)
 have keep:∀b o,o.cls = .type "tuple"→s.heap.get? b=some o→(((s.heap.push (seqObj "list" #[] 0)).update s.heap.objs.size (Obj.mapSeq (· ++ vs.toArray))).push (seqObj "list" vs.toArray 0)).get? b=some o:=fun b o _ hb=>by
  have hlt:=Heap.lt_size hb
  rw[Heap.get?_push_ne _ _ _ (by rw[Heap.size_update,size_push'];exact Nat.ne_of_lt (Nat.lt_succ_of_lt hlt)),Heap.get?_update_ne _ _ _ _ (Nat.ne_of_lt hlt),Heap.get?_push_ne _ _ _ (Nat.ne_of_lt hlt)]
  exact hb
 show wpAny _ _ _ _ E { s with heap:=((s.heap.push (seqObj "list" #[] 0)).update s.heap.objs.size (Obj.mapSeq (· ++ vs.toArray))).push (seqObj "list" vs.toArray 0) }
 rw[sz1]
 refine wpAny_bind (wpAny_holding (wpAny_call_entry slot_list_sort ⟨_,at1,rfl⟩ entry_list_sort (lsort_tups (kf:=kf) at1 (fun v hv=>(hT v hv).keep keep) hN hv fun out c1 c2=>⟨_,rfl,?_⟩) (args_list_sort _)))
 exact wpAny_pure ⟨_,rfl,hQ out c1 c2⟩
end
section
variable {X:Cx}
def rSortT (K:PySem.W.Frag):List V→Hp→VK→Prop:=fun xs H Q=>∃(a:Addr) (ts:List Addr) (kf:Addr→Int),xs=[.ref a]∧SqL K H a (ts.map V.ref)∧ts.length≤63∧(∀t∈ts,∃rest,H t=some (.tup (V.int (kf t)::rest)))∧(∀t∈ts,∀u∈ts,kf t=kf u→t=u) ∧
 ∀(us:List Addr) (l:Addr),us.Perm ts→us.Pairwise (fun t u=>kf t≤kf u)→H l=none→Q (.ref l) (upd H l (.lst (us.map V.ref)))
theorem vals_refs:∀{ts:List Addr}{its:List Value},Vals (ts.map V.ref) its→its=ts.map Value.ref
 | [],_,r=>by cases r;rfl
 | t::ts,_,r=>by
  cases r with
  | cons r1 r2 =>
   rw[vals_refs r2]
   cases (show _=Value.ref t from r1)
   rfl
theorem refs_vals:∀(ts:List Addr),Vals (ts.map V.ref) (ts.map Value.ref)
 | []=>.nil
 | t::ts=>.cons rfl (refs_vals ts)
def kfV (kf:Addr→Int):Value→Int
 | .ref a=>kf a
 | _=>0
theorem call_sortT:CallR X (.builtin "sorted") (rSortT X.K):=by
 intro pins s σ H xs us Q I r h
 obtain⟨a,ts,kf,rfl,hq,hn,hT,hN,q⟩:=h
 obtain⟨u,rfl,r1⟩:=vals1 r
 cases (show u=Value.ref a from r1)
 obtain⟨its,rv,pl,hz⟩:=I.list hq
 have ei:=vals_refs rv
 subst ei
 refine sorted_tups (kf:=kfV kf) pl.isList (fun v hv=>?_) (fun v hv u hu e=>?_) (by rw[List.length_map];exact hn) fun out c1 c2=>?_
 ·obtain⟨t,ht,rfl⟩:=List.mem_map.mp hv
  obtain⟨rest,hr⟩:=hT t ht
  obtain⟨its2,rv2,⟨o,e,c,n,d⟩,_⟩:=I.tuple (SqT.of hr)
  cases rv2 with
  | cons r1 r2 =>
   obtain⟨tk,rfl⟩:=r1
   exact⟨t,o,n,tk,_,rfl,e,c,d⟩
 ·obtain⟨t,ht,rfl⟩:=List.mem_map.mp hv
  obtain⟨t',ht',rfl⟩:=List.mem_map.mp hu
  exact congrArg Value.ref (hN t ht t' ht' e)
 ·obtain⟨e,he⟩:=sortedAll_at s.heap (ts.map Value.ref) out
  obtain⟨us2,p1,p2⟩ : ∃us2:List Addr,us2.Perm ts∧out.toList=us2.map Value.ref:=by
   refine⟨out.toList.map fun v=>match v with | .ref a=>a|_=>0,?_,?_⟩
   ·have:=c1.map (fun v=>match v with|Value.ref a=>a|_=>0)
    refine this.trans ?_
    rw[List.map_map]
    exact List.Perm.of_eq (by simp[Function.comp_def])
   ·rw[List.map_map]
    refine(List.map_id _).symm.trans (List.map_congr_left fun v hv=>?_)
    obtain⟨t,_,rfl⟩:=List.mem_map.mp (c1.mem_iff.mp hv)
    rfl
  have hz2:(us2.map V.ref).length≤sizeLine:=by
   have hline:(63:Nat)<sizeLine:=by decide
   rw[List.length_map,p1.length_eq];omega
  rw[p2,List.pairwise_map]at c2
  exact⟨.ref (s.heap.objs.size+1),_,I.laid (t':=s.toks) (fun b o hb=>sortedAll_old hb) (Nat.le_succ _) (o:=.lst (us2.map V.ref)) ⟨hz2,out.toList,e,by rw[p2];exact refs_vals us2,by simpa using he⟩,rfl,q us2 _ p1 c2 (I.hok.fresh (Nat.le_succ _))⟩
end
end L2
namespace PySem
namespace F
end F
end PySem
namespace L2
open PySem PySem.Spec PyProof.Rows
section
variable {prog:Program}{w:World}{κ:Type} [DecidableEq κ] {knd:KeyKind prog w κ}{A:Around}{E:Value→Shared→Prop}{s:Shared}
inductive PairsAt (knd:KeyKind prog w κ) (h:Heap):List Value→List (κ×Value)→Prop
 | nil:PairsAt knd h [] []
 | cons {a:Addr}{o:Obj}{n:Nat}{key val:Value}{k:κ}{vs:List Value}{rs:List (κ×Value)}:h.get? a=some o→o.cls = .type "tuple"→o.data = .seq #[key,val] n→knd.is k key=true→PairsAt knd h vs rs→PairsAt knd h (.ref a::vs) ((k,val)::rs)
end
inductive NumU:Value→Int→Prop
 | int (i:Int) (t:Tok):NumU (.int i t) i
 | bl (b:Bool):NumU (.bool b) (if b=true then(1:Int) else 0)
inductive Num:V→Int→Prop
 | int (i:Int):Num (.int i) i
 | bl (b:Bool):Num (.bl b) (if b=true then(1:Int) else 0)
abbrev lc2 (elt t1 i1:Expr) (fs1:List Expr) (t2 i2:Expr) (fs2:List Expr) (scope:Scope) (pos:Pos):Expr:=.ListComp elt [⟨t1,i1,fs1,0⟩,⟨t2,i2,fs2,0⟩] scope pos
theorem compTurn2_0 (elt t1 i1:Expr) (fs1:List Expr) (t2 i2:Expr) (fs2:List Expr) (scope:Scope) (pos:Pos) (it acc:Value) (env:Env) :
  compTurn (lc2 elt t1 i1 fs1 t2 i2 fs2 scope pos) 0 it acc env =(do
   standAt i1.pos
   match ← pyNext it with
   | none=>pure (.done .next)
   | some v =>
    letOwnedTupleGo t1 it v
    assign t1 env v
    let mut ok:=true
    for c in fs1 do
     if ok then ok ← isTrue c env (eval c env)
    if ok then
     let x ← eval i2 env
     standAt i2.pos
     let x ← foldedSetIterable i2 env x
     let _ ← runOwn (.compStart (lc2 elt t1 i1 fs1 t2 i2 fs2 scope pos) 1 (← holding [x] (pyIter x)) acc env) env
    again (.compLoop (lc2 elt t1 i1 fs1 t2 i2 fs2 scope pos) 0 it acc env)):=by rfl
theorem compTurn2_1 (elt t1 i1:Expr) (fs1:List Expr) (t2 i2:Expr) (fs2:List Expr) (scope:Scope) (pos:Pos) (it acc:Value) (env:Env) :
  compTurn (lc2 elt t1 i1 fs1 t2 i2 fs2 scope pos) 1 it acc env =(do
   standAt i2.pos
   match ← pyNext it with
   | none=>pure (.done .next)
   | some v =>
    letOwnedTupleGo t2 it v
    assign t2 env v
    let mut ok:=true
    for c in fs2 do
     if ok then ok ← isTrue c env (eval c env)
    if ok then
     (do let _ ← call (.builtin "list.append") [acc,← eval elt env])
    again (.compLoop (lc2 elt t1 i1 fs1 t2 i2 fs2 scope pos) 1 it acc env)):=by rfl
section
variable {prog:Program}{w:World}{A:Around}{R:Result→Shared→Prop}{s:Shared}{elt t1 i1 t2 i2:Expr}{fs1 fs2:List Expr}{scope:Scope}{pos:Pos}{it acc:Value}{env:Env}
theorem compLoop2_1 (I:Nat→Shared→Prop)
  (turn:∀n s,I n s→wpAny (model prog w) A (pyNext it) (fun r s₁=>match r with
   | none=>R (.ok .next) s₁
   | some v=>wpAny (model prog w) A (letOwnedTupleGo t2 it v) (fun _ s₁'=>wpAny (model prog w) A (assign t2 env v) (fun _ s₂ =>
     wpAny (model prog w) A (forIn fs2 true fun c r=>if r=true then do let ok ← isTrue c env (eval c env);pure (ForInStep.yield ok) else pure (ForInStep.yield r)) (fun ok s₃ =>
      if ok=true then wpAny (model prog w) A (eval elt env) (fun x s₄ =>
       wpAny (model prog w) A (call (.builtin "list.append") [acc,x]) (fun _ s₅=>∃m,m<n∧I m s₅) (fun _ _=>False) s₄) (fun _ _=>False) s₃
      else ∃m,m<n∧I m s₃) (fun _ _=>False) s₂) (fun _ _=>False) s₁') (fun _ _=>False) s₁) (fun _ _=>False) s)
  (n:Nat) (h:I n s) :
  codeAny (model prog w) A (.compLoop (lc2 elt t1 i1 fs1 t2 i2 fs2 scope pos) 1 it acc env) R s:=by
 refine codeAny_loop rfl I (fun n s hI=>?_) n h
 show wpAny _ A ((compTurn (lc2 elt t1 i1 fs1 t2 i2 fs2 scope pos) 1 it acc env).onRaise (fun x=>do noteFrame x env;theTreesLotGoes x)) _ _ s
 refine wpAny_noted ?_
 rw[compTurn2_1]
 refine wpAny_bind (wpAny_standAt (wpAny_bind (wpAny_mono (turn n s hI) (fun r s₁ h₁=>?_) fun _ _ h'=>h'.elim)))
 cases r with
 | none=>exact wpAny_pure h₁
 | some v =>
  refine wpAny_bind (wpAny_mono h₁ (fun _ s₁' h₁'=>?_) fun _ _ h'=>h'.elim)
  refine wpAny_bind (wpAny_mono h₁' (fun _ s₂ h₂=>wpAny_bind (wpAny_mono h₂ (fun ok s₃ h₃=>?_) fun _ _ h'=>h'.elim)) fun _ _ h'=>h'.elim)
  cases ok with
  | false=>exact wpAny_pure ⟨rfl,h₃⟩
  | true =>
   exact wpAny_bind (wpAny_bind (wpAny_mono h₃ (fun x s₄ h₄=>wpAny_bind (wpAny_mono h₄ (fun _ s₅ h₅=>wpAny_pure (wpAny_pure ⟨rfl,h₅⟩)) fun _ _ h'=>h'.elim)) fun _ _ h'=>h'.elim))
theorem compLoop2_0 (I:Nat→Shared→Prop) (hs:∀x,foldedSetIterable i2 env x=pure x)
  (turn:∀n s,I n s→wpAny (model prog w) A (pyNext it) (fun r s₁=>match r with
   | none=>R (.ok .next) s₁
   | some v=>wpAny (model prog w) A (letOwnedTupleGo t1 it v) (fun _ s₁'=>wpAny (model prog w) A (assign t1 env v) (fun _ s₂ =>
     wpAny (model prog w) A (forIn fs1 true fun c r=>if r=true then do let ok ← isTrue c env (eval c env);pure (ForInStep.yield ok) else pure (ForInStep.yield r)) (fun ok s₃ =>
      if ok=true then wpAny (model prog w) A (eval i2 env) (fun x s₄=>wpAny (model prog w) A (pyIter x) (fun it2 s₅ =>
       codeAny (model prog w) A (.compStart (lc2 elt t1 i1 fs1 t2 i2 fs2 scope pos) 1 it2 acc env) (fun r s₆=>match r with | .ok _=>∃m,m<n∧I m s₆ | .error _=>False) s₅) (fun _ _=>False) s₄) (fun _ _=>False) s₃
      else ∃m,m<n∧I m s₃) (fun _ _=>False) s₂) (fun _ _=>False) s₁') (fun _ _=>False) s₁) (fun _ _=>False) s)
  (n:Nat) (h:I n s) :
  codeAny (model prog w) A (.compLoop (lc2 elt t1 i1 fs1 t2 i2 fs2 scope pos) 0 it acc env) R s:=by
 refine codeAny_loop rfl I (fun n s hI=>?_) n h
 show wpAny _ A ((compTurn (lc2 elt t1 i1 fs1 t2 i2 fs2 scope pos) 0 it acc env).onRaise (fun x=>do noteFrame x env;theTreesLotGoes x)) _ _ s
 refine wpAny_noted ?_
 rw[compTurn2_0]
 refine wpAny_bind (wpAny_standAt (wpAny_bind (wpAny_mono (turn n s hI) (fun r s₁ h₁=>?_) fun _ _ h'=>h'.elim)))
 cases r with
 | none=>exact wpAny_pure h₁
 | some v =>
  refine wpAny_bind (wpAny_mono h₁ (fun _ s₁' h₁'=>?_) fun _ _ h'=>h'.elim)
  refine wpAny_bind (wpAny_mono h₁' (fun _ s₂ h₂=>wpAny_bind (wpAny_mono h₂ (fun ok s₃ h₃=>?_) fun _ _ h'=>h'.elim)) fun _ _ h'=>h'.elim)
  cases ok with
  | false=>exact wpAny_pure ⟨rfl,h₃⟩
  | true =>
   refine wpAny_bind (wpAny_mono h₃ (fun x s₄ h₄=>wpAny_bind (wpAny_standAt (wpAny_bind (wpAny_of_eq (hs x) (wpAny_bind (wpAny_holding (wpAny_mono h₄ (fun it2 s₅ h₅=>wpAny_bind (wpAny_runOwn (codeAny_mono h₅ fun r s₆ h₆=>?_))) fun _ _ h'=>h'.elim))))))) fun _ _ h'=>h'.elim)
   cases r with
   | ok f=>exact wpAny_pure ⟨rfl,h₆⟩
   | error e=>exact h₆.elim
theorem compStart2_1
  (h0:codeAny (model prog w) A (.compLoop (lc2 elt t1 i1 fs1 t2 i2 fs2 scope pos) 1 it acc env) R s)
  (h:wpAny (model prog w) A (pyIter it) (fun it' s'=>codeAny (model prog w) A (.compLoop (lc2 elt t1 i1 fs1 t2 i2 fs2 scope pos) 1 it' acc env) R s')
   (notedBy (model prog w) A env fun x s'=>R (.error x) s') s) :
  codeAny (model prog w) A (.compStart (lc2 elt t1 i1 fs1 t2 i2 fs2 scope pos) 1 it acc env) R s:=by
 refine codeAny_of_tree ?_
 show wpAny _ _ ((compStart (lc2 elt t1 i1 fs1 t2 i2 fs2 scope pos) 1 it acc env).onRaise (fun x=>do noteFrame x env;standAt theWindowsPlace)) _ _ s
 refine wpAny_notedAt ?_
 unfold compStart
 show wpAny _ _ (ask >>= _) _ _ s
 refine wpAny_bind (wpAny_askSetting (wpAny_ite ?_))
 split
 ·first
   | exact wpAny_bind (wpAny_pure (wpAny_pure (And.intro rfl h0)))
   | exact wpAny_pure (And.intro rfl h0)
 ·first
   | exact wpAny_bind (wpAny_rule (wpAny_bind (wpAny_standAt (wpAny_bind (wpAny_mono h (fun it' s' h'=>wpAny_pure (And.intro rfl h')) fun _ _ x=>x)))))
   | (refine wpAny_bind (wpAny_rule ?_);show wpAny _ _ (standAt i2.pos >>= _) _ _ s;exact wpAny_bind (wpAny_standAt (wpAny_bind (wpAny_mono h (fun it' s' h'=>wpAny_pure (And.intro rfl h')) fun _ _ x=>x))))
end
def tIn (wi2:TI) (g2:TG) (tt2:TT) (te:TE) (D:Addr) (ys:List V) (σ:St) (H:Hp) (N0:St→List V→Hp→Prop):Prop:=wi2 σ H fun J H1 =>
 ∃W:Nat→Nat→St→List V→Hp→Prop,(∃m,W 0 m σ ys H1)∧∀i m σ' ys' H',W i m σ' ys' H' →
  (J.stop i H'∧N0 σ' ys' H') ∨(J.go i H'∧∃N:St→List V→Hp→Prop,(∀σ2 zs H2,N σ2 zs H2→∃m',m'<m∧W (i+1) m' σ2 zs H2) ∧
   ∀x H2,J.yld i H' x H2→g2 x σ' H2 fun σ3 H3=>tt2 σ3 H3 fun b H4=>if b=true then te σ3 H4 fun y H5=>H5 D=some (.lst ys')∧ys'.length<sizeLine∧N σ3 (ys' ++ [y]) (upd H5 D (.lst (ys' ++ [y]))) else N σ3 ys' H4)
def CompW2 (J:It) (vs:List Str) (js:List Nat) (σ:St) (g1:TG) (tt1:TT) (wi2:TI) (g2:TG) (tt2:TT) (te:TE) (Q:VK) (D:Addr) (H1:Hp):Prop :=
 ∃W:Nat→Nat→St→List V→Hp→Prop,(∃m,W 0 m (blkSt vs js σ) [] (upd H1 D (.lst [])))∧∀i m σ' ys H',W i m σ' ys H' →
  (J.stop i H'∧Q (.ref D) H') ∨(J.go i H'∧∃N:St→List V→Hp→Prop,(∀σ2 zs H2,N σ2 zs H2→∃m',m'<m∧W (i+1) m' σ2 zs H2) ∧
   ∀x H2,J.yld i H' x H2→g1 x σ' H2 fun σ3 H3=>tt1 σ3 H3 fun b H4=>if b=true then tIn wi2 g2 tt2 te D ys σ3 H4 N else N σ3 ys H4)
def tComp2 (vs:List Str) (js:List Nat) (wi:TI) (g1:TG) (tt1:TT) (wi2:TI) (g2:TG) (tt2:TT) (te:TE):TE:=fun σ H Q=>wi σ H fun J H1=>∀D,H1 D=none→CompW2 J vs js σ g1 tt1 wi2 g2 tt2 te Q D H1
section
variable {X:Cx}{pins:List (Addr×Obj)}{σ:St}{H:Hp}{s:Shared}{scope:Scope}{vs fs:List Str}{js:List Nat}
theorem blk_run2 {t1 i1 t2 i2 elt:Expr}{ifs1 ifs2:List Expr}{pos:Pos}{g1 g2:TG}{tt1 tt2:TT}{wi2:TI}{te:TE}(hc:X.calm=true) (B:BlkOk X scope vs fs js)
  (hg:∀C s H ex,PG (cxBlk X scope (vs++fs) C s H ex) t1 g1) (ht:∀C s H ex,PIfs (cxBlk X scope (vs++fs) C s H ex) ifs1 tt1)
  (hi2:∀C s H ex,PI (cxBlk X scope (vs++fs) C s H ex) t2 i2 wi2) (hs2:∀C x,foldedSetIterable i2 (compEnvC scope (clOf X.env scope.names []) C X.env) x=pure x)
  (hg2:∀C s H ex,PG (cxBlk X scope (vs++fs) C s H ex) t2 g2) (ht2:∀C s H ex,PIfs (cxBlk X scope (vs++fs) C s H ex) ifs2 tt2) (he:∀C s H ex,PE (cxBlk X scope (vs++fs) C s H ex) elt te)
  {it:Addr}{fp:List Addr}{tn:Nat→Heap→Prop}{J:It}{Q:VK}{E:Value→Shared→Prop}(I2:Inv X pins σ H s) (T:Turn X.prog X.w X.K t1 J fp it tn) (st2:tn 0 s.heap) (f2:∀b∈fp,FpOk X pins H b)
  (hW:∀D,H D=none→CompW2 J vs js σ g1 tt1 wi2 g2 tt2 te Q D H)
  {RR:Value→Addr→Result→Shared→Prop}
  (hR:∀D C H' s',Inv X pins σ H' s'→(∃m,s'.heap.Ns C m)→H' C=none→s.heap.objs.size≤C→Q (.ref D) H'→RR (.ref D) C (.ok .next) s') :
  wpAny (model X.prog X.w) X.A (newList []) (fun acc s₃=>wpAny (model X.prog X.w) X.A (newFunctionEnv scope X.env.globals (clOf X.env scope.names []) [] X.env.qual none .none (some X.env)) (fun cenv s₄ =>
   codeAny (model X.prog X.w) X.A (.compStart (lc2 elt t1 i1 ifs1 t2 i2 ifs2 scope pos) 0 (.ref it) acc { cenv with scope:=relabel scope X.env }) (RR acc cenv.locals) s₄) E s₃) E s:=by
 have hfp:∀b∈fp,b<s.heap.objs.size:=fun b hb=>by
  obtain⟨o,e,_⟩:=T.obj _ _ st2 b hb
  exact Heap.lt_size e
 refine wpAny_newObj_type (wpAny_newFunctionEnv B.cell (by intro y hy;simp at hy) (fun h₁ hns₁ hsb₁=>?_) B.kind)
 dsimp only at hns₁ hsb₁ ⊢
 generalize hH2:s.heap.push { cls:=.type "list",dict:=none,data:=.seq ([]:List Value).toArray } = HH at hns₁ hsb₁ ⊢
 have hC:HH.objs.size=s.heap.objs.size+1:=by rw[← hH2,Heap.size_push]
 have hlt:s.heap.objs.size<HH.objs.size:=by rw[hC];exact Nat.lt_succ_self _
 have old:∀b o,s.heap.get? b=some o→h₁.get? b=some o:=fun b o e=>hsb₁.extBut b o (Nat.ne_of_lt (Nat.lt_trans (Heap.lt_size e) hlt)) (Heap.get?_push_of_some _ (hH2 ▸ Heap.get?_push_of_some _ e))
 have hacc:h₁.get? s.heap.objs.size=some { cls:=.type "list",data:=.seq ([]:List Value).toArray }:=hsb₁.extBut _ _ (Nat.ne_of_lt hlt) (Heap.get?_push_of_some _ (hH2 ▸ Heap.get?_push_size _ rfl))
 have I0:Inv (cxBlk X scope (vs++fs) HH.objs.size s H fp) [] (blkSt vs js σ) (upd H s.heap.objs.size (.lst [])) { s with heap:=h₁,toks:=s.toks+([]:List (Str×Value)).length }:=blk_start I2 B f2 hfp hns₁ old rfl hlt hacc
 obtain⟨W,⟨m0,w0⟩,turn⟩:=hW s.heap.objs.size (I2.hok.fresh (Nat.le_refl _))
 have st1:tn 0 h₁:=T.keep _ _ _ st2 fun b hb o e=>old b o e
 have hch:∀b∈fp,(b∈X.ex∨X.s₀.heap.objs.size≤b)∧b≠X.env.locals∧(∀x c,X.env.cells.lookup x=some c→c≠b)∧∀p∈X.pn++pins,p.1≠b:=fun b hb=>by
  obtain⟨_,a2,_,a4,a5,a6⟩:=f2 b hb
  exact⟨a4,a2,a5,a6⟩
 have back:∀{pl:List (Addr×Obj)}{σ':St}{H':Hp}{s':Shared},Inv (cxBlk X scope (vs++fs) HH.objs.size s H fp) pl σ' H' s'→Inv X pins σ H' s':=fun {pl σ' H' s'} J'=>I2.call' (ch:=fp) J'.os J'.base J'.hok J'.bare hch
 have nD:∀b∈fp,b≠s.heap.objs.size:=fun b hb=>Nat.ne_of_lt (hfp b hb)
 have stat:∀{H':Hp},(∀b∈fp,H' b=none)→∀b∈fp,FpOk (cxBlk X scope (vs++fs) HH.objs.size s H fp) [] H' b:=fun {H'} hn b hb=>by
  have z:=I0.ok
  refine⟨hn b hb,(z.exf b hb).1,z.exfs b hb,.inl hb,(z.exf b hb).2,fun p hp=>absurd (show p∈([]:List (Addr×Obj)) from hp) (by simp)⟩
 have loop:∀s₃:Shared,s₃ = { s with heap:=h₁,toks:=s.toks+([]:List (Str×Value)).length } →
   codeAny (model X.prog X.w) X.A (.compLoop (lc2 elt t1 i1 ifs1 t2 i2 ifs2 scope pos) 0 (.ref it) (.ref s.heap.objs.size) (compEnvC scope (clOf X.env scope.names []) HH.objs.size X.env)) (RR (.ref s.heap.objs.size) HH.objs.size) s₃:=by
  rintro s₃ rfl
  refine compLoop2_0 (fun n s'=>∃i σ' ys H',Inv (cxBlk X scope (vs++fs) HH.objs.size s H fp) [] σ' H' s'∧tn i s'.heap∧(∀b∈fp,H' b=none)∧W i n σ' ys H') (hs2 _) ?_ m0
   ⟨0,_,_,_,I0,st1,fun b hb=>by rw[upd_ne (nD b hb)];exact(f2 b hb).1,w0⟩
  rintro n s3 ⟨i,σ3,ys,H3,I3,st3,fr3,w3⟩
  rcases turn i n σ3 ys H3 w3 with⟨stop,q⟩|⟨go,N,hN,step⟩
  ·refine thn (T.done (cxBlk X scope (vs++fs) HH.objs.size s H fp) rfl rfl rfl hc i [] s3 σ3 H3 _ I3 (stat fr3) st3 stop) fun r s4 ⟨hr,I4⟩=>?_
   subst hr
   obtain⟨m,hm,_⟩:=I4.loc
   exact hR _ _ H3 s4 (back I4) ⟨m,hm⟩ I4.free (Nat.le_of_lt hlt) q
  ·refine thn (T.item (cxBlk X scope (vs++fs) HH.objs.size s H fp) rfl rfl rfl hc i [] s3 σ3 H3 _ I3 (stat fr3) st3 go) fun r s4 ⟨u,hr,h4⟩=>?_
   subst hr
   refine thn h4 fun _ s5 ⟨x,H5,I5,r5,y5,st5,fr5⟩=>?_
   have I5':=I5.pinned (stat fr5) (T.obj _ _ st5)
   have again:∀{σ7:St}{H7:Hp}{s7:Shared}{zs:List V},Inv (cxBlk X scope (vs++fs) HH.objs.size s H fp) ([]++pinsAt fp s5.heap) σ7 H7 s7→N σ7 zs H7→∃m,m<n∧∃i σ' ys H',Inv (cxBlk X scope (vs++fs) HH.objs.size s H fp) [] σ' H' s7∧tn i s7.heap∧(∀b∈fp,H' b=none)∧W i m σ' ys H':=fun {σ7 H7 s7 zs} I7 n7=>by
    obtain⟨m',hm,w7⟩:=hN σ7 zs H7 n7
    refine⟨m',hm,i+1,σ7,zs,H7,I7.unpinned,T.keep _ _ _ st5 fun b hb o e=>(I7.pin (b,o) (List.mem_append_right _ (List.mem_append_right _ (mem_pinsAt hb e)))).1,fun b hb=>?_,w7⟩
    obtain⟨o,e,d⟩:=T.obj _ _ st5 b hb
    exact(I7.pin (b,o) (List.mem_append_right _ (List.mem_append_right _ (mem_pinsAt hb e)))).2.1
   refine thn (hg _ _ _ _ _ s5 σ3 H5 x u _ I5' r5 (step x H5 y5)) fun _ s6 ⟨σ6,H6,I6,q6⟩=>?_
   refine thn (ht _ _ _ _ _ s6 σ6 H6 _ I6 q6) fun ok s7 ⟨H7,I7,q7⟩=>?_
   cases ok with
   | false =>
    rw[if_neg Bool.false_ne_true]at q7 ⊢
    exact again I7 q7
   | true =>
    rw[if_pos rfl]at q7 ⊢
    refine thn (hi2 _ _ _ _ _ s7 σ6 H7 _ I7 q7) fun v7 s8 h8=>thn h8 fun itv s9 h9=>?_
    obtain⟨it2,fp2,tn2,J2,H9,e9,I9,T2,st9,f9,W2,⟨m20,w20⟩,turn2⟩:=h9
    subst e9
    have stat2:∀{H':Hp},(∀b∈fp2,H' b=none)→∀b∈fp2,FpOk (cxBlk X scope (vs++fs) HH.objs.size s H fp) ([]++pinsAt fp s5.heap) H' b:=fun hn b hb=>⟨hn b hb,(f9 b hb).2⟩
    have loop2:codeAny (model X.prog X.w) X.A (.compLoop (lc2 elt t1 i1 ifs1 t2 i2 ifs2 scope pos) 1 (.ref it2) (.ref s.heap.objs.size) (compEnvC scope (clOf X.env scope.names []) HH.objs.size X.env)) (fun r s₆=>match r with | .ok _=>∃m,m<n∧∃i σ' ys H',Inv (cxBlk X scope (vs++fs) HH.objs.size s H fp) [] σ' H' s₆∧tn i s₆.heap∧(∀b∈fp,H' b=none)∧W i m σ' ys H' | .error _=>False) s9:=by
     refine compLoop2_1 (fun n s'=>∃i σ' ys H',Inv (cxBlk X scope (vs++fs) HH.objs.size s H fp) ([]++pinsAt fp s5.heap) σ' H' s'∧tn2 i s'.heap∧(∀b∈fp2,H' b=none)∧W2 i n σ' ys H') ?_ m20 ⟨0,_,_,_,I9,st9,fun b hb=>(f9 b hb).1,w20⟩
     rintro n2 sa ⟨i',σa,yz,Ha,Ia,sta,fra,wa⟩
     rcases turn2 i' n2 σa yz Ha wa with⟨stop,q⟩|⟨go,N2,hN2,step2⟩
     ·refine thn (T2.done (cxBlk X scope (vs++fs) HH.objs.size s H fp) rfl rfl rfl hc i' _ sa σa Ha _ Ia (stat2 fra) sta stop) fun r sb ⟨hr,Ib⟩=>?_
      subst hr
      exact again Ib q
     ·refine thn (T2.item (cxBlk X scope (vs++fs) HH.objs.size s H fp) rfl rfl rfl hc i' _ sa σa Ha _ Ia (stat2 fra) sta go) fun r sb ⟨u2,hr,hb⟩=>?_
      subst hr
      refine thn hb fun _ sc ⟨x2,Hc,Ic,rc,yc,stc,frc⟩=>?_
      have Ic':=Ic.pinned (stat2 frc) (T2.obj _ _ stc)
      have again2:∀{σ7:St}{H7:Hp}{s7:Shared}{zs:List V},Inv (cxBlk X scope (vs++fs) HH.objs.size s H fp) (([]++pinsAt fp s5.heap)++pinsAt fp2 sc.heap) σ7 H7 s7→N2 σ7 zs H7→∃m,m<n2∧∃i σ' ys H',Inv (cxBlk X scope (vs++fs) HH.objs.size s H fp) ([]++pinsAt fp s5.heap) σ' H' s7∧tn2 i s7.heap∧(∀b∈fp2,H' b=none)∧W2 i m σ' ys H':=fun {σ7 H7 s7 zs} I7 n7=>by
       obtain⟨m',hm,w7⟩:=hN2 σ7 zs H7 n7
       refine⟨m',hm,i'+1,σ7,zs,H7,I7.unpinned,T2.keep _ _ _ stc fun b hb o e=>(I7.pin (b,o) (List.mem_append_right _ (List.mem_append_right _ (mem_pinsAt hb e)))).1,fun b hb=>?_,w7⟩
       obtain⟨o,e,d⟩:=T2.obj _ _ stc b hb
       exact(I7.pin (b,o) (List.mem_append_right _ (List.mem_append_right _ (mem_pinsAt hb e)))).2.1
      refine thn (hg2 _ _ _ _ _ sc σa Hc x2 u2 _ Ic' rc (step2 x2 Hc yc)) fun _ sd ⟨σd,Hd,Id,qd⟩=>?_
      refine thn (ht2 _ _ _ _ _ sd σd Hd _ Id qd) fun ok se ⟨He,Ie,qe⟩=>?_
      cases ok with
      | false =>
       rw[if_neg Bool.false_ne_true]at qe ⊢
       exact again2 Ie qe
      | true =>
       rw[if_pos rfl]at qe ⊢
       refine thn (he _ _ _ _ _ se σd He _ Ie qe) fun y sf ⟨yv,Hf,If,rf,hDf,hz,nf⟩=>?_
       refine thn (mt_append _ sf σd Hf (.ref s.heap.objs.size) [yv] (.ref s.heap.objs.size) [y] (fun _ H9=>N2 σd (yz ++ [yv]) H9) If rfl (.cons rf .nil) ⟨_,yz,yv,rfl,rfl,hDf,hz,nf⟩) fun _ sg ⟨_,Hg,Ig,_,ng⟩=>?_
       exact again2 Ig ng
    exact compStart2_1 loop2 (T2.self X.A 0 _ _ _ st9 loop2)
 exact codeAny_compStart_list (loop _ rfl) (T.self X.A 0 _ _ _ st1 (loop _ rfl))
theorem pe_comp2 {t1 i1 t2 i2 elt:Expr}{ifs1 ifs2:List Expr}{pos:Pos}{wi wi2:TI}{g1 g2:TG}{tt1 tt2:TT}{te:TE}(hc:X.calm=true) (B:BlkOk X scope vs fs js) (hi:PI X t1 i1 wi)
  (hg:∀C s H ex,PG (cxBlk X scope (vs++fs) C s H ex) t1 g1) (ht:∀C s H ex,PIfs (cxBlk X scope (vs++fs) C s H ex) ifs1 tt1)
  (hi2:∀C s H ex,PI (cxBlk X scope (vs++fs) C s H ex) t2 i2 wi2)
  (hg2:∀C s H ex,PG (cxBlk X scope (vs++fs) C s H ex) t2 g2) (ht2:∀C s H ex,PIfs (cxBlk X scope (vs++fs) C s H ex) ifs2 tt2) (he:∀C s H ex,PE (cxBlk X scope (vs++fs) C s H ex) elt te)
  (hs:∀x,foldedSetIterable i1 X.env x=pure x:=by intro _;rfl) (hs2:∀C x,foldedSetIterable i2 (compEnvC scope (clOf X.env scope.names []) C X.env) x=pure x:=by intro _ _;rfl) :
  PE X (lc2 elt t1 i1 ifs1 t2 i2 ifs2 scope pos) (tComp2 vs js wi g1 tt1 wi2 g2 tt2 te):=by
 intro pins s σ H Q I h
 rw[eval_ListComp]
 refine wpAny_comprehension_free (use:=none) rfl hs (closure_eq fun y hy hf=>I.ok.has y.1 (B.free y hy hf)) B.kind B.names (thn (hi pins s σ H _ I h) fun v s1 h1=>thn h1 fun itv s2 h2=>?_)
 obtain⟨it,fp,tn,J,H2,e,I2,T,st2,f2,hW⟩:=h2
 subst e
 refine blk_run2 (RR:=fun acc C=>compPost (model X.prog X.w) X.A X.xe none (EP X pins σ Q) acc C) hc B hg ht hi2 hs2 hg2 ht2 he I2 T st2 f2 hW ?_
 intro D C H' s' I' hn hC hle q
 obtain⟨m,hn⟩:=hn
 exact⟨m,hn,fun h'' hs''=>⟨.ref D,H',I2.goneC I' hC hle hs'',rfl,q⟩⟩
end
section
variable {vs:List Str}{js:List Nat}{σ:St}{H:Hp}{Q:VK}
theorem rd_comp2 {wi wi2:TI}{g1 g2:TG}{tt1 tt2:TT}{te:TE}(h:wi σ H fun J H1=>∀D,H1 D=none→CompW2 J vs js σ g1 tt1 wi2 g2 tt2 te Q D H1):tComp2 vs js wi g1 tt1 wi2 g2 tt2 te σ H Q:=h
theorem rd_in {wi2:TI}{g2:TG}{tt2:TT}{te:TE}{D:Addr}{ys:List V}{N0:St→List V→Hp→Prop}(h:wi2 σ H fun J H1 =>
  ∃W:Nat→Nat→St→List V→Hp→Prop,(∃m,W 0 m σ ys H1)∧∀i m σ' ys' H',W i m σ' ys' H' →
   (J.stop i H'∧N0 σ' ys' H') ∨(J.go i H'∧∃N:St→List V→Hp→Prop,(∀σ2 zs H2,N σ2 zs H2→∃m',m'<m∧W (i+1) m' σ2 zs H2) ∧
    ∀x H2,J.yld i H' x H2→g2 x σ' H2 fun σ3 H3=>tt2 σ3 H3 fun b H4=>if b=true then te σ3 H4 fun y H5=>H5 D=some (.lst ys')∧ys'.length<sizeLine∧N σ3 (ys' ++ [y]) (upd H5 D (.lst (ys' ++ [y]))) else N σ3 ys' H4)):tIn wi2 g2 tt2 te D ys σ H N0:=h
theorem comp2_list {K:PySem.W.Frag}{a:Addr}{xs:List V}{wi2:TI}{g1 g2:TG}{tt1 tt2:TT}{te:TE}(Pv:Nat→St→List V→Hp→Prop) (D:Addr) (h0:Pv 0 (blkSt vs js σ) [] (upd H D (.lst []))) (hl:∀i σ' ys H',i≤xs.length→Pv i σ' ys H'→SqL K H' a xs)
  (hs:∀i x σ' ys H',xs[i]? = some x→Pv i σ' ys H'→g1 x σ' H' fun σ3 H3=>tt1 σ3 H3 fun b H4=>if b=true then tIn wi2 g2 tt2 te D ys σ3 H4 (Pv (i+1)) else Pv (i+1) σ3 ys H4)
  (hd:∀σ' ys H',Pv xs.length σ' ys H'→Q (.ref D) H') :
  CompW2 (Itl K a) vs js σ g1 tt1 wi2 g2 tt2 te Q D H:=by
 refine⟨fun i m σ' ys H'=>m=xs.length-i∧i≤xs.length∧Pv i σ' ys H',⟨xs.length,by simp,Nat.zero_le _,h0⟩,?_⟩
 rintro i m σ' ys H' ⟨rfl,hi,p⟩
 have q:=hl i σ' ys H' hi p
 by_cases hlt:i<xs.length
 ·refine .inr ⟨⟨xs,xs[i],q,by simp[hlt]⟩,Pv (i+1),fun σ2 zs H2 p'=>⟨xs.length-(i+1),by omega,rfl,hlt,p'⟩,fun x H2 y=>?_⟩
  obtain⟨e,y⟩:=y
  subst e
  exact hs i x σ' ys _ (y xs q) p
 ·have e:i=xs.length:=by omega
  subst e
  exact .inl ⟨⟨xs,q,Nat.le_refl _⟩,hd σ' ys H' p⟩
theorem in_list {K:PySem.W.Frag}{g2:TG}{tt2:TT}{te:TE}{D:Addr}{ys:List V}{N0:St→List V→Hp→Prop}{a:Addr}{xs:List V}(Pv:Nat→St→List V→Hp→Prop) (h0:Pv 0 σ ys H) (hl:∀i σ' ys' H',i≤xs.length→Pv i σ' ys' H'→SqL K H' a xs)
  (hs:∀i x σ' ys' H',xs[i]? = some x→Pv i σ' ys' H'→g2 x σ' H' fun σ3 H3=>tt2 σ3 H3 fun b H4=>if b=true then te σ3 H4 fun y H5=>H5 D=some (.lst ys')∧ys'.length<sizeLine∧Pv (i+1) σ3 (ys' ++ [y]) (upd H5 D (.lst (ys' ++ [y]))) else Pv (i+1) σ3 ys' H4)
  (hd:∀σ' ys' H',Pv xs.length σ' ys' H'→N0 σ' ys' H') :
  ∃W:Nat→Nat→St→List V→Hp→Prop,(∃m,W 0 m σ ys H)∧∀i m σ' ys' H',W i m σ' ys' H' →
   ((Itl K a).stop i H'∧N0 σ' ys' H') ∨((Itl K a).go i H'∧∃N:St→List V→Hp→Prop,(∀σ2 zs H2,N σ2 zs H2→∃m',m'<m∧W (i+1) m' σ2 zs H2) ∧
    ∀x H2,(Itl K a).yld i H' x H2→g2 x σ' H2 fun σ3 H3=>tt2 σ3 H3 fun b H4=>if b=true then te σ3 H4 fun y H5=>H5 D=some (.lst ys')∧ys'.length<sizeLine∧N σ3 (ys' ++ [y]) (upd H5 D (.lst (ys' ++ [y]))) else N σ3 ys' H4):=by
 refine⟨fun i m σ' ys H'=>m=xs.length-i∧i≤xs.length∧Pv i σ' ys H',⟨xs.length,by simp,Nat.zero_le _,h0⟩,?_⟩
 rintro i m σ' ys H' ⟨rfl,hi,p⟩
 have q:=hl i σ' ys H' hi p
 by_cases hlt:i<xs.length
 ·refine .inr ⟨⟨xs,xs[i],q,by simp[hlt]⟩,Pv (i+1),fun σ2 zs H2 p'=>⟨xs.length-(i+1),by omega,rfl,hlt,p'⟩,fun x H2 y=>?_⟩
  obtain⟨e,y⟩:=y
  subst e
  exact hs i x σ' ys _ (y xs q) p
 ·have e:i=xs.length:=by omega
  subst e
  exact .inl ⟨⟨xs,q,Nat.le_refl _⟩,hd σ' ys H' p⟩
end
section
variable {σ:St}{H:Hp}{Q:VK}{D:Ends}
def IsT (R t:TS):Prop:=R=t
theorem rd_seqO {t u:TS}(h:∀R,IsT R u→t { D with nx:=R D } σ H):tSeq t u D σ H:=h u rfl
theorem rd_ifSO {c:TT}{t u:TS}(h:∀R S,IsT R t→IsT S u→c σ H fun b H1=>if b=true then R D σ H1 else S D σ H1):tIfS c t u D σ H:=h t u rfl rfl
theorem rd_forO {wi:TI}{g:TG}{tb:TS}(h:∀R,IsT R tb→wi σ H fun J H1=>∃W:Nat→Nat→St→Hp→Prop,(∃m,W 0 m σ H1)∧∀i m σ H,W i m σ H →
 (J.stop i H∧D.nx σ H) ∨(J.go i H∧∃N:St→Hp→Prop,(∀σ' H',N σ' H'→∃m',m'<m∧W (i+1) m' σ' H')∧∀x H',J.yld i H x H'→g x σ H' fun σ2 H2=>R { D with nx:=N,ct:=N,bk:=D.nx } σ2 H2)):tFor wi g tb D σ H:=h tb rfl
theorem rd_tx {R t:TS}(e:IsT R t) (h:t D σ H):R D σ H:=by cases e;exact h
def IsN (N I:St→Hp→Prop):Prop:=∀σ H,I σ H→N σ H
def AllN (I:St→Hp→Prop) (t:(St→Hp→Prop)→Prop):Prop:=∀N,IsN N I→t N
theorem rd_allN {I:St→Hp→Prop}{t:(St→Hp→Prop)→Prop}(h:∀N,IsN N I→t N):AllN I t:=h
theorem rd_isN {N I:St→Hp→Prop}(e:IsN N I) (h:I σ H):N σ H:=e σ H h
theorem cutO {t:TS}(R:St→Hp→Prop) (h:AllN R fun N=>t { D with nx:=N } σ H) (k:∀σ' H',R σ' H'→D.nx σ' H'):tCut t D σ H:=⟨R,h _ fun _ _ z=>z,k⟩
theorem for_rangeO {lo:Int}{n:Nat}{g:TG}{tb:TS}(Pv:Nat→St→Hp→Prop) (h0:Pv 0 σ H)
  (hs:∀i σ H,i<n→Pv i σ H→AllN (Pv (i+1)) fun N=>g (.int (lo+i)) σ H fun σ2 H2=>tb { D with nx:=N,ct:=N,bk:=D.nx } σ2 H2) (hd:∀σ H,Pv n σ H→D.nx σ H) :
  ∃W:Nat→Nat→St→Hp→Prop,(∃m,W 0 m σ H)∧∀i m σ H,W i m σ H →
   ((Itr lo n).stop i H∧D.nx σ H) ∨((Itr lo n).go i H∧∃N:St→Hp→Prop,(∀σ' H',N σ' H'→∃m',m'<m∧W (i+1) m' σ' H')∧∀x H',(Itr lo n).yld i H x H'→g x σ H' fun σ2 H2=>tb { D with nx:=N,ct:=N,bk:=D.nx } σ2 H2) :=
 for_range Pv h0 (fun i σ H a b=>hs i σ H a b _ fun _ _ z=>z) hd
theorem for_listO {K:PySem.W.Frag}{a:Addr}{xs:List V}{g:TG}{tb:TS}(Pv:Nat→St→Hp→Prop) (h0:Pv 0 σ H) (hl:∀i σ H,i≤xs.length→Pv i σ H→SqL K H a xs)
  (hs:∀i x σ H,xs[i]? = some x→Pv i σ H→AllN (Pv (i+1)) fun N=>g x σ H fun σ2 H2=>tb { D with nx:=N,ct:=N,bk:=D.nx } σ2 H2) (hd:∀σ H,Pv xs.length σ H→D.nx σ H) :
  ∃W:Nat→Nat→St→Hp→Prop,(∃m,W 0 m σ H)∧∀i m σ H,W i m σ H →
   ((Itl K a).stop i H∧D.nx σ H) ∨((Itl K a).go i H∧∃N:St→Hp→Prop,(∀σ' H',N σ' H'→∃m',m'<m∧W (i+1) m' σ' H')∧∀x H',(Itl K a).yld i H x H'→g x σ H' fun σ2 H2=>tb { D with nx:=N,ct:=N,bk:=D.nx } σ2 H2) :=
 for_list Pv h0 hl (fun i x σ H a b=>hs i x σ H a b _ fun _ _ z=>z) hd
end
section
variable {K:PySem.W.Frag}
def Ga (K:PySem.W.Frag) (x:Str) (st:Stmt):Prop:=∃f:Addr,PySem.W.nsIn K mainGlobals x=some (some (.ref f))∧∃fd:FuncData,Fun K x x st f fd
def Ga2 (K:PySem.W.Frag) (x y:Str) (st:Stmt):Prop:=∃f:Addr,PySem.W.nsIn K mainGlobals x=some (some (.ref f))∧PySem.W.nsIn K mainGlobals y=some (some (.ref f))∧∃fd:FuncData,Fun K x x st f fd
def Me (K:PySem.W.Frag) (C:Addr) (m q:Str) (st:Stmt):Prop:=∃f:Addr,PySem.W.findIn K (.ref C) m=some (some (.ref f))∧PySem.W.isFn K (.ref f)=true∧PySem.W.keepIn K (.ref f)=true∧∃fd:FuncData,Fun K m q st f fd
theorem Ga.elim {x:Str}{st:Stmt}{R:Prop}(g:Ga K x st) (k:∀f,PySem.W.nsIn K mainGlobals x=some (some (.ref f))→∀fd,Fun K x x st f fd→R):R:=by
 obtain⟨f,a,fd,F⟩:=g
 exact k f a fd F
theorem Ga.mk {x:Str}{st:Stmt}{f:Addr}{oc:Value}{od an:Option Addr}{osl:Array (Option Value)}{kV doc pm cdv ct:Value}(a:PySem.W.nsIn K mainGlobals x=some (some (.ref f))) (l:K.lookup f=some ⟨oc,od,.func (PySem.W.fnOf x x (defArgs st) (defBody st) (defScope st) .none kV doc pm an cdv ct),osl⟩) (c:PySem.W.codeIn K cdv x=true) (k:PySem.W.keepIn K (.ref f)=true):Ga K x st:=⟨f,a,_,fun_mk l c k⟩
end
mutual
inductive DW (H:Hp):V→PyData→Prop
 | non:DW H .non .none
 | bl (b:Bool):DW H (.bl b) (.bool b)
 | int (i:Int):DW H (.int i) (.int i)
 | str (x:Str):DW H (.str x) (.str x)
 | lst {a:Addr}{xs:List V}{ds:List PyData}:H a=some (.lst xs)→DWs H xs ds→DW H (.ref a) (.list ds)
 | tup {a:Addr}{xs:List V}{ds:List PyData}:H a=some (.tup xs)→DWs H xs ds→DW H (.ref a) (.tuple ds)
 | dic {a:Addr}:H a=some (.dK [])→DW H (.ref a) (.dict [])
inductive DWs (H:Hp):List V→List PyData→Prop
 | nil:DWs H [] []
 | cons {x:V}{d:PyData}{xs:List V}{ds:List PyData}:DW H x d→DWs H xs ds→DWs H (x::xs) (d::ds)
end
mutual
def nlD:PyData→Bool
 | .list _=>false
 | .tuple xs=>nlDs xs
 | _=>true
def nlDs:List PyData→Bool
 | []=>true
 | x::xs=>nlD x && nlDs xs
end
def Sub (M:Addr→Bool) (H H':Hp):Prop:=∀a o,M a=false→H a=some o→H' a=some o
section
variable {K:PySem.W.Frag}{σ:St}{H:Hp}{Q:VK}
theorem comp_enum {vs:List Str}{js:List Nat}{g:TG}{tt:TT}{te:TE}{a:Addr}{xs:List V}(Pv:Nat→St→List V→Hp→Prop) (D:Addr) (h0:Pv 0 (blkSt vs js σ) [] (upd H D (.lst []))) (hl:∀i σ' ys H',i≤xs.length→Pv i σ' ys H'→SqL K H' a xs)
  (hs:∀(i:Nat) x σ' ys H' t,xs[i]? = some x→Pv i σ' ys H'→H' t=none→g (.ref t) σ' (upd H' t (.tup [.int i,x])) fun σ3 H3=>tt σ3 H3 fun b H4=>if b=true then te σ3 H4 fun y H5=>H5 D=some (.lst ys)∧ys.length<sizeLine∧Pv (i+1) σ3 (ys ++ [y]) (upd H5 D (.lst (ys ++ [y]))) else Pv (i+1) σ3 ys H4)
  (hd:∀σ' ys H',Pv xs.length σ' ys H'→Q (.ref D) H'):CompW (Ite K a) vs js σ g tt te Q D H:=by
 refine⟨fun i m σ' ys H'=>m=xs.length-i∧i≤xs.length∧Pv i σ' ys H',⟨xs.length,by simp,Nat.zero_le _,h0⟩,?_⟩
 rintro i m σ' ys H' ⟨rfl,hi,p⟩
 have q:=hl i σ' ys H' hi p
 by_cases lt:i<xs.length
 ·refine .inr ⟨⟨xs,xs[i],q,by simp[lt]⟩,Pv (i+1),fun σ2 zs H2 p2=>⟨xs.length-(i+1),by omega,rfl,lt,p2⟩,fun x H2 y=>?_⟩
  obtain⟨t,u,nt,rfl,rfl,y1⟩:=y
  exact hs i u σ' ys _ t (y1 xs q) p nt
 ·obtain rfl:i=xs.length:=by omega
  exact .inl ⟨⟨xs,q,Nat.le_refl _⟩,hd σ' ys H' p⟩
end
end L2
namespace PySem
open Sem (wp)
section
variable {prog:Program}{w:World}{A:Around}{E:Value→Shared→Prop}{h:Heap}{g:Array GenState}{d:Drawn}{t:Nat}{os:OsState}
variable {nm q:Str}{C N:Addr}{bs bm bmB:List Value}{hdct:Bool}{sn:List Str}{sub:List Value}{ab:Bool}{col:Option Bool}{dd:Option Addr}{k0 k1 k2 k3 k5:Option Value}{B newId initId:String}
theorem tcall_initT (F:ExcBaseFacts B newId initId bmB) (T:OwnTail h bmB bm) {mN:Str→Option Value}{rest:List Value}{fI:Addr}{oI:Obj}{Q:Fin→Shared→Prop}
  (hC:h.get? C=some (excClassObj nm q C N bs bm hdct sn sub ab col dd k0 k1 k2 k3 k5 newId)) (hn:h.Ns N mN) (hi:mN "__init__" = some (.ref fI))
  (hfI:h.get? fI=some oI) (hfc:oI.cls = .type "function")
  (hq:∀h' e,Heap.MadeExcOf h h' e (.ref C) rest→h.objs.size≤e →
   wpAny (model prog w) A (call (.ref fI) (.ref e::rest)) (fun r s'=>r = .none∧Q (.done (.ret (.ref e))) s') E ⟨h',g,d,t,os⟩) (hrest:rest.length≤sizeLine:=by size_fits) :
  wpAny (model prog w) A (Builtin.«type.__call__» ⟨.ref C::rest,[]⟩) Q E ⟨h,g,d,t,os⟩:=by
 repeat (first|with_reducible refine wpAny_loadPart_at hC ?_|with_reducible refine wpAny_madeBy_exc hC ?_|wp_step)
 refine codeAny_call_builtin_code (Code.quiet_builtin _ F.quiet) (wpAny_check_new_subT F T hC ?_)
 refine codeAny_exc_new_subT F T hC ?_ hrest
 show wpAny _ _ _ _ _ _
 let o1:Obj:={ cls:=.type "tuple",data:=.seq rest.toArray }
 let o2:Obj:={ cls:=.ref C,data:=.fields #[.ref h.objs.size,.none,.none,.none,.bool false,.none] }
 have kp:∀b o,h.get? b=some o→((h.push o1).push o2).get? b=some o:=fun b o e=>Heap.get?_push_of_some o2 (Heap.get?_push_of_some o1 e)
 have hget:((h.push o1).push o2).get? (h.objs.size+1)=some o2:=by heap_get
 have hcC:(Value.ref C::bm).contains (.ref C)=true:=by simp
 have hC1:=kp _ _ hC
 unfold isInstance
 repeat (first|with_reducible refine wpAny_loadPart_at hget ?_|(with_reducible refine wpAny_isSubtype_exc hC1 ?_;rw[hcC])|wp_step)
 show wpAny _ _ (typeLookup (.ref C) _) _ _ _
 refine wpAny_typeLookup_tail hC1 (hn.keeps kp) (T.keeps kp) F.mroIs F.init.lookup ?_
 rw[hi]
 refine wpAny_holding (wpAny_bind ?_)
 unfold bindSpecial
 refine wpAny_bind (wpAny_typeOf (T := "function") ⟨_,kp _ _ hfI,hfc⟩ ?_)
 rw[if_pos (by decide)]
 refine wpAny_pure (wpAny_bind (wpAny_mono (hq _ (h.objs.size+1) ⟨kp,Heap.get?_none_of_le (Nat.le_succ _),h.objs.size,hget,Heap.get?_none_of_le (Nat.le_refl _),?_⟩ (Nat.le_succ _)) (fun r s' hr=>?_) fun _ _ x=>x))
 ·exact Heap.get?_push_of_some _ (Heap.get?_push_at rfl rfl)
 ·obtain⟨rfl,hQ⟩:=hr
  wp_walk
  exact hQ
theorem call_initT (F:ExcBaseFacts B newId initId bmB) (T:OwnTail h bmB bm) {mN:Str→Option Value}{rest:List Value}{fI:Addr}{oI:Obj}{Q:Value→Shared→Prop}
  (hC:h.get? C=some (excClassObj nm q C N bs bm hdct sn sub ab col dd k0 k1 k2 k3 k5 newId)) (hn:h.Ns N mN) (hi:mN "__init__" = some (.ref fI))
  (hfI:h.get? fI=some oI) (hfc:oI.cls = .type "function")
  (hq:∀h' e,Heap.MadeExcOf h h' e (.ref C) rest→h.objs.size≤e →
   wpAny (model prog w) (A.under (.builtin "type.__call__" ⟨.ref C::rest,[]⟩)) (call (.ref fI) (.ref e::rest)) (fun r s'=>r = .none∧Q (.ref e) s') E ⟨h',g,d,t,os⟩) (hrest:rest.length≤sizeLine:=by size_fits) :
  wpAny (model prog w) A (call (.ref C) rest) Q E ⟨h,g,d,t,os⟩:=by
 have f1:=tc_lookup
 have f2:=tc_bind (.ref C)
 have hT:(⟨h,g,d,t,os⟩ : Shared).TypeIs (.ref C) "type" :=⟨_,hC,rfl⟩
 refine wpAny_call (codeAny_of_tree ?_)
 show wpAny _ _ (callAny (.ref C) _) _ _ _
 repeat (any_goals (first|assumption|with_reducible refine wpAny_loadPart_at hC ?_|wp_step))
 refine⟨rfl,?_⟩
 refine codeAny_call_builtin_at (Code.quiet_builtin _ (by decide +kernel)) entry_typeCall (wpAny_check_type_call_sub hC (tcall_initT (hrest:=hrest) F T hC hn hi hfI hfc fun h' e hm hz=>?_))
 exact hq h' e hm hz
end
end PySem
namespace PySem
open Sem (wp)
open Builtin Builtin.ObjectAttr
inductive TlN (h:Heap) (bmB:List Value) (P:Str→Prop):List Value→Prop
 | base:TlN h bmB P bmB
 | own {A:Addr}{c0:Value}{dd:Option Addr}{cd:ClassData}{sl:Array (Option Value)}{mA:Str→Option Value}{tl:List Value} :
   h.get? A=some { cls:=c0,dict:=dd,data:=.cls cd,slots:=sl }→h.Ns cd.ns mA→(∀n,P n→mA n=none)→TlN h bmB P tl→TlN h bmB P (.ref A::tl)
theorem TlN.keeps {h h':Heap}{bmB tl:List Value}{P:Str→Prop}(T:TlN h bmB P tl) (hk:∀b o,h.get? b=some o→h'.get? b=some o):TlN h' bmB P tl:=by
 induction T with
 | base=>exact .base
 | own hA hN hni _ ih=>exact .own (hk _ _ hA) (hN.keeps hk) hni ih
theorem TlN.has {h:Heap}{bmB tl:List Value}{P:Str→Prop}(T:TlN h bmB P tl) {X:String}(hb:bmB.contains (.type X)=true):tl.contains (.type X)=true:=by
 induction T with
 | base=>exact hb
 | own _ _ _ _ ih=>rw[List.contains_cons,ih,Bool.or_true]
theorem TlN.tail {h:Heap}{bmB tl:List Value}{P:Str→Prop}(T:TlN h bmB P tl) (hp:P "__init__"):OwnTail h bmB tl:=by
 induction T with
 | base=>exact .base
 | own hA hN hni _ ih=>exact .own hA hN (hni _ hp) ih
theorem TlN.passes {h:Heap}{bmB tl:List Value}{P:Str→Prop}(T:TlN h bmB P tl) {self:Value}{what:Str}(hb:refuseLoop self what bmB=pure ()):refuseLoop self what tl=pure ():=by
 induction T with
 | base=>exact hb
 | own _ _ _ _ ih=>rw[refuseLoop_ref];exact ih
section
variable {M:Model}{prog:Program}{w:World}{A:Around}{E:Value→Shared→Prop}{h:Heap}{g:Array GenState}{d:Drawn}{t:Nat}{os:OsState}{P:Str→Prop}
theorem lookN {bmB tl:List Value}{name:Str}{y:Option Value}{Q:Option Value→Shared→Prop}(T:TlN h bmB P tl) (hp:P name) (hrest:lookupAlong bmB name=pure y) (hq:Q y ⟨h,g,d,t,os⟩) :
  wpAny M A (lookupAlong tl name) Q E ⟨h,g,d,t,os⟩:=by
 induction T with
 | base=>rw[hrest];exact wpAny_pure hq
 | own hA hN hni _ ih =>
  rw[lookupAlong_cons]
  refine wpAny_bind (wpAny_classOwn_cls hA hN ?_)
  rw[hni _ hp]
  exact ih
variable {nm q:Str}{C N x:Addr}{bs bm bmB:List Value}{hdct:Bool}{sn:List Str}{sub:List Value}{ab:Bool}{col:Option Bool}{dd:Option Addr}{k0 k1 k2 k3 k5:Option Value}{B newId sa owner:String}{mN:Str→Option Value}{name:Str}{v:Value}
theorem typeLookN {y:Option Value}{Q:Option Value→Shared→Prop}
  (hC:h.get? C=some (excClassObj nm q C N bs bm hdct sn sub ab col dd k0 k1 k2 k3 k5 newId)) (hn:h.Ns N mN) (T:TlN h bmB P bm) (hp:P name) (hbm:mroOf (.type B)=pure bmB) (hB:typeLookup (.type B) name=pure y)
  (hq:Q (match mN name with|some v=>some v|none=>y) ⟨h,g,d,t,os⟩):wpAny M A (typeLookup (.ref C) name) Q E ⟨h,g,d,t,os⟩:=by
 have hrest:lookupAlong bmB name=pure y:=by rw[typeLookup_eq,hbm]at hB;exact hB
 rw[typeLookup_eq]
 refine wpAny_bind (wpAny_mroOf_exc hC ?_)
 rw[lookupAlong_cons]
 refine wpAny_bind (wpAny_classOwn_exc hC hn ?_)
 cases hv:mN name with
 | some v=>rw[hv]at hq;exact wpAny_pure hq
 | none=>rw[hv]at hq;exact lookN T hp hrest hq
theorem check_saT {o:Obj}{nameV:Value}{Q:Unit→Shared→Prop}(SF:StoreFacts B bmB sa owner) (T:TlN h bmB P bm)
  (hC:h.get? C=some (excClassObj nm q C N bs bm true sn sub ab col dd k0 k1 k2 k3 k5 newId)) (hx:h.get? x=some o) (hc:o.cls = .ref C) (hq:Q () ⟨h,g,d,t,os⟩) :
  wpAny M A (checkBuiltinCall sa ⟨[.ref x,nameV,v],[]⟩) Q E ⟨h,g,d,t,os⟩:=by
 have hcB:(Value.ref C::bm).contains (.type owner)=true:=by rw[List.contains_cons,T.has SF.hasOwner,Bool.or_true]
 have ha:=SF.args (.ref x) nameV v
 simp only[checkBuiltinCall,SF.kind,SF.split]
 refine wpAny_bind ?_
 ·unfold isInstance
  repeat (first|(with_reducible refine wpAny_loadPart_at hx ?_;rw[hc])|(with_reducible refine wpAny_isSubtype_exc hC ?_;rw[hcB])|wp_step)
  cases hsig:Manifest.signature? sa with
  | none=>exact wpAny_pure hq
  | some sig =>
   simp only[argsOk,hsig]at ha
   have h2:Bind.checkArgs sa sig ⟨[.ref x,nameV,v],[]⟩=pure ():=ha
   show wpAny M A (Bind.checkArgs sa sig ⟨[.ref x,nameV,v],[]⟩) Q E _
   rw[h2];exact wpAny_pure hq
theorem entryT {o:Obj}{tk:Tok}{Q:Fin→Shared→Prop}(SF:StoreFacts B bmB sa owner) (T:TlN h bmB P bm) (hp:P name)
  (hC:h.get? C=some (excClassObj nm q C N bs bm true sn sub ab col dd k0 k1 k2 k3 k5 newId)) (hn:h.Ns N mN) (hna:mN name=none)
  (hB:typeLookup (.type B) name=pure none) (hx:h.get? x=some o) (hc:o.cls = .ref C) (hnc:∀c,o.data ≠ .cls c) (hdn:o.dict=none)
  (hq:∀h' tk',h'.get? x=some { o with dict:=some h.objs.size }→h'.Ns1 h.objs.size (fun y=>if y=name then some v else none) →
   (∀b ob,b≠x→h.get? b=some ob→h'.get? b=some ob)→Q (.done (.ret .none)) ⟨h',g,d,tk',os⟩) :
  wpAny (model prog w) A (Builtin.«object.__setattr__» ⟨[.ref x,.str name tk,v],[]⟩) Q E ⟨h,g,d,t,os⟩:=by
 have hpass:=T.passes (SF.passes (.ref x))
 unfold Builtin.«object.__setattr__»
 repeat (first|rw[refuse_eq] | (rw[refuseLoop_ref,hpass])|(with_reducible refine wpAny_loadPart_at hx ?_;rw[hc])|with_reducible refine wpAny_mroOf_exc hC ?_|(with_reducible refine typeLookN hC hn T hp SF.mro hB ?_;rw[hna])|wp_step)
 rw[hdn,if_neg (by simp[typeHasDict])]
 split
 ·rename_i hcd
  cases hcd
 split
 ·rename_i c hcd
  exact absurd hcd (hnc c)
 ·have hx1:(h.push { cls:=.type "dict",data:=.dict #[] }).get? x=some o:=Heap.get?_push_of_some _ hx
  have hxs:x≠h.objs.size:=Nat.ne_of_lt (Heap.lt_size hx)
  refine wpAny_bind (wpAny_alloc' ?_)
  refine wpAny_bind (wpAny_update' hx1 ?_)
  refine wpAny_pure ?_
  have hgd:((h.push { cls:=.type "dict",data:=.dict #[] }).update x fun o=>{ cls:=o.cls,dict:=some h.objs.size,data:=o.data,slots:=o.slots }).get? h.objs.size
    = some { cls:=.type "dict",data:=.dict #[] } :=
   (Heap.get?_update_ne _ _ _ _ hxs.symm).trans (Heap.get?_push_at rfl rfl)
  have hnd:((h.push { cls:=.type "dict",data:=.dict #[] }).update x fun o=>{ cls:=o.cls,dict:=some h.objs.size,data:=o.data,slots:=o.slots }).Ns h.objs.size (fun _=>none) :=
   ⟨_,#[],_,hgd,rfl,fun e he=>absurd he (by simp),fun _=>rfl⟩
  show wpAny _ _ (storeInDict h.objs.size (.str name tk) name v) _ _ _
  unfold storeInDict newKeyGuard
  refine wpAny_bind (wpAny_pure (wpAny_bind (wpAny_nsSet1 (Heap.Ns1.of_empty hnd) fun h' hn' hs=>?_)))
  obtain⟨oD,esD,epD,hoD,hdD,hcD⟩:=hn'.count (Within.cons name v Within.nil)
  refine wpAny_bind (wpAny_lookBehind hoD (by rw[hdD];exact pastItsLine_dict (Nat.le_trans hcD (by rw[List.length_cons,List.length_nil,sizeLine_eq];omega))) ?_)
  wp_walk
  refine hq h' _ ?_ hn' fun b ob hbx hb=>?_
  ·refine(hs.2 x hxs).trans (Heap.get?_update_self _ hx1 ?_)
   have hfr:=(Heap.get?_some_iff.mp hx).2
   obtain⟨oc,od,odt,osl⟩:=o
   cases odt <;> first|rfl|exact hfr
  ·exact(hs.2 b (Nat.ne_of_lt (Heap.lt_size hb))).trans ((Heap.get?_update_ne _ _ _ _ hbx).trans (Heap.get?_push_of_some _ hb))
theorem setAttrT {o:Obj}{Q:Unit→Shared→Prop}(SF:StoreFacts B bmB sa owner) (T:TlN h bmB P bm) (hp:P name) (hps:P "__setattr__")
  (hC:h.get? C=some (excClassObj nm q C N bs bm true sn sub ab col dd k0 k1 k2 k3 k5 newId)) (hn:h.Ns N mN) (hns:mN "__setattr__" = none) (hna:mN name=none)
  (hB:typeLookup (.type B) name=pure none) (hx:h.get? x=some o) (hc:o.cls = .ref C) (hnc:∀c,o.data ≠ .cls c) (hdn:o.dict=none)
  (hq:∀h' tk',h'.get? x=some { o with dict:=some h.objs.size }→h'.Ns1 h.objs.size (fun y=>if y=name then some v else none) →
   (∀b ob,b≠x→h.get? b=some ob→h'.get? b=some ob)→Q () ⟨h',g,d,tk',os⟩) :
  wpAny (model prog w) A (setAttr (.ref x) name v) Q E ⟨h,g,d,t,os⟩:=by
 have f3:=SF.slot.bind (.ref x)
 unfold setAttr callSpecial? specialOf
 repeat (any_goals (first|assumption|(with_reducible refine wpAny_loadPart_at hx ?_;rw[hc])|(with_reducible refine typeLookN hC hn T hps SF.mro SF.slot.lookup ?_;rw[hns])|wp_step))
 refine codeAny_call_builtin SF.slot.plain SF.entry (check_saT SF T hC hx hc (entryT SF T hp hC hn hna hB hx hc hnc hdn fun h' tk' h1 h2 h3=>?_))
 repeat (any_goals (first|assumption|wp_step))
 exact hq h' tk' h1 h2 h3
end
end PySem
namespace L2
open PySem PySem.Spec PyProof.Rows
section
variable {P:Program}{w:World}{K:PySem.W.Frag}{A:Around}{s:Shared}{k:Nat}{f e C N:Addr}{name qual at_:Str}{params:Arguments}{scope:Scope}{dV kV doc pm cdv ct oc u:Value}{an od:Option Addr}
 {osl:Array (Option Value)}{nm q:Str}{bs bm bmB:List Value}{sn:List Str}{sub:List Value}{ab:Bool}{col:Option Bool}{dd:Option Addr}{k0 k1 k2 k3 k5:Option Value}{B newId sa owner:String}{mN:Str→Option Value}{oe:Obj}{Pn:Str→Prop}{p1 p2 p3 p4:Pos}
theorem init_ok (lk:K.lookup f=some ⟨oc,od,.func (PySem.W.fnOf name qual params [.Assign [.Attribute (.Name "self" p1) at_ p2] (.Name at_ p3) p4] scope dV kV doc pm an cdv ct),osl⟩) (hcd:PySem.W.codeIn K cdv qual=true)
  (S:FnScope ["self",at_] ["self",at_] scope) (KX:K.In s.heap) (lim:s.heap.NoLimit) (hr:Room (k+1) A)
  (hs:∀env,swapsWith (.Name at_ p3) (some (.Attribute (.Name "self" p1) at_ p2)) p4.line env=pure false)
  (h1:scope.names.lookup ("self" : Str)=some .local) (h2:scope.names.lookup at_=some .local) (hne:at_ ≠ "self") (hd:(at_ ==("__debug__" : Str))=false)
  (hb:BindsTo s (PySem.W.fnOf name qual params [.Assign [.Attribute (.Name "self" p1) at_ p2] (.Name at_ p3) p4] scope dV kV doc pm an cdv ct) ⟨[.ref e,u],[]⟩ [("self",.ref e),(at_,u)])
  (SF:StoreFacts B bmB sa owner) (T:TlN s.heap bmB Pn bm) (hp:Pn at_) (hps:Pn "__setattr__")
  (hC:s.heap.get? C=some (excClassObj nm q C N bs bm true sn sub ab col dd k0 k1 k2 k3 k5 newId)) (hn:s.heap.Ns N mN) (hns:mN "__setattr__" = none) (hna:mN at_=none)
  (hB:typeLookup (.type B) at_=pure none) (hx:s.heap.get? e=some oe) (hc:oe.cls = .ref C) (hnc:∀c,oe.data ≠ .cls c) (hdn:oe.dict=none)
  {R:Result→Shared→Prop}
  (hq:∀h' tk' D,s.heap.objs.size≤D→D≠e→h'.get? e=some { oe with dict:=some D }→h'.Ns1 D (fun y=>if y=at_ then some u else none) →
   (∀b ob,b≠e→s.heap.get? b=some ob→h'.get? b=some ob)→R (.ok (.ret .none)) { s with heap:=h',toks:=tk' }) :
  codeAny (model P w) A (.call (.ref f) ⟨[.ref e,u],[]⟩) R s:=by
 have hkind:∀y ∈ [(("self" : Str),Value.ref e),(at_,u)],scope.names.lookup y.1=some .local ∨(scope.names.lookup y.1=some .cell∧((cellsFrom (s.heap.objs.size+1) scope.names []).lookup y.1).isSome=true):=fun y hy=>by
  rcases List.mem_cons.mp hy with rfl|hy
  ·exact .inl h1
  ·rw[List.mem_singleton]at hy;subst hy;exact .inl h2
 refine codeAny_call_function hr.depth (KX _ _ lk) rfl S.co S.gen rfl (PySem.W.codeRec_of KX hcd) (hb _ _ _ _ ?_)
 refine wpAny_newFunctionEnv_cells S.kind hkind fun env he s1 x=>?_
 subst he
 refine⟨lim.keeps x.toInCall.keep,codeAny_func ?_⟩
 obtain⟨hh1,tk,rfl,hk⟩:=x.done
 refine wpAny_execs_cons (plainObj_wpAny_Assign_Attribute ?_ (hs _))
 have m1:bindL (envOfC qual scope s.heap.objs.size f cdv).kindOf [("self",.ref e),(at_,u)] (fun _=>none) at_=some u:=by
  exact bindL_get (kindOf:=(envOfC qual scope s.heap.objs.size f cdv).kindOf) (P:=["self",at_]) (vs:=[.ref e,u]) (i:=1) S.nd rfl rfl h2
 have m2:bindL (envOfC qual scope s.heap.objs.size f cdv).kindOf [("self",.ref e),(at_,u)] (fun _=>none) "self" = some (.ref e):=by
  exact bindL_get (kindOf:=(envOfC qual scope s.heap.objs.size f cdv).kindOf) (P:=["self",at_]) (vs:=[.ref e,u]) (i:=0) S.nd rfl rfl h1
 refine wpAny_Name (wpAny_loadName_local S.kind h2 x.toInCall.ns m1 ?_) hd
 refine wpAny_Name (wpAny_loadName_local S.kind h1 x.toInCall.ns m2 ?_) (by decide)
 obtain⟨h,g,d,t,os⟩:=s
 have Tk:=T.keeps hk
 refine setAttrT SF Tk hp hps (hk _ _ hC) (hn.keeps hk) hns hna hB (hk _ _ hx) hc hnc hdn fun h' tk' g1 g2 g3=>?_
 refine wpAny_execs_nil ?_
 have hz:h.objs.size≤hh1.objs.size:=by
  obtain⟨o,_,_,ho,_⟩:=x.toInCall.ns
  exact Nat.le_of_lt (Heap.lt_size ho)
 exact hq h' tk' hh1.objs.size hz (fun z=>by rw[← z]at hx;exact Nat.lt_irrefl _ (Heap.lt_size (hk _ _ hx))) g1 g2 fun b ob nb hb=>g3 b ob nb (hk _ _ hb)
end
end L2
namespace PySem
open Sem (wp)
section
variable {M:Model}{prog:Program}{w:World}{A:Around}{E:Value→Shared→Prop}{s:Shared}{env:Env}
variable {nm q:Str}{C N:Addr}{bs bm bmB:List Value}{hdct:Bool}{sn:List Str}{sub:List Value}{ab:Bool}{col:Option Bool}{dd:Option Addr}{k0 k1 k2 k3 k5:Option Value}{B newId initId:String}
theorem raiseT {x:Sem Value}{Q:Flow→Shared→Prop}(hbase:bm.contains (.type "BaseException")=true) (hh:A.handled=none)
  (h:wpAny M A x (fun v s1=>∃e dct t sl,v = .ref e∧s1.heap.get? C=some (excClassObj nm q C N bs bm hdct sn sub ab col dd k0 k1 k2 k3 k5 newId) ∧
   s1.heap.get? e=some ⟨.ref C,dct,.fields #[.ref t,.none,.none,.none,.bool false,.none],sl⟩∧E (.ref e) s1) E s) :
  wpAny M A (raiseStmt env (some x) none) Q E s:=by
 have hcB:(Value.ref C::bm).contains (.type "BaseException")=true:=by rw[List.contains_cons,hbase,Bool.or_true]
 unfold raiseStmt
 refine wpAny_bind (wpAny_mono h (fun v s1 h1=>?_) fun _ _ x=>x)
 obtain⟨e,dct,t,sl,rfl,hC,he,hE⟩:=h1
 obtain⟨hp,g,d,tk,os⟩:=s1
 repeat (first|with_reducible refine wpAny_loadPart_at he ?_|with_reducible refine wpAny_loadPart_at hC ?_|(with_reducible refine wpAny_isSubtype_exc hC ?_;rw[hcB])|wp_step)
 exact wpAny_raiseNew_none hh hE
theorem Raise_initT (F:ExcBaseFacts B newId initId bmB) {mN:Str→Option Value}{x:Str}{np cpos pos:Pos}{args:List Expr}{fI:Addr}{oI:Obj}{Q:Flow→Shared→Prop}
  (hbase:bm.contains (.type "BaseException")=true) (hh:A.handled=none) (hplain:(backTo cpos (starEach args env)).any (·.1)=false) (hi:mN "__init__" = some (.ref fI)) (hfc:oI.cls = .type "function")
  (h:wpAny (model prog w) A (eval (.Name x np) env) (fun f s1=>f = .ref C∧wpAny (model prog w) A (evalArgs (.ref C) true (backTo cpos (starEach args env)) [])
   (fun a s2=>a.kw=[]∧a.pos.length≤sizeLine∧s2.heap.get? C=some (excClassObj nm q C N bs bm hdct sn sub ab col dd k0 k1 k2 k3 k5 newId)∧s2.heap.Ns N mN∧OwnTail s2.heap bmB bm∧s2.heap.get? fI=some oI ∧
    ∀h' e,Heap.MadeExcOf s2.heap h' e (.ref C) a.pos→s2.heap.objs.size≤e →
     wpAny (model prog w) (A.under (.builtin "type.__call__" ⟨.ref C::a.pos,[]⟩)) (call (.ref fI) (.ref e::a.pos)) (fun r s'=>r = .none∧s'.heap.get? C=some (excClassObj nm q C N bs bm hdct sn sub ab col dd k0 k1 k2 k3 k5 newId) ∧
      (∃dct t sl,s'.heap.get? e=some ⟨.ref C,dct,.fields #[.ref t,.none,.none,.none,.bool false,.none],sl⟩)∧E (.ref e) s') E { s2 with heap:=h' }) E s1) E s) :
  wpAny (model prog w) A (exec (.Raise (some (.Call (.Name x np) args [] cpos)) none pos) env) Q E s:=by
 rw[arm_exec_Raise]
 refine wpAny_bind (wpAny_standAt (raiseT (C:=C) (nm:=nm) (q:=q) (N:=N) (bs:=bs) (bm:=bm) (hdct:=hdct) (sn:=sn) (sub:=sub) (ab:=ab) (col:=col) (dd:=dd) (k0:=k0) (k1:=k1) (k2:=k2) (k3:=k3) (k5:=k5) (newId:=newId) hbase hh (wpAny_bind (wpAny_mono (wpAny_Call_ofName (wpAny_mono h (fun f s1 h1=>?_) fun _ _ x=>x)) (fun v s3 h3=>wpAny_bind (wpAny_standAt (wpAny_pure h3))) fun _ _ x=>x))))
 obtain⟨rfl,h1⟩:=h1
 unfold callWith
 refine wpAny_bind (wpAny_holding (wpAny_mono h1 (fun a s2 h2=>wpAny_bind (wpAny_standAt ?_)) fun _ _ x=>x))
 obtain⟨apos,akw⟩:=a
 obtain⟨hkw,hlen,hC,hn,T,hfI,h2⟩:=h2
 obtain rfl:akw=[]:=hkw
 obtain⟨hp,g,d,tk,os⟩:=s2
 simp only[hplain]
 refine wpAny_bind (wpAny_keeperOf_exc hC ?_)
 refine wpAny_bind (call_initT (hrest:=hlen) F T hC hn hi hfI hfc fun h' e hm hz=>wpAny_mono (h2 h' e hm hz) (fun r s' z=>⟨z.1,wpAny_bind (wpAny_holding (wpAny_point (wpAny_pure ?_)))⟩) fun _ _ z=>z)
 obtain⟨_,hC',⟨dct,t,sl,he⟩,hE⟩:=z
 exact⟨e,dct,t,sl,rfl,hC',he,hE⟩
end
end PySem
namespace PySem
open Sem (wp)
theorem mapFields_at {o:Obj}{vs:Array Value}(h:o.data = .fields vs) (f:Array Value→Array Value):Obj.mapFields f o = { o with data:=.fields (f vs) }:=by
 obtain⟨c,d,dt,sl⟩:=o
 subst h
 rfl
structure Entered (l:List Env) (e:Addr) (oe:Obj) (h h':Heap):Prop where
 exc:∃vs T oT ts,h'.get? e=some { oe with data:=.fields vs }∧vs[1]? = some (.ref T)∧h.objs.size≤T∧T≠e∧h'.get? T=some oT∧oT.data = .fields ts∧ts[3]? = some .none
 keep:∀b o,b≠e→b∉l.filterMap (·.frame)→h.get? b=some o→h'.get? b=some o
 slot:∀b o,b≠e→h.get? b=some o→∃sl,h'.get? b=some { o with slots:=sl }
section
variable {M:Model}{A:Around}{E:Value→Shared→Prop}{s:Shared}
theorem newEntryS {base:Heap}{env:Env}{outer:List Env}{L e:Addr}{oe:Obj}{vs:Array Value}{head:Value}{hadNext:Bool}{Q:Unit→Shared→Prop}
  (hfr:A.frames=some (env::outer)) (hl:s.heap.FunFrames base (env::outer)) (hf:env.frame=some L)
  (he:s.heap.get? e=some oe) (hd:oe.data = .fields vs) (hsz:1<vs.size)
  (h:∀h',Entered (env::outer) e oe s.heap h'→Q () { s with heap:=h' }) :
  wpAny M A (do let a ← frameOf env;let pl ← entryPlaceOf L hadNext;let b ← EntryCells.newEntry head a .none (rawInt L) .none pl;setField (.ref e) 1 b) (fun _ s'=>wpAny M A (setFlight (.ref e) none) Q E s') E s:=by
 have hene:e∉(env::outer).filterMap (·.frame):=fun hm=>by
  obtain⟨_,o,ho,hnf⟩:=hl.mem hm
  rw[he]at ho;injection ho with ho;subst ho;exact hnf vs hd
 refine wpAny_bind (wpAny_frameOf_fun hfr hl hf fun g hg=>?_)
 refine wpAny_bind (wpAny_entryPlaceOf fun pl hpl=>?_)
 unfold EntryCells.newEntry newFields
 refine wpAny_bind (wpAny_newObj_type ?_ (hpl.sizeOk5 _ _ _ _ _))
 have he1:g.get? e=some oe:=(hg.2.1 e hene).trans he
 generalize hT0:({ cls:=.type "traceback",dict:=none,data:=.fields ([head,.ref L,.none,rawInt L,.none]++(if pl.isEmpty then List.replicate 6 Value.none else pl)).toArray }:Obj)=T0
 have hTd:∃ts,T0.data = .fields ts∧3<ts.size∧((ts.setIfInBounds 3 Value.none)[3]? = some .none):=by
  rw[← hT0]
  refine⟨_,rfl,by simp only[List.size_toArray,List.length_append,List.length_cons,List.length_nil] <;> omega,?_⟩
  first|(simp;done)|(rcases hpl with rfl|⟨_,_,_,_,_,_,_,rfl⟩ <;> simp)
 obtain⟨ts,hts,hs3,h3⟩:=hTd
 have he2:=Heap.get?_push_of_some (h:=g) T0 he1
 refine wpAny_setField he2 hd hsz ?_
 have hTe:g.objs.size≠e:=Nat.ne_of_gt (Heap.lt_size he1)
 have hd3:=Obj.data_mapFields hd (·.setIfInBounds 1 (Value.ref g.objs.size))
 have he3:=Heap.get?_update_self (Obj.mapFields (·.setIfInBounds 1 (Value.ref g.objs.size))) he2 (Obj.isFreed_of_fields hd3)
 have hT3:=(Heap.get?_update_other (g.push T0) (Obj.mapFields (·.setIfInBounds 1 (Value.ref g.objs.size))) (Ne.symm hTe)).trans (Heap.get?_push_size g (Obj.isFreed_of_fields hts))
 unfold setFlight
 refine wpAny_bind (wpAny_field he3 hd3 (x:=.ref g.objs.size) (by simp[hsz]) ?_)
 rw[if_pos (show(Value.ref g.objs.size != Value.none)=true from by simp)]
 refine wpAny_setField hT3 hts hs3 (h _ ?_)
 have keep : ∀ b o, b ≠ e → g.get? b = some o → (((g.push T0).update e (Obj.mapFields (·.setIfInBounds 1 (Value.ref g.objs.size)))).update g.objs.size
    (Obj.mapFields (·.setIfInBounds 3 ((none:Option Addr).elim Value.none fun f=>rawInt f)))).get? b=some o:=fun b o hbe hb=>by
  rw[Heap.get?_update_other _ _ (Nat.ne_of_gt (Heap.lt_size hb)),Heap.get?_update_other _ _ (Ne.symm hbe)]
  exact Heap.get?_push_of_some _ hb
 have heE:=(Heap.get?_update_other ((g.push T0).update e (Obj.mapFields (·.setIfInBounds 1 (Value.ref g.objs.size)))) (Obj.mapFields (·.setIfInBounds 3 ((none:Option Addr).elim Value.none fun f=>rawInt f))) hTe).trans he3
 rw[mapFields_at hd]at heE
 refine⟨⟨_,g.objs.size,_,_,heE,by simp[hsz],?_,hTe,Heap.get?_update_self _ hT3 (Obj.isFreed_of_fields (Obj.data_mapFields hts _)),Obj.data_mapFields hts _,h3⟩,fun b o hb hf hs=>keep b o hb ((hg.2.1 b hf).trans hs),fun b o hb hs=>?_⟩
 ·exact Nat.le_of_eq hg.1.symm
 ·obtain⟨sl,hs⟩:=hg.2.2 b o hs
  exact⟨sl,keep b _ hb hs⟩
theorem noteFirst {base:Heap}{env:Env}{outer:List Env}{L e:Addr}{oe:Obj}{vs:Array Value}{Q:Unit→Shared→Prop}
  (hfr:A.frames=some (env::outer)) (hl:s.heap.FunFrames base (env::outer)) (hf:env.frame=some L)
  (he:s.heap.get? e=some oe) (hd:oe.data = .fields vs) (h1:vs[1]? = some .none)
  (h:∀h',Entered (env::outer) e oe s.heap h'→Q () { s with heap:=h' }):wpAny M A (noteFrame (.ref e) env) (fun _ s'=>wpAny M A (setFlight (.ref e) none) Q E s') E s:=by
 unfold noteFrame
 simp only[hf]
 refine wpAny_bind (wpAny_field he hd h1 ?_)
 rw[if_neg (by decide)]
 exact newEntryS hfr hl hf he hd (Array.getElem?_eq_some_iff.mp h1).1 h
structure EnteredX (l:List Env) (e T:Addr) (oe oT:Obj) (h h':Heap):Prop where
 exc:∃vs T' oT' ts,h'.get? e=some { oe with data:=.fields vs }∧vs[1]? = some (.ref T')∧h.objs.size≤T'∧T'≠e∧h'.get? T'=some oT'∧oT'.data = .fields ts∧ts[3]? = some .none
 old:∃ts,h'.get? T=some { oT with data:=.fields ts }∧ts[3]? = some .none
 keep:∀b o,b≠e→b≠T→b∉l.filterMap (·.frame)→h.get? b=some o→h'.get? b=some o
 slot:∀b o,b≠e→b≠T→h.get? b=some o→∃sl,h'.get? b=some { o with slots:=sl }
theorem noteNext {base:Heap}{env:Env}{outer:List Env}{L e T:Addr}{oe oT:Obj}{vs ts:Array Value}{Q:Unit→Shared→Prop}
  (hfr:A.frames=some (env::outer)) (hl:s.heap.FunFrames base (env::outer)) (hf:env.frame=some L)
  (he:s.heap.get? e=some oe) (hd:oe.data = .fields vs) (h1:vs[1]? = some (.ref T)) (hTe:T≠e) (hT:s.heap.get? T=some oT) (hdT:oT.data = .fields ts) (h3:ts[3]? = some .none)
  (h:∀h',EnteredX (env::outer) e T oe oT s.heap h'→Q () { s with heap:=h' }):wpAny M A (noteFrame (.ref e) env) (fun _ s'=>wpAny M A (setFlight (.ref e) none) Q E s') E s:=by
 unfold noteFrame
 simp only[hf]
 refine wpAny_bind (wpAny_field he hd h1 ?_)
 rw[if_pos (show(Value.ref T != Value.none)=true from by simp)]
 refine wpAny_bind (wpAny_field hT hdT h3 ?_)
 rw[if_neg (show ¬((Value.none == rawInt L)=true) from by simp[rawInt])]
 have hs3:=(Array.getElem?_eq_some_iff.mp h3).1
 refine wpAny_bind (wpAny_setField hT hdT hs3 ?_)
 have other:∀b,b≠T→(s.heap.update T (Obj.mapFields (·.setIfInBounds 3 Value.none))).get? b=s.heap.get? b:=fun b hb=>Heap.get?_update_other _ _ (Ne.symm hb)
 have atT:=Heap.get?_update_self (Obj.mapFields (·.setIfInBounds 3 Value.none)) hT (Obj.isFreed_of_fields (Obj.data_mapFields hdT _))
 rw[mapFields_at hdT]at atT
 have noRec:∀b o,s.heap.get? b=some o→(∀vs,o.data ≠ .fields vs)→b≠T:=fun b o hb hnf q=>by
  rw[q,hT]at hb;injection hb with hb;subst hb;exact hnf ts hdT
 have nT:T∉(env::outer).filterMap (·.frame):=fun hm=>by
  obtain⟨_,o,ho,hnf⟩:=hl.mem hm
  rw[hT]at ho;injection ho with ho;subst ho;exact hnf ts hdT
 refine newEntryS hfr (hl.of_keeps fun b o hb hnf=>⟨o,(other b (noRec b o hb hnf)).trans hb,rfl⟩) hf ((other e (Ne.symm hTe)).trans he) hd (Array.getElem?_eq_some_iff.mp h1).1 fun h' x=>h h' ?_
 obtain⟨vs',T',oT',ts',g1,g2,g3,g4,g5,g6,g7⟩:=x.exc
 refine⟨⟨vs',T',oT',ts',g1,g2,?_,g4,g5,g6,g7⟩,⟨_,x.keep _ _ hTe nT atT,by simp[hs3]⟩,fun b o b1 b2 b3 hb=>x.keep b o b1 b3 ((other b b2).trans hb),fun b o b1 b2 hb=>x.slot b o b1 ((other b b2).trans hb)⟩
 rw[Heap.size_after_update]at g3;exact g3
end
end PySem
namespace L2
open PySem PySem.Spec PyProof.Rows
def ExP (e C D:Addr) (T:Option Addr):Heap→Prop:=fun h=>∃vs sl,h.get? e=some ⟨.ref C,some D,.fields vs,sl⟩∧vs[1]? = some (match T with|some t=>Value.ref t|none=>.none)
def TbP (T:Addr):Heap→Prop:=fun h=>∃oT ts,h.get? T=some oT∧oT.data = .fields ts∧ts[3]? = some .none
structure Exc (H:Hp) (e C D:Addr) (T:Option Addr) (a:Str) (v:V):Prop where
 ex:H e=some (.ext (ExP e C D T))
 xd:H D=some (.xd [(a,v)])
 tb:∀t,T=some t→H t=some (.ext (TbP t))∧t≠e
section
variable {X:Cx}{pins:List (Addr×Obj)}{σ:St}{H H':Hp}{s:Shared}{h':Heap}
theorem Inv.flown (I:Inv X pins σ H s) {S:Addr→Prop}
  (keep:∀b o,¬ S b→b∉frs (X.env::X.outer)→s.heap.get? b=some o→h'.get? b=some o)
  (slot:∀b o,¬ S b→s.heap.get? b=some o→∃sl,h'.get? b=some { o with slots:=sl })
  (sx:∀b,S b→∃φ,H b=some (.ext φ)) (st:∀b,S b→∃o,h'.get? b=some o)
  (hn:∀b,¬ S b→(H b≠none ∨ ∃o,s.heap.get? b=some o)→H' b=H b) (hf:X.env.frame=some X.env.locals)
  (hok:HOk X.prog X.w H' h'):Inv X pins σ H' { s with heap:=h' }:=by
 have nS:∀b,H b=none→¬ S b:=fun b e z=>by obtain⟨φ,q⟩:=sx b z;rw[q]at e;cases e
 have nfr:∀b,b≠X.env.locals→b∉X.fs→b∉frs (X.env::X.outer):=fun b n1 n2 z=>by
  unfold frs at z
  rw[List.filterMap_cons,hf]at z
  rcases List.mem_cons.mp z with q|q
  ·exact n1 q
  ·exact n2 q
 have nl:∀b o,X.s₀.heap.get? b=some o→b≠X.env.locals:=fun b o q z=>by
  rw[z]at q
  exact absurd (Nat.lt_of_lt_of_le (Heap.lt_size q) I.ok.above) (Nat.lt_irrefl _)
 have same:∀b u,H b=some u→(∀φ,u ≠ .ext φ)→H' b=some u:=fun b u q n=>by
  rw[hn b (fun z=>by obtain⟨φ,r⟩:=sx b z;rw[q]at r;exact n φ (Option.some.inj r)) (.inl (by rw[q];intro z;cases z))];exact q
 have cellK:∀x c v,X.env.cells.lookup x=some c→s.heap.IsCell c v→h'.IsCell c v:=fun x c v e ⟨o,ho,hd⟩=>by
  obtain⟨sl,q⟩:=slot c o (nS c (I.freeC x c e)) ho
  exact⟨_,q,hd⟩
 have hl0:∃o,s.heap.get? X.env.locals=some o:=by obtain⟨_,⟨o,_,_,ho,_⟩,_⟩:=I.loc;exact⟨o,ho⟩
 refine⟨I.ok,I.os,I.bare,⟨fun b o q n f x=>?_,fun b o q n f x=>?_,fun b o q n x=>?_,fun b o q x=>?_,fun b xs q=>?_,fun b o u q=>?_,fun b ps q=>?_⟩,?_,fun x c e=>?_,?_,fun x c e=>?_,fun p hp=>?_,hok,I.len⟩
 ·exact keep b o (nS b (I.base.free b o q n x)) (nfr b (nl b o q) f) (I.base.keep b o q n f x)
 ·obtain⟨sl,r⟩:=I.base.slot b o q n f x
  obtain⟨sl',r'⟩:=slot b _ (nS b (I.base.free b o q n x)) r
  exact⟨sl',r'⟩
 ·have z:=I.base.free b o q n x
  obtain⟨o',r⟩:=I.base.there b o q x
  rw[hn b (nS b z) (.inr ⟨o',r⟩)];exact z
 ·obtain⟨o',r⟩:=I.base.there b o q x
  by_cases c:S b
  ·exact st b c
  ·obtain⟨sl,r'⟩:=slot b o' c r
   exact⟨_,r'⟩
 ·exact same b _ (I.base.tups b xs q) (by intro φ z;cases z)
 ·exact same b _ (I.base.frzs b o u q) (by intro φ z;cases z)
 ·obtain⟨more,r⟩:=I.base.tbls b ps q
  exact⟨more,same b _ r (by intro φ z;cases z)⟩
 ·obtain⟨m,⟨o,es,ep,ho,hd,r⟩,hl⟩:=I.loc
  obtain⟨sl,q⟩:=slot _ o (nS _ I.free) ho
  refine⟨m,⟨_,es,ep,q,hd,r⟩,fun i x v e1 e2 e3=>?_⟩
  obtain⟨u,ru,lk⟩:=hl i x v e1 e2 e3
  refine⟨u,ru,?_⟩
  rcases lk with lk|⟨k,c,hc,ic⟩
  ·exact .inl lk
  ·exact .inr ⟨k,c,hc,cellK x c _ hc ic⟩
 ·obtain⟨v,ic⟩:=I.cell x c e
  exact⟨v,cellK x c v e ic⟩
 ·rw[hn _ (nS _ I.free) (.inr hl0)];exact I.free
 ·obtain⟨v,o,ho,_⟩:=I.cell x c e
  rw[hn _ (nS _ (I.freeC x c e)) (.inr ⟨o,ho⟩)];exact I.freeC x c e
 ·obtain⟨p1,p2,p3,p4,p5⟩:=I.pin p hp
  exact⟨keep _ _ (nS _ p2) (nfr _ p3 p4) p1,by rw[hn _ (nS _ p2) (.inr ⟨_,p1⟩)];exact p2,p3,p4,p5⟩
theorem Inv.note (I:Inv X pins σ H s) {e C D:Addr}{T:Option Addr}{a:Str}{v:V}(hf:X.env.frame=some X.env.locals) (hst:X.stack=X.env::X.outer) (x:Exc H e C D T a v) {Q:Unit→Shared→Prop}{E:Value→Shared→Prop}
  (k:∀(T':Addr) (h':Heap),H T'=none→Inv X pins σ (upd (upd H e (.ext (ExP e C D (some T')))) T' (.ext (TbP T'))) { s with heap:=h' }→Q () { s with heap:=h' }) :
  wpAny (model X.prog X.w) X.A (noteFrame (.ref e) X.env) (fun _ s'=>wpAny (model X.prog X.w) X.A (setFlight (.ref e) none) Q E s') E s:=by
 obtain⟨⟨vs,sl,he,h1⟩,_,_⟩:=I.hok e _ x.ex
 have stE:∀(T':Addr) (h1 h2:Heap),ExP e C D (some T') h1→(∀o,h1.get? e=some o→h2.get? e=some o)→ExP e C D (some T') h2:=fun T' h1 h2 ⟨vs,sl,q,r⟩ kk=>⟨vs,sl,kk _ q,r⟩
 have stT:∀(T':Addr) (h1 h2:Heap),TbP T' h1→(∀o,h1.get? T'=some o→h2.get? T'=some o)→TbP T' h2:=fun T' h1 h2 ⟨o,ts,q,r⟩ kk=>⟨o,ts,kk _ q,r⟩
 have fin:∀(h':Heap) (T':Addr) (S:Addr→Prop),s.heap.objs.size≤T'→T'≠e→S e→(∀b,S b→∃φ,H b=some (.ext φ))→(∀b,S b→b≠e→b≠T'∧H b=some (.ext (TbP b))∧TbP b h') →
   (∀b o,¬ S b→b∉frs (X.env::X.outer)→s.heap.get? b=some o→h'.get? b=some o)→(∀b o,¬ S b→s.heap.get? b=some o→∃sl,h'.get? b=some { o with slots:=sl }) →
   ExP e C D (some T') h'→TbP T' h'→Q () { s with heap:=h' }:=fun h' T' S hz hTe hS sx so keep slot pe pt=>by
  have nT:=I.hok.fresh hz
  refine k T' h' nT (I.flown (S:=S) keep slot sx (fun b hb=>?_) (fun b hb hh=>?_) hf fun b u q=>?_)
  ·by_cases c:b=e
   ·subst c;obtain⟨_,_,q,_⟩:=pe;exact⟨_,q⟩
   ·obtain⟨_,_,o,_,q,_⟩:=so b hb c;exact⟨_,q⟩
  ·have ne:b≠e:=fun z=>hb (z ▸ hS)
   have nt:b≠T':=fun z=>by
    subst z
    rcases hh with hh|⟨o,ho⟩
    ·exact hh nT
    ·exact absurd (Nat.lt_of_lt_of_le (Heap.lt_size ho) hz) (Nat.lt_irrefl _)
   rw[upd_ne nt,upd_ne ne]
  ·by_cases c:b=T'
   ·subst c
    rw[upd_same]at q;cases q
    obtain⟨o,ts,r,r'⟩:=id pt
    exact⟨pt,⟨o,r⟩,stT b⟩
   rw[upd_ne c]at q
   by_cases c2:b=e
   ·subst c2
    rw[upd_same]at q;cases q
    obtain⟨_,_,r,_⟩:=id pe
    exact⟨pe,⟨_,r⟩,stE T'⟩
   rw[upd_ne c2]at q
   by_cases c3:S b
   ·obtain⟨_,q',pb⟩:=so b c3 c2
    rw[q]at q';cases q'
    obtain⟨o,ts,r,r'⟩:=id pb
    exact⟨pb,⟨o,r⟩,stT b⟩
   have back:∀c u,H c=some u→(∀φ,u ≠ .ext φ)→upd (upd H e (.ext (ExP e C D (some T')))) T' (.ext (TbP T')) c=some u:=fun c u qc n=>by
    rw[upd_ne (fun z=>by rw[z,nT]at qc;cases qc),upd_ne (fun z=>by rw[z,x.ex]at qc;exact n _ (Option.some.inj qc).symm)];exact qc
   refine(I.hok b u q).stay (fun c o hc r=>keep c o ?_ ?_ r) (fun c qc=>back c _ qc (by intro φ z;cases z)) fun c xs qc=>back c _ qc (by intro φ z;cases z)
   ·rcases hc with rfl|hc
    ·exact c3
    ·intro z;obtain⟨φ,r'⟩:=sx c z;rw[hc]at r';cases r'
   ·intro z
    have hz2:H c=none:=I.stkFree c (by rw[hst];exact z)
    rcases hc with rfl|hc
    ·rw[q]at hz2;cases hz2
    ·rw[hc]at hz2;cases hz2
 have frA:X.A.frames=some (X.env::X.outer):=by rw[← hst];exact I.ok.frames
 have frS:s.heap.FunFrames X.base (X.env::X.outer):=by rw[← hst];exact I.stack
 cases T with
 | none =>
  refine noteFirst frA frS hf he rfl h1 fun h' y=>?_
  obtain⟨vs',T',oT,ts,q1,q2,q3,q4,q5,q6,q7⟩:=y.exc
  exact fin h' T' (· = e) q3 q4 rfl (fun b z=>by subst z;exact⟨_,x.ex⟩) (fun b z n=>absurd z n) (fun b o n f q=>y.keep b o n f q) (fun b o n q=>y.slot b o n q) ⟨vs',sl,q1,q2⟩ ⟨oT,ts,q5,q6,q7⟩
 | some T =>
  obtain⟨hT,hTe⟩:=x.tb T rfl
  obtain⟨⟨oT,ts,hT0,hdT,h3⟩,_,_⟩:=I.hok T _ hT
  refine noteNext frA frS hf he rfl h1 hTe hT0 hdT h3 fun h' y=>?_
  obtain⟨vs',T',oT',ts',q1,q2,q3,q4,q5,q6,q7⟩:=y.exc
  obtain⟨ts2,q8,q9⟩:=y.old
  have tt:T≠T':=fun z=>by rw[z]at hT0;exact absurd (Nat.lt_of_lt_of_le (Heap.lt_size hT0) q3) (Nat.lt_irrefl _)
  exact fin h' T' (fun b=>b=e∨b=T) q3 q4 (.inl rfl) (fun b z=>by rcases z with rfl|rfl;exact⟨_,x.ex⟩;exact⟨_,hT⟩) (fun b z n=>by
   rcases z with z|rfl
   ·exact absurd z n
   ·exact⟨tt,hT,_,ts2,q8,rfl,q9⟩) (fun b o n f q=>y.keep b o (fun z=>n (.inl z)) (fun z=>n (.inr z)) f q) (fun b o n q=>y.slot b o (fun z=>n (.inl z)) (fun z=>n (.inr z)) q) ⟨vs',sl,q1,q2⟩ ⟨oT',ts',q5,q6,q7⟩
end
structure XCls (K:PySem.W.Frag) (C:Addr) (a:Str):Prop where
 ex:∃(nm q:Str) (N:Addr) (bs bm bmB:List Value) (sn:List Str) (sub:List Value) (ab:Bool) (col:Option Bool) (dd:Option Addr) (k0 k1 k2 k3 k5:Option Value) (newId initId sa owner:String) (fI:Addr) (name qual:Str) (params:Arguments) (scope:Scope)
   (dV kV doc pm cdv ct:Value) (an od:Option Addr) (osl:Array (Option Value)) (p1 p2 p3 p4:Pos),
  ExcBaseFacts "ValueError" newId initId bmB∧StoreFacts "ValueError" bmB sa owner∧typeLookup (.type "ValueError") a=pure none∧bm.contains (.type "BaseException")=true ∧
  K.lookup C=some (excClassObj nm q C N bs bm true sn sub ab col dd k0 k1 k2 k3 k5 newId)∧(∀h,K.In h→TlN h bmB (fun n=>n = "__init__" ∨ n = "__setattr__" ∨ n=a) bm) ∧
  (∀h,K.In h→∃mN,h.Ns N mN∧mN "__init__" = some (.ref fI)∧mN "__setattr__" = none∧mN a=none) ∧
  K.lookup fI=some ⟨.type "function",od,.func (PySem.W.fnOf name qual params [.Assign [.Attribute (.Name "self" p1) a p2] (.Name a p3) p4] scope dV kV doc pm an cdv ct),osl⟩∧PySem.W.codeIn K cdv qual=true ∧
  FnScope ["self",a] ["self",a] scope∧(∀env,swapsWith (.Name a p3) (some (.Attribute (.Name "self" p1) a p2)) p4.line env=pure false)∧scope.names.lookup ("self" : Str)=some .local∧scope.names.lookup a=some .local∧a ≠ "self"∧(a ==("__debug__" : Str))=false ∧
  ∀s e u,BindsTo s (PySem.W.fnOf name qual params [.Assign [.Attribute (.Name "self" p1) a p2] (.Name a p3) p4] scope dV kV doc pm an cdv ct) ⟨[.ref e,u],[]⟩ [("self",.ref e),(a,u)]
theorem exc_ns {nm q nm' q':Str}{C N C' N':Addr}{bs bm bs' bm':List Value}{hdct hdct':Bool}{sn sn':List Str}{sub sub':List Value}{ab ab':Bool}{col col':Option Bool}{dd dd':Option Addr}{k0 k1 k2 k3 k5 k0' k1' k2' k3' k5':Option Value}{newId newId':String}(h:excClassObj nm q C N bs bm hdct sn sub ab col dd k0 k1 k2 k3 k5 newId=excClassObj nm' q' C' N' bs' bm' hdct' sn' sub' ab' col' dd' k0' k1' k2' k3' k5' newId'):N=N' :=
 congrArg (fun o:Obj=>match o.data with | .cls cd=>cd.ns|_=>0) h
theorem XCls.uniq {K:PySem.W.Frag}{C:Addr}{a b:Str}{h:Heap}(X:K.In h) (x:XCls K C a) (y:XCls K C b):a=b:=by
 obtain⟨nm,q,N,bs,bm,bmB,sn,sub,ab,col,dd,k0,k1,k2,k3,k5,newId,initId,sa,owner,fI,name,qual,params,scope,dV,kV,doc,pm,cdv,ct,an,od,osl,p1,p2,p3,p4,_,_,_,_,lC,_,hN,lf,_⟩:=x.ex
 obtain⟨nm',q',N',bs',bm',bmB',sn',sub',ab',col',dd',k0',k1',k2',k3',k5',newId',initId',sa',owner',fI',name',qual',params',scope',dV',kV',doc',pm',cdv',ct',an',od',osl',p1',p2',p3',p4',_,_,_,_,lC',_,hN',lf',_⟩:=y.ex
 have e1:=exc_ns (Option.some.inj (lC.symm.trans lC'))
 subst e1
 obtain⟨m,g1,g2,_⟩:=hN h X
 obtain⟨m',g1',g2',_⟩:=hN' h X
 have e2:m=m':=g1.eq_nsMap.trans g1'.eq_nsMap.symm
 rw[e2,g2']at g2
 have e3:fI'=fI:=Value.ref.inj (Option.some.inj g2)
 subst e3
 have e4:=Option.some.inj (lf.symm.trans lf')
 have e5:=congrArg (fun o:Obj=>match o.data with | .func f=>(match f.body with | .stmts [.Assign _ (.Name x _) _]=>x|_ => "")|_=>("" : Str)) e4
 exact e5
def CX1 (P:Program) (w:World) (K:PySem.W.Frag):CXT:=fun outer H s E ev s'=>∃(e:Addr) (H' H0:Hp) (C D:Addr) (T:Option Addr) (a:Str) (v:V) (u:Value),ev = .ref e∧s'.os=s.os∧AllBare s'.gens∧Un (frs outer) [] H H' s.heap s'.heap∧HOk P w H' s'.heap ∧
 Exc H' e C D T a v∧XCls K C a∧RelV v u∧H0 e=none∧(∀b o,H0 b=some o→H' b=some o)∧E u (some C) H0
def Throws (X:Cx) (E:XK):Prop:=∀(pins:List (Addr×Obj)) (σ:St) (H H0:Hp) (s:Shared) (e C D:Addr) (T:Option Addr) (a:Str) (v:V) (u:Value),Inv X pins σ H s→Exc H e C D T a v→XCls X.K C a→RelV v u→H0 e=none→(∀b o,H0 b=some o→H b=some o)→E u (some C) H0→X.xe (.ref e) s
theorem Exc.next {H:Hp}{e C D T':Addr}{T:Option Addr}{a:Str}{v:V}(x:Exc H e C D T a v) (n:H T'=none):Exc (upd (upd H e (.ext (ExP e C D (some T')))) T' (.ext (TbP T'))) e C D (some T') a v:=by
 have te:T'≠e:=fun z=>by rw[z,x.ex]at n;cases n
 have de:D≠e:=ne_of x.xd x.ex (by intro z;cases z)
 refine⟨by rw[upd_ne te.symm,upd_same],by rw[upd_ne (ne_of_none x.xd n),upd_ne de];exact x.xd,fun t q=>?_⟩
 cases q
 exact⟨upd_same,te⟩
theorem sub_next {H H0:Hp}{e T':Addr}{o1 o2:HO}(n:H T'=none) (n0:H0 e=none) (k:∀b o,H0 b=some o→H b=some o):∀b o,H0 b=some o→upd (upd H e o1) T' o2 b=some o:=fun b o q=>by
 rw[upd_ne (ne_of_none (k _ _ q) n),upd_ne (ne_of_none q n0)];exact k _ _ q
section
variable {P:Program}{w:World}{K:PySem.W.Frag}{mg:Str→Option Value}{base:Heap}{N:List Str}{qual:Str}{scope:Scope}{f:Addr}{cd:Value}{A:Around}{outer:List Env}{s0:Shared}{H00:Hp}{E:XK}
theorem throws_def:Throws (cxOf (CX1 P w K) P w K mg base N qual scope f cd A outer s0 H00 E) E:=fun pins σ H H0 s e C D T a v u I x xc rv n0 k q=>by
 show wpAny _ _ (leaving _ (.ref e)) _ _ s
 unfold leaving
 refine wpAny_bind (I.note rfl rfl x fun T' h' nT I'=>?_)
 exact⟨e,_,H0,C,D,some T',a,v,u,rfl,I'.os,I'.bare,I'.base,I'.hok,x.next nT,xc,rv,n0,sub_next nT n0 k,q⟩
end
theorem Throws.passes {X:Cx}{E E':XK}(t:Throws X E) (h:∀u c H,E' u c H→E u c H):Passes (CX1 X.prog X.w X.K) X E':=fun pins σ H s ev s' I ⟨e,H',H0,C,D,T,a,v,u,z,os,bare,un,hok,x,xc,rv,n0,k,q⟩=>by
 subst z
 obtain⟨hh,g,d,tk,os'⟩:=s'
 obtain rfl:os'=s.os:=os
 exact t pins σ H' H0 _ e C D T a v u (I.call (h':=hh) (g':=g) (d':=d) (t':=tk) (ch:=[]) un hok bare (fun b z=>absurd z (by simp))) x xc rv n0 k (h _ _ _ q)
def tRaise (C:Addr) (E:XK) (ta:TA):TS:=fun _ σ H=>ta σ H fun vs H1=>∃v,vs=[v]∧∀u,RelV v u→E u (some C) H1
section
variable {X:Cx}{E:XK}{C:Addr}{a x:Str}{k:Nat}{arg:Expr}{ta:TA}{np cpos pos:Pos}
theorem ps_raise1 (thr:Throws X E) (cl:XCls X.K C a) (hr:Room (k+2) X.A) (hg:Gl X x) (hm:X.mg x=some (.ref C)) (ha:PA X [arg] ta) (hs:starEach [arg] X.env=[(false,eval arg X.env)]:=by rfl) (hd:(x ==("__debug__" : Str))=false:=by decide) :
  PS X (.Raise (some (.Call (.Name x np) [arg] [] cpos)) none pos) (tRaise C E ta):=by
 intro pins s σ H D I h
 obtain⟨nm,q,N,bs,bm,bmB,sn,sub,ab,col,dd,k0,k1,k2,k3,k5,newId,initId,sa,owner,fI,name,qual,params,scope,dV,kV,doc,pm,cdv,ct,an,od,osl,p1,p2,p3,p4,F,SF,hB,hbase,lC,hT,hN,lf,hcd,S,hsw,l1,l2,hne,hdb,hbd⟩:=cl.ex
 obtain⟨mN,nN,hi,hns,hna⟩:=hN _ I.ok.mod.kin
 refine Raise_initT (C:=C) (nm:=nm) (q:=q) (N:=N) (bs:=bs) (bm:=bm) (bmB:=bmB) (hdct:=true) (sn:=sn) (sub:=sub) (ab:=ab) (col:=col) (dd:=dd) (k0:=k0) (k1:=k1) (k2:=k2) (k3:=k3) (k5:=k5) (newId:=newId) (mN:=mN) (fI:=fI) F hbase hr.hd (by rw[hs];rfl) hi (oI:=⟨.type "function",od,.func (PySem.W.fnOf name qual params [.Assign [.Attribute (.Name "self" p1) a p2] (.Name a p3) p4] scope dV kV doc pm an cdv ct),osl⟩) rfl ?_
 refine thn ((pe_glob hg hm (show RelV (.ref C) (.ref C) from rfl) hd) pins s σ H (fun v H1=>v = .ref C∧H1=H) I ⟨rfl,rfl⟩) fun f s1 ⟨v,H1,I1,rf,e1,e2⟩=>?_
 subst e1 e2
 refine⟨rf,?_⟩
 have ha':=ha cpos pins s1 σ H1 _ I1 h
 rw[hs]at ha' ⊢
 refine Calls.evalArgs_plain (thn ha' fun us s2 ⟨vs,H2,I2,r2,v,ev,q2⟩=>?_)
 subst ev
 obtain⟨u,rfl,ru⟩:=vals1 r2
 refine⟨rfl,by show 1≤sizeLine;decide,I2.kIn _ _ lC,nN.keeps I2.bk,(hT _ I2.kIn).tail (.inl rfl),I2.kIn _ _ lf,fun h' e hm hz=>?_⟩
 obtain⟨t,he,ht,_⟩:=hm.there
 have kB:∀b o,X.base.get? b=some o→h'.get? b=some o:=fun b o z=>hm.keeps _ _ (I2.bk _ _ z)
 have kI:X.K.In h':=I2.ok.mod.kin.keeps kB
 refine wpAny_call (codeAny_mono (init_ok (k:=k) (s:={ s2 with heap:=h' }) (A:=X.A.under (.builtin "type.__call__" ⟨[.ref C,u],[]⟩)) (R:=fun r s'=>r = .ok (.ret .none)∧∃h2 tk D,s' = { s2 with heap:=h2,toks:=tk }∧h'.objs.size≤D∧D≠e∧h2.get? e=some ⟨.ref C,some D,.fields #[.ref t,.none,.none,.none,.bool false,.none],#[]⟩∧h2.Ns1 D (fun y=>if y=a then some u else none)∧∀b ob,b≠e→h'.get? b=some ob→h2.get? b=some ob)
  lf hcd S kI (I2.ok.mod.nolimit.keeps kB) (hr.make C [u] []) hsw l1 l2 hne hdb (hbd _ _ _) SF (hT _ kI) (.inr (.inr rfl)) (.inr (.inl rfl)) (kI _ _ lC) (nN.keeps kB) hns hna hB he rfl (by intro c z;cases z) rfl fun h2 tk D g1 g2 g3 g4 g5=>⟨rfl,h2,tk,D,rfl,g1,g2,g3,g4,g5⟩) fun r s' z=>?_)
 obtain⟨rfl,h2,tk,D,rfl,g1,g2,g3,g4,g5⟩:=z
 have ke:∀b o,s2.heap.get? b=some o→b≠e:=fun b o z c=>by rw[c]at z;exact absurd (Nat.lt_of_lt_of_le (Heap.lt_size z) hz) (Nat.lt_irrefl _)
 have kk:∀b o,s2.heap.get? b=some o→h2.get? b=some o:=fun b o z=>g5 b o (ke b o z) (hm.keeps _ _ z)
 have hz':s2.heap.objs.size≤D:=Nat.le_trans (Nat.le_of_lt (Nat.lt_of_le_of_lt hz (Heap.lt_size he))) g1
 have ne:=I2.hok.fresh hz
 have nD:=I2.hok.fresh hz'
 have I3:Inv X pins σ (upd H2 e (.ext (ExP e C D none))) { s2 with heap:=h2,toks:=tk }:=I2.adopt (ch:=[e]) (fun b o _ z=>kk b o z) (fun b hb=>by rw[List.mem_singleton.mp hb];exact I2.fpOk hz ne) (List.mem_singleton.mpr rfl) ⟨⟨_,_,g3,rfl⟩,⟨_,g3⟩,fun a1 a2 ⟨vs,sl,y,y2⟩ kq=>⟨vs,sl,kq _ y,y2⟩⟩
 have I4:Inv X pins σ (upd (upd H2 e (.ext (ExP e C D none))) D (.xd [(a,v)])) { s2 with heap:=h2,toks:=tk }:=I3.adopt (ch:=[D]) (fun b o _ z=>z) (fun b hb=>by rw[List.mem_singleton.mp hb];exact I2.fpOk hz' (by rw[upd_ne g2];exact nD)) (List.mem_singleton.mpr rfl) ⟨_,g4,fun y=>by
  show RelO (List.lookup y [(a,v)]) (if y=a then some u else none)
  by_cases c:y=a
  ·subst c
   rw[if_pos rfl,show List.lookup y [(y,v)]=some v by simp[List.lookup]]
   exact ru
  ·have cb:(y == a)=false:=beq_eq_false_iff_ne.mpr c
   rw[if_neg c,show List.lookup y [(a,v)]=none by simp[List.lookup,cb]]
   exact True.intro⟩
 have ex:Exc (upd (upd H2 e (.ext (ExP e C D none))) D (.xd [(a,v)])) e C D none a v:=⟨by rw[upd_ne g2.symm,upd_same],upd_same,fun t z=>by cases z⟩
 refine⟨rfl,kk _ _ (I2.kIn _ _ lC),⟨_,t,_,g3⟩,thr pins σ _ H2 _ e C D none a v u I4 ex cl ru ne (fun b o z=>?_) (q2 u ru)⟩
 rw[upd_ne (ne_of_none z nD),upd_ne (ne_of_none z ne)];exact z
end
end L2
namespace PySem
section
variable {M:Model}{A:Around}{E:Value→Shared→Prop}{h:Heap}{g:Array GenState}{d:Drawn}{t:Nat}{os:OsState}
variable {nm q nm' q':Str}{C N C' N' e:Addr}{bs bm bs' bm':List Value}{hdct hdct':Bool}{sn sn':List Str}{sub sub':List Value}{ab ab':Bool}{col col':Option Bool}{dd dd':Option Addr}{k0 k1 k2 k3 k5 k0' k1' k2' k3' k5':Option Value}{newId newId':String}{oe:Obj}
theorem excMatchesT {Q:Bool→Shared→Prop}(hC:h.get? C=some (excClassObj nm q C N bs bm hdct sn sub ab col dd k0 k1 k2 k3 k5 newId)) (hC':h.get? C'=some (excClassObj nm' q' C' N' bs' bm' hdct' sn' sub' ab' col' dd' k0' k1' k2' k3' k5' newId'))
  (he:h.get? e=some oe) (hcls:oe.cls = .ref C) (hbase:bm'.contains (.type "BaseException")=true)
  (hq:Q ((Value.ref C::bm).contains (.ref C')) ⟨h,g,d,t,os⟩):wpAny M A (excMatches (.ref e) (.ref C')) Q E ⟨h,g,d,t,os⟩:=by
 have hcB:(Value.ref C'::bm').contains (.type "BaseException")=true:=by rw[List.contains_cons,hbase,Bool.or_true]
 have f:=tc_notTuple
 generalize hb:(Value.ref C::bm).contains (.ref C')=b at hq
 unfold excMatches
 repeat (first|(with_reducible refine wpAny_loadPart_at he ?_;rw[hcls])|with_reducible refine wpAny_loadPart_at hC' ?_|(with_reducible refine wpAny_isSubtype_exc hC' ?_;rw[hcB])|(with_reducible refine wpAny_isSubtype_exc hC ?_;rw[hb])|wp_step)
 cases b <;> first|exact hq|(wp_walk;exact hq)
end
end PySem
namespace L2
open PySem PySem.Spec PyProof.Rows
section
variable {X:Cx}{pins:List (Addr×Obj)}{σ:St}{H:Hp}{s:Shared}
theorem Inv.flight (I:Inv X pins σ H s) {e C D T:Addr}{a:Str}{v:V}{A:Around}(hf:X.env.frame=some X.env.locals) (x:Exc H e C D (some T) a v) {Q:Unit→Shared→Prop}{E:Value→Shared→Prop}
  (k:∀(h':Heap),Inv X pins σ H { s with heap:=h' }→Q () { s with heap:=h' }) :
  wpAny (model X.prog X.w) A (setFlight (.ref e) none) Q E s:=by
 obtain⟨⟨vs,sl,he,h1⟩,_,_⟩:=I.hok e _ x.ex
 obtain⟨hT,hTe⟩:=x.tb T rfl
 obtain⟨⟨oT,ts,hT0,hdT,h3⟩,_,stT⟩:=I.hok T _ hT
 have hs3:=(Array.getElem?_eq_some_iff.mp h3).1
 have other:∀b,b≠T→(s.heap.update T (Obj.mapFields (·.setIfInBounds 3 ((none:Option Addr).elim Value.none fun f=>rawInt f)))).get? b=s.heap.get? b:=fun b hb=>Heap.get?_update_other _ _ (Ne.symm hb)
 have atT:=Heap.get?_update_self (Obj.mapFields (·.setIfInBounds 3 ((none:Option Addr).elim Value.none fun f=>rawInt f))) hT0 (Obj.isFreed_of_fields (Obj.data_mapFields hdT _))
 rw[mapFields_at hdT]at atT
 unfold setFlight
 refine wpAny_bind (wpAny_field he rfl h1 ?_)
 rw[if_pos (show(Value.ref T != Value.none)=true from by simp)]
 refine wpAny_setField hT0 hdT hs3 (k _ (I.flown (S:=(· = T)) (fun b o n _ q=>(other b n).trans q) (fun b o n q=>⟨o.slots,(other b n).trans q⟩) (fun b z=>by subst z;exact⟨_,hT⟩) (fun b z=>by subst z;exact⟨_,atT⟩) (fun b _ _=>rfl) hf fun b u q=>?_))
 by_cases c:b=T
 ·subst c
  rw[hT]at q;cases q
  exact⟨⟨_,_,atT,rfl,by simp[hs3]⟩,⟨_,atT⟩,stT⟩
 ·refine(I.hok b u q).stay (fun c' o hc r=>(other c' ?_).trans r) (fun _ q=>q) fun _ _ q=>q
  rcases hc with rfl|hc
  ·exact c
  ·intro z;rw[z,hT]at hc;cases hc
def Cx.suite (X:Cx) (e:Addr):Cx:={ X with A:=X.A.mark (some (.ref e)),calm:=false,xe:=fun _ _=>False }
theorem Inv.toSuite (I:Inv X pins σ H s) (e:Addr):Inv (X.suite e) pins σ H s :=
 ⟨⟨I.ok.mod,I.ok.kind,I.ok.glob,I.ok.blt,I.ok.above,I.ok.inj,I.ok.has,I.ok.cab,fun z=>(by cases z),I.ok.frames,I.ok.stk,I.ok.exf,I.ok.bs,I.ok.bsz,I.ok.noex,I.ok.exfs,I.ok.funs,I.ok.frf⟩,I.os,I.bare,I.base,I.loc,I.cell,I.free,I.freeC,I.pin,I.hok,I.len⟩
theorem Inv.ofSuite {e:Addr}(ok:X.Ok) (I:Inv (X.suite e) pins σ H s):Inv X pins σ H s:=⟨ok,I.os,I.bare,I.base,I.loc,I.cell,I.free,I.freeC,I.pin,I.hok,I.len⟩
end
section
variable {X:Cx}{pins:List (Addr×Obj)}{σ:St}{H:Hp}{s:Shared}
theorem Inv.goes {M:Model}{A:Around}{E:Value→Shared→Prop}{i:Nat}{n:Str}{pos:Pos}{Q:Unit→Shared→Prop}(I:Inv X pins σ H s) (hN:X.N.Nodup) (hi:X.N[i]? = some n) (hk:X.env.kindOf n=some .local)
  (h:∀s',Inv X pins (σ.set i none) H s'→Q () s'):wpAny M A (do bindName X.env n .none;unbindBehindTheSuite X.env n pos) Q E s:=by
 obtain⟨m,hn,hl⟩:=id I.loc
 obtain⟨oL,_,_,hoL,_⟩:=id hn
 have hcls:(X.env.scope.kind == .class || (X.env.scope.kind == .module && X.env.locals != X.env.globals))=false:=by rw[I.ok.kind];rfl
 have hiσ:i<σ.length:=by rw[I.len];exact(List.getElem?_eq_some_iff.mp hi).1
 refine wpAny_nameGoes_keeps hk hn hcls fun h' v hn' hs=>h _ ?_
 have ab:∀b o,X.s₀.heap.get? b=some o→b≠X.env.locals:=fun b o e=>Nat.ne_of_lt (Nat.lt_of_lt_of_le (Heap.lt_size e) I.ok.above)
 refine⟨I.ok,I.os,I.bare,⟨fun b o e n hb hx=>(hs.2 b (ab b o e)).trans (I.base.keep b o e n hb hx),fun b o e n hb hx=>?_,I.base.free,fun b o e hx=>?_,I.base.tups,I.base.frzs,I.base.tbls⟩,⟨_,hn',fun j y v' e1 e2 e3=>?_⟩,fun y c e=>?_,I.free,I.freeC,fun p hp=>?_,fun b ob e=>?_,by simpa using I.len⟩
 ·obtain⟨sl,e1⟩:=I.base.slot b o e n hb hx
  exact⟨sl,(hs.2 b (ab b o e)).trans e1⟩
 ·obtain⟨o',e1⟩:=I.base.there b o e hx
  exact⟨o',(hs.2 b (ab b o e)).trans e1⟩
 ·by_cases hj:j=i
  ·subst hj
   rw[List.getElem?_set_self hiσ]at e2;cases e2
  ·rw[List.getElem?_set_ne (Ne.symm hj)]at e2
   obtain⟨u',r',q⟩:=hl j y v' e1 e2 e3
   refine⟨u',r',?_⟩
   rcases q with⟨k,e⟩|⟨k,c,e,z⟩
   ·refine .inl ⟨k,?_⟩
    have:y≠n:=fun e=>hj (nodup_ix hN e1 (e ▸ hi))
    simp[this,e]
   ·exact .inr ⟨k,c,e,z.sameBut hs (I.cne y c e)⟩
 ·obtain⟨w,z⟩:=I.cell y c e
  exact⟨w,z.sameBut hs (I.cne y c e)⟩
 ·obtain⟨p1,p2,p3,p4,p5⟩:=I.pin p hp
  exact⟨(hs.2 _ p3).trans p1,p2,p3,p4,p5⟩
 ·refine(I.hok b ob e).stay (fun c w' hc q=>(hs.2 c ?_).trans q) (fun _ q=>q) fun _ _ q=>q
  rintro rfl
  rcases hc with rfl|hc
  ·rw[I.free]at e;cases e
  ·rw[I.free]at hc;cases hc
end
def XC (K:PySem.W.Frag) (C:Addr) (bm:List Value):Prop:=∃(nm q:Str) (N:Addr) (bs:List Value) (hdct:Bool) (sn:List Str) (sub:List Value) (ab:Bool) (col:Option Bool) (dd:Option Addr) (k0 k1 k2 k3 k5:Option Value) (newId:String),
 K.lookup C=some (excClassObj nm q C N bs bm hdct sn sub ab col dd k0 k1 k2 k3 k5 newId)∧bm.contains (.type "BaseException")=true
def Und (K:PySem.W.Frag) (C C':Addr):Prop:=∃bm bm',XC K C bm∧XC K C' bm'∧(Value.ref C::bm).contains (.ref C')=true
def XAt (H:Hp) (e C:Addr) (a:Str) (v:V):Prop:=∃D T,Exc H e C D (some T) a v
def Ends.gone (D:Ends) (i:Nat):Ends:={ nx:=fun σ H=>D.nx (σ.set i none) H,rt:=D.rt,bk:=fun σ H=>D.bk (σ.set i none) H,ct:=fun σ H=>D.ct (σ.set i none) H }
def tTry (K:PySem.W.Frag) (C':Addr) (m i:Nat) (tb:XK→TS) (th:TS):TS:=fun D σ H=>∃E1:XK,tb E1 D σ H∧∀(u:Value) (C:Addr) (H0:Hp),E1 u (some C) H0→Und K C C' ∧
 ∀(e:Addr) (H':Hp) (σ':St) (a:Str) (v:V),RelV v u→XAt H' e C a v→(∀b,XCls K C b→a=b)→(∀b o,H0 b=some o→H' b=some o)→σ'.length=m→th (D.gone i) (σ'.set i (some (.ref e))) H'
section
variable {X:Cx}{body suite:List Stmt}{b0:Stmt}{np hpos pos:Pos}{xc n:Str}{i:Nat}{C':Addr}{tb:XK→TS}{th:TS}
theorem ps_try1 (hN:X.N.Nodup) (hi:X.N[i]? = some n) (hk:X.env.kindOf n=some .local) (hf:X.env.frame=some X.env.locals) (hst:X.stack=X.env::X.outer) (hg:Gl X xc) (hm:X.mg xc=some (.ref C'))
  (hb:∀(xe:Value→Shared→Prop) (pn:List (Addr×Obj)) (E1:XK),Throws { X with xe:=xe,pn:=pn } E1→PSs { X with xe:=xe,pn:=pn } body (tb E1)) (hs:∀e,PSs (X.suite e) (b0::suite) th) (hd:(xc ==("__debug__" : Str))=false:=by decide) :
  PS X (.Try body [.ExceptHandler (some (.Name xc np)) (some n) (b0::suite) hpos] [] [] pos) (tTry X.K C' X.N.length i tb th):=by
 intro pins s σ H D I h
 obtain⟨E1,hb1,hh⟩:=h
 refine wpAny_Try_except ?_
 let xe':Value→Shared→Prop:=fun ev s1=>wpAny (model X.prog X.w) X.A (noteFrame ev X.env) (fun _ s2=>wpAny (model X.prog X.w) X.A (setFlight ev none) (fun _ s3=>wpAny (model X.prog X.w) X.A (handleBy ev X.env [.ExceptHandler (some (.Name xc np)) (some n) (b0::suite) hpos]) (SP X pins D) X.xe s3) X.xe s2) X.xe s1
 have fwd:Inv { X with xe:=xe',pn:=X.pn++pins } [] σ H s :=
  ⟨⟨I.ok.mod,I.ok.kind,I.ok.glob,I.ok.blt,I.ok.above,I.ok.inj,I.ok.has,I.ok.cab,I.ok.hd,I.ok.frames,I.ok.stk,I.ok.exf,I.ok.bs,I.ok.bsz,I.ok.noex,I.ok.exfs,I.ok.funs,I.ok.frf⟩,I.os,I.bare,I.base,I.loc,I.cell,I.free,I.freeC,fun p hp=>I.pin p (by simpa using hp),I.hok,I.len⟩
 have bwd:∀{pins':List (Addr×Obj)}{σ':St}{H':Hp}{s':Shared},Inv { X with xe:=xe',pn:=X.pn++pins } pins' σ' H' s'→Inv X pins σ' H' s':=fun J =>
  ⟨I.ok,J.os,J.bare,J.base,J.loc,J.cell,J.free,J.freeC,fun p hp=>J.pin p (List.mem_append_left _ hp),J.hok,J.len⟩
 have thr:Throws { X with xe:=xe',pn:=X.pn++pins } E1:=fun pins' σ' H1 H0 s1 e C Dx T a v u I1 x xc rv n0 k q=>by
  have J:=bwd I1
  obtain⟨⟨bm,bm',⟨nm,q1,N,bs,hdct,sn,sub,ab,col,dd,k0,k1,k2,k3,k5,newId,lC,_⟩,⟨nm',q1',N',bs',hdct',sn',sub',ab',col',dd',k0',k1',k2',k3',k5',newId',lC',hbase'⟩,hcon⟩,hsu⟩:=hh u C H0 q
  refine J.note hf hst x fun T' h' nT J2=>?_
  have x2:=x.next nT
  have k2:=sub_next (o1:=.ext (ExP e C Dx (some T'))) (o2:=.ext (TbP T')) nT n0 k
  generalize upd (upd H1 e (.ext (ExP e C Dx (some T')))) T' (.ext (TbP T'))=H2 at J2 x2 k2
  refine wpAny_handleBy_cons (codeAny_handlers_test ?_) (by intro z;cases z)
  refine wpAny_mono ((pe_glob (X:=X.suite e) hg hm (show RelV (.ref C') (.ref C') from rfl) hd) pins _ σ' H2 (fun v H3=>v = .ref C'∧H3=H2) (J2.toSuite e) ⟨rfl,rfl⟩) (fun c s4 ⟨v',H4,J4,r4,e1,e2⟩=>?_) fun _ _ z=>z.elim
  subst e1 e2
  obtain rfl:c=Value.ref C':=r4
  have J5:=J4.ofSuite I.ok
  obtain⟨⟨vs,sl,he,_⟩,_,_⟩:=J5.hok e _ x2.ex
  have hC:=J5.kIn _ _ lC
  have hC':=J5.kIn _ _ lC'
  obtain⟨hh4,g,d,tk,os⟩:=s4
  refine excMatchesT hC hC' he rfl hbase' ?_
  rw[hcon]
  refine codeAny_handlers_suite_as ?_
  refine J5.flight hf x2 fun h6 J6=>?_
  refine store_ok J6 hN hi (.inl hk) (show RelV (.ref e) (.ref e) from rfl) (fun s7 J7=>?_) (.inr hk)
  refine wpAny_mono (hs e pins s7 _ _ (D.gone i) (J7.toSuite e) (hsu e H4 σ' a v rv ⟨Dx,T',x2⟩ (fun b y=>XCls.uniq J5.kIn xc y) k2 J6.len)) (fun f s8 h8=>?_) fun _ _ z=>z.elim
  cases f with
  | next =>
   obtain⟨σ9,H9,J9,q9⟩:=h8
   exact(J9.ofSuite I.ok).goes hN hi hk fun s' J10=>⟨_,_,J10,q9⟩
  | brk =>
   obtain⟨σ9,H9,J9,q9⟩:=h8
   exact(J9.ofSuite I.ok).goes hN hi hk fun s' J10=>⟨_,_,J10,q9⟩
  | cont =>
   obtain⟨σ9,H9,J9,q9⟩:=h8
   exact(J9.ofSuite I.ok).goes hN hi hk fun s' J10=>⟨_,_,J10,q9⟩
  | ret u9 =>
   obtain⟨v9,σ9,H9,J9,r9,q9⟩:=h8
   exact(J9.ofSuite I.ok).goes hN hi hk fun s' J10=>⟨_,_,_,J10,r9,q9⟩
 refine wpAny_mono (hb xe' (X.pn++pins) E1 thr [] s σ H D fwd hb1) (fun f s1 h1=>?_) fun e s1 z=>z
 cases f with
 | next =>
  obtain⟨σ9,H9,J9,q9⟩:=h1
  exact wpAny_execs_nil ⟨_,_,bwd J9,q9⟩
 | brk =>
  obtain⟨σ9,H9,J9,q9⟩:=h1
  exact⟨_,_,bwd J9,q9⟩
 | cont =>
  obtain⟨σ9,H9,J9,q9⟩:=h1
  exact⟨_,_,bwd J9,q9⟩
 | ret u9 =>
  obtain⟨v9,σ9,H9,J9,r9,q9⟩:=h1
  exact⟨_,_,_,bwd J9,r9,q9⟩
end
structure Cal1 (P:Program) (w:World) (K:PySem.W.Frag) (mg:Str→Option Value) (base:Heap) (x:Str) (ps:List Str) (k:Nat) (sp:Sp):Prop where
 ex:∃(f:Addr) (fd:FuncData),FnOk P w K mg base (CX1 P w K) k f fd ps sp∧Binds K fd ps []∧mg x=some (.ref f)∧PySem.W.keepIn K (.ref f)=true
section
variable {X:Cx}{E:XK}{x m:Str}{C:Addr}{ps:List Str}{k:Nat}{sp:Sp}{e o:Expr}{es:List Expr}{t:TA}{ta:TE}{p pos apos:Pos}
theorem pcl1 (C:Cal1 X.prog X.w X.K X.mg X.base x ps k sp) (hp:Passes (CX1 X.prog X.w X.K) X E) (hr:Room k X.A) (ha:PA X (e::es) t) (hg:Gl X x:=by rfl) (hdb:(x ==("__debug__" : Str))=false:=by decide) (he:starEach (e::es) X.env =(false,eval e X.env)::starEach es X.env:=by rfl) (hpl:(backTo pos (starEach es X.env)).any (·.1)=false:=by rfl) :
  PE X (.Call (.Name x p) (e::es) [] pos) (tCall sp [] E t):=by
 obtain⟨f,fd,F,hb,hm,hk⟩:=C.ex
 exact pe_call F hr hg hm hk hb .nil hp ha hdb he hpl
end
section
variable {P:Program}{w:World}{K:PySem.W.Frag}{mg:Str→Option Value}{base:Heap}{C:Addr}{x y qual:Str}{st:Stmt}{f:Addr}{fd:FuncData}{N ps:List Str}{k:Nat}{sp:Sp}
theorem Fun.ok1 (F:Fun K x qual st f fd) (S:FnScope N ps (defScope st)) (len:∀vs H Q E,sp vs H Q E→vs.length=ps.length)
  (hbody:∀(cdv:Value) (A:Around) (outer:List Env) (s:Shared) (H:Hp) (vs:List V) (Q:VK) (E:XK),Room k (A.deeper (envOfC qual (defScope st) s.heap.objs.size f cdv))→sp vs H Q E →
   ∃t,PSs (cxOf (CX1 P w K) P w K mg base N qual (defScope st) f cdv A outer s H E) (defBody st) t∧t { nx:=fun _ H'=>Q .non H',rt:=Q } (start N vs) H):FnOk P w K mg base (CX1 P w K) (k+1) f fd ps sp:=by
 obtain⟨oc,od,kV,doc,pm,an,cdv,ct,osl,rfl,lk,hcd⟩:=F.ex
 exact fn_of lk hcd S len fun A outer s H vs Q E hr hsp=>hbody cdv A outer s H vs Q E hr hsp
theorem Cal1.of (F:Fun K x x st f fd) (mF:mg x=some (.ref f)) (bF:Binds K fd ps []) (S:FnScope N ps (defScope st)) (len:∀vs H Q E,sp vs H Q E→vs.length=ps.length)
  (hbody:∀(cdv:Value) (A:Around) (outer:List Env) (s:Shared) (H:Hp) (vs:List V) (Q:VK) (E:XK),Room k (A.deeper (envOfC x (defScope st) s.heap.objs.size f cdv))→sp vs H Q E →
   ∃t,PSs (cxOf (CX1 P w K) P w K mg base N x (defScope st) f cdv A outer s H E) (defBody st) t∧t { nx:=fun _ H'=>Q .non H',rt:=Q } (start N vs) H):Cal1 P w K mg base x ps (k+1) sp :=
 ⟨f,fd,F.ok1 S len hbody,bF,mF,F.kp⟩
end
def nsK (K:PySem.W.Frag) (N:Addr):Bool:=match K.lookup N with
 | some ⟨_,_,.dict es _,_⟩=>es.all (fun e=>match e.key with | .str _ _=>true|_=>false)
 | _=>false
theorem ns_of_K {K:PySem.W.Frag}{N:Addr}{h:Heap}(hk:nsK K N=true) (X:K.In h):∃mN,h.Ns N mN∧(∀n v,PySem.W.nsIn K N n=some (some v)→mN n=some v)∧∀n,PySem.W.nsIn K N n=some none→mN n=none:=by
 unfold nsK at hk
 split at hk
 ·rename_i c d es ep sl q
  have ho:=X _ _ q
  have G:=Heap.Ns.of_isNs (h:=h) (a:=N) (by unfold Heap.isNs;rw[ho];exact hk)
  refine⟨_,G,fun n v e=>?_,fun n e=>?_⟩
  ·obtain⟨o,es',ep',ho',hd,_,hf⟩:=G
   rw[ho]at ho';cases ho';cases hd
   unfold PySem.W.nsIn at e
   rw[q]at e
   dsimp only at e
   rw[← hf]
   unfold nsFind findBy
   rw[← Array.find?_toList]
   split at e
   ·rename_i en he
    cases e
    rw[he];rfl
   ·split at e <;> cases e
  ·obtain⟨o,es',ep',ho',hd,_,hf⟩:=G
   rw[ho]at ho';cases ho';cases hd
   unfold PySem.W.nsIn at e
   rw[q]at e
   dsimp only at e
   rw[← hf]
   unfold nsFind findBy
   rw[← Array.find?_toList]
   split at e
   ·cases e
   ·rename_i he
    rw[he];rfl
 ·cases hk
abbrev veM:List Value:=[.type "ValueError",.type "Exception",.type "BaseException",.type "object"]
theorem veB {TE:Addr}:(Value.ref TE::veM).contains (.type "BaseException")=true:=by rw[List.contains_cons,show veM.contains (.type "BaseException")=true by decide +kernel,Bool.or_true]
def NoNs (K:PySem.W.Frag) (N:Addr) (n:Str):Prop:=PySem.W.nsIn K N n=some none
theorem XCls.mk' {K:PySem.W.Frag}{C TE N fI:Addr}{a nm q name qual:Str}{bs:List Value}{sn:List Str}{sub:List Value}{ab:Bool}{col:Option Bool}{dd ddT:Option Addr}{k0 k1 k2 k3 k5:Option Value}{newId initId:String}{c0:Value}{cdT:ClassData}{slT:Array (Option Value)}
  {params:Arguments}{scope:Scope}{dV kV doc pm cdv ct:Value}{an od:Option Addr}{osl:Array (Option Value)}{p1 p2 p3 p4:Pos}(F:ExcBaseFacts "ValueError" newId initId veM)
  (lC:K.lookup C=some (excClassObj nm q C N bs (.ref TE::veM) true sn sub ab col dd k0 k1 k2 k3 k5 newId)) (lT:K.lookup TE=some ⟨c0,ddT,.cls cdT,slT⟩) (n1:nsK K N=true) (n2:nsK K cdT.ns=true)
  (i1:PySem.W.nsIn K N "__init__" = some (some (.ref fI))) (i2:NoNs K N "__setattr__") (i3:NoNs K N a) (t1:NoNs K cdT.ns "__init__") (t2:NoNs K cdT.ns "__setattr__") (t3:NoNs K cdT.ns a)
  (hB:typeLookup (.type "ValueError") a=pure none)
  (lf:K.lookup fI=some ⟨.type "function",od,.func (PySem.W.fnOf name qual params [.Assign [.Attribute (.Name "self" p1) a p2] (.Name a p3) p4] scope dV kV doc pm an cdv ct),osl⟩) (hcd:PySem.W.codeIn K cdv qual=true)
  (S:FnScope ["self",a] ["self",a] scope) (hsw:∀env,swapsWith (.Name a p3) (some (.Attribute (.Name "self" p1) a p2)) p4.line env=pure false) (l1:scope.names.lookup ("self" : Str)=some .local) (l2:scope.names.lookup a=some .local) (hne:a ≠ "self") (hdb:(a ==("__debug__" : Str))=false)
  (hbd:∀s e u,BindsTo s (PySem.W.fnOf name qual params [.Assign [.Attribute (.Name "self" p1) a p2] (.Name a p3) p4] scope dV kV doc pm an cdv ct) ⟨[.ref e,u],[]⟩ [("self",.ref e),(a,u)]):XCls K C a∧XC K C (.ref TE::veM) :=
 ⟨⟨nm,q,N,bs,.ref TE::veM,veM,sn,sub,ab,col,dd,k0,k1,k2,k3,k5,newId,initId,_,_,fI,name,qual,params,scope,dV,kV,doc,pm,cdv,ct,an,od,osl,p1,p2,p3,p4,F,PySem.F.store_ValueError,hB,veB,lC,fun h X=>by
  obtain⟨mT,g1,_,g3⟩:=ns_of_K n2 X
  refine .own (X _ _ lT) g1 (fun n hn=>?_) .base
  rcases hn with rfl|rfl|rfl
  ·exact g3 _ t1
  ·exact g3 _ t2
  ·exact g3 _ t3,fun h X=>by
  obtain⟨mN,g1,g2,g3⟩:=ns_of_K n1 X
  exact⟨mN,g1,g2 _ _ i1,g3 _ i2,g3 _ i3⟩,lf,hcd,S,hsw,l1,l2,hne,hdb,hbd⟩,⟨nm,q,N,bs,true,sn,sub,ab,col,dd,k0,k1,k2,k3,k5,newId,lC,veB⟩⟩
end L2
namespace PySem
open Builtin
section
variable {M:Model}{prog:Program}{w:World}{A:Around}{E:Value→Shared→Prop}{h:Heap}{g:Array GenState}{d:Drawn}{t:Nat}{os:OsState}{P:Str→Prop}
variable {nm q:Str}{C N x D:Addr}{bs bm bmB:List Value}{hdct:Bool}{sn:List Str}{sub:List Value}{ab:Bool}{col:Option Bool}{dd:Option Addr}{k0 k1 k2 k3 k5:Option Value}{B newId:String}{mN mA:Str→Option Value}{name:Str}{v:Value}{vs:Array Value}{sl:Array (Option Value)}{od:Obj}
theorem xattr_entry {tk:Tok}{Q:Fin→Shared→Prop}(hC:h.get? C=some (excClassObj nm q C N bs bm true sn sub ab col dd k0 k1 k2 k3 k5 newId)) (hN:h.Ns N mN) (hna:mN name=none) (T:TlN h bmB P bm) (hp:P name) (hmro:mroOf (.type B)=pure bmB) (hB:typeLookup (.type B) name=pure none)
  (hx:h.get? x=some ⟨.ref C,some D,.fields vs,sl⟩) (hD:h.get? D=some od) (hl:nsLook name od=pure (some v)) (hq:Q (.done (.ret v)) ⟨h,g,d,t,os⟩) :
  wpAny (model prog w) A (Builtin.«object.__getattribute__» ⟨[.ref x,.str name tk],[]⟩) Q E ⟨h,g,d,t,os⟩:=by
 repeat (any_goals (first|assumption|with_reducible refine wpAny_loadPart_at hx ?_|with_reducible refine wpAny_loadPart_at hC ?_|(with_reducible refine typeLookN hC hN T hp hmro hB ?_;rw[hna])|wp_step))
theorem check_gaT {nameV:Value}{Q:Unit→Shared→Prop}(hC:h.get? C=some (excClassObj nm q C N bs bm hdct sn sub ab col dd k0 k1 k2 k3 k5 newId)) (hb:bm.contains (.type "BaseException")=true)
  (hx:h.get? x=some ⟨.ref C,some D,.fields vs,sl⟩) (hq:Q () ⟨h,g,d,t,os⟩):wpAny M A (checkBuiltinCall "BaseException.__getattribute__" ⟨[.ref x,nameV],[]⟩) Q E ⟨h,g,d,t,os⟩:=by
 have hk:builtinKind "BaseException.__getattribute__" = some .slot:=by decide +kernel
 have hsplit:splitId "BaseException.__getattribute__" = some ("BaseException", "__getattribute__"):=by decide +kernel
 have hcB:(Value.ref C::bm).contains (.type "BaseException")=true:=by rw[List.contains_cons,hb,Bool.or_true]
 have ha:=F.args_bexc_ga (.ref x) nameV
 simp only[checkBuiltinCall,hk,hsplit]
 refine wpAny_bind ?_
 ·unfold isInstance
  repeat (first|with_reducible refine wpAny_loadPart_at hx ?_|(with_reducible refine wpAny_isSubtype_exc hC ?_;rw[hcB])|wp_step)
  exact hq
theorem xattrT {expr:Bool}{Q:Value→Shared→Prop}(FB:ExcAttrBase B bmB) (hC:h.get? C=some (excClassObj nm q C N bs bm true sn sub ab col dd k0 k1 k2 k3 k5 newId)) (hb:bm.contains (.type "BaseException")=true) (hN:h.Ns N mN) (hna:mN name=none) (hn1:mN "__getattribute__" = none) (hn2:mN "__getattr__" = none)
  (T:TlN h bmB P bm) (hp:P name) (hp1:P "__getattribute__") (hp2:P "__getattr__") (hB:typeLookup (.type B) name=pure none)
  (hx:h.get? x=some ⟨.ref C,some D,.fields vs,sl⟩) (hD:h.get? D=some od) (hl:nsLook name od=pure (some v)) (hh:handedOut v=pure v) (hq:∀tk,Q v ⟨h,g,d,tk,os⟩) :
  wpAny (model prog w) A (getAttr (.ref x) name expr) Q E ⟨h,g,d,t,os⟩:=by
 have f3:=FB.ga.bind (.ref x)
 have hx0:(expr && onTheHeap (Value.builtin "BaseException.__getattribute__"))=false:=by cases expr <;> rfl
 have hx2:(Value.builtin "BaseException.__getattribute__" == Value.builtin "object.__getattribute__")=false:=by decide +kernel
 have hx1:(onTheHeap (Value.ref C) && Value.builtin "BaseException.__getattribute__" == Value.builtin "object.__getattribute__")=false:=by rw[hx2];rfl
 unfold getAttr
 repeat (any_goals (first|assumption|with_reducible refine wpAny_loadPart_at hx ?_|(with_reducible refine typeLookN hC hN T hp1 FB.mro FB.ga.lookup ?_;rw[hn1])|(with_reducible refine typeLookN hC hN T hp2 FB.mro FB.noGetattr ?_;rw[hn2])|wp_step))
 refine codeAny_call_builtin FB.ga.plain F.entry_bexc_ga (check_gaT hC hb hx (xattr_entry hC hN hna T hp FB.mro hB hx hD hl ?_))
 show wpAny _ _ (handedOut v) _ _ _
 rw[hh]
 exact wpAny_pure (hq _)
end
end PySem
namespace L2
open PySem PySem.Spec PyProof.Rows
def XAttr (K:PySem.W.Frag) (C:Addr) (a:Str):Prop:=∃(nm q:Str) (N:Addr) (bs bm bmB:List Value) (sn:List Str) (sub:List Value) (ab:Bool) (col:Option Bool) (dd:Option Addr) (k0 k1 k2 k3 k5:Option Value) (newId:String),
 K.lookup C=some (excClassObj nm q C N bs bm true sn sub ab col dd k0 k1 k2 k3 k5 newId)∧bm.contains (.type "BaseException")=true∧ExcAttrBase "ValueError" bmB∧typeLookup (.type "ValueError") a=pure none ∧
 (∀h,K.In h→TlN h bmB (fun n=>n=a∨n = "__getattribute__" ∨ n = "__getattr__") bm)∧∀h,K.In h→∃mN,h.Ns N mN∧mN a=none∧mN "__getattribute__" = none∧mN "__getattr__" = none
section
variable {X:Cx}{pins:List (Addr×Obj)}{σ:St}{H:Hp}{s:Shared}{e C:Addr}{a:Str}{v:V}
theorem xget2 {b:Bool}{A:Around}{E:Value→Shared→Prop}{Q:Value→Shared→Prop}(I:Inv X pins σ H s) (x:XAt H e C a v) (c:XAttr X.K C a)
  (h:∀u s',Inv X pins σ H s'→RelV v u→Q u s'):wpAny (model X.prog X.w) A (getAttr (.ref e) a b) Q E s:=by
 obtain⟨nm,q,N,bs,bm,bmB,sn,sub,ab,col,dd,k0,k1,k2,k3,k5,newId,lC,hb,FB,hB,hT,hN⟩:=c
 obtain⟨D,T,x⟩:=x
 obtain⟨⟨vs,sl,he,_⟩,_,_⟩:=I.hok e _ x.ex
 obtain⟨mA,hn,r⟩:=(show ObjOk X.prog X.w H s.heap D (.xd [(a,v)]) from I.hok D _ x.xd)
 obtain⟨od,ho,hl⟩:=lookIn_ns hn
 have ra:=r a
 rw[show List.lookup a [(a,v)]=some v by simp[List.lookup]]at ra
 obtain⟨u,hu,ru⟩:=RelO.some_of ra
 obtain⟨mN,g1,g2,g3,g4⟩:=hN _ I.kIn
 have kI:=I.kIn
 have I':=fun tk=>I.tok tk
 obtain⟨hh,g,d,t,os⟩:=s
 exact xattrT FB (kI _ _ lC) hb g1 g2 g3 g4 (hT _ kI) (.inl rfl) (.inr (.inl rfl)) (.inr (.inr rfl)) hB he ho (PySem.W.nsLook_of (by rw[hl,hu])) (PySem.W.handedOut_of (handed_of ru)) fun tk=>h u _ (I' tk) ru
def tXat2 (K:PySem.W.Frag) (ta:TE) (a:Str):TE:=fun σ H Q=>ta σ H fun x H1=>∃e C v,x = .ref e∧XAt H1 e C a v∧XAttr K C a∧Q v H1
theorem pe_xat2 {o:Expr}{ta:TE}{pos:Pos}(ha:PE X o ta) (hb:attributeBase o a X.env (eval o X.env)=eval o X.env:=by rfl):PE X (.Attribute o a pos) (tXat2 X.K ta a):=by
 intro pins s σ H Q I h
 refine attr_of hb (thn (ha pins s σ H _ I h) fun ov s1 ⟨x,H1,I1,rx,e,C,v,ex,xa,c,q⟩=>?_)
 subst ex
 obtain rfl:ov=Value.ref e:=rx
 exact xget2 I1 xa c fun u s2 I2 ru=>⟨v,H1,I2,ru,q⟩
end
def strK (es:Array DictEntry):Bool:=es.toList.all (fun e=>match e.key with | .str _ _=>true|_=>false)
theorem nsK_of {K:PySem.W.Frag}{N:Addr}{c:Value}{d:Option Addr}{es:Array DictEntry}{ep:Nat}{sl:Array (Option Value)}(l:K.lookup N=some ⟨c,d,.dict es ep,sl⟩) (h:strK es=true):nsK K N=true:=by
 unfold nsK;rw[l]
 show es.all _=true
 rw[← Array.all_toList];exact h
theorem XAttr.of {K:PySem.W.Frag}{C TE N:Addr}{a nm q:Str}{bs:List Value}{sn:List Str}{sub:List Value}{ab:Bool}{col:Option Bool}{dd ddT:Option Addr}{k0 k1 k2 k3 k5:Option Value}{newId:String}{c0:Value}{cdT:ClassData}{slT:Array (Option Value)}
  (lC:K.lookup C=some (excClassObj nm q C N bs (.ref TE::veM) true sn sub ab col dd k0 k1 k2 k3 k5 newId)) (lT:K.lookup TE=some ⟨c0,ddT,.cls cdT,slT⟩) (n1:nsK K N=true) (n2:nsK K cdT.ns=true)
  (i1:NoNs K N a) (i2:NoNs K N "__getattribute__") (i3:NoNs K N "__getattr__") (t1:NoNs K cdT.ns a) (t2:NoNs K cdT.ns "__getattribute__") (t3:NoNs K cdT.ns "__getattr__") (hB:typeLookup (.type "ValueError") a=pure none):XAttr K C a :=
 ⟨nm,q,N,bs,.ref TE::veM,veM,sn,sub,ab,col,dd,k0,k1,k2,k3,k5,newId,lC,veB,PySem.F.attrBase_ValueError,hB,fun h X=>by
  obtain⟨mT,g1,_,g3⟩:=ns_of_K n2 X
  refine .own (X _ _ lT) g1 (fun n hn=>?_) .base
  rcases hn with rfl|rfl|rfl
  ·exact g3 _ t1
  ·exact g3 _ t2
  ·exact g3 _ t3,fun h X=>by
  obtain⟨mN,g1,_,g3⟩:=ns_of_K n1 X
  exact⟨mN,g1,g3 _ i1,g3 _ i2,g3 _ i3⟩⟩
theorem ve_key:typeLookup (.type "ValueError") "key" = pure none:=by rw[typeLookup_type,builtinLookup_eq_fast];kernel_rfl
theorem ve_number:typeLookup (.type "ValueError") "number" = pure none:=by rw[typeLookup_type,builtinLookup_eq_fast];kernel_rfl
end L2
namespace PySem
open Builtin
section
variable {M:Model}{prog:Program}{w:World}{A:Around}{E:Value→Shared→Prop}{h:Heap}{g:Array GenState}{d:Drawn}{t:Nat}{os:OsState}{P:Str→Prop}
variable {nm q:Str}{C N x D:Addr}{bs bm bmB:List Value}{hdct:Bool}{sn:List Str}{sub:List Value}{ab:Bool}{col:Option Bool}{dd:Option Addr}{k0 k1 k2 k3 k5:Option Value}{B newId:String}{mN:Str→Option Value}{vs:Array Value}{sl:Array (Option Value)}{K:PySem.W.Frag}{od:Obj}
theorem ve_class:typeLookup (.type "ValueError") "__class__" = pure (some (.builtin "object.__class__")):=by rw[typeLookup_type,builtinLookup_eq_fast];kernel_rfl
theorem xclass_entry {tk:Tok}{Q:Fin→Shared→Prop}(KX:K.In h) (I:PySem.W.InstAt h x ⟨.ref C,some D,.fields vs,sl⟩ C (some od)) (hm:PySem.W.mroIn K C (.type "object")=some true) (hC:h.get? C=some (excClassObj nm q C N bs bm true sn sub ab col dd k0 k1 k2 k3 k5 newId)) (hN:h.Ns N mN) (hna:mN "__class__" = none) (T:TlN h bmB P bm) (hp:P "__class__") (hmro:mroOf (.type "ValueError")=pure bmB)
  (hx:h.get? x=some ⟨.ref C,some D,.fields vs,sl⟩) (hq:Q (.done (.ret (.ref C))) ⟨h,g,d,t,os⟩) :
  wpAny (model prog w) A (Builtin.«object.__getattribute__» ⟨[.ref x,.str "__class__" tk],[]⟩) Q E ⟨h,g,d,t,os⟩:=by
 have f5:=F.typeOf_object_class
 have f6:=F.slot_gs_get.lookup
 have f7:=F.slot_gs_set.lookup
 repeat (any_goals (first|assumption|with_reducible refine wpAny_loadPart_at hx ?_|with_reducible refine wpAny_loadPart_at hC ?_|(with_reducible refine typeLookN hC hN T hp hmro ve_class ?_;rw[hna])|wp_step))
 refine PySem.W.class_get (s:=⟨h,g,d,t,os⟩) KX I hm ?_
 repeat (any_goals (first|assumption|wp_step))
theorem xclassT {Q:Option Value→Shared→Prop}(FB:ExcAttrBase "ValueError" bmB) (KX:K.In h) (I:PySem.W.InstAt h x ⟨.ref C,some D,.fields vs,sl⟩ C (some od)) (hm:PySem.W.mroIn K C (.type "object")=some true) (hC:h.get? C=some (excClassObj nm q C N bs bm true sn sub ab col dd k0 k1 k2 k3 k5 newId)) (hb:bm.contains (.type "BaseException")=true) (hN:h.Ns N mN)
  (hna:mN "__class__" = none) (hn1:mN "__getattribute__" = none) (hn2:mN "__getattr__" = none) (T:TlN h bmB P bm) (hp:P "__class__") (hp1:P "__getattribute__") (hp2:P "__getattr__")
  (hx:h.get? x=some ⟨.ref C,some D,.fields vs,sl⟩) (hq:Q (some (.ref C)) ⟨h,g,d,t+1,os⟩):wpAny (model prog w) A (getAttr? (.ref x) "__class__") Q E ⟨h,g,d,t,os⟩:=by
 have f3:=FB.ga.bind (.ref x)
 have hx2:(Value.builtin "BaseException.__getattribute__" == Value.builtin "object.__getattribute__")=false:=by decide +kernel
 have hx1:(onTheHeap (Value.ref C) && Value.builtin "BaseException.__getattribute__" == Value.builtin "object.__getattribute__")=false:=by rw[hx2];rfl
 unfold getAttr?
 repeat (any_goals (first|assumption|with_reducible refine wpAny_loadPart_at hx ?_|(with_reducible refine typeLookN hC hN T hp1 FB.mro FB.ga.lookup ?_;rw[hn1])|(with_reducible refine typeLookN hC hN T hp2 FB.mro FB.noGetattr ?_;rw[hn2])|wp_step))
 refine codeAny_call_builtin FB.ga.plain F.entry_bexc_ga (check_gaT hC hb hx (xclass_entry KX I hm hC hN hna T hp FB.mro hx ?_))
 show wpAny _ _ (handedOut (.ref C)) _ _ _
 rw[PySem.W.handedOut_of rfl]
 exact wpAny_pure (wpAny_pure hq)
end
end PySem
namespace L2
open PySem PySem.Spec PyProof.Rows
def XKit (K:PySem.W.Frag) (C:Addr):Prop:=∃(nm q:Str) (N:Addr) (bs bm bmB:List Value) (sn:List Str) (sub:List Value) (ab:Bool) (col:Option Bool) (dd:Option Addr) (k0 k1 k2 k3 k5:Option Value) (newId:String),
 K.lookup C=some (excClassObj nm q C N bs bm true sn sub ab col dd k0 k1 k2 k3 k5 newId)∧bm.contains (.type "BaseException")=true∧ExcAttrBase "ValueError" bmB∧PySem.W.mroIn K C (.type "object")=some true ∧
 (∀h,K.In h→TlN h bmB (fun n=>n = "__class__" ∨ n = "__getattribute__" ∨ n = "__getattr__") bm)∧∀h,K.In h→∃mN,h.Ns N mN∧mN "__class__" = none∧mN "__getattribute__" = none∧mN "__getattr__" = none
theorem XKit.kit {K:PySem.W.Frag}{C e D:Addr}{od:Obj}(c:XKit K C):PySem.W.KitX K (.ref e) (.ref C) (fun h=>∃vs sl,h.get? e=some ⟨.ref C,some D,.fields vs,sl⟩∧h.get? D=some od):=by
 obtain⟨nm,q,N,bs,bm,bmB,sn,sub,ab,col,dd,k0,k1,k2,k3,k5,newId,lC,hb,FB,hm,hT,hN⟩:=c
 refine⟨fun M h X ⟨vs,sl,he,ho⟩=>(show PySem.W.InstAt h e ⟨.ref C,some D,.fields vs,sl⟩ C (some od) from⟨he,rfl,rfl,ho⟩).type,fun M h X _=>?_,fun h tp dd' its n sl X htp=>?_,fun {prog w A E Q s} X ⟨vs,sl,he,ho⟩ k=>?_⟩
 ·intro A' Q' E' s' kk q
  unfold isType loadHead
  exact wpAny_bind (wpAny_loadPart (kk _ _ (X _ _ lC)) (wpAny_pure q))
 ·refine Bool.eq_false_iff.mpr fun q=>?_
  have e:C=tp:=Value.ref.inj (beq_iff_eq.mp q)
  subst e
  have z:=congrArg (fun o=>o.map Obj.cls) ((X _ _ lC).symm.trans htp)
  exact absurd z (by simp)
 ·obtain⟨mN,g1,g2,g3,g4⟩:=hN _ X
  obtain⟨hh,g,d,t,os⟩:=s
  exact xclassT FB X ⟨he,rfl,rfl,ho⟩ hm (X _ _ lC) hb g1 g2 g3 g4 (hT _ X) (.inl rfl) (.inr (.inl rfl)) (.inr (.inr rfl)) he k
section
variable {X:Cx}
def rIsiE (K:PySem.W.Frag):List V→Hp→VK→Prop:=fun xs H Q=>∃e C a v c cv b,xs=[.ref e,c]∧(∀u,RelV c u→u=cv)∧XAt H e C a v∧XKit K C∧PySem.W.kitOne K (.ref C) cv=some b∧Q (.bl b) H
theorem call_isiE:CallR X (.builtin "isinstance") (rIsiE X.K):=by
 intro pins s σ H xs us Q I r h
 obtain⟨e,C,a,v,c,cv,b,rfl,hc,⟨D,T,x⟩,cl,hk,q⟩:=h
 obtain⟨u,w',rfl,r1,r2⟩:=vals2 r
 cases (show u=Value.ref e from r1)
 cases hc w' r2
 obtain⟨⟨vs,sl,he,_⟩,_,_⟩:=I.hok e _ x.ex
 obtain⟨mA,hn,_⟩:=(show ObjOk X.prog X.w H s.heap D (.xd [(a,v)]) from I.hok D _ x.xd)
 obtain⟨od,ho,_⟩:=lookIn_ns hn
 exact PySem.W.kia_one (cl.kit (D:=D) (od:=od)) I.kIn ⟨vs,sl,he,ho⟩ hk (fun z=>nomatch z) fun tk=>⟨.bl b,H,I.tok _,rfl,q⟩
end
theorem XKit.of {K:PySem.W.Frag}{C TE N:Addr}{nm q:Str}{bs:List Value}{sn:List Str}{sub:List Value}{ab:Bool}{col:Option Bool}{dd ddT:Option Addr}{k0 k1 k2 k3 k5:Option Value}{newId:String}{c0:Value}{cdT:ClassData}{slT:Array (Option Value)}
  (lC:K.lookup C=some (excClassObj nm q C N bs (.ref TE::veM) true sn sub ab col dd k0 k1 k2 k3 k5 newId)) (lT:K.lookup TE=some ⟨c0,ddT,.cls cdT,slT⟩) (n1:nsK K N=true) (n2:nsK K cdT.ns=true) (hm:PySem.W.mroIn K C (.type "object")=some true)
  (i1:NoNs K N "__class__") (i2:NoNs K N "__getattribute__") (i3:NoNs K N "__getattr__") (t1:NoNs K cdT.ns "__class__") (t2:NoNs K cdT.ns "__getattribute__") (t3:NoNs K cdT.ns "__getattr__"):XKit K C :=
 ⟨nm,q,N,bs,.ref TE::veM,veM,sn,sub,ab,col,dd,k0,k1,k2,k3,k5,newId,lC,veB,PySem.F.attrBase_ValueError,hm,fun h X=>by
  obtain⟨mT,g1,_,g3⟩:=ns_of_K n2 X
  refine .own (X _ _ lT) g1 (fun n hn=>?_) .base
  rcases hn with rfl|rfl|rfl
  ·exact g3 _ t1
  ·exact g3 _ t2
  ·exact g3 _ t3,fun h X=>by
  obtain⟨mN,g1,_,g3⟩:=ns_of_K n1 X
  exact⟨mN,g1,g3 _ i1,g3 _ i2,g3 _ i3⟩⟩
structure XTxt (K:PySem.W.Frag) (mg:Str→Option Value) (x:Str) (C TE:Addr) (a:Str):Prop where
 mg:mg x=some (.ref C)
 nm:PySem.W.nsIn K mainGlobals x=some (some (.ref C))
 cls:XCls K C a
 at_:XAttr K C a
 kit:XKit K C
 xc:XC K C (.ref TE::veM)
structure GaX (K:PySem.W.Frag) (x:Str) (C TE:Addr) (a:Str):Prop where
 ex:∃(N fI:Addr) (nm q name qual:Str) (bs:List Value) (sn:List Str) (sub:List Value) (ab:Bool) (col:Option Bool) (dd ddT d1 d2:Option Addr) (k0 k1 k2 k3 k5:Option Value) (c0 c1 c2:Value) (cdT:ClassData) (slT sl1 sl2:Array (Option Value)) (es1 es2:Array DictEntry) (ep1 ep2:Nat)
   (params:Arguments) (scope:Scope) (dV kV doc pm cdv ct:Value) (an od:Option Addr) (osl:Array (Option Value)) (p1 p2 p3 p4:Pos),
  PySem.W.nsIn K mainGlobals x=some (some (.ref C))∧K.lookup C=some (excClassObj nm q C N bs (.ref TE::veM) true sn sub ab col dd k0 k1 k2 k3 k5 "ValueError.__new__")∧K.lookup TE=some ⟨c0,ddT,.cls cdT,slT⟩∧K.lookup N=some ⟨c1,d1,.dict es1 ep1,sl1⟩∧strK es1=true∧K.lookup cdT.ns=some ⟨c2,d2,.dict es2 ep2,sl2⟩∧strK es2=true ∧
  PySem.W.nsIn K N "__init__" = some (some (.ref fI))∧(NoNs K N "__setattr__"∧NoNs K N a∧NoNs K N "__getattribute__"∧NoNs K N "__getattr__"∧NoNs K N "__class__")∧(NoNs K cdT.ns "__init__"∧NoNs K cdT.ns "__setattr__"∧NoNs K cdT.ns a∧NoNs K cdT.ns "__getattribute__"∧NoNs K cdT.ns "__getattr__"∧NoNs K cdT.ns "__class__") ∧
  PySem.W.mroIn K C (.type "object")=some true∧typeLookup (.type "ValueError") a=pure none ∧
  K.lookup fI=some ⟨.type "function",od,.func (PySem.W.fnOf name qual params [.Assign [.Attribute (.Name "self" p1) a p2] (.Name a p3) p4] scope dV kV doc pm an cdv ct),osl⟩∧PySem.W.codeIn K cdv qual=true ∧
  FnScope ["self",a] ["self",a] scope∧(∀env,swapsWith (.Name a p3) (some (.Attribute (.Name "self" p1) a p2)) p4.line env=pure false)∧scope.names.lookup ("self" : Str)=some .local∧scope.names.lookup a=some .local∧a ≠ "self"∧(a ==("__debug__" : Str))=false ∧
  ∀s e u,BindsTo s (PySem.W.fnOf name qual params [.Assign [.Attribute (.Name "self" p1) a p2] (.Name a p3) p4] scope dV kV doc pm an cdv ct) ⟨[.ref e,u],[]⟩ [("self",.ref e),(a,u)]
theorem GaX.txt {K:PySem.W.Frag}{mg:Str→Option Value}{x a:Str}{C TE:Addr}{h:Heap}(g:GaX K x C TE a) (X:K.In h) (G:h.Ns mainGlobals mg):XTxt K mg x C TE a:=by
 obtain⟨N,fI,nm,q,name,qual,bs,sn,sub,ab,col,dd,ddT,d1,d2,k0,k1,k2,k3,k5,c0,c1,c2,cdT,slT,sl1,sl2,es1,es2,ep1,ep2,params,scope,dV,kV,doc,pm,cdv,ct,an,od,osl,p1,p2,p3,p4,aC,lC,lT,l1,n1,l2,n2,i0,⟨i1,i2,i3,i4,i5⟩,⟨t0,t1,t2,t3,t4,t5⟩,hm,hB,lf,hcd,S,hsw,s1,s2,hne,hdb,hbd⟩:=g.ex
 have m1:=nsK_of l1 n1
 have m2:=nsK_of l2 n2
 obtain⟨r1,r2⟩:=XCls.mk' PySem.F.excBase_ValueError lC lT m1 m2 i0 i1 i2 t0 t1 t2 hB lf hcd S hsw s1 s2 hne hdb hbd
 exact⟨PySem.W.mg_of X G aC,aC,r1,XAttr.of lC lT m1 m2 i2 i3 i4 t2 t3 t4 hB,XKit.of lC lT m1 m2 hm i5 i3 i4 t5 t3 t4,r2⟩
theorem und_tail {K:PySem.W.Frag}{C TE:Addr}{r bm':List Value}(x:XC K C (.ref TE::r)) (y:XC K TE bm'):Und K C TE:=⟨_,bm',x,y,by rw[List.contains_cons,List.contains_cons];simp⟩
structure XTop (K:PySem.W.Frag) (mg:Str→Option Value) (TE:Addr):Prop where
 mg:mg "TailError" = some (.ref TE)
 xc:XC K TE veM
def GaT (K:PySem.W.Frag) (TE:Addr):Prop:=PySem.W.nsIn K mainGlobals "TailError" = some (some (.ref TE))∧XC K TE veM
theorem GaT.mk {K:PySem.W.Frag}{TE N:Addr}{nm q:Str}{bs:List Value}{hdct:Bool}{sn:List Str}{sub:List Value}{ab:Bool}{col:Option Bool}{dd:Option Addr}{k0 k1 k2 k3 k5:Option Value}{newId:String}
  (a:PySem.W.nsIn K mainGlobals "TailError" = some (some (.ref TE))) (l:K.lookup TE=some (excClassObj nm q TE N bs veM hdct sn sub ab col dd k0 k1 k2 k3 k5 newId)):GaT K TE :=
 ⟨a,nm,q,N,bs,hdct,sn,sub,ab,col,dd,k0,k1,k2,k3,k5,newId,l,by decide +kernel⟩
theorem GaT.txt {K:PySem.W.Frag}{mg:Str→Option Value}{TE:Addr}{h:Heap}(g:GaT K TE) (X:K.In h) (G:h.Ns mainGlobals mg):XTop K mg TE:=⟨PySem.W.mg_of X G g.1,g.2⟩
theorem GaX.mk' {K:PySem.W.Frag}{x a:Str}{C TE N fI:Addr}{nm q qual:Str}{bs:List Value}{sn:List Str}{sub:List Value}{ab:Bool}{col:Option Bool}{dd ddT d1 d2:Option Addr}{k0 k1 k2 k3 k5:Option Value}{c0 c1 c2:Value}{cdT:ClassData}{slT sl1 sl2:Array (Option Value)}{es1 es2:Array DictEntry}{ep1 ep2:Nat}
  {st:Stmt}{kV doc pm cdv ct:Value}{an od:Option Addr}{osl:Array (Option Value)}{p1 p2 p3 p4:Pos}
  (aC:PySem.W.nsIn K mainGlobals x=some (some (.ref C))) (lC:K.lookup C=some (excClassObj nm q C N bs (.ref TE::veM) true sn sub ab col dd k0 k1 k2 k3 k5 "ValueError.__new__")) (lT:K.lookup TE=some ⟨c0,ddT,.cls cdT,slT⟩) (l1:K.lookup N=some ⟨c1,d1,.dict es1 ep1,sl1⟩) (n1:strK es1=true) (l2:K.lookup cdT.ns=some ⟨c2,d2,.dict es2 ep2,sl2⟩) (n2:strK es2=true)
  (i0:PySem.W.nsIn K N "__init__" = some (some (.ref fI))) (i1:PySem.W.nsIn K N "__setattr__" = some none) (i2:PySem.W.nsIn K N a=some none) (i3:PySem.W.nsIn K N "__getattribute__" = some none) (i4:PySem.W.nsIn K N "__getattr__" = some none) (i5:PySem.W.nsIn K N "__class__" = some none)
  (t0:PySem.W.nsIn K cdT.ns "__init__" = some none) (t1:PySem.W.nsIn K cdT.ns "__setattr__" = some none) (t2:PySem.W.nsIn K cdT.ns a=some none) (t3:PySem.W.nsIn K cdT.ns "__getattribute__" = some none) (t4:PySem.W.nsIn K cdT.ns "__getattr__" = some none) (t5:PySem.W.nsIn K cdT.ns "__class__" = some none)
  (hm:PySem.W.mroIn K C (.type "object")=some true)
  (lf:K.lookup fI=some ⟨.type "function",od,.func (PySem.W.fnOf "__init__" qual (defArgs st) (defBody st) (defScope st) .none kV doc pm an cdv ct),osl⟩) (hcd:PySem.W.codeIn K cdv qual=true)
  (hB:typeLookup (.type "ValueError") a=pure none) (hb:defBody st=[.Assign [.Attribute (.Name "self" p1) a p2] (.Name a p3) p4]) (S:FnScope ["self",a] ["self",a] (defScope st)) (hsw:∀env,swapsWith (.Name a p3) (some (.Attribute (.Name "self" p1) a p2)) p4.line env=pure false) (s1:(defScope st).names.lookup ("self" : Str)=some .local) (s2:(defScope st).names.lookup a=some .local) (hne:a ≠ "self") (hdb:(a ==("__debug__" : Str))=false)
  (hbd:∀(name qual:Str) (b:List Stmt) (kV doc pm cdv ct:Value) (an:Option Addr) s e u,BindsTo s (PySem.W.fnOf name qual (defArgs st) b (defScope st) .none kV doc pm an cdv ct) ⟨[.ref e,u],[]⟩ [("self",.ref e),(a,u)]):GaX K x C TE a:=by
 refine⟨N,fI,nm,q, "__init__",qual,bs,sn,sub,ab,col,dd,ddT,d1,d2,k0,k1,k2,k3,k5,c0,c1,c2,cdT,slT,sl1,sl2,es1,es2,ep1,ep2,defArgs st,defScope st,.none,kV,doc,pm,cdv,ct,an,od,osl,p1,p2,p3,p4,aC,lC,lT,l1,n1,l2,n2,i0,⟨i1,i2,i3,i4,i5⟩,⟨t0,t1,t2,t3,t4,t5⟩,hm,hB,?_,hcd,S,hsw,s1,s2,hne,hdb,fun s e u=>hbd _ _ _ _ _ _ _ _ _ s e u⟩
 rw[lf,hb]
theorem pe_xat {X:Cx}{K:PySem.W.Frag}{a:Str}{o:Expr}{ta:TE}{pos:Pos}(hK:X.K=K) (ha:PE X o ta) (hb:attributeBase o a X.env (eval o X.env)=eval o X.env):PE X (.Attribute o a pos) (tXat2 K ta a):=by
 subst hK;exact pe_xat2 ha hb
theorem call_isiEK {X:Cx}{K:PySem.W.Frag}(hK:X.K=K):CallR X (.builtin "isinstance") (rIsiE K):=by subst hK;exact call_isiE
section
variable {σ:St}{H:Hp}{Q:VK}{D:Ends}
theorem rd_raise {C:Addr}{E:XK}{ta:TA}(h:ta σ H fun vs H1=>∃v,vs=[v]∧∀u,RelV v u→E u (some C) H1):tRaise C E ta D σ H:=h
theorem rd_xat {K:PySem.W.Frag}{ta:TE}{a:Str}(h:ta σ H fun x H1=>∃e C v,x = .ref e∧XAt H1 e C a v∧XAttr K C a∧Q v H1):tXat2 K ta a σ H Q:=h
end
theorem stl6 {σ:St}(h:σ.length=6):∃a b c d e f,σ=[a,b,c,d,e,f]:=match σ,h with | [a,b,c,d,e,f],_=>⟨a,b,c,d,e,f,rfl⟩
theorem kit_self {K:PySem.W.Frag}{C:Addr}:PySem.W.kitOne K (.ref C) (.ref C)=some true:=by
 unfold PySem.W.kitOne;rw[if_pos (by simp)]
theorem rd_isiE {K:PySem.W.Frag}{H:Hp}{Q:VK}{e C:Addr}{a:Str}{v c:V}{cv:Value}{b:Bool}(x:XAt H e C a v) (k:XKit K C) (hc:∀u,RelV c u→u=cv) (h:PySem.W.kitOne K (.ref C) cv=some b) (q:Q (.bl b) H):rIsiE K [.ref e,c] H Q:=⟨e,C,a,v,c,cv,b,rfl,hc,x,k,h,q⟩
def gV (u:Value):V:=(absV u).getD .non
end L2
namespace PySem.SeqAt
open AutoSeq1 (wpAny_loadPart')
open MeetsSeq
end PySem.SeqAt
namespace L2
open PySem PySem.Spec PyProof.Rows
end L2
set_option maxHeartbeats 4000000
local macro_rules | `(tactic| walk_at"rdc")=>`(tactic| first
  | (show (0:Int) < _; omega)
  | (show (0:Int) ≤ _; omega)
  | (show (0:Int) < _∧_ < 2 ^ 100; omega)
  | (show (-(2 ^ 64) < _∧_ < 2 ^ 64) ∨ (-(2 ^ 64) < _∧_ < 2 ^ 64); omega)
  | (show (0:Int) ≤ _∧_ ≤ 1000000∧Int.natAbs _ < 2 ^ 64; omega))
local macro_rules | `(tactic| walk_at"rd1")=>`(tactic| first
  | (with_reducible refine' L2.rd_allN (fun _ _=>?_)) | (with_reducible refine' L2.rd_seqO (fun _ _=>?_)) | (with_reducible refine' L2.rd_asg ?_) | ((with_reducible refine' L2.rd_gname ?_); (try dsimp only [List.set_cons_zero,List.set_cons_succ])) | (with_reducible refine' L2.rd_ret ?_) | (with_reducible refine' L2.rd_retN ?_) | (with_reducible refine' L2.rd_next ?_) | (with_reducible refine' L2.rd_drop ?_) | (with_reducible refine' L2.rd_ifSO (fun _ _ _ _=>?_))
  | (with_reducible refine' L2.rd_op ?_) | (with_reducible refine' L2.rd_un ?_) | (with_reducible refine' L2.rd_c ?_) | ((with_reducible refine' L2.rd_var ?rdv ?_); (case rdv=>rfl))
  | (with_reducible refine' L2.rd_I0 ?_) | (with_reducible refine' L2.rd_U ?_) | (with_reducible refine' L2.rd_eqI ?_) | (with_reducible refine' L2.rd_neI ?_) | (with_reducible refine' L2.rd_eqB ?_) | (with_reducible refine' L2.rd_neB ?_)
  | (with_reducible refine' L2.rd_test ?_) | (with_reducible refine' L2.rd_tB ?_) | (with_reducible refine' L2.rd_and ?_) | (with_reducible refine' L2.rd_or ?_) | (with_reducible refine' L2.rd_not ?_) | (with_reducible refine' L2.rd_andV ?_) | (with_reducible refine' L2.rd_orV ?_) | (with_reducible refine' L2.rd_notV ?_) | (with_reducible refine' L2.rd_chain ?_) | (with_reducible refine' L2.rd_ifE ?_)
  | (with_reducible refine' L2.rd_nil ?_) | (with_reducible refine' L2.rd_cons ?_) | (with_reducible refine' L2.rd_call ?_) | (with_reducible refine' L2.rd_cb ?_) | (with_reducible refine' L2.rd_lst ?_) | (with_reducible refine' L2.rd_tup ?_) | (with_reducible refine' L2.rd_bm0 ?_) | (with_reducible refine' L2.rd_bm ?_) | (with_reducible refine' L2.rd_augS ?_) | ((with_reducible refine' L2.rd_ip ?_); (try dsimp only [List.set_cons_zero,List.set_cons_succ])) | ((with_reducible refine' L2.rd_aug ?rdv ?_); (case rdv=>rfl)) | (with_reducible refine' L2.rd_izip ?_) | (with_reducible refine' L2.rd_ivals ?_) | (with_reducible refine' L2.rd_dget2 ?_) | (with_reducible refine' L2.rd_dput ?_) | (with_reducible refine' L2.rd_dget ?_) | (with_reducible refine' L2.rd_dnewK ?_) | (with_reducible refine' L2.rd_sortK ?_) | (with_reducible refine' L2.rd_sortLam ?_) | (with_reducible refine' L2.rd_orG ?_) | (with_reducible refine' L2.rd_isB ?_) | (with_reducible refine' L2.rd_gsub ?_) | (with_reducible refine' L2.rd_meth ?_) | (with_reducible refine' L2.rd_make ?_) | (with_reducible refine' L2.rd_fld ?_) | (with_reducible refine' L2.rd_sfld ?_) | (with_reducible refine' L2.rd_din ?_) | (with_reducible refine' L2.rd_dnin ?_) | (with_reducible refine' L2.rd_idict ?_) | (with_reducible refine' L2.rd_dpop ?_) | (with_reducible refine' L2.rd_raise ?_) | (with_reducible refine' L2.rd_sortLamV ?_) | (with_reducible refine' L2.rd_xat ?_)
  | (with_reducible refine' L2.rd_sl ?_) | (with_reducible refine' L2.rd_nop ?_) | (with_reducible refine' L2.rd_part ?_) | (with_reducible refine' L2.rd_bl ?_) | (with_reducible refine' L2.rd_int ?_)
  | (with_reducible refine' L2.rd_iteT ?_) | (with_reducible refine' L2.rd_iteF ?_) | (with_reducible refine' L2.rd_iteNF ?_) | (with_reducible refine' L2.rd_iteNT ?_)
  | (with_reducible refine' L2.rd_forO (fun _ _=>?_)) | (with_reducible refine' L2.rd_rng1 ?_) | (with_reducible refine' L2.rd_rng2 ?_) | (with_reducible refine' L2.rd_ilist ?_) | (with_reducible refine' L2.rd_comp ?_) | (with_reducible refine' L2.rd_yes ?_)
  | (with_reducible refine' L2.rd_itup ?_) | (with_reducible refine' L2.rd_istr ?_) | (with_reducible refine' L2.rd_leS ?_) | (with_reducible refine' L2.rd_inS ?_)
  | (with_reducible refine' L2.rd_abs ?_) | (with_reducible refine' L2.rd_max ?_) | (with_reducible refine' L2.rd_min ?_) | (with_reducible refine' L2.rd_bitlen ?_)
  | (with_reducible refine' L2.rd_rev ?_) | (with_reducible refine' L2.rd_ienum ?_) | (with_reducible refine' L2.rd_intB ?_)
  | ((with_reducible refine' L2.rd_ixL (L2.SqL.of ?rdh) ?rde ?_); (case rdh=>assumption); (case rde=>rfl))
  | ((with_reducible refine' L2.rd_set0 ?rdh ?_); (case rdh=>assumption))
  | ((with_reducible refine' L2.rd_set1 ?rdh ?_); (case rdh=>assumption))
  | ((with_reducible refine' L2.rd_setL ?rdh ?rde ?_); (case rdh=>assumption); (case rde=>rfl))
  | ((with_reducible refine' L2.rd_ixT (L2.SqT.of ?rdh) ?rde ?_); (case rdh=>assumption); (case rde=>rfl))
  | ((with_reducible refine' L2.rd_lenL (L2.SqL.of ?rdh) ?_); (case rdh=>assumption))
  | ((with_reducible refine' L2.rd_I ?rdc ?_); (case rdc=>walk_at"rdc"))
  | ((with_reducible refine' L2.rd_tx ?rdt ?_); (case rdt=>assumption); (try dsimp only [List.set_cons_zero,List.set_cons_succ]))
  | (dsimp only; (with_reducible refine' L2.rd_tx ?rdt ?_); (case rdt=>assumption); (try dsimp only [List.set_cons_zero,List.set_cons_succ]))
  | ((with_reducible refine' L2.rd_isN ?rdt ?_); (case rdt=>assumption); (try dsimp only))
  | (dsimp only; (with_reducible refine' L2.rd_isN ?rdt ?_); (case rdt=>assumption); (try dsimp only)))
local macro_rules | `(tactic| walk_at"rd")=>`(tactic| repeat walk_at"rd1")
local macro_rules | `(tactic| walk_at"lk")=>`(tactic| first | k_is | ((refine' L2.Ga.mk ?lka ?lkl ?lkc ?lkk); (case lka=>k_is); (case lkl=>k_is); (case lkc=>k_is); (case lkk=>k_is)) | ((refine' L2.Ga2.mk ?lka ?lkb ?lkl ?lkc ?lkk); (case lka=>k_is); (case lkb=>k_is); (case lkl=>k_is); (case lkc=>k_is); (case lkk=>k_is)) | ((refine' L2.Me.mk ?lka ?lkb ?lkl ?lkc ?lkk); (case lka=>k_is); (case lkb=>k_is); (case lkl=>k_is); (case lkc=>k_is); (case lkk=>k_is)))
namespace Law
open PySem PySem.Spec PyProof.Rows L2
def top (i:Nat):Stmt:=PySem.Challenge.pw_tailrooms_k44_just_these_steps.main.body.getD i (.Pass ⟨0,0,0,0⟩)
abbrev s_last_bits:Stmt:=top 1
abbrev s_level:Stmt:=top 2
abbrev s_turn:Stmt:=top 3
abbrev s_bits_for:Stmt:=top 4
abbrev s_room_of:Stmt:=top 5
abbrev s_split_of:Stmt:=top 6
abbrev s_joined_of:Stmt:=top 7
abbrev s_rows_for:Stmt:=top 13
abbrev s_cut_rows:Stmt:=top 14
abbrev s_entries_in:Stmt:=top 16
abbrev s_rows_at:Stmt:=top 17
abbrev s_done_all:Stmt:=top 18
abbrev s_lay_row:Stmt:=top 19
abbrev s_cut_room:Stmt:=top 20
abbrev s_leave_last_rooms:Stmt:=top 21
abbrev s_unlike_rows:Stmt:=top 23
abbrev s_onward:Stmt:=top 24
abbrev s_backward:Stmt:=top 25
abbrev s_splitting:Stmt:=top 26
abbrev s_joining:Stmt:=top 27
abbrev s_putting:Stmt:=top 28
abbrev s_dropping:Stmt:=top 29
abbrev s_others_in:Stmt:=top 30
abbrev s__law_open:Stmt:=top 32
abbrev s__law_draw:Stmt:=top 33
abbrev s__law_far:Stmt:=top 34
abbrev s__law_power:Stmt:=top 35
abbrev s__law_key:Stmt:=top 36
abbrev s__law_thing:Stmt:=top 37
abbrev s__law_keys:Stmt:=top 38
abbrev s__law_whole:Stmt:=top 39
abbrev s__law_top:Stmt:=top 40
abbrev s__law_room:Stmt:=top 41
abbrev s__law_cut:Stmt:=top 42
abbrev s__law_clean:Stmt:=top 43
abbrev s__law_all_of:Stmt:=top 44
abbrev s__law_copy:Stmt:=top 45
abbrev s__law_is_yard:Stmt:=top 46
abbrev s__law_onward:Stmt:=top 47
abbrev s__law_change_due:Stmt:=top 48
abbrev s__law_asked_change:Stmt:=top 49
abbrev s__law_near:Stmt:=top 50
abbrev s__law_places:Stmt:=top 51
abbrev s__law_said:Stmt:=top 52
abbrev s__law_right:Stmt:=top 53
abbrev s_law:Stmt:=top 54
theorem sc_last_bits:FnScope ["key", "many"] ["key", "many"] (defScope s_last_bits):=⟨rfl,rfl,rfl,by decide +kernel,rfl,by decide +kernel,by decide +kernel⟩
theorem sc_level:FnScope ["rooms"] ["rooms"] (defScope s_level):=⟨rfl,rfl,rfl,by decide +kernel,rfl,by decide +kernel,by decide +kernel⟩
theorem sc_turn:FnScope ["rooms"] ["rooms"] (defScope s_turn):=⟨rfl,rfl,rfl,by decide +kernel,rfl,by decide +kernel,by decide +kernel⟩
theorem sc_bits_for:FnScope ["room", "rooms", "deep"] ["room", "rooms"] (defScope s_bits_for):=⟨rfl,rfl,rfl,by decide +kernel,rfl,by decide +kernel,by decide +kernel⟩
theorem sc_room_of:FnScope ["key", "rooms"] ["key", "rooms"] (defScope s_room_of):=⟨rfl,rfl,rfl,by decide +kernel,rfl,by decide +kernel,by decide +kernel⟩
theorem sc_split_of:FnScope ["rooms"] ["rooms"] (defScope s_split_of):=⟨rfl,rfl,rfl,by decide +kernel,rfl,by decide +kernel,by decide +kernel⟩
theorem sc_joined_of:FnScope ["rooms", "room"] ["rooms"] (defScope s_joined_of):=⟨rfl,rfl,rfl,by decide +kernel,rfl,by decide +kernel,by decide +kernel⟩
theorem sc_rows_for:FnScope ["many", "wide"] ["many", "wide"] (defScope s_rows_for):=⟨rfl,rfl,rfl,by decide +kernel,rfl,by decide +kernel,by decide +kernel⟩
theorem sc_cut_rows:FnScope ["things", "wide"] ["things", "wide"] (defScope s_cut_rows):=⟨rfl,rfl,rfl,by decide +kernel,rfl,by decide +kernel,by decide +kernel⟩
theorem sc_entries_in:FnScope ["rows"] ["rows"] (defScope s_entries_in):=⟨rfl,rfl,rfl,by decide +kernel,rfl,by decide +kernel,by decide +kernel⟩
theorem sc_rows_at:FnScope ["held", "room"] ["held", "room"] (defScope s_rows_at):=⟨rfl,rfl,rfl,by decide +kernel,rfl,by decide +kernel,by decide +kernel⟩
theorem sc_done_all:FnScope ["yard", "steps", "wide", "rooms", "held", "fresh", "step"] ["yard", "steps"] (defScope s_done_all):=⟨rfl,rfl,rfl,by decide +kernel,rfl,by decide +kernel,by decide +kernel⟩
theorem sc_lay_row:FnScope ["held", "room", "at", "row", "rows"] ["held", "room", "at", "row"] (defScope s_lay_row):=⟨rfl,rfl,rfl,by decide +kernel,rfl,by decide +kernel,by decide +kernel⟩
theorem sc_cut_room:FnScope ["held", "room", "many"] ["held", "room", "many"] (defScope s_cut_room):=⟨rfl,rfl,rfl,by decide +kernel,rfl,by decide +kernel,by decide +kernel⟩
theorem sc_leave_last_rooms:FnScope ["held"] ["held"] (defScope s_leave_last_rooms):=⟨rfl,rfl,rfl,by decide +kernel,rfl,by decide +kernel,by decide +kernel⟩
theorem sc_unlike_rows:FnScope ["room", "old", "new"] ["room", "old", "new"] (defScope s_unlike_rows):=⟨rfl,rfl,rfl,by decide +kernel,rfl,by decide +kernel,by decide +kernel⟩
theorem sc_onward:FnScope ["room", "old", "new", "steps"] ["room", "old", "new"] (defScope s_onward):=⟨rfl,rfl,rfl,by decide +kernel,rfl,by decide +kernel,by decide +kernel⟩
theorem sc_backward:FnScope ["room", "old", "new"] ["room", "old", "new"] (defScope s_backward):=⟨rfl,rfl,rfl,by decide +kernel,rfl,by decide +kernel,by decide +kernel⟩
theorem sc_splitting:FnScope ["yard", "wide", "rooms", "held", "room", "new", "own", "goes", "stays", "steps"] ["yard"] (defScope s_splitting):=⟨rfl,rfl,rfl,by decide +kernel,rfl,by decide +kernel,by decide +kernel⟩
theorem sc_joining:FnScope ["yard", "wide", "rooms", "held", "room", "into", "both", "steps"] ["yard"] (defScope s_joining):=⟨rfl,rfl,rfl,by decide +kernel,rfl,by decide +kernel,by decide +kernel⟩
theorem sc_putting:FnScope ["yard", "key", "thing", "wide", "rooms", "held", "room", "own", "new"] ["yard", "key", "thing"] (defScope s_putting):=⟨rfl,rfl,rfl,by decide +kernel,rfl,by decide +kernel,by decide +kernel⟩
theorem sc_dropping:FnScope ["yard", "key", "wide", "rooms", "held", "room", "own", "others"] ["yard", "key"] (defScope s_dropping):=⟨rfl,rfl,rfl,by decide +kernel,rfl,by decide +kernel,by decide +kernel⟩
theorem sc_others_in:FnScope ["rows", "key"] ["rows", "key"] (defScope s_others_in):=⟨rfl,rfl,rfl,by decide +kernel,rfl,by decide +kernel,by decide +kernel⟩
theorem sc__law_open:FnScope ["_law_script", "_law_place", "_law_cells", "_law_at", "_law_digits"] ["_law_script", "_law_place"] (defScope s__law_open):=⟨rfl,rfl,rfl,by decide +kernel,rfl,by decide +kernel,by decide +kernel⟩
theorem sc__law_draw:FnScope ["_law_hand", "_law_many", "_law_got", "_law_k", "_law_number"] ["_law_hand", "_law_many"] (defScope s__law_draw):=⟨rfl,rfl,rfl,by decide +kernel,rfl,by decide +kernel,by decide +kernel⟩
theorem sc__law_far:FnScope ["_law_hand", "_law_many", "_law_number", "_law_k"] ["_law_hand", "_law_many"] (defScope s__law_far):=⟨rfl,rfl,rfl,by decide +kernel,rfl,by decide +kernel,by decide +kernel⟩
theorem sc__law_power:FnScope ["_law_many", "_law_number", "_law_k"] ["_law_many"] (defScope s__law_power):=⟨rfl,rfl,rfl,by decide +kernel,rfl,by decide +kernel,by decide +kernel⟩
theorem sc__law_key:FnScope ["_law_hand", "_law_way", "_law_low"] ["_law_hand"] (defScope s__law_key):=⟨rfl,rfl,rfl,by decide +kernel,rfl,by decide +kernel,by decide +kernel⟩
theorem sc__law_thing:FnScope ["_law_hand", "_law_letters"] ["_law_hand"] (defScope s__law_thing):=⟨rfl,rfl,rfl,by decide +kernel,rfl,by decide +kernel,by decide +kernel⟩
theorem sc__law_keys:FnScope ["_law_hand", "_law_many", "_law_keys_here", "_law_k", "_law_key_here"] ["_law_hand", "_law_many"] (defScope s__law_keys):=⟨rfl,rfl,rfl,by decide +kernel,rfl,by decide +kernel,by decide +kernel⟩
theorem sc__law_whole:FnScope ["_law_got"] ["_law_got"] (defScope s__law_whole):=⟨rfl,rfl,rfl,by decide +kernel,rfl,by decide +kernel,by decide +kernel⟩
theorem sc__law_top:FnScope ["_law_rooms", "_law_grade"] ["_law_rooms"] (defScope s__law_top):=⟨rfl,rfl,rfl,by decide +kernel,rfl,by decide +kernel,by decide +kernel⟩
theorem sc__law_room:FnScope ["_law_key_here", "_law_rooms", "_law_room_here", "_law_grade"] ["_law_key_here", "_law_rooms"] (defScope s__law_room):=⟨rfl,rfl,rfl,by decide +kernel,rfl,by decide +kernel,by decide +kernel⟩
theorem sc__law_cut:FnScope ["_law_wide", "_law_entries", "_law_some", "_law_rows"] ["_law_wide", "_law_entries"] (defScope s__law_cut):=⟨rfl,rfl,rfl,by decide +kernel,rfl,by decide +kernel,by decide +kernel⟩
theorem sc__law_clean:FnScope ["_law_wide", "_law_rooms", "_law_entries", "_law_parts", "_law_entry"] ["_law_wide", "_law_rooms", "_law_entries"] (defScope s__law_clean):=⟨rfl,rfl,rfl,by decide +kernel,rfl,by decide +kernel,by decide +kernel⟩
theorem sc__law_all_of:FnScope ["_law_yard", "_law_entries", "_law_rows", "_law_row"] ["_law_yard"] (defScope s__law_all_of):=⟨rfl,rfl,rfl,by decide +kernel,rfl,by decide +kernel,by decide +kernel⟩
theorem sc__law_copy:FnScope ["_law_yard"] ["_law_yard"] (defScope s__law_copy):=⟨rfl,rfl,rfl,by decide +kernel,rfl,by decide +kernel,by decide +kernel⟩
theorem sc__law_is_yard:FnScope ["_law_got", "_law_due"] ["_law_got", "_law_due"] (defScope s__law_is_yard):=⟨rfl,rfl,rfl,by decide +kernel,rfl,by decide +kernel,by decide +kernel⟩
theorem sc__law_onward:FnScope ["_law_room_here", "_law_rows", "_law_now", "_law_steps", "_law_at", "_law_row"] ["_law_room_here", "_law_rows", "_law_now"] (defScope s__law_onward):=⟨rfl,rfl,rfl,by decide +kernel,rfl,by decide +kernel,by decide +kernel⟩
theorem sc__law_change_due:FnScope ["_law_yard", "_law_way", "_law_key_here", "_law_thing_here", "_law_wide", "_law_rooms", "_law_held", "_law_entries", "_law_there", "_law_room_here", "_law_steps", "_law_into", "_law_others"] ["_law_yard", "_law_way", "_law_key_here", "_law_thing_here"] (defScope s__law_change_due):=⟨rfl,rfl,rfl,by decide +kernel,rfl,by decide +kernel,by decide +kernel⟩
theorem sc__law_asked_change:FnScope ["_law_yard", "_law_way", "_law_key_here", "_law_thing_here"] ["_law_yard", "_law_way", "_law_key_here", "_law_thing_here"] (defScope s__law_asked_change):=⟨rfl,rfl,rfl,by decide +kernel,rfl,by decide +kernel,by decide +kernel⟩
theorem sc__law_near:FnScope ["_law_hand", "_law_many", "_law_near_here", "_law_keys_here", "_law_k", "_law_key_here"] ["_law_hand", "_law_many", "_law_near_here"] (defScope s__law_near):=⟨rfl,rfl,rfl,by decide +kernel,rfl,by decide +kernel,by decide +kernel⟩
theorem sc__law_places:FnScope ["_law_script", "_law_least", "_law_most"] ["_law_script", "_law_least", "_law_most"] (defScope s__law_places):=⟨rfl,rfl,rfl,by decide +kernel,rfl,by decide +kernel,by decide +kernel⟩
theorem sc__law_said:FnScope ["_law_yard", "_law_way", "_law_key_here", "_law_thing_here", "_law_got", "e"] ["_law_yard", "_law_way", "_law_key_here", "_law_thing_here"] (defScope s__law_said):=⟨rfl,rfl,rfl,by decide +kernel,rfl,by decide +kernel,by decide +kernel⟩
theorem sc__law_right:FnScope ["_law_yard", "_law_way", "_law_key_here", "_law_thing_here", "_law_kept", "_law_entries", "_law_others", "_law_got", "_law_rooms", "_law_there", "_law_due"] ["_law_yard", "_law_way", "_law_key_here", "_law_thing_here"] (defScope s__law_right):=⟨rfl,rfl,rfl,by decide +kernel,rfl,by decide +kernel,by decide +kernel⟩
theorem sc_law:FnScope ["_law_script", "_law_place", "_law_hand", "_law_way", "_law_rooms", "_law_wide", "_law_many", "_law_entries", "_law_key_here", "_law_yard", "_law_new", "_law_asks", "_law_thing_here", "_law_change"] ["_law_script"] (defScope s_law):=⟨rfl,rfl,rfl,by decide +kernel,rfl,by decide +kernel,by decide +kernel⟩
theorem st_last_bits (x0 x1:V):start ["key", "many"] [x0,x1]=[some x0,some x1]:=rfl
theorem st_level (x0:V):start ["rooms"] [x0]=[some x0]:=rfl
theorem st_turn (x0:V):start ["rooms"] [x0]=[some x0]:=rfl
theorem st_bits_for (x0 x1:V):start ["room", "rooms", "deep"] [x0,x1]=[some x0,some x1,none]:=rfl
theorem st_room_of (x0 x1:V):start ["key", "rooms"] [x0,x1]=[some x0,some x1]:=rfl
theorem st_split_of (x0:V):start ["rooms"] [x0]=[some x0]:=rfl
theorem st_joined_of (x0:V):start ["rooms", "room"] [x0]=[some x0,none]:=rfl
theorem st_rows_for (x0 x1:V):start ["many", "wide"] [x0,x1]=[some x0,some x1]:=rfl
theorem st_cut_rows (x0 x1:V):start ["things", "wide"] [x0,x1]=[some x0,some x1]:=rfl
theorem st_entries_in (x0:V):start ["rows"] [x0]=[some x0]:=rfl
theorem st_rows_at (x0 x1:V):start ["held", "room"] [x0,x1]=[some x0,some x1]:=rfl
theorem st_done_all (x0 x1:V):start ["yard", "steps", "wide", "rooms", "held", "fresh", "step"] [x0,x1]=[some x0,some x1,none,none,none,none,none]:=rfl
theorem st_lay_row (x0 x1 x2 x3:V):start ["held", "room", "at", "row", "rows"] [x0,x1,x2,x3]=[some x0,some x1,some x2,some x3,none]:=rfl
theorem st_cut_room (x0 x1 x2:V):start ["held", "room", "many"] [x0,x1,x2]=[some x0,some x1,some x2]:=rfl
theorem st_leave_last_rooms (x0:V):start ["held"] [x0]=[some x0]:=rfl
theorem st_unlike_rows (x0 x1 x2:V):start ["room", "old", "new"] [x0,x1,x2]=[some x0,some x1,some x2]:=rfl
theorem st_onward (x0 x1 x2:V):start ["room", "old", "new", "steps"] [x0,x1,x2]=[some x0,some x1,some x2,none]:=rfl
theorem st_backward (x0 x1 x2:V):start ["room", "old", "new"] [x0,x1,x2]=[some x0,some x1,some x2]:=rfl
theorem st_splitting (x0:V):start ["yard", "wide", "rooms", "held", "room", "new", "own", "goes", "stays", "steps"] [x0]=[some x0,none,none,none,none,none,none,none,none,none]:=rfl
theorem st_joining (x0:V):start ["yard", "wide", "rooms", "held", "room", "into", "both", "steps"] [x0]=[some x0,none,none,none,none,none,none,none]:=rfl
theorem st_putting (x0 x1 x2:V):start ["yard", "key", "thing", "wide", "rooms", "held", "room", "own", "new"] [x0,x1,x2]=[some x0,some x1,some x2,none,none,none,none,none,none]:=rfl
theorem st_dropping (x0 x1:V):start ["yard", "key", "wide", "rooms", "held", "room", "own", "others"] [x0,x1]=[some x0,some x1,none,none,none,none,none,none]:=rfl
theorem st_others_in (x0 x1:V):start ["rows", "key"] [x0,x1]=[some x0,some x1]:=rfl
theorem st__law_open (x0 x1:V):start ["_law_script", "_law_place", "_law_cells", "_law_at", "_law_digits"] [x0,x1]=[some x0,some x1,none,none,none]:=rfl
theorem st__law_draw (x0 x1:V):start ["_law_hand", "_law_many", "_law_got", "_law_k", "_law_number"] [x0,x1]=[some x0,some x1,none,none,none]:=rfl
theorem st__law_far (x0 x1:V):start ["_law_hand", "_law_many", "_law_number", "_law_k"] [x0,x1]=[some x0,some x1,none,none]:=rfl
theorem st__law_power (x0:V):start ["_law_many", "_law_number", "_law_k"] [x0]=[some x0,none,none]:=rfl
theorem st__law_key (x0:V):start ["_law_hand", "_law_way", "_law_low"] [x0]=[some x0,none,none]:=rfl
theorem st__law_thing (x0:V):start ["_law_hand", "_law_letters"] [x0]=[some x0,none]:=rfl
theorem st__law_keys (x0 x1:V):start ["_law_hand", "_law_many", "_law_keys_here", "_law_k", "_law_key_here"] [x0,x1]=[some x0,some x1,none,none,none]:=rfl
theorem st__law_whole (x0:V):start ["_law_got"] [x0]=[some x0]:=rfl
theorem st__law_top (x0:V):start ["_law_rooms", "_law_grade"] [x0]=[some x0,none]:=rfl
theorem st__law_room (x0 x1:V):start ["_law_key_here", "_law_rooms", "_law_room_here", "_law_grade"] [x0,x1]=[some x0,some x1,none,none]:=rfl
theorem st__law_cut (x0 x1:V):start ["_law_wide", "_law_entries", "_law_some", "_law_rows"] [x0,x1]=[some x0,some x1,none,none]:=rfl
theorem st__law_clean (x0 x1 x2:V):start ["_law_wide", "_law_rooms", "_law_entries", "_law_parts", "_law_entry"] [x0,x1,x2]=[some x0,some x1,some x2,none,none]:=rfl
theorem st__law_all_of (x0:V):start ["_law_yard", "_law_entries", "_law_rows", "_law_row"] [x0]=[some x0,none,none,none]:=rfl
theorem st__law_copy (x0:V):start ["_law_yard"] [x0]=[some x0]:=rfl
theorem st__law_is_yard (x0 x1:V):start ["_law_got", "_law_due"] [x0,x1]=[some x0,some x1]:=rfl
theorem st__law_onward (x0 x1 x2:V):start ["_law_room_here", "_law_rows", "_law_now", "_law_steps", "_law_at", "_law_row"] [x0,x1,x2]=[some x0,some x1,some x2,none,none,none]:=rfl
theorem st__law_change_due (x0 x1 x2 x3:V):start ["_law_yard", "_law_way", "_law_key_here", "_law_thing_here", "_law_wide", "_law_rooms", "_law_held", "_law_entries", "_law_there", "_law_room_here", "_law_steps", "_law_into", "_law_others"] [x0,x1,x2,x3]=[some x0,some x1,some x2,some x3,none,none,none,none,none,none,none,none,none]:=rfl
theorem st__law_asked_change (x0 x1 x2 x3:V):start ["_law_yard", "_law_way", "_law_key_here", "_law_thing_here"] [x0,x1,x2,x3]=[some x0,some x1,some x2,some x3]:=rfl
theorem st__law_near (x0 x1 x2:V):start ["_law_hand", "_law_many", "_law_near_here", "_law_keys_here", "_law_k", "_law_key_here"] [x0,x1,x2]=[some x0,some x1,some x2,none,none,none]:=rfl
theorem st__law_places (x0 x1 x2:V):start ["_law_script", "_law_least", "_law_most"] [x0,x1,x2]=[some x0,some x1,some x2]:=rfl
theorem st__law_said (x0 x1 x2 x3:V):start ["_law_yard", "_law_way", "_law_key_here", "_law_thing_here", "_law_got", "e"] [x0,x1,x2,x3]=[some x0,some x1,some x2,some x3,none,none]:=rfl
theorem st__law_right (x0 x1 x2 x3:V):start ["_law_yard", "_law_way", "_law_key_here", "_law_thing_here", "_law_kept", "_law_entries", "_law_others", "_law_got", "_law_rooms", "_law_there", "_law_due"] [x0,x1,x2,x3]=[some x0,some x1,some x2,some x3,none,none,none,none,none,none,none]:=rfl
theorem st_law (x0:V):start ["_law_script", "_law_place", "_law_hand", "_law_way", "_law_rooms", "_law_wide", "_law_many", "_law_entries", "_law_key_here", "_law_yard", "_law_new", "_law_asks", "_law_thing_here", "_law_change"] [x0]=[some x0,none,none,none,none,none,none,none,none,none,none,none,none,none]:=rfl
structure Bl (mg:Str→Option Value):Prop where
 max:mg "max" = none
 range:mg "range" = none
 len:mg "len" = none
 list:mg "list" = none
 enumerate:mg "enumerate" = none
 sorted:mg "sorted" = none
 abs:mg "abs" = none
 isinstance:mg "isinstance" = none
 int:mg "int" = none
 bool:mg "bool" = none
 tuple:mg "tuple" = none
 min:mg "min" = none
structure Hand (H:Hp) (p:Addr) (N:Nat):Prop where
 ex:∃(l:Addr) (d c:Int) (ns:List Int),H p=some (.lst [.int d,.int c,.ref l])∧H l=some (.lst (ns.map V.int))∧0≤c∧c≤N∧ns ≠ []
theorem Hand.mono {H:Hp}{p:Addr}{N M:Nat}(h:Hand H p N) (hm:N≤M):Hand H p M:=by
 obtain⟨l,d,c,ns,h1,h2,h3,h4,h5⟩:=h.ex
 exact⟨l,d,c,ns,h1,h2,h3,by omega,h5⟩
def cellsOf (H:Hp) (p:Addr):Option Addr:=match H p with
 | some (.lst [_,_,.ref l])=>some l
 | _=>none
theorem cells_of {H:Hp}{p l:Addr}{a b:V}(h:H p=some (.lst [a,b,.ref l])):cellsOf H p=some l:=by unfold cellsOf;rw[h]
def Kp (H H':Hp) (p:Addr):Prop:=(∀b o,H b=some o→b≠p→H' b=some o)∧cellsOf H' p=cellsOf H p
theorem Kp.refl (H:Hp) (p:Addr):Kp H H p:=⟨fun _ _ h _=>h,rfl⟩
theorem Kp.trans {H H1 H2:Hp}{p:Addr}(a:Kp H H1 p) (b:Kp H1 H2 p):Kp H H2 p:=⟨fun c o h n=>b.1 c o (a.1 c o h n) n,b.2.trans a.2⟩
theorem Kp.hand {H:Hp}{p l:Addr}{a b a' b':V}(h:H p=some (.lst [a,b,.ref l])):Kp H (upd H p (.lst [a',b',.ref l])) p :=
 ⟨fun b u h n=>by rw[upd_ne n];exact h,by rw[cells_of upd_same,cells_of h]⟩
theorem Kp.of {H H':Hp}{p:Addr}{N:Nat}(h:Same H H') (hh:Hand H p N):Kp H H' p:=by
 obtain⟨l,d,c,ns,h1,_⟩:=hh.ex
 exact⟨fun b o q _=>h b o q,by rw[cells_of h1,cells_of (h _ _ h1)]⟩
theorem Kp.new {H H1 H2:Hp}{p:Addr}(a:Same H H1) (n:H p=none) (b:Kp H1 H2 p):Same H H2:=fun c o h=>b.1 c o (a c o h) (ne_of_none h n)
theorem Kp.free {H H':Hp}{p l:Addr}(k:Kp H H' p) (n:H' l=none) (h:l≠p):H l=none:=by
 cases e:H l with
 | none=>rfl
 | some o=>rw[k.1 _ _ e h]at n;cases n
theorem Hand.upd {H:Hp}{p c:Addr}{N:Nat}{o:HO}(h:Hand H p N) (n:c≠p) (nl:cellsOf H p≠some c):Hand (L2.upd H c o) p N:=by
 obtain⟨l,d,k,ns,h1,h2,r⟩:=h.ex
 have ne:l≠c:=fun z=>nl (by rw[cells_of h1,z])
 exact⟨l,d,k,ns,by rw[upd_ne n.symm];exact h1,by rw[upd_ne ne];exact h2,r⟩
theorem cells_new {H:Hp}{p c:Addr}{N:Nat}(h:Hand H p N) (n:H c=none):cellsOf H p≠some c:=by
 obtain⟨l,d,k,ns,h1,h2,r⟩:=h.ex
 rw[cells_of h1]
 intro z
 exact ne_of_none h2 n (Option.some.inj z)
theorem cells_upd {H:Hp}{p c:Addr}{o:HO}(n:c≠p):cellsOf (L2.upd H c o) p=cellsOf H p:=by unfold cellsOf;rw[upd_ne n.symm]
theorem Hand.same {H H':Hp}{p:Addr}{N:Nat}(h:Hand H p N) (s:Same H H'):Hand H' p N:=by
 obtain⟨l,d,c,ns,h1,h2,r⟩:=h.ex
 exact⟨l,d,c,ns,s _ _ h1,s _ _ h2,r⟩
theorem nsMod {ns:List Int}(h:ns ≠ []) (k:Int):∃v,atI (ns.map V.int) (k%((ns.map V.int).length:Int))=some (.int v):=by
 have hl:0<ns.length:=List.length_pos_iff.mpr h
 rw[List.length_map]
 have h0:0≤k%(ns.length:Int):=Int.emod_nonneg _ (by omega)
 have h1:k%(ns.length:Int)<ns.length:=Int.emod_lt_of_pos _ (by omega)
 have ek:k%(ns.length:Int) =(((k%(ns.length:Int)).toNat:Nat):Int):=by omega
 have hk:(k%(ns.length:Int)).toNat<ns.length:=by omega
 obtain⟨j,hj⟩ : ∃j:Nat,k%(ns.length:Int) =(j:Int):=⟨_,ek⟩
 have hk2:j<ns.length:=by omega
 refine⟨ns[j],?_⟩
 rw[hj]
 exact atI_nat (by rw[List.getElem?_map,List.getElem?_eq_getElem hk2] <;> rfl)
theorem hand_ne {H:Hp}{p l:Addr}{d c:Int}{ns:List Int}(hp:H p=some (.lst [.int d,.int c,.ref l])) (hl:H l=some (.lst (ns.map V.int))):l≠p:=by
 refine ne_of hl hp fun z=>?_
 injection z with z
 have q:=congrArg (fun x=>x[2]?) z
 rw[List.getElem?_map]at q
 cases e:ns[2]? with
 | none=>rw[e]at q;cases q
 | some v=>rw[e]at q;cases q
theorem len_pos {ns:List Int}(h:ns ≠ []):(0:Int) <((ns.map V.int).length:Int):=by
 rw[List.length_map]
 have:=List.length_pos_iff.mpr h
 omega
theorem pow2_cast (a:Nat):(2:Int)^a =((2^a:Nat):Int):=by
 induction a with
 | zero=>rfl
 | succ a ih=>rw[Int.pow_succ,Nat.pow_succ,ih];push_cast;rfl
theorem pow2_le {a b:Nat}(h:a≤b):(2:Int)^a≤2^b:=by
 rw[pow2_cast,pow2_cast]
 exact Int.ofNat_le.mpr (Nat.pow_le_pow_right (by decide) h)
theorem pow2_pos (a:Nat):(0:Int)<2^a:=by
 rw[pow2_cast]
 have:=Nat.two_pow_pos a
 omega
theorem newo {H1 H2:Hp}{l:Addr}{o:HO}(n:H1 l=none) (e:L2.upd H1 l o=H2):H2 l=some o∧Same H1 H2:=by
 subst e;exact⟨upd_same,same_new n _⟩
theorem Hand.ne {H:Hp}{p l:Addr}{N:Nat}(hh:Hand H p N) (n:H l=none):l≠p:=by
 obtain⟨l1,d,c,ns,h1,_⟩:=hh.ex
 exact(ne_of_none h1 n).symm
structure CK (H0:Hp) (p D:Addr) (N:Nat) (ys:List V) (H':Hp):Prop where
 hh:Hand H' p N
 lat:H' D=some (.lst ys)
 kp:Kp H0 H' p
 n0:H0 D=none
 np:D≠p
 nc:cellsOf H0 p≠some D
theorem CK.start {H0:Hp}{p D:Addr}{N:Nat}(hh:Hand H0 p N) (n:H0 D=none) {ys:List V}:CK H0 p D N ys (L2.upd H0 D (.lst ys)) where
 hh:=hh.same (same_new n _)
 lat:=upd_same
 kp:=Kp.of (same_new n _) hh
 n0:=n
 np:=by
  obtain⟨l1,d,c,ns,h1,_⟩:=hh.ex
  exact(ne_of_none h1 n).symm
 nc:=cells_new hh n
theorem CK.draw {H0 H' H2:Hp}{p D:Addr}{N M:Nat}{ys:List V}(c:CK H0 p D N ys H') (k:Kp H' H2 p) (hh:Hand H2 p M):CK H0 p D M ys H2 :=
 ⟨hh,k.1 _ _ c.lat c.np,c.kp.trans k,c.n0,c.np,c.nc⟩
theorem CK.push {H0 H':Hp}{p D:Addr}{N:Nat}{ys zs:List V}(c:CK H0 p D N ys H'):CK H0 p D N zs (L2.upd H' D (.lst zs)) where
 hh:=c.hh.upd c.np (by rw[c.kp.2];exact c.nc)
 lat:=upd_same
 kp:=⟨fun b o h n=>by rw[upd_ne (ne_of_none h c.n0)];exact c.kp.1 _ _ h n,by rw[cells_upd c.np];exact c.kp.2⟩
 n0:=c.n0
 np:=c.np
 nc:=c.nc
theorem CK.new {H0 H' H2:Hp}{p D l:Addr}{N:Nat}{ys:List V}{o:HO}(c:CK H0 p D N ys H') (n:H' l=none) (e:L2.upd H' l o=H2):CK H0 p D N ys H2∧H2 l=some o∧l≠p∧l≠D:=by
 subst e
 exact⟨⟨c.hh.same (same_new n _),same_new n _ _ _ c.lat,c.kp.trans (Kp.of (same_new n _) c.hh),c.n0,c.np,c.nc⟩,upd_same,c.hh.ne n,(ne_of_none c.lat n).symm⟩
def sp__law_draw (K:PySem.W.Frag):Sp:=fun vs H Q _=>∃(p:Addr) (N:Nat) (n:Int),vs=[.ref p,.int n]∧Hand H p N∧N<2^60∧0<n∧n<2^100 ∧
 ∀(r:Int) (H':Hp),0≤r→r<n→Hand H' p (N+1)→Kp H H' p→Q (.int r) H'
def sp__law_far (K:PySem.W.Frag):Sp:=fun vs H Q _=>∃(p:Addr) (N:Nat) (n:Int),vs=[.ref p,.int n]∧Hand H p N∧N+10<2^60∧0<n∧n<2^100 ∧
 ∀(r:Int) (H':Hp),0≤r→r<n→Hand H' p (N+7)→Kp H H' p→Q (.int r) H'
def sp__law_power (K:PySem.W.Frag):Sp:=fun vs H Q _=>∃(m:Nat),vs=[.int m]∧m≤1000∧Q (.int (2^m)) H
def sp__law_open (K:PySem.W.Frag):Sp:=fun vs H Q _=>∃(a:Addr) (ns:List Int) (pl:Int),vs=[.ref a,.int pl]∧SqL K H a (ns.map V.int)∧ns.length≤63∧0≤pl∧pl≤1000 ∧
 ∀(p:Addr) (H':Hp),H p=none→Same H H'→Hand H' p 1100000→Q (.ref p) H'
def sp__law_key (K:PySem.W.Frag):Sp:=fun vs H Q _=>∃(p:Addr) (N:Nat),vs=[.ref p]∧Hand H p N∧N+30<2^60 ∧
 ∀(r:Int) (H':Hp),0≤r→r<2^60→Hand H' p (N+20)→Kp H H' p→Q (.int r) H'
def sp_law (K:PySem.W.Frag):Sp:=fun vs H Q _=>∃(a:Addr) (ns:List Int),vs=[.ref a]∧SqL K H a (ns.map V.int)∧ns.length≤63∧∀H',Q (.bl true) H'
theorem sub_len:∀{L K:List Int},L.Nodup→(∀x∈L,x∈K)→L.length≤K.length
 | [],_,_,_=>Nat.zero_le _
 | a::L,K,hn,hs=>by
  rw[List.nodup_cons]at hn
  have ha:=hs a List.mem_cons_self
  have ih:=sub_len (L:=L) (K:=K.erase a) hn.2 fun x hx=>by
   have:x≠a:=fun e=>hn.1 (e ▸ hx)
   exact(List.mem_erase_of_ne this).mpr (hs x (List.mem_cons_of_mem _ hx))
  rw[List.length_erase_of_mem ha]at ih
  have:=List.length_pos_of_mem ha
  rw[List.length_cons];omega
theorem free_key {ks:List Int}(hl:ks.length<1000) (v:Int):∃m:Nat,(v+m)%1152921504606846976∉ks:=by
 by_cases c:∃m:Nat,(v+m)%1152921504606846976∉ks
 ·exact c
 ·have all:∀m:Nat,(v+m)%1152921504606846976∈ks:=fun m=>Classical.not_not.mp fun z=>c ⟨m,z⟩
  have hn:((List.range (ks.length+1)).map fun(j:Nat)=>(v+j)%1152921504606846976).Nodup:=by
   rw[List.nodup_iff_pairwise_ne,List.pairwise_map]
   refine List.Pairwise.imp_of_mem ?_ List.nodup_range
   intro a b ha hb hab e
   have h1:=List.mem_range.mp ha
   have h2:=List.mem_range.mp hb
   omega
  have:=sub_len hn (fun x hx=>by
   obtain⟨j,_,rfl⟩:=List.mem_map.mp hx
   exact all j)
  rw[List.length_map,List.length_range]at this
  omega
def sp__law_keys (K:PySem.W.Frag):Sp:=fun vs H Q _=>∃(p:Addr) (N:Nat) (n:Int),vs=[.ref p,.int n]∧Hand H p N∧N+5000<2^60∧0≤n∧n≤125 ∧
 ∀(l:Addr) (ns:List Int) (H':Hp),H l=none→H' l=some (.lst (ns.map V.int))→ns.Nodup→(ns.length:Int)=n→(∀k∈ns,0≤k∧k<1152921504606846976)→Hand H' p (N+3000)→Kp H H' p→Q (.ref l) H'
def lg (R:Int):Nat:=R.toNat.log2
theorem lg_le {R:Int}(h:1≤R):(2:Int)^lg R≤R:=by
 have h1:R.toNat≠0:=by omega
 have h2:=Nat.log2_self_le h1
 rw[pow2_cast]
 unfold lg
 omega
theorem lg_lt {R:Int}(h:1≤R):R <(2:Int)^(lg R+1):=by
 have h1:R.toNat≠0:=by omega
 have h2:=(Nat.log2_lt h1).mp (Nat.lt_succ_self R.toNat.log2)
 rw[pow2_cast]
 unfold lg
 have h3:R.toNat<2^(R.toNat.log2+1):=h2
 omega
theorem lg_60 {R:Int}(h:1≤R) (h2:R≤2^60):lg R≤60:=by
 have h1:R.toNat≠0:=by omega
 have h3:R.toNat.log2<61:=(Nat.log2_lt h1).mpr (by omega)
 unfold lg
 omega
theorem lg_eq {R:Int}{m:Nat}(h1:(2:Int)^m≤R) (h2:R <(2:Int)^(m+1)):lg R=m:=by
 have p:=pow2_pos m
 have h0:R.toNat≠0:=by omega
 rw[pow2_cast]at h1 h2
 unfold lg
 have a1:R.toNat.log2<m+1:=(Nat.log2_lt h0).mpr (by omega)
 have a2:¬ R.toNat.log2<m:=fun z=>by
  have:=(Nat.log2_lt h0).mp z
  omega
 omega
theorem bits_eq {R:Int}(h:1≤R):((Builtin.Int.intBits R:Nat):Int)-1 =(lg R:Int):=by
 unfold Builtin.Int.intBits lg
 have h0:(R == 0)=false:=by
  rw[beq_eq_false_iff_ne];omega
 rw[h0]
 have e:R.natAbs=R.toNat:=by omega
 rw[e]
 simp
def roomV (k R:Int):Int:=if R-2^lg R≤k%2^lg R then k%2^lg R else k%2^(lg R+1)
theorem roomV_lt {k R:Int}(h:1≤R):0≤roomV k R∧roomV k R<R:=by
 have p:=pow2_pos (lg R)
 have a:=lg_le h
 have b:=lg_lt h
 rw[Int.pow_succ]at b
 unfold roomV
 rw[Int.pow_succ]
 generalize (2:Int)^lg R=w at p a b ⊢
 have m0:=Int.emod_nonneg k (show w≠0 by omega)
 have m1:=Int.emod_lt_of_pos k p
 have d0:=Int.emod_nonneg k (show w*2≠0 by omega)
 have d1:=Int.emod_lt_of_pos k (show(0:Int)<w*2 by omega)
 have e:k%(w*2)%w=k%w:=Int.emod_emod_of_dvd k ⟨2,rfl⟩
 split
 ·omega
 ·rename_i hn
  refine⟨d0,?_⟩
  by_cases c:k%(w*2)<w
  ·rw[Int.emod_eq_of_lt d0 c]at e;omega
  ·have e2:k%(w*2)%w=k%(w*2)-w:=by
    have:k%(w*2) =(k%(w*2)-w)+w:=by omega
    rw[this,Int.add_emod_right,Int.emod_eq_of_lt (by omega) (by omega)]
    omega
   omega
def sp_last_bits (K:PySem.W.Frag):Sp:=fun vs H Q _=>∃(k:Int) (m:Nat),vs=[.int k,.int m]∧m≤100∧Q (.int (k%2^m)) H
def sp_level (K:PySem.W.Frag):Sp:=fun vs H Q _=>∃(R:Int),vs=[.int R]∧1≤R∧Q (.int (lg R)) H
def sp_turn (K:PySem.W.Frag):Sp:=fun vs H Q _=>∃(R:Int),vs=[.int R]∧1≤R∧R≤2^60∧Q (.int (R-2^lg R)) H
def bitsV (r R:Int):Nat:=if R-2^lg R≤r∧r<2^lg R then lg R else lg R+1
theorem bitsV_room {k R:Int}:k%2^bitsV (k%2^lg R) R=roomV k R:=by
 have lt:=Int.emod_lt_of_pos k (pow2_pos (lg R))
 unfold bitsV roomV
 by_cases c:R-2^lg R≤k%2^lg R
 ·rw[if_pos ⟨c,lt⟩,if_pos c]
 ·rw[if_neg (fun z=>c z.1),if_neg c]
def sp_bits_for (K:PySem.W.Frag):Sp:=fun vs H Q _=>∃(r R:Int),vs=[.int r,.int R]∧1≤R∧R≤2^60∧Q (.int (bitsV r R)) H
def sp_room_of (K:PySem.W.Frag):Sp:=fun vs H Q _=>∃(k R:Int),vs=[.int k,.int R]∧1≤R∧R≤2^60∧Q (.int (roomV k R)) H
theorem mod_two (k w:Int) (p:0<w):k%(w*2)=k%w+w*(k / w%2):=by
 have d1:=Int.emod_add_mul_ediv k w
 have d2:=Int.emod_add_mul_ediv (k / w) 2
 have r0:=Int.emod_nonneg k (show w≠0 by omega)
 have r1:=Int.emod_lt_of_pos k p
 have b:k / w%2=0∨k / w%2=1:=by omega
 have e:k =(k%w+w*(k / w%2))+(w*2)*(k / w / 2):=by
  have e1:w*2*(k / w / 2)=w*(2*(k / w / 2)):=by rw[Int.mul_assoc]
  rw[e1]
  have e2:w*(k / w%2)+w*(2*(k / w / 2))=w*(k / w):=by rw[← Int.mul_add,d2]
  omega
 conv=>lhs;rw[e]
 rw[Int.add_mul_emod_self_left]
 refine Int.emod_eq_of_lt ?_ ?_
 ·rcases b with b|b <;> rw[b] <;> omega
 ·rcases b with b|b <;> rw[b] <;> omega
theorem room_step (k:Int) {R:Int}(h:1≤R):roomV k (R+1)=if roomV k R=R-2^lg R∧k / 2^lg R%2=1 then R else roomV k R:=by
 have p:=pow2_pos (lg R)
 have a:=lg_le h
 have b:=lg_lt h
 rw[Int.pow_succ]at b
 have mt:=mod_two k (2^lg R) p
 have r0:=Int.emod_nonneg k (show(2:Int)^lg R≠0 by omega)
 have r1:=Int.emod_lt_of_pos k p
 have bb:k / 2^lg R%2=0∨k / 2^lg R%2=1:=by omega
 have hR:roomV k R=if R-2^lg R≤k%2^lg R then k%2^lg R else k%(2^lg R*2):=by unfold roomV;rw[Int.pow_succ]
 have hR1:roomV k (R+1)=if R+1-2^lg R≤k%2^lg R then k%2^lg R else k%(2^lg R*2):=by
  by_cases c:R+1<2^lg R*2
  ·have e:lg (R+1)=lg R:=lg_eq (by omega) (by rw[Int.pow_succ];exact c)
   unfold roomV
   rw[e,Int.pow_succ]
  ·have e2:R+1=2^lg R*2:=by omega
   have e:lg (R+1)=lg R+1:=lg_eq (by rw[Int.pow_succ];omega) (by rw[Int.pow_succ,Int.pow_succ];omega)
   unfold roomV
   rw[e,Int.pow_succ,if_pos (by rw[e2];have:=Int.emod_nonneg k (show(2:Int)^lg R*2≠0 by omega);omega),if_neg (by omega)]
 rw[hR1,hR,mt]
 generalize (2:Int)^lg R=w at *
 generalize k%w=low at *
 generalize k / w%2=bit at *
 rcases bb with rfl|rfl
 ·rw[Int.mul_zero,Int.add_zero]
  simp
 ·rw[Int.mul_one]
  by_cases c1:R-w≤low
  ·rw[if_pos c1]
   by_cases c2:R+1-w≤low
   ·rw[if_pos c2,if_neg (by omega)]
   ·rw[if_neg c2,if_pos (by omega)]
    omega
  ·rw[if_neg c1,if_neg (by omega),if_neg (by omega)]
def sp_split_of (K:PySem.W.Frag):Sp:=fun vs H Q _=>∃(R:Int),vs=[.int R]∧1≤R∧R≤2^60∧∀p,H p=none→Q (.ref p) (upd H p (.tup [.int (R-2^lg R),.int R]))
def sp_joined_of (K:PySem.W.Frag):Sp:=fun vs H Q _=>∃(R:Int),vs=[.int R]∧1≤R∧R≤2^60∧(R=1→Q .non H)∧(R≠1→∀p,H p=none→Q (.ref p) (upd H p (.tup [.int (R-1),.int (R-1-2^lg (R-1))])))
theorem up_div {m w g:Int}(hw:1≤w) (hm:0≤m) (hg:g=max 1 ((m+w-1) / w)):1≤g∧m≤w*g∧(g=1∨w*(g-1)<m):=by
 have h1:=Int.emod_add_mul_ediv (m+w-1) w
 have h2:=Int.emod_nonneg (m+w-1) (show w≠0 by omega)
 have h3:=Int.emod_lt_of_pos (m+w-1) (show 0<w by omega)
 generalize (m+w-1) / w=q at h1 hg
 generalize (m+w-1)%w=r at h1 h2 h3
 have e:w*(g-1)=w*g-w:=by rw[Int.mul_sub,Int.mul_one]
 refine⟨by omega,?_,?_⟩
 ·by_cases c:1≤q
  ·have:g=q:=by omega
   rw[this];omega
  ·have:g=1:=by omega
   rw[this,Int.mul_one]
   have:w*q≤0:=Int.mul_nonpos_of_nonneg_of_nonpos (by omega) (by omega)
   omega
 ·by_cases c:2≤q
  ·right
   have:g=q:=by omega
   rw[e,this];omega
  ·left;omega
def rfor (m w:Int):Int:=max 1 ((m+w-1) / w)
theorem cut_mid {xs:List V}{a b:Nat}(h:a≤b):cutV xs (some (a:Int)) (some (b:Int)) =(xs.drop a).take (b-a):=by
 unfold cutV
 rw[HT.sIx_nat,HT.sIx_nat]
 by_cases c:a≤xs.length
 ·rw[Nat.min_eq_left c]
  by_cases d:b≤xs.length
  ·rw[Nat.min_eq_left d]
  ·rw[Nat.min_eq_right (by omega),List.take_of_length_le (by rw[List.length_drop];omega),List.take_of_length_le (by rw[List.length_drop];omega)]
 ·rw[List.drop_eq_nil_of_le (by omega),List.drop_eq_nil_of_le (by omega)]
  simp
def Ls (H:Hp):List Addr→List (List Int)→Prop
 | [],[]=>True
 | a::as,r::rs=>H a=some (.lst (r.map V.int))∧Ls H as rs
 | _,_=>False
def sp_rows_for (K:PySem.W.Frag):Sp:=fun vs H Q _=>∃(m w:Int),vs=[.int m,.int w]∧1≤w∧w≤8∧Q (.int (rfor m w)) H
def rowsNV (ms:List V) (w n:Nat):List (List V):=(List.range n).map fun i=>(ms.drop (i*w)).take w
theorem rowsNV_succ (ms:List V) (w n:Nat):rowsNV ms w (n+1)=rowsNV ms w n ++ [(ms.drop (n*w)).take w]:=by
 unfold rowsNV;rw[List.range_succ,List.map_append];rfl
theorem rowsNV_len (ms:List V) (w n:Nat):(rowsNV ms w n).length=n:=by unfold rowsNV;rw[List.length_map,List.length_range]
def rowsVV (ms:List V) (w:Nat):List (List V):=rowsNV ms w (rfor ms.length w).toNat
def RwsN (H0 H:Hp) (l:Addr) (X:List (List V)):Prop:=∃as:List Addr,H l=some (.lst (as.map V.ref))∧as.length=X.length∧(∀(i:Nat) (a:Addr) (es:List V),as[i]? = some a→X[i]? = some es→H a=some (.lst es))∧as.Nodup∧∀a∈as,H0 a=none∧a≠l
def sp_cut_rows (K:PySem.W.Frag):Sp:=fun vs H Q _=>∃(a:Addr) (ms:List V) (w:Nat),vs=[.ref a,.int w]∧H a=some (.lst ms)∧ms.length≤200∧1≤w∧w≤8 ∧
 ∀l H',H l=none→RwsN H H' l (rowsVV ms w)→Same H H'→Q (.ref l) H'
theorem refs_get {as:List Addr}{i:Nat}{x:V}(hx:(as.map V.ref)[i]? = some x):∃a,as[i]? = some a∧x = .ref a:=by
 rw[List.getElem?_map]at hx
 cases e:as[i]? with
 | none=>rw[e]at hx;cases hx
 | some a=>rw[e]at hx;exact⟨a,rfl,(Option.some.inj hx).symm⟩
theorem ints_get {ns:List Int}{i:Nat}{x:V}(hx:(ns.map V.int)[i]? = some x):∃z,ns[i]? = some z∧x = .int z:=by
 rw[List.getElem?_map]at hx
 cases e:ns[i]? with
 | none=>rw[e]at hx;cases hx
 | some a=>rw[e]at hx;exact⟨a,rfl,(Option.some.inj hx).symm⟩
theorem drop_get {α:Type}{xs:List α}{i:Nat}{x:α}(h:xs[i]? = some x):xs.drop i=x::xs.drop (i+1):=by
 obtain⟨hi,e⟩:=List.getElem?_eq_some_iff.mp h
 rw[List.drop_eq_getElem_cons hi,e]
theorem take_get {α:Type}{xs:List α}{i:Nat}{x:α}(h:xs[i]? = some x):xs.take (i+1)=xs.take i ++ [x]:=by
 obtain⟨hi,e⟩:=List.getElem?_eq_some_iff.mp h
 rw[List.take_succ_eq_append_getElem hi,e]
theorem at_ref' {as:List Addr}{i:Nat}{a:Addr}(h:as[i]? = some a):atI (as.map V.ref) (i:Int)=some (.ref a) :=
 atI_nat (by rw[List.getElem?_map,h];rfl)
theorem at_zero {a:V}{r:List V}:atI (a::r) 0=some a:=atI_nat (j:=0) rfl
def RL (H:Hp) (l:Addr) (rs:List (List Int)):Prop:=∃as:List Addr,H l=some (.lst (as.map V.ref))∧Ls H as rs
theorem ints_ne {H:Hp}{p a:Addr}{N:Nat}{ns:List Int}(hh:Hand H p N) (h:H a=some (.lst (ns.map V.int))):a≠p:=by
 obtain⟨l,d,c,ms,h1,h2,_⟩:=hh.ex
 intro e
 rw[e,h1]at h
 have q:=congrArg (fun x=>x[2]?) (HO.lst.inj (Option.some.inj h))
 rw[List.getElem?_map]at q
 cases z:ns[2]? with
 | none=>rw[z]at q;cases q
 | some v=>rw[z]at q;cases q
theorem refs_ne {H:Hp}{p a:Addr}{N:Nat}{as:List Addr}(hh:Hand H p N) (h:H a=some (.lst (as.map V.ref))):a≠p:=by
 obtain⟨l,d,c,ms,h1,h2,_⟩:=hh.ex
 intro e
 rw[e,h1]at h
 have q:=congrArg (fun x=>x[0]?) (HO.lst.inj (Option.some.inj h))
 rw[List.getElem?_map]at q
 cases z:as[0]? with
 | none=>rw[z]at q;cases q
 | some v=>rw[z]at q;cases q
theorem le_lt {r:List Int}(h:r.Pairwise (· ≤ ·)) (n:r.Nodup):r.Pairwise (· < ·):=by
 induction r with
 | nil=>exact .nil
 | cons a r ih =>
  rw[List.pairwise_cons]at h
  rw[List.nodup_cons]at n
  rw[List.pairwise_cons]
  exact⟨fun b hb=>by
   have h1:=h.1 b hb
   have h2:a≠b:=fun e=>n.1 (e ▸ hb)
   omega,ih h.2 n.2⟩
def stopsB (k:Int) (r:List Int):Bool:=match r.getLast? with
 | none=>false
 | some x=>decide (k≤x)
def lookV (k:Int):List (List Int)→Bool×Int
 | []=>(false,0)
 | r::rs=>if stopsB k r=true then(decide (k∈r),1) else((lookV k rs).1,(lookV k rs).2+1)
def sp_looked (K:PySem.W.Frag):Sp:=fun vs H Q _=>∃(l:Addr) (k:Int) (rs:List (List Int)),vs=[.ref l,.int k]∧RL H l rs∧rs.length≤500 ∧
 ∀t H',H t=none→H' t=some (.tup [.bl (lookV k rs).1,.int (lookV k rs).2])→Same H H'→Q (.ref t) H'
def spreadV (ms:List Int) (R:Nat):List (List Int):=(List.range R).map fun(r:Nat)=>ms.filter fun k=>decide (roomV k R =(r:Int))
def LN (H0 H:Hp) (l:Addr) (rs:List (List Int)):Prop:=∃as:List Addr,H l=some (.lst (as.map V.ref))∧Ls H as rs∧as.Nodup∧∀a∈as,H0 a=none∧a≠l
def sp_spread (K:PySem.W.Frag):Sp:=fun vs H Q _=>∃(a:Addr) (ns:List Int) (R:Nat),vs=[.ref a,.int R]∧H a=some (.lst (ns.map V.int))∧ns.length≤63∧1≤R∧R≤200 ∧
 ∀ms l H',ms.Perm ns→ms.Pairwise (· ≤ ·)→H l=none→LN H H' l (spreadV ms R)→Same H H'→Q (.ref l) H'
def sp_counts (K:PySem.W.Frag):Sp:=fun vs H Q _=>∃(a:Addr) (ns:List Int) (R:Nat),vs=[.ref a,.int R]∧H a=some (.lst (ns.map V.int))∧ns.length≤63∧1≤R∧R≤200 ∧
 ∀ms l H',ms.Perm ns→ms.Pairwise (· ≤ ·)→H l=none→H' l=some (.lst (((spreadV ms R).map fun r=>(r.length:Int)).map V.int))→Same H H'→Q (.ref l) H'
def Rws (H:Hp) (l:Addr) (X:List (List V)):Prop:=∃as:List Addr,H l=some (.lst (as.map V.ref))∧as.length=X.length∧∀(i:Nat) (a:Addr) (es:List V),as[i]? = some a→X[i]? = some es→H a=some (.lst es)
theorem Rws.same {H H':Hp}{l:Addr}{X:List (List V)}(h:Rws H l X) (s:Same H H'):Rws H' l X:=by
 obtain⟨as,h1,h2,h3⟩:=h
 exact⟨as,s _ _ h1,h2,fun i a es e1 e2=>s _ _ (h3 i a es e1 e2)⟩
def sp_entries_in (K:PySem.W.Frag):Sp:=fun vs H Q _=>∃(l:Addr) (X:List (List V)),vs=[.ref l]∧Rws H l X∧X.flatten.length≤100000 ∧
 ∀(D:Addr) (H':Hp),H D=none→H' D=some (.lst X.flatten)→Same H H'→Q (.ref D) H'
def Rms (H:Hp) (l:Addr) (Y:List (List (List V))):Prop:=∃as:List Addr,H l=some (.lst (as.map V.ref))∧as.length=Y.length∧∀(i:Nat) (a:Addr) (X:List (List V)),as[i]? = some a→Y[i]? = some X→Rws H a X
def allV (Y:List (List (List V))):List V:=(Y.map List.flatten).flatten
def sp_all_entries (K:PySem.W.Frag):Sp:=fun vs H Q _=>∃(t l:Addr) (w r:V) (Y:List (List (List V))),vs=[.ref t]∧H t=some (.tup [w,r,.ref l])∧Rms H l Y∧(allV Y).length≤100000 ∧
 ∀(D:Addr) (H':Hp),H D=none→H' D=some (.lst (allV Y))→Same H H'→Q (.ref D) H'
theorem flat_take {X:List (List V)}{i:Nat}{es:List V}(h:X[i]? = some es):(X.take (i+1)).flatten =(X.take i).flatten++es:=by
 rw[List.take_add_one,h];simp
theorem flat_len {X:List (List V)}{i:Nat}{es:List V}(h:X[i]? = some es):(X.take i).flatten.length+es.length≤X.flatten.length:=by
 have e:=flat_take h
 have:(X.take (i+1)).flatten.length≤X.flatten.length:=by
  conv=>rhs;rw[← List.take_append_drop (i+1) X,List.flatten_append,List.length_append]
  omega
 rw[e,List.length_append]at this
 exact this
def kf (e:Int×V):Key×V:=((Sum.inl e.1:Key),e.2)
def putI (qs:List (Int×V)) (k:Int) (v:V):List (Int×V):=if (qs.any fun e=>decide (e.1=k))=true then qs.map (fun e=>if e.1=k then(e.1,v) else e) else qs ++ [(k,v)]
def mergeI (qs ps:List (Int×V)):List (Int×V):=ps.foldl (fun acc e=>putI acc e.1 e.2) qs
def valI (qs:List (Int×V)) (k:Int):V:=((qs.find? fun e=>decide (e.1=k)).map (·.2)).getD .non
def OwnA (H:Hp) (val:Int→V) (w:Nat) (r:Addr) (bs:List Addr) (ks:List Int):Prop:=∃ts:List Addr,ts.length=ks.length∧(∀(i:Nat) (t:Addr) (k:Int),ts[i]? = some t→ks[i]? = some k→H t=some (.tup [.int k,val k]))∧H r=some (.lst (bs.map V.ref))∧bs.length =(rowsVV (ts.map V.ref) w).length∧∀(i:Nat) (a:Addr) (es:List V),bs[i]? = some a→(rowsVV (ts.map V.ref) w)[i]? = some es→H a=some (.lst es)
def plc (rs:List Addr) (bss:List (List Addr)):List Addr:=(List.zipWith (fun r bs=>r::bs) rs bss).flatten
def YardN (H0 H:Hp) (val:Int→V) (w:Nat) (l:Addr) (owns:List (List Int)):Prop:=∃(rs:List Addr) (bss:List (List Addr)),H l=some (.lst (rs.map V.ref))∧rs.length=owns.length∧bss.length=owns.length∧(∀(j:Nat) (r:Addr) (bs:List Addr) (own:List Int),rs[j]? = some r→bss[j]? = some bs→owns[j]? = some own→OwnA H val w r bs own)∧(l::plc rs bss).Nodup∧∀b∈l::plc rs bss,H0 b=none
def hid (D:Addr) (H:Hp):Hp:=fun b=>if b=D then none else H b
theorem hid_ne {D b:Addr}{H:Hp}(n:b≠D):hid D H b=H b:=if_neg n
theorem hid_upd {D:Addr}{H:Hp}{o:HO}:hid D (L2.upd H D o)=hid D H:=by
 funext b
 unfold hid
 by_cases c:b=D
 ·rw[if_pos c,if_pos c]
 ·rw[if_neg c,if_neg c,upd_ne c]
theorem hid_same {D:Addr}{H H':Hp}(s:Same H H'):Same (hid D H) (hid D H'):=fun b o e=>by
 unfold hid at e ⊢
 by_cases c:b=D
 ·rw[if_pos c]at e;cases e
 ·rw[if_neg c]at e ⊢;exact s _ _ e
theorem hid_le {D:Addr}{H:Hp}:Same (hid D H) H:=fun b o e=>by
 unfold hid at e
 by_cases c:b=D
 ·rw[if_pos c]at e;cases e
 ·rw[if_neg c]at e;exact e
def sp_yard_of (K:PySem.W.Frag):Sp:=fun vs H Q _=>∃(a:Addr) (ts:List Addr) (ps:List (Int×V)) (w R:Nat),vs=[.int w,.int R,.ref a]∧H a=some (.lst (ts.map V.ref))∧ts.length=ps.length∧ps.length≤200∧(∀(i:Nat) (t:Addr) (p:Int×V),ts[i]? = some t→ps[i]? = some p→H t=some (.tup [.int p.1,p.2]))∧1≤w∧w≤8∧1≤R∧R≤200 ∧
 ∀(ms:List Int) (t h:Addr) (H':Hp),ms.Perm ((mergeI [] ps).map (·.1))→ms.Pairwise (· ≤ ·)→H' t=some (.tup [.int w,.int R,.ref h])→YardN H H' (valI (mergeI [] ps)) w h (spreadV ms R)→Same H H'→Q (.ref t) H'
def P1 {α:Type}(p:Addr→α→Prop) (as:List Addr) (xs:List α):Prop:=as.length=xs.length∧∀(i:Nat) (a:Addr) (x:α),as[i]? = some a→xs[i]? = some x→p a x
section
variable {α:Type}{p p':Addr→α→Prop}{as bs:List Addr}{xs ys:List α}{a b:Addr}{x y:α}{i:Nat}
theorem P1.imp (f:∀a x,p a x→p' a x) (h:P1 p as xs):P1 p' as xs:=⟨h.1,fun i a x e1 e2=>f a x (h.2 i a x e1 e2)⟩
theorem P1.imp' (f:∀a x,a∈as→x∈xs→p a x→p' a x) (h:P1 p as xs):P1 p' as xs:=⟨h.1,fun i a x e1 e2=>f a x (List.mem_of_getElem? e1) (List.mem_of_getElem? e2) (h.2 i a x e1 e2)⟩
theorem P1.nil:P1 p [] []:=⟨rfl,fun i a x e=>by simp at e⟩
theorem P1.get (h:P1 p as xs) (e:as[i]? = some a):∃x,xs[i]? = some x∧p a x:=by
 have il:=(List.getElem?_eq_some_iff.mp e).1
 rw[h.1]at il
 exact⟨_,List.getElem?_eq_getElem il,h.2 i a _ e (List.getElem?_eq_getElem il)⟩
theorem P1.at' (h:P1 p as xs) (e:xs[i]? = some x):∃a,as[i]? = some a∧p a x:=by
 have il:=(List.getElem?_eq_some_iff.mp e).1
 rw[← h.1]at il
 exact⟨_,List.getElem?_eq_getElem il,h.2 i _ x (List.getElem?_eq_getElem il) e⟩
theorem P1.app (h:P1 p as xs) (h':P1 p bs ys):P1 p (as++bs) (xs++ys):=by
 refine⟨by rw[List.length_append,List.length_append,h.1,h'.1],fun i a x e1 e2=>?_⟩
 have hl:=h.1
 by_cases z:i<as.length
 ·rw[List.getElem?_append_left z]at e1
  rw[List.getElem?_append_left (by omega)]at e2
  exact h.2 i a x e1 e2
 ·rw[List.getElem?_append_right (by omega)]at e1
  rw[List.getElem?_append_right (by omega),← hl]at e2
  exact h'.2 _ a x e1 e2
theorem P1.one (hb:p b y):P1 p [b] [y]:=by
 refine⟨rfl,fun i a x e1 e2=>?_⟩
 cases i with
 | zero=>cases e1;cases e2;exact hb
 | succ i=>simp at e1
theorem P1.snoc (h:P1 p as xs) (hb:p b y):P1 p (as ++ [b]) (xs ++ [y]):=h.app (P1.one hb)
theorem P1.set (h:P1 p as xs) (hb:p b y):P1 p (as.set i b) (xs.set i y):=by
 refine⟨by rw[List.length_set,List.length_set,h.1],fun j a x e1 e2=>?_⟩
 have hl:=h.1
 rw[List.getElem?_set]at e1 e2
 by_cases z:i=j
 ·rw[if_pos z]at e1 e2
  subst z
  by_cases c:i<as.length
  ·rw[if_pos c]at e1
   rw[if_pos (by omega)]at e2
   cases e1;cases e2;exact hb
  ·rw[if_neg c]at e1;cases e1
 ·rw[if_neg z]at e1 e2
  exact h.2 j a x e1 e2
theorem P1.setx (h:P1 p as xs) (n:as.Nodup) (e:as[i]? = some a) (f:∀b x,b∈as→b≠a→p b x→p' b x) (hy:p' a y):P1 p' as (xs.set i y):=by
 refine⟨by rw[List.length_set,h.1],fun j b x e1 e2=>?_⟩
 rw[List.getElem?_set]at e2
 by_cases z:i=j
 ·rw[if_pos z]at e2
  subst z
  rw[e]at e1
  cases e1
  split at e2
  ·cases e2;exact hy
  ·cases e2
 ·rw[if_neg z]at e2
  refine f b x (List.mem_of_getElem? e1) (fun w=>z ?_) (h.2 j b x e1 e2)
  subst w
  exact(List.getElem?_inj (List.getElem?_eq_some_iff.mp e).1 n).mp (e.trans e1.symm)
theorem P1.take (h:P1 p as xs) (n:Nat):P1 p (as.take n) (xs.take n):=by
 refine⟨by rw[List.length_take,List.length_take,h.1],fun i a x e1 e2=>?_⟩
 rw[List.getElem?_take]at e1 e2
 split at e1
 ·rename_i c
  rw[if_pos c]at e2
  exact h.2 i a x e1 e2
 ·cases e1
theorem P1.dropLast (h:P1 p as xs):P1 p as.dropLast xs.dropLast:=by
 rw[List.dropLast_eq_take,List.dropLast_eq_take,← h.1]
 exact h.take _
theorem P1.tail (h:P1 p (a::as) (x::xs)):p a x∧P1 p as xs:=by
 refine⟨h.2 0 a x rfl rfl,by have:=h.1;simpa using this,fun i b y e1 e2=>h.2 (i+1) b y (by simpa using e1) (by simpa using e2)⟩
end
def GD (K:PySem.W.Frag) (H:Hp) (n:Nat) (v:V) (d:PyData):Prop:=DV K H v d∧PyData.canLay0 d=true∧PyData.depth d≤n
def GDs (K:PySem.W.Frag) (H:Hp) (n:Nat) (vs:List V) (ds:List PyData):Prop:=DVs K H vs ds∧PyData.canLayAll0 ds=true∧PyData.depthAll ds≤n
section
variable {K:PySem.W.Frag}{H:Hp}{n:Nat}{v:V}{d:PyData}{vs:List V}{ds:List PyData}
theorem GDs.nil:GDs K H n [] []:=⟨.nil,rfl,by simp[PyData.depthAll]⟩
theorem GDs.cons (h:GD K H n v d) (t:GDs K H n vs ds):GDs K H n (v::vs) (d::ds):=by
 refine⟨.cons h.1 t.1,?_,?_⟩
 ·rw[PyData.canLayAll0,h.2.1,t.2.1];rfl
 ·rw[PyData.depthAll];exact Nat.max_le.mpr ⟨h.2.2,t.2.2⟩
theorem GD.mono {m:Nat}(h:GD K H n v d) (l:n≤m):GD K H m v d:=⟨h.1,h.2.1,Nat.le_trans h.2.2 l⟩
theorem GD.lst {a:Addr}(h:H a=some (.lst vs)) (g:GDs K H n vs ds):GD K H (n+1) (.ref a) (.list ds) :=
 ⟨.lst (SqL.of h) g.1,by rw[PyData.canLay0];exact g.2.1,by rw[PyData.depth];have:=g.2.2;omega⟩
theorem GD.tup {a:Addr}(h:H a=some (.tup vs)) (g:GDs K H n vs ds):GD K H (n+1) (.ref a) (.tuple ds) :=
 ⟨.tup (SqT.of h) g.1,by rw[PyData.canLay0];exact g.2.1,by rw[PyData.depth];have:=g.2.2;omega⟩
theorem GD.int (i:Int):GD K H n (.int i) (.int i):=⟨.int i,rfl,by simp[PyData.depth]⟩
theorem GD.str {z:Str}(h:PyData.strOk z=true):GD K H n (.str z) (.str z):=⟨.str z,by rw[PyData.canLay0];exact h,by simp[PyData.depth]⟩
theorem GD.shaped (h:GD K H n v d) (l:n≤64):SeqAt.shaped d=true:=by
 have:=h.2.2
 simp[SeqAt.shaped,h.2.1];omega
theorem GD.refl (h:GD K H n v d):PyData.eqv d d=true:=SeqAt.eqv_refl d h.2.1
theorem gds_map {α:Type}{p:Addr→α→Prop}{f:α→PyData}:∀{as:List Addr}{xs:List α},P1 p as xs→(∀a x,x∈xs→p a x→GD K H n (.ref a) (f x))→GDs K H n (as.map V.ref) (xs.map f)
 | [],[],_,_=>GDs.nil
 | [],_::_,h,_=>by cases h.1
 | _::_,[],h,_=>by cases h.1
 | a::as,x::xs,h,g=>GDs.cons (g a x List.mem_cons_self h.tail.1) (gds_map h.tail.2 fun a x m=>g a x (List.mem_cons_of_mem _ m))
end
def En (H:Hp) (v:V):Prop:=∃t k z,v = .ref t∧H t=some (.tup [.int k,.str z])∧PyData.strOk z=true∧0≤k∧k<1152921504606846976∧z.length≤100
def dE (H:Hp) (v:V):PyData:=match v with
 | .ref t=>(match H t with
  | some (.tup [.int k,.str z])=>.tuple [.int k,.str z]
  | _=>.none)
 | _=>.none
theorem En.gd {K:PySem.W.Frag}{H:Hp}{v:V}(h:En H v):GD K H 1 v (dE H v):=by
 obtain⟨t,k,z,rfl,h1,h2⟩:=h
 have e:dE H (.ref t) = .tuple [.int k,.str z]:=by
  show(match H t with|some (.tup [.int k,.str z])=>PyData.tuple [.int k,.str z] | _=>.none)=_
  rw[h1]
 rw[e]
 exact GD.tup h1 (.cons (.int _) (.cons (.str h2.1) .nil))
theorem En.keep {H H':Hp}{v:V}(kt:∀t xs,H t=some (.tup xs)→H' t=some (.tup xs)) (h:En H v):En H' v:=by
 obtain⟨t,k,z,rfl,h1,h2⟩:=h
 exact⟨t,k,z,rfl,kt _ _ h1,h2⟩
theorem gds_en {K:PySem.W.Frag}{H:Hp}:∀{es:List V},(∀v∈es,En H v)→GDs K H 1 es (es.map (dE H))
 | [],_=>GDs.nil
 | v::es,h=>GDs.cons (h v List.mem_cons_self).gd (gds_en fun v m=>h v (List.mem_cons_of_mem _ m))
def R1 (S:Addr→Prop) (H:Hp) (a:Addr) (es:List V):Prop:=S a∧H a=some (.lst es)
def R2 (S:Addr→Prop) (H:Hp) (b:Addr) (rows:List (List V)):Prop:=S b∧∃as:List Addr,H b=some (.lst (as.map V.ref))∧P1 (R1 S H) as rows
def R3 (S:Addr→Prop) (H:Hp) (h:Addr) (X:List (List (List V))):Prop:=∃bs:List Addr,H h=some (.lst (bs.map V.ref))∧P1 (R2 S H) bs X
section
variable {S S':Addr→Prop}{H H':Hp}{a b h:Addr}{es:List V}{rows:List (List V)}{X:List (List (List V))}
theorem R1.keep (kl:∀a o,S a→H a=some o→H' a=some o) (r:R1 S H a es):R1 S H' a es:=⟨r.1,kl _ _ r.1 r.2⟩
theorem R2.keep (kl:∀a o,S a→H a=some o→H' a=some o) (r:R2 S H b rows):R2 S H' b rows:=by
 obtain⟨s,as,h1,h2⟩:=r
 exact⟨s,as,kl _ _ s h1,h2.imp fun _ _ r=>r.keep kl⟩
theorem R3.same (s:Same H H') (r:R3 S H h X):R3 S H' h X:=by
 obtain⟨bs,h1,h2⟩:=r
 exact⟨bs,s _ _ h1,h2.imp fun _ _ r=>r.keep fun _ _ _ e=>s _ _ e⟩
end
def EnX (H:Hp) (X:List (List (List V))):Prop:=∀rows∈X,∀es∈rows,∀v∈es,En H v
def SzX (X:List (List (List V))):Prop:=X.length≤131∧∀rows∈X,rows.length≤131∧∀es∈rows,es.length≤9
theorem EnX.keep {H H':Hp}{X:List (List (List V))}(kt:∀t xs,H t=some (.tup xs)→H' t=some (.tup xs)) (h:EnX H X):EnX H' X:=fun r hr es he v hv=>(h r hr es he v hv).keep kt
theorem EnX.same {H H':Hp}{X:List (List (List V))}(s:Same H H') (h:EnX H X):EnX H' X:=h.keep fun _ _ e=>s _ _ e
def dRow (H:Hp) (es:List V):PyData:=.list (es.map (dE H))
def dRows (H:Hp) (rows:List (List V)):PyData:=.list (rows.map (dRow H))
def dX (H:Hp) (X:List (List (List V))):PyData:=.list (X.map (dRows H))
theorem R3.gd {K:PySem.W.Frag}{S:Addr→Prop}{H:Hp}{h:Addr}{X:List (List (List V))}(r:R3 S H h X) (e:EnX H X):GD K H 4 (.ref h) (dX H X):=by
 obtain⟨bs,h1,h2⟩:=r
 refine GD.lst h1 (gds_map h2 fun b rows hm hb=>?_)
 obtain⟨_,as,h3,h4⟩:=hb
 refine GD.lst h3 (gds_map h4 fun a es hm2 ha=>?_)
 exact GD.lst ha.2 (gds_en fun v hv=>e rows hm es hm2 v hv)
def Yd (H:Hp) (y:Addr) (w R:Int) (X:List (List (List V))):Prop:=∃h,H y=some (.tup [.int w,.int R,.ref h])∧R3 (fun _=>True) H h X∧EnX H X∧SzX X
def SzQ (X:List (List (List V))):Prop:=X.length≤131∧(∀rows∈X,rows.length≤200)∧(allV X).length≤190
def Yq (H:Hp) (y:Addr) (w R:Int) (X:List (List (List V))):Prop:=∃h,H y=some (.tup [.int w,.int R,.ref h])∧R3 (fun _=>True) H h X∧EnX H X∧SzQ X
def dY (H:Hp) (w R:Int) (X:List (List (List V))):PyData:=.tuple [.int w,.int R,dX H X]
theorem Yd.same {H H':Hp}{y:Addr}{w R:Int}{X:List (List (List V))}(s:Same H H') (h:Yd H y w R X):Yd H' y w R X:=by
 obtain⟨t,h1,h2,h3,h4⟩:=h
 exact⟨t,s _ _ h1,h2.same s,h3.same s,h4⟩
theorem Yd.gd {K:PySem.W.Frag}{H:Hp}{y:Addr}{w R:Int}{X:List (List (List V))}(h:Yd H y w R X):GD K H 5 (.ref y) (dY H w R X):=by
 obtain⟨t,h1,h2,h3,h4⟩:=h
 exact GD.tup h1 (.cons (.int _) (.cons (.int _) (.cons (h2.gd h3) .nil)))
inductive St3
 | rooms (n:Nat)
 | cut (r m:Nat)
 | row (r a:Nat) (es:List V)
def StA (H:Hp) (s:Addr):St3→Prop
 | .rooms n=>H s=some (.tup [.str "rooms",.int n])∧1≤n∧n≤130
 | .cut r m=>H s=some (.tup [.str "cut",.int r,.int m])∧r≤129∧m≤130
 | .row r a es=>∃l,H s=some (.tup [.str "row",.int r,.int a,.ref l])∧H l=some (.lst es)∧r≤129∧a≤129∧es.length≤8∧∀v∈es,En H v
theorem StA.same {H H':Hp}{s:Addr}{st:St3}(sm:Same H H') (h:StA H s st):StA H' s st:=by
 cases st with
 | rooms n=>exact⟨sm _ _ h.1,h.2⟩
 | cut r m=>exact⟨sm _ _ h.1,h.2⟩
 | row r a es =>
  obtain⟨l,h1,h2,h3,h4,h5,h6⟩:=h
  exact⟨l,sm _ _ h1,sm _ _ h2,h3,h4,h5,fun v hv=>(h6 v hv).keep fun _ _ e=>sm _ _ e⟩
def dSt (H:Hp):St3→PyData
 | .rooms n=>.tuple [.str "rooms",.int n]
 | .cut r m=>.tuple [.str "cut",.int r,.int m]
 | .row r a es=>.tuple [.str "row",.int r,.int a,dRow H es]
theorem StA.gd {K:PySem.W.Frag}{H:Hp}{s:Addr}{st:St3}(h:StA H s st):GD K H 5 (.ref s) (dSt H st):=by
 cases st with
 | rooms n=>exact(GD.tup (n:=1) h.1 (.cons (.str (by decide +kernel)) (.cons (.int _) .nil))).mono (by omega)
 | cut r m=>exact(GD.tup (n:=1) h.1 (.cons (.str (by decide +kernel)) (.cons (.int _) (.cons (.int _) .nil)))).mono (by omega)
 | row r a es =>
  obtain⟨l,h1,h2,h3,h4,h5,h6⟩:=h
  exact(GD.tup (n:=2) h1 (.cons (.str (by decide +kernel)) (.cons (.int _) (.cons (.int _) (.cons (GD.lst h2 (gds_en h6)) .nil))))).mono (by omega)
def trim {α:Type}(X:List (List α)):List (List α):=(X.reverse.dropWhile (·.isEmpty)).reverse
theorem trim_nil {α:Type}:trim ([]:List (List α))=[]:=rfl
theorem trim_snoc {α:Type}{X:List (List α)}:trim (X ++ [[]])=trim X:=by
 unfold trim
 rw[List.reverse_append];rfl
theorem trim_stop {α:Type}{X:List (List α)}{r:List α}(h:r ≠ []):trim (X ++ [r])=X ++ [r]:=by
 unfold trim
 rw[List.reverse_append]
 show(List.dropWhile (·.isEmpty) (r::X.reverse)).reverse=_
 rw[List.dropWhile_cons,if_neg (by simpa using h),List.reverse_cons,List.reverse_reverse]
theorem trim_sub {α:Type}{X:List (List α)}:(∀r∈trim X,r∈X)∧(trim X).length≤X.length:=by
 unfold trim
 have s:=List.dropWhile_sublist (l:=X.reverse) (p:=fun r:List α=>r.isEmpty)
 exact⟨fun r hr=>List.mem_reverse.mp (s.subset (List.mem_reverse.mp hr)),by rw[List.length_reverse];have:=s.length_le;rw[List.length_reverse]at this;exact this⟩
def pad {α:Type}(X:List (List α)) (n:Nat):List (List α):=X++List.replicate (n-X.length) []
theorem pad_len {α:Type}{X:List (List α)}{n:Nat}:(pad X n).length=max X.length n:=by
 unfold pad;rw[List.length_append,List.length_replicate];omega
theorem pad_done {α:Type}{X:List (List α)}{n:Nat}(h:n≤X.length):pad X n=X:=by
 unfold pad;rw[Nat.sub_eq_zero_of_le h];simp
theorem pad_more {α:Type}{X:List (List α)}{n:Nat}(h:X.length<n):pad (X ++ [[]]) n=pad X n:=by
 unfold pad
 rw[List.length_append,List.length_singleton,List.append_assoc]
 congr 1
 rw[show n-X.length =(n-(X.length+1))+1 by omega,List.replicate_succ];rfl
theorem pad_mem {α:Type}{X:List (List α)}{n:Nat}{r:List α}(h:r∈pad X n):r∈X∨r=[]:=by
 unfold pad at h
 rcases List.mem_append.mp h with z|z
 ·exact .inl z
 ·exact .inr (List.eq_of_mem_replicate z)
def rowX (X:List (List (List V))) (r a:Nat) (es:List V):List (List (List V)):=(pad X (r+1)).modify r fun rows=>(pad rows (a+1)).set a es
def doX (X:List (List (List V))):St3→List (List (List V))
 | .rooms _=>trim X
 | .cut r m=>trim (X.modify r (List.take m))
 | .row r a es=>trim (rowX X r a es)
def doR (R:Int):St3→Int
 | .rooms n=>n
 | _=>R
theorem mod_mem {α:Type}{X:List α}{r:Nat}{f:α→α}{y:α}(h:y∈X.modify r f):y∈X ∨ ∃x∈X,y=f x:=by
 obtain⟨i,hi⟩:=List.getElem?_of_mem h
 rw[List.getElem?_modify]at hi
 cases e:X[i]? with
 | none=>rw[e]at hi;simp at hi
 | some x =>
  rw[e]at hi
  have hm:=List.mem_of_getElem? e
  by_cases z:r=i
  ·have e2:f x=y:=by simpa [z] using hi
   exact .inr ⟨x,hm,e2.symm⟩
  ·have e2:x=y:=by simpa [z] using hi
   exact .inl (e2 ▸ hm)
theorem mod_set {α:Type}{X:List α}{r:Nat}{f:α→α}{x:α}(h:X[r]? = some x):X.modify r f=X.set r (f x):=by
 refine List.ext_getElem? fun i=>?_
 rw[List.getElem?_modify,List.getElem?_set]
 by_cases z:r=i
 ·subst z
  obtain⟨hl,e⟩:=List.getElem?_eq_some_iff.mp h
  simp[hl,e]
 ·simp[z]
theorem mod_none {α:Type}{X:List α}{r:Nat}{f:α→α}(h:X.length≤r):X.modify r f=X:=by
 refine List.ext_getElem? fun i=>?_
 rw[List.getElem?_modify]
 by_cases z:r=i
 ·subst z
  rw[List.getElem?_eq_none h];rfl
 ·simp[z]
def doM (X:List (List (List V))):St3→List (List (List V))
 | .rooms _=>X
 | .cut r m=>X.modify r (List.take m)
 | .row r a es=>rowX X r a es
theorem doX_eq {X:List (List (List V))}{st:St3}:doX X st=trim (doM X st):=by cases st <;> rfl
theorem do_of {X:List (List (List V))}{q:List V→Prop}{st:St3}(h:∀rows∈X,∀es∈rows,q es) (h0:q []) (hs:∀r a es,st = .row r a es→q es):∀rows∈doX X st,∀es∈rows,q es:=by
 cases st with
 | rooms n=>exact fun rows hr=>h rows (trim_sub.1 rows hr)
 | cut r m =>
  intro rows hr es he
  rcases mod_mem (trim_sub.1 rows hr) with z|⟨x,hx,rfl⟩
  ·exact h rows z es he
  ·exact h x hx es (List.mem_of_mem_take he)
 | row r a e2 =>
  intro rows hr es he
  have hp:∀rows∈pad X (r+1),∀es∈rows,q es:=fun rows hr es he=>by
   rcases pad_mem hr with z|z
   ·exact h rows z es he
   ·rw[z]at he;cases he
  rcases mod_mem (trim_sub.1 rows hr) with z|⟨x,hx,rfl⟩
  ·exact hp rows z es he
  ·rcases List.mem_or_eq_of_mem_set he with z|z
   ·rcases pad_mem z with w|w
    ·exact hp x hx es w
    ·rw[w];exact h0
   ·rw[z];exact hs r a e2 rfl
theorem SzX.step {H:Hp}{s:Addr}{X:List (List (List V))}{st:St3}(h:SzX X) (hs:StA H s st):SzX (doX X st):=by
 have q:=do_of (X:=X) (q:=fun es=>es.length≤9) (st:=st) (fun rows hr es he=>(h.2 rows hr).2 es he) (by simp) (fun r a es e=>by subst e;obtain⟨l,_,_,_,_,h5,_⟩:=hs;omega)
 refine⟨?_,fun rows hr=>⟨?_,q rows hr⟩⟩
 ·have h1:=h.1
  cases st with
  | rooms n=>exact Nat.le_trans trim_sub.2 h1
  | cut r m=>exact Nat.le_trans trim_sub.2 (by rw[List.length_modify];exact h1)
  | row r a es =>
   obtain⟨l,_,_,h3,_⟩:=hs
   refine Nat.le_trans trim_sub.2 ?_
   unfold rowX
   rw[List.length_modify,pad_len];omega
 ·cases st with
  | rooms n=>exact(h.2 rows (trim_sub.1 rows hr)).1
  | cut r m =>
   rcases mod_mem (trim_sub.1 rows hr) with z|⟨x,hx,rfl⟩
   ·exact(h.2 rows z).1
   ·have:=(h.2 x hx).1
    rw[List.length_take];omega
  | row r a es =>
   obtain⟨l,_,_,h3,h4,_⟩:=hs
   have hp:∀rows∈pad X (r+1),rows.length≤131:=fun rows hr=>by
    rcases pad_mem hr with z|z
    ·exact(h.2 rows z).1
    ·rw[z];simp
   rcases mod_mem (trim_sub.1 rows hr) with z|⟨x,hx,rfl⟩
   ·exact hp rows z
   ·have:=hp x hx
    rw[List.length_set,pad_len];omega
theorem EnX.step {H:Hp}{s:Addr}{X:List (List (List V))}{st:St3}(h:EnX H X) (hs:StA H s st):EnX H (doX X st) :=
 do_of (q:=fun es=>∀v∈es,En H v) h (fun v hv=>by cases hv) fun r a es e=>by subst e;obtain⟨l,_,_,_,_,_,h6⟩:=hs;exact h6
def T1 (S:Addr→Prop) (h:Addr) (bs:List Addr) (H:Hp) (a:Addr) (es:List V):Prop:=S a∧a≠h∧a∉bs∧H a=some (.lst es)
def T2 (S:Addr→Prop) (h:Addr) (bs:List Addr) (H:Hp) (b:Addr) (rows:List (List V)):Prop:=S b∧∃as:List Addr,H b=some (.lst (as.map V.ref))∧P1 (T1 S h bs H) as rows
def T3 (S:Addr→Prop) (H:Hp) (h:Addr) (bs:List Addr) (X:List (List (List V))):Prop:=S h∧H h=some (.lst (bs.map V.ref))∧bs.Nodup∧h∉bs∧P1 (T2 S h bs H) bs X
def Kq (S:Addr→Prop) (H H':Hp):Prop:=∀b o,¬ S b→H b=some o→H' b=some o
def Fr (S:Addr→Prop) (H:Hp):Prop:=∀e,H e=none→S e
theorem Kq.trans {S:Addr→Prop}{H H1 H2:Hp}(a:Kq S H H1) (b:Kq S H1 H2):Kq S H H2:=fun c o n e=>b c o n (a c o n e)
theorem Fr.keep {S:Addr→Prop}{H H':Hp}(f:Fr S H) (k:Kq S H H'):Fr S H':=fun e n=>by
 by_cases z:S e
 ·exact z
 ·cases c:H e with
  | none=>exact f e c
  | some o=>rw[k e o z c]at n;cases n
section
variable {S:Addr→Prop}{H H':Hp}{h a b c e:Addr}{bs bs' as:List Addr}{es:List V}{rows:List (List V)}{X:List (List (List V))}{i j m:Nat}
theorem T2.keep (kb:∀o,H b=some o→H' b=some o) (kr:∀a o,a≠h→a∉bs→H a=some o→H' a=some o∧a∉bs') (t:T2 S h bs H b rows):T2 S h bs' H' b rows:=by
 obtain⟨s,as,h1,h2⟩:=t
 refine⟨s,as,kb _ h1,h2.imp fun a es t=>?_⟩
 obtain⟨t1,t2,t3,t4⟩:=t
 obtain⟨k1,k2⟩:=kr a _ t2 t3 t4
 exact⟨t1,t2,k2,k1⟩
theorem T3.has (t:T3 S H h bs X) (hb:b∈bs):∃o,H b=some o:=by
 obtain⟨i,hi⟩:=List.getElem?_of_mem hb
 obtain⟨rows,_,_,as,h1,_⟩:=t.2.2.2.2.get hi
 exact⟨_,h1⟩
theorem T3.new (t:T3 S H h bs X) (ne:H e=none):e≠h∧e∉bs:=by
 refine⟨fun z=>(by rw[z,t.2.1]at ne;cases ne),fun z=>?_⟩
 obtain⟨o,ho⟩:=t.has z
 rw[ho]at ne;cases ne
theorem T3.push (t:T3 S H h bs X) (ne:H e=none) (se:S e) (hk:∀b o,b≠h→H b=some o→H' b=some o) (hh:H' h=some (.lst ((bs ++ [e]).map V.ref))) (he:H' e=some (.lst [])):T3 S H' h (bs ++ [e]) (X ++ [[]]):=by
 obtain⟨n1,n2⟩:=t.new ne
 obtain⟨sh,h1,h2,h3,h4⟩:=t
 refine⟨sh,hh,?_,?_,(h4.imp' fun b rows hb _ t=>t.keep (fun o e=>hk _ _ (fun z=>h3 (z ▸ hb)) e) fun a o m1 m2 e'=>⟨hk _ _ m1 e',fun z=>?_⟩).snoc ⟨se,[],he,P1.nil⟩⟩
 ·rw[List.nodup_append]
  refine⟨h2,by simp,fun x hx y hy z=>n2 ?_⟩
  have:y=e:=by simpa using hy
  rw[← this,← z];exact hx
 ·intro z
  rcases List.mem_append.mp z with w|w
  ·exact h3 w
  ·have:h=e:=by simpa using w
   exact n1 this.symm
 ·rcases List.mem_append.mp z with w|w
  ·exact m2 w
  ·have:a=e:=by simpa using w
   rw[this,ne]at e';cases e'
theorem T3.add (t:T3 S H h bs X) (hk:∀b o,b≠h→H b=some o→H' b=some o) (hh:H' h=some (.lst ((bs ++ [c]).map V.ref))) (nc:H c=none) (sc:S c) (hc:H' c=some (.lst (as.map V.ref))) (hA:P1 (fun a es=>S a∧H a=none∧a≠c∧H' a=some (.lst es)) as rows):T3 S H' h (bs ++ [c]) (X ++ [rows]):=by
 obtain⟨n1,n2⟩:=t.new nc
 have t0:=t
 obtain⟨sh,h1,h2,h3,h4⟩:=t
 refine⟨sh,hh,?_,?_,(h4.imp' fun b rows hb _ t=>t.keep (fun o e=>hk _ _ (fun z=>h3 (z ▸ hb)) e) fun a o m1 m2 e'=>⟨hk _ _ m1 e',fun z=>?_⟩).snoc ⟨sc,as,hc,hA.imp fun a es t=>?_⟩⟩
 ·rw[List.nodup_append]
  refine⟨h2,by simp,fun x hx y hy z=>n2 ?_⟩
  have:y=c:=by simpa using hy
  rw[← this,← z];exact hx
 ·intro z
  rcases List.mem_append.mp z with w|w
  ·exact h3 w
  ·have:h=c:=by simpa using w
   exact n1 this.symm
 ·obtain⟨m1,m2⟩:=t0.new t.2.1
  refine⟨t.1,m1,fun z=>?_,t.2.2.2⟩
  rcases List.mem_append.mp z with w|w
  ·exact m2 w
  ·exact t.2.2.1 (by simpa using w)
 ·rcases List.mem_append.mp z with w|w
  ·exact m2 w
  ·have:a=c:=by simpa using w
   rw[this,nc]at e';cases e'
theorem T3.inrow (t:T3 S H h bs X) (hb:bs[i]? = some b) (hr:X[i]? = some rows):S b∧∃as:List Addr,H b=some (.lst (as.map V.ref))∧P1 (T1 S h bs H) as rows:=t.2.2.2.2.2 i b rows hb hr
theorem T3.one (t:T3 S H h bs X) (hb:bs[i]? = some b) (hk:∀c o,c≠b→H c=some o→H' c=some o) (hn:T2 S h bs H' b rows):T3 S H' h bs (X.set i rows):=by
 obtain⟨sh,h1,h2,h3,h4⟩:=t
 have bm:=List.mem_of_getElem? hb
 refine⟨sh,hk _ _ (fun z=>h3 (z ▸ bm)) h1,h2,h3,h4.setx h2 hb (fun c rows hc n t=>t.keep (fun o e=>hk _ _ n e) fun a o m1 m2 e=>⟨hk _ _ (fun z=>m2 (z ▸ bm)) e,m2⟩) hn⟩
theorem nodup_set {bs:List Addr}{c:Addr}(n:bs.Nodup) (nc:c∉bs):∀{i:Nat},(bs.set i c).Nodup:=by
 intro i
 induction bs generalizing i with
 | nil=>simp
 | cons x bs ih =>
  obtain⟨n1,n2⟩:=List.nodup_cons.mp n
  cases i with
  | zero=>exact List.nodup_cons.mpr ⟨fun z=>nc (List.mem_cons_of_mem _ z),n2⟩
  | succ i =>
   refine List.nodup_cons.mpr ⟨fun z=>?_,ih n2 (fun z=>nc (List.mem_cons_of_mem _ z))⟩
   rcases List.mem_or_eq_of_mem_set z with w|w
   ·exact n1 w
   ·exact nc (w ▸ List.mem_cons_self)
theorem T3.put (t:T3 S H h bs X) (nc:H c=none) (hk:∀b o,b≠h→H b=some o→H' b=some o) (hh:H' h=some (.lst ((bs.set i c).map V.ref))) (hn:T2 S h (bs.set i c) H' c rows):T3 S H' h (bs.set i c) (X.set i rows):=by
 obtain⟨n1,n2⟩:=t.new nc
 obtain⟨sh,h1,h2,h3,h4⟩:=t
 have mem:∀{x},x∈bs.set i c→x∈bs∨x=c:=fun z=>List.mem_or_eq_of_mem_set z
 refine⟨sh,hh,nodup_set h2 n2,fun z=>?_,P1.set (h4.imp' fun b rows hb _ t=>t.keep (fun o e=>hk _ _ (fun z=>h3 (z ▸ hb)) e) fun a o m1 m2 e'=>⟨hk _ _ m1 e',fun z=>?_⟩) hn⟩
 ·rcases mem z with w|w
  ·exact h3 w
  ·exact n1 w.symm
 ·rcases mem z with w|w
  ·exact m2 w
  ·rw[w,nc]at e';cases e'
theorem T3.pop (t:T3 S H h bs X) (hk:∀b o,b≠h→H b=some o→H' b=some o) (hh:H' h=some (.lst (bs.dropLast.map V.ref))):T3 S H' h bs.dropLast X.dropLast:=by
 obtain⟨sh,h1,h2,h3,h4⟩:=t
 have sub:=List.dropLast_sublist bs
 refine⟨sh,hh,h2.sublist sub,fun z=>h3 (sub.subset z),P1.dropLast (h4.imp' fun b rows hb _ t=>t.keep (fun o e=>hk _ _ (fun z=>h3 (z ▸ hb)) e) fun a o m1 m2 e'=>⟨hk _ _ m1 e',fun z=>m2 (sub.subset z)⟩)⟩
theorem T3.same (s:Same H H') (t:T3 S H h bs X):T3 S H' h bs X:=by
 obtain⟨sh,h1,h2,h3,h4⟩:=t
 exact⟨sh,s _ _ h1,h2,h3,h4.imp fun b rows t=>t.keep (fun o e=>s _ _ e) fun a o m1 m2 e=>⟨s _ _ e,m2⟩⟩
theorem T3.r3 (t:T3 S H h bs X):R3 (fun _=>True) H h X:=by
 obtain⟨sh,h1,h2,h3,h4⟩:=t
 refine⟨bs,h1,h4.imp fun b rows t=>?_⟩
 obtain⟨s,as,h5,h6⟩:=t
 exact⟨trivial,as,h5,h6.imp fun a es t=>⟨trivial,t.2.2.2⟩⟩
end
theorem ixN_in {n j:Nat}(h:j<n):ixN n (j:Int)=some j:=by
 unfold ixN
 rw[if_pos (by omega),if_pos (by omega),Int.toNat_natCast]
theorem cut_refsT {as:List Addr}{k:Nat}:cutV (as.map V.ref) none (some (k:Int)) =(as.take k).map V.ref:=by
 unfold cutV
 rw[HT.sIx_nat,HT.sIx_none,List.drop_zero,Nat.sub_zero,List.map_take,List.length_map]
 by_cases h:k≤as.length
 ·rw[Nat.min_eq_left h]
 ·rw[Nat.min_eq_right (by omega),List.take_of_length_le (by rw[List.length_map];omega),List.take_of_length_le (by rw[List.length_map];omega)]
theorem set_id {α:Type}{xs:List α}{i:Nat}{x:α}(h:xs[i]? = some x):xs.set i x=xs:=by
 refine List.ext_getElem? fun j=>?_
 rw[List.getElem?_set]
 by_cases z:i=j
 ·subst z
  rw[if_pos rfl,if_pos (List.getElem?_eq_some_iff.mp h).1,h]
 ·rw[if_neg z]
theorem snoc_ex {α:Type}{xs:List α}(h:xs ≠ []):∃ys y,xs=ys ++ [y]:=⟨xs.dropLast,xs.getLast h,(List.dropLast_concat_getLast h).symm⟩
theorem tru_refs {as:List Addr}:decide (as ≠ []) = !(as.map V.ref).isEmpty:=by cases as <;> rfl
def sp_cut_room (K:PySem.W.Frag):Sp:=fun vs H Q _=>∃(S:Addr→Prop) (h:Addr) (bs:List Addr) (X:List (List (List V))) (r m:Nat),vs=[.ref h,.int r,.int m]∧T3 S H h bs X∧Fr S H ∧
 ∀bs' H',T3 S H' h bs' (X.modify r (List.take m))→Kq S H H'→Q .non H'
def sp_leave_last_rooms (K:PySem.W.Frag):Sp:=fun vs H Q _=>∃(S:Addr→Prop) (h:Addr) (bs:List Addr) (X:List (List (List V))),vs=[.ref h]∧T3 S H h bs X ∧
 ∀bs' H',T3 S H' h bs' (trim X)→Kq S H H'→Q .non H'
def sp_lay_row (K:PySem.W.Frag):Sp:=fun vs H Q _=>∃(S:Addr→Prop) (h:Addr) (bs:List Addr) (X:List (List (List V))) (r a:Nat) (l:Addr) (es:List V),vs=[.ref h,.int r,.int a,.ref l]∧T3 S H h bs X∧Fr S H∧SzX X∧r≤129∧a≤129∧¬ S l∧H l=some (.lst es)∧es.length≤9 ∧
 ∀bs' H',T3 S H' h bs' (rowX X r a es)→Kq S H H'→Q .non H'
def sp_done_all (K:PySem.W.Frag):Sp:=fun vs H Q _=>∃(y ss:Addr) (w R:Int) (X:List (List (List V))) (sa:List Addr) (sts:List St3),vs=[.ref y,.ref ss]∧Yd H y w R X∧H ss=some (.lst (sa.map V.ref))∧P1 (StA H) sa sts ∧
 ∀y' h' bs' H',H' y'=some (.tup [.int w,.int (sts.foldl doR R),.ref h'])→T3 (fun b=>H b=none) H' h' bs' (sts.foldl doX X)→Same H H'→Q (.ref y') H'
def sp_done (K:PySem.W.Frag):Sp:=fun vs H Q _=>∃(y s:Addr) (w R:Int) (X:List (List (List V))) (st:St3),vs=[.ref y,.ref s]∧Yd H y w R X∧StA H s st ∧
 ∀y' h' bs' H',H' y'=some (.tup [.int w,.int (doR R st),.ref h'])→T3 (fun b=>H b=none) H' h' bs' (doX X st)→Same H H'→Q (.ref y') H'
theorem str_app (a b:Str):(a++b).cps=a.cps++b.cps:=rfl
theorem str_applen (a b:Str):(a++b).length=a.length+b.length:=by
 show(a.cps++b.cps).size=_
 rw[Array.size_append];rfl
theorem app_low {a b:Str}(h1:∀c∈a.cps,c<128) (h2:∀c∈b.cps,c<128):∀c∈(a++b).cps,c<128:=by
 intro c hc
 rw[str_app]at hc
 rcases Array.mem_append.mp hc with z|z
 ·exact h1 c z
 ·exact h2 c z
theorem join_low:∀ys:List Str,(∀y∈ys,y.length=1∧∀c∈y.cps,c<128)→(Str.join ⟨#[]⟩ ys).length=ys.length∧∀c∈(Str.join ⟨#[]⟩ ys).cps,c<128
 | [],_=>⟨rfl,fun c hc=>absurd hc (by simp[Str.join,Str.empty])⟩
 | y::r,h=>by
  obtain⟨h1,h2⟩:=join_low r fun z hz=>h z (List.mem_cons_of_mem _ hz)
  obtain⟨g1,g2⟩:=h y List.mem_cons_self
  rw[PyProof.Rows.join_nil_cons]
  refine⟨by rw[str_applen,h1,g1,List.length_cons];omega,app_low g2 h2⟩
theorem joinT (ys:List Str):Txt.join (Str.ofString "") ys=Str.join ⟨#[]⟩ ys:=by
 have e:Str.ofString "" =⟨#[]⟩:=by decide
 rw[e]
 exact StrLaws.glued_eq_join _ _
theorem sum_ones:∀ys:List Str,(∀y∈ys,y.length=1∧∀c∈y.cps,c<128)→(ys.map (·.length)).sum=ys.length
 | [],_=>rfl
 | y::r,h=>by
  rw[List.map_cons,List.sum_cons,sum_ones r fun z hz=>h z (List.mem_cons_of_mem _ hz),(h y List.mem_cons_self).1,List.length_cons];omega
theorem strOk_low {z:Str}(h:∀c∈z.cps,c<128):PyData.strOk z=true:=by
 unfold PyData.strOk
 rw[Array.all_eq_true_iff_forall_mem]
 intro c hc
 have:=h c hc
 simp;omega
def newSince (H H':Hp):Hp:=fun b=>match H b with
 | none=>H' b
 | some _=>none
def sp__law_thing (K:PySem.W.Frag):Sp:=fun vs H Q _=>∃(p:Addr) (N:Nat),vs=[.ref p]∧Hand H p N∧N+30<2^60 ∧
 ∀(z:Str) (H':Hp),PyData.strOk z=true→z.length≤100→Hand H' p (N+20)→Kp H H' p→Q (.str z) H'
def sp__law_whole (K:PySem.W.Frag):Sp:=fun vs H Q _=>∃(n:Int),vs=[.int n]∧Q (.bl true) H
def sp__law_copy (K:PySem.W.Frag):Sp:=fun vs H Q _=>∃(y:Addr) (w R:Int) (X:List (List (List V))),vs=[.ref y]∧Yd H y w R X ∧
 ∀y' h' bs' H',H y'=none→H' y'=some (.tup [.int w,.int R,.ref h'])→T3 (fun b=>H b=none) H' h' bs' X→Same H H'→Q (.ref y') H'
theorem kt_of {H H':Hp}{p:Addr}{N:Nat}(hh:Hand H p N) (k:Kp H H' p):∀t xs,H t=some (.tup xs)→H' t=some (.tup xs):=fun t xs e=>by
 obtain⟨l1,d,c,ns,h1,_⟩:=hh.ex
 exact k.1 _ _ e (ne_of e h1 (by intro z;cases z))
theorem let26 {r:Int}(h0:0≤r) (h1:r<26):∃c,atI (Str.ofString "abcdefghijklmnopqrstuvwxyz").cps.toList r=some c∧c<128:=by
 obtain⟨n,rfl⟩ : ∃n:Nat,r =(n:Int):=⟨r.toNat,by omega⟩
 have hl:(Str.ofString "abcdefghijklmnopqrstuvwxyz").cps.toList.length=26:=by decide +kernel
 have ha:∀c∈(Str.ofString "abcdefghijklmnopqrstuvwxyz").cps.toList,c<128:=by decide +kernel
 have hi:=List.getElem?_eq_getElem (l:=(Str.ofString "abcdefghijklmnopqrstuvwxyz").cps.toList) (i:=n) (by omega)
 exact⟨_,atI_nat hi,ha _ (List.mem_of_getElem? hi)⟩
theorem cut_refsD {as:List Addr}{k:Nat}:cutV (as.map V.ref) (some (k:Int)) none =(as.drop k).map V.ref:=by
 unfold cutV
 rw[HT.sIx_nat,HT.sIx_none,List.length_map,← List.map_drop]
 by_cases h:k≤as.length
 ·rw[Nat.min_eq_left h,List.take_of_length_le (by rw[List.length_map,List.length_drop];omega)]
 ·rw[List.drop_eq_nil_of_le (by omega:as.length≤min k as.length),List.drop_eq_nil_of_le (by omega:as.length≤k)]
  simp
def eD (H:Hp) (v:V):Int×Str:=match v with
 | .ref t=>(match H t with
  | some (.tup [.int k,.str z])=>(k,z)
  | _=>(0,⟨#[]⟩))
 | _=>(0,⟨#[]⟩)
theorem eD_at {H:Hp}{t:Addr}{k:Int}{z:Str}(h:H t=some (.tup [.int k,.str z])):eD H (.ref t) =(k,z):=by
 show(match H t with|some (.tup [.int k,.str z])=>(k,z)|_=>(0,⟨#[]⟩))=_
 rw[h]
theorem En.pt {H:Hp}{v:V}(h:En H v):∃t,v = .ref t∧H t=some (.tup [.int (eD H v).1,.str (eD H v).2])∧PyData.strOk (eD H v).2=true∧0 ≤(eD H v).1∧(eD H v).1<1152921504606846976∧(eD H v).2.length≤100:=by
 obtain⟨t,k,z,rfl,h1,h2⟩:=h
 rw[eD_at h1]
 exact⟨t,rfl,h1,h2⟩
theorem En.eD {H H':Hp}{v:V}(kt:∀t xs,H t=some (.tup xs)→H' t=some (.tup xs)) (h:En H v):eD H' v=eD H v:=by
 obtain⟨t,k,z,rfl,h1,h2⟩:=h
 rw[eD_at h1,eD_at (kt _ _ h1)]
def rowD (H:Hp) (es:List V):List (Int×Str):=es.map (eD H)
def rowsDD (H:Hp) (rows:List (List V)):List (List (Int×Str)):=rows.map (rowD H)
def DkX (H:Hp) (X:List (List (List V))):Prop:=∀rows∈X,∀es∈rows,((rowD H es).map (·.1)).Nodup
theorem rowD_keep {H H':Hp}{es:List V}(kt:∀t xs,H t=some (.tup xs)→H' t=some (.tup xs)) (h:∀v∈es,En H v):rowD H' es=rowD H es:=List.map_congr_left fun v hv=>(h v hv).eD kt
theorem rowsDD_keep {H H':Hp}{rows:List (List V)}(kt:∀t xs,H t=some (.tup xs)→H' t=some (.tup xs)) (h:∀es∈rows,∀v∈es,En H v):rowsDD H' rows=rowsDD H rows:=List.map_congr_left fun es he=>rowD_keep kt (h es he)
def pick (k:Int) (r:List (Int×Str)):Option Str:=(r.find? fun e=>decide (e.1=k)).map (·.2)
def fnd (k:Int):List (List (Int×Str))→Option Str×Int
 | []=>(none,0)
 | r::rs=>if stopsB k (r.map (·.1))=true then(pick k r,1) else((fnd k rs).1,(fnd k rs).2+1)
def xV:Option Str→V
 | none=>.non
 | some z=>.str z
def ownR (X:List (List (List V))) (k R:Int):List (List V):=(X[(roomV k R).toNat]?).getD []
def sp__law_room (K:PySem.W.Frag):Sp:=fun vs H Q _=>∃(k R:Int),vs=[.int k,.int R]∧0≤k∧k<2^61∧1≤R∧R≤2^60∧Q (.int (roomV k R)) H
def sp_rows_at (K:PySem.W.Frag):Sp:=fun vs H Q _=>∃(h:Addr) (bs:List Addr) (r:Nat),vs=[.ref h,.int r]∧H h=some (.lst (bs.map V.ref))∧∀o H1,Same H H1→(bs[r]? = some o ∨(bs.length≤r∧H1 o=some (.lst [])))→Q (.ref o) H1
def sp_found (K:PySem.W.Frag):Sp:=fun vs H Q _=>∃(y:Addr) (w R k:Int) (X:List (List (List V))),vs=[.ref y,.int k]∧Yd H y w R X∧DkX H X∧1≤R∧R≤2^60 ∧
 ∀t H',H' t=some (.tup [xV (fnd k (rowsDD H (ownR X k R))).1,.int (fnd k (rowsDD H (ownR X k R))).2])→Same H H'→Q (.ref t) H'
def sp__law_found (K:PySem.W.Frag):Sp:=fun vs H Q _=>∃(y:Addr) (w R k:Int) (X:List (List (List V))),vs=[.ref y,.int k]∧Yd H y w R X∧0≤k∧k<2^61∧1≤R∧R≤2^60 ∧
 ∀t H',H' t=some (.tup [xV (fnd k (rowsDD H (ownR X k R))).1,.int (fnd k (rowsDD H (ownR X k R))).2])→Same H H'→Q (.ref t) H'
theorem CK.mono {H0 H':Hp}{p D:Addr}{N M:Nat}{ys:List V}(c:CK H0 p D N ys H') (h:N≤M):CK H0 p D M ys H':=⟨c.hh.mono h,c.lat,c.kp,c.n0,c.np,c.nc⟩
def sp__law_row (K:PySem.W.Frag):Sp:=fun vs H Q _=>∃(p kl:Addr) (N:Nat) (ks:List Int),vs=[.ref p,.ref kl]∧Hand H p N∧N+2000<2^60∧H kl=some (.lst (ks.map V.int))∧kl≠p∧ks ≠ []∧ks.length≤50 ∧
 ∀(l:Addr) (es:List V) (H':Hp),H l=none→H' l=some (.lst es)→es.length≤3→(∀v∈es,En (newSince H H') v)→((rowD H' es).map (·.1)).Nodup→Hand H' p (N+300)→Kp H H' p→Q (.ref l) H'
def sp__law_places (K:PySem.W.Frag):Sp:=fun vs H Q _=>∃(a:Addr) (ns:List Int) (l m:Int),vs=[.ref a,.int l,.int m]∧SqL K H a (ns.map V.int)∧ns.length≤63∧0≤l∧l≤100∧0≤m∧m≤100 ∧
 ∀(n:Nat) (l':Addr) (H':Hp),n≤100→H l'=none→H' l'=some (.lst ((upN n).map V.int))→Same H H'→Q (.ref l') H'
def kE (H:Hp) (t:Addr):Int:=(eD H (.ref t)).1
theorem rowD_refs {H:Hp}{ts:List Addr}:(rowD H (ts.map V.ref)).map (·.1)=ts.map (kE H):=by
 unfold rowD kE
 rw[List.map_map,List.map_map];rfl
theorem inj_of {α:Type}{f:Addr→α}{ts:List Addr}(n:(ts.map f).Nodup):∀t∈ts,∀u∈ts,f t=f u→t=u:=fun t ht u hu e=>by
 obtain⟨i,hi⟩:=List.getElem?_of_mem ht
 obtain⟨j,hj⟩:=List.getElem?_of_mem hu
 have e1:(ts.map f)[i]? =(ts.map f)[j]?:=by rw[List.getElem?_map,List.getElem?_map,hi,hj];exact congrArg some e
 have il:i <(ts.map f).length:=by rw[List.length_map];exact(List.getElem?_eq_some_iff.mp hi).1
 have ij:=(List.getElem?_inj il n).mp e1
 subst ij
 rw[hi]at hj
 exact Option.some.inj hj
theorem roomV_pow {k:Int}{j:Nat}:k%2^(j+1)=k%2^j+2^j*(k / 2^j%2):=by
 have pp:=pow2_pos j
 rw[Int.pow_succ]
 generalize (2:Int)^j=p at *
 have e:k / (p*2)=k / p / 2:=(Int.ediv_ediv_of_nonneg (show 0≤p by omega)).symm
 rw[Int.emod_def k (p*2),Int.emod_def k p,Int.emod_def (k / p) 2,e,Int.mul_sub]
 have a:p*2*(k / p / 2)=p*(2*(k / p / 2)):=Int.mul_assoc _ _ _
 omega
theorem low_of {k:Int}{i j:Nat}(h0:0≤k) (h:k / 2^j≤0) (hij:j≤i):k%2^i=k:=by
 have p:=pow2_pos j
 have m:=pow2_le hij
 have:k<2^j:=by
  by_cases c:k<2^j
  ·exact c
  ·have:=Int.le_ediv_of_mul_le p (show 1*2^j≤k by omega)
   omega
 exact Int.emod_eq_of_lt h0 (by omega)
theorem refs_of {H:Hp}:∀{es:List V},(∀v∈es,En H v)→∃ts:List Addr,es=ts.map V.ref
 | [],_=>⟨[],rfl⟩
 | v::es,h=>by
  obtain⟨t,_,_,rfl,_⟩:=h v List.mem_cons_self
  obtain⟨ts,rfl⟩:=refs_of fun v hv=>h v (List.mem_cons_of_mem _ hv)
  exact⟨t::ts,rfl⟩
section
def rowsG {α:Type}(s:List α) (w:Nat):List (List α):=(List.range (rfor s.length w).toNat).map fun i=>(s.drop (i*w)).take w
theorem rowsG_len {α:Type}(s:List α) (w:Nat):(rowsG s w).length =(rfor s.length w).toNat:=by unfold rowsG;rw[List.length_map,List.length_range]
theorem rowsG_map {α β:Type}(f:α→β) (s:List α) (w:Nat):(rowsG s w).map (List.map f)=rowsG (s.map f) w:=by
 unfold rowsG
 rw[List.map_map,List.length_map]
 apply List.map_congr_left
 intro i _
 show List.map f ((s.drop (i*w)).take w)=_
 rw[List.map_take,List.map_drop]
theorem rows_take {α:Type}(s:List α) (w:Nat):∀n:Nat,((List.range n).map fun i=>(s.drop (i*w)).take w).flatten=s.take (n*w)
 | 0=>by simp
 | n+1=>by
  rw[List.range_succ,List.map_append,List.flatten_append,rows_take s w n,Nat.succ_mul,List.take_add]
  simp
theorem rowsG_flat {α:Type}(s:List α) {w:Nat}(h:1≤w):(rowsG s w).flatten=s:=by
 unfold rowsG
 rw[rows_take]
 obtain⟨g1,g2,_⟩:=up_div (g:=rfor s.length w) (w:=w) (m:=s.length) (by omega) (by omega) rfl
 apply List.take_of_length_le
 have e:(((rfor s.length w).toNat*w:Nat):Int)=w*rfor s.length w:=by
  rw[Int.natCast_mul,Int.mul_comm]
  congr 1
  omega
 omega
theorem rfor_is {m w:Nat}{i:Nat}(h1:1≤w) (h2:m ≤(i+1)*w) (h3:i=0∨i*w<m):(rfor m w).toNat=i+1:=by
 obtain⟨g1,g2,g3⟩:=up_div (g:=rfor m w) (w:=w) (m:=m) (by omega) (by omega) rfl
 obtain⟨g,hg⟩ : ∃g:Nat,rfor m w =(g:Int):=⟨(rfor m w).toNat,by omega⟩
 rw[hg]at g1 g2 g3 ⊢
 rw[Int.toNat_natCast]
 have g2':m≤w*g:=by exact_mod_cast g2
 by_cases c:i+1<g
 ·exfalso
  have:(i+1)*w≤w*(g-1):=by rw[Nat.mul_comm w];exact Nat.mul_le_mul_right _ (by omega)
  rcases g3 with g3|g3
  ·omega
  ·have e:(w:Int)*((g:Int)-1) =((w*(g-1):Nat):Int):=by
    rw[Int.natCast_mul];congr 1;omega
   omega
 ·by_cases d:g<i+1
  ·exfalso
   have:w*g≤i*w:=by rw[Nat.mul_comm i];exact Nat.mul_le_mul_left _ (by omega)
   omega
  ·omega
variable {τ:Type}
def IsCl (w R:Nat) (es:List (Int×τ)) (P:List (List (List (Int×τ)))):Prop :=
 P.length=R∧∀(r:Nat) (rows:List (List (Int×τ))),P[r]? = some rows→∃s,s.Perm (es.filter fun e=>decide (roomV e.1 R =(r:Int)))∧s.Pairwise (fun a b=>a.1≤b.1)∧rows=rowsG s w
def flatP (P:List (List (List (Int×τ)))):List (Int×τ):=(P.map List.flatten).flatten
theorem key_inj {s:List (Int×τ)}(h:(s.map (·.1)).Nodup) {a b:Int×τ}(ha:a∈s) (hb:b∈s) (e:a.1=b.1):a=b:=by
 induction s with
 | nil=>cases ha
 | cons x s ih =>
  rw[List.map_cons,List.nodup_cons]at h
  rcases List.mem_cons.mp ha with h1|h1
  ·rcases List.mem_cons.mp hb with h2|h2
   ·rw[h1,h2]
   ·exact absurd (List.mem_map.mpr ⟨b,h2,by rw[← e,h1]⟩) h.1
  ·rcases List.mem_cons.mp hb with h2|h2
   ·exact absurd (List.mem_map.mpr ⟨a,h1,by rw[e,h2]⟩) h.1
   ·exact ih h.2 h1 h2
theorem srt_uniq {s s' l:List (Int×τ)}(hl:(l.map (·.1)).Nodup) (p:s.Perm l) (p':s'.Perm l) (h:s.Pairwise (fun a b=>a.1≤b.1)) (h':s'.Pairwise (fun a b=>a.1≤b.1)):s=s' :=
 List.Perm.eq_of_pairwise (le:=fun a b:Int×τ=>a.1≤b.1) (fun a b ha hb x y=>key_inj hl (p.mem_iff.mp ha) (p'.mem_iff.mp hb) (by omega)) h h' (p.trans p'.symm)
theorem keys_filter {es:List (Int×τ)}(hn:(es.map (·.1)).Nodup) (f:Int×τ→Bool):((es.filter f).map (·.1)).Nodup:=hn.sublist (List.filter_sublist.map _)
theorem IsCl.uniq {w R:Nat}{es:List (Int×τ)}{P P':List (List (List (Int×τ)))}(hn:(es.map (·.1)).Nodup) (h:IsCl w R es P) (h':IsCl w R es P'):P=P':=by
 refine List.ext_getElem? fun r=>?_
 by_cases c:r<R
 ·have e1:P[r]? = some (P[r]'(by rw[h.1];exact c)):=List.getElem?_eq_getElem _
  have e2:P'[r]? = some (P'[r]'(by rw[h'.1];exact c)):=List.getElem?_eq_getElem _
  obtain⟨s,p,q,e⟩:=h.2 r _ e1
  obtain⟨s',p',q',e'⟩:=h'.2 r _ e2
  rw[e1,e2,e,e',srt_uniq (keys_filter hn _) p p' q q']
 ·rw[List.getElem?_eq_none (by rw[h.1];omega),List.getElem?_eq_none (by rw[h'.1];omega)]
theorem IsCl.perm {w R:Nat}{es es':List (Int×τ)}{P:List (List (List (Int×τ)))}(p:es.Perm es') (h:IsCl w R es P):IsCl w R es' P:=by
 refine⟨h.1,fun r rows e=>?_⟩
 obtain⟨s,p1,p2,p3⟩:=h.2 r rows e
 exact⟨s,p1.trans (p.filter _),p2,p3⟩
theorem IsCl.room {w R:Nat}{es:List (Int×τ)}{P:List (List (List (Int×τ)))}(h:IsCl w R es P) (hw:1≤w) {r:Nat}{rows:List (List (Int×τ))}(e:P[r]? = some rows) (x:Int×τ):x∈rows.flatten↔x∈es∧roomV x.1 R =(r:Int):=by
 obtain⟨s,p1,p2,p3⟩:=h.2 r rows e
 rw[p3,rowsG_flat _ hw,p1.mem_iff,List.mem_filter]
 simp
theorem IsCl.mem {w R:Nat}{es:List (Int×τ)}{P:List (List (List (Int×τ)))}(h:IsCl w R es P) (hw:1≤w) (hR:1≤R) (x:Int×τ):x∈flatP P↔x∈es:=by
 unfold flatP
 rw[List.mem_flatten]
 constructor
 ·rintro⟨l,hl,hx⟩
  obtain⟨rows,hr,rfl⟩:=List.mem_map.mp hl
  obtain⟨r,e⟩:=List.getElem?_of_mem hr
  exact((h.room hw e x).mp hx).1
 ·intro hx
  have b:=roomV_lt (k:=x.1) (R:=R) (by omega)
  obtain⟨r,hr,hl⟩ : ∃r:Nat,roomV x.1 R =(r:Int)∧r<R:=⟨(roomV x.1 R).toNat,by omega,by omega⟩
  have e1:P[r]? = some (P[r]'(by rw[h.1];exact hl)):=List.getElem?_eq_getElem _
  exact⟨_,List.mem_map.mpr ⟨_,List.mem_of_getElem? e1,rfl⟩,(h.room hw e1 x).mpr ⟨hx,hr⟩⟩
theorem pw_ix {α:Type}{L:List α}{Q:α→α→Prop}(h:∀(i j:Nat) (a b:α),i<j→L[i]? = some a→L[j]? = some b→Q a b):L.Pairwise Q:=by
 rw[List.pairwise_iff_getElem]
 intro i j hi hj hij
 exact h i j _ _ hij (List.getElem?_eq_getElem hi) (List.getElem?_eq_getElem hj)
theorem IsCl.nodup {w R:Nat}{es:List (Int×τ)}{P:List (List (List (Int×τ)))}(hn:(es.map (·.1)).Nodup) (h:IsCl w R es P) (hw:1≤w):((flatP P).map (·.1)).Nodup:=by
 unfold flatP
 rw[List.nodup_iff_pairwise_ne,List.pairwise_map,List.pairwise_flatten]
 refine⟨fun l hl=>?_,?_⟩
 ·obtain⟨rows,hr,rfl⟩:=List.mem_map.mp hl
  obtain⟨r,e⟩:=List.getElem?_of_mem hr
  obtain⟨s,p1,p2,p3⟩:=h.2 r rows e
  rw[p3,rowsG_flat _ hw,← List.pairwise_map (f:=fun x:Int×τ=>x.1) (R:=fun a b=>a≠b),← List.nodup_iff_pairwise_ne]
  exact(p1.map _).nodup_iff.mpr (keys_filter hn _)
 ·rw[List.pairwise_map]
  refine pw_ix fun i j a b hij ha hb x hx y hy z=>?_
  have h1:=((h.room hw ha x).mp hx).2
  have h2:=((h.room hw hb y).mp hy).2
  rw[z]at h1
  omega
theorem nd_of_keys {es:List (Int×τ)}(hn:(es.map (·.1)).Nodup):es.Nodup:=by
 rw[List.nodup_iff_pairwise_ne]at hn ⊢
 rw[List.pairwise_map]at hn
 exact hn.imp fun h e=>h (by rw[e])
theorem IsCl.flat {w R:Nat}{es:List (Int×τ)}{P:List (List (List (Int×τ)))}(hn:(es.map (·.1)).Nodup) (h:IsCl w R es P) (hw:1≤w) (hR:1≤R):(flatP P).Perm es :=
 (List.perm_ext_iff_of_nodup (nd_of_keys (h.nodup hn hw)) (nd_of_keys hn)).mpr (h.mem hw hR)
end
theorem rowsVV_G (ms:List V) (w:Nat):rowsVV ms w=rowsG ms w:=rfl
theorem rowsG_mem {α:Type}{s:List α}{w:Nat}{r:List α}{x:α}(hr:r∈rowsG s w) (hx:x∈r):x∈s:=by
 unfold rowsG at hr
 obtain⟨i,_,rfl⟩:=List.mem_map.mp hr
 exact List.mem_of_mem_drop (List.mem_of_mem_take hx)
def yD (H:Hp) (X:List (List (List V))):List (List (List (Int×Str))):=X.map (rowsDD H)
theorem yD_keep {H H':Hp}{X:List (List (List V))}(kt:∀t xs,H t=some (.tup xs)→H' t=some (.tup xs)) (h:EnX H X):yD H' X=yD H X:=List.map_congr_left fun rows hr=>rowsDD_keep kt (h rows hr)
theorem flat_yD {H:Hp}{X:List (List (List V))}:flatP (yD H X) =(allV X).map (eD H):=by
 unfold flatP yD allV
 rw[List.map_flatten,List.map_map,List.map_map]
 congr 1
 apply List.map_congr_left
 intro rows _
 show(rowsDD H rows).flatten=List.map (eD H) rows.flatten
 rw[List.map_flatten];rfl
def pE (e:Int×Str):PyData:=.tuple [.int e.1,.str e.2]
def pRow (r:List (Int×Str)):PyData:=.list (r.map pE)
def pRows (r:List (List (Int×Str))):PyData:=.list (r.map pRow)
def pX (P:List (List (List (Int×Str)))):PyData:=.list (P.map pRows)
def pY (w R:Int) (P:List (List (List (Int×Str)))):PyData:=.tuple [.int w,.int R,pX P]
theorem eqv_pE (a b:Int×Str):PyData.eqv (pE a) (pE b)=decide (a=b):=by
 obtain⟨k,z⟩:=a
 obtain⟨k',z'⟩:=b
 rw[Bool.eq_iff_iff]
 simp[pE,PyData.eqv,PyData.eqvAll]
theorem eqvAll_map {α:Type} [DecidableEq α] {f:α→PyData}(hf:∀a b,PyData.eqv (f a) (f b)=decide (a=b)):∀xs ys:List α,PyData.eqvAll (xs.map f) (ys.map f)=decide (xs=ys)
 | [],[]=>by simp[PyData.eqvAll]
 | [],_::_=>by simp[PyData.eqvAll]
 | _::_,[]=>by simp[PyData.eqvAll]
 | x::xs,y::ys=>by
  rw[List.map_cons,List.map_cons,PyData.eqvAll,hf,eqvAll_map hf xs ys,Bool.eq_iff_iff]
  simp
theorem eqv_pRow (a b:List (Int×Str)):PyData.eqv (pRow a) (pRow b)=decide (a=b):=by
 unfold pRow;rw[PyData.eqv,eqvAll_map eqv_pE]
theorem dE_pE {H:Hp}{v:V}(h:En H v):dE H v=pE (eD H v):=by
 obtain⟨t,k,z,rfl,h1,h2⟩:=h
 rw[eD_at h1]
 show(match H t with|some (.tup [.int k,.str z])=>PyData.tuple [.int k,.str z] | _=>.none)=_
 rw[h1];rfl
theorem dRow_pRow {H:Hp}{es:List V}(h:∀v∈es,En H v):dRow H es=pRow (rowD H es):=by
 unfold dRow pRow rowD
 rw[List.map_map]
 congr 1
 exact List.map_congr_left fun v hv=>dE_pE (h v hv)
theorem dRows_pRows {H:Hp}{rows:List (List V)}(h:∀es∈rows,∀v∈es,En H v):dRows H rows=pRows (rowsDD H rows):=by
 unfold dRows pRows rowsDD
 rw[List.map_map]
 congr 1
 exact List.map_congr_left fun v hv=>dRow_pRow (h v hv)
theorem dX_pX {H:Hp}{X:List (List (List V))}(h:EnX H X):dX H X=pX (yD H X):=by
 unfold dX pX yD
 rw[List.map_map]
 congr 1
 exact List.map_congr_left fun v hv=>dRows_pRows (h v hv)
def EL (H:Hp) (ts:List Addr) (es:List (Int×Str)):Prop:=P1 (fun t e=>H t=some (.tup [.int e.1,.str e.2])∧PyData.strOk e.2=true∧0≤e.1∧e.1<1152921504606846976∧e.2.length≤100) ts es
theorem EL.same {H H':Hp}{ts:List Addr}{es:List (Int×Str)}(s:Same H H') (h:EL H ts es):EL H' ts es:=h.imp fun t e z=>⟨s _ _ z.1,z.2⟩
theorem EL.keep {H H':Hp}{ts:List Addr}{es:List (Int×Str)}(kt:∀t xs,H t=some (.tup xs)→H' t=some (.tup xs)) (h:EL H ts es):EL H' ts es:=h.imp fun t e z=>⟨kt _ _ z.1,z.2⟩
theorem EL.en {H:Hp}{ts:List Addr}{es:List (Int×Str)}(h:EL H ts es):∀v∈ts.map V.ref,En H v:=fun v hv=>by
 obtain⟨t,ht,rfl⟩:=List.mem_map.mp hv
 obtain⟨i,hi⟩:=List.getElem?_of_mem ht
 obtain⟨e,_,h1,h2⟩:=h.get hi
 exact⟨t,e.1,e.2,rfl,h1,h2⟩
theorem EL.row {H:Hp}{ts:List Addr}{es:List (Int×Str)}(h:EL H ts es):rowD H (ts.map V.ref)=es:=by
 refine List.ext_getElem? fun i=>?_
 unfold rowD
 rw[List.getElem?_map,List.getElem?_map]
 cases c:ts[i]? with
 | none =>
  have:=List.getElem?_eq_none_iff.mp c
  rw[List.getElem?_eq_none (by rw[← h.1];exact this)];rfl
 | some t =>
  obtain⟨e,he,h1,_⟩:=h.get c
  rw[he]
  show some (eD H (.ref t))=some e
  rw[eD_at h1]
theorem EL.of {H:Hp}{vs:List V}(h:∀v∈vs,En H v):∃ts:List Addr,vs=ts.map V.ref∧EL H ts (rowD H vs):=by
 obtain⟨ts,rfl⟩:=refs_of h
 refine⟨ts,rfl,by unfold rowD;rw[List.length_map,List.length_map],fun i t e e1 e2=>?_⟩
 unfold rowD at e2
 rw[List.getElem?_map,List.getElem?_map,e1]at e2
 have e3:eD H (.ref t)=e:=Option.some.inj e2
 obtain⟨t',et,h1,h2⟩:=(h (.ref t) (List.mem_map.mpr ⟨t,List.mem_of_getElem? e1,rfl⟩)).pt
 cases et
 rw[← e3]
 exact⟨h1,h2⟩
theorem En.rows {H:Hp}{X:List (List (List V))}(h:EnX H X):∀v∈allV X,En H v:=fun v hv=>by
 unfold allV at hv
 obtain⟨l,hl,hv⟩:=List.mem_flatten.mp hv
 obtain⟨rows,hr,rfl⟩:=List.mem_map.mp hl
 obtain⟨es,he,hv⟩:=List.mem_flatten.mp hv
 exact h rows hr es he v hv
theorem R3.rms {S:Addr→Prop}{H:Hp}{h:Addr}{X:List (List (List V))}(r:R3 S H h X):Rms H h X:=by
 obtain⟨bs,h1,h2,h3⟩:=r
 refine⟨bs,h1,h2,fun i a rows e1 e2=>?_⟩
 obtain⟨_,as,h4,h5,h6⟩:=h3 i a rows e1 e2
 exact⟨as,h4,h5,fun j a es e1 e2=>(h6 j a es e1 e2).2⟩
structure Sy (S:Addr→Prop) (H:Hp) (h:Addr) (bs:List Addr) (ass:List (List Addr)):Prop where
 hh:H h=some (.lst (bs.map V.ref))
 hb:P1 (fun b (as:List Addr)=>H b=some (.lst (as.map V.ref))) bs ass
 ha:∀a∈ass.flatten,∃es,H a=some (.lst es)
 nd:(h::(bs++ass.flatten)).Nodup
 ns:∀b∈h::(bs++ass.flatten),S b
def sp__law_cut (K:PySem.W.Frag):Sp:=fun vs H Q _=>∃(w:Nat) (a:Addr) (ts:List Addr) (es:List (Int×Str)),vs=[.int w,.ref a]∧H a=some (.lst (ts.map V.ref))∧EL H ts es∧(es.map (·.1)).Nodup∧es.length≤63∧1≤w∧w≤8 ∧
 ∀(l:Addr) (us:List Addr) (H':Hp),H l=none→us.Perm ts→((rowD H (us.map V.ref)).Pairwise fun a b=>a.1≤b.1)→RwsN H H' l (rowsVV (us.map V.ref) w)→Same H H'→Q (.ref l) H'
def sp__law_clean (K:PySem.W.Frag):Sp:=fun vs H Q _=>∃(w R:Nat) (a:Addr) (ts:List Addr) (es:List (Int×Str)),vs=[.int w,.int R,.ref a]∧H a=some (.lst (ts.map V.ref))∧EL H ts es∧(es.map (·.1)).Nodup∧es.length≤63∧1≤w∧w≤8∧1≤R∧R≤131 ∧
 ∀(y:Addr) (X:List (List (List V))) (H':Hp),Yq H' y w R X→IsCl w R es (yD H' X)→Same H H'→Q (.ref y) H'
theorem rowsG_le {α:Type}{s:List α}{w:Nat}(w1:1≤w):(rowsG s w).length≤s.length+1:=by
 rw[rowsG_len]
 obtain⟨g1,g2,g3⟩:=up_div (g:=rfor s.length w) (w:=w) (m:=s.length) (by omega) (by omega) rfl
 rcases g3 with z|z
 ·omega
 ·by_cases q:rfor s.length w≤s.length+1
  ·omega
  ·have:(1:Int)*(rfor s.length w-1)≤w*(rfor s.length w-1):=Int.mul_le_mul_of_nonneg_right (by omega) (by omega)
   omega
theorem ix_snoc {α β:Type}{p:Nat→α→β→Prop}{as:List α}{bs:List β}{a:α}{b:β}{i:Nat}(hl:as.length=i) (hl2:bs.length=i) (h:∀j a b,as[j]? = some a→bs[j]? = some b→p j a b) (hd:p i a b):∀j a' b',(as ++ [a])[j]? = some a'→(bs ++ [b])[j]? = some b'→p j a' b':=by
 intro j a' b' e1 e2
 by_cases z:j<as.length
 ·rw[List.getElem?_append_left z]at e1
  rw[List.getElem?_append_left (by omega)]at e2
  exact h j a' b' e1 e2
 ·have kl:=(List.getElem?_eq_some_iff.mp e1).1
  rw[List.length_append]at kl
  have hk:j=i:=by have:[a].length=1:=rfl;omega
  subst hk
  rw[List.getElem?_append_right (by omega),show j-as.length=0 by omega]at e1
  rw[List.getElem?_append_right (by omega),show j-bs.length=0 by omega]at e2
  cases e1;cases e2
  exact hd
theorem RwsN.rws {H0 H:Hp}{l:Addr}{X:List (List V)}(h:RwsN H0 H l X):Rws H l X:=by
 obtain⟨as,h1,h2,h3,_⟩:=h
 exact⟨as,h1,h2,h3⟩
theorem Rws.r2 {H:Hp}{l:Addr}{X:List (List V)}(h:Rws H l X):R2 (fun _=>True) H l X:=by
 obtain⟨as,h1,h2,h3⟩:=h
 exact⟨trivial,as,h1,h2,fun i a es e1 e2=>⟨trivial,h3 i a es e1 e2⟩⟩
theorem clean_is {H:Hp}{ts:List Addr}{es:List (Int×Str)}{w R:Nat}{h:Addr}{ls:List Addr}{uss:List (List Addr)}(el:EL H ts es) (nd:(es.map (·.1)).Nodup) (hl:es.length≤63) (w1:1≤w) (r1:1≤R) (r2:R≤131)
  (hh:H h=some (.lst (ls.map V.ref))) (l1:ls.length=R) (l2:uss.length=R)
  (hu:∀(j:Nat) (l:Addr) (us:List Addr),ls[j]? = some l→uss[j]? = some us→us.Perm (ts.filter fun t=>decide (roomV (kE H t) R =(j:Int)))∧((rowD H (us.map V.ref)).Pairwise fun a b=>a.1≤b.1)∧Rws H l (rowsVV (us.map V.ref) w)) :
  ∃X,R3 (fun _=>True) H h X∧EnX H X∧SzQ X∧IsCl w R es (yD H X):=by
 have er:=el.row
 have hen:EnX H (uss.map fun us=>rowsG (us.map V.ref) w):=by
  intro rows hr es' he v hv
  obtain⟨us,hm,rfl⟩:=List.mem_map.mp hr
  obtain⟨j,hj⟩:=List.getElem?_of_mem hm
  have jl:=(List.getElem?_eq_some_iff.mp hj).1
  obtain⟨p1,_,_⟩:=hu j _ us (List.getElem?_eq_getElem (by omega)) hj
  obtain⟨t,ht,rfl⟩:=List.mem_map.mp (rowsG_mem he hv)
  exact el.en _ (List.mem_map.mpr ⟨t,(List.mem_filter.mp (p1.mem_iff.mp ht)).1,rfl⟩)
 have hcl:IsCl w R es (yD H (uss.map fun us=>rowsG (us.map V.ref) w)):=by
  refine⟨by unfold yD;rw[List.length_map,List.length_map,l2],fun j rows e=>?_⟩
  unfold yD at e
  rw[List.getElem?_map,List.getElem?_map]at e
  cases c:uss[j]? with
  | none=>rw[c]at e;cases e
  | some us =>
   rw[c]at e
   have e2:rowsDD H (rowsG (us.map V.ref) w)=rows:=Option.some.inj e
   have jl:=(List.getElem?_eq_some_iff.mp c).1
   obtain⟨p1,p2,_⟩:=hu j _ us (List.getElem?_eq_getElem (by omega)) c
   refine⟨rowD H (us.map V.ref),?_,p2,?_⟩
   ·have p3:=(p1.map V.ref).map (eD H)
    refine p3.trans ?_
    rw[← er]
    unfold rowD
    rw[List.map_map,List.map_map,List.filter_map]
    exact .refl _
   ·rw[← e2]
    unfold rowsDD
    rw[show rowD H=List.map (eD H) from rfl,rowsG_map]
 refine⟨_,⟨ls,hh,by rw[List.length_map];omega,fun j l rows e1 e2=>?_⟩,hen,⟨by rw[List.length_map];omega,fun rows hr=>?_,?_⟩,hcl⟩
 ·rw[List.getElem?_map]at e2
  cases c:uss[j]? with
  | none=>rw[c]at e2;cases e2
  | some us =>
   rw[c]at e2
   cases e2
   exact(hu j l us e1 c).2.2.r2
 ·obtain⟨us,hm,rfl⟩:=List.mem_map.mp hr
  obtain⟨j,hj⟩:=List.getElem?_of_mem hm
  have jl:=(List.getElem?_eq_some_iff.mp hj).1
  obtain⟨p1,_,_⟩:=hu j _ us (List.getElem?_eq_getElem (by omega)) hj
  have h1:=rowsG_le (s:=us.map V.ref) w1
  have h2:=List.length_filter_le (fun t=>decide (roomV (kE H t) R =(j:Int))) ts
  rw[List.length_map,p1.length_eq]at h1
  have:=el.1
  omega
 ·have hf:=(hcl.flat nd w1 r1).length_eq
  rw[flat_yD,List.length_map]at hf
  omega
def unB (H:Hp) (os:List (List V)) (es:List V) (i:Nat):Bool:=match os[i]? with
 | none=>true
 | some o=>!decide (rowD H o=rowD H es)
def unl (H:Hp) (r:Nat) (os ns:List (List V)):Nat→List St3
 | 0=>[]
 | k+1=>unl H r os ns k++(match ns[k]? with
  | some es=>if unB H os es k=true then [.row r k es] else []
  | none=>[])
theorem unl_yes {H:Hp}{r:Nat}{os ns:List (List V)}{k:Nat}{es:List V}(h:ns[k]? = some es) (c:unB H os es k=true):unl H r os ns (k+1)=unl H r os ns k ++ [.row r k es]:=by
 show unl H r os ns k++(match ns[k]? with|some es=>if unB H os es k=true then [St3.row r k es] else [] | none=>[])=_
 rw[h]
 show unl H r os ns k++(if unB H os es k=true then [St3.row r k es] else [])=_
 rw[if_pos c]
theorem unl_no {H:Hp}{r:Nat}{os ns:List (List V)}{k:Nat}{es:List V}(h:ns[k]? = some es) (c:unB H os es k=false):unl H r os ns (k+1)=unl H r os ns k:=by
 show unl H r os ns k++(match ns[k]? with|some es=>if unB H os es k=true then [St3.row r k es] else [] | none=>[])=_
 rw[h]
 show unl H r os ns k++(if unB H os es k=true then [St3.row r k es] else [])=_
 rw[if_neg (by rw[c];exact nofun),List.append_nil]
def RowsOk (H:Hp) (X:List (List V)):Prop:=X.length≤130∧∀es∈X,es.length≤8∧∀v∈es,En H v
theorem RowsOk.same {H H':Hp}{X:List (List V)}(s:Same H H') (h:RowsOk H X):RowsOk H' X:=⟨h.1,fun es he=>⟨(h.2 es he).1,fun v hv=>((h.2 es he).2 v hv).keep fun _ _ e=>s _ _ e⟩⟩
theorem row_gd {K:PySem.W.Frag}{H:Hp}{a:Addr}{es:List V}(h:H a=some (.lst es)) (en:∀v∈es,En H v):GD K H 2 (.ref a) (pRow (rowD H es)):=by
 rw[← dRow_pRow en]
 exact GD.lst h (gds_en en)
def OkD (H:Hp) (b D D0:Addr):Prop:=D0=D ∨((∃xs,H D0=some (.lst xs))∧∀bs:List Addr,H b=some (.lst (bs.map V.ref))→D0∉bs)
def Pst (H H':Hp) (b D:Addr) (ss:List Addr) (sts:List St3):Prop:=∀D0,OkD H b D D0→P1 (StA (hid D0 (hid D H'))) ss sts
theorem hid_hid {D:Addr}{H:Hp}:hid D (hid D H)=hid D H:=by
 funext b
 unfold hid
 split <;> rfl
theorem Pst.plain {H H':Hp}{b D:Addr}{ss:List Addr}{sts:List St3}(h:Pst H H' b D ss sts):P1 (StA (hid D H')) ss sts:=by
 have:=h D (.inl rfl)
 rw[hid_hid]at this;exact this
theorem hid2_ne {D D0 x:Addr}{H:Hp}(n:x≠D) (n0:x≠D0):hid D0 (hid D H) x=H x:=by rw[hid_ne n0,hid_ne n]
theorem OkD.new {H H3:Hp}{b D D0 x:Addr}(ok:OkD H b D D0) (s:Same H H3) (n:H3 x=none) (nD:x≠D):x≠D0:=fun z=>by
 rcases ok with e|⟨⟨xs,e⟩,_⟩
 ·exact nD (z.trans e)
 ·rw[z,s _ _ e]at n;cases n
theorem OkD.tup {H:Hp}{b D D0 x:Addr}{xs:List V}(ok:OkD H b D D0) (h:H x=some (.tup xs)) (nD:x≠D):x≠D0:=fun z=>by
 rcases ok with e|⟨⟨xs,e⟩,_⟩
 ·exact nD (z.trans e)
 ·rw[z,e]at h;cases h
theorem OkD.row {H:Hp}{b D D0 x:Addr}{bs:List Addr}(ok:OkD H b D D0) (hb:H b=some (.lst (bs.map V.ref))) (m:x∈bs) (nD:x≠D):x≠D0:=fun z=>by
 rcases ok with e|⟨_,e⟩
 ·exact nD (z.trans e)
 ·exact e bs hb (z ▸ m)
def sp_unlike_rows (K:PySem.W.Frag):Sp:=fun vs H Q _=>∃(r:Nat) (a b:Addr) (os ns:List (List V)),vs=[.int r,.ref a,.ref b]∧Rws H a os∧Rws H b ns∧RowsOk H os∧RowsOk H ns∧r≤129 ∧
 ∀(D:Addr) (ss:List Addr) (H':Hp),H D=none→H' D=some (.lst (ss.map V.ref))→Pst H H' b D ss (unl H r os ns ns.length)→Same H H'→Q (.ref D) H'
def onS (H:Hp) (r:Nat) (os ns:List (List V)):List St3:=unl H r os ns ns.length++(if os.length > ns.length then [.cut r ns.length] else [])
def sp_onward (K:PySem.W.Frag):Sp:=fun vs H Q _=>∃(r:Nat) (a b:Addr) (os ns:List (List V)),vs=[.int r,.ref a,.ref b]∧Rws H a os∧Rws H b ns∧RowsOk H os∧RowsOk H ns∧r≤129 ∧
 ∀(D:Addr) (ss:List Addr) (H':Hp),H D=none→H' D=some (.lst (ss.map V.ref))→Pst H H' b D ss (onS H r os ns)→Same H H'→Q (.ref D) H'
def sp_backward (K:PySem.W.Frag):Sp:=fun vs H Q _=>∃(r:Nat) (a b:Addr) (os ns:List (List V)),vs=[.int r,.ref a,.ref b]∧Rws H a os∧Rws H b ns∧RowsOk H os∧RowsOk H ns∧r≤129 ∧
 ∀(D:Addr) (ss:List Addr) (H':Hp),H D=none→H' D=some (.lst (ss.map V.ref))→Pst H H' b D ss (unl H r os ns ns.length).reverse→Same H H'→Q (.ref D) H'
def othV (H:Hp) (X:List (List V)) (k:Int):List V:=X.flatten.filter fun v=>!decide ((eD H v).1=k)
def sp_others_in (K:PySem.W.Frag):Sp:=fun vs H Q _=>∃(a:Addr) (X:List (List V)) (k:Int),vs=[.ref a,.int k]∧Rws H a X∧X.flatten.length≤600∧(∀es∈X,∀v∈es,En H v) ∧
 ∀(D:Addr) (H':Hp),H D=none→H' D=some (.lst (othV H X k))→Same H H'→Q (.ref D) H'
theorem unl_keep {H H':Hp}{r:Nat}{os ns:List (List V)}(kt:∀t xs,H t=some (.tup xs)→H' t=some (.tup xs)) (eo:∀es∈os,∀v∈es,En H v) (en:∀es∈ns,∀v∈es,En H v):∀k:Nat,unl H' r os ns k=unl H r os ns k
 | 0=>rfl
 | k+1=>by
  have ih:=unl_keep (r:=r) kt eo en k
  show unl H' r os ns k++(match ns[k]? with|some es=>if unB H' os es k=true then [St3.row r k es] else [] | none=>[])=unl H r os ns k++(match ns[k]? with|some es=>if unB H os es k=true then [St3.row r k es] else [] | none=>[])
  rw[ih]
  cases e:ns[k]? with
  | none=>rfl
  | some es =>
   have eb:unB H' os es k=unB H os es k:=by
    unfold unB
    cases e2:os[k]? with
    | none=>rfl
    | some o =>
     show(!decide (rowD H' o=rowD H' es)) = !decide (rowD H o=rowD H es)
     rw[rowD_keep kt (eo o (List.mem_of_getElem? e2)),rowD_keep kt (en es (List.mem_of_getElem? e))]
   show unl H r os ns k++(if unB H' os es k=true then [St3.row r k es] else [])=unl H r os ns k++(if unB H os es k=true then [St3.row r k es] else [])
   rw[eb]
theorem own_rws {H H1:Hp}{bs:List Addr}{X:List (List (List V))}{o:Addr}{k R:Int}{r:Nat}(hP:P1 (R2 (fun _=>True) H) bs X) (er:roomV k R =(r:Int)) (s1:Same H H1) (ho:bs[r]? = some o ∨(bs.length≤r∧H1 o=some (.lst []))):Rws H1 o (ownR X k R):=by
 have ex:(roomV k R).toNat=r:=by omega
 have bl:=hP.1
 rcases ho with ho|⟨ho,h1⟩
 ·obtain⟨rows,hx,_,as,h2,h3⟩:=hP.get ho
  unfold ownR
  rw[ex,hx]
  exact⟨as,s1 _ _ h2,h3.1,fun i a es e1 e2=>s1 _ _ (h3.2 i a es e1 e2).2⟩
 ·unfold ownR
  rw[ex,List.getElem?_eq_none (by omega)]
  exact⟨[],h1,rfl,fun i a es e=>by simp at e⟩
theorem oth_en {H:Hp}{X:List (List V)}{k:Int}(en:∀es∈X,∀v∈es,En H v):∀v∈othV H X k,En H v:=fun v hv=>by
 obtain⟨es,he,hm⟩:=List.mem_flatten.mp (List.mem_filter.mp hv).1
 exact en es he v hm
theorem oth_ne {H:Hp}{X:List (List V)}{k:Int}:∀v∈othV H X k,(eD H v).1≠k:=fun v hv e=>by
 have:=(List.mem_filter.mp hv).2
 rw[e]at this
 simp at this
theorem oth_len {H:Hp}{X:List (List V)}{k:Int}:(othV H X k).length≤X.flatten.length:=List.length_filter_le _ _
theorem rows46 {H:Hp}{us:List V}{w:Nat}(w1:1≤w) (w2:w≤8) (ul:us.length≤120) (en:∀v∈us,En H v):RowsOk H (rowsG us w):=by
 refine⟨Nat.le_trans (rowsG_le w1) (by omega),fun es he=>⟨?_,fun v hv=>en v (rowsG_mem he hv)⟩⟩
 unfold rowsG at he
 obtain⟨i,_,rfl⟩:=List.mem_map.mp he
 rw[List.length_take];omega
def sp_putting (K:PySem.W.Frag):Sp:=fun vs H Q _=>∃(y:Addr) (w R:Nat) (X:List (List (List V))) (k:Int) (z:Str),vs=[.ref y,.int k,.str z]∧Yd H y w R X∧(0≤k∧k<1152921504606846976)∧(PyData.strOk z=true∧z.length≤100)∧1≤w∧w≤8∧1≤R∧R≤130∧RowsOk H (ownR X k R)∧(ownR X k R).flatten.length≤60∧((rowD H (ownR X k R).flatten).map (·.1)).Nodup ∧
 ∀(D:Addr) (ss:List Addr) (t:Addr) (us:List V) (H':Hp),H D=none→H' D=some (.lst (ss.map V.ref))→H' t=some (.tup [.int k,.str z])→us.Perm (othV H (ownR X k R) k ++ [.ref t])→((rowD H' us).Pairwise fun a b=>a.1<b.1)→P1 (StA (hid D H')) ss (unl H' (roomV k R).toNat (ownR X k R) (rowsG us w) (rowsG us w).length).reverse→Same H H'→Q (.ref D) H'
def sp_dropping (K:PySem.W.Frag):Sp:=fun vs H Q E=>∃(y:Addr) (w R:Nat) (X:List (List (List V))) (k:Int),vs=[.ref y,.int k]∧Yd H y w R X∧1≤w∧w≤8∧1≤R∧R≤130∧RowsOk H (ownR X k R)∧(ownR X k R).flatten.length≤60 ∧
 (k∈(rowD H (ownR X k R).flatten).map (·.1)→∀(D:Addr) (ss:List Addr) (H':Hp),H D=none→H' D=some (.lst (ss.map V.ref))→P1 (StA (hid D H')) ss (onS H (roomV k R).toNat (ownR X k R) (rowsG (othV H (ownR X k R) k) w))→Same H H'→Q (.ref D) H') ∧
 (k∉(rowD H (ownR X k R).flatten).map (·.1)→∀H3 u C,Same H H3→RelV (.int k) u→PySem.W.nsIn K mainGlobals "Lacking" = some (some (.ref C))→E u (some C) H3)
theorem unl_len {H:Hp}{r:Nat}{os ns:List (List V)}:∀k:Nat,(unl H r os ns k).length≤k
 | 0=>Nat.le_refl 0
 | k+1=>by
  have ih:=unl_len (H:=H) (r:=r) (os:=os) (ns:=ns) k
  show(unl H r os ns k++(match ns[k]? with|some es=>if unB H os es k=true then [St3.row r k es] else [] | none=>[])).length≤k+1
  rw[List.length_append]
  have:(match ns[k]? with|some es=>if unB H os es k=true then [St3.row r k es] else [] | none=>[]).length≤1:=by
   split
   ·split <;> simp
   ·simp
  omega
def sp__law_near (K:PySem.W.Frag):Sp:=fun vs H Q _=>∃(p:Addr) (N:Nat) (n g:Int),vs=[.ref p,.int n,.int g]∧Hand H p N∧N+20000<2^60∧0≤n∧n≤125∧1≤g∧g≤16 ∧
 ∀(l:Addr) (ts:List Addr) (es:List (Int×Str)) (H':Hp),H l=none→H' l=some (.lst (ts.map V.ref))→EL H' ts es→(es.map (·.1)).Nodup→(es.length:Int)=n→Hand H' p (N+10000)→Kp H H' p→Q (.ref l) H'
def sp__law_spoilt (K:PySem.W.Frag):Sp:=fun vs H Q _=>∃(p y:Addr) (N w R:Nat) (X:List (List (List V))),vs=[.ref p,.ref y]∧Hand H p N∧N+100<2^60∧Yq H y w R X∧1≤w∧w≤8∧1≤R∧R≤130∧X.length=R∧(∀rows∈X,rows ≠ []∧rows.length≤150)∧(allV X).length≤150∧((flatP (yD H X)).map (·.1)).Nodup ∧
 ∀(y':Addr) (w' R':Nat) (X':List (List (List V))) (H':Hp),Yq H' y' w' R' X'→1≤w'→w'≤8→1≤R'→R'≤130→Hand H' p (N+50)→Kp H H' p→Q (.ref y') H'
theorem free16 {ks:List Int}(hl:ks.length<1000) (v:Int):∃m:Nat,(v+16*m)%1152921504606846976∉ks:=by
 by_cases c:∃m:Nat,(v+16*m)%1152921504606846976∉ks
 ·exact c
 ·have all:∀m:Nat,(v+16*m)%1152921504606846976∈ks:=fun m=>Classical.not_not.mp fun z=>c ⟨m,z⟩
  have hn:((List.range (ks.length+1)).map fun(j:Nat)=>(v+16*j)%1152921504606846976).Nodup:=by
   rw[List.nodup_iff_pairwise_ne,List.pairwise_map]
   refine List.Pairwise.imp_of_mem ?_ List.nodup_range
   intro a b ha hb hab e
   have h1:=List.mem_range.mp ha
   have h2:=List.mem_range.mp hb
   omega
  have:=sub_len hn (fun x hx=>by
   obtain⟨j,_,rfl⟩:=List.mem_map.mp hx
   exact all j)
  rw[List.length_map,List.length_range]at this
  omega
def Ws (l:List (Int×Str)):Prop:=l.Pairwise fun a b=>a.1≤b.1
theorem trim_split {α:Type}(Y:List (List α)):∃n:Nat,Y=trim Y++List.replicate n []:=by
 refine⟨(Y.reverse.takeWhile (·.isEmpty)).length,?_⟩
 have e:=List.takeWhile_append_dropWhile (p:=fun r:List α=>r.isEmpty) (l:=Y.reverse)
 have e2:=congrArg List.reverse e
 rw[List.reverse_append,List.reverse_reverse]at e2
 have e3:(Y.reverse.takeWhile (·.isEmpty)).reverse=List.replicate (Y.reverse.takeWhile (·.isEmpty)).length []:=by
  refine List.eq_replicate_iff.mpr ⟨List.length_reverse,fun r hr=>?_⟩
  have:=List.all_eq_true.mp (List.all_takeWhile (p:=fun r:List α=>r.isEmpty) (l:=Y.reverse)) r (List.mem_reverse.mp hr)
  simpa using this
 rw[e3]at e2
 exact e2.symm
theorem trim_at {α:Type}(Y:List (List α)) (i:Nat):((trim Y)[i]?).getD [] =(Y[i]?).getD []:=by
 obtain⟨n,e⟩:=trim_split Y
 conv=>rhs;rw[e]
 by_cases c:i <(trim Y).length
 ·rw[List.getElem?_append_left c]
 ·rw[List.getElem?_eq_none (by omega),List.getElem?_append_right (by omega),List.getElem?_replicate]
  split <;> rfl
theorem pad_at {α:Type}(Y:List (List α)) (n i:Nat):((pad Y n)[i]?).getD [] =(Y[i]?).getD []:=by
 unfold pad
 by_cases c:i<Y.length
 ·rw[List.getElem?_append_left c]
 ·rw[List.getElem?_eq_none (l:=Y) (by omega),List.getElem?_append_right (by omega),List.getElem?_replicate]
  split <;> rfl
def stepR (rows:List (List V)):St3→List (List V)
 | .rooms _=>rows
 | .cut _ m=>rows.take m
 | .row _ a es=>(pad rows (a+1)).set a es
def inRoom (r:Nat):St3→Prop
 | .rooms _=>False
 | .cut r' _=>r'=r
 | .row r' _ _=>r'=r
def atR (X:List (List (List V))) (i:Nat):List (List V):=(X[i]?).getD []
theorem at_do {X:List (List (List V))}{st:St3}{i r:Nat}(h:inRoom r st):atR (doX X st) i=if i=r then stepR (atR X i) st else atR X i:=by
 rw[doX_eq]
 unfold atR
 rw[trim_at]
 cases st with
 | rooms n=>exact h.elim
 | cut r' m =>
  have h:r'=r:=h
  subst h
  show(((X.modify r' (List.take m)))[i]?).getD []=if i=r' then((X[i]?).getD []).take m else _
  rw[List.getElem?_modify]
  by_cases c:i=r'
  ·rw[if_pos c]
   cases e:X[i]? with
   | none=>simp
   | some x=>simp[c]
  ·rw[if_neg c]
   cases e:X[i]? with
   | none=>simp
   | some x=>simp[Ne.symm c]
 | row r' a es =>
  have h:r'=r:=h
  subst h
  show(((rowX X r' a es))[i]?).getD []=if i=r' then(pad ((X[i]?).getD []) (a+1)).set a es else _
  unfold rowX
  rw[List.getElem?_modify]
  by_cases c:i=r'
  ·rw[if_pos c]
   have pl:=pad_len (X:=X) (n:=r'+1)
   have e1:=pad_at X (r'+1) i
   cases e:(pad X (r'+1))[i]? with
   | none=>exact absurd (List.getElem?_eq_none_iff.mp e) (by omega)
   | some x =>
    rw[e]at e1
    have e2:x =(X[i]?).getD []:=e1
    rw[← e2]
    simp[c]
  ·rw[if_neg c,← pad_at X (r'+1) i]
   cases e:(pad X (r'+1))[i]? with
   | none=>simp
   | some x=>simp[Ne.symm c]
theorem at_steps {i r:Nat}:∀{sts:List St3}{X:List (List (List V))},(∀st∈sts,inRoom r st)→atR (sts.foldl doX X) i=if i=r then sts.foldl stepR (atR X i) else atR X i
 | [],X,_=>by
  show atR X i=if _ then atR X i else _
  split <;> rfl
 | st::sts,X,h=>by
  show atR (sts.foldl doX (doX X st)) i=if _ then sts.foldl stepR (stepR (atR X i) st) else _
  rw[at_steps fun s hs=>h s (List.mem_cons_of_mem _ hs),at_do (h st (List.mem_cons_self ..))]
  split <;> rfl
theorem do_len {X:List (List (List V))}{st:St3}{r n:Nat}(h:inRoom r st) (hr:r<n) (hx:X.length≤n):(doX X st).length≤n:=by
 rw[doX_eq]
 refine Nat.le_trans trim_sub.2 ?_
 cases st with
 | rooms m=>exact h.elim
 | cut r' m=>show(X.modify r' (List.take m)).length≤n;rw[List.length_modify];exact hx
 | row r' a es =>
  have h:r'=r:=h
  show(rowX X r' a es).length≤n
  unfold rowX
  rw[List.length_modify]
  have:=pad_len (X:=X) (n:=r'+1)
  omega
theorem steps_len {r n:Nat}(hr:r<n):∀{sts:List St3}{X:List (List (List V))},(∀st∈sts,inRoom r st)→X.length≤n→(sts.foldl doX X).length≤n
 | [],_,_,h=>h
 | st::sts,X,h,hx=>steps_len hr (sts:=sts) (X:=doX X st) (fun s hs=>h s (List.mem_cons_of_mem _ hs)) (do_len (h st (List.mem_cons_self ..)) hr hx)
theorem rowsDD_len {H:Hp}{rows:List (List V)}:(rowsDD H rows).length=rows.length:=by unfold rowsDD;rw[List.length_map]
theorem rowsDD_at {H:Hp}{rows:List (List V)}{i:Nat}:(rowsDD H rows)[i]? =(rows[i]?).map (rowD H):=by unfold rowsDD;rw[List.getElem?_map]
theorem on_mix {H:Hp}{r:Nat}{os ns:List (List V)}(hl:ns.length≤os.length):∀p:Nat,p≤ns.length→rowsDD H ((unl H r os ns p).foldl stepR os) =(rowsDD H ns).take p++(rowsDD H os).drop p
 | 0,_=>by
  show rowsDD H os=_
  rw[List.take_zero,List.drop_zero,List.nil_append]
 | p+1,hp=>by
  have ih:=on_mix (H:=H) (r:=r) hl p (by omega)
  obtain⟨es,hes⟩ : ∃es,ns[p]? = some es:=⟨_,List.getElem?_eq_getElem (by omega)⟩
  obtain⟨o,ho⟩ : ∃o,os[p]? = some o:=⟨_,List.getElem?_eq_getElem (by omega)⟩
  have hn:(rowsDD H ns)[p]? = some (rowD H es):=by rw[rowsDD_at,hes];rfl
  have hd:(rowsDD H os)[p]? = some (rowD H o):=by rw[rowsDD_at,ho];rfl
  have ub:unB H os es p = !decide (rowD H o=rowD H es):=by unfold unB;rw[ho]
  rw[take_get hn,List.append_assoc]
  rw[drop_get hd]at ih
  by_cases c:rowD H o=rowD H es
  ·rw[unl_no hes (by rw[ub,decide_eq_true c];rfl),ih,c];rfl
  ·rw[unl_yes hes (by rw[ub,decide_eq_false c];rfl),List.foldl_append]
   show rowsDD H ((pad ((unl H r os ns p).foldl stepR os) (p+1)).set p es)=_
   have ll:=congrArg List.length ih
   rw[rowsDD_len,List.length_append,List.length_take,List.length_cons,List.length_drop,rowsDD_len,rowsDD_len]at ll
   rw[pad_done (by omega)]
   unfold rowsDD at ih ⊢
   rw[List.map_set,ih]
   have tl:((ns.map (rowD H)).take p).length=p:=by rw[List.length_take,List.length_map];omega
   rw[List.set_append_right _ _ (by omega),tl,Nat.sub_self];rfl
theorem unl_room {H:Hp}{r:Nat}{os ns:List (List V)}:∀(p:Nat),∀st∈unl H r os ns p,inRoom r st
 | 0,st,h=>absurd h List.not_mem_nil
 | p+1,st,h=>by
  have ih:=unl_room (H:=H) (r:=r) (os:=os) (ns:=ns) p st
  cases e:ns[p]? with
  | none =>
   have e1:unl H r os ns (p+1)=unl H r os ns p:=by
    show unl H r os ns p++(match ns[p]? with|some es=>if unB H os es p=true then [St3.row r p es] else [] | none=>[])=_
    rw[e];exact List.append_nil _
   rw[e1]at h;exact ih h
  | some es =>
   cases c:unB H os es p with
   | false=>rw[unl_no e c]at h;exact ih h
   | true =>
    rw[unl_yes e c]at h
    rcases List.mem_append.mp h with h|h
    ·exact ih h
    ·rw[List.mem_singleton.mp h];rfl
def unlF (H:Hp) (r:Nat) (os ns:List (List V)) (p n:Nat):List St3:=(unl H r os ns n).drop (unl H r os ns p).length
theorem unl_app {H:Hp}{r:Nat}{os ns:List (List V)}(p:Nat):∀d:Nat,∃m,unl H r os ns (p+d)=unl H r os ns p++m
 | 0=>⟨[],by rw[List.append_nil];rfl⟩
 | d+1=>by
  obtain⟨m,e⟩:=unl_app (H:=H) (r:=r) (os:=os) (ns:=ns) p d
  refine⟨m++(match ns[p+d]? with|some es=>if unB H os es (p+d)=true then [St3.row r (p+d) es] else [] | none=>[]),?_⟩
  rw[← List.append_assoc,← e];rfl
theorem unlF_eq {H:Hp}{r:Nat}{os ns:List (List V)}{p n:Nat}(h:p≤n):unl H r os ns n=unl H r os ns p++unlF H r os ns p n:=by
 obtain⟨m,e⟩:=unl_app (H:=H) (r:=r) (os:=os) (ns:=ns) p (n-p)
 rw[show p+(n-p)=n by omega]at e
 unfold unlF
 rw[e,List.drop_left]
theorem unlF_last {H:Hp}{r:Nat}{os ns:List (List V)}{n:Nat}:unlF H r os ns n n=[]:=by unfold unlF;rw[List.drop_length]
theorem unlF_yes {H:Hp}{r:Nat}{os ns:List (List V)}{p n:Nat}{es:List V}(h:p<n) (he:ns[p]? = some es) (c:unB H os es p=true):unlF H r os ns p n = .row r p es::unlF H r os ns (p+1) n:=by
 have e1:=unlF_eq (H:=H) (r:=r) (os:=os) (ns:=ns) (show p≤n by omega)
 have e2:=unlF_eq (H:=H) (r:=r) (os:=os) (ns:=ns) (show p+1≤n by omega)
 rw[unl_yes he c,List.append_assoc]at e2
 exact List.append_cancel_left (e1.symm.trans e2)
theorem unlF_no {H:Hp}{r:Nat}{os ns:List (List V)}{p n:Nat}{es:List V}(h:p<n) (he:ns[p]? = some es) (c:unB H os es p=false):unlF H r os ns p n=unlF H r os ns (p+1) n:=by
 have e1:=unlF_eq (H:=H) (r:=r) (os:=os) (ns:=ns) (show p≤n by omega)
 have e2:=unlF_eq (H:=H) (r:=r) (os:=os) (ns:=ns) (show p+1≤n by omega)
 rw[unl_no he c]at e2
 exact List.append_cancel_left (e1.symm.trans e2)
theorem own_en {H:Hp}{X:List (List (List V))}{k R:Int}(h:EnX H X):∀es∈ownR X k R,∀v∈es,En H v:=fun es he=>by
 unfold ownR at he
 cases e:X[(roomV k R).toNat]? with
 | none=>rw[e]at he;exact absurd he List.not_mem_nil
 | some x=>rw[e]at he;exact h x (List.mem_of_getElem? e) es he
def stX (X:List (List (List V))) (sts:List St3) (j:Nat):List (List (List V)):=(sts.take j).foldl doX X
theorem ws_of {l:List (Int×Str)}(h:l.Pairwise fun a b=>a.1<b.1):Ws l:=h.imp fun h=>Int.le_of_lt h
theorem yD_at {H:Hp}{X:List (List (List V))}{r:Nat}:(yD H X)[r]? =(X[r]?).map (rowsDD H):=by unfold yD;rw[List.getElem?_map]
theorem cl_own {H:Hp}{X:List (List (List V))}{w R:Nat}{es:List (Int×Str)}{k:Int}(h:IsCl w R es (yD H X)) (hn:(es.map (·.1)).Nodup) (hR:1≤R):∃s,s.Perm (es.filter fun e=>decide (roomV e.1 R=roomV k R))∧(s.Pairwise fun a b=>a.1<b.1)∧rowsDD H (ownR X k R)=rowsG s w:=by
 have rb:=roomV_lt (k:=k) (R:=(R:Int)) (by omega)
 obtain⟨r,hr⟩ : ∃r:Nat,roomV k R =(r:Int):=⟨(roomV k R).toNat,by omega⟩
 have xl:X.length=R:=by have:=h.1;unfold yD at this;rw[List.length_map]at this;exact this
 obtain⟨rows,hx⟩ : ∃rows,X[r]? = some rows:=⟨_,List.getElem?_eq_getElem (by omega)⟩
 obtain⟨s,p1,p2,p3⟩:=h.2 r (rowsDD H rows) (by rw[yD_at,hx];rfl)
 refine⟨s,by rw[hr];exact p1,?_,?_⟩
 ·have nd:(s.map (·.1)).Nodup:=(p1.map _).nodup_iff.mpr (keys_filter hn _)
  exact List.pairwise_map.mp (le_lt (List.pairwise_map.mpr p2) nd)
 ·unfold ownR
  rw[hr,Int.toNat_natCast,hx];exact p3
theorem srt_split {s:List (Int×Str)}(h:s.Pairwise fun a b=>a.1<b.1) (k:Int):∃U A W,s=U++A++W∧(∀x∈U,x.1<k)∧(∀x∈W,k<x.1)∧(A=[] ∨ ∃x,A=[x]∧x.1=k):=by
 induction s with
 | nil=>exact⟨[],[],[],rfl,fun _ h=>absurd h List.not_mem_nil,fun _ h=>absurd h List.not_mem_nil,.inl rfl⟩
 | cons e s ih =>
  obtain⟨h1,h2⟩:=List.pairwise_cons.mp h
  rcases Int.lt_trichotomy e.1 k with c|c|c
  ·obtain⟨U,A,W,e1,e2,e3,e4⟩:=ih h2
   refine⟨e::U,A,W,by rw[e1];rfl,fun x hx=>?_,e3,e4⟩
   rcases List.mem_cons.mp hx with rfl|hx
   ·exact c
   ·exact e2 x hx
  ·exact⟨[],[e],s,rfl,fun _ h=>absurd h List.not_mem_nil,fun x hx=>by have:=h1 x hx;omega,.inr ⟨e,rfl,c⟩⟩
  ·refine⟨[],[],e::s,rfl,fun _ h=>absurd h List.not_mem_nil,fun x hx=>?_,.inl rfl⟩
   rcases List.mem_cons.mp hx with rfl|hx
   ·exact c
   ·have:=h1 x hx;omega
theorem lt_uniq:∀{l l':List (Int×Str)},(l.Pairwise fun a b=>a.1<b.1)→(l'.Pairwise fun a b=>a.1<b.1)→(∀x,x∈l↔x∈l')→l=l'
 | [],[],_,_,_=>rfl
 | [],y::l',_,_,e=>absurd ((e y).mpr (List.mem_cons_self ..)) List.not_mem_nil
 | x::l,[],_,_,e=>absurd ((e x).mp (List.mem_cons_self ..)) List.not_mem_nil
 | x::l,y::l',h,h',e=>by
  obtain⟨h1,h2⟩:=List.pairwise_cons.mp h
  obtain⟨h3,h4⟩:=List.pairwise_cons.mp h'
  have exy:x=y:=by
   rcases List.mem_cons.mp ((e x).mp (List.mem_cons_self ..)) with z|z
   ·exact z
   ·rcases List.mem_cons.mp ((e y).mpr (List.mem_cons_self ..)) with z2|z2
    ·exact z2.symm
    ·have a:=h3 x z
     have b:=h1 y z2
     omega
  subst exy
  rw[lt_uniq h2 h4 fun z=>?_]
  constructor
  ·intro hz
   rcases List.mem_cons.mp ((e z).mp (List.mem_cons_of_mem _ hz)) with q|q
   ·have:=h1 z hz;rw[q]at this;omega
   ·exact q
  ·intro hz
   rcases List.mem_cons.mp ((e z).mpr (List.mem_cons_of_mem _ hz)) with q|q
   ·have:=h3 z hz;rw[q]at this;omega
   ·exact q
theorem srt_two {s s':List (Int×Str)}(h:s.Pairwise fun a b=>a.1<b.1) (h':s'.Pairwise fun a b=>a.1<b.1) {k:Int}(e:∀x:Int×Str,x.1≠k→(x∈s↔x∈s')):∃U A B W,s=U++A++W∧s'=U++B++W∧(A=[] ∨ ∃x,A=[x]∧x.1=k)∧(B=[] ∨ ∃x,B=[x]∧x.1=k)∧∀x∈U++W,x.1≠k:=by
 obtain⟨U,A,W,e1,e2,e3,e4⟩:=srt_split h k
 obtain⟨U',B,W',f1,f2,f3,f4⟩:=srt_split h' k
 have inA:∀{A:List (Int×Str)},(A=[] ∨ ∃x,A=[x]∧x.1=k)→∀x∈A,x.1=k:=fun {A} h x hx=>by
  rcases h with rfl|⟨y,rfl,e⟩
  ·exact absurd hx List.not_mem_nil
  ·rw[List.mem_singleton.mp hx];exact e
 have lt_mem:∀x,x∈U↔x∈U':=fun x=>by
  constructor
  ·intro hx
   have c:=e2 x hx
   have:=(e x (by omega)).mp (by rw[e1];simp[hx])
   rw[f1,List.mem_append,List.mem_append]at this
   rcases this with(z|z)|z
   ·exact z
   ·have:=inA f4 x z;omega
   ·have:=f3 x z;omega
  ·intro hx
   have c:=f2 x hx
   have:=(e x (by omega)).mpr (by rw[f1];simp[hx])
   rw[e1,List.mem_append,List.mem_append]at this
   rcases this with(z|z)|z
   ·exact z
   ·have:=inA e4 x z;omega
   ·have:=e3 x z;omega
 have gt_mem:∀x,x∈W↔x∈W':=fun x=>by
  constructor
  ·intro hx
   have c:=e3 x hx
   have:=(e x (by omega)).mp (by rw[e1];simp[hx])
   rw[f1,List.mem_append,List.mem_append]at this
   rcases this with(z|z)|z
   ·have:=f2 x z;omega
   ·have:=inA f4 x z;omega
   ·exact z
  ·intro hx
   have c:=f3 x hx
   have:=(e x (by omega)).mpr (by rw[f1];simp[hx])
   rw[e1,List.mem_append,List.mem_append]at this
   rcases this with(z|z)|z
   ·have:=e2 x z;omega
   ·have:=inA e4 x z;omega
   ·exact z
 rw[e1]at h
 rw[f1]at h'
 have uU:U=U':=lt_uniq ((List.pairwise_append.mp (List.pairwise_append.mp h).1).1) ((List.pairwise_append.mp (List.pairwise_append.mp h').1).1) lt_mem
 have uW:W=W':=lt_uniq (List.pairwise_append.mp h).2.1 (List.pairwise_append.mp h').2.1 gt_mem
 exact⟨U,A,B,W,e1,by rw[f1,uU,uW],e4,f4,fun x hx=>(List.mem_append.mp hx).elim (fun h=>by have:=e2 x h;omega) fun h=>by have:=e3 x h;omega⟩
theorem rfor_mono {m n:Int}{w:Int}(h:m≤n) (w1:1≤w):rfor m w≤rfor n w:=by
 unfold rfor
 have:(m+w-1) / w ≤(n+w-1) / w:=Int.ediv_le_ediv (by omega) (by omega)
 omega
theorem rowsG_mono {α β:Type}{s:List α}{t:List β}{w:Nat}(h:s.length≤t.length) (w1:1≤w):(rowsG s w).length ≤(rowsG t w).length:=by
 rw[rowsG_len,rowsG_len]
 have:=rfor_mono (m:=s.length) (n:=t.length) (w:=w) (by omega) (by omega)
 omega
structure Chg (H:Hp) (X:List (List (List V))) (w R:Nat) (k0:Int) (es es':List (Int×Str)) (os ns:List (List V)) (U A B W:List (Int×Str)):Prop where
 cl:IsCl w R es (yD H X)
 nd:(es.map (·.1)).Nodup
 nd':(es'.map (·.1)).Nodup
 w1:1≤w
 R1:1≤R
 al:∀x:Int×Str,x.1≠k0→(x∈es↔x∈es')
 eo:os=ownR X k0 R
 hO:rowsDD H os=rowsG (U++(A++W)) w
 hN:rowsDD H ns=rowsG (U++(B++W)) w
 so:(U++(A++W)).Pairwise fun a b=>a.1<b.1
 sn:(U++(B++W)).Pairwise fun a b=>a.1<b.1
 mn:∀x,x∈U++(B++W)↔x∈es'∧roomV x.1 R=roomV k0 R
 mo:∀x,x∈U++(A++W)↔x∈es∧roomV x.1 R=roomV k0 R
section
variable {H:Hp}{X:List (List (List V))}{w R:Nat}{k0 k:Int}{es es':List (Int×Str)}{os ns:List (List V)}{U A B W:List (Int×Str)}
theorem rowsG_ne {α:Type}{s:List α}{w:Nat}:1 ≤(rowsG s w).length:=by
 rw[rowsG_len]
 unfold rfor
 omega
theorem Chg.fin (c:Chg H X w R k0 es es' os ns U A B W) {sts:List St3}{r:Nat}(er:(roomV k0 R).toNat=r) (ir:∀st∈sts,inRoom r st) (he:rowsDD H (sts.foldl stepR os)=rowsDD H ns):IsCl w R es' (yD H (sts.foldl doX X)):=by
 have R1:=c.R1
 have rb:=roomV_lt (k:=k0) (R:=(R:Int)) (by omega)
 have xl:X.length=R:=by have:=c.cl.1;unfold yD at this;rw[List.length_map]at this;exact this
 have ho:os=atR X r:=by rw[c.eo,← er];rfl
 have at':∀i,atR (sts.foldl doX X) i=if i=r then sts.foldl stepR (atR X i) else atR X i:=fun i=>at_steps ir
 have ub:=steps_len (r:=r) (n:=R) (by omega) ir (Nat.le_of_eq xl)
 have ne:∀i,i<R→atR (sts.foldl doX X) i ≠ []:=fun i hi z=>by
  rw[at']at z
  by_cases e:i=r
  ·rw[if_pos e,e,← ho]at z
   rw[z,c.hN]at he
   have:=rowsG_ne (s:=U++(B++W)) (w:=w)
   rw[← he]at this
   exact absurd this (by simp[rowsDD])
  ·rw[if_neg e]at z
   obtain⟨rows,hx⟩ : ∃rows,X[i]? = some rows:=⟨_,List.getElem?_eq_getElem (by omega)⟩
   obtain⟨s,_,_,p3⟩:=c.cl.2 i (rowsDD H rows) (by rw[yD_at,hx];rfl)
   unfold atR at z
   rw[hx]at z
   have z:rows=[]:=z
   have:=rowsG_ne (s:=s) (w:=w)
   rw[← p3,z]at this
   exact absurd this (by simp[rowsDD])
 have zl:(sts.foldl doX X).length=R:=by
  by_cases g:(sts.foldl doX X).length=R
  ·exact g
  ·exact absurd (by unfold atR;rw[List.getElem?_eq_none (by omega)];rfl) (ne (R-1) (by omega))
 refine⟨by unfold yD;rw[List.length_map];exact zl,fun i rowsd hi=>?_⟩
 rw[yD_at]at hi
 cases e:(sts.foldl doX X)[i]? with
 | none=>rw[e]at hi;cases hi
 | some rows =>
  rw[e]at hi
  have hi:rowsDD H rows=rowsd:=Option.some.inj hi
  have il:=(List.getElem?_eq_some_iff.mp e).1
  have ea:rows=atR (sts.foldl doX X) i:=by unfold atR;rw[e];rfl
  rw[at']at ea
  by_cases g:i=r
  ·rw[if_pos g,g,← ho]at ea
   refine⟨U++(B++W),?_,c.sn.imp fun h=>Int.le_of_lt h,by rw[← hi,ea,he,c.hN]⟩
   refine(List.perm_ext_iff_of_nodup (nd_of_keys (List.nodup_iff_pairwise_ne.mpr (List.pairwise_map.mpr (c.sn.imp fun h=>Int.ne_of_lt h)))) ((nd_of_keys c.nd').filter _)).mpr fun x=>?_
   rw[c.mn,List.mem_filter,decide_eq_true_eq,show roomV k0 R =(i:Int) by omega]
  ·rw[if_neg g]at ea
   have hx:X[i]? = some rows:=by
    obtain⟨r0,hx⟩ : ∃rows,X[i]? = some rows:=⟨_,List.getElem?_eq_getElem (by omega)⟩
    unfold atR at ea
    rw[hx]at ea
    rw[hx,ea];rfl
   obtain⟨s,p1,p2,p3⟩:=c.cl.2 i (rowsDD H rows) (by rw[yD_at,hx];rfl)
   refine⟨s,p1.trans ?_,p2,by rw[← hi,p3]⟩
   refine(List.perm_ext_iff_of_nodup ((nd_of_keys c.nd).filter _) ((nd_of_keys c.nd').filter _)).mpr fun x=>?_
   rw[List.mem_filter,List.mem_filter,decide_eq_true_eq]
   constructor
   ·rintro⟨h1,h2⟩
    exact⟨(c.al x fun z=>by rw[z]at h2;omega).mp h1,h2⟩
   ·rintro⟨h1,h2⟩
    exact⟨(c.al x fun z=>by rw[z]at h2;omega).mpr h1,h2⟩
end
theorem rowD_flat {H:Hp}{rows:List (List V)}:rowD H rows.flatten =(rowsDD H rows).flatten:=by
 unfold rowD rowsDD
 rw[List.map_flatten];rfl
theorem chg_mk {H:Hp}{X:List (List (List V))}{w R:Nat}{k0:Int}{es es' s':List (Int×Str)}{ns:List (List V)}(cl:IsCl w R es (yD H X)) (nd:(es.map (·.1)).Nodup) (nd':(es'.map (·.1)).Nodup) (w1:1≤w) (R1:1≤R) (al:∀x:Int×Str,x.1≠k0→(x∈es↔x∈es'))
  (hN:rowsDD H ns=rowsG s' w) (sn:s'.Pairwise fun a b=>a.1<b.1) (mn:∀x,x∈s'↔x∈es'∧roomV x.1 R=roomV k0 R) :
  ∃U A B W,Chg H X w R k0 es es' (ownR X k0 R) ns U A B W∧(A=[] ∨ ∃x,A=[x]∧x.1=k0)∧(B=[] ∨ ∃x,B=[x]∧x.1=k0)∧∀x∈U++W,x.1≠k0:=by
 obtain⟨s,p1,p2,p3⟩:=cl_own (k:=k0) cl nd R1
 have mo:∀x,x∈s↔x∈es∧roomV x.1 R=roomV k0 R:=fun x=>by rw[p1.mem_iff,List.mem_filter,decide_eq_true_eq]
 obtain⟨U,A,B,W,e1,e2,hA,hB,hUW⟩:=srt_two p2 sn (k:=k0) fun x hx=>by
  rw[mo,mn]
  exact⟨fun h=>⟨(al x hx).mp h.1,h.2⟩,fun h=>⟨(al x hx).mpr h.1,h.2⟩⟩
 rw[List.append_assoc]at e1 e2
 exact⟨U,A,B,W,⟨cl,nd,nd',w1,R1,al,rfl,by rw[p3,e1],by rw[hN,e2],by rw[← e1];exact p2,by rw[← e2];exact sn,fun x=>by rw[← e2];exact mn x,fun x=>by rw[← e1];exact mo x⟩,hA,hB,hUW⟩
def dropE (es:List (Int×Str)) (k:Int):List (Int×Str):=es.filter fun e=>decide (e.1≠k)
theorem dropE_mem {es:List (Int×Str)}{k:Int}{x:Int×Str}:x∈dropE es k↔x∈es∧x.1≠k:=by
 unfold dropE;rw[List.mem_filter,decide_eq_true_eq]
theorem on_done {H:Hp}{r:Nat}{os ns:List (List V)}(ll:ns.length≤os.length):rowsDD H ((onS H r os ns).foldl stepR os)=rowsDD H ns:=by
 have m:=on_mix (H:=H) (r:=r) ll ns.length (Nat.le_refl _)
 have e0:(rowsDD H ns).take ns.length=rowsDD H ns:=List.take_of_length_le (by rw[rowsDD_len];exact Nat.le_refl _)
 rw[e0]at m
 unfold onS
 by_cases g:os.length > ns.length
 ·rw[if_pos g,List.foldl_append]
  show rowsDD H (((unl H r os ns ns.length).foldl stepR os).take ns.length)=_
  unfold rowsDD at m ⊢
  rw[List.map_take,m,List.take_append_of_le_length (by rw[List.length_map];exact Nat.le_refl _),List.take_of_length_le (by rw[List.length_map];exact Nat.le_refl _)]
 ·rw[if_neg g,List.append_nil,m,List.drop_eq_nil_of_le (by rw[rowsDD_len];omega),List.append_nil]
theorem on_room {H:Hp}{r:Nat}{os ns:List (List V)}:∀st∈onS H r os ns,inRoom r st:=fun st h=>by
 unfold onS at h
 rcases List.mem_append.mp h with h|h
 ·exact unl_room _ st h
 ·split at h
  ·rw[List.mem_singleton.mp h];rfl
  ·exact absurd h List.not_mem_nil
theorem own46 {H:Hp}{X:List (List (List V))}{w R:Nat}{es:List (Int×Str)}{k:Int}(cl:IsCl w R es (yD H X)) (nd:(es.map (·.1)).Nodup) (hen:EnX H X) (w1:1≤w) (w2:w≤8) (R1:1≤R) (el:es.length≤60):RowsOk H (ownR X k R)∧(ownR X k R).flatten.length≤60∧((rowD H (ownR X k R).flatten).map (·.1)).Nodup∧(rowD H (ownR X k R).flatten).Pairwise (fun a b=>a.1<b.1)∧∀x,x∈rowD H (ownR X k R).flatten↔x∈es∧roomV x.1 R=roomV k R:=by
 obtain⟨s,p1,p2,p3⟩:=cl_own (k:=k) cl nd R1
 have es':rowD H (ownR X k R).flatten=s:=by rw[rowD_flat,p3,rowsG_flat _ w1]
 have sl:s.length≤es.length:=by rw[p1.length_eq];exact List.length_filter_le _ _
 have lr:=congrArg List.length p3
 rw[rowsDD_len]at lr
 have ln:=congrArg List.length es'
 unfold rowD at ln
 rw[List.length_map]at ln
 refine⟨⟨by rw[lr];exact Nat.le_trans (rowsG_le w1) (by omega),fun e he=>⟨?_,own_en hen e he⟩⟩,by omega,?_,by rw[es'];exact p2,fun x=>?_⟩
 ·have hm:rowD H e∈rowsG s w:=by rw[← p3];exact List.mem_map.mpr ⟨e,he,rfl⟩
  unfold rowsG at hm
  obtain⟨i,_,hi⟩:=List.mem_map.mp hm
  have l:=congrArg List.length hi
  unfold rowD at l
  rw[List.length_take,List.length_map]at l
  omega
 ·rw[es'];exact(p1.map _).nodup_iff.mpr (keys_filter nd _)
 ·rw[es',p1.mem_iff,List.mem_filter,decide_eq_true_eq]
def OkE (es:List (Int×Str)):Prop:=∀e∈es,PyData.strOk e.2=true∧(0≤e.1∧e.1<1152921504606846976)∧e.2.length≤100
theorem Yd.kp {H H':Hp}{p y:Addr}{N:Nat}{w R:Int}{X:List (List (List V))}(hh:Hand H p N) (k:Kp H H' p) (h:Yd H y w R X):Yd H' y w R X:=by
 obtain⟨t,h1,⟨bs,h2,h3⟩,en,sz⟩:=h
 have kt:=kt_of hh k
 refine⟨t,kt _ _ h1,⟨bs,k.1 _ _ h2 (refs_ne hh h2),h3.imp' fun b rows _ hm r=>?_⟩,en.keep kt,sz⟩
 obtain⟨_,as,h4,h5⟩:=r
 refine⟨trivial,as,k.1 _ _ h4 (refs_ne hh h4),h5.imp' fun a es _ hm2 r=>⟨trivial,?_⟩⟩
 obtain⟨ts,e⟩:=refs_of (en rows hm es hm2)
 have r2:=r.2
 rw[e]at r2 ⊢
 exact k.1 _ _ r2 (refs_ne hh r2)
theorem on_keep {H H':Hp}{r:Nat}{os ns:List (List V)}(kt:∀t xs,H t=some (.tup xs)→H' t=some (.tup xs)) (eo:∀es∈os,∀v∈es,En H v) (en:∀es∈ns,∀v∈es,En H v):onS H' r os ns=onS H r os ns:=by
 unfold onS;rw[unl_keep kt eo en]
theorem on_len {H:Hp}{r:Nat}{os ns:List (List V)}:(onS H r os ns).length≤ns.length+1:=by
 unfold onS
 rw[List.length_append]
 have:=unl_len (H:=H) (r:=r) (os:=os) (ns:=ns) ns.length
 have:(if os.length > ns.length then [St3.cut r ns.length] else []).length≤1:=by split <;> simp
 omega
theorem yq_yd {H:Hp}{y:Addr}{X:List (List (List V))}{w R:Nat}{es:List (Int×Str)}(h:Yq H y w R X) (cl:IsCl w R es (yD H X)) (w1:1≤w) (w2:w≤8) (R2:R≤130) (el:es.length≤129):Yd H y w R X:=by
 obtain⟨t,h1,h2,en,_⟩:=h
 have xl:X.length=R:=by have:=cl.1;unfold yD at this;rw[List.length_map]at this;exact this
 refine⟨t,h1,h2,en,by omega,fun rows hr=>?_⟩
 obtain⟨i,hi⟩:=List.getElem?_of_mem hr
 obtain⟨s,p1,_,p3⟩:=cl.2 i (rowsDD H rows) (by rw[yD_at,hi];rfl)
 have sl:s.length≤es.length:=by rw[p1.length_eq];exact List.length_filter_le _ _
 have lr:=congrArg List.length p3
 rw[rowsDD_len]at lr
 refine⟨by rw[lr];exact Nat.le_trans (rowsG_le w1) (by omega),fun e he=>?_⟩
 have hm:rowD H e∈rowsG s w:=by rw[← p3];exact List.mem_map.mpr ⟨e,he,rfl⟩
 unfold rowsG at hm
 obtain⟨i,_,hi⟩:=List.mem_map.mp hm
 have l:=congrArg List.length hi
 unfold rowD at l
 rw[List.length_take,List.length_map]at l
 omega
theorem EL.okE {H:Hp}{ts:List Addr}{es:List (Int×Str)}(h:EL H ts es):OkE es:=fun e he=>by
 obtain⟨i,hi⟩:=List.getElem?_of_mem he
 obtain⟨t,_,_,h2,h3,h4,h5⟩:=h.at' hi
 exact⟨h2,⟨h3,h4⟩,h5⟩
theorem rowD_oth {H:Hp}{X:List (List V)}{k:Int}:rowD H (othV H X k) =(rowD H X.flatten).filter fun e=>!decide (e.1=k):=by
 unfold rowD othV
 rw[List.filter_map];rfl
theorem unl_new {H:Hp}{r:Nat}{ns:List (List V)}:∀p:Nat,p≤ns.length→(unl H r [] ns p).foldl stepR []=ns.take p
 | 0,_=>rfl
 | p+1,hp=>by
  obtain⟨es,hes⟩ : ∃es,ns[p]? = some es:=⟨_,List.getElem?_eq_getElem (by omega)⟩
  rw[unl_yes hes (by unfold unB;rw[List.getElem?_nil]),List.foldl_append,unl_new p (by omega),take_get hes]
  show(pad (ns.take p) (p+1)).set p es=_
  have tl:(ns.take p).length=p:=by rw[List.length_take];omega
  unfold pad
  rw[tl,show p+1-p=1 by omega,List.set_append_right _ _ (by omega),tl,Nat.sub_self];rfl
theorem on_new {H:Hp}{r:Nat}{ns:List (List V)}:(onS H r [] ns).foldl stepR []=ns:=by
 unfold onS
 rw[if_neg (by simp),List.append_nil,unl_new _ (Nat.le_refl _),List.take_length]
theorem rowsDD_pad {H:Hp}{X:List (List V)}{n:Nat}:rowsDD H (pad X n)=pad (rowsDD H X) n:=by
 unfold pad rowsDD
 rw[List.map_append,List.map_replicate,List.length_map];rfl
theorem rowsDD_set {H:Hp}{X:List (List V)}{i:Nat}{es:List V}:rowsDD H (X.set i es) =(rowsDD H X).set i (rowD H es):=by unfold rowsDD;rw[List.map_set]
theorem back_mix2 {H:Hp}{r:Nat}{os ns:List (List V)}(hl:os.length≤ns.length):∀d:Nat,d≤ns.length→∃m:Nat,rowsDD H ((unlF H r os ns (ns.length-d) ns.length).reverse.foldl stepR os) =(rowsDD H os).take (ns.length-d)++(List.replicate m []++(rowsDD H ns).drop (ns.length-d))∧(d=0→m=0)∧(0<d→min os.length (ns.length-d)+m=ns.length-d)
 | 0,_=>by
  refine⟨0,?_,fun _=>rfl,fun h=>absurd h (by omega)⟩
  rw[Nat.sub_zero,unlF_last]
  show rowsDD H os=_
  rw[List.take_of_length_le (by rw[rowsDD_len];omega),List.drop_eq_nil_of_le (by rw[rowsDD_len];omega)]
  simp
 | d+1,hd=>by
  obtain⟨m,ih,m0,m1⟩:=back_mix2 (H:=H) (r:=r) hl d (by omega)
  obtain⟨p,hp⟩ : ∃p,p=ns.length-(d+1):=⟨_,rfl⟩
  rw[show ns.length-d=p+1 by omega]at ih m1
  rw[← hp]
  obtain⟨es,hes⟩ : ∃es,ns[p]? = some es:=⟨_,List.getElem?_eq_getElem (by omega)⟩
  have hn:(rowsDD H ns)[p]? = some (rowD H es):=by rw[rowsDD_at,hes];rfl
  rw[drop_get hn]
  generalize hZ:(unlF H r os ns (p+1) ns.length).reverse.foldl stepR os=Z at ih
  by_cases ol:os.length≤p
  ·have ho:os[p]? = none:=List.getElem?_eq_none ol
   have ub:unB H os es p=true:=by unfold unB;rw[ho]
   rw[unlF_yes (by omega) hes ub,List.reverse_cons,List.foldl_append,hZ]
   refine⟨p-os.length,?_,fun z=>absurd z (by omega),fun _=>by omega⟩
   show rowsDD H ((pad Z (p+1)).set p es)=_
   rw[List.take_of_length_le (by rw[rowsDD_len];omega)]at ih ⊢
   have e1:pad (rowsDD H Z) (p+1)=rowsDD H os++(List.replicate (p+1-os.length) []++(rowsDD H ns).drop (p+1)):=by
    by_cases d0:d=0
    ·have dn:(rowsDD H ns).drop (p+1)=[]:=List.drop_eq_nil_of_le (by rw[rowsDD_len];omega)
     rw[ih,m0 d0,dn]
     unfold pad
     simp[rowsDD_len]
    ·have mm:=m1 (by omega)
     rw[ih,pad_done (by rw[List.length_append,List.length_append,rowsDD_len,List.length_replicate];omega),show m=p+1-os.length by omega]
   rw[rowsDD_set,rowsDD_pad,e1,List.set_append_right _ _ (by rw[rowsDD_len];omega),rowsDD_len,show p+1-os.length =(p-os.length)+1 by omega,List.replicate_succ',List.append_assoc,List.set_append_right _ _ (by rw[List.length_replicate];exact Nat.le_refl _),List.length_replicate,Nat.sub_self];rfl
  ·obtain⟨o,ho⟩ : ∃o,os[p]? = some o:=⟨_,List.getElem?_eq_getElem (by omega)⟩
   have hd':(rowsDD H os)[p]? = some (rowD H o):=by rw[rowsDD_at,ho];rfl
   have mz:m=0:=by
    by_cases d0:d=0
    ·exact m0 d0
    ·have:=m1 (by omega)
     omega
   subst mz
   refine⟨0,?_,fun _=>rfl,fun _=>by omega⟩
   rw[List.replicate_zero,List.nil_append]at ih ⊢
   have ub:unB H os es p = !decide (rowD H o=rowD H es):=by unfold unB;rw[ho]
   rw[take_get hd',List.append_assoc]at ih
   by_cases c:rowD H o=rowD H es
   ·rw[unlF_no (by omega) hes (by rw[ub,decide_eq_true c];rfl),hZ,ih,c];rfl
   ·rw[unlF_yes (by omega) hes (by rw[ub,decide_eq_false c];rfl),List.reverse_cons,List.foldl_append,hZ]
    show rowsDD H ((pad Z (p+1)).set p es)=_
    have ll:=congrArg List.length ih
    rw[rowsDD_len,List.length_append,List.length_append,List.length_take,List.length_drop,rowsDD_len,rowsDD_len]at ll
    have l1:[rowD H o].length=1:=rfl
    rw[pad_done (by omega),rowsDD_set,ih]
    have tl:((rowsDD H os).take p).length=p:=by rw[List.length_take,rowsDD_len];omega
    rw[List.set_append_right _ _ (by omega),tl,Nat.sub_self];rfl
theorem unlF_zero {H:Hp}{r:Nat}{os ns:List (List V)}{n:Nat}:unlF H r os ns 0 n=unl H r os ns n:=rfl
theorem back_done2 {H:Hp}{r:Nat}{os ns:List (List V)}(hl:os.length≤ns.length):rowsDD H ((unl H r os ns ns.length).reverse.foldl stepR os)=rowsDD H ns:=by
 obtain⟨m,e,m0,m1⟩:=back_mix2 (H:=H) (r:=r) hl ns.length (Nat.le_refl _)
 have mz:m=0:=by
  by_cases d0:ns.length=0
  ·exact m0 d0
  ·have:=m1 (by omega)
   omega
 rw[Nat.sub_self,unlF_zero,mz,List.take_zero,List.drop_zero]at e
 exact e
def stR (R:Int) (sts:List St3) (j:Nat):Int:=(sts.take j).foldl doR R
theorem doR_in {r:Nat}:∀{sts:List St3}{R:Int},(∀st∈sts,inRoom r st)→sts.foldl doR R=R
 | [],_,_=>rfl
 | st::sts,R,h=>by
  have e:doR R st=R:=by
   have:=h st (List.mem_cons_self ..)
   cases st with
   | rooms n=>exact this.elim
   | cut _ _=>rfl
   | row _ _ _=>rfl
  show sts.foldl doR (doR R st)=R
  rw[e];exact doR_in fun s hs=>h s (List.mem_cons_of_mem _ hs)
theorem mem_take {α:Type}{l:List α}{j:Nat}{p:α→Prop}(h:∀x∈l,p x):∀x∈l.take j,p x:=fun x hx=>h x (List.mem_of_mem_take hx)
section
variable {X:List (List (List V))}{A B:List St3}{a b n:Nat}{R:Int}
theorem mid_suf (hA:∀st∈A,inRoom a st) (hB:∀st∈B,inRoom b st) (i:Nat):stX X (A ++ .rooms n::B) (A.length+1+i) =(B.take i).foldl doX (doX (A.foldl doX X) (.rooms n))∧stR R (A ++ .rooms n::B) (A.length+1+i)=n:=by
 have e:(A ++ .rooms n::B).take (A.length+1+i)=A ++ .rooms n::B.take i:=by
  rw[List.take_append,List.take_of_length_le (by omega),show A.length+1+i-A.length=i+1 by omega];rfl
 unfold stX stR
 rw[e,List.foldl_append,List.foldl_append]
 exact⟨rfl,doR_in (mem_take hB)⟩
theorem at_rooms (i:Nat):atR (doX X (.rooms n)) i=atR X i:=trim_at X i
theorem at_suf (hA:∀st∈A,inRoom a st) (hB:∀st∈B,inRoom b st) (ab:a≠b) (j i:Nat):atR (stX X (A ++ .rooms n::B) (A.length+1+j)) i=if i=b then(B.take j).foldl stepR (atR X i) else if i=a then A.foldl stepR (atR X i) else atR X i:=by
 rw[(mid_suf (R:=0) hA hB j).1,at_steps (mem_take hB),at_rooms,at_steps hA]
 by_cases c:i=b
 ·rw[if_pos c,if_pos c,if_neg (by omega)]
 ·rw[if_neg c,if_neg c]
end
theorem trim_len {α:Type}{Y:List (List α)}{n:Nat}(h:∀i,n≤i→(Y[i]?).getD []=[]):(trim Y).length≤n:=by
 by_cases c:(trim Y).length≤n
 ·exact c
 ·exfalso
  have ne:trim Y ≠ []:=fun z=>by rw[z]at c;simp at c
  have e:=trim_at Y ((trim Y).length-1)
  rw[h _ (by omega)]at e
  have hl:(trim Y)[(trim Y).length-1]? =(trim Y).getLast?:=by rw[List.getLast?_eq_getElem?]
  rw[hl]at e
  unfold trim at e ne
  rw[List.getLast?_reverse]at e
  have hd:=List.head?_dropWhile_not (fun r:List α=>r.isEmpty) Y.reverse
  cases z:(Y.reverse.dropWhile (·.isEmpty)).head? with
  | none=>rw[List.head?_eq_none_iff]at z;rw[z]at ne;simp at ne
  | some x =>
   rw[z]at e hd
   have:x=[]:=e
   rw[this]at hd
   simp at hd
theorem cl_of_at {H:Hp}{Z:List (List (List V))}{w R:Nat}{es:List (Int×Str)}(zl:Z.length≤R) (h:∀i,i<R→∃s,s.Perm (es.filter fun e=>decide (roomV e.1 R =(i:Int)))∧(s.Pairwise fun a b=>a.1≤b.1)∧rowsDD H (atR Z i)=rowsG s w):IsCl w R es (yD H Z):=by
 have ne:∀i,i<R→atR Z i ≠ []:=fun i hi z=>by
  obtain⟨s,_,_,e⟩:=h i hi
  rw[z]at e
  have:=rowsG_ne (s:=s) (w:=w)
  rw[← e]at this
  exact absurd this (by simp[rowsDD])
 have zl':Z.length=R:=by
  by_cases g:Z.length=R
  ·exact g
  ·exact absurd (by unfold atR;rw[List.getElem?_eq_none (by omega)];rfl) (ne (R-1) (by omega))
 refine⟨by unfold yD;rw[List.length_map];exact zl',fun i rowsd hi=>?_⟩
 rw[yD_at]at hi
 cases e:Z[i]? with
 | none=>rw[e]at hi;cases hi
 | some rows =>
  rw[e]at hi
  have hi:rowsDD H rows=rowsd:=Option.some.inj hi
  have il:=(List.getElem?_eq_some_iff.mp e).1
  obtain⟨s,p1,p2,p3⟩:=h i (by omega)
  have ea:atR Z i=rows:=by unfold atR;rw[e];rfl
  rw[ea,hi]at p3
  exact⟨s,p1,p2,p3⟩
theorem cl_at {H:Hp}{X:List (List (List V))}{w R:Nat}{es:List (Int×Str)}(h:IsCl w R es (yD H X)) (hn:(es.map (·.1)).Nodup) {i:Nat}(hi:i<R):∃s,s.Perm (es.filter fun e=>decide (roomV e.1 R =(i:Int)))∧(s.Pairwise fun a b=>a.1<b.1)∧rowsDD H (atR X i)=rowsG s w:=by
 have xl:X.length=R:=by have:=h.1;unfold yD at this;rw[List.length_map]at this;exact this
 obtain⟨rows,hx⟩ : ∃rows,X[i]? = some rows:=⟨_,List.getElem?_eq_getElem (by omega)⟩
 obtain⟨s,p1,p2,p3⟩:=h.2 i (rowsDD H rows) (by rw[yD_at,hx];rfl)
 refine⟨s,p1,?_,?_⟩
 ·have nd:(s.map (·.1)).Nodup:=(p1.map _).nodup_iff.mpr (keys_filter hn _)
  exact List.pairwise_map.mp (le_lt (List.pairwise_map.mpr p2) nd)
 ·unfold atR;rw[hx];exact p3
def tn (R:Nat):Nat:=((R:Int)-2^lg R).toNat
theorem tn_is {R:Nat}(h:1≤R):(tn R:Int) =(R:Int)-2^lg (R:Int)∧tn R<R:=by
 have a:=lg_le (R:=(R:Int)) (by omega)
 have p:=pow2_pos (lg (R:Int))
 unfold tn
 omega
theorem room_up (k:Int) {R:Nat}(h:1≤R):(roomV k ((R+1:Nat):Int) =(R:Int)∧roomV k R =(tn R:Int))∨roomV k ((R+1:Nat):Int)=roomV k R:=by
 have e:=room_step k (R:=(R:Int)) (by omega)
 rw[←(tn_is h).1]at e
 rw[show((R+1:Nat):Int) =(R:Int)+1 by omega,e]
 split
 ·rename_i c;exact .inl ⟨rfl,c.1⟩
 ·exact .inr rfl
theorem perm_of {s es:List (Int×Str)}{q:Int×Str→Bool}(hs:s.Pairwise fun a b=>a.1<b.1) (hn:(es.map (·.1)).Nodup) (h:∀x,x∈s↔x∈es∧q x=true):s.Perm (es.filter q) :=
 (List.perm_ext_iff_of_nodup (nd_of_keys (List.nodup_iff_pairwise_ne.mpr (List.pairwise_map.mpr (hs.imp fun h=>Int.ne_of_lt h)))) ((nd_of_keys hn).filter _)).mpr fun x=>by rw[h,List.mem_filter]
structure Base (H:Hp) (X:List (List (List V))) (w R:Nat) (es:List (Int×Str)):Prop where
 cl:IsCl w R es (yD H X)
 nd:(es.map (·.1)).Nodup
 w1:1≤w
 R1:1≤R
section
variable {H:Hp}{X:List (List (List V))}{w R:Nat}{es:List (Int×Str)}
theorem Base.xl (c:Base H X w R es):X.length=R:=by have:=c.cl.1;unfold yD at this;rw[List.length_map]at this;exact this
theorem Base.own (c:Base H X w R es) {i:Nat}(hi:i<R):∃s,(s.Pairwise fun a b=>a.1<b.1)∧rowsDD H (atR X i)=rowsG s w∧(∀x,x∈s↔x∈es∧roomV x.1 R =(i:Int))∧s.Perm (es.filter fun e=>decide (roomV e.1 R =(i:Int))):=by
 obtain⟨s,p1,p2,p3⟩:=cl_at c.cl c.nd hi
 exact⟨s,p2,p3,fun x=>by rw[p1.mem_iff,List.mem_filter,decide_eq_true_eq],p1⟩
def splS (H:Hp) (R:Nat) (os gN sN:List (List V)):List St3:=onS H R [] gN ++ .rooms (R+1)::onS H (tn R) os sN
structure Spl (H:Hp) (X:List (List (List V))) (w R:Nat) (es:List (Int×Str)) (gN sN:List (List V)) (s g s':List (Int×Str)):Prop extends Base H X w R es where
 so:s.Pairwise fun a b=>a.1<b.1
 hO:rowsDD H (atR X (tn R))=rowsG s w
 mo:∀x,x∈s↔x∈es∧roomV x.1 R =(tn R:Int)
 eg:g=s.filter fun e=>decide (roomV e.1 ((R+1:Nat):Int) =(R:Int))
 es':s'=s.filter fun e=>decide (roomV e.1 ((R+1:Nat):Int) =(tn R:Int))
 hg:rowsDD H gN=rowsG g w
 hs:rowsDD H sN=rowsG s' w
variable {gN sN:List (List V)}{s g s':List (Int×Str)}
theorem Spl.ll (c:Spl H X w R es gN sN s g s'):sN.length ≤(atR X (tn R)).length:=by
 have a:=congrArg List.length c.hO
 have b:=congrArg List.length c.hs
 rw[rowsDD_len]at a b
 rw[a,b]
 refine rowsG_mono ?_ c.w1
 rw[c.es'];exact List.length_filter_le _ _
theorem Spl.mg (c:Spl H X w R es gN sN s g s') (x:Int×Str):x∈g↔x∈es∧roomV x.1 ((R+1:Nat):Int) =(R:Int):=by
 rw[c.eg,List.mem_filter,c.mo,decide_eq_true_eq]
 have t:=tn_is c.R1
 have rb:=roomV_lt (k:=x.1) (R:=(R:Int)) (by have:=c.R1;omega)
 rcases room_up x.1 c.R1 with h|h
 ·exact⟨fun q=>⟨q.1.1,q.2⟩,fun q=>⟨⟨q.1,h.2⟩,q.2⟩⟩
 ·exact⟨fun q=>⟨q.1.1,q.2⟩,fun q=>absurd q.2 (by omega)⟩
theorem Spl.ms (c:Spl H X w R es gN sN s g s') (x:Int×Str):x∈s'↔x∈es∧roomV x.1 ((R+1:Nat):Int) =(tn R:Int):=by
 rw[c.es',List.mem_filter,c.mo,decide_eq_true_eq]
 have t:=tn_is c.R1
 rcases room_up x.1 c.R1 with h|h
 ·exact⟨fun q=>⟨q.1.1,q.2⟩,fun q=>⟨⟨q.1,h.2⟩,q.2⟩⟩
 ·exact⟨fun q=>⟨q.1.1,q.2⟩,fun q=>⟨⟨q.1,by omega⟩,q.2⟩⟩
theorem Spl.sg (c:Spl H X w R es gN sN s g s'):g.Pairwise fun a b=>a.1<b.1:=by rw[c.eg];exact c.so.filter _
theorem Spl.ss (c:Spl H X w R es gN sN s g s'):s'.Pairwise fun a b=>a.1<b.1:=by rw[c.es'];exact c.so.filter _
theorem Spl.none (c:Spl H X w R es gN sN s g s'):atR X R=[]:=by unfold atR;rw[List.getElem?_eq_none (by rw[c.xl];exact Nat.le_refl _)];rfl
theorem Spl.fin (c:Spl H X w R es gN sN s g s'):IsCl w (R+1) es (yD H (stX X (splS H R (atR X (tn R)) gN sN) (splS H R (atR X (tn R)) gN sN).length)):=by
 have R1:=c.R1
 have t:=tn_is R1
 have len:(splS H R (atR X (tn R)) gN sN).length =(onS H R [] gN).length+1+(onS H (tn R) (atR X (tn R)) sN).length:=by
  unfold splS;rw[List.length_append,List.length_cons];omega
 rw[len]
 unfold splS
 have at':=fun i=>at_suf (X:=X) (n:=R+1) (on_room (H:=H) (r:=R) (os:=[]) (ns:=gN)) (on_room (H:=H) (r:=tn R) (os:=atR X (tn R)) (ns:=sN)) (by omega) (onS H (tn R) (atR X (tn R)) sN).length i
 have xl:=c.xl
 refine cl_of_at ?_ fun i hi=>?_
 ·rw[(mid_suf (X:=X) (R:=0) on_room on_room _).1]
  refine steps_len (r:=tn R) (by omega) (mem_take on_room) ?_
  refine Nat.le_trans trim_sub.2 ?_
  exact steps_len (r:=R) (by omega) on_room (by omega)
 ·rw[at' i]
  by_cases c1:i=tn R
  ·rw[if_pos c1,List.take_length,c1]
   refine⟨s',perm_of c.ss c.nd fun x=>by rw[c.ms,decide_eq_true_eq],ws_of c.ss,?_⟩
   rw[on_done c.ll,c.hs]
  ·rw[if_neg c1]
   by_cases c2:i=R
   ·rw[if_pos c2,c2,c.none,on_new]
    exact⟨g,perm_of c.sg c.nd fun x=>by rw[c.mg,decide_eq_true_eq],ws_of c.sg,c.hg⟩
   ·rw[if_neg c2]
    obtain⟨u,u1,u2,u3,u4⟩:=c.own (i:=i) (by omega)
    refine⟨u,perm_of u1 c.nd fun x=>?_,ws_of u1,u2⟩
    rw[u3,decide_eq_true_eq]
    rcases room_up x.1 R1 with h|h
    ·rw[h.1,h.2]
     exact⟨fun q=>absurd q.2 (by omega),fun q=>absurd q.2 (by omega)⟩
    ·rw[h]
end
def joiS (H:Hp) (R:Nat) (os ns:List (List V)):List St3:=(unl H (tn R) os ns ns.length).reverse ++ .rooms R::[.cut R 0]
structure Joi (H:Hp) (X:List (List (List V))) (w R:Nat) (es:List (Int×Str)) (ns:List (List V)) (s b:List (Int×Str)):Prop extends Base H X w (R+1) es where
 R2:1≤R
 so:s.Pairwise fun a b=>a.1<b.1
 hO:rowsDD H (atR X (tn R))=rowsG s w
 mo:∀x,x∈s↔x∈es∧roomV x.1 ((R+1:Nat):Int) =(tn R:Int)
 sb:b.Pairwise fun a b=>a.1<b.1
 mb:∀x,x∈b↔x∈es∧(roomV x.1 ((R+1:Nat):Int) =(tn R:Int)∨roomV x.1 ((R+1:Nat):Int) =(R:Int))
 hb:rowsDD H ns=rowsG b w
section
variable {H:Hp}{X:List (List (List V))}{w R:Nat}{es:List (Int×Str)}{ns:List (List V)}{s b:List (Int×Str)}
theorem Joi.sub (c:Joi H X w R es ns s b):s.Sublist b:=by
 have e:s=b.filter fun e=>decide (roomV e.1 ((R+1:Nat):Int) =(tn R:Int)):=lt_uniq c.so (c.sb.filter _) fun x=>by
  rw[c.mo,List.mem_filter,c.mb,decide_eq_true_eq]
  exact⟨fun q=>⟨⟨q.1,.inl q.2⟩,q.2⟩,fun q=>⟨q.1.1,q.2⟩⟩
 rw[e];exact List.filter_sublist
theorem Joi.ll (c:Joi H X w R es ns s b):(atR X (tn R)).length≤ns.length:=by
 have a:=congrArg List.length c.hO
 have b:=congrArg List.length c.hb
 rw[rowsDD_len]at a b
 rw[a,b]
 exact rowsG_mono c.sub.length_le c.w1
theorem Joi.mb' (c:Joi H X w R es ns s b) (x:Int×Str):x∈b↔x∈es∧roomV x.1 R =(tn R:Int):=by
 rw[c.mb]
 have t:=tn_is c.R2
 have rb:=roomV_lt (k:=x.1) (R:=(R:Int)) (by have:=c.R2;omega)
 rcases room_up x.1 c.R2 with h|h
 ·exact⟨fun q=>⟨q.1,h.2⟩,fun q=>⟨q.1,.inr h.1⟩⟩
 ·rw[h]
  exact⟨fun q=>⟨q.1,q.2.elim id fun z=>absurd z (by omega)⟩,fun q=>⟨q.1,.inl q.2⟩⟩
theorem unl_rev_room {H:Hp}{r:Nat}{os ns:List (List V)}{n:Nat}:∀st∈(unl H r os ns n).reverse,inRoom r st:=fun st h=>unl_room _ st (List.mem_reverse.mp h)
theorem cut_room_in {r:Nat}:∀st ∈ [St3.cut r 0],inRoom r st:=fun st h=>by rw[List.mem_singleton.mp h];rfl
theorem Joi.fin (c:Joi H X w R es ns s b):IsCl w R es (yD H (stX X (joiS H R (atR X (tn R)) ns) (joiS H R (atR X (tn R)) ns).length)):=by
 have R1:=c.R2
 have t:=tn_is R1
 have len:(joiS H R (atR X (tn R)) ns).length =(unl H (tn R) (atR X (tn R)) ns ns.length).reverse.length+1+1:=by
  unfold joiS;rw[List.length_append];rfl
 rw[len]
 unfold joiS
 have at':=fun i=>at_suf (X:=X) (n:=R) (unl_rev_room (H:=H) (r:=tn R) (os:=atR X (tn R)) (ns:=ns) (n:=ns.length)) (cut_room_in (r:=R)) (by omega) 1 i
 have xl:=c.xl
 refine cl_of_at ?_ fun i hi=>?_
 ·have e:=(mid_suf (X:=X) (R:=0) (n:=R) (unl_rev_room (H:=H) (r:=tn R) (os:=atR X (tn R)) (ns:=ns) (n:=ns.length)) (cut_room_in (r:=R)) 1).1
  have e2:stX X ((unl H (tn R) (atR X (tn R)) ns ns.length).reverse ++ .rooms R::[.cut R 0]) ((unl H (tn R) (atR X (tn R)) ns ns.length).reverse.length+1+1)=trim ((doX ((unl H (tn R) (atR X (tn R)) ns ns.length).reverse.foldl doX X) (.rooms R)).modify R (List.take 0)):=e
  have l1:(doX ((unl H (tn R) (atR X (tn R)) ns ns.length).reverse.foldl doX X) (.rooms R)).length≤R+1:=by
   refine Nat.le_trans trim_sub.2 ?_
   exact steps_len (r:=tn R) (by omega) unl_rev_room (by omega)
  rw[e2]
  refine trim_len fun i hi=>?_
  by_cases c1:i=R
  ·rw[List.getElem?_modify,c1]
   cases z:(doX ((unl H (tn R) (atR X (tn R)) ns ns.length).reverse.foldl doX X) (.rooms R))[R]? with
   | none=>rfl
   | some x=>simp
  ·rw[List.getElem?_eq_none (by rw[List.length_modify];omega)];rfl
 ·rw[at' i,if_neg (by omega)]
  by_cases c1:i=tn R
  ·rw[if_pos c1,c1]
   exact⟨b,perm_of c.sb c.nd fun x=>by rw[c.mb',decide_eq_true_eq],ws_of c.sb,by rw[back_done2 c.ll,c.hb]⟩
  ·rw[if_neg c1]
   obtain⟨u,u1,u2,u3,u4⟩:=c.own (i:=i) (by omega)
   refine⟨u,perm_of u1 c.nd fun x=>?_,ws_of u1,u2⟩
   rw[u3,decide_eq_true_eq]
   rcases room_up x.1 R1 with h|h
   ·rw[h.1,h.2]
    exact⟨fun q=>absurd q.2 (by omega),fun q=>absurd q.2 (by omega)⟩
   ·rw[h]
end
def goV (H:Hp) (X:List (List V)) (R n:Int):List V:=X.flatten.filter fun v=>decide (roomV (eD H v).1 R=n)
theorem go_en {H:Hp}{X:List (List V)}{R n:Int}(en:∀es∈X,∀v∈es,En H v):∀v∈goV H X R n,En H v:=fun v hv=>by
 obtain⟨es,he,hm⟩:=List.mem_flatten.mp (List.mem_filter.mp hv).1
 exact en es he v hm
theorem go_len {H:Hp}{X:List (List V)}{R n:Int}:(goV H X R n).length≤X.flatten.length:=List.length_filter_le _ _
theorem at_rws {H H1:Hp}{bs:List Addr}{X:List (List (List V))}{o:Addr}{r:Nat}(hP:P1 (R2 (fun _=>True) H) bs X) (s1:Same H H1) (ho:bs[r]? = some o ∨(bs.length≤r∧H1 o=some (.lst []))):Rws H1 o (atR X r):=by
 have bl:=hP.1
 rcases ho with ho|⟨ho,h1⟩
 ·obtain⟨rows,hx,_,as,h2,h3⟩:=hP.get ho
  unfold atR
  rw[hx]
  exact⟨as,s1 _ _ h2,h3.1,fun i a es e1 e2=>s1 _ _ (h3.2 i a es e1 e2).2⟩
 ·unfold atR
  rw[List.getElem?_eq_none (by omega)]
  exact⟨[],h1,rfl,fun i a es e=>by simp at e⟩
def sp_splitting (K:PySem.W.Frag):Sp:=fun vs H Q _=>∃(y:Addr) (w R:Nat) (X:List (List (List V))),vs=[.ref y]∧Yd H y w R X∧X.length=R∧1≤w∧w≤8∧1≤R∧R≤129∧RowsOk H (atR X (tn R))∧(atR X (tn R)).flatten.length≤60 ∧
 ∀(D:Addr) (ss:List Addr) (H':Hp),H D=none→H' D=some (.lst (ss.map V.ref))→P1 (StA (hid D H')) ss (splS H R (atR X (tn R)) (rowsG (goV H (atR X (tn R)) ((R+1:Nat):Int) R) w) (rowsG (goV H (atR X (tn R)) ((R+1:Nat):Int) (tn R)) w))→Same H H'→Q (.ref D) H'
def sp_joining0 (K:PySem.W.Frag):Sp:=fun vs H Q _=>∃(y:Addr) (w R:Nat) (X:List (List (List V))),vs=[.ref y]∧Yd H y w ((R+1:Nat):Int) X∧1≤w∧w≤8∧1≤R∧R≤129∧RowsOk H (atR X (tn R))∧RowsOk H (atR X R)∧(atR X (tn R)).flatten.length≤30∧(atR X R).flatten.length≤30∧((rowD H ((atR X (tn R)).flatten++(atR X R).flatten)).map (·.1)).Nodup ∧
 ∀(D:Addr) (ss:List Addr) (us:List V) (H':Hp),H D=none→H' D=some (.lst (ss.map V.ref))→us.Perm ((atR X (tn R)).flatten++(atR X R).flatten)→((rowD H us).Pairwise fun a b=>a.1<b.1)→P1 (StA (hid D H')) ss (joiS H R (atR X (tn R)) (rowsG us w))→Same H H'→Q (.ref D) H'
def sp_joining (K:PySem.W.Frag):Sp:=fun vs H Q E=>sp_joining0 K vs H Q E ∨ ∃(y:Addr) (w:Int) (X:List (List (List V))),vs=[.ref y]∧Yd H y w 1 X∧∀u C,RelV (.int 0) u→PySem.W.nsIn K mainGlobals "NoRoom" = some (some (.ref C))→E u (some C) H
theorem rowsDD_G {H:Hp}{us:List V}{w:Nat}:rowsDD H (rowsG us w)=rowsG (rowD H us) w:=by unfold rowsDD rowD;rw[rowsG_map]
section
variable {H:Hp}{X:List (List (List V))}{w R:Nat}{es:List (Int×Str)}
theorem Base.rows (b:Base H X w R es) (hen:EnX H X) (w2:w≤8) (el:es.length≤40) {i:Nat}(hi:i<R):RowsOk H (atR X i)∧(atR X i).flatten.length≤40∧∃s,(s.Pairwise fun a b=>a.1<b.1)∧rowsDD H (atR X i)=rowsG s w∧rowD H (atR X i).flatten=s∧∀x,x∈s↔x∈es∧roomV x.1 R =(i:Int):=by
 obtain⟨s,p2,p3,mo,p1⟩:=b.own hi
 have es':rowD H (atR X i).flatten=s:=by rw[rowD_flat,p3,rowsG_flat _ b.w1]
 have sl:s.length≤es.length:=by rw[p1.length_eq];exact List.length_filter_le _ _
 have lr:=congrArg List.length p3
 rw[rowsDD_len]at lr
 have ln:=congrArg List.length es'
 unfold rowD at ln
 rw[List.length_map]at ln
 refine⟨⟨by rw[lr];exact Nat.le_trans (rowsG_le b.w1) (by omega),fun e he=>⟨?_,fun v hv=>?_⟩⟩,by omega,s,p2,p3,es',mo⟩
 ·have hm:rowD H e∈rowsG s w:=by rw[← p3];exact List.mem_map.mpr ⟨e,he,rfl⟩
  unfold rowsG at hm
  obtain⟨i,_,hi⟩:=List.mem_map.mp hm
  have l:=congrArg List.length hi
  unfold rowD at l
  rw[List.length_take,List.length_map]at l
  omega
 ·unfold atR at he
  cases z:X[i]? with
  | none=>rw[z]at he;exact absurd he List.not_mem_nil
  | some x=>rw[z]at he;exact hen x (List.mem_of_getElem? z) e he v hv
theorem joi_nd (b:Base H X w (R+1) es) (hen:EnX H X) (w2:w≤8) (el:es.length≤40) (R2:1≤R):((rowD H ((atR X (tn R)).flatten++(atR X R).flatten)).map (·.1)).Nodup:=by
 have t:=tn_is R2
 obtain⟨_,_,s,so,_,ef,mo⟩:=b.rows hen w2 el (i:=tn R) (by omega)
 obtain⟨_,_,s2,so2,_,ef2,mo2⟩:=b.rows hen w2 el (i:=R) (by omega)
 have e:rowD H ((atR X (tn R)).flatten++(atR X R).flatten)=s++s2:=by
  rw[← ef,← ef2];unfold rowD;rw[List.map_append]
 rw[e,List.map_append]
 have n1:∀{s:List (Int×Str)},(s.Pairwise fun a b=>a.1<b.1)→(s.map (·.1)).Nodup:=fun h=>List.nodup_iff_pairwise_ne.mpr (List.pairwise_map.mpr (h.imp fun h=>Int.ne_of_lt h))
 refine List.nodup_append.mpr ⟨n1 so,n1 so2,fun a ha c hc z=>?_⟩
 obtain⟨x,hx,rfl⟩:=List.mem_map.mp ha
 obtain⟨x2,hx2,rfl⟩:=List.mem_map.mp hc
 have a1:=((mo x).mp hx).2
 have a2:=((mo2 x2).mp hx2).2
 rw[z]at a1
 omega
end
def sp__law_onward (K:PySem.W.Frag):Sp:=fun vs H Q _=>∃(r:Nat) (a b:Addr) (os ns:List (List V)),vs=[.int r,.ref b,.ref a]∧Rws H a os∧Rws H b ns∧RowsOk H os∧RowsOk H ns∧r≤129 ∧
 ∀(D:Addr) (ss:List Addr) (H':Hp),H' D=some (.lst (ss.map V.ref))→P1 (StA H') ss (onS H r os ns)→Same H H'→Q (.ref D) H'
def sp__law_is_yard (K:PySem.W.Frag):Sp:=fun vs H Q _=>∃(y y' h:Addr) (w R:Int) (P:List (List (List (Int×Str)))),vs=[.ref y,.ref y']∧H y=some (.tup [.int w,.int R,.ref h])∧GD K H 5 (.ref y) (pY w R P)∧GD K H 5 (.ref y') (pY w R P)∧Q (.bl true) H
theorem unl_data {H:Hp}{r:Nat}{os ns ns':List (List V)}(e:rowsDD H ns=rowsDD H ns') (en:∀es∈ns,∀v∈es,En H v) (en':∀es∈ns',∀v∈es,En H v):∀k:Nat,(unl H r os ns k).map (dSt H) =(unl H r os ns' k).map (dSt H)
 | 0=>rfl
 | k+1=>by
  have ih:=unl_data (r:=r) (os:=os) e en en' k
  have ek:(rowsDD H ns)[k]? =(rowsDD H ns')[k]?:=by rw[e]
  rw[rowsDD_at,rowsDD_at]at ek
  show(unl H r os ns k++(match ns[k]? with|some es=>if unB H os es k=true then [St3.row r k es] else [] | none=>[])).map (dSt H) =(unl H r os ns' k++(match ns'[k]? with|some es=>if unB H os es k=true then [St3.row r k es] else [] | none=>[])).map (dSt H)
  rw[List.map_append,List.map_append,ih]
  congr 1
  cases c:ns[k]? with
  | none =>
   rw[c]at ek
   cases c':ns'[k]? with
   | none=>rfl
   | some es'=>rw[c']at ek;cases ek
  | some es =>
   rw[c]at ek
   cases c':ns'[k]? with
   | none=>rw[c']at ek;cases ek
   | some es' =>
    rw[c']at ek
    have er:rowD H es=rowD H es':=Option.some.inj ek
    have ub:unB H os es k=unB H os es' k:=by
     unfold unB
     cases os[k]? with
     | none=>rfl
     | some o =>
      show(!decide (rowD H o=rowD H es)) = !decide (rowD H o=rowD H es')
      rw[er]
    show(if unB H os es k=true then [St3.row r k es] else []).map (dSt H) =(if unB H os es' k=true then [St3.row r k es'] else []).map (dSt H)
    rw[ub]
    split
    ·show [PyData.tuple [.str "row",.int r,.int k,dRow H es]]=[PyData.tuple [.str "row",.int r,.int k,dRow H es']]
     rw[dRow_pRow (en es (List.mem_of_getElem? c)),dRow_pRow (en' es' (List.mem_of_getElem? c')),er]
    ·rfl
theorem on_data {H:Hp}{r:Nat}{os ns ns':List (List V)}(e:rowsDD H ns=rowsDD H ns') (en:∀es∈ns,∀v∈es,En H v) (en':∀es∈ns',∀v∈es,En H v):(onS H r os ns).map (dSt H) =(onS H r os ns').map (dSt H):=by
 have l:=congrArg List.length e
 rw[rowsDD_len,rowsDD_len]at l
 unfold onS
 rw[List.map_append,List.map_append,unl_data e en en',l]
theorem yard_pd {K:PySem.W.Frag}{S:Addr→Prop}{H:Hp}{y h:Addr}{w R:Int}{X:List (List (List V))}(hy:H y=some (.tup [.int w,.int R,.ref h])) (r:R3 S H h X) (e:EnX H X):GD K H 5 (.ref y) (pY w R (yD H X)):=by
 have g:=r.gd (K:=K) e
 rw[dX_pX e]at g
 exact GD.tup hy (.cons (.int _) (.cons (.int _) (.cons g .nil)))
theorem steps_gd {K:PySem.W.Frag}{H:Hp}{D:Addr}{ss:List Addr}{sts:List St3}(hD:H D=some (.lst (ss.map V.ref))) (hP:P1 (StA H) ss sts):GD K H 6 (.ref D) (.list (sts.map (dSt H))):=GD.lst hD (gds_map hP fun a x _ h=>h.gd)
theorem stX_enA {H:Hp}:∀{sa:List Addr}{sts:List St3}{X:List (List (List V))},EnX H X→P1 (StA H) sa sts→EnX H (sts.foldl doX X)
 | _,[],_,h,_=>h
 | [],_::_,_,_,hP=>absurd hP.1 (by simp)
 | a::sa,st::sts,X,h,hP=>by
  obtain⟨h1,h2⟩:=hP.tail
  exact stX_enA (sts:=sts) (h.step h1) h2
def sp__law_top (K:PySem.W.Frag):Sp:=fun vs H Q _=>∃(R:Int),vs=[.int R]∧1≤R∧R≤1000∧Q (.int (2^lg R)) H
def sp__law_all_of (K:PySem.W.Frag):Sp:=fun vs H Q _=>∃(t l:Addr) (w r:V) (Y:List (List (List V))),vs=[.ref t]∧H t=some (.tup [w,r,.ref l])∧Rms H l Y∧(allV Y).length≤100000 ∧
 ∀(D:Addr) (H':Hp),H D=none→H' D=some (.lst (allV Y))→Same H H'→Q (.ref D) H'
def Rw (H:Hp) (n:List (List V)) (w R:Nat) (es:List (Int×Str)) (r:Nat):Prop:=(∃s:List (Int×Str),(s.Pairwise fun a b=>a.1<b.1)∧(∀x,x∈s↔x∈es∧roomV x.1 R =(r:Int))∧rowsDD H n=rowsG s w)∧∀e∈n,∀v∈e,En H v
section
variable {H H':Hp}{X Z:List (List (List V))}{n n' n1 n1' n2 n2':List (List V)}{w R r:Nat}{es:List (Int×Str)}
theorem Rw.uniq (a:Rw H n w R es r) (b:Rw H n' w R es r):rowsDD H n=rowsDD H n':=by
 obtain⟨⟨s,h1,h2,h3⟩,_⟩:=a
 obtain⟨⟨t,g1,g2,g3⟩,_⟩:=b
 rw[h3,g3,lt_uniq h1 g1 fun x=>by rw[h2,g2]]
theorem Rw.keep (kt:∀t xs,H t=some (.tup xs)→H' t=some (.tup xs)) (a:Rw H n w R es r):Rw H' n w R es r:=by
 obtain⟨⟨s,h1,h2,h3⟩,en⟩:=a
 exact⟨⟨s,h1,h2,by rw[rowsDD_keep kt en];exact h3⟩,fun e he v hv=>(en e he v hv).keep kt⟩
theorem Rw.at (cl:IsCl w R es (yD H Z)) (nd:(es.map (·.1)).Nodup) (hen:EnX H Z) (hi:r<R):Rw H (atR Z r) w R es r:=by
 obtain⟨s,p1,p2,p3⟩:=cl_at cl nd hi
 refine⟨⟨s,p2,fun x=>by rw[p1.mem_iff,List.mem_filter,decide_eq_true_eq],p3⟩,fun e he v hv=>?_⟩
 unfold atR at he
 cases z:Z[r]? with
 | none=>rw[z]at he;exact absurd he List.not_mem_nil
 | some x=>rw[z]at he;exact hen x (List.mem_of_getElem? z) e he v hv
def backS (H:Hp) (r:Nat) (os ns:List (List V)):List St3:=(unl H r os ns ns.length).reverse
def canon (H:Hp) (X:List (List (List V))) (R r1:Nat) (n1 n2:List (List V)):Nat→List St3
 | 0=>onS H R [] n1 ++ .rooms (R+1)::onS H (tn R) (atR X (tn R)) n2
 | 1=>backS H r1 (atR X r1) n1 ++ [.rooms (R-1),.cut (R-1) 0]
 | 2=>backS H r1 (atR X r1) n1
 | _=>onS H r1 (atR X r1) n1
theorem back_data {os:List (List V)}(e:rowsDD H n1=rowsDD H n1') (en:∀es∈n1,∀v∈es,En H v) (en':∀es∈n1',∀v∈es,En H v):(backS H r os n1).map (dSt H) =(backS H r os n1').map (dSt H):=by
 unfold backS
 have l:n1.length=n1'.length:=by have:=congrArg List.length e;rw[rowsDD_len,rowsDD_len]at this;exact this
 rw[List.map_reverse,List.map_reverse,unl_data e en en',l]
theorem canon_data {r1:Nat}(wv:Nat) (e:rowsDD H n1=rowsDD H n1') (e2:rowsDD H n2=rowsDD H n2') (en:∀es∈n1,∀v∈es,En H v) (en':∀es∈n1',∀v∈es,En H v) (em:∀es∈n2,∀v∈es,En H v) (em':∀es∈n2',∀v∈es,En H v) :
  (canon H X R r1 n1 n2 wv).map (dSt H) =(canon H X R r1 n1' n2' wv).map (dSt H):=by
 match wv with
 | 0 =>
  show(onS H R [] n1 ++ .rooms (R+1)::onS H (tn R) (atR X (tn R)) n2).map (dSt H) =(onS H R [] n1' ++ .rooms (R+1)::onS H (tn R) (atR X (tn R)) n2').map (dSt H)
  rw[List.map_append,List.map_append,List.map_cons,List.map_cons,on_data e en en',on_data e2 em em']
 | 1 =>
  show(backS H r1 (atR X r1) n1 ++ [St3.rooms (R-1),St3.cut (R-1) 0]).map (dSt H) =(backS H r1 (atR X r1) n1' ++ [St3.rooms (R-1),St3.cut (R-1) 0]).map (dSt H)
  rw[List.map_append,List.map_append,back_data e en en']
 | 2=>exact back_data e en en'
 | k+3=>exact on_data e en en'
theorem back_keep {os:List (List V)}(kt:∀t xs,H t=some (.tup xs)→H' t=some (.tup xs)) (eo:∀es∈os,∀v∈es,En H v) (en:∀es∈n1,∀v∈es,En H v):backS H' r os n1=backS H r os n1:=by
 unfold backS;rw[unl_keep kt eo en]
theorem atR_en (hen:EnX H X) (i:Nat):∀es∈atR X i,∀v∈es,En H v:=fun e he v hv=>by
 unfold atR at he
 cases z:X[i]? with
 | none=>rw[z]at he;exact absurd he List.not_mem_nil
 | some x=>rw[z]at he;exact hen x (List.mem_of_getElem? z) e he v hv
theorem canon_keep {r1:Nat}(wv:Nat) (kt:∀t xs,H t=some (.tup xs)→H' t=some (.tup xs)) (hen:EnX H X) (en:∀es∈n1,∀v∈es,En H v) (em:∀es∈n2,∀v∈es,En H v):canon H' X R r1 n1 n2 wv=canon H X R r1 n1 n2 wv:=by
 match wv with
 | 0 =>
  show onS H' R [] n1 ++ .rooms (R+1)::onS H' (tn R) (atR X (tn R)) n2=onS H R [] n1 ++ .rooms (R+1)::onS H (tn R) (atR X (tn R)) n2
  rw[on_keep kt (fun _ h=>absurd h List.not_mem_nil) en,on_keep kt (atR_en hen _) em]
 | 1 =>
  show backS H' r1 (atR X r1) n1 ++ [.rooms (R-1),.cut (R-1) 0]=backS H r1 (atR X r1) n1 ++ [.rooms (R-1),.cut (R-1) 0]
  rw[back_keep kt (atR_en hen _) en]
 | 2=>exact back_keep kt (atR_en hen _) en
 | k+3=>exact on_keep kt (atR_en hen _) en
def esN (es:List (Int×Str)) (k:Int) (z:Str):Nat→List (Int×Str)
 | 0=>es
 | 1=>es
 | 2=>dropE es k ++ [(k,z)]
 | _=>dropE es k
def RN (R:Nat):Nat→Nat
 | 0=>R+1
 | 1=>R-1
 | _=>R
def rm1 (R:Nat) (k:Int):Nat→Nat
 | 0=>R
 | 1=>tn (R-1)
 | _=>(roomV k R).toNat
theorem esN_nd {k:Int}{z:Str}(nd:(es.map (·.1)).Nodup):∀wv,((esN es k z wv).map (·.1)).Nodup
 | 0=>nd
 | 1=>nd
 | 2=>by
  show((dropE es k ++ [(k,z)]).map (·.1)).Nodup
  rw[List.map_append]
  refine List.nodup_append.mpr ⟨?_,by simp,fun a ha b hb e=>?_⟩
  ·unfold dropE;exact nd.sublist (List.filter_sublist.map _)
  ·obtain⟨x,hx,rfl⟩:=List.mem_map.mp ha
   have hb:b=k:=by simpa using hb
   exact(dropE_mem.mp hx).2 (e.trans hb)
 | k+3=>by
  show((dropE es _).map (·.1)).Nodup
  unfold dropE;exact nd.sublist (List.filter_sublist.map _)
end
section
variable {H H':Hp}{X:List (List (List V))}{n1 n2:List (List V)}{w R:Nat}{es:List (Int×Str)}{k:Int}{z:Str}
theorem room_new {x:Int}(R1:1≤R):roomV x ((R+1:Nat):Int) =(R:Int)→roomV x R =(tn R:Int):=fun h=>by
 have rb:=roomV_lt (k:=x) (R:=(R:Int)) (by omega)
 rcases room_up x R1 with c|c
 ·exact c.2
 ·rw[c]at h;omega
theorem room_old {x:Int}(R1:1≤R):roomV x ((R+1:Nat):Int) =(tn R:Int)→roomV x R =(tn R:Int):=fun h=>by
 have t:=tn_is R1
 rcases room_up x R1 with c|c
 ·exact c.2
 ·rw[← c];exact h
theorem fin0 (b:Base H X w R es) (h1:Rw H n1 w (R+1) es R) (h2:Rw H n2 w (R+1) es (tn R)):IsCl w (R+1) es (yD H ((canon H X R R n1 n2 0).foldl doX X))∧(canon H X R R n1 n2 0).foldl doR (R:Int) =((R+1:Nat):Int):=by
 have t:=tn_is b.R1
 obtain⟨s,so,hO,mo,_⟩:=b.own t.2
 obtain⟨⟨s1,p1,m1,e1⟩,_⟩:=h1
 obtain⟨⟨s2,p2,m2,e2⟩,_⟩:=h2
 have q1:s1=s.filter fun e=>decide (roomV e.1 ((R+1:Nat):Int) =(R:Int)):=lt_uniq p1 (so.filter _) fun x=>by
  rw[m1,List.mem_filter,mo,decide_eq_true_eq]
  exact⟨fun h=>⟨⟨h.1,room_new b.R1 h.2⟩,h.2⟩,fun h=>⟨h.1.1,h.2⟩⟩
 have q2:s2=s.filter fun e=>decide (roomV e.1 ((R+1:Nat):Int) =(tn R:Int)):=lt_uniq p2 (so.filter _) fun x=>by
  rw[m2,List.mem_filter,mo,decide_eq_true_eq]
  exact⟨fun h=>⟨⟨h.1,room_old b.R1 h.2⟩,h.2⟩,fun h=>⟨h.1.1,h.2⟩⟩
 have sp:Spl H X w R es n1 n2 s s1 s2:=⟨b,so,hO,mo,q1,q2,e1,e2⟩
 have f:=sp.fin
 unfold stX at f
 rw[List.take_length]at f
 refine⟨f,?_⟩
 show(onS H R [] n1++St3.rooms (R+1)::onS H (tn R) (atR X (tn R)) n2).foldl doR (R:Int)=_
 rw[List.foldl_append,List.foldl_cons]
 exact doR_in on_room
theorem fin1 (b:Base H X w (R+1) es) (R1:1≤R) (h1:Rw H n1 w R es (tn R)):IsCl w R es (yD H ((canon H X (R+1) (tn R) n1 n2 1).foldl doX X))∧(canon H X (R+1) (tn R) n1 n2 1).foldl doR ((R+1:Nat):Int) =(R:Int):=by
 have t:=tn_is R1
 obtain⟨s,so,hO,mo,_⟩:=b.own (i:=tn R) (by omega)
 obtain⟨⟨s1,p1,m1,e1⟩,_⟩:=h1
 have jo:Joi H X w R es n1 s s1:=⟨b,R1,so,hO,mo,p1,fun x=>by
  rw[m1]
  have rb:=roomV_lt (k:=x.1) (R:=(R:Int)) (by omega)
  rcases room_up x.1 R1 with c|c
  ·exact⟨fun h=>⟨h.1,.inr c.1⟩,fun h=>⟨h.1,c.2⟩⟩
  ·rw[c]
   exact⟨fun h=>⟨h.1,.inl h.2⟩,fun h=>⟨h.1,h.2.elim id fun z=>by omega⟩⟩,e1⟩
 have f:=jo.fin
 unfold stX at f
 rw[List.take_length]at f
 refine⟨f,?_⟩
 show(backS H (tn R) (atR X (tn R)) n1 ++ [St3.rooms (R+1-1),St3.cut (R+1-1) 0]).foldl doR ((R+1:Nat):Int)=_
 rw[List.foldl_append];rfl
theorem fin23 {es':List (Int×Str)}(b:Base H X w R es) (nd':(es'.map (·.1)).Nodup) (al:∀x:Int×Str,x.1≠k→(x∈es↔x∈es')) (h1:Rw H n1 w R es' (roomV k R).toNat) {sts:List St3}(ir:∀st∈sts,inRoom (roomV k R).toNat st)
  (hd:(∃x∈es',x.1=k)∧((atR X (roomV k R).toNat).length≤n1.length→rowsDD H (sts.foldl stepR (atR X (roomV k R).toNat))=rowsDD H n1) ∨(∀x∈es',x.1≠k)∧(n1.length ≤(atR X (roomV k R).toNat).length→rowsDD H (sts.foldl stepR (atR X (roomV k R).toNat))=rowsDD H n1)) :
  IsCl w R es' (yD H (sts.foldl doX X))∧sts.foldl doR (R:Int) =(R:Int):=by
 have R1:=b.R1
 have rb:=roomV_lt (k:=k) (R:=(R:Int)) (by omega)
 have er:((roomV k R).toNat:Int)=roomV k R:=by omega
 obtain⟨⟨s1,p1,m1,e1⟩,_⟩:=h1
 rw[er]at m1
 obtain⟨U,A,B,W,c,hA,hB,hn⟩:=chg_mk b.cl b.nd nd' b.w1 b.R1 al e1 p1 m1
 have lo:=congrArg List.length c.hO
 have ln:=congrArg List.length c.hN
 rw[rowsDD_len]at lo ln
 refine⟨c.fin rfl ir ?_,doR_in ir⟩
 rcases hd with⟨⟨x,hx,xk⟩,hd⟩|⟨no,hd⟩
 ·refine hd ?_
  rw[show atR X (roomV k R).toNat=ownR X k R from rfl,lo,ln]
  refine rowsG_mono ?_ b.w1
  have xm:=(c.mn x).mpr ⟨hx,by rw[xk]⟩
  have xB:x∈B:=by
   rcases List.mem_append.mp xm with y|y
   ·exact absurd xk (hn x (List.mem_append_left _ y))
   ·rcases List.mem_append.mp y with y|y
    ·exact y
    ·exact absurd xk (hn x (List.mem_append_right _ y))
  have bl:1≤B.length:=List.length_pos_iff.mpr fun e=>by rw[e]at xB;cases xB
  have al':A.length≤1:=by rcases hA with rfl|⟨y,rfl,_⟩ <;> simp
  simp only[List.length_append];omega
 ·refine hd ?_
  rw[show atR X (roomV k R).toNat=ownR X k R from rfl,lo,ln]
  refine rowsG_mono ?_ b.w1
  have bl:B=[]:=by
   rcases hB with e|⟨y,rfl,yk⟩
   ·exact e
   ·exact absurd yk (no y ((c.mn y).mp (List.mem_append_right _ (List.mem_append_left _ (List.mem_singleton.mpr rfl)))).1)
  rw[bl]
  simp only[List.length_append,List.length_nil];omega
theorem fin2 (b:Base H X w R es) (h1:Rw H n1 w R (esN es k z 2) (roomV k R).toNat):IsCl w R (esN es k z 2) (yD H ((canon H X R (roomV k R).toNat n1 n2 2).foldl doX X))∧(canon H X R (roomV k R).toNat n1 n2 2).foldl doR (R:Int) =(R:Int) :=
 fin23 (k:=k) b (esN_nd b.nd 2) (fun x hx=>by
  show x∈es↔x∈dropE es k ++ [(k,z)]
  rw[List.mem_append,dropE_mem,List.mem_singleton]
  exact⟨fun h=>.inl ⟨h,hx⟩,fun h=>h.elim (fun h=>h.1) fun h=>absurd (by rw[h]) hx⟩) h1 unl_rev_room (.inl ⟨⟨(k,z),List.mem_append_right _ (List.mem_singleton.mpr rfl),rfl⟩,fun h=>back_done2 h⟩)
theorem fin3 (b:Base H X w R es) (h1:Rw H n1 w R (esN es k z 3) (roomV k R).toNat):IsCl w R (esN es k z 3) (yD H ((canon H X R (roomV k R).toNat n1 n2 3).foldl doX X))∧(canon H X R (roomV k R).toNat n1 n2 3).foldl doR (R:Int) =(R:Int) :=
 fin23 (k:=k) b (esN_nd (z:=z) b.nd 3) (fun x hx=>by
  show x∈es↔x∈dropE es k
  rw[dropE_mem]
  exact⟨fun h=>⟨h,hx⟩,fun h=>h.1⟩) h1 on_room (.inr ⟨fun x hx=>(dropE_mem.mp hx).2,fun h=>on_done h⟩)
theorem canon_fin (wv:Nat) (hv:wv≤3) (b:Base H X w R es) (hj:wv=1→2≤R) (h1:Rw H n1 w (RN R wv) (esN es k z wv) (rm1 R k wv)) (h2:wv=0→Rw H n2 w (R+1) es (tn R)):IsCl w (RN R wv) (esN es k z wv) (yD H ((canon H X R (rm1 R k wv) n1 n2 wv).foldl doX X))∧(canon H X R (rm1 R k wv) n1 n2 wv).foldl doR (R:Int) =((RN R wv:Nat):Int):=by
 match wv,hv with
 | 0,_=>exact fin0 b h1 (h2 rfl)
 | 1,_ =>
  have h2R:=hj rfl
  obtain⟨R0,e⟩ : ∃R0,R=R0+1:=⟨R-1,by omega⟩
  subst e
  have hR0:1≤R0:=by omega
  exact fin1 b hR0 h1
 | 2,_=>exact fin2 b h1
 | 3,_=>exact fin3 b h1
end
structure YB (H:Hp) (y:Addr) (w R:Nat) (X:List (List (List V))) (es:List (Int×Str)):Prop where
 yd:Yd H y w R X
 b:Base H X w R es
 en:EnX H X
 w2:w≤8
 R2:R≤130
 el:es.length≤26
 ok:OkE es
theorem YB.same {H H':Hp}{y:Addr}{w R:Nat}{X:List (List (List V))}{es:List (Int×Str)}(s:Same H H') (h:YB H y w R X es):YB H' y w R X es:=by
 have kt:∀t xs,H t=some (.tup xs)→H' t=some (.tup xs):=fun _ _ e=>s _ _ e
 exact⟨h.yd.same s,⟨by rw[yD_keep kt h.en];exact h.b.cl,h.b.nd,h.b.w1,h.b.R1⟩,h.en.same s,h.w2,h.R2,h.el,h.ok⟩
def wN:Nat→Str
 | 0 => "split"
 | 1 => "join"
 | 2 => "put"
 | _ => "drop"
def Told (H':Hp) (D:Addr) (X:List (List (List V))) (w R:Nat) (es:List (Int×Str)) (k:Int) (z:Str) (wv:Nat):Prop:=∃(ss:List Addr) (n1 n2:List (List V)),H' D=some (.lst (ss.map V.ref))∧P1 (StA H') ss (canon H' X R (rm1 R k wv) n1 n2 wv)∧Rw H' n1 w (RN R wv) (esN es k z wv) (rm1 R k wv)∧(wv=0→Rw H' n2 w (R+1) es (tn R))∧(wv≠0→n2=[])
def sp__law_asked_change (K:PySem.W.Frag):Sp:=fun vs H Q E=>∃(y:Addr) (w R:Nat) (X:List (List (List V))) (es:List (Int×Str)) (k:Int) (z:Str) (wv:Nat),vs=[.ref y,.str (wN wv),.int k,.str z]∧YB H y w R X es∧wv≤3∧(0≤k∧k<1152921504606846976)∧(PyData.strOk z=true∧z.length≤100)∧(wv=0→R≤129) ∧
 ((wv=1→2≤R)→(wv=3→k∈es.map (·.1))→∀D H',Told H' D X w R es k z wv→Same H H'→Q (.ref D) H') ∧
 (wv=1→R=1→∀u C,RelV (.int 0) u→PySem.W.nsIn K mainGlobals "NoRoom" = some (some (.ref C))→E u (some C) H) ∧
 (wv=3→k∉es.map (·.1)→∀H3 u C,Same H H3→RelV (.int k) u→PySem.W.nsIn K mainGlobals "Lacking" = some (some (.ref C))→E u (some C) H3)
section
variable {H H':Hp}{X:List (List (List V))}{w R:Nat}{es:List (Int×Str)}{k:Int}{z:Str}
theorem rw_go (b:Base H X w R es) (hen:EnX H X) (w2:w≤8) (el:es.length≤40) {n:Nat}(hn:∀x:Int,roomV x ((R+1:Nat):Int) =(n:Int)→roomV x R =(tn R:Int)):Rw H (rowsG (goV H (atR X (tn R)) ((R+1:Nat):Int) n) w) w (R+1) es n:=by
 have t:=tn_is b.R1
 obtain⟨ok,_,s,so,_,ef,mo⟩:=b.rows hen w2 el t.2
 have gd:rowD H (goV H (atR X (tn R)) ((R+1:Nat):Int) n)=s.filter fun e=>decide (roomV e.1 ((R+1:Nat):Int) =(n:Int)):=by
  rw[← ef]
  unfold rowD goV
  rw[List.filter_map];rfl
 refine⟨⟨_,so.filter _,fun x=>?_,by rw[rowsDD_G,gd]⟩,fun e he v hv=>go_en (fun es he=>(ok.2 es he).2) v (rowsG_mem he hv)⟩
 rw[List.mem_filter,mo,decide_eq_true_eq]
 exact⟨fun h=>⟨h.1.1,h.2⟩,fun h=>⟨⟨h.1,hn _ h.2⟩,h.2⟩⟩
theorem rw_join {us:List V}(b:Base H X w (R+1) es) (hen:EnX H X) (w2:w≤8) (el:es.length≤40) (R1:1≤R) (pu:us.Perm ((atR X (tn R)).flatten++(atR X R).flatten)) (su:(rowD H us).Pairwise fun a b=>a.1<b.1):Rw H (rowsG us w) w R es (tn R):=by
 have t:=tn_is R1
 obtain⟨ok,_,s,so,hO,ef,mo⟩:=b.rows hen w2 el (i:=tn R) (by omega)
 obtain⟨ok2,_,s2,so2,_,ef2,mo2⟩:=b.rows hen w2 el (i:=R) (by omega)
 refine⟨⟨_,su,fun x=>?_,rowsDD_G⟩,fun e he v hv=>?_⟩
 ·have mu:x∈rowD H us↔x∈s∨x∈s2:=by
   have:=(pu.map (eD H)).mem_iff (a:=x)
   unfold rowD
   rw[this,List.map_append,List.mem_append,← ef,← ef2];rfl
  rw[mu,mo,mo2]
  have rb:=roomV_lt (k:=x.1) (R:=(R:Int)) (by omega)
  rcases room_up x.1 R1 with c|c
  ·exact⟨fun q=>q.elim (fun z=>⟨z.1,c.2⟩) fun z=>⟨z.1,c.2⟩,fun q=>.inr ⟨q.1,c.1⟩⟩
  ·rw[c]
   exact⟨fun q=>q.elim id fun z=>⟨z.1,by omega⟩,fun q=>.inl q⟩
 ·rcases List.mem_append.mp (pu.mem_iff.mp (rowsG_mem he hv)) with hv|hv
  ·obtain⟨es,he,hm⟩:=List.mem_flatten.mp hv
   exact(ok.2 es he).2 v hm
  ·obtain⟨es,he,hm⟩:=List.mem_flatten.mp hv
   exact(ok2.2 es he).2 v hm
theorem room_nat (R1:1≤R):((roomV k R).toNat:Int)=roomV k R:=by
 have:=roomV_lt (k:=k) (R:=(R:Int)) (by omega)
 omega
theorem rw_put {us:List V}{t:Addr}(b:Base H X w R es) (hen:EnX H X) (w2:w≤8) (el:es.length≤40) (sm:Same H H') (kk:0≤k∧k<1152921504606846976) (zz:PyData.strOk z=true∧z.length≤100) (ht:H' t=some (.tup [.int k,.str z])) (pu:us.Perm (othV H (ownR X k R) k ++ [.ref t])) (su:(rowD H' us).Pairwise fun a b=>a.1<b.1):Rw H' (rowsG us w) w R (esN es k z 2) (roomV k R).toNat:=by
 obtain⟨ok,_,_,_,mo⟩:=own46 (k:=k) b.cl b.nd hen b.w1 w2 b.R1 (by omega)
 have kt:∀t xs,H t=some (.tup xs)→H' t=some (.tup xs):=fun _ _ e=>sm _ _ e
 have oen:=oth_en (k:=k) fun es he=>(ok.2 es he).2
 refine⟨⟨_,su,fun x=>?_,rowsDD_G⟩,fun e he v hv=>?_⟩
 ·have m1:=(pu.map (eD H')).mem_iff (a:=x)
  rw[List.map_append,List.mem_append]at m1
  rw[show x∈rowD H' us↔x∈us.map (eD H') from Iff.rfl,m1,show(othV H (ownR X k R) k).map (eD H')=rowD H' (othV H (ownR X k R) k) from rfl,rowD_keep kt oen,rowD_oth,List.mem_filter,mo]
  show _∨x ∈ [eD H' (.ref t)]↔x∈dropE es k ++ [(k,z)]∧_
  rw[eD_at ht,List.mem_append,dropE_mem,room_nat b.R1,List.mem_singleton]
  constructor
  ·rintro(⟨⟨h1,h2⟩,h3⟩|rfl)
   ·exact⟨.inl ⟨h1,by simpa using h3⟩,h2⟩
   ·exact⟨.inr rfl,rfl⟩
  ·rintro⟨⟨h1,h3⟩|rfl,h2⟩
   ·exact .inl ⟨⟨h1,h2⟩,by simpa using h3⟩
   ·exact .inr rfl
 ·rcases List.mem_append.mp (pu.mem_iff.mp (rowsG_mem he hv)) with hv|hv
  ·exact(oen v hv).keep kt
  ·rw[List.mem_singleton.mp hv];exact⟨t,k,z,rfl,ht,zz.1,kk.1,kk.2,zz.2⟩
theorem rw_drop (b:Base H X w R es) (hen:EnX H X) (w2:w≤8) (el:es.length≤40):Rw H (rowsG (othV H (ownR X k R) k) w) w R (esN es k z 3) (roomV k R).toNat:=by
 obtain⟨ok,_,_,so,mo⟩:=own46 (k:=k) b.cl b.nd hen b.w1 w2 b.R1 (by omega)
 have oen:=oth_en (k:=k) fun es he=>(ok.2 es he).2
 refine⟨⟨_,?_,fun x=>?_,rowsDD_G⟩,fun e he v hv=>oen v (rowsG_mem he hv)⟩
 ·rw[rowD_oth];exact so.filter _
 ·rw[rowD_oth,List.mem_filter,mo,room_nat b.R1]
  show _↔x∈dropE es k∧_
  rw[dropE_mem]
  constructor
  ·rintro⟨⟨h1,h2⟩,h3⟩
   exact⟨⟨h1,by simpa using h3⟩,h2⟩
  ·rintro⟨⟨h1,h3⟩,h2⟩
   exact⟨⟨h1,h2⟩,by simpa using h3⟩
end
theorem join_few {H:Hp}{X:List (List (List V))}{w R:Nat}{es:List (Int×Str)}(b:Base H X w (R+1) es) (hen:EnX H X) (w2:w≤8) (el:es.length≤26) (R1:1≤R):(atR X (tn R)).flatten.length≤30∧(atR X R).flatten.length≤30:=by
 have t:=tn_is R1
 have one:∀i,i<R+1→(atR X i).flatten.length≤26:=fun i hi=>by
  obtain⟨s,_,p3,_,p1⟩:=b.own hi
  have es':rowD H (atR X i).flatten=s:=by rw[rowD_flat,p3,rowsG_flat _ b.w1]
  have l:=congrArg List.length es'
  unfold rowD at l
  rw[List.length_map,p1.length_eq]at l
  have:=List.length_filter_le (fun e:Int×Str=>decide (roomV e.1 ((R+1:Nat):Int) =(i:Int))) es
  omega
 have a:=one (tn R) (by omega)
 have c:=one R (by omega)
 omega
section
variable {H H':Hp}{X Z:List (List (List V))}{n1 n2:List (List V)}{w R:Nat}{es:List (Int×Str)}{k:Int}{z:Str}{y D:Addr}{wv:Nat}
theorem Told.same (sm:Same H H') (hen:EnX H X) (t:Told H D X w R es k z wv):Told H' D X w R es k z wv:=by
 have kt:∀t xs,H t=some (.tup xs)→H' t=some (.tup xs):=fun _ _ e=>sm _ _ e
 obtain⟨ss,n1,n2,h1,h2,h3,h4,h5⟩:=t
 refine⟨ss,n1,n2,sm _ _ h1,?_,h3.keep kt,fun e=>(h4 e).keep kt,h5⟩
 rw[canon_keep wv kt hen h3.2 (by
  by_cases c:wv=0
  ·exact(h4 c).2
  ·rw[h5 c];exact fun _ h=>absurd h List.not_mem_nil)]
 exact h2.imp fun s st h=>h.same sm
theorem Told.data {K:PySem.W.Frag}{D':Addr}(a:Told H D X w R es k z wv) (b:Told H D' X w R es k z wv):∃d,GD K H 6 (.ref D) d∧GD K H 6 (.ref D') d:=by
 obtain⟨ss,n1,n2,h1,h2,h3,h4,h5⟩:=a
 obtain⟨ss',m1,m2,g1,g2,g3,g4,g5⟩:=b
 refine⟨_,steps_gd h1 h2,?_⟩
 have e2:rowsDD H n2=rowsDD H m2∧(∀es∈n2,∀v∈es,En H v)∧∀es∈m2,∀v∈es,En H v:=by
  by_cases c:wv=0
  ·exact⟨(h4 c).uniq (g4 c),(h4 c).2,(g4 c).2⟩
  ·rw[h5 c,g5 c];exact⟨rfl,fun _ h=>absurd h List.not_mem_nil,fun _ h=>absurd h List.not_mem_nil⟩
 rw[canon_data wv (h3.uniq g3) e2.1 h3.2 g3.2 e2.2.1 e2.2.2]
 exact steps_gd g1 g2
theorem rws_at {S:Addr→Prop}{bs:List Addr}{r:Nat}(hP:P1 (R2 S H) bs Z) (hr:r<Z.length):∃b,bs[r]? = some b∧Rws H b (atR Z r):=by
 obtain⟨b,hb,_,as,h1,h2⟩:=hP.at' (List.getElem?_eq_getElem hr)
 refine⟨b,hb,as,h1,?_,fun i a es e1 e2=>?_⟩
 ·unfold atR;rw[List.getElem?_eq_getElem hr];exact h2.1
 ·unfold atR at e2;rw[List.getElem?_eq_getElem hr]at e2
  exact(h2.2 i a es e1 e2).2
theorem rev_P1 {α:Type}{p:Addr→α→Prop}{as:List Addr}{xs:List α}(h:P1 p as xs):P1 p as.reverse xs.reverse:=by
 refine⟨by rw[List.length_reverse,List.length_reverse];exact h.1,fun i a x e1 e2=>?_⟩
 have l1:=(List.getElem?_eq_some_iff.mp e1).1
 have l2:=(List.getElem?_eq_some_iff.mp e2).1
 rw[List.length_reverse]at l1 l2
 rw[List.getElem?_reverse l1]at e1
 rw[List.getElem?_reverse l2]at e2
 have:=h.1
 exact h.2 (as.length-1-i) a x e1 (by rw[this];exact e2)
theorem on_back {r:Nat}{os:List (List V)}(h:os.length≤n1.length):(onS H r os n1).reverse=backS H r os n1:=by
 unfold onS backS
 rw[if_neg (by omega),List.append_nil]
theorem lenJ (b:Base H X w (R+1) es) (R1:1≤R) (h1:Rw H n1 w R es (tn R)):(atR X (tn R)).length≤n1.length:=by
 have t:=tn_is R1
 obtain⟨s,so,hO,mo,_⟩:=b.own (i:=tn R) (by omega)
 obtain⟨⟨s1,p1,m1,e1⟩,_⟩:=h1
 have jo:Joi H X w R es n1 s s1:=⟨b,R1,so,hO,mo,p1,fun x=>by
  rw[m1]
  have rb:=roomV_lt (k:=x.1) (R:=(R:Int)) (by omega)
  rcases room_up x.1 R1 with c|c
  ·exact⟨fun h=>⟨h.1,.inr c.1⟩,fun h=>⟨h.1,c.2⟩⟩
  ·rw[c]
   exact⟨fun h=>⟨h.1,.inl h.2⟩,fun h=>⟨h.1,h.2.elim id fun z=>by omega⟩⟩,e1⟩
 exact jo.ll
theorem lenP (b:Base H X w R es) (h1:Rw H n1 w R (esN es k z 2) (roomV k R).toNat):(atR X (roomV k R).toNat).length≤n1.length:=by
 obtain⟨⟨s1,p1,m1,e1⟩,_⟩:=h1
 rw[room_nat b.R1]at m1
 obtain⟨U,A,B,W,c,hA,hB,hn⟩:=chg_mk (k0:=k) b.cl b.nd (esN_nd (k:=k) (z:=z) b.nd 2) b.w1 b.R1 (fun x hx=>by
  show x∈es↔x∈dropE es k ++ [(k,z)]
  rw[List.mem_append,dropE_mem,List.mem_singleton]
  exact⟨fun h=>.inl ⟨h,hx⟩,fun h=>h.elim (fun h=>h.1) fun h=>absurd (by rw[h]) hx⟩) e1 p1 m1
 have lo:=congrArg List.length c.hO
 have ln:=congrArg List.length c.hN
 rw[rowsDD_len]at lo ln
 rw[show atR X (roomV k R).toNat=ownR X k R from rfl,lo,ln]
 refine rowsG_mono ?_ b.w1
 have xm:=(c.mn (k,z)).mpr ⟨List.mem_append_right _ (List.mem_singleton.mpr rfl),rfl⟩
 have xB:(k,z)∈B:=by
  rcases List.mem_append.mp xm with y|y
  ·exact absurd rfl (hn _ (List.mem_append_left _ y))
  ·rcases List.mem_append.mp y with y|y
   ·exact y
   ·exact absurd rfl (hn _ (List.mem_append_right _ y))
 have bl:1≤B.length:=List.length_pos_iff.mpr fun e=>by rw[e]at xB;cases xB
 have al':A.length≤1:=by rcases hA with rfl|⟨y,rfl,_⟩ <;> simp
 simp only[List.length_append];omega
theorem YB.ents (h:YB H y w R X es):∃ts:List Addr,allV X=ts.map V.ref∧EL H ts (flatP (yD H X))∧(flatP (yD H X)).Perm es:=by
 obtain⟨ts,h1,h2⟩:=EL.of (En.rows h.en)
 exact⟨ts,h1,by rw[flat_yD];exact h2,h.b.cl.flat h.b.nd h.b.w1 h.b.R1⟩
theorem YB.mk' {es':List (Int×Str)}(h:Yq H y w R Z) (cl:IsCl w R es' (yD H Z)) (nd:(es'.map (·.1)).Nodup) (w1:1≤w) (w2:w≤8) (R1:1≤R) (R2:R≤130) (el:es'.length≤26) (ok:OkE es'):YB H y w R Z es' :=
 ⟨yq_yd h cl w1 w2 R2 (by omega),⟨cl,nd,w1,R1⟩,(by obtain⟨_,_,_,e,_⟩:=h;exact e),w2,R2,el,ok⟩
end
def sp__law_said (K:PySem.W.Frag):Sp:=fun vs H Q _=>∃(y:Addr) (w R:Nat) (X:List (List (List V))) (es:List (Int×Str)) (k:Int) (z:Str) (wv:Nat),vs=[.ref y,.str (wN wv),.int k,.str z]∧YB H y w R X es∧wv≤3∧(0≤k∧k<1152921504606846976)∧(PyData.strOk z=true∧z.length≤100)∧(wv=0→R≤129) ∧
 ((wv=1→2≤R)→(wv=3→k∈es.map (·.1))→∀D t H',Told H' D X w R es k z wv→H' t=some (.tup [.str "told",.ref D])→Same H H'→Q (.ref t) H') ∧
 (wv=1→R=1→∀t H',H' t=some (.tup [.str "room",.int 0])→Same H H'→Q (.ref t) H') ∧
 (wv=3→k∉es.map (·.1)→∀t H',H' t=some (.tup [.str "lacking",.int k])→Same H H'→Q (.ref t) H')
section
variable {H H':Hp}{X Z:List (List (List V))}{w R r:Nat}{es:List (Int×Str)}{k:Int}{z:Str}{y:Addr}{n:List (List V)}
theorem clean_at (h:Yq H y w R Z) (cl:IsCl w R es (yD H Z)) (nd:(es.map (·.1)).Nodup) (w1:1≤w) (w2:w≤8) (R1:1≤R) (el:es.length≤40) (hr:r<R):∃(t b:Addr) (bs:List Addr),H y=some (.tup [.int w,.int R,.ref t])∧H t=some (.lst (bs.map V.ref))∧bs[r]? = some b∧Rws H b (atR Z r)∧Rw H (atR Z r) w R es r∧RowsOk H (atR Z r):=by
 obtain⟨t,h1,⟨bs,h2,h3⟩,en,_⟩:=h
 have b:Base H Z w R es:=⟨cl,nd,w1,R1⟩
 obtain⟨c,hc,hR⟩:=rws_at h3 (by rw[b.xl];exact hr)
 exact⟨t,c,bs,h1,h2,hc,hR,Rw.at cl nd en hr,(b.rows en w2 el hr).1⟩
theorem YB.oth (k:Int) (h:YB H y w R X es):∃(ts:List Addr) (es':List (Int×Str)),othV H (X.map List.flatten) k=ts.map V.ref∧EL H ts es'∧es'.Perm (dropE es k):=by
 have en:=En.rows h.en
 obtain⟨ts,h1,h2⟩:=EL.of (H:=H) (vs:=othV H (X.map List.flatten) k) fun v hv=>en v (List.mem_filter.mp hv).1
 refine⟨ts,_,h1,h2,?_⟩
 rw[rowD_oth]
 have p:=(h.b.cl.flat h.b.nd h.b.w1 h.b.R1).filter fun e=>decide (e.1≠k)
 rw[flat_yD]at p
 have e:(fun e:Int×Str=>!decide (e.1=k))=fun e=>decide (e.1≠k):=by funext e;simp
 rw[e]
 exact p
theorem dropE_len:(dropE es k).length≤es.length:=List.length_filter_le _ _
theorem YB.at (h:YB H y w R X es) (hr:r<R):∃(t b:Addr) (bs:List Addr),H y=some (.tup [.int w,.int R,.ref t])∧H t=some (.lst (bs.map V.ref))∧bs[r]? = some b∧Rws H b (atR X r)∧RowsOk H (atR X r):=by
 obtain⟨t,h1,⟨bs,h2,h3⟩,en,_⟩:=h.yd
 obtain⟨c,hc,hR⟩:=rws_at h3 (by rw[h.b.xl];exact hr)
 exact⟨t,c,bs,h1,h2,hc,hR,(h.b.rows en h.w2 (by have:=h.el;omega) hr).1⟩
end
def sp__law_change_due (K:PySem.W.Frag):Sp:=fun vs H Q _=>∃(y:Addr) (w R:Nat) (X:List (List (List V))) (es:List (Int×Str)) (k:Int) (z:Str) (wv:Nat),vs=[.ref y,.str (wN wv),.int k,.str z]∧YB H y w R X es∧wv≤3∧(0≤k∧k<1152921504606846976)∧(PyData.strOk z=true∧z.length≤100)∧(wv=0→R≤129)∧(wv=1→2≤R) ∧
 ∀D H',Told H' D X w R es k z wv→Same H H'→Q (.ref D) H'
def sp__law_right (K:PySem.W.Frag):Sp:=fun vs H Q _=>∃(y:Addr) (w R:Nat) (X:List (List (List V))) (es:List (Int×Str)) (k:Int) (z:Str) (wv:Nat),vs=[.ref y,.str (wN wv),.int k,.str z]∧YB H y w R X es∧wv≤3∧(0≤k∧k<1152921504606846976)∧(PyData.strOk z=true∧z.length≤100)∧(wv=0→R≤129) ∧
 ∀H',Same H H'→Q (.bl true) H'
theorem wn_is {wv:Nat}(hv:wv≤3):decide (V.str (wN wv)=V.str (Str.ofString "split"))=decide (wv=0)∧decide (V.str (wN wv)=V.str (Str.ofString "join"))=decide (wv=1)∧decide (V.str (wN wv)=V.str (Str.ofString "drop"))=decide (wv=3):=by
 match wv,hv with
 | 0,_=>decide +kernel
 | 1,_=>decide +kernel
 | 2,_=>decide +kernel
 | 3,_=>decide +kernel
theorem if_j {c T S:Prop} [Decidable c] (hT:c→S→T) (h:S):if decide c=true then T else S:=by
 by_cases k:c
 ·rw[if_pos (decide_eq_true k)];exact hT k h
 ·rw[if_neg (by simp[k])];exact h
theorem dropE_all {es:List (Int×Str)}{k:Int}(h:k∉es.map (·.1)):(dropE es k).length=es.length:=by
 unfold dropE
 rw[List.filter_eq_self.mpr]
 intro x hx
 exact decide_eq_true fun e=>h (List.mem_map.mpr ⟨x,hx,e⟩)
theorem dropE_few {es:List (Int×Str)}{k:Int}(h:k∈es.map (·.1)):(dropE es k).length<es.length:=by
 obtain⟨x,hx,e⟩:=List.mem_map.mp h
 exact List.length_filter_lt_length_iff_exists.mpr ⟨x,hx,by simp[e]⟩
theorem rd_pairs2 {tk tv uk uv:TE}{σ:L2.St}{H:Hp}{R:List (V×V)→Hp→Prop}(h:tk σ H fun x H1=>tv σ H1 fun y H2=>uk σ H2 fun x' H3=>uv σ H3 fun y' H4=>R [(x,y),(x',y')] H4):tPairs [(tk,tv),(uk,uv)] σ H R:=h
theorem rn_is {R wv:Nat}(hv:wv≤3) (hj:wv=1→2≤R):((R:Int)+(if decide (wv=0)=true then 1 else 0)-if decide (wv=1)=true then 1 else 0) =((RN R wv:Nat):Int):=by
 match wv,hv with
 | 0,_=>show(R:Int)+1-0 =((R+1:Nat):Int);omega
 | 1,_=>have:=hj rfl;show(R:Int)+0-1 =((R-1:Nat):Int);omega
 | 2,_=>show(R:Int)+0-0 =((R:Nat):Int);omega
 | 3,_=>show(R:Int)+0-0 =((R:Nat):Int);omega
theorem there_is {a b c:V}{wv:Nat}(hv:wv≤3):(valV (mergeK [] [(Sum.inr (Str.ofString "put"),a),(Sum.inr (Str.ofString "drop"),b)]) (Sum.inr (wN wv):Key)).getD c=if wv=2 then a else if wv=3 then b else c:=by
 have n1:(Sum.inr (Str.ofString "put"):Key)≠Sum.inr (Str.ofString "drop"):=by decide +kernel
 have m:mergeK [] [(Sum.inr (Str.ofString "put"),a),(Sum.inr (Str.ofString "drop"),b)]=[(Sum.inr (Str.ofString "put"),a),(Sum.inr (Str.ofString "drop"),b)]:=by
  have h0:putK ([]:List (Key×V)) (Sum.inr (Str.ofString "put")) a=[(Sum.inr (Str.ofString "put"),a)]:=rfl
  show putK (putK ([]:List (Key×V)) (Sum.inr (Str.ofString "put")) a) (Sum.inr (Str.ofString "drop")) b=_
  rw[h0]
  unfold putK
  rw[if_neg (by rw[List.any_cons,decide_eq_false n1];decide)];rfl
 rw[m]
 match wv,hv with
 | 0,_=>rw[valV_neg (show(Sum.inr (Str.ofString "put"):Key)≠Sum.inr (wN 0) by decide +kernel),valV_neg (show(Sum.inr (Str.ofString "drop"):Key)≠Sum.inr (wN 0) by decide +kernel)];rfl
 | 1,_=>rw[valV_neg (show(Sum.inr (Str.ofString "put"):Key)≠Sum.inr (wN 1) by decide +kernel),valV_neg (show(Sum.inr (Str.ofString "drop"):Key)≠Sum.inr (wN 1) by decide +kernel)];rfl
 | 2,_=>rw[valV_pos (p:=((Sum.inr (Str.ofString "put"):Key),a)) (k:=Sum.inr (wN 2)) rfl];rfl
 | 3,_=>rw[valV_neg (show(Sum.inr (Str.ofString "put"):Key)≠Sum.inr (wN 3) by decide +kernel),valV_pos (p:=((Sum.inr (Str.ofString "drop"):Key),b)) (k:=Sum.inr (wN 3)) rfl];rfl
def AkA (R:Nat) (H:Hp) (t:Addr) (x:Nat×Int×Str):Prop:=H t=some (.tup [.str (wN x.1),.int x.2.1,.str x.2.2])∧x.1≤3∧(0≤x.2.1∧x.2.1<1152921504606846976)∧(PyData.strOk x.2.2=true∧x.2.2.length≤100)∧(x.1=0→R≤129)
theorem AkA.keep {R:Nat}{H H':Hp}{t:Addr}{x:Nat×Int×Str}(kt:∀t xs,H t=some (.tup xs)→H' t=some (.tup xs)) (h:AkA R H t x):AkA R H' t x:=⟨kt _ _ h.1,h.2⟩
theorem ak_of {R:Nat}{H:Hp}{t:Addr}{k:Int}{z:Str}(wv:Nat) (ht:H t=some (.tup [.str (wN wv),.int k,.str z])) (h3:wv≤3) (h0:wv≠0) (kk:0≤k∧k<1152921504606846976) (zz:PyData.strOk z=true∧z.length≤100):AkA R H t (wv,k,z):=⟨ht,h3,kk,zz,fun e=>absurd e h0⟩
theorem YB.kp {H H':Hp}{y p:Addr}{N w R:Nat}{X:List (List (List V))}{es:List (Int×Str)}(hh:Hand H p N) (k:Kp H H' p) (h:YB H y w R X es):YB H' y w R X es:=by
 have kt:=kt_of hh k
 exact⟨h.yd.kp hh k,⟨by rw[yD_keep kt h.en];exact h.b.cl,h.b.nd,h.b.w1,h.b.R1⟩,h.en.keep kt,h.w2,h.R2,h.el,h.ok⟩
theorem no_txt:PyData.strOk (Str.ofString "")=true∧(Str.ofString "").length≤100:=by decide +kernel
theorem one_of {R:Nat}{H:Hp}{r:Addr}{x:Nat×Int×Str}(h:R<130→AkA R H r x):∃(qs:List Addr) (xs:List (Nat×Int×Str)),(List.replicate (if decide ((R:Int)<130)=true then(1:Int) else 0).toNat [V.ref r]).flatten=qs.map V.ref∧qs.length≤1∧P1 (AkA R H) qs xs:=by
 by_cases c:(R:Int)<130
 ·rw[if_pos (decide_eq_true c)]
  exact⟨[r],[x],rfl,Nat.le_refl _,P1.one (h (by omega))⟩
 ·rw[if_neg (by simp[c])]
  exact⟨[],[],rfl,Nat.zero_le _,P1.nil⟩
theorem cut_hiR {us:List Addr}{k:Nat}:cutV (us.map V.ref) none (some (k:Int)) =(us.take k).map V.ref:=by
 unfold cutV
 rw[HT.sIx_nat,HT.sIx_none,List.length_map,List.drop_zero,Nat.sub_zero,← List.map_take]
 by_cases h:k≤us.length
 ·rw[Nat.min_eq_left h]
 ·rw[Nat.min_eq_right (by omega),List.take_of_length_le (Nat.le_refl _),List.take_of_length_le (by omega)]
section
variable {P:Program}{w:World}{K:PySem.W.Frag}{mg:Str→Option Value}{base:Heap}
theorem ok_last_bits {f:Addr}{fd:FuncData}(F:Fun K "last_bits" "last_bits" s_last_bits f fd) (mF:mg "last_bits" = some (.ref f)) (bF:Binds K fd ["key", "many"] []) (T:Bl mg)  : Cal P w K mg base "last_bits" ["key", "many"] 1 (sp_last_bits K):=by
 refine Cal.of F mF bF sc_last_bits (fun vs H Q E h=>?_) (fun cdv A outer s H vs Q E hr h=>?_)
 ·obtain⟨k,m,rfl,_⟩:=h;rfl
 obtain⟨k,m,rfl,hm,q⟩:=h
 refine⟨_,(pss_one (ps_ret (pe_op op_mod (pv 0) (pe_op op_shl pe_int (pv 1))))),?_⟩
 rw[st_last_bits]
 have p:=pow2_pos m
 walk_at"rd"
 have e:(1:Int)*2^(m:Int).toNat=2^m:=by rw[Int.one_mul,Int.toNat_natCast]
 rw[e]
 walk_at"rd"
 exact q
theorem ok_level {f:Addr}{fd:FuncData}(F:Fun K "level" "level" s_level f fd) (mF:mg "level" = some (.ref f)) (bF:Binds K fd ["rooms"] []) (T:Bl mg)  : Cal P w K mg base "level" ["rooms"] 1 (sp_level K):=by
 refine Cal.of F mF bF sc_level (fun vs H Q E h=>?_) (fun cdv A outer s H vs Q E hr h=>?_)
 ·obtain⟨R,rfl,_⟩:=h;rfl
 obtain⟨R,rfl,h1,q⟩:=h
 refine⟨_,(pss_one (ps_ret (pe_op op_sub (pe_bm0 PySem.F.plainAttrs_int PySem.F.slot_int_bit_length PySem.F.type_int_bit_length mt_bitlen (pv 0)) pe_int))),?_⟩
 rw[st_level]
 walk_at"rd"
 refine⟨rfl,?_⟩
 walk_at"rd"
 rw[bits_eq h1]
 exact q
theorem ok_turn {f:Addr}{fd:FuncData}(F:Fun K "turn" "turn" s_turn f fd) (mF:mg "turn" = some (.ref f)) (bF:Binds K fd ["rooms"] []) (T:Bl mg) (C_level:Cal P w K mg base "level" ["rooms"] 1 (sp_level K)):Cal P w K mg base "turn" ["rooms"] 2 (sp_turn K):=by
 refine Cal.of F mF bF sc_turn (fun vs H Q E h=>?_) (fun cdv A outer s H vs Q E hr h=>?_)
 ·obtain⟨R,rfl,_⟩:=h;rfl
 obtain⟨R,rfl,h1,h2,q⟩:=h
 have hl:=lg_60 h1 h2
 refine⟨_,(pss_one (ps_ret (pe_op op_sub (pv 0) (pe_op op_shl pe_int (pcl C_level (hr.mono (by decide)) (pa_cons (pv 0) pa_nil stx_Name)))))),?_⟩
 rw[st_turn]
 walk_at"rd"
 refine⟨R,rfl,h1,?_⟩
 walk_at"rd"
 have e:(1:Int)*2^(lg R:Int).toNat=2^lg R:=by rw[Int.one_mul,Int.toNat_natCast]
 rw[e]
 exact q
theorem ok_bits_for {f:Addr}{fd:FuncData}(F:Fun K "bits_for" "bits_for" s_bits_for f fd) (mF:mg "bits_for" = some (.ref f)) (bF:Binds K fd ["room", "rooms"] []) (T:Bl mg) (C_level:Cal P w K mg base "level" ["rooms"] 1 (sp_level K)) (C_turn:Cal P w K mg base "turn" ["rooms"] 2 (sp_turn K)):Cal P w K mg base "bits_for" ["room", "rooms"] 3 (sp_bits_for K):=by
 refine Cal.of F mF bF sc_bits_for (fun vs H Q E h=>?_) (fun cdv A outer s H vs Q E hr h=>?_)
 ·obtain⟨r,R,rfl,_⟩:=h;rfl
 obtain⟨r,R,rfl,h1,h2,q⟩:=h
 have hl:=lg_60 h1 h2
 refine⟨_,(pss_cons (ps_set (i:=2) sc_bits_for.nd rfl (Or.inl rfl) (pcl C_level (hr.mono (by decide)) (pa_cons (pv 1) pa_nil stx_Name)))
   (pss_cons (ps_if (pt_chain op_le op_lt (pcl C_turn (hr.mono (by decide)) (pa_cons (pv 1) pa_nil stx_Name)) (pv 0) (pe_op op_shl pe_int (pv 2))) (pss_one (ps_ret (pv 2))) pss_nil)
   (pss_one (ps_ret (pe_op op_add (pv 2) pe_int))))),?_⟩
 rw[st_bits_for]
 walk_at"rd"
 refine⟨R,rfl,h1,?_⟩
 walk_at"rd"
 refine⟨R,rfl,h1,h2,?_⟩
 walk_at"rd"
 have e:(1:Int)*2^(lg R:Int).toNat=2^lg R:=by rw[Int.one_mul,Int.toNat_natCast]
 refine rd_if (fun c=>?_) (fun c=>?_)
 ·walk_at"rd"
  rw[e]
  refine rd_if (fun d=>?_) (fun d=>?_)
  ·walk_at"rd"
   unfold bitsV at q
   rw[if_pos ⟨c,d⟩]at q
   exact q
  ·walk_at"rd"
   unfold bitsV at q
   rw[if_neg (fun z=>d z.2)]at q
   exact q
 ·walk_at"rd"
  unfold bitsV at q
  rw[if_neg (fun z=>c z.1)]at q
  exact q
theorem ok_room_of {f:Addr}{fd:FuncData}(F:Fun K "room_of" "room_of" s_room_of f fd) (mF:mg "room_of" = some (.ref f)) (bF:Binds K fd ["key", "rooms"] []) (T:Bl mg) (C_last_bits:Cal P w K mg base "last_bits" ["key", "many"] 1 (sp_last_bits K)) (C_bits_for:Cal P w K mg base "bits_for" ["room", "rooms"] 3 (sp_bits_for K)) (C_level:Cal P w K mg base "level" ["rooms"] 1 (sp_level K)):Cal P w K mg base "room_of" ["key", "rooms"] 4 (sp_room_of K):=by
 refine Cal.of F mF bF sc_room_of (fun vs H Q E h=>?_) (fun cdv A outer s H vs Q E hr h=>?_)
 ·obtain⟨k,R,rfl,_⟩:=h;rfl
 obtain⟨k,R,rfl,h1,h2,q⟩:=h
 have hl:=lg_60 h1 h2
 refine⟨_,(pss_one (ps_ret (pcl C_last_bits (hr.mono (by decide)) (pa_cons (pv 0) (pa_cons (pcl C_bits_for (hr.mono (by decide)) (pa_cons (pcl C_last_bits (hr.mono (by decide)) (pa_cons (pv 0) (pa_cons (pcl C_level (hr.mono (by decide)) (pa_cons (pv 1) pa_nil stx_Name)) pa_nil stx_Call) stx_Name)) (pa_cons (pv 1) pa_nil stx_Name) stx_Call)) pa_nil stx_Call) stx_Name)))),?_⟩
 rw[st_room_of]
 walk_at"rd"
 refine⟨R,rfl,h1,?_⟩
 walk_at"rd"
 refine⟨k,lg R,rfl,by omega,?_⟩
 walk_at"rd"
 refine⟨_,R,rfl,h1,h2,?_⟩
 walk_at"rd"
 refine⟨k,bitsV (k%2^lg R) R,rfl,by unfold bitsV;split <;> omega,?_⟩
 rw[bitsV_room]
 exact q
theorem ok_split_of {f:Addr}{fd:FuncData}(F:Fun K "split_of" "split_of" s_split_of f fd) (mF:mg "split_of" = some (.ref f)) (bF:Binds K fd ["rooms"] []) (T:Bl mg) (C_turn:Cal P w K mg base "turn" ["rooms"] 2 (sp_turn K)):Cal P w K mg base "split_of" ["rooms"] 3 (sp_split_of K):=by
 refine Cal.of F mF bF sc_split_of (fun vs H Q E h=>?_) (fun cdv A outer s H vs Q E hr h=>?_)
 ·obtain⟨R,rfl,_⟩:=h;rfl
 obtain⟨R,rfl,h1,h2,q⟩:=h
 refine⟨_,(pss_one (ps_ret (pe_tup (pa_cons (pcl C_turn (hr.mono (by decide)) (pa_cons (pv 0) pa_nil stx_Name)) (pa_cons (pv 0) pa_nil stx_Name) stx_Call)))),?_⟩
 rw[st_split_of]
 walk_at"rd"
 refine⟨R,rfl,h1,h2,?_⟩
 walk_at"rd"
 exact⟨(by show 2≤sizeLine;decide),q⟩
theorem ok_joined_of {f:Addr}{fd:FuncData}(F:Fun K "joined_of" "joined_of" s_joined_of f fd) (mF:mg "joined_of" = some (.ref f)) (bF:Binds K fd ["rooms"] []) (T:Bl mg) (C_turn:Cal P w K mg base "turn" ["rooms"] 2 (sp_turn K)):Cal P w K mg base "joined_of" ["rooms"] 3 (sp_joined_of K):=by
 refine Cal.of F mF bF sc_joined_of (fun vs H Q E h=>?_) (fun cdv A outer s H vs Q E hr h=>?_)
 ·obtain⟨R,rfl,_⟩:=h;rfl
 obtain⟨R,rfl,h1,h2,q1,q2⟩:=h
 refine⟨_,(pss_cons (ps_if (pt_cmpR op_eq (pv 0) pe_int (nomark _)) (pss_one (ps_ret pe_non)) pss_nil)
   (pss_cons (ps_set (i:=1) sc_joined_of.nd rfl (Or.inl rfl) (pe_op op_sub (pv 0) pe_int))
   (pss_one (ps_ret (pe_tup (pa_cons (pv 1) (pa_cons (pcl C_turn (hr.mono (by decide)) (pa_cons (pv 1) pa_nil stx_Name)) pa_nil stx_Call) stx_Name)))))),?_⟩
 rw[st_joined_of]
 walk_at"rd"
 refine rd_if (fun c=>?_) (fun c=>?_)
 ·walk_at"rd"
  exact q1 c
 ·walk_at"rd"
  refine⟨R-1,rfl,by omega,by omega,?_⟩
  walk_at"rd"
  exact⟨(by show 2≤sizeLine;decide),q2 c⟩
theorem ok_rows_for {f:Addr}{fd:FuncData}(F:Fun K "rows_for" "rows_for" s_rows_for f fd) (mF:mg "rows_for" = some (.ref f)) (bF:Binds K fd ["many", "wide"] []) (T:Bl mg)  : Cal P w K mg base "rows_for" ["many", "wide"] 1 (sp_rows_for K):=by
 refine Cal.of F mF bF sc_rows_for (fun vs H Q E h=>?_) (fun cdv A outer s H vs Q E hr h=>?_)
 ·obtain⟨m,w,rfl,_⟩:=h;rfl
 obtain⟨m,w,rfl,h1,h2,q⟩:=h
 refine⟨_,(pss_one (ps_ret (pe_callB (call_maxI rfl) rfl T.max bt_max (pa_cons pe_int (pa_cons (pe_op op_fdivB (pe_op op_sub (pe_op op_add (pv 0) (pv 1)) pe_int) (pv 1)) pa_nil stx_BinOp) stx_Constant)))),?_⟩
 rw[st_rows_for]
 walk_at"rd"
 exact q
theorem ok_cut_rows {f:Addr}{fd:FuncData}(F:Fun K "cut_rows" "cut_rows" s_cut_rows f fd) (mF:mg "cut_rows" = some (.ref f)) (bF:Binds K fd ["things", "wide"] []) (T:Bl mg) (C_rows_for:Cal P w K mg base "rows_for" ["many", "wide"] 1 (sp_rows_for K)):Cal P w K mg base "cut_rows" ["things", "wide"] 2 (sp_cut_rows K):=by
 refine Cal.of F mF bF sc_cut_rows (fun vs H Q E h=>?_) (fun cdv A outer s H vs Q E hr h=>?_)
 ·obtain⟨a,ms,w,rfl,_⟩:=h;rfl
 obtain⟨a,ms,w,rfl,ha,hl,w1,w2,q⟩:=h
 refine⟨_,(pss_one (ps_ret (pe_comp rfl (blkOk (sc:=defScope s_cut_rows) (N:=["things", "wide"]) (vs:=["at"]) (fs:=["things", "wide"]) (js:=[0,1]) (by decide +kernel) rfl rfl) (pi_range1 rfl T.range (pa_cons (pcl C_rows_for (hr.mono (by decide)) (pa_cons (pe_callB call_lenL rfl T.len bt_len (pa_cons (pv 0) pa_nil stx_Name)) (pa_cons (pv 1) pa_nil stx_Name) stx_Call)) pa_nil stx_Call)) (fun _ _ _ _=>pg_name (i:=0) (show(["at", "things", "wide"]:List Str).Nodup by decide +kernel) rfl (Or.inl rfl)) (fun _ _ _ _=>pif0) (fun _ _ _ _=>(pe_slice (sl_listK (K:=K) rfl) (pv 1) (po_some (pe_op op_mul (pv 0) (pv 2))) (po_some (pe_op op_mul (pe_op op_add (pv 0) pe_int) (pv 2)))))))),?_⟩
 rw[st_cut_rows]
 walk_at"rd"
 refine⟨_,w,rfl,by omega,by omega,?_⟩
 obtain⟨g1,g2,g3⟩:=up_div (g:=rfor ms.length w) (w:=w) (m:=ms.length) (by omega) (by omega) rfl
 have gb:rfor (ms.length:Int) w≤201:=by
  rcases g3 with z|z
  ·omega
  ·by_cases q:rfor (ms.length:Int) w≤201
   ·exact q
   ·have:(1:Int)*(rfor ms.length w-1)≤w*(rfor ms.length w-1):=Int.mul_le_mul_of_nonneg_right (by omega) (by omega)
    omega
 refine⟨_,rfl,by omega,by omega,fun D nD=>?_⟩
 unfold rowsVV at q
 have n201:(rfor (ms.length:Int) w).toNat≤201:=by omega
 generalize (rfor (ms.length:Int) w).toNat=n at q n201 ⊢
 refine comp_range (n:=n) (fun i σ' ys H'=>(∃x,σ'=[x,some (.ref a),some (.int w)])∧(∃as:List Addr,ys=as.map V.ref∧as.length=i∧(∀(k:Nat) (b:Addr) (es:List V),as[k]? = some b→(rowsNV ms w i)[k]? = some es→H' b=some (.lst es))∧(as.Nodup∧∀b∈as,∃o,H' b=some o)∧∀b∈as,H b=none∧b≠D)∧Same H H'∧H' D=some (.lst ys)) D ?_ ?_ ?_
 ·exact⟨⟨_,rfl⟩,⟨[],rfl,rfl,fun k b es e _=>by simp at e,⟨.nil,fun b hb=>by cases hb⟩,fun b hb=>by cases hb⟩,same_new nD _,upd_same⟩
 ·rintro i σ' ys H' hi ⟨⟨x,rfl⟩,⟨as,rfl,al,hL,⟨hN,hS⟩,hn⟩,s1,hD⟩
  have ha':=s1 _ _ ha
  walk_at"rd"
  have e1:(0+(i:Int))*w =((i*w:Nat):Int):=by rw[Int.zero_add,Int.natCast_mul]
  have e2:(0+(i:Int)+1)*w =(((i+1)*w:Nat):Int):=by rw[Int.zero_add,Int.natCast_mul];rfl
  have e3:(i+1)*w=i*w+w:=Nat.succ_mul i w
  rw[e1,e2]
  refine rd_slL (SqL.of ha') fun b nb=>?_
  rw[cut_mid (by omega),show(i+1)*w-i*w=w by omega]
  generalize hE:upd H' b _=H1
  obtain⟨hb1,s2⟩:=newo nb hE
  clear hE
  have bD:b≠D:=by intro e;rw[e,hD]at nb;cases nb
  refine⟨s2 _ _ hD,by rw[List.length_map];exact small1000 (by omega),⟨_,rfl⟩,⟨as ++ [b],by rw[List.map_append];rfl,by rw[List.length_append,al];rfl,?_,⟨?_,fun c hc=>?_⟩,fun c hc=>?_⟩,fun c o e=>?_,upd_same⟩
  ·intro k c es e1 e2
   rw[rowsNV_succ]at e2
   by_cases z:k<as.length
   ·rw[List.getElem?_append_left z]at e1
    rw[List.getElem?_append_left (by rw[rowsNV_len];omega)]at e2
    rw[upd_ne (hn c (List.mem_of_getElem? e1)).2];exact s2 _ _ (hL k c es e1 e2)
   ·have kl:=(List.getElem?_eq_some_iff.mp e1).1
    rw[List.length_append]at kl
    have hk:k=as.length:=by have:[b].length=1:=rfl;omega
    subst hk
    rw[List.getElem?_append_right (Nat.le_refl _),Nat.sub_self]at e1
    rw[List.getElem?_append_right (by rw[rowsNV_len];omega),rowsNV_len,al,Nat.sub_self]at e2
    have ec:b=c:=Option.some.inj e1
    have ee:(ms.drop (i*w)).take w=es:=Option.some.inj e2
    subst ec ee
    rw[upd_ne bD];exact hb1
  ·rw[List.nodup_append]
   refine⟨hN,by simp,fun x hx y hy z=>?_⟩
   rw[List.mem_singleton.mp hy]at z
   obtain⟨o,ho⟩:=hS x hx
   rw[z,nb]at ho;cases ho
  ·rcases List.mem_append.mp hc with z|z
   ·obtain⟨o,ho⟩:=hS c z
    exact⟨o,by rw[upd_ne (hn c z).2];exact s2 _ _ ho⟩
   ·rw[List.mem_singleton.mp z];exact⟨_,by rw[upd_ne bD];exact hb1⟩
  ·rcases List.mem_append.mp hc with z|z
   ·exact hn c z
   ·rw[List.mem_singleton.mp z];exact⟨s1.free nb,bD⟩
  ·rw[upd_ne (ne_of_none e nD)];exact s2 _ _ (s1 _ _ e)
 ·rintro σ' ys H' ⟨⟨x,rfl⟩,⟨as,rfl,al,hL,⟨hN,hS⟩,hn⟩,s1,hD⟩
  exact q D H' nD ⟨as,hD,by rw[al,rowsNV_len],hL,hN,hn⟩ s1
theorem ok_entries_in {f:Addr}{fd:FuncData}(F:Fun K "entries_in" "entries_in" s_entries_in f fd) (mF:mg "entries_in" = some (.ref f)) (bF:Binds K fd ["rows"] []) (T:Bl mg)  : Cal P w K mg base "entries_in" ["rows"] 1 (sp_entries_in K):=by
 refine Cal.of F mF bF sc_entries_in (fun vs H Q E h=>?_) (fun cdv A outer s H vs Q E hr h=>?_)
 ·obtain⟨l,X,rfl,_⟩:=h;rfl
 obtain⟨l,X,rfl,⟨as,hl,al,hr2⟩,hz,q⟩:=h
 refine⟨_,(pss_one (ps_ret (pe_comp2 rfl (blkOk (sc:=defScope s_entries_in) (N:=["rows"]) (vs:=["row", "entry"]) (fs:=[]) (js:=[]) (by decide +kernel) rfl rfl) (pi_list (pv 0)) (fun _ _ _ _=>pg_name (i:=0) (show(["row", "entry"]:List Str).Nodup by decide +kernel) rfl (Or.inl rfl)) (fun _ _ _ _=>pif0) (fun _ _ _ _=>(pi_listK (K:=K) rfl (pv 0))) (fun _ _ _ _=>pg_name (i:=1) (show(["row", "entry"]:List Str).Nodup by decide +kernel) rfl (Or.inl rfl)) (fun _ _ _ _=>pif0) (fun _ _ _ _=>(pv 1))))),?_⟩
 rw[st_entries_in]
 walk_at"rd"
 refine rd_comp2 ?_
 walk_at"rd"
 refine⟨l,rfl,⟨_,SqL.of hl⟩,fun D nD=>?_⟩
 refine comp2_list (xs:=as.map V.ref) (fun i σ' ys H'=>(∃x y,σ'=[x,y])∧Same H H'∧ys =(X.take i).flatten∧H' D=some (.lst ys)) D ⟨⟨_,_,rfl⟩,same_new nD _,rfl,upd_same⟩ (fun i σ' ys H' _ h=>SqL.of (h.2.1 _ _ hl)) ?_ ?_
 ·rintro i x σ' ys H1 hx ⟨⟨x1,y1,rfl⟩,s1,rfl,hD⟩
  obtain⟨a,ha,rfl⟩ : ∃a,as[i]? = some a∧x=V.ref a:=by
   rw[List.getElem?_map]at hx
   cases e:as[i]? with
   | none=>rw[e]at hx;cases hx
   | some a=>rw[e]at hx;exact⟨a,rfl,(Option.some.inj hx).symm⟩
  have il:i<X.length:=by rw[← al];exact(List.getElem?_eq_some_iff.mp ha).1
  have hes:=hr2 i a _ ha (List.getElem?_eq_getElem il)
  have hX:X[i]? = some X[i]:=List.getElem?_eq_getElem il
  generalize X[i]=es at hes hX
  have fl:=flat_len hX
  walk_at"rd"
  refine rd_in ?_
  walk_at"rd"
  refine⟨a,rfl,⟨_,SqL.of (s1 _ _ hes)⟩,?_⟩
  refine in_list (xs:=es) (fun j σ' ys' H'=>(∃x y,σ'=[x,y])∧Same H H'∧ys' =(X.take i).flatten++es.take j∧H' D=some (.lst ys')) ⟨⟨_,_,rfl⟩,s1,by simp,hD⟩ (fun j σ' ys' H' _ h=>SqL.of (h.2.1 _ _ hes)) ?_ ?_
  ·rintro j z σ' ys' H2 hz' ⟨⟨x2,y2,rfl⟩,s2,rfl,hD2⟩
   have jl:=(List.getElem?_eq_some_iff.mp hz').1
   walk_at"rd"
   refine⟨hD2,?_,⟨_,_,rfl⟩,fun c o e=>?_,?_,upd_same⟩
   ·rw[List.length_append,List.length_take,sizeLine_eq];omega
   ·rw[upd_ne (ne_of_none e nD)];exact s2 _ _ e
   ·rw[List.take_add_one,hz',← List.append_assoc];rfl
  ·rintro σ' ys' H2 ⟨⟨x2,y2,rfl⟩,s2,rfl,hD2⟩
   rw[List.take_length]at hD2
   refine⟨⟨_,_,rfl⟩,s2,by rw[List.take_length,flat_take hX],?_⟩
   rw[List.take_length];exact hD2
 ·rintro σ' ys H1 ⟨⟨x1,y1,rfl⟩,s1,rfl,hD⟩
  rw[List.length_map,al,List.take_length]at hD
  exact q D H1 nD hD s1
theorem ok_rows_at {f:Addr}{fd:FuncData}(F:Fun K "rows_at" "rows_at" s_rows_at f fd) (mF:mg "rows_at" = some (.ref f)) (bF:Binds K fd ["held", "room"] []) (T:Bl mg)  : Cal P w K mg base "rows_at" ["held", "room"] 1 (sp_rows_at K):=by
 refine Cal.of F mF bF sc_rows_at (fun vs H Q E h=>?_) (fun cdv A outer s H vs Q E hr h=>?_)
 ·obtain⟨h,bs,r,rfl,_⟩:=h;rfl
 obtain⟨h,bs,r,rfl,hh,q⟩:=h
 refine⟨_,(pss_one (ps_ret (pe_ifExp (pt_cmpR op_lt (pv 1) (pe_callB call_lenL rfl T.len bt_len (pa_cons (pv 0) pa_nil stx_Name)) (nomark _)) (pe_ix ix_list (pv 0) (pv 1) (fun _ _=>rfl)) (pe_lst pa_nil)))),?_⟩
 rw[st_rows_at]
 walk_at"rd"
 refine rd_if (fun c=>?_) (fun c=>?_)
 ·rw[List.length_map]at c
  have hb:=List.getElem?_eq_getElem (show r<bs.length by omega)
  walk_at"rd"
  refine rd_ixL (SqL.of hh) (at_ref' hb) ?_
  exact q _ H (Same.refl H) (.inl hb)
 ·rw[List.length_map]at c
  walk_at"rd"
  exact⟨by decide,fun e ne=>q e _ (same_new ne _) (.inr ⟨by omega,upd_same⟩)⟩
theorem ok_done_all {f:Addr}{fd:FuncData}(F:Fun K "done_all" "done_all" s_done_all f fd) (mF:mg "done_all" = some (.ref f)) (bF:Binds K fd ["yard", "steps"] []) (T:Bl mg) (C_leave_last_rooms:Cal P w K mg base "leave_last_rooms" ["held"] 1 (sp_leave_last_rooms K)) (C_lay_row:Cal P w K mg base "lay_row" ["held", "room", "at", "row"] 1 (sp_lay_row K)) (C_cut_room:Cal P w K mg base "cut_room" ["held", "room", "many"] 1 (sp_cut_room K)):Cal P w K mg base "done_all" ["yard", "steps"] 2 (sp_done_all K):=by
 refine Cal.of F mF bF sc_done_all (fun vs H Q E h=>?_) (fun cdv A outer s H vs Q E hr h=>?_)
 ·obtain⟨y,ss,w,R,X,sa,sts,rfl,_⟩:=h;rfl
 obtain⟨y,ss,w,R,X,sa,sts,rfl,⟨h0,hy,⟨bs0,hh0,hP0⟩,hen,sz⟩,hss,hS,q⟩:=h
 refine⟨_,(pss_cons (ps_asg (pv 0) (pg_tup rfl (pgs_cons (pg_name (i:=2) sc_done_all.nd rfl (Or.inl rfl)) (pgs_cons (pg_name (i:=3) sc_done_all.nd rfl (Or.inl rfl)) (pgs_cons (pg_name (i:=4) sc_done_all.nd rfl (Or.inl rfl)) pgs_nil)))))
   (pss_cons (ps_setc (i:=5) sc_done_all.nd rfl rfl rfl (blkOk (sc:=defScope s_done_all) (N:=["yard", "steps", "wide", "rooms", "held", "fresh", "step"]) (vs:=["rows"]) (fs:=[]) (js:=[]) (by decide +kernel) rfl rfl) (pi_list (pv 4)) (fun _ _ _ _=>pg_name (i:=0) (show(["rows"]:List Str).Nodup by decide +kernel) rfl (Or.inl rfl)) (fun _ _ _ _=>pif0) (fun _ _ _ _=>(pe_comp rfl (blkOkM (N:=["rows"]) (vs:=["row"]) (fs:=[]) (js:=[]) rfl rfl (by kernel_rfl)) (pi_listK (K:=K) rfl (pv 0)) (fun _ _ _ _=>pg_name (i:=0) (show(["row"]:List Str).Nodup by decide +kernel) rfl (Or.inl rfl)) (fun _ _ _ _=>pif0) (fun _ _ _ _=>(pe_callTy (call_list_ofK (K:=K) rfl) rfl T.list bt_list (pa_cons (pv 0) pa_nil stx_Name))))))
   (pss_cons (ps_for PassesOwn.never rfl (pi_list (pv 1)) (pg_name (i:=6) sc_done_all.nd rfl (Or.inl rfl)) (pss_cons (ps_cut (ps_if (pt_cmpR op_eq (pe_ix ix_tup (pv 6) pe_int (fun _ _=>rfl)) pe_str (nomark _)) (pss_one (ps_expr (pcl C_lay_row (hr.mono (by decide)) (pa_cons (pv 5) (pa_cons (pe_ix ix_tup (pv 6) pe_int (fun _ _=>rfl)) (pa_cons (pe_ix ix_tup (pv 6) pe_int (fun _ _=>rfl)) (pa_cons (pe_ix ix_tup (pv 6) pe_int (fun _ _=>rfl)) pa_nil stx_Subscript) stx_Subscript) stx_Subscript) stx_Name)))) (pss_one (ps_if (pt_cmpR op_eq (pe_ix ix_tup (pv 6) pe_int (fun _ _=>rfl)) pe_str (nomark _)) (pss_one (ps_expr (pcl C_cut_room (hr.mono (by decide)) (pa_cons (pv 5) (pa_cons (pe_ix ix_tup (pv 6) pe_int (fun _ _=>rfl)) (pa_cons (pe_ix ix_tup (pv 6) pe_int (fun _ _=>rfl)) pa_nil stx_Subscript) stx_Subscript) stx_Name)))) (pss_one (ps_set (i:=3) sc_done_all.nd rfl (Or.inl rfl) (pe_ix ix_tup (pv 6) pe_int (fun _ _=>rfl))))))))
   (pss_one (ps_expr (pcl C_leave_last_rooms (hr.mono (by decide)) (pa_cons (pv 5) pa_nil stx_Name))))))
   (pss_one (ps_ret (pe_tup (pa_cons (pv 2) (pa_cons (pv 3) (pa_cons (pv 5) pa_nil stx_Name) stx_Name) stx_Name))))))),?_⟩
 rw[st_done_all]
 walk_at"rd"
 refine⟨y,_,rfl,SqT.of hy,rfl,_,_,rfl,_,_,rfl,_,_,rfl,rfl,?_⟩
 walk_at"rd"
 refine⟨h0,rfl,⟨_,SqL.of hh0⟩,fun D nD=>?_⟩
 refine comp_list (xs:=bs0.map V.ref) (fun i σ' ys H'=>(∃x,σ'=[x])∧Same H H'∧∃cs:List Addr,ys=cs.map V.ref∧T3 (fun b=>H b=none) H' D cs (X.take i)) D ⟨⟨_,rfl⟩,same_new nD _,[],rfl,nD,upd_same,List.nodup_nil,(fun z=>by cases z),P1.nil⟩ (fun i σ' ys H' _ h=>SqL.of (h.2.1 _ _ hh0)) ?_ ?_
 ·rintro i x σ' ys H1 hx ⟨⟨x1,rfl⟩,s1,cs,rfl,t1⟩
  obtain⟨b,hb,rfl⟩:=refs_get hx
  obtain⟨rows,hxi,_,as,hb1,hA⟩:=hP0.get hb
  have il:=(List.getElem?_eq_some_iff.mp hb).1
  have bl0:=hP0.1
  have szr:=(sz.2 rows (List.mem_of_getElem? hxi)).1
  have al:=hA.1
  have hD1:=t1.2.1
  walk_at"rd"
  refine⟨b,rfl,⟨_,SqL.of (s1 _ _ hb1)⟩,fun D' nD'=>?_⟩
  obtain⟨nDD,_⟩:=t1.new nD'
  refine comp_list (xs:=as.map V.ref) (fun j σ' ys H'=>(∃x,σ'=[x])∧Same H1 H'∧∃cs':List Addr,ys=cs'.map V.ref∧H' D'=some (.lst ys)∧P1 (fun a es=>H1 a=none∧a≠D'∧H' a=some (.lst es)) cs' (rows.take j)) D' ⟨⟨_,rfl⟩,same_new nD' _,[],rfl,upd_same,P1.nil⟩ (fun i σ' ys H' _ h=>SqL.of (h.2.1 _ _ (s1 _ _ hb1))) ?_ ?_
  ·rintro j x σ' ys H2 hx ⟨⟨x2,rfl⟩,s2,cs',rfl,hD',hC⟩
   obtain⟨a,ha,rfl⟩:=refs_get hx
   obtain⟨es,hes,_,ha1⟩:=hA.get ha
   have jl:=(List.getElem?_eq_some_iff.mp ha).1
   have cl:=hC.1
   rw[List.length_take]at cl
   walk_at"rd"
   refine rd_listOf (SqL.of (s2 _ _ (s1 _ _ ha1))) fun e ne=>?_
   generalize hE:upd H2 e _=H3
   obtain⟨he,s3⟩:=newo ne hE
   clear hE
   have eD:e≠D':=fun z=>by rw[z,hD']at ne;cases ne
   refine⟨s3 _ _ hD',by rw[List.length_map];exact small1000 (by omega),⟨_,rfl⟩,fun c o e=>by rw[upd_ne (ne_of_none e nD')];exact s3 _ _ (s2 _ _ e),cs' ++ [e],by rw[List.map_append];rfl,upd_same,?_⟩
   rw[take_get hes]
   refine(hC.imp fun a es t=>⟨t.1,t.2.1,?_⟩).snoc ⟨s2.free ne,eD,?_⟩
   ·rw[upd_ne eD];exact he
   ·rw[upd_ne t.2.1];exact s3 _ _ t.2.2
  ·rintro σ' ys H2 ⟨⟨x2,rfl⟩,s2,cs',rfl,hD',hC⟩
   rw[List.length_map,al,List.take_length]at hC
   have hD2:=s2 _ _ hD1
   have cl:=t1.2.2.2.2.1
   rw[List.length_take]at cl
   walk_at"rd"
   refine⟨hD2,by rw[List.length_map];exact small1000 (by have:=sz.1;omega),⟨_,rfl⟩,fun c o e=>by rw[upd_ne (ne_of_none e nD)];exact s2 _ _ (s1 _ _ e),cs ++ [D'],by rw[List.map_append];rfl,?_⟩
   rw[take_get hxi]
   refine t1.add (fun b o n e=>by rw[upd_ne n];exact s2 _ _ e) (by rw[upd_same,List.map_append];rfl) nD' (s1.free nD') (by rw[upd_ne nDD];exact hD') (hC.imp fun a es t=>⟨s1.free t.1,t.1,t.2.1,?_⟩)
   rw[upd_ne (t1.new t.1).1];exact t.2.2
 rintro σ' ys H1 ⟨⟨x1,rfl⟩,s1,cs,rfl,t1⟩
 rw[List.length_map,hP0.1,List.take_length]at t1
 walk_at"rd"
 refine⟨ss,rfl,⟨_,SqL.of (s1 _ _ hss)⟩,?_⟩
 have sl:=hS.1
 refine for_listO (xs:=sa.map V.ref) (fun i σ H'=>(∃x6,σ=[some (.ref y),some (.ref ss),some (.int w),some (.int ((sts.take i).foldl doR R)),some (.ref h0),some (.ref D),x6])∧Same H H'∧SzX ((sts.take i).foldl doX X)∧∃bs',T3 (fun b=>H b=none) H' D bs' ((sts.take i).foldl doX X)) ⟨⟨_,rfl⟩,s1,sz,cs,t1⟩ (fun _ _ _ _ h=>SqL.of (h.2.1 _ _ hss)) ?_ ?_
 ·rintro i x σ H2 hx ⟨⟨x6,rfl⟩,s2,sz2,bs2,t2⟩
  obtain⟨sp,hsp,rfl⟩:=refs_get hx
  obtain⟨st,hst,hA⟩:=hS.get hsp
  have hA2:=hA.same s2
  have szn:=sz2.step hA2
  have frn:Fr (fun b=>H b=none) H2:=fun e n=>s2.free n
  have back:∀{H3:Hp},Kq (fun b=>H b=none) H2 H3→Same H H3:=fun k b o e=>k b o (fun z=>by have z':H b=none:=z;rw[e]at z';cases z') (s2 _ _ e)
  have frk:∀{H3:Hp},Kq (fun b=>H b=none) H2 H3→Fr (fun b=>H b=none) H3:=fun k=>frn.keep k
  rw[take_get hst,List.foldl_append,List.foldl_append]
  show _
  generalize (sts.take i).foldl doX X=Y at t2 sz2 szn ⊢
  generalize (sts.take i).foldl doR R=R2
  have nrow:∀z:Str,decide (V.str z=V.str "row")=decide (z = "row"):=fun z=>by simp
  have ncut:∀z:Str,decide (V.str z=V.str "cut")=decide (z = "cut"):=fun z=>by simp
  cases st with
  | row r a es =>
   obtain⟨l,h1,h2,r2,a2,el,_⟩:=hA2
   obtain⟨l',h1',h2',_⟩:=hA
   have el':l'=l:=by
    have:=s2 _ _ h1'
    rw[h1]at this
    simpa using this.symm
   subst el'
   walk_at"rd"
   refine⟨fun σ' H'=>σ'=[some (.ref y),some (.ref ss),some (.int w),some (.int R2),some (.ref h0),some (.ref D),some (.ref sp)]∧∃bs',T3 (fun b=>H b=none) H' D bs' (rowX Y r a es)∧Kq (fun b=>H b=none) H2 H',?_,?_⟩
   ·walk_at"rd"
    refine⟨rfl,?_⟩
    rw[decide_eq_true rfl]
    walk_at"rd"
    refine⟨_,D,bs2,Y,r,a,l',es,rfl,t2,frn,sz2,r2,a2,(fun z=>by have z':H l'=none:=z;rw[h2']at z';cases z'),h2,by omega,fun bs3 H3 t3 k3=>?_⟩
    exact⟨rfl,bs3,t3,k3⟩
   ·rintro σ' H3 ⟨rfl,bs3,t3,k3⟩
    walk_at"rd"
    refine⟨_,D,bs3,_,rfl,t3,fun bs4 H4 t4 k4=>?_⟩
    walk_at"rd"
    exact⟨⟨_,rfl⟩,back (k3.trans k4),szn,bs4,t4⟩
  | cut r m =>
   obtain⟨h1,_⟩:=hA2
   walk_at"rd"
   refine⟨fun σ' H'=>σ'=[some (.ref y),some (.ref ss),some (.int w),some (.int R2),some (.ref h0),some (.ref D),some (.ref sp)]∧∃bs',T3 (fun b=>H b=none) H' D bs' (Y.modify r (List.take m))∧Kq (fun b=>H b=none) H2 H',?_,?_⟩
   ·walk_at"rd"
    refine⟨rfl,?_⟩
    rw[show decide (V.str "cut" = V.str "row")=false from by decide +kernel]
    walk_at"rd"
    refine⟨rfl,?_⟩
    rw[decide_eq_true rfl]
    walk_at"rd"
    refine⟨_,D,bs2,Y,r,m,rfl,t2,frn,fun bs3 H3 t3 k3=>?_⟩
    exact⟨rfl,bs3,t3,k3⟩
   ·rintro σ' H3 ⟨rfl,bs3,t3,k3⟩
    walk_at"rd"
    refine⟨_,D,bs3,_,rfl,t3,fun bs4 H4 t4 k4=>?_⟩
    walk_at"rd"
    exact⟨⟨_,rfl⟩,back (k3.trans k4),szn,bs4,t4⟩
  | rooms n =>
   obtain⟨h1,_⟩:=hA2
   walk_at"rd"
   refine⟨fun σ' H'=>σ'=[some (.ref y),some (.ref ss),some (.int w),some (.int n),some (.ref h0),some (.ref D),some (.ref sp)]∧∃bs',T3 (fun b=>H b=none) H' D bs' Y∧Kq (fun b=>H b=none) H2 H',?_,?_⟩
   ·walk_at"rd"
    refine⟨rfl,?_⟩
    rw[show decide (V.str "rooms" = V.str "row")=false from by decide +kernel]
    walk_at"rd"
    refine⟨rfl,?_⟩
    rw[show decide (V.str "rooms" = V.str "cut")=false from by decide +kernel]
    walk_at"rd"
    exact⟨rfl,bs2,t2,fun _ _ _ e=>e⟩
   ·rintro σ' H3 ⟨rfl,bs3,t3,k3⟩
    walk_at"rd"
    refine⟨_,D,bs3,_,rfl,t3,fun bs4 H4 t4 k4=>?_⟩
    walk_at"rd"
    exact⟨⟨_,rfl⟩,back (k3.trans k4),szn,bs4,t4⟩
 ·rintro σ H2 ⟨⟨x6,rfl⟩,s2,sz2,bs2,t2⟩
  rw[List.length_map,sl,List.take_length]at t2 ⊢
  walk_at"rd"
  refine⟨(by show 3≤sizeLine;decide),fun t nt=>?_⟩
  generalize hE:upd H2 t _=H3
  obtain⟨ht,s3⟩:=newo nt hE
  clear hE
  exact q t D bs2 H3 ht (t2.same s3) (s2.trans s3)
theorem ok_lay_row {f:Addr}{fd:FuncData}(F:Fun K "lay_row" "lay_row" s_lay_row f fd) (mF:mg "lay_row" = some (.ref f)) (bF:Binds K fd ["held", "room", "at", "row"] []) (T:Bl mg)  : Cal P w K mg base "lay_row" ["held", "room", "at", "row"] 1 (sp_lay_row K):=by
 refine Cal.of F mF bF sc_lay_row (fun vs H Q E h=>?_) (fun cdv A outer s H vs Q E hr h=>?_)
 ·obtain⟨S,h,bs,X,r,a,l,es,rfl,_⟩:=h;rfl
 obtain⟨S,h,bs,X,r,a,l,es,rfl,t,fr,sz,r2,a2,nl,hl,el,q⟩:=h
 obtain⟨sh,hh,nd,hnb,hP⟩:=id t
 refine⟨_,(pss_cons (ps_while PassesOwn.never (pt_cmpR op_le (pe_callB call_lenL rfl T.len bt_len (pa_cons (pv 0) pa_nil stx_Name)) (pv 1) (nomark _)) (pss_one (ps_expr (pe_bm PySem.F.plainAttrs_list PySem.F.slot_list_append PySem.F.type_list_append mt_append (pv 0) (pa_cons (pe_lst pa_nil) pa_nil stx_List)))))
   (pss_cons (ps_set (i:=4) sc_lay_row.nd rfl (Or.inl rfl) (pe_ix ix_list (pv 0) (pv 1) (fun _ _=>rfl)))
   (pss_cons (ps_while PassesOwn.never (pt_cmpR op_le (pe_callB call_lenL rfl T.len bt_len (pa_cons (pv 4) pa_nil stx_Name)) (pv 2) (nomark _)) (pss_one (ps_expr (pe_bm PySem.F.plainAttrs_list PySem.F.slot_list_append PySem.F.type_list_append mt_append (pv 4) (pa_cons (pe_lst pa_nil) pa_nil stx_List)))))
   (pss_one (ps_asg (pe_callTy call_list_of rfl T.list bt_list (pa_cons (pv 3) pa_nil stx_Name)) (pg_sub (pv 4) (pv 2) set_list)))))),?_⟩
 rw[st_lay_row]
 walk_at"rd"
 refine⟨fun m σ H'=>∃bs' X',σ=[some (.ref h),some (.int r),some (.int a),some (.ref l),none]∧T3 S H' h bs' X'∧pad X' (r+1)=pad X (r+1)∧X'.length≤131∧Kq S H H'∧m=r+1-X'.length,⟨_,bs,X,rfl,t,rfl,sz.1,fun _ _ _ e=>e,rfl⟩,?_⟩
 rintro m σ H1 ⟨bs1,X1,rfl,t1,e1,l1,k1,rfl⟩
 obtain⟨_,hh1,_,_,hP1⟩:=id t1
 have fr1:=fr.keep k1
 have bl1:=hP1.1
 walk_at"rd"
 refine rd_if (fun c=>?_) (fun c=>?_)
 ·rw[List.length_map]at c
  refine⟨_,fun σ' H'' h=>h,?_⟩
  walk_at"rd"
  refine⟨.inl ⟨rfl,_,SqL.of hh1⟩,?_⟩
  walk_at"rd"
  refine⟨by decide,fun e ne=>?_⟩
  generalize hE:upd H1 e _=H2
  obtain⟨he,s2⟩:=newo ne hE
  clear hE
  obtain⟨n1,n2⟩:=t1.new ne
  refine⟨h,_,_,rfl,rfl,s2 _ _ hh1,by rw[List.length_map];exact small1000 (by omega),?_⟩
  have hk:∀b o,b≠h→H1 b=some o→(upd H2 h (.lst (bs1.map V.ref ++ [V.ref e]))) b=some o:=fun b o n e=>by rw[upd_ne n];exact s2 _ _ e
  refine⟨r+1-(X1 ++ [[]]).length,by rw[List.length_append,List.length_singleton];omega,bs1 ++ [e],X1 ++ [[]],rfl,t1.push ne (fr1 e ne) hk (by rw[upd_same,List.map_append];rfl) (by rw[upd_ne n1];exact he),by rw[pad_more (by omega),e1],by rw[List.length_append,List.length_singleton];omega,k1.trans fun b o n e=>hk _ _ (fun z=>n (z ▸ sh)) e,rfl⟩
 ·rw[List.length_map]at c
  rw[pad_done (by omega)]at e1
  have rl:r<bs1.length:=by omega
  have hb:=List.getElem?_eq_getElem rl
  generalize bs1[r]=b at hb
  obtain⟨rows,hx,sb,as,hb2,hA⟩:=hP1.get hb
  have hrl:rows.length≤131:=by
   rw[e1]at hx
   rcases pad_mem (List.mem_of_getElem? hx) with z|z
   ·exact(sz.2 rows z).1
   ·rw[z];simp
  walk_at"rd"
  refine rd_ixL (SqL.of hh1) (at_ref' hb) ?_
  walk_at"rd"
  refine⟨fun m σ H'=>∃rows',σ=[some (.ref h),some (.int r),some (.int a),some (.ref l),some (.ref b)]∧T3 S H' h bs1 (X1.set r rows')∧pad rows' (a+1)=pad rows (a+1)∧rows'.length≤131∧Kq S H H'∧m=a+1-rows'.length,⟨_,rows,rfl,by rw[set_id hx];exact t1,rfl,hrl,k1,rfl⟩,?_⟩
  rintro m σ H2 ⟨rows2,rfl,t2,e2,l2,k2,rfl⟩
  have hx2:(X1.set r rows2)[r]? = some rows2:=List.getElem?_set_self (by omega)
  obtain⟨sb2,as2,hb3,hA2⟩:=t2.inrow hb hx2
  have al:=hA2.1
  have fr2:=fr.keep k2
  have hbh:b≠h:=fun z=>t1.2.2.2.1 (z ▸ List.mem_of_getElem? hb)
  walk_at"rd"
  refine rd_if (fun c2=>?_) (fun c2=>?_)
  ·rw[List.length_map]at c2
   refine⟨_,fun σ' H'' h=>h,?_⟩
   walk_at"rd"
   refine⟨.inl ⟨rfl,_,SqL.of hb3⟩,?_⟩
   walk_at"rd"
   refine⟨by decide,fun e ne=>?_⟩
   generalize hE:upd H2 e _=H3
   obtain⟨he,s3⟩:=newo ne hE
   clear hE
   obtain⟨n1,n2⟩:=t2.new ne
   have eb:e≠b:=fun z=>n2 (z ▸ List.mem_of_getElem? hb)
   refine⟨b,_,_,rfl,rfl,s3 _ _ hb3,by rw[List.length_map];exact small1000 (by omega),?_⟩
   have hk:∀c o,c≠b→H2 c=some o→(upd H3 b (.lst (as2.map V.ref ++ [V.ref e]))) c=some o:=fun c o n e=>by rw[upd_ne n];exact s3 _ _ e
   refine⟨a+1-(rows2 ++ [[]]).length,by rw[List.length_append,List.length_singleton];omega,rows2 ++ [[]],rfl,?_,by rw[pad_more (by omega),e2],by rw[List.length_append,List.length_singleton];omega,k2.trans fun c o n e=>hk _ _ (fun z=>n (z ▸ sb2)) e,rfl⟩
   have:=t2.one hb hk (rows:=rows2 ++ [[]]) ⟨sb2,as2 ++ [e],by rw[upd_same,List.map_append];rfl,(hA2.imp fun a es t=>⟨t.1,t.2.1,t.2.2.1,hk _ _ (fun z=>t.2.2.1 (z ▸ List.mem_of_getElem? hb)) t.2.2.2⟩).snoc ⟨fr2 e ne,n1,n2,by rw[upd_ne eb];exact he⟩⟩
   rw[List.set_set]at this
   exact this
  ·rw[List.length_map]at c2
   rw[pad_done (by omega)]at e2
   walk_at"rd"
   have hl2:=k2 _ _ nl hl
   refine⟨l,_,rfl,.inl (SqL.of hl2),fun e ne=>?_⟩
   generalize hE:upd H2 e _=H3
   obtain⟨he,s3⟩:=newo ne hE
   clear hE
   obtain⟨n1,n2⟩:=t2.new ne
   have eb:e≠b:=fun z=>n2 (z ▸ List.mem_of_getElem? hb)
   walk_at"rd"
   refine rd_setL (s3 _ _ hb3) (by rw[List.length_map];exact ixN_in (by omega)) ?_
   rw[show(as2.map V.ref).set a (V.ref e) =(as2.set a e).map V.ref from List.map_set.symm]
   have hk:∀c o,c≠b→H2 c=some o→(upd H3 b (.lst ((as2.set a e).map V.ref))) c=some o:=fun c o n e=>by rw[upd_ne n];exact s3 _ _ e
   refine q bs1 _ ?_ (k2.trans fun c o n e=>hk _ _ (fun z=>n (z ▸ sb2)) e)
   have:=t2.one hb hk (rows:=rows2.set a es) ⟨sb2,as2.set a e,upd_same,P1.set (hA2.imp fun a es t=>⟨t.1,t.2.1,t.2.2.1,hk _ _ (fun z=>t.2.2.1 (z ▸ List.mem_of_getElem? hb)) t.2.2.2⟩) ⟨fr2 e ne,n1,n2,by rw[upd_ne eb];exact he⟩⟩
   rw[List.set_set]at this
   unfold rowX
   rw[← e1,mod_set hx,← e2]
   exact this
theorem ok_cut_room {f:Addr}{fd:FuncData}(F:Fun K "cut_room" "cut_room" s_cut_room f fd) (mF:mg "cut_room" = some (.ref f)) (bF:Binds K fd ["held", "room", "many"] []) (T:Bl mg)  : Cal P w K mg base "cut_room" ["held", "room", "many"] 1 (sp_cut_room K):=by
 refine Cal.of F mF bF sc_cut_room (fun vs H Q E h=>?_) (fun cdv A outer s H vs Q E hr h=>?_)
 ·obtain⟨S,h,bs,X,r,m,rfl,_⟩:=h;rfl
 obtain⟨S,h,bs,X,r,m,rfl,t,fr,q⟩:=h
 obtain⟨sh,hh,nd,hnb,hP⟩:=id t
 refine⟨_,(pss_one (ps_if (pt_cmpR op_lt (pv 1) (pe_callB call_lenL rfl T.len bt_len (pa_cons (pv 0) pa_nil stx_Name)) (nomark _)) (pss_one (ps_asg (pe_slice sl_list (pe_ix ix_list (pv 0) (pv 1) (fun _ _=>rfl)) po_none (po_some (pv 2))) (pg_sub (pv 0) (pv 1) set_list))) pss_nil)),?_⟩
 rw[st_cut_room]
 walk_at"rd"
 refine rd_if (fun c=>?_) (fun c=>?_)
 ·rw[List.length_map]at c
  have rl:r<bs.length:=by omega
  have hb:=List.getElem?_eq_getElem rl
  generalize bs[r]=b at hb
  obtain⟨rows,hx,sb,as,hb2,hA⟩:=hP.get hb
  walk_at"rd"
  refine rd_ixL (SqL.of hh) (at_ref' hb) ?_
  walk_at"rd"
  refine rd_slL (SqL.of hb2) fun e ne=>?_
  rw[cut_refsT]
  generalize hE:upd H e _=H1
  obtain⟨he,s1⟩:=newo ne hE
  clear hE
  walk_at"rd"
  refine rd_setL (s1 _ _ hh) (by rw[List.length_map];exact ixN_in rl) ?_
  rw[show(bs.map V.ref).set r (V.ref e) =(bs.set r e).map V.ref from List.map_set.symm]
  have se:=fr e ne
  obtain⟨n1,n2⟩:=t.new ne
  have hk:∀b o,b≠h→H b=some o→(upd H1 h (.lst ((bs.set r e).map V.ref))) b=some o:=fun b o n e=>by rw[upd_ne n];exact s1 _ _ e
  refine q (bs.set r e) _ ?_ (fun b o n e=>?_)
  ·rw[mod_set hx]
   refine t.put ne hk upd_same ⟨se,as.take m,by rw[upd_ne n1];exact he,(hA.take m).imp fun a es t=>⟨t.1,t.2.1,fun z=>?_,hk _ _ t.2.1 t.2.2.2⟩⟩
   rcases List.mem_or_eq_of_mem_set z with w|w
   ·exact t.2.2.1 w
   ·have:=t.2.2.2
    rw[w,ne]at this;cases this
  ·exact hk _ _ (fun z=>n (z ▸ sh)) e
 ·rw[List.length_map,hP.1]at c
  walk_at"rd"
  refine q bs H ?_ fun _ _ _ e=>e
  rw[mod_none (by omega)];exact t
theorem ok_leave_last_rooms {f:Addr}{fd:FuncData}(F:Fun K "leave_last_rooms" "leave_last_rooms" s_leave_last_rooms f fd) (mF:mg "leave_last_rooms" = some (.ref f)) (bF:Binds K fd ["held"] []) (T:Bl mg)  : Cal P w K mg base "leave_last_rooms" ["held"] 1 (sp_leave_last_rooms K):=by
 refine Cal.of F mF bF sc_leave_last_rooms (fun vs H Q E h=>?_) (fun cdv A outer s H vs Q E hr h=>?_)
 ·obtain⟨S,h,bs,X,rfl,_⟩:=h;rfl
 obtain⟨S,h,bs,X,rfl,t,q⟩:=h
 obtain⟨sh,hh,nd,hnb,hP⟩:=id t
 refine⟨_,(pss_one (ps_while PassesOwn.never (PW.pt (pw_and (pt_truth (pv 0) (fun _=>rfl)) (pw_and1 (pt_not (pt_truth (pe_ix ix_list (pv 0) (pe_un un_neg pe_int) (fun _ _=>rfl)) (fun _=>rfl)))))) (pss_one (ps_expr (pe_bm0 PySem.F.plainAttrs_list PySem.F.slot_list_pop PySem.F.type_list_pop mt_pop (pv 0)))))),?_⟩
 rw[st_leave_last_rooms]
 walk_at"rd"
 refine⟨fun m σ H'=>∃bs' X',σ=[some (.ref h)]∧T3 S H' h bs' X'∧trim X'=trim X∧Kq S H H'∧m=X'.length,⟨X.length,bs,X,rfl,t,rfl,fun _ _ _ e=>e,rfl⟩,?_⟩
 rintro m σ H1 ⟨bs1,X1,rfl,t1,e1,k1,rfl⟩
 obtain⟨_,hh1,_,_,hP1⟩:=id t1
 walk_at"rd"
 refine⟨decide (bs1 ≠ []),.inl ⟨_,SqL.of hh1,tru_refs⟩,?_⟩
 by_cases c:bs1=[]
 ·rw[decide_eq_false (by simpa using c)]
  have x0:X1=[]:=List.eq_nil_of_length_eq_zero (by rw[← hP1.1,c];rfl)
  walk_at"rd"
  refine q bs1 H1 ?_ k1
  rw[← e1,x0,trim_nil,← x0];exact t1
 ·rw[decide_eq_true c]
  obtain⟨cs,b,rfl⟩:=snoc_ex c
  obtain⟨Y,rows,rfl⟩:=snoc_ex (xs:=X1) (fun z=>by have:=hP1.1;rw[z,List.length_append]at this;simp at this)
  have yl:cs.length=Y.length:=by have:=hP1.1;rw[List.length_append,List.length_append]at this;simpa using this
  obtain⟨sb,as,hb2,hA⟩:=hP1.2 cs.length b rows (by simp) (by rw[yl];simp)
  walk_at"rd"
  refine rd_ixL (SqL.of hh1) (v:=.ref b) (by rw[List.map_append];exact atI_last _ _) ?_
  refine⟨decide (as ≠ []),.inl ⟨_,SqL.of hb2,tru_refs⟩,?_⟩
  by_cases c2:as=[]
  ·rw[decide_eq_false (by simpa using c2)]
   have r0:rows=[]:=List.eq_nil_of_length_eq_zero (by rw[← hA.1,c2];rfl)
   subst r0
   walk_at"rd"
   refine⟨_,fun σ' H'' h=>h,?_⟩
   walk_at"rd"
   refine⟨.inl ⟨rfl,_,SqL.of hh1⟩,?_⟩
   walk_at"rd"
   refine⟨h,_,.ref b,rfl,rfl,hh1,by simp,?_⟩
   rw[show((cs ++ [b]).map V.ref).dropLast =(cs ++ [b]).dropLast.map V.ref from List.map_dropLast.symm]
   refine⟨Y.length,by rw[List.length_append];exact Nat.lt_succ_self _,(cs ++ [b]).dropLast,(Y ++ [[]]).dropLast,rfl,t1.pop (fun b o n e=>by rw[upd_ne n];exact e) upd_same,?_,k1.trans fun b o n e=>?_,by simp⟩
   ·rw[List.dropLast_concat,← e1,trim_snoc]
   ·rw[upd_ne (show b≠h from fun z=>n (z ▸ sh))];exact e
  ·rw[decide_eq_true c2]
   have r0:rows ≠ []:=fun z=>c2 (List.eq_nil_of_length_eq_zero (by rw[hA.1,z];rfl))
   walk_at"rd"
   refine q (cs ++ [b]) H1 ?_ k1
   rw[← e1,trim_stop r0];exact t1
theorem ok_unlike_rows {f:Addr}{fd:FuncData}(F:Fun K "unlike_rows" "unlike_rows" s_unlike_rows f fd) (mF:mg "unlike_rows" = some (.ref f)) (bF:Binds K fd ["room", "old", "new"] []) (T:Bl mg)  : Cal P w K mg base "unlike_rows" ["room", "old", "new"] 1 (sp_unlike_rows K):=by
 refine Cal.of F mF bF sc_unlike_rows (fun vs H Q E h=>?_) (fun cdv A outer s H vs Q E hr h=>?_)
 ·obtain⟨r,a,b,os,ns,rfl,_⟩:=h;rfl
 obtain⟨r,a,b,os,ns,rfl,⟨as,ha,al,hA⟩,⟨bs,hb,bl,hB⟩,oO,oN,r1,q⟩:=h
 have hu:=hr.units
 refine⟨_,(pss_one (ps_ret (pe_comp rfl (blkOk (sc:=defScope s_unlike_rows) (N:=["room", "old", "new"]) (vs:=["at", "row"]) (fs:=["old", "room"]) (js:=[1,0]) (by decide +kernel) rfl rfl) (pi_enum rfl T.enumerate (pa_cons (pv 2) pa_nil stx_Name)) (fun _ _ _ _=>pg_tupK (K:=K) (n:=2) rfl rfl (pgs_cons (pg_name (i:=0) (show(["at", "row", "old", "room"]:List Str).Nodup by decide +kernel) rfl (Or.inl rfl)) (pgs_cons (pg_name (i:=1) (show(["at", "row", "old", "room"]:List Str).Nodup by decide +kernel) rfl (Or.inl rfl)) pgs_nil))) (fun _ _ _ _=>pif1 (PW.pt (pw_or (pt_cmpR op_ge (pv 0) (pe_callB (call_lenLK (K:=K) rfl) rfl T.len bt_len (pa_cons (pv 2) pa_nil stx_Name)) (nomark _)) (pw_or1 (pt_cmpR (op_neDK (K:=K) rfl hu) (pe_ix (ix_listK (K:=K) rfl) (pv 2) (pv 0) (fun _ _=>rfl)) (pv 1) (nomark _)))))) (fun _ _ _ _=>(pe_tup (pa_cons pe_str (pa_cons (pv 3) (pa_cons (pv 0) (pa_cons (pv 1) pa_nil stx_Name) stx_Name) stx_Name) stx_Constant)))))),?_⟩
 rw[st_unlike_rows]
 walk_at"rd"
 refine⟨b,rfl,⟨_,SqL.of hb⟩,fun D nD=>?_⟩
 refine comp_enum (xs:=bs.map V.ref) (fun k σ' ys H'=>(∃x y,σ'=[x,y,some (.ref a),some (.int r)])∧Same H H'∧H' D=some (.lst ys)∧∃ss:List Addr,ys=ss.map V.ref∧ss.length≤k∧Pst H H' b D ss (unl H r os ns k)) D ⟨⟨_,_,rfl⟩,same_new nD _,upd_same,[],rfl,Nat.le_refl _,fun _ _=>P1.nil⟩ (fun k σ' ys H' _ h=>SqL.of (h.2.1 _ _ hb)) ?_ ?_
 ·rintro k x σ' ys H1 t hx ⟨⟨x1,y1,rfl⟩,s1,hD,ss,rfl,sl,hP⟩ nt
  obtain⟨c,hc,rfl⟩:=refs_get hx
  have kl:=(List.getElem?_eq_some_iff.mp hc).1
  obtain⟨es,hes⟩ : ∃es,ns[k]? = some es:=⟨_,List.getElem?_eq_getElem (by omega)⟩
  have hce:=hB k c es hc hes
  have oes:=oN.2 es (List.mem_of_getElem? hes)
  have nk:=oN.1
  generalize hE:upd H1 t _=H2
  obtain⟨ht,s2⟩:=newo nt hE
  clear hE
  have s02:=s1.trans s2
  have ha2:=s02 _ _ ha
  have hD2:=s2 _ _ hD
  have fin:unB H os es k=true→∀(s3:Addr) (H3 H4:Hp),Same H2 H3→H3 s3=none→upd H3 s3 (.tup [.str "row",.int r,.int k,.ref c])=H4→H4 D=some (.lst (ss.map V.ref))∧(ss.map V.ref).length<sizeLine∧(∃x y,[some (V.int k),some (.ref c),some (.ref a),some (.int r)]=[x,y,some (.ref a),some (.int r)])∧Same H (upd H4 D (.lst (ss.map V.ref ++ [.ref s3])))∧upd H4 D (.lst (ss.map V.ref ++ [.ref s3])) D=some (.lst (ss.map V.ref ++ [.ref s3]))∧∃ss':List Addr,ss.map V.ref ++ [.ref s3]=ss'.map V.ref∧ss'.length≤k+1∧Pst H (upd H4 D (.lst (ss.map V.ref ++ [.ref s3]))) b D ss' (unl H r os ns (k+1)):=fun u s3 H3 H4 s23 n3 e=>by
   obtain⟨h3,s34⟩:=newo n3 e
   have s24:=s23.trans s34
   have s04:=s02.trans s24
   have hD4:=s24 _ _ hD2
   have n3D:s3≠D:=fun z=>by
    rw[z,s23 _ _ hD2]at n3;cases n3
   refine⟨hD4,by rw[List.length_map];exact small1000 (by omega),⟨_,_,rfl⟩,fun x o e=>by rw[upd_ne (ne_of_none e nD)];exact s04 _ _ e,upd_same,ss ++ [s3],by rw[List.map_append];rfl,by rw[List.length_append];exact Nat.add_le_add_right sl 1,fun D0 ok0=>?_⟩
   rw[hid_upd,unl_yes hes u]
   have n30:=ok0.new (s02.trans s23) n3 n3D
   have cD:c≠D:=ne_of_none hce nD
   refine((hP D0 ok0).imp fun s st h=>h.same (hid_same (hid_same (s2.trans s24)))).snoc ⟨c,by rw[hid2_ne n3D n30];exact h3,?_,r1,by omega,oes.1,fun v hv=>?_⟩
   ·rw[hid2_ne cD (ok0.row hb (List.mem_of_getElem? hc) cD)];exact s04 _ _ hce
   ·obtain⟨t',k',z',rfl,h1,h2⟩:=oes.2 v hv
    have tD:t'≠D:=ne_of_none h1 nD
    exact⟨t',k',z',rfl,by rw[hid2_ne tD (ok0.tup h1 tD)];exact s04 _ _ h1,h2⟩
  refine⟨t,_,rfl,SqT.of ht,rfl,_,_,rfl,_,_,rfl,rfl,?_⟩
  walk_at"rd"
  rw[List.length_map]
  refine rd_if (fun g=>?_) (fun g=>?_)
  ·have u:unB H os es k=true:=by
    unfold unB
    rw[List.getElem?_eq_none (by omega)]
   walk_at"rd"
   refine⟨(by show 4≤sizeLine;decide),fun s3 n3=>?_⟩
   exact fin u s3 H2 _ (fun _ _ e=>e) n3 rfl
  ·have ko:k<os.length:=by omega
   obtain⟨c2,hc2⟩ : ∃c2,as[k]? = some c2:=⟨_,List.getElem?_eq_getElem (by omega)⟩
   obtain⟨o,ho⟩ : ∃o,os[k]? = some o:=⟨_,List.getElem?_eq_getElem ko⟩
   have hco:=hA k c2 o hc2 ho
   have oo:=oO.2 o (List.mem_of_getElem? ho)
   have kt:∀t xs,H t=some (.tup xs)→H2 t=some (.tup xs):=fun _ _ e=>s02 _ _ e
   walk_at"rd"
   refine rd_ixL (SqL.of ha2) (at_ref' hc2) ?_
   walk_at"rd"
   have g1:=row_gd (K:=K) (s02 _ _ hco) fun v hv=>(oo.2 v hv).keep kt
   have g2:=row_gd (K:=K) (s02 _ _ hce) fun v hv=>(oes.2 v hv).keep kt
   refine⟨_,_,g1.1,g2.1,g1.shaped (by omega),g2.shaped (by omega),?_⟩
   rw[eqv_pRow,rowD_keep kt oo.2,rowD_keep kt oes.2]
   have ub:unB H os es k = !decide (rowD H o=rowD H es):=by unfold unB;rw[ho]
   by_cases e:rowD H o=rowD H es
   ·rw[decide_eq_true e]at ub ⊢
    walk_at"rd"
    refine⟨⟨_,_,rfl⟩,s02,hD2,ss,rfl,by omega,fun D0 ok0=>?_⟩
    rw[unl_no hes ub]
    exact(hP D0 ok0).imp fun s st h=>h.same (hid_same (hid_same s2))
   ·rw[decide_eq_false e]at ub ⊢
    walk_at"rd"
    refine⟨(by show 4≤sizeLine;decide),fun s3 n3=>?_⟩
    exact fin ub s3 H2 _ (fun _ _ e=>e) n3 rfl
 ·rintro σ' ys H1 ⟨⟨x1,y1,rfl⟩,s1,hD,ss,rfl,sl,hP⟩
  rw[List.length_map,bl]at hP
  exact q D ss H1 nD hD hP s1
theorem ok_onward {f:Addr}{fd:FuncData}(F:Fun K "onward" "onward" s_onward f fd) (mF:mg "onward" = some (.ref f)) (bF:Binds K fd ["room", "old", "new"] []) (T:Bl mg) (C_unlike_rows:Cal P w K mg base "unlike_rows" ["room", "old", "new"] 1 (sp_unlike_rows K)):Cal P w K mg base "onward" ["room", "old", "new"] 2 (sp_onward K):=by
 refine Cal.of F mF bF sc_onward (fun vs H Q E h=>?_) (fun cdv A outer s H vs Q E hr h=>?_)
 ·obtain⟨r,a,b,os,ns,rfl,_⟩:=h;rfl
 obtain⟨r,a,b,os,ns,rfl,hO,hN,oO,oN,r1,q⟩:=h
 refine⟨_,(pss_cons (ps_set (i:=3) sc_onward.nd rfl (Or.inl rfl) (pcl C_unlike_rows (hr.mono (by decide)) (pa_cons (pv 0) (pa_cons (pv 1) (pa_cons (pv 2) pa_nil stx_Name) stx_Name) stx_Name)))
   (pss_cons (ps_cut (ps_if (pt_cmpR op_gt (pe_callB call_lenL rfl T.len bt_len (pa_cons (pv 1) pa_nil stx_Name)) (pe_callB call_lenL rfl T.len bt_len (pa_cons (pv 2) pa_nil stx_Name)) (nomark _)) (pss_one (ps_expr (pe_bm PySem.F.plainAttrs_list PySem.F.slot_list_append PySem.F.type_list_append mt_append (pv 3) (pa_cons (pe_tup (pa_cons pe_str (pa_cons (pv 0) (pa_cons (pe_callB call_lenL rfl T.len bt_len (pa_cons (pv 2) pa_nil stx_Name)) pa_nil stx_Call) stx_Name) stx_Constant)) pa_nil stx_Tuple)))) pss_nil))
   (pss_one (ps_ret (pv 3))))),?_⟩
 rw[st_onward]
 walk_at"rd"
 refine⟨r,a,b,os,ns,rfl,hO,hN,oO,oN,r1,fun D ss H1 nD hD hP s1=>?_⟩
 obtain⟨as,ha,al,_⟩:=hO
 obtain⟨bs,hb,bl,_⟩:=id hN
 have ha1:=s1 _ _ ha
 have hb1:=s1 _ _ hb
 have nk:=oN.1
 have ls:ss.length≤130:=by rw[hP.plain.1];exact Nat.le_trans (unl_len _) nk
 walk_at"rd"
 refine⟨fun σ H2=>∃ss':List Addr,σ=[some (.int r),some (.ref a),some (.ref b),some (.ref D)]∧H2 D=some (.lst (ss'.map V.ref))∧Pst H H2 b D ss' (onS H r os ns)∧Same H H2,?_,?_⟩
 ·walk_at"rd"
  rw[List.length_map,List.length_map]
  refine rd_if (fun g=>?_) (fun g=>?_)
  ·walk_at"rd"
   refine⟨.inl ⟨rfl,_,SqL.of hD⟩,?_⟩
   walk_at"rd"
   rw[List.length_map]
   refine⟨(by show 3≤sizeLine;decide),fun s3 n3=>?_⟩
   generalize hE:upd H1 s3 _=H2
   obtain⟨h3,s2⟩:=newo n3 hE
   clear hE
   have n3D:s3≠D:=fun z=>by rw[z,hD]at n3;cases n3
   refine⟨D,_,_,rfl,rfl,s2 _ _ hD,by rw[List.length_map];exact small1000 (by omega),?_⟩
   walk_at"rd"
   refine⟨ss ++ [s3],rfl,by rw[upd_same,List.map_append];rfl,fun D0 ok0=>?_,fun x o e=>by rw[upd_ne (ne_of_none e nD)];exact s2 _ _ (s1 _ _ e)⟩
   rw[hid_upd]
   unfold onS
   rw[if_pos (by omega)]
   refine((hP D0 ok0).imp fun s st h=>h.same (hid_same (hid_same s2))).snoc ⟨?_,r1,nk⟩
   rw[hid2_ne n3D (ok0.new s1 n3 n3D),h3,bl]
  ·walk_at"rd"
   refine⟨ss,rfl,hD,?_,s1⟩
   unfold onS
   rw[if_neg (by omega),List.append_nil]
   exact hP
 ·rintro σ H2 ⟨ss',rfl,hD2,hP2,s2⟩
  walk_at"rd"
  exact q D ss' _ nD hD2 hP2 s2
theorem ok_backward {f:Addr}{fd:FuncData}(F:Fun K "backward" "backward" s_backward f fd) (mF:mg "backward" = some (.ref f)) (bF:Binds K fd ["room", "old", "new"] []) (T:Bl mg) (C_unlike_rows:Cal P w K mg base "unlike_rows" ["room", "old", "new"] 1 (sp_unlike_rows K)):Cal P w K mg base "backward" ["room", "old", "new"] 2 (sp_backward K):=by
 refine Cal.of F mF bF sc_backward (fun vs H Q E h=>?_) (fun cdv A outer s H vs Q E hr h=>?_)
 ·obtain⟨r,a,b,os,ns,rfl,_⟩:=h;rfl
 obtain⟨r,a,b,os,ns,rfl,hO,hN,oO,oN,r1,q⟩:=h
 refine⟨_,(pss_one (ps_ret (pe_rev (pcl C_unlike_rows (hr.mono (by decide)) (pa_cons (pv 0) (pa_cons (pv 1) (pa_cons (pv 2) pa_nil stx_Name) stx_Name) stx_Name))))),?_⟩
 rw[st_backward]
 walk_at"rd"
 refine⟨r,a,b,os,ns,rfl,hO,hN,oO,oN,r1,fun D ss H1 nD hD hP s1=>?_⟩
 walk_at"rd"
 refine⟨D,_,rfl,SqL.of hD,fun L nL=>?_⟩
 generalize hE:upd H1 L _=H2
 obtain⟨hL,s2⟩:=newo nL hE
 clear hE
 have nLD:L≠D:=fun z=>by rw[z,hD]at nL;cases nL
 refine q L ss.reverse H2 (s1.free nL) (by rw[hL,List.map_reverse]) (fun D0 ok0=>?_) (s1.trans s2)
 have hP2:P1 (StA (hid D0 (hid L H2))) ss (unl H r os ns ns.length):=by
  rcases ok0 with e|ok0
  ·refine hP.plain.imp fun s st h=>h.same fun x o e1=>?_
   have e1:=hid_le _ _ e1
   have xL:x≠L:=ne_of_none e1 nL
   rw[hid2_ne xL (by rw[e];exact xL)];exact s2 _ _ e1
  ·refine(hP D0 (.inr ok0)).imp fun s st h=>h.same fun x o e1=>?_
   by_cases c:x=D0
   ·rw[c]at e1
    unfold hid at e1
    rw[if_pos rfl]at e1;cases e1
   ·have e1:=hid_le _ _ (hid_le _ _ e1)
    rw[hid2_ne (ne_of_none e1 nL) c];exact s2 _ _ e1
 refine⟨by rw[List.length_reverse,List.length_reverse];exact hP2.1,fun i x y e1 e2=>?_⟩
 have il:=(List.getElem?_eq_some_iff.mp e1).1
 rw[List.length_reverse]at il
 rw[List.getElem?_reverse (by omega)]at e1
 rw[List.getElem?_reverse (by rw[← hP2.1];omega),← hP2.1]at e2
 exact hP2.2 _ x y e1 e2
theorem ok_splitting {f:Addr}{fd:FuncData}(F:Fun K "splitting" "splitting" s_splitting f fd) (mF:mg "splitting" = some (.ref f)) (bF:Binds K fd ["yard"] []) (T:Bl mg) (C_split_of:Cal P w K mg base "split_of" ["rooms"] 3 (sp_split_of K)) (C_entries_in:Cal P w K mg base "entries_in" ["rows"] 1 (sp_entries_in K)) (C_onward:Cal P w K mg base "onward" ["room", "old", "new"] 2 (sp_onward K)) (C_rows_at:Cal P w K mg base "rows_at" ["held", "room"] 1 (sp_rows_at K)) (C_cut_rows:Cal P w K mg base "cut_rows" ["things", "wide"] 2 (sp_cut_rows K)) (C_room_of:Cal P w K mg base "room_of" ["key", "rooms"] 4 (sp_room_of K)):Cal P w K mg base "splitting" ["yard"] 5 (sp_splitting K):=by
 refine Cal.of F mF bF sc_splitting (fun vs H Q E h=>?_) (fun cdv A outer s H vs Q E hr h=>?_)
 ·obtain⟨y,w,R,X,rfl,_⟩:=h;rfl
 obtain⟨y,w,R,X,rfl,hY,xl,w1,w2,R1,R2,ok,sz,q⟩:=h
 obtain⟨h,hy,⟨bs,hh,hbs⟩,en,szx⟩:=hY
 have t:=tn_is R1
 have eR:((R+1:Nat):Int) =(R:Int)+1:=by omega
 refine⟨_,(pss_cons (ps_asg (pv 0) (pg_tup rfl (pgs_cons (pg_name (i:=1) sc_splitting.nd rfl (Or.inl rfl)) (pgs_cons (pg_name (i:=2) sc_splitting.nd rfl (Or.inr rfl)) (pgs_cons (pg_name (i:=3) sc_splitting.nd rfl (Or.inl rfl)) pgs_nil)))))
   (pss_cons (ps_asg (pcl C_split_of (hr.mono (by decide)) (pa_cons (pv 2) pa_nil stx_Name)) (pg_tup rfl (pgs_cons (pg_name (i:=4) sc_splitting.nd rfl (Or.inr rfl)) (pgs_cons (pg_name (i:=5) sc_splitting.nd rfl (Or.inr rfl)) pgs_nil))))
   (pss_cons (ps_set (i:=6) sc_splitting.nd rfl (Or.inl rfl) (pcl C_entries_in (hr.mono (by decide)) (pa_cons (pcl C_rows_at (hr.mono (by decide)) (pa_cons (pv 3) (pa_cons (pv 4) pa_nil stx_Name) stx_Name)) pa_nil stx_Call)))
   (pss_cons (ps_setc (i:=7) sc_splitting.nd rfl rfl rfl (blkOk (sc:=defScope s_splitting) (N:=["yard", "wide", "rooms", "held", "room", "new", "own", "goes", "stays", "steps"]) (vs:=["entry"]) (fs:=["rooms", "new"]) (js:=[2,5]) (by decide +kernel) rfl rfl) (pi_list (pv 6)) (fun _ _ _ _=>pg_name (i:=0) (show(["entry", "rooms", "new"]:List Str).Nodup by decide +kernel) rfl (Or.inl rfl)) (fun _ _ _ _=>pif1 (pt_cmpR op_eq (pcl C_room_of (hr.mono (by decide)) (pa_cons (pe_ix (ix_tupK (K:=K) rfl) (pv 0) pe_int (fun _ _=>rfl)) (pa_cons (pe_op op_add (pv 1) pe_int) pa_nil stx_BinOp) stx_Subscript)) (pv 2) (nomark _))) (fun _ _ _ _=>(pv 0)))
   (pss_cons (ps_setc (i:=8) sc_splitting.nd rfl rfl rfl (blkOk (sc:=defScope s_splitting) (N:=["yard", "wide", "rooms", "held", "room", "new", "own", "goes", "stays", "steps"]) (vs:=["entry"]) (fs:=["rooms", "room"]) (js:=[2,4]) (by decide +kernel) rfl rfl) (pi_list (pv 6)) (fun _ _ _ _=>pg_name (i:=0) (show(["entry", "rooms", "room"]:List Str).Nodup by decide +kernel) rfl (Or.inl rfl)) (fun _ _ _ _=>pif1 (pt_cmpR op_eq (pcl C_room_of (hr.mono (by decide)) (pa_cons (pe_ix (ix_tupK (K:=K) rfl) (pv 0) pe_int (fun _ _=>rfl)) (pa_cons (pe_op op_add (pv 1) pe_int) pa_nil stx_BinOp) stx_Subscript)) (pv 2) (nomark _))) (fun _ _ _ _=>(pv 0)))
   (pss_cons (ps_set (i:=9) sc_splitting.nd rfl (Or.inl rfl) (pcl C_onward (hr.mono (by decide)) (pa_cons (pv 5) (pa_cons (pcl C_rows_at (hr.mono (by decide)) (pa_cons (pv 3) (pa_cons (pv 5) pa_nil stx_Name) stx_Name)) (pa_cons (pcl C_cut_rows (hr.mono (by decide)) (pa_cons (pv 7) (pa_cons (pv 1) pa_nil stx_Name) stx_Name)) pa_nil stx_Call) stx_Call) stx_Name)))
   (pss_cons (ps_expr (pe_bm PySem.F.plainAttrs_list PySem.F.slot_list_append PySem.F.type_list_append mt_append (pv 9) (pa_cons (pe_tup (pa_cons pe_str (pa_cons (pe_op op_add (pv 2) pe_int) pa_nil stx_BinOp) stx_Constant)) pa_nil stx_Tuple)))
   (pss_one (ps_ret (pe_op op_cat (pv 9) (pcl C_onward (hr.mono (by decide)) (pa_cons (pv 4) (pa_cons (pcl C_rows_at (hr.mono (by decide)) (pa_cons (pv 3) (pa_cons (pv 4) pa_nil stx_Name) stx_Name)) (pa_cons (pcl C_cut_rows (hr.mono (by decide)) (pa_cons (pv 8) (pa_cons (pv 1) pa_nil stx_Name) stx_Name)) pa_nil stx_Call) stx_Call) stx_Name)))))))))))),?_⟩
 rw[st_splitting]
 walk_at"rd"
 refine⟨y,_,rfl,SqT.of hy,rfl,_,_,rfl,_,_,rfl,_,_,rfl,rfl,?_⟩
 walk_at"rd"
 refine⟨(R:Int),rfl,by omega,by omega,fun pt npt=>?_⟩
 rw[← t.1]
 generalize hE:upd H pt _=H1
 obtain⟨hpt,s1⟩:=newo npt hE
 clear hE
 refine⟨pt,_,rfl,SqT.of hpt,rfl,_,_,rfl,_,_,rfl,rfl,?_⟩
 walk_at"rd"
 refine⟨h,bs,tn R,rfl,s1 _ _ hh,fun o H2 s2 ho=>?_⟩
 have s02:=s1.trans s2
 have hO:=at_rws hbs s02 ho
 generalize eos:atR X (tn R)=os at hO ok sz q
 have enr:∀es∈os,∀v∈es,En H v:=fun es he=>(ok.2 es he).2
 walk_at"rd"
 refine⟨o,os,rfl,hO,by omega,fun L H3 nL hL s3=>?_⟩
 have s03:=s02.trans s3
 walk_at"rd"
 refine⟨L,rfl,⟨_,SqL.of hL⟩,fun D nD=>?_⟩
 refine comp_list (xs:=os.flatten) (fun j σ' ys H'=>(∃x,σ'=[x,some (.int (R:Int)),some (.int (R:Int))])∧Same H3 H'∧ys =(os.flatten.take j).filter (fun v=>decide (roomV (eD H v).1 ((R+1:Nat):Int) =(R:Int)))∧H' D=some (.lst ys)) D ⟨⟨_,rfl⟩,same_new nD _,rfl,upd_same⟩ (fun i σ' ys H' _ h=>SqL.of (h.2.1 _ _ hL)) ?_ ?_
 ·rintro j x σ' ys Ha hx ⟨⟨z1,rfl⟩,sa,rfl,hD⟩
  have jl:=(List.getElem?_eq_some_iff.mp hx).1
  obtain⟨es,he,hv⟩:=List.mem_flatten.mp (List.mem_of_getElem? hx)
  obtain⟨tt,rfl,htt,_⟩:=(enr es he x hv).pt
  have ht2:=(s03.trans sa) _ _ htt
  walk_at"rd"
  refine⟨_,(R:Int)+1,rfl,by omega,by omega,?_⟩
  rw[← eR]
  walk_at"rd"
  refine rd_if (fun c=>?_) (fun c=>?_)
  ·walk_at"rd"
   refine⟨hD,?_,⟨_,rfl⟩,fun b o e=>by rw[upd_ne (ne_of_none e nD)];exact sa _ _ e,?_,upd_same⟩
   ·refine small1000 (Nat.le_trans (List.length_filter_le _ _) ?_)
    rw[List.length_take];omega
   ·rw[take_get hx,List.filter_append,List.filter_cons,if_pos (by simpa using c)];rfl
  ·refine⟨⟨_,rfl⟩,sa,?_,hD⟩
   rw[take_get hx,List.filter_append,List.filter_cons,if_neg (by simpa using c)]
   simp
 rintro σ' ys H4 ⟨⟨z1,rfl⟩,s4,rfl,hD⟩
 rw[List.take_length]at hD
 have hD:H4 D=some (.lst (goV H os ((R+1:Nat):Int) R)):=hD
 have hL4:=s4 _ _ hL
 have s04:=s03.trans s4
 have gl:=go_len (H:=H) (X:=os) (R:=((R+1:Nat):Int)) (n:=(R:Int))
 have gen:=go_en (R:=((R+1:Nat):Int)) (n:=(R:Int)) enr
 generalize goV H os ((R+1:Nat):Int) R=gv at hD gl gen q
 clear z1
 walk_at"rd"
 refine⟨L,rfl,⟨_,SqL.of hL4⟩,fun D2 nD2=>?_⟩
 refine comp_list (xs:=os.flatten) (fun j σ' ys H'=>(∃x,σ'=[x,some (.int (R:Int)),some (.int (tn R:Int))])∧Same H4 H'∧ys =(os.flatten.take j).filter (fun v=>decide (roomV (eD H v).1 ((R+1:Nat):Int) =(tn R:Int)))∧H' D2=some (.lst ys)) D2 ⟨⟨_,rfl⟩,same_new nD2 _,rfl,upd_same⟩ (fun i σ' ys H' _ h=>SqL.of (h.2.1 _ _ hL4)) ?_ ?_
 ·rintro j x σ' ys Ha hx ⟨⟨z1,rfl⟩,sa,rfl,hD⟩
  have jl:=(List.getElem?_eq_some_iff.mp hx).1
  obtain⟨es,he,hv⟩:=List.mem_flatten.mp (List.mem_of_getElem? hx)
  obtain⟨tt,rfl,htt,_⟩:=(enr es he x hv).pt
  have ht2:=(s04.trans sa) _ _ htt
  walk_at"rd"
  refine⟨_,(R:Int)+1,rfl,by omega,by omega,?_⟩
  rw[← eR]
  walk_at"rd"
  refine rd_if (fun c=>?_) (fun c=>?_)
  ·walk_at"rd"
   refine⟨hD,?_,⟨_,rfl⟩,fun b o e=>by rw[upd_ne (ne_of_none e nD2)];exact sa _ _ e,?_,upd_same⟩
   ·refine small1000 (Nat.le_trans (List.length_filter_le _ _) ?_)
    rw[List.length_take];omega
   ·rw[take_get hx,List.filter_append,List.filter_cons,if_pos (by simpa using c)];rfl
  ·refine⟨⟨_,rfl⟩,sa,?_,hD⟩
   rw[take_get hx,List.filter_append,List.filter_cons,if_neg (by simpa using c)]
   simp
 rintro σ' ys H5 ⟨⟨z1,rfl⟩,s5,rfl,hD2⟩
 rw[List.take_length]at hD2
 have hD2:H5 D2=some (.lst (goV H os ((R+1:Nat):Int) (tn R))):=hD2
 have s05:=s04.trans s5
 have sl:=go_len (H:=H) (X:=os) (R:=((R+1:Nat):Int)) (n:=(tn R:Int))
 have sen:=go_en (R:=((R+1:Nat):Int)) (n:=(tn R:Int)) enr
 generalize goV H os ((R+1:Nat):Int) (tn R)=sv at hD2 sl sen q
 clear z1
 have hD5:=s5 _ _ hD
 walk_at"rd"
 refine⟨h,bs,R,rfl,s05 _ _ hh,fun o2 H6 s6 ho2=>?_⟩
 have s06:=s05.trans s6
 have hO2:=at_rws hbs s06 ho2
 rw[show atR X R=[] by unfold atR;rw[List.getElem?_eq_none (by omega)];rfl]at hO2
 walk_at"rd"
 refine⟨D,gv,w,rfl,s6 _ _ hD5,by omega,w1,by omega,fun l2 H7 nl2 hR s7=>?_⟩
 have s07:=s06.trans s7
 have kt7:∀t xs,H t=some (.tup xs)→H7 t=some (.tup xs):=fun _ _ e=>s07 _ _ e
 have okg:=rows46 (H:=H7) w1 (by omega) (us:=gv) (by omega) fun v hv=>(gen v hv).keep kt7
 walk_at"rd"
 refine⟨R,o2,l2,[],_,rfl,hO2.same s7,hR.rws,⟨by decide,fun _ h=>absurd h List.not_mem_nil⟩,okg,by omega,fun D3 ss H8 nD3 hD3 hP s8=>?_⟩
 replace hP:=hP.plain
 rw[rowsVV_G,on_keep kt7 (fun _ h=>absurd h List.not_mem_nil) fun es he v hv=>gen v (rowsG_mem he hv)]at hP
 have s08:=s07.trans s8
 have nD30:=s07.free nD3
 have sln:ss.length≤130:=by
  rw[hP.1]
  refine Nat.le_trans on_len ?_
  have:=rowsG_le (s:=gv) w1
  omega
 walk_at"rd"
 refine⟨.inl ⟨rfl,_,SqL.of hD3⟩,?_⟩
 walk_at"rd"
 refine⟨(by show 2≤sizeLine;decide),fun s3 n3=>?_⟩
 generalize hE:upd H8 s3 _=H9
 obtain⟨h3,s9⟩:=newo n3 hE
 clear hE
 have n3D:s3≠D3:=fun z=>by rw[z,hD3]at n3;cases n3
 refine⟨D3,_,_,rfl,rfl,s9 _ _ hD3,by rw[List.length_map];exact small1000 (by omega),?_⟩
 rw[show ss.map V.ref ++ [V.ref s3] =(ss ++ [s3]).map V.ref by rw[List.map_append];rfl]
 generalize hE:upd H9 D3 _=HA
 have hPA:P1 (StA (hid D3 HA)) (ss ++ [s3]) (onS H R [] (rowsG gv w) ++ [.rooms (R+1)]):=by
  rw[← hE,hid_upd]
  refine(hP.imp fun s st h=>h.same (hid_same s9)).snoc ⟨?_,by omega,by omega⟩
  rw[hid_ne n3D,h3,eR]
 have hDA:HA D3=some (.lst ((ss ++ [s3]).map V.ref)):=by rw[← hE,upd_same]
 have s0A:Same H HA:=fun x o e=>by rw[← hE,upd_ne (ne_of_none e nD30)];exact s9 _ _ (s08 _ _ e)
 have hDA2:HA D2=some (.lst sv):=by
  have e2:=s8 _ _ (s7 _ _ (s6 _ _ hD2))
  rw[← hE,upd_ne (fun z=>by rw[← z,s7 _ _ (s6 _ _ hD2)]at nD3;cases nD3)]
  exact s9 _ _ e2
 clear hE hP hD3 s9 h3 n3
 walk_at"rd"
 refine⟨h,bs,tn R,rfl,s0A _ _ hh,fun o3 HB sB ho3=>?_⟩
 have s0B:=s0A.trans sB
 have hO3:=at_rws hbs s0B ho3
 rw[eos]at hO3
 walk_at"rd"
 refine⟨D2,sv,w,rfl,sB _ _ hDA2,by omega,w1,by omega,fun l3 HC nl3 hR3 sC=>?_⟩
 have s0C:=s0B.trans sC
 have ktC:∀t xs,H t=some (.tup xs)→HC t=some (.tup xs):=fun _ _ e=>s0C _ _ e
 have oks:=rows46 (H:=HC) w1 (by omega) (us:=sv) (by omega) fun v hv=>(sen v hv).keep ktC
 walk_at"rd"
 refine⟨tn R,o3,l3,os,_,rfl,hO3.same sC,hR3.rws,ok.same s0C,oks,by omega,fun D4 ss2 HD nD4 hD4 hP4 sD=>?_⟩
 replace hP4:=hP4.plain
 rw[rowsVV_G,on_keep ktC enr fun es he v hv=>sen v (rowsG_mem he hv)]at hP4
 have sAD:=(sB.trans sC).trans sD
 have sl2:ss2.length≤130:=by
  rw[hP4.1]
  refine Nat.le_trans on_len ?_
  have:=rowsG_le (s:=sv) w1
  omega
 walk_at"rd"
 refine⟨D3,D4,_,_,rfl,rfl,sAD _ _ hDA,hD4,Nat.le_trans (show _≤400 by rw[List.length_map,List.length_map,List.length_append];simp;omega) (by decide),fun L3 nL3=>?_⟩
 generalize hE:upd HD L3 _=HF
 obtain⟨hL3,sF⟩:=newo nL3 hE
 clear hE
 refine q L3 (ss ++ [s3]++ss2) HF ((s0A.trans sAD).free nL3) (by rw[hL3,List.map_append (l₁:=ss ++ [s3])]) ?_ ((s0A.trans sAD).trans sF)
 have up:∀{s st},StA HD s st→StA (hid L3 HF) s st:=fun h=>h.same fun x o e=>by rw[hid_ne (ne_of_none e nL3)];exact sF _ _ e
 unfold splS
 have e1:onS H R [] (rowsG gv w)++St3.rooms (R+1)::onS H (tn R) os (rowsG sv w) =(onS H R [] (rowsG gv w) ++ [St3.rooms (R+1)])++onS H (tn R) os (rowsG sv w):=by rw[List.append_assoc];rfl
 rw[e1]
 exact(hPA.imp fun s st h=>up ((h.same hid_le).same sAD)).app (hP4.imp fun s st h=>up (h.same hid_le))
theorem ok_joining {f:Addr}{fd:FuncData}(F:Fun K "joining" "joining" s_joining f fd) (mF:mg "joining" = some (.ref f)) (bF:Binds K fd ["yard"] []) (T:Bl mg) {TE:Addr}{CE_NoRoom:Addr}(XE_NoRoom:XTxt K mg "NoRoom" CE_NoRoom TE "number")  (C_joined_of:Cal P w K mg base "joined_of" ["rooms"] 3 (sp_joined_of K)) (C_backward:Cal P w K mg base "backward" ["room", "old", "new"] 2 (sp_backward K)) (C_rows_at:Cal P w K mg base "rows_at" ["held", "room"] 1 (sp_rows_at K)) (C_cut_rows:Cal P w K mg base "cut_rows" ["things", "wide"] 2 (sp_cut_rows K)) (C_entries_in:Cal P w K mg base "entries_in" ["rows"] 1 (sp_entries_in K)):Cal1 P w K mg base "joining" ["yard"] 4 (sp_joining K):=by
 refine Cal1.of F mF bF sc_joining (fun vs H Q E h=>?_) (fun cdv A outer s H vs Q E hr h=>?_)
 ·rcases h with⟨y,w,R,X,rfl,_⟩|⟨y,w,X,rfl,_⟩ <;> rfl
 refine⟨_,(pss_cons (ps_asg (pv 0) (pg_tup rfl (pgs_cons (pg_name (i:=1) sc_joining.nd rfl (Or.inl rfl)) (pgs_cons (pg_name (i:=2) sc_joining.nd rfl (Or.inl rfl)) (pgs_cons (pg_name (i:=3) sc_joining.nd rfl (Or.inl rfl)) pgs_nil)))))
   (pss_cons (ps_if (pt_cmpR op_eq (pv 2) pe_int (nomark _)) (pss_one (ps_raise1 (k:=0) throws_def XE_NoRoom.cls (hr.mono (by decide)) rfl XE_NoRoom.mg (pa_cons pe_int pa_nil stx_Constant))) pss_nil)
   (pss_cons (ps_asg (pcl C_joined_of (hr.mono (by decide)) (pa_cons (pv 2) pa_nil stx_Name)) (pg_tup rfl (pgs_cons (pg_name (i:=4) sc_joining.nd rfl (Or.inl rfl)) (pgs_cons (pg_name (i:=5) sc_joining.nd rfl (Or.inl rfl)) pgs_nil))))
   (pss_cons (ps_set (i:=6) sc_joining.nd rfl (Or.inl rfl) (pe_callB call_sortT rfl T.sorted bt_sorted (pa_cons (pe_op op_cat (pcl C_entries_in (hr.mono (by decide)) (pa_cons (pcl C_rows_at (hr.mono (by decide)) (pa_cons (pv 3) (pa_cons (pv 5) pa_nil stx_Name) stx_Name)) pa_nil stx_Call)) (pcl C_entries_in (hr.mono (by decide)) (pa_cons (pcl C_rows_at (hr.mono (by decide)) (pa_cons (pv 3) (pa_cons (pv 4) pa_nil stx_Name) stx_Name)) pa_nil stx_Call))) pa_nil stx_BinOp)))
   (pss_cons (ps_set (i:=7) sc_joining.nd rfl (Or.inl rfl) (pcl C_backward (hr.mono (by decide)) (pa_cons (pv 5) (pa_cons (pcl C_rows_at (hr.mono (by decide)) (pa_cons (pv 3) (pa_cons (pv 5) pa_nil stx_Name) stx_Name)) (pa_cons (pcl C_cut_rows (hr.mono (by decide)) (pa_cons (pv 6) (pa_cons (pv 1) pa_nil stx_Name) stx_Name)) pa_nil stx_Call) stx_Call) stx_Name)))
   (pss_one (ps_ret (pe_op op_cat (pv 7) (pe_lst (pa_cons (pe_tup (pa_cons pe_str (pa_cons (pe_op op_sub (pv 2) pe_int) pa_nil stx_BinOp) stx_Constant)) (pa_cons (pe_tup (pa_cons pe_str (pa_cons (pv 4) (pa_cons pe_int pa_nil stx_Constant) stx_Name) stx_Constant)) pa_nil stx_Tuple) stx_Tuple)))))))))),?_⟩
 rcases h with h|⟨y,w,X,rfl,⟨h,hy,_⟩,q⟩
 case inr =>
  rw[st_joining]
  walk_at"rd"
  refine⟨y,_,rfl,SqT.of hy,rfl,_,_,rfl,_,_,rfl,_,_,rfl,rfl,?_⟩
  walk_at"rd"
  refine rd_if (fun _=>?_) (fun c=>absurd rfl c)
  walk_at"rd"
  exact⟨_,rfl,fun u ru=>q u _ ru XE_NoRoom.nm⟩
 obtain⟨y,w,R,X,rfl,hY,w1,w2,R1,R2,ok,ok2,sz,sz2,nd,q⟩:=h
 obtain⟨h,hy,⟨bs,hh,hbs⟩,en,szx⟩:=hY
 have t:=tn_is R1
 have eR:((R+1:Nat):Int)-1 =(R:Int):=by omega
 rw[st_joining]
 walk_at"rd"
 refine⟨y,_,rfl,SqT.of hy,rfl,_,_,rfl,_,_,rfl,_,_,rfl,rfl,?_⟩
 walk_at"rd"
 refine rd_if (fun c=>absurd c (by omega)) (fun _=>?_)
 walk_at"rd"
 refine⟨((R+1:Nat):Int),rfl,by omega,by omega,fun c=>absurd c (by omega),fun _ pt npt=>?_⟩
 rw[eR,← t.1]
 generalize hE:upd H pt _=H1
 obtain⟨hpt,s1⟩:=newo npt hE
 clear hE
 refine⟨pt,_,rfl,SqT.of hpt,rfl,_,_,rfl,_,_,rfl,rfl,?_⟩
 walk_at"rd"
 refine⟨h,bs,tn R,rfl,s1 _ _ hh,fun o H2 s2 ho=>?_⟩
 have s02:=s1.trans s2
 have hO:=at_rws hbs s02 ho
 generalize eos:atR X (tn R)=os at hO ok sz nd q
 have enr:∀es∈os,∀v∈es,En H v:=fun es he=>(ok.2 es he).2
 walk_at"rd"
 refine⟨o,os,rfl,hO,by omega,fun L H3 nL hL s3=>?_⟩
 have s03:=s02.trans s3
 walk_at"rd"
 refine⟨h,bs,R,rfl,s03 _ _ hh,fun o2 H4 s4 ho2=>?_⟩
 have s04:=s03.trans s4
 have hO2:=at_rws hbs s04 ho2
 generalize atR X R=os2 at hO2 ok2 sz2 nd q
 have enr2:∀es∈os2,∀v∈es,En H v:=fun es he=>(ok2.2 es he).2
 walk_at"rd"
 refine⟨o2,os2,rfl,hO2,by omega,fun L2 H5 nL2 hL2 s5=>?_⟩
 have s05:=s04.trans s5
 have enf:∀v∈os.flatten++os2.flatten,En H v:=fun v hv=>by
  rcases List.mem_append.mp hv with hv|hv
  ·obtain⟨es,he,hm⟩:=List.mem_flatten.mp hv
   exact enr es he v hm
  ·obtain⟨es,he,hm⟩:=List.mem_flatten.mp hv
   exact enr2 es he v hm
 walk_at"rd"
 refine⟨L,L2,_,_,rfl,rfl,(s4.trans s5) _ _ hL,hL2,Nat.le_trans (show _≤200 by omega) (by decide),fun L3 nL3=>?_⟩
 have fl:(os.flatten++os2.flatten).length≤60:=by rw[List.length_append];omega
 generalize os.flatten++os2.flatten=ff at nd enf q fl
 generalize hE:upd H5 L3 _=H6
 obtain⟨hL3,s6⟩:=newo nL3 hE
 clear hE
 have s06:=s05.trans s6
 obtain⟨ts,rfl⟩:=refs_of enf
 have kt6:∀t xs,H t=some (.tup xs)→H6 t=some (.tup xs):=fun _ _ e=>s06 _ _ e
 rw[List.length_map]at fl
 have nd6:(ts.map (kE H6)).Nodup:=by
  rw[← rowD_refs,rowD_keep kt6 enf];exact nd
 walk_at"rd"
 refine⟨L3,ts,kE H6,rfl,SqL.of hL3,by omega,fun u hu=>?_,inj_of nd6,fun us l p1 p2 nl=>?_⟩
 ·obtain⟨t',et,ht',_⟩:=((enf (.ref u) (List.mem_map.mpr ⟨u,hu,rfl⟩)).keep kt6).pt
  cases et
  exact⟨_,ht'⟩
 generalize hE:upd H6 l _=H7
 obtain⟨hl,s7⟩:=newo nl hE
 clear hE
 have s07:=s06.trans s7
 have ul:us.length≤110:=by rw[p1.length_eq];omega
 have enu:∀v∈us.map V.ref,En H v:=fun v hv=>by
  obtain⟨u,hu,rfl⟩:=List.mem_map.mp hv
  exact enf _ (List.mem_map.mpr ⟨u,p1.mem_iff.mp hu,rfl⟩)
 have pw:(rowD H (us.map V.ref)).Pairwise fun a b=>a.1<b.1:=by
  rw[← rowD_keep kt6 enu]
  have ndu:(us.map (kE H6)).Nodup:=(p1.map (kE H6)).nodup_iff.mpr nd6
  have p3:(us.map (kE H6)).Pairwise (· ≤ ·):=List.pairwise_map.mpr p2
  have p4:=le_lt p3 ndu
  rw[← rowD_refs]at p4
  exact List.pairwise_map.mp p4
 walk_at"rd"
 refine⟨h,bs,tn R,rfl,s07 _ _ hh,fun o3 H8 s8 ho3=>?_⟩
 have s08:=s07.trans s8
 have hO3:=at_rws hbs s08 ho3
 rw[eos]at hO3
 walk_at"rd"
 refine⟨l,us.map V.ref,w,rfl,s8 _ _ hl,by rw[List.length_map];omega,w1,by omega,fun l2 H9 nl2 hR s9=>?_⟩
 have s09:=s08.trans s9
 have kt9:∀t xs,H t=some (.tup xs)→H9 t=some (.tup xs):=fun _ _ e=>s09 _ _ e
 have okb:=rows46 (H:=H9) w1 (by omega) (us:=us.map V.ref) (by rw[List.length_map];omega) fun v hv=>(enu v hv).keep kt9
 walk_at"rd"
 refine⟨tn R,o3,l2,os,_,rfl,hO3.same s9,hR.rws,ok.same s09,okb,by omega,fun D ss HA nD hD hP sA=>?_⟩
 replace hP:=hP.plain
 rw[rowsVV_G,unl_keep kt9 enr fun es he v hv=>enu v (rowsG_mem he hv)]at hP
 have s0A:=s09.trans sA
 have sln:ss.length≤130:=by
  rw[hP.1,List.length_reverse]
  refine Nat.le_trans (unl_len _) ?_
  have:=rowsG_le (s:=us.map V.ref) w1
  rw[List.length_map]at this
  omega
 walk_at"rd"
 refine⟨(by show 2≤sizeLine;decide),fun s3 n3=>?_⟩
 generalize hE:upd HA s3 _=HB
 obtain⟨h3,sB⟩:=newo n3 hE
 clear hE
 rw[eR]at h3
 walk_at"rd"
 refine⟨(by show 3≤sizeLine;decide),fun s5 n5=>?_⟩
 generalize hE:upd HB s5 _=HC
 obtain⟨h5,sC⟩:=newo n5 hE
 clear hE
 walk_at"rd"
 refine⟨(by show 2≤sizeLine;decide),fun L5 nL5=>?_⟩
 generalize hE:upd HC L5 _=HD
 obtain⟨hL5,sD⟩:=newo nL5 hE
 clear hE
 have sAD:=(sB.trans sC).trans sD
 walk_at"rd"
 refine⟨D,L5,_,_,rfl,rfl,sAD _ _ hD,hL5,Nat.le_trans (show _≤400 by rw[List.length_map];simp;omega) (by decide),fun L6 nL6=>?_⟩
 generalize hE:upd HD L6 _=HF
 obtain⟨hL6,sF⟩:=newo nL6 hE
 clear hE
 refine q L6 (ss ++ [s3,s5]) (us.map V.ref) HF ((s0A.trans sAD).free nL6) (by rw[hL6,List.map_append];rfl) (p1.map V.ref) pw ?_ ((s0A.trans sAD).trans sF)
 have up:∀{s st},StA HD s st→StA (hid L6 HF) s st:=fun h=>h.same fun x o e=>by rw[hid_ne (ne_of_none e nL6)];exact sF _ _ e
 unfold joiS
 refine(hP.imp fun s st h=>up ((h.same hid_le).same sAD)).app ((P1.one (up (st:=.rooms R) ⟨(sC.trans sD) _ _ h3,by omega,by omega⟩)).snoc (up (st:=.cut R 0) ⟨sD _ _ h5,by omega,by omega⟩))
theorem ok_putting {f:Addr}{fd:FuncData}(F:Fun K "putting" "putting" s_putting f fd) (mF:mg "putting" = some (.ref f)) (bF:Binds K fd ["yard", "key", "thing"] []) (T:Bl mg) (C_room_of:Cal P w K mg base "room_of" ["key", "rooms"] 4 (sp_room_of K)) (C_rows_at:Cal P w K mg base "rows_at" ["held", "room"] 1 (sp_rows_at K)) (C_backward:Cal P w K mg base "backward" ["room", "old", "new"] 2 (sp_backward K)) (C_cut_rows:Cal P w K mg base "cut_rows" ["things", "wide"] 2 (sp_cut_rows K)) (C_others_in:Cal P w K mg base "others_in" ["rows", "key"] 2 (sp_others_in K)):Cal P w K mg base "putting" ["yard", "key", "thing"] 5 (sp_putting K):=by
 refine Cal.of F mF bF sc_putting (fun vs H Q E h=>?_) (fun cdv A outer s H vs Q E hr h=>?_)
 ·obtain⟨y,w,R,X,k,z,rfl,_⟩:=h;rfl
 obtain⟨y,w,R,X,k,z,rfl,hY,kk,zz,w1,w2,R1,R2,ok,sz,nd,q⟩:=h
 obtain⟨h,hy,⟨bs,hh,hbs⟩,en,szx⟩:=hY
 have rb:=roomV_lt (k:=k) (R:=(R:Int)) (by omega)
 obtain⟨r,hr0⟩ : ∃r:Nat,roomV k R =(r:Int):=⟨(roomV k R).toNat,by omega⟩
 have er:(roomV k R).toNat=r:=by omega
 refine⟨_,(pss_cons (ps_asg (pv 0) (pg_tup rfl (pgs_cons (pg_name (i:=3) sc_putting.nd rfl (Or.inl rfl)) (pgs_cons (pg_name (i:=4) sc_putting.nd rfl (Or.inl rfl)) (pgs_cons (pg_name (i:=5) sc_putting.nd rfl (Or.inl rfl)) pgs_nil)))))
   (pss_cons (ps_set (i:=6) sc_putting.nd rfl (Or.inl rfl) (pcl C_room_of (hr.mono (by decide)) (pa_cons (pv 1) (pa_cons (pv 4) pa_nil stx_Name) stx_Name)))
   (pss_cons (ps_set (i:=7) sc_putting.nd rfl (Or.inl rfl) (pcl C_rows_at (hr.mono (by decide)) (pa_cons (pv 5) (pa_cons (pv 6) pa_nil stx_Name) stx_Name)))
   (pss_cons (ps_set (i:=8) sc_putting.nd rfl (Or.inl rfl) (pe_callB call_sortT rfl T.sorted bt_sorted (pa_cons (pe_op op_cat (pcl C_others_in (hr.mono (by decide)) (pa_cons (pv 7) (pa_cons (pv 1) pa_nil stx_Name) stx_Name)) (pe_lst (pa_cons (pe_tup (pa_cons (pv 1) (pa_cons (pv 2) pa_nil stx_Name) stx_Name)) pa_nil stx_Tuple))) pa_nil stx_BinOp)))
   (pss_one (ps_ret (pcl C_backward (hr.mono (by decide)) (pa_cons (pv 6) (pa_cons (pv 7) (pa_cons (pcl C_cut_rows (hr.mono (by decide)) (pa_cons (pv 8) (pa_cons (pv 3) pa_nil stx_Name) stx_Name)) pa_nil stx_Call) stx_Name) stx_Name)))))))),?_⟩
 rw[st_putting]
 walk_at"rd"
 refine⟨y,_,rfl,SqT.of hy,rfl,_,_,rfl,_,_,rfl,_,_,rfl,rfl,?_⟩
 walk_at"rd"
 refine⟨k,R,rfl,by omega,by omega,?_⟩
 rw[hr0]
 walk_at"rd"
 refine⟨h,bs,r,rfl,hh,fun o H1 s1 ho=>?_⟩
 have hO:=own_rws hbs hr0 s1 ho
 rw[er]at q
 generalize ownR X k R=rows at hO ok sz nd q
 have enr:∀es∈rows,∀v∈es,En H v:=fun es he=>(ok.2 es he).2
 walk_at"rd"
 refine⟨o,rows,k,rfl,hO,by omega,fun es he v hv=>(enr es he v hv).keep fun _ _ e=>s1 _ _ e,fun L H2 nL hL s2=>?_⟩
 have s02:=s1.trans s2
 have eo:othV H1 rows k=othV H rows k:=List.filter_congr fun v hv=>by
  obtain⟨es,he,hm⟩:=List.mem_flatten.mp hv
  rw[(enr es he v hm).eD fun _ _ e=>s1 _ _ e]
 rw[eo]at hL
 have oen:=oth_en (k:=k) enr
 have one:=oth_ne (H:=H) (X:=rows) (k:=k)
 have ol:=oth_len (H:=H) (X:=rows) (k:=k)
 have ond:((rowD H (othV H rows k)).map (·.1)).Nodup:=by
  refine List.Nodup.sublist ?_ nd
  unfold rowD
  exact(List.filter_sublist.map _).map _
 generalize othV H rows k=ov at hL oen one ol ond q
 obtain⟨ts,rfl⟩:=refs_of oen
 walk_at"rd"
 refine⟨(by show 2≤sizeLine;decide),fun t nt=>?_⟩
 generalize hE:upd H2 t _=H3
 obtain⟨ht,s3⟩:=newo nt hE
 clear hE
 walk_at"rd"
 refine⟨(by show 1≤sizeLine;decide),fun L2 nL2=>?_⟩
 generalize hE:upd H3 L2 _=H4
 obtain⟨hL2,s4⟩:=newo nL2 hE
 clear hE
 walk_at"rd"
 rw[List.length_map]at ol
 refine⟨L,L2,_,_,rfl,rfl,(s3.trans s4) _ _ hL,hL2,Nat.le_trans (show _≤200 by rw[List.length_map];simp;omega) (by decide),fun L3 nL3=>?_⟩
 generalize hE:upd H4 L3 _=H5
 obtain⟨hL3,s5⟩:=newo nL3 hE
 clear hE
 have s05:=((s02.trans s3).trans s4).trans s5
 have ht5:=s5 _ _ (s4 _ _ ht)
 have kt5:∀t xs,H t=some (.tup xs)→H5 t=some (.tup xs):=fun _ _ e=>s05 _ _ e
 have en5:∀v∈(ts ++ [t]).map V.ref,En H5 v:=fun v hv=>by
  rw[List.map_append]at hv
  rcases List.mem_append.mp hv with hv|hv
  ·exact(oen v hv).keep kt5
  ·rw[List.mem_singleton.mp hv];exact⟨t,k,z,rfl,ht5,zz.1,kk.1,kk.2,zz.2⟩
 have row5:rowD H5 ((ts ++ [t]).map V.ref)=rowD H (ts.map V.ref) ++ [(k,z)]:=by
  rw[List.map_append]
  unfold rowD
  rw[List.map_append]
  congr 1
  ·exact List.map_congr_left fun v hv=>(oen v hv).eD kt5
  ·show [eD H5 (.ref t)]=_
   rw[eD_at ht5]
 have nd5:((ts ++ [t]).map (kE H5)).Nodup:=by
  rw[← rowD_refs,row5,List.map_append]
  refine List.nodup_append.mpr ⟨ond,by simp,fun a ha b hb e=>?_⟩
  have eb:b=k:=by simpa using hb
  obtain⟨p,hp,rfl⟩:=List.mem_map.mp ha
  unfold rowD at hp
  obtain⟨v,hv,rfl⟩:=List.mem_map.mp hp
  exact one v hv (e.trans eb)
 rw[show ts.map V.ref ++ [V.ref t] =(ts ++ [t]).map V.ref by rw[List.map_append];rfl]at hL3
 walk_at"rd"
 refine⟨L3,ts ++ [t],kE H5,rfl,SqL.of hL3,by rw[List.length_append];simp;omega,fun u hu=>?_,inj_of nd5,fun us l p1 p2 nl=>?_⟩
 ·obtain⟨t',et,ht',_⟩:=(en5 (.ref u) (List.mem_map.mpr ⟨u,hu,rfl⟩)).pt
  cases et
  exact⟨_,ht'⟩
 generalize hE:upd H5 l _=H6
 obtain⟨hl,s6⟩:=newo nl hE
 clear hE
 have ul:us.length≤110:=by rw[p1.length_eq,List.length_append];simp;omega
 have enu:∀v∈us.map V.ref,En H5 v:=fun v hv=>by
  obtain⟨u,hu,rfl⟩:=List.mem_map.mp hv
  exact en5 _ (List.mem_map.mpr ⟨u,p1.mem_iff.mp hu,rfl⟩)
 have pw:(rowD H5 (us.map V.ref)).Pairwise fun a b=>a.1<b.1:=by
  have ndu:(us.map (kE H5)).Nodup:=(p1.map (kE H5)).nodup_iff.mpr nd5
  have p3:(us.map (kE H5)).Pairwise (· ≤ ·):=List.pairwise_map.mpr p2
  have p4:=le_lt p3 ndu
  rw[← rowD_refs]at p4
  exact List.pairwise_map.mp p4
 walk_at"rd"
 refine⟨l,us.map V.ref,w,rfl,hl,by rw[List.length_map];omega,w1,by omega,fun l2 H7 nl2 hR s7=>?_⟩
 have s57:=s6.trans s7
 have s07:=s05.trans s57
 have s17:Same H1 H7:=(((s2.trans s3).trans s4).trans s5).trans s57
 have kt57:∀t xs,H5 t=some (.tup xs)→H7 t=some (.tup xs):=fun _ _ e=>s57 _ _ e
 have enu7:∀v∈us.map V.ref,En H7 v:=fun v hv=>(enu v hv).keep kt57
 have ok2:=rows46 w1 (by omega) (by rw[List.length_map];omega) enu7
 walk_at"rd"
 refine⟨r,o,l2,rows,_,rfl,hO.same s17,hR.rws,ok.same s07,ok2,by omega,fun D ss H8 nD hD hP s8=>?_⟩
 replace hP:=hP.plain
 have kt8:∀t xs,H7 t=some (.tup xs)→H8 t=some (.tup xs):=fun _ _ e=>s8 _ _ e
 refine q D ss t (us.map V.ref) H8 (s07.free nD) hD (s8 _ _ (s57 _ _ ht5)) ?_ ?_ ?_ (s07.trans s8)
 ·have:=p1.map V.ref
  rw[List.map_append]at this
  exact this
 ·rw[rowD_keep kt8 enu7,rowD_keep kt57 enu];exact pw
 ·rw[unl_keep kt8 (fun es he v hv=>(enr es he v hv).keep fun _ _ e=>s07 _ _ e) fun es he v hv=>enu7 v (rowsG_mem he hv)]
  exact hP
theorem ok_dropping {f:Addr}{fd:FuncData}(F:Fun K "dropping" "dropping" s_dropping f fd) (mF:mg "dropping" = some (.ref f)) (bF:Binds K fd ["yard", "key"] []) (T:Bl mg) {TE:Addr}{CE_Lacking:Addr}(XE_Lacking:XTxt K mg "Lacking" CE_Lacking TE "key")  (C_room_of:Cal P w K mg base "room_of" ["key", "rooms"] 4 (sp_room_of K)) (C_rows_at:Cal P w K mg base "rows_at" ["held", "room"] 1 (sp_rows_at K)) (C_others_in:Cal P w K mg base "others_in" ["rows", "key"] 2 (sp_others_in K)) (C_onward:Cal P w K mg base "onward" ["room", "old", "new"] 2 (sp_onward K)) (C_cut_rows:Cal P w K mg base "cut_rows" ["things", "wide"] 2 (sp_cut_rows K)) (C_entries_in:Cal P w K mg base "entries_in" ["rows"] 1 (sp_entries_in K)):Cal1 P w K mg base "dropping" ["yard", "key"] 5 (sp_dropping K):=by
 refine Cal1.of F mF bF sc_dropping (fun vs H Q E h=>?_) (fun cdv A outer s H vs Q E hr h=>?_)
 ·obtain⟨y,w,R,X,k,rfl,_⟩:=h;rfl
 obtain⟨y,w,R,X,k,rfl,hY,w1,w2,R1,R2,ok,sz,q,qb⟩:=h
 obtain⟨h,hy,⟨bs,hh,hbs⟩,en,szx⟩:=hY
 have rb:=roomV_lt (k:=k) (R:=(R:Int)) (by omega)
 obtain⟨r,hr0⟩ : ∃r:Nat,roomV k R =(r:Int):=⟨(roomV k R).toNat,by omega⟩
 have er:(roomV k R).toNat=r:=by omega
 refine⟨_,(pss_cons (ps_asg (pv 0) (pg_tup rfl (pgs_cons (pg_name (i:=2) sc_dropping.nd rfl (Or.inl rfl)) (pgs_cons (pg_name (i:=3) sc_dropping.nd rfl (Or.inl rfl)) (pgs_cons (pg_name (i:=4) sc_dropping.nd rfl (Or.inl rfl)) pgs_nil)))))
   (pss_cons (ps_set (i:=5) sc_dropping.nd rfl (Or.inl rfl) (pcl C_room_of (hr.mono (by decide)) (pa_cons (pv 1) (pa_cons (pv 3) pa_nil stx_Name) stx_Name)))
   (pss_cons (ps_set (i:=6) sc_dropping.nd rfl (Or.inl rfl) (pcl C_rows_at (hr.mono (by decide)) (pa_cons (pv 4) (pa_cons (pv 5) pa_nil stx_Name) stx_Name)))
   (pss_cons (ps_set (i:=7) sc_dropping.nd rfl (Or.inl rfl) (pcl C_others_in (hr.mono (by decide)) (pa_cons (pv 6) (pa_cons (pv 1) pa_nil stx_Name) stx_Name)))
   (pss_cons (ps_if (pt_cmpR op_eq (pe_callB call_lenL rfl T.len bt_len (pa_cons (pv 7) pa_nil stx_Name)) (pe_callB call_lenL rfl T.len bt_len (pa_cons (pcl C_entries_in (hr.mono (by decide)) (pa_cons (pv 6) pa_nil stx_Name)) pa_nil stx_Call)) (nomark _)) (pss_one (ps_raise1 (k:=0) throws_def XE_Lacking.cls (hr.mono (by decide)) rfl XE_Lacking.mg (pa_cons (pv 1) pa_nil stx_Name))) pss_nil)
   (pss_one (ps_ret (pcl C_onward (hr.mono (by decide)) (pa_cons (pv 5) (pa_cons (pv 6) (pa_cons (pcl C_cut_rows (hr.mono (by decide)) (pa_cons (pv 7) (pa_cons (pv 2) pa_nil stx_Name) stx_Name)) pa_nil stx_Call) stx_Name) stx_Name))))))))),?_⟩
 rw[st_dropping]
 walk_at"rd"
 refine⟨y,_,rfl,SqT.of hy,rfl,_,_,rfl,_,_,rfl,_,_,rfl,rfl,?_⟩
 walk_at"rd"
 refine⟨k,R,rfl,by omega,by omega,?_⟩
 rw[hr0]
 walk_at"rd"
 refine⟨h,bs,r,rfl,hh,fun o H1 s1 ho=>?_⟩
 have hO:=own_rws hbs hr0 s1 ho
 rw[er]at q
 generalize ownR X k R=rows at hO ok sz q qb
 have enr:∀es∈rows,∀v∈es,En H v:=fun es he=>(ok.2 es he).2
 walk_at"rd"
 refine⟨o,rows,k,rfl,hO,by omega,fun es he v hv=>(enr es he v hv).keep fun _ _ e=>s1 _ _ e,fun L H2 nL hL s2=>?_⟩
 have s02:=s1.trans s2
 have eo:othV H1 rows k=othV H rows k:=List.filter_congr fun v hv=>by
  obtain⟨es,he,hm⟩:=List.mem_flatten.mp hv
  rw[(enr es he v hm).eD fun _ _ e=>s1 _ _ e]
 rw[eo]at hL
 have oen:=oth_en (k:=k) enr
 have ol:=oth_len (H:=H) (X:=rows) (k:=k)
 walk_at"rd"
 refine⟨o,rows,rfl,hO.same s2,by omega,fun L2 H3 nL2 hL2 s3=>?_⟩
 have s03:=s02.trans s3
 walk_at"rd"
 by_cases hk:k∈(rowD H rows.flatten).map (·.1)
 case neg =>
  have e:(othV H rows k).length=rows.flatten.length:=by
   unfold othV
   rw[List.filter_eq_self.mpr]
   intro v hv
   simp only[Bool.not_eq_true',decide_eq_false_iff_not]
   intro z
   exact hk (List.mem_map.mpr ⟨eD H v,List.mem_map.mpr ⟨v,hv,rfl⟩,z⟩)
  refine rd_if (fun _=>?_) (fun c=>absurd (by omega) c)
  walk_at"rd"
  exact⟨_,rfl,fun u ru=>qb hk _ u _ s03 ru XE_Lacking.nm⟩
 have less:(othV H rows k).length<rows.flatten.length:=by
  obtain⟨p,hp,e⟩:=List.mem_map.mp hk
  unfold rowD at hp
  obtain⟨v,hv,rfl⟩:=List.mem_map.mp hp
  exact List.length_filter_lt_length_iff_exists.mpr ⟨v,hv,by simp[e]⟩
 refine rd_if (fun g=>absurd g (by omega)) (fun _=>?_)
 walk_at"rd"
 refine⟨L,_,w,rfl,s3 _ _ hL,by omega,w1,by omega,fun l2 H7 nl2 hR s7=>?_⟩
 have s07:=s03.trans s7
 have kt7:∀t xs,H t=some (.tup xs)→H7 t=some (.tup xs):=fun _ _ e=>s07 _ _ e
 have ok2:=rows46 (H:=H7) w1 (by omega) (us:=othV H rows k) (by omega) fun v hv=>(oen v hv).keep kt7
 walk_at"rd"
 refine⟨r,o,l2,rows,_,rfl,hO.same ((s2.trans s3).trans s7),hR.rws,ok.same s07,ok2,by omega,fun D ss H8 nD hD hP s8=>?_⟩
 replace hP:=hP.plain
 refine q hk D ss H8 (s07.free nD) hD ?_ (s07.trans s8)
 rw[rowsVV_G]at hP
 unfold onS at hP ⊢
 rw[unl_keep kt7 enr fun es he v hv=>oen v (rowsG_mem he hv)]at hP
 exact hP
theorem ok_others_in {f:Addr}{fd:FuncData}(F:Fun K "others_in" "others_in" s_others_in f fd) (mF:mg "others_in" = some (.ref f)) (bF:Binds K fd ["rows", "key"] []) (T:Bl mg) (C_entries_in:Cal P w K mg base "entries_in" ["rows"] 1 (sp_entries_in K)):Cal P w K mg base "others_in" ["rows", "key"] 2 (sp_others_in K):=by
 refine Cal.of F mF bF sc_others_in (fun vs H Q E h=>?_) (fun cdv A outer s H vs Q E hr h=>?_)
 ·obtain⟨a,X,k,rfl,_⟩:=h;rfl
 obtain⟨a,X,k,rfl,hX,hz,en,q⟩:=h
 refine⟨_,(pss_one (ps_ret (pe_comp rfl (blkOk (sc:=defScope s_others_in) (N:=["rows", "key"]) (vs:=["entry"]) (fs:=["key"]) (js:=[1]) (by decide +kernel) rfl rfl) (pi_list (pcl C_entries_in (hr.mono (by decide)) (pa_cons (pv 0) pa_nil stx_Name))) (fun _ _ _ _=>pg_name (i:=0) (show(["entry", "key"]:List Str).Nodup by decide +kernel) rfl (Or.inl rfl)) (fun _ _ _ _=>pif1 (pt_cmpR op_ne (pe_ix (ix_tupK (K:=K) rfl) (pv 0) pe_int (fun _ _=>rfl)) (pv 1) (nomark _))) (fun _ _ _ _=>(pv 0))))),?_⟩
 rw[st_others_in]
 walk_at"rd"
 refine⟨a,X,rfl,hX,by omega,fun L H1 nL hL s1=>?_⟩
 refine⟨L,rfl,⟨_,SqL.of hL⟩,fun D nD=>?_⟩
 refine comp_list (xs:=X.flatten) (fun j σ' ys H'=>(∃x,σ'=[x,some (.int k)])∧Same H1 H'∧ys =(X.flatten.take j).filter (fun v=>!decide ((eD H v).1=k))∧H' D=some (.lst ys)) D ⟨⟨_,rfl⟩,same_new nD _,rfl,upd_same⟩ (fun i σ' ys H' _ h=>SqL.of (h.2.1 _ _ hL)) ?_ ?_
 ·rintro j x σ' ys H2 hx ⟨⟨z1,rfl⟩,s2,rfl,hD⟩
  have jl:=(List.getElem?_eq_some_iff.mp hx).1
  obtain⟨es,he,hv⟩:=List.mem_flatten.mp (List.mem_of_getElem? hx)
  obtain⟨t,rfl,ht,_⟩:=(en es he x hv).pt
  have ht2:=s2 _ _ (s1 _ _ ht)
  walk_at"rd"
  refine rd_ifn (fun c=>?_) (fun c=>?_)
  ·walk_at"rd"
   refine⟨hD,?_,⟨_,rfl⟩,fun b o e=>by rw[upd_ne (ne_of_none e nD)];exact s2 _ _ e,?_,upd_same⟩
   ·refine small1000 (Nat.le_trans (List.length_filter_le _ _) ?_)
    rw[List.length_take];omega
   ·rw[take_get hx,List.filter_append,List.filter_cons,if_pos (by simp[c])];rfl
  ·refine⟨⟨_,rfl⟩,s2,?_,hD⟩
   rw[take_get hx,List.filter_append,List.filter_cons,if_neg (by simp[c])]
   simp
 ·rintro σ' ys H2 ⟨⟨z1,rfl⟩,s2,rfl,hD⟩
  rw[List.take_length]at hD
  exact q D H2 (s1.free nD) hD (s1.trans s2)
theorem ok__law_open {f:Addr}{fd:FuncData}(F:Fun K "_law_open" "_law_open" s__law_open f fd) (mF:mg "_law_open" = some (.ref f)) (bF:Binds K fd ["_law_script", "_law_place"] []) (T:Bl mg)  : Cal P w K mg base "_law_open" ["_law_script", "_law_place"] 1 (sp__law_open K):=by
 refine Cal.of F mF bF sc__law_open (fun vs H Q E h=>?_) (fun cdv A outer s H vs Q E hr h=>?_)
 ·obtain⟨a,ns,pl,rfl,_⟩:=h;rfl
 obtain⟨a,ns,pl,rfl,hS,hlen,h0,h1,q⟩:=h
 have hu:=hr.units
 refine⟨_,(pss_cons (ps_setc (i:=2) sc__law_open.nd rfl rfl rfl (blkOk (sc:=defScope s__law_open) (N:=["_law_script", "_law_place", "_law_cells", "_law_at", "_law_digits"]) (vs:=["_law_cell"]) (fs:=[]) (js:=[]) (by decide +kernel) rfl rfl) (pi_list (pe_slice sl_list (pv 0) po_none (po_some pe_int))) (fun _ _ _ _=>pg_name (i:=0) (show(["_law_cell"]:List Str).Nodup by decide +kernel) rfl (Or.inl rfl)) (fun _ _ _ _=>pif0) (fun _ _ _ _=>(pe_callB call_abs1 rfl T.abs bt_abs (pa_cons (pv 0) pa_nil stx_Name))))
   (pss_cons (ps_cut (ps_if (pt_cmpR (op_eqD hu) (pv 2) (pe_lst pa_nil) (nomark _)) (pss_one (ps_set (i:=2) sc__law_open.nd rfl (Or.inl rfl) (pe_lst (pa_cons pe_int pa_nil stx_Constant)))) pss_nil))
   (pss_cons (ps_set (i:=3) sc__law_open.nd rfl (Or.inl rfl) (pe_op op_mod (pv 1) (pe_callB call_lenL rfl T.len bt_len (pa_cons (pv 2) pa_nil stx_Name))))
   (pss_cons (ps_set (i:=4) sc__law_open.nd rfl (Or.inl rfl) pe_int)
   (pss_cons (ps_cut (ps_if (PW.pt (pw_and (pt_cmpR op_ge (pe_ix ix_list (pv 2) (pv 3) (fun _ _=>rfl)) (pe_powC (c:=1000000000000000000) (by decide +kernel) ⟨by decide,by decide,by decide⟩) (nomark _)) (pw_and1 (pt_cmpR op_lt (pv 1) (pe_callB call_lenL rfl T.len bt_len (pa_cons (pv 2) pa_nil stx_Name)) (nomark _))))) (pss_one (ps_set (i:=4) sc__law_open.nd rfl (Or.inl rfl) (pe_ix ix_list (pv 2) (pv 3) (fun _ _=>rfl)))) pss_nil))
   (pss_one (ps_ret (pe_lst (pa_cons (pv 4) (pa_cons (pe_op op_add pe_int (pe_op op_mul pe_int (pv 1))) (pa_cons (pe_op op_cat (pe_slice sl_list (pv 2) (po_some (pv 3)) po_none) (pe_slice sl_list (pv 2) po_none (po_some (pv 3)))) pa_nil stx_BinOp) stx_BinOp) stx_Name))))))))),?_⟩
 rw[st__law_open]
 walk_at"rd"
 refine rd_slL hS fun p1 n1=>?_
 have hcut:cutV (ns.map V.int) none (some 63)=ns.map V.int:=by
  have:=cut_hi (ms:=ns) (k:=63)
  rw[List.take_of_length_le hlen]at this
  exact this
 rw[hcut]
 have s1:=same_new n1 (.lst (ns.map V.int))
 have hp1:(upd H p1 (.lst (ns.map V.int))) p1=some (.lst (ns.map V.int)):=upd_same
 generalize upd H p1 (.lst (ns.map V.int))=H1 at s1 hp1 ⊢
 refine⟨p1,rfl,⟨_,SqL.of hp1⟩,fun D nD=>?_⟩
 have nD0:H D=none:=s1.free nD
 have npD:p1≠D:=ne_of_none hp1 nD
 refine comp_list (xs:=ns.map V.int) (fun i σ' ys H'=>(∃x,σ'=[x])∧(∃ms:List Int,ys=ms.map V.int∧ms.length=i)∧Same H H'∧H' p1=some (.lst (ns.map V.int))∧H' D=some (.lst ys)) D ?_ (fun i σ' ys H' _ h=>SqL.of h.2.2.2.1) ?_ ?_
 ·exact⟨⟨_,rfl⟩,⟨[],rfl,rfl⟩,s1.trans (same_new nD _),by rw[upd_ne npD];exact hp1,upd_same⟩
 ·rintro i x σ' ys H' hx ⟨⟨y,rfl⟩,⟨ms,rfl,hms⟩,g1,g2,g3⟩
  have hil:i <(ns.map V.int).length:=(List.getElem?_eq_some_iff.mp hx).1
  rw[List.length_map]at hil
  obtain⟨z,rfl⟩ : ∃z,x=V.int z:=by
   rw[List.getElem?_map]at hx
   cases e:ns[i]? with
   | none=>rw[e]at hx;cases hx
   | some z=>rw[e]at hx;exact⟨z,(Option.some.inj hx).symm⟩
  walk_at"rd"
  refine⟨g3,by rw[List.length_map];exact small1000 (by omega),⟨_,rfl⟩,⟨ms ++ [_],(by rw[List.map_append];rfl),by rw[List.length_append,hms];rfl⟩,fun b o e=>?_,?_,upd_same⟩
  ·rw[upd_ne (ne_of_none e nD0)];exact g1 _ _ e
  ·rw[upd_ne npD];exact g2
 ·rintro σ' ys H' ⟨⟨y,rfl⟩,⟨ms,rfl,hms⟩,g1,g2,g3⟩
  walk_at"rd"
  refine⟨fun σ H2=>∃C ms,σ=[some (.ref a),some (.int pl),some (.ref C),none,none]∧ms ≠ []∧ms.length≤63∧H2 C=some (.lst (List.map V.int ms))∧Same H H2,?_,?_⟩
  ·walk_at"rd"
   refine⟨by decide,fun p2 n2=>?_⟩
   refine⟨.list (ms.map PyData.int),.list [],DV.lst (SqL.of (by rw[upd_ne (ne_of_none g3 n2)];exact g3)) (DVs.ints ms),DV.lst (SqL.of upd_same) .nil,shaped_ints ms,rfl,?_⟩
   have e:PyData.eqv (.list (ms.map PyData.int)) (.list [])=decide (ms=[]):=by
    have:=eqv_ints ms []
    rw[← this,PyData.eqv];rfl
   rw[e]
   have s2:=g1.trans (same_new n2 (.lst []))
   have g32:(upd H' p2 (.lst [])) D=some (.lst (ms.map V.int)):=by rw[upd_ne (ne_of_none g3 n2)];exact g3
   generalize upd H' p2 (.lst [])=H2 at s2 g32 ⊢
   walk_at"rd"
   refine rd_if (fun h=>?_) (fun h=>?_)
   ·walk_at"rd"
    refine⟨by decide,fun p3 n3=>?_⟩
    walk_at"rd"
    exact⟨p3,[0],rfl,by simp,by simp,upd_same,s2.trans (same_new n3 _)⟩
   ·walk_at"rd"
    exact⟨D,ms,rfl,h,by rw[hms,List.length_map];exact hlen,g32,s2⟩
  ·rintro σ H2 ⟨C,ms,rfl,hne,hml,hC,s2⟩
   have hnl:=len_pos hne
   obtain⟨v,hv⟩:=nsMod hne pl
   walk_at"rd"
   refine⟨fun σ H3=>H3=H2∧∃d,σ=[some (.ref a),some (.int pl),some (.ref C),some (.int (pl%((ms.map V.int).length:Int))),some (.int d)],?_,?_⟩
   ·walk_at"rd"
    refine rd_ixL (SqL.of hC) hv ?_
    walk_at"rd"
    refine rd_if (fun h=>?_) (fun h=>?_)
    ·walk_at"rd"
     refine rd_if (fun h=>?_) (fun h=>?_)
     ·walk_at"rd"
      refine rd_ixL (SqL.of hC) hv ?_
      walk_at"rd"
      exact⟨rfl,_,rfl⟩
     ·walk_at"rd"
      exact⟨rfl,_,rfl⟩
    ·walk_at"rd"
     exact⟨rfl,_,rfl⟩
   ·rintro σ H3 ⟨rfl,d,rfl⟩
    obtain⟨k,hk,hk2⟩ : ∃k:Nat,pl%((ms.map V.int).length:Int) =(k:Int)∧k<ms.length:=by
     have z0:=Int.emod_nonneg pl (show((ms.map V.int).length:Int)≠0 by omega)
     have z1:=Int.emod_lt_of_pos pl hnl
     rw[List.length_map]at z0 z1 ⊢
     exact⟨(pl%(ms.length:Int)).toNat,by omega,by omega⟩
    rw[hk]
    walk_at"rd"
    refine rd_slL (SqL.of hC) fun p4 n4=>?_
    walk_at"rd"
    have hC4:(upd H3 p4 (.lst (cutV (ms.map V.int) (some (k:Int)) none))) C=some (.lst (ms.map V.int)):=by rw[upd_ne (ne_of_none hC n4)];exact hC
    refine rd_slL (SqL.of hC4) fun p5 n5=>?_
    rw[cut_lo,cut_hi]
    rw[cut_lo]at hC4 n5
    have s4:=s2.trans (same_new n4 (.lst ((ms.drop k).map V.int)))
    have hp4:(upd H3 p4 (.lst ((ms.drop k).map V.int))) p4=some (.lst ((ms.drop k).map V.int)):=upd_same
    generalize upd H3 p4 (.lst ((ms.drop k).map V.int))=H4 at s4 hp4 hC4 n5 ⊢
    have s5:=s4.trans (same_new n5 (.lst ((ms.take k).map V.int)))
    have hp5:(upd H4 p5 (.lst ((ms.take k).map V.int))) p5=some (.lst ((ms.take k).map V.int)):=upd_same
    have hp45:(upd H4 p5 (.lst ((ms.take k).map V.int))) p4=some (.lst ((ms.drop k).map V.int)):=by rw[upd_ne (ne_of_none hp4 n5)];exact hp4
    generalize upd H4 p5 (.lst ((ms.take k).map V.int))=H5 at s5 hp5 hp45 ⊢
    refine⟨p4,p5,_,_,rfl,rfl,hp45,hp5,(by rw[List.length_map,List.length_map,List.length_drop,List.length_take];exact Nat.le_of_lt (small1000 (by omega))),fun p6 n6=>?_⟩
    walk_at"rd"
    refine⟨(by show 3≤sizeLine;decide),fun p7 n7=>?_⟩
    have s6:=s5.trans (same_new n6 (.lst ((ms.drop k).map V.int++(ms.take k).map V.int)))
    refine q p7 _ (s6.free n7) (s6.trans (same_new n7 _)) ⟨p6,d,1+1009*pl,ms.drop k++ms.take k,upd_same,?_,by omega,by omega,?_⟩
    ·rw[upd_ne (ne_of_none upd_same n7),upd_same,List.map_append]
    ·intro e
     have:=congrArg List.length e
     rw[List.length_append,List.length_drop]at this
     simp at this
     omega
theorem ok__law_draw {f:Addr}{fd:FuncData}(F:Fun K "_law_draw" "_law_draw" s__law_draw f fd) (mF:mg "_law_draw" = some (.ref f)) (bF:Binds K fd ["_law_hand", "_law_many"] []) (T:Bl mg)  : Cal P w K mg base "_law_draw" ["_law_hand", "_law_many"] 1 (sp__law_draw K):=by
 refine Cal.of F mF bF sc__law_draw (fun vs H Q E h=>?_) (fun cdv A outer s H vs Q E hr h=>?_)
 ·obtain⟨p,N,n,rfl,_⟩:=h;rfl
 obtain⟨p,N,n,rfl,hh,hN,hn,hn2,q⟩:=h
 obtain⟨l,d,c,ns,hp,hl,hc0,hcN,hns⟩:=hh.ex
 have npl:l≠p:=hand_ne hp hl
 have hnl:=len_pos hns
 refine⟨_,(pss_cons (ps_if (pt_cmpR op_gt (pe_ix ix_list (pv 0) pe_int (fun _ _=>rfl)) pe_int (nomark _)) (pss_cons (ps_set (i:=2) sc__law_draw.nd rfl (Or.inl rfl) (pe_op op_mod (pe_ix ix_list (pv 0) pe_int (fun _ _=>rfl)) (pv 1)))
   (pss_cons (ps_asg (pe_op op_fdivB (pe_ix ix_list (pv 0) pe_int (fun _ _=>rfl)) (pv 1)) (pg_sub (pv 0) pe_int set_list))
   (pss_one (ps_ret (pv 2))))) pss_nil)
   (pss_cons (ps_augS (pv 0) pe_int get_list pe_int ip_add set_list)
   (pss_cons (ps_set (i:=3) sc__law_draw.nd rfl (Or.inl rfl) (pe_ix ix_list (pv 0) pe_int (fun _ _=>rfl)))
   (pss_cons (ps_set (i:=4) sc__law_draw.nd rfl (Or.inl rfl) (pe_op op_mod (pe_op op_add (pe_op op_mod (pe_ix ix_list (pe_ix ix_list (pv 0) pe_int (fun _ _=>rfl)) (pe_op op_mod (pv 3) (pe_callB call_lenL rfl T.len bt_len (pa_cons (pe_ix ix_list (pv 0) pe_int (fun _ _=>rfl)) pa_nil stx_Subscript))) (fun _ _=>rfl)) pe_int) (pe_op op_mul pe_int (pv 3))) pe_int))
   (pss_cons (ps_set (i:=4) sc__law_draw.nd rfl (Or.inl rfl) (pe_op op_mod (pe_op op_add (pe_op op_add (pe_op op_pow (pv 4) pe_int) (pe_op op_mul (pe_op op_mul pe_int (pv 3)) (pv 3))) pe_int) pe_int))
   (pss_cons (ps_set (i:=4) sc__law_draw.nd rfl (Or.inl rfl) (pe_op op_mod (pe_op op_add (pe_op op_mul (pe_op op_pow (pv 4) pe_int) (pe_op op_add (pe_op op_mul pe_int (pv 3)) pe_int)) pe_int) pe_int))
   (pss_one (ps_ret (pe_op op_mod (pe_op op_fdivB (pe_op op_mod (pe_op op_mul (pv 4) pe_int) pe_int) pe_int) (pv 1)))))))))),?_⟩
 rw[st__law_draw]
 walk_at"rd"
 refine rd_if (fun h=>?_) (fun h=>?_)
 ·walk_at"rd"
  refine q _ _ (Int.emod_nonneg _ (by omega)) (Int.emod_lt_of_pos _ hn) ⟨l,d / n,c,ns,upd_same,?_,hc0,by omega,hns⟩ (Kp.hand hp)
  rw[upd_ne npl];exact hl
 ·walk_at"rd"
  have hp1:(upd H p (.lst [V.int d,.int (c+1),.ref l])) p=some (.lst [.int d,.int (c+1),.ref l]):=upd_same
  have hl1:(upd H p (.lst [V.int d,.int (c+1),.ref l])) l=some (.lst (ns.map V.int)):=by rw[upd_ne npl];exact hl
  have k1:Kp H (upd H p (.lst [V.int d,.int (c+1),.ref l])) p:=Kp.hand hp
  generalize upd H p (.lst [V.int d,.int (c+1),.ref l])=H1 at hp1 hl1 k1 ⊢
  walk_at"rd"
  obtain⟨v,hv⟩:=nsMod hns (c+1)
  refine rd_ixL (SqL.of hl1) hv ?_
  walk_at"rd"
  have hn0:n≠0:=by omega
  exact q _ _ (Int.emod_nonneg _ hn0) (Int.emod_lt_of_pos _ hn) ⟨l,d,c+1,ns,hp1,hl1,by omega,by omega,hns⟩ k1
theorem ok__law_far {f:Addr}{fd:FuncData}(F:Fun K "_law_far" "_law_far" s__law_far f fd) (mF:mg "_law_far" = some (.ref f)) (bF:Binds K fd ["_law_hand", "_law_many"] []) (T:Bl mg) (C__law_draw:Cal P w K mg base "_law_draw" ["_law_hand", "_law_many"] 1 (sp__law_draw K)):Cal P w K mg base "_law_far" ["_law_hand", "_law_many"] 2 (sp__law_far K):=by
 refine Cal.of F mF bF sc__law_far (fun vs H Q E h=>?_) (fun cdv A outer s H vs Q E hr h=>?_)
 ·obtain⟨p,N,n,rfl,_⟩:=h;rfl
 obtain⟨p,N,n,rfl,hh,hN,hn,hn2,q⟩:=h
 obtain⟨l,d,c,ns,hp,hl,hc0,hcN,hns⟩:=hh.ex
 refine⟨_,(pss_cons (ps_if (pt_cmpR op_gt (pe_ix ix_list (pv 0) pe_int (fun _ _=>rfl)) pe_int (nomark _)) (pss_one (ps_ret (pcl C__law_draw (hr.mono (by decide)) (pa_cons (pv 0) (pa_cons (pv 1) pa_nil stx_Name) stx_Name)))) pss_nil)
   (pss_cons (ps_set (i:=2) sc__law_far.nd rfl (Or.inl rfl) pe_int)
   (pss_cons (ps_for PassesOwn.never rfl (pi_range1 rfl T.range (pa_cons pe_int pa_nil stx_Constant)) (pg_name (i:=3) sc__law_far.nd rfl (Or.inl rfl)) (pss_one (ps_set (i:=2) sc__law_far.nd rfl (Or.inl rfl) (pe_op op_add (pe_op op_mul (pv 2) (pe_powC (c:=1000000) (by decide +kernel) ⟨by decide,by decide,by decide⟩)) (pcl C__law_draw (hr.mono (by decide)) (pa_cons (pv 0) (pa_cons (pe_powC (c:=1000000) (by decide +kernel) ⟨by decide,by decide,by decide⟩) pa_nil stx_BinOp) stx_Name))))))
   (pss_one (ps_ret (pe_op op_mod (pv 2) (pv 1))))))),?_⟩
 rw[st__law_far]
 walk_at"rd"
 refine rd_if (fun h=>?_) (fun h=>?_)
 ·walk_at"rd"
  exact⟨p,N,n,rfl,hh,by omega,hn,hn2,fun r H' h0 h1 h2 h3=>q r H' h0 h1 (h2.mono (by omega)) h3⟩
 ·walk_at"rd"
  refine⟨7,rfl,by omega,by omega,?_⟩
  refine for_rangeO (n:=7) (fun i σ H'=>(∃v x,σ=[some (.ref p),some (.int n),some (.int v),x])∧Hand H' p (N+i)∧Kp H H' p∧i≤7) ⟨⟨_,_,rfl⟩,hh,Kp.refl _ _,by omega⟩ ?_ ?_
  ·rintro i σ H' hi ⟨⟨v,x,rfl⟩,h1,h2,h3⟩
   walk_at"rd"
   exact⟨p,N+i,_,rfl,h1,by omega,by decide,by decide,fun r H2 h0 h4 h5 h6=>by
    walk_at"rd"
    exact⟨⟨_,_,rfl⟩,h5,h2.trans h6,by omega⟩⟩
  ·rintro σ H' ⟨⟨v,x,rfl⟩,h1,h2,h3⟩
   walk_at"rd"
   exact q _ _ (Int.emod_nonneg _ (by omega)) (Int.emod_lt_of_pos _ hn) h1 h2
theorem ok__law_power {f:Addr}{fd:FuncData}(F:Fun K "_law_power" "_law_power" s__law_power f fd) (mF:mg "_law_power" = some (.ref f)) (bF:Binds K fd ["_law_many"] []) (T:Bl mg)  : Cal P w K mg base "_law_power" ["_law_many"] 1 (sp__law_power K):=by
 refine Cal.of F mF bF sc__law_power (fun vs H Q E h=>?_) (fun cdv A outer s H vs Q E hr h=>?_)
 ·obtain⟨m,rfl,_⟩:=h;rfl
 obtain⟨m,rfl,hm,q⟩:=h
 refine⟨_,(pss_cons (ps_set (i:=1) sc__law_power.nd rfl (Or.inl rfl) pe_int)
   (pss_cons (ps_for PassesOwn.never rfl (pi_range1 rfl T.range (pa_cons (pv 0) pa_nil stx_Name)) (pg_name (i:=2) sc__law_power.nd rfl (Or.inl rfl)) (pss_one (ps_set (i:=1) sc__law_power.nd rfl (Or.inl rfl) (pe_op op_mul (pv 1) pe_int))))
   (pss_one (ps_ret (pv 1))))),?_⟩
 rw[st__law_power]
 walk_at"rd"
 refine⟨(m:Int),rfl,by omega,by omega,?_⟩
 rw[show((m:Int)).toNat=m from by omega]
 refine for_rangeO (n:=m) (fun i σ H'=>(∃x,σ=[some (.int m),some (.int (2^i)),x])∧H'=H) ⟨⟨_,rfl⟩,rfl⟩ ?_ ?_
 ·rintro i σ H' hi ⟨⟨x,rfl⟩,rfl⟩
  walk_at"rd"
  exact⟨⟨_,by rw[Int.pow_succ]⟩,rfl⟩
 ·rintro σ H' ⟨⟨x,rfl⟩,rfl⟩
  walk_at"rd"
  exact q
theorem ok__law_key {f:Addr}{fd:FuncData}(F:Fun K "_law_key" "_law_key" s__law_key f fd) (mF:mg "_law_key" = some (.ref f)) (bF:Binds K fd ["_law_hand"] []) (T:Bl mg) (C__law_draw:Cal P w K mg base "_law_draw" ["_law_hand", "_law_many"] 1 (sp__law_draw K)) (C__law_far:Cal P w K mg base "_law_far" ["_law_hand", "_law_many"] 2 (sp__law_far K)) (C__law_power:Cal P w K mg base "_law_power" ["_law_many"] 1 (sp__law_power K)):Cal P w K mg base "_law_key" ["_law_hand"] 3 (sp__law_key K):=by
 refine Cal.of F mF bF sc__law_key (fun vs H Q E h=>?_) (fun cdv A outer s H vs Q E hr h=>?_)
 ·obtain⟨p,N,rfl,_⟩:=h;rfl
 obtain⟨p,N,rfl,hh,hN,q⟩:=h
 refine⟨_,(pss_cons (ps_set (i:=1) sc__law_key.nd rfl (Or.inl rfl) (pcl C__law_draw (hr.mono (by decide)) (pa_cons (pv 0) (pa_cons pe_int pa_nil stx_Constant) stx_Name)))
   (pss_cons (ps_set (i:=2) sc__law_key.nd rfl (Or.inl rfl) (pcl C__law_draw (hr.mono (by decide)) (pa_cons (pv 0) (pa_cons (pe_ix ix_list (pe_lst (pa_cons pe_int (pa_cons pe_int (pa_cons pe_int pa_nil stx_Constant) stx_Constant) stx_Constant)) (pcl C__law_draw (hr.mono (by decide)) (pa_cons (pv 0) (pa_cons pe_int pa_nil stx_Constant) stx_Name)) (fun _ _=>rfl)) pa_nil stx_Subscript) stx_Name)))
   (pss_cons (ps_if (pt_cmpR op_lt (pv 1) pe_int (nomark _)) (pss_one (ps_ret (pv 2))) pss_nil)
   (pss_cons (ps_if (pt_cmpR op_eq (pv 1) pe_int (nomark _)) (pss_one (ps_ret (pe_op op_sub (pe_op op_sub (pe_powC (c:=1152921504606846976) (by decide +kernel) ⟨by decide,by decide,by decide⟩) pe_int) (pv 2)))) pss_nil)
   (pss_cons (ps_if (pt_cmpR op_eq (pv 1) pe_int (nomark _)) (pss_one (ps_ret (pe_op op_add (pv 2) (pcl C__law_power (hr.mono (by decide)) (pa_cons (pe_op op_add pe_int (pcl C__law_draw (hr.mono (by decide)) (pa_cons (pv 0) (pa_cons pe_int pa_nil stx_Constant) stx_Name))) pa_nil stx_BinOp))))) pss_nil)
   (pss_cons (ps_if (pt_cmpR op_eq (pv 1) pe_int (nomark _)) (pss_one (ps_ret (pe_op op_add (pe_op op_mod (pv 2) pe_int) (pe_op op_mul pe_int (pcl C__law_far (hr.mono (by decide)) (pa_cons (pv 0) (pa_cons (pe_powC (c:=72057594037927936) (by decide +kernel) ⟨by decide,by decide,by decide⟩) pa_nil stx_BinOp) stx_Name)))))) pss_nil)
   (pss_one (ps_ret (pcl C__law_far (hr.mono (by decide)) (pa_cons (pv 0) (pa_cons (pe_powC (c:=1152921504606846976) (by decide +kernel) ⟨by decide,by decide,by decide⟩) pa_nil stx_BinOp) stx_Name)))))))))),?_⟩
 rw[st__law_key]
 walk_at"rd"
 refine⟨p,N,7,rfl,hh,by omega,by decide,by decide,fun way H1 w0 w1 hh1 k1=>?_⟩
 walk_at"rd"
 refine⟨(by show 3≤sizeLine;decide),fun l nl=>?_⟩
 walk_at"rd"
 have k2:=k1.trans (Kp.of (same_new nl (.lst [V.int 4,V.int 16,V.int 200])) hh1)
 have hh2:=hh1.same (same_new nl (.lst [V.int 4,V.int 16,V.int 200]))
 have hl:(upd H1 l (.lst [V.int 4,V.int 16,V.int 200])) l=some (.lst [V.int 4,V.int 16,V.int 200]):=upd_same
 have nlp:l≠p:=by
  obtain⟨l1,d,c,ns,h1,_⟩:=hh1.ex
  exact(ne_of_none h1 nl).symm
 generalize upd H1 l (.lst [V.int 4,V.int 16,V.int 200])=H2 at k2 hh2 hl ⊢
 refine⟨p,N+1,3,rfl,hh2,by omega,by decide,by decide,fun r H3 r0 r1 hh3 k3=>?_⟩
 have hl3:=k3.1 _ _ hl nlp
 obtain⟨b,hb,b0,b1⟩ : ∃b:Int,atI [V.int 4,V.int 16,V.int 200] r=some (.int b)∧0<b∧b≤200:=by
  have:r=0∨r=1∨r=2:=by omega
  rcases this with rfl|rfl|rfl
  ·exact⟨4,rfl,by decide,by decide⟩
  ·exact⟨16,rfl,by decide,by decide⟩
  ·exact⟨200,rfl,by decide,by decide⟩
 refine rd_ixL (SqL.of hl3) hb ?_
 walk_at"rd"
 refine⟨p,N+1+1,b,rfl,hh3,by omega,b0,by omega,fun low H4 l0 l1 hh4 k4=>?_⟩
 have k5:=(k2.trans k3).trans k4
 walk_at"rd"
 refine rd_if (fun c1=>?_) (fun c1=>?_)
 ·walk_at"rd"
  exact q _ _ l0 (by omega) (hh4.mono (by omega)) k5
 walk_at"rd"
 refine rd_if (fun c2=>?_) (fun c2=>?_)
 ·walk_at"rd"
  exact q _ _ (by omega) (by omega) (hh4.mono (by omega)) k5
 walk_at"rd"
 refine rd_if (fun c3=>?_) (fun c3=>?_)
 ·walk_at"rd"
  refine⟨p,N+1+1+1,52,rfl,hh4,by omega,by decide,by decide,fun e H5 e0 e1 hh5 k6=>?_⟩
  walk_at"rd"
  obtain⟨m,rfl⟩ : ∃m:Nat,e =(m:Int):=⟨e.toNat,by omega⟩
  refine⟨8+m,(by show [V.int (8+(m:Int))]=[V.int ((8+m:Nat):Int)];rw[show(8+(m:Int)) =((8+m:Nat):Int) by omega]),by omega,?_⟩
  walk_at"rd"
  have h1:(2:Int)^(8+m)≤2^59:=pow2_le (by omega)
  have h2:(0:Int)<2^(8+m):=Int.pow_pos (by decide)
  have h3:(2:Int)^59=576460752303423488:=by decide
  exact q _ _ (by omega) (by omega) (hh5.mono (by omega)) (k5.trans k6)
 walk_at"rd"
 refine rd_if (fun c4=>?_) (fun c4=>?_)
 ·walk_at"rd"
  refine⟨p,N+1+1+1,_,rfl,hh4,by omega,by decide,by decide,fun e H5 e0 e1 hh5 k6=>?_⟩
  walk_at"rd"
  exact q _ _ (by omega) (by omega) (hh5.mono (by omega)) (k5.trans k6)
 ·walk_at"rd"
  exact⟨p,N+1+1+1,_,rfl,hh4,by omega,by decide,by decide,fun e H5 e0 e1 hh5 k6=>q _ _ e0 e1 (hh5.mono (by omega)) (k5.trans k6)⟩
theorem ok__law_thing {f:Addr} {fd:FuncData} (F:Fun K "_law_thing" "_law_thing" s__law_thing f fd) (mF:mg "_law_thing" = some (.ref f)) (bF:Binds K fd ["_law_hand"] []) (T:Bl mg) (C__law_draw:Cal P w K mg base "_law_draw" ["_law_hand", "_law_many"] 1 (sp__law_draw K)) : Cal P w K mg base "_law_thing" ["_law_hand"] 2 (sp__law_thing K):=by
  refine Cal.of F mF bF sc__law_thing (fun vs H Q E h=>?_) (fun cdv A outer s H vs Q E hr h=>?_)
  · obtain ⟨p,N,rfl,_⟩:=h; rfl
  obtain ⟨p,N,rfl,hh,hN,q⟩:=h
  refine ⟨_,(pss_cons (ps_set (i:=1) sc__law_thing.nd rfl (Or.inr rfl) pe_str)
      (pss_one (ps_ret (pe_bm PySem.F.plainAttrs_str PySem.F.slot_str_join PySem.F.type_str_join mt_join pe_str (pa_cons (pe_comp rfl (blkOk (sc:=defScope s__law_thing) (N:=["_law_hand", "_law_letters"]) (vs:=["_law_k"]) (fs:=["_law_letters", "_law_hand"]) (js:=[1,0]) (by decide +kernel) rfl rfl) (pi_range1 rfl T.range (pa_cons (pe_op op_add pe_int (pcl C__law_draw (hr.mono (by decide)) (pa_cons (pv 0) (pa_cons pe_int pa_nil stx_Constant) stx_Name))) pa_nil stx_BinOp)) (fun _ _ _ _=>pg_name (i:=0) (show (["_law_k", "_law_letters", "_law_hand"] : List Str).Nodup by decide +kernel) rfl (Or.inl rfl)) (fun _ _ _ _=>pif0) (fun _ _ _ _=>(pe_ix ix_str (pv 1) (pcl C__law_draw (hr.mono (by decide)) (pa_cons (pv 2) (pa_cons pe_int pa_nil stx_Constant) stx_Name)) (fun _ _=>rfl)))) pa_nil stx_ListComp))))),?_⟩
  rw [st__law_thing]
  walk_at"rd"
  refine ⟨rfl,?_⟩
  walk_at"rd"
  refine ⟨p,_,8,rfl,hh,by omega,by decide,by decide,fun n H1 n0 n1 hh1 k1=>?_⟩
  walk_at"rd"
  refine ⟨_,rfl,by omega,by omega,fun D nD=>?_⟩
  refine comp_range (n:=(1 + n).toNat) (fun j σ' ys H'=>(∃ x,σ' = [x,some (.str (Str.ofString "abcdefghijklmnopqrstuvwxyz")),some (.ref p)])∧(∃ zs:List Str,ys = zs.map V.str∧zs.length = j∧∀ y ∈ zs,y.length = 1∧∀ c ∈ y.cps,c < 128)∧j ≤ 8∧CK H1 p D (N + 1 + j) ys H') D ⟨⟨_,rfl⟩,⟨[],rfl,rfl,fun _ h=>(by cases h)⟩,by omega,CK.start hh1 nD⟩ ?_ ?_
  · rintro j σ' ys H2 hj ⟨⟨x,rfl⟩,⟨zs,rfl,zl,zc⟩,j8,ck⟩
    walk_at"rd"
    refine ⟨p,_,26,rfl,ck.hh,by omega,by decide,by decide,fun v H3 v0 v1 hh3 k3=>?_⟩
    have ck:=ck.draw k3 hh3
    obtain ⟨c,hc,c1⟩:=let26 v0 v1
    refine rd_ixS (by decide +kernel) hc ?_
    refine ⟨ck.lat,by rw [List.length_map]; exact small1000 (by omega),⟨_,rfl⟩,⟨zs ++ [⟨#[c]⟩],by rw [List.map_append]; rfl,by rw [List.length_append,zl]; rfl,fun y hy=>?_⟩,by omega,ck.push⟩
    rcases List.mem_append.mp hy with h | h
    · exact zc y h
    · have e:y = ⟨#[c]⟩:=by simpa using h
      subst e
      exact ⟨rfl, fun d hd => by have : d = c := by simpa using hd
                                 omega⟩
  · rintro σ' ys H2 ⟨⟨x,rfl⟩,⟨zs,rfl,zl,zc⟩,j8,ck⟩
    walk_at"rd"
    refine ⟨_,D,zs,rfl,rfl,SqL.of ck.lat,?_,?_⟩
    · rw [sum_ones zs zc,show (Str.ofString "").length = 0 by decide]; omega
    obtain ⟨w1,w2⟩:=join_low zs zc
    rw [joinT]
    exact q _ _ (strOk_low w2) (by rw [w1]; omega) (ck.hh.mono (by omega)) (k1.trans ck.kp)
theorem ok__law_keys {f:Addr}{fd:FuncData}(F:Fun K "_law_keys" "_law_keys" s__law_keys f fd) (mF:mg "_law_keys" = some (.ref f)) (bF:Binds K fd ["_law_hand", "_law_many"] []) (T:Bl mg) (C__law_key:Cal P w K mg base "_law_key" ["_law_hand"] 3 (sp__law_key K)):Cal P w K mg base "_law_keys" ["_law_hand", "_law_many"] 4 (sp__law_keys K):=by
 refine Cal.of F mF bF sc__law_keys (fun vs H Q E h=>?_) (fun cdv A outer s H vs Q E hr h=>?_)
 ·obtain⟨p,N,n,rfl,_⟩:=h;rfl
 obtain⟨p,N,n,rfl,hh,hN,n0,n1,q⟩:=h
 have e60:(2:Int)^60=1152921504606846976:=by decide
 refine⟨_,(pss_cons (ps_set (i:=2) sc__law_keys.nd rfl (Or.inl rfl) (pe_lst pa_nil))
   (pss_cons (ps_for PassesOwn.never rfl (pi_range1 rfl T.range (pa_cons (pv 1) pa_nil stx_Name)) (pg_name (i:=3) sc__law_keys.nd rfl (Or.inl rfl)) (pss_cons (ps_set (i:=4) sc__law_keys.nd rfl (Or.inl rfl) (pcl C__law_key (hr.mono (by decide)) (pa_cons (pv 0) pa_nil stx_Name)))
   (pss_cons (ps_while PassesOwn.never (pt_cmpR op_in_seq (pv 4) (pv 2) (by with_unfolding_all rfl)) (pss_one (ps_set (i:=4) sc__law_keys.nd rfl (Or.inl rfl) (pe_op op_mod (pe_op op_add (pv 4) pe_int) (pe_powC (c:=1152921504606846976) (by decide +kernel) ⟨by decide,by decide,by decide⟩)))))
   (pss_one (ps_expr (pe_bm PySem.F.plainAttrs_list PySem.F.slot_list_append PySem.F.type_list_append mt_append (pv 2) (pa_cons (pv 4) pa_nil stx_Name)))))))
   (pss_one (ps_ret (pv 2))))),?_⟩
 rw[st__law_keys]
 walk_at"rd"
 refine⟨by decide,fun D nD=>?_⟩
 have ck:=CK.start (ys:=[]) hh nD
 generalize upd H D _=H1 at ck ⊢
 walk_at"rd"
 refine⟨n,rfl,by omega,by omega,?_⟩
 refine for_rangeO (n:=n.toNat) (fun i σ H'=>(∃x1 x2,σ=[some (.ref p),some (.int n),some (.ref D),x1,x2])∧∃ns:List Int,ns.Nodup∧(∀k∈ns,0≤k∧k<1152921504606846976)∧ns.length=i∧CK H p D (N+20*i) (ns.map V.int) H') ⟨⟨_,_,rfl⟩,[],List.nodup_nil,by simp,rfl,ck⟩ ?_ ?_
 ·rintro i σ H2 hi ⟨⟨x1,x2,rfl⟩,ns,nd,bd,len,ck⟩
  walk_at"rd"
  refine⟨p,_,rfl,ck.hh,by omega,fun v H3 v0 v1 hh3 k3=>?_⟩
  have ck:=ck.draw k3 hh3
  have hD:=ck.lat
  walk_at"rd"
  obtain⟨m0,hm0⟩:=free_key (ks:=ns) (by omega) v
  refine⟨fun m σ H'=>H'=H3∧∃v,σ=[some (.ref p),some (.int n),some (.ref D),some (.int (0+i)),some (.int v)]∧0≤v∧v<1152921504606846976∧(v+m)%1152921504606846976∉ns,⟨m0,rfl,v,rfl,v0,by omega,hm0⟩,?_⟩
  rintro m σ H' ⟨rfl,v,rfl,u0,u1,hm⟩
  walk_at"rd"
  refine rd_inI (SqL.of hD) ?_
  walk_at"rd"
  refine rd_if (fun c=>?_) (fun c=>?_)
  ·refine⟨_,fun σ' H'' h=>h,?_⟩
   walk_at"rd"
   have hm1:m≠0:=fun e=>by
    subst e
    rw[show((0:Nat):Int)=0 from rfl,Int.add_zero,Int.emod_eq_of_lt u0 u1]at hm
    exact hm c
   refine⟨m-1,by omega,rfl,(v+1)%1152921504606846976,rfl,by omega,by omega,?_⟩
   have e:((v+1)%1152921504606846976+((m-1:Nat):Int))%1152921504606846976 =(v+m)%1152921504606846976:=by omega
   rw[e];exact hm
  ·walk_at"rd"
   refine⟨.inl ⟨rfl,_,SqL.of hD⟩,?_⟩
   walk_at"rd"
   refine⟨D,_,_,rfl,rfl,hD,by rw[List.length_map];exact small1000 (by omega),?_⟩
   walk_at"rd"
   refine⟨⟨_,_,rfl⟩,ns ++ [v],?_,fun k hk=>?_,by rw[List.length_append,len];rfl,?_⟩
   ·rw[List.nodup_append]
    exact⟨nd,by simp,fun a ha b hb e=>by simp at hb;rw[hb]at e;exact c (e ▸ ha)⟩
   ·rcases List.mem_append.mp hk with z|z
    ·exact bd k z
    ·simp at z;rw[z];exact⟨u0,u1⟩
   ·rw[List.map_append]
    exact ck.push
 ·rintro σ H2 ⟨⟨x1,x2,rfl⟩,ns,nd,bd,len,ck⟩
  walk_at"rd"
  exact q D ns _ nD ck.lat nd (by omega) bd (ck.hh.mono (by omega)) ck.kp
theorem ok__law_whole {f:Addr}{fd:FuncData}(F:Fun K "_law_whole" "_law_whole" s__law_whole f fd) (mF:mg "_law_whole" = some (.ref f)) (bF:Binds K fd ["_law_got"] []) (T:Bl mg)  : Cal P w K mg base "_law_whole" ["_law_got"] 1 (sp__law_whole K):=by
 refine Cal.of F mF bF sc__law_whole (fun vs H Q E h=>?_) (fun cdv A outer s H vs Q E hr h=>?_)
 ·obtain⟨n,rfl,_⟩:=h;rfl
 obtain⟨n,rfl,q⟩:=h
 refine⟨_,(pss_one (ps_ret (pe_and (pe_callB call_isinst rfl T.isinstance bt_isinstance (pa_cons (pv 0) (pa_cons (pe_bltn (v:=.ty "int") rfl T.int bt_int rfl) pa_nil stx_Name) stx_Name)) (pe_one (pe_not (pe_callB call_isinst rfl T.isinstance bt_isinstance (pa_cons (pv 0) (pa_cons (pe_bltn (v:=.ty "bool") rfl T.bool bt_bool rfl) pa_nil stx_Name) stx_Name))))))),?_⟩
 rw[st__law_whole]
 walk_at"rd"
 refine rd_isi (.int n) (b:=true) rfl ?_
 walk_at"rd"
 refine rd_isi (.int n) (b:=false) rfl ?_
 walk_at"rd"
 exact q
theorem ok__law_top {f:Addr}{fd:FuncData}(F:Fun K "_law_top" "_law_top" s__law_top f fd) (mF:mg "_law_top" = some (.ref f)) (bF:Binds K fd ["_law_rooms"] []) (T:Bl mg)  : Cal P w K mg base "_law_top" ["_law_rooms"] 1 (sp__law_top K):=by
 refine Cal.of F mF bF sc__law_top (fun vs H Q E h=>?_) (fun cdv A outer s H vs Q E hr h=>?_)
 ·obtain⟨R,rfl,_⟩:=h;rfl
 obtain⟨R,rfl,h1,h2,q⟩:=h
 have gl:=lg_le h1
 have gt:=lg_lt h1
 refine⟨_,(pss_cons (ps_set (i:=1) sc__law_top.nd rfl (Or.inl rfl) pe_int)
   (pss_cons (ps_while PassesOwn.never (pt_cmpR op_le (pe_op op_mul (pv 1) pe_int) (pv 0) (nomark _)) (pss_one (ps_set (i:=1) sc__law_top.nd rfl (Or.inl rfl) (pe_op op_mul (pv 1) pe_int))))
   (pss_one (ps_ret (pv 1))))),?_⟩
 rw[st__law_top]
 walk_at"rd"
 refine⟨fun m σ H'=>H'=H∧∃j:Nat,σ=[some (.int R),some (.int (2^j))]∧j≤lg R∧m=lg R-j,⟨lg R,rfl,0,rfl,by omega,by omega⟩,?_⟩
 rintro m σ H' ⟨rfl,j,rfl,hj,rfl⟩
 have pj:=pow2_pos j
 have pl:=pow2_le hj
 have ep:(2:Int)^(j+1)=2^j*2:=Int.pow_succ 2 j
 walk_at"rd"
 refine rd_if (fun c=>?_) (fun c=>?_)
 ·refine⟨_,fun σ' H'' h=>h,?_⟩
  walk_at"rd"
  have:j<lg R:=by
   by_cases z:j<lg R
   ·exact z
   ·have e:j=lg R:=by omega
    rw[Int.pow_succ,← e]at gt
    omega
  exact⟨lg R-(j+1),by omega,rfl,j+1,by rw[ep],by omega,rfl⟩
 ·walk_at"rd"
  have e:j=lg R:=by
   by_cases z:j<lg R
   ·have:=pow2_le (show j+1≤lg R by omega)
    omega
   ·omega
  rw[e];exact q
theorem ok__law_room {f:Addr}{fd:FuncData}(F:Fun K "_law_room" "_law_room" s__law_room f fd) (mF:mg "_law_room" = some (.ref f)) (bF:Binds K fd ["_law_key_here", "_law_rooms"] []) (T:Bl mg)  : Cal P w K mg base "_law_room" ["_law_key_here", "_law_rooms"] 1 (sp__law_room K):=by
 refine Cal.of F mF bF sc__law_room (fun vs H Q E h=>?_) (fun cdv A outer s H vs Q E hr h=>?_)
 ·obtain⟨k,R,rfl,_⟩:=h;rfl
 obtain⟨k,R,rfl,k0,k1,h1,h2,q⟩:=h
 have hl:=lg_60 h1 h2
 have gl:=lg_le h1
 have gt:=lg_lt h1
 refine⟨_,(pss_cons (ps_set (i:=2) sc__law_room.nd rfl (Or.inl rfl) pe_int)
   (pss_cons (ps_set (i:=3) sc__law_room.nd rfl (Or.inl rfl) pe_int)
   (pss_cons (ps_while PassesOwn.never (PW.pt (pw_and (pt_cmpR op_gt (pv 0) pe_int (nomark _)) (pw_and1 (pt_cmpR op_lt (pv 3) (pv 1) (nomark _))))) (pss_cons (ps_cut (ps_if (PW.pt (pw_and (pt_cmpR op_eq (pe_op op_mod (pv 0) pe_int) pe_int (nomark _)) (pw_and1 (pt_cmpR op_lt (pe_op op_add (pv 2) (pv 3)) (pv 1) (nomark _))))) (pss_one (ps_set (i:=2) sc__law_room.nd rfl (Or.inl rfl) (pe_op op_add (pv 2) (pv 3)))) pss_nil))
   (pss_cons (ps_set (i:=0) sc__law_room.nd rfl (Or.inl rfl) (pe_op op_fdivB (pv 0) pe_int))
   (pss_one (ps_set (i:=3) sc__law_room.nd rfl (Or.inl rfl) (pe_op op_mul (pv 3) pe_int))))))
   (pss_one (ps_ret (pv 2)))))),?_⟩
 rw[st__law_room]
 walk_at"rd"
 refine⟨fun m σ H'=>H'=H∧((∃j:Nat,σ=[some (.int (k / 2^j)),some (.int R),some (.int (k%2^j)),some (.int (2^j))]∧j≤lg R∧m=lg R+1-j) ∨(σ=[some (.int (k / 2^(lg R+1))),some (.int R),some (.int (roomV k R)),some (.int (2^(lg R+1)))]∧m=0)),⟨lg R+1,rfl,.inl ⟨0,by simp,by omega,by omega⟩⟩,?_⟩
 rintro m σ H' ⟨rfl,⟨j,rfl,hj,rfl⟩|⟨rfl,rfl⟩⟩
 ·have pj:=pow2_pos j
  have pl:=pow2_le hj
  have lo1:=Int.emod_nonneg k (b:=2^j) (by omega)
  have lo2:=Int.emod_lt_of_pos k pj
  walk_at"rd"
  refine rd_if (fun c=>?_) (fun c=>?_)
  ·walk_at"rd"
   refine rd_if (fun c2=>?_) (fun c2=>?_)
   ·refine⟨_,fun σ' H'' h=>h,?_⟩
    have hp:=roomV_pow (k:=k) (j:=j)
    have hpl:=roomV_pow (k:=k) (j:=lg R)
    have ep:(2:Int)^(j+1)=2^j*2:=Int.pow_succ 2 j
    have small:j<lg R→(2:Int)^(j+1)≤2^lg R:=fun h=>pow2_le h
    have fin:∀v:Int,v =(if j=lg R then roomV k R else k%2^(j+1))→∃m',m'<lg R+1-j∧(H'=H'∧((∃j':Nat,[some (V.int (k / 2^j / 2)),some (V.int R),some (V.int v),some (V.int (2^j*2))]=[some (.int (k / 2^j')),some (.int R),some (.int (k%2^j')),some (.int (2^j'))]∧j'≤lg R∧m'=lg R+1-j') ∨([some (V.int (k / 2^j / 2)),some (V.int R),some (V.int v),some (V.int (2^j*2))]=[some (.int (k / 2^(lg R+1))),some (.int R),some (.int (roomV k R)),some (.int (2^(lg R+1)))]∧m'=0))):=fun v hv=>by
     have ed:k / 2^j / 2=k / 2^(j+1):=by rw[ep];exact Int.ediv_ediv_of_nonneg (show(0:Int)≤2^j by omega)
     rw[ed,← ep,hv]
     by_cases z:j=lg R
     ·rw[if_pos z]
      exact⟨0,by omega,rfl,.inr ⟨by rw[z],rfl⟩⟩
     ·rw[if_neg z]
      exact⟨lg R+1-(j+1),by omega,rfl,.inl ⟨j+1,rfl,by omega,rfl⟩⟩
    walk_at"rd"
    refine⟨fun σ' H''=>H''=H'∧σ'=[some (.int (k / 2^j)),some (.int R),some (.int (if j=lg R then roomV k R else k%2^(j+1))),some (.int (2^j))],?_,?_⟩
    ·walk_at"rd"
     refine rd_if (fun b1=>?_) (fun b1=>?_)
     ·rw[b1,Int.mul_one]at hp
      walk_at"rd"
      refine rd_if (fun b2=>?_) (fun b2=>?_)
      ·walk_at"rd"
       refine⟨rfl,?_⟩
       have ev:k%2^j+2^j =(if j=lg R then roomV k R else k%2^(j+1)):=by
        split
        ·rename_i z
         unfold roomV
         rw[if_neg (by rw[← z];omega),← z,hp]
        ·exact hp.symm
       rw[ev]
      ·walk_at"rd"
       refine⟨rfl,?_⟩
       have z:j=lg R:=by
        by_cases z:j=lg R
        ·exact z
        ·have:=small (by omega)
         omega
       have ev:k%2^j =(if j=lg R then roomV k R else k%2^(j+1)):=by
        rw[if_pos z]
        unfold roomV
        rw[if_pos (by rw[← z];omega),← z]
       rw[← ev]
     ·have b0:k / 2^j%2=0:=by omega
      rw[b0,Int.mul_zero,Int.add_zero]at hp
      walk_at"rd"
      refine⟨rfl,?_⟩
      have ev:k%2^j =(if j=lg R then roomV k R else k%2^(j+1)):=by
       split
       ·rename_i z
        unfold roomV
        split
        ·rw[z]
        ·rw[← z,hp]
       ·exact hp.symm
      rw[← ev]
    ·rintro σ' H'' ⟨rfl,rfl⟩
     walk_at"rd"
     exact fin _ rfl
   ·walk_at"rd"
    have z:j=lg R:=by
     by_cases z:j=lg R
     ·exact z
     ·have m:=pow2_le (show j+1≤lg R by omega)
      rw[Int.pow_succ]at m
      omega
    unfold roomV at q
    rw[if_pos (by rw[← z];omega),← z]at q
    exact q
  ·walk_at"rd"
   have e1:=low_of (i:=j) (j:=j) k0 (by omega) (Nat.le_refl _)
   have e2:=low_of (i:=lg R) (j:=j) k0 (by omega) hj
   have e3:=low_of (i:=lg R+1) (j:=j) k0 (by omega) (by omega)
   unfold roomV at q
   rw[e2,e3]at q
   rw[e1]
   split at q <;> exact q
 ·walk_at"rd"
  refine rd_if (fun c=>?_) (fun c=>?_)
  ·walk_at"rd"
   refine rd_if (fun c2=>absurd c2 (by omega)) (fun c2=>?_)
   walk_at"rd"
   exact q
  ·walk_at"rd"
   exact q
theorem ok__law_cut {f:Addr}{fd:FuncData}(F:Fun K "_law_cut" "_law_cut" s__law_cut f fd) (mF:mg "_law_cut" = some (.ref f)) (bF:Binds K fd ["_law_wide", "_law_entries"] []) (T:Bl mg)  : Cal P w K mg base "_law_cut" ["_law_wide", "_law_entries"] 1 (sp__law_cut K):=by
 refine Cal.of F mF bF sc__law_cut (fun vs H Q E h=>?_) (fun cdv A outer s H vs Q E hr h=>?_)
 ·obtain⟨w,a,ts,es,rfl,_⟩:=h;rfl
 obtain⟨w,a,ts,es,rfl,ha,el,nd,esl,w1,w2,q⟩:=h
 have tl:=el.1
 have er:=el.row
 refine⟨_,(pss_cons (ps_set (i:=2) sc__law_cut.nd rfl (Or.inl rfl) (pe_callB call_sortT rfl T.sorted bt_sorted (pa_cons (pv 1) pa_nil stx_Name)))
   (pss_cons (ps_set (i:=3) sc__law_cut.nd rfl (Or.inl rfl) (pe_lst (pa_cons (pe_slice sl_list (pv 2) po_none (po_some (pv 0))) pa_nil stx_Subscript)))
   (pss_cons (ps_while PassesOwn.never (pt_cmpR op_gt (pe_callB call_lenL rfl T.len bt_len (pa_cons (pv 2) pa_nil stx_Name)) (pv 0) (nomark _)) (pss_cons (ps_set (i:=2) sc__law_cut.nd rfl (Or.inl rfl) (pe_slice sl_list (pv 2) (po_some (pv 0)) po_none))
   (pss_one (ps_expr (pe_bm PySem.F.plainAttrs_list PySem.F.slot_list_append PySem.F.type_list_append mt_append (pv 3) (pa_cons (pe_slice sl_list (pv 2) po_none (po_some (pv 0))) pa_nil stx_Subscript))))))
   (pss_one (ps_ret (pv 3)))))),?_⟩
 rw[st__law_cut]
 walk_at"rd"
 have hNd:(ts.map (kE H)).Nodup:=by rw[← rowD_refs,er];exact nd
 refine⟨a,ts,kE H,rfl,SqL.of ha,by omega,fun t ht=>?_,inj_of hNd,fun us l p1 p2 nl=>?_⟩
 ·obtain⟨t',et,ht',_⟩:=(el.en (.ref t) (List.mem_map.mpr ⟨t,ht,rfl⟩)).pt
  cases et
  exact⟨_,ht'⟩
 generalize hE:upd H l _=H1
 obtain⟨hl,s1⟩:=newo nl hE
 clear hE
 have ul:us.length≤190:=by rw[p1.length_eq];omega
 walk_at"rd"
 refine rd_slL (SqL.of hl) fun r0 nr0=>?_
 rw[cut_refsT]
 generalize hE:upd H1 r0 _=H2
 obtain⟨hr0,s2⟩:=newo nr0 hE
 clear hE
 walk_at"rd"
 refine⟨(by show 1≤sizeLine;decide),fun D nD=>?_⟩
 generalize hE:upd H2 D _=H3
 obtain⟨hD,s3⟩:=newo nD hE
 clear hE
 have s03:=(s1.trans s2).trans s3
 have q':∀(l:Addr) (H':Hp),H l=none→RwsN H H' l (rowsVV (us.map V.ref) w)→Same H H'→Q (.ref l) H':=fun l H' n1 n2 n3=>q l us H' n1 p1 (by
  have:(us.map V.ref).map (eD H)=us.map (fun t=>eD H (.ref t)):=by rw[List.map_map];rfl
  unfold rowD
  rw[this,List.pairwise_map]
  exact p2) n2 n3
 clear q
 have D0:H D=none:=(s1.trans s2).free nD
 walk_at"rd"
 refine⟨fun m σ H'=>∃(i:Nat) (b:Addr) (as:List Addr),σ=[some (.int w),some (.ref a),some (.ref b),some (.ref D)]∧Same H H'∧m=us.length-i*w∧H' b=some (.lst ((us.drop (i*w)).map V.ref))∧H' D=some (.lst (as.map V.ref))∧b≠D∧as.length=i+1∧(∀(k:Nat) (c:Addr) (es:List V),as[k]? = some c→(rowsNV (us.map V.ref) w (i+1))[k]? = some es→H' c=some (.lst es))∧as.Nodup∧(∀c∈as,H c=none∧c≠D∧∃o,H' c=some o)∧(i=0∨i*w<us.length),?_,?_⟩
 ·refine⟨_,0,l,[r0],rfl,s03,rfl,by simpa using (s2.trans s3) _ _ hl,hD,?_,rfl,?_,by simp,?_,.inl rfl⟩
  ·intro z;rw[z]at hl;rw[s2 _ _ hl]at nD;cases nD
  ·intro k c es e1 e2
   cases k with
   | zero =>
    cases e1
    unfold rowsNV at e2
    simp at e2
    rw[← e2,← List.map_take]
    exact s3 _ _ hr0
   | succ k=>simp at e1
  ·intro c hc
   rw[List.mem_singleton.mp hc]
   exact⟨s1.free nr0,(fun z=>by rw[z]at hr0;rw[hr0]at nD;cases nD),_,s3 _ _ hr0⟩
 ·rintro m σ H' ⟨i,b,as,rfl,s4,rfl,hb,hD4,bD,al,hrow,hnd,hnew,hi⟩
  have dl:((us.drop (i*w)).map V.ref).length=us.length-i*w:=by rw[List.length_map,List.length_drop]
  have mulw:(i+1)*w=i*w+w:=Nat.succ_mul i w
  have mulw2:(i+2)*w=i*w+w+w:=by rw[Nat.succ_mul (i+1) w,mulw]
  walk_at"rd"
  rw[dl]
  refine rd_if (fun c=>?_) (fun c=>?_)
  ·refine⟨_,fun σ' H'' h=>h,?_⟩
   have c':w<us.length-i*w:=by omega
   walk_at"rd"
   refine rd_slL (SqL.of hb) fun b2 nb2=>?_
   rw[cut_refsD,List.drop_drop]
   generalize hE:upd H' b2 _=H5
   obtain⟨hb2,s5⟩:=newo nb2 hE
   clear hE
   walk_at"rd"
   refine⟨.inl ⟨rfl,_,SqL.of (s5 _ _ hD4)⟩,?_⟩
   walk_at"rd"
   refine rd_slL (SqL.of hb2) fun r nr=>?_
   rw[cut_refsT]
   generalize hE:upd H5 r _=H6
   obtain⟨hr6,s6⟩:=newo nr hE
   clear hE
   have hD6:=s6 _ _ (s5 _ _ hD4)
   have ib:i<190:=by
    have:i*1≤i*w:=Nat.mul_le_mul_left _ w1
    omega
   walk_at"rd"
   refine⟨D,_,_,rfl,rfl,hD6,by rw[List.length_map];exact small1000 (by omega),?_⟩
   have rD:r≠D:=fun z=>by rw[z]at nr;rw[s5 _ _ hD4]at nr;cases nr
   have b2D:b2≠D:=fun z=>by rw[z,hD4]at nb2;cases nb2
   have rn:H r=none:=(s4.trans s5).free nr
   walk_at"rd"
   refine⟨_,?_,i+1,b2,as ++ [r],rfl,fun c o e=>?_,rfl,?_,?_,b2D,by rw[List.length_append,al];rfl,?_,?_,?_,.inr (by omega)⟩
   ·omega
   ·rw[upd_ne (ne_of_none e D0)];exact s6 _ _ (s5 _ _ (s4 _ _ e))
   ·rw[upd_ne b2D,mulw];exact s6 _ _ hb2
   ·rw[upd_same,List.map_append];rfl
   ·intro k c es e1 e2
    rw[rowsNV_succ]at e2
    by_cases z:k<as.length
    ·rw[List.getElem?_append_left z]at e1
     rw[List.getElem?_append_left (by rw[rowsNV_len];omega)]at e2
     rw[upd_ne (hnew c (List.mem_of_getElem? e1)).2.1];exact s6 _ _ (s5 _ _ (hrow k c es e1 e2))
    ·have kl:=(List.getElem?_eq_some_iff.mp e1).1
     rw[List.length_append]at kl
     have hk:k=as.length:=by have:[r].length=1:=rfl;omega
     subst hk
     rw[List.getElem?_append_right (Nat.le_refl _),Nat.sub_self]at e1
     rw[List.getElem?_append_right (by rw[rowsNV_len];omega),rowsNV_len,al,Nat.sub_self]at e2
     have ec:r=c:=Option.some.inj e1
     have ee:=Option.some.inj e2
     subst ec
     rw[upd_ne rD,← ee,hr6,List.map_take,List.map_drop,mulw]
   ·rw[List.nodup_append]
    refine⟨hnd,by simp,fun x hx y hy z=>?_⟩
    rw[List.mem_singleton.mp hy]at z
    obtain⟨o,ho⟩:=(hnew x hx).2.2
    rw[z]at ho;rw[s5 _ _ ho]at nr;cases nr
   ·intro c hc
    rcases List.mem_append.mp hc with z|z
    ·obtain⟨g1,g2,o,g3⟩:=hnew c z
     exact⟨g1,g2,o,by rw[upd_ne g2];exact s6 _ _ (s5 _ _ g3)⟩
    ·rw[List.mem_singleton.mp z]
     exact⟨rn,rD,_,by rw[upd_ne rD];exact hr6⟩
  ·walk_at"rd"
   refine q' D H' D0 ⟨as,hD4,?_,?_,hnd,fun c hc=>⟨(hnew c hc).1,(hnew c hc).2.1⟩⟩ s4
   ·unfold rowsVV
    rw[rowsNV_len,List.length_map,rfor_is w1 (i:=i) (by omega) hi,al]
   ·unfold rowsVV
    rw[List.length_map,rfor_is w1 (i:=i) (by omega) hi]
    exact hrow
theorem ok__law_clean {f:Addr}{fd:FuncData}(F:Fun K "_law_clean" "_law_clean" s__law_clean f fd) (mF:mg "_law_clean" = some (.ref f)) (bF:Binds K fd ["_law_wide", "_law_rooms", "_law_entries"] []) (T:Bl mg) (C__law_cut:Cal P w K mg base "_law_cut" ["_law_wide", "_law_entries"] 1 (sp__law_cut K)) (C__law_room:Cal P w K mg base "_law_room" ["_law_key_here", "_law_rooms"] 1 (sp__law_room K)):Cal P w K mg base "_law_clean" ["_law_wide", "_law_rooms", "_law_entries"] 2 (sp__law_clean K):=by
 refine Cal.of F mF bF sc__law_clean (fun vs H Q E h=>?_) (fun cdv A outer s H vs Q E hr h=>?_)
 ·obtain⟨w,R,a,ts,es,rfl,_⟩:=h;rfl
 obtain⟨w,R,a,ts,es,rfl,ha,el,nd,esl,w1,w2,r1,r2,q⟩:=h
 have tl:=el.1
 refine⟨_,(pss_cons (ps_setc (i:=3) sc__law_clean.nd rfl rfl rfl (blkOk (sc:=defScope s__law_clean) (N:=["_law_wide", "_law_rooms", "_law_entries", "_law_parts", "_law_entry"]) (vs:=["_law_k"]) (fs:=[]) (js:=[]) (by decide +kernel) rfl rfl) (pi_range1 rfl T.range (pa_cons (pv 1) pa_nil stx_Name)) (fun _ _ _ _=>pg_name (i:=0) (show(["_law_k"]:List Str).Nodup by decide +kernel) rfl (Or.inl rfl)) (fun _ _ _ _=>pif0) (fun _ _ _ _=>(pe_lst pa_nil)))
   (pss_cons (ps_for PassesOwn.never rfl (pi_list (pv 2)) (pg_name (i:=4) sc__law_clean.nd rfl (Or.inl rfl)) (pss_one (ps_expr (pe_bm PySem.F.plainAttrs_list PySem.F.slot_list_append PySem.F.type_list_append mt_append (pe_ix ix_list (pv 3) (pcl C__law_room (hr.mono (by decide)) (pa_cons (pe_ix ix_tup (pv 4) pe_int (fun _ _=>rfl)) (pa_cons (pv 1) pa_nil stx_Name) stx_Subscript)) (fun _ _=>rfl)) (pa_cons (pv 4) pa_nil stx_Name)))))
   (pss_one (ps_ret (pe_tup (pa_cons (pv 0) (pa_cons (pv 1) (pa_cons (pe_comp rfl (blkOk (sc:=defScope s__law_clean) (N:=["_law_wide", "_law_rooms", "_law_entries", "_law_parts", "_law_entry"]) (vs:=["_law_part"]) (fs:=["_law_wide"]) (js:=[0]) (by decide +kernel) rfl rfl) (pi_list (pv 3)) (fun _ _ _ _=>pg_name (i:=0) (show(["_law_part", "_law_wide"]:List Str).Nodup by decide +kernel) rfl (Or.inl rfl)) (fun _ _ _ _=>pif0) (fun _ _ _ _=>(pcl C__law_cut (hr.mono (by decide)) (pa_cons (pv 1) (pa_cons (pv 0) pa_nil stx_Name) stx_Name)))) pa_nil stx_ListComp) stx_Name) stx_Name)))))),?_⟩
 rw[st__law_clean]
 walk_at"rd"
 refine⟨R,rfl,by omega,by omega,fun D nD=>?_⟩
 rw[Int.toNat_natCast]
 refine comp_range (n:=R) (fun i σ' ys H'=>(∃x,σ'=[x])∧Same H H'∧∃as:List Addr,ys=as.map V.ref∧H' D=some (.lst ys)∧as.length=i∧(∀b∈as,H' b=some (.lst []))∧as.Nodup∧∀b∈as,H b=none∧b≠D) D ⟨⟨_,rfl⟩,same_new nD _,[],rfl,upd_same,rfl,fun _ h=>by(cases h),List.nodup_nil,fun _ h=>by(cases h)⟩ ?_ ?_
 ·rintro i σ' ys H1 hi ⟨⟨x,rfl⟩,s1,as,rfl,hD,al,hL,hn,h4⟩
  walk_at"rd"
  refine⟨by decide,fun b nb=>?_⟩
  generalize hE:upd H1 b _=H2
  obtain⟨hb,s2⟩:=newo nb hE
  clear hE
  have bD:b≠D:=by intro e;rw[e,hD]at nb;cases nb
  have bas:b∉as:=fun m=>by rw[hL b m]at nb;cases nb
  refine⟨s2 _ _ hD,by rw[List.length_map,al];exact small1000 (by omega),⟨_,rfl⟩,fun c o e=>?_,as ++ [b],by rw[List.map_append];rfl,upd_same,by rw[List.length_append,al];rfl,fun c hc=>?_,?_,fun c hc=>?_⟩
  ·rw[upd_ne (ne_of_none e nD)];exact s2 _ _ (s1 _ _ e)
  ·rcases List.mem_append.mp hc with m|m
   ·rw[upd_ne (h4 c m).2];exact s2 _ _ (hL c m)
   ·rw[List.mem_singleton.mp m,upd_ne bD];exact hb
  ·rw[List.nodup_append]
   exact⟨hn,by simp,fun x hx y hy e=>by simp at hy;rw[hy]at e;exact bas (e ▸ hx)⟩
  ·rcases List.mem_append.mp hc with m|m
   ·exact h4 c m
   ·rw[List.mem_singleton.mp m];exact⟨s1.free nb,bD⟩
 ·rintro σ' ys H1 ⟨⟨x,rfl⟩,s1,as,rfl,hD,al,hL,hn,h4⟩
  walk_at"rd"
  refine⟨a,rfl,⟨_,SqL.of (s1 _ _ ha)⟩,?_⟩
  have aas:∀b∈as,b≠a:=fun b m z=>by have:=(h4 b m).1;rw[z,ha]at this;cases this
  refine for_listO (xs:=ts.map V.ref) (fun i σ H'=>(∃x,σ=[some (.int w),some (.int R),some (.ref a),some (.ref D),x])∧Same H H'∧H' D=some (.lst (as.map V.ref))∧∀(j:Nat) (b:Addr),as[j]? = some b→H' b=some (.lst (((ts.take i).filter fun t=>decide (roomV (kE H t) R =(j:Int))).map V.ref))) ⟨⟨_,rfl⟩,s1,hD,fun j b e=>by simpa using hL b (List.mem_of_getElem? e)⟩ (fun _ _ _ _ h=>SqL.of (h.2.1 _ _ ha)) ?_ ?_
  ·rintro i x σ H3 hx ⟨⟨x1,rfl⟩,s3,hD3,hL3⟩
   obtain⟨t,ht,rfl⟩:=refs_get hx
   have il:=(List.getElem?_eq_some_iff.mp ht).1
   obtain⟨e,he,het,_,k0,k1,_⟩:=el.get ht
   have hk:kE H t=e.1:=by unfold kE;rw[eD_at het]
   have rb:=roomV_lt (k:=e.1) (R:=R) (by omega)
   obtain⟨j,hj,jl⟩ : ∃j:Nat,roomV e.1 R =(j:Int)∧j<R:=⟨(roomV e.1 R).toNat,by omega,by omega⟩
   obtain⟨b,hb⟩ : ∃b,as[j]? = some b:=⟨_,List.getElem?_eq_getElem (show j<as.length by omega)⟩
   have hm:=List.mem_of_getElem? hb
   have hbr:=hL3 j b hb
   walk_at"rd"
   refine rd_ixT (SqT.of (s3 _ _ het)) at_zero ?_
   walk_at"rd"
   refine⟨e.1,R,rfl,k0,by omega,by omega,by omega,?_⟩
   rw[hj]
   refine rd_ixL (SqL.of hD3) (at_ref' hb) ?_
   walk_at"rd"
   refine⟨.inl ⟨rfl,_,SqL.of hbr⟩,?_⟩
   walk_at"rd"
   refine⟨b,_,_,rfl,rfl,hbr,?_,?_⟩
   ·rw[List.length_map]
    refine small1000 (Nat.le_trans (List.length_filter_le _ _) ?_)
    rw[List.length_take];omega
   walk_at"rd"
   refine⟨⟨_,rfl⟩,fun c o e=>?_,?_,fun j' b' e'=>?_⟩
   ·rw[upd_ne (ne_of_none e (h4 b hm).1)];exact s3 _ _ e
   ·rw[upd_ne (h4 b hm).2.symm];exact hD3
   ·rw[take_get ht,List.filter_append,List.filter_cons,hk,hj]
    by_cases z:j=j'
    ·subst z
     have:b=b':=by rw[hb]at e';exact Option.some.inj e'
     subst this
     rw[upd_same,if_pos (decide_eq_true rfl),List.map_append];rfl
    ·have:b'≠b:=fun w=>by
      subst w
      exact z ((List.getElem?_inj (List.getElem?_eq_some_iff.mp hb).1 hn).mp (hb.trans e'.symm))
     rw[upd_ne this,if_neg (by simp;omega)]
     simpa using hL3 j' b' e'
  ·rintro σ H3 ⟨⟨x1,rfl⟩,s3,hD3,hL3⟩
   rw[List.length_map,List.take_length]at hL3
   have el3:=el.same s3
   have kk:∀t∈ts,kE H3 t=kE H t:=fun t ht=>by
    unfold kE
    rw[(el.en (.ref t) (List.mem_map.mpr ⟨t,ht,rfl⟩)).eD fun _ _ e=>s3 _ _ e]
   have hL3':∀(j:Nat) (b:Addr),as[j]? = some b→H3 b=some (.lst ((ts.filter fun t=>decide (roomV (kE H3 t) R =(j:Int))).map V.ref)):=fun j b e=>by
    rw[hL3 j b e]
    congr 3
    apply List.filter_congr
    intro t ht
    rw[kk t ht]
   clear hL3 kk
   walk_at"rd"
   refine⟨D,rfl,⟨_,SqL.of hD3⟩,fun D2 nD2=>?_⟩
   refine comp_list (xs:=as.map V.ref) (fun i σ' ys H'=>(∃x,σ'=[x,some (.int w)])∧Same H3 H'∧H' D2=some (.lst ys)∧∃(ls:List Addr) (uss:List (List Addr)),ys=ls.map V.ref∧ls.length=i∧uss.length=i∧∀(j:Nat) (l:Addr) (us:List Addr),ls[j]? = some l→uss[j]? = some us→us.Perm (ts.filter fun t=>decide (roomV (kE H3 t) R =(j:Int)))∧((rowD H3 (us.map V.ref)).Pairwise fun a b=>a.1≤b.1)∧Rws (hid D2 H') l (rowsVV (us.map V.ref) w)) D2 ⟨⟨_,rfl⟩,same_new nD2 _,upd_same,[],[],rfl,rfl,rfl,fun j l us e=>by simp at e⟩ (fun i σ' ys H' _ h=>SqL.of (h.2.1 _ _ hD3)) ?_ ?_
   ·rintro i x σ' ys H4 hx ⟨⟨x1,rfl⟩,s4,hD2,ls,uss,rfl,ll,ul,hu⟩
    obtain⟨b,hb,rfl⟩:=refs_get hx
    have il:=(List.getElem?_eq_some_iff.mp hb).1
    have hb4:=s4 _ _ (hL3' i b hb)
    have el4:=el3.same s4
    have enf:∀v∈(ts.filter fun t=>decide (roomV (kE H3 t) R =(i:Int))).map V.ref,En H4 v:=fun v hv=>by
     obtain⟨t,ht,rfl⟩:=List.mem_map.mp hv
     exact el4.en _ (List.mem_map.mpr ⟨t,(List.mem_filter.mp ht).1,rfl⟩)
    obtain⟨ts',e1,e2⟩:=EL.of enf
    have et:ts'=ts.filter fun t=>decide (roomV (kE H3 t) R =(i:Int)):=(List.map_inj_right (fun a b e=>by cases e;rfl)).mp e1.symm
    subst et
    have fl:(ts.filter fun t=>decide (roomV (kE H3 t) R =(i:Int))).length≤63:=Nat.le_trans (List.length_filter_le _ _) (by omega)
    have fn:((rowD H4 ((ts.filter fun t=>decide (roomV (kE H3 t) R =(i:Int))).map V.ref)).map (·.1)).Nodup:=by
     rw[rowD_refs]
     have:(ts.map (kE H4)).Nodup:=by rw[← rowD_refs,el4.row];exact nd
     exact this.sublist (List.filter_sublist.map _)
    walk_at"rd"
    refine⟨w,b,_,_,rfl,hb4,e2,fn,by rw[← e2.1];exact fl,w1,w2,fun l us H5 nl p1 p2 rn s5=>?_⟩
    have lD:l≠D2:=fun z=>by rw[z,hD2]at nl;cases nl
    have hid5:Rws (hid D2 H5) l (rowsVV (us.map V.ref) w):=by
     obtain⟨as5,g1,g2,g3,_,g4⟩:=rn
     exact⟨as5,by rw[hid_ne lD];exact g1,g2,fun k c es c1 c2=>by
      have nb:=(g4 c (List.mem_of_getElem? c1)).1
      rw[hid_ne (fun z=>by rw[z,hD2]at nb;cases nb)]
      exact g3 k c es c1 c2⟩
    have p2':(rowD H3 (us.map V.ref)).Pairwise fun a b=>a.1≤b.1:=by
     rw[rowD_keep (fun _ _ e=>s4 _ _ e) (fun v hv=>by
      obtain⟨t,ht,rfl⟩:=List.mem_map.mp hv
      exact el3.en _ (List.mem_map.mpr ⟨t,(List.mem_filter.mp (p1.mem_iff.mp ht)).1,rfl⟩))]at p2
     exact p2
    refine⟨s5 _ _ hD2,by rw[List.length_map];exact small1000 (by omega),⟨_,rfl⟩,fun c o e=>?_,upd_same,ls ++ [l],uss ++ [us],by rw[List.map_append];rfl,by rw[List.length_append,ll];rfl,by rw[List.length_append,ul];rfl,?_⟩
    ·rw[upd_ne (ne_of_none e nD2)];exact s5 _ _ (s4 _ _ e)
    ·rw[hid_upd]
     exact ix_snoc (p:=fun j l us=>us.Perm (ts.filter fun t=>decide (roomV (kE H3 t) R =(j:Int)))∧((rowD H3 (us.map V.ref)).Pairwise fun a b=>a.1≤b.1)∧Rws (hid D2 H5) l (rowsVV (us.map V.ref) w)) ll ul (fun j l us c1 c2=>by
      obtain⟨g1,g2,g3⟩:=hu j l us c1 c2
      exact⟨g1,g2,g3.same (hid_same s5)⟩) ⟨p1,p2',hid5⟩
   ·rintro σ' ys H4 ⟨⟨x1,rfl⟩,s4,hD2,ls,uss,rfl,ll,ul,hu⟩
    rw[List.length_map,al]at ll ul
    walk_at"rd"
    refine⟨(by show 3≤sizeLine;decide),fun t nt=>?_⟩
    generalize hE:upd H4 t _=H5
    obtain⟨ht,s5⟩:=newo nt hE
    clear hE
    have s35:=s4.trans s5
    have kk:∀t∈ts,kE H5 t=kE H3 t:=fun t ht=>by
     unfold kE
     rw[(el3.en (.ref t) (List.mem_map.mpr ⟨t,ht,rfl⟩)).eD fun _ _ e=>s35 _ _ e]
    obtain⟨X,x1,x2,x3,x4⟩:=clean_is (H:=H5) (h:=D2) (ls:=ls) (uss:=uss) (el3.same s35) nd esl w1 r1 r2 (s5 _ _ hD2) ll ul fun j l us c1 c2=>by
     obtain⟨g1,g2,g3⟩:=hu j l us c1 c2
     refine⟨?_,?_,(g3.same hid_le).same s5⟩
     ·rw[show(ts.filter fun t=>decide (roomV (kE H5 t) R =(j:Int)))=ts.filter fun t=>decide (roomV (kE H3 t) R =(j:Int)) from List.filter_congr fun t ht=>by rw[kk t ht]]
      exact g1
     ·rw[rowD_keep (fun _ _ e=>s35 _ _ e) (fun v hv=>by
       obtain⟨t,ht,rfl⟩:=List.mem_map.mp hv
       exact el3.en _ (List.mem_map.mpr ⟨t,(List.mem_filter.mp (g1.mem_iff.mp ht)).1,rfl⟩))]
      exact g2
    exact q t X H5 ⟨D2,ht,x1,x2,x3⟩ x4 (s3.trans s35)
theorem ok__law_all_of {f:Addr}{fd:FuncData}(F:Fun K "_law_all_of" "_law_all_of" s__law_all_of f fd) (mF:mg "_law_all_of" = some (.ref f)) (bF:Binds K fd ["_law_yard"] []) (T:Bl mg)  : Cal P w K mg base "_law_all_of" ["_law_yard"] 1 (sp__law_all_of K):=by
 refine Cal.of F mF bF sc__law_all_of (fun vs H Q E h=>?_) (fun cdv A outer s H vs Q E hr h=>?_)
 ·obtain⟨t,l,w,r,Y,rfl,_⟩:=h;rfl
 obtain⟨t,l,w,r,Y,rfl,ht,⟨as,hl,al,hr2⟩,hz,q⟩:=h
 refine⟨_,(pss_cons (ps_set (i:=1) sc__law_all_of.nd rfl (Or.inl rfl) (pe_lst pa_nil))
   (pss_cons (ps_for PassesOwn.never rfl (pi_list (pe_ix ix_tup (pv 0) pe_int (fun _ _=>rfl))) (pg_name (i:=2) sc__law_all_of.nd rfl (Or.inl rfl)) (pss_one (ps_for PassesOwn.never rfl (pi_list (pv 2)) (pg_name (i:=3) sc__law_all_of.nd rfl (Or.inl rfl)) (pss_one (ps_set (i:=1) sc__law_all_of.nd rfl (Or.inl rfl) (pe_op op_cat (pv 1) (pv 3)))))))
   (pss_one (ps_ret (pv 1))))),?_⟩
 rw[st__law_all_of]
 walk_at"rd"
 refine⟨by decide,fun e0 ne0=>?_⟩
 generalize hE:upd H e0 _=H0
 obtain⟨he0,s0⟩:=newo ne0 hE
 clear hE
 have ht0:=s0 _ _ ht
 have hl0:=s0 _ _ hl
 have hz:(Y.map List.flatten).flatten.length≤100000:=hz
 walk_at"rd"
 refine⟨l,rfl,⟨_,SqL.of hl0⟩,?_⟩
 refine for_listO (xs:=as.map V.ref) (fun i σ H'=>(∃e x y,σ=[some (.ref t),some (.ref e),x,y]∧H' e=some (.lst ((Y.map List.flatten).take i).flatten)∧H e=none)∧Same H H') ⟨⟨e0,_,_,rfl,he0,ne0⟩,s0⟩ (fun _ _ _ _ h=>SqL.of (h.2 _ _ hl)) ?_ ?_
 ·rintro i x σ H1 hx ⟨⟨e,x1,y1,rfl,he,ne⟩,s1⟩
  obtain⟨a,ha,rfl⟩ : ∃a,as[i]? = some a∧x=V.ref a:=by
   rw[List.getElem?_map]at hx
   cases e:as[i]? with
   | none=>rw[e]at hx;cases hx
   | some a=>rw[e]at hx;exact⟨a,rfl,(Option.some.inj hx).symm⟩
  have il:i<Y.length:=by rw[← al];exact(List.getElem?_eq_some_iff.mp ha).1
  have hY:Y[i]? = some Y[i]:=List.getElem?_eq_getElem il
  obtain⟨bs,hb,bl,hbs⟩:=hr2 i a _ ha hY
  generalize Y[i]=X at hb bl hbs hY
  have hX:(Y.map List.flatten)[i]? = some X.flatten:=by rw[List.getElem?_map,hY];rfl
  have fl:=flat_len hX
  walk_at"rd"
  refine⟨a,rfl,⟨_,SqL.of (s1 _ _ hb)⟩,?_⟩
  refine for_listO (xs:=bs.map V.ref) (fun j σ H'=>(∃e y,σ=[some (.ref t),some (.ref e),some (.ref a),y]∧H' e=some (.lst (((Y.map List.flatten).take i).flatten++(X.take j).flatten))∧H e=none)∧Same H H') ⟨⟨e,_,rfl,by simpa using he,ne⟩,s1⟩ (fun _ _ _ _ h=>SqL.of (h.2 _ _ hb)) ?_ ?_
  ·rintro j x σ H2 hx2 ⟨⟨e2,y2,rfl,he2,ne2⟩,s2⟩
   obtain⟨b,hb2,rfl⟩ : ∃a,bs[j]? = some a∧x=V.ref a:=by
    rw[List.getElem?_map]at hx2
    cases e:bs[j]? with
    | none=>rw[e]at hx2;cases hx2
    | some a=>rw[e]at hx2;exact⟨a,rfl,(Option.some.inj hx2).symm⟩
   have jl:j<X.length:=by rw[← bl];exact(List.getElem?_eq_some_iff.mp hb2).1
   have hes:X[j]? = some X[j]:=List.getElem?_eq_getElem jl
   have hrow:=hbs j b _ hb2 hes
   generalize X[j]=es at hrow hes
   have fl2:=flat_len hes
   walk_at"rd"
   refine⟨e2,b,_,_,rfl,rfl,he2,s2 _ _ hrow,by rw[List.length_append,sizeLine_eq];omega,fun g ng=>?_⟩
   generalize hE:upd H2 g _=H3
   obtain⟨hg,s3⟩:=newo ng hE
   clear hE
   walk_at"rd"
   exact⟨⟨g,_,rfl,by rw[flat_take hes,← List.append_assoc];exact hg,s2.free ng⟩,s2.trans s3⟩
  ·rintro σ H2 ⟨⟨e2,y2,rfl,he2,ne2⟩,s2⟩
   rw[List.length_map,bl,List.take_length]at he2
   walk_at"rd"
   exact⟨⟨e2,_,_,rfl,by rw[flat_take hX];exact he2,ne2⟩,s2⟩
 ·rintro σ H1 ⟨⟨e,x1,y1,rfl,he,ne⟩,s1⟩
  have e':(as.map V.ref).length =(Y.map List.flatten).length:=by rw[List.length_map,List.length_map,al]
  rw[e',List.take_length]at he
  walk_at"rd"
  exact q e H1 ne he s1
theorem ok__law_copy {f:Addr}{fd:FuncData}(F:Fun K "_law_copy" "_law_copy" s__law_copy f fd) (mF:mg "_law_copy" = some (.ref f)) (bF:Binds K fd ["_law_yard"] []) (T:Bl mg)  : Cal P w K mg base "_law_copy" ["_law_yard"] 1 (sp__law_copy K):=by
 refine Cal.of F mF bF sc__law_copy (fun vs H Q E h=>?_) (fun cdv A outer s H vs Q E hr h=>?_)
 ·obtain⟨y,w,R,X,rfl,_⟩:=h;rfl
 obtain⟨y,w,R,X,rfl,⟨h0,hy,⟨bs0,hh0,hP0⟩,hen,sz⟩,q⟩:=h
 refine⟨_,(pss_one (ps_ret (pe_tup (pa_cons (pe_ix ix_tup (pv 0) pe_int (fun _ _=>rfl)) (pa_cons (pe_ix ix_tup (pv 0) pe_int (fun _ _=>rfl)) (pa_cons (pe_comp rfl (blkOk (sc:=defScope s__law_copy) (N:=["_law_yard"]) (vs:=["_law_rows"]) (fs:=[]) (js:=[]) (by decide +kernel) rfl rfl) (pi_list (pe_ix ix_tup (pv 0) pe_int (fun _ _=>rfl))) (fun _ _ _ _=>pg_name (i:=0) (show(["_law_rows"]:List Str).Nodup by decide +kernel) rfl (Or.inl rfl)) (fun _ _ _ _=>pif0) (fun _ _ _ _=>(pe_comp rfl (blkOkM (N:=["_law_rows"]) (vs:=["_law_row"]) (fs:=[]) (js:=[]) rfl rfl (by kernel_rfl)) (pi_listK (K:=K) rfl (pv 0)) (fun _ _ _ _=>pg_name (i:=0) (show(["_law_row"]:List Str).Nodup by decide +kernel) rfl (Or.inl rfl)) (fun _ _ _ _=>pif0) (fun _ _ _ _=>(pe_callTy (call_list_ofK (K:=K) rfl) rfl T.list bt_list (pa_cons (pv 0) pa_nil stx_Name)))))) pa_nil stx_ListComp) stx_Subscript) stx_Subscript)))),?_⟩
 rw[st__law_copy]
 walk_at"rd"
 refine⟨h0,rfl,⟨_,SqL.of hh0⟩,fun D nD=>?_⟩
 refine comp_list (xs:=bs0.map V.ref) (fun i σ' ys H'=>(∃x,σ'=[x])∧Same H H'∧∃cs:List Addr,ys=cs.map V.ref∧T3 (fun b=>H b=none) H' D cs (X.take i)) D ⟨⟨_,rfl⟩,same_new nD _,[],rfl,nD,upd_same,List.nodup_nil,(fun z=>by cases z),P1.nil⟩ (fun i σ' ys H' _ h=>SqL.of (h.2.1 _ _ hh0)) ?_ ?_
 ·rintro i x σ' ys H1 hx ⟨⟨x1,rfl⟩,s1,cs,rfl,t1⟩
  obtain⟨b,hb,rfl⟩:=refs_get hx
  obtain⟨rows,hxi,_,as,hb1,hA⟩:=hP0.get hb
  have il:=(List.getElem?_eq_some_iff.mp hb).1
  have bl0:=hP0.1
  have szr:=(sz.2 rows (List.mem_of_getElem? hxi)).1
  have al:=hA.1
  have hD1:=t1.2.1
  walk_at"rd"
  refine⟨b,rfl,⟨_,SqL.of (s1 _ _ hb1)⟩,fun D' nD'=>?_⟩
  obtain⟨nDD,_⟩:=t1.new nD'
  refine comp_list (xs:=as.map V.ref) (fun j σ' ys H'=>(∃x,σ'=[x])∧Same H1 H'∧∃cs':List Addr,ys=cs'.map V.ref∧H' D'=some (.lst ys)∧P1 (fun a es=>H1 a=none∧a≠D'∧H' a=some (.lst es)) cs' (rows.take j)) D' ⟨⟨_,rfl⟩,same_new nD' _,[],rfl,upd_same,P1.nil⟩ (fun i σ' ys H' _ h=>SqL.of (h.2.1 _ _ (s1 _ _ hb1))) ?_ ?_
  ·rintro j x σ' ys H2 hx ⟨⟨x2,rfl⟩,s2,cs',rfl,hD',hC⟩
   obtain⟨a,ha,rfl⟩:=refs_get hx
   obtain⟨es,hes,_,ha1⟩:=hA.get ha
   have jl:=(List.getElem?_eq_some_iff.mp ha).1
   have cl:=hC.1
   rw[List.length_take]at cl
   walk_at"rd"
   refine rd_listOf (SqL.of (s2 _ _ (s1 _ _ ha1))) fun e ne=>?_
   generalize hE:upd H2 e _=H3
   obtain⟨he,s3⟩:=newo ne hE
   clear hE
   have eD:e≠D':=fun z=>by rw[z,hD']at ne;cases ne
   refine⟨s3 _ _ hD',by rw[List.length_map];exact small1000 (by omega),⟨_,rfl⟩,fun c o e=>by rw[upd_ne (ne_of_none e nD')];exact s3 _ _ (s2 _ _ e),cs' ++ [e],by rw[List.map_append];rfl,upd_same,?_⟩
   rw[take_get hes]
   refine(hC.imp fun a es t=>⟨t.1,t.2.1,?_⟩).snoc ⟨s2.free ne,eD,?_⟩
   ·rw[upd_ne eD];exact he
   ·rw[upd_ne t.2.1];exact s3 _ _ t.2.2
  ·rintro σ' ys H2 ⟨⟨x2,rfl⟩,s2,cs',rfl,hD',hC⟩
   rw[List.length_map,al,List.take_length]at hC
   have hD2:=s2 _ _ hD1
   have cl:=t1.2.2.2.2.1
   rw[List.length_take]at cl
   walk_at"rd"
   refine⟨hD2,by rw[List.length_map];exact small1000 (by have:=sz.1;omega),⟨_,rfl⟩,fun c o e=>by rw[upd_ne (ne_of_none e nD)];exact s2 _ _ (s1 _ _ e),cs ++ [D'],by rw[List.map_append];rfl,?_⟩
   rw[take_get hxi]
   refine t1.add (fun b o n e=>by rw[upd_ne n];exact s2 _ _ e) (by rw[upd_same,List.map_append];rfl) nD' (s1.free nD') (by rw[upd_ne nDD];exact hD') (hC.imp fun a es t=>⟨s1.free t.1,t.1,t.2.1,?_⟩)
   rw[upd_ne (t1.new t.1).1];exact t.2.2
 rintro σ' ys H1 ⟨⟨x1,rfl⟩,s1,cs,rfl,t1⟩
 rw[List.length_map,hP0.1,List.take_length]at t1
 walk_at"rd"
 refine⟨(by show 3≤sizeLine;decide),fun t nt=>?_⟩
 generalize hE:upd H1 t _=H2
 obtain⟨ht,s2⟩:=newo nt hE
 clear hE
 exact q t D cs H2 (s1.free nt) ht (t1.same s2) (s1.trans s2)
theorem ok__law_is_yard {f:Addr}{fd:FuncData}(F:Fun K "_law_is_yard" "_law_is_yard" s__law_is_yard f fd) (mF:mg "_law_is_yard" = some (.ref f)) (bF:Binds K fd ["_law_got", "_law_due"] []) (T:Bl mg) (C__law_whole:Cal P w K mg base "_law_whole" ["_law_got"] 1 (sp__law_whole K)):Cal P w K mg base "_law_is_yard" ["_law_got", "_law_due"] 2 (sp__law_is_yard K):=by
 refine Cal.of F mF bF sc__law_is_yard (fun vs H Q E h=>?_) (fun cdv A outer s H vs Q E hr h=>?_)
 ·obtain⟨y,y',h,w,R,P,rfl,_⟩:=h;rfl
 obtain⟨y,y',t,w,R,P,rfl,hy,h1,h2,q⟩:=h
 have hu:=hr.units
 refine⟨_,(pss_cons (ps_if (PW.pt (pw_or (pt_not (pt_val (pe_callB call_isinst rfl T.isinstance bt_isinstance (pa_cons (pv 0) (pa_cons (pe_bltn (v:=.ty "tuple") rfl T.tuple bt_tuple rfl) pa_nil stx_Name) stx_Name)))) (pw_or1 (pt_cmpR op_ne (pe_callB call_lenL rfl T.len bt_len (pa_cons (pv 0) pa_nil stx_Name)) pe_int (nomark _))))) (pss_one (ps_ret pe_bl)) pss_nil)
   (pss_one (ps_ret (pe_and (pe_cmpR (op_eqD hu) (pv 0) (pv 1) (nomark _)) (pe_and (pcl C__law_whole (hr.mono (by decide)) (pa_cons (pe_ix ix_tup (pv 0) pe_int (fun _ _=>rfl)) pa_nil stx_Subscript)) (pe_one (pcl C__law_whole (hr.mono (by decide)) (pa_cons (pe_ix ix_tup (pv 0) pe_int (fun _ _=>rfl)) pa_nil stx_Subscript)))))))),?_⟩
 rw[st__law_is_yard]
 walk_at"rd"
 refine rd_isi (.tup hy) (b:=true) rfl ?_
 walk_at"rd"
 refine⟨y,_,rfl,.inr (SqT.of hy),?_⟩
 rw[show(([V.int w,V.int R,V.ref t].length:Nat):Int)=3 from rfl]
 walk_at"rd"
 rw[if_neg (by simp)]
 walk_at"rd"
 refine⟨_,_,h1.1,h2.1,h1.shaped (by omega),h2.shaped (by omega),?_⟩
 rw[h1.refl]
 walk_at"rd"
 refine⟨w,rfl,?_⟩
 walk_at"rd"
 refine⟨R,rfl,?_⟩
 walk_at"rd"
 exact q
theorem ok__law_onward {f:Addr}{fd:FuncData}(F:Fun K "_law_onward" "_law_onward" s__law_onward f fd) (mF:mg "_law_onward" = some (.ref f)) (bF:Binds K fd ["_law_room_here", "_law_rows", "_law_now"] []) (T:Bl mg)  : Cal P w K mg base "_law_onward" ["_law_room_here", "_law_rows", "_law_now"] 1 (sp__law_onward K):=by
 refine Cal.of F mF bF sc__law_onward (fun vs H Q E h=>?_) (fun cdv A outer s H vs Q E hr h=>?_)
 ·obtain⟨r,a,b,os,ns,rfl,_⟩:=h;rfl
 obtain⟨r,a,b,os,ns,rfl,⟨as,ha,al,hA⟩,⟨bs,hb,bl,hB⟩,oO,oN,r1,q⟩:=h
 have hu:=hr.units
 have nk:=oN.1
 refine⟨_,(pss_cons (ps_set (i:=3) sc__law_onward.nd rfl (Or.inl rfl) (pe_lst pa_nil))
   (pss_cons (ps_for PassesOwn.never rfl (pi_enum rfl T.enumerate (pa_cons (pv 1) pa_nil stx_Name)) (pg_tup rfl (pgs_cons (pg_name (i:=4) sc__law_onward.nd rfl (Or.inl rfl)) (pgs_cons (pg_name (i:=5) sc__law_onward.nd rfl (Or.inl rfl)) pgs_nil))) (pss_one (ps_if (PW.pt (pw_or (pt_cmpR op_ge (pv 4) (pe_callB call_lenL rfl T.len bt_len (pa_cons (pv 2) pa_nil stx_Name)) (nomark _)) (pw_or1 (pt_cmpR (op_neD hu) (pe_ix ix_list (pv 2) (pv 4) (fun _ _=>rfl)) (pv 5) (nomark _))))) (pss_one (ps_expr (pe_bm PySem.F.plainAttrs_list PySem.F.slot_list_append PySem.F.type_list_append mt_append (pv 3) (pa_cons (pe_tup (pa_cons pe_str (pa_cons (pv 0) (pa_cons (pv 4) (pa_cons (pv 5) pa_nil stx_Name) stx_Name) stx_Name) stx_Constant)) pa_nil stx_Tuple)))) pss_nil)))
   (pss_cons (ps_cut (ps_if (pt_cmpR op_gt (pe_callB call_lenL rfl T.len bt_len (pa_cons (pv 2) pa_nil stx_Name)) (pe_callB call_lenL rfl T.len bt_len (pa_cons (pv 1) pa_nil stx_Name)) (nomark _)) (pss_one (ps_expr (pe_bm PySem.F.plainAttrs_list PySem.F.slot_list_append PySem.F.type_list_append mt_append (pv 3) (pa_cons (pe_tup (pa_cons pe_str (pa_cons (pv 0) (pa_cons (pe_callB call_lenL rfl T.len bt_len (pa_cons (pv 1) pa_nil stx_Name)) pa_nil stx_Call) stx_Name) stx_Constant)) pa_nil stx_Tuple)))) pss_nil))
   (pss_one (ps_ret (pv 3)))))),?_⟩
 rw[st__law_onward]
 walk_at"rd"
 refine⟨by decide,fun D nD=>?_⟩
 generalize hE:upd H D _=H1
 obtain⟨hD,s1⟩:=newo nD hE
 clear hE
 walk_at"rd"
 refine⟨b,rfl,⟨_,SqL.of (s1 _ _ hb)⟩,?_⟩
 refine for_enum (xs:=bs.map V.ref) (fun k σ H'=>(∃x y,σ=[some (.int r),some (.ref b),some (.ref a),some (.ref D),x,y])∧Same H H'∧∃ss:List Addr,H' D=some (.lst (ss.map V.ref))∧ss.length≤k∧P1 (StA (hid D H')) ss (unl H r os ns k)) ⟨⟨_,_,rfl⟩,s1,[],hD,Nat.le_refl _,P1.nil⟩ (fun _ _ _ _ h=>SqL.of (h.2.1 _ _ hb)) ?_ ?_
 ·rintro k x σ H1 t hx ⟨⟨x1,y1,rfl⟩,s1,ss,hD,sl,hP⟩ nt
  obtain⟨c,hc,rfl⟩:=refs_get hx
  have kl:=(List.getElem?_eq_some_iff.mp hc).1
  obtain⟨es,hes⟩ : ∃es,ns[k]? = some es:=⟨_,List.getElem?_eq_getElem (by omega)⟩
  have hce:=hB k c es hc hes
  have oes:=oN.2 es (List.mem_of_getElem? hes)
  generalize hE:upd H1 t _=H2
  obtain⟨ht,s2⟩:=newo nt hE
  clear hE
  have s02:=s1.trans s2
  have ha2:=s02 _ _ ha
  have hD2:=s2 _ _ hD
  have fin:unB H os es k=true→∀(s3:Addr),H2 s3=none→(ss.map V.ref).length<sizeLine∧Same H (upd (upd H2 s3 (.tup [.str "row",.int r,.int k,.ref c])) D (.lst (ss.map V.ref ++ [.ref s3])))∧∃ss':List Addr,upd (upd H2 s3 (.tup [.str "row",.int r,.int k,.ref c])) D (.lst (ss.map V.ref ++ [.ref s3])) D=some (.lst (ss'.map V.ref))∧ss'.length≤k+1∧P1 (StA (hid D (upd (upd H2 s3 (.tup [.str "row",.int r,.int k,.ref c])) D (.lst (ss.map V.ref ++ [.ref s3]))))) ss' (unl H r os ns (k+1)):=fun u s3 n3=>by
   generalize e:upd H2 s3 (.tup [.str "row",.int r,.int k,.ref c])=H4
   obtain⟨h3,s24⟩:=newo n3 e
   have s04:=s02.trans s24
   have n3D:s3≠D:=fun z=>by
    rw[z,hD2]at n3;cases n3
   refine⟨by rw[List.length_map];exact small1000 (by omega),fun x o e=>by rw[upd_ne (ne_of_none e nD)];exact s04 _ _ e,ss ++ [s3],by rw[upd_same,List.map_append];rfl,by rw[List.length_append];exact Nat.add_le_add_right sl 1,?_⟩
   rw[hid_upd,unl_yes hes u]
   refine(hP.imp fun s st h=>h.same (hid_same (s2.trans s24))).snoc ⟨c,by rw[hid_ne n3D];exact h3,?_,r1,by omega,oes.1,fun v hv=>?_⟩
   ·rw[hid_ne (ne_of_none hce nD)];exact s04 _ _ hce
   ·obtain⟨t',k',z',rfl,h1,h2⟩:=oes.2 v hv
    exact⟨t',k',z',rfl,by rw[hid_ne (ne_of_none h1 nD)];exact s04 _ _ h1,h2⟩
  refine⟨t,_,rfl,SqT.of ht,rfl,_,_,rfl,_,_,rfl,rfl,?_⟩
  walk_at"rd"
  rw[List.length_map]
  refine rd_if (fun g=>?_) (fun g=>?_)
  ·have u:unB H os es k=true:=by
    unfold unB
    rw[List.getElem?_eq_none (by omega)]
   walk_at"rd"
   refine⟨.inl ⟨rfl,_,SqL.of hD2⟩,?_⟩
   walk_at"rd"
   refine⟨(by show 4≤sizeLine;decide),fun s3 n3=>?_⟩
   obtain⟨f1,f2,f3⟩:=fin u s3 n3
   refine⟨D,_,_,rfl,rfl,(newo n3 rfl).2 _ _ hD2,f1,?_⟩
   walk_at"rd"
   exact⟨⟨_,_,rfl⟩,f2,f3⟩
  ·have ko:k<os.length:=by omega
   obtain⟨c2,hc2⟩ : ∃c2,as[k]? = some c2:=⟨_,List.getElem?_eq_getElem (by omega)⟩
   obtain⟨o,ho⟩ : ∃o,os[k]? = some o:=⟨_,List.getElem?_eq_getElem ko⟩
   have hco:=hA k c2 o hc2 ho
   have oo:=oO.2 o (List.mem_of_getElem? ho)
   have kt:∀t xs,H t=some (.tup xs)→H2 t=some (.tup xs):=fun _ _ e=>s02 _ _ e
   walk_at"rd"
   refine rd_ixL (SqL.of ha2) (at_ref' hc2) ?_
   walk_at"rd"
   have g1:=row_gd (K:=K) (s02 _ _ hco) fun v hv=>(oo.2 v hv).keep kt
   have g2:=row_gd (K:=K) (s02 _ _ hce) fun v hv=>(oes.2 v hv).keep kt
   refine⟨_,_,g1.1,g2.1,g1.shaped (by omega),g2.shaped (by omega),?_⟩
   rw[eqv_pRow,rowD_keep kt oo.2,rowD_keep kt oes.2]
   have ub:unB H os es k = !decide (rowD H o=rowD H es):=by unfold unB;rw[ho]
   by_cases e:rowD H o=rowD H es
   ·rw[decide_eq_true e]at ub ⊢
    walk_at"rd"
    refine⟨⟨_,_,rfl⟩,s02,ss,hD2,by omega,?_⟩
    rw[unl_no hes ub]
    exact hP.imp fun s st h=>h.same (hid_same s2)
   ·rw[decide_eq_false e]at ub ⊢
    walk_at"rd"
    refine⟨.inl ⟨rfl,_,SqL.of hD2⟩,?_⟩
    walk_at"rd"
    refine⟨(by show 4≤sizeLine;decide),fun s3 n3=>?_⟩
    obtain⟨f1,f2,f3⟩:=fin ub s3 n3
    refine⟨D,_,_,rfl,rfl,(newo n3 rfl).2 _ _ hD2,f1,?_⟩
    walk_at"rd"
    exact⟨⟨_,_,rfl⟩,f2,f3⟩
 ·rintro σ H1 ⟨⟨x1,y1,rfl⟩,s1,ss,hD,sl,hP⟩
  rw[List.length_map,bl]at hP
  rw[List.length_map]at sl
  have ha1:=s1 _ _ ha
  have hb1:=s1 _ _ hb
  walk_at"rd"
  refine cutO (fun σ H2=>∃ss':List Addr,(∃x y,σ=[some (.int r),some (.ref b),some (.ref a),some (.ref D),x,y])∧H2 D=some (.lst (ss'.map V.ref))∧P1 (StA (hid D H2)) ss' (onS H r os ns)∧Same H H2) ?_ ?_
  ·walk_at"rd"
   rw[List.length_map,List.length_map]
   refine rd_if (fun g=>?_) (fun g=>?_)
   ·walk_at"rd"
    refine⟨.inl ⟨rfl,_,SqL.of hD⟩,?_⟩
    walk_at"rd"
    rw[List.length_map]
    refine⟨(by show 3≤sizeLine;decide),fun s3 n3=>?_⟩
    generalize hE:upd H1 s3 _=H2
    obtain⟨h3,s2⟩:=newo n3 hE
    clear hE
    have n3D:s3≠D:=fun z=>by rw[z,hD]at n3;cases n3
    refine⟨D,_,_,rfl,rfl,s2 _ _ hD,by rw[List.length_map];exact small1000 (by omega),?_⟩
    walk_at"rd"
    refine⟨ss ++ [s3],⟨_,_,rfl⟩,by rw[upd_same,List.map_append];rfl,?_,fun x o e=>by rw[upd_ne (ne_of_none e nD)];exact s2 _ _ (s1 _ _ e)⟩
    rw[hid_upd]
    unfold onS
    rw[if_pos (by omega)]
    refine(hP.imp fun s st h=>h.same (hid_same s2)).snoc ⟨?_,r1,nk⟩
    rw[hid_ne n3D,h3,bl]
   ·walk_at"rd"
    refine⟨ss,⟨_,_,rfl⟩,hD,?_,s1⟩
    unfold onS
    rw[if_neg (by omega),List.append_nil]
    exact hP
  ·rintro σ H2 ⟨ss',⟨x,y,rfl⟩,hD2,hP2,s2⟩
   walk_at"rd"
   exact q D ss' _ hD2 (hP2.imp fun s st h=>h.same hid_le) s2
theorem ok__law_change_due {f:Addr}{fd:FuncData}(F:Fun K "_law_change_due" "_law_change_due" s__law_change_due f fd) (mF:mg "_law_change_due" = some (.ref f)) (bF:Binds K fd ["_law_yard", "_law_way", "_law_key_here", "_law_thing_here"] []) (T:Bl mg) (C__law_all_of:Cal P w K mg base "_law_all_of" ["_law_yard"] 1 (sp__law_all_of K)) (C__law_room:Cal P w K mg base "_law_room" ["_law_key_here", "_law_rooms"] 1 (sp__law_room K)) (C__law_onward:Cal P w K mg base "_law_onward" ["_law_room_here", "_law_rows", "_law_now"] 1 (sp__law_onward K)) (C__law_clean:Cal P w K mg base "_law_clean" ["_law_wide", "_law_rooms", "_law_entries"] 2 (sp__law_clean K)) (C__law_top:Cal P w K mg base "_law_top" ["_law_rooms"] 1 (sp__law_top K)):Cal P w K mg base "_law_change_due" ["_law_yard", "_law_way", "_law_key_here", "_law_thing_here"] 3 (sp__law_change_due K):=by
 refine Cal.of F mF bF sc__law_change_due (fun vs H Q E h=>?_) (fun cdv A outer s H vs Q E hr h=>?_)
 ·obtain⟨y,w,R,X,es,k,z,wv,rfl,_⟩:=h;rfl
 obtain⟨y,w,R,X,es,k,z,wv,rfl,yb,hv,kk,zz,h0,hj,q⟩:=h
 have hu:=hr.units
 have b:=yb.b
 have R1:=b.R1
 have w1:=b.w1
 have w2:=yb.w2
 have R2:=yb.R2
 have el:=yb.el
 obtain⟨h,hy,hX,_,_⟩:=yb.yd
 obtain⟨as,ea,eL,pE⟩:=yb.ents
 have al:(allV X).length≤26:=by
  rw[ea,List.length_map,eL.1,pE.length_eq];exact el
 have nde:((flatP (yD H X)).map (·.1)).Nodup:=((pE.map _).nodup_iff).mpr b.nd
 refine⟨_,(pss_cons (ps_asg (pv 0) (pg_tup rfl (pgs_cons (pg_name (i:=4) sc__law_change_due.nd rfl (Or.inl rfl)) (pgs_cons (pg_name (i:=5) sc__law_change_due.nd rfl (Or.inl rfl)) (pgs_cons (pg_name (i:=6) sc__law_change_due.nd rfl (Or.inl rfl)) pgs_nil)))))
   (pss_cons (ps_set (i:=7) sc__law_change_due.nd rfl (Or.inl rfl) (pcl C__law_all_of (hr.mono (by decide)) (pa_cons (pv 0) pa_nil stx_Name)))
   (pss_cons (ps_if (pt_cmpR op_eq (pv 1) pe_str (nomark _)) (pss_cons (ps_set (i:=8) sc__law_change_due.nd rfl (Or.inl rfl) (pe_ix ix_tup (pcl C__law_clean (hr.mono (by decide)) (pa_cons (pv 4) (pa_cons (pe_op op_add (pv 5) pe_int) (pa_cons (pv 7) pa_nil stx_Name) stx_BinOp) stx_Name)) pe_int (fun _ _=>rfl)))
   (pss_cons (ps_set (i:=9) sc__law_change_due.nd rfl (Or.inl rfl) (pe_op op_sub (pv 5) (pcl C__law_top (hr.mono (by decide)) (pa_cons (pv 5) pa_nil stx_Name))))
   (pss_cons (ps_set (i:=10) sc__law_change_due.nd rfl (Or.inl rfl) (pe_op op_cat (pcl C__law_onward (hr.mono (by decide)) (pa_cons (pv 5) (pa_cons (pe_ix ix_list (pv 8) (pv 5) (fun _ _=>rfl)) (pa_cons (pe_lst pa_nil) pa_nil stx_List) stx_Subscript) stx_Name)) (pe_lst (pa_cons (pe_tup (pa_cons pe_str (pa_cons (pe_op op_add (pv 5) pe_int) pa_nil stx_BinOp) stx_Constant)) pa_nil stx_Tuple))))
   (pss_one (ps_ret (pe_op op_cat (pv 10) (pcl C__law_onward (hr.mono (by decide)) (pa_cons (pv 9) (pa_cons (pe_ix ix_list (pv 8) (pv 9) (fun _ _=>rfl)) (pa_cons (pe_ix ix_list (pv 6) (pv 9) (fun _ _=>rfl)) pa_nil stx_Subscript) stx_Subscript) stx_Name)))))))) pss_nil)
   (pss_cons (ps_if (pt_cmpR op_eq (pv 1) pe_str (nomark _)) (pss_cons (ps_set (i:=8) sc__law_change_due.nd rfl (Or.inl rfl) (pe_ix ix_tup (pcl C__law_clean (hr.mono (by decide)) (pa_cons (pv 4) (pa_cons (pe_op op_sub (pv 5) pe_int) (pa_cons (pv 7) pa_nil stx_Name) stx_BinOp) stx_Name)) pe_int (fun _ _=>rfl)))
   (pss_cons (ps_set (i:=11) sc__law_change_due.nd rfl (Or.inl rfl) (pe_op op_sub (pe_op op_sub (pv 5) pe_int) (pcl C__law_top (hr.mono (by decide)) (pa_cons (pe_op op_sub (pv 5) pe_int) pa_nil stx_BinOp))))
   (pss_cons (ps_set (i:=10) sc__law_change_due.nd rfl (Or.inl rfl) (pe_rev (pcl C__law_onward (hr.mono (by decide)) (pa_cons (pv 11) (pa_cons (pe_ix ix_list (pv 8) (pv 11) (fun _ _=>rfl)) (pa_cons (pe_ix ix_list (pv 6) (pv 11) (fun _ _=>rfl)) pa_nil stx_Subscript) stx_Subscript) stx_Name))))
   (pss_one (ps_ret (pe_op op_cat (pv 10) (pe_lst (pa_cons (pe_tup (pa_cons pe_str (pa_cons (pe_op op_sub (pv 5) pe_int) pa_nil stx_BinOp) stx_Constant)) (pa_cons (pe_tup (pa_cons pe_str (pa_cons (pe_op op_sub (pv 5) pe_int) (pa_cons pe_int pa_nil stx_Constant) stx_BinOp) stx_Constant)) pa_nil stx_Tuple) stx_Tuple)))))))) pss_nil)
   (pss_cons (ps_setc (i:=12) sc__law_change_due.nd rfl rfl rfl (blkOk (sc:=defScope s__law_change_due) (N:=["_law_yard", "_law_way", "_law_key_here", "_law_thing_here", "_law_wide", "_law_rooms", "_law_held", "_law_entries", "_law_there", "_law_room_here", "_law_steps", "_law_into", "_law_others"]) (vs:=["_law_entry"]) (fs:=["_law_key_here"]) (js:=[2]) (by decide +kernel) rfl rfl) (pi_list (pv 7)) (fun _ _ _ _=>pg_name (i:=0) (show(["_law_entry", "_law_key_here"]:List Str).Nodup by decide +kernel) rfl (Or.inl rfl)) (fun _ _ _ _=>pif1 (pt_cmpR op_ne (pe_ix (ix_tupK (K:=K) rfl) (pv 0) pe_int (fun _ _=>rfl)) (pv 1) (nomark _))) (fun _ _ _ _=>(pv 0)))
   (pss_cons (ps_set (i:=9) sc__law_change_due.nd rfl (Or.inl rfl) (pcl C__law_room (hr.mono (by decide)) (pa_cons (pv 2) (pa_cons (pv 5) pa_nil stx_Name) stx_Name)))
   (pss_cons (ps_if (pt_cmpR op_eq (pv 1) pe_str (nomark _)) (pss_one (ps_ret (pcl C__law_onward (hr.mono (by decide)) (pa_cons (pv 9) (pa_cons (pe_ix ix_list (pe_ix ix_tup (pcl C__law_clean (hr.mono (by decide)) (pa_cons (pv 4) (pa_cons (pv 5) (pa_cons (pv 12) pa_nil stx_Name) stx_Name) stx_Name)) pe_int (fun _ _=>rfl)) (pv 9) (fun _ _=>rfl)) (pa_cons (pe_ix ix_list (pv 6) (pv 9) (fun _ _=>rfl)) pa_nil stx_Subscript) stx_Subscript) stx_Name)))) pss_nil)
   (pss_one (ps_ret (pe_rev (pcl C__law_onward (hr.mono (by decide)) (pa_cons (pv 9) (pa_cons (pe_ix ix_list (pe_ix ix_tup (pcl C__law_clean (hr.mono (by decide)) (pa_cons (pv 4) (pa_cons (pv 5) (pa_cons (pe_op op_cat (pv 12) (pe_lst (pa_cons (pe_tup (pa_cons (pv 2) (pa_cons (pv 3) pa_nil stx_Name) stx_Name)) pa_nil stx_Tuple))) pa_nil stx_BinOp) stx_Name) stx_Name)) pe_int (fun _ _=>rfl)) (pv 9) (fun _ _=>rfl)) (pa_cons (pe_ix ix_list (pv 6) (pv 9) (fun _ _=>rfl)) pa_nil stx_Subscript) stx_Subscript) stx_Name)))))))))))),?_⟩
 rw[st__law_change_due]
 walk_at"rd"
 refine⟨y,_,rfl,SqT.of hy,rfl,_,_,rfl,_,_,rfl,_,_,rfl,rfl,?_⟩
 walk_at"rd"
 refine⟨y,h,_,_,X,rfl,hy,hX.rms,by omega,fun L H1 nL hL s1=>?_⟩
 rw[ea]at hL
 walk_at"rd"
 refine⟨rfl,?_⟩
 match wv,hv with
 | 0,_ =>
  have t:=tn_is R1
  rw[decide_eq_true (show V.str (wN 0)=V.str (Str.ofString "split") from rfl)]
  walk_at"rd"
  refine⟨w,R+1,L,as,_,by rw[Int.natCast_add];rfl,hL,eL.same s1,nde,by rw[pE.length_eq];omega,w1,w2,by omega,by have:=h0 rfl;omega,fun y2 Z H2 hZ cl s2=>?_⟩
  have cl:=cl.perm pE
  obtain⟨t2,b2,bs2,hy2,ht2,hb2,hN2,g1,ok1⟩:=clean_at hZ cl b.nd w1 w2 (by omega) (by omega) (r:=R) (by omega)
  obtain⟨t2',b3,bs2',hy2',ht2',hb3,hN3,g2,ok2⟩:=clean_at hZ cl b.nd w1 w2 (by omega) (by omega) (r:=tn R) (by omega)
  rw[hy2]at hy2'
  cases hy2'
  obtain⟨h',b4,bs4,hy4,hh4,hb4,hO4,ok4⟩:=yb.at t.2
  rw[hy]at hy4
  cases hy4
  have s02:=s1.trans s2
  walk_at"rd"
  refine⟨R,rfl,by omega,by omega,?_⟩
  walk_at"rd"
  rw[← t.1]
  refine rd_ixL (SqL.of ht2) (at_ref' hb2) ?_
  walk_at"rd"
  refine⟨by decide,fun e0 ne0=>?_⟩
  generalize hE:upd H2 e0 _=H3
  obtain⟨he0,s3⟩:=newo ne0 hE
  clear hE
  walk_at"rd"
  have hb:=h0 rfl
  refine⟨R,e0,b2,[],atR Z R,rfl,⟨[],he0,rfl,fun i a es e=>by simp at e⟩,hN2.same s3,⟨by simp,fun _ h=>absurd h List.not_mem_nil⟩,ok1.same s3,hb,fun D1 ss1 H4 hD1 hP1 s4=>?_⟩
  walk_at"rd"
  refine⟨(by show 2≤sizeLine;decide),fun r1 nr1=>?_⟩
  generalize hE:upd H4 r1 _=H5
  obtain⟨hr1,s5⟩:=newo nr1 hE
  clear hE
  walk_at"rd"
  refine⟨(by show 1≤sizeLine;decide),fun r2 nr2=>?_⟩
  generalize hE:upd H5 r2 _=H6
  obtain⟨hr2,s6⟩:=newo nr2 hE
  clear hE
  have l1:ss1.length≤131:=by
   rw[hP1.1]
   exact Nat.le_trans on_len (by have:=ok1.1;omega)
  walk_at"rd"
  refine⟨D1,r2,_,_,rfl,rfl,s6 _ _ (s5 _ _ hD1),hr2,Nat.le_trans (show _≤1000 by rw[List.length_map];simp;omega) (by decide),fun D2 nD2=>?_⟩
  rw[show([V.ref r1]:List V)=[r1].map V.ref from rfl,← List.map_append]
  generalize hE:upd H6 D2 _=H7
  obtain⟨hD2,s7⟩:=newo nD2 hE
  clear hE
  have s27:=s3.trans (s4.trans (s5.trans (s6.trans s7)))
  have s07:=s02.trans s27
  walk_at"rd"
  refine rd_ixL (SqL.of (s27 _ _ ht2')) (at_ref' hb3) ?_
  walk_at"rd"
  refine rd_ixL (SqL.of (s07 _ _ hh4)) (at_ref' hb4) ?_
  walk_at"rd"
  refine⟨tn R,b4,b3,atR X (tn R),atR Z (tn R),rfl,hO4.same s07,hN3.same s27,ok4.same s07,ok2.same s27,by omega,fun D3 ss3 H8 hD3 hP3 s8=>?_⟩
  have l3:ss3.length≤131:=by
   rw[hP3.1]
   exact Nat.le_trans on_len (by have:=ok2.1;omega)
  walk_at"rd"
  refine⟨D2,D3,_,_,rfl,rfl,s8 _ _ hD2,hD3,Nat.le_trans (show _≤1000 by rw[List.length_map,List.length_map,List.length_append];simp;omega) (by decide),fun D4 nD4=>?_⟩
  rw[← List.map_append]
  generalize hE:upd H8 D4 _=H9
  obtain⟨hD4,s9⟩:=newo nD4 hE
  clear hE
  have s89:=s8.trans s9
  have s29:=s27.trans s89
  have s09:=s02.trans s29
  have k39:∀t xs,H3 t=some (.tup xs)→H9 t=some (.tup xs):=fun _ _ e=>(s4.trans (s5.trans (s6.trans (s7.trans s89)))) _ _ e
  have k79:∀t xs,H7 t=some (.tup xs)→H9 t=some (.tup xs):=fun _ _ e=>s89 _ _ e
  have k29:∀t xs,H2 t=some (.tup xs)→H9 t=some (.tup xs):=fun _ _ e=>s29 _ _ e
  have en7:∀es∈atR X (tn R),∀v∈es,En H7 v:=fun es he v hv=>((ok4.same s07).2 es he).2 v hv
  have em7:∀es∈atR Z (tn R),∀v∈es,En H7 v:=fun es he v hv=>((ok2.same s27).2 es he).2 v hv
  have em3:∀es∈atR Z R,∀v∈es,En H3 v:=fun es he v hv=>((ok1.same s3).2 es he).2 v hv
  walk_at"rd"
  refine q D4 H9 ⟨_,atR Z R,atR Z (tn R),hD4,?_,g1.keep k29,fun _=>g2.keep k29,fun e=>absurd rfl e⟩ s09
  show P1 (StA H9) _ (onS H9 R [] (atR Z R)++St3.rooms (R+1)::onS H9 (tn R) (atR X (tn R)) (atR Z (tn R)))
  rw[on_keep k39 (fun _ h=>absurd h List.not_mem_nil) em3,on_keep k79 en7 em7,List.append_assoc]
  refine(hP1.imp fun s st h=>h.same (s5.trans (s6.trans (s7.trans s89)))).app (P1.app (P1.one ?_) (hP3.imp fun s st h=>h.same s9))
  exact⟨(s6.trans (s7.trans s89)) _ _ hr1,by omega⟩
 | 1,_ =>
  rw[decide_eq_false (by decide +kernel)]
  walk_at"rd"
  refine⟨rfl,?_⟩
  rw[decide_eq_true (show V.str (wN 1)=V.str (Str.ofString "join") from rfl)]
  have hj2:=hj rfl
  obtain⟨R0,e⟩ : ∃R0,R=R0+1:=⟨R-1,by omega⟩
  subst e
  have hR0:1≤R0:=by omega
  have t:=tn_is hR0
  have eR:((R0+1:Nat):Int)-1 =(R0:Int):=by omega
  walk_at"rd"
  rw[eR]
  refine⟨w,R0,L,as,_,rfl,hL,eL.same s1,nde,by rw[pE.length_eq];omega,w1,w2,by omega,by omega,fun y2 Z H2 hZ cl s2=>?_⟩
  have cl:=cl.perm pE
  obtain⟨t2,b2,bs2,hy2,ht2,hb2,hN2,g1,ok1⟩:=clean_at hZ cl b.nd w1 w2 (by omega) (by omega) (r:=tn R0) (by omega)
  obtain⟨h',b4,bs4,hy4,hh4,hb4,hO4,ok4⟩:=yb.at (r:=tn R0) (by omega)
  rw[hy]at hy4
  cases hy4
  have s02:=s1.trans s2
  walk_at"rd"
  rw[eR]
  refine⟨R0,rfl,by omega,by omega,?_⟩
  walk_at"rd"
  rw[← t.1]
  refine rd_ixL (SqL.of ht2) (at_ref' hb2) ?_
  walk_at"rd"
  refine rd_ixL (SqL.of (s02 _ _ hh4)) (at_ref' hb4) ?_
  walk_at"rd"
  refine⟨tn R0,b4,b2,atR X (tn R0),atR Z (tn R0),rfl,hO4.same s02,hN2,ok4.same s02,ok1,by omega,fun D1 ss1 H3 hD1 hP1 s3=>?_⟩
  walk_at"rd"
  refine rd_revL (SqL.of hD1) fun D2 nD2=>?_
  rw[← List.map_reverse]
  generalize hE:upd H3 D2 _=H4
  obtain⟨hD2,s4⟩:=newo nD2 hE
  clear hE
  walk_at"rd"
  rw[eR]
  refine⟨(by show 2≤sizeLine;decide),fun r1 nr1=>?_⟩
  generalize hE:upd H4 r1 _=H5
  obtain⟨hr1,s5⟩:=newo nr1 hE
  clear hE
  walk_at"rd"
  rw[eR]
  refine⟨(by show 3≤sizeLine;decide),fun r2 nr2=>?_⟩
  generalize hE:upd H5 r2 _=H6
  obtain⟨hr2,s6⟩:=newo nr2 hE
  clear hE
  walk_at"rd"
  refine⟨(by show 2≤sizeLine;decide),fun r3 nr3=>?_⟩
  generalize hE:upd H6 r3 _=H7
  obtain⟨hr3,s7⟩:=newo nr3 hE
  clear hE
  have l1:ss1.length≤131:=by
   rw[hP1.1]
   exact Nat.le_trans on_len (by have:=ok1.1;omega)
  walk_at"rd"
  refine⟨D2,r3,_,_,rfl,rfl,(s5.trans (s6.trans s7)) _ _ hD2,hr3,Nat.le_trans (show _≤1000 by rw[List.length_map,List.length_reverse];simp;omega) (by decide),fun D3 nD3=>?_⟩
  rw[show([V.ref r1,V.ref r2]:List V)=[r1,r2].map V.ref from rfl,← List.map_append]
  generalize hE:upd H7 D3 _=H8
  obtain⟨hD3,s8⟩:=newo nD3 hE
  clear hE
  have s38:=s4.trans (s5.trans (s6.trans (s7.trans s8)))
  have s28:=s3.trans s38
  have s08:=s02.trans s28
  have k28:∀t xs,H2 t=some (.tup xs)→H8 t=some (.tup xs):=fun _ _ e=>s28 _ _ e
  have en2:∀es∈atR X (tn R0),∀v∈es,En H2 v:=fun es he v hv=>((ok4.same s02).2 es he).2 v hv
  have yb2:=yb.same s02
  have ll:=lenJ yb2.b hR0 g1
  walk_at"rd"
  refine q D3 H8 ⟨_,atR Z (tn R0),[],hD3,?_,g1.keep k28,fun e=>absurd e (by decide),fun _=>rfl⟩ s08
  show P1 (StA H8) _ (backS H8 (tn R0) (atR X (tn R0)) (atR Z (tn R0)) ++ [St3.rooms R0,St3.cut R0 0])
  rw[back_keep k28 en2 g1.2,← on_back ll]
  refine P1.app (rev_P1 (hP1.imp fun s st h=>h.same s38)) (P1.app (P1.one (b:=r1) ?_) (P1.one (b:=r2) ?_))
  ·exact⟨(s6.trans (s7.trans s8)) _ _ hr1,by omega,by omega⟩
  ·exact⟨(s7.trans s8) _ _ hr2,by omega,by omega⟩
 | 2,_ =>
  rw[decide_eq_false (by decide +kernel)]
  walk_at"rd"
  refine⟨rfl,?_⟩
  rw[decide_eq_false (by decide +kernel)]
  walk_at"rd"
  refine⟨L,rfl,⟨_,SqL.of hL⟩,fun M nM=>?_⟩
  refine comp_list (xs:=as.map V.ref) (fun j σ' ys H'=>(∃x,σ'=[x,some (.int k)])∧Same H1 H'∧ys =((allV X).take j).filter (fun v=>!decide ((eD H v).1=k))∧H' M=some (.lst ys)) M ⟨⟨_,rfl⟩,same_new nM _,rfl,upd_same⟩ (fun i σ' ys H' _ h=>SqL.of (h.2.1 _ _ hL)) ?_ ?_
  ·rintro j x σ' ys H2 hx ⟨⟨z1,rfl⟩,s2,rfl,hD⟩
   rw[← ea]at hx
   have jl:=(List.getElem?_eq_some_iff.mp hx).1
   obtain⟨t,rfl,ht,_⟩:=(En.rows yb.en x (List.mem_of_getElem? hx)).pt
   have ht2:=s2 _ _ (s1 _ _ ht)
   walk_at"rd"
   refine rd_ifn (fun c=>?_) (fun c=>?_)
   ·walk_at"rd"
    refine⟨hD,?_,⟨_,rfl⟩,fun b o e=>by rw[upd_ne (ne_of_none e nM)];exact s2 _ _ e,?_,upd_same⟩
    ·refine small1000 (Nat.le_trans (List.length_filter_le _ _) ?_)
     rw[List.length_take];omega
    ·rw[take_get hx,List.filter_append,List.filter_cons,if_pos (by simp[c])];rfl
   ·refine⟨⟨_,rfl⟩,s2,?_,hD⟩
    rw[take_get hx,List.filter_append,List.filter_cons,if_neg (by simp[c])]
    simp
  rintro σ' ys H2 ⟨⟨z1,rfl⟩,s2,rfl,hM⟩
  rw[← ea,List.take_length]at hM
  obtain⟨ts,es',e1,eL',pE'⟩:=yb.oth k
  rw[show(allV X).filter (fun v=>!decide ((eD H v).1=k))=ts.map V.ref from e1]at hM
  have s02:=s1.trans s2
  have rl:=roomV_lt (k:=k) (R:=(R:Int)) (by omega)
  have er:=room_nat (k:=k) R1
  have nd':=esN_nd (k:=k) (z:=z) b.nd 2
  have el':(esN es k z 2).length≤27:=by show(dropE es k ++ [(k,z)]).length≤27;rw[List.length_append];have:=dropE_len (es:=es) (k:=k);simp;omega
  obtain⟨h',b4,bs4,hy4,hh4,hb4,hO4,ok4⟩:=yb.at (r:=(roomV k R).toNat) (by omega)
  rw[hy]at hy4
  cases hy4
  walk_at"rd"
  refine⟨k,R,rfl,kk.1,by omega,by omega,by omega,?_⟩
  walk_at"rd"
  refine⟨rfl,?_⟩
  rw[decide_eq_false (by decide +kernel)]
  walk_at"rd"
  refine⟨(by show 2≤sizeLine;decide),fun r1 nr1=>?_⟩
  generalize hE:upd H2 r1 _=H3
  obtain⟨hr1,s3⟩:=newo nr1 hE
  clear hE
  walk_at"rd"
  refine⟨(by show 1≤sizeLine;decide),fun r2 nr2=>?_⟩
  generalize hE:upd H3 r2 _=H4
  obtain⟨hr2,s4⟩:=newo nr2 hE
  clear hE
  have lm:ts.length≤26:=by rw[eL'.1,pE'.length_eq];exact Nat.le_trans dropE_len el
  walk_at"rd"
  refine⟨M,r2,_,_,rfl,rfl,(s3.trans s4) _ _ hM,hr2,Nat.le_trans (show _≤1000 by rw[List.length_map];simp;omega) (by decide),fun M2 nM2=>?_⟩
  rw[show([V.ref r1]:List V)=[r1].map V.ref from rfl,← List.map_append]
  generalize hE:upd H4 M2 _=H5
  obtain⟨hM2,s5⟩:=newo nM2 hE
  clear hE
  have s25:=s3.trans (s4.trans s5)
  have pE2:(es' ++ [(k,z)]).Perm (esN es k z 2):=pE'.append_right _
  have eL2:EL H5 (ts ++ [r1]) (es' ++ [(k,z)]):=(eL'.same (s02.trans s25)).snoc ⟨(s4.trans s5) _ _ hr1,zz.1,kk.1,kk.2,zz.2⟩
  walk_at"rd"
  refine⟨w,R,M2,_,_,rfl,hM2,eL2,((pE2.map _).nodup_iff).mpr nd',by rw[pE2.length_eq];omega,w1,w2,by omega,by omega,fun y2 Z H6 hZ cl s6=>?_⟩
  have cl:=cl.perm pE2
  have s26:=s25.trans s6
  obtain⟨t2,b2,bs2,hy2,ht2,hb2,hN2,g1,ok1⟩:=clean_at hZ cl nd' w1 w2 (by omega) (by omega) (r:=(roomV k R).toNat) (by omega)
  have s06:=s02.trans s26
  walk_at"rd"
  rw[← er]
  refine rd_ixL (SqL.of ht2) (at_ref' hb2) ?_
  walk_at"rd"
  refine rd_ixL (SqL.of (s06 _ _ hh4)) (at_ref' hb4) ?_
  walk_at"rd"
  refine⟨(roomV k R).toNat,b4,b2,_,_,rfl,hO4.same s06,hN2,ok4.same s06,ok1,by omega,fun D1 ss1 H7 hD1 hP1 s7=>?_⟩
  have k67:∀t xs,H6 t=some (.tup xs)→H7 t=some (.tup xs):=fun _ _ e=>s7 _ _ e
  have en2:∀es∈atR X (roomV k R).toNat,∀v∈es,En H6 v:=fun es he v hv=>((ok4.same s06).2 es he).2 v hv
  have s07:=s06.trans s7
  walk_at"rd"
  refine rd_revL (SqL.of hD1) fun D2 nD2=>?_
  rw[← List.map_reverse]
  generalize hE:upd H7 D2 _=H8
  obtain⟨hD2,s8⟩:=newo nD2 hE
  clear hE
  have k68:∀t xs,H6 t=some (.tup xs)→H8 t=some (.tup xs):=fun _ _ e=>(s7.trans s8) _ _ e
  have yb6:=yb.same s06
  have ll:=lenP yb6.b g1
  walk_at"rd"
  refine q D2 H8 ⟨_,atR Z (roomV k R).toNat,[],hD2,?_,g1.keep k68,fun e=>absurd e (by decide),fun _=>rfl⟩ (s07.trans s8)
  show P1 (StA H8) _ (backS H8 (roomV k R).toNat (atR X (roomV k R).toNat) (atR Z (roomV k R).toNat))
  rw[back_keep k68 en2 g1.2,← on_back ll]
  exact rev_P1 (hP1.imp fun s st h=>h.same s8)
 | 3,_ =>
  rw[decide_eq_false (by decide +kernel)]
  walk_at"rd"
  refine⟨rfl,?_⟩
  rw[decide_eq_false (by decide +kernel)]
  walk_at"rd"
  refine⟨L,rfl,⟨_,SqL.of hL⟩,fun M nM=>?_⟩
  refine comp_list (xs:=as.map V.ref) (fun j σ' ys H'=>(∃x,σ'=[x,some (.int k)])∧Same H1 H'∧ys =((allV X).take j).filter (fun v=>!decide ((eD H v).1=k))∧H' M=some (.lst ys)) M ⟨⟨_,rfl⟩,same_new nM _,rfl,upd_same⟩ (fun i σ' ys H' _ h=>SqL.of (h.2.1 _ _ hL)) ?_ ?_
  ·rintro j x σ' ys H2 hx ⟨⟨z1,rfl⟩,s2,rfl,hD⟩
   rw[← ea]at hx
   have jl:=(List.getElem?_eq_some_iff.mp hx).1
   obtain⟨t,rfl,ht,_⟩:=(En.rows yb.en x (List.mem_of_getElem? hx)).pt
   have ht2:=s2 _ _ (s1 _ _ ht)
   walk_at"rd"
   refine rd_ifn (fun c=>?_) (fun c=>?_)
   ·walk_at"rd"
    refine⟨hD,?_,⟨_,rfl⟩,fun b o e=>by rw[upd_ne (ne_of_none e nM)];exact s2 _ _ e,?_,upd_same⟩
    ·refine small1000 (Nat.le_trans (List.length_filter_le _ _) ?_)
     rw[List.length_take];omega
    ·rw[take_get hx,List.filter_append,List.filter_cons,if_pos (by simp[c])];rfl
   ·refine⟨⟨_,rfl⟩,s2,?_,hD⟩
    rw[take_get hx,List.filter_append,List.filter_cons,if_neg (by simp[c])]
    simp
  rintro σ' ys H2 ⟨⟨z1,rfl⟩,s2,rfl,hM⟩
  rw[← ea,List.take_length]at hM
  obtain⟨ts,es',e1,eL',pE'⟩:=yb.oth k
  rw[show(allV X).filter (fun v=>!decide ((eD H v).1=k))=ts.map V.ref from e1]at hM
  have s02:=s1.trans s2
  have rl:=roomV_lt (k:=k) (R:=(R:Int)) (by omega)
  have er:=room_nat (k:=k) R1
  have nd':=esN_nd (k:=k) (z:=z) b.nd 3
  have el':(esN es k z 3).length≤27:=Nat.le_trans (dropE_len (es:=es) (k:=k)) (by omega)
  obtain⟨h',b4,bs4,hy4,hh4,hb4,hO4,ok4⟩:=yb.at (r:=(roomV k R).toNat) (by omega)
  rw[hy]at hy4
  cases hy4
  walk_at"rd"
  refine⟨k,R,rfl,kk.1,by omega,by omega,by omega,?_⟩
  walk_at"rd"
  refine⟨rfl,?_⟩
  rw[decide_eq_true (show V.str (wN 3)=V.str (Str.ofString "drop") from rfl)]
  walk_at"rd"
  refine⟨w,R,M,ts,es',rfl,hM,eL'.same s02,((pE'.map _).nodup_iff).mpr nd',by rw[pE'.length_eq];exact Nat.le_trans el' (by decide),w1,w2,by omega,by omega,fun y2 Z H6 hZ cl s26=>?_⟩
  have cl:IsCl w R (esN es k z 3) (yD H6 Z):=cl.perm pE'
  obtain⟨t2,b2,bs2,hy2,ht2,hb2,hN2,g1,ok1⟩:=clean_at hZ cl nd' w1 w2 (by omega) (by omega) (r:=(roomV k R).toNat) (by omega)
  have s06:=s02.trans s26
  walk_at"rd"
  rw[← er]
  refine rd_ixL (SqL.of ht2) (at_ref' hb2) ?_
  walk_at"rd"
  refine rd_ixL (SqL.of (s06 _ _ hh4)) (at_ref' hb4) ?_
  walk_at"rd"
  refine⟨(roomV k R).toNat,b4,b2,_,_,rfl,hO4.same s06,hN2,ok4.same s06,ok1,by omega,fun D1 ss1 H7 hD1 hP1 s7=>?_⟩
  have k67:∀t xs,H6 t=some (.tup xs)→H7 t=some (.tup xs):=fun _ _ e=>s7 _ _ e
  have en2:∀es∈atR X (roomV k R).toNat,∀v∈es,En H6 v:=fun es he v hv=>((ok4.same s06).2 es he).2 v hv
  have s07:=s06.trans s7
  walk_at"rd"
  refine q D1 H7 ⟨ss1,atR Z (roomV k R).toNat,[],hD1,?_,g1.keep k67,fun e=>absurd e (by decide),fun _=>rfl⟩ s07
  show P1 (StA H7) _ (onS H7 (roomV k R).toNat (atR X (roomV k R).toNat) (atR Z (roomV k R).toNat))
  rw[on_keep k67 en2 g1.2]
  exact hP1
theorem ok__law_asked_change {f:Addr}{fd:FuncData}(F:Fun K "_law_asked_change" "_law_asked_change" s__law_asked_change f fd) (mF:mg "_law_asked_change" = some (.ref f)) (bF:Binds K fd ["_law_yard", "_law_way", "_law_key_here", "_law_thing_here"] []) (T:Bl mg) (C_putting:Cal P w K mg base "putting" ["yard", "key", "thing"] 5 (sp_putting K)) (C_splitting:Cal P w K mg base "splitting" ["yard"] 5 (sp_splitting K)) (C_joining:Cal1 P w K mg base "joining" ["yard"] 4 (sp_joining K)) (C_dropping:Cal1 P w K mg base "dropping" ["yard", "key"] 5 (sp_dropping K)):Cal1 P w K mg base "_law_asked_change" ["_law_yard", "_law_way", "_law_key_here", "_law_thing_here"] 6 (sp__law_asked_change K):=by
 refine Cal1.of F mF bF sc__law_asked_change (fun vs H Q E h=>?_) (fun cdv A outer s H vs Q E hr h=>?_)
 ·obtain⟨y,w,R,X,es,k,z,wv,rfl,_⟩:=h;rfl
 obtain⟨y,w,R,X,es,k,z,wv,rfl,yb,hv,kk,zz,h0,q,q1,q3⟩:=h
 have b:=yb.b
 have R1:=b.R1
 have w1:=b.w1
 have w2:=yb.w2
 have R2:=yb.R2
 have el:=yb.el
 refine⟨_,(pss_cons (ps_if (pt_cmpR op_eq (pv 1) pe_str (nomark _)) (pss_one (ps_ret (pcl C_splitting (hr.mono (by decide)) (pa_cons (pv 0) pa_nil stx_Name)))) pss_nil)
   (pss_cons (ps_if (pt_cmpR op_eq (pv 1) pe_str (nomark _)) (pss_one (ps_ret (pcl1 C_joining (throws_def.passes fun _ _ _ z=>z) (hr.mono (by decide)) (pa_cons (pv 0) pa_nil stx_Name)))) pss_nil)
   (pss_cons (ps_if (pt_cmpR op_eq (pv 1) pe_str (nomark _)) (pss_one (ps_ret (pcl1 C_dropping (throws_def.passes fun _ _ _ z=>z) (hr.mono (by decide)) (pa_cons (pv 0) (pa_cons (pv 2) pa_nil stx_Name) stx_Name)))) pss_nil)
   (pss_one (ps_ret (pcl C_putting (hr.mono (by decide)) (pa_cons (pv 0) (pa_cons (pv 2) (pa_cons (pv 3) pa_nil stx_Name) stx_Name) stx_Name))))))),?_⟩
 rw[st__law_asked_change]
 walk_at"rd"
 refine⟨rfl,?_⟩
 match wv,hv with
 | 0,_ =>
  have t:=tn_is R1
  obtain⟨ok,fl,_⟩:=b.rows yb.en w2 (by omega) t.2
  rw[decide_eq_true (show V.str (wN 0)=V.str (Str.ofString "split") from rfl)]
  walk_at"rd"
  refine⟨y,w,R,X,rfl,yb.yd,b.xl,w1,w2,R1,h0 rfl,ok,by omega,fun D ss H' nD hD hP sm=>?_⟩
  have kt:∀t xs,H t=some (.tup xs)→H' t=some (.tup xs):=fun _ _ e=>sm _ _ e
  have g1:=rw_go b yb.en w2 (by omega) (n:=R) fun x=>room_new R1
  have g2:=rw_go b yb.en w2 (by omega) (n:=tn R) fun x=>room_old R1
  refine q (fun e=>absurd e (by decide)) (fun e=>absurd e (by decide)) D H' ⟨ss,_,_,hD,?_,g1.keep kt,fun _=>g2.keep kt,fun e=>absurd rfl e⟩ sm
  rw[canon_keep 0 kt yb.en g1.2 g2.2]
  exact hP.imp fun s st h=>h.same hid_le
 | 1,_ =>
  rw[decide_eq_false (by decide +kernel)]
  walk_at"rd"
  refine⟨rfl,?_⟩
  rw[decide_eq_true (show V.str (wN 1)=V.str (Str.ofString "join") from rfl)]
  walk_at"rd"
  by_cases c:R=1
  ·refine .inr ⟨y,w,X,rfl,?_,q1 rfl c⟩
   have:=yb.yd
   rw[c]at this
   exact this
  ·obtain⟨R0,e⟩ : ∃R0,R=R0+1:=⟨R-1,by omega⟩
   subst e
   have hR0:1≤R0:=by omega
   have t:=tn_is hR0
   obtain⟨ok,fl,_⟩:=b.rows yb.en w2 (by omega) (i:=tn R0) (by omega)
   obtain⟨ok2,fl2,_⟩:=b.rows yb.en w2 (by omega) (i:=R0) (by omega)
   obtain⟨f1,f2⟩:=join_few b yb.en w2 el hR0
   refine .inl ⟨y,w,R0,X,rfl,yb.yd,w1,w2,hR0,by omega,ok,ok2,f1,f2,joi_nd b yb.en w2 (by omega) hR0,fun D ss us H' nD hD pu su hP sm=>?_⟩
   have kt:∀t xs,H t=some (.tup xs)→H' t=some (.tup xs):=fun _ _ e=>sm _ _ e
   have g1:=rw_join b yb.en w2 (by omega) hR0 pu su
   refine q (fun _=>by omega) (fun e=>absurd e (by decide)) D H' ⟨ss,_,[],hD,?_,g1.keep kt,fun e=>absurd e (by decide),fun _=>rfl⟩ sm
   rw[canon_keep 1 kt yb.en g1.2 (fun _ h=>absurd h List.not_mem_nil)]
   exact hP.imp fun s st h=>h.same hid_le
 | 2,_ =>
  rw[decide_eq_false (by decide +kernel)]
  walk_at"rd"
  refine⟨rfl,?_⟩
  rw[decide_eq_false (by decide +kernel)]
  walk_at"rd"
  refine⟨rfl,?_⟩
  rw[decide_eq_false (by decide +kernel)]
  walk_at"rd"
  obtain⟨ok,fl,nd,_,_⟩:=own46 (k:=k) b.cl b.nd yb.en w1 w2 R1 (by omega)
  refine⟨y,w,R,X,k,z,rfl,yb.yd,kk,zz,w1,w2,R1,R2,ok,fl,nd,fun D ss t us H' nD hD ht pu su hP sm=>?_⟩
  have g1:=rw_put b yb.en w2 (by omega) sm kk zz ht pu su
  exact q (fun e=>absurd e (by decide)) (fun e=>absurd e (by decide)) D H' ⟨ss,_,[],hD,hP.imp fun s st h=>h.same hid_le,g1,fun e=>absurd e (by decide),fun _=>rfl⟩ sm
 | 3,_ =>
  rw[decide_eq_false (by decide +kernel)]
  walk_at"rd"
  refine⟨rfl,?_⟩
  rw[decide_eq_false (by decide +kernel)]
  walk_at"rd"
  refine⟨rfl,?_⟩
  rw[decide_eq_true (show V.str (wN 3)=V.str (Str.ofString "drop") from rfl)]
  walk_at"rd"
  obtain⟨ok,fl,nd,_,mo⟩:=own46 (k:=k) b.cl b.nd yb.en w1 w2 R1 (by omega)
  have km:k∈(rowD H (ownR X k R).flatten).map (·.1)↔k∈es.map (·.1):=by
   constructor
   ·intro h
    obtain⟨x,hx,rfl⟩:=List.mem_map.mp h
    exact List.mem_map.mpr ⟨x,((mo x).mp hx).1,rfl⟩
   ·intro h
    obtain⟨x,hx,rfl⟩:=List.mem_map.mp h
    exact List.mem_map.mpr ⟨x,(mo x).mpr ⟨hx,rfl⟩,rfl⟩
  refine⟨y,w,R,X,k,rfl,yb.yd,w1,w2,R1,R2,ok,fl,fun hk D ss H' nD hD hP sm=>?_,fun hk H3 u C s3 ru hC=>q3 rfl (fun z=>hk (km.mpr z)) H3 u C s3 ru hC⟩
  have kt:∀t xs,H t=some (.tup xs)→H' t=some (.tup xs):=fun _ _ e=>sm _ _ e
  have g1:=rw_drop (k:=k) (z:=z) b yb.en w2 (by omega)
  refine q (fun e=>absurd e (by decide)) (fun _=>km.mp hk) D H' ⟨ss,_,[],hD,?_,g1.keep kt,fun e=>absurd e (by decide),fun _=>rfl⟩ sm
  rw[canon_keep 3 kt yb.en g1.2 (fun _ h=>absurd h List.not_mem_nil)]
  exact hP.imp fun s st h=>h.same hid_le
theorem ok__law_near {f:Addr}{fd:FuncData}(F:Fun K "_law_near" "_law_near" s__law_near f fd) (mF:mg "_law_near" = some (.ref f)) (bF:Binds K fd ["_law_hand", "_law_many", "_law_near_here"] []) (T:Bl mg) (C__law_draw:Cal P w K mg base "_law_draw" ["_law_hand", "_law_many"] 1 (sp__law_draw K)) (C__law_thing:Cal P w K mg base "_law_thing" ["_law_hand"] 2 (sp__law_thing K)) (C__law_key:Cal P w K mg base "_law_key" ["_law_hand"] 3 (sp__law_key K)):Cal P w K mg base "_law_near" ["_law_hand", "_law_many", "_law_near_here"] 4 (sp__law_near K):=by
 refine Cal.of F mF bF sc__law_near (fun vs H Q E h=>?_) (fun cdv A outer s H vs Q E hr h=>?_)
 ·obtain⟨p,N,n,g,rfl,_⟩:=h;rfl
 obtain⟨p,N,n,g,rfl,hh,hN,n0,n1,g0,g1,q⟩:=h
 have e60:(2:Int)^60=1152921504606846976:=by decide
 refine⟨_,(pss_cons (ps_set (i:=3) sc__law_near.nd rfl (Or.inl rfl) (pe_lst pa_nil))
   (pss_cons (ps_for PassesOwn.never rfl (pi_range1 rfl T.range (pa_cons (pv 1) pa_nil stx_Name)) (pg_name (i:=4) sc__law_near.nd rfl (Or.inl rfl)) (pss_cons (ps_set (i:=5) sc__law_near.nd rfl (Or.inl rfl) (pe_op op_add (pe_op op_mul (pe_op op_fdivB (pcl C__law_key (hr.mono (by decide)) (pa_cons (pv 0) pa_nil stx_Name)) pe_int) pe_int) (pcl C__law_draw (hr.mono (by decide)) (pa_cons (pv 0) (pa_cons (pv 2) pa_nil stx_Name) stx_Name))))
   (pss_cons (ps_while PassesOwn.never (pt_cmpR op_in_seq (pv 5) (pv 3) (by with_unfolding_all rfl)) (pss_one (ps_set (i:=5) sc__law_near.nd rfl (Or.inl rfl) (pe_op op_mod (pe_op op_add (pv 5) pe_int) (pe_powC (c:=1152921504606846976) (by decide +kernel) ⟨by decide,by decide,by decide⟩)))))
   (pss_one (ps_expr (pe_bm PySem.F.plainAttrs_list PySem.F.slot_list_append PySem.F.type_list_append mt_append (pv 3) (pa_cons (pv 5) pa_nil stx_Name)))))))
   (pss_one (ps_ret (pe_comp rfl (blkOk (sc:=defScope s__law_near) (N:=["_law_hand", "_law_many", "_law_near_here", "_law_keys_here", "_law_k", "_law_key_here"]) (vs:=["_law_key_here"]) (fs:=["_law_hand"]) (js:=[0]) (by decide +kernel) rfl rfl) (pi_list (pv 3)) (fun _ _ _ _=>pg_name (i:=0) (show(["_law_key_here", "_law_hand"]:List Str).Nodup by decide +kernel) rfl (Or.inl rfl)) (fun _ _ _ _=>pif0) (fun _ _ _ _=>(pe_tup (pa_cons (pv 0) (pa_cons (pcl C__law_thing (hr.mono (by decide)) (pa_cons (pv 1) pa_nil stx_Name)) pa_nil stx_Call) stx_Name)))))))),?_⟩
 rw[st__law_near]
 walk_at"rd"
 refine⟨by decide,fun D nD=>?_⟩
 have ck:=CK.start (ys:=[]) hh nD
 generalize upd H D _=H1 at ck ⊢
 walk_at"rd"
 refine⟨n,rfl,by omega,by omega,?_⟩
 refine for_rangeO (n:=n.toNat) (fun i σ H'=>(∃x1 x2,σ=[some (.ref p),some (.int n),some (.int g),some (.ref D),x1,x2])∧∃ns:List Int,ns.Nodup∧(∀k∈ns,0≤k∧k<1152921504606846976)∧ns.length=i∧CK H p D (N+30*i) (ns.map V.int) H') ⟨⟨_,_,rfl⟩,[],List.nodup_nil,by simp,rfl,ck⟩ ?_ ?_
 ·rintro i σ H2 hi ⟨⟨x1,x2,rfl⟩,ns,nd,bd,len,ck⟩
  walk_at"rd"
  refine⟨p,_,rfl,ck.hh,by omega,fun v0 H3 v00 v01 hh3 k3=>?_⟩
  have ck:=ck.draw k3 hh3
  walk_at"rd"
  refine⟨p,_,g,rfl,ck.hh,by omega,by omega,by omega,fun dd H3b d0 d1 hh3b k3b=>?_⟩
  have ck:=ck.draw k3b hh3b
  have hD:=ck.lat
  walk_at"rd"
  have v0':0≤v0 / 16*16+dd:=by omega
  have v1':v0 / 16*16+dd<1152921504606846976:=by omega
  generalize v0 / 16*16+dd=v at v0' v1' ⊢
  obtain⟨m0,hm0⟩:=free16 (ks:=ns) (by omega) v
  refine⟨fun m σ H'=>H'=H3b∧∃v,σ=[some (.ref p),some (.int n),some (.int g),some (.ref D),some (.int (0+i)),some (.int v)]∧0≤v∧v<1152921504606846976∧(v+16*m)%1152921504606846976∉ns,⟨m0,rfl,v,rfl,v0',v1',hm0⟩,?_⟩
  rintro m σ H' ⟨rfl,v,rfl,u0,u1,hm⟩
  walk_at"rd"
  refine rd_inI (SqL.of hD) ?_
  walk_at"rd"
  refine rd_if (fun c=>?_) (fun c=>?_)
  ·refine⟨_,fun σ' H'' h=>h,?_⟩
   walk_at"rd"
   have hm1:m≠0:=fun e=>by
    subst e
    rw[show 16*((0:Nat):Int)=0 from rfl,Int.add_zero,Int.emod_eq_of_lt u0 u1]at hm
    exact hm c
   refine⟨m-1,by omega,rfl,(v+16)%1152921504606846976,rfl,by omega,by omega,?_⟩
   have e:((v+16)%1152921504606846976+16*((m-1:Nat):Int))%1152921504606846976 =(v+16*m)%1152921504606846976:=by omega
   rw[e];exact hm
  ·walk_at"rd"
   refine⟨.inl ⟨rfl,_,SqL.of hD⟩,?_⟩
   walk_at"rd"
   refine⟨D,_,_,rfl,rfl,hD,by rw[List.length_map];exact small1000 (by omega),?_⟩
   walk_at"rd"
   have ck:=ck.mono (M:=N+30*(i+1)) (by omega)
   refine⟨⟨_,_,rfl⟩,ns ++ [v],?_,fun k hk=>?_,by rw[List.length_append,len];rfl,?_⟩
   ·rw[List.nodup_append]
    exact⟨nd,by simp,fun a ha b hb e=>by simp at hb;rw[hb]at e;exact c (e ▸ ha)⟩
   ·rcases List.mem_append.mp hk with z|z
    ·exact bd k z
    ·simp at z;rw[z];exact⟨u0,u1⟩
   ·rw[List.map_append]
    exact ck.push
 ·rintro σ H2 ⟨⟨x1,x2,rfl⟩,ns,nd,bd,len,ck⟩
  have ck:=ck.mono (M:=N+4000) (by omega)
  have hD:=ck.lat
  have k02:=ck.kp
  walk_at"rd"
  refine⟨D,rfl,⟨_,SqL.of hD⟩,fun D2 nD2=>?_⟩
  refine comp_list (xs:=ns.map V.int) (fun j σ' ys H'=>(∃x,σ'=[x,some (.ref p)])∧j≤ns.length∧∃(ts:List Addr) (es:List (Int×Str)),ys=ts.map V.ref∧CK H2 p D2 (N+4000+30*j) ys H'∧EL H' ts es∧es.map (·.1)=ns.take j) D2 ⟨⟨_,rfl⟩,Nat.zero_le _,[],[],rfl,CK.start ck.hh nD2,P1.nil,rfl⟩ (fun i σ' ys H' _ h=>by
   obtain⟨_,_,ts,es,_,c,_⟩:=h
   exact SqL.of (c.kp.1 _ _ hD ck.np)) ?_ ?_
  ·rintro j x σ' ys H4 hx ⟨⟨z1,rfl⟩,jl,ts,es,rfl,ck4,el4,ek⟩
   obtain⟨k,hk,rfl⟩:=ints_get hx
   have jl2:=(List.getElem?_eq_some_iff.mp hk).1
   have kb:=bd k (List.mem_of_getElem? hk)
   have tl:ts.length=j:=by
    rw[el4.1,← List.length_map (f:=fun x:Int×Str=>x.1),ek,List.length_take];omega
   walk_at"rd"
   refine⟨p,_,rfl,ck4.hh,by omega,fun z H5 zo zl hh5 k5=>?_⟩
   have kt5:=kt_of ck4.hh k5
   have ck5:=ck4.draw k5 hh5
   walk_at"rd"
   refine⟨(by show 2≤sizeLine;decide),fun t nt=>?_⟩
   generalize hE7:upd H5 t _=H7
   have s7:=(newo nt hE7).2
   obtain⟨ck7,ht,tp,tD⟩:=ck5.new nt hE7
   clear hE7
   have kt8:∀t' xs,H7 t'=some (.tup xs)→(upd H7 D2 (.lst (ts.map V.ref ++ [V.ref t]))) t'=some (.tup xs):=fun t' xs e=>by rw[upd_ne (ne_of e ck7.lat (by intro z;cases z))];exact e
   have ck8:=(ck7.mono (M:=N+4000+30*(j+1)) (by omega)).push (zs:=ts.map V.ref ++ [V.ref t])
   refine⟨ck7.lat,by rw[List.length_map];exact small1000 (by omega),⟨_,rfl⟩,by omega,ts ++ [t],es ++ [(k,z)],by rw[List.map_append];rfl,ck8,?_,?_⟩
   ·exact P1.snoc (el4.keep fun t' xs e=>kt8 _ _ (s7 _ _ (kt5 _ _ e))) ⟨kt8 _ _ ht,zo,kb.1,kb.2,zl⟩
   ·rw[List.map_append,ek,take_get hk];rfl
  ·rintro σ' ys H4 ⟨⟨z1,rfl⟩,jl,ts,es,rfl,ck4,el4,ek⟩
   rw[List.length_map,List.take_length]at ek
   have ll:es.length=ns.length:=by rw[← ek,List.length_map]
   exact q D2 ts es H4 (k02.free nD2 (ck.hh.ne nD2)) ck4.lat el4 (by rw[ek];exact nd) (by omega) (ck4.hh.mono (by rw[List.length_map];omega)) (k02.trans ck4.kp)
theorem ok__law_places {f:Addr}{fd:FuncData}(F:Fun K "_law_places" "_law_places" s__law_places f fd) (mF:mg "_law_places" = some (.ref f)) (bF:Binds K fd ["_law_script", "_law_least", "_law_most"] []) (T:Bl mg)  : Cal P w K mg base "_law_places" ["_law_script", "_law_least", "_law_most"] 1 (sp__law_places K):=by
 refine Cal.of F mF bF sc__law_places (fun vs H Q E h=>?_) (fun cdv A outer s H vs Q E hr h=>?_)
 ·obtain⟨a,ns,l,m,rfl,_⟩:=h;rfl
 obtain⟨a,ns,l,m,rfl,ha,hl,l0,l1,m0,m1,q⟩:=h
 refine⟨_,(pss_one (ps_ret (pe_callTy (call_listR rfl) rfl T.list bt_list (pa_cons (pe_callTy call_rng1 rfl T.range bt_range (pa_cons (pe_callB (call_maxI rfl) rfl T.max bt_max (pa_cons (pv 1) (pa_cons (pe_callB (call_minI rfl) rfl T.min bt_min (pa_cons (pe_callB call_lenL rfl T.len bt_len (pa_cons (pv 0) pa_nil stx_Name)) (pa_cons (pv 2) pa_nil stx_Name) stx_Call)) pa_nil stx_Call) stx_Name)) pa_nil stx_Call)) pa_nil stx_Call)))),?_⟩
 rw[st__law_places]
 walk_at"rd"
 refine⟨a,_,rfl,.inl ha,?_⟩
 rw[List.length_map]
 walk_at"rd"
 refine rd_rngV fun r nr=>?_
 generalize hE:upd H r _=H1
 obtain⟨hr1,s1⟩:=newo nr hE
 clear hE
 walk_at"rd"
 refine⟨r,_,rfl,hr1,by omega,by omega,fun l' nl'=>?_⟩
 exact q _ l' _ (by omega) (s1.free nl') upd_same (s1.trans (same_new nl' _))
theorem ok__law_said {f:Addr}{fd:FuncData}(F:Fun K "_law_said" "_law_said" s__law_said f fd) (mF:mg "_law_said" = some (.ref f)) (bF:Binds K fd ["_law_yard", "_law_way", "_law_key_here", "_law_thing_here"] []) (T:Bl mg) {TE:Addr}{CE_Lacking:Addr}(XE_Lacking:XTxt K mg "Lacking" CE_Lacking TE "key") {CE_NoRoom:Addr}(XE_NoRoom:XTxt K mg "NoRoom" CE_NoRoom TE "number")  (XT:XTop K mg TE) (kt_nl:PySem.W.kitOne K (.ref CE_NoRoom) (.ref CE_Lacking)=some false) (kt_ln:PySem.W.kitOne K (.ref CE_Lacking) (.ref CE_NoRoom)=some false) (C__law_asked_change:Cal1 P w K mg base "_law_asked_change" ["_law_yard", "_law_way", "_law_key_here", "_law_thing_here"] 6 (sp__law_asked_change K)):Cal P w K mg base "_law_said" ["_law_yard", "_law_way", "_law_key_here", "_law_thing_here"] 7 (sp__law_said K):=by
 refine Cal.of F mF bF sc__law_said (fun vs H Q E h=>?_) (fun cdv A outer s H vs Q E hr h=>?_)
 ·obtain⟨y,w,R,X,es,k,z,wv,rfl,_⟩:=h;rfl
 obtain⟨y,w,R,X,es,k,z,wv,rfl,yb,hv,kk,zz,h0,q,q1,q3⟩:=h
 refine⟨_,(pss_cons (ps_cut (ps_try1 (i:=5) sc__law_said.nd rfl rfl rfl rfl rfl XT.mg (fun xe pn E1 thr=>(pss_one (ps_set (i:=4) sc__law_said.nd rfl (Or.inl rfl) (pcl1 C__law_asked_change (thr.passes fun _ _ _ z=>z) (hr.mono (by decide)) (pa_cons (pv 0) (pa_cons (pv 1) (pa_cons (pv 2) (pa_cons (pv 3) pa_nil stx_Name) stx_Name) stx_Name) stx_Name))))) (fun exx=>(pss_cons (ps_if (PW.pt (pw_and (pt_val (pe_callB (call_isiEK (K:=K) rfl) rfl T.isinstance bt_isinstance (pa_cons (pv 5) (pa_cons (pe_glob (v:=V.ref CE_NoRoom) rfl XE_NoRoom.mg (show L2.RelV (.ref CE_NoRoom) (.ref CE_NoRoom) from rfl)) pa_nil stx_Name) stx_Name))) (pw_and1 (pt_not (pt_val (pe_callB (call_isiEK (K:=K) rfl) rfl T.isinstance bt_isinstance (pa_cons (pv 5) (pa_cons (pe_glob (v:=V.ref CE_Lacking) rfl XE_Lacking.mg (show L2.RelV (.ref CE_Lacking) (.ref CE_Lacking) from rfl)) pa_nil stx_Name) stx_Name))))))) (pss_one (ps_ret (pe_tup (pa_cons pe_str (pa_cons (pe_xat (K:=K) rfl (pv 5) rfl) pa_nil stx_Attribute) stx_Constant)))) pss_nil)
   (pss_cons (ps_if (PW.pt (pw_and (pt_val (pe_callB (call_isiEK (K:=K) rfl) rfl T.isinstance bt_isinstance (pa_cons (pv 5) (pa_cons (pe_glob (v:=V.ref CE_Lacking) rfl XE_Lacking.mg (show L2.RelV (.ref CE_Lacking) (.ref CE_Lacking) from rfl)) pa_nil stx_Name) stx_Name))) (pw_and1 (pt_not (pt_val (pe_callB (call_isiEK (K:=K) rfl) rfl T.isinstance bt_isinstance (pa_cons (pv 5) (pa_cons (pe_glob (v:=V.ref CE_NoRoom) rfl XE_NoRoom.mg (show L2.RelV (.ref CE_NoRoom) (.ref CE_NoRoom) from rfl)) pa_nil stx_Name) stx_Name))))))) (pss_one (ps_ret (pe_tup (pa_cons pe_str (pa_cons (pe_xat (K:=K) rfl (pv 5) rfl) pa_nil stx_Attribute) stx_Constant)))) pss_nil)
   (pss_one (ps_ret (pe_tup (pa_cons pe_str (pa_cons pe_int pa_nil stx_Constant) stx_Constant)))))))))
   (pss_one (ps_ret (pe_tup (pa_cons pe_str (pa_cons (pv 4) pa_nil stx_Name) stx_Constant))))),?_⟩
 rw[st__law_said]
 walk_at"rd"
 refine cutO (fun σ H'=>∃(D:Addr) (y5:Option V),σ=[some (.ref y),some (.str (wN wv)),some (.int k),some (.str z),some (.ref D),y5]∧(wv=1→2≤R)∧(wv=3→k∈es.map (·.1))∧Told H' D X w R es k z wv∧Same H H') ?_ ?_
 ·intro Nx hNx
  refine⟨fun u C H0=>(C=some CE_NoRoom∧RelV (.int 0) u∧wv=1∧R=1∧Same H H0) ∨(C=some CE_Lacking∧RelV (.int k) u∧wv=3∧k∉es.map (·.1)∧Same H H0),?_,?_⟩
  ·walk_at"rd"
   refine⟨y,w,R,X,es,k,z,wv,rfl,yb,hv,kk,zz,h0,fun c1 c3 D H' td sm=>?_,fun c1 cR u C ru hC=>.inl ⟨?_,ru,c1,cR,Same.refl H⟩,fun c3 ck H3 u C s3 ru hC=>.inr ⟨?_,ru,c3,ck,s3⟩⟩
   ·walk_at"rd"
    exact⟨D,_,rfl,c1,c3,td,sm⟩
   ·rw[XE_NoRoom.nm]at hC;cases hC;rfl
   ·rw[XE_Lacking.nm]at hC;cases hC;rfl
  ·rintro u C H0 (⟨hC,ru,c1,cR,s0⟩|⟨hC,ru,c3,ck,s0⟩)
   ·cases hC
    refine⟨und_tail XE_NoRoom.xc XT.xc,fun e H' σ' a' v' rv xa ha s1 hl=>?_⟩
    obtain⟨z0,z1,z2,z3,z4,z5,rfl⟩:=stl6 hl
    obtain rfl:=ha _ XE_NoRoom.cls
    obtain rfl:=rv.inj ru
    walk_at"rd"
    refine rd_isiE xa XE_NoRoom.kit (cv:=.ref CE_NoRoom) (fun u h=>h) kit_self ?_
    walk_at"rd"
    refine rd_isiE xa XE_NoRoom.kit (cv:=.ref CE_Lacking) (fun u h=>h) kt_nl ?_
    walk_at"rd"
    refine⟨e,_,_,rfl,xa,XE_NoRoom.at_,?_⟩
    walk_at"rd"
    refine⟨(by show 2≤sizeLine;decide),fun t2 n2=>?_⟩
    generalize hE:upd H' t2 _=H3
    obtain⟨h3,s3⟩:=newo n2 hE
    clear hE
    walk_at"rd"
    exact q1 c1 cR t2 H3 h3 ((Same.trans s0 s1).trans s3)
   ·cases hC
    refine⟨und_tail XE_Lacking.xc XT.xc,fun e H' σ' a' v' rv xa ha s1 hl=>?_⟩
    obtain⟨z0,z1,z2,z3,z4,z5,rfl⟩:=stl6 hl
    obtain rfl:=ha _ XE_Lacking.cls
    obtain rfl:=rv.inj ru
    walk_at"rd"
    refine rd_isiE xa XE_Lacking.kit (cv:=.ref CE_NoRoom) (fun u h=>h) kt_ln ?_
    walk_at"rd"
    refine rd_isiE xa XE_Lacking.kit (cv:=.ref CE_Lacking) (fun u h=>h) kit_self ?_
    walk_at"rd"
    refine rd_isiE xa XE_Lacking.kit (cv:=.ref CE_NoRoom) (fun u h=>h) kt_ln ?_
    walk_at"rd"
    refine⟨e,_,_,rfl,xa,XE_Lacking.at_,?_⟩
    walk_at"rd"
    refine⟨(by show 2≤sizeLine;decide),fun t2 n2=>?_⟩
    generalize hE:upd H' t2 _=H3
    obtain⟨h3,s3⟩:=newo n2 hE
    clear hE
    walk_at"rd"
    exact q3 c3 ck t2 H3 h3 ((Same.trans s0 s1).trans s3)
 ·rintro σ H1 ⟨D,y5,rfl,c1,c3,td,sm⟩
  walk_at"rd"
  refine⟨(by show 2≤sizeLine;decide),fun t2 n2=>?_⟩
  generalize hE:upd H1 t2 _=H3
  obtain⟨h3,s3⟩:=newo n2 hE
  clear hE
  walk_at"rd"
  exact q c1 c3 D t2 H3 (td.same s3 (yb.en.same sm)) h3 (sm.trans s3)
theorem ok__law_right {f:Addr}{fd:FuncData}(F:Fun K "_law_right" "_law_right" s__law_right f fd) (mF:mg "_law_right" = some (.ref f)) (bF:Binds K fd ["_law_yard", "_law_way", "_law_key_here", "_law_thing_here"] []) (T:Bl mg) (C__law_copy:Cal P w K mg base "_law_copy" ["_law_yard"] 1 (sp__law_copy K)) (C__law_all_of:Cal P w K mg base "_law_all_of" ["_law_yard"] 1 (sp__law_all_of K)) (C__law_said:Cal P w K mg base "_law_said" ["_law_yard", "_law_way", "_law_key_here", "_law_thing_here"] 7 (sp__law_said K)) (C__law_clean:Cal P w K mg base "_law_clean" ["_law_wide", "_law_rooms", "_law_entries"] 2 (sp__law_clean K)) (C__law_is_yard:Cal P w K mg base "_law_is_yard" ["_law_got", "_law_due"] 2 (sp__law_is_yard K)) (C_done_all:Cal P w K mg base "done_all" ["yard", "steps"] 2 (sp_done_all K)) (C__law_change_due:Cal P w K mg base "_law_change_due" ["_law_yard", "_law_way", "_law_key_here", "_law_thing_here"] 3 (sp__law_change_due K)):Cal P w K mg base "_law_right" ["_law_yard", "_law_way", "_law_key_here", "_law_thing_here"] 8 (sp__law_right K):=by
 refine Cal.of F mF bF sc__law_right (fun vs H Q E h=>?_) (fun cdv A outer s H vs Q E hr h=>?_)
 ·obtain⟨y,w,R,X,es,k,z,wv,rfl,_⟩:=h;rfl
 obtain⟨y,w,R,X,es,k,z,wv,rfl,yb,hv,kk,zz,h0,q⟩:=h
 have hu:=hr.units
 have hu1:=hu_of hr
 have b:=yb.b
 have R1:=b.R1
 have w1:=b.w1
 have w2:=yb.w2
 have R2:=yb.R2
 have el:=yb.el
 obtain⟨h,hy,hX,_,_⟩:=yb.yd
 obtain⟨as,ea,eL,pE⟩:=yb.ents
 obtain⟨ts,es',e1,eL',pE'⟩:=yb.oth k
 have al:(allV X).length≤26:=by
  rw[ea,List.length_map,eL.1,pE.length_eq];exact el
 have nde:((flatP (yD H X)).map (·.1)).Nodup:=((pE.map _).nodup_iff).mpr b.nd
 obtain⟨is0,is1,is3⟩:=wn_is hv
 have las:as.length=es.length:=by rw[eL.1,pE.length_eq]
 have lts:ts.length =(dropE es k).length:=by rw[eL'.1,pE'.length_eq]
 refine⟨_,(pss_cons (ps_set (i:=4) sc__law_right.nd rfl (Or.inl rfl) (pcl C__law_copy (hr.mono (by decide)) (pa_cons (pv 0) pa_nil stx_Name)))
   (pss_cons (ps_set (i:=5) sc__law_right.nd rfl (Or.inl rfl) (pcl C__law_all_of (hr.mono (by decide)) (pa_cons (pv 0) pa_nil stx_Name)))
   (pss_cons (ps_setc (i:=6) sc__law_right.nd rfl rfl rfl (blkOk (sc:=defScope s__law_right) (N:=["_law_yard", "_law_way", "_law_key_here", "_law_thing_here", "_law_kept", "_law_entries", "_law_others", "_law_got", "_law_rooms", "_law_there", "_law_due"]) (vs:=["_law_entry"]) (fs:=["_law_key_here"]) (js:=[2]) (by decide +kernel) rfl rfl) (pi_list (pv 5)) (fun _ _ _ _=>pg_name (i:=0) (show(["_law_entry", "_law_key_here"]:List Str).Nodup by decide +kernel) rfl (Or.inl rfl)) (fun _ _ _ _=>pif1 (pt_cmpR op_ne (pe_ix (ix_tupK (K:=K) rfl) (pv 0) pe_int (fun _ _=>rfl)) (pv 1) (nomark _))) (fun _ _ _ _=>(pv 0)))
   (pss_cons (ps_set (i:=7) sc__law_right.nd rfl (Or.inl rfl) (pcl C__law_said (hr.mono (by decide)) (pa_cons (pv 0) (pa_cons (pv 1) (pa_cons (pv 2) (pa_cons (pv 3) pa_nil stx_Name) stx_Name) stx_Name) stx_Name)))
   (pss_cons (ps_if (pt_cmpR (op_neD hu) (pv 0) (pv 4) (nomark _)) (pss_one (ps_ret pe_bl)) pss_nil)
   (pss_cons (ps_if (PW.pt (pw_and (pt_cmpR op_eq (pv 1) pe_str (nomark _)) (pw_and1 (pt_cmpR op_eq (pe_ix ix_tup (pv 0) pe_int (fun _ _=>rfl)) pe_int (nomark _))))) (pss_one (ps_ret (pe_cmpR (op_eqD hu) (pv 7) (pe_tup (pa_cons pe_str (pa_cons pe_int pa_nil stx_Constant) stx_Constant)) (nomark _)))) pss_nil)
   (pss_cons (ps_if (PW.pt (pw_and (pt_cmpR op_eq (pv 1) pe_str (nomark _)) (pw_and1 (pt_cmpR op_eq (pe_callB call_lenL rfl T.len bt_len (pa_cons (pv 6) pa_nil stx_Name)) (pe_callB call_lenL rfl T.len bt_len (pa_cons (pv 5) pa_nil stx_Name)) (nomark _))))) (pss_one (ps_ret (pe_cmpR (op_eqD hu) (pv 7) (pe_tup (pa_cons pe_str (pa_cons (pv 2) pa_nil stx_Name) stx_Constant)) (nomark _)))) pss_nil)
   (pss_cons (ps_if (pt_cmpR (op_neD hu) (pv 7) (pe_tup (pa_cons pe_str (pa_cons (pcl C__law_change_due (hr.mono (by decide)) (pa_cons (pv 4) (pa_cons (pv 1) (pa_cons (pv 2) (pa_cons (pv 3) pa_nil stx_Name) stx_Name) stx_Name) stx_Name)) pa_nil stx_Call) stx_Constant)) (nomark _)) (pss_one (ps_ret pe_bl)) pss_nil)
   (pss_cons (ps_set (i:=8) sc__law_right.nd rfl (Or.inl rfl) (pe_op op_sub (pe_op op_add (pe_ix ix_tup (pv 0) pe_int (fun _ _=>rfl)) (pe_callTy call_intB rfl T.int bt_int (pa_cons (pe_cmpR op_eq (pv 1) pe_str (nomark _)) pa_nil stx_Compare))) (pe_callTy call_intB rfl T.int bt_int (pa_cons (pe_cmpR op_eq (pv 1) pe_str (nomark _)) pa_nil stx_Compare))))
   (pss_cons (ps_set (i:=9) sc__law_right.nd rfl (Or.inl rfl) (pe_disp (pps_cons pe_str (pe_op op_cat (pv 6) (pe_lst (pa_cons (pe_tup (pa_cons (pv 2) (pa_cons (pv 3) pa_nil stx_Name) stx_Name)) pa_nil stx_Tuple))) (pps_cons pe_str (pv 6) pps_nil)) rfl rfl (List.cons_ne_nil _ _) (Nat.le_of_ble_eq_true rfl)))
   (pss_cons (ps_set (i:=10) sc__law_right.nd rfl (Or.inl rfl) (pcl C__law_clean (hr.mono (by decide)) (pa_cons (pe_ix ix_tup (pv 0) pe_int (fun _ _=>rfl)) (pa_cons (pv 8) (pa_cons (pe_dget2 hu1 (pv 9) (pv 1) (pv 5) ⟨rfl,rfl,rfl,rfl⟩) pa_nil stx_Call) stx_Name) stx_Subscript)))
   (pss_one (ps_ret (pcl C__law_is_yard (hr.mono (by decide)) (pa_cons (pcl C_done_all (hr.mono (by decide)) (pa_cons (pv 0) (pa_cons (pe_ix ix_tup (pv 7) pe_int (fun _ _=>rfl)) pa_nil stx_Subscript) stx_Name)) (pa_cons (pv 10) pa_nil stx_Name) stx_Call))))))))))))))),?_⟩
 rw[st__law_right]
 walk_at"rd"
 refine⟨y,w,R,X,rfl,yb.yd,fun y' h' bs' H1 ny' hy' hT s1=>?_⟩
 have ybk:YB H1 y' w R X es:=by
  have z:=yb.same s1
  obtain⟨_,_,_,en1,sz1⟩:=z.yd
  exact⟨⟨h',hy',hT.r3,en1,sz1⟩,z.b,z.en,z.w2,z.R2,z.el,z.ok⟩
 walk_at"rd"
 refine⟨y,h,_,_,X,rfl,s1 _ _ hy,(hX.same s1).rms,by omega,fun L H2 nL hL s2=>?_⟩
 rw[ea]at hL
 walk_at"rd"
 refine⟨L,rfl,⟨_,SqL.of hL⟩,fun M nM=>?_⟩
 have s02:=s1.trans s2
 refine comp_list (xs:=as.map V.ref) (fun j σ' ys H'=>(∃x,σ'=[x,some (.int k)])∧Same H2 H'∧ys =((allV X).take j).filter (fun v=>!decide ((eD H v).1=k))∧H' M=some (.lst ys)) M ⟨⟨_,rfl⟩,same_new nM _,rfl,upd_same⟩ (fun i σ' ys H' _ h=>SqL.of (h.2.1 _ _ hL)) ?_ ?_
 ·rintro j x σ' ys H3 hx ⟨⟨z1,rfl⟩,s3,rfl,hD⟩
  rw[← ea]at hx
  have jl:=(List.getElem?_eq_some_iff.mp hx).1
  obtain⟨t,rfl,ht,_⟩:=(En.rows yb.en x (List.mem_of_getElem? hx)).pt
  have ht2:=s3 _ _ (s02 _ _ ht)
  walk_at"rd"
  refine rd_ifn (fun c=>?_) (fun c=>?_)
  ·walk_at"rd"
   refine⟨hD,?_,⟨_,rfl⟩,fun b o e=>by rw[upd_ne (ne_of_none e nM)];exact s3 _ _ e,?_,upd_same⟩
   ·refine small1000 (Nat.le_trans (List.length_filter_le _ _) ?_)
    rw[List.length_take];omega
   ·rw[take_get hx,List.filter_append,List.filter_cons,if_pos (by simp[c])];rfl
  ·refine⟨⟨_,rfl⟩,s3,?_,hD⟩
   rw[take_get hx,List.filter_append,List.filter_cons,if_neg (by simp[c])]
   simp
 rintro σ' ys H3 ⟨⟨z1,rfl⟩,s3,rfl,hM⟩
 rw[← ea,List.take_length,show(allV X).filter (fun v=>!decide ((eD H v).1=k))=ts.map V.ref from e1]at hM
 have s03:=s02.trans s3
 have hL3:=s3 _ _ hL
 walk_at"rd"
 refine⟨y,w,R,X,es,k,z,wv,rfl,yb.same s03,hv,kk,zz,h0,fun c1 c3 D t H4 td ht s4=>?_,fun c1 cR t H4 ht s4=>?_,fun c3 ck t H4 ht s4=>?_⟩
 ·walk_at"rd"
  have s04:=s03.trans s4
  have yb4:=yb.same s04
  have hy4:=s04 _ _ hy
  have hM4:=s4 _ _ hM
  have hL4:=s4 _ _ hL3
  have ybk4:=ybk.same (s2.trans (s3.trans s4))
  have ga:=yb4.yd.gd (K:=K)
  have gb:=ybk4.yd.gd (K:=K)
  refine⟨_,_,ga.1,gb.1,ga.shaped (by omega),gb.shaped (by omega),?_⟩
  rw[show PyData.eqv (dY H4 w R X) (dY H4 w R X)=true from ga.refl]
  walk_at"rd"
  refine⟨rfl,?_⟩
  rw[is1]
  refine⟨_,rfl,?_⟩
  refine if_j (fun c hB=>?_) ?_
  ·have:=c1 c
   walk_at"rd"
   rw[decide_eq_false (fun e=>by omega)]
   exact hB
  walk_at"rd"
  refine⟨rfl,?_⟩
  rw[is3]
  refine⟨_,rfl,?_⟩
  refine if_j (fun c hB=>?_) ?_
  ·have:=dropE_few (c3 c)
   walk_at"rd"
   rw[decide_eq_false (fun e=>by rw[List.length_map,List.length_map]at e;omega)]
   exact hB
  walk_at"rd"
  refine⟨y',w,R,X,es,k,z,wv,rfl,ybk4,hv,kk,zz,h0,c1,fun D2 H5 td2 s5=>?_⟩
  walk_at"rd"
  refine⟨(by show 2≤sizeLine;decide),fun p2 np2=>?_⟩
  generalize hE:upd H5 p2 _=H6
  obtain⟨hp2,s6⟩:=newo np2 hE
  clear hE
  have s56:=s5.trans s6
  have td6:=td.same s56 yb4.en
  have td26:=td2.same s6 (yb4.en.same s5)
  obtain⟨d,gd1,gd2⟩:=td6.data (K:=K) td26
  have ht6:=s56 _ _ ht
  have g3:GD K H6 7 (.ref t) _:=GD.tup ht6 (.cons (.str (by decide +kernel)) (.cons gd1 .nil))
  have g4:GD K H6 7 (.ref p2) _:=GD.tup hp2 (.cons (.str (by decide +kernel)) (.cons gd2 .nil))
  refine⟨_,_,g3.1,g4.1,g3.shaped (by omega),g4.shaped (by omega),?_⟩
  rw[g3.refl]
  have s06:=s04.trans s56
  have hy6:=s06 _ _ hy
  have hM6:=s56 _ _ hM4
  have hL6:=s56 _ _ hL4
  walk_at"rd"
  refine⟨rfl,?_⟩
  rw[is0]
  walk_at"rd"
  refine⟨rfl,?_⟩
  rw[is1]
  walk_at"rd"
  rw[rn_is hv c1]
  refine fun p3 np3=>rd_pairs2 ?_
  generalize hE:upd H6 p3 _=H7
  obtain⟨hp7,s7⟩:=newo np3 hE
  clear hE
  have hM7:=s7 _ _ hM6
  walk_at"rd"
  refine⟨(by show 2≤sizeLine;decide),fun r1 nr1=>?_⟩
  generalize hE:upd H7 r1 _=H8
  obtain⟨hr1,s8⟩:=newo nr1 hE
  clear hE
  walk_at"rd"
  refine⟨(by show 1≤sizeLine;decide),fun r2 nr2=>?_⟩
  generalize hE:upd H8 r2 _=H9
  obtain⟨hr2,s9⟩:=newo nr2 hE
  clear hE
  have hM9:=s9 _ _ (s8 _ _ hM7)
  have dl:=dropE_len (es:=es) (k:=k)
  walk_at"rd"
  refine⟨M,r2,_,_,rfl,rfl,hM9,hr2,Nat.le_trans (show _≤1000 by rw[List.length_map];simp;omega) (by decide),fun N nN=>?_⟩
  rw[show([V.ref r1]:List V)=[r1].map V.ref from rfl,← List.map_append]
  generalize hE:upd H9 N _=H10
  obtain⟨hN10,s10⟩:=newo nN hE
  clear hE
  walk_at"rd"
  have s70:=s8.trans (s9.trans s10)
  have hp10:=s70 _ _ hp7
  refine⟨hp10,[(Sum.inr (Str.ofString "put"),.ref N),(Sum.inr (Str.ofString "drop"),.ref M)],rfl,(by show 2≤15;decide),?_⟩
  generalize hE:upd H10 p3 _=H11
  have hp11:=(congrFun hE p3).symm.trans upd_same
  have k11:∀x o,x≠p3→H10 x=some o→H11 x=some o:=fun x o n e=>by rw[← hE,upd_ne n];exact e
  clear hE
  have s6b:Same H6 H11:=fun x o e=>k11 x o (ne_of_none e np3) ((s7.trans s70) _ _ e)
  have s0b:=s06.trans s6b
  have hN11:=k11 N _ (fun e=>by rw[e,(s8.trans s9) _ _ hp7]at nN;cases nN) hN10
  have hr11:=k11 r1 _ (fun e=>by rw[e,hp7]at nr1;cases nr1) ((s9.trans s10) _ _ hr1)
  have hy11:=s6b _ _ hy6
  have ht11:=s6b _ _ ht6
  have dM:∃(N':Addr) (ls:List Addr) (es2:List (Int×Str)),(if wv=2 then V.ref N else if wv=3 then V.ref M else V.ref L)=V.ref N'∧H11 N'=some (.lst (ls.map V.ref))∧EL H11 ls es2∧es2.Perm (esN es k z wv):=by
   match wv,hv with
   | 0,_=>exact⟨L,as,_,rfl,s6b _ _ hL6,eL.same s0b,pE⟩
   | 1,_=>exact⟨L,as,_,rfl,s6b _ _ hL6,eL.same s0b,pE⟩
   | 2,_=>exact⟨N,ts ++ [r1],es' ++ [(k,z)],rfl,hN11,(eL'.same s0b).snoc ⟨hr11,zz.1,kk.1,kk.2,zz.2⟩,pE'.append_right _⟩
   | 3,_=>exact⟨M,ts,es',rfl,s6b _ _ hM6,eL'.same s0b,pE'⟩
  obtain⟨N',ls,es2,eN',hN',eL2,pE2⟩:=dM
  have nd2:=esN_nd (k:=k) (z:=z) b.nd wv
  have len2:(esN es k z wv).length≤27:=by
   match wv,hv with
   | 0,_=>exact Nat.le_trans el (by decide)
   | 1,_=>exact Nat.le_trans el (by decide)
   | 2,_=>show(dropE es k ++ [(k,z)]).length≤27;rw[List.length_append];simp;omega
   | 3,_=>exact Nat.le_trans dl (by omega)
  have RN2:1≤RN R wv∧RN R wv≤131:=by
   match wv,hv with
   | 0,_=>show 1≤R+1∧R+1≤131;omega
   | 1,_=>have:=c1 rfl;show 1≤R-1∧R-1≤131;omega
   | 2,_=>show 1≤R∧R≤131;omega
   | 3,_=>show 1≤R∧R≤131;omega
  walk_at"rd"
  refine⟨p3,rfl,.inl ⟨_,.inl hp11⟩,?_⟩
  walk_at"rd"
  refine⟨_,DGet.k (k:=Sum.inr (wN wv)) hp11,?_⟩
  rw[there_is hv,eN']
  walk_at"rd"
  refine⟨w,RN R wv,N',ls,es2,rfl,hN',eL2,((pE2.map _).nodup_iff).mpr nd2,by rw[pE2.length_eq];omega,w1,w2,RN2.1,RN2.2,fun yz Z H12 hZ cl s12=>?_⟩
  have cl:=cl.perm pE2
  have s0c:=s0b.trans s12
  have yb12:=yb.same s0c
  have hy12:=s0c _ _ hy
  have ht12:=s12 _ _ ht11
  obtain⟨ss,n1,n2,t1,t2,t3,t4,t5⟩:=td6.same (s6b.trans s12) ((yb.same s06).en)
  walk_at"rd"
  refine⟨y,D,w,R,X,ss,_,rfl,yb12.yd,t1,t2,fun y5 h5 bs5 H13 hy5 hT5 s13=>?_⟩
  have kt:∀t xs,H12 t=some (.tup xs)→H13 t=some (.tup xs):=fun _ _ e=>s13 _ _ e
  have cf:=canon_fin (n2:=n2) wv hv yb12.b c1 t3 t4
  have en12:=stX_enA yb12.en t2
  obtain⟨tz,hz1,hz2,ez,_⟩:=hZ
  rw[cf.2]at hy5
  have g5:=yard_pd (K:=K) hy5 hT5.r3 (en12.same s13)
  have g6:=yard_pd (K:=K) (s13 _ _ hz1) (hz2.same s13) (ez.same s13)
  rw[yD_keep kt en12,IsCl.uniq nd2 cf.1 cl]at g5
  rw[yD_keep kt ez]at g6
  walk_at"rd"
  refine⟨y5,yz,h5,w,_,_,rfl,hy5,g5,g6,?_⟩
  walk_at"rd"
  exact q H13 (s0c.trans s13)
 ·walk_at"rd"
  have s04:=s03.trans s4
  have yb4:=yb.same s04
  have hy4:=s04 _ _ hy
  have hM4:=s4 _ _ hM
  have hL4:=s4 _ _ hL3
  have ybk4:=ybk.same (s2.trans (s3.trans s4))
  have ga:=yb4.yd.gd (K:=K)
  have gb:=ybk4.yd.gd (K:=K)
  refine⟨_,_,ga.1,gb.1,ga.shaped (by omega),gb.shaped (by omega),?_⟩
  rw[show PyData.eqv (dY H4 w R X) (dY H4 w R X)=true from ga.refl]
  walk_at"rd"
  refine⟨rfl,?_⟩
  rw[is1]
  rw[decide_eq_true c1]
  walk_at"rd"
  rw[decide_eq_true (by rw[cR];rfl)]
  walk_at"rd"
  refine⟨(by show 2≤sizeLine;decide),fun p2 np2=>?_⟩
  generalize hE:upd H4 p2 _=H5
  obtain⟨hp2,s5⟩:=newo np2 hE
  clear hE
  have g3:GD K H5 2 (.ref t) _:=GD.tup (s5 _ _ ht) (.cons (.str (by decide +kernel)) (.cons (.int _) .nil))
  have g4:GD K H5 2 (.ref p2) _:=GD.tup hp2 (.cons (.str (by decide +kernel)) (.cons (.int _) .nil))
  refine⟨_,_,g3.1,g4.1,g3.shaped (by omega),g4.shaped (by omega),?_⟩
  rw[g3.refl]
  walk_at"rd"
  exact q H5 (s04.trans s5)
 ·walk_at"rd"
  have s04:=s03.trans s4
  have yb4:=yb.same s04
  have hy4:=s04 _ _ hy
  have hM4:=s4 _ _ hM
  have hL4:=s4 _ _ hL3
  have ybk4:=ybk.same (s2.trans (s3.trans s4))
  have ga:=yb4.yd.gd (K:=K)
  have gb:=ybk4.yd.gd (K:=K)
  refine⟨_,_,ga.1,gb.1,ga.shaped (by omega),gb.shaped (by omega),?_⟩
  rw[show PyData.eqv (dY H4 w R X) (dY H4 w R X)=true from ga.refl]
  walk_at"rd"
  refine⟨rfl,?_⟩
  rw[is1]
  rw[decide_eq_false (show wv≠1 by omega)]
  walk_at"rd"
  refine⟨rfl,?_⟩
  rw[is3,decide_eq_true c3]
  walk_at"rd"
  have:=dropE_all ck
  rw[decide_eq_true (by rw[List.length_map,List.length_map,lts,las,this])]
  walk_at"rd"
  refine⟨(by show 2≤sizeLine;decide),fun p2 np2=>?_⟩
  generalize hE:upd H4 p2 _=H5
  obtain⟨hp2,s5⟩:=newo np2 hE
  clear hE
  have g3:GD K H5 2 (.ref t) _:=GD.tup (s5 _ _ ht) (.cons (.str (by decide +kernel)) (.cons (.int _) .nil))
  have g4:GD K H5 2 (.ref p2) _:=GD.tup hp2 (.cons (.str (by decide +kernel)) (.cons (.int _) .nil))
  refine⟨_,_,g3.1,g4.1,g3.shaped (by omega),g4.shaped (by omega),?_⟩
  rw[g3.refl]
  walk_at"rd"
  exact q H5 (s04.trans s5)
theorem ok_law {f:Addr} {fd:FuncData} (F:Fun K "law" "law" s_law f fd) (T:Bl mg) (C__law_places:Cal P w K mg base "_law_places" ["_law_script", "_law_least", "_law_most"] 1 (sp__law_places K)) (C__law_open:Cal P w K mg base "_law_open" ["_law_script", "_law_place"] 1 (sp__law_open K)) (C__law_draw:Cal P w K mg base "_law_draw" ["_law_hand", "_law_many"] 1 (sp__law_draw K)) (C__law_near:Cal P w K mg base "_law_near" ["_law_hand", "_law_many", "_law_near_here"] 4 (sp__law_near K)) (C__law_clean:Cal P w K mg base "_law_clean" ["_law_wide", "_law_rooms", "_law_entries"] 2 (sp__law_clean K)) (C__law_key:Cal P w K mg base "_law_key" ["_law_hand"] 3 (sp__law_key K)) (C__law_right:Cal P w K mg base "_law_right" ["_law_yard", "_law_way", "_law_key_here", "_law_thing_here"] 8 (sp__law_right K)) (C__law_thing:Cal P w K mg base "_law_thing" ["_law_hand"] 2 (sp__law_thing K)) (C__law_keys:Cal P w K mg base "_law_keys" ["_law_hand", "_law_many"] 4 (sp__law_keys K)) : FnOk P w K mg base CX0 9 f fd ["_law_script"] (sp_law K):=by
  refine F.ok sc_law (fun vs H Q E h=>?_) (fun cdv A outer s H vs Q E hr h=>?_)
  · obtain ⟨a,ns,rfl,_⟩:=h; rfl
  obtain ⟨a,ms,rfl,hS,hlen,q⟩:=h
  have hu:=hr.units
  refine ⟨_,(pss_cons (ps_for PassesOwn.never rfl (pi_list (pcl C__law_places (hr.mono (by decide)) (pa_cons (pv 0) (pa_cons pe_int (pa_cons pe_int pa_nil stx_Constant) stx_Constant) stx_Name))) (pg_name (i:=1) sc_law.nd rfl (Or.inl rfl)) (pss_cons (ps_set (i:=2) sc_law.nd rfl (Or.inr rfl) (pcl C__law_open (hr.mono (by decide)) (pa_cons (pv 0) (pa_cons (pv 1) pa_nil stx_Name) stx_Name)))
      (pss_cons (ps_set (i:=3) sc_law.nd rfl (Or.inl rfl) (pcl C__law_draw (hr.mono (by decide)) (pa_cons (pv 2) (pa_cons pe_int pa_nil stx_Constant) stx_Name)))
      (pss_cons (ps_set (i:=4) sc_law.nd rfl (Or.inl rfl) (pe_op op_add pe_int (pcl C__law_draw (hr.mono (by decide)) (pa_cons (pv 2) (pa_cons pe_int pa_nil stx_Constant) stx_Name))))
      (pss_cons (ps_cut (ps_if (pt_cmpR op_eq (pcl C__law_draw (hr.mono (by decide)) (pa_cons (pv 2) (pa_cons pe_int pa_nil stx_Constant) stx_Name)) pe_int (nomark _)) (pss_one (ps_set (i:=4) sc_law.nd rfl (Or.inl rfl) (pe_op op_add pe_int (pcl C__law_draw (hr.mono (by decide)) (pa_cons (pv 2) (pa_cons pe_int pa_nil stx_Constant) stx_Name))))) pss_nil))
      (pss_cons (ps_set (i:=5) sc_law.nd rfl (Or.inl rfl) (pe_op op_add pe_int (pcl C__law_draw (hr.mono (by decide)) (pa_cons (pv 2) (pa_cons pe_int pa_nil stx_Constant) stx_Name))))
      (pss_cons (ps_set (i:=6) sc_law.nd rfl (Or.inl rfl) (pcl C__law_draw (hr.mono (by decide)) (pa_cons (pv 2) (pa_cons pe_int pa_nil stx_Constant) stx_Name)))
      (pss_cons (ps_set (i:=7) sc_law.nd rfl (Or.inl rfl) (pcl C__law_near (hr.mono (by decide)) (pa_cons (pv 2) (pa_cons (pv 6) (pa_cons (pe_op op_add pe_int (pv 3)) pa_nil stx_BinOp) stx_Name) stx_Name)))
      (pss_cons (ps_cut (ps_if (pt_cmpR op_eq (pv 3) pe_int (nomark _)) (pss_one (ps_setc (i:=7) sc_law.nd rfl rfl rfl (blkOk (sc:=defScope s_law) (N:=["_law_script", "_law_place", "_law_hand", "_law_way", "_law_rooms", "_law_wide", "_law_many", "_law_entries", "_law_key_here", "_law_yard", "_law_new", "_law_asks", "_law_thing_here", "_law_change"]) (vs:=["_law_key_here"]) (fs:=["_law_hand"]) (js:=[2]) (by decide +kernel) rfl rfl) (pi_list (pcl C__law_keys (hr.mono (by decide)) (pa_cons (pv 2) (pa_cons (pv 6) pa_nil stx_Name) stx_Name))) (fun _ _ _ _=>pg_name (i:=0) (show (["_law_key_here", "_law_hand"] : List Str).Nodup by decide +kernel) rfl (Or.inl rfl)) (fun _ _ _ _=>pif0) (fun _ _ _ _=>(pe_tup (pa_cons (pv 0) (pa_cons (pcl C__law_thing (hr.mono (by decide)) (pa_cons (pv 1) pa_nil stx_Name)) pa_nil stx_Call) stx_Name))))) pss_nil))
      (pss_cons (ps_set (i:=9) sc_law.nd rfl (Or.inl rfl) (pcl C__law_clean (hr.mono (by decide)) (pa_cons (pv 5) (pa_cons (pv 4) (pa_cons (pv 7) pa_nil stx_Name) stx_Name) stx_Name)))
      (pss_cons (ps_set (i:=10) sc_law.nd rfl (Or.inl rfl) (pcl C__law_key (hr.mono (by decide)) (pa_cons (pv 2) pa_nil stx_Name)))
      (pss_cons (ps_set (i:=11) sc_law.nd rfl (Or.inl rfl) (pe_op op_cat (pe_lst (pa_cons (pe_tup (pa_cons pe_str (pa_cons (pv 10) (pa_cons pe_str pa_nil stx_Constant) stx_Name) stx_Constant)) pa_nil stx_Tuple)) (pe_op op_rep (pe_lst (pa_cons (pe_tup (pa_cons pe_str (pa_cons (pv 10) (pa_cons pe_str pa_nil stx_Constant) stx_Name) stx_Constant)) pa_nil stx_Tuple)) (pe_callTy call_intB rfl T.int bt_int (pa_cons (pe_cmpR op_lt (pv 4) pe_int (nomark _)) pa_nil stx_Compare)))))
      (pss_cons (ps_set (i:=11) sc_law.nd rfl (Or.inl rfl) (pe_op op_cat (pv 11) (pe_lst (pa_cons (pe_tup (pa_cons pe_str (pa_cons (pv 10) (pa_cons pe_str pa_nil stx_Constant) stx_Name) stx_Constant)) (pa_cons (pe_tup (pa_cons pe_str (pa_cons (pv 10) (pa_cons (pcl C__law_thing (hr.mono (by decide)) (pa_cons (pv 2) pa_nil stx_Name)) pa_nil stx_Call) stx_Name) stx_Constant)) (pa_cons (pe_tup (pa_cons pe_str (pa_cons (pv 10) (pa_cons pe_str pa_nil stx_Constant) stx_Name) stx_Constant)) pa_nil stx_Tuple) stx_Tuple) stx_Tuple))))
      (pss_cons (ps_for PassesOwn.never rfl (pi_list (pe_slice sl_list (pv 7) po_none (po_some pe_int))) (pg_tup rfl (pgs_cons (pg_name (i:=8) sc_law.nd rfl (Or.inl rfl)) (pgs_cons (pg_name (i:=12) sc_law.nd rfl (Or.inl rfl)) pgs_nil))) (pss_one (ps_set (i:=11) sc_law.nd rfl (Or.inl rfl) (pe_op op_cat (pv 11) (pe_lst (pa_cons (pe_tup (pa_cons pe_str (pa_cons (pv 8) (pa_cons (pcl C__law_thing (hr.mono (by decide)) (pa_cons (pv 2) pa_nil stx_Name)) pa_nil stx_Call) stx_Name) stx_Constant)) (pa_cons (pe_tup (pa_cons pe_str (pa_cons (pv 8) (pa_cons (pv 12) pa_nil stx_Name) stx_Name) stx_Constant)) (pa_cons (pe_tup (pa_cons pe_str (pa_cons (pv 8) (pa_cons pe_str pa_nil stx_Constant) stx_Name) stx_Constant)) pa_nil stx_Tuple) stx_Tuple) stx_Tuple))))))
      (pss_one (ps_for PassesOwn.never rfl (pi_list (pv 11)) (pg_tup rfl (pgs_cons (pg_name (i:=13) sc_law.nd rfl (Or.inl rfl)) (pgs_cons (pg_name (i:=8) sc_law.nd rfl (Or.inl rfl)) (pgs_cons (pg_name (i:=12) sc_law.nd rfl (Or.inl rfl)) pgs_nil)))) (pss_one (ps_if (pt_not (pt_val (pcl C__law_right (hr.mono (by decide)) (pa_cons (pv 9) (pa_cons (pv 13) (pa_cons (pv 8) (pa_cons (pv 12) pa_nil stx_Name) stx_Name) stx_Name) stx_Name)))) (pss_one (ps_ret pe_bl)) pss_nil))))))))))))))))))
      (pss_one (ps_ret pe_bl))),?_⟩
  rw [st_law]
  walk_at"rd"
  refine ⟨a,ms,6,24,rfl,hS,hlen,by omega,by omega,by omega,by omega,fun np' pl H15 npl nplH hpl s15=>?_⟩
  walk_at"rd"
  refine ⟨pl,rfl,⟨_,SqL.of hpl⟩,?_⟩
  refine for_listO (xs:=(upN np').map V.int) (fun i σ H'=>(∃ y1 y2 y3 y4 y5 y6 y7 y8 y9 y10 y11 y12 y13,σ = [some (.ref a),y1,y2,y3,y4,y5,y6,y7,y8,y9,y10,y11,y12,y13])∧Same H15 H') ⟨⟨_,_,_,_,_,_,_,_,_,_,_,_,_,rfl⟩,Same.refl H15⟩ (fun _ _ _ _ h=>SqL.of (h.2 _ _ hpl)) ?_ ?_
  · rintro i x σ H1 hx ⟨⟨y1,y2,y3,y4,y5,y6,y7,y8,y9,y10,y11,y12,y13,rfl⟩,sm⟩
    obtain ⟨iln,rfl⟩:=upN_get hx
    walk_at"rd"
    refine ⟨a,ms,i,rfl,(s15.trans sm).seq hS,hlen,by omega,by omega,fun p H2 np s2 hh2=>?_⟩
    walk_at"rd"
    refine ⟨p,_,3,rfl,hh2,by decide,by decide,by decide,fun way H3 f0 f1 hh3 k3=>?_⟩
    walk_at"rd"
    refine ⟨p,_,12,rfl,hh3,by decide,by decide,by decide,fun r0 H5 r00 r01 hh5 k5=>?_⟩
    have k25:=k3.trans k5
    walk_at"rd"
    refine cutO (fun σ H'=>∃ (R:Nat),σ = [some (.ref a),some (.int i),some (.ref p),some (.int way),some (.int R),y5,y6,y7,y8,y9,y10,y11,y12,y13]∧1 ≤ R∧R ≤ 130∧Hand H' p 1100010∧Kp H2 H' p) ?_ ?_
    · walk_at"rd"
      refine ⟨p,_,6,rfl,hh5,by omega,by decide,by decide,fun u0 H6 u00 u01 hh6 k6=>?_⟩
      walk_at"rd"
      refine rd_if (fun c=>?_) (fun c=>?_)
      · walk_at"rd"
        refine ⟨p,_,130,rfl,hh6,by omega,by decide,by decide,fun v0 H7 v00 v01 hh7 k7=>?_⟩
        walk_at"rd"
        refine ⟨(1 + v0).toNat,?_,by omega,by omega,hh7.mono (by omega),(k25.trans k6).trans k7⟩
        rw [show (((1 + v0).toNat:Nat) : Int) = 1 + v0 by omega]
      · walk_at"rd"
        refine ⟨(1 + r0).toNat,?_,by omega,by omega,hh6.mono (by omega),k25.trans k6⟩
        rw [show (((1 + r0).toNat:Nat) : Int) = 1 + r0 by omega]
    clear hh3 k3 hh5 k5 k25
    rintro σ H5 ⟨R0,rfl,R1,R2,hh5,k25⟩
    walk_at"rd"
    refine ⟨p,_,8,rfl,hh5,by omega,by decide,by decide,fun v0 H6 v00 v01 hh6 k6=>?_⟩
    walk_at"rd"
    obtain ⟨w,hw⟩ : ∃ w:Nat,1 + v0 = (w:Int):=⟨(1 + v0).toNat,by omega⟩
    have w1:1 ≤ w:=by omega
    have w2:w ≤ 8:=by omega
    rw [hw]
    refine ⟨p,_,25,rfl,hh6,by omega,by omega,by omega,fun many H8 m0 m1 hh8 k8=>?_⟩
    have k28:=(k25.trans k6).trans k8
    walk_at"rd"
    refine ⟨p,_,many,1 + way,rfl,hh8,by omega,m0,by omega,by omega,by omega,fun le ts0 es0 H9 nle hle el0 nd0 elen hh9 k9=>?_⟩
    have k29:=k28.trans k9
    walk_at"rd"
    refine cutO (fun σ H'=>∃ (l:Addr) (ts:List Addr) (es:List (Int × Str)),σ = [some (.ref a),some (.int i),some (.ref p),some (.int way),some (.int R0),some (.int w),some (.int many),some (.ref l),y8,y9,y10,y11,y12,y13]∧H' l = some (.lst (ts.map V.ref))∧EL H' ts es∧(es.map (·.1)).Nodup∧es.length ≤ 24∧Hand H' p 1200000∧Kp H2 H' p) ?_ ?_
    · walk_at"rd"
      refine rd_if (fun c=>?_) (fun c=>?_)
      · walk_at"rd"
        refine ⟨p,_,many,rfl,hh9,by omega,m0,by omega,fun D ns HA nD hD nd len bd hhA kA=>?_⟩
        have Dp:D ≠ p:=ints_ne hhA hD
        refine ⟨D,rfl,⟨_,SqL.of hD⟩,fun D2 nD2=>?_⟩
        refine comp_list (xs:=ns.map V.int) (fun j σ' ys H'=>(∃ x,σ' = [x,some (.ref p)])∧j ≤ ns.length∧∃ (ts:List Addr) (es:List (Int × Str)),ys = ts.map V.ref∧CK HA p D2 (1130000 + 30 * j) ys H'∧EL H' ts es∧es.map (·.1) = ns.take j) D2 ⟨⟨_,rfl⟩,Nat.zero_le _,[],[],rfl,(CK.start hhA nD2).mono (by omega),P1.nil,rfl⟩ (fun i σ' ys H' _ h=>by
          obtain ⟨_,_,ts,es,_,c,_⟩:=h
          exact SqL.of (c.kp.1 _ _ hD Dp)) ?_ ?_
        · rintro j x σ' ys HB hx ⟨⟨z1,rfl⟩,jl,ts,es,rfl,ck4,el4,ek⟩
          obtain ⟨k,hk,rfl⟩:=ints_get hx
          have jl2:=(List.getElem?_eq_some_iff.mp hk).1
          have kb:=bd k (List.mem_of_getElem? hk)
          have tl:ts.length = j:=by
            rw [el4.1,← List.length_map (f:=fun x:Int × Str=>x.1),ek,List.length_take]; omega
          walk_at"rd"
          refine ⟨p,_,rfl,ck4.hh,by omega,fun z HC zo zl hh5 k5=>?_⟩
          have kt5:=kt_of ck4.hh k5
          have ck5:=ck4.draw k5 hh5
          walk_at"rd"
          refine ⟨(by show 2 ≤ sizeLine; decide),fun t nt=>?_⟩
          generalize hE7:upd HC t _ = HD
          have s7:=(newo nt hE7).2
          obtain ⟨ck7,ht,tp,tD⟩:=ck5.new nt hE7
          clear hE7
          have kt8:∀ t' xs,HD t' = some (.tup xs)→(upd HD D2 (.lst (ts.map V.ref ++ [V.ref t]))) t' = some (.tup xs):=fun t' xs e=>by rw [upd_ne (ne_of e ck7.lat (by intro z; cases z))]; exact e
          have ck8:=(ck7.mono (M:=1130000 + 30 * (j + 1)) (by omega)).push (zs:=ts.map V.ref ++ [V.ref t])
          refine ⟨ck7.lat,by rw [List.length_map]; exact small1000 (by omega),⟨_,rfl⟩,by omega,ts ++ [t],es ++ [(k,z)],by rw [List.map_append]; rfl,ck8,?_,?_⟩
          · exact P1.snoc (el4.keep fun t' xs e=>kt8 _ _ (s7 _ _ (kt5 _ _ e))) ⟨kt8 _ _ ht,zo,kb.1,kb.2,zl⟩
          · rw [List.map_append,ek,take_get hk]; rfl
        · rintro σ' ys HB ⟨⟨z1,rfl⟩,jl,ts,es,rfl,ck4,el4,ek⟩
          rw [List.length_map,List.take_length] at ek
          have ll:es.length = ns.length:=by rw [← ek,List.length_map]
          walk_at"rd"
          exact ⟨D2,ts,es,rfl,ck4.lat,el4,by rw [ek]; exact nd,by omega,ck4.hh.mono (by rw [List.length_map]; omega),(k29.trans kA).trans ck4.kp⟩
      · walk_at"rd"
        exact ⟨le,ts0,es0,rfl,hle,el0,nd0,by omega,hh9.mono (by omega),k29⟩
    clear hle el0 nd0 elen hh9 k9 k29
    rintro σ HA ⟨l,ts,es,rfl,hl,el,nd,esl,hhA,k2A⟩
    have lp:l ≠ p:=refs_ne hhA hl
    walk_at"rd"
    refine ⟨w,R0,l,ts,es,rfl,hl,el,nd,by omega,w1,w2,R1,by omega,fun yd X HB hYd cl sB=>?_⟩
    have ybB:=YB.mk' hYd cl nd w1 w2 R1 R2 (by omega) el.okE
    clear hYd cl
    have hhB:=hhA.same sB
    have k2B:=k2A.trans (Kp.of sB hhA)
    have hlB:=sB _ _ hl
    have elB:=el.same sB
    walk_at"rd"
    refine ⟨p,_,rfl,hhB,by omega,fun key HC ke0 ke1 hhC kC=>?_⟩
    have key1 : key < 1152921504606846976 := by have : (2 : Int) ^ 60 = 1152921504606846976 := by decide
                                                omega
    have ybC:=ybB.kp hhB kC
    have k2C:=k2B.trans kC
    have hlC:=kC.1 _ _ hlB lp
    have elC:=elB.keep (kt_of hhB kC)
    walk_at"rd"
    refine ⟨(by show 3 ≤ sizeLine; decide),fun t1 nt1=>?_⟩
    generalize hE:upd HC t1 _ = HD
    obtain ⟨ht1,sD⟩:=newo nt1 hE
    clear hE
    walk_at"rd"
    refine ⟨(by show 1 ≤ sizeLine; decide),fun l1 nl1=>?_⟩
    generalize hE:upd HD l1 _ = HE
    obtain ⟨hl1,sE⟩:=newo nl1 hE
    clear hE
    walk_at"rd"
    refine ⟨(by show 3 ≤ sizeLine; decide),fun t2 nt2=>?_⟩
    generalize hE:upd HE t2 _ = HF
    obtain ⟨ht2,sF⟩:=newo nt2 hE
    clear hE
    walk_at"rd"
    refine ⟨(by show 1 ≤ sizeLine; decide),fun l2 nl2=>?_⟩
    generalize hE:upd HF l2 _ = HG
    obtain ⟨hl2,sG⟩:=newo nl2 hE
    clear hE
    walk_at"rd"
    have ak2:R0 < 130→AkA R0 HG t2 (0,key,Str.ofString ""):=fun c=>⟨sG _ _ ht2,(by show 0 ≤ 3; decide),⟨ke0,key1⟩,no_txt,fun _=>by omega⟩
    obtain ⟨qs,xq,eqs,ql,hPq⟩:=one_of ak2
    refine ⟨l2,_,_,rfl,rfl,hl2,by split <;> omega,by split <;> omega,Nat.le_trans (show _ ≤ 1000 by split <;> simp) (by decide),fun l3 nl3=>?_⟩
    rw [eqs]
    generalize hE:upd HG l3 _ = HI
    obtain ⟨hl3,sI⟩:=newo nl3 hE
    clear hE
    walk_at"rd"
    refine ⟨l1,l3,_,_,rfl,rfl,(sF.trans (sG.trans sI)) _ _ hl1,hl3,Nat.le_trans (show _ ≤ 1000 by rw [List.length_map]; simp; omega) (by decide),fun D1 nD1=>?_⟩
    rw [show ([V.ref t1] : List V) = [t1].map V.ref from rfl,← List.map_append]
    generalize hE:upd HI D1 _ = H30
    obtain ⟨hD1,s30⟩:=newo nD1 hE
    clear hE
    have sCx:=sD.trans (sE.trans (sF.trans (sG.trans (sI.trans s30))))
    have hh30:=hhC.same sCx
    have hP30:P1 (AkA R0 H30) ([t1] ++ qs) ([(1,key,Str.ofString "")] ++ xq):=P1.app (P1.one (ak_of 1 ((sE.trans (sF.trans (sG.trans (sI.trans s30)))) _ _ ht1) (by decide) (by decide) ⟨ke0,key1⟩ no_txt)) (hPq.imp fun _ _ h=>h.keep fun _ _ e=>(sI.trans s30) _ _ e)
    have qal:([t1] ++ qs).length ≤ 2:=by simp; omega
    generalize [t1] ++ qs = qa at hD1 hP30 qal
    generalize [(1,key,Str.ofString "")] ++ xq = xa at hP30
    have yb30:=ybC.same sCx
    have k30:=k2C.trans (Kp.of sCx hhC)
    have hl30:=sCx _ _ hlC
    have el30:=elC.same sCx
    clear hl1 hl2 hl3 ht1 ht2 ak2 hPq sD sE sF sG sI s30 sCx nt1 nt2 nl1 nl2 nl3
    have Dp:D1 ≠ p:=refs_ne hh30 hD1
    walk_at"rd"
    refine ⟨(by show 3 ≤ sizeLine; decide),fun t4 nt4=>?_⟩
    generalize hE:upd H30 t4 _ = H31
    obtain ⟨ht4,s31⟩:=newo nt4 hE
    clear hE
    walk_at"rd"
    refine ⟨p,_,rfl,hh30.same s31,by omega,fun z1 H32 zo1 zl1 hh32 k32=>?_⟩
    have kt32:=kt_of (hh30.same s31) k32
    walk_at"rd"
    refine ⟨(by show 3 ≤ sizeLine; decide),fun t5 nt5=>?_⟩
    generalize hE:upd H32 t5 _ = H33
    obtain ⟨ht5,s33⟩:=newo nt5 hE
    clear hE
    walk_at"rd"
    refine ⟨(by show 3 ≤ sizeLine; decide),fun t6 nt6=>?_⟩
    generalize hE:upd H33 t6 _ = H34
    obtain ⟨ht6,s34⟩:=newo nt6 hE
    clear hE
    walk_at"rd"
    refine ⟨(by show 3 ≤ sizeLine; decide),fun l4 nl4=>?_⟩
    generalize hE:upd H34 l4 _ = H35
    obtain ⟨hl4,s35⟩:=newo nl4 hE
    clear hE
    walk_at"rd"
    have kk35:Kp H30 H35 p:=((Kp.of s31 hh30).trans k32).trans (Kp.of (s33.trans (s34.trans s35)) hh32)
    refine ⟨D1,l4,_,_,rfl,rfl,kk35.1 _ _ hD1 Dp,hl4,Nat.le_trans (show _ ≤ 1000 by rw [List.length_map]; simp; omega) (by decide),fun D2 nD2=>?_⟩
    rw [show ([V.ref t4,V.ref t5,V.ref t6] : List V) = [t4,t5,t6].map V.ref from rfl,← List.map_append]
    generalize hE:upd H35 D2 _ = H36
    obtain ⟨hD2,s36⟩:=newo nD2 hE
    clear hE
    have s26:=s33.trans (s34.trans (s35.trans s36))
    have kk36:Kp H30 H36 p:=((Kp.of s31 hh30).trans k32).trans (Kp.of s26 hh32)
    have kt36:=kt_of hh30 kk36
    have hP36:P1 (AkA R0 H36) (qa ++ [t4,t5,t6]) (xa ++ [(1,key,Str.ofString ""),(2,key,z1),(3,key,Str.ofString "")]):=(hP30.imp fun _ _ h=>h.keep kt36).app (P1.app (P1.one (ak_of 1 (s26 _ _ (kt32 _ _ ht4)) (by decide) (by decide) ⟨ke0,key1⟩ no_txt)) (P1.app (P1.one (ak_of 2 ((s34.trans (s35.trans s36)) _ _ ht5) (by decide) (by decide) ⟨ke0,key1⟩ ⟨zo1,zl1⟩)) (P1.one (ak_of 3 ((s35.trans s36) _ _ ht6) (by decide) (by decide) ⟨ke0,key1⟩ no_txt))))
    have qal2:(qa ++ [t4,t5,t6]).length ≤ 5:=by simp; omega
    generalize qa ++ [t4,t5,t6] = qb at hD2 hP36 qal2
    generalize xa ++ [(1,key,Str.ofString ""),(2,key,z1),(3,key,Str.ofString "")] = xb at hP36
    have yb36:=yb30.kp hh30 kk36
    have k2x:=k30.trans kk36
    have hl36:=kk36.1 _ _ hl30 lp
    have el36:=el30.keep kt36
    have hh36:=hh32.same s26
    walk_at"rd"
    refine rd_slL (SqL.of hl36) fun lc nlc=>?_
    rw [show cutV (ts.map V.ref) none (some 2) = (ts.take 2).map V.ref from cut_hiR (k:=2)]
    generalize hE:upd H36 lc _ = H37
    obtain ⟨hlc,s37⟩:=newo nlc hE
    clear hE
    have hh37:=hh36.same s37
    have lcp:lc ≠ p:=refs_ne hh37 hlc
    refine ⟨lc,rfl,⟨_,SqL.of hlc⟩,?_⟩
    refine for_listO (xs:=(ts.take 2).map V.ref) (fun j σ H'=>∃ (D:Addr) (x8 x12:Option V) (qa:List Addr) (xa:List (Nat × Int × Str)),σ = [some (.ref a),some (.int i),some (.ref p),some (.int way),some (.int R0),some (.int w),some (.int many),some (.ref l),x8,some (.ref yd),some (.int key),some (.ref D),x12,y13]∧j ≤ 2∧H' D = some (.lst (qa.map V.ref))∧P1 (AkA R0 H') qa xa∧qa.length ≤ 5 + 3 * j∧YB H' yd w R0 X es∧H' lc = some (.lst ((ts.take 2).map V.ref))∧EL H' ts es∧Hand H' p (1200100 + 100 * j)∧Kp H2 H' p) ⟨D2,_,_,qb,xb,rfl,by omega,s37 _ _ hD2,hP36.imp fun _ _ h=>h.keep fun _ _ e=>s37 _ _ e,by omega,yb36.same s37,hlc,el36.same s37,hh37.mono (by omega),k2x.trans (Kp.of s37 hh36)⟩ (fun _ _ _ _ h=>by
      obtain ⟨_,_,_,_,_,_,_,_,_,_,_,h1,_⟩:=h
      exact SqL.of h1) ?_ ?_
    · clear hlc hD2 hP36 qal2 yb36 el36 hh36 hh37 k2x s37 hl36 hD1 hP30 hh30 yb30 k30 hl30 el30 hh32 k32 kt32 ht4 ht5 ht6 hl4 kk35 kk36 kt36 s26
      rintro j x σ H40 hx ⟨D,x8,x12,qa,xa,rfl,j2,hD,hP,qal,yb,hlc,el,hh,kE⟩
      obtain ⟨t0,ht0,rfl⟩:=refs_get hx
      have jl:=(List.getElem?_eq_some_iff.mp ht0).1
      rw [List.length_take] at jl
      rw [List.getElem?_take,if_pos (by omega)] at ht0
      obtain ⟨e,he,ht,eo,e0,e1,ez⟩:=el.get ht0
      have Dp:D ≠ p:=refs_ne hh hD
      walk_at"rd"
      refine ⟨t0,_,rfl,SqT.of ht,rfl,_,_,rfl,_,_,rfl,rfl,?_⟩
      walk_at"rd"
      refine ⟨p,_,rfl,hh,by omega,fun z1 H42 zo1 zl1 hh42 k42=>?_⟩
      have kt42:=kt_of hh k42
      walk_at"rd"
      refine ⟨(by show 3 ≤ sizeLine; decide),fun t7 nt7=>?_⟩
      generalize hE:upd H42 t7 _ = H43
      obtain ⟨ht7,s43⟩:=newo nt7 hE
      clear hE
      walk_at"rd"
      refine ⟨(by show 3 ≤ sizeLine; decide),fun t8 nt8=>?_⟩
      generalize hE:upd H43 t8 _ = H44
      obtain ⟨ht8,s44⟩:=newo nt8 hE
      clear hE
      walk_at"rd"
      refine ⟨(by show 3 ≤ sizeLine; decide),fun t9 nt9=>?_⟩
      generalize hE:upd H44 t9 _ = H45
      obtain ⟨ht9,s45⟩:=newo nt9 hE
      clear hE
      walk_at"rd"
      refine ⟨(by show 3 ≤ sizeLine; decide),fun l5 nl5=>?_⟩
      generalize hE:upd H45 l5 _ = H46
      obtain ⟨hl5,s46⟩:=newo nl5 hE
      clear hE
      walk_at"rd"
      have s26:=s43.trans (s44.trans (s45.trans s46))
      refine ⟨D,l5,_,_,rfl,rfl,s26 _ _ (k42.1 _ _ hD Dp),hl5,Nat.le_trans (show _ ≤ 1000 by rw [List.length_map]; simp; omega) (by decide),fun D3 nD3=>?_⟩
      rw [show ([V.ref t7,V.ref t8,V.ref t9] : List V) = [t7,t8,t9].map V.ref from rfl,← List.map_append]
      generalize hE:upd H46 D3 _ = H47
      obtain ⟨hD3,s47⟩:=newo nD3 hE
      clear hE
      have s27:=s26.trans s47
      have kk:=k42.trans (Kp.of s27 hh42)
      have kt:=kt_of hh kk
      walk_at"rd"
      refine ⟨D3,_,_,qa ++ [t7,t8,t9],xa ++ [(2,e.1,z1),(2,e.1,e.2),(3,e.1,Str.ofString "")],rfl,by omega,hD3,?_,by simp; omega,yb.kp hh kk,kk.1 _ _ hlc lcp,el.keep kt,(hh42.same s27).mono (by omega),kE.trans kk⟩
      refine (hP.imp fun _ _ h=>h.keep kt).app (P1.app (P1.one (ak_of 2 ((s44.trans (s45.trans (s46.trans s47))) _ _ ht7) (by decide) (by decide) ⟨e0,e1⟩ ⟨zo1,zl1⟩)) (P1.app (P1.one (ak_of 2 ((s45.trans (s46.trans s47)) _ _ ht8) (by decide) (by decide) ⟨e0,e1⟩ ⟨eo,ez⟩)) (P1.one (ak_of 3 ((s46.trans s47) _ _ ht9) (by decide) (by decide) ⟨e0,e1⟩ no_txt))))
    clear hlc hD2 hP36 qal2 yb36 el36 hh36 hh37 k2x s37 hl36 hD1 hP30 hh30 yb30 k30 hl30 el30 hh32 k32 kt32 ht4 ht5 ht6 hl4 kk35 kk36 kt36 s26
    rintro σ H40 ⟨D,x8,x12,qa,xa,rfl,j2,hD,hP,qal,yb,hlc,el,hh,kE⟩
    walk_at"rd"
    refine ⟨D,rfl,⟨_,SqL.of hD⟩,?_⟩
    refine for_listO (xs:=qa.map V.ref) (fun j σ H'=>(∃ x8 x12 x13,σ = [some (.ref a),some (.int i),some (.ref p),some (.int way),some (.int R0),some (.int w),some (.int many),some (.ref l),x8,some (.ref yd),some (.int key),some (.ref D),x12,x13])∧Same H40 H') ⟨⟨_,_,_,rfl⟩,Same.refl H40⟩ (fun _ _ _ _ h=>SqL.of (h.2 _ _ hD)) ?_ ?_
    · rintro j x σ H50 hx ⟨⟨x8,x12,x13,rfl⟩,s50⟩
      obtain ⟨t0,ht0,rfl⟩:=refs_get hx
      obtain ⟨⟨wv,k,z⟩,he,ht,h3,kk,zz,h0⟩:=hP.get ht0
      have ht:=s50 _ _ ht
      walk_at"rd"
      refine ⟨t0,_,rfl,SqT.of ht,rfl,_,_,rfl,_,_,rfl,_,_,rfl,rfl,?_⟩
      walk_at"rd"
      refine ⟨yd,w,R0,X,es,k,z,wv,rfl,yb.same s50,h3,kk,zz,h0,fun H51 s51=>?_⟩
      walk_at"rd"
      exact ⟨⟨_,_,_,rfl⟩,s50.trans s51⟩
    · rintro σ H50 ⟨⟨x8,x12,x13,rfl⟩,s50⟩
      walk_at"rd"
      exact ⟨⟨_,_,_,_,_,_,_,_,_,_,_,_,_,rfl⟩,Kp.new (sm.trans s2) (sm.free np) (kE.trans (Kp.of s50 hh))⟩
  · rintro σ H' ⟨⟨y1,y2,y3,y4,y5,y6,y7,y8,y9,y10,y11,y12,y13,rfl⟩,s1⟩
    walk_at"rd"
    exact q _
end
theorem all_mk {l:PySem.W.OpenLaw}{w:World}{K:PySem.W.Frag}{h:Heap}{mg:Str→Option Value}{fa:Addr}(X:K.In h) (G:h.Ns mainGlobals mg) (hfa:mg "law" = some (.ref fa))
  (g0:Ga K "last_bits" s_last_bits)
  (g1:Ga K "level" s_level)
  (g2:Ga K "turn" s_turn)
  (g3:Ga K "bits_for" s_bits_for)
  (g4:Ga K "room_of" s_room_of)
  (g5:Ga K "split_of" s_split_of)
  (g6:Ga K "joined_of" s_joined_of)
  (g7:Ga K "rows_for" s_rows_for)
  (g8:Ga K "cut_rows" s_cut_rows)
  (g9:Ga K "entries_in" s_entries_in)
  (g10:Ga K "rows_at" s_rows_at)
  (g11:Ga K "done_all" s_done_all)
  (g12:Ga K "lay_row" s_lay_row)
  (g13:Ga K "cut_room" s_cut_room)
  (g14:Ga K "leave_last_rooms" s_leave_last_rooms)
  (g15:Ga K "unlike_rows" s_unlike_rows)
  (g16:Ga K "onward" s_onward)
  (g17:Ga K "backward" s_backward)
  (g18:Ga K "splitting" s_splitting)
  (g19:Ga K "joining" s_joining)
  (g20:Ga K "putting" s_putting)
  (g21:Ga K "dropping" s_dropping)
  (g22:Ga K "others_in" s_others_in)
  (g23:Ga K "_law_open" s__law_open)
  (g24:Ga K "_law_draw" s__law_draw)
  (g25:Ga K "_law_far" s__law_far)
  (g26:Ga K "_law_power" s__law_power)
  (g27:Ga K "_law_key" s__law_key)
  (g28:Ga K "_law_thing" s__law_thing)
  (g29:Ga K "_law_keys" s__law_keys)
  (g30:Ga K "_law_whole" s__law_whole)
  (g31:Ga K "_law_top" s__law_top)
  (g32:Ga K "_law_room" s__law_room)
  (g33:Ga K "_law_cut" s__law_cut)
  (g34:Ga K "_law_clean" s__law_clean)
  (g35:Ga K "_law_all_of" s__law_all_of)
  (g36:Ga K "_law_copy" s__law_copy)
  (g37:Ga K "_law_is_yard" s__law_is_yard)
  (g38:Ga K "_law_onward" s__law_onward)
  (g39:Ga K "_law_change_due" s__law_change_due)
  (g40:Ga K "_law_asked_change" s__law_asked_change)
  (g41:Ga K "_law_near" s__law_near)
  (g42:Ga K "_law_places" s__law_places)
  (g43:Ga K "_law_said" s__law_said)
  (g44:Ga K "_law_right" s__law_right)
  {f45:Addr}{od45 an45:Option Addr}{sl45:Array (Option Value)}{oc45 kV45 dc45 pm45 cd45 ct45:Value}(a45:PySem.W.nsIn K mainGlobals "law" = some (some (.ref f45))) (l45:K.lookup f45=some ⟨oc45,od45,.func (PySem.W.fnOf "law" "law" (defArgs s_law) (defBody s_law) (defScope s_law) .none kV45 dc45 pm45 an45 cd45 ct45),sl45⟩) (c45:PySem.W.codeIn K cd45 "law" = true) (k45:PySem.W.keepIn K (.ref f45)=true)
  {TE:Addr}(gT:GaT K TE)
  {CE_Lacking:Addr}(gx_Lacking:GaX K "Lacking" CE_Lacking TE "key")
  {CE_NoRoom:Addr}(gx_NoRoom:GaX K "NoRoom" CE_NoRoom TE "number")
  (kt_nl:PySem.W.kitOne K (.ref CE_NoRoom) (.ref CE_Lacking)=some false)
  (kt_ln:PySem.W.kitOne K (.ref CE_Lacking) (.ref CE_NoRoom)=some false)
  (z_max:PySem.W.nsIn K mainGlobals "max" = some none)
  (z_range:PySem.W.nsIn K mainGlobals "range" = some none)
  (z_len:PySem.W.nsIn K mainGlobals "len" = some none)
  (z_list:PySem.W.nsIn K mainGlobals "list" = some none)
  (z_enumerate:PySem.W.nsIn K mainGlobals "enumerate" = some none)
  (z_sorted:PySem.W.nsIn K mainGlobals "sorted" = some none)
  (z_abs:PySem.W.nsIn K mainGlobals "abs" = some none)
  (z_isinstance:PySem.W.nsIn K mainGlobals "isinstance" = some none)
  (z_int:PySem.W.nsIn K mainGlobals "int" = some none)
  (z_bool:PySem.W.nsIn K mainGlobals "bool" = some none)
  (z_tuple:PySem.W.nsIn K mainGlobals "tuple" = some none)
  (z_min:PySem.W.nsIn K mainGlobals "min" = some none)
  : ∃fd:FuncData,(∀(s:Shared) (v:Value),BindsTo s fd ⟨[v],[]⟩ [("_law_script",v)])∧∀base:Heap,K.In base→base.Ns mainGlobals mg→FnOk l.prog w K mg base CX0 9 fa fd ["_law_script"] (sp_law K):=by
 have e:=hfa.symm.trans (PySem.W.mg_of X G a45)
 cases e
 have T:Bl mg:=⟨PySem.W.mg_none_of X G z_max,PySem.W.mg_none_of X G z_range,PySem.W.mg_none_of X G z_len,PySem.W.mg_none_of X G z_list,PySem.W.mg_none_of X G z_enumerate,PySem.W.mg_none_of X G z_sorted,PySem.W.mg_none_of X G z_abs,PySem.W.mg_none_of X G z_isinstance,PySem.W.mg_none_of X G z_int,PySem.W.mg_none_of X G z_bool,PySem.W.mg_none_of X G z_tuple,PySem.W.mg_none_of X G z_min⟩
 refine⟨PySem.W.fnOf "law" "law" (defArgs s_law) (defBody s_law) (defScope s_law) .none kV45 dc45 pm45 an45 cd45 ct45,fun s v=>.of_eq rfl,fun base _ _=>?_⟩
 have XT:=gT.txt X G
 have XE_Lacking:=gx_Lacking.txt X G
 have XE_NoRoom:=gx_NoRoom.txt X G
 have C_last_bits:=g0.elim fun f a fd F=>ok_last_bits (P:=l.prog) (w:=w) (base:=base) F (PySem.W.mg_of X G a) (F.binds (ps:=["key", "many"]) fun _ _ _ _ _ _ us hl=>match us,hl with | [_,_],_=>rfl) T
 have C_level:=g1.elim fun f a fd F=>ok_level (P:=l.prog) (w:=w) (base:=base) F (PySem.W.mg_of X G a) (F.binds (ps:=["rooms"]) fun _ _ _ _ _ _ us hl=>match us,hl with | [_],_=>rfl) T
 have C_rows_for:=g7.elim fun f a fd F=>ok_rows_for (P:=l.prog) (w:=w) (base:=base) F (PySem.W.mg_of X G a) (F.binds (ps:=["many", "wide"]) fun _ _ _ _ _ _ us hl=>match us,hl with | [_,_],_=>rfl) T
 have C_entries_in:=g9.elim fun f a fd F=>ok_entries_in (P:=l.prog) (w:=w) (base:=base) F (PySem.W.mg_of X G a) (F.binds (ps:=["rows"]) fun _ _ _ _ _ _ us hl=>match us,hl with | [_],_=>rfl) T
 have C_rows_at:=g10.elim fun f a fd F=>ok_rows_at (P:=l.prog) (w:=w) (base:=base) F (PySem.W.mg_of X G a) (F.binds (ps:=["held", "room"]) fun _ _ _ _ _ _ us hl=>match us,hl with | [_,_],_=>rfl) T
 have C_lay_row:=g12.elim fun f a fd F=>ok_lay_row (P:=l.prog) (w:=w) (base:=base) F (PySem.W.mg_of X G a) (F.binds (ps:=["held", "room", "at", "row"]) fun _ _ _ _ _ _ us hl=>match us,hl with | [_,_,_,_],_=>rfl) T
 have C_cut_room:=g13.elim fun f a fd F=>ok_cut_room (P:=l.prog) (w:=w) (base:=base) F (PySem.W.mg_of X G a) (F.binds (ps:=["held", "room", "many"]) fun _ _ _ _ _ _ us hl=>match us,hl with | [_,_,_],_=>rfl) T
 have C_leave_last_rooms:=g14.elim fun f a fd F=>ok_leave_last_rooms (P:=l.prog) (w:=w) (base:=base) F (PySem.W.mg_of X G a) (F.binds (ps:=["held"]) fun _ _ _ _ _ _ us hl=>match us,hl with | [_],_=>rfl) T
 have C_unlike_rows:=g15.elim fun f a fd F=>ok_unlike_rows (P:=l.prog) (w:=w) (base:=base) F (PySem.W.mg_of X G a) (F.binds (ps:=["room", "old", "new"]) fun _ _ _ _ _ _ us hl=>match us,hl with | [_,_,_],_=>rfl) T
 have C__law_open:=g23.elim fun f a fd F=>ok__law_open (P:=l.prog) (w:=w) (base:=base) F (PySem.W.mg_of X G a) (F.binds (ps:=["_law_script", "_law_place"]) fun _ _ _ _ _ _ us hl=>match us,hl with | [_,_],_=>rfl) T
 have C__law_draw:=g24.elim fun f a fd F=>ok__law_draw (P:=l.prog) (w:=w) (base:=base) F (PySem.W.mg_of X G a) (F.binds (ps:=["_law_hand", "_law_many"]) fun _ _ _ _ _ _ us hl=>match us,hl with | [_,_],_=>rfl) T
 have C__law_power:=g26.elim fun f a fd F=>ok__law_power (P:=l.prog) (w:=w) (base:=base) F (PySem.W.mg_of X G a) (F.binds (ps:=["_law_many"]) fun _ _ _ _ _ _ us hl=>match us,hl with | [_],_=>rfl) T
 have C__law_whole:=g30.elim fun f a fd F=>ok__law_whole (P:=l.prog) (w:=w) (base:=base) F (PySem.W.mg_of X G a) (F.binds (ps:=["_law_got"]) fun _ _ _ _ _ _ us hl=>match us,hl with | [_],_=>rfl) T
 have C__law_top:=g31.elim fun f a fd F=>ok__law_top (P:=l.prog) (w:=w) (base:=base) F (PySem.W.mg_of X G a) (F.binds (ps:=["_law_rooms"]) fun _ _ _ _ _ _ us hl=>match us,hl with | [_],_=>rfl) T
 have C__law_room:=g32.elim fun f a fd F=>ok__law_room (P:=l.prog) (w:=w) (base:=base) F (PySem.W.mg_of X G a) (F.binds (ps:=["_law_key_here", "_law_rooms"]) fun _ _ _ _ _ _ us hl=>match us,hl with | [_,_],_=>rfl) T
 have C__law_cut:=g33.elim fun f a fd F=>ok__law_cut (P:=l.prog) (w:=w) (base:=base) F (PySem.W.mg_of X G a) (F.binds (ps:=["_law_wide", "_law_entries"]) fun _ _ _ _ _ _ us hl=>match us,hl with | [_,_],_=>rfl) T
 have C__law_all_of:=g35.elim fun f a fd F=>ok__law_all_of (P:=l.prog) (w:=w) (base:=base) F (PySem.W.mg_of X G a) (F.binds (ps:=["_law_yard"]) fun _ _ _ _ _ _ us hl=>match us,hl with | [_],_=>rfl) T
 have C__law_copy:=g36.elim fun f a fd F=>ok__law_copy (P:=l.prog) (w:=w) (base:=base) F (PySem.W.mg_of X G a) (F.binds (ps:=["_law_yard"]) fun _ _ _ _ _ _ us hl=>match us,hl with | [_],_=>rfl) T
 have C__law_onward:=g38.elim fun f a fd F=>ok__law_onward (P:=l.prog) (w:=w) (base:=base) F (PySem.W.mg_of X G a) (F.binds (ps:=["_law_room_here", "_law_rows", "_law_now"]) fun _ _ _ _ _ _ us hl=>match us,hl with | [_,_,_],_=>rfl) T
 have C__law_places:=g42.elim fun f a fd F=>ok__law_places (P:=l.prog) (w:=w) (base:=base) F (PySem.W.mg_of X G a) (F.binds (ps:=["_law_script", "_law_least", "_law_most"]) fun _ _ _ _ _ _ us hl=>match us,hl with | [_,_,_],_=>rfl) T
 have C_turn:=g2.elim fun f a fd F=>ok_turn (P:=l.prog) (w:=w) (base:=base) F (PySem.W.mg_of X G a) (F.binds (ps:=["rooms"]) fun _ _ _ _ _ _ us hl=>match us,hl with | [_],_=>rfl) T C_level
 have C_cut_rows:=g8.elim fun f a fd F=>ok_cut_rows (P:=l.prog) (w:=w) (base:=base) F (PySem.W.mg_of X G a) (F.binds (ps:=["things", "wide"]) fun _ _ _ _ _ _ us hl=>match us,hl with | [_,_],_=>rfl) T C_rows_for
 have C_done_all:=g11.elim fun f a fd F=>ok_done_all (P:=l.prog) (w:=w) (base:=base) F (PySem.W.mg_of X G a) (F.binds (ps:=["yard", "steps"]) fun _ _ _ _ _ _ us hl=>match us,hl with | [_,_],_=>rfl) T C_leave_last_rooms C_lay_row C_cut_room
 have C_onward:=g16.elim fun f a fd F=>ok_onward (P:=l.prog) (w:=w) (base:=base) F (PySem.W.mg_of X G a) (F.binds (ps:=["room", "old", "new"]) fun _ _ _ _ _ _ us hl=>match us,hl with | [_,_,_],_=>rfl) T C_unlike_rows
 have C_backward:=g17.elim fun f a fd F=>ok_backward (P:=l.prog) (w:=w) (base:=base) F (PySem.W.mg_of X G a) (F.binds (ps:=["room", "old", "new"]) fun _ _ _ _ _ _ us hl=>match us,hl with | [_,_,_],_=>rfl) T C_unlike_rows
 have C_others_in:=g22.elim fun f a fd F=>ok_others_in (P:=l.prog) (w:=w) (base:=base) F (PySem.W.mg_of X G a) (F.binds (ps:=["rows", "key"]) fun _ _ _ _ _ _ us hl=>match us,hl with | [_,_],_=>rfl) T C_entries_in
 have C__law_far:=g25.elim fun f a fd F=>ok__law_far (P:=l.prog) (w:=w) (base:=base) F (PySem.W.mg_of X G a) (F.binds (ps:=["_law_hand", "_law_many"]) fun _ _ _ _ _ _ us hl=>match us,hl with | [_,_],_=>rfl) T C__law_draw
 have C__law_thing:=g28.elim fun f a fd F=>ok__law_thing (P:=l.prog) (w:=w) (base:=base) F (PySem.W.mg_of X G a) (F.binds (ps:=["_law_hand"]) fun _ _ _ _ _ _ us hl=>match us,hl with | [_],_=>rfl) T C__law_draw
 have C__law_clean:=g34.elim fun f a fd F=>ok__law_clean (P:=l.prog) (w:=w) (base:=base) F (PySem.W.mg_of X G a) (F.binds (ps:=["_law_wide", "_law_rooms", "_law_entries"]) fun _ _ _ _ _ _ us hl=>match us,hl with | [_,_,_],_=>rfl) T C__law_cut C__law_room
 have C__law_is_yard:=g37.elim fun f a fd F=>ok__law_is_yard (P:=l.prog) (w:=w) (base:=base) F (PySem.W.mg_of X G a) (F.binds (ps:=["_law_got", "_law_due"]) fun _ _ _ _ _ _ us hl=>match us,hl with | [_,_],_=>rfl) T C__law_whole
 have C_bits_for:=g3.elim fun f a fd F=>ok_bits_for (P:=l.prog) (w:=w) (base:=base) F (PySem.W.mg_of X G a) (F.binds (ps:=["room", "rooms"]) fun _ _ _ _ _ _ us hl=>match us,hl with | [_,_],_=>rfl) T C_level C_turn
 have C_split_of:=g5.elim fun f a fd F=>ok_split_of (P:=l.prog) (w:=w) (base:=base) F (PySem.W.mg_of X G a) (F.binds (ps:=["rooms"]) fun _ _ _ _ _ _ us hl=>match us,hl with | [_],_=>rfl) T C_turn
 have C_joined_of:=g6.elim fun f a fd F=>ok_joined_of (P:=l.prog) (w:=w) (base:=base) F (PySem.W.mg_of X G a) (F.binds (ps:=["rooms"]) fun _ _ _ _ _ _ us hl=>match us,hl with | [_],_=>rfl) T C_turn
 have C__law_key:=g27.elim fun f a fd F=>ok__law_key (P:=l.prog) (w:=w) (base:=base) F (PySem.W.mg_of X G a) (F.binds (ps:=["_law_hand"]) fun _ _ _ _ _ _ us hl=>match us,hl with | [_],_=>rfl) T C__law_draw C__law_far C__law_power
 have C__law_change_due:=g39.elim fun f a fd F=>ok__law_change_due (P:=l.prog) (w:=w) (base:=base) F (PySem.W.mg_of X G a) (F.binds (ps:=["_law_yard", "_law_way", "_law_key_here", "_law_thing_here"]) fun _ _ _ _ _ _ us hl=>match us,hl with | [_,_,_,_],_=>rfl) T C__law_all_of C__law_room C__law_onward C__law_clean C__law_top
 have C_room_of:=g4.elim fun f a fd F=>ok_room_of (P:=l.prog) (w:=w) (base:=base) F (PySem.W.mg_of X G a) (F.binds (ps:=["key", "rooms"]) fun _ _ _ _ _ _ us hl=>match us,hl with | [_,_],_=>rfl) T C_last_bits C_bits_for C_level
 have C_joining:=g19.elim fun f a fd F=>ok_joining (P:=l.prog) (w:=w) (base:=base) F (PySem.W.mg_of X G a) (F.binds (ps:=["yard"]) fun _ _ _ _ _ _ us hl=>match us,hl with | [_],_=>rfl) T XE_NoRoom C_joined_of C_backward C_rows_at C_cut_rows C_entries_in
 have C__law_keys:=g29.elim fun f a fd F=>ok__law_keys (P:=l.prog) (w:=w) (base:=base) F (PySem.W.mg_of X G a) (F.binds (ps:=["_law_hand", "_law_many"]) fun _ _ _ _ _ _ us hl=>match us,hl with | [_,_],_=>rfl) T C__law_key
 have C__law_near:=g41.elim fun f a fd F=>ok__law_near (P:=l.prog) (w:=w) (base:=base) F (PySem.W.mg_of X G a) (F.binds (ps:=["_law_hand", "_law_many", "_law_near_here"]) fun _ _ _ _ _ _ us hl=>match us,hl with | [_,_,_],_=>rfl) T C__law_draw C__law_thing C__law_key
 have C_splitting:=g18.elim fun f a fd F=>ok_splitting (P:=l.prog) (w:=w) (base:=base) F (PySem.W.mg_of X G a) (F.binds (ps:=["yard"]) fun _ _ _ _ _ _ us hl=>match us,hl with | [_],_=>rfl) T C_split_of C_entries_in C_onward C_rows_at C_cut_rows C_room_of
 have C_putting:=g20.elim fun f a fd F=>ok_putting (P:=l.prog) (w:=w) (base:=base) F (PySem.W.mg_of X G a) (F.binds (ps:=["yard", "key", "thing"]) fun _ _ _ _ _ _ us hl=>match us,hl with | [_,_,_],_=>rfl) T C_room_of C_rows_at C_backward C_cut_rows C_others_in
 have C_dropping:=g21.elim fun f a fd F=>ok_dropping (P:=l.prog) (w:=w) (base:=base) F (PySem.W.mg_of X G a) (F.binds (ps:=["yard", "key"]) fun _ _ _ _ _ _ us hl=>match us,hl with | [_,_],_=>rfl) T XE_Lacking C_room_of C_rows_at C_others_in C_onward C_cut_rows C_entries_in
 have C__law_asked_change:=g40.elim fun f a fd F=>ok__law_asked_change (P:=l.prog) (w:=w) (base:=base) F (PySem.W.mg_of X G a) (F.binds (ps:=["_law_yard", "_law_way", "_law_key_here", "_law_thing_here"]) fun _ _ _ _ _ _ us hl=>match us,hl with | [_,_,_,_],_=>rfl) T C_putting C_splitting C_joining C_dropping
 have C__law_said:=g43.elim fun f a fd F=>ok__law_said (P:=l.prog) (w:=w) (base:=base) F (PySem.W.mg_of X G a) (F.binds (ps:=["_law_yard", "_law_way", "_law_key_here", "_law_thing_here"]) fun _ _ _ _ _ _ us hl=>match us,hl with | [_,_,_,_],_=>rfl) T XE_Lacking XE_NoRoom XT kt_nl kt_ln C__law_asked_change
 have C__law_right:=g44.elim fun f a fd F=>ok__law_right (P:=l.prog) (w:=w) (base:=base) F (PySem.W.mg_of X G a) (F.binds (ps:=["_law_yard", "_law_way", "_law_key_here", "_law_thing_here"]) fun _ _ _ _ _ _ us hl=>match us,hl with | [_,_,_,_],_=>rfl) T C__law_copy C__law_all_of C__law_said C__law_clean C__law_is_yard C_done_all C__law_change_due
 exact ok_law (fun_mk (st:=s_law) l45 c45 k45) T C__law_places C__law_open C__law_draw C__law_near C__law_clean C__law_key C__law_right C__law_thing C__law_keys
theorem walk {l:PySem.W.OpenLaw}{q:Program}{loose:List Str}{XP:(Str→Option Value)→Heap→Prop}{YP:World→Heap→Prop}{d:DefRec}{K:Params→PySem.W.Frag}(hn:l.most=some 63) (hdf:d.params.defaults=[])
  (hY:∀(w:World) (h:Heap),YP w h→(K w.params).In h)
  (F:∀(w:World) (mg:Str→Option Value) (fa:Addr) (h:Heap),(K w.params).In h→h.Ns mainGlobals mg→mg d.name=some (.ref fa) →
   ∃fd:FuncData,(∀(s:Shared) (u:Value),BindsTo s fd ⟨[u],[]⟩ [("_law_script",u)])∧∀base:Heap,(K w.params).In base→base.Ns mainGlobals mg→FnOk l.prog w (K w.params) mg base CX0 9 fa fd ["_law_script"] (sp_law (K w.params))) :
  PySem.W.WalkO q loose XP YP l.row.toRowW d [] (fun f vs=>PySem.call f vs) :=
 L2.walk_of (n:=63) (k:=9) (x := "_law_script") (CX:=fun _=>CX0) (sp:=fun w=>sp_law (K w.params)) hn (by decide) hdf ⟨rfl,by decide,by decide,rfl⟩ hY F (fun _ _ a ns hl _ hS=>⟨a,ns,rfl,hS,hl,fun _=>rfl⟩) fun _ _ _ _ _ z=>z
end Law
namespace HD
open PySem PySem.W PySem.PyData
noncomputable def pB:List Stmt:=PySem.Challenge.pw_tailrooms_k44_just_these_steps.main.body
noncomputable def nS:List Stmt→Nat→Stmt
 | s::_,0=>s
 | _::r,n+1=>nS r n
 | [],_=>.Pass ⟨0,0,0,0⟩
noncomputable def bS:Stmt→List Stmt
 | .FunctionDef _ _ b ..=>b
 | .ClassDef _ _ _ b ..=>b
 | _=>[]
noncomputable def aS:Stmt→Arguments
 | .FunctionDef _ a ..=>a
 | _=>⟨[],[],none,[],[],none,[]⟩
noncomputable def sS:Stmt→Scope
 | .FunctionDef _ _ _ _ _ _ s ..=>s
 | _=>⟨.function,[],false,false,[]⟩
noncomputable def f (i:Nat):Stmt:=nS pB i
noncomputable def m (i j:Nat):Stmt:=nS (bS (f i)) j
abbrev O:=Params→Obj
noncomputable def E (P:Params) (x:Str) (n:Nat) (v:Value):DictEntry:=⟨keyHash P x,.str x n,v⟩
abbrev B:=Params→BT
noncomputable def n (o:O) (l r:B):B:=fun P=>.node (o P) (l P) (r P)
noncomputable def w (o:O):B:=fun P=>.node (o P) .nil .nil
noncomputable def u:B:=fun _=>.nil
noncomputable def c0 (P:Params) (r:List DictEntry):List DictEntry:=(E P "__name__" 165 (.str "tailrooms.yards" 329))::(E P "__doc__" 166 .none)::(E P "__package__" 167 .none)::(E P "__loader__" 168 (.builtin "__main__.__loader__#opaque"))::(E P "__spec__" 169 .none)::(E P "__annotations__" 170 (.ref 6))::(E P "__builtins__" 171 (.ref 4))::(E P "__file__" 173 (.str "/claim/cut.py" 172))::r
noncomputable def c1 (P:Params) (r:List DictEntry):List DictEntry:=(E P "__cached__" 174 .none)::(E P "last_bits" 196 (.ref 21))::(E P "level" 203 (.ref 28))::(E P "turn" 210 (.ref 35))::(E P "bits_for" 219 (.ref 42))::(E P "room_of" 227 (.ref 49))::(E P "split_of" 234 (.ref 56))::(E P "joined_of" 242 (.ref 63))::r
noncomputable def c2 (P:Params) (r:List DictEntry):List DictEntry:=(E P "TailError" 262 (.ref 73))::(E P "NoRoom" 287 (.ref 93))::(E P "Lacking" 312 (.ref 112))::(E P "rows_for" 322 (.ref 121))::(E P "cut_rows" 328 (.ref 126))::(E P "entries_in" 336 (.ref 131))::(E P "rows_at" 344 (.ref 138))::r
noncomputable def c3 (P:Params) (r:List Value):List Value:=(.int 2 0)::(.int 0 0)::(.ref 20)::(.int 4 0)::(.int 0 0)::(.ref 27)::(.int 6 0)::(.int 0 0)::(.ref 34)::(.int 8 0)::(.int 0 0)::(.ref 41)::(.int 13 0)::(.int 0 0)::(.ref 48)::(.int 15 0)::(.int 0 0)::(.ref 55)::r
noncomputable def c4 (P:Params) (r:List Value):List Value:=(.int 17 0)::(.int 0 0)::(.ref 62)::(.int 23 0)::(.int 0 0)::(.ref 69)::(.int 25 0)::(.int 0 0)::(.ref 82)::(.int 29 0)::(.int 0 0)::(.ref 101)::(.int 34 0)::(.int 0 0)::(.ref 120)::(.int 36 0)::(.int 0 0)::(.ref 125)::r
noncomputable def c5 (P:Params) (r:List Value):List Value:=(.int 39 0)::(.int 0 0)::(.ref 130)::(.int 41 0)::(.int 0 0)::(.ref 137)::r
noncomputable def c6 (P:Params) (r:List DictEntry):List DictEntry:=(E P "__name__" 165 (.str "law_tailrooms_k44_just_these_steps" 460))::(E P "__doc__" 166 .none)::(E P "__package__" 167 .none)::(E P "__loader__" 168 (.builtin "__main__.__loader__#opaque"))::(E P "__spec__" 169 .none)::(E P "__annotations__" 170 (.ref 6))::(E P "__builtins__" 171 (.ref 4))::(E P "__file__" 173 (.str "/claim/cut.py" 172))::r
noncomputable def c7 (P:Params) (r:List DictEntry):List DictEntry:=(E P "TailError" 262 (.ref 73))::(E P "NoRoom" 287 (.ref 93))::(E P "Lacking" 312 (.ref 112))::(E P "rows_for" 322 (.ref 121))::(E P "cut_rows" 328 (.ref 126))::(E P "entries_in" 336 (.ref 131))::(E P "rows_at" 344 (.ref 138))::(E P "done_all" 350 (.ref 143))::r
noncomputable def c8 (P:Params) (r:List DictEntry):List DictEntry:=(E P "lay_row" 361 (.ref 150))::(E P "cut_room" 370 (.ref 157))::(E P "leave_last_rooms" 377 (.ref 164))::(E P "unlike_rows" 385 (.ref 169))::(E P "onward" 395 (.ref 176))::(E P "backward" 404 (.ref 183))::(E P "splitting" 410 (.ref 188))::(E P "joining" 424 (.ref 195))::r
noncomputable def c9 (P:Params) (r:List DictEntry):List DictEntry:=(E P "putting" 439 (.ref 202))::(E P "dropping" 453 (.ref 209))::(E P "others_in" 459 (.ref 214))::r
noncomputable def c10 (P:Params) (r:List Value):List Value:=(.int 39 0)::(.int 0 0)::(.ref 130)::(.int 41 0)::(.int 0 0)::(.ref 137)::(.int 43 0)::(.int 0 0)::(.ref 142)::(.int 55 0)::(.int 0 0)::(.ref 149)::(.int 62 0)::(.int 0 0)::(.ref 156)::(.int 65 0)::(.int 0 0)::(.ref 163)::r
noncomputable def c11 (P:Params) (r:List Value):List Value:=(.int 69 0)::(.int 0 0)::(.ref 168)::(.int 71 0)::(.int 0 0)::(.ref 175)::(.int 76 0)::(.int 0 0)::(.ref 182)::(.int 78 0)::(.int 0 0)::(.ref 187)::(.int 87 0)::(.int 0 0)::(.ref 194)::(.int 95 0)::(.int 0 0)::(.ref 201)::r
noncomputable def c12 (P:Params) (r:List Value):List Value:=(.int 101 0)::(.int 0 0)::(.ref 208)::(.int 109 0)::(.int 0 0)::(.ref 213)::r
noncomputable def c13 (P:Params) (r:List DictEntry):List DictEntry:=(E P "putting" 439 (.ref 202))::(E P "dropping" 453 (.ref 209))::(E P "others_in" 459 (.ref 214))::(E P "_law_open" 467 (.ref 219))::(E P "_law_draw" 478 (.ref 226))::(E P "_law_far" 488 (.ref 233))::(E P "_law_power" 497 (.ref 240))::(E P "_law_key" 506 (.ref 247))::r
noncomputable def c14 (P:Params) (r:List DictEntry):List DictEntry:=(E P "_law_thing" 512 (.ref 252))::(E P "_law_keys" 523 (.ref 259))::(E P "_law_whole" 530 (.ref 266))::(E P "_law_top" 538 (.ref 273))::(E P "_law_room" 548 (.ref 280))::(E P "_law_cut" 558 (.ref 287))::(E P "_law_clean" 564 (.ref 292))::(E P "_law_all_of" 574 (.ref 299))::r
noncomputable def c15 (P:Params) (r:List DictEntry):List DictEntry:=(E P "_law_copy" 580 (.ref 304))::(E P "_law_is_yard" 588 (.ref 311))::(E P "_law_onward" 600 (.ref 318))::(E P "_law_change_due" 606 (.ref 323))::(E P "_law_asked_change" 616 (.ref 330))::(E P "_law_near" 622 (.ref 335))::(E P "_law_places" 631 (.ref 342))::(E P "_law_said" 643 (.ref 349))::r
noncomputable def c16 (P:Params) (r:List DictEntry):List DictEntry:=(E P "_law_right" 649 (.ref 354))::(E P "law" 655 (.ref 359))::r
noncomputable def c17 (P:Params) (r:List Value):List Value:=(.int 101 0)::(.int 0 0)::(.ref 208)::(.int 109 0)::(.int 0 0)::(.ref 213)::(.int 112 0)::(.int 0 0)::(.ref 218)::(.int 121 0)::(.int 0 0)::(.ref 225)::(.int 132 0)::(.int 0 0)::(.ref 232)::(.int 139 0)::(.int 0 0)::(.ref 239)::r
noncomputable def c18 (P:Params) (r:List Value):List Value:=(.int 144 0)::(.int 0 0)::(.ref 246)::(.int 156 0)::(.int 0 0)::(.ref 251)::(.int 159 0)::(.int 0 0)::(.ref 258)::(.int 167 0)::(.int 0 0)::(.ref 265)::(.int 169 0)::(.int 0 0)::(.ref 272)::(.int 174 0)::(.int 0 0)::(.ref 279)::r
noncomputable def c19 (P:Params) (r:List Value):List Value:=(.int 183 0)::(.int 0 0)::(.ref 286)::(.int 190 0)::(.int 0 0)::(.ref 291)::(.int 195 0)::(.int 0 0)::(.ref 298)::(.int 201 0)::(.int 0 0)::(.ref 303)::(.int 203 0)::(.int 0 0)::(.ref 310)::(.int 207 0)::(.int 0 0)::(.ref 317)::r
noncomputable def c20 (P:Params) (r:List Value):List Value:=(.int 215 0)::(.int 0 0)::(.ref 322)::(.int 233 0)::(.int 0 0)::(.ref 329)::(.int 241 0)::(.int 0 0)::(.ref 334)::(.int 249 0)::(.int 0 0)::(.ref 341)::(.int 251 0)::(.int 0 0)::(.ref 348)::(.int 261 0)::(.int 0 0)::(.ref 353)::r
noncomputable def c21 (P:Params) (r:List Value):List Value:=(.int 278 0)::(.int 0 0)::(.ref 358)::r
noncomputable def c22 (P:Params) (r:List Value):List Value:=(.int 183 0)::(.int 0 0)::(.ref 286)::(.int 190 0)::(.int 0 0)::(.ref 291)::(.int 195 0)::(.int 0 0)::(.ref 298)::r
noncomputable def t23 (a0:Str) (a1:Str) (a2:Stmt) (P:Params):Obj:=⟨.none,none,(.func ⟨a0,a1,(aS a2),(.stmts (bS a2)),(sS a2),0,[],.none,.none,.none,.none,none,.none,.none,0⟩),#[]⟩
noncomputable def t24 (a0:Str) (a1:Nat) (a2:Int) (a3:Nat) (a4:Int) (P:Params):Obj:=⟨(.type "code"),none,(.fields #[(.str a0 a1),(.str a0 (a1+1)),(.str "/claim/cut.py" (a1+2)),(.int a2 0),(.int 0 0),(.int 0 0),(.int 0 0),(.int 0 0),(.ref a3),(.bool .false),(.int 181 0),(.ref (a3+1)),.none,.none,.none,.none,(.int a4 0),(.int a2 0),(.str "/claim/cut.py" (a1+4))]),#[]⟩
noncomputable def t25 (a0:Str) (a1:Nat) (a2:Str) (a3:Str) (P:Params):Obj:=⟨(.type "tuple"),none,(.seq #[(.str a0 a1),(.str a2 (a1+1)),(.str a3 (a1+2))] 0),#[]⟩
noncomputable def t26 (a0:Nat) (P:Params):Obj:=⟨(.type "super"),none,(.fields #[(.ref a0),(.ref a0),(.ref a0)]),#[]⟩
noncomputable def t27 (a0:Nat) (P:Params):Obj:=⟨(.type "builtin_function_or_method"),none,(.fields #[(.builtin "object.__init_subclass__"),(.ref a0)]),#[]⟩
noncomputable def t28 (a0:Str) (a1:Nat) (a2:Str) (a3:Str) (a4:Str) (a5:Str) (P:Params):Obj:=⟨(.type "tuple"),none,(.seq #[(.str a0 a1),(.str a2 (a1+1)),(.str a3 (a1+2)),(.str a4 (a1+3)),(.str a5 (a1+4))] 0),#[]⟩
noncomputable def t29 (a0:Str) (a1:Str) (a2:Stmt) (a3:Str) (a4:Nat) (a5:Nat) (P:Params):Obj:=⟨(.type "function"),none,(.func ⟨a0,a1,(aS a2),(.stmts (bS a2)),(sS a2),3,[],.none,.none,.none,(.str a3 a4),none,(.ref a5),.none,0⟩),#[]⟩
noncomputable def t30 (a0:Str) (a1:Nat) (a2:Str) (a3:Str) (a4:Str) (P:Params):Obj:=⟨(.type "tuple"),none,(.seq #[(.str a0 a1),(.str a2 (a1+1)),(.str a3 (a1+2)),(.str a4 (a1+3))] 0),#[]⟩
noncomputable def t31 (a0:Str) (a1:Nat) (a2:Str) (a3:Int) (a4:Int) (a5:Nat) (a6:Int) (a7:Nat) (P:Params):Obj:=⟨(.type "code"),none,(.fields #[(.str a0 a1),(.str a2 (a1+1)),(.str "/claim/cut.py" (a1+2)),(.int a3 0),(.int a4 0),(.int 0 0),(.int 0 0),(.int 3 0),(.ref a5),(.bool .true),(.int 181 0),(.ref (a5+1)),.none,(.ref (a5+2)),(.ref (a5+3)),(.ref (a5+4)),(.int a6 0),(.int a3 0),(.str "/claim/cut.py" a7)]),#[]⟩
noncomputable def t32 (a0:Str) (a1:Nat) (a2:Int) (a3:Int) (a4:Nat) (a5:Int) (P:Params):Obj:=⟨(.type "code"),none,(.fields #[(.str a0 a1),(.str a0 (a1+1)),(.str "/claim/cut.py" (a1+2)),(.int a2 0),(.int a3 0),(.int 0 0),(.int 0 0),(.int 3 0),(.ref a4),(.bool .true),(.int 181 0),(.ref (a4+1)),.none,.none,.none,(.ref (a4+2)),(.int a5 0),(.int a2 0),(.str "/claim/cut.py" (a1+4))]),#[]⟩
noncomputable def t33 (a0:Nat) (a1:Nat) (a2:Str) (a3:Nat) (P:Params):Obj:=⟨(.type "frame"),none,.plain,#[(some (.ref a0)),(some (.ref 3)),(some (.ref a1)),none,(some (.str a2 a3)),none,(some (.ref 0))]⟩
noncomputable def t34 (a0:Nat) (a1:Int) (a2:Str) (a3:Nat) (a4:Nat) (a5:Str) (a6:Nat) (a7:Nat) (P:Params):Obj:=⟨(.type "dict"),none,(.dict #[(E P "__module__" a0 (.str "tailrooms.errors" 243)),(E P "__firstlineno__" (a0+4) (.int a1 (a0+3))),(E P a2 a3 (.ref a4)),(E P a5 (a3+2) (.ref a6)),(E P "__doc__" (a3+3) .none)] a7),#[]⟩
noncomputable def t35 (a0:Str) (a1:Nat) (P:Params):Obj:=⟨(.type "tuple"),none,(.seq #[(.str a0 a1)] 0),#[]⟩
noncomputable def t36 (a0:Str) (a1:Nat) (a2:Str) (P:Params):Obj:=⟨(.type "tuple"),none,(.seq #[(.str a0 a1),(.str a2 (a1+1))] 0),#[]⟩
noncomputable def o0:O:=fun P=>⟨(.type "dict"),none,(.dict (c0 P (c1 P (c2 P []))).toArray 23),#[]⟩
noncomputable def o1:O:=fun P=>⟨(.type "tuple"),none,(.seq #[] 0),#[]⟩
noncomputable def o2:O:=fun P=>⟨.none,none,(.fields (c3 P (c4 P (c5 P []))).toArray),#[]⟩
noncomputable def o3:O:=t24 "<module>" 182 1 11 185
noncomputable def o4:O:=t33 13 3 "__main__" 164
noncomputable def o5:O:=fun P=>⟨.none,none,(.fields #[]),#[]⟩
noncomputable def o6:O:=t36 "key" 192 "many"
noncomputable def o7:O:=t23 "last_bits" "last_bits" (f 1)
noncomputable def o8:O:=t31 "last_bits" 189 "last_bits" 2 2 15 194 195
noncomputable def o9:O:=t29 "last_bits" "last_bits" (f 1) "tailrooms.bits" 187 20
noncomputable def o10:O:=t35 "rooms" 200
noncomputable def o11:O:=t23 "level" "level" (f 2)
noncomputable def o12:O:=t31 "level" 197 "level" 4 1 22 201 202
noncomputable def o13:O:=t29 "level" "level" (f 2) "tailrooms.bits" 187 27
noncomputable def o14:O:=t35 "rooms" 207
noncomputable def o15:O:=t23 "turn" "turn" (f 3)
noncomputable def o16:O:=t31 "turn" 204 "turn" 6 1 29 208 209
noncomputable def o17:O:=t29 "turn" "turn" (f 3) "tailrooms.bits" 187 34
noncomputable def o18:O:=t25 "room" 214 "rooms" "deep"
noncomputable def o19:O:=t23 "bits_for" "bits_for" (f 4)
noncomputable def o20:O:=t31 "bits_for" 211 "bits_for" 8 2 36 217 218
noncomputable def o21:O:=t29 "bits_for" "bits_for" (f 4) "tailrooms.bits" 187 41
noncomputable def o22:O:=t36 "key" 223 "rooms"
noncomputable def o23:O:=t23 "room_of" "room_of" (f 5)
noncomputable def o24:O:=t31 "room_of" 220 "room_of" 13 2 43 225 226
noncomputable def o25:O:=t29 "room_of" "room_of" (f 5) "tailrooms.bits" 187 48
noncomputable def o26:O:=t35 "rooms" 231
noncomputable def o27:O:=t23 "split_of" "split_of" (f 6)
noncomputable def o28:O:=t31 "split_of" 228 "split_of" 15 1 50 232 233
noncomputable def o29:O:=t29 "split_of" "split_of" (f 6) "tailrooms.bits" 187 55
noncomputable def o30:O:=t36 "rooms" 238 "room"
noncomputable def o31:O:=t23 "joined_of" "joined_of" (f 7)
noncomputable def o32:O:=t31 "joined_of" 235 "joined_of" 17 1 57 240 241
noncomputable def o33:O:=t29 "joined_of" "joined_of" (f 7) "tailrooms.bits" 187 62
noncomputable def o34:O:=fun P=>⟨(.type "tuple"),none,(.seq #[(.type "ValueError")] 0),#[]⟩
noncomputable def o35:O:=fun P=>⟨(.type "builtin_function_or_method"),none,(.fields #[(.builtin "type.__prepare__"),(.type "type")]),#[]⟩
noncomputable def o36:O:=fun P=>⟨(.type "dict"),none,(.dict #[(E P "__module__" 252 (.str "tailrooms.errors" 243)),(E P "__qualname__" 254 (.str "TailError" 253)),(E P "__firstlineno__" 256 (.int 23 255)),(E P "__static_attributes__" 257 (.ref 71))] 4),#[]⟩
noncomputable def o37:O:=t24 "TailError" 247 23 67 250
noncomputable def o38:O:=t33 69 66 "tailrooms.errors" 243
noncomputable def o39:O:=t34 252 23 "__static_attributes__" 257 71 "__weakref__" 74 3
noncomputable def o40:O:=fun P=>⟨(.type "type"),none,(.cls ⟨"TailError",[(.type "ValueError")],[(.ref 73),(.type "ValueError"),(.type "Exception"),(.type "BaseException"),(.type "object")],72,"TailError",.true,[],[(.ref 93),(.ref 112)],.false,none,.false⟩),#[(some (.ref 64)),none,(some (.str "TailError" 245)),(some (.str "TailError" 253)),(some (.builtin "ValueError.__new__")),(some (.bool .true))]⟩
noncomputable def o41:O:=fun P=>⟨(.type "getset_descriptor"),none,(.fields #[(.str "__weakref__" 258),(.ref 73),(.builtin "ExceptionGroup.__weakref__"),.none]),#[]⟩
noncomputable def o42:O:=t26 73
noncomputable def o43:O:=t27 73
noncomputable def o44:O:=fun P=>⟨(.type "tuple"),none,(.seq #[(.ref 73)] 0),#[]⟩
noncomputable def o45:O:=fun P=>⟨(.type "dict"),none,(.dict #[(E P "__module__" 270 (.str "tailrooms.errors" 243)),(E P "__qualname__" 272 (.str "NoRoom" 271)),(E P "__firstlineno__" 274 (.int 25 273)),(E P "__init__" 282 (.ref 90)),(E P "__static_attributes__" 284 (.ref 91))] 5),#[]⟩
noncomputable def o46:O:=fun P=>⟨.none,none,(.fields #[(.int 27 0),(.int 4 0),(.ref 89)]),#[]⟩
noncomputable def o47:O:=t24 "NoRoom" 265 25 80 268
noncomputable def o48:O:=t33 82 79 "tailrooms.errors" 243
noncomputable def o49:O:=t36 "self" 278 "number"
noncomputable def o50:O:=t23 "__init__" "NoRoom.__init__" (m 10 0)
noncomputable def o51:O:=t31 "__init__" 275 "NoRoom.__init__" 27 2 84 280 281
noncomputable def o52:O:=t29 "__init__" "NoRoom.__init__" (m 10 0) "tailrooms.errors" 243 89
noncomputable def o53:O:=t35 "number" 283
noncomputable def o54:O:=t34 270 25 "__init__" 282 90 "__static_attributes__" 91 2
noncomputable def o55:O:=fun P=>⟨(.type "type"),none,(.cls ⟨"NoRoom",[(.ref 73)],[(.ref 93),(.ref 73),(.type "ValueError"),(.type "Exception"),(.type "BaseException"),(.type "object")],92,"NoRoom",.true,[],[],.false,none,.false⟩),#[(some (.ref 77)),none,(some (.str "NoRoom" 263)),(some (.str "NoRoom" 271)),(some (.builtin "ValueError.__new__")),(some (.bool .true))]⟩
noncomputable def o56:O:=t26 93
noncomputable def o57:O:=t27 93
noncomputable def o58:O:=fun P=>⟨(.type "dict"),none,(.dict #[(E P "__module__" 295 (.str "tailrooms.errors" 243)),(E P "__qualname__" 297 (.str "Lacking" 296)),(E P "__firstlineno__" 299 (.int 29 298)),(E P "__init__" 307 (.ref 109)),(E P "__static_attributes__" 309 (.ref 110))] 5),#[]⟩
noncomputable def o59:O:=fun P=>⟨.none,none,(.fields #[(.int 31 0),(.int 4 0),(.ref 108)]),#[]⟩
noncomputable def o60:O:=t24 "Lacking" 290 29 99 293
noncomputable def o61:O:=t33 101 98 "tailrooms.errors" 243
noncomputable def o62:O:=t36 "self" 303 "key"
noncomputable def o63:O:=t23 "__init__" "Lacking.__init__" (m 11 0)
noncomputable def o64:O:=t31 "__init__" 300 "Lacking.__init__" 31 2 103 305 306
noncomputable def o65:O:=t29 "__init__" "Lacking.__init__" (m 11 0) "tailrooms.errors" 243 108
noncomputable def o66:O:=t35 "key" 308
noncomputable def o67:O:=t34 295 29 "__init__" 307 109 "__static_attributes__" 110 2
noncomputable def o68:O:=fun P=>⟨(.type "type"),none,(.cls ⟨"Lacking",[(.ref 73)],[(.ref 112),(.ref 73),(.type "ValueError"),(.type "Exception"),(.type "BaseException"),(.type "object")],111,"Lacking",.true,[],[],.false,none,.false⟩),#[(some (.ref 96)),none,(some (.str "Lacking" 288)),(some (.str "Lacking" 296)),(some (.builtin "ValueError.__new__")),(some (.bool .true))]⟩
noncomputable def o69:O:=t26 112
noncomputable def o70:O:=t27 112
noncomputable def o71:O:=t36 "many" 318 "wide"
noncomputable def o72:O:=t23 "rows_for" "rows_for" (f 13)
noncomputable def o73:O:=t31 "rows_for" 315 "rows_for" 34 2 115 320 321
noncomputable def o74:O:=t29 "rows_for" "rows_for" (f 13) "tailrooms.rows" 313 120
noncomputable def o75:O:=t23 "cut_rows" "cut_rows" (f 14)
noncomputable def o76:O:=t32 "cut_rows" 323 36 2 122 326
noncomputable def o77:O:=t29 "cut_rows" "cut_rows" (f 14) "tailrooms.rows" 313 125
noncomputable def o78:O:=t23 "entries_in" "entries_in" (f 16)
noncomputable def o79:O:=t32 "entries_in" 331 39 1 127 334
noncomputable def o80:O:=t29 "entries_in" "entries_in" (f 16) "tailrooms.yards" 329 130
noncomputable def o81:O:=t36 "held" 340 "room"
noncomputable def o82:O:=t23 "rows_at" "rows_at" (f 17)
noncomputable def o83:O:=t31 "rows_at" 337 "rows_at" 41 2 132 342 343
noncomputable def o84:O:=t29 "rows_at" "rows_at" (f 17) "tailrooms.yards" 329 137
noncomputable def o85:O:=fun P=>⟨(.type "dict"),none,(.dict (c6 P (c1 P (c7 P (c8 P (c9 P []))))).toArray 35),#[]⟩
noncomputable def o86:O:=fun P=>⟨.none,none,(.fields (c3 P (c4 P (c10 P (c11 P (c12 P []))))).toArray),#[]⟩
noncomputable def o87:O:=t23 "done_all" "done_all" (f 18)
noncomputable def o88:O:=t32 "done_all" 345 43 2 139 348
noncomputable def o89:O:=t29 "done_all" "done_all" (f 18) "tailrooms.yards" 329 142
noncomputable def o90:O:=t28 "held" 354 "room" "at" "row" "rows"
noncomputable def o91:O:=t23 "lay_row" "lay_row" (f 19)
noncomputable def o92:O:=t31 "lay_row" 351 "lay_row" 55 4 144 359 360
noncomputable def o93:O:=t29 "lay_row" "lay_row" (f 19) "tailrooms.yards" 329 149
noncomputable def o94:O:=t25 "held" 365 "room" "many"
noncomputable def o95:O:=t23 "cut_room" "cut_room" (f 20)
noncomputable def o96:O:=t31 "cut_room" 362 "cut_room" 62 3 151 368 369
noncomputable def o97:O:=t29 "cut_room" "cut_room" (f 20) "tailrooms.yards" 329 156
noncomputable def o98:O:=t35 "held" 374
noncomputable def o99:O:=t23 "leave_last_rooms" "leave_last_rooms" (f 21)
noncomputable def o100:O:=t31 "leave_last_rooms" 371 "leave_last_rooms" 65 1 158 375 376
noncomputable def o101:O:=t29 "leave_last_rooms" "leave_last_rooms" (f 21) "tailrooms.yards" 329 163
noncomputable def o102:O:=t23 "unlike_rows" "unlike_rows" (f 23)
noncomputable def o103:O:=t32 "unlike_rows" 380 69 3 165 383
noncomputable def o104:O:=t29 "unlike_rows" "unlike_rows" (f 23) "tailrooms.changes" 378 168
noncomputable def o105:O:=t30 "room" 389 "old" "new" "steps"
noncomputable def o106:O:=t23 "onward" "onward" (f 24)
noncomputable def o107:O:=t31 "onward" 386 "onward" 71 3 170 393 394
noncomputable def o108:O:=t29 "onward" "onward" (f 24) "tailrooms.changes" 378 175
noncomputable def o109:O:=t25 "room" 399 "old" "new"
noncomputable def o110:O:=t23 "backward" "backward" (f 25)
noncomputable def o111:O:=t31 "backward" 396 "backward" 76 3 177 402 403
noncomputable def o112:O:=t29 "backward" "backward" (f 25) "tailrooms.changes" 378 182
noncomputable def o113:O:=t23 "splitting" "splitting" (f 26)
noncomputable def o114:O:=t32 "splitting" 405 78 1 184 408
noncomputable def o115:O:=t29 "splitting" "splitting" (f 26) "tailrooms.changes" 378 187
noncomputable def o116:O:=fun P=>⟨(.type "tuple"),none,(.seq #[(.str "yard" 414),(.str "wide" 415),(.str "rooms" 416),(.str "held" 417),(.str "room" 418),(.str "into" 419),(.str "both" 420),(.str "steps" 421)] 0),#[]⟩
noncomputable def o117:O:=t23 "joining" "joining" (f 27)
noncomputable def o118:O:=t31 "joining" 411 "joining" 87 1 189 422 423
noncomputable def o119:O:=t29 "joining" "joining" (f 27) "tailrooms.changes" 378 194
noncomputable def o120:O:=fun P=>⟨(.type "tuple"),none,(.seq #[(.str "yard" 428),(.str "key" 429),(.str "thing" 430),(.str "wide" 431),(.str "rooms" 432),(.str "held" 433),(.str "room" 434),(.str "own" 435),(.str "new" 436)] 0),#[]⟩
noncomputable def o121:O:=t23 "putting" "putting" (f 28)
noncomputable def o122:O:=t31 "putting" 425 "putting" 95 3 196 437 438
noncomputable def o123:O:=t29 "putting" "putting" (f 28) "tailrooms.changes" 378 201
noncomputable def o124:O:=fun P=>⟨(.type "tuple"),none,(.seq #[(.str "yard" 443),(.str "key" 444),(.str "wide" 445),(.str "rooms" 446),(.str "held" 447),(.str "room" 448),(.str "own" 449),(.str "others" 450)] 0),#[]⟩
noncomputable def o125:O:=t23 "dropping" "dropping" (f 29)
noncomputable def o126:O:=t31 "dropping" 440 "dropping" 101 2 203 451 452
noncomputable def o127:O:=t29 "dropping" "dropping" (f 29) "tailrooms.changes" 378 208
noncomputable def o128:O:=t23 "others_in" "others_in" (f 30)
noncomputable def o129:O:=t32 "others_in" 454 109 2 210 457
noncomputable def o130:O:=t29 "others_in" "others_in" (f 30) "tailrooms.changes" 378 213
noncomputable def o131:O:=fun P=>⟨(.type "dict"),none,(.dict (c6 P (c1 P (c7 P (c8 P (c13 P (c14 P (c15 P (c16 P [])))))))).toArray 58),#[]⟩
noncomputable def o132:O:=fun P=>⟨.none,none,(.fields (c3 P (c4 P (c10 P (c11 P (c17 P (c18 P (c19 P (c20 P (c21 P []))))))))).toArray),#[]⟩
noncomputable def o133:O:=t23 "_law_open" "_law_open" (f 32)
noncomputable def o134:O:=t32 "_law_open" 462 112 2 215 465
noncomputable def o135:O:=t29 "_law_open" "_law_open" (f 32) "law_tailrooms_k44_just_these_steps" 460 218
noncomputable def o136:O:=t28 "_law_hand" 471 "_law_many" "_law_got" "_law_k" "_law_number"
noncomputable def o137:O:=t23 "_law_draw" "_law_draw" (f 33)
noncomputable def o138:O:=t31 "_law_draw" 468 "_law_draw" 121 2 220 476 477
noncomputable def o139:O:=t29 "_law_draw" "_law_draw" (f 33) "law_tailrooms_k44_just_these_steps" 460 225
noncomputable def o140:O:=t30 "_law_hand" 482 "_law_many" "_law_number" "_law_k"
noncomputable def o141:O:=t23 "_law_far" "_law_far" (f 34)
noncomputable def o142:O:=t31 "_law_far" 479 "_law_far" 132 2 227 486 487
noncomputable def o143:O:=t29 "_law_far" "_law_far" (f 34) "law_tailrooms_k44_just_these_steps" 460 232
noncomputable def o144:O:=t25 "_law_many" 492 "_law_number" "_law_k"
noncomputable def o145:O:=t23 "_law_power" "_law_power" (f 35)
noncomputable def o146:O:=t31 "_law_power" 489 "_law_power" 139 1 234 495 496
noncomputable def o147:O:=t29 "_law_power" "_law_power" (f 35) "law_tailrooms_k44_just_these_steps" 460 239
noncomputable def o148:O:=t25 "_law_hand" 501 "_law_way" "_law_low"
noncomputable def o149:O:=t23 "_law_key" "_law_key" (f 36)
noncomputable def o150:O:=t31 "_law_key" 498 "_law_key" 144 1 241 504 505
noncomputable def o151:O:=t29 "_law_key" "_law_key" (f 36) "law_tailrooms_k44_just_these_steps" 460 246
noncomputable def o152:O:=t23 "_law_thing" "_law_thing" (f 37)
noncomputable def o153:O:=t32 "_law_thing" 507 156 1 248 510
noncomputable def o154:O:=t29 "_law_thing" "_law_thing" (f 37) "law_tailrooms_k44_just_these_steps" 460 251
noncomputable def o155:O:=t28 "_law_hand" 516 "_law_many" "_law_keys_here" "_law_k" "_law_key_here"
noncomputable def o156:O:=t23 "_law_keys" "_law_keys" (f 38)
noncomputable def o157:O:=t31 "_law_keys" 513 "_law_keys" 159 2 253 521 522
noncomputable def o158:O:=t29 "_law_keys" "_law_keys" (f 38) "law_tailrooms_k44_just_these_steps" 460 258
noncomputable def o159:O:=t35 "_law_got" 527
noncomputable def o160:O:=t23 "_law_whole" "_law_whole" (f 39)
noncomputable def o161:O:=t31 "_law_whole" 524 "_law_whole" 167 1 260 528 529
noncomputable def o162:O:=t29 "_law_whole" "_law_whole" (f 39) "law_tailrooms_k44_just_these_steps" 460 265
noncomputable def o163:O:=t36 "_law_rooms" 534 "_law_grade"
noncomputable def o164:O:=t23 "_law_top" "_law_top" (f 40)
noncomputable def o165:O:=t31 "_law_top" 531 "_law_top" 169 1 267 536 537
noncomputable def o166:O:=t29 "_law_top" "_law_top" (f 40) "law_tailrooms_k44_just_these_steps" 460 272
noncomputable def o167:O:=t30 "_law_key_here" 542 "_law_rooms" "_law_room_here" "_law_grade"
noncomputable def o168:O:=t23 "_law_room" "_law_room" (f 41)
noncomputable def o169:O:=t31 "_law_room" 539 "_law_room" 174 2 274 546 547
noncomputable def o170:O:=t29 "_law_room" "_law_room" (f 41) "law_tailrooms_k44_just_these_steps" 460 279
noncomputable def o171:O:=t30 "_law_wide" 552 "_law_entries" "_law_some" "_law_rows"
noncomputable def o172:O:=t23 "_law_cut" "_law_cut" (f 42)
noncomputable def o173:O:=t31 "_law_cut" 549 "_law_cut" 183 2 281 556 557
noncomputable def o174:O:=t29 "_law_cut" "_law_cut" (f 42) "law_tailrooms_k44_just_these_steps" 460 286
noncomputable def o175:O:=t23 "_law_clean" "_law_clean" (f 43)
noncomputable def o176:O:=t32 "_law_clean" 559 190 3 288 562
noncomputable def o177:O:=t29 "_law_clean" "_law_clean" (f 43) "law_tailrooms_k44_just_these_steps" 460 291
noncomputable def o178:O:=t30 "_law_yard" 568 "_law_entries" "_law_rows" "_law_row"
noncomputable def o179:O:=t23 "_law_all_of" "_law_all_of" (f 44)
noncomputable def o180:O:=t31 "_law_all_of" 565 "_law_all_of" 195 1 293 572 573
noncomputable def o181:O:=t29 "_law_all_of" "_law_all_of" (f 44) "law_tailrooms_k44_just_these_steps" 460 298
noncomputable def o182:O:=t23 "_law_copy" "_law_copy" (f 45)
noncomputable def o183:O:=t32 "_law_copy" 575 201 1 300 578
noncomputable def o184:O:=t29 "_law_copy" "_law_copy" (f 45) "law_tailrooms_k44_just_these_steps" 460 303
noncomputable def o185:O:=t36 "_law_got" 584 "_law_due"
noncomputable def o186:O:=t23 "_law_is_yard" "_law_is_yard" (f 46)
noncomputable def o187:O:=t31 "_law_is_yard" 581 "_law_is_yard" 203 2 305 586 587
noncomputable def o188:O:=t29 "_law_is_yard" "_law_is_yard" (f 46) "law_tailrooms_k44_just_these_steps" 460 310
noncomputable def o189:O:=fun P=>⟨(.type "tuple"),none,(.seq #[(.str "_law_room_here" 592),(.str "_law_rows" 593),(.str "_law_now" 594),(.str "_law_steps" 595),(.str "_law_at" 596),(.str "_law_row" 597)] 0),#[]⟩
noncomputable def o190:O:=t23 "_law_onward" "_law_onward" (f 47)
noncomputable def o191:O:=t31 "_law_onward" 589 "_law_onward" 207 3 312 598 599
noncomputable def o192:O:=t29 "_law_onward" "_law_onward" (f 47) "law_tailrooms_k44_just_these_steps" 460 317
noncomputable def o193:O:=t23 "_law_change_due" "_law_change_due" (f 48)
noncomputable def o194:O:=t32 "_law_change_due" 601 215 4 319 604
noncomputable def o195:O:=t29 "_law_change_due" "_law_change_due" (f 48) "law_tailrooms_k44_just_these_steps" 460 322
noncomputable def o196:O:=t30 "_law_yard" 610 "_law_way" "_law_key_here" "_law_thing_here"
noncomputable def o197:O:=t23 "_law_asked_change" "_law_asked_change" (f 49)
noncomputable def o198:O:=t31 "_law_asked_change" 607 "_law_asked_change" 233 4 324 614 615
noncomputable def o199:O:=t29 "_law_asked_change" "_law_asked_change" (f 49) "law_tailrooms_k44_just_these_steps" 460 329
noncomputable def o200:O:=t23 "_law_near" "_law_near" (f 50)
noncomputable def o201:O:=t32 "_law_near" 617 241 3 331 620
noncomputable def o202:O:=t29 "_law_near" "_law_near" (f 50) "law_tailrooms_k44_just_these_steps" 460 334
noncomputable def o203:O:=t25 "_law_script" 626 "_law_least" "_law_most"
noncomputable def o204:O:=t23 "_law_places" "_law_places" (f 51)
noncomputable def o205:O:=t31 "_law_places" 623 "_law_places" 249 3 336 629 630
noncomputable def o206:O:=t29 "_law_places" "_law_places" (f 51) "law_tailrooms_k44_just_these_steps" 460 341
noncomputable def o207:O:=fun P=>⟨(.type "tuple"),none,(.seq #[(.str "_law_yard" 635),(.str "_law_way" 636),(.str "_law_key_here" 637),(.str "_law_thing_here" 638),(.str "_law_got" 639),(.str "e" 640)] 0),#[]⟩
noncomputable def o208:O:=t23 "_law_said" "_law_said" (f 52)
noncomputable def o209:O:=t31 "_law_said" 632 "_law_said" 251 4 343 641 642
noncomputable def o210:O:=t29 "_law_said" "_law_said" (f 52) "law_tailrooms_k44_just_these_steps" 460 348
noncomputable def o211:O:=t23 "_law_right" "_law_right" (f 53)
noncomputable def o212:O:=t32 "_law_right" 644 261 4 350 647
noncomputable def o213:O:=t29 "_law_right" "_law_right" (f 53) "law_tailrooms_k44_just_these_steps" 460 353
noncomputable def o214:O:=t23 "law" "law" (f 54)
noncomputable def o215:O:=t32 "law" 650 278 1 355 653
noncomputable def o216:O:=t29 "law" "law" (f 54) "law_tailrooms_k44_just_these_steps" 460 358
noncomputable def o217:O:=fun P=>⟨(.type "dict"),none,(.dict (c6 P (c1 P (c7 P (c8 P (c13 P (c14 P [])))))).toArray 48),#[]⟩
noncomputable def o218:O:=fun P=>⟨.none,none,(.fields (c3 P (c4 P (c10 P (c11 P (c17 P (c18 P (c22 P []))))))).toArray),#[]⟩
noncomputable def qB (_:Params→BT):Bool:=true
noncomputable def qH (_:Params→Heap):Bool:=true
noncomputable def qP (_:Program):Bool:=true
noncomputable def qS (_:List Stmt):Bool:=true
noncomputable def X_view_39:Program:={ PySem.Challenge.pw_tailrooms_k44_just_these_steps with main:={ PySem.Challenge.pw_tailrooms_k44_just_these_steps.main with body:=[f 1,f 2,f 3,f 4,f 5,f 6,f 7,f 9,f 10,f 11,f 13,f 14,f 16,f 17,f 18,f 19,f 20,f 21,f 23,f 24,f 25,f 26,f 27,f 28,f 29,f 30,f 32,f 33,f 34,f 35,f 36,f 37,f 38,f 39,f 40,f 41,f 42,f 43,f 44,f 45,f 46,f 47,f 48,f 49,f 50,f 51,f 52,f 53,f 54] } }
noncomputable def X_sts_261:List Stmt:=[f 32,f 33,f 34,f 35,f 36,f 37,f 38,f 39,f 40,f 41,f 42,f 43,f 44]
noncomputable def c37:B:=n o14 (n o33 (w o1) u) (w o57)
noncomputable def c38:B:=n o1 (n o1 (w o1) u) (w o1)
noncomputable def c39:B:=n o17 (n o1 (w o80) u) (w o1)
noncomputable def c40:B:=n o15 (n o35 (w o78) u) (w o35)
noncomputable def c41:B:=n o20 (n o40 (w o83) u) (w o62)
noncomputable def c42:B:=n o5 (n o37 (w o5) u) (w o60)
noncomputable def c43:B:=n o1 (n o34 (w o5) u) (w o44)
noncomputable def c44:B:=n o19 (n o39 (w o82) u) (w o5)
noncomputable def c45:B:=n o1 (n o5 (w o1) u) (w o59)
noncomputable def c46:B:=n o16 (n o36 (w o79) u) (w o58)
noncomputable def c47:B:=n o21 (n o41 (w o84) u) (w o1)
noncomputable def c48:B:=n o18 (n o38 (w o81) u) (w o61)
noncomputable def X_tree_182:Params→BT:=(n boot_o_0 (n boot_o_1 (n o0 (n boot_o_7 (n o1 c37 (n o23 (w o45) (w o67))) (n o5 c38 (n o28 (w o1) (w o72)))) (n o1 (n o7 c39 (n o5 (w o48) (w o1))) (n o12 (n o1 (w o42) (w o63)) (n o30 (w o53) (w o5))))) (n boot_o_5 (n boot_o_9 (n o6 c40 (n o25 (w o46) (w o69))) (n o1 c41 (n o1 (w o51) (w o74)))) (n o3 (n o9 c42 (n o1 (w o5) (w o71))) (n o1 (n o22 (w o44) (w o65)) (n o31 (w o55) (w o76)))))) (n boot_o_2 (n boot_o_4 (n boot_o_8 (n o5 c43 (n o24 (w o1) (w o68))) (n o10 c44 (n o29 (w o50) (w o73)))) (n o2 (n o8 c45 (n o26 (w o1) (w o5))) (n o13 (n o5 (w o43) (w o64)) (n o1 (w o54) (w o75))))) (n boot_o_6 (n boot_o_10 (n o1 c46 (n o1 (w o47) (w o70))) (n o11 c47 (n o5 (w o52) (w o1)))) (n o4 (n o1 c48 (n o27 (w o49) (w o1))) (n o5 (n o1 (w o35) (w o66)) (n o32 (w o56) (w o77)))))))
noncomputable def c49:B:=n o14 (n o33 (w o1) (w o116)) (n o57 (w o5) u)
noncomputable def c50:B:=n o23 (n o45 (w o89) (w o125)) (n o67 (w o107) u)
noncomputable def c51:B:=n o1 (n o1 (w o1) (w o1)) (n o1 (w o102) u)
noncomputable def c52:B:=n o28 (n o1 (w o1) u) (n o72 (w o112) u)
noncomputable def c53:B:=n o17 (n o1 (w o80) (w o119)) (n o1 (w o100) u)
noncomputable def c54:B:=n o5 (n o48 (w o1) (w o5)) (n o1 (w o109) u)
noncomputable def c55:B:=n o1 (n o42 (w o1) (w o1)) (n o63 (w o5) u)
noncomputable def c56:B:=n o30 (n o53 (w o95) u) (n o5 (w o114) u)
noncomputable def c57:B:=n o15 (n o35 (w o78) (w o117)) (n o35 (w o1) u)
noncomputable def c58:B:=n o25 (n o46 (w o5) (w o127)) (n o69 (w o1) u)
noncomputable def c59:B:=n o20 (n o40 (w o83) (w o122)) (n o62 (w o104) u)
noncomputable def c60:B:=n o1 (n o51 (w o94) u) (n o74 (w o5) u)
noncomputable def c61:B:=n o5 (n o37 (w o5) (w o5)) (n o60 (w o1) u)
noncomputable def c62:B:=n o1 (n o5 (w o92) (w o129)) (n o71 (w o110) u)
noncomputable def c63:B:=n o22 (n o44 (w o87) (w o124)) (n o65 (w o1) u)
noncomputable def c64:B:=n o31 (n o55 (w o97) u) (n o76 (w o1) u)
noncomputable def c65:B:=n o1 (n o34 (w o5) (w o1)) (n o44 (w o98) u)
noncomputable def c66:B:=n o24 (n o1 (w o1) (w o126)) (n o68 (w o108) u)
noncomputable def c67:B:=n o19 (n o39 (w o82) (w o121)) (n o5 (w o103) u)
noncomputable def c68:B:=n o29 (n o50 (w o5) u) (n o73 (w o1) u)
noncomputable def c69:B:=n o1 (n o5 (w o1) (w o1)) (n o59 (w o101) u)
noncomputable def c70:B:=n o26 (n o1 (w o91) (w o128)) (n o5 (w o1) u)
noncomputable def c71:B:=n o5 (n o43 (w o5) (w o5)) (n o64 (w o105) u)
noncomputable def c72:B:=n o1 (n o54 (w o96) u) (n o75 (w o115) u)
noncomputable def c73:B:=n o16 (n o36 (w o79) (w o118)) (n o58 (w o99) u)
noncomputable def c74:B:=n o1 (n o47 (w o90) (w o1)) (n o70 (w o5) u)
noncomputable def c75:B:=n o21 (n o41 (w o84) (w o123)) (n o1 (w o1) u)
noncomputable def c76:B:=n o5 (n o52 (w o1) u) (n o1 (w o113) u)
noncomputable def c77:B:=n o18 (n o38 (w o81) (w o120)) (n o61 (w o5) u)
noncomputable def c78:B:=n o27 (n o49 (w o93) (w o130)) (n o1 (w o111) u)
noncomputable def c79:B:=n o1 (n o35 (w o88) (w o1)) (n o66 (w o106) u)
noncomputable def c80:B:=n o32 (n o56 (w o1) u) (n o77 (w o5) u)
noncomputable def X_tree_260:Params→BT:=(n boot_o_0 (n boot_o_1 (n o85 (n boot_o_7 (n o1 c49 c50) (n o5 c51 c52)) (n o1 (n o7 c53 c54) (n o12 c55 c56))) (n boot_o_5 (n boot_o_9 (n o6 c57 c58) (n o1 c59 c60)) (n o3 (n o9 c61 c62) (n o1 c63 c64)))) (n boot_o_2 (n boot_o_4 (n boot_o_8 (n o5 c65 c66) (n o10 c67 c68)) (n o86 (n o8 c69 c70) (n o13 c71 c72))) (n boot_o_6 (n boot_o_10 (n o1 c73 c74) (n o11 c75 c76)) (n o4 (n o1 c77 c78) (n o5 c79 c80)))))
noncomputable def c81:B:=n o14 (n o33 (n o1 (w o155) u) (n o116 (w o1) u)) (n o57 (n o5 (w o174) u) (n o1 (w o5) u))
noncomputable def c82:B:=n o23 (n o45 (n o89 (w o164) u) (n o125 (w o202) u)) (n o67 (n o107 (w o183) u) (w o146))
noncomputable def c83:B:=n o1 (n o1 (n o1 (w o1) u) (n o1 (w o1) u)) (n o1 (n o102 (w o178) u) (n o141 (w o216) u))
noncomputable def c84:B:=n o28 (n o1 (n o1 (w o169) u) (n o1 (w o1) u)) (n o72 (n o112 (w o188) u) (w o151))
noncomputable def c85:B:=n o17 (n o1 (n o80 (w o158) u) (n o119 (w o195) u)) (n o1 (n o100 (w o176) u) (n o1 (w o1) u))
noncomputable def c86:B:=n o5 (n o48 (n o1 (w o5) u) (n o5 (w o1) u)) (n o1 (n o109 (w o185) u) (w o148))
noncomputable def c87:B:=n o1 (n o42 (n o1 (w o1) u) (n o1 (w o1) u)) (n o63 (n o5 (w o181) u) (w o5))
noncomputable def c88:B:=n o30 (n o53 (n o95 (w o171) u) (n o135 (w o208) u)) (n o5 (n o114 (w o1) u) (w o153))
noncomputable def c89:B:=n o15 (n o35 (n o78 (w o156) u) (n o117 (w o193) u)) (n o35 (n o1 (w o5) u) (n o138 (w o212) u))
noncomputable def c90:B:=n o25 (n o46 (n o5 (w o166) u) (n o127 (w o5) u)) (n o69 (n o1 (w o1) u) (w o1))
noncomputable def c91:B:=n o20 (n o40 (n o83 (w o161) u) (n o122 (w o198) u)) (n o62 (n o104 (w o179) u) (w o143))
noncomputable def c92:B:=n o1 (n o51 (n o94 (w o1) u) (n o133 (w o207) u)) (n o74 (n o5 (w o5) u) (w o5))
noncomputable def c93:B:=n o5 (n o37 (n o5 (w o5) u) (n o5 (w o5) u)) (n o60 (n o1 (w o1) u) (n o140 (w o214) u))
noncomputable def c94:B:=n o1 (n o5 (n o92 (w o1) u) (n o129 (w o205) u)) (n o71 (n o110 (w o186) u) (w o149))
noncomputable def c95:B:=n o22 (n o44 (n o87 (w o163) u) (n o124 (w o200) u)) (n o65 (n o1 (w o5) u) (w o1))
noncomputable def c96:B:=n o31 (n o55 (n o97 (w o172) u) (n o5 (w o210) u)) (n o76 (n o1 (w o191) u) (w o1))
noncomputable def c97:B:=n o1 (n o34 (n o5 (w o1) u) (n o1 (w o5) u)) (n o44 (n o98 (w o1) u) (n o137 (w o211) u))
noncomputable def c98:B:=n o24 (n o1 (n o1 (w o165) u) (n o126 (w o1) u)) (n o68 (n o108 (w o184) u) (w o147))
noncomputable def c99:B:=n o19 (n o39 (n o82 (w o160) u) (n o121 (w o197) u)) (n o5 (n o103 (w o1) u) (w o142))
noncomputable def c100:B:=n o29 (n o50 (n o5 (w o170) u) (n o5 (w o5) u)) (n o73 (n o1 (w o1) u) (w o1))
noncomputable def c101:B:=n o1 (n o5 (n o1 (w o1) u) (n o1 (w o1) u)) (n o59 (n o101 (w o177) u) (n o5 (w o5) u))
noncomputable def c102:B:=n o26 (n o1 (n o91 (w o167) u) (n o128 (w o204) u)) (n o5 (n o1 (w o1) u) (w o1))
noncomputable def c103:B:=n o5 (n o43 (n o5 (w o5) u) (n o5 (w o5) u)) (n o64 (n o105 (w o1) u) (w o144))
noncomputable def c104:B:=n o1 (n o54 (n o96 (w o1) u) (n o1 (w o209) u)) (n o75 (n o115 (w o190) u) (w o154))
noncomputable def c105:B:=n o16 (n o36 (n o79 (w o157) u) (n o118 (w o194) u)) (n o58 (n o99 (w o175) u) (n o139 (w o213) u))
noncomputable def c106:B:=n o1 (n o47 (n o90 (w o1) u) (n o1 (w o203) u)) (n o70 (n o5 (w o5) u) (w o5))
noncomputable def c107:B:=n o21 (n o41 (n o84 (w o162) u) (n o123 (w o199) u)) (n o1 (n o1 (w o180) u) (w o1))
noncomputable def c108:B:=n o5 (n o52 (n o1 (w o5) u) (n o134 (w o1) u)) (n o1 (n o113 (w o189) u) (w o152))
noncomputable def c109:B:=n o18 (n o38 (n o81 (w o159) u) (n o120 (w o196) u)) (n o61 (n o5 (w o5) u) (n o1 (w o215) u))
noncomputable def c110:B:=n o27 (n o49 (n o93 (w o168) u) (n o130 (w o206) u)) (n o1 (n o111 (w o187) u) (w o150))
noncomputable def c111:B:=n o1 (n o35 (n o88 (w o1) u) (n o1 (w o201) u)) (n o66 (n o106 (w o182) u) (w o145))
noncomputable def c112:B:=n o32 (n o56 (n o1 (w o173) u) (n o136 (w o1) u)) (n o77 (n o5 (w o192) u) (w o5))
noncomputable def X_tree_409:Params→BT:=(n boot_o_0 (n boot_o_1 (n o131 (n boot_o_7 (n o1 c81 c82) (n o5 c83 c84)) (n o1 (n o7 c85 c86) (n o12 c87 c88))) (n boot_o_5 (n boot_o_9 (n o6 c89 c90) (n o1 c91 c92)) (n o3 (n o9 c93 c94) (n o1 c95 c96)))) (n boot_o_2 (n boot_o_4 (n boot_o_8 (n o5 c97 c98) (n o10 c99 c100)) (n o132 (n o8 c101 c102) (n o13 c103 c104))) (n boot_o_6 (n boot_o_10 (n o1 c105 c106) (n o11 c107 c108)) (n o4 (n o1 c109 c110) (n o5 c111 c112)))))
noncomputable def X_sts_183:List Stmt:=[f 18,f 19,f 20,f 21,f 22,f 23,f 24,f 25,f 26,f 27,f 28,f 29,f 30,f 31]
noncomputable def c113:B:=n o14 (n o33 (n o1 (w o155) u) (w o116)) (n o57 (n o5 (w o174) u) (w o1))
noncomputable def c114:B:=n o23 (n o45 (n o89 (w o164) u) (w o125)) (n o67 (w o107) (w o146))
noncomputable def c115:B:=n o1 (n o1 (n o1 (w o1) u) (w o1)) (n o1 (n o102 (w o178) u) (w o141))
noncomputable def c116:B:=n o28 (n o1 (n o1 (w o169) u) (w o1)) (n o72 (w o112) (w o151))
noncomputable def c117:B:=n o17 (n o1 (n o80 (w o158) u) (w o119)) (n o1 (n o100 (w o176) u) (w o1))
noncomputable def c118:B:=n o5 (n o48 (n o1 (w o5) u) (w o5)) (n o1 (w o109) (w o148))
noncomputable def c119:B:=n o1 (n o42 (n o1 (w o1) u) (w o1)) (n o63 (n o5 (w o181) u) (w o5))
noncomputable def c120:B:=n o30 (n o53 (n o95 (w o171) u) (w o135)) (n o5 (w o114) (w o153))
noncomputable def c121:B:=n o15 (n o35 (n o78 (w o156) u) (w o117)) (n o35 (n o1 (w o5) u) (w o138))
noncomputable def c122:B:=n o25 (n o46 (n o5 (w o166) u) (w o127)) (n o69 (w o1) (w o1))
noncomputable def c123:B:=n o20 (n o40 (n o83 (w o161) u) (w o122)) (n o62 (n o104 (w o179) u) (w o143))
noncomputable def c124:B:=n o1 (n o51 (n o94 (w o1) u) (w o133)) (n o74 (w o5) (w o5))
noncomputable def c125:B:=n o5 (n o37 (n o5 (w o5) u) (w o5)) (n o60 (n o1 (w o1) u) (w o140))
noncomputable def c126:B:=n o1 (n o5 (n o92 (w o1) u) (w o129)) (n o71 (w o110) (w o149))
noncomputable def c127:B:=n o22 (n o44 (n o87 (w o163) u) (w o124)) (n o65 (w o1) (w o1))
noncomputable def c128:B:=n o31 (n o55 (n o97 (w o172) u) (w o5)) (n o76 (w o1) (w o1))
noncomputable def c129:B:=n o1 (n o34 (n o5 (w o1) u) (w o1)) (n o44 (n o98 (w o1) u) (w o137))
noncomputable def c130:B:=n o24 (n o1 (n o1 (w o165) u) (w o126)) (n o68 (w o108) (w o147))
noncomputable def c131:B:=n o19 (n o39 (n o82 (w o160) u) (w o121)) (n o5 (n o103 (w o1) u) (w o142))
noncomputable def c132:B:=n o29 (n o50 (n o5 (w o170) u) (w o5)) (n o73 (w o1) (w o1))
noncomputable def c133:B:=n o1 (n o5 (n o1 (w o1) u) (w o1)) (n o59 (n o101 (w o177) u) (w o5))
noncomputable def c134:B:=n o26 (n o1 (n o91 (w o167) u) (w o128)) (n o5 (w o1) (w o1))
noncomputable def c135:B:=n o5 (n o43 (n o5 (w o5) u) (w o5)) (n o64 (w o105) (w o144))
noncomputable def c136:B:=n o1 (n o54 (n o96 (w o1) u) (w o1)) (n o75 (w o115) (w o154))
noncomputable def c137:B:=n o16 (n o36 (n o79 (w o157) u) (w o118)) (n o58 (n o99 (w o175) u) (w o139))
noncomputable def c138:B:=n o1 (n o47 (n o90 (w o1) u) (w o1)) (n o70 (w o5) (w o5))
noncomputable def c139:B:=n o21 (n o41 (n o84 (w o162) u) (w o123)) (n o1 (n o1 (w o180) u) (w o1))
noncomputable def c140:B:=n o5 (n o52 (n o1 (w o5) u) (w o134)) (n o1 (w o113) (w o152))
noncomputable def c141:B:=n o18 (n o38 (n o81 (w o159) u) (w o120)) (n o61 (n o5 (w o5) u) (w o1))
noncomputable def c142:B:=n o27 (n o49 (n o93 (w o168) u) (w o130)) (n o1 (w o111) (w o150))
noncomputable def c143:B:=n o1 (n o35 (n o88 (w o1) u) (w o1)) (n o66 (w o106) (w o145))
noncomputable def c144:B:=n o32 (n o56 (n o1 (w o173) u) (w o136)) (n o77 (w o5) (w o5))
noncomputable def X_tree_347:Params→BT:=(n boot_o_0 (n boot_o_1 (n o217 (n boot_o_7 (n o1 c113 c114) (n o5 c115 c116)) (n o1 (n o7 c117 c118) (n o12 c119 c120))) (n boot_o_5 (n boot_o_9 (n o6 c121 c122) (n o1 c123 c124)) (n o3 (n o9 c125 c126) (n o1 c127 c128)))) (n boot_o_2 (n boot_o_4 (n boot_o_8 (n o5 c129 c130) (n o10 c131 c132)) (n o218 (n o8 c133 c134) (n o13 c135 c136))) (n boot_o_6 (n boot_o_10 (n o1 c137 c138) (n o11 c139 c140)) (n o4 (n o1 c141 c142) (n o5 c143 c144)))))
noncomputable def c145 (P:Params) (r:List Obj):List Obj:=boot_o_0 P::boot_o_1 P::boot_o_2 P::o131 P::boot_o_4 P::boot_o_5 P::boot_o_6 P::boot_o_7 P::boot_o_8 P::boot_o_9 P::boot_o_10 P::o1 P::o132 P::o3 P::o4 P::o1 P::r
noncomputable def c146 (P:Params) (r:List Obj):List Obj:=o5 P::o6 P::o1 P::o7 P::o8 P::o9 P::o1 P::o5 P::o10 P::o1 P::o11 P::o12 P::o13 P::o1 P::o5 P::o14 P::r
noncomputable def c147 (P:Params) (r:List Obj):List Obj:=o1 P::o15 P::o16 P::o17 P::o1 P::o5 P::o18 P::o1 P::o19 P::o20 P::o21 P::o1 P::o5 P::o22 P::o1 P::o23 P::r
noncomputable def c148 (P:Params) (r:List Obj):List Obj:=o24 P::o25 P::o1 P::o5 P::o26 P::o1 P::o27 P::o28 P::o29 P::o1 P::o5 P::o30 P::o1 P::o31 P::o32 P::o33 P::r
noncomputable def c149 (P:Params) (r:List Obj):List Obj:=o34 P::o35 P::o36 P::o1 P::o5 P::o37 P::o38 P::o1 P::o39 P::o40 P::o41 P::o42 P::o43 P::o44 P::o35 P::o45 P::r
noncomputable def c150 (P:Params) (r:List Obj):List Obj:=o1 P::o46 P::o47 P::o48 P::o1 P::o5 P::o49 P::o1 P::o50 P::o51 P::o52 P::o53 P::o54 P::o55 P::o56 P::o57 P::r
noncomputable def c151 (P:Params) (r:List Obj):List Obj:=o44 P::o35 P::o58 P::o1 P::o59 P::o60 P::o61 P::o1 P::o5 P::o62 P::o1 P::o63 P::o64 P::o65 P::o66 P::o67 P::r
noncomputable def c152 (P:Params) (r:List Obj):List Obj:=o68 P::o69 P::o70 P::o1 P::o5 P::o71 P::o1 P::o72 P::o73 P::o74 P::o1 P::o5 P::o75 P::o76 P::o77 P::o1 P::r
noncomputable def c153 (P:Params) (r:List Obj):List Obj:=o5 P::o78 P::o79 P::o80 P::o1 P::o5 P::o81 P::o1 P::o82 P::o83 P::o84 P::o1 P::o5 P::o87 P::o88 P::o89 P::r
noncomputable def c154 (P:Params) (r:List Obj):List Obj:=o1 P::o5 P::o90 P::o1 P::o91 P::o92 P::o93 P::o1 P::o5 P::o94 P::o1 P::o95 P::o96 P::o97 P::o1 P::o5 P::r
noncomputable def c155 (P:Params) (r:List Obj):List Obj:=o98 P::o1 P::o99 P::o100 P::o101 P::o1 P::o5 P::o102 P::o103 P::o104 P::o1 P::o5 P::o105 P::o1 P::o106 P::o107 P::r
noncomputable def c156 (P:Params) (r:List Obj):List Obj:=o108 P::o1 P::o5 P::o109 P::o1 P::o110 P::o111 P::o112 P::o1 P::o5 P::o113 P::o114 P::o115 P::o1 P::o5 P::o116 P::r
noncomputable def c157 (P:Params) (r:List Obj):List Obj:=o1 P::o117 P::o118 P::o119 P::o1 P::o5 P::o120 P::o1 P::o121 P::o122 P::o123 P::o1 P::o5 P::o124 P::o1 P::o125 P::r
noncomputable def c158 (P:Params) (r:List Obj):List Obj:=o126 P::o127 P::o1 P::o5 P::o128 P::o129 P::o130 P::o1 P::o5 P::o133 P::o134 P::o135 P::o1 P::o5 P::o136 P::o1 P::r
noncomputable def c159 (P:Params) (r:List Obj):List Obj:=o137 P::o138 P::o139 P::o1 P::o5 P::o140 P::o1 P::o141 P::o142 P::o143 P::o1 P::o5 P::o144 P::o1 P::o145 P::o146 P::r
noncomputable def c160 (P:Params) (r:List Obj):List Obj:=o147 P::o1 P::o5 P::o148 P::o1 P::o149 P::o150 P::o151 P::o1 P::o5 P::o152 P::o153 P::o154 P::o1 P::o5 P::o155 P::r
noncomputable def c161 (P:Params) (r:List Obj):List Obj:=o1 P::o156 P::o157 P::o158 P::o1 P::o5 P::o159 P::o1 P::o160 P::o161 P::o162 P::o1 P::o5 P::o163 P::o1 P::o164 P::r
noncomputable def c162 (P:Params) (r:List Obj):List Obj:=o165 P::o166 P::o1 P::o5 P::o167 P::o1 P::o168 P::o169 P::o170 P::o1 P::o5 P::o171 P::o1 P::o172 P::o173 P::o174 P::r
noncomputable def c163 (P:Params) (r:List Obj):List Obj:=o1 P::o5 P::o175 P::o176 P::o177 P::o1 P::o5 P::o178 P::o1 P::o179 P::o180 P::o181 P::o1 P::o5 P::o182 P::o183 P::r
noncomputable def c164 (P:Params) (r:List Obj):List Obj:=o184 P::o1 P::o5 P::o185 P::o1 P::o186 P::o187 P::o188 P::o1 P::o5 P::o189 P::o1 P::o190 P::o191 P::o192 P::o1 P::r
noncomputable def c165 (P:Params) (r:List Obj):List Obj:=o5 P::o193 P::o194 P::o195 P::o1 P::o5 P::o196 P::o1 P::o197 P::o198 P::o199 P::o1 P::o5 P::o200 P::o201 P::o202 P::r
noncomputable def c166 (P:Params) (r:List Obj):List Obj:=o1 P::o5 P::o203 P::o1 P::o204 P::o205 P::o206 P::o1 P::o5 P::o207 P::o1 P::o208 P::o209 P::o210 P::o1 P::o5 P::r
noncomputable def c167 (P:Params) (r:List Obj):List Obj:=o211 P::o212 P::o213 P::o1 P::o5 P::o214 P::o215 P::o216 P::r
noncomputable def X_heap_410:Params→Heap:=fun P=>⟨⟨(c145 P (c146 P (c147 P (c148 P (c149 P (c150 P (c151 P (c152 P (c153 P (c154 P (c155 P (c156 P (c157 P (c158 P (c159 P (c160 P (c161 P (c162 P (c163 P (c164 P (c165 P (c166 P (c167 P [])))))))))))))))))))))))⟩,⟨[],[],[],0,[],[],.false,#[],[],0,.false,.false,.false,0,[2000,10,10],.false,0,.true,[],[],0,.false⟩⟩
noncomputable def X_sts_348:List Stmt:=[f 45,f 46,f 47,f 48,f 49,f 50,f 51,f 52,f 53,f 54]
theorem z:(qP X_view_39 && qS X_sts_261 && qB X_tree_182 && qB X_tree_260 && qB X_tree_409 && qS X_sts_183 && qB X_tree_347 && qH X_heap_410 && qS X_sts_348)=true:=by k_qdec
end HD
noncomputable def PySem.W.Fast.tw11758533894276615058:PySem.Program:=PySem.W.Fast.tw18025189030367128546
theorem PySem.W.Fast.te11758533894276615058:HD.X_view_39=PySem.W.Fast.tw11758533894276615058:=PySem.W.Fast.te18025189030367128546
noncomputable def PySem.W.Fast.tw849263625175139745:List PySem.Stmt:=PySem.W.Fast.tw9746140350580541815
theorem PySem.W.Fast.te849263625175139745:HD.X_sts_261=PySem.W.Fast.tw849263625175139745:=PySem.W.Fast.te9746140350580541815
noncomputable def PySem.W.Fast.tw11333894335089834114:PySem.Params→PySem.W.BT:=PySem.W.Fast.tw7027933238039866680
theorem PySem.W.Fast.te11333894335089834114:HD.X_tree_182=PySem.W.Fast.tw11333894335089834114:=PySem.W.Fast.te7027933238039866680
noncomputable def PySem.W.Fast.tw8750666640512034036:PySem.Params→PySem.W.BT:=PySem.W.Fast.tw6145978733224133613
theorem PySem.W.Fast.te8750666640512034036:HD.X_tree_260=PySem.W.Fast.tw8750666640512034036:=PySem.W.Fast.te6145978733224133613
noncomputable def PySem.W.Fast.tw9328365997085632322:PySem.Params→PySem.W.BT:=PySem.W.Fast.tw10626365384063902310
theorem PySem.W.Fast.te9328365997085632322:HD.X_tree_409=PySem.W.Fast.tw9328365997085632322:=PySem.W.Fast.te10626365384063902310
noncomputable def PySem.W.Fast.tw4639279571896028183:Nat:=0
theorem PySem.W.Fast.te4639279571896028183:True:=trivial
noncomputable def PySem.W.Fast.tw4690008725274796992:List PySem.Stmt:=PySem.W.Fast.tw10775992811669184032
theorem PySem.W.Fast.te4690008725274796992:HD.X_sts_183=PySem.W.Fast.tw4690008725274796992:=PySem.W.Fast.te10775992811669184032
noncomputable def PySem.W.Fast.tw7455512120615002879:PySem.Params→PySem.W.BT:=PySem.W.Fast.tw599289312135521990
theorem PySem.W.Fast.te7455512120615002879:HD.X_tree_347=PySem.W.Fast.tw7455512120615002879:=PySem.W.Fast.te599289312135521990
noncomputable def PySem.W.Fast.tw13980557275635825049:PySem.Params→PySem.Heap:=PySem.W.Fast.tw7485995478118374941
theorem PySem.W.Fast.te13980557275635825049:HD.X_heap_410=PySem.W.Fast.tw13980557275635825049:=PySem.W.Fast.te7485995478118374941
noncomputable def PySem.W.Fast.tw2406888766799599733:List PySem.Stmt:=PySem.W.Fast.tw1425410247758385186
theorem PySem.W.Fast.te2406888766799599733:HD.X_sts_348=PySem.W.Fast.tw2406888766799599733:=PySem.W.Fast.te1425410247758385186
open PySem PySem.W PyProof.Rows
set_option maxRecDepth 100000 in
set_option maxHeartbeats 0 in
theorem PySem.Challenge.cw_tailrooms_k44_just_these_steps_holds : PySem.Challenge.rw_tailrooms_k44_just_these_steps.Holds := by
  w_on; o_law; k_head; (case hw=>w_witness2)
  k_fill
  refine Law.walk (l:=PySem.Challenge.rw_tailrooms_k44_just_these_steps) rfl rfl (fun w h Y=>PySem.W.kIn_of Y) ?F
  case F =>
    intro w mg fa h KX G hmg
    refine' Law.all_mk KX G hmg ?ga0 ?ga1 ?ga2 ?ga3 ?ga4 ?ga5 ?ga6 ?ga7 ?ga8 ?ga9 ?ga10 ?ga11 ?ga12 ?ga13 ?ga14 ?ga15 ?ga16 ?ga17 ?ga18 ?ga19 ?ga20 ?ga21 ?ga22 ?ga23 ?ga24 ?ga25 ?ga26 ?ga27 ?ga28 ?ga29 ?ga30 ?ga31 ?ga32 ?ga33 ?ga34 ?ga35 ?ga36 ?ga37 ?ga38 ?ga39 ?ga40 ?ga41 ?ga42 ?ga43 ?ga44 ?a45 ?l45 ?c45 ?k45 ?gT ?gx_Lacking ?gx_NoRoom ?kt_nl ?kt_ln ?z_max ?z_range ?z_len ?z_list ?z_enumerate ?z_sorted ?z_abs ?z_isinstance ?z_int ?z_bool ?z_tuple ?z_min
    (case ga0=>walk_at"lk")
    (case ga1=>walk_at"lk")
    (case ga2=>walk_at"lk")
    (case ga3=>walk_at"lk")
    (case ga4=>walk_at"lk")
    (case ga5=>walk_at"lk")
    (case ga6=>walk_at"lk")
    (case ga7=>walk_at"lk")
    (case ga8=>walk_at"lk")
    (case ga9=>walk_at"lk")
    (case ga10=>walk_at"lk")
    (case ga11=>walk_at"lk")
    (case ga12=>walk_at"lk")
    (case ga13=>walk_at"lk")
    (case ga14=>walk_at"lk")
    (case ga15=>walk_at"lk")
    (case ga16=>walk_at"lk")
    (case ga17=>walk_at"lk")
    (case ga18=>walk_at"lk")
    (case ga19=>walk_at"lk")
    (case ga20=>walk_at"lk")
    (case ga21=>walk_at"lk")
    (case ga22=>walk_at"lk")
    (case ga23=>walk_at"lk")
    (case ga24=>walk_at"lk")
    (case ga25=>walk_at"lk")
    (case ga26=>walk_at"lk")
    (case ga27=>walk_at"lk")
    (case ga28=>walk_at"lk")
    (case ga29=>walk_at"lk")
    (case ga30=>walk_at"lk")
    (case ga31=>walk_at"lk")
    (case ga32=>walk_at"lk")
    (case ga33=>walk_at"lk")
    (case ga34=>walk_at"lk")
    (case ga35=>walk_at"lk")
    (case ga36=>walk_at"lk")
    (case ga37=>walk_at"lk")
    (case ga38=>walk_at"lk")
    (case ga39=>walk_at"lk")
    (case ga40=>walk_at"lk")
    (case ga41=>walk_at"lk")
    (case ga42=>walk_at"lk")
    (case ga43=>walk_at"lk")
    (case ga44=>walk_at"lk")
    (case a45=>walk_at"lk")
    (case l45=>walk_at"lk")
    (case c45=>walk_at"lk")
    (case k45=>walk_at"lk")
    (case gT=>(refine' L2.GaT.mk ?gTa ?gTl); (case gTa=>k_is); (case gTl=>k_is))
    (case gx_Lacking=>(refine' L2.GaX.mk' (st:=L2.inClass (Law.top 11) 0) (p1:=_) ?xaC ?xlC ?xlT ?xl1 ?xn1 ?xl2 ?xn2 ?xi0 ?xi1 ?xi2 ?xi3 ?xi4 ?xi5 ?xt0 ?xt1 ?xt2 ?xt3 ?xt4 ?xt5 ?xhm ?xlf ?xhcd L2.ve_key rfl ⟨rfl,rfl,rfl,by decide +kernel,rfl,by decide +kernel,by decide +kernel⟩ (fun _=>rfl) (by decide +kernel) (by decide +kernel) (by decide +kernel) (by decide +kernel) (fun _ _ _ _ _ _ _ _ _ _ _ _=>.of_eq rfl)); (case xaC=>k_is); (case xlC=>k_is); (case xlT=>k_is); (case xl1=>k_is); (case xn1=>rfl); (case xl2=>k_is); (case xn2=>rfl); (case xi0=>k_is); (case xi1=>k_is); (case xi2=>k_is); (case xi3=>k_is); (case xi4=>k_is); (case xi5=>k_is); (case xt0=>k_is); (case xt1=>k_is); (case xt2=>k_is); (case xt3=>k_is); (case xt4=>k_is); (case xt5=>k_is); (case xhm=>k_is); (case xlf=>k_is); (case xhcd=>k_is))
    (case gx_NoRoom=>(refine' L2.GaX.mk' (st:=L2.inClass (Law.top 10) 0) (p1:=_) ?xaC ?xlC ?xlT ?xl1 ?xn1 ?xl2 ?xn2 ?xi0 ?xi1 ?xi2 ?xi3 ?xi4 ?xi5 ?xt0 ?xt1 ?xt2 ?xt3 ?xt4 ?xt5 ?xhm ?xlf ?xhcd L2.ve_number rfl ⟨rfl,rfl,rfl,by decide +kernel,rfl,by decide +kernel,by decide +kernel⟩ (fun _=>rfl) (by decide +kernel) (by decide +kernel) (by decide +kernel) (by decide +kernel) (fun _ _ _ _ _ _ _ _ _ _ _ _=>.of_eq rfl)); (case xaC=>k_is); (case xlC=>k_is); (case xlT=>k_is); (case xl1=>k_is); (case xn1=>rfl); (case xl2=>k_is); (case xn2=>rfl); (case xi0=>k_is); (case xi1=>k_is); (case xi2=>k_is); (case xi3=>k_is); (case xi4=>k_is); (case xi5=>k_is); (case xt0=>k_is); (case xt1=>k_is); (case xt2=>k_is); (case xt3=>k_is); (case xt4=>k_is); (case xt5=>k_is); (case xhm=>k_is); (case xlf=>k_is); (case xhcd=>k_is))
    (case kt_nl=>first | k_is | kernel_rfl)
    (case kt_ln=>first | k_is | kernel_rfl)
    (case z_max=>walk_at"lk")
    (case z_range=>walk_at"lk")
    (case z_len=>walk_at"lk")
    (case z_list=>walk_at"lk")
    (case z_enumerate=>walk_at"lk")
    (case z_sorted=>walk_at"lk")
    (case z_abs=>walk_at"lk")
    (case z_isinstance=>walk_at"lk")
    (case z_int=>walk_at"lk")
    (case z_bool=>walk_at"lk")
    (case z_tuple=>walk_at"lk")
    (case z_min=>walk_at"lk")
