import PyProof.Rows.All
import Wide.All
import OpenK.AllK
import Wide.FinOn
import PyProof.EqAt
import PyProof.EqKinds
import PyProof.TupleCall
import PyProof.ExcArgsOwn
import PyProof.ExcAttrAll.ValueError
import PyProof.ExcBaseAll.ValueError
import PyProof.ExcClass2
import PyProof.ExcInit
import PyProof.InstStore
import PyProof.InstStoreFacts
import PyProof.NsDelKeeps
import PyProof.NsMap
import PyProof.Rows.CatchOwn
import PyProof.StationsW
import PySem.Challenge.RW_tailrooms_k77_marks_refused
set_option Elab.async false
set_option linter.all false
set_option maxRecDepth 100000
local macro_rules | `(tactic| omega)=>`(tactic| first | lia | omega (config:={}))
namespace L2
open PySem PySem.Spec PyProof.Rows
abbrev Key:=Sum Int Str
def keyIs:Key→Value→Bool
 | .inl k,v=>Value.isInt k v
 | .inr x,v=>Value.isStrOf x v
def keyH (w:World):Key→Int
 | .inl k=>hashInt k
 | .inr x=>hashStr w x
theorem keyIs_shape:∀{k:Key}{v:Value},keyIs k v=true→(∃i t,k=Sum.inl i∧v=Value.int i t) ∨(∃x t,k=Sum.inr x∧v=Value.str x t)
 | .inl i,v,h=>by
  obtain⟨t,e⟩:=Value.isInt_shape (k:=i) (v:=v) h
  exact .inl ⟨i,t,rfl,e⟩
 | .inr x,v,h=>by
  obtain⟨t,e⟩:=Value.isStrOf_shape (x:=x) (v:=v) h
  exact .inr ⟨x,t,rfl,e⟩
theorem keyIs_int (i:Int) (t:Tok):keyIs (.inl i) (.int i t)=true:=by simp[keyIs,Value.isInt]
theorem keyIs_str (x:Str) (t:Tok):keyIs (.inr x) (.str x t)=true:=by simp[keyIs,Value.isStrOf]
theorem key_ll (a b:Int):decide ((Sum.inl a:Key)=Sum.inl b) =(a == b):=by
 by_cases e:a=b
 ·subst e;simp
 ·have h:¬(Sum.inl a:Key)=Sum.inl b:=fun q=>e (Sum.inl.inj q)
  rw[decide_eq_false h]
  exact(beq_eq_false_iff_ne.mpr e).symm
theorem key_rr (a b:Str):decide ((Sum.inr a:Key)=Sum.inr b)=decide (a=b):=by
 by_cases e:a=b
 ·subst e;simp
 ·have h:¬(Sum.inr a:Key)=Sum.inr b:=fun q=>e (Sum.inr.inj q)
  rw[decide_eq_false h,decide_eq_false e]
theorem key_lr (a:Int) (b:Str):decide ((Sum.inl a:Key)=Sum.inr b)=false:=decide_eq_false (fun q=>nomatch q)
theorem key_rl (a:Str) (b:Int):decide ((Sum.inr a:Key)=Sum.inl b)=false:=decide_eq_false (fun q=>nomatch q)
def mixKind (prog:Program) (w:World):PySem.KeyKind prog w Key where
 is:=keyIs
 hash:=keyH w
 inj:=fun v a b ha hb=>by
  rcases keyIs_shape ha with⟨i,t,rfl,rfl⟩|⟨x,t,rfl,rfl⟩
  ·rcases keyIs_shape hb with⟨j,u,rfl,e⟩|⟨y,u,rfl,e⟩
   ·injection e with e1 _;rw[e1]
   ·exact nomatch e
  ·rcases keyIs_shape hb with⟨j,u,rfl,e⟩|⟨y,u,rfl,e⟩
   ·exact nomatch e
   ·injection e with e1 _;rw[e1]
 byValue:=fun k v h=>by
  rcases keyIs_shape h with⟨i,t,rfl,rfl⟩|⟨x,t,rfl,rfl⟩ <;> rfl
 pyHash:=fun hv h=>by
  rcases keyIs_shape hv with⟨i,t,rfl,rfl⟩|⟨x,t,rfl,rfl⟩
  ·exact wpAny_pyHash_int h
  ·exact wpAny_pyHash_str h
 eqBool:=fun hu hv h=>by
  rcases keyIs_shape hu with⟨i,t,rfl,rfl⟩|⟨x,t,rfl,rfl⟩
  ·rcases keyIs_shape hv with⟨j,u,rfl,rfl⟩|⟨y,u,rfl,rfl⟩
   ·rw[key_ll]at h;exact wpAny_eqBool_int h
   ·rw[key_lr]at h;exact SeqAt.EqAt.int_str i t y u _ _ _ _ h
  ·rcases keyIs_shape hv with⟨j,u,rfl,rfl⟩|⟨y,u,rfl,rfl⟩
   ·rw[key_rl]at h;exact SeqAt.EqAt.str_int x t j u _ _ _ _ h
   ·rw[key_rr]at h;exact wpAny_eqBool_str h
 «strs»:=fun k x t v h=>by
  rcases keyIs_shape h with⟨i,u,rfl,e⟩|⟨y,u,rfl,e⟩
  ·exact nomatch e
  ·injection e with e1 _
   subst e1
   cases v <;> rfl
theorem mixKind_is (prog:Program) (w:World) (k:Key) (v:Value):(mixKind prog w).is k v=keyIs k v:=rfl
theorem mixKind_int (prog:Program) (w:World) (i:Int) (t:Tok):(mixKind prog w).is (.inl i) (.int i t)=true:=keyIs_int i t
theorem mixKind_str (prog:Program) (w:World) (x:Str) (t:Tok):(mixKind prog w).is (.inr x) (.str x t)=true:=keyIs_str x t
end L2
namespace L2
open PySem PySem.Spec PyProof.Rows
inductive V where
 | non|bl (b:Bool)|int (i:Int)|str (x:Str)|byt (b:Array UInt8)|flt (b:UInt64)|ref (a:Addr)|ty (n:String)
 deriving DecidableEq
def RelV:V→Value→Prop
 | .non,u=>u=Value.none
 | .bl b,u=>u=Value.bool b
 | .int i,u=>∃t,u=Value.int i t
 | .str x,u=>∃t,u=Value.str x t
 | .byt b,u=>∃t,u=Value.bytes b t
 | .flt b,u=>∃t,u=Value.float b t
 | .ref a,u=>u=Value.ref a
 | .ty n,u=>u=Value.type n
abbrev Vals:List V→List Value→Prop:=Paired RelV
theorem Vals.length {xs:List V}{us:List Value}(r:Vals xs us):xs.length=us.length:=Paired.length r
theorem Vals.get:∀{xs:List V}{us:List Value}{i:Nat}{x:V},Vals xs us→xs[i]? = some x→∃u,us[i]? = some u∧RelV x u
 | _,_,_,_,.nil,e=>by simp at e
 | _,_,0,_,.cons r _,e=>by simp at e;subst e;exact⟨_,rfl,r⟩
 | _,_,i+1,x,.cons _ t,e=>by
  obtain⟨u,h1,h2⟩:=Vals.get (i:=i) (x:=x) t (by simpa using e)
  exact⟨u,by simpa using h1,h2⟩
theorem Vals.set {x:V}{u:Value}(r:RelV x u):∀{xs:List V}{us:List Value}(i:Nat),Vals xs us→Vals (xs.set i x) (us.set i u)
 | _,_,_,.nil=>.nil
 | _,_,0,.cons _ t=>.cons r t
 | _,_,i+1,.cons q t=>.cons q (Vals.set r i t)
theorem Vals.append:∀{xs ys:List V}{us ws:List Value},Vals xs us→Vals ys ws→Vals (xs++ys) (us++ws)
 | _,_,_,_,.nil,s=>s
 | _,_,_,_,.cons r t,s=>.cons r (Vals.append t s)
theorem Vals.take:∀{xs:List V}{us:List Value}(n:Nat),Vals xs us→Vals (xs.take n) (us.take n)
 | _,_,0,_=>.nil
 | _,_,_+1,.nil=>.nil
 | _,_,n+1,.cons r t=>.cons r (Vals.take n t)
theorem Vals.drop:∀{xs:List V}{us:List Value}(n:Nat),Vals xs us→Vals (xs.drop n) (us.drop n)
 | _,_,0,r=>r
 | _,_,_+1,.nil=>.nil
 | _,_,n+1,.cons _ t=>Vals.drop n t
def RelO:Option V→Option Value→Prop
 | some v,some u=>RelV v u
 | none,none=>True
 | _,_=>False
def KV {κ:Type}:List (κ×V)→List (κ×Value)→Prop:=Paired fun(p:κ×V) (q:κ×Value)=>p.1=q.1∧RelV p.2 q.2
def kV:Key→V
 | .inl i=>.int i
 | .inr x=>.str x
inductive HO where
 | lst (xs:List V)
 | tup (xs:List V)
 | dK (kvs:List (Key×V))|dT (kvs:List (List Key×V))
 | set (S:Int→Bool) (n:Nat)
 | ins (C dx:Addr) (fs:List (Str×V))
 | own (x:Addr)
 | xd (fs:List (Str×V))
 | met (f x:Addr)
 | rng (lo hi:Int)
 | frz (o:Obj) (u:HO)
 | tbl (ps:Array Value)
 | ext (φ:Heap→Prop)
abbrev Hp:=Addr→Option HO
def upd (H:Hp) (a:Addr) (o:HO):Hp:=fun b=>if b=a then some o else H b
theorem upd_same {H:Hp}{a:Addr}{o:HO}:upd H a o a=some o:=by unfold upd;rw[if_pos rfl]
theorem upd_ne {H:Hp}{a b:Addr}{o:HO}(h:b≠a):upd H a o b=H b:=by unfold upd;rw[if_neg h]
theorem ne_of {H:Hp}{a b:Addr}{o u:HO}(h:H a=some o) (h':H b=some u) (d:o≠u):a≠b:=by
 intro e;subst e;rw[h]at h';exact d (Option.some.inj h')
theorem ne_of_none {H:Hp}{a b:Addr}{o:HO}(h:H a=some o) (h':H b=none):a≠b:=by
 intro e;subst e;rw[h]at h';cases h'
section
variable (P:Program) (w:World)
def ObjOk (H:Hp) (h:Heap) (a:Addr):HO→Prop
 | .lst xs=>xs.length≤sizeLine∧∃(its:List Value) (n:Nat),Vals xs its∧h.get? a=some { cls:=.type "list",data:=.seq its.toArray n }
 | .tup xs=>xs.length≤sizeLine∧∃its:List Value,Vals xs its∧IsTup h a its.toArray
 | .dK kvs=>kvs.length≤sizeLine∧(a == sysModules)=false∧∃vs,KV kvs vs∧h.DictOf (mixKind P w) a vs
 | .dT kvs=>kvs.length≤sizeLine∧(a == sysModules)=false∧∃xs:List (List Key×Addr×Value),
   Paired (fun(p:List Key×V) (q:List Key×Addr×Value)=>p.1=q.1∧H q.2.1=some (.tup (p.1.map kV))∧RelV p.2 q.2.2) kvs xs ∧
   ∃o es ep,h.get? a=some o∧o.ExactDict∧o.data = .dict es ep∧es.toList=xs.map (entryOfKey (tupleKind (mixKind P w)))∧(xs.map (·.1)).Nodup
 | .set S n=>h.SetOf (intKind P w) a S n
 | .ins C dx fs=>H dx=some (.own a)∧fs.length≤1000∧dx≠a∧h.get? a=some (PySem.W.instObj C dx) ∧
   ∃mA,h.Ns1 dx mA∧(∀f,RelO (fs.lookup f) (mA f))∧PySem.Within mA (fs.map (·.1))
 | .own _=>∃o,h.get? a=some o
 | .xd fs=>∃mA,h.Ns1 a mA∧∀f,RelO (fs.lookup f) (mA f)
 | .rng lo hi=>∃t u v,h.get? a=some { cls:=.type "range",data:=.fields #[.int lo t,.int hi u,.int 1 v] }
 | .frz o u=>h.get? a=some o∧ObjOk H h a u
 | .tbl ps=>h.get? a=some { cls:=.none,data:=.fields ps }
 | .met f x=>h.get? a=some (PySem.W.methodObj (.ref f) (.ref x))
 | .ext φ=>φ h∧(∃o,h.get? a=some o)∧∀h1 h2:Heap,φ h1→(∀o,h1.get? a=some o→h2.get? a=some o)→φ h2
def HOk (H:Hp) (h:Heap):Prop:=∀a o,H a=some o→ObjOk P w H h a o
end
section
variable {P:Program}{w:World}{H H':Hp}{h h':Heap}{a:Addr}{o:HO}
theorem ObjOk.lt (x:ObjOk P w H h a o):a<h.objs.size:=by
 cases o with
 | lst xs=>obtain⟨_,_,_,_,e⟩:=x;exact Heap.lt_size e
 | tup xs=>obtain⟨_,_,_,p⟩:=x;exact p.lt
 | dK kvs=>obtain⟨_,_,_,_,o,_,_,e,_⟩:=x;exact Heap.lt_size e
 | dT kvs=>obtain⟨_,_,_,_,o,_,_,e,_⟩:=x;exact Heap.lt_size e
 | set S n=>obtain⟨o,_,_,_,e,_⟩:=x;exact Heap.lt_size e
 | ins C dx fs=>obtain⟨_,_,_,e,_⟩:=x;exact Heap.lt_size e
 | own y=>obtain⟨_,e⟩:=x;exact Heap.lt_size e
 | xd fs=>obtain⟨_,⟨_,_,_,e,_⟩,_⟩:=x;exact Heap.lt_size e
 | rng lo hi=>obtain⟨_,_,_,e⟩:=x;exact Heap.lt_size e
 | frz ob u=>obtain⟨e,_⟩:=x;exact Heap.lt_size e
 | tbl ps=>exact Heap.lt_size (show h.get? a=some _ from x)
 | met f y=>exact Heap.lt_size (show h.get? a=some _ from x)
 | ext φ=>obtain⟨_,⟨_,e⟩,_⟩:=x;exact Heap.lt_size e
theorem Paired.mapP {α β:Type}{F G:α→β→Prop}:∀{l₁:List α}{l₂:List β},Paired F l₁ l₂→(∀a b,F a b→G a b)→Paired G l₁ l₂
 | _,_,.nil,_=>.nil
 | _,_,.cons r t,f=>.cons (f _ _ r) (Paired.mapP t f)
theorem ObjOk.stay (x:ObjOk P w H h a o) (k:∀b u,(b=a∨H b=some (.own a))→h.get? b=some u→h'.get? b=some u)
  (ho:∀b,H b=some (.own a)→H' b=some (.own a)) (ht:∀b xs,H b=some (.tup xs)→H' b=some (.tup xs)):ObjOk P w H' h' a o:=by
 induction o with
 | lst xs=>obtain⟨z,its,n,r,e⟩:=x;exact⟨z,its,n,r,k _ _ (.inl rfl) e⟩
 | tup xs=>obtain⟨z,its,r,ob,e,c⟩:=x;exact⟨z,its,r,ob,k _ _ (.inl rfl) e,c⟩
 | dK kvs=>obtain⟨z,y,vs,r,ob,es,ep,e,c⟩:=x;exact⟨z,y,vs,r,ob,es,ep,k _ _ (.inl rfl) e,c⟩
 | dT kvs =>
  obtain⟨z,y,xs,r,ob,es,ep,e,c⟩:=x
  exact⟨z,y,xs,Paired.mapP r fun p q z=>⟨z.1,ht _ _ z.2.1,z.2.2⟩,ob,es,ep,k _ _ (.inl rfl) e,c⟩
 | set S n=>obtain⟨ob,es,ep,t,e,c⟩:=x;exact⟨ob,es,ep,t,k _ _ (.inl rfl) e,c⟩
 | ins C dx fs =>
  obtain⟨d,z,ne,e,mA,⟨od,es,ep,e2,c⟩,r⟩:=x
  exact⟨ho _ d,z,ne,k _ _ (.inl rfl) e,mA,⟨od,es,ep,k _ _ (.inr d) e2,c⟩,r⟩
 | own y=>obtain⟨ob,e⟩:=x;exact⟨ob,k _ _ (.inl rfl) e⟩
 | xd fs=>obtain⟨mA,⟨od,es,ep,e,c⟩,r⟩:=x;exact⟨mA,⟨od,es,ep,k _ _ (.inl rfl) e,c⟩,r⟩
 | rng lo hi=>obtain⟨t,u,v,e⟩:=x;exact⟨t,u,v,k _ _ (.inl rfl) e⟩
 | frz ob u ih=>obtain⟨e,q⟩:=x;exact⟨k _ _ (.inl rfl) e,ih q⟩
 | tbl ps =>
  have e:h.get? a=some { cls:=.none,data:=.fields ps }:=x
  show h'.get? a=some { cls:=.none,data:=.fields ps }
  exact k a _ (.inl rfl) e
 | met f y =>
  have e:h.get? a=some (PySem.W.methodObj (.ref f) (.ref y)):=x
  show h'.get? a=some (PySem.W.methodObj (.ref f) (.ref y))
  exact k a _ (.inl rfl) e
 | ext φ=>obtain⟨p,⟨o,e⟩,st⟩:=x;exact⟨st _ _ p fun o q=>k _ _ (.inl rfl) q,⟨o,k _ _ (.inl rfl) e⟩,st⟩
theorem HOk.lt (x:HOk P w H h) (e:H a=some o):a<h.objs.size:=(x a o e).lt
theorem HOk.fresh (x:HOk P w H h) (e:h.objs.size≤a):H a=none:=by
 cases q:H a with
 | none=>rfl
 | some u=>exact absurd (Nat.lt_of_lt_of_le (x.lt q) e) (Nat.lt_irrefl _)
theorem HOk.kept (x:HOk P w H h) (k:∀b u,h.get? b=some u→h'.get? b=some u):HOk P w H h':=fun a o e =>
 (x a o e).stay (fun b u _ q=>k b u q) (fun _ q=>q) fun _ _ q=>q
theorem HOk.laid (x:HOk P w H h) (k:∀b u,h.get? b=some u→h'.get? b=some u) (hp:h.objs.size≤a) (new:ObjOk P w (upd H a o) h' a o):HOk P w (upd H a o) h':=fun b u e=>by
 have hn:=x.fresh hp
 by_cases hb:b=a
 ·subst hb;rw[upd_same]at e;cases e;exact new
 ·rw[upd_ne hb]at e
  exact(x b u e).stay (fun c v _ q=>k c v q) (fun c q=>by rw[upd_ne (ne_of_none q hn)];exact q) fun c xs q=>by rw[upd_ne (ne_of_none q hn)];exact q
end
def Rd (H:Hp) (a:Addr) (u:HO):Prop:=H a=some u ∨ ∃o,H a=some (.frz o u)
theorem Rd.ok {P:Program}{w:World}{H:Hp}{h:Heap}{a:Addr}{u:HO}(r:Rd H a u) (x:HOk P w H h):ObjOk P w H h a u:=by
 rcases r with r|⟨o,r⟩
 ·exact x a u r
 ·obtain⟨_,q⟩:=x a _ r
  exact q
def Mut:Option HO→Prop
 | some (.lst _)=>True
 | some (.dK _)=>True
 | some (.dT _)=>True
 | some (.set _ _)=>True
 | some (.ins _ _ _)=>True
 | some (.ext _)=>True
 | _=>False
section
variable {P:Program}{w:World}{H:Hp}{h h':Heap}{x e:Addr}{o':HO}
theorem HOk.write (ok:HOk P w H h) (mu:Mut (H x)) (he:e=x∨H e=some (.own x)) (k:∀b u,b≠e→h.get? b=some u→h'.get? b=some u) (heo:∃u,h'.get? e=some u)
  (new:ObjOk P w (upd H x o') h' x o'):HOk P w (upd H x o') h':=fun b u q=>by
 have nown:∀c y,H c=some (.own y)→c≠x:=fun c y r z=>by subst z;rw[r]at mu;exact mu
 have ntup:∀c xs,H c=some (.tup xs)→c≠x:=fun c xs r z=>by subst z;rw[r]at mu;exact mu
 by_cases hb:b=x
 ·subst hb;rw[upd_same]at q;cases q;exact new
 ·rw[upd_ne hb]at q
  by_cases hbe:b=e
  ·have q':H b=some (.own x):=by
    rcases he with z|z
    ·exact absurd (hbe.trans z) hb
    ·rw[hbe];exact z
   rw[q]at q';cases q'
   obtain⟨v,hv⟩:=heo
   exact⟨v,by rw[hbe];exact hv⟩
  ·refine(ok b u q).stay (fun c v hc r=>k c v ?_ r) (fun c r=>by rw[upd_ne (nown c b r)];exact r) fun c xs r=>by rw[upd_ne (ntup c xs r)];exact r
   rcases hc with rfl|hc
   ·exact hbe
   ·rintro rfl
    rcases he with z|z
    ·exact nown c b hc z
    ·rw[hc]at z;cases z;exact hb rfl
end
structure Un (fs ex:List Addr) (H H':Hp) (h h':Heap):Prop where
 keep:∀b o,h.get? b=some o→H b=none→b∉fs→b∉ex→h'.get? b=some o
 slot:∀b o,h.get? b=some o→H b=none→b∈fs→b∉ex→∃sl,h'.get? b=some { o with slots:=sl }
 free:∀b o,h.get? b=some o→H b=none→b∉ex→H' b=none
 there:∀b o,h.get? b=some o→b∉ex→∃o',h'.get? b=some o'
 tups:∀b xs,H b=some (.tup xs)→H' b=some (.tup xs)
 frzs:∀b o u,H b=some (.frz o u)→H' b=some (.frz o u)
 tbls:∀b ps,H b=some (.tbl ps)→∃more,H' b=some (.tbl (ps++more))
section
variable {fs fs' ex ex':List Addr}{H H1 H2:Hp}{h h1 h2 h':Heap}{a x e:Addr}{o:HO}
theorem Un.any (u:Un fs ex H H1 h h1) {b:Addr}{ob:Obj}(q:h.get? b=some ob) (n:H b=none) (hx:b∉ex):∃sl,h1.get? b=some { ob with slots:=sl }:=by
 by_cases hb:b∈fs
 ·exact u.slot b ob q n hb hx
 ·exact⟨ob.slots,u.keep b ob q n hb hx⟩
theorem Un.kept (k:∀b u,h.get? b=some u→h'.get? b=some u):Un fs ex H H h h' :=
 ⟨fun b ob q _ _ _=>k b ob q,fun b ob q _ _ _=>⟨ob.slots,k b ob q⟩,fun _ _ _ n _=>n,fun b ob q _=>⟨ob,k b ob q⟩,fun _ _ q=>q,fun _ _ _ q=>q,fun _ ps q=>⟨#[],by rw[q];simp⟩⟩
theorem Un.refl:Un fs ex H H h h:=Un.kept fun _ _ q=>q
theorem Un.laid (k:∀b u,h.get? b=some u→h'.get? b=some u) (hp:h.objs.size≤a) (hn:H a=none):Un fs ex H (upd H a o) h h' where
 keep:=fun b u q _ _ _=>k b u q
 slot:=fun b u q _ _ _=>⟨u.slots,k b u q⟩
 free:=fun b u q n _=>by rw[upd_ne (Nat.ne_of_lt (Nat.lt_of_lt_of_le (Heap.lt_size q) hp))];exact n
 there:=fun b u q _=>⟨u,k b u q⟩
 tups:=fun b xs q=>by rw[upd_ne (ne_of_none q hn)];exact q
 frzs:=fun b u xs q=>by rw[upd_ne (ne_of_none q hn)];exact q
 tbls:=fun b ps q=>⟨#[],by rw[upd_ne (ne_of_none q hn),q];simp⟩
theorem Un.write (mu:Mut (H x)) (he:e=x∨H e=some (.own x)) (k:∀b u,b≠e→h.get? b=some u→h'.get? b=some u) (heo:∃u,h'.get? e=some u):Un fs ex H (upd H x o) h h':=by
 have hx:∀b,H b=none→b≠x:=fun b n z=>by subst z;rw[n]at mu;exact mu
 have hb:∀b,H b=none→b≠e:=fun b n z=>by
  subst z
  rcases he with r|r
  ·exact hx b n r
  ·rw[n]at r;cases r
 have hm:∀b u,H b=some u→¬ Mut (some u)→b≠x:=fun b u q nm z=>by subst z;rw[q]at mu;exact nm mu
 refine⟨fun b u q n _ _=>k b u (hb b n) q,fun b u q n _ _=>⟨u.slots,k b u (hb b n) q⟩,fun b u q n _=>by rw[upd_ne (hx b n)];exact n,fun b u q _=>?_,
  fun b xs q=>by rw[upd_ne (hm b _ q fun z=>z)];exact q,fun b u xs q=>by rw[upd_ne (hm b _ q fun z=>z)];exact q,fun b ps q=>⟨#[],by rw[upd_ne (hm b _ q fun z=>z),q];simp⟩⟩
 by_cases hbe:b=e
 ·subst hbe;exact heo
 ·exact⟨u,k b u hbe q⟩
end
def trk (h:Heap) (H:Hp):List Addr:=(List.range h.objs.size).filter fun a=>(H a).isSome
def hidT (h:Heap) (H:Hp):Heap:=PySem.W.hideAll h (trk h H)
theorem hidT_size (h:Heap) (H:Hp):(hidT h H).objs.size=h.objs.size:=PySem.W.hideAll_size _ _
theorem hidT_get {h:Heap}{H:Hp}{b:Addr}{o:Obj}(e:h.get? b=some o) (n:H b=none):(hidT h H).get? b=some o :=
 PySem.W.hideAll_get _ e fun hm=>by
  have q:(H b).isSome=true:=(List.mem_filter.mp hm).2
  rw[n]at q;simp at q
theorem of_hidT {h:Heap}{H:Hp}{b:Addr}{o:Obj}(e:(hidT h H).get? b=some o):h.get? b=some o∧H b=none:=by
 have e':h.get? b=some o:=PySem.W.of_hideAll (trk h H) e
 refine⟨e',?_⟩
 cases q:H b with
 | none=>rfl
 | some x =>
  have hm:b∈trk h H:=List.mem_filter.mpr ⟨List.mem_range.mpr (Heap.lt_size e'),by simp[q]⟩
  have z:(hidT h H).get? b=none:=PySem.W.hideAll_none (trk h H) hm
  rw[z]at e;cases e
def allNews (g h:Heap) (L:Addr):List (Addr×Obj):=(List.range h.objs.size).filterMap fun a=>if a=L ∨(g.get? a).isSome=true then none else(h.get? a).map fun o=>(a,o)
def rest (g h:Heap) (L d:Addr):List (Addr×Obj):=(allNews g h L).filter fun p=>decide (p.1≠d)
end L2
namespace L2
open PySem PySem.Spec PyProof.Rows
structure Mod (K:PySem.W.Frag) (mg:Str→Option Value) (base:Heap):Prop where
 kin:K.In base
 glob:base.Ns mainGlobals mg
 blt:∃mb,base.Ns builtinsNs mb∧∀x:Str,x ≠ "__name__"→mb x=bootBuiltins x
 nolimit:base.NoLimit
structure Cx where
 prog:Program
 w:World
 K:PySem.W.Frag
 mg:Str→Option Value
 base:Heap
 A:Around
 N:List Str
 s₀:Shared
 H₀:Hp
 env:Env
 outer:List Env
 stack:List Env
 ex:List Addr
 fn:Str→Bool
 calm:Bool
 pn:List (Addr×Obj)
 xe:Value→Shared→Prop
def frs (l:List Env):List Addr:=l.filterMap (·.frame)
abbrev Cx.fs (X:Cx):List Addr:=frs X.outer
def Vis (sc:Scope) (x:Str):Prop:=sc.names.lookup x=some .local∨sc.names.lookup x=some .cell∨sc.names.lookup x=some .free
def Loc (sc:Scope) (x:Str):Prop:=sc.names.lookup x=some .local∨sc.names.lookup x=some .cell
def Look (env:Env) (h:Heap) (m:Str→Option Value) (x:Str) (u:Value):Prop :=
 (env.kindOf x=some .local∧m x=some u) ∨((env.kindOf x=some .cell∨env.kindOf x=some .free)∧∃c,env.cells.lookup x=some c∧h.IsCell c (some u))
structure Cx.Ok (X:Cx):Prop where
 mod:Mod X.K X.mg X.base
 kind:X.env.scope.kind = .function
 glob:X.env.globals=mainGlobals
 blt:X.env.builtins=builtinsNs
 above:X.s₀.heap.objs.size≤X.env.locals
 inj:∀x y c,X.env.cells.lookup x=some c→X.env.cells.lookup y=some c→x=y
 has:∀x,(X.env.kindOf x=some .cell∨X.env.kindOf x=some .free)→∃c,X.env.cells.lookup x=some c
 cab:∀x c,X.fn x=true→X.env.cells.lookup x=some c→X.s₀.heap.objs.size≤c
 hd:X.calm=true→X.A.handled=none
 frames:X.A.frames=some X.stack
 stk:X.stack=X.outer ∨(X.stack=X.env::X.outer∧X.env.frame=some X.env.locals)
 exf:∀b∈X.ex,b≠X.env.locals∧∀x c,X.env.cells.lookup x=some c→c≠b
 bs:∀b o,X.base.get? b=some o→X.s₀.heap.get? b=some o∧X.H₀ b=none
 bsz:X.base.objs.size≤X.s₀.heap.objs.size
 noex:∀b o,X.base.get? b=some o→b∉X.ex
 exfs:∀b∈X.ex,b∉X.fs
 funs:X.s₀.heap.FunFrames X.base X.outer
 frf:∀b∈X.fs,X.H₀ b=none
structure Inv (X:Cx) (pins:List (Addr×Obj)) (σ:List (Option V)) (H:Hp) (s:Shared):Prop where
 ok:X.Ok
 os:s.os=X.s₀.os
 bare:AllBare s.gens
 base:Un X.fs X.ex X.H₀ H X.s₀.heap s.heap
 loc:∃m,s.heap.Ns X.env.locals m∧∀(i:Nat) (x:Str) (v:V),X.N[i]? = some x→σ[i]? = some (some v)→Vis X.env.scope x→∃u,RelV v u∧Look X.env s.heap m x u
 cell:∀x c,X.env.cells.lookup x=some c→∃v,s.heap.IsCell c v
 free:H X.env.locals=none
 freeC:∀x c,X.env.cells.lookup x=some c→H c=none
 pin:∀p∈X.pn++pins,s.heap.get? p.1=some p.2∧H p.1=none∧p.1≠X.env.locals∧p.1∉X.fs∧∀v,p.2.data ≠ .cell v
 hok:HOk X.prog X.w H s.heap
 len:σ.length=X.N.length
section
variable {X:Cx}{pins:List (Addr×Obj)}{σ:List (Option V)}{H H':Hp}{s:Shared}{h':Heap}
theorem Cx.Ok.nofr (ok:X.Ok) {b:Addr}{o:Obj}(e:X.base.get? b=some o):b∉X.fs:=fun hb=>by
 have:=(ok.funs.mem hb).1
 rw[e]at this;cases this
theorem Inv.bs (I:Inv X pins σ H s):∀b o,X.base.get? b=some o→s.heap.get? b=some o∧H b=none:=fun b o e =>
 ⟨I.base.keep b o (I.ok.bs b o e).1 (I.ok.bs b o e).2 (I.ok.nofr e) (I.ok.noex b o e),I.base.free b o (I.ok.bs b o e).1 (I.ok.bs b o e).2 (I.ok.noex b o e)⟩
theorem Inv.bk (I:Inv X pins σ H s):∀b o,X.base.get? b=some o→s.heap.get? b=some o:=fun b o e=>(I.bs b o e).1
theorem Inv.mod (I:Inv X pins σ H s):Mod X.K X.mg X.base:=I.ok.mod
theorem Inv.kIn (I:Inv X pins σ H s):X.K.In s.heap:=I.ok.mod.kin.keeps I.bk
theorem Inv.nolimit (I:Inv X pins σ H s):s.heap.NoLimit:=I.ok.mod.nolimit.keeps I.bk
theorem Inv.lt (I:Inv X pins σ H s):X.env.locals<s.heap.objs.size:=let ⟨_,hn,_⟩:=I.loc;hn.lt
theorem Inv.sz (I:Inv X pins σ H s):X.s₀.heap.objs.size≤s.heap.objs.size:=Nat.le_trans I.ok.above (Nat.le_of_lt I.lt)
theorem Inv.nofs (I:Inv X pins σ H s) {a:Addr}(h:s.heap.objs.size≤a):a∉X.fs:=fun hb=>by
 obtain⟨_,o,ho,_⟩:=I.ok.funs.mem hb
 exact absurd (Nat.lt_of_lt_of_le (Heap.lt_size ho) (Nat.le_trans I.sz h)) (Nat.lt_irrefl _)
theorem Inv.cne (I:Inv X pins σ H s):∀x c,X.env.cells.lookup x=some c→c≠X.env.locals:=fun x c e z=>by
 obtain⟨v,o,ho,hd⟩:=I.cell x c e
 obtain⟨m,⟨o',es,ep,ho',hd',_⟩,_⟩:=I.loc
 rw[z,ho']at ho;cases ho;rw[hd']at hd;cases hd
theorem Inv.funs (I:Inv X pins σ H s):s.heap.FunFrames X.base X.outer:=by
 have all:∀(l:List Env),(∀b∈frs l,b∈X.fs)→X.s₀.heap.FunFrames X.base l→s.heap.FunFrames X.base l:=by
  intro l
  induction l with
  | nil=>intro _ _;trivial
  | cons env r ih =>
   intro hs hl
   obtain⟨hk,⟨L,o,hf,hn,ho,hd⟩,hr⟩:=hl
   have hL:L∈X.fs:=hs L (by unfold frs;rw[List.filterMap_cons,hf];exact List.mem_cons_self)
   obtain⟨sl,e⟩:=I.base.slot L o ho (I.ok.frf L hL) hL fun z=>I.ok.exfs L z hL
   exact⟨hk,⟨L,_,hf,hn,e,hd⟩,ih (fun b hb=>hs b (by unfold frs;rw[List.filterMap_cons,hf];exact List.mem_cons_of_mem _ hb)) hr⟩
 exact all X.outer (fun _ hb=>hb) I.ok.funs
theorem Inv.stack (I:Inv X pins σ H s):s.heap.FunFrames X.base X.stack:=by
 rcases I.ok.stk with e|⟨e,hf⟩
 ·rw[e];exact I.funs
 ·rw[e]
  obtain⟨m,hn,_⟩:=I.loc
  refine .cons (by rw[I.ok.kind];decide) hf hn ?_ I.funs
  exact Heap.get?_none_of_le (Nat.le_trans I.ok.bsz I.ok.above)
theorem Inv.stkSub (I:Inv X pins σ H s):∀b∈frs X.stack,b∈X.env.locals::X.fs:=fun b hb=>by
 rcases I.ok.stk with e|⟨e,hf⟩
 ·rw[e]at hb;exact List.mem_cons_of_mem _ hb
 ·rw[e]at hb
  unfold frs at hb
  rw[List.filterMap_cons,hf]at hb
  exact hb
theorem Inv.stkFree (I:Inv X pins σ H s):∀b∈frs X.stack,H b=none:=fun b hb=>by
 rcases List.mem_cons.mp (I.stkSub b hb) with e|hb
 ·rw[e];exact I.free
 ·obtain⟨_,o,ho,_⟩:=I.ok.funs.mem hb
  exact I.base.free b o ho (I.ok.frf b hb) fun z=>I.ok.exfs b z hb
theorem Inv.step {g':Array GenState}{t':Nat}{d':Drawn}{ch:List Addr}(I:Inv X pins σ H s)
  (hch:∀b∈ch,(b∈X.ex∨X.s₀.heap.objs.size≤b)∧b≠X.env.locals∧(∀x c,X.env.cells.lookup x=some c→c≠b)∧∀p∈X.pn++pins,p.1≠b)
  (keep:∀b o,b≠X.env.locals→b∉X.fs→b∉ch→s.heap.get? b=some o→H b=none→h'.get? b=some o)
  (slot:∀b o,b≠X.env.locals→b∈X.fs→b∉ch→s.heap.get? b=some o→H b=none→∃sl,h'.get? b=some { o with slots:=sl }) (free:∀b o,b∉ch→s.heap.get? b=some o→H b=none→H' b=none)
  (there:∀b o,b∉ch→s.heap.get? b=some o→∃o',h'.get? b=some o')
  (tups:∀b xs,H b=some (.tup xs)→H' b=some (.tup xs)) (frzs:∀b o u,H b=some (.frz o u)→H' b=some (.frz o u)) (tbls:∀b ps,H b=some (.tbl ps)→∃more,H' b=some (.tbl (ps++more)))
  (ns:∀m,s.heap.Ns X.env.locals m→h'.Ns X.env.locals m) (hok:HOk X.prog X.w H' h') (hg:AllBare g') :
  Inv X pins σ H' { s with heap:=h',gens:=g',drawn:=d',toks:=t' }:=by
 have neL:∀b o,X.s₀.heap.get? b=some o→b≠X.env.locals:=fun b o e=>Nat.ne_of_lt (Nat.lt_of_lt_of_le (Heap.lt_size e) I.ok.above)
 have neC:∀b o,X.s₀.heap.get? b=some o→b∉X.ex→b∉ch:=fun b o e hx hb=>by
  rcases(hch b hb).1 with z|z
  ·exact hx z
  ·exact absurd (Nat.lt_of_lt_of_le (Heap.lt_size e) z) (Nat.lt_irrefl _)
 have cellK:∀x c,X.env.cells.lookup x=some c→∀v,s.heap.IsCell c v→h'.IsCell c v:=fun x c e v ⟨o,ho,hd⟩=>by
  have nch:c∉ch:=fun z=>(hch c z).2.2.1 x c e rfl
  by_cases hc:c∈X.fs
  ·obtain⟨sl,q⟩:=slot c o (I.cne x c e) hc nch ho (I.freeC x c e)
   exact⟨_,q,hd⟩
  ·exact⟨o,keep c o (I.cne x c e) hc nch ho (I.freeC x c e),hd⟩
 refine⟨I.ok,I.os,hg,⟨fun b o e n hb hx=>?_,fun b o e n hb hx=>?_,fun b o e n hx=>?_,fun b o e hx=>?_,fun b xs e=>tups b xs (I.base.tups b xs e),fun b o xs e=>frzs b o xs (I.base.frzs b o xs e),fun b ps e=>?_⟩,?_,fun x c e=>?_,?_,fun x c e=>?_,fun p hp=>?_,hok,I.len⟩
 ·exact keep b o (neL b o e) hb (neC b o e hx) (I.base.keep b o e n hb hx) (I.base.free b o e n hx)
 ·obtain⟨sl,e1⟩:=I.base.slot b o e n hb hx
  obtain⟨sl',e2⟩:=slot b _ (neL b o e) hb (neC b o e hx) e1 (I.base.free b o e n hx)
  exact⟨sl',e2⟩
 ·obtain⟨o',e1⟩:=I.base.there b o e hx
  exact free b o' (neC b o e hx) e1 (I.base.free b o e n hx)
 ·obtain⟨o',e1⟩:=I.base.there b o e hx
  exact there b o' (neC b o e hx) e1
 ·obtain⟨m1,e1⟩:=I.base.tbls b ps e
  obtain⟨m2,e2⟩:=tbls b _ e1
  exact⟨m1++m2,by rw[e2,Array.append_assoc]⟩
 ·obtain⟨m,hn,hl⟩:=I.loc
  refine⟨m,ns m hn,fun i x v e1 e2 e3=>?_⟩
  obtain⟨u,r,l⟩:=hl i x v e1 e2 e3
  refine⟨u,r,?_⟩
  rcases l with l|⟨k,c,e,z⟩
  ·exact .inl l
  ·exact .inr ⟨k,c,e,cellK x c e _ z⟩
 ·obtain⟨v,z⟩:=I.cell x c e
  exact⟨v,cellK x c e v z⟩
 ·obtain⟨m,⟨o,_,_,ho,_⟩,_⟩:=I.loc
  exact free _ o (fun z=>(hch _ z).2.1 rfl) ho I.free
 ·obtain⟨v,o,ho,hd⟩:=I.cell x c e
  exact free c o (fun z=>(hch c z).2.2.1 x c e rfl) ho (I.freeC x c e)
 ·obtain⟨e,n,ne,nf,d⟩:=I.pin p hp
  have nch:p.1∉ch:=fun z=>(hch p.1 z).2.2.2 p hp rfl
  exact⟨keep p.1 p.2 ne nf nch e n,free p.1 p.2 nch e n,ne,nf,d⟩
theorem Inv.un {t':Nat}(I:Inv X pins σ H s) (u:Un X.fs [] H H' s.heap h') (hok:HOk X.prog X.w H' h'):Inv X pins σ H' { s with heap:=h',toks:=t' }:=by
 obtain⟨m,⟨o,es,ep,ho,r⟩,_⟩:=id I.loc
 obtain⟨sl,hL⟩:=u.any ho I.free (by simp)
 exact I.step (g':=s.gens) (d':=s.drawn) (ch:=[]) (fun _ z=>nomatch z) (fun b o _ hb _ e n=>u.keep b o e n hb (by simp)) (fun b o _ hb _ e n=>u.slot b o e n hb (by simp)) (fun b o _ e n=>u.free b o e n (by simp)) (fun b o _ e=>u.there b o e (by simp)) u.tups u.frzs u.tbls (fun m' hm=>by
  obtain⟨o',es',ep',ho',r'⟩:=hm
  rw[ho]at ho';cases ho'
  exact⟨_,es',ep',hL,r'⟩) hok I.bare
theorem Inv.call {g':Array GenState}{t':Nat}{d':Drawn}{ch:List Addr}(I:Inv X pins σ H s) (u:Un (frs X.stack) ch H H' s.heap h') (hok:HOk X.prog X.w H' h') (hg:AllBare g')
  (hch:∀b∈ch,(b∈X.ex∨X.s₀.heap.objs.size≤b)∧b≠X.env.locals∧(∀x c,X.env.cells.lookup x=some c→c≠b)∧∀p∈X.pn++pins,p.1≠b) :
  Inv X pins σ H' { s with heap:=h',gens:=g',drawn:=d',toks:=t' }:=by
 obtain⟨m,⟨o,es,ep,ho,r⟩,_⟩:=id I.loc
 obtain⟨sl,hL⟩:=u.any ho I.free fun z=>(hch _ z).2.1 rfl
 exact I.step (ch:=ch) hch (fun b o hL hb hc e n=>u.keep b o e n (fun z=>(List.mem_cons.mp (I.stkSub b z)).elim hL hb) hc) (fun b o _ _ hc e n=>u.any e n hc) (fun b o hc e n=>u.free b o e n hc) (fun b o hc e=>u.there b o e hc) u.tups u.frzs u.tbls (fun m' hm=>by
  obtain⟨o',es',ep',ho',r'⟩:=hm
  rw[ho]at ho';cases ho'
  exact⟨_,es',ep',hL,r'⟩) hok hg
theorem Inv.turned {t':Nat}{it:Addr}(I:Inv X pins σ H s) (k:∀b o,b≠it→s.heap.get? b=some o→h'.get? b=some o) (hn:H it=none) (hL:it≠X.env.locals)
  (h1:it∈X.ex∨X.s₀.heap.objs.size≤it) (h2:∀x c,X.env.cells.lookup x=some c→c≠it) (h3:∀p∈X.pn++pins,p.1≠it):Inv X pins σ H { s with heap:=h',toks:=t' }:=by
 have nit:∀b u,H b=some u→b≠it:=fun b u e z=>by rw[z,hn]at e;cases e
 refine I.step (g':=s.gens) (d':=s.drawn) (ch:=[it]) (fun b hb=>?_) (fun b o _ _ hc e _=>k b o (fun z=>hc (by simp[z])) e) (fun b o _ _ hc e _=>⟨o.slots,k b o (fun z=>hc (by simp[z])) e⟩) (fun _ _ _ _ n=>n)
  (fun b o hc e=>⟨o,k b o (fun z=>hc (by simp[z])) e⟩) (fun _ _ e=>e) (fun _ _ _ e=>e) (fun b ps e=>⟨#[],by rw[e];simp⟩) (fun m hm=>?_) (fun b u e=>?_) I.bare
 ·have e:b=it:=by simpa using hb
  subst e
  exact⟨h1,hL,h2,h3⟩
 ·obtain⟨o,es,ep,ho,r⟩:=hm
  exact⟨o,es,ep,k _ o (Ne.symm hL) ho,r⟩
 ·refine(I.hok b u e).stay (fun c v hc q=>k c v ?_ q) (fun _ q=>q) fun _ _ q=>q
  rcases hc with z|z
  ·rw[z];exact nit b u e
  ·exact nit c _ z
theorem Inv.tok (I:Inv X pins σ H s) (t:Nat):Inv X pins σ H { s with toks:=t }:=I.un (h':=s.heap) (t':=t) Un.refl I.hok
theorem Inv.kept {t':Nat}(I:Inv X pins σ H s) (k:∀b u,s.heap.get? b=some u→h'.get? b=some u):Inv X pins σ H { s with heap:=h',toks:=t' }:=I.un (Un.kept k) (I.hok.kept k)
theorem Inv.laid {a:Addr}{o:HO}{t':Nat}(I:Inv X pins σ H s) (k:∀b u,s.heap.get? b=some u→h'.get? b=some u) (hp:s.heap.objs.size≤a) (new:ObjOk X.prog X.w (upd H a o) h' a o) :
  Inv X pins σ (upd H a o) { s with heap:=h',toks:=t' }:=I.un (Un.laid k hp (I.hok.fresh hp)) (I.hok.laid k hp new)
theorem Inv.write {x e:Addr}{o:HO}{t':Nat}(I:Inv X pins σ H s) (mu:Mut (H x)) (he:e=x∨H e=some (.own x)) (k:∀b u,b≠e→s.heap.get? b=some u→h'.get? b=some u) (heo:∃u,h'.get? e=some u)
  (new:ObjOk X.prog X.w (upd H x o) h' x o):Inv X pins σ (upd H x o) { s with heap:=h',toks:=t' }:=I.un (Un.write mu he k heo) (I.hok.write mu he k heo new)
theorem Inv.pins_of {pins':List (Addr×Obj)}(I:Inv X pins σ H s) (h:∀p∈pins',s.heap.get? p.1=some p.2∧H p.1=none∧p.1≠X.env.locals∧p.1∉X.fs∧∀v,p.2.data ≠ .cell v):Inv X pins' σ H s :=
 ⟨I.ok,I.os,I.bare,I.base,I.loc,I.cell,I.free,I.freeC,fun p hp=>(List.mem_append.mp hp).elim (fun z=>I.pin p (List.mem_append_left _ z)) (h p),I.hok,I.len⟩
theorem nodup_ix {N:List Str}(hN:N.Nodup) {i j:Nat}{x:Str}(a:N[i]? = some x) (b:N[j]? = some x):i=j:=by
 obtain⟨h1,e1⟩:=List.getElem?_eq_some_iff.mp a
 obtain⟨h2,e2⟩:=List.getElem?_eq_some_iff.mp b
 exact(List.getElem_inj hN).mp (e1.trans e2.symm)
theorem store_ok2 {M:Model}{A:Around}{E:Value→Shared→Prop}{i:Nat}{x:Str}{v:V}{u:Value}{Q:Unit→Shared→Prop}(I:Inv X pins σ H s) (hN:X.N.Nodup) (hi:X.N[i]? = some x) (hx:Loc X.env.scope x) (r:RelV v u)
  (h:∀s',Inv X pins (σ.set i (some v)) H s'→(∃a,Heap.SameBut a s.heap s'.heap∧(a=X.env.locals∨X.env.cells.lookup x=some a))→Q () s') (hf:X.fn x=true∨X.env.scope.names.lookup x=some .local:=by first|exact .inl rfl|exact .inr rfl|assumption):wpAny M A (storeName X.env x u) Q E s:=by
 obtain⟨m,hn,hl⟩:=id I.loc
 have hcls:(X.env.scope.kind == .class || (X.env.scope.kind == .module && X.env.locals != X.env.globals))=false:=by rw[I.ok.kind];rfl
 have hiσ:i<σ.length:=by rw[I.len];exact(List.getElem?_eq_some_iff.mp hi).1
 have cne:=I.cne
 have tracked:∀{a:Addr}{h':Heap},(∃o,s.heap.get? a=some o∧H a=none)→Heap.SameBut a s.heap h'→HOk X.prog X.w H h':=fun {a h'} ha hs b ob e=>by
  obtain⟨_,_,hfree⟩:=ha
  refine(I.hok b ob e).stay (fun c w' hc q=>(hs.2 c ?_).trans q) (fun _ q=>q) fun _ _ q=>q
  rintro rfl
  rcases hc with rfl|hc
  ·rw[hfree]at e;cases e
  ·rw[hfree]at hc;cases hc
 rcases hx with hk|hk
 ·refine wpAny_storeName_local hk hn (fun h' hn' hs=>?_) hcls
  obtain⟨oL,_,_,hoL,_⟩:=id hn
  refine h _ ⟨I.ok,I.os,I.bare,⟨fun b o e n hb hx=>?_,fun b o e n hb hx=>?_,I.base.free,fun b o e hx=>?_,I.base.tups,I.base.frzs,I.base.tbls⟩,⟨_,hn',fun j y v' e1 e2 e3=>?_⟩,fun y c e=>?_,I.free,I.freeC,fun p hp=>?_,tracked ⟨oL,hoL,I.free⟩ hs,by simpa using I.len⟩ ⟨_,hs,.inl rfl⟩
  ·exact(hs.2 b (Nat.ne_of_lt (Nat.lt_of_lt_of_le (Heap.lt_size e) I.ok.above))).trans (I.base.keep b o e n hb hx)
  ·obtain⟨sl,e1⟩:=I.base.slot b o e n hb hx
   exact⟨sl,(hs.2 b (Nat.ne_of_lt (Nat.lt_of_lt_of_le (Heap.lt_size e) I.ok.above))).trans e1⟩
  ·obtain⟨o',e1⟩:=I.base.there b o e hx
   exact⟨o',(hs.2 b (Nat.ne_of_lt (Nat.lt_of_lt_of_le (Heap.lt_size e) I.ok.above))).trans e1⟩
  ·by_cases hj:j=i
   ·subst hj
    rw[hi]at e1;cases e1
    rw[List.getElem?_set_self hiσ]at e2
    cases e2
    exact⟨u,r,.inl ⟨hk,by simp⟩⟩
   ·rw[List.getElem?_set_ne (Ne.symm hj)]at e2
    obtain⟨u',r',q⟩:=hl j y v' e1 e2 e3
    refine⟨u',r',?_⟩
    rcases q with⟨k,e⟩|⟨k,c,e,z⟩
    ·refine .inl ⟨k,?_⟩
     have:y≠x:=fun e=>hj (nodup_ix hN e1 (e ▸ hi))
     simp[this,e]
    ·exact .inr ⟨k,c,e,z.sameBut hs (cne y c e)⟩
  ·obtain⟨w',z⟩:=I.cell y c e
   exact⟨w',z.sameBut hs (cne y c e)⟩
  ·obtain⟨e,n,ne,nf,d⟩:=I.pin p hp
   exact⟨(hs.2 p.1 ne).trans e,n,ne,nf,d⟩
 ·have hfn:X.fn x=true:=by
   rcases hf with z|z
   ·exact z
   ·rw[z]at hk;cases hk
  obtain⟨c,hc⟩:=I.ok.has x (.inl hk)
  obtain⟨w',z⟩:=I.cell x c hc
  refine wpAny_storeName_cell I.ok.kind hk hc z (fun h' hc' hs=>?_)
  obtain⟨oc,hoc,hocd⟩:=id z
  refine h { s with heap:=h' } ⟨I.ok,I.os,I.bare,⟨fun b o e n hb hx=>?_,fun b o e n hb hx=>?_,I.base.free,fun b o e hx=>?_,I.base.tups,I.base.frzs,I.base.tbls⟩,⟨m,hn.sameBut hs (Ne.symm (cne x c hc)),fun j y v' e1 e2 e3=>?_⟩,fun y c' e=>?_,I.free,I.freeC,fun p hp=>?_,tracked ⟨oc,hoc,I.freeC x c hc⟩ hs,by simpa using I.len⟩ ⟨c,hs,.inr hc⟩
  ·exact(hs.2 b (Nat.ne_of_lt (Nat.lt_of_lt_of_le (Heap.lt_size e) (I.ok.cab x c hfn hc)))).trans (I.base.keep b o e n hb hx)
  ·obtain⟨sl,e1⟩:=I.base.slot b o e n hb hx
   exact⟨sl,(hs.2 b (Nat.ne_of_lt (Nat.lt_of_lt_of_le (Heap.lt_size e) (I.ok.cab x c hfn hc)))).trans e1⟩
  ·obtain⟨o',e1⟩:=I.base.there b o e hx
   exact⟨o',(hs.2 b (Nat.ne_of_lt (Nat.lt_of_lt_of_le (Heap.lt_size e) (I.ok.cab x c hfn hc)))).trans e1⟩
  ·by_cases hj:j=i
   ·subst hj
    rw[hi]at e1;cases e1
    rw[List.getElem?_set_self hiσ]at e2
    cases e2
    exact⟨u,r,.inr ⟨.inl hk,c,hc,hc'⟩⟩
   ·rw[List.getElem?_set_ne (Ne.symm hj)]at e2
    obtain⟨u',r',q⟩:=hl j y v' e1 e2 e3
    refine⟨u',r',?_⟩
    rcases q with q|⟨k,c',e,z'⟩
    ·exact .inl q
    ·refine .inr ⟨k,c',e,z'.sameBut hs ?_⟩
     rintro rfl
     exact hj (nodup_ix hN e1 (I.ok.inj _ _ _ e hc ▸ hi))
  ·by_cases hcc:c'=c
   ·subst hcc;exact⟨_,hc'⟩
   ·obtain⟨w2,z2⟩:=I.cell y c' e
    exact⟨w2,z2.sameBut hs hcc⟩
  ·obtain⟨e,n,ne,nf,d⟩:=I.pin p hp
   refine⟨(hs.2 p.1 ?_).trans e,n,ne,nf,d⟩
   intro q
   rw[q,hoc]at e
   have q':oc=p.2:=Option.some.inj e
   exact d w' (by rw[← q'];exact hocd)
theorem store_ok {M:Model}{A:Around}{E:Value→Shared→Prop}{i:Nat}{x:Str}{v:V}{u:Value}{Q:Unit→Shared→Prop}(I:Inv X pins σ H s) (hN:X.N.Nodup) (hi:X.N[i]? = some x) (hx:Loc X.env.scope x) (r:RelV v u)
  (h:∀s',Inv X pins (σ.set i (some v)) H s'→Q () s') (hf:X.fn x=true∨X.env.scope.names.lookup x=some .local:=by first|exact .inl rfl|exact .inr rfl|assumption):wpAny M A (storeName X.env x u) Q E s :=
 store_ok2 I hN hi hx r (fun s' I' _=>h s' I') hf
theorem Inv.call' {s':Shared}{ch:List Addr}(I:Inv X pins σ H s) (ho:s'.os=s.os) (u:Un (frs X.stack) ch H H' s.heap s'.heap) (hok:HOk X.prog X.w H' s'.heap) (hg:AllBare s'.gens)
  (hch:∀b∈ch,(b∈X.ex∨X.s₀.heap.objs.size≤b)∧b≠X.env.locals∧(∀x c,X.env.cells.lookup x=some c→c≠b)∧∀p∈X.pn++pins,p.1≠b):Inv X pins σ H' s':=by
 obtain⟨h',g',d',t',o'⟩:=s'
 have e:o'=s.os:=ho
 subst e
 exact I.call (g':=g') (t':=t') (d':=d') u hok hg hch
end
abbrev XK:=Value→Option Addr→Hp→Prop
abbrev St:=List (Option V)
abbrev VK:=V→Hp→Prop
abbrev TE:=St→Hp→VK→Prop
abbrev TT:=St→Hp→(Bool→Hp→Prop)→Prop
abbrev TA:=St→Hp→(List V→Hp→Prop)→Prop
structure Ends where
 nx:St→Hp→Prop
 rt:VK
 bk:St→Hp→Prop:=fun _ _=>False
 ct:St→Hp→Prop:=fun _ _=>False
abbrev TS:=Ends→St→Hp→Prop
def EP (X:Cx) (pins:List (Addr×Obj)) (σ:St) (Q:VK) (u:Value) (s':Shared):Prop:=∃v H',Inv X pins σ H' s'∧RelV v u∧Q v H'
def TP (X:Cx) (pins:List (Addr×Obj)) (σ:St) (Q:Bool→Hp→Prop) (b:Bool) (s':Shared):Prop:=∃H',Inv X pins σ H' s'∧Q b H'
def AP (X:Cx) (pins:List (Addr×Obj)) (σ:St) (Q:List V→Hp→Prop) (us:List Value) (s':Shared):Prop:=∃vs H',Inv X pins σ H' s'∧Vals vs us∧Q vs H'
def SP (X:Cx) (pins:List (Addr×Obj)) (D:Ends) (f:Flow) (s':Shared):Prop :=
 match f with
 | .next=>∃σ' H',Inv X pins σ' H' s'∧D.nx σ' H'
 | .brk=>∃σ' H',Inv X pins σ' H' s'∧D.bk σ' H'
 | .cont=>∃σ' H',Inv X pins σ' H' s'∧D.ct σ' H'
 | .ret u=>∃v σ' H',Inv X pins σ' H' s'∧RelV v u∧D.rt v H'
def PE (X:Cx) (e:Expr) (t:TE):Prop :=
 ∀(pins:List (Addr×Obj)) (s:Shared) (σ:St) (H:Hp) (Q:VK),Inv X pins σ H s→t σ H Q→wpAny (model X.prog X.w) X.A (eval e X.env) (EP X pins σ Q) X.xe s
def PT (X:Cx) (e:Expr) (t:TT):Prop :=
 ∀(pins:List (Addr×Obj)) (s:Shared) (σ:St) (H:Hp) (Q:Bool→Hp→Prop),Inv X pins σ H s→t σ H Q→wpAny (model X.prog X.w) X.A (isTrue e X.env (eval e X.env)) (TP X pins σ Q) X.xe s
def PW (X:Cx) (e:Expr) (t:TT):Prop :=
 ∀(whole:Sem Value) (pins:List (Addr×Obj)) (s:Shared) (σ:St) (H:Hp) (Q:Bool→Hp→Prop),Inv X pins σ H s→t σ H Q→wpAny (model X.prog X.w) X.A (isTrue e X.env whole) (TP X pins σ Q) X.xe s
theorem PW.pt {X:Cx}{e:Expr}{t:TT}(h:PW X e t):PT X e t:=h _
def PA (X:Cx) (es:List Expr) (t:TA):Prop :=
 ∀(pos:Pos) (pins:List (Addr×Obj)) (s:Shared) (σ:St) (H:Hp) (Q:List V→Hp→Prop),Inv X pins σ H s→t σ H Q→wpAny (model X.prog X.w) X.A (spliced (backTo pos (starEach es X.env))) (AP X pins σ Q) X.xe s
def PS (X:Cx) (st:Stmt) (t:TS):Prop :=
 ∀(pins:List (Addr×Obj)) (s:Shared) (σ:St) (H:Hp) (D:Ends),Inv X pins σ H s→t D σ H→wpAny (model X.prog X.w) X.A (exec st X.env) (SP X pins D) X.xe s
def PSs (X:Cx) (st:List Stmt) (t:TS):Prop :=
 ∀(pins:List (Addr×Obj)) (s:Shared) (σ:St) (H:Hp) (D:Ends),Inv X pins σ H s→t D σ H→wpAny (model X.prog X.w) X.A (execs st X.env) (SP X pins D) X.xe s
theorem thn {α:Type}{t:Sem α}{Q Q':α→Shared→Prop}{M:Model}{A:Around}{E:Value→Shared→Prop}{s:Shared}(h:wpAny M A t Q E s) (hQ:∀a s,Q a s→Q' a s):wpAny M A t Q' E s:=wpAny_mono h hQ fun _ _ x=>x
end L2
namespace L2
open PySem PySem.Spec PyProof.Rows
section
variable {X:Cx}
theorem bin {a b:Expr}{ta tb:TE}(ha:PE X a ta) (hb:PE X b tb) {pins:List (Addr×Obj)}{s:Shared}{σ:St}{H:Hp}{R:V→V→Hp→Prop}(I:Inv X pins σ H s) (h:ta σ H fun x H1=>tb σ H1 fun y H2=>R x y H2)
  {α:Type}{Q:α→Shared→Prop}{f:Value→Value→Sem α}
  (hf:∀v u s2 x y H2,Inv X pins σ H2 s2→RelV x v→RelV y u→R x y H2→wpAny (model X.prog X.w) X.A (f v u) Q X.xe s2) :
  wpAny (model X.prog X.w) X.A (eval a X.env) (fun v s₁=>wpAny (model X.prog X.w) X.A (eval b X.env) (fun u s₂=>wpAny (model X.prog X.w) X.A (f v u) Q X.xe s₂) X.xe s₁) X.xe s:=by
 refine thn (ha pins s σ H _ I h) fun v s1 ⟨x,H1,I1,r1,q1⟩=>?_
 refine thn (hb pins s1 σ H1 _ I1 q1) fun u s2 ⟨y,H2,I2,r2,q2⟩=>?_
 exact hf v u s2 x y H2 I2 r1 r2 q2
def tVar (i:Nat):TE:=fun σ H Q=>∃v,σ[i]? = some (some v)∧Q v H
def tC (v:V):TE:=fun _ H Q=>Q v H
theorem pe_var {i:Nat}{x:Str}{pos:Pos}(hN:X.N[i]? = some x) (hv:Vis X.env.scope x) (hd:(x ==("__debug__" : Str))=false:=by decide) (hcd:(x ==("__classdict__" : Str))=false:=by decide):PE X (.Name x pos) (tVar i):=by
 intro pins s σ H Q I h
 obtain⟨v,e,h⟩:=h
 obtain⟨m,hn,hl⟩:=I.loc
 obtain⟨u,r,l⟩:=hl i x v hN e hv
 have fin:EP X pins σ Q u s:=⟨v,H,I,r,h⟩
 rcases l with⟨hk,hm⟩|⟨hk,c,hc,hcell⟩
 ·exact wpAny_Name (wpAny_loadName_local I.ok.kind hk hn hm fin) hd
 ·rcases hk with hk|hk
  ·exact wpAny_Name (wpAny_loadName_cell I.ok.kind hk hc hcell fin) hd
  ·exact wpAny_Name (wpAny_loadName_free I.ok.kind hk hc hcell fin hcd) hd
theorem pe_int {i j pos}:PE X (.Constant (.int i) j pos) (tC (.int i)):=fun _ _ _ H _ I h=>wpAny_Constant_int ⟨.int i,H,I.tok _,⟨_,rfl⟩,h⟩
theorem pe_bl {b j pos}:PE X (.Constant (.bool b) j pos) (tC (.bl b)):=fun _ _ _ H _ I h=>Constant_bool ⟨.bl b,H,I,rfl,h⟩
theorem pe_non {j pos}:PE X (.Constant .none j pos) (tC .non):=fun _ _ _ H _ I h=>Constant_none ⟨.non,H,I,rfl,h⟩
theorem pe_str {x j pos}:PE X (.Constant (.str x) j pos) (tC (.str x)):=fun _ _ _ H _ I h=>Calls.Constant_str ⟨.str x,H,I.tok _,⟨_,rfl⟩,h⟩
def Gl (X:Cx) (x:Str):Prop:=X.env.kindOf x=some .globalImplicit
theorem ld_glob {E:Value→Shared→Prop}{pins:List (Addr×Obj)}{s:Shared}{σ:St}{H:Hp}{x:Str}{u:Value}{pos:Pos}{Q:Value→Shared→Prop}(I:Inv X pins σ H s) (hg:Gl X x) (hm:X.mg x=some u) (h:Q u s)
  (hd:(x ==("__debug__" : Str))=false:=by decide):wpAny (model X.prog X.w) X.A (eval (.Name x pos) X.env) Q E s :=
 Calls.Name_function_global I.ok.kind hg (Calls.loadGlobal_global (by rw[I.ok.glob];exact I.mod.glob.keeps I.bk) hm h) hd
theorem ld_blt {E:Value→Shared→Prop}{pins:List (Addr×Obj)}{s:Shared}{σ:St}{H:Hp}{x:Str}{u:Value}{pos:Pos}{Q:Value→Shared→Prop}(I:Inv X pins σ H s) (hg:Gl X x) (hm:X.mg x=none) (hv:bootBuiltins x=some u) (h:Q u s)
  (hn:x ≠ "__name__" := by decide) (hd:(x ==("__debug__" : Str))=false:=by decide):wpAny (model X.prog X.w) X.A (eval (.Name x pos) X.env) Q E s:=by
 obtain⟨mb,h1,h2⟩:=I.mod.blt
 exact Calls.Name_function_global I.ok.kind hg (Calls.loadGlobal_builtin (by rw[I.ok.glob];exact I.mod.glob.keeps I.bk) hm (by rw[I.ok.blt];exact h1.keeps I.bk) ((h2 x hn).trans hv) h) hd
theorem pe_glob {x:Str}{v:V}{u:Value}{pos:Pos}(hg:Gl X x) (hm:X.mg x=some u) (r:RelV v u) (hd:(x ==("__debug__" : Str))=false:=by decide):PE X (.Name x pos) (tC v) :=
 fun _ _ _ H _ I h=>ld_glob I hg hm ⟨v,H,I,r,h⟩ hd
theorem pe_bltn {x:Str}{v:V}{u:Value}{pos:Pos}(hg:Gl X x) (hm:X.mg x=none) (hv:bootBuiltins x=some u) (r:RelV v u) (hn:x ≠ "__name__" := by decide) (hd:(x ==("__debug__" : Str))=false:=by decide):PE X (.Name x pos) (tC v) :=
 fun _ _ _ H _ I h=>ld_blt I hg hm hv ⟨v,H,I,r,h⟩ hn hd
variable {a b:Expr}{ta tb:TE}{pos:Pos}
def PC (X:Cx) (op:CmpOp) (a b:Expr) (t:TE):Prop :=
 ∀(pins:List (Addr×Obj)) (s:Shared) (σ:St) (H:Hp) (Q:VK),Inv X pins σ H s→t σ H Q →
  wpAny (model X.prog X.w) X.A (eval a X.env) (fun v s₁=>wpAny (model X.prog X.w) X.A (eval b X.env) (fun u s₂=>wpAny (model X.prog X.w) X.A (compareOp op v u) (EP X pins σ Q) X.xe s₂) X.xe s₁) X.xe s
def tB (t:TE):TT:=fun σ H Q=>t σ H fun x H1=>∃c,x = .bl c∧Q c H1
theorem pt_cmp {op:CmpOp}{t:TE}(h:PC X op a b t) (h1:behindInMarks op b=false:=by first|exact nobehind _ (by decide) (by decide)|rfl):PT X (.Compare a [op] [b] pos) (tB t):=by
 intro pins s σ H Q I hw
 refine wpAny_isTrue_Compare1 (thn (h pins s σ H _ I hw) fun v s1 h1=>thn h1 fun u s2 h2=>thn h2 fun c s3 ⟨x,H1,I1,r1,q1⟩=>?_) h1
 obtain⟨d,rfl,q⟩:=q1
 cases r1
 exact wpAny_truthy_bool ⟨H1,I1,q⟩
theorem pt_val {e:Expr}{t:TE}(h:PE X e t) (he:∀whole,isTrue e X.env whole =(do let v ← whole;standAt e.pos;holding [v] (truthy v)):=by intro _;rfl):PT X e (tB t):=by
 intro pins s σ H Q I hw
 refine isTrue_plain (thn (h pins s σ H _ I hw) fun v s1 ⟨x,H1,I1,r1,q1⟩=>?_) (he _)
 obtain⟨d,rfl,q⟩:=q1
 cases r1
 exact wpAny_truthy_bool ⟨H1,I1,q⟩
variable {tA tB':TT}{rest:List Expr}
def tAnd (t u:TT):TT:=fun σ H Q=>t σ H fun c H1=>if c=true then u σ H1 Q else Q false H1
def tOr (t u:TT):TT:=fun σ H Q=>t σ H fun c H1=>if c=true then Q true H1 else u σ H1 Q
def tNot (t:TT):TT:=fun σ H Q=>t σ H fun c H1=>Q (!c) H1
theorem pw_and1 (ha:PT X a tA):PW X (.BoolOp .And [a] pos) tA:=by
 intro wh pins s σ H Q I h
 refine isTrue_and (thn (ha pins s σ H Q I h) fun c s1 e=>?_)
 cases c with
 | true=>exact isTrue_and_nil e
 | false=>exact e
theorem pw_or1 (ha:PT X a tA):PW X (.BoolOp .Or [a] pos) tA:=by
 intro wh pins s σ H Q I h
 refine isTrue_or (thn (ha pins s σ H Q I h) fun c s1 e=>?_)
 cases c with
 | false=>exact isTrue_or_nil e
 | true=>exact e
theorem pw_and (ha:PT X a tA) (hb:PW X (.BoolOp .And (b::rest) pos) tB'):PW X (.BoolOp .And (a::b::rest) pos) (tAnd tA tB'):=by
 intro wh pins s σ H Q I h
 refine isTrue_and (thn (ha pins s σ H _ I h) fun c s1 ⟨H1,I1,q1⟩=>?_)
 cases c with
 | true=>exact hb wh pins s1 σ H1 Q I1 q1
 | false=>exact⟨H1,I1,q1⟩
theorem pw_or (ha:PT X a tA) (hb:PW X (.BoolOp .Or (b::rest) pos) tB'):PW X (.BoolOp .Or (a::b::rest) pos) (tOr tA tB'):=by
 intro wh pins s σ H Q I h
 refine isTrue_or (thn (ha pins s σ H _ I h) fun c s1 ⟨H1,I1,q1⟩=>?_)
 cases c with
 | true=>exact⟨H1,I1,q1⟩
 | false=>exact hb wh pins s1 σ H1 Q I1 q1
theorem pt_not (ha:PT X a tA):PT X (.UnaryOp .Not a pos) (tNot tA):=by
 intro pins s σ H Q I h
 exact isTrue_not (ha pins s σ H (fun c H1=>Q (!c) H1) I h)
def tAndV (ta tb:TE):TE:=fun σ H Q=>ta σ H fun x H1=>∃c,x = .bl c∧if c=true then tb σ H1 Q else Q (.bl false) H1
def tNotV (ta:TE):TE:=fun σ H Q=>ta σ H fun x H1=>∃c,x = .bl c∧Q (.bl (!c)) H1
theorem pe_one {op}{t:TE}(h:PE X a t):PE X (.BoolOp op [a] pos) t:=fun pins s σ H Q I hw=>BoolOp_one (h pins s σ H Q I hw)
theorem pe_and (ha:PE X a ta) (hb:PE X (.BoolOp .And (b::rest) pos) tb):PE X (.BoolOp .And (a::b::rest) pos) (tAndV ta tb):=by
 intro pins s σ H Q I h
 refine BoolOp_and (thn (ha pins s σ H _ I h) fun v s1 ⟨x,H1,I1,r1,q1⟩=>?_)
 obtain⟨c,rfl,q1⟩:=q1
 cases r1
 refine wpAny_truthy_bool ?_
 cases c with
 | true=>exact hb pins s1 σ H1 Q I1 q1
 | false=>exact⟨.bl false,H1,I1,rfl,q1⟩
theorem pe_not (ha:PE X a ta):PE X (.UnaryOp .Not a pos) (tNotV ta):=by
 intro pins s σ H Q I h
 refine UnaryOp_ (thn (ha pins s σ H _ I h) fun v s1 ⟨x,H1,I1,r1,q1⟩=>?_)
 obtain⟨c,rfl,q1⟩:=q1
 cases r1
 exact not_of (wpAny_truthy_bool ⟨.bl (!c),H1,I1,rfl,q1⟩)
end
end L2
namespace L2
open PySem PySem.Spec PyProof.Rows
def SqL (K:PySem.W.Frag) (H:Hp) (a:Addr) (xs:List V):Prop :=
 Rd H a (.lst xs) ∨
  ∃(o:Obj) (its:Array Value) (n:Nat),K.lookup a=some o∧o.cls = .type "list"∧o.dict=none∧o.data = .seq its n∧its.size≤sizeLine∧Vals xs its.toList
def SqT (K:PySem.W.Frag) (H:Hp) (a:Addr) (xs:List V):Prop :=
 Rd H a (.tup xs) ∨
  ∃(o:Obj) (its:Array Value) (n:Nat),K.lookup a=some o∧o.cls = .type "tuple"∧o.data = .seq its n∧its.size≤sizeLine∧Vals xs its.toList
def absV:Value→Option V
 | .none=>some .non
 | .bool b=>some (.bl b)
 | .int i _=>some (.int i)
 | .str x _=>some (.str x)
 | .bytes b _=>some (.byt b)
 | .float b _=>some (.flt b)
 | .ref a=>some (.ref a)
 | .type n=>some (.ty n)
 | _=>none
theorem RelV.abs {x:V}{u:Value}(r:RelV x u):absV u=some x:=by
 cases x with
 | non=>cases r;rfl
 | bl _=>cases r;rfl
 | int _=>obtain⟨t,rfl⟩:=r;rfl
 | str _=>obtain⟨t,rfl⟩:=r;rfl
 | byt _=>obtain⟨t,rfl⟩:=r;rfl
 | flt _=>obtain⟨t,rfl⟩:=r;rfl
 | ref _=>cases r;rfl
 | ty _=>cases r;rfl
theorem RelV.inj {x y:V}{u:Value}(r:RelV x u) (q:RelV y u):x=y:=Option.some.inj (r.abs.symm.trans q.abs)
theorem Vals.inj:∀{xs ys:List V}{us:List Value},Vals xs us→Vals ys us→xs=ys
 | _,_,_,.nil,.nil=>rfl
 | _,_,_,.cons r t,.cons r' t'=>by rw[r.inj r',Vals.inj t t']
section
variable {X:Cx}{pins:List (Addr×Obj)}{σ:St}{H:Hp}{s:Shared}{a:Addr}{xs ys:List V}
theorem SqL.of {K:PySem.W.Frag}(h:H a=some (.lst xs)):SqL K H a xs:=.inl (.inl h)
theorem SqT.of {K:PySem.W.Frag}(h:H a=some (.tup xs)):SqT K H a xs:=.inl (.inl h)
theorem Inv.list (I:Inv X pins σ H s) (h:SqL X.K H a xs):∃its:List Value,Vals xs its∧PlainL s.heap a its.toArray∧xs.length≤sizeLine:=by
 rcases h with h|⟨o,its,n,hk,hc,hd,hs,hz,r⟩
 ·obtain⟨z,its,n,r,e⟩:=h.ok I.hok
  exact⟨its,r,⟨_,n,e,rfl,rfl,rfl⟩,z⟩
 ·refine⟨its.toList,r,⟨o,n,I.kIn a o hk,hc,hd,by simpa using hs⟩,?_⟩
  have e:=r.length
  simp only[Array.length_toList]at e
  omega
theorem Inv.tuple (I:Inv X pins σ H s) (h:SqT X.K H a xs):∃its:List Value,Vals xs its∧IsTup s.heap a its.toArray∧xs.length≤sizeLine:=by
 rcases h with h|⟨o,its,n,hk,hc,hs,hz,r⟩
 ·obtain⟨z,its,r,p⟩:=h.ok I.hok
  exact⟨its,r,p,z⟩
 ·refine⟨its.toList,r,⟨o,I.kIn a o hk,hc,n,by simpa using hs⟩,?_⟩
  have e:=r.length
  simp only[Array.length_toList]at e
  omega
theorem Inv.list_inj (I:Inv X pins σ H s) (h:SqL X.K H a xs) (h':SqL X.K H a ys):xs=ys:=by
 obtain⟨its,r,⟨o,n,e,_,_,d⟩,_⟩:=I.list h
 obtain⟨its',r',⟨o',n',e',_,_,d'⟩,_⟩:=I.list h'
 rw[e]at e';cases e'
 rw[d]at d'
 injection d' with d1 _
 have:its=its':=by simpa using congrArg Array.toList d1
 subst this
 exact r.inj r'
end
abbrev Cx.wish (X:Cx) (E:Value→Shared→Prop):Cx:={ X with xe:=E }
abbrev Cx.nox (X:Cx):Cx:=X.wish fun _ _=>False
theorem Cx.Ok.wish {X:Cx}(ok:X.Ok) (E:Value→Shared→Prop):(X.wish E).Ok :=
 ⟨ok.mod,ok.kind,ok.glob,ok.blt,ok.above,ok.inj,ok.has,ok.cab,ok.hd,ok.frames,ok.stk,ok.exf,ok.bs,ok.bsz,ok.noex,ok.exfs,ok.funs,ok.frf⟩
theorem Cx.Ok.unwish {X:Cx}{E:Value→Shared→Prop}(ok:(X.wish E).Ok):X.Ok :=
 ⟨ok.mod,ok.kind,ok.glob,ok.blt,ok.above,ok.inj,ok.has,ok.cab,ok.hd,ok.frames,ok.stk,ok.exf,ok.bs,ok.bsz,ok.noex,ok.exfs,ok.funs,ok.frf⟩
section
variable {X:Cx}{pins:List (Addr×Obj)}{σ:St}{H:Hp}{s:Shared}{E:Value→Shared→Prop}
theorem Inv.wish (I:Inv X pins σ H s) (E:Value→Shared→Prop):Inv (X.wish E) pins σ H s:=⟨I.ok.wish E,I.os,I.bare,I.base,I.loc,I.cell,I.free,I.freeC,I.pin,I.hok,I.len⟩
theorem Inv.unwish (I:Inv (X.wish E) pins σ H s):Inv X pins σ H s:=⟨I.ok.unwish,I.os,I.bare,I.base,I.loc,I.cell,I.free,I.freeC,I.pin,I.hok,I.len⟩
theorem SP.unwish {D:Ends}{f:Flow}{s':Shared}(h:SP (X.wish E) pins D f s'):SP X pins D f s':=by
 cases f with
 | next=>obtain⟨σ',H',I,q⟩:=h;exact⟨σ',H',I.unwish,q⟩
 | brk=>obtain⟨σ',H',I,q⟩:=h;exact⟨σ',H',I.unwish,q⟩
 | cont=>obtain⟨σ',H',I,q⟩:=h;exact⟨σ',H',I.unwish,q⟩
 | ret u=>obtain⟨v,σ',H',I,r,q⟩:=h;exact⟨v,σ',H',I.unwish,r,q⟩
theorem PSs.nox {st:List Stmt}{t:TS}(h:PSs X.nox st t):PSs X st t:=fun pins s σ H D I hw =>
 wpAny_mono (h pins s σ H D (I.wish _) hw) (fun _ _ q=>q.unwish) fun _ _ z=>False.elim z
end
section
variable {X:Cx}{st:Stmt}{rest:List Stmt}{t u:TS}{e:Expr}{te:TE}{pos:Pos}
def tNext:TS:=fun D σ H=>D.nx σ H
def tSeq (t u:TS):TS:=fun D σ H=>t { D with nx:=u D } σ H
theorem pss_nil:PSs X [] tNext:=fun _ _ σ H _ I h=>wpAny_execs_nil ⟨σ,H,I,h⟩
theorem pss_cons (h1:PS X st t) (h2:PSs X rest u):PSs X (st::rest) (tSeq t u):=by
 intro pins s σ H D I h
 refine wpAny_execs_cons (thn (h1 pins s σ H { D with nx:=u D } I h) fun f s1 q=>?_)
 cases f with
 | next =>
  obtain⟨σ',H',I',q⟩:=q
  exact h2 pins s1 σ' H' D I' q
 | ret v=>exact q
 | brk=>exact q
 | cont=>exact q
theorem pss_one (h1:PS X st t):PSs X [st] t:=by
 intro pins s σ H D I h
 refine wpAny_execs_cons (thn (h1 pins s σ H D I h) fun f s1 q=>?_)
 cases f with
 | next=>exact wpAny_execs_nil q
 | ret v=>exact q
 | brk=>exact q
 | cont=>exact q
theorem Inv.quiet {pins:List (Addr×Obj)}{σ:St}{H:Hp}{s:Shared}(I:Inv X pins σ H s):interactive X.env=false:=by simp[interactive,I.ok.kind]
def tDrop (te:TE):TS:=fun D σ H=>te σ H fun _ H1=>D.nx σ H1
theorem ps_expr (he:PE X e te) (hs:swapsWith e none pos.line X.env=pure false:=by rfl):PS X (.Expr e pos) (tDrop te):=by
 intro pins s σ H D I h
 exact wpAny_Expr_any (thn (he pins s σ H _ I h) fun v s1 ⟨x,H1,I1,r1,q1⟩=>⟨σ,H1,I1,q1⟩) I.quiet hs
def tRet (te:TE):TS:=fun D σ H=>te σ H D.rt
theorem ps_ret (he:PE X e te):PS X (.Return (some e) pos) (tRet te):=by
 intro pins s σ H D I h
 exact wpAny_Return_some (thn (he pins s σ H _ I h) fun v s1 ⟨x,H1,I1,r1,q1⟩=>⟨x,σ,H1,I1,r1,q1⟩)
def tIfS (c:TT) (t u:TS):TS:=fun D σ H=>c σ H fun b H1=>if b=true then t D σ H1 else u D σ H1
theorem ps_if {c:Expr}{a b:List Stmt}{tc:TT}(hc:PT X c tc) (ha:PSs X a t) (hb:PSs X b u):PS X (.If c a b pos) (tIfS tc t u):=by
 intro pins s σ H D I h
 refine wpAny_If (thn (hc pins s σ H _ I h) fun d s1 ⟨H1,I1,q1⟩=>?_)
 cases d with
 | true=>exact ha pins s1 σ H1 D I1 q1
 | false=>exact hb pins s1 σ H1 D I1 q1
end
abbrev TG:=V→St→Hp→(St→Hp→Prop)→Prop
abbrev TGs:=List V→St→Hp→(St→Hp→Prop)→Prop
def PG (X:Cx) (target:Expr) (t:TG):Prop :=
 ∀(pins:List (Addr×Obj)) (s:Shared) (σ:St) (H:Hp) (v:V) (u:Value) (Q:St→Hp→Prop),Inv X pins σ H s→RelV v u→t v σ H Q →
  wpAny (model X.prog X.w) X.A (assign target X.env u) (fun _ s'=>∃σ' H',Inv X pins σ' H' s'∧Q σ' H') X.xe s
def PGs (X:Cx) (ts:List Expr) (t:TGs):Prop :=
 ∀(pins:List (Addr×Obj)) (s:Shared) (σ:St) (H:Hp) (vs:List V) (us:List Value) (Q:St→Hp→Prop),Inv X pins σ H s→Vals vs us→t vs σ H Q →
  wpAny (model X.prog X.w) X.A (assignInOrder ((assignEach ts X.env).map (·.2)) us) (fun _ s'=>∃σ' H',Inv X pins σ' H' s'∧Q σ' H') X.xe s
abbrev TSet:=V→V→V→Hp→(Hp→Prop)→Prop
def PSet (X:Cx) (t:TSet):Prop :=
 ∀(pins:List (Addr×Obj)) (s:Shared) (σ:St) (H:Hp) (o i v:V) (ov iv u:Value) (Q:Hp→Prop),Inv X pins σ H s→RelV o ov→RelV i iv→RelV v u→t o i v H Q →
  wpAny (model X.prog X.w) X.A (setItem ov iv u) (fun _ s'=>∃H',Inv X pins σ H' s'∧Q H') X.xe s
abbrev TIp:=V→V→Hp→VK→Prop
def PIp (X:Cx) (op:Operator) (t:TIp):Prop :=
 ∀(pins:List (Addr×Obj)) (s:Shared) (σ:St) (H:Hp) (x y:V) (v u:Value) (Q:VK),Inv X pins σ H s→RelV x v→RelV y u→t x y H Q →
  wpAny (model X.prog X.w) X.A (inplaceOp op v u) (EP X pins σ Q) X.xe s
section
variable {X:Cx}{pos:Pos}
def gName (i:Nat):TG:=fun v σ H Q=>Q (σ.set i (some v)) H
theorem pg_name {i:Nat}{x:Str}(hN:X.N.Nodup) (hi:X.N[i]? = some x) (hx:Loc X.env.scope x) (hf:X.fn x=true∨X.env.scope.names.lookup x=some .local:=by first|exact .inl rfl|exact .inr rfl|assumption):PG X (.Name x pos) (gName i):=by
 intro pins s σ H v u Q I r h
 exact wpAny_assign_Name (store_ok I hN hi hx r (fun s' I'=>⟨_,H,I',h⟩) hf)
def gNil:TGs:=fun vs σ H Q=>vs=[]∧Q σ H
def gCons (t:TG) (u:TGs):TGs:=fun vs σ H Q=>∃v r,vs=v::r∧t v σ H fun σ' H'=>u r σ' H' Q
theorem pgs_nil:PGs X [] gNil:=by
 intro pins s σ H vs us Q I r h
 obtain⟨e,h⟩:=h
 subst e
 cases r
 exact assignInOrder_nil ⟨σ,H,I,h⟩
theorem pgs_cons {e:Expr}{es:List Expr}{t:TG}{u:TGs}(h1:PG X e t) (h2:PGs X es u)
  (hs:(assignEach (e::es) X.env).map (·.2)=assign e X.env::(assignEach es X.env).map (·.2):=by rfl):PGs X (e::es) (gCons t u):=by
 intro pins s σ H vs us Q I r h
 obtain⟨v,vr,e1,h⟩:=h
 subst e1
 cases r with
 | cons r rr =>
  rw[hs]
  refine assignInOrder_cons (thn (h1 pins s σ H _ _ _ I r h) fun _ s1 ⟨σ1,H1,I1,q1⟩=>?_)
  exact h2 pins s1 σ1 H1 _ _ Q I1 rr q1
def gTup (K:PySem.W.Frag) (n:Nat) (t:TGs):TG:=fun v σ H Q=>∃a xs,v = .ref a∧SqT K H a xs∧xs.length=n∧t xs σ H Q
theorem pg_tup {es:List Expr}{k:Nat}{t:TGs}{n:Nat}(hc:X.calm=true) (h:PGs X es t)
  (hn:(assignEach es X.env).length=n:=by rfl) (hst:(assignEach es X.env).findIdx? (·.1)=none:=by rfl):PG X (.Tuple es k pos) (gTup X.K n t):=by
 intro pins s σ H v u Q I r hw
 obtain⟨a,xs,e1,hq,hl,hw⟩:=hw
 subst e1
 cases r
 obtain⟨its,rv,ht,hz⟩:=I.tuple hq
 refine assign_Tuple_tuple (I.ok.hd hc) ht (by simp[hn,← hl,rv.length]) hst fun h' hx=>?_
 have I1:Inv X pins σ H { s with heap:=h' }:=I.kept (t':=s.toks) fun b o e=>hx b o (Nat.ne_of_lt (Heap.lt_size e)) e
 exact h pins _ σ H xs _ Q I1 (by simpa using rv) hw
def gSub (to ti:TE) (t:TSet):TG:=fun v σ H Q=>to σ H fun o H1=>ti σ H1 fun i H2=>t o i v H2 fun H3=>Q σ H3
theorem pg_sub {o i:Expr}{to ti:TE}{t:TSet}(ho:PE X o to) (hi:PE X i ti) (hs:PSet X t)
  (ha:∀v,assign (.Subscript o i pos) X.env v =(do
   let ov ← holding [v] (eval o X.env)
   let iv ← holding [v,ov] (eval i X.env)
   standAt pos
   holding [v,ov,iv] (setItem ov iv v)
   release [v,ov,iv] []):=by intro _;rfl):PG X (.Subscript o i pos) (gSub to ti t):=by
 intro pins s σ H v u Q I r h
 rw[ha]
 refine wpAny_bind (wpAny_holding (thn (ho pins s σ H _ I h) fun ov s1 ⟨x,H1,I1,r1,q1⟩=>?_))
 refine wpAny_bind (wpAny_holding (thn (hi pins s1 σ H1 _ I1 q1) fun iv s2 ⟨y,H2,I2,r2,q2⟩=>?_))
 refine wpAny_bind (wpAny_standAt (wpAny_bind (wpAny_holding (thn (hs pins s2 σ H2 x y v ov iv u _ I2 r1 r2 r q2) fun _ s3 ⟨H3,I3,q3⟩=>?_))))
 exact wpAny_release ⟨σ,H3,I3,q3⟩
def tAsg (te:TE) (g:TG):TS:=fun D σ H=>te σ H fun x H1=>g x σ H1 D.nx
theorem ps_asg {tg e:Expr}{te:TE}{g:TG}(he:PE X e te) (hg:PG X tg g) (hs:swapsWithSole [tg] e pos.line X.env=pure false:=by rfl) (hw:swappedStores [tg] e X.env=pure none:=by rfl)
  (h1:(assignEach [tg] X.env).map (·.2)=[assign tg X.env]:=by rfl):PS X (.Assign [tg] e pos) (tAsg te g):=by
 intro pins s σ H D I h
 refine wpAny_Assign_stores (thn (he pins s σ H _ I h) fun v s1 ⟨x,H1,I1,r1,q1⟩=>?_) hs hw
 rw[h1]
 exact thn (hg pins s1 σ H1 x v _ I1 r1 q1) fun _ s2 q=>q
theorem ps_set {i:Nat}{x:Str}{e:Expr}{te:TE}{pos':Pos}(hN:X.N.Nodup) (hi:X.N[i]? = some x) (hx:Loc X.env.scope x) (he:PE X e te) (hs:swapsWith e (some (.Name x pos')) pos.line X.env=pure false:=by rfl) (hf:X.fn x=true∨X.env.scope.names.lookup x=some .local:=by first|exact .inl rfl|exact .inr rfl|assumption) :
  PS X (.Assign [.Name x pos'] e pos) (tAsg te (gName i)):=by
 intro pins s σ H D I h
 refine wpAny_Assign_Name (thn (he pins s σ H _ I h) fun v s1 ⟨y,H1,I1,r1,q1⟩=>?_) hs
 exact store_ok I1 hN hi hx r1 (fun s2 I2=>⟨_,H1,I2,q1⟩) hf
def tAugS (to ti te:TE) (tget:V→V→Hp→VK→Prop) (tip:TIp) (tset:TSet):TS:=fun D σ H=>to σ H fun o H1=>ti σ H1 fun i H2=>tget o i H2 fun x H3=>te σ H3 fun y H4=>tip x y H4 fun z H5=>tset o i z H5 fun H6=>D.nx σ H6
def PGet (X:Cx) (t:V→V→Hp→VK→Prop):Prop :=
 ∀(pins:List (Addr×Obj)) (s:Shared) (σ:St) (H:Hp) (o i:V) (ov iv:Value) (Q:VK),Inv X pins σ H s→RelV o ov→RelV i iv→t o i H Q →
  wpAny (model X.prog X.w) X.A (getItem ov iv) (EP X pins σ Q) X.xe s
theorem ps_augS {o i e:Expr}{to ti te:TE}{tget:V→V→Hp→VK→Prop}{tip:TIp}{tset:TSet}{op:Operator}{tpos:Pos}(ho:PE X o to) (hi:PE X i ti) (hg:PGet X tget) (he:PE X e te) (hp:PIp X op tip) (hs:PSet X tset)
  (ha:∀ov iv new,augStore i ov iv new =(do holding [new,ov,iv] (setItem ov iv new);release [new,ov,iv] [];pure .next):=by intros;rfl):PS X (.AugAssign (.Subscript o i tpos) op e pos) (tAugS to ti te tget tip tset):=by
 intro pins s σ H D I h
 refine wpAny_AugAssign_SubscriptAny (thn (ho pins s σ H _ I h) fun ov s1 ⟨x1,H1,I1,r1,q1⟩=>?_) ha
 refine thn (hi pins s1 σ H1 _ I1 q1) fun iv s2 ⟨x2,H2,I2,r2,q2⟩=>?_
 refine thn (hg pins s2 σ H2 x1 x2 ov iv _ I2 r1 r2 q2) fun old s3 ⟨x3,H3,I3,r3,q3⟩=>?_
 refine thn (he pins s3 σ H3 _ I3 q3) fun v s4 ⟨x4,H4,I4,r4,q4⟩=>?_
 refine thn (hp pins s4 σ H4 x3 x4 old v _ I4 r3 r4 q4) fun new s5 ⟨x5,H5,I5,r5,q5⟩=>?_
 exact thn (hs pins s5 σ H5 x1 x2 x5 ov iv new _ I5 r1 r2 r5 q5) fun _ s6 ⟨H6,I6,q6⟩=>⟨σ,H6,I6,q6⟩
def ipI (f:Int→Int→Int):TIp:=fun x y H Q=>∃i j,x = .int i∧y = .int j∧Q (.int (f i j)) H
theorem ip_add:PIp X .Add (ipI fun i j=>i+j):=by
 intro pins s σ H x y v u Q I r1 r2 h
 obtain⟨i,j,e1,e2,q⟩:=h
 subst e1;subst e2
 obtain⟨t,rfl⟩:=r1
 obtain⟨t',rfl⟩:=r2
 exact iadd_int ⟨.int _,H,I.tok _,⟨_,rfl⟩,q⟩
end
section
variable {X:Cx}{pos:Pos}
def tWhile (c:TT) (tb:TS):TS:=fun D σ H=>∃W:Nat→St→Hp→Prop,(∃m,W m σ H)∧∀m σ H,W m σ H →
 c σ H fun b H1=>if b=true then ∃N:St→Hp→Prop,(∀σ' H',N σ' H'→∃m',m'<m∧W m' σ' H')∧tb { D with nx:=N,ct:=N,bk:=D.nx } σ H1 else D.nx σ H1
theorem ps_while {c:Expr}{body:List Stmt}{tc:TT}{tb:TS}(hp:PassesOwn (model X.prog X.w) X.A X.env X.xe) (hc:PT X c tc) (hb:PSs X body tb):PS X (.While c body [] pos) (tWhile tc tb):=by
 intro pins s σ H D I h
 obtain⟨W,⟨m0,w0⟩,turn⟩:=h
 refine wpAny_While (codeAny_whileLoop (fun n s'=>∃σ' H',Inv X pins σ' H' s'∧W n σ' H') ?_ m0 ⟨σ,H,I,w0⟩)
 rintro n s1 ⟨σ1,H1,I1,w1⟩
 refine wpAny_passesOwn hp (thn (hc pins s1 σ1 H1 _ I1 (turn n σ1 H1 w1)) fun b s2 ⟨H2,I2,q2⟩=>?_)
 cases b with
 | true =>
  obtain⟨N,hN,q2⟩:=q2
  rw[if_pos rfl]
  refine wpAny_passesOwn hp (thn (hb pins s2 σ1 H2 _ I2 q2) fun f s3 q3=>?_)
  cases f with
  | next =>
   obtain⟨σ3,H3,I3,n3⟩:=q3
   obtain⟨m',hm,w3⟩:=hN σ3 H3 n3
   exact⟨m',hm,σ3,H3,I3,w3⟩
  | cont =>
   obtain⟨σ3,H3,I3,n3⟩:=q3
   obtain⟨m',hm,w3⟩:=hN σ3 H3 n3
   exact⟨m',hm,σ3,H3,I3,w3⟩
  | brk=>exact q3
  | ret v=>exact q3
 | false =>
  rw[if_neg Bool.false_ne_true]
  exact wpAny_execs_nil ⟨σ1,H2,I2,q2⟩
end
structure It where
 go:Nat→Hp→Prop
 yld:Nat→Hp→V→Hp→Prop
 stop:Nat→Hp→Prop
def FpOk (X:Cx) (pins:List (Addr×Obj)) (H:Hp) (b:Addr):Prop :=
 H b=none∧b≠X.env.locals∧b∉X.fs∧(b∈X.ex∨X.s₀.heap.objs.size≤b)∧(∀x c,X.env.cells.lookup x=some c→c≠b)∧∀p∈X.pn++pins,p.1≠b
theorem Inv.fpOk {X:Cx}{pins:List (Addr×Obj)}{σ:St}{H H':Hp}{s:Shared}{b:Addr}(I:Inv X pins σ H s) (hb:s.heap.objs.size≤b) (hn:H' b=none):FpOk X pins H' b:=by
 refine⟨hn,Nat.ne_of_gt (Nat.lt_of_lt_of_le I.lt hb),I.nofs hb,.inr (Nat.le_trans I.sz hb),fun x c e z=>?_,fun p hp z=>?_⟩
 ·obtain⟨v,q⟩:=I.cell x c e
  exact absurd (Nat.lt_of_lt_of_le q.lt (by rw[z];exact hb)) (Nat.lt_irrefl _)
 ·exact absurd (Nat.lt_of_lt_of_le (Heap.lt_size (I.pin p hp).1) (by rw[z];exact hb)) (Nat.lt_irrefl _)
structure Turn (P:Program) (w:World) (K:PySem.W.Frag) (tg:Expr) (J:It) (fp:List Addr) (it:Addr) (tn:Nat→Heap→Prop):Prop where
 mem:it∈fp
 obj:∀i h,tn i h→∀b∈fp,∃o,h.get? b=some o∧∀v,o.data ≠ .cell v
 keep:∀i h h',tn i h→(∀b∈fp,∀o,h.get? b=some o→h'.get? b=some o)→tn i h'
 item:∀(X:Cx),X.prog=P→X.w=w→X.K=K→X.calm=true→∀(i:Nat) (pins:List (Addr×Obj)) (s:Shared) (σ:St) (H:Hp) (E:Value→Shared→Prop),Inv X pins σ H s→(∀b∈fp,FpOk X pins H b)→tn i s.heap→J.go i H →
  wpAny (model P w) X.A (pyNext (.ref it)) (fun r s1=>∃u,r=some u ∧
   wpAny (model P w) X.A (letOwnedTupleGo tg (.ref it) u) (fun _ s2=>∃x H',Inv X pins σ H' s2∧RelV x u∧J.yld i H x H'∧tn (i+1) s2.heap∧∀b∈fp,H' b=none) E s1) E s
 done:∀(X:Cx),X.prog=P→X.w=w→X.K=K→X.calm=true→∀(i:Nat) (pins:List (Addr×Obj)) (s:Shared) (σ:St) (H:Hp) (E:Value→Shared→Prop),Inv X pins σ H s→(∀b∈fp,FpOk X pins H b)→tn i s.heap→J.stop i H →
  wpAny (model P w) X.A (pyNext (.ref it)) (fun r s1=>r=none∧Inv X pins σ H s1) E s
 self:∀(A:Around) (i:Nat) (s:Shared) (Q:Value→Shared→Prop) (E:Value→Shared→Prop),tn i s.heap→Q (.ref it) s→wpAny (model P w) A (pyIter (.ref it)) Q E s
abbrev TI:=St→Hp→(It→Hp→Prop)→Prop
def PIE (X:Cx) (pins:List (Addr×Obj)) (σ:St) (tg:Expr) (R:It→Hp→Prop) (itv:Value) (s2:Shared):Prop :=
 ∃(it:Addr) (fp:List Addr) (tn:Nat→Heap→Prop) (J:It) (H':Hp),itv = .ref it∧Inv X pins σ H' s2∧Turn X.prog X.w X.K tg J fp it tn∧tn 0 s2.heap∧(∀b∈fp,FpOk X pins H' b)∧R J H'
def PI (X:Cx) (tg iter:Expr) (wi:TI):Prop :=
 ∀(pins:List (Addr×Obj)) (s:Shared) (σ:St) (H:Hp) (R:It→Hp→Prop),Inv X pins σ H s→wi σ H R →
  wpAny (model X.prog X.w) X.A (eval iter X.env) (fun v s1=>wpAny (model X.prog X.w) X.A (pyIter v) (PIE X pins σ tg R) X.xe s1) X.xe s
theorem go_of {M:Model} {A:Around} {E:Value→Shared→Prop} {s:Shared} {tg:Expr} {it:Addr} {u:Value} {o:Obj} {n:String} {vs:Array Value} {Q:Unit→Shared→Prop} (ho:s.heap.get? it = some o) (hc:o.cls = .type n) (hd:o.data = .fields vs)
    (hn:["enumerate", "zip", "dict_itemiterator", "dict_reverseitemiterator", "odict_iterator", "itertools.zip_longest", "itertools.pairwise"].contains n = false) (hQ:Q () s) : wpAny M A (letOwnedTupleGo tg (.ref it) u) Q E s:=by
  unfold letOwnedTupleGo
  cases tg <;> first
    | exact wpAny_pure hQ
    | (cases u <;> first
        | exact wpAny_pure hQ
        | (refine wpAny_bind (wpAny_load ho ?_)
           rw [hc,hd]
           show wpAny M A (if (["enumerate", "zip", "dict_itemiterator", "dict_reverseitemiterator", "odict_iterator", "itertools.zip_longest", "itertools.pairwise"].contains n && vs[0]? == some (rawInt _)) = true then _ else _) Q E s
           rw [if_neg (by intro h; rw [hn,Bool.false_and] at h; cases h)]
           exact wpAny_pure hQ))
def Itl (K:PySem.W.Frag) (a:Addr):It :=
 ⟨fun i H=>∃xs x,SqL K H a xs∧xs[i]? = some x,fun i H x H'=>H'=H∧∀xs,SqL K H a xs→xs[i]? = some x,fun i H=>∃xs,SqL K H a xs∧xs.length≤i⟩
def Itr (lo:Int) (n:Nat):It:=⟨fun i _=>i<n,fun i H x H'=>H'=H∧x = .int (lo+i),fun i _=>n≤i⟩
theorem turn_list {P:Program}{w:World}{K:PySem.W.Frag}{tg:Expr}(a it:Addr):Turn P w K tg (Itl K a) [it] it (fun i h=>h.IsListIter it a i) where
 mem:=by simp
 obj:=fun i h st b hb=>by
  have e:b=it:=by simpa using hb
  subst e
  obtain⟨o,e,c,d⟩:=st
  exact⟨o,e,fun v z=>by rw[d]at z;cases z⟩
 keep:=fun i h h' st k=>st.at fun o e=>k it (by simp) o e
 item:=by
  intro X hP hw hK hc i pins s σ H E I hf st hg
  subst hP hw hK
  obtain⟨xs,x,hq,hx⟩:=hg
  obtain⟨its,rv,p,hz⟩:=I.list hq
  obtain⟨u,hu,ru⟩:=rv.get hx
  obtain⟨f0,f1,f2,f3,f4,f5⟩:=hf it (by simp)
  refine wpAny_pyNext_list_item st p.isList (x:=u) (by simpa using hu) fun h' st' sb=>?_
  have I1:Inv X pins σ H { s with heap:=h' }:=I.turned (t':=s.toks) (fun b o hb e=>(sb.2 b hb).trans e) f0 f1 f3 f4 f5
  obtain⟨o,e,c,d⟩:=id st'
  exact⟨u,rfl,go_of (s:={ s with heap:=h' }) e c d (by decide) ⟨x,H,I1,ru,⟨rfl,fun ys hy=>by rw[I.list_inj hy hq];exact hx⟩,st',fun b hb=>(hf b hb).1⟩⟩
 done:=by
  intro X hP hw hK hc i pins s σ H E I hf st hg
  subst hP hw hK
  obtain⟨xs,hq,hx⟩:=hg
  obtain⟨its,rv,p,hz⟩:=I.list hq
  obtain⟨f0,f1,f2,f3,f4,f5⟩:=hf it (by simp)
  have hl:=rv.length
  exact wpAny_pyNext_list_end (I.ok.hd hc) st p.isList (by simp;omega) fun h' eb=>⟨rfl,I.turned (t':=s.toks) (fun b o hb e=>eb b o hb e) f0 f1 f3 f4 f5⟩
 self:=fun _ _ _ _ _ st h=>wpAny_pyIter_listiter st h
theorem turn_range {P:Program}{w:World}{K:PySem.W.Frag}{tg:Expr}(it:Addr) (lo:Int) (n:Nat):Turn P w K tg (Itr lo n) [it] it (fun i h=>IsRangeIter h it (lo+(i:Nat)*1) ((n:Int)-(i:Nat)) 1) where
 mem:=by simp
 obj:=fun i h st b hb=>by
  have e:b=it:=by simpa using hb
  subst e
  exact⟨_,st,fun v z=>by
   have z':Data.fields _=Data.cell v:=z
   cases z'⟩
 keep:=fun i h h' st k=>k it (by simp) _ st
 item:=by
  intro X hP hw hK hc i pins s σ H E I hf st hg
  subst hP hw hK
  obtain⟨f0,f1,f2,f3,f4,f5⟩:=hf it (by simp)
  have W:=Walks.range (prog:=X.prog) (w:=X.w) (I.ok.hd hc) it lo 1 n
  refine W.item i s _ _ hg st fun v h' tk hv st' kk=>?_
  obtain⟨t,rfl⟩:=hv
  have I1:Inv X pins σ H { s with heap:=h',toks:=tk }:=I.turned (fun b o hb e=>kk b o (by simpa using hb) e) f0 f1 f3 f4 f5
  refine⟨_,rfl,go_of (s:={ s with heap:=h',toks:=tk }) (n := "range_iterator") st' rfl rfl (by decide) ⟨.int (lo+i),H,I1,⟨t,?_⟩,⟨rfl,rfl⟩,st',fun b hb=>(hf b hb).1⟩⟩
  rw[Int.mul_one]
 done:=by
  intro X hP hw hK hc i pins s σ H E I hf st hg
  subst hP hw hK
  obtain⟨f0,f1,f2,f3,f4,f5⟩:=hf it (by simp)
  exact wpAny_pyNext_range_end (I.ok.hd hc) st (by have:n≤i:=hg;omega) fun h' eb=>⟨rfl,I.turned (t':=s.toks) (fun b o hb e=>eb b o hb e) f0 f1 f3 f4 f5⟩
 self:=fun _ _ _ _ _ st h=>wpAny_pyIter_rangeiter st h
end L2
namespace L2
open PySem PySem.Spec PyProof.Rows
section
variable {X:Cx}{tg:Expr}
def iList (K:PySem.W.Frag) (tl:TE):TI:=fun σ H R=>tl σ H fun x H1=>∃a,x = .ref a∧(∃xs,SqL K H1 a xs)∧R (Itl K a) H1
theorem pi_list {l:Expr}{tl:TE}(hl:PE X l tl):PI X tg l (iList X.K tl):=by
 intro pins s σ H R I h
 refine thn (hl pins s σ H _ I h) fun v s1 ⟨x,H1,I1,r1,q1⟩=>?_
 obtain⟨a,e,⟨xs,hq⟩,q⟩:=q1
 subst e
 cases r1
 obtain⟨its,rv,p,hz⟩:=I1.list hq
 refine wpAny_pyIter_list p.isList ?_
 refine⟨s1.heap.objs.size,[s1.heap.objs.size],_,_,H1,rfl,I1.kept (t':=s1.toks) fun b o e=>Heap.get?_push_of_some _ e,turn_list a _,⟨_,Heap.get?_push_size _ rfl,rfl,rfl⟩,fun b hb=>?_,q⟩
 have e:b=s1.heap.objs.size:=by simpa using hb
 subst e
 exact I1.fpOk (Nat.le_refl _) (I1.hok.fresh (Nat.le_refl _))
theorem range_it {pins:List (Addr×Obj)}{σ:St}{H:Hp}{s:Shared}{R:It→Hp→Prop}{E:Value→Shared→Prop}{lo hi:Int}{t u v:Tok}{tk:Nat}(I:Inv X pins σ H s) (h1:-(2^62)≤lo) (h2:lo<2^62) (h3:-(2^62)≤hi) (h4:hi<2^62)
  (q:R (Itr lo (hi-lo).toNat) H):wpAny (model X.prog X.w) X.A (pyIter (.ref s.heap.objs.size)) (PIE X pins σ tg R) E { s with heap:=s.heap.push { cls:=.type "range",data:=.fields #[.int lo t,.int hi u,.int 1 v] },toks:=tk }:=by
 refine wpAny_pyIter_range (IsRange.new ..) (small_one h1 h2 h3 h4) ?_
 have I1:Inv X pins σ H { s with heap:=s.heap.push { cls:=.type "range",data:=.fields #[.int lo t,.int hi u,.int 1 v] },toks:=tk }:=I.kept fun b o e=>Heap.get?_push_of_some _ e
 refine⟨(s.heap.push { cls:=.type "range",data:=.fields #[.int lo t,.int hi u,.int 1 v] }).objs.size,[(s.heap.push { cls:=.type "range",data:=.fields #[.int lo t,.int hi u,.int 1 v] }).objs.size],_,_,H,rfl,
  I1.kept (t':=tk) fun b o e=>Heap.get?_push_of_some _ e,turn_range _ lo (hi-lo).toNat,?_,fun b hb=>?_,q⟩
 ·have e1:lo+((0:Nat):Int)*1=lo:=by simp
  have e2:(((hi-lo).toNat:Nat):Int)-((0:Nat):Int)=Builtin.Range.rangeSize lo hi 1:=by rw[rangeSize_one];split <;> omega
  show IsRangeIter _ _ (lo+((0:Nat):Int)*1) ((((hi-lo).toNat:Nat):Int)-((0:Nat):Int)) 1
  rw[e1,e2]
  exact Heap.get?_push_size _ rfl
 ·have e:b =(s.heap.push { cls:=.type "range",data:=.fields #[.int lo t,.int hi u,.int 1 v] }).objs.size:=by simpa using hb
  subst e
  exact I1.fpOk (Nat.le_refl _) (I1.hok.fresh (Nat.le_refl _))
def iRng1 (ta:TA):TI:=fun σ H R=>ta σ H fun vs H1=>∃j:Int,vs=[.int j]∧-(2^62)≤j∧j<2^62∧R (Itr 0 j.toNat) H1
theorem pi_range1 {a:Expr}{ta:TA}{p pos:Pos}(hg:Gl X "range") (hm:X.mg "range" = none) (ha:PA X [a] ta) (hs:starEach [a] X.env=[(false,eval a X.env)]:=by rfl):PI X tg (.Call (.Name "range" p) [a] [] pos) (iRng1 ta):=by
 intro pins s σ H R I h
 refine Call_ (ld_blt I hg hm boot_range (PyProof.Rows.callWith_type1 (thn (ha pos pins s σ H _ I h) fun us s1 ⟨vs,H1,I1,r1,q1⟩=>?_) hs rfl))
 obtain⟨j,e,q1,q2,q⟩:=q1
 subst e
 cases r1 with
 | cons r rr =>
  cases rr
  obtain⟨t,rfl⟩:=r
  exact call_range_1 (range_it I1 (by omega) (by omega) q1 q2 (by simpa using q))
def tFor (wi:TI) (g:TG) (tb:TS):TS:=fun D σ H=>wi σ H fun J H1=>∃W:Nat→Nat→St→Hp→Prop,(∃m,W 0 m σ H1)∧∀i m σ H,W i m σ H →
 (J.stop i H∧D.nx σ H) ∨(J.go i H∧∃N:St→Hp→Prop,(∀σ' H',N σ' H'→∃m',m'<m∧W (i+1) m' σ' H')∧∀x H',J.yld i H x H'→g x σ H' fun σ2 H2=>tb { D with nx:=N,ct:=N,bk:=D.nx } σ2 H2)
def pinsAt (fp:List Addr) (h:Heap):List (Addr×Obj):=fp.filterMap fun b=>(h.get? b).map fun o=>(b,o)
theorem mem_pinsAt {fp:List Addr}{h:Heap}{b:Addr}{o:Obj}(hb:b∈fp) (e:h.get? b=some o):(b,o)∈pinsAt fp h:=List.mem_filterMap.mpr ⟨b,hb,by rw[e];rfl⟩
theorem of_pinsAt {fp:List Addr}{h:Heap}{p:Addr×Obj}(hp:p∈pinsAt fp h):p.1∈fp∧h.get? p.1=some p.2:=by
 obtain⟨b,hb,e⟩:=List.mem_filterMap.mp hp
 cases q:h.get? b with
 | none=>rw[q]at e;cases e
 | some o =>
  rw[q]at e
  have e':(b,o)=p:=Option.some.inj e
  subst e'
  exact⟨hb,q⟩
theorem Inv.pinned {pins:List (Addr×Obj)}{σ:St}{H:Hp}{s:Shared}{fp:List Addr}(I:Inv X pins σ H s) (hf:∀b∈fp,FpOk X pins H b) (ho:∀b∈fp,∃o,s.heap.get? b=some o∧∀v,o.data ≠ .cell v):Inv X (pins++pinsAt fp s.heap) σ H s :=
 I.pins_of fun p hp=>(List.mem_append.mp hp).elim (fun z=>I.pin p (List.mem_append_right _ z)) fun z=>by
  obtain⟨hb,e⟩:=of_pinsAt z
  obtain⟨f0,f1,f2,_⟩:=hf p.1 hb
  obtain⟨o,e',d⟩:=ho p.1 hb
  rw[e]at e';cases e'
  exact⟨e,f0,f1,f2,d⟩
theorem Inv.unpinned {pins pl:List (Addr×Obj)}{σ:St}{H:Hp}{s:Shared}(I:Inv X (pins++pl) σ H s):Inv X pins σ H s:=I.pins_of fun p hp=>I.pin p (List.mem_append_right _ (List.mem_append_left _ hp))
theorem ps_for {iter:Expr}{body:List Stmt}{wi:TI}{g:TG}{tb:TS}{pos:Pos}(hp:PassesOwn (model X.prog X.w) X.A X.env X.xe) (hc:X.calm=true) (hi:PI X tg iter wi) (hg:PG X tg g) (hb:PSs X body tb)
  (hs:∀x,foldedSetIterable iter X.env x=pure x:=by intro _;rfl):PS X (.For tg iter body [] pos) (tFor wi g tb):=by
 intro pins s σ H D I h
 refine wpAny_For (thn (hi pins s σ H _ I h) fun v s1 h1=>thn h1 fun itv s2 h2=>?_) hs
 obtain⟨it,fp,tn,J,H2,e,I2,T,st2,f2,W,⟨m0,w0⟩,turn⟩:=h2
 subst e
 have stat:∀{H':Hp},(∀b∈fp,H' b=none)→∀b∈fp,FpOk X pins H' b:=fun hn b hb=>⟨hn b hb,(f2 b hb).2⟩
 refine codeAny_forLoop_any (fun n s'=>∃i σ' H',Inv X pins σ' H' s'∧tn i s'.heap∧(∀b∈fp,H' b=none)∧W i n σ' H') ?_ m0 ⟨0,σ,H2,I2,st2,fun b hb=>(f2 b hb).1,w0⟩
 rintro n s3 ⟨i,σ3,H3,I3,st3,fr3,w3⟩
 rcases turn i n σ3 H3 w3 with⟨stop,qn⟩|⟨go,N,hN,step⟩
 ·refine wpAny_passesOwn hp (thn (T.done X rfl rfl rfl hc i pins s3 σ3 H3 X.xe I3 (stat fr3) st3 stop) fun r s4 ⟨hr,I4⟩=>?_)
  subst hr
  exact wpAny_execs_nil ⟨σ3,H3,I4,qn⟩
 ·refine wpAny_passesOwn hp (thn (T.item X rfl rfl rfl hc i pins s3 σ3 H3 X.xe I3 (stat fr3) st3 go) fun r s4 ⟨u,hr,h4⟩=>?_)
  subst hr
  refine wpAny_passesOwn hp (thn h4 fun _ s5 ⟨x,H5,I5,r5,y5,st5,fr5⟩=>?_)
  have I5':=I5.pinned (stat fr5) (T.obj _ _ st5)
  refine wpAny_passesOwn hp (thn (hg _ s5 σ3 H5 x u _ I5' r5 (step x H5 y5)) fun _ s6 ⟨σ6,H6,I6,q6⟩=>?_)
  refine wpAny_passesOwn hp (thn (hb _ s6 σ6 H6 _ I6 q6) fun f s7 q7=>?_)
  have again:∀{σ7:St}{H7:Hp},Inv X (pins++pinsAt fp s5.heap) σ7 H7 s7→N σ7 H7→∃m,m<n∧∃i σ' H',Inv X pins σ' H' s7∧tn i s7.heap∧(∀b∈fp,H' b=none)∧W i m σ' H':=fun {σ7 H7} I7 n7=>by
   obtain⟨m',hm,w7⟩:=hN σ7 H7 n7
   refine⟨m',hm,i+1,σ7,H7,I7.unpinned,T.keep _ _ _ st5 fun b hb o e=>(I7.pin (b,o) (List.mem_append_right _ (List.mem_append_right _ (mem_pinsAt hb e)))).1,fun b hb=>?_,w7⟩
   obtain⟨o,e,d⟩:=T.obj _ _ st5 b hb
   exact(I7.pin (b,o) (List.mem_append_right _ (List.mem_append_right _ (mem_pinsAt hb e)))).2.1
  cases f with
  | next=>obtain⟨σ7,H7,I7,n7⟩:=q7;exact again I7 n7
  | cont=>obtain⟨σ7,H7,I7,n7⟩:=q7;exact again I7 n7
  | brk=>obtain⟨σ7,H7,I7,q7⟩:=q7;exact⟨σ7,H7,I7.unpinned,q7⟩
  | ret v=>obtain⟨x7,σ7,H7,I7,r7,q7⟩:=q7;exact⟨x7,σ7,H7,I7.unpinned,r7,q7⟩
end
theorem for_list {K:PySem.W.Frag}{a:Addr}{xs:List V}{g:TG}{tb:TS}{D:Ends}{σ:St}{H:Hp}(Pv:Nat→St→Hp→Prop) (h0:Pv 0 σ H) (hl:∀i σ H,i≤xs.length→Pv i σ H→SqL K H a xs)
  (hs:∀i x σ H,xs[i]? = some x→Pv i σ H→g x σ H fun σ2 H2=>tb { D with nx:=Pv (i+1),ct:=Pv (i+1),bk:=D.nx } σ2 H2) (hd:∀σ H,Pv xs.length σ H→D.nx σ H) :
  ∃W:Nat→Nat→St→Hp→Prop,(∃m,W 0 m σ H)∧∀i m σ H,W i m σ H →
   ((Itl K a).stop i H∧D.nx σ H) ∨((Itl K a).go i H∧∃N:St→Hp→Prop,(∀σ' H',N σ' H'→∃m',m'<m∧W (i+1) m' σ' H')∧∀x H',(Itl K a).yld i H x H'→g x σ H' fun σ2 H2=>tb { D with nx:=N,ct:=N,bk:=D.nx } σ2 H2):=by
 refine⟨fun i m σ H=>m=xs.length-i∧i≤xs.length∧Pv i σ H,⟨xs.length,by simp,Nat.zero_le _,h0⟩,?_⟩
 rintro i m σ H ⟨rfl,hi,p⟩
 have q:=hl i σ H hi p
 by_cases hlt:i<xs.length
 ·refine .inr ⟨⟨xs,xs[i],q,by simp[hlt]⟩,Pv (i+1),fun σ' H' p'=>⟨xs.length-(i+1),by omega,rfl,hlt,p'⟩,fun x H' y=>?_⟩
  obtain⟨e,y⟩:=y
  subst e
  exact hs i x σ _ (y xs q) p
 ·have e:i=xs.length:=by omega
  subst e
  exact .inl ⟨⟨xs,q,Nat.le_refl _⟩,hd σ H p⟩
theorem for_range {lo:Int}{n:Nat}{g:TG}{tb:TS}{D:Ends}{σ:St}{H:Hp}(Pv:Nat→St→Hp→Prop) (h0:Pv 0 σ H)
  (hs:∀i σ H,i<n→Pv i σ H→g (.int (lo+i)) σ H fun σ2 H2=>tb { D with nx:=Pv (i+1),ct:=Pv (i+1),bk:=D.nx } σ2 H2) (hd:∀σ H,Pv n σ H→D.nx σ H) :
  ∃W:Nat→Nat→St→Hp→Prop,(∃m,W 0 m σ H)∧∀i m σ H,W i m σ H →
   ((Itr lo n).stop i H∧D.nx σ H) ∨((Itr lo n).go i H∧∃N:St→Hp→Prop,(∀σ' H',N σ' H'→∃m',m'<m∧W (i+1) m' σ' H')∧∀x H',(Itr lo n).yld i H x H'→g x σ H' fun σ2 H2=>tb { D with nx:=N,ct:=N,bk:=D.nx } σ2 H2):=by
 refine⟨fun i m σ H=>m=n-i∧i≤n∧Pv i σ H,⟨n,by simp,Nat.zero_le _,h0⟩,?_⟩
 rintro i m σ H ⟨rfl,hi,p⟩
 by_cases hlt:i<n
 ·refine .inr ⟨hlt,Pv (i+1),fun σ' H' p'=>⟨n-(i+1),by omega,rfl,hlt,p'⟩,fun x H' y=>?_⟩
  obtain⟨e,y⟩:=y
  subst e y
  exact hs i σ _ hlt p
 ·have e:i=n:=by omega
  subst e
  exact .inl ⟨Nat.le_refl _,hd σ H p⟩
end L2
namespace L2
open PySem PySem.Spec PyProof.Rows
abbrev R2:=V→V→Hp→VK→Prop
def OpR (X:Cx) (f:Value→Value→Sem Value) (r:R2):Prop :=
 ∀(pins:List (Addr×Obj)) (s:Shared) (σ:St) (H:Hp) (x y:V) (v u:Value) (Q:VK),Inv X pins σ H s→RelV x v→RelV y u→r x y H Q →
  wpAny (model X.prog X.w) X.A (f v u) (EP X pins σ Q) X.xe s
def UnR (X:Cx) (f:Value→Sem Value) (r:V→Hp→VK→Prop):Prop :=
 ∀(pins:List (Addr×Obj)) (s:Shared) (σ:St) (H:Hp) (x:V) (v:Value) (Q:VK),Inv X pins σ H s→RelV x v→r x H Q →
  wpAny (model X.prog X.w) X.A (f v) (EP X pins σ Q) X.xe s
def CallR (X:Cx) (f:Value) (r:List V→Hp→VK→Prop):Prop :=
 ∀(pins:List (Addr×Obj)) (s:Shared) (σ:St) (H:Hp) (xs:List V) (us:List Value) (Q:VK),Inv X pins σ H s→Vals xs us→r xs H Q →
  wpAny (model X.prog X.w) X.A (call f us) (EP X pins σ Q) X.xe s
def tOp (r:R2) (ta tb:TE):TE:=fun σ H Q=>ta σ H fun x H1=>tb σ H1 fun y H2=>r x y H2 Q
def tUn (r:V→Hp→VK→Prop) (ta:TE):TE:=fun σ H Q=>ta σ H fun x H1=>r x H1 Q
def rI (C:Int→Int→Prop) (g:Int→Int→V):R2:=fun x y H Q=>∃i j,x = .int i∧y = .int j∧C i j∧Q (g i j) H
def rI0 (g:Int→Int→V):R2:=fun x y H Q=>∃i j,x = .int i∧y = .int j∧Q (g i j) H
def rU (g:Int→V):V→Hp→VK→Prop:=fun x H Q=>∃i,x = .int i∧Q (g i) H
section
variable {X:Cx}{a b c:Expr}{ta tb tc:TE}{pos:Pos}
theorem binT (ha:PE X a ta) (hb:PE X b tb) {pins:List (Addr×Obj)}{s:Shared}{σ:St}{H:Hp}{R:V→V→Hp→Prop}(I:Inv X pins σ H s)
  (h:ta σ H fun x H1=>tb σ H1 fun y H2=>R x y H2) {Q:Value→Shared→Prop}{f:Value→Value→Sem Value}
  (hf:∀v u s2 x y H2,Inv X pins σ H2 s2→RelV x v→RelV y u→R x y H2→wpAny (model X.prog X.w) X.A (f v u) Q X.xe s2) :
  wpAny (model X.prog X.w) X.A (eval a X.env) (fun v s₁=>wpAny (model X.prog X.w) X.A (eval b X.env) (fun u s₂=>wpAny (model X.prog X.w) X.A (f v u) Q X.xe s₂) X.xe s₁) X.xe s:=by
 refine thn (ha pins s σ H _ I h) fun v s1 ⟨x,H1,I1,r1,q1⟩=>?_
 refine thn (hb pins s1 σ H1 _ I1 q1) fun u s2 ⟨y,H2,I2,r2,q2⟩=>?_
 exact hf v u s2 x y H2 I2 r1 r2 q2
theorem pe_op {op:Operator}{r:R2}(ho:OpR X (binaryOp op) r) (ha:PE X a ta) (hb:PE X b tb):PE X (.BinOp a op b pos) (tOp r ta tb):=by
 intro pins s σ H Q I h
 exact wpAny_BinOp (binT ha hb I h fun v u s2 x y H2 I2 rx ry q=>ho pins s2 σ H2 x y v u Q I2 rx ry q)
theorem pe_un {op:UnaryOp}{r:V→Hp→VK→Prop}(ho:UnR X (unaryOp op) r) (ha:PE X a ta):PE X (.UnaryOp op a pos) (tUn r ta):=by
 intro pins s σ H Q I h
 exact UnaryOp_ (thn (ha pins s σ H _ I h) fun v s1 ⟨x,H1,I1,r1,q1⟩=>ho pins s1 σ H1 x v Q I1 r1 q1)
theorem opI {f:Value→Value→Sem Value}{C:Int→Int→Prop}{g:Int→Int→Int}
  (rule:∀(i j:Int) (t u:Tok) (s:Shared) (Q:Value→Shared→Prop) (E:Value→Shared→Prop),C i j→Q (.int (g i j) s.toks) { s with toks:=s.toks+1 }→wpAny (model X.prog X.w) X.A (f (.int i t) (.int j u)) Q E s) :
  OpR X f (rI C fun i j=>.int (g i j)):=by
 intro pins s σ H x y v u Q I rx ry h
 obtain⟨i,j,rfl,rfl,hc,q⟩:=h
 obtain⟨t,rfl⟩:=rx
 obtain⟨t',rfl⟩:=ry
 exact rule i j t t' s _ _ hc ⟨.int (g i j),H,I.tok _,⟨_,rfl⟩,q⟩
theorem opI0 {f:Value→Value→Sem Value}{g:Int→Int→Int}
  (rule:∀(i j:Int) (t u:Tok) (s:Shared) (Q:Value→Shared→Prop) (E:Value→Shared→Prop),Q (.int (g i j) s.toks) { s with toks:=s.toks+1 }→wpAny (model X.prog X.w) X.A (f (.int i t) (.int j u)) Q E s) :
  OpR X f (rI0 fun i j=>.int (g i j)):=by
 intro pins s σ H x y v u Q I rx ry h
 obtain⟨i,j,rfl,rfl,q⟩:=h
 obtain⟨t,rfl⟩:=rx
 obtain⟨t',rfl⟩:=ry
 exact rule i j t t' s _ _ ⟨.int (g i j),H,I.tok _,⟨_,rfl⟩,q⟩
theorem opB0 {f:Value→Value→Sem Value}{g:Int→Int→Bool}
  (rule:∀(i j:Int) (t u:Tok) (s:Shared) (Q:Value→Shared→Prop) (E:Value→Shared→Prop),Q (.bool (g i j)) s→wpAny (model X.prog X.w) X.A (f (.int i t) (.int j u)) Q E s) :
  OpR X f (rI0 fun i j=>.bl (g i j)):=by
 intro pins s σ H x y v u Q I rx ry h
 obtain⟨i,j,rfl,rfl,q⟩:=h
 obtain⟨t,rfl⟩:=rx
 obtain⟨t',rfl⟩:=ry
 exact rule i j t t' s _ _ ⟨.bl (g i j),H,I,rfl,q⟩
def CPow (i j:Int):Prop:=0≤j∧j≤1000000∧i.natAbs<2^64
def CMul (i j:Int):Prop:=(-(2^64)<i∧i<2^64) ∨(-(2^64)<j∧j<2^64)
theorem CMul.ok {i j:Int}(h:CMul i j):IntMulOk i j:=by
 rcases h with⟨h1,h2⟩|⟨h1,h2⟩
 ·exact .of_left (intBits_le_64 h1 h2)
 ·exact .of_right (intBits_le_64 h1 h2)
theorem two_pow_nn (k:Nat):(0:Int)≤2^k:=by
 rw[two_pow_cast]
 exact Int.natCast_nonneg _
theorem op_add:OpR X (binaryOp .Add) (rI0 fun i j=>.int (i+j)):=opI0 fun _ _ _ _ _ _ _ q=>add_int q
theorem op_sub:OpR X (binaryOp .Sub) (rI0 fun i j=>.int (i-j)):=opI0 fun _ _ _ _ _ _ _ q=>sub_int q
theorem op_mul:OpR X (binaryOp .Mult) (rI CMul fun i j=>.int (i*j)):=opI fun _ _ _ _ _ _ _ hc q=>mul_int q hc.ok
theorem op_mod:OpR X (binaryOp .Mod) (rI (fun _ j=>0<j) fun i j=>.int (i%j)):=opI fun i j _ _ _ _ _ hc q=>by
 have h1:(0:Int)<j:=hc
 exact mod_int' (by omega) (by rw[Int.fmod_eq_emod_of_nonneg i (by omega)];exact q)
theorem op_pow:OpR X (binaryOp .Pow) (rI CPow fun i j=>.int (i^j.toNat)):=opI fun _ _ _ _ _ _ _ hc q=>pow_int_small hc.1 hc.2.1 hc.2.2 q
theorem op_shl:OpR X (binaryOp .LShift) (rI CPow fun i j=>.int (i*2^j.toNat)):=opI fun _ _ _ _ _ _ _ hc q=>lshift_int_small hc.1 hc.2.1 hc.2.2 q
theorem op_shr:OpR X (binaryOp .RShift) (rI (fun _ j=>0≤j) fun i j=>.int (i / 2^j.toNat)):=opI fun i j _ _ _ _ _ hc q =>
 rshift_int hc (by rw[Int.fdiv_eq_ediv_of_nonneg i (two_pow_nn _)];exact q)
theorem unI {f:Value→Sem Value}{g:Int→Int}
  (rule:∀(i:Int) (t:Tok) (s:Shared) (Q:Value→Shared→Prop) (E:Value→Shared→Prop),Q (.int (g i) s.toks) { s with toks:=s.toks+1 }→wpAny (model X.prog X.w) X.A (f (.int i t)) Q E s) :
  UnR X f (rU fun i=>.int (g i)):=by
 intro pins s σ H x v Q I rx h
 obtain⟨i,rfl,q⟩:=h
 obtain⟨t,rfl⟩:=rx
 exact rule i t s _ _ ⟨.int (g i),H,I.tok _,⟨_,rfl⟩,q⟩
theorem un_neg:UnR X (unaryOp .USub) (rU fun i=>.int (-i)):=unI fun _ _ _ _ _ q=>neg_int q
end
def scal:V→V→Bool
 | .non,.non=>true | .non,.int _=>true | .int _,.non=>true | .non,.bl _=>true | .bl _,.non=>true | .non,.str _=>true | .str _,.non=>true
 | .int _,.int _=>true | .bl _,.bl _=>true | .str _,.str _=>true | .byt _,.byt _=>true
 | .int _,.str _=>true | .str _,.int _=>true | .bl _,.str _=>true | .str _,.bl _=>true
 | _,_=>false
def rEq:R2:=fun x y H Q=>scal x y=true∧Q (.bl (decide (x=y))) H
theorem dec_int {i j:Int}:decide (V.int i=V.int j) =(i == j):=by
 rw[Bool.eq_iff_iff]
 simp
theorem dec_bl {i j:Bool}:decide (V.bl i=V.bl j) =(i == j):=by
 rw[Bool.eq_iff_iff]
 simp
theorem dec_str {i j:Str}:decide (V.str i=V.str j) =(i == j):=by
 rw[Bool.eq_iff_iff]
 simp
theorem dec_byt {i j:Array UInt8}:decide (V.byt i=V.byt j) =(i.toList == j.toList):=by
 rw[Bool.eq_iff_iff]
 cases i
 cases j
 simp
section
variable {X:Cx}{a b c:Expr}{ta tb tc:TE}{pos:Pos}
theorem fin_bl {pins:List (Addr×Obj)}{σ:St}{H:Hp}{s:Shared}{Q:VK}{k k':Bool}(I:Inv X pins σ H s) (q:Q (.bl k) H) (e:k=k'):EP X pins σ Q (.bool k') s:=by
 subst e
 exact⟨.bl k,H,I,rfl,q⟩
theorem op_eq:OpR X (compareOp .Eq) rEq:=by
 intro pins s σ H x y v u Q I rx ry h
 obtain⟨hs,q⟩:=h
 cases x with
 | non =>
  cases rx
  cases y with
  | non=>cases ry;exact PySem.EqNone.eq_none_none (fin_bl I q (by simp))
  | bl j=>cases ry;exact PySem.EqNone.eq_none_bool (fin_bl I q (by simp))
  | int j=>obtain⟨t',rfl⟩:=ry;exact PySem.EqNone.eq_none_int (fin_bl I q (by simp))
  | str j=>obtain⟨t',rfl⟩:=ry;exact PySem.EqNone.eq_none_str (fin_bl I q (by simp))
  | _=>exact absurd (show false=true from hs) Bool.false_ne_true
 | bl i =>
  cases rx
  cases y with
  | non=>cases ry;exact PySem.EqNone.eq_bool_none (fin_bl I q (by simp))
  | bl j=>cases ry;exact eq_bool (fin_bl I q dec_bl)
  | str j=>obtain⟨t',rfl⟩:=ry;exact PySem.EqMixed.eq_bool_str (fin_bl I q (by simp))
  | _=>exact absurd (show false=true from hs) Bool.false_ne_true
 | int i =>
  obtain⟨t,rfl⟩:=rx
  cases y with
  | non=>cases ry;exact PySem.EqNone.eq_int_none (fin_bl I q (by simp))
  | int j=>obtain⟨t',rfl⟩:=ry;exact eq_int (fin_bl I q dec_int)
  | str j=>obtain⟨t',rfl⟩:=ry;exact PySem.EqMixed.eq_int_str (fin_bl I q (by simp))
  | _=>exact absurd (show false=true from hs) Bool.false_ne_true
 | str i =>
  obtain⟨t,rfl⟩:=rx
  cases y with
  | non=>cases ry;exact PySem.EqNone.eq_str_none (fin_bl I q (by simp))
  | bl j=>cases ry;exact PySem.EqMixed.eq_str_bool (fin_bl I q (by simp))
  | int j=>obtain⟨t',rfl⟩:=ry;exact PySem.EqMixed.eq_str_int (fin_bl I q (by simp))
  | str j=>obtain⟨t',rfl⟩:=ry;exact eq_str (fin_bl I q dec_str)
  | _=>exact absurd (show false=true from hs) Bool.false_ne_true
 | byt i =>
  obtain⟨t,rfl⟩:=rx
  cases y with
  | byt j=>obtain⟨t',rfl⟩:=ry;exact PySem.W.eq_bytes (fin_bl I q dec_byt)
  | _=>exact absurd (show false=true from hs) Bool.false_ne_true
 | _=>cases y <;> exact absurd (show false=true from hs) Bool.false_ne_true
theorem op_lt:OpR X (compareOp .Lt) (rI0 fun i j=>.bl (decide (i<j))):=opB0 fun _ _ _ _ _ _ _ q=>lt_int q
theorem op_le:OpR X (compareOp .LtE) (rI0 fun i j=>.bl (decide (i≤j))):=opB0 fun _ _ _ _ _ _ _ q=>le_int q
theorem op_gt:OpR X (compareOp .Gt) (rI0 fun i j=>.bl (decide (j<i))):=opB0 fun _ _ _ _ _ _ _ q=>gt_int q
theorem op_ge:OpR X (compareOp .GtE) (rI0 fun i j=>.bl (decide (j≤i))):=opB0 fun _ _ _ _ _ _ _ q=>ge_int q
theorem nomark (b:Expr) {op:CmpOp}(h:op ≠ .In:=by decide) (h2:op ≠ .NotIn:=by decide):behindInMarks op b=false:=by
 have e1:(op == CmpOp.In)=false:=by cases op <;> first|rfl|exact absurd rfl h
 have e2:(op == CmpOp.NotIn)=false:=by cases op <;> first|rfl|exact absurd rfl h2
 cases b <;> simp[behindInMarks,e1,e2]
theorem pe_cmpR {op:CmpOp}{r:R2}(ho:OpR X (compareOp op) r) (ha:PE X a ta) (hb:PE X b tb) (hm:behindInMarks op b=false):PE X (.Compare a [op] [b] pos) (tOp r ta tb):=by
 intro pins s σ H Q I h
 exact wpAny_Compare1 (binT ha hb I h fun v u s2 x y H2 I2 rx ry q=>ho pins s2 σ H2 x y v u Q I2 rx ry q) hm
def tTest (t:TE):TT:=fun σ H Q=>t σ H fun x H'=>∃k,x = .bl k∧Q k H'
theorem pt_cmpR {op:CmpOp}{r:R2}(ho:OpR X (compareOp op) r) (ha:PE X a ta) (hb:PE X b tb) (hm:behindInMarks op b=false):PT X (.Compare a [op] [b] pos) (tTest (tOp r ta tb)):=by
 intro pins s σ H Q I h
 refine wpAny_isTrue_Compare1 (thn (ha pins s σ H _ I h) fun v s1 ⟨x,H1,I1,r1,q1⟩=>thn (hb pins s1 σ H1 _ I1 q1) fun u s2 ⟨y,H2,I2,r2,q2⟩ =>
  thn (ho pins s2 σ H2 x y v u _ I2 r1 r2 q2) fun c s3 ⟨z,H3,I3,r3,k,e,q3⟩=>?_) hm
 subst e
 cases r3
 exact wpAny_truthy_bool ⟨H3,I3,q3⟩
def tChain (r r':R2) (ta tb tc:TE):TE:=fun σ H Q=>ta σ H fun x H1=>tb σ H1 fun y H2=>r x y H2 fun z H3=>∃k,z = .bl k ∧
 (if k=true then tc σ H3 fun w' H4=>r' y w' H4 Q else Q (.bl false) H3)
theorem pe_chain {op op':CmpOp}{r r':R2}(ho:OpR X (compareOp op) r) (ho':OpR X (compareOp op') r') (ha:PE X a ta) (hb:PE X b tb) (hc:PE X c tc)
  (hm:lastMarks [op,op'] [b,c]=false:=by with_unfolding_all rfl):PE X (.Compare a [op,op'] [b,c] pos) (tChain r r' ta tb tc):=by
 intro pins s σ H Q I h
 refine Compare_chain (thn (ha pins s σ H _ I h) fun v s1 ⟨x,H1,I1,r1,q1⟩=>chain_link (thn (hb pins s1 σ H1 _ I1 q1) fun u s2 ⟨y,H2,I2,r2,q2⟩ =>
  thn (ho pins s2 σ H2 x y v u _ I2 r1 r2 q2) fun d s3 ⟨z,H3,I3,r3,k,e,q3⟩=>?_)) hm
 subst e
 cases r3
 refine wpAny_truthy_bool ?_
 cases k with
 | false=>exact ite_ff ⟨.bl false,H3,I3,rfl,q3⟩
 | true=>exact ite_tt (chain_last (thn (hc pins s3 σ H3 _ I3 q3) fun w' s4 ⟨z',H4,I4,r4,q4⟩=>ho' pins s4 σ H4 y z' u w' Q I4 r2 r4 q4))
theorem pt_chain {op op':CmpOp}{r r':R2}(ho:OpR X (compareOp op) r) (ho':OpR X (compareOp op') r') (ha:PE X a ta) (hb:PE X b tb) (hc:PE X c tc)
  (hm:lastMarks [op,op'] [b,c]=false:=by with_unfolding_all rfl):PT X (.Compare a [op,op'] [b,c] pos) (tTest (tChain r r' ta tb tc)):=by
 intro pins s σ H Q I h
 refine isTrue_chain (thn (ha pins s σ H _ I h) fun v s1 ⟨x,H1,I1,r1,q1⟩=>test_link (thn (hb pins s1 σ H1 _ I1 q1) fun u s2 ⟨y,H2,I2,r2,q2⟩ =>
  thn (ho pins s2 σ H2 x y v u _ I2 r1 r2 q2) fun d s3 ⟨z,H3,I3,r3,k,e,q3⟩=>?_)) hm
 subst e
 cases r3
 refine wpAny_truthy_bool ?_
 cases k with
 | false =>
  obtain⟨k',e',q'⟩:=q3
  cases e'
  exact ite_ff ⟨H3,I3,q'⟩
 | true =>
  refine ite_tt (test_last (thn (hc pins s3 σ H3 _ I3 q3) fun w' s4 ⟨z',H4,I4,r4,q4⟩=>thn (ho' pins s4 σ H4 y z' u w' _ I4 r2 r4 q4) fun d' s5 ⟨z2,H5,I5,r5,k2,e2,q5⟩=>?_))
  subst e2
  cases r5
  exact wpAny_truthy_bool ⟨H5,I5,q5⟩
theorem line63:(sizeLine:Nat)<2^63:=by rw[sizeLine_eq];decide
theorem vals1 {x:V}{us:List Value}(r:Vals [x] us):∃u,us=[u]∧RelV x u:=by
 cases r with
 | cons r1 r2=>cases r2;exact⟨_,rfl,r1⟩
theorem vals2 {x y:V}{us:List Value}(r:Vals [x,y] us):∃u w',us=[u,w']∧RelV x u∧RelV y w':=by
 cases r with
 | cons r1 r2 =>
  cases r2 with
  | cons r3 r4=>cases r4;exact⟨_,_,rfl,r1,r3⟩
theorem call_abs:CallR X (.builtin "abs") (fun xs H Q=>∃i,xs=[.int i]∧Q (.int (if i<0 then -i else i)) H):=by
 intro pins s σ H xs us Q I r h
 obtain⟨i,rfl,q⟩:=h
 obtain⟨u,rfl,t,rfl⟩:=vals1 r
 exact call_abs_int fun u tk=>⟨.int (if i<0 then -i else i),H,I.tok _,⟨_,rfl⟩,q⟩
theorem call_max2 (hc:X.calm=true):CallR X (.builtin "max") (fun xs H Q=>∃i j,xs=[.int i,.int j]∧Q (.int (if j > i then j else i)) H):=by
 intro pins s σ H xs us Q I r h
 obtain⟨i,j,rfl,q⟩:=h
 obtain⟨u,w',rfl,⟨t,rfl⟩,⟨t',rfl⟩⟩:=vals2 r
 refine max_two_ints (I.ok.hd hc) fun h' tk k=>⟨_,H,I.kept k,?_,q⟩
 by_cases hj:j > i
 ·rw[if_pos hj,if_pos hj];exact⟨_,rfl⟩
 ·rw[if_neg hj,if_neg hj];exact⟨_,rfl⟩
theorem call_min2 (hc:X.calm=true):CallR X (.builtin "min") (fun xs H Q=>∃i j,xs=[.int i,.int j]∧Q (.int (if j<i then j else i)) H):=by
 intro pins s σ H xs us Q I r h
 obtain⟨i,j,rfl,q⟩:=h
 obtain⟨u,w',rfl,⟨t,rfl⟩,⟨t',rfl⟩⟩:=vals2 r
 refine min_two_ints (I.ok.hd hc) fun h' tk k=>⟨_,H,I.kept k,?_,q⟩
 by_cases hj:j<i
 ·rw[if_pos hj,if_pos hj];exact⟨_,rfl⟩
 ·rw[if_neg hj,if_neg hj];exact⟨_,rfl⟩
end
end L2
namespace L2
open PySem PySem.Spec PyProof.Rows
structure ObjM (h:Heap) (x dx C:Addr) (mA:Str→Option Value):Prop where
 obj:h.get? x=some (PySem.W.instObj C dx)
 ns:h.Ns1 dx mA
 ne:dx≠x
theorem lookIn_ns {h:Heap}{dx:Addr}{mA:Str→Option Value}(n:h.Ns1 dx mA):∃od,h.get? dx=some od∧∀name,PySem.W.lookIn name od=some (mA name):=by
 obtain⟨o,es,ep,ho,hd,hk,_,hm⟩:=n
 refine⟨o,ho,fun name=>?_⟩
 have e:=hm name
 unfold nsFind findBy at e
 rw[← Array.find?_toList]at e
 unfold PySem.W.lookIn
 rw[hd]
 dsimp only
 split
 ·rename_i y q
  rw[q]at e
  exact congrArg some e
 ·rename_i q
  rw[q]at e
  have a:es.toList.any (·.refKey)=false:=by
   rw[List.any_eq_false]
   intro y hy
   obtain⟨z,t,hkey⟩:=hk y (Array.mem_toList_iff.mp hy)
   simp[DictEntry.refKey,hkey]
  have a':¬ es.toList.any (·.refKey)=true:=by rw[a];exact Bool.false_ne_true
  rw[if_neg a']
  exact congrArg some e
theorem ObjM.look {h:Heap}{x dx C:Addr}{mA:Str→Option Value}(I:ObjM h x dx C mA):∃od,PySem.W.InstAt h x (PySem.W.instObj C dx) C (some od)∧∀name,PySem.W.lookIn name od=some (mA name) :=
 let ⟨od,ho,hl⟩:=lookIn_ns I.ns
 ⟨od,⟨I.obj,rfl,rfl,ho⟩,hl⟩
section
variable {prog:Program}{w:World}{A:Around}{E:Value→Shared→Prop}{s:Shared}{K:PySem.W.Frag}{x dx C f:Addr}{mA:Str→Option Value}{name:Str}{v:Value}
theorem get_map {expr:Bool}{Q:Value→Shared→Prop}(X:K.In s.heap) (I:ObjM s.heap x dx C mA) (hg:PySem.W.plainGet K C name=true) (hh:PySem.W.hasDictIn K C=true)
  (ha:PySem.W.findIn K (.ref C) name=some none) (hv:mA name=some v) (hv':PySem.W.handedIn v=true) (h:Q v { s with toks:=s.toks+1 }) :
  wpAny (model prog w) A (getAttr (.ref x) name expr) Q E s:=by
 obtain⟨od,J,hl⟩:=I.look
 exact PySem.W.get_value X J (PySem.W.plainGet_of hg).1 (PySem.W.findObj_own hh ha rfl (by rw[hl,hv])) hv' h
theorem get_meth {pl:Sem Bool}{Q:Value×List Value→Shared→Prop}(X:K.In s.heap) (I:ObjM s.heap x dx C mA) (hg:PySem.W.plainGet K C name=true)
  (hf:PySem.W.findIn K (.ref C) name=some (some (.ref f))) (ht:PySem.W.isFn K (.ref f)=true) (hv:mA name=none) (h:Q (.ref f,[.ref x]) s) :
  wpAny (model prog w) A (getMethod (.ref x) name pl) Q E s:=by
 obtain⟨od,J,hl⟩:=I.look
 exact PySem.W.method_fn X J (PySem.W.plainGet_of hg).1 (PySem.W.plainGet_of hg).2 hf (beq_iff_eq.mp ht) (by show(PySem.W.lookIn name od).map (·.isSome)=some false;rw[hl,hv];rfl) h
theorem set_map {ns:List Str}{Q:Unit→Shared→Prop}(X:K.In s.heap) (I:ObjM s.heap x dx C mA)
  (hs:PySem.W.findIn K (.ref C) "__setattr__" = some (some (.builtin "object.__setattr__"))) (hp:PySem.W.plainOver K C=true) (ht:PySem.W.takerIn K C name=some none) (hh:PySem.W.hasDictIn K C=true)
  (hw:PySem.Within mA ns) (hsz:ns.length≤sizeLine)
  (h:∀h',ObjM h' x dx C (fun y=>if y=name then some v else mA y)→Heap.SameBut dx s.heap h'→Q () { s with heap:=h',toks:=s.toks+2 }) :
  wpAny (model prog w) A (setAttr (.ref x) name v) Q E s:=by
 obtain⟨od,J,hl⟩:=I.look
 refine PySem.W.set_plain X J hs (PySem.W.osa_open (s:={ s with toks:=s.toks+1 }) (r:=none) X J hp ht fun b=>?_)
 obtain⟨cd,hc,hd'⟩:=PySem.W.any_some hh
 have hx:s.heap.get? x=some ⟨.ref C,some dx,.plain,#[]⟩:=I.obj
 refine wpAny_bind (wpAny_pure (wpAny_bind (wpAny_bind (wpAny_loadPart hx (wpAny_bind (PySem.W.Looks.here (s:={ s with toks:=s.toks+1 }) (PySem.W.looks_clsIn X hc) ?_))))))
 rw[hd']
 refine wpAny_pure (a:=some dx) (wpAny_bind (wpAny_pure (wpAny_bind ?_)))
 refine wpAny_nsSet1 (s:={ s with toks:=s.toks+1 }) I.ns fun h' hn2 hs2=>?_
 obtain⟨oD,esD,epD,hoD,hdD,hcD⟩:=hn2.count (PySem.Within.cons name v hw)
 refine wpAny_bind (wpAny_lookBehind hoD (by rw[hdD];exact pastItsLine_dict (Nat.le_trans hcD (by rw[List.length_cons];omega))) ?_)
 exact wpAny_pure (h _ ⟨(hs2.2 _ (Ne.symm I.ne)).trans I.obj,hn2,I.ne⟩ hs2)
theorem make_map {R:Result→Shared→Prop}{vs:List Value}{kw:List (Str×Value)}(X:K.In s.heap) (hm:PySem.W.makesIn K C=true)
  (hi:PySem.W.findIn K (.ref C) "__init__" = some (some (.ref f))) (hf:PySem.W.typeIn K (.ref f)=some (.type "function"))
  (h:codeAny (model prog w) (A.under (.builtin "type.__call__" ⟨.ref C::vs,kw⟩)) (.call (.ref f) ⟨.ref (s.heap.objs.size+1)::vs,kw⟩) (PySem.W.InitBack (s.heap.objs.size+1) R)
   { s with heap:=(s.heap.push PySem.W.emptyDict).push (PySem.W.instObj C s.heap.objs.size) }) :
  codeAny (model prog w) A (.call (.ref C) ⟨vs,kw⟩) R s:=by
 obtain⟨hh,g,d,t,os⟩:=s
 exact PySem.W.make_core (PySem.W.makes_of X hm) (PySem.W.looks_findIn X hi) (fun self=>PySem.W.bind_fn X self hf) (.inl rfl) h
end
def putF (f:Str) (v:V):List (Str×V)→List (Str×V)
 | []=>[(f,v)]
 | (g,x)::r=>if g=f then(g,v)::r else(g,x)::putF f v r
theorem lookup_putF (f g:Str) (v:V):∀fs:List (Str×V),(putF f v fs).lookup g=if g=f then some v else fs.lookup g
 | []=>by
  show List.lookup g [(f,v)]=_
  by_cases h:g=f
  ·have hb:(g == f)=true:=beq_iff_eq.mpr h
   simp only[List.lookup,hb,if_pos h]
  ·have hb:(g == f)=false:=beq_eq_false_iff_ne.mpr h
   simp only[List.lookup,hb,if_neg h]
 | (k,x)::r=>by
  have ih:=lookup_putF f g v r
  rw[show putF f v ((k,x)::r) =(if k=f then(k,v)::r else(k,x)::putF f v r) from rfl]
  by_cases hk:k=f
  ·rw[if_pos hk]
   by_cases h:g=k
   ·have hb:(g == k)=true:=beq_iff_eq.mpr h
    simp only[List.lookup,hb,if_pos (h.trans hk)]
   ·have hb:(g == k)=false:=beq_eq_false_iff_ne.mpr h
    simp only[List.lookup,hb,if_neg (fun e:g=f=>h (e.trans hk.symm))]
  ·rw[if_neg hk]
   by_cases h:g=k
   ·have hb:(g == k)=true:=beq_iff_eq.mpr h
    simp only[List.lookup,hb,if_neg (fun e:g=f=>hk (h.symm.trans e))]
   ·have hb:(g == k)=false:=beq_eq_false_iff_ne.mpr h
    simp only[List.lookup,hb]
    exact ih
theorem keys_putF (f:Str) (v:V):∀fs:List (Str×V),f∈(putF f v fs).map (·.1)∧∀g,g∈fs.map (·.1)→g∈(putF f v fs).map (·.1)
 | []=>⟨by simp[putF],fun g h=>by simp at h⟩
 | (k,x)::r=>by
  obtain⟨i1,i2⟩:=keys_putF f v r
  rw[show putF f v ((k,x)::r) =(if k=f then(k,v)::r else(k,x)::putF f v r) from rfl]
  by_cases hk:k=f
  ·rw[if_pos hk]
   subst hk
   exact⟨by simp,fun g h=>by simpa using h⟩
  ·rw[if_neg hk]
   refine⟨?_,fun g h=>?_⟩
   ·rw[List.map_cons]
    exact List.mem_cons_of_mem _ i1
   ·rw[List.map_cons]at h ⊢
    rcases List.mem_cons.mp h with e|e
    ·exact List.mem_cons.mpr (.inl e)
    ·exact List.mem_cons_of_mem _ (i2 g e)
theorem length_putF (f:Str) (v:V):∀fs:List (Str×V),(putF f v fs).length≤fs.length+1
 | []=>by simp[putF]
 | (k,x)::r=>by
  have ih:=length_putF f v r
  rw[show putF f v ((k,x)::r) =(if k=f then(k,v)::r else(k,x)::putF f v r) from rfl]
  by_cases hk:k=f
  ·rw[if_pos hk,List.length_cons,List.length_cons];omega
  ·rw[if_neg hk,List.length_cons,List.length_cons];omega
theorem RelO.some_of {v:V}{o:Option Value}(r:RelO (some v) o):∃u,o=some u∧RelV v u:=by
 cases o with
 | none=>exact(show False from r).elim
 | some u=>exact⟨u,rfl,r⟩
theorem RelO.none_of {o:Option Value}(r:RelO none o):o=none:=by
 cases o with
 | none=>rfl
 | some u=>exact(show False from r).elim
theorem handed_of {v:V}{u:Value}(r:RelV v u):PySem.W.handedIn u=true:=by
 cases v with
 | non=>cases (show u=Value.none from r);rfl
 | bl b=>cases (show u=Value.bool b from r);rfl
 | int i=>obtain⟨t,e⟩:=(show ∃t,u=Value.int i t from r);cases e;rfl
 | str x=>obtain⟨t,e⟩:=(show ∃t,u=Value.str x t from r);cases e;rfl
 | byt b=>obtain⟨t,e⟩:=(show ∃t,u=Value.bytes b t from r);cases e;rfl
 | flt b=>obtain⟨t,e⟩:=(show ∃t,u=Value.float b t from r);cases e;rfl
 | ref a=>cases (show u=Value.ref a from r);rfl
 | ty n=>cases (show u=Value.type n from r);rfl
section
variable {P:Program}{w:World}{H H':Hp}{h h':Heap}{a C dx:Addr}{fs fs':List (Str×V)}
theorem ins_get (hok:HOk P w H h) (e:H a=some (.ins C dx fs)):∃mA,ObjM h a dx C mA∧(∀f,RelO (fs.lookup f) (mA f))∧PySem.Within mA (fs.map (·.1))∧fs.length≤1000∧H dx=some (.own a):=by
 obtain⟨d,z,ne,ob,mA,n,r,q⟩:=(show ObjOk P w H h a (.ins C dx fs) from hok a _ e)
 exact⟨mA,⟨ob,n,ne⟩,r,q,z,d⟩
end
structure Cls (K:PySem.W.Frag) (C:Addr):Prop where
 pg:PySem.W.plainGet K C Str.empty=true
 hd:PySem.W.hasDictIn K C=true
 po:PySem.W.plainOver K C=true
 sa:PySem.W.findIn K (.ref C) "__setattr__" = some (some (.builtin "object.__setattr__"))
theorem Cls.get {K:PySem.W.Frag}{C:Addr}(c:Cls K C) (f:Str):PySem.W.plainGet K C f=true:=c.pg
def NoAttr (K:PySem.W.Frag) (C:Addr) (f:Str):Prop:=PySem.W.findIn K (.ref C) f=some none
theorem NoAttr.taker {K:PySem.W.Frag}{C:Addr}{f:Str}(n:NoAttr K C f):PySem.W.takerIn K C f=some none:=by
 unfold PySem.W.takerIn
 rw[show PySem.W.findIn K (.ref C) f=some none from n]
 rfl
structure Meth (K:PySem.W.Frag) (C:Addr) (m:Str) (f:Addr):Prop where
 at_:PySem.W.findIn K (.ref C) m=some (some (.ref f))
 fn:PySem.W.isFn K (.ref f)=true
 kp:PySem.W.keepIn K (.ref f)=true
section
variable {X:Cx}{pins:List (Addr×Obj)}{σ:St}{H:Hp}{s:Shared}{a C dx:Addr}{fs:List (Str×V)}{f:Str}{v:V}{A:Around}{E:Value→Shared→Prop}
theorem getattr_ok {b:Bool}{Q:Value→Shared→Prop}(I:Inv X pins σ H s) (e:H a=some (.ins C dx fs)) (c:Cls X.K C) (n:NoAttr X.K C f) (l:fs.lookup f=some v)
  (h:∀u s',Inv X pins σ H s'→RelV v u→Q u s'):wpAny (model X.prog X.w) A (getAttr (.ref a) f b) Q E s:=by
 obtain⟨mA,O,r,_,_,_⟩:=ins_get I.hok e
 obtain⟨u,hu,ru⟩:=RelO.some_of (v:=v) (o:=mA f) (by rw[← l];exact r f)
 exact get_map I.kIn O (c.get f) c.hd n hu (handed_of ru) (h u _ (I.tok _) ru)
theorem getmeth_ok {m:Str}{g:Addr}{pl:Sem Bool}{Q:Value×List Value→Shared→Prop}(I:Inv X pins σ H s) (e:H a=some (.ins C dx fs)) (c:Cls X.K C) (k:Meth X.K C m g) (l:fs.lookup m=none)
  (h:Q (.ref g,[.ref a]) s):wpAny (model X.prog X.w) A (getMethod (.ref a) m pl) Q E s:=by
 obtain⟨mA,O,r,_,_,_⟩:=ins_get I.hok e
 have hn:mA m=none:=RelO.none_of (by rw[← l];exact r m)
 exact get_meth I.kIn O (c.get m) k.at_ k.fn hn h
theorem setattr_ok {y:V}{u:Value}{Q:Unit→Shared→Prop}(I:Inv X pins σ H s) (e:H a=some (.ins C dx fs)) (c:Cls X.K C) (n:NoAttr X.K C f) (hl:fs.length<1000) (ry:RelV y u)
  (h:∀s',Inv X pins σ (upd H a (.ins C dx (putF f y fs))) s'→Q () s'):wpAny (model X.prog X.w) A (setAttr (.ref a) f u) Q E s:=by
 obtain⟨mA,O,r,wi,_,ho⟩:=ins_get I.hok e
 have hz:(fs.map (·.1)).length≤sizeLine:=by rw[List.length_map,sizeLine_eq];omega
 refine set_map I.kIn O c.sa c.po n.taker c.hd wi hz fun h' O' sb=>h _ ?_
 have hd:∃o,h'.get? dx=some o:=let ⟨o,_,_,e',_⟩:=O'.ns;⟨o,e'⟩
 refine I.write (x:=a) (e:=dx) (by rw[e];exact True.intro) (.inr ho) (fun b q hb z=>(sb.2 b hb).trans z) hd ?_
 refine⟨by rw[upd_ne O.ne];exact ho,?_,O.ne,O'.obj,_,O'.ns,fun g=>?_,fun g hg=>?_⟩
 ·have:=length_putF f y fs;omega
 ·show RelO ((putF f y fs).lookup g) (if g=f then some u else mA g)
  rw[lookup_putF]
  by_cases q:g=f
  ·rw[if_pos q,if_pos q];exact ry
  ·rw[if_neg q,if_neg q];exact r g
 ·by_cases q:g=f
  ·rw[q];exact(keys_putF f y fs).1
  ·refine(keys_putF f y fs).2 g (wi g fun z=>hg ?_)
   show(if g=f then some u else mA g)=none
   rw[if_neg q];exact z
theorem Inv.made (I:Inv X pins σ H s):Inv X pins σ (upd (upd H s.heap.objs.size (.own (s.heap.objs.size+1))) (s.heap.objs.size+1) (.ins C s.heap.objs.size []))
  { s with heap:=(s.heap.push PySem.W.emptyDict).push (PySem.W.instObj C s.heap.objs.size) }:=by
 have e1:(s.heap.push PySem.W.emptyDict).get? s.heap.objs.size=some PySem.W.emptyDict:=Heap.get?_push_size s.heap rfl
 have e2:((s.heap.push PySem.W.emptyDict).push (PySem.W.instObj C s.heap.objs.size)).get? (s.heap.objs.size+1)=some (PySem.W.instObj C s.heap.objs.size):=by
  have:=Heap.get?_push_size (s.heap.push PySem.W.emptyDict) (o:=PySem.W.instObj C s.heap.objs.size) rfl
  rwa [Heap.size_push]at this
 have e3:(s.heap.push PySem.W.emptyDict).Ns s.heap.objs.size (fun _=>none):=⟨PySem.W.emptyDict,#[],_,e1,rfl,(fun e he=>absurd he (by simp)),fun _=>rfl⟩
 have I1:=I.laid (a:=s.heap.objs.size) (o:=.own (s.heap.objs.size+1)) (h':=s.heap.push PySem.W.emptyDict) (t':=s.toks) (fun b u q=>Heap.get?_push_of_some _ q) (Nat.le_refl _) ⟨_,e1⟩
 refine I1.laid (a:=s.heap.objs.size+1) (o:=.ins C s.heap.objs.size []) (t':=s.toks) (fun b u q=>Heap.get?_push_of_some _ q) (Nat.le_of_eq (Heap.size_push _ _)) ?_
 have ne:s.heap.objs.size≠s.heap.objs.size+1:=Nat.ne_of_lt (Nat.lt_succ_self _)
 refine⟨by rw[upd_ne ne,upd_same],Nat.zero_le _,ne,e2,fun _=>none,(Heap.Ns1.of_empty e3).at fun o q=>Heap.get?_push_of_some _ q,fun _=>True.intro,fun y hy=>absurd rfl hy⟩
theorem attr_of {prog:Program}{w:World}{env:Env}{e:Expr}{f:Str}{pos:Pos}{s:Shared}{Q:Value→Shared→Prop}(hb:attributeBase e f env (eval e env)=eval e env)
  (h:wpAny (model prog w) A (eval e env) (fun o s₁=>wpAny (model prog w) A (getAttr o f true) Q E s₁) E s):wpAny (model prog w) A (eval (.Attribute e f pos) env) Q E s :=
 Attribute_any_ h (by rw[arm_eval_Attribute,hb])
end
def tFld (K:PySem.W.Frag) (ta:TE) (f:Str):TE:=fun σ H Q=>ta σ H fun x H1=>∃a C dx fs v,x = .ref a∧H1 a=some (.ins C dx fs)∧Cls K C∧NoAttr K C f∧fs.lookup f=some v∧Q v H1
def sFld (K:PySem.W.Frag) (ta tv:TE) (f:Str):TS:=fun D σ H=>tv σ H fun y H1=>ta σ H1 fun x H2=>∃a C dx fs,x = .ref a∧H2 a=some (.ins C dx fs)∧Cls K C∧NoAttr K C f∧fs.length<1000 ∧
 D.nx σ (upd H2 a (.ins C dx (putF f y fs)))
section
variable {X:Cx}{o e value:Expr}{f:Str}{pos pos' tpos:Pos}{ta tv:TE}
theorem pe_fld (he:PE X e ta) (hb:attributeBase e f X.env (eval e X.env)=eval e X.env):PE X (.Attribute e f pos) (tFld X.K ta f):=by
 intro pins s σ H Q I h
 refine attr_of hb (thn (he pins s σ H _ I h) fun u s1 ⟨x,H1,I1,rx,a,C,dx,fs,v,ex,ea,c,n,l,q⟩=>?_)
 subst ex
 obtain rfl:u=Value.ref a:=rx
 exact getattr_ok I1 ea c n l fun u' s2 I2 ru=>⟨v,H1,I2,ru,q⟩
theorem ps_fld (ha:PE X o ta) (hv:PE X value tv) (hs:swapsWith value (some (.Attribute o f pos')) pos.line X.env=pure false):PS X (.Assign [.Attribute o f pos'] value pos) (sFld X.K ta tv f):=by
 intro pins s σ H D I h
 refine plainObj_wpAny_Assign_Attribute (thn (hv pins s σ H _ I h) fun u s1 ⟨y,H1,I1,ry,q⟩=>thn (ha pins s1 σ H1 _ I1 q) fun ov s2 ⟨x,H2,I2,rx,a,C,dx,fs,ex,ea,c,n,l,q2⟩=>?_) hs
 subst ex
 obtain rfl:ov=Value.ref a:=rx
 exact setattr_ok I2 ea c n l ry fun s3 I3=>⟨σ,_,I3,q2⟩
theorem methcall_of {pl:Sem Bool}{m:Str}{apos:Pos}{args:List Expr}{pins:List (Addr×Obj)}{s:Shared}{σ:St}{H:Hp}{Q:Value→Shared→Prop}{te:TE}(he:PE X e te) (I:Inv X pins σ H s)
  (h:te σ H fun x H1=>∃a C dx fs g,x = .ref a∧H1 a=some (.ins C dx fs)∧Cls X.K C∧Meth X.K C m g∧fs.lookup m=none ∧
   ∀s1,Inv X pins σ H1 s1→wpAny (model X.prog X.w) X.A (callWith pos (.ref g) [.ref a] (backTo pos (starEach args X.env)) (backToKw pos (keywordEach [] X.env))) Q X.xe s1)
  (ht:eval (.Call (.Attribute e m apos) args [] pos) X.env =(do
   let ov ← eval e X.env
   standAt apos.atName
   let (f,first) ← holding [ov] (getMethod ov m pl)
   callWith pos f first (backTo pos (starEach args X.env)) (backToKw pos (keywordEach [] X.env)))) :
  wpAny (model X.prog X.w) X.A (eval (.Call (.Attribute e m apos) args [] pos) X.env) Q X.xe s:=by
 refine PySem.W.methodCall_KW (pl:=pl) (thn (he pins s σ H _ I h) fun u s1 ⟨x,H1,I1,rx,a,C,dx,fs,g,ex,ea,c,k,l,q⟩=>?_) ht
 subst ex
 obtain rfl:u=Value.ref a:=rx
 exact getmeth_ok I1 ea c k l (q s1 I1)
end
section
variable {X:Cx}{pins:List (Addr×Obj)}{σ:St}{H:Hp}{s:Shared}{A:Around}{E:Value→Shared→Prop}{Q:Value→Shared→Prop}{c:Value}{b:Bool}
inductive TyOf (K:PySem.W.Frag) (H:Hp):V→Value→Prop where
 | non:TyOf K H .non (.type "NoneType")
 | bl (x:Bool):TyOf K H (.bl x) (.type "bool")
 | int (i:Int):TyOf K H (.int i) (.type "int")
 | str (x:Str):TyOf K H (.str x) (.type "str")
 | flt (x:UInt64):TyOf K H (.flt x) (.type "float")
 | lst {a:Addr}{xs:List V}(e:H a=some (.lst xs)):TyOf K H (.ref a) (.type "list")
 | frz {a:Addr}{o:Obj}{xs:List V}(e:H a=some (.frz o (.lst xs))):TyOf K H (.ref a) (.type "list")
 | tup {a:Addr}{xs:List V}(e:H a=some (.tup xs)):TyOf K H (.ref a) (.type "tuple")
 | dK {a:Addr}{kvs:List (Key×V)}(e:H a=some (.dK kvs)):TyOf K H (.ref a) (.type "dict")
 | dT {a:Addr}{kvs:List (List Key×V)}(e:H a=some (.dT kvs)):TyOf K H (.ref a) (.type "dict")
 | ins {a C dx:Addr}{fs:List (Str×V)}(e:H a=some (.ins C dx fs)) (cl:Cls K C) (ha:PySem.W.findIn K (.ref C) "__class__" = some (some (.builtin "object.__class__")))
   (hn:PySem.W.specialIn K (.builtin "object.__class__") "__get__" = some (some (.builtin "getset_descriptor.__get__"))) (htk:PySem.W.takesIn K (.builtin "object.__class__")=some true)
   (hm:PySem.W.mroIn K C (.type "object")=some true):TyOf K H (.ref a) (.ref C)
theorem isinst_ok {x:V}{u t:Value}(I:Inv X pins σ H s) (rx:RelV x u) (ty:TyOf X.K H x t) (e:PySem.W.kitOne X.K t c=some b) (h:∀tk,Q (.bool b) { s with toks:=tk }) :
  wpAny (model X.prog X.w) A (call (.builtin "isinstance") [u,c]) Q E s:=by
 cases ty with
 | non=>cases (show u=Value.none from rx);exact PySem.W.kia_one PySem.W.kitx_none I.kIn True.intro e (fun z=>nomatch z) h
 | bl y=>cases (show u=Value.bool y from rx);exact PySem.W.kia_one PySem.W.kitx_bool I.kIn True.intro e (fun z=>nomatch z) h
 | int i=>obtain⟨t,q⟩:=(show ∃t,u=Value.int i t from rx);cases q;exact PySem.W.kia_one PySem.W.kitx_int I.kIn True.intro e (fun z=>nomatch z) h
 | str y=>obtain⟨t,q⟩:=(show ∃t,u=Value.str y t from rx);cases q;exact PySem.W.kia_one PySem.W.kitx_str I.kIn True.intro e (fun z=>nomatch z) h
 | flt y=>obtain⟨t,q⟩:=(show ∃t,u=Value.float y t from rx);cases q;exact PySem.W.kia_one PySem.W.kitx_float I.kIn True.intro e (fun z=>nomatch z) h
 | @lst a xs ea =>
  cases (show u=Value.ref a from rx)
  obtain⟨_,_,n,_,h1⟩:=(show ObjOk X.prog X.w H s.heap a (.lst xs) from I.hok a _ ea)
  exact PySem.W.kia_one PySem.W.kitx_list I.kIn ⟨_,h1,rfl⟩ e (fun z=>nomatch z) h
 | @frz a ob xs ea =>
  cases (show u=Value.ref a from rx)
  obtain⟨_,_,_,n,_,h1⟩:=(show ObjOk X.prog X.w H s.heap a (.frz ob (.lst xs)) from I.hok a _ ea)
  exact PySem.W.kia_one PySem.W.kitx_list I.kIn ⟨_,h1,rfl⟩ e (fun z=>nomatch z) h
 | @tup a xs ea =>
  cases (show u=Value.ref a from rx)
  obtain⟨_,_,_,p⟩:=(show ObjOk X.prog X.w H s.heap a (.tup xs) from I.hok a _ ea)
  obtain⟨o,h1,h2,_⟩:=p
  exact PySem.W.kia_one PySem.W.kitx_tuple I.kIn ⟨o,h1,h2⟩ e (fun z=>nomatch z) h
 | @dK a kvs ea =>
  cases (show u=Value.ref a from rx)
  obtain⟨_,_,vs,_,p⟩:=(show ObjOk X.prog X.w H s.heap a (.dK kvs) from I.hok a _ ea)
  obtain⟨o,es,ep,h1,h2,_⟩:=p
  exact PySem.W.kia_one PySem.W.kitx_dict I.kIn ⟨o,h1,h2.1⟩ e (fun z=>nomatch z) h
 | @dT a kvs ea =>
  cases (show u=Value.ref a from rx)
  obtain⟨_,_,xs,_,o,es,ep,h1,h2,_⟩:=(show ObjOk X.prog X.w H s.heap a (.dT kvs) from I.hok a _ ea)
  exact PySem.W.kia_one PySem.W.kitx_dict I.kIn ⟨o,h1,h2.1⟩ e (fun z=>nomatch z) h
 | @ins a C dx fs ea cl ha hn htk hm =>
  cases (show u=Value.ref a from rx)
  obtain⟨mA,O,_⟩:=ins_get I.hok ea
  obtain⟨od,J,_⟩:=O.look
  exact PySem.W.kia_one (PySem.W.kitx_own (cl.get _) cl.hd ha hn htk hm) I.kIn J e (fun z=>nomatch z) h
end
end L2
namespace L2
open PySem PySem.Spec PyProof.Rows
structure Room (k:Nat) (A:Around):Prop where
 hd:A.handled=none
 dp:A.depth+3*k+5<recursionLimit
 un:A.units+16*k+200<cLine
 gd:A.guards=some []
theorem Room.mono {j k:Nat}{A:Around}(r:Room k A) (h:j≤k):Room j A:=⟨r.hd,by have:=r.dp;omega,by have:=r.un;omega,r.gd⟩
theorem guards_deeper {A:Around}{env:Env}(h:A.guards=some []):(A.deeper env).guards=some []:=by
 first|exact h|simp[Around.deeper,Around.under,Code.guards,Code.isGuard,pushGuards,h]
theorem Room.deeper {k:Nat}{A:Around}(r:Room (k+1) A) (env:Env):Room k (A.deeper env) :=
 ⟨r.hd,by have:=r.dp;show A.depth+1+3*k+5<_;omega,by have:=r.un;show A.units+3+16*k+200<_;omega,guards_deeper r.gd⟩
theorem Room.in1 {k:Nat}{A:Around}(r:Room (k+1) A):Room k A.in1 :=
 ⟨r.hd,by have:=r.dp;show A.depth+3*k+5<_;omega,by have:=r.un;show A.units+1+16*k+200<_;omega,r.gd⟩
theorem make_depth {A:Around}{C:Addr}{us:List Value}{kw:List (Str×Value)}:(A.under (.builtin "type.__call__" ⟨.ref C::us,kw⟩)).depth=A.depth+1:=by
 first|rfl|simp[Around.under,Code.weight,Code.isCreation,Code.isGuard,Code.isCaller,Code.frames,Code.isFrame,guardIds]
theorem make_units {A:Around}{C:Addr}{us:List Value}{kw:List (Str×Value)}:(A.under (.builtin "type.__call__" ⟨.ref C::us,kw⟩)).units=A.units+1:=by
 first|rfl|simp[Around.under,Code.cUnits,Code.frames,Code.isFrame]
theorem guards_make {A:Around}{C:Addr}{us:List Value}{kw:List (Str×Value)}(h:A.guards=some []):(A.under (.builtin "type.__call__" ⟨.ref C::us,kw⟩)).guards=some []:=by
 first|exact h|(show pushGuards _ A.guards=_;rw[h];rfl)
theorem Room.make {k:Nat}{A:Around}(r:Room (k+1) A) (C:Addr) (us:List Value) (kw:List (Str×Value)):Room k (A.under (.builtin "type.__call__" ⟨.ref C::us,kw⟩)) :=
 ⟨r.hd,by have:=r.dp;rw[make_depth];omega,by have:=r.un;rw[make_units];omega,guards_make r.gd⟩
theorem Room.depth {k:Nat}{A:Around}(r:Room k A):A.depth<recursionLimit:=by have:=r.dp;omega
theorem Room.units {k:Nat}{A:Around}(r:Room k A):A.units+64<cLine:=by have:=r.un;omega
def tNil:TA:=fun _ H Q=>Q [] H
def tCons (ta:TE) (tr:TA):TA:=fun σ H Q=>ta σ H fun x H1=>tr σ H1 fun xs H2=>Q (x::xs) H2
section
variable {X:Cx}{e:Expr}{es:List Expr}{te:TE}{t:TA}{pos:Pos}
theorem pa_nil:PA X [] tNil:=fun _ _ _ _ H Q I h=>Calls.spliced_nil ⟨[],H,I,.nil,h⟩
theorem pa_cons (ha:PE X e te) (hr:PA X es t) (hs:starEach (e::es) X.env =(false,eval e X.env)::starEach es X.env:=by rfl):PA X (e::es) (tCons te t):=by
 intro pos pins s σ H Q I h
 rw[hs]
 show wpAny _ _ (spliced ((false,eval e X.env)::backTo pos (starEach es X.env))) _ _ s
 refine Calls.spliced_cons (thn (ha pins s σ H _ I h) fun u s1 ⟨x,H1,I1,r1,q1⟩=>?_)
 exact thn (hr pos pins s1 σ H1 _ I1 q1) fun us s2 ⟨xs,H2,I2,r2,q2⟩=>⟨x::xs,H2,I2,.cons r1 r2,q2⟩
def tTup (t:TA):TE:=fun σ H Q=>t σ H fun xs H1=>xs.length≤sizeLine∧∀p,H1 p=none→Q (.ref p) (upd H1 p (.tup xs))
def tLst (t:TA):TE:=fun σ H Q=>t σ H fun xs H1=>xs.length≤sizeLine∧∀p,H1 p=none→Q (.ref p) (upd H1 p (.lst xs))
theorem pe_tup {x1}(h:PA X es t):PE X (.Tuple es x1 pos) (tTup t):=by
 intro pins s σ H Q I hq
 refine wpAny_Tuple_spliced (thn (h pos pins s σ H _ I hq) fun us s1 ⟨xs,H1,I1,r,z,q⟩=>⟨by rw[← r.length];exact z,?_⟩)
 have hf:H1 s1.heap.objs.size=none:=I1.hok.fresh (Nat.le_refl _)
 refine⟨.ref s1.heap.objs.size,upd H1 s1.heap.objs.size (.tup xs),I1.laid (t':=s1.toks) (fun b u e=>Heap.get?_push_of_some _ e) (Nat.le_refl _) ?_,rfl,q _ hf⟩
 exact⟨z,us,r,⟨_,Heap.get?_push_size _ rfl,rfl,_,rfl⟩⟩
theorem pe_lst (h:PA X es t):PE X (.List es pos) (tLst t):=by
 intro pins s σ H Q I hq
 refine wpAny_List_spliced (thn (h pos pins s σ H _ I hq) fun us s1 ⟨xs,H1,I1,r,z,q⟩=>⟨by rw[← r.length];exact z,?_⟩)
 have hf:H1 s1.heap.objs.size=none:=I1.hok.fresh (Nat.le_refl _)
 refine⟨.ref s1.heap.objs.size,upd H1 s1.heap.objs.size (.lst xs),I1.laid (t':=s1.toks) (fun b u e=>Heap.get?_push_of_some _ e) (Nat.le_refl _) ?_,rfl,q _ hf⟩
 exact⟨z,us,0,r,Heap.get?_push_size _ rfl⟩
end
abbrev Sp:=List V→Hp→VK→XK→Prop
abbrev CXT:=List Env→Hp→Shared→XK→Value→Shared→Prop
structure Env0 (P:Program) (w:World) (K:PySem.W.Frag) (mg:Str→Option Value) (base:Heap) (A:Around) (outer:List Env) (s:Shared) (H:Hp):Prop where
 frames:A.frames=some outer
 mod:Mod K mg base
 bs:∀b o,base.get? b=some o→s.heap.get? b=some o∧H b=none
 bsz:base.objs.size≤s.heap.objs.size
 funs:s.heap.FunFrames base outer
 frf:∀b∈frs outer,H b=none
 hok:HOk P w H s.heap
 bare:AllBare s.gens
def CE (outer:List Env) (P:Program) (w:World) (H:Hp) (s:Shared) (Q:VK) (u:Value) (s':Shared):Prop :=
 ∃v H',s'.os=s.os∧AllBare s'.gens∧Un (frs outer) [] H H' s.heap s'.heap∧HOk P w H' s'.heap∧RelV v u∧Q v H'
def CR (CX:CXT) (outer:List Env) (P:Program) (w:World) (H:Hp) (s:Shared) (Q:VK) (E:XK) (r:Result) (s':Shared):Prop :=
 match r with
 | .ok (.ret u)=>CE outer P w H s Q u s'
 | .ok _=>False
 | .error e=>CX outer H s E e s'
structure FnOk (P:Program) (w:World) (K:PySem.W.Frag) (mg:Str→Option Value) (base:Heap) (CX:CXT) (k:Nat) (f:Addr) (fd:FuncData) (ps:List Str) (sp:Sp):Prop where
 len:∀vs H Q E,sp vs H Q E→vs.length=ps.length
 run:∀(A:Around) (outer:List Env) (s:Shared) (H:Hp) (args:Args) (us:List Value) (vs:List V) (Q:VK) (E:XK),Room k A→Env0 P w K mg base A outer s H→BindsTo s fd args (ps.zip us)→Vals vs us→sp vs H Q E →
  codeAny (model P w) A (.call (.ref f) args) (CR CX outer P w H s Q E) s
theorem Env0.make {P:Program}{w:World}{K:PySem.W.Frag}{mg:Str→Option Value}{base:Heap}{A:Around}{outer:List Env}{s:Shared}{H:Hp}(e:Env0 P w K mg base A outer s H) (C:Addr) (us:List Value) (kw:List (Str×Value)) :
  Env0 P w K mg base (A.under (.builtin "type.__call__" ⟨.ref C::us,kw⟩)) outer s H:=⟨by first|exact e.frames|(simpa [Around.under,Code.envs,Code.isFrame,pushEnvs] using e.frames),e.mod,e.bs,e.bsz,e.funs,e.frf,e.hok,e.bare⟩
section
variable {X:Cx}{pins:List (Addr×Obj)}{σ:St}{H:Hp}{s s':Shared}
theorem Inv.env0 (I:Inv X pins σ H s):Env0 X.prog X.w X.K X.mg X.base X.A X.stack s H :=
 ⟨I.ok.frames,I.ok.mod,I.bs,Nat.le_trans I.ok.bsz I.sz,I.stack,I.stkFree,I.hok,I.bare⟩
theorem Inv.after {Q:VK}{u:Value}(I:Inv X pins σ H s) (h:CE X.stack X.prog X.w H s Q u s'):EP X pins σ Q u s':=by
 obtain⟨v,H',os,bare,un,hok,r,q⟩:=h
 obtain⟨hh,g,d,t,os'⟩:=s'
 obtain rfl:os'=s.os:=os
 exact⟨v,H',I.call (h':=hh) (g':=g) (d':=d) (t':=t) (ch:=[]) un hok bare (fun b z=>absurd z (by simp)),r,q⟩
end
def tCall (sp:Sp) (dvs:List V) (E:XK) (t:TA):TE:=fun σ H Q=>t σ H fun vs H1=>sp (vs++dvs) H1 Q E
def tMeth (C:Addr) (m:Str) (sp:Sp) (dvs:List V) (E:XK) (ta:TE) (t:TA):TE:=fun σ H Q=>ta σ H fun x H1=>∃a dx fs,x = .ref a∧H1 a=some (.ins C dx fs)∧fs.lookup m=none ∧
 t σ H1 fun vs H2=>sp (x::(vs++dvs)) H2 Q E
def tMake (C:Addr) (sp:Sp) (dvs:List V) (E:XK) (t:TA):TE:=fun σ H Q=>t σ H fun vs H1=>∀x dx,H1 x=none→H1 dx=none→dx≠x →
 sp (.ref x::(vs++dvs)) (upd (upd H1 dx (.own x)) x (.ins C dx [])) (fun v H2=>v = .non∧Q (.ref x) H2) E
def Binds (K:PySem.W.Frag) (fd:FuncData) (ps:List Str) (ds:List Value):Prop :=
 ∀(s:Shared) (us:List Value),K.In s.heap→(us++ds).length=ps.length→BindsTo s fd ⟨us,[]⟩ (ps.zip (us++ds))
theorem Binds.all {K:PySem.W.Frag}{fd:FuncData}{ps:List Str}(h:∀us:List Value,us.length=ps.length→bindArgs fd ⟨us,[]⟩=pure (ps.zip us)):Binds K fd ps []:=fun s us _ hl=>by
 rw[List.append_nil]at hl ⊢
 exact .of_eq (h us hl)
def Passes (CX:CXT) (X:Cx) (E:XK):Prop:=∀(pins:List (Addr×Obj)) (σ:St) (H:Hp) (s:Shared) (e:Value) (s':Shared),Inv X pins σ H s→CX X.stack H s E e s'→X.xe e s'
section
variable {X:Cx}{CX:CXT}{k:Nat}{f C:Addr}{fd:FuncData}{ps:List Str}{sp:Sp}{dvs:List V}{ds:List Value}{E:XK}{x m:Str}{p pos apos:Pos}{e o:Expr}{es:List Expr}{ta:TE}{t:TA}
theorem run_fn {pins:List (Addr×Obj)}{σ:St}{H:Hp}{s:Shared}{Q:VK}{us:List Value}{vs:List V}(F:FnOk X.prog X.w X.K X.mg X.base CX k f fd ps sp) (hr:Room k X.A) (hb:Binds X.K fd ps ds) (hd:Vals dvs ds) (hx:Passes CX X E)
  (I:Inv X pins σ H s) (r:Vals vs us) (h:sp (vs++dvs) H Q E):wpAny (model X.prog X.w) X.A (call (.ref f) us) (EP X pins σ Q) X.xe s:=by
 have r2:Vals (vs++dvs) (us++ds):=r.append hd
 have hl:(us++ds).length=ps.length:=by rw[← r2.length];exact F.len _ _ _ _ h
 refine wpAny_call (codeAny_mono (F.run X.A X.stack s H ⟨us,[]⟩ (us++ds) (vs++dvs) Q E hr I.env0 (hb s us I.kIn hl) r2 h) fun r s' hq=>?_)
 cases r with
 | error e=>exact hx pins σ H s e s' I hq
 | ok fl =>
  cases fl with
  | ret u=>exact I.after hq
  | next=>exact False.elim hq
  | brk=>exact False.elim hq
  | cont=>exact False.elim hq
theorem pe_call (F:FnOk X.prog X.w X.K X.mg X.base CX k f fd ps sp) (hr:Room k X.A) (hg:Gl X x) (hm:X.mg x=some (.ref f)) (hk:PySem.W.keepIn X.K (.ref f)=true) (hb:Binds X.K fd ps ds) (hd:Vals dvs ds) (hx:Passes CX X E)
  (ha:PA X (e::es) t) (hdb:(x ==("__debug__" : Str))=false:=by decide) (he:starEach (e::es) X.env =(false,eval e X.env)::starEach es X.env:=by rfl) (hpl:(backTo pos (starEach es X.env)).any (·.1)=false:=by rfl) :
  PE X (.Call (.Name x p) (e::es) [] pos) (tCall sp dvs E t):=by
 intro pins s σ H Q I h
 refine wpAny_Call_Name_kw (ld_glob I hg hm ?_ hdb)
 refine PySem.W.callWith_K (h₀:=X.base) I.ok.mod.kin hk (thn (ha pos pins s σ H _ I h) fun us s1 ⟨vs,H1,I1,r,q⟩=>⟨I1.kIn,?_⟩) he hpl
 exact run_fn F hr hb hd hx I1 r q
theorem pe_meth {pl:Sem Bool}(he:PE X o ta) (c:Cls X.K C) (hm:Meth X.K C m f) (F:FnOk X.prog X.w X.K X.mg X.base CX k f fd ps sp) (hr:Room k X.A) (hb:Binds X.K fd ps ds) (hd:Vals dvs ds) (hx:Passes CX X E) (ha:PA X (e::es) t)
  (hst:starEach (e::es) X.env =(false,eval e X.env)::starEach es X.env:=by rfl) (hpl:(backTo pos (starEach es X.env)).any (·.1)=false:=by rfl)
  (ht:eval (.Call (.Attribute o m apos) (e::es) [] pos) X.env =(do
   let ov ← eval o X.env
   standAt apos.atName
   let (f,first) ← holding [ov] (getMethod ov m pl)
   callWith pos f first (backTo pos (starEach (e::es) X.env)) (backToKw pos (keywordEach [] X.env))):=by rfl) :
  PE X (.Call (.Attribute o m apos) (e::es) [] pos) (tMeth C m sp dvs E ta t):=by
 intro pins s σ H Q I h
 refine PySem.W.methodCall_KW (pl:=pl) (thn (he pins s σ H _ I h) fun u s1 ⟨x,H1,I1,rx,a,dx,fs,ex,ea,l,q⟩=>?_) ht
 subst ex
 obtain rfl:u=Value.ref a:=rx
 refine getmeth_ok I1 ea c hm l ?_
 refine PySem.W.callWith_K (first:=[.ref a]) (h₀:=X.base) I.ok.mod.kin hm.kp (thn (ha pos pins s1 σ H1 _ I1 q) fun us s2 ⟨vs,H2,I2,r,q2⟩=>⟨I2.kIn,?_⟩) hst hpl
 exact run_fn (us:=.ref a::us) (vs:=.ref a::vs) F hr hb hd hx I2 (.cons rfl r) q2
theorem pe_meth0 {pl:Sem Bool}(he:PE X o ta) (c:Cls X.K C) (hm:Meth X.K C m f) (F:FnOk X.prog X.w X.K X.mg X.base CX k f fd ps sp) (hr:Room k X.A) (hb:Binds X.K fd ps ds) (hd:Vals dvs ds) (hx:Passes CX X E)
  (ht:eval (.Call (.Attribute o m apos) [] [] pos) X.env =(do
   let ov ← eval o X.env
   standAt apos.atName
   let (f,first) ← holding [ov] (getMethod ov m pl)
   callWith pos f first (backTo pos (starEach [] X.env)) (backToKw pos (keywordEach [] X.env))):=by rfl) :
  PE X (.Call (.Attribute o m apos) [] [] pos) (tMeth C m sp dvs E ta tNil):=by
 intro pins s σ H Q I h
 refine PySem.W.methodCall_KW (pl:=pl) (thn (he pins s σ H _ I h) fun u s1 ⟨x,H1,I1,rx,a,dx,fs,ex,ea,l,q⟩=>?_) ht
 subst ex
 obtain rfl:u=Value.ref a:=rx
 refine getmeth_ok I1 ea c hm l ?_
 exact PySem.W.callWith_K0 (first:=[.ref a]) I1.kIn hm.kp (run_fn (us:=[.ref a]) (vs:=[.ref a]) F hr hb hd hx I1 (.cons rfl .nil) q)
structure Mk (K:PySem.W.Frag) (C f:Addr):Prop where
 makes:PySem.W.makesIn K C=true
 init:PySem.W.findIn K (.ref C) "__init__" = some (some (.ref f))
 fn:PySem.W.isFn K (.ref f)=true
 kp:PySem.W.keepIn K (.ref C)=true
theorem run_make {pins:List (Addr×Obj)}{σ:St}{H:Hp}{s:Shared}{Q:VK}{us:List Value}{vs:List V}(M:Mk X.K C f) (F:FnOk X.prog X.w X.K X.mg X.base CX k f fd ps sp) (hr:Room (k+1) X.A) (hb:Binds X.K fd ps ds) (hd:Vals dvs ds)
  (hx:Passes CX X E) (I:Inv X pins σ H s) (r:Vals vs us)
  (h:∀x dx,H x=none→H dx=none→dx≠x→sp (.ref x::(vs++dvs)) (upd (upd H dx (.own x)) x (.ins C dx [])) (fun v H2=>v = .non∧Q (.ref x) H2) E) :
  wpAny (model X.prog X.w) X.A (call (.ref C) us) (EP X pins σ Q) X.xe s:=by
 have hq:=h (s.heap.objs.size+1) s.heap.objs.size (I.hok.fresh (Nat.le_succ _)) (I.hok.fresh (Nat.le_refl _)) (Nat.ne_of_lt (Nat.lt_succ_self _))
 have I2:=Inv.made (C:=C) I
 have r2:Vals (V.ref (s.heap.objs.size+1)::(vs++dvs)) (Value.ref (s.heap.objs.size+1)::(us++ds)):=.cons rfl (r.append hd)
 have hl:(Value.ref (s.heap.objs.size+1)::us++ds).length=ps.length:=by
  have e:=r2.length
  rw[F.len _ _ _ _ hq]at e
  exact e.symm
 refine wpAny_call (make_map (f:=f) I.kIn M.makes M.init (beq_iff_eq.mp M.fn) (codeAny_mono (F.run _ X.stack _ _ ⟨Value.ref (s.heap.objs.size+1)::us,[]⟩ (Value.ref (s.heap.objs.size+1)::(us++ds)) _ _ E (hr.make C us [])
  (I2.env0.make C us []) (hb _ (Value.ref (s.heap.objs.size+1)::us) I2.kIn hl) r2 hq) fun r s' hq'=>?_))
 cases r with
 | error e=>exact hx pins σ _ _ e s' I2 hq'
 | ok fl =>
  cases fl with
  | ret u =>
   obtain⟨v,H',I3,rv,ev,q3⟩:=I2.after hq'
   subst ev
   exact⟨rv,⟨V.ref (s.heap.objs.size+1),H',I3,rfl,q3⟩⟩
  | next=>exact False.elim hq'
  | brk=>exact False.elim hq'
  | cont=>exact False.elim hq'
theorem pe_make (M:Mk X.K C f) (F:FnOk X.prog X.w X.K X.mg X.base CX k f fd ps sp) (hr:Room (k+1) X.A) (hg:Gl X x) (hm:X.mg x=some (.ref C)) (hb:Binds X.K fd ps ds) (hd:Vals dvs ds) (hx:Passes CX X E)
  (ha:PA X (e::es) t) (hdb:(x ==("__debug__" : Str))=false:=by decide) (he:starEach (e::es) X.env =(false,eval e X.env)::starEach es X.env:=by rfl) (hpl:(backTo pos (starEach es X.env)).any (·.1)=false:=by rfl) :
  PE X (.Call (.Name x p) (e::es) [] pos) (tMake C sp dvs E t):=by
 intro pins s σ H Q I h
 refine wpAny_Call_Name_kw (ld_glob I hg hm ?_ hdb)
 refine PySem.W.callWith_K (h₀:=X.base) I.ok.mod.kin M.kp (thn (ha pos pins s σ H _ I h) fun us s1 ⟨vs,H1,I1,r,q⟩=>⟨I1.kIn,?_⟩) he hpl
 exact run_make M F hr hb hd hx I1 r q
end
def PK (X:Cx) (kws:List Keyword) (t:TA):Prop :=
 ∀(pos:Pos) (pins:List (Addr×Obj)) (s:Shared) (σ:St) (H:Hp) (Q:List V→Hp→Prop),Inv X pins σ H s→t σ H Q→wpAny (model X.prog X.w) X.A (evalAll ((backToKw pos (keywordEach kws X.env)).map (·.2))) (AP X pins σ Q) X.xe s
section
variable {X:Cx}{CX:CXT}{k:Nat}{f C:Addr}{fd:FuncData}{ps ks:List Str}{sp:Sp}{E:XK}{x m:Str}{p pos apos kpos:Pos}{e o:Expr}{es:List Expr}{kws:List Keyword}{te ta:TE}{t tk:TA}{nm:Option Str}
theorem pk_nil:PK X [] tNil:=fun _ _ _ _ H Q I h=>wpAny_evalAll_nil ⟨[],H,I,.nil,h⟩
theorem pk_cons (ha:PE X e te) (hr:PK X kws t):PK X (⟨nm,e,kpos⟩::kws) (tCons te t):=by
 intro pos pins s σ H Q I h
 show wpAny _ _ (evalAll ((do let v ← eval e X.env;standAt pos;pure v)::(backToKw pos (keywordEach kws X.env)).map (·.2))) _ _ s
 refine wpAny_evalAll_cons (wpAny_bind (thn (ha pins s σ H _ I h) fun u s1 ⟨x,H1,I1,r1,q1⟩=>wpAny_bind (wpAny_standAt (wpAny_pure ?_))))
 exact thn (hr pos pins s1 σ H1 _ I1 q1) fun us s2 ⟨xs,H2,I2,r2,q2⟩=>⟨x::xs,H2,I2,.cons r1 r2,q2⟩
variable {g:List Value→List Value→List Value}{gV:List V→List V→List V}
end
structure FnScope (N P:List Str) (sc:Scope):Prop where
 kind:sc.kind = .function
 co:sc.isCoroutine=false
 gen:sc.isGenerator=false
 nd:N.Nodup
 pre:N.take P.length=P
 par:∀x∈P,sc.names.lookup x=some .local∨sc.names.lookup x=some .cell
 nofree:∀y∈sc.names,y.2 ≠ .free
theorem bindL_out {kindOf:Str→Option NameKind}{x:Str}:∀{binds:List (Str×Value)}{m:Str→Option Value},(∀v,(x,v)∉binds)→bindL kindOf binds m x=m x
 | [],_,_=>rfl
 | (n,v)::r,m,h=>by
  unfold bindL
  rw[bindL_out fun w hw=>h w (List.mem_cons_of_mem _ hw)]
  split
  ·have:x≠n:=by rintro rfl;exact h v List.mem_cons_self
   simp[this]
  ·rfl
theorem bindC_out {kindOf:Str→Option NameKind}{x:Str}:∀{binds:List (Str×Value)}{m:Str→Option Value},(∀v,(x,v)∉binds)→bindC kindOf binds m x=m x
 | [],_,_=>rfl
 | (n,v)::r,m,h=>by
  unfold bindC
  rw[bindC_out fun w hw=>h w (List.mem_cons_of_mem _ hw)]
  split
  ·rfl
  ·have:x≠n:=by rintro rfl;exact h v List.mem_cons_self
   simp[this]
theorem bindL_get {kindOf:Str→Option NameKind}{x:Str}{v:Value}:∀{P:List Str}{vs:List Value}{i:Nat}{m:Str→Option Value},P.Nodup→P[i]? = some x→vs[i]? = some v→kindOf x=some .local →
  bindL kindOf (P.zip vs) m x=some v
 | [],_,_,_,_,h,_,_=>by simp at h
 | _::_,[],_,_,_,_,h,_=>by simp at h
 | p::P,w::vs,0,m,nd,h1,h2,hk=>by
  simp at h1 h2;subst h1;subst h2
  show bindL kindOf ((p,w)::P.zip vs) m p=_
  unfold bindL
  rw[bindL_out fun v hv=>(List.nodup_cons.mp nd).1 (List.of_mem_zip hv).1,if_pos hk]
  simp
 | p::P,w::vs,i+1,m,nd,h1,h2,hk=>by
  show bindL kindOf ((p,w)::P.zip vs) m x=_
  unfold bindL
  exact bindL_get (i:=i) (List.nodup_cons.mp nd).2 (by simpa using h1) (by simpa using h2) hk
theorem bindC_get {kindOf:Str→Option NameKind}{x:Str}{v:Value}:∀{P:List Str}{vs:List Value}{i:Nat}{m:Str→Option Value},P.Nodup→P[i]? = some x→vs[i]? = some v→kindOf x≠some .local →
  bindC kindOf (P.zip vs) m x=some v
 | [],_,_,_,_,h,_,_=>by simp at h
 | _::_,[],_,_,_,_,h,_=>by simp at h
 | p::P,w::vs,0,m,nd,h1,h2,hk=>by
  simp at h1 h2;subst h1;subst h2
  show bindC kindOf ((p,w)::P.zip vs) m p=_
  unfold bindC
  rw[bindC_out fun v hv=>(List.nodup_cons.mp nd).1 (List.of_mem_zip hv).1,if_neg hk]
  simp
 | p::P,w::vs,i+1,m,nd,h1,h2,hk=>by
  show bindC kindOf ((p,w)::P.zip vs) m x=_
  unfold bindC
  exact bindC_get (i:=i) (List.nodup_cons.mp nd).2 (by simpa using h1) (by simpa using h2) hk
def start (N:List Str) (vs:List V):St:=vs.map some++List.replicate (N.length-vs.length) none
def cxOf (CX:CXT) (P:Program) (w:World) (K:PySem.W.Frag) (mg:Str→Option Value) (base:Heap) (N:List Str) (qual:Str) (scope:Scope) (f:Addr) (cd:Value) (A:Around) (outer:List Env) (s:Shared) (H:Hp) (E:XK):Cx where
 prog:=P
 w:=w
 K:=K
 mg:=mg
 base:=base
 A:=A.deeper (envOfC qual scope s.heap.objs.size f cd)
 N:=N
 s₀:=s
 H₀:=H
 env:=envOfC qual scope s.heap.objs.size f cd
 outer:=outer
 stack:=envOfC qual scope s.heap.objs.size f cd::outer
 ex:=[]
 calm:=true
 fn:=fun _=>true
 pn:=[]
 xe:=fun e s'=>wpAny (model P w) (A.deeper (envOfC qual scope s.heap.objs.size f cd)) (leaving (envOfC qual scope s.heap.objs.size f cd) e) (fun _ s''=>CX outer H s E e s'') (fun e' s''=>CX outer H s E e' s'') s'
theorem cell_has {sc:Scope}{n:Nat}{x:Str}(h:sc.names.lookup x=some .cell):∃c,(cellsFrom n sc.names []).lookup x=some c:=by
 have q:=PySem.W.cellsFrom_some sc.names n [] (.inl h)
 exact Option.isSome_iff_exists.mp q
theorem inv_start {CX:CXT}{P:Program}{w:World}{K:PySem.W.Frag}{mg:Str→Option Value}{base:Heap}{N ps:List Str}{qual:Str}{scope:Scope}{f:Addr}{cd:Value}{A:Around}{outer:List Env}{s s1:Shared}{H:Hp}{E:XK}{us:List Value}{vs:List V}
  (S:FnScope N ps scope) (hd:A.handled=none) (e0:Env0 P w K mg base A outer s H) (hl:vs.length=ps.length) (r:Vals vs us)
  (x:InCallC s s.heap.objs.size (bindL (envOfC qual scope s.heap.objs.size f cd).kindOf (ps.zip us) fun _=>none) (cellsFrom (s.heap.objs.size+1) scope.names []) (bindC (envOfC qual scope s.heap.objs.size f cd).kindOf (ps.zip us) fun _=>none) s1) :
  Inv (cxOf CX P w K mg base N qual scope f cd A outer s H E) [] (start N vs) H s1:=by
 have hpl:ps.length≤N.length:=by have:=congrArg List.length S.pre;rw[List.length_take]at this;omega
 obtain⟨h1,tk,rfl,hk⟩:=x.done
 have noA:∀b:Addr,b∉(cxOf CX P w K mg base N qual scope f cd A outer s H E).ex:=fun b z=>absurd (show b∈([]:List Addr) from z) (by simp)
 refine⟨⟨e0.mod,S.kind,rfl,rfl,Nat.le_refl _,fun y z c h1 h2=>?_,fun y hy=>?_,fun y c _ h=>?_,fun _=>hd,Around.frames_deeper e0.frames,.inr ⟨rfl,rfl⟩,fun b z=>absurd z (noA b),e0.bs,e0.bsz,fun b _ _=>noA b,fun b z=>absurd z (noA b),e0.funs,e0.frf⟩,
  rfl,e0.bare,Un.kept hk,⟨_,x.toInCall.ns,fun i y v h1 h2 h3=>?_⟩,fun y c h=>⟨_,x.cell y c h⟩,e0.hok.fresh (Nat.le_refl _),fun y c h=>?_,fun p hp=>absurd (show p∈([]:List (Addr×Obj)) from hp) (by simp),e0.hok.kept hk,?_⟩
 ·exact name_of_addr x.apart (PySem.mem_of_lookup h1) (PySem.mem_of_lookup h2)
 ·have hy:scope.names.lookup y=some .cell∨scope.names.lookup y=some .free:=hy
  rcases hy with hy|hy
  ·exact cell_has hy
  ·exact absurd rfl (S.nofree _ (PySem.mem_of_lookup hy))
 ·exact Nat.le_of_lt (x.above y c (PySem.mem_of_lookup h))
 ·have hi:i<vs.length:=by
   unfold start at h2
   by_cases hi:i<vs.length
   ·exact hi
   ·rw[List.getElem?_append_right (by simpa using hi)]at h2
    rw[List.getElem?_replicate]at h2
    split at h2 <;> cases h2
  have ha:vs[i]? = some v:=by
   unfold start at h2
   rw[List.getElem?_append_left (by simpa using hi),List.getElem?_map]at h2
   cases e:vs[i]? with
   | none=>rw[e]at h2;cases h2
   | some a=>rw[e]at h2;cases h2;rfl
  obtain⟨u,hu,rv⟩:=r.get ha
  have hp:ps[i]? = some y:=by
   rw[← S.pre,List.getElem?_take_of_lt (by omega)];exact h1
  have ndP:ps.Nodup:=by rw[← S.pre];exact S.nd.sublist (List.take_sublist _ _)
  refine⟨u,rv,?_⟩
  rcases S.par y (List.mem_of_getElem? hp) with k|k
  ·exact .inl ⟨k,bindL_get ndP hp hu k⟩
  ·obtain⟨c,e⟩:=cell_has (n:=s.heap.objs.size+1) k
   refine .inr ⟨.inl k,c,e,?_⟩
   have q:=x.cell y c e
   rw[bindC_get ndP hp hu (by show scope.names.lookup y≠_;rw[k];decide)]at q
   exact q
 ·exact e0.hok.fresh (Nat.le_of_lt (x.above y c (PySem.mem_of_lookup h)))
 ·unfold start
  show _=N.length
  rw[List.length_append,List.length_map,List.length_replicate]
  omega
theorem fn_of {CX:CXT}{P:Program}{w:World}{K:PySem.W.Frag}{mg:Str→Option Value}{base:Heap}{k:Nat}{f:Addr}{name qual:Str}{params:Arguments}{body:List Stmt}{scope:Scope}{dV kV doc pm cdv ct oc:Value}{an od:Option Addr}
  {osl:Array (Option Value)}{N ps:List Str}{sp:Sp}(lk:K.lookup f=some ⟨oc,od,.func (PySem.W.fnOf name qual params body scope dV kV doc pm an cdv ct),osl⟩) (hcd:PySem.W.codeIn K cdv qual=true) (S:FnScope N ps scope)
  (len:∀vs H Q E,sp vs H Q E→vs.length=ps.length)
  (hbody:∀(A:Around) (outer:List Env) (s:Shared) (H:Hp) (vs:List V) (Q:VK) (E:XK),Room k (A.deeper (envOfC qual scope s.heap.objs.size f cdv))→sp vs H Q E →
   ∃t,PSs (cxOf CX P w K mg base N qual scope f cdv A outer s H E) body t∧t { nx:=fun _ H'=>Q .non H',rt:=Q } (start N vs) H) :
  FnOk P w K mg base CX (k+1) f (PySem.W.fnOf name qual params body scope dV kV doc pm an cdv ct) ps sp:=by
 refine⟨len,fun A outer s H args us vs Q E hr e0 hb r hsp=>?_⟩
 have hl:=len _ _ _ _ hsp
 have KX:K.In s.heap:=e0.mod.kin.keeps fun b o e=>(e0.bs b o e).1
 have lim:s.heap.NoLimit:=e0.mod.nolimit.keeps fun b o e=>(e0.bs b o e).1
 have hkind:∀y∈ps.zip us,scope.names.lookup y.1=some .local ∨(scope.names.lookup y.1=some .cell∧((cellsFrom (s.heap.objs.size+1) scope.names []).lookup y.1).isSome=true):=fun⟨n,v⟩ hy=>by
  rcases S.par n (List.of_mem_zip hy).1 with q|q
  ·exact .inl q
  ·exact .inr ⟨q,PySem.W.cellsFrom_some _ _ _ (.inl q)⟩
 refine codeAny_call_function hr.depth (KX _ _ lk) rfl S.co S.gen rfl (PySem.W.codeRec_of KX hcd) (hb _ _ _ _ ?_)
 refine wpAny_newFunctionEnv_cells S.kind hkind fun env he s1 x=>?_
 subst he
 refine⟨lim.keeps x.toInCall.keep,codeAny_func ?_⟩
 obtain⟨t,ht,hq⟩:=hbody A outer s H vs Q E (hr.deeper _) hsp
 have I:Inv (cxOf CX P w K mg base N qual scope f cdv A outer s H E) [] (start N vs) H s1:=inv_start S hr.hd e0 hl r x
 refine wpAny_mono (ht [] s1 (start N vs) H _ I hq) (fun fl s' hs=>?_) fun e s' hs=>hs
 have fin:∀{σ':St}{H':Hp}{v:V}{u:Value},Inv (cxOf CX P w K mg base N qual scope f cdv A outer s H E) [] σ' H' s'→RelV v u→Q v H'→CE outer P w H s Q u s' :=
  fun {σ' H' v u} J rv q=>⟨v,H',J.os,J.bare,J.base,J.hok,rv,q⟩
 cases fl with
 | ret u =>
  obtain⟨v,σ',H',J,rv,q⟩:=hs
  exact fin J rv q
 | next =>
  obtain⟨σ',H',J,q⟩:=hs
  exact fin (v:=V.non) (u:=Value.none) J rfl q
 | brk =>
  obtain⟨_,_,_,q⟩:=hs
  exact False.elim q
 | cont =>
  obtain⟨_,_,_,q⟩:=hs
  exact False.elim q
end L2
namespace L2
open PySem PySem.Spec PyProof.Rows
section
variable {X:Cx}{x:Str}{p pos:Pos}{e:Expr}{es:List Expr}{t:TA}{id T:String}{r:List V→Hp→VK→Prop}
def tCB (r:List V→Hp→VK→Prop) (t:TA):TE:=fun σ H Q=>t σ H fun vs H1=>r vs H1 Q
theorem pe_callB (hc:CallR X (.builtin id) r) (hg:Gl X x) (hm:X.mg x=none) (hv:bootBuiltins x=some (.builtin id)) (ha:PA X (e::es) t) (hn:x ≠ "__name__" := by decide) (hdb:(x ==("__debug__" : Str))=false:=by decide)
  (he:starEach (e::es) X.env =(false,eval e X.env)::starEach es X.env:=by rfl) (hpl:(backTo pos (starEach es X.env)).any (·.1)=false:=by rfl):PE X (.Call (.Name x p) (e::es) [] pos) (tCB r t):=by
 intro pins s σ H Q I h
 refine wpAny_Call_Name_kw (ld_blt I hg hm hv ?_ hn hdb)
 exact PyProof.Rows.callWith_builtin1 (thn (ha pos pins s σ H _ I h) fun us s1 ⟨vs,H1,I1,r1,q1⟩=>hc pins s1 σ H1 vs us Q I1 r1 q1) he hpl
theorem pe_callTy (hc:CallR X (.type T) r) (hg:Gl X x) (hm:X.mg x=none) (hv:bootBuiltins x=some (.type T)) (ha:PA X (e::es) t) (hn:x ≠ "__name__" := by decide) (hdb:(x ==("__debug__" : Str))=false:=by decide)
  (he:starEach (e::es) X.env =(false,eval e X.env)::starEach es X.env:=by rfl) (hpl:(backTo pos (starEach es X.env)).any (·.1)=false:=by rfl):PE X (.Call (.Name x p) (e::es) [] pos) (tCB r t):=by
 intro pins s σ H Q I h
 refine wpAny_Call_Name_kw (ld_blt I hg hm hv ?_ hn hdb)
 exact PyProof.Rows.callWith_type1 (thn (ha pos pins s σ H _ I h) fun us s1 ⟨vs,H1,I1,r1,q1⟩=>hc pins s1 σ H1 vs us Q I1 r1 q1) he hpl
end
end L2
namespace HT
open PySem PyProof.Rows
section
open PySem.SeqAt
open PySem.AutoSeq1 (wpAny_loadPart')
open PySem.MeetsSeq PySem.MeetsSeq2 PySem.MeetsSeq3
end
section
variable {prog:Program}{w:World}{A:Around}{E:Value→Shared→Prop}{s:Shared}
def sIx (n d:Nat):Option Int→Nat
 | none=>d
 | some v=>if v<0 then(v+(n:Int)).toNat else min v.toNat n
theorem sIx_none (n d:Nat):sIx n d none=d:=rfl
theorem sIx_nat (n d k:Nat):sIx n d (some (k:Int))=min k n:=by
 show(if (k:Int)<0 then((k:Int)+(n:Int)).toNat else min (k:Int).toNat n)=min k n
 rw[if_neg (by omega),Int.toNat_natCast]
end
end HT
namespace L2
open PySem PySem.Spec PyProof.Rows
abbrev TO:=St→Hp→(Option Int→Hp→Prop)→Prop
def PO (X:Cx) (e:Option Expr) (t:TO):Prop :=
 ∀(pins:List (Addr×Obj)) (s:Shared) (σ:St) (H:Hp) (Q:Option Int→Hp→Prop),Inv X pins σ H s→t σ H Q →
  wpAny (model X.prog X.w) X.A (evalPart e X.env) (fun u s'=>∃o H',Inv X pins σ H' s'∧IsPart u o∧Q o H') X.xe s
def tNoPart:TO:=fun _ H Q=>Q none H
def tPart (t:TE):TO:=fun σ H Q=>t σ H fun x H1=>∃i,x = .int i∧Q (some i) H1
theorem intsAre_of {ns:List Int}:∀{us:List Value},Vals (ns.map V.int) us→IntsAre us ns:=by
 induction ns with
 | nil=>intro us r;rw[List.map_nil]at r;cases r;exact .nil
 | cons n ns ih =>
  intro us r
  rw[List.map_cons]at r
  cases r with
  | cons r1 r2 =>
   obtain⟨t,e⟩:=r1
   subst e
   exact .cons n t (ih r2)
section
variable {X:Cx}{e:Expr}{te:TE}{lo hi:Option Expr}{tl th:TO}{pos p2:Pos}
theorem po_none:PO X none tNoPart:=by
 intro pins s σ H Q I h
 rw[evalPart_none]
 exact wpAny_pure ⟨none,H,I,.none,h⟩
theorem po_some (h:PE X e te):PO X (some e) (tPart te):=by
 intro pins s σ H Q I hw
 rw[evalPart_some]
 refine thn (h pins s σ H _ I hw) fun u s1 ⟨x,H1,I1,r1,q1⟩=>?_
 obtain⟨i,rfl,q⟩:=q1
 obtain⟨t,rfl⟩:=r1
 exact⟨some i,H1,I1,.int i t,q⟩
def SlR (X:Cx) (r:V→Option Int→Option Int→Hp→VK→Prop):Prop :=
 ∀(pins:List (Addr×Obj)) (s:Shared) (σ:St) (H:Hp) (x:V) (v vl vu:Value) (lo hi:Option Int) (sl:Addr) (Q:VK),Inv X pins σ H s→RelV x v→s.heap.IsSliceOf sl vl vu .none→IsPart vl lo→IsPart vu hi→r x lo hi H Q →
  ∃T id,typeLookup (.type T) "__getitem__" = pure (some (.builtin id))∧s.TypeIs v T∧wpAny (model X.prog X.w) X.A (getItem v (.ref sl)) (EP X pins σ Q) X.xe s
def tSl (r:V→Option Int→Option Int→Hp→VK→Prop) (te:TE) (tl th:TO):TE:=fun σ H Q=>te σ H fun x H1=>tl σ H1 fun l H2=>th σ H2 fun u H3=>r x l u H3 Q
theorem pe_slice {r:V→Option Int→Option Int→Hp→VK→Prop}(hr:SlR X r) (he:PE X e te) (hl:PO X lo tl) (hu:PO X hi th):PE X (.Subscript e (.Slice lo hi none p2) pos) (tSl r te tl th):=by
 intro pins s σ H Q I h
 refine Subscript_ (thn (he pins s σ H _ I h) fun v s1 ⟨x,H1,I1,r1,q1⟩=>?_)
 refine wpAny_Slice (thn (hl pins s1 σ H1 _ I1 q1) fun vl s2 ⟨l,H2,I2,pl,q2⟩=>thn (hu pins s2 σ H2 _ I2 q2) fun vu s3 ⟨u,H3,I3,pu,q3⟩=>?_)
 rw[evalPart_none]
 refine wpAny_pure ?_
 have I4:Inv X pins σ H3 { s3 with heap:=s3.heap.push { cls:=.type "slice",data:=.fields #[vl,vu,.none] } }:=I3.kept (t':=s3.toks) fun b ob q=>Heap.get?_push_of_some _ q
 obtain⟨T,id,hT,ht,hg⟩:=hr pins { s3 with heap:=s3.heap.push { cls:=.type "slice",data:=.fields #[vl,vu,.none] } } σ H3 x v vl vu l u s3.heap.objs.size Q I4 r1 (Heap.IsSliceOf.new ..) pl pu q3
 show wpAny (model X.prog X.w) X.A (subscriptTail e (.Slice lo hi none p2) v (.ref s3.heap.objs.size)) (EP X pins σ Q) X.xe { s3 with heap:=s3.heap.push { cls:=.type "slice",data:=.fields #[vl,vu,.none] } }
 exact tail_any (ops:=[.ref s3.heap.objs.size,v]) ht hT hg (by with_unfolding_all rfl)
def cutV (xs:List V) (lo hi:Option Int):List V:=(xs.drop (HT.sIx xs.length 0 lo)).take (HT.sIx xs.length xs.length hi-HT.sIx xs.length 0 lo)
theorem cutV_length (xs:List V) (lo hi:Option Int):(cutV xs lo hi).length≤xs.length:=by
 unfold cutV
 rw[List.length_take,List.length_drop]
 omega
end
end L2
namespace L2
open PySem PySem.Spec PyProof.Rows
def ixN (n:Nat) (i:Int):Option Nat:=if 0≤i then(if i<n then some i.toNat else none) else if -(n:Int)≤i then some (i+n).toNat else none
def atI {α:Type}(xs:List α) (i:Int):Option α:=(ixN xs.length i).bind fun j=>xs[j]?
theorem ixN_seq {n:Nat}{i:Int}{j:Nat}(h:ixN n i=some j):seqIndex? i n=some j∧j<n∧-(n:Int)≤i∧i<n:=by
 unfold ixN at h
 by_cases h0:0≤i
 ·rw[if_pos h0]at h
  by_cases h1:i<n
  ·rw[if_pos h1]at h
   have e:i.toNat=j:=Option.some.inj h
   exact⟨by rw[seqIndex_of h0 h1,e],by omega,by omega,h1⟩
  ·rw[if_neg h1]at h;cases h
 ·rw[if_neg h0]at h
  by_cases h1:-(n:Int)≤i
  ·rw[if_pos h1]at h
   have e:(i+n).toNat=j:=Option.some.inj h
   exact⟨by rw[seqIndex_neg (by omega) h1,e],by omega,h1,by omega⟩
  ·rw[if_neg h1]at h;cases h
theorem atI_get {α:Type}{xs:List α}{i:Int}{v:α}(h:atI xs i=some v):∃j,seqIndex? i xs.length=some j∧xs[j]? = some v∧j<xs.length∧-(xs.length:Int)≤i∧i<xs.length:=by
 unfold atI at h
 cases e:ixN xs.length i with
 | none=>rw[e]at h;cases h
 | some j =>
  rw[e]at h
  obtain⟨h1,h2,h3,h4⟩:=ixN_seq e
  exact⟨j,h1,h,h2,h3,h4⟩
theorem atI_nat {α:Type}{xs:List α}{j:Nat}{v:α}(h:xs[j]? = some v):atI xs (j:Int)=some v:=by
 have hj:j<xs.length:=(List.getElem?_eq_some_iff.mp h).1
 have e:ixN xs.length (j:Int)=some j:=by
  unfold ixN
  rw[if_pos (by omega),if_pos (by omega)];simp
 unfold atI;rw[e];exact h
def PlainIx (b:Expr):Prop:=∀o i,subscripted b false o i=operate [o,i] (getItem o i)
def IxR (X:Cx) (r:R2):Prop :=
 ∀(value slice:Expr) (pins:List (Addr×Obj)) (s:Shared) (σ:St) (H:Hp) (x y:V) (v u:Value) (Q:VK),Inv X pins σ H s→RelV x v→RelV y u→r x y H Q →
  subscripted slice false v u=operate [v,u] (getItem v u)→wpAny (model X.prog X.w) X.A (subscriptTail value slice v u) (EP X pins σ Q) X.xe s
def MtR (X:Cx) (id:String) (r:V→List V→Hp→VK→Prop):Prop :=
 ∀(pins:List (Addr×Obj)) (s:Shared) (σ:St) (H:Hp) (x:V) (xs:List V) (v:Value) (us:List Value) (Q:VK),Inv X pins σ H s→RelV x v→Vals xs us→r x xs H Q →
  wpAny (model X.prog X.w) X.A (call (.builtin id) (v::us)) (EP X pins σ Q) X.xe s
section
variable {X:Cx}{a b:Expr}{ta tb:TE}{pos:Pos}
theorem pe_ix {r:R2}(hr:IxR X r) (ha:PE X a ta) (hb:PE X b tb) (hs:PlainIx b):PE X (.Subscript a b pos) (tOp r ta tb):=by
 intro pins s σ H Q I h
 exact Subscript_ (binT ha hb I h fun v u s2 x y H2 I2 rx ry q=>hr a b pins s2 σ H2 x y v u Q I2 rx ry q (hs _ _))
def rIxL (K:PySem.W.Frag):R2:=fun x y H Q=>∃p xs i v,x = .ref p∧y = .int i∧SqL K H p xs∧atI xs i=some v∧Q v H
def rIxT (K:PySem.W.Frag):R2:=fun x y H Q=>∃p xs i v,x = .ref p∧y = .int i∧SqT K H p xs∧atI xs i=some v∧Q v H
def rIxS:R2:=fun x y H Q=>∃z i c,x = .str z∧y = .int i∧z.length≤sizeLine∧atI z.cps.toList i=some c∧Q (.str ⟨#[c]⟩) H
theorem ix_list:IxR X (rIxL X.K):=by
 intro value slice pins s σ H x y v u Q I rx ry h hs
 obtain⟨p,xs,i,z,rfl,rfl,hq,he,q⟩:=h
 cases rx
 obtain⟨t,rfl⟩:=ry
 obtain⟨its,r,pl,hz⟩:=I.list hq
 obtain⟨j,h1,h2,h3,h4,h5⟩:=atI_get he
 obtain⟨w,ew,rw'⟩:=r.get h2
 have hl:=r.length
 have hn:=line63
 have fin:EP X pins σ Q w s:=⟨z,H,I,rw',q⟩
 by_cases h0:0≤i
 ·have hj:i.toNat=j:=by
   rw[seqIndex_of h0 h5]at h1
   exact Option.some.inj h1
  exact item_listR pl.isList h0 (by omega) (by rw[hj];simpa using ew) fin hs
 ·have hj:(i+(its.toArray.size:Int)).toNat=j:=by
   rw[seqIndex_neg (by omega) h4]at h1
   rw[List.size_toArray,← hl]
   exact Option.some.inj h1
  exact subscriptTail_builtinR (x:=w) pl.isList.typeIs slot_list_getitem.lookup
   (wpAny_getItem_list_neg (Q:=fun r s'=>r=w∧EP X pins σ Q r s') pl.isList (by omega) (by rw[List.size_toArray] <;> omega) (by omega) (by rw[hj];simpa using ew) ⟨rfl,fin⟩) hs
theorem ix_tup:IxR X (rIxT X.K):=by
 intro value slice pins s σ H x y v u Q I rx ry h hs
 obtain⟨p,xs,i,z,rfl,rfl,hq,he,q⟩:=h
 cases rx
 obtain⟨t,rfl⟩:=ry
 obtain⟨its,r,pl,hz⟩:=I.tuple hq
 obtain⟨j,h1,h2,h3,h4,h5⟩:=atI_get he
 obtain⟨w,ew,rw'⟩:=r.get h2
 have hl:=r.length
 have hn:=line63
 have fin:EP X pins σ Q w s:=⟨z,H,I,rw',q⟩
 exact subscriptTail_builtinR (x:=w) pl.typeIs slot_tuple_getitem.lookup
  (getItem_tuple (j:=j) (Q:=fun r s'=>r=w∧EP X pins σ Q r s') pl (by omega) (by omega) (by rw[List.size_toArray,← hl];exact h1) (by simpa using ew) ⟨rfl,fin⟩) hs
theorem ix_str:IxR X rIxS:=by
 intro value slice pins s σ H x y v u Q I rx ry h hs
 obtain⟨z,i,c,rfl,rfl,hz,he,q⟩:=h
 obtain⟨t,rfl⟩:=rx
 obtain⟨t',rfl⟩:=ry
 obtain⟨j,h1,h2,h3,h4,h5⟩:=atI_get he
 have hl:z.cps.toList.length=z.length:=by simp[Str.length]
 rw[hl]at h1 h4 h5
 have hn:=line63
 exact tail_any (typeIs_str s z t) slot_str_getitem.lookup (getItem_str (c:=c) (by
  have e1:decide (i < -(2^63:Int))=false:=decide_eq_false (by omega)
  have e2:decide (i ≥ 2^63)=false:=decide_eq_false (by omega)
  rw[e1,e2,Bool.or_false]) (by rw[h1];simpa using h2) ⟨.str ⟨#[c]⟩,H,I.tok _,⟨_,rfl⟩,q⟩) hs
theorem mapSeq_set (its:List Value) (n j:Nat) (u:Value):Obj.mapSeq (·.setIfInBounds j u) { cls:=.type "list",data:=.seq its.toArray n } = { cls:=.type "list",data:=.seq (its.set j u).toArray n }:=by
 simp[Obj.mapSeq]
theorem Inv.lst {pins:List (Addr×Obj)}{σ:St}{H:Hp}{s:Shared}{p:Addr}{xs:List V}(I:Inv X pins σ H s) (h:H p=some (.lst xs)) :
  ∃(its:List Value) (n:Nat),Vals xs its∧s.heap.get? p=some { cls:=.type "list",data:=.seq its.toArray n }∧xs.length≤sizeLine:=by
 obtain⟨z,its,n,r,e⟩:=I.hok p _ h
 exact⟨its,n,r,e,z⟩
theorem Inv.lstUpd {pins:List (Addr×Obj)}{σ:St}{H:Hp}{s:Shared}{p:Addr}{xs ys:List V}{its its':List Value}{n n':Nat}{f:Obj→Obj}(I:Inv X pins σ H s) (h:H p=some (.lst xs))
  (ho:s.heap.get? p=some { cls:=.type "list",data:=.seq its.toArray n }) (hf:f { cls:=.type "list",data:=.seq its.toArray n } = { cls:=.type "list",data:=.seq its'.toArray n' }) (r:Vals ys its') (hz:ys.length≤sizeLine) (t:Nat) :
  Inv X pins σ (upd H p (.lst ys)) { s with heap:=s.heap.update p f,toks:=t }:=by
 have e:(s.heap.update p f).get? p=some { cls:=.type "list",data:=.seq its'.toArray n' }:=by
  rw[Heap.get?_update_self f ho (by rw[hf] <;> rfl),hf]
 refine I.write (x:=p) (e:=p) (by rw[h];trivial) (.inl rfl) (fun b u hb q=>(Heap.get?_update_other _ _ (Ne.symm hb)).trans q) ⟨_,e⟩ ?_
 exact⟨hz,its',n',r,e⟩
def rSetL:V→V→V→Hp→(Hp→Prop)→Prop:=fun o i v H Q=>∃p xs k j,o = .ref p∧i = .int k∧H p=some (.lst xs)∧ixN xs.length k=some j∧Q (upd H p (.lst (xs.set j v)))
theorem set_list:PSet X rSetL:=by
 intro pins s σ H o i v ov iv u Q I ro ri rv h
 obtain⟨p,xs,k,j,rfl,rfl,hp,hj,q⟩:=h
 cases ro
 obtain⟨t,rfl⟩:=ri
 obtain⟨its,n,r,ho,hz⟩:=I.lst hp
 obtain⟨h1,h2,h3,h4⟩:=ixN_seq hj
 have hl:=r.length
 have hn:=line63
 have I':Inv X pins σ (upd H p (.lst (xs.set j v))) { s with heap:=s.heap.update p (Obj.mapSeq (·.setIfInBounds j u)) } :=
  I.lstUpd hp ho (mapSeq_set its n j u) (r.set rv j) (by rw[List.length_set];exact hz) s.toks
 by_cases h0:0≤k
 ·have hk:k.toNat=j:=by
   rw[seqIndex_of h0 h4]at h1
   exact Option.some.inj h1
  exact PySem.W.ki_setAt ho h0 (by omega) (by rw[List.size_toArray,← hl];exact h4) (by rw[hk];exact⟨_,I',q⟩)
 ·have hk:(k+(its.toArray.size:Int)).toNat=j:=by
   rw[seqIndex_neg (by omega) h3]at h1
   rw[List.size_toArray,← hl]
   exact Option.some.inj h1
  exact PySem.W.ki_setBack ho (by omega) (by rw[List.size_toArray,← hl];exact h3) (by omega) (by rw[hk];exact⟨_,I',q⟩)
theorem slice_bounds (lo hi:Option Int) (n:Nat):(sliceBounds lo hi none n).1 =((HT.sIx n 0 lo:Nat):Int)∧(sliceBounds lo hi none n).2.1 =((HT.sIx n n hi:Nat):Int)∧(sliceBounds lo hi none n).2.2=1:=by
 refine⟨?_,?_,rfl⟩
 ·cases lo with
  | none=>simp[sliceBounds,HT.sIx]
  | some i =>
   simp only[sliceBounds,HT.sIx,Option.getD_none,show(1:Int) > 0 by decide,if_true]
   by_cases h:i<0
   ·simp only[h,if_true] <;> omega
   ·simp only[h,if_false] <;> omega
 ·cases hi with
  | none=>simp[sliceBounds,HT.sIx]
  | some i =>
   simp only[sliceBounds,HT.sIx,Option.getD_none,show(1:Int) > 0 by decide,if_true]
   by_cases h:i<0
   ·simp only[h,if_true] <;> omega
   ·simp only[h,if_false] <;> omega
theorem slicePick_cut (its:List Value) (lo hi:Option Int):slicePick its.toArray lo hi none =((its.drop (HT.sIx its.length 0 lo)).take (HT.sIx its.length its.length hi-HT.sIx its.length 0 lo)).toArray:=by
 obtain⟨h1,h2,h3⟩:=slice_bounds lo hi its.toArray.size
 unfold slicePick
 rw[h1,h2,h3]
 simp only[sliceRange_one,pick_run,List.size_toArray] <;> rfl
def rSlL (K:PySem.W.Frag):V→Option Int→Option Int→Hp→VK→Prop:=fun x lo hi H Q=>∃a xs,x = .ref a∧SqL K H a xs∧∀p,H p=none→Q (.ref p) (upd H p (.lst (cutV xs lo hi)))
theorem sl_list:SlR X (rSlL X.K):=by
 intro pins s σ H x v vl vu lo hi sl Q I rx hs pl pu h
 obtain⟨a,xs,rfl,hx,q⟩:=h
 cases rx
 obtain⟨its,r,ht,hz⟩:=I.list hx
 have hlen:=r.length
 refine⟨"list",_,slot_list_getitem.lookup,ht.isList.typeIs,?_⟩
 refine wpAny_getItem_list_slice ht.isList hs pl pu .none (by simp) ?_ (by rw[List.size_toArray] <;> omega)
 rw[slicePick_cut,← hlen]
 refine⟨.ref s.heap.objs.size,_,I.laid (t':=s.toks) (o:=.lst (cutV xs lo hi)) (fun b ob q=>Heap.get?_push_of_some _ q) (Nat.le_refl _) ?_,rfl,q _ (I.hok.fresh (Nat.le_refl _))⟩
 exact⟨Nat.le_trans (cutV_length xs lo hi) hz,_,0,(r.drop (HT.sIx xs.length 0 lo)).take (HT.sIx xs.length xs.length hi-HT.sIx xs.length 0 lo),Heap.get?_push_size _ rfl⟩
def flatV:V→Bool
 | .non=>true
 | .bl _=>true
 | .int _=>true
 | .str _=>true
 | _=>false
def eqV:V→V→Bool
 | .non,.non=>true
 | .bl a,.bl b=>a == b
 | .bl a,.int b=>(if a then 1 else 0) == b
 | .int a,.bl b=>a ==(if b then 1 else 0)
 | .int a,.int b=>a == b
 | .str a,.str b=>a == b
 | _,_=>false
theorem eqAt_V {A:Around}{s:Shared}{y x:V}{u v:Value}(ry:RelV y u) (rx:RelV x v) (fy:flatV y=true) (fx:flatV x=true):SeqAt.EqAt A s u v (eqV y x):=by
 cases y with
 | non =>
  cases ry
  cases x with
  | non=>cases rx;exact SeqAt.EqAt.same _
  | bl b=>cases rx;exact SeqAt.EqAt.none_bool b
  | int b=>obtain⟨t,rfl⟩:=rx;exact SeqAt.EqAt.none_int b t
  | str b=>obtain⟨t,rfl⟩:=rx;exact SeqAt.EqAt.none_str b t
  | _=>exact absurd (show false=true from fx) Bool.false_ne_true
 | bl a =>
  cases ry
  cases x with
  | non=>cases rx;exact SeqAt.EqAt.bool_none a
  | bl b=>cases rx;exact SeqAt.EqAt.bool_bool a b
  | int b=>obtain⟨t,rfl⟩:=rx;exact SeqAt.EqAt.bool_int a b t
  | str b=>obtain⟨t,rfl⟩:=rx;exact SeqAt.EqAt.bool_str a b t
  | _=>exact absurd (show false=true from fx) Bool.false_ne_true
 | int a =>
  obtain⟨t',rfl⟩:=ry
  cases x with
  | non=>cases rx;exact SeqAt.EqAt.int_none a t'
  | bl b=>cases rx;exact SeqAt.EqAt.int_bool a t' b
  | int b=>obtain⟨t,rfl⟩:=rx;exact SeqAt.EqAt.int_int a t' b t
  | str b=>obtain⟨t,rfl⟩:=rx;exact SeqAt.EqAt.int_str a t' b t
  | _=>exact absurd (show false=true from fx) Bool.false_ne_true
 | str a =>
  obtain⟨t',rfl⟩:=ry
  cases x with
  | non=>cases rx;exact SeqAt.EqAt.str_none a t'
  | bl b=>cases rx;exact SeqAt.EqAt.str_bool a t' b
  | int b=>obtain⟨t,rfl⟩:=rx;exact SeqAt.EqAt.str_int a t' b t
  | str b=>obtain⟨t,rfl⟩:=rx;exact SeqAt.EqAt.str_str a t' b t
  | _=>exact absurd (show false=true from fx) Bool.false_ne_true
 | _=>exact absurd (show false=true from fy) Bool.false_ne_true
def eqU (x:V) (u:Value):Bool:=match u with
 | .none=>eqV .non x
 | .bool b=>eqV (.bl b) x
 | .int i _=>eqV (.int i) x
 | .str z _=>eqV (.str z) x
 | _=>false
theorem eqU_of {x y:V}{u:Value}(r:RelV y u) (f:flatV y=true):eqU x u=eqV y x:=by
 cases y with
 | non=>cases r;rfl
 | bl b=>cases r;rfl
 | int i=>obtain⟨t,rfl⟩:=r;rfl
 | str z=>obtain⟨t,rfl⟩:=r;rfl
 | _=>exact absurd (show false=true from f) Bool.false_ne_true
theorem any_eqU {x:V}:∀{xs:List V}{us:List Value},Vals xs us→xs.all flatV=true→us.any (eqU x)=xs.any fun y=>eqV y x
 | _,_,.nil,_=>rfl
 | y::xs,u::us,.cons r t,f=>by
  rw[List.all_cons,Bool.and_eq_true]at f
  rw[List.any_cons,List.any_cons,eqU_of r f.1,any_eqU t f.2]
theorem mem_eqAt {A:Around}{s:Shared}{x:V}{v:Value}(rx:RelV x v) (fx:flatV x=true):∀{xs:List V}{us:List Value},Vals xs us→xs.all flatV=true→∀u∈us,SeqAt.EqAt A s u v (eqU x u)
 | _,_,.nil,_=>fun u hu=>by cases hu
 | y::xs,u::us,.cons r t,f=>fun u' hu=>by
  rw[List.all_cons,Bool.and_eq_true]at f
  rcases List.mem_cons.mp hu with rfl|hu
  ·rw[eqU_of r f.1];exact eqAt_V r rx f.1 fx
  ·exact mem_eqAt rx fx t f.2 u' hu
def inV (x:V) (xs:List V):Bool:=xs.any fun y=>eqV y x
def rIn (K:PySem.W.Frag) (neg:Bool):R2:=fun x y H Q=>∃p xs,y = .ref p∧(SqL K H p xs∨SqT K H p xs)∧flatV x=true∧xs.all flatV=true∧Q (.bl (if neg then !inV x xs else inV x xs)) H
theorem op_in_seq:OpR X (compareOp .In) (rIn X.K false):=by
 intro pins s σ H x y v u Q I rx ry h
 obtain⟨p,xs,rfl,hq,fx,fs,q⟩:=h
 cases ry
 rcases hq with hq|hq
 ·obtain⟨its,r,pl,hz⟩:=I.list hq
  refine SeqAt.in_listAt (eqU x) pl.isList (fun w hw=>mem_eqAt rx fx r fs w (by simpa using hw)) ⟨.bl _,H,I,rfl,?_⟩
  rw[show its.toArray.any (eqU x)=its.any (eqU x) by simp,any_eqU r fs]
  exact q
 ·obtain⟨its,r,pl,hz⟩:=I.tuple hq
  refine SeqAt.in_tupleAt (eqU x) pl (fun w hw=>mem_eqAt rx fx r fs w (by simpa using hw)) ⟨.bl _,H,I,rfl,?_⟩
  rw[show its.toArray.any (eqU x)=its.any (eqU x) by simp,any_eqU r fs]
  exact q
theorem call_len_seq:CallR X (.builtin "len") (fun xs H Q=>∃p ys,xs=[.ref p]∧(SqL X.K H p ys∨SqT X.K H p ys)∧Q (.int ys.length) H):=by
 intro pins s σ H xs us Q I r h
 obtain⟨p,ys,rfl,hq,q⟩:=h
 obtain⟨u,rfl,rx⟩:=vals1 r
 cases rx
 have hn:=line63
 rcases hq with hq|hq
 ·obtain⟨its,r',pl,hz⟩:=I.list hq
  have hlen:=r'.length
  exact Calls.call_len_list pl.isList (by simp only[List.size_toArray] <;> omega) ⟨.int ys.length,H,I.tok _,⟨s.toks+1,by rw[List.size_toArray,hlen]⟩,q⟩
 ·obtain⟨its,r',pl,hz⟩:=I.tuple hq
  have hlen:=r'.length
  exact len_tuple pl (by simp only[List.size_toArray] <;> omega) ⟨.int ys.length,H,I.tok _,⟨s.toks+1,by rw[List.size_toArray,hlen]⟩,q⟩
theorem call_len_str:CallR X (.builtin "len") (fun xs H Q=>∃z,xs=[.str z]∧z.length≤sizeLine∧Q (.int z.length) H):=by
 intro pins s σ H xs us Q I r h
 obtain⟨z,rfl,hz,q⟩:=h
 obtain⟨u,rfl,t,rfl⟩:=vals1 r
 have hn:=line63
 exact len_str (by omega) ⟨.int z.length,H,I.tok _,⟨_,rfl⟩,q⟩
def tyV (K:PySem.W.Frag) (T:String) (x:V) (H:Hp):Prop:=match x with
 | .str _=>T = "str"
 | .int _=>T = "int"
 | .ref p=>(T = "list"∧∃xs,SqL K H p xs) ∨(T = "tuple"∧∃o,K.lookup p=some o∧o.cls = .type "tuple"∧o.dict=none) ∨
   (T = "dict"∧((∃kvs,H p=some (.dK kvs)) ∨ ∃kvs,H p=some (.dT kvs))) ∨(T = "set"∧∃S n,H p=some (.set S n))
 | _=>False
theorem tyV_is {pins:List (Addr×Obj)}{σ:St}{H:Hp}{s:Shared}{T:String}{x:V}{v:Value}(I:Inv X pins σ H s) (r:RelV x v) (ty:tyV X.K T x H) :
  s.TypeIs v T∧∀a,v = .ref a→∃ob,s.heap.get? a=some ob∧ob.dict=none:=by
 cases x with
 | str z =>
  obtain⟨t,rfl⟩:=r
  cases (show T = "str" from ty)
  exact⟨typeIs_str s z t,fun _ e=>nomatch e⟩
 | int i =>
  obtain⟨t,rfl⟩:=r
  cases (show T = "int" from ty)
  exact⟨typeIs_int s i t,fun _ e=>nomatch e⟩
 | ref p =>
  cases r
  rcases ty with⟨rfl,xs,hq⟩|⟨rfl,o,hk,hc,hd⟩|⟨rfl,hk⟩|⟨rfl,S,n,hk⟩
  ·obtain⟨its,_,pl,_⟩:=I.list hq
   refine⟨pl.isList.typeIs,fun a e=>?_⟩
   cases e
   obtain⟨o,n,e,c,hd,_⟩:=pl
   exact⟨o,e,hd⟩
  ·refine⟨⟨o,I.kIn p o hk,hc⟩,fun a e=>?_⟩
   cases e
   exact⟨o,I.kIn _ o hk,hd⟩
  ·have z:∃o,s.heap.get? p=some o∧o.ExactDict:=by
    rcases hk with⟨kvs,hk⟩|⟨kvs,hk⟩
    ·obtain⟨_,_,_,_,o,_,_,e,ex,_⟩:=I.hok p _ hk
     exact⟨o,e,ex⟩
    ·obtain⟨_,_,_,_,o,_,_,e,ex,_⟩:=I.hok p _ hk
     exact⟨o,e,ex⟩
   obtain⟨o,e,ex⟩:=z
   refine⟨⟨o,e,ex.1⟩,fun a e2=>?_⟩
   cases e2
   exact⟨o,e,ex.2.1⟩
  ·obtain⟨o,_,_,_,e,ex,_⟩:=I.hok p _ hk
   refine⟨⟨o,e,ex.1⟩,fun a e2=>?_⟩
   cases e2
   exact⟨o,e,ex.2.1⟩
 | _=>exact False.elim ty
def tBM0 (K:PySem.W.Frag) (T:String) (r:V→List V→Hp→VK→Prop) (to:TE):TE:=fun σ H Q=>to σ H fun x H1=>tyV K T x H1∧r x [] H1 Q
def tBM (K:PySem.W.Frag) (T:String) (r:V→List V→Hp→VK→Prop) (to:TE) (t:TA):TE:=fun σ H Q=>to σ H fun x H1=>tyV K T x H1∧t σ H1 fun xs H2=>r x xs H2 Q
variable {o e:Expr}{es:List Expr}{to:TE}{t:TA}{name:Str}{apos cpos:Pos}{T id:String}{r:V→List V→Hp→VK→Prop}
theorem pe_bm0 (pa:PlainAttrs T) (slot:Slot T name id) (hty:typeOf (.builtin id)=pure (.type "method_descriptor")) (hm:MtR X id r) (ho:PE X o to)
  (hbase:attributeBase o name X.env (eval o X.env)=eval o X.env:=by rfl) (hline:(apos.endLine == cpos.line)=true:=by rfl):PE X (.Call (.Attribute o name apos) [] [] cpos) (tBM0 X.K T r to):=by
 intro pins s σ H Q I h
 refine wpAny_Call_method0_late hbase hline (thn (ho pins s σ H _ I h) fun v s1 ⟨x,H1,I1,r1,ty,q1⟩=>?_)
 obtain⟨h1,h2⟩:=tyV_is I1 r1 ty
 exact⟨T,id,pa,slot,hty,h1,h2,Calls.callWith_builtin rfl (PySem.evalArgs_none (hm pins s1 σ H1 x [] v [] Q I1 r1 .nil q1))⟩
theorem pe_bm (pa:PlainAttrs T) (slot:Slot T name id) (hty:typeOf (.builtin id)=pure (.type "method_descriptor")) (hm:MtR X id r) (ho:PE X o to) (ha:PA X (e::es) t)
  (hbase:attributeBase o name X.env (eval o X.env)=eval o X.env:=by rfl)
  (hfew:((backTo cpos (starEach (e::es) X.env)).all (fun x=>!x.1) && (backToKw cpos (keywordEach [] X.env)).all (fun x=>x.1.isSome)
   && decide ((e::es).length+([]:List Keyword).length+(if ([]:List Keyword).isEmpty then 0 else 1)<30))=true:=by rfl)
  (hline:(apos.endLine == cpos.line)=true:=by rfl) (hs:starEach (e::es) X.env =(false,eval e X.env)::starEach es X.env:=by rfl) (hplain:(backTo cpos (starEach es X.env)).any (·.1)=false:=by rfl) :
  PE X (.Call (.Attribute o name apos) (e::es) [] cpos) (tBM X.K T r to t):=by
 intro pins s σ H Q I h
 refine wpAny_Call_method_late hbase hfew hline rfl (thn (ho pins s σ H _ I h) fun v s1 ⟨x,H1,I1,r1,ty,q1⟩=>?_)
 obtain⟨h1,h2⟩:=tyV_is I1 r1 ty
 refine⟨T,id,pa,slot,hty,h1,h2,?_⟩
 have hA:=ha cpos pins s1 σ H1 _ I1 q1
 rw[hs]at hA ⊢
 refine Calls.callWith_builtin (by show(false || (backTo cpos (starEach es X.env)).any (·.1))=false;rw[hplain] <;> rfl) (Calls.evalArgs_plain ?_)
 exact thn hA fun us s2 ⟨vs,H2,I2,r2,q2⟩=>hm pins s2 σ H2 x vs v us Q I2 r1 r2 q2
end
end L2
namespace L2
open PySem PySem.Spec PyProof.Rows
def MtM (X:Cx) (id:String) (r:V→List V→Hp→VK→Prop):Prop :=
 ∀(pins:List (Addr×Obj)) (s:Shared) (σ:St) (H:Hp) (x:V) (xs:List V) (v:Value) (us:List Value) (Q:VK),Inv X pins σ H s→RelV x v→Vals xs us→r x xs H Q →
  wpAny (model X.prog X.w) X.A (call (.builtin id) (v::us)) (EP X pins σ Q) X.xe s
theorem Vals.one:∀{x:V}{us:List Value},Vals [x] us→∃u,us=[u]∧RelV x u
 | _,_,.cons r .nil=>⟨_,rfl,r⟩
theorem Vals.dropLast {xs:List V}{us:List Value}(h:Vals xs us):Vals xs.dropLast us.dropLast:=by
 induction h with
 | nil=>exact .nil
 | cons r t ih =>
  cases t with
  | nil=>exact .nil
  | cons q t'=>exact .cons r ih
theorem erase_last {α:Type}(l:List α):l.eraseIdx (l.length-1)=l.dropLast:=by
 induction l with
 | nil=>rfl
 | cons a r ih =>
  cases r with
  | nil=>rfl
  | cons b r =>
   have e:(a::b::r).length-1 =((b::r).length-1)+1:=by
    have h1:(a::b::r).length=r.length+2:=rfl
    have h2:(b::r).length=r.length+1:=rfl
    omega
   rw[e,List.eraseIdx_cons_succ,ih]
   all_goals rfl
section
variable {X:Cx}{pins:List (Addr×Obj)}{σ:St}{H:Hp}{s:Shared}{l b:Addr}{xs ys zs:List V}
theorem Inv.lset {its its':List Value}{n:Nat}{f:Array Value→Array Value}{t':Nat}(I:Inv X pins σ H s) (hH:H l=some (.lst xs))
  (e:s.heap.get? l=some { cls:=.type "list",data:=.seq its.toArray n }) (hf:f its.toArray=its'.toArray) (hv:Vals ys its') (hz:ys.length≤sizeLine) :
  Inv X pins σ (upd H l (.lst ys)) { s with heap:=s.heap.update l (Obj.mapSeq f),toks:=t' }:=by
 have q:=PySem.IsL.update e f
 rw[hf]at q
 refine I.write (x:=l) (e:=l) (by rw[hH];exact trivial) (.inl rfl) (fun b' u hb hu=>(Heap.get?_update_other s.heap (Obj.mapSeq f) (Ne.symm hb)).trans hu) ⟨_,q⟩ ?_
 exact⟨hz,its',_,hv,q⟩
theorem Inv.lnew {its:List Value}{t':Nat}(I:Inv X pins σ H s) (hv:Vals ys its) (hz:ys.length≤sizeLine) :
  Inv X pins σ (upd H s.heap.objs.size (.lst ys)) { s with heap:=s.heap.push { cls:=.type "list",data:=.seq its.toArray },toks:=t' } :=
 I.laid (fun _ _ q=>Heap.get?_push_of_some _ q) (Nat.le_refl _) ⟨hz,its,0,hv,Heap.get?_push_size _ rfl⟩
theorem Inv.fresh (I:Inv X pins σ H s):H s.heap.objs.size=none:=I.hok.fresh (Nat.le_refl _)
theorem Inv.lstM (I:Inv X pins σ H s) (hH:H l=some (.lst xs)):xs.length≤sizeLine∧∃(its:List Value) (n:Nat),Vals xs its∧xs.length=its.length∧s.heap.get? l=some { cls:=.type "list",data:=.seq its.toArray n }:=by
 obtain⟨z,its,n,r,e⟩:=I.hok l _ hH
 exact⟨z,its,n,r,r.length,e⟩
theorem notLongL {n:Nat}(h:n≤sizeLine):Builtin.List.listTooLong n=false:=by
 unfold Builtin.List.listTooLong
 exact decide_eq_false (by omega)
end
section
variable {X:Cx}
def rAppend:V→List V→Hp→VK→Prop:=fun x vs H Q=>∃l xs y,x = .ref l∧vs=[y]∧H l=some (.lst xs)∧xs.length<sizeLine∧Q .non (upd H l (.lst (xs ++ [y])))
theorem mt_append:MtM X "list.append" rAppend:=by
 intro pins s σ H x vs v us Q I rx rv h
 obtain⟨l,xs,y,rfl,rfl,hH,hz,q⟩:=h
 cases rx
 obtain⟨u,rfl,ru⟩:=rv.one
 obtain⟨z,its,n,r,hl,e⟩:=I.lstM hH
 refine call_meets F.slot_list_append ⟨_,e,rfl⟩ F.entry_list_append (F.args_list_append_2 _ _) (PySem.list_append l its.toArray n u (by rw[List.size_toArray];omega)) ⟨e,?_⟩
 refine⟨.non,_,I.lset (its':=its ++ [u]) hH e (by simp) (r.append (.cons ru .nil)) ?_,rfl,q⟩
 rw[List.length_append,List.length_singleton]
 omega
def rExtend:V→List V→Hp→VK→Prop:=fun x vs H Q=>∃l b xs zs,x = .ref l∧vs=[.ref b]∧H l=some (.lst xs)∧H b=some (.lst zs)∧xs.length+zs.length≤sizeLine∧Q .non (upd H l (.lst (xs++zs)))
theorem mt_extend:MtM X "list.extend" rExtend:=by
 intro pins s σ H x vs v us Q I rx rv h
 obtain⟨l,b,xs,zs,rfl,rfl,hH,hB,hz,q⟩:=h
 cases rx
 obtain⟨u,rfl,ru⟩:=rv.one
 cases ru
 obtain⟨z,its,n,r,hl,e⟩:=I.lstM hH
 obtain⟨z2,its2,n2,r2,hl2,e2⟩:=I.lstM hB
 have hsz:its.toArray.size+its2.toArray.size≤sizeLine:=by rw[List.size_toArray,List.size_toArray];omega
 have hlong:¬(!its.toArray.isEmpty && Builtin.List.listTooLong (its.toArray.size+its2.toArray.size))=true:=by
  rw[notLongL hsz,Bool.and_false]
  exact Bool.false_ne_true
 refine call_meets F.slot_list_extend ⟨_,e,rfl⟩ F.entry_list_extend (F.args_list_extend_2 _ _)
  (AutoSeq1.list_extend_list_list_0 l its.toArray n b its2.toArray n2 hlong (by rw[List.size_toArray];omega) (by omega)) ⟨e,e2,?_⟩
 refine⟨.non,_,I.lset (its':=its++its2) hH e (by simp) (r.append r2) ?_,rfl,q⟩
 rw[List.length_append]
 omega
def rCat:R2:=fun x y H Q=>∃l b xs zs,x = .ref l∧y = .ref b∧H l=some (.lst xs)∧H b=some (.lst zs)∧xs.length+zs.length≤sizeLine∧∀p,H p=none→Q (.ref p) (upd H p (.lst (xs++zs)))
theorem op_cat:OpR X (binaryOp .Add) rCat:=by
 intro pins s σ H x y v u Q I rx ry h
 obtain⟨l,b,xs,zs,rfl,rfl,hH,hB,hz,q⟩:=h
 cases rx
 cases ry
 obtain⟨z,its,n,r,hl,e⟩:=I.lstM hH
 obtain⟨z2,its2,n2,r2,hl2,e2⟩:=I.lstM hB
 refine PySem.P.add_list e e2 ?_ (by rw[List.size_toArray,List.size_toArray];omega)
 have ea:its.toArray++its2.toArray =(its++its2).toArray:=by simp
 rw[ea]
 exact⟨.ref _,_,I.lnew (t':=s.toks) (r.append r2) (by rw[List.length_append];omega),rfl,q _ I.fresh⟩
end
section
variable {prog:Program}{w:World}{A:Around}{E:Value→Shared→Prop}{s:Shared}
end
section
variable {X:Cx}
end
end L2
namespace Att
open PySem PySem.W PySem.Calls PyProof.Rows
theorem ints_of_wellAll {P:Params}{h:Heap}:∀(ns:List Int) (vs:List Value),WellAll P h vs (ns.map WData.int)→IntsAre vs ns:=by
 intro ns
 induction ns with
 | nil =>
  intro vs w
  rw[List.map_nil]at w
  cases w
  exact .nil
 | cons n ns ih =>
  intro vs w
  rw[List.map_cons]at w
  cases w with
  | cons a b =>
   cases a
   exact .cons _ _ (ih _ b)
theorem script_of {l:OpenLaw}{n:Nat}(hn:l.most=some n) {P:Params}{h:Heap}{args:List WData}{vals:List Value}
  (hpre:l.row.toRowW.claim.pre args=true) (hwl:WellAll P h vals args) :
  ∃a vs ns,vals=[Value.ref a]∧args=[WData.list (ns.map WData.int)]∧h.get? a=some { cls:=.type "list",data:=.seq vs.toArray }∧IntsAre vs ns∧ns.length≤n:=by
 have hsh:WShape.hasAll [] args [.list .int]=true:=(pre_splitW hpre).1
 have hc:l.pre.holds [] { args:=args } = true:=(pre_splitW hpre).2
 obtain⟨d,r,rfl,h1,h2⟩:=hasAllW_cons hsh
 obtain rfl:=hasAllW_nil h2
 obtain⟨xs,rfl,h3⟩:=hasW_list h1
 obtain⟨ns,rfl⟩:=items_int h3
 have hlen:ns.length≤n:=by
  unfold OpenLaw.pre at hc
  have h4:(WTm.not (.lt (.lit (.int (n:Int))) (.len (.arg 0)))).holds [] { args:=[.list (ns.map .int)] } = true:=by
   have h4:=(holds_andW hc).1
   rw[hn]at h4
   exact h4
  have h5:=condW_of h4 (w_not (w_lt w_lit (w_len_list (w_arg rfl))))
  rw[List.length_map]at h5
  refine Nat.le_of_not_lt fun q=>?_
  have q':(n:Int) <((ns.length:Nat):Int):=by omega
  first
   | (rw[decide_eq_true q']at h5;exact absurd h5 (by decide))
   | (simp at h5;omega)
 cases hwl with
 | cons w1 w2 =>
  cases w2
  cases w1 with
  | list ho hall=>exact⟨_,_,ns,rfl,rfl,ho,ints_of_wellAll ns _ hall,hlen⟩
theorem post_true (l:OpenLaw) (args:List WData):l.row.toRowW.claim.post args (.bool true) args=true :=
 postW_of (r:=l.row.toRowW) (X:=(true == true))
  (show WShape.has [] (.bool true) .bool=true by first|rfl|decide|simp[WShape.has,WShape.arms,WShape.armsAll])
  (show(WTm.eq .res (.lit (.bool true))).value [] { args:=args,res:=some (.bool true),after:=args } = some (.bool (true == true)) from w_eq_bool (w_res rfl) w_lit) rfl
theorem attach_call {l:OpenLaw}{n:Nat}{q:Program}{loose:List Str}{XP:(Str→Option Value)→Heap→Prop}{YP:World→Heap→Prop}{d:DefRec}
  (hn:l.most=some n) (hdf:d.params.defaults=[])
  (call:∀(w:World) (s₀ s₁:Shared) (mg mb:Str→Option Value) (fa:Addr) (o:Obj) (pm cd doc:Value) (a:Addr) (vs:List Value) (ns:List Int),
   Ground q loose [] XP w s₀ mg mb s₁.heap→YP w s₁.heap →
   s₁.heap.get? fa=some o→o.data = .func (docDef d.name d.params d.body d.scope pm cd doc)→s₁.heap.CodeRec cd d.name→mg d.name=some (.ref fa) →
   s₁.heap.get? a=some { cls:=.type "list",data:=.seq vs.toArray }→IntsAre vs ns→ns.length≤n→s₁.gens = #[] →
   codeAny (model l.prog w) callerA (.call (.ref fa) ⟨[.ref a],[]⟩) (fun r s'=>r = .ok (.ret (.bool true))∧OldK s₁.heap s'.heap∧s'.os=s₁.os∧AllBare s'.gens) s₁) :
  WalkO q loose XP YP l.row.toRowW d [] (fun f vs=>PySem.call f vs):=by
 intro w s₀ s₁ mg mb G Y fa o pm cd doc dV kV ho hd hcd hD hmg hg args vals as hpre hlay hrd hwl hlo
 obtain rfl:dV = .none:=Dflts.none hD hdf
 obtain rfl:kV = .none:=Dflts.noKw hD
 obtain⟨a,vs,ns,rfl,rfl,hobj,hints,hlen⟩:=script_of hn hpre hwl
 refine enter_call (codeAny_mono (call w s₀ s₁ mg mb fa o pm cd doc a vs ns G Y ho (fd_plain hd) hcd hmg hobj hints hlen hg) fun r s' hq=>?_)
 obtain⟨rfl,h2,h3,h4⟩:=hq
 exact⟨.inl ⟨.bool true,.bool true,[],rfl,fun _=>rfl,.bool true,post_true l _,fun _=>⟨List.Pairwise.nil,fun _ hm=>(nomatch hm)⟩⟩,h2,h3,h4⟩
section
variable {prog:Program}{w:World}{A:Around}{E:Value→Shared→Prop}{s:Shared}{K:Frag}
end
end Att
namespace L2
open PySem PySem.Spec PyProof.Rows
theorem vals_ints:∀{vs:List Value}{ns:List Int},IntsAre vs ns→Vals (ns.map V.int) vs
 | _,_,.nil=>.nil
 | _,_,.cons n t h=>.cons ⟨t,rfl⟩ (vals_ints h)
end L2
namespace L2
open PySem PySem.Spec PyProof.Rows
end L2
namespace L2
open PySem PySem.Spec PyProof.Rows
def inClass (s:Stmt) (j:Nat):Stmt:=match s with
 | .ClassDef _ _ _ body _ _ _ _ _ _ _=>body.getD j (.Pass ⟨0,0,0,0⟩)
 | _=>.Pass ⟨0,0,0,0⟩
def defArgs (s:Stmt):Arguments:=match s with
 | .FunctionDef _ a _ _ _ _ _ _ _ _=>a
 | _=>{ posonlyargs:=[],args:=[],vararg:=none,kwonlyargs:=[],kw_defaults:=[],kwarg:=none,defaults:=[] }
def defBody (s:Stmt):List Stmt:=match s with
 | .FunctionDef _ _ b _ _ _ _ _ _ _=>b
 | _=>[]
def defScope (s:Stmt):Scope:=match s with
 | .FunctionDef _ _ _ _ _ _ sc _ _ _=>sc
 | _=>{ kind:=.function,names:=[],isGenerator:=false,isCoroutine:=false }
abbrev CX0:CXT:=fun _ _ _ _ _ _=>False
abbrev E0:XK:=fun _ _ _=>False
theorem pass0 {X:Cx}:Passes CX0 X E0:=fun _ _ _ _ _ _ _ h=>h.elim
structure Fun (K:PySem.W.Frag) (x qual:Str) (st:Stmt) (f:Addr) (fd:FuncData):Prop where
 ex:∃(oc:Value) (od:Option Addr) (kV doc pm:Value) (an:Option Addr) (cdv ct:Value) (osl:Array (Option Value)),
  fd=PySem.W.fnOf x qual (defArgs st) (defBody st) (defScope st) .none kV doc pm an cdv ct∧K.lookup f=some ⟨oc,od,.func fd,osl⟩∧PySem.W.codeIn K cdv qual=true
 kp:PySem.W.keepIn K (.ref f)=true
section
variable {P:Program}{w:World}{K:PySem.W.Frag}{mg:Str→Option Value}{base:Heap}
theorem Fun.ok {x qual:Str}{st:Stmt}{f:Addr}{fd:FuncData}{N ps:List Str}{k:Nat}{sp:Sp}(F:Fun K x qual st f fd) (S:FnScope N ps (defScope st)) (len:∀vs H Q E,sp vs H Q E→vs.length=ps.length)
  (hbody:∀(cdv:Value) (A:Around) (outer:List Env) (s:Shared) (H:Hp) (vs:List V) (Q:VK) (E:XK),Room k (A.deeper (envOfC qual (defScope st) s.heap.objs.size f cdv))→sp vs H Q E →
   ∃t,PSs (cxOf CX0 P w K mg base N qual (defScope st) f cdv A outer s H E).nox (defBody st) t∧t { nx:=fun _ H'=>Q .non H',rt:=Q } (start N vs) H):FnOk P w K mg base CX0 (k+1) f fd ps sp:=by
 obtain⟨oc,od,kV,doc,pm,an,cdv,ct,osl,rfl,lk,hcd⟩:=F.ex
 refine fn_of lk hcd S len fun A outer s H vs Q E hr hsp=>?_
 obtain⟨t,h,q⟩:=hbody cdv A outer s H vs Q E hr hsp
 exact⟨t,h.nox,q⟩
theorem Fun.binds {x qual:Str}{st:Stmt}{f:Addr}{fd:FuncData}{ps:List Str}(F:Fun K x qual st f fd)
  (h:∀(kV doc pm:Value) (an:Option Addr) (cdv ct:Value) (us:List Value),us.length=ps.length→bindArgs (PySem.W.fnOf x qual (defArgs st) (defBody st) (defScope st) .none kV doc pm an cdv ct) ⟨us,[]⟩=pure (ps.zip us)):Binds K fd ps []:=by
 obtain⟨oc,od,kV,doc,pm,an,cdv,ct,osl,rfl,lk,hcd⟩:=F.ex
 exact .all (h kV doc pm an cdv ct)
theorem fun_mk {x qual:Str}{st:Stmt}{f:Addr}{oc:Value}{od an:Option Addr}{osl:Array (Option Value)}{kV doc pm cdv ct:Value}(l:K.lookup f=some ⟨oc,od,.func (PySem.W.fnOf x qual (defArgs st) (defBody st) (defScope st) .none kV doc pm an cdv ct),osl⟩)
  (c:PySem.W.codeIn K cdv qual=true) (k:PySem.W.keepIn K (.ref f)=true):Fun K x qual st f (PySem.W.fnOf x qual (defArgs st) (defBody st) (defScope st) .none kV doc pm an cdv ct):=⟨⟨oc,od,kV,doc,pm,an,cdv,ct,osl,rfl,l,c⟩,k⟩
end
theorem hu_of {A:Around}{k:Nat}(hr:Room k A):A.units+1<cLine:=Nat.lt_of_le_of_lt (Nat.add_le_add_left (by decide:1≤64) _) hr.units
theorem small1000 {n:Nat}(h:n≤1000):n<sizeLine:=Nat.lt_of_le_of_lt h (by decide)
section
variable {X:Cx}
theorem pv (i:Nat) {x:Str}{pos:Pos}(hN:X.N[i]? = some x:=by rfl) (hv:Vis X.env.scope x:=by first|exact Or.inl rfl|exact Or.inr (Or.inl rfl)|exact Or.inr (Or.inr rfl)) (hd:(x ==("__debug__" : Str))=false:=by decide)
  (hcd:(x ==("__classdict__" : Str))=false:=by decide):PE X (.Name x pos) (tVar i):=pe_var hN hv hd hcd
end
theorem iteF {A B:Prop}(h:B):if false=true then A else B:=by
 rw[if_neg Bool.false_ne_true]
 exact h
theorem iteT {A B:Prop}(h:A):if true=true then A else B:=by
 rw[if_pos rfl]
 exact h
def Same (H H':Hp):Prop:=∀b o,H b=some o→H' b=some o
theorem Same.trans {H H1 H2:Hp}(a:Same H H1) (b:Same H1 H2):Same H H2:=fun c o h=>b c o (a c o h)
theorem Same.free {H H':Hp}(e:Same H H') {l:Addr}(h:H' l=Option.none):H l=Option.none:=by
 cases q:H l with
 | none=>rfl
 | some o =>
  rw[e l o q]at h
  cases h
theorem Same.seq {K:PySem.W.Frag}{H H':Hp}{a:Addr}{xs:List V}(e:Same H H') (h:SqL K H a xs):SqL K H' a xs:=by
 rcases h with(h|⟨o,h⟩)|h
 ·exact .inl (.inl (e _ _ h))
 ·exact .inl (.inr ⟨o,e _ _ h⟩)
 ·exact .inr h
end L2
namespace L2
open PySem PySem.Spec PyProof.Rows
def clOf (env:Env):List (Str×NameKind)→List (Str×Addr)→List (Str×Addr)
 | [],cs=>cs
 | (n,k)::r,cs=>clOf env r (if k == .free then(n,(env.cells.lookup n).getD 0)::cs else cs)
def clStep (env:Env) (x:Str×NameKind) (s:List (Str×Addr)):Sem (ForInStep (List (Str×Addr))):=if (x.2 == NameKind.free)=true then cellOf env x.1 >>= fun c=>pure (ForInStep.yield ((x.1,c)::s)) else pure (ForInStep.yield s)
theorem clStep_run {env:Env}:∀{ns:List (Str×NameKind)}(cs:List (Str×Addr)),(∀y∈ns,y.2 = .free→∃c,env.cells.lookup y.1=some c)→(forIn ns cs (clStep env):Sem (List (Str×Addr)))=pure (clOf env ns cs)
 | [],cs,_=>rfl
 | (n,k)::r,cs,h=>by
  rw[List.forIn_cons]
  have hr:∀y∈r,y.2 = .free→∃c,env.cells.lookup y.1=some c:=fun z hz=>h z (List.mem_cons_of_mem _ hz)
  cases hk:(k == NameKind.free) with
  | false =>
   have e1:clStep env (n,k) cs=pure (ForInStep.yield cs):=by
    unfold clStep
    exact if_neg (by rw[show(n,k).2=k from rfl,hk];decide)
   rw[e1,pure_bind]
   show forIn r cs (clStep env)=_
   rw[clStep_run cs hr]
   show pure (clOf env r cs)=pure (clOf env r (if (k == NameKind.free)=true then(n,(List.lookup n env.cells).getD 0)::cs else cs))
   rw[hk]
   rfl
  | true =>
   have hk':k = .free:=by simpa using hk
   obtain⟨c,hc⟩:=h (n,k) List.mem_cons_self hk'
   have hc':env.cells.lookup n=some c:=hc
   have q:cellOf env n=pure c:=by unfold cellOf;rw[hc']
   have e1:clStep env (n,k) cs=pure (ForInStep.yield ((n,c)::cs)):=by
    unfold clStep
    rw[if_pos (by rw[show(n,k).2=k from rfl,hk]),show(n,k).1=n from rfl,q,pure_bind]
   rw[e1,pure_bind]
   show forIn r ((n,c)::cs) (clStep env)=_
   rw[clStep_run _ hr]
   show pure (clOf env r ((n,c)::cs))=pure (clOf env r (if (k == NameKind.free)=true then(n,(List.lookup n env.cells).getD 0)::cs else cs))
   rw[hk,hc']
   rfl
theorem closure_eq {scope:Scope}{env:Env}(h:∀y∈scope.names,y.2 = .free→∃c,env.cells.lookup y.1=some c):closureFor scope env=pure (clOf env scope.names []):=by
 show(forIn scope.names ([]:List (Str×Addr)) (clStep env) >>= fun s=>(pure s:Sem (List (Str×Addr))))=_
 rw[clStep_run [] h,pure_bind]
theorem clOf_sound {env:Env}{n:Str}{c:Addr}:∀{ns:List (Str×NameKind)}{cs:List (Str×Addr)},(∀y∈ns,y.2 = .free→∃c,env.cells.lookup y.1=some c)→(∀p∈cs,env.cells.lookup p.1=some p.2)→(clOf env ns cs).lookup n=some c→env.cells.lookup n=some c
 | [],cs,_,hc,h=>hc _ (PySem.mem_of_lookup h)
 | (m,k)::r,cs,hn,hc,h=>by
  unfold clOf at h
  refine clOf_sound (fun y hy=>hn y (List.mem_cons_of_mem _ hy)) ?_ h
  intro p hp
  split at hp
  ·rename_i hk
   have hk':k = .free:=by simpa using hk
   obtain⟨c',hc'⟩:=hn (m,k) List.mem_cons_self hk'
   have hc2:env.cells.lookup m=some c':=hc'
   rw[hc2]at hp
   rcases List.mem_cons.mp hp with rfl|hp
   ·exact hc2
   ·exact hc p hp
  ·exact hc p hp
theorem lookup_mono_isSome {n:Str}:∀{cs:List (Str×Addr)},(∃c,(n,c)∈cs)→∃c,cs.lookup n=some c
 | [],⟨_,h⟩=>absurd h (by simp)
 | (m,d)::r,⟨c,h⟩=>by
  rw[List.lookup_cons]
  by_cases e:n=m
  ·subst e;exact⟨d,by simp⟩
  ·have:(n == m)=false:=beq_eq_false_iff_ne.mpr e
   rw[this]
   rcases List.mem_cons.mp h with z|z
   ·cases z;exact absurd rfl e
   ·exact lookup_mono_isSome ⟨c,z⟩
theorem clOf_keeps {env:Env}{p:Str×Addr}:∀{ns:List (Str×NameKind)}{cs:List (Str×Addr)},p∈cs→p∈clOf env ns cs
 | [],_,h=>h
 | (m,k)::r,cs,h=>by
  unfold clOf
  refine clOf_keeps ?_
  split
  ·exact List.mem_cons_of_mem _ h
  ·exact h
theorem clOf_has {env:Env}{n:Str}:∀{ns:List (Str×NameKind)}{cs:List (Str×Addr)},(n,NameKind.free)∈ns→∃c,(n,c)∈clOf env ns cs
 | [],_,h=>absurd h (by simp)
 | (m,k)::r,cs,h=>by
  unfold clOf
  rcases List.mem_cons.mp h with z|z
  ·cases z
   exact⟨(env.cells.lookup n).getD 0,clOf_keeps (by simp)⟩
  ·exact clOf_has z
def cxBlk (X:Cx) (scope:Scope) (N:List Str) (C:Addr) (s:Shared) (H:Hp) (ex:List Addr):Cx :=
 { X with N:=N,s₀:=s,H₀:=H,env:=compEnvC scope (clOf X.env scope.names []) C X.env,outer:=X.stack,ex:=ex,fn:=fun _=>false,pn:=[],xe:=fun _ _=>False }
structure BlkOk (X:Cx) (scope:Scope) (vs fs:List Str) (js:List Nat):Prop where
 kind:scope.kind = .function
 cell:∀y∈scope.names,y.2 ≠ .cell
 names:∀y∈scope.names,y.2 = .local→scope.names.lookup y.1=some .local
 free:∀y∈scope.names,y.2 = .free→X.env.kindOf y.1=some .cell∨X.env.kindOf y.1=some .free
 own:∀y∈vs,scope.names.lookup y=some .local
 cap:∀y∈fs,scope.names.lookup y=some .free
 ix:js.map (fun j=>X.N[j]?)=fs.map some
def blkSt (vs:List Str) (js:List Nat) (σ:St):St:=vs.map (fun _=>none)++js.map (fun j=>(σ[j]?).join)
theorem lookup_relabel_free {env:Env}{names:List (Str×NameKind)}{x:Str}(h:names.lookup x=some .free) :
  (names.map fun(n,k)=>if (k == NameKind.free && env.scope.kind == .function && env.kindOf n == some .cell) then(n,NameKind.cell) else(n,k)).lookup x=some .cell ∨
  (names.map fun(n,k)=>if (k == NameKind.free && env.scope.kind == .function && env.kindOf n == some .cell) then(n,NameKind.cell) else(n,k)).lookup x=some .free:=by
 induction names with
 | nil=>cases h
 | cons y r ih =>
  obtain⟨n,k⟩:=y
  rw[List.map_cons]
  show List.lookup x ((if (k == NameKind.free && env.scope.kind == .function && env.kindOf n == some .cell)=true then(n,NameKind.cell) else(n,k))::_)=_∨List.lookup x ((if (k == NameKind.free && env.scope.kind == .function && env.kindOf n == some .cell)=true then(n,NameKind.cell) else(n,k))::_)=_
  rw[List.lookup_cons]at h
  cases e:x == n with
  | true =>
   rw[e]at h
   have h':k = .free:=by simpa using h
   subst h'
   split
   ·left;rw[List.lookup_cons,e]
   ·right;rw[List.lookup_cons,e]
  | false =>
   rw[e]at h
   have h':=ih h
   split
   ·rw[List.lookup_cons,e];exact h'
   ·rw[List.lookup_cons,e];exact h'
theorem relabel_back {env:Env}{names:List (Str×NameKind)}{x:Str}{kk:NameKind}
  (h:(names.map fun(n,k)=>if (k == NameKind.free && env.scope.kind == .function && env.kindOf n == some .cell) then(n,NameKind.cell) else(n,k)).lookup x=some kk) :
  (kk = .cell∧(x,NameKind.free)∈names) ∨(x,kk)∈names:=by
 induction names with
 | nil=>cases h
 | cons y r ih =>
  obtain⟨n,k⟩:=y
  rw[List.map_cons]at h
  have h2:List.lookup x ((if (k == NameKind.free && env.scope.kind == .function && env.kindOf n == some .cell)=true then(n,NameKind.cell) else(n,k))::(r.map fun(n,k)=>if (k == NameKind.free && env.scope.kind == .function && env.kindOf n == some .cell) then(n,NameKind.cell) else(n,k)))=some kk:=h
  cases e:x == n with
  | true =>
   have e':x=n:=by simpa using e
   subst e'
   split at h2
   ·rename_i hc
    rw[List.lookup_cons,e]at h2
    have h3:kk = .cell:=by simpa using h2.symm
    have hk:k = .free:=by
     have:=(Bool.and_eq_true _ _ ▸ hc).1
     have:=(Bool.and_eq_true _ _ ▸ this).1
     simpa using this
    subst hk
    exact .inl ⟨h3,List.mem_cons_self⟩
   ·rw[List.lookup_cons,e]at h2
    have h3:kk=k:=by simpa using h2.symm
    subst h3
    exact .inr List.mem_cons_self
  | false =>
   have h3:(r.map fun(n,k)=>if (k == NameKind.free && env.scope.kind == .function && env.kindOf n == some .cell) then(n,NameKind.cell) else(n,k)).lookup x=some kk:=by
    split at h2
    ·rw[List.lookup_cons,e]at h2;exact h2
    ·rw[List.lookup_cons,e]at h2;exact h2
   rcases ih h3 with⟨a,b⟩|b
   ·exact .inl ⟨a,List.mem_cons_of_mem _ b⟩
   ·exact .inr (List.mem_cons_of_mem _ b)
section
variable {prog:Program}{w:World}{A:Around}{R:Result→Shared→Prop}{s:Shared}
theorem codeAny_compLoop_gen {elt target iter:Expr}{ifs:List Expr}{scope:Scope}{pos:Pos}{it acc:Value}{env:Env}(I:Nat→Shared→Prop)
  (turn:∀n s,I n s→wpAny (model prog w) A (pyNext it) (fun r s₁=>match r with
   | none=>R (.ok .next) s₁
   | some v=>wpAny (model prog w) A (letOwnedTupleGo target it v) (fun _ s₁'=>wpAny (model prog w) A (assign target env v) (fun _ s₂ =>
     wpAny (model prog w) A (forIn ifs true fun c r=>if r=true then do let ok ← isTrue c env (eval c env);pure (ForInStep.yield ok) else pure (ForInStep.yield r)) (fun ok s₃ =>
      if ok=true then wpAny (model prog w) A (eval elt env) (fun x s₄ =>
       wpAny (model prog w) A (call (.builtin "list.append") [acc,x]) (fun _ s₅=>∃m,m<n∧I m s₅) (fun _ _=>False) s₄) (fun _ _=>False) s₃
      else ∃m,m<n∧I m s₃) (fun _ _=>False) s₂) (fun _ _=>False) s₁') (fun _ _=>False) s₁) (fun _ _=>False) s)
  (n:Nat) (h:I n s) :
  codeAny (model prog w) A (.compLoop (.ListComp elt [⟨target,iter,ifs,0⟩] scope pos) 0 it acc env) R s:=by
 refine codeAny_loop rfl I (fun n s hI=>?_) n h
 show wpAny _ A ((compTurn (.ListComp elt [⟨target,iter,ifs,0⟩] scope pos) 0 it acc env).onRaise (fun x=>do noteFrame x env;theTreesLotGoes x)) _ _ s
 refine wpAny_noted ?_
 rw[compTurn_list]
 refine wpAny_bind (wpAny_standAt (wpAny_bind (wpAny_mono (turn n s hI) (fun r s₁ h₁=>?_) fun _ _ h'=>h'.elim)))
 cases r with
 | none=>exact wpAny_pure h₁
 | some v =>
  refine wpAny_bind (wpAny_mono h₁ (fun _ s₁' h₁'=>?_) fun _ _ h'=>h'.elim)
  refine wpAny_bind (wpAny_mono h₁' (fun _ s₂ h₂=>wpAny_bind (wpAny_mono h₂ (fun ok s₃ h₃=>?_) fun _ _ h'=>h'.elim)) fun _ _ h'=>h'.elim)
  cases ok with
  | false=>exact wpAny_pure ⟨rfl,h₃⟩
  | true =>
   exact wpAny_bind (wpAny_bind (wpAny_mono h₃ (fun x s₄ h₄=>wpAny_bind (wpAny_mono h₄ (fun _ s₅ h₅=>wpAny_pure (wpAny_pure ⟨rfl,h₅⟩)) fun _ _ h'=>h'.elim)) fun _ _ h'=>h'.elim))
end
def PIfs (X:Cx) (ifs:List Expr) (t:TT):Prop :=
 ∀(pins:List (Addr×Obj)) (s:Shared) (σ:St) (H:Hp) (Q:Bool→Hp→Prop),Inv X pins σ H s→t σ H Q →
  wpAny (model X.prog X.w) X.A (forIn ifs true fun c r=>if r=true then do let ok ← isTrue c X.env (eval c X.env);pure (ForInStep.yield ok) else pure (ForInStep.yield r)) (TP X pins σ Q) X.xe s
def tYes:TT:=fun _ H Q=>Q true H
theorem pif0 {X:Cx}:PIfs X [] tYes:=fun _ _ _ H _ I h=>wpAny_tests_nil ⟨H,I,h⟩
theorem pif1 {X:Cx}{c:Expr}{t:TT}(h:PT X c t):PIfs X [c] t:=fun pins s σ H Q I q=>wpAny_tests_one (h pins s σ H Q I q)
def CompW (J:It) (vs:List Str) (js:List Nat) (σ:St) (g:TG) (tt:TT) (te:TE) (Q:VK) (D:Addr) (H1:Hp):Prop :=
 ∃W:Nat→Nat→St→List V→Hp→Prop,(∃m,W 0 m (blkSt vs js σ) [] (upd H1 D (.lst [])))∧∀i m σ' ys H',W i m σ' ys H' →
  (J.stop i H'∧Q (.ref D) H') ∨(J.go i H'∧∃N:St→List V→Hp→Prop,(∀σ2 zs H2,N σ2 zs H2→∃m',m'<m∧W (i+1) m' σ2 zs H2) ∧
   ∀x H2,J.yld i H' x H2→g x σ' H2 fun σ3 H3=>tt σ3 H3 fun b H4=>if b=true then te σ3 H4 fun y H5=>H5 D=some (.lst ys)∧ys.length<sizeLine∧N σ3 (ys ++ [y]) (upd H5 D (.lst (ys ++ [y]))) else N σ3 ys H4)
def tComp (vs:List Str) (js:List Nat) (wi:TI) (g:TG) (tt:TT) (te:TE):TE:=fun σ H Q=>wi σ H fun J H1=>∀D,H1 D=none→CompW J vs js σ g tt te Q D H1
section
variable {X:Cx}{pins:List (Addr×Obj)}{σ:St}{H:Hp}{s:Shared}{scope:Scope}{vs fs:List Str}{js:List Nat}
theorem blk_start {fp:List Addr}{C D:Addr}{h₁:Heap}{tk:Nat}{m:Str→Option Value}(I:Inv X pins σ H s) (B:BlkOk X scope vs fs js) (hf:∀b∈fp,FpOk X pins H b) (hfp:∀b∈fp,b<s.heap.objs.size)
  (hn:h₁.Ns C m) (hk:∀b o,s.heap.get? b=some o→h₁.get? b=some o) (hD:D=s.heap.objs.size) (hC:s.heap.objs.size<C)
  (hl:h₁.get? D=some { cls:=.type "list",data:=.seq ([]:List Value).toArray }) :
  Inv (cxBlk X scope (vs++fs) C s H fp) [] (blkSt vs js σ) (upd H D (.lst [])) { s with heap:=h₁,toks:=tk }:=by
 have hasX:∀y∈scope.names,y.2 = .free→∃c,X.env.cells.lookup y.1=some c:=fun y hy hf=>I.ok.has y.1 (B.free y hy hf)
 have snd:∀{y:Str}{c:Addr},(clOf X.env scope.names []).lookup y=some c→X.env.cells.lookup y=some c:=fun h=>clOf_sound hasX (fun p hp=>absurd hp (by simp)) h
 have clt:∀{y:Str}{c:Addr},X.env.cells.lookup y=some c→c<s.heap.objs.size:=fun {y c} h=>by
  obtain⟨v,o,ho,_⟩:=I.cell y c h
  exact Heap.lt_size ho
 have hfr:H D=none:=by rw[hD];exact I.hok.fresh (Nat.le_refl _)
 have hfC:H C=none:=I.hok.fresh (Nat.le_of_lt hC)
 have nCD:C≠D:=by rw[hD];exact Nat.ne_of_gt hC
 refine⟨⟨I.ok.mod,B.kind,I.ok.glob,I.ok.blt,Nat.le_of_lt hC,fun y z c h1 h2=>I.ok.inj y z c (snd h1) (snd h2),fun y hy=>?_,fun y c z _=>absurd (show false=true from z) Bool.false_ne_true,I.ok.hd,I.ok.frames,.inl rfl,fun b hb=>⟨?_,fun y c h=>(hf b hb).2.2.2.2.1 y c (snd h)⟩,I.bs,Nat.le_trans I.ok.bsz I.sz,fun b o e hb=>?_,fun b hb z=>?_,I.stack,I.stkFree⟩,
  rfl,I.bare,Un.laid hk (Nat.le_of_eq hD.symm) hfr,⟨m,hn,fun i y v h1 h2 h3=>?_⟩,fun y c h=>?_,?_,fun y c h=>?_,fun p hp=>absurd (show p∈([]:List (Addr×Obj)) from hp) (by simp),I.hok.laid hk (Nat.le_of_eq hD.symm) ⟨by simp,[],0,.nil,hl⟩,?_⟩
 ·-- has
  have key:(y,NameKind.free)∈scope.names:=by
   rcases hy with hy|hy
   ·rcases relabel_back hy with⟨_,z⟩|z
    ·exact z
    ·exact absurd rfl (B.cell _ z)
   ·rcases relabel_back hy with⟨z,_⟩|z
    ·cases z
    ·exact z
  exact lookup_mono_isSome (clOf_has key)
 ·exact Nat.ne_of_lt (Nat.lt_trans (hfp b hb) hC)
 ·rcases(hf b hb).2.2.2.1 with z|z
  ·exact I.ok.noex b o e z
  ·exact absurd (Nat.lt_of_lt_of_le (Heap.lt_size e) (Nat.le_trans I.ok.bsz z)) (Nat.lt_irrefl _)
 ·rcases List.mem_cons.mp (I.stkSub b z) with e|e
  ·exact(hf b hb).2.1 e
  ·exact(hf b hb).2.2.1 e
 ·-- loc
  have hlen:js.length=fs.length:=by have:=congrArg List.length B.ix;simpa using this
  have hi:¬ i<vs.length:=fun hi=>by
   unfold blkSt at h2
   rw[List.getElem?_append_left (by simpa using hi),List.getElem?_map]at h2
   cases e:vs[i]? with
   | none=>rw[e]at h2;cases h2
   | some a=>rw[e]at h2;cases h2
  have hi':vs.length≤i:=Nat.le_of_not_lt hi
  have h1':fs[i-vs.length]? = some y:=by
   have:=h1
   rw[show(cxBlk X scope (vs++fs) C s H fp).N=vs++fs from rfl,List.getElem?_append_right hi']at this
   exact this
  have h2':(js[i-vs.length]?).map (fun j=>(σ[j]?).join)=some (some v):=by
   unfold blkSt at h2
   rw[List.getElem?_append_right (by simpa using hi'),List.length_map,List.getElem?_map]at h2
   exact h2
  cases ej:js[i-vs.length]? with
  | none=>rw[ej]at h2';cases h2'
  | some j =>
   rw[ej]at h2'
   have hσ:σ[j]? = some (some v):=by
    have z:(σ[j]?).join=some v:=Option.some.inj h2'
    cases q:σ[j]? with
    | none=>rw[q]at z;cases z
    | some o=>rw[q]at z;have z':o=some v:=z;rw[z']
   have hNj:X.N[j]? = some y:=by
    have q:=congrArg (fun l=>l[i-vs.length]?) B.ix
    simp only[List.getElem?_map,ej,h1',Option.map_some]at q
    exact Option.some.inj q
   have hcap:=B.cap y (List.mem_of_getElem? h1')
   have hmem:(y,NameKind.free)∈scope.names:=PySem.mem_of_lookup hcap
   have hkX:=B.free _ hmem rfl
   have vis:Vis X.env.scope y:=by
    rcases hkX with z|z
    ·exact .inr (.inl z)
    ·exact .inr (.inr z)
   obtain⟨m0,hn0,hl0⟩:=I.loc
   obtain⟨u,r,l⟩:=hl0 j y v hNj hσ vis
   refine⟨u,r,.inr ⟨lookup_relabel_free hcap,?_⟩⟩
   rcases l with⟨z,_⟩|⟨_,c,hc,hcell⟩
   ·rcases hkX with q|q <;> (rw[q]at z;cases z)
   ·obtain⟨c',hc'⟩:=lookup_mono_isSome (clOf_has (env:=X.env) (cs:=[]) hmem)
    have e:=snd hc'
    rw[hc]at e
    cases e
    exact⟨c,hc',hcell.keeps hk⟩
 ·obtain⟨v,z⟩:=I.cell y c (snd h)
  exact⟨v,z.keeps hk⟩
 ·rw[show(cxBlk X scope (vs++fs) C s H fp).env.locals=C from rfl,upd_ne nCD]
  exact hfC
 ·have q:=snd h
  have ne:c≠D:=by rw[hD];exact Nat.ne_of_lt (clt q)
  rw[upd_ne ne]
  exact I.freeC y c q
 ·have hlen:js.length=fs.length:=by have:=congrArg List.length B.ix;simpa using this
  show(vs.map _++js.map _).length =(vs++fs).length
  rw[List.length_append,List.length_append,List.length_map,List.length_map,hlen]
theorem Inv.goneC {H':Hp}{s':Shared}{C:Addr}{h'':Heap}(I2:Inv X pins σ H s) {σ':St}(I':Inv X pins σ' H' s') (hC:H' C=none) (hle:s.heap.objs.size≤C) (hs:Heap.SameBut C s'.heap h''):Inv X pins σ' H' { s' with heap:=h'' }:=by
 refine I'.turned (t':=s'.toks) (fun b o hb e=>(hs.2 b hb).trans e) hC (Nat.ne_of_gt (Nat.lt_of_lt_of_le I2.lt hle)) (.inr (Nat.le_trans I2.sz hle)) (fun y c e z=>?_) fun p hp z=>?_
 ·obtain⟨v,o,ho,_⟩:=I2.cell y c e
  have:=Heap.lt_size ho
  rw[z]at this
  exact absurd (Nat.lt_of_lt_of_le this hle) (Nat.lt_irrefl _)
 ·have:=Heap.lt_size (I2.pin p hp).1
  rw[z]at this
  exact absurd (Nat.lt_of_lt_of_le this hle) (Nat.lt_irrefl _)
theorem blk_run {tg iter elt:Expr}{ifs:List Expr}{pos:Pos}{g:TG}{tt:TT}{te:TE}(hc:X.calm=true) (B:BlkOk X scope vs fs js)
  (hg:∀C s H ex,PG (cxBlk X scope (vs++fs) C s H ex) tg g) (ht:∀C s H ex,PIfs (cxBlk X scope (vs++fs) C s H ex) ifs tt) (he:∀C s H ex,PE (cxBlk X scope (vs++fs) C s H ex) elt te)
  {it:Addr}{fp:List Addr}{tn:Nat→Heap→Prop}{J:It}{Q:VK}{E:Value→Shared→Prop}(I2:Inv X pins σ H s) (T:Turn X.prog X.w X.K tg J fp it tn) (st2:tn 0 s.heap) (f2:∀b∈fp,FpOk X pins H b)
  (hW:∀D,H D=none→CompW J vs js σ g tt te Q D H)
  {RR:Value→Addr→Result→Shared→Prop}
  (hR:∀D C H' s',Inv X pins σ H' s'→(∃m,s'.heap.Ns C m)→H' C=none→s.heap.objs.size≤C→Q (.ref D) H'→RR (.ref D) C (.ok .next) s') :
  wpAny (model X.prog X.w) X.A (newList []) (fun acc s₃=>wpAny (model X.prog X.w) X.A (newFunctionEnv scope X.env.globals (clOf X.env scope.names []) [] X.env.qual none .none (some X.env)) (fun cenv s₄ =>
   codeAny (model X.prog X.w) X.A (.compStart (.ListComp elt [⟨tg,iter,ifs,0⟩] scope pos) 0 (.ref it) acc { cenv with scope:=relabel scope X.env }) (RR acc cenv.locals) s₄) E s₃) E s:=by
 have hfp:∀b∈fp,b<s.heap.objs.size:=fun b hb=>by
  obtain⟨o,e,_⟩:=T.obj _ _ st2 b hb
  exact Heap.lt_size e
 refine wpAny_newObj_type (wpAny_newFunctionEnv B.cell (by intro y hy;simp at hy) (fun h₁ hns₁ hsb₁=>?_) B.kind)
 dsimp only at hns₁ hsb₁ ⊢
 generalize hH2:s.heap.push { cls:=.type "list",dict:=none,data:=.seq ([]:List Value).toArray } = HH at hns₁ hsb₁ ⊢
 have hC:HH.objs.size=s.heap.objs.size+1:=by rw[← hH2,Heap.size_push]
 have hlt:s.heap.objs.size<HH.objs.size:=by rw[hC];exact Nat.lt_succ_self _
 have old:∀b o,s.heap.get? b=some o→h₁.get? b=some o:=fun b o e=>hsb₁.extBut b o (Nat.ne_of_lt (Nat.lt_trans (Heap.lt_size e) hlt)) (Heap.get?_push_of_some _ (hH2 ▸ Heap.get?_push_of_some _ e))
 have hacc:h₁.get? s.heap.objs.size=some { cls:=.type "list",data:=.seq ([]:List Value).toArray }:=hsb₁.extBut _ _ (Nat.ne_of_lt hlt) (Heap.get?_push_of_some _ (hH2 ▸ Heap.get?_push_size _ rfl))
 have I0:Inv (cxBlk X scope (vs++fs) HH.objs.size s H fp) [] (blkSt vs js σ) (upd H s.heap.objs.size (.lst [])) { s with heap:=h₁,toks:=s.toks+([]:List (Str×Value)).length }:=blk_start I2 B f2 hfp hns₁ old rfl hlt hacc
 obtain⟨W,⟨m0,w0⟩,turn⟩:=hW s.heap.objs.size (I2.hok.fresh (Nat.le_refl _))
 have st1:tn 0 h₁:=T.keep _ _ _ st2 fun b hb o e=>old b o e
 have hch:∀b∈fp,(b∈X.ex∨X.s₀.heap.objs.size≤b)∧b≠X.env.locals∧(∀x c,X.env.cells.lookup x=some c→c≠b)∧∀p∈X.pn++pins,p.1≠b:=fun b hb=>by
  obtain⟨_,a2,_,a4,a5,a6⟩:=f2 b hb
  exact⟨a4,a2,a5,a6⟩
 have back:∀{pl:List (Addr×Obj)}{σ':St}{H':Hp}{s':Shared},Inv (cxBlk X scope (vs++fs) HH.objs.size s H fp) pl σ' H' s'→Inv X pins σ H' s':=fun {pl σ' H' s'} J'=>I2.call' (ch:=fp) J'.os J'.base J'.hok J'.bare hch
 have nD:∀b∈fp,b≠s.heap.objs.size:=fun b hb=>Nat.ne_of_lt (hfp b hb)
 have stat:∀{H':Hp},(∀b∈fp,H' b=none)→∀b∈fp,FpOk (cxBlk X scope (vs++fs) HH.objs.size s H fp) [] H' b:=fun {H'} hn b hb=>by
  have z:=I0.ok
  refine⟨hn b hb,(z.exf b hb).1,z.exfs b hb,.inl hb,(z.exf b hb).2,fun p hp=>absurd (show p∈([]:List (Addr×Obj)) from hp) (by simp)⟩
 have loop:∀s₃:Shared,s₃ = { s with heap:=h₁,toks:=s.toks+([]:List (Str×Value)).length } →
   codeAny (model X.prog X.w) X.A (.compLoop (.ListComp elt [⟨tg,iter,ifs,0⟩] scope pos) 0 (.ref it) (.ref s.heap.objs.size) (compEnvC scope (clOf X.env scope.names []) HH.objs.size X.env)) (RR (.ref s.heap.objs.size) HH.objs.size) s₃:=by
  rintro s₃ rfl
  refine codeAny_compLoop_gen (fun n s'=>∃i σ' ys H',Inv (cxBlk X scope (vs++fs) HH.objs.size s H fp) [] σ' H' s'∧tn i s'.heap∧(∀b∈fp,H' b=none)∧W i n σ' ys H') ?_ m0
   ⟨0,_,_,_,I0,st1,fun b hb=>by rw[upd_ne (nD b hb)];exact(f2 b hb).1,w0⟩
  rintro n s3 ⟨i,σ3,ys,H3,I3,st3,fr3,w3⟩
  rcases turn i n σ3 ys H3 w3 with⟨stop,q⟩|⟨go,N,hN,step⟩
  ·refine thn (T.done (cxBlk X scope (vs++fs) HH.objs.size s H fp) rfl rfl rfl hc i [] s3 σ3 H3 _ I3 (stat fr3) st3 stop) fun r s4 ⟨hr,I4⟩=>?_
   subst hr
   obtain⟨m,hm,_⟩:=I4.loc
   exact hR _ _ H3 s4 (back I4) ⟨m,hm⟩ I4.free (Nat.le_of_lt hlt) q
  ·refine thn (T.item (cxBlk X scope (vs++fs) HH.objs.size s H fp) rfl rfl rfl hc i [] s3 σ3 H3 _ I3 (stat fr3) st3 go) fun r s4 ⟨u,hr,h4⟩=>?_
   subst hr
   refine thn h4 fun _ s5 ⟨x,H5,I5,r5,y5,st5,fr5⟩=>?_
   have I5':=I5.pinned (stat fr5) (T.obj _ _ st5)
   have again:∀{σ7:St}{H7:Hp}{s7:Shared}{zs:List V},Inv (cxBlk X scope (vs++fs) HH.objs.size s H fp) ([]++pinsAt fp s5.heap) σ7 H7 s7→N σ7 zs H7→∃m,m<n∧∃i σ' ys H',Inv (cxBlk X scope (vs++fs) HH.objs.size s H fp) [] σ' H' s7∧tn i s7.heap∧(∀b∈fp,H' b=none)∧W i m σ' ys H':=fun {σ7 H7 s7 zs} I7 n7=>by
    obtain⟨m',hm,w7⟩:=hN σ7 zs H7 n7
    refine⟨m',hm,i+1,σ7,zs,H7,I7.unpinned,T.keep _ _ _ st5 fun b hb o e=>(I7.pin (b,o) (List.mem_append_right _ (List.mem_append_right _ (mem_pinsAt hb e)))).1,fun b hb=>?_,w7⟩
    obtain⟨o,e,d⟩:=T.obj _ _ st5 b hb
    exact(I7.pin (b,o) (List.mem_append_right _ (List.mem_append_right _ (mem_pinsAt hb e)))).2.1
   refine thn (hg _ _ _ _ _ s5 σ3 H5 x u _ I5' r5 (step x H5 y5)) fun _ s6 ⟨σ6,H6,I6,q6⟩=>?_
   refine thn (ht _ _ _ _ _ s6 σ6 H6 _ I6 q6) fun ok s7 ⟨H7,I7,q7⟩=>?_
   cases ok with
   | false =>
    rw[if_neg Bool.false_ne_true]at q7 ⊢
    exact again I7 q7
   | true =>
    rw[if_pos rfl]at q7 ⊢
    refine thn (he _ _ _ _ _ s7 σ6 H7 _ I7 q7) fun y s8 ⟨yv,H8,I8,r8,hD8,hz,n8⟩=>?_
    refine thn (mt_append _ s8 σ6 H8 (.ref s.heap.objs.size) [yv] (.ref s.heap.objs.size) [y] (fun _ H9=>N σ6 (ys ++ [yv]) H9) I8 rfl (.cons r8 .nil) ⟨_,ys,yv,rfl,rfl,hD8,hz,n8⟩) fun _ s9 ⟨_,H9,I9,_,n9⟩=>?_
    exact again I9 n9
 exact codeAny_compStart_list (loop _ rfl) (T.self X.A 0 _ _ _ st1 (loop _ rfl))
theorem pe_comp {tg iter elt:Expr}{ifs:List Expr}{pos:Pos}{wi:TI}{g:TG}{tt:TT}{te:TE}(hc:X.calm=true) (B:BlkOk X scope vs fs js) (hi:PI X tg iter wi)
  (hg:∀C s H ex,PG (cxBlk X scope (vs++fs) C s H ex) tg g) (ht:∀C s H ex,PIfs (cxBlk X scope (vs++fs) C s H ex) ifs tt) (he:∀C s H ex,PE (cxBlk X scope (vs++fs) C s H ex) elt te)
  (hs:∀x,foldedSetIterable iter X.env x=pure x:=by intro _;rfl):PE X (.ListComp elt [⟨tg,iter,ifs,0⟩] scope pos) (tComp vs js wi g tt te):=by
 intro pins s σ H Q I h
 rw[eval_ListComp]
 refine wpAny_comprehension_free (use:=none) rfl hs (closure_eq fun y hy hf=>I.ok.has y.1 (B.free y hy hf)) B.kind B.names (thn (hi pins s σ H _ I h) fun v s1 h1=>thn h1 fun itv s2 h2=>?_)
 obtain⟨it,fp,tn,J,H2,e,I2,T,st2,f2,hW⟩:=h2
 subst e
 refine blk_run (RR:=fun acc C=>compPost (model X.prog X.w) X.A X.xe none (EP X pins σ Q) acc C) hc B hg ht he I2 T st2 f2 hW ?_
 intro D C H' s' I' hn hC hle q
 obtain⟨m,hn⟩:=hn
 exact⟨m,hn,fun h'' hs''=>⟨.ref D,H',I2.goneC I' hC hle hs'',rfl,q⟩⟩
theorem ps_setc {i:Nat}{y:Str}{py spos:Pos}{tg iter elt:Expr}{ifs:List Expr}{pos:Pos}{wi:TI}{g:TG}{tt:TT}{te:TE}(hN:X.N.Nodup) (hi':X.N[i]? = some y) (hy:X.env.scope.names.lookup y=some .local) (hc:X.calm=true) (B:BlkOk X scope vs fs js) (hi:PI X tg iter wi)
  (hg:∀C s H ex,PG (cxBlk X scope (vs++fs) C s H ex) tg g) (ht:∀C s H ex,PIfs (cxBlk X scope (vs++fs) C s H ex) ifs tt) (he:∀C s H ex,PE (cxBlk X scope (vs++fs) C s H ex) elt te)
  (hsw:swapsWith (.ListComp elt [⟨tg,iter,ifs,0⟩] scope pos) (some (.Name y py)) spos.line X.env=pure true:=by rfl)
  (hs:∀x,foldedSetIterable iter X.env x=pure x:=by intro _;rfl):PS X (.Assign [.Name y py] (.ListComp elt [⟨tg,iter,ifs,0⟩] scope pos) spos) (tAsg (tComp vs js wi g tt te) (gName i)):=by
 intro pins s σ H D I h
 rw[exec_Assign_Name_used _ _ _ _ hsw]
 refine wpAny_bind (wpAny_standAt (wpAny_bind ?_))
 show wpAny _ X.A (do let _ ← comprehension (.ListComp elt [⟨tg,iter,ifs,0⟩] scope pos) scope X.env _ (newList []) false (eval iter X.env) (some (assign (.Name y py) X.env))) _ _ s
 refine wpAny_bind (wpAny_mono (wpAny_comprehension_free (use:=some (assign (.Name y py) X.env)) (Q:=fun _ s'=>SP X pins D .next s') rfl hs (closure_eq fun y hy hf=>I.ok.has y.1 (B.free y hy hf)) B.kind B.names
  (thn (hi pins s σ H _ I h) fun v s1 h1=>thn h1 fun itv s2 h2=>?_)) (fun _ s' hq=>wpAny_pure (wpAny_pure hq)) fun _ _ e=>e)
 obtain⟨it,fp,tn,J,H2,e,I2,T,st2,f2,hW⟩:=h2
 subst e
 refine blk_run (Q:=fun x H1=>gName i x σ H1 D.nx) (RR:=fun acc C=>compPost (model X.prog X.w) X.A X.xe (some (assign (.Name y py) X.env)) (fun _ s'=>SP X pins D .next s') acc C) hc B hg ht he I2 T st2 f2 hW ?_
 intro D' C H' s' I' hn hC hle q
 obtain⟨m,hn⟩:=hn
 show wpAny _ X.A (assign (.Name y py) X.env (.ref D')) _ _ _
 refine wpAny_assign_Name (store_ok2 I' hN hi' (.inl hy) (v:=.ref D') rfl (fun s'' I'' hsb=>?_) (.inr hy))
 obtain⟨a,hsb,ha⟩:=hsb
 have nCa:C≠a:=by
  rcases ha with z|z
  ·rw[z];exact Nat.ne_of_gt (Nat.lt_of_lt_of_le I2.lt hle)
  ·obtain⟨v,o,ho,_⟩:=I2.cell y a z
   exact Nat.ne_of_gt (Nat.lt_of_lt_of_le (Heap.lt_size ho) hle)
 exact⟨m,hn.sameBut hsb nCa,fun h'' hs''=>⟨_,H',I2.goneC I'' hC hle hs'',q⟩⟩
end
section
variable {vs:List Str}{js:List Nat}{σ:St}{g:TG}{tt:TT}{te:TE}{Q:VK}
theorem comp_range {lo:Int}{n:Nat}{H:Hp}(Pv:Nat→St→List V→Hp→Prop) (D:Addr) (h0:Pv 0 (blkSt vs js σ) [] (upd H D (.lst [])))
  (hs:∀i σ' ys H',i<n→Pv i σ' ys H'→g (.int (lo+i)) σ' H' fun σ3 H3=>tt σ3 H3 fun b H4=>if b=true then te σ3 H4 fun y H5=>H5 D=some (.lst ys)∧ys.length<sizeLine∧Pv (i+1) σ3 (ys ++ [y]) (upd H5 D (.lst (ys ++ [y]))) else Pv (i+1) σ3 ys H4)
  (hd:∀σ' ys H',Pv n σ' ys H'→Q (.ref D) H') :
  CompW (Itr lo n) vs js σ g tt te Q D H:=by
 refine⟨fun i m σ' ys H'=>m=n-i∧i≤n∧Pv i σ' ys H',⟨n,by simp,Nat.zero_le _,h0⟩,?_⟩
 rintro i m σ' ys H' ⟨rfl,hi,p⟩
 by_cases hlt:i<n
 ·refine .inr ⟨hlt,Pv (i+1),fun σ2 zs H2 p'=>⟨n-(i+1),by omega,rfl,hlt,p'⟩,fun x H2 y=>?_⟩
  obtain⟨e,y⟩:=y
  subst e y
  exact hs i σ' ys _ hlt p
 ·have e:i=n:=by omega
  subst e
  exact .inl ⟨Nat.le_refl _,hd σ' ys H' p⟩
theorem comp_list {K:PySem.W.Frag}{a:Addr}{xs:List V}{H:Hp}(Pv:Nat→St→List V→Hp→Prop) (D:Addr) (h0:Pv 0 (blkSt vs js σ) [] (upd H D (.lst []))) (hl:∀i σ' ys H',i≤xs.length→Pv i σ' ys H'→SqL K H' a xs)
  (hs:∀i x σ' ys H',xs[i]? = some x→Pv i σ' ys H'→g x σ' H' fun σ3 H3=>tt σ3 H3 fun b H4=>if b=true then te σ3 H4 fun y H5=>H5 D=some (.lst ys)∧ys.length<sizeLine∧Pv (i+1) σ3 (ys ++ [y]) (upd H5 D (.lst (ys ++ [y]))) else Pv (i+1) σ3 ys H4)
  (hd:∀σ' ys H',Pv xs.length σ' ys H'→Q (.ref D) H') :
  CompW (Itl K a) vs js σ g tt te Q D H:=by
 refine⟨fun i m σ' ys H'=>m=xs.length-i∧i≤xs.length∧Pv i σ' ys H',⟨xs.length,by simp,Nat.zero_le _,h0⟩,?_⟩
 rintro i m σ' ys H' ⟨rfl,hi,p⟩
 have q:=hl i σ' ys H' hi p
 by_cases hlt:i<xs.length
 ·refine .inr ⟨⟨xs,xs[i],q,by simp[hlt]⟩,Pv (i+1),fun σ2 zs H2 p'=>⟨xs.length-(i+1),by omega,rfl,hlt,p'⟩,fun x H2 y=>?_⟩
  obtain⟨e,y⟩:=y
  subst e
  exact hs i x σ' ys _ (y xs q) p
 ·have e:i=xs.length:=by omega
  subst e
  exact .inl ⟨⟨xs,q,Nat.le_refl _⟩,hd σ' ys H' p⟩
end
end L2
namespace L2
open PySem PySem.Spec PyProof.Rows
theorem bt_len:bootBuiltins "len" = some (.builtin "len"):=by decide +kernel
theorem bt_abs:bootBuiltins "abs" = some (.builtin "abs"):=by decide +kernel
theorem bt_max:bootBuiltins "max" = some (.builtin "max"):=by decide +kernel
theorem bt_min:bootBuiltins "min" = some (.builtin "min"):=by decide +kernel
theorem bt_all:bootBuiltins "all" = some (.builtin "all"):=by decide +kernel
theorem bt_isinstance:bootBuiltins "isinstance" = some (.builtin "isinstance"):=by decide +kernel
theorem bt_sorted:bootBuiltins "sorted" = some (.builtin "sorted"):=by decide +kernel
theorem bt_int:bootBuiltins "int" = some (.type "int"):=by decide +kernel
theorem bt_bool:bootBuiltins "bool" = some (.type "bool"):=by decide +kernel
theorem bt_str:bootBuiltins "str" = some (.type "str"):=by decide +kernel
theorem bt_list:bootBuiltins "list" = some (.type "list"):=by decide +kernel
theorem bt_range:bootBuiltins "range" = some (.type "range"):=by decide +kernel
structure Cal (P:Program) (w:World) (K:PySem.W.Frag) (mg:Str→Option Value) (base:Heap) (x:Str) (ps:List Str) (k:Nat) (sp:Sp):Prop where
 ex:∃(f:Addr) (fd:FuncData),FnOk P w K mg base CX0 k f fd ps sp∧Binds K fd ps []∧mg x=some (.ref f)∧PySem.W.keepIn K (.ref f)=true
section
variable {X:Cx}{x:Str}{ps:List Str}{k:Nat}{sp:Sp}{e:Expr}{es:List Expr}{t:TA}{p pos:Pos}
theorem pcl (C:Cal X.prog X.w X.K X.mg X.base x ps k sp) (hr:Room k X.A) (ha:PA X (e::es) t) (hg:Gl X x:=by rfl) (hdb:(x ==("__debug__" : Str))=false:=by decide) (he:starEach (e::es) X.env =(false,eval e X.env)::starEach es X.env:=by rfl) (hpl:(backTo pos (starEach es X.env)).any (·.1)=false:=by rfl) :
  PE X (.Call (.Name x p) (e::es) [] pos) (tCall sp [] E0 t):=by
 obtain⟨f,fd,F,hb,hm,hk⟩:=C.ex
 exact pe_call F hr hg hm hk hb .nil pass0 ha hdb he hpl
end
theorem Cal.of {P:Program}{w:World}{K:PySem.W.Frag}{mg:Str→Option Value}{base:Heap}{x:Str}{st:Stmt}{f:Addr}{fd:FuncData}{N ps:List Str}{k:Nat}{sp:Sp}(F:Fun K x x st f fd) (mF:mg x=some (.ref f)) (bF:Binds K fd ps []) (S:FnScope N ps (defScope st)) (len:∀vs H Q E,sp vs H Q E→vs.length=ps.length)
  (hbody:∀(cdv:Value) (A:Around) (outer:List Env) (s:Shared) (H:Hp) (vs:List V) (Q:VK) (E:XK),Room k (A.deeper (envOfC x (defScope st) s.heap.objs.size f cdv))→sp vs H Q E →
   ∃t,PSs (cxOf CX0 P w K mg base N x (defScope st) f cdv A outer s H E).nox (defBody st) t∧t { nx:=fun _ H'=>Q .non H',rt:=Q } (start N vs) H):Cal P w K mg base x ps (k+1) sp :=
 ⟨f,fd,F.ok S len hbody,bF,mF,F.kp⟩
def blkB (sc scope:Scope) (N vs fs:List Str) (js:List Nat):Bool :=
 (scope.kind == .function) && scope.names.all (fun y=>y.2 != .cell) && scope.names.all (fun y=>y.2 != .local || scope.names.lookup y.1 == some .local) &&
 scope.names.all (fun y=>y.2 != .free || sc.names.lookup y.1 == some .cell || sc.names.lookup y.1 == some .free) && vs.all (fun y=>scope.names.lookup y == some .local) && fs.all (fun y=>scope.names.lookup y == some .free) &&
 (js.map (fun j=>N[j]?) == fs.map some)
theorem blkOk {X:Cx}{sc scope:Scope}{N vs fs:List Str}{js:List Nat}(h:blkB sc scope N vs fs js=true) (hs:X.env.scope=sc) (hN:X.N=N):BlkOk X scope vs fs js:=by
 unfold blkB at h
 simp only[Bool.and_eq_true,List.all_eq_true,beq_iff_eq,bne_iff_ne,Bool.or_eq_true]at h
 obtain⟨⟨⟨⟨⟨⟨h1,h2⟩,h3⟩,h4⟩,h5⟩,h6⟩,h7⟩:=h
 refine⟨h1,h2,fun y hy hl=>?_,fun y hy hf=>?_,h5,h6,?_⟩
 ·rcases h3 y hy with z|z
  ·exact absurd hl z
  ·exact z
 ·unfold Env.kindOf
  rw[hs]
  rcases h4 y hy with(z|z)|z
  ·exact absurd hf z
  ·exact .inl z
  ·exact .inr z
 ·rw[hN];exact h7
def tCut (t:TS):TS:=fun D σ H=>∃R:St→Hp→Prop,t { D with nx:=R } σ H∧∀σ' H',R σ' H'→D.nx σ' H'
theorem ps_cut {X:Cx}{st:Stmt}{t:TS}(h:PS X st t):PS X st (tCut t):=by
 intro pins s σ H D I hw
 obtain⟨R,h1,h2⟩:=hw
 refine thn (h pins s σ H _ I h1) fun f s' q=>?_
 cases f with
 | next =>
  obtain⟨σ',H',I',q⟩:=q
  exact⟨σ',H',I',h2 _ _ q⟩
 | brk=>exact q
 | cont=>exact q
 | ret u=>exact q
section
variable {X:Cx}
def CDivB (i j:Int):Prop:=0<j∧j<2^100
theorem op_fdivB:OpR X (binaryOp .FloorDiv) (rI CDivB fun i j=>.int (i / j)):=opI fun i j _ _ _ _ _ hc q=>by
 have h1:(0:Int)<j:=hc.1
 have h2:j<2^100:=hc.2
 refine floordiv_int (by omega) (by rw[Int.fdiv_eq_ediv_of_nonneg i (by omega)];exact q) (.inl (PyProof.noPylong_of_log2 ?_))
 have h0:j.natAbs≠0:=by omega
 have h3:j.natAbs.log2<100:=(Nat.log2_lt h0).mpr (by omega)
 omega
theorem pe_powC {a b c:Int}{j1 j2:Nat}{p1 p2 pos:Pos}(h:a^b.toNat=c) (h1:CPow a b):PE X (.BinOp (.Constant (.int a) j1 p1) .Pow (.Constant (.int b) j2 p2) pos) (tC (.int c)):=by
 intro pins s σ H Q I q
 subst h
 exact pe_op op_pow pe_int pe_int pins s σ H Q I ⟨a,b,rfl,rfl,h1,q⟩
theorem get_list:PGet X (rIxL X.K):=by
 intro pins s σ H x y v u Q I rx ry h
 obtain⟨p,xs,i,z,rfl,rfl,hq,he,q⟩:=h
 cases rx
 obtain⟨t,rfl⟩:=ry
 obtain⟨its,r,pl,hz⟩:=I.list hq
 obtain⟨j,h1,h2,h3,h4,h5⟩:=atI_get he
 obtain⟨w,ew,rw'⟩:=r.get h2
 have hl:=r.length
 have hn:=line63
 have fin:EP X pins σ Q w s:=⟨z,H,I,rw',q⟩
 by_cases h0:0≤i
 ·have hj:i.toNat=j:=by
   rw[seqIndex_of h0 h5]at h1
   exact Option.some.inj h1
  exact wpAny_getItem_list pl.isList h0 (by omega) (by rw[hj];simpa using ew) fin
 ·have hj:(i+(its.toArray.size:Int)).toNat=j:=by
   rw[seqIndex_neg (by omega) h4]at h1
   rw[List.size_toArray,← hl]
   exact Option.some.inj h1
  exact wpAny_getItem_list_neg pl.isList (by omega) (by rw[List.size_toArray] <;> omega) (by omega) (by rw[hj];simpa using ew) fin
def rBitLen:V→List V→Hp→VK→Prop:=fun x vs H Q=>∃i,x = .int i∧vs=[]∧Q (.int (Builtin.Int.intBits i:Nat)) H
theorem mt_bitlen:MtR X "int.bit_length" rBitLen:=by
 intro pins s σ H x xs v us Q I rx rs h
 obtain⟨i,rfl,rfl,q⟩:=h
 obtain⟨t,rfl⟩:=rx
 cases rs
 exact call_int_bit_length ⟨.int _,H,I.tok _,⟨_,rfl⟩,q⟩
def rLenL (K:PySem.W.Frag):List V→Hp→VK→Prop:=fun xs H Q=>∃p ys,xs=[.ref p]∧(SqL K H p ys∨SqT K H p ys)∧Q (.int ys.length) H
theorem call_lenL:CallR X (.builtin "len") (rLenL X.K):=call_len_seq
def rAbs1:List V→Hp→VK→Prop:=fun xs H Q=>∃i,xs=[.int i]∧Q (.int (if i<0 then -i else i)) H
theorem call_abs1:CallR X (.builtin "abs") rAbs1:=call_abs
def rMaxI:List V→Hp→VK→Prop:=fun xs H Q=>∃i j,xs=[.int i,.int j]∧Q (.int (if j > i then j else i)) H
theorem call_maxI (hc:X.calm=true):CallR X (.builtin "max") rMaxI:=call_max2 hc
def rMinI:List V→Hp→VK→Prop:=fun xs H Q=>∃i j,xs=[.int i,.int j]∧Q (.int (if j<i then j else i)) H
theorem call_minI (hc:X.calm=true):CallR X (.builtin "min") rMinI:=call_min2 hc
def rIsi (K:PySem.W.Frag):List V→Hp→VK→Prop:=fun xs H Q=>∃x t T b,xs=[x,.ty T]∧TyOf K H x t∧PySem.W.kitOne K t (.type T)=some b∧Q (.bl b) H
theorem call_isinst:CallR X (.builtin "isinstance") (rIsi X.K):=by
 intro pins s σ H xs us Q I r h
 obtain⟨x,t,T,b,rfl,ty,e,q⟩:=h
 obtain⟨u,w',rfl,r1,r2⟩:=vals2 r
 cases (show w'=Value.type T from r2)
 exact isinst_ok I r1 ty e fun tk=>⟨.bl b,H,I.tok _,rfl,q⟩
end
section
variable {σ:St}{H:Hp}{Q:VK}{D:Ends}
theorem rd_var {i:Nat}{v:V}(h:σ[i]? = some (some v)) (q:Q v H):tVar i σ H Q:=⟨v,h,q⟩
theorem rd_c {v:V}(q:Q v H):tC v σ H Q:=q
theorem rd_op {r:R2}{ta tb:TE}(h:ta σ H fun x H1=>tb σ H1 fun y H2=>r x y H2 Q):tOp r ta tb σ H Q:=h
theorem rd_un {r:V→Hp→VK→Prop}{ta:TE}(h:ta σ H fun x H1=>r x H1 Q):tUn r ta σ H Q:=h
theorem rd_I0 {g:Int→Int→V}{i j:Int}(q:Q (g i j) H):rI0 g (.int i) (.int j) H Q:=⟨i,j,rfl,rfl,q⟩
theorem rd_I {C:Int→Int→Prop}{g:Int→Int→V}{i j:Int}(c:C i j) (q:Q (g i j) H):rI C g (.int i) (.int j) H Q:=⟨i,j,rfl,rfl,c,q⟩
theorem rd_U {g:Int→V}{i:Int}(q:Q (g i) H):rU g (.int i) H Q:=⟨i,rfl,q⟩
theorem dec_int' {i j:Int}:decide (V.int i=V.int j)=decide (i=j):=by
 rw[Bool.eq_iff_iff];simp
theorem rd_eqI {i j:Int}(q:Q (.bl (decide (i=j))) H):rEq (.int i) (.int j) H Q:=⟨rfl,by rw[dec_int'];exact q⟩
theorem rd_eqB {i j:Bool}(q:Q (.bl (decide (i=j))) H):rEq (.bl i) (.bl j) H Q:=⟨rfl,by
 have e:decide (V.bl i=V.bl j)=decide (i=j):=by rw[Bool.eq_iff_iff];simp
 rw[e];exact q⟩
theorem rd_bl {c:Bool}{P:Bool→Prop}(h:P c):∃k,V.bl c=V.bl k∧P k:=⟨c,rfl,h⟩
theorem rd_test {t:TE}{R:Bool→Hp→Prop}(h:t σ H fun x H'=>∃k,x = .bl k∧R k H'):tTest t σ H R:=h
theorem rd_tB {t:TE}{R:Bool→Hp→Prop}(h:t σ H fun x H'=>∃k,x = .bl k∧R k H'):tB t σ H R:=h
theorem rd_and {t u:TT}{R:Bool→Hp→Prop}(h:t σ H fun c H1=>if c=true then u σ H1 R else R false H1):tAnd t u σ H R:=h
theorem rd_or {t u:TT}{R:Bool→Hp→Prop}(h:t σ H fun c H1=>if c=true then R true H1 else u σ H1 R):tOr t u σ H R:=h
theorem rd_not {t:TT}{R:Bool→Hp→Prop}(h:t σ H fun c H1=>R (!c) H1):tNot t σ H R:=h
theorem rd_andV {ta tb:TE}(h:ta σ H fun x H1=>∃c,x = .bl c∧if c=true then tb σ H1 Q else Q (.bl false) H1):tAndV ta tb σ H Q:=h
theorem rd_notV {ta:TE}(h:ta σ H fun x H1=>∃c,x = .bl c∧Q (.bl (!c)) H1):tNotV ta σ H Q:=h
theorem rd_chain {r r':R2}{ta tb tc:TE}(h:ta σ H fun x H1=>tb σ H1 fun y H2=>r x y H2 fun z H3=>∃k,z = .bl k∧(if k=true then tc σ H3 fun w' H4=>r' y w' H4 Q else Q (.bl false) H3)):tChain r r' ta tb tc σ H Q:=h
theorem rd_nil {R:List V→Hp→Prop}(h:R [] H):tNil σ H R:=h
theorem rd_cons {ta:TE}{tr:TA}{R:List V→Hp→Prop}(h:ta σ H fun x H1=>tr σ H1 fun xs H2=>R (x::xs) H2):tCons ta tr σ H R:=h
theorem rd_call {sp:Sp}{dvs:List V}{E:XK}{t:TA}(h:t σ H fun vs H1=>sp (vs++dvs) H1 Q E):tCall sp dvs E t σ H Q:=h
theorem rd_cb {r:List V→Hp→VK→Prop}{t:TA}(h:t σ H fun vs H1=>r vs H1 Q):tCB r t σ H Q:=h
theorem rd_lst {t:TA}(h:t σ H fun xs H1=>xs.length≤sizeLine∧∀p,H1 p=none→Q (.ref p) (upd H1 p (.lst xs))):tLst t σ H Q:=h
theorem rd_tup {t:TA}(h:t σ H fun xs H1=>xs.length≤sizeLine∧∀p,H1 p=none→Q (.ref p) (upd H1 p (.tup xs))):tTup t σ H Q:=h
theorem rd_asg {te:TE}{g:TG}(h:te σ H fun x H1=>g x σ H1 D.nx):tAsg te g D σ H:=h
theorem rd_gname {i:Nat}{v:V}{R:St→Hp→Prop}(h:R (σ.set i (some v)) H):gName i v σ H R:=h
theorem rd_ret {te:TE}(h:te σ H D.rt):tRet te D σ H:=h
theorem rd_next (h:D.nx σ H):tNext D σ H:=h
theorem rd_drop {te:TE}(h:te σ H fun _ H1=>D.nx σ H1):tDrop te D σ H:=h
theorem rd_ixL {K:PySem.W.Frag}{p:Addr}{xs:List V}{i:Int}{v:V}(h:SqL K H p xs) (e:atI xs i=some v) (q:Q v H):rIxL K (.ref p) (.int i) H Q:=⟨p,xs,i,v,rfl,rfl,h,e,q⟩
theorem rd_bm0 {K:PySem.W.Frag}{T:String}{r:V→List V→Hp→VK→Prop}{to:TE}(h:to σ H fun x H1=>tyV K T x H1∧r x [] H1 Q):tBM0 K T r to σ H Q:=h
theorem rd_bm {K:PySem.W.Frag}{T:String}{r:V→List V→Hp→VK→Prop}{to:TE}{t:TA}(h:to σ H fun x H1=>tyV K T x H1∧t σ H1 fun xs H2=>r x xs H2 Q):tBM K T r to t σ H Q:=h
theorem rd_augS {to ti te:TE}{tget:V→V→Hp→VK→Prop}{tip:TIp}{tset:TSet}(h:to σ H fun o H1=>ti σ H1 fun i H2=>tget o i H2 fun x H3=>te σ H3 fun y H4=>tip x y H4 fun z H5=>tset o i z H5 fun H6=>D.nx σ H6):tAugS to ti te tget tip tset D σ H:=h
theorem rd_ip {f:Int→Int→Int}{i j:Int}(q:Q (.int (f i j)) H):ipI f (.int i) (.int j) H Q:=⟨i,j,rfl,rfl,q⟩
theorem rd_set0 {p:Addr}{a:V}{r:List V}{v:V}{R:Hp→Prop}(h:H p=some (.lst (a::r))) (q:R (upd H p (.lst (v::r)))):rSetL (.ref p) (.int 0) v H R :=
 ⟨p,_,0,0,rfl,rfl,h,by unfold ixN;rw[if_pos (by decide),if_pos (by rw[List.length_cons];omega)];rfl,q⟩
theorem rd_set1 {p:Addr}{a b:V}{r:List V}{v:V}{R:Hp→Prop}(h:H p=some (.lst (a::b::r))) (q:R (upd H p (.lst (a::v::r)))):rSetL (.ref p) (.int 1) v H R :=
 ⟨p,_,1,1,rfl,rfl,h,by unfold ixN;rw[if_pos (by decide),if_pos (by rw[List.length_cons,List.length_cons];omega)];rfl,q⟩
theorem rd_gsub {to ti:TE}{t:TSet}{v:V}{R:St→Hp→Prop}(h:to σ H fun o H1=>ti σ H1 fun i H2=>t o i v H2 fun H3=>R σ H3):gSub to ti t v σ H R:=h
theorem rd_sl {r:V→Option Int→Option Int→Hp→VK→Prop}{te:TE}{tl th:TO}(h:te σ H fun x H1=>tl σ H1 fun l H2=>th σ H2 fun u H3=>r x l u H3 Q):tSl r te tl th σ H Q:=h
theorem rd_nop {R:Option Int→Hp→Prop}(h:R none H):tNoPart σ H R:=h
theorem rd_part {t:TE}{R:Option Int→Hp→Prop}(h:t σ H fun x H1=>∃i,x = .int i∧R (some i) H1):tPart t σ H R:=h
theorem rd_int {i:Int}{P:Int→Prop}(h:P i):∃k,V.int i=V.int k∧P k:=⟨i,rfl,h⟩
theorem rd_slL {K:PySem.W.Frag}{a:Addr}{xs:List V}{lo hi:Option Int}(h:SqL K H a xs) (q:∀p,H p=none→Q (.ref p) (upd H p (.lst (cutV xs lo hi)))):rSlL K (.ref a) lo hi H Q:=⟨a,xs,rfl,h,q⟩
theorem rd_lenL {K:PySem.W.Frag}{a:Addr}{ys:List V}(h:SqL K H a ys) (q:Q (.int ys.length) H):rLenL K [.ref a] H Q:=⟨a,ys,rfl,.inl h,q⟩
theorem rd_abs {i:Int}(q:Q (.int (if i<0 then -i else i)) H):rAbs1 [.int i] H Q:=⟨i,rfl,q⟩
theorem rd_max {i j:Int}(q:Q (.int (max i j)) H):rMaxI [.int i,.int j] H Q:=⟨i,j,rfl,by
 have e:(if j > i then j else i)=max i j:=by omega
 rw[e];exact q⟩
theorem rd_min {i j:Int}(q:Q (.int (min i j)) H):rMinI [.int i,.int j] H Q:=⟨i,j,rfl,by
 have e:(if j<i then j else i)=min i j:=by omega
 rw[e];exact q⟩
theorem rd_isi {K:PySem.W.Frag}{x:V}{t:Value}{T:String}{b:Bool}(h:TyOf K H x t) (e:PySem.W.kitOne K t (.type T)=some b) (q:Q (.bl b) H):rIsi K [x,.ty T] H Q:=⟨x,t,T,b,rfl,h,e,q⟩
theorem rd_bitlen {i:Int}(q:Q (.int (Builtin.Int.intBits i:Nat)) H):rBitLen (.int i) [] H Q:=⟨i,rfl,rfl,q⟩
theorem rd_if {c:Prop} [Decidable c] {A B:Prop}(h1:c→A) (h2:¬ c→B):if decide c=true then A else B:=by
 by_cases h:c
 ·rw[decide_eq_true h,if_pos rfl];exact h1 h
 ·rw[decide_eq_false h,if_neg Bool.false_ne_true];exact h2 h
theorem rd_if_pos {b:Bool}{A B:Prop}(e:b=true) (h:A):if b=true then A else B:=by rw[if_pos e];exact h
theorem rd_rng1 {ta:TA}{R:It→Hp→Prop}(h:ta σ H fun vs H1=>∃j:Int,vs=[.int j]∧-(2^62)≤j∧j<2^62∧R (Itr 0 j.toNat) H1):iRng1 ta σ H R:=h
theorem rd_ilist {K:PySem.W.Frag}{tl:TE}{R:It→Hp→Prop}(h:tl σ H fun x H1=>∃a,x = .ref a∧(∃xs,SqL K H1 a xs)∧R (Itl K a) H1):iList K tl σ H R:=h
theorem rd_comp {vs:List Str}{js:List Nat}{wi:TI}{g:TG}{tt:TT}{te:TE}(h:wi σ H fun J H1=>∀D,H1 D=none→CompW J vs js σ g tt te Q D H1):tComp vs js wi g tt te σ H Q:=h
theorem rd_yes {R:Bool→Hp→Prop}(h:R true H):tYes σ H R:=h
theorem rd_iteT {A B:Prop}(h:A):if true=true then A else B:=iteT h
theorem rd_iteF {A B:Prop}(h:B):if false=true then A else B:=iteF h
theorem rd_iteNF {A B:Prop}(h:A):if (!false)=true then A else B:=iteT h
theorem rd_iteNT {A B:Prop}(h:B):if (!true)=true then A else B:=iteF h
theorem cut_lo {ms:List Int}{k:Nat}:cutV (ms.map V.int) (some (k:Int)) none =(ms.drop k).map V.int:=by
 unfold cutV
 rw[HT.sIx_nat,HT.sIx_none,List.length_map,← List.map_drop]
 by_cases h:k≤ms.length
 ·rw[Nat.min_eq_left h,List.take_of_length_le (by rw[List.length_map,List.length_drop];omega)]
 ·rw[List.drop_eq_nil_of_le (by omega:ms.length≤min k ms.length),List.drop_eq_nil_of_le (by omega:ms.length≤k)]
  simp
theorem cut_hi {ms:List Int}{k:Nat}:cutV (ms.map V.int) none (some (k:Int)) =(ms.take k).map V.int:=by
 unfold cutV
 rw[HT.sIx_nat,HT.sIx_none,List.length_map,List.drop_zero,Nat.sub_zero,← List.map_take]
 by_cases h:k≤ms.length
 ·rw[Nat.min_eq_left h]
 ·rw[Nat.min_eq_right (by omega),List.take_of_length_le (Nat.le_refl _),List.take_of_length_le (by omega)]
theorem same_new {H:Hp}{p:Addr}(h:H p=none) (o:HO):Same H (upd H p o):=fun b u q=>by rw[upd_ne (ne_of_none q h)];exact q
end
end L2
namespace L2
open PySem PySem.Spec PyProof.Rows
mutual
inductive DV (K:PySem.W.Frag) (H:Hp):V→PyData→Prop
 | non:DV K H .non .none
 | bl (b:Bool):DV K H (.bl b) (.bool b)
 | int (i:Int):DV K H (.int i) (.int i)
 | str (x:Str):DV K H (.str x) (.str x)
 | lst {a:Addr}{xs:List V}{ds:List PyData}:SqL K H a xs→DVs K H xs ds→DV K H (.ref a) (.list ds)
 | tup {a:Addr}{xs:List V}{ds:List PyData}:SqT K H a xs→DVs K H xs ds→DV K H (.ref a) (.tuple ds)
inductive DVs (K:PySem.W.Frag) (H:Hp):List V→List PyData→Prop
 | nil:DVs K H [] []
 | cons {x:V}{d:PyData}{xs:List V}{ds:List PyData}:DV K H x d→DVs K H xs ds→DVs K H (x::xs) (d::ds)
end
section
variable {X:Cx}{pins:List (Addr×Obj)}{σ:St}{H:Hp}{s:Shared}
mutual
theorem DV.reads (I:Inv X pins σ H s):∀{x:V}{d:PyData}{v:Value},DV X.K H x d→RelV x v→∃as,Reads s.heap v d as
 | _,_,_,.non,r=>by cases r;exact⟨_,.none⟩
 | _,_,_,.bl b,r=>by cases r;exact⟨_,.bool b⟩
 | _,_,_,.int i,r=>by obtain⟨t,rfl⟩:=r;exact⟨_,.int i t⟩
 | _,_,_,.str x,r=>by obtain⟨t,rfl⟩:=r;exact⟨_,.str x t⟩
 | _,_,_,.lst (a:=a) h ds,r=>by
  cases r
  obtain⟨its,rv,⟨o,n,e,c,_,d⟩,_⟩:=I.list h
  obtain⟨as,q⟩:=DVs.reads I ds rv
  exact⟨_,.list e c d (by simpa using q)⟩
 | _,_,_,.tup (a:=a) h ds,r=>by
  cases r
  obtain⟨its,rv,⟨o,e,c,n,d⟩,_⟩:=I.tuple h
  obtain⟨as,q⟩:=DVs.reads I ds rv
  exact⟨_,.tuple e c d (by simpa using q)⟩
theorem DVs.reads (I:Inv X pins σ H s):∀{xs:List V}{ds:List PyData}{vs:List Value},DVs X.K H xs ds→Vals xs vs→∃as,ReadsAll s.heap vs ds as
 | _,_,_,.nil,r=>by cases r;exact⟨_,.nil⟩
 | _,_,_,.cons h t,r=>by
  cases r with
  | cons r1 r2 =>
   obtain⟨as,q⟩:=DV.reads I h r1
   obtain⟨bs,p⟩:=DVs.reads I t r2
   exact⟨_,.cons q p⟩
end
end
theorem DVs.ints {K:PySem.W.Frag}{H:Hp}:∀ns:List Int,DVs K H (ns.map V.int) (ns.map PyData.int)
 | []=>.nil
 | n::r=>.cons (.int n) (DVs.ints r)
theorem lay_ints:∀ns:List Int,PyData.canLayAll0 (ns.map PyData.int)=true∧PyData.depthAll (ns.map PyData.int)=0
 | []=>⟨rfl,rfl⟩
 | n::r=>by
  obtain⟨h1,h2⟩:=lay_ints r
  simp[PyData.canLayAll0,PyData.canLay0,PyData.depthAll,PyData.depth,h1,h2]
theorem shaped_ints (ns:List Int):SeqAt.shaped (.list (ns.map PyData.int))=true:=by
 obtain⟨h1,h2⟩:=lay_ints ns
 simp[SeqAt.shaped,PyData.canLay0,PyData.depth,h1,h2]
theorem eqv_ints:∀ns ms:List Int,PyData.eqvAll (ns.map PyData.int) (ms.map PyData.int)=decide (ns=ms)
 | [],[]=>rfl
 | [],_::_=>rfl
 | _::_,[]=>rfl
 | n::ns,m::ms=>by
  rw[List.map_cons,List.map_cons,PyData.eqvAll,PyData.eqv,eqv_ints ns ms,Bool.eq_iff_iff]
  simp
section
variable {X:Cx}
def rEqD (K:PySem.W.Frag):R2:=fun x y H Q=>∃d e,DV K H x d∧DV K H y e∧SeqAt.shaped d=true∧SeqAt.shaped e=true∧Q (.bl (PyData.eqv d e)) H
def rNeD (K:PySem.W.Frag):R2:=fun x y H Q=>∃d e,DV K H x d∧DV K H y e∧SeqAt.shaped d=true∧SeqAt.shaped e=true∧Q (.bl (!PyData.eqv d e)) H
theorem op_eqD (hu:X.A.units+64<cLine):OpR X (compareOp .Eq) (rEqD X.K):=by
 intro pins s σ H x y v u Q I rx ry h
 obtain⟨d,e,h1,h2,h3,h4,q⟩:=h
 obtain⟨as,r1⟩:=h1.reads I rx
 obtain⟨bs,r2⟩:=h2.reads I ry
 exact eq_dataH r1 r2 h3 h4 hu ⟨.bl _,H,I,rfl,q⟩
theorem op_neD (hu:X.A.units+64<cLine):OpR X (compareOp .NotEq) (rNeD X.K):=by
 intro pins s σ H x y v u Q I rx ry h
 obtain⟨d,e,h1,h2,h3,h4,q⟩:=h
 obtain⟨as,r1⟩:=h1.reads I rx
 obtain⟨bs,r2⟩:=h2.reads I ry
 exact ne_dataH r1 r2 h3 h4 hu ⟨.bl _,H,I,rfl,q⟩
end
end L2
namespace L2
open PySem PySem.Spec PyProof.Rows
section
variable {X:Cx}
theorem pe_gint {x:Str}{i:Int}{pos:Pos}(hg:Gl X x) (hm:∃t,X.mg x=some (.int i t)) (hd:(x ==("__debug__" : Str))=false:=by decide):PE X (.Name x pos) (tC (.int i)):=by
 obtain⟨t,hm⟩:=hm
 exact pe_glob hg hm ⟨_,rfl⟩ hd
theorem bools_get:∀{bs:List Bool}{its:List Value}{i:Nat}{v:Value},Vals (bs.map V.bl) its→its[i]? = some v→∃b,bs[i]? = some b∧v = .bool b
 | [],_,i,v,.nil,e=>by simp at e
 | b::bs,_,0,v,.cons r t,e=>by
  simp at e;subst e
  exact⟨b,rfl,r⟩
 | b::bs,_,i+1,v,.cons r t,e=>by
  obtain⟨c,h1,h2⟩:=bools_get (i:=i) (v:=v) t (by simpa using e)
  exact⟨c,by simpa using h1,h2⟩
theorem all_range (bs:List Bool):(List.range bs.length).all (fun i=>bs.getD i true)=bs.all id:=by
 rw[Bool.eq_iff_iff,List.all_eq_true,List.all_eq_true]
 constructor
 ·intro h b hb
  obtain⟨i,hi,rfl⟩:=List.mem_iff_getElem.mp hb
  have:=h i (List.mem_range.mpr hi)
  simpa [List.getD,hi] using this
 ·intro h i hi
  have hi':=List.mem_range.mp hi
  have:=h bs[i] (List.getElem_mem hi')
  simpa [List.getD,hi'] using this
theorem it_list {s:Shared}{l:Addr}{items:Array Value}{A:Around}{E:Value→Shared→Prop}{Q:Value→Shared→Prop}{prog:Program}{w:World}(hl:s.heap.IsList l items)
  (h:∀s₂:Shared,s₂ = { s with heap:=s.heap.push { cls:=.type "list_iterator",data:=.fields #[.ref l,.int 0 0] } }→(s₂.heap.IsListIter s.heap.objs.size l 0∧s₂.heap.IsList l items)→l≠s.heap.objs.size→Q (.ref s.heap.objs.size) s₂) :
  wpAny (model prog w) A (pyIter (.ref l)) Q E s:=by
 have hlt:l<s.heap.objs.size:=by obtain⟨_,e,_⟩:=hl;exact Heap.lt_size e
 exact wpAny_pyIter_list hl (h _ rfl ⟨⟨_,Heap.get?_push_size _ rfl,rfl,rfl⟩,hl.push _⟩ (Nat.ne_of_lt hlt))
def rAllL (K:PySem.W.Frag):List V→Hp→VK→Prop:=fun xs H Q=>∃a bs,xs=[.ref a]∧SqL K H a (List.map V.bl bs)∧Q (.bl (bs.all id)) H
theorem call_allL (hc:X.calm=true):CallR X (.builtin "all") (rAllL X.K):=by
 intro pins s σ H xs us Q I r h
 obtain⟨a,bs,rfl,hq,q⟩:=h
 obtain⟨u,rfl,r1⟩:=vals1 r
 cases (show u=Value.ref a from r1)
 obtain⟨its,rv,pl,hz⟩:=I.list hq
 have hlen:bs.length=its.length:=by simpa using rv.length
 refine call_all_walk (it_list pl.isList fun s₂ e st hne=>?_)
 subst e
 refine⟨_,_,_,_,_,_,fun i=>bs.getD i true,rfl,Walks.list (A:=X.A.in1) (I.ok.hd hc) _ a hne its.toArray,st,fun i v s' Q' E' hP hQ=>?_,fun h' tk hk=>?_⟩
 ·obtain⟨b,h1,rfl⟩:=bools_get rv (by simpa using hP)
  have e:bs.getD i true=b:=by simp[List.getD,h1]
  exact wpAny_truthy_bool (by have hQ2:=hQ;dsimp only at hQ2;rw[e]at hQ2;exact hQ2)
 ·refine⟨.bl (bs.all id),H,I.kept (fun b o e=>hk b o (fun z=>?_) (Heap.get?_push_of_some _ e)),?_,q⟩
  ·have z':b=s.heap.objs.size:=by simpa using z
   rw[z']at e
   exact absurd (Heap.lt_size e) (Nat.lt_irrefl _)
  ·show Value.bool _=Value.bool _
   rw[List.size_toArray,← hlen,all_range]
end
section
variable {X:Cx}{K:PySem.W.Frag}
theorem ix_tupK (h:X.K=K):IxR X (rIxT K):=by subst h;exact ix_tup
end
section
variable {σ:St}{H:Hp}{Q:VK}{D:Ends}
theorem rd_allL {K:PySem.W.Frag}{a:Addr}{bs:List Bool}(h:SqL K H a (bs.map V.bl)) (q:Q (.bl (bs.all id)) H):rAllL K [.ref a] H Q:=⟨a,bs,rfl,h,q⟩
theorem rd_ixT {K:PySem.W.Frag}{p:Addr}{xs:List V}{i:Int}{v:V}(h:SqT K H p xs) (e:atI xs i=some v) (q:Q v H):rIxT K (.ref p) (.int i) H Q:=⟨p,xs,i,v,rfl,rfl,h,e,q⟩
end
end L2
namespace L2
open PySem PySem.Spec PyProof.Rows
section
variable {κ:Type} [DecidableEq κ]
def valV (kvs:List (κ×V)) (k:κ):Option V:=(kvs.find? fun kv=>decide (kv.1=k)).map (·.2)
def putK (kvs:List (κ×V)) (k:κ) (v:V):List (κ×V) :=
 if (kvs.any fun kv=>decide (kv.1=k))=true then kvs.map (fun kv=>if kv.1=k then(kv.1,v) else kv) else kvs ++ [(k,v)]
theorem valV_pos {p:κ×V}{r:List (κ×V)}{k:κ}(e:p.1=k):valV (p::r) k=some p.2:=by simp[valV,List.find?_cons,e]
theorem valV_neg {p:κ×V}{r:List (κ×V)}{k:κ}(e:¬ p.1=k):valV (p::r) k=valV r k:=by simp[valV,List.find?_cons,e]
theorem valV_any (k:κ):∀kvs:List (κ×V),(kvs.any fun kv=>decide (kv.1=k)) =(valV kvs k).isSome
 | []=>rfl
 | p::r=>by
  rw[List.any_cons]
  by_cases e:p.1=k
  ·simp only[valV_pos e,decide_eq_true e,Bool.true_or,Option.isSome_some]
  ·rw[valV_neg e,decide_eq_false e,Bool.false_or];exact valV_any k r
theorem length_putK (kvs:List (κ×V)) (k:κ) (v:V):(putK kvs k v).length≤kvs.length+1:=by
 unfold putK
 split
 ·rw[List.length_map];omega
 ·rw[List.length_append,List.length_cons,List.length_nil];omega
theorem RelO.isSome_eq {o:Option V}{u:Option Value}(r:RelO o u):o.isSome=u.isSome:=by
 cases o with
 | none=>cases u with
  | none=>rfl
  | some _=>exact(show False from r).elim
 | some _=>cases u with
  | none=>exact(show False from r).elim
  | some _=>rfl
theorem KV.val {kvs:List (κ×V)}{vs:List (κ×Value)}(r:KV kvs vs) (k:κ):RelO (valV kvs k) (valueAt vs k):=by
 unfold KV at r
 induction r with
 | nil=>exact True.intro
 | @cons p q ps qs h t ih =>
  obtain⟨h1,h2⟩:=h
  by_cases e:p.1=k
  ·have e':q.1=k:=h1.symm.trans e
   have b:valueAt (q::qs) k=some q.2:=by simp[valueAt,List.find?_cons,e']
   rw[valV_pos e,b];exact h2
  ·have e':¬ q.1=k:=fun z=>e (h1.trans z)
   have b:valueAt (q::qs) k=valueAt qs k:=by simp[valueAt,List.find?_cons,e']
   rw[valV_neg e,b];exact ih
theorem KV.any {kvs:List (κ×V)}{vs:List (κ×Value)}(r:KV kvs vs) (k:κ):(kvs.any fun kv=>decide (kv.1=k))=vs.any fun kv=>decide (kv.1=k):=by
 unfold KV at r
 induction r with
 | nil=>rfl
 | cons h t ih=>rw[List.any_cons,List.any_cons,ih,h.1]
theorem KV.repl {kvs:List (κ×V)}{vs:List (κ×Value)}(r:KV kvs vs) (k:κ) {y:V}{u:Value}(ry:RelV y u) :
  KV (kvs.map fun kv=>if kv.1=k then(kv.1,y) else kv) (vs.map fun kv=>if kv.1=k then(kv.1,u) else kv):=by
 unfold KV at r ⊢
 induction r with
 | nil=>exact .nil
 | @cons p q ps qs h t ih =>
  rw[List.map_cons,List.map_cons]
  refine .cons ?_ ih
  obtain⟨h1,h2⟩:=h
  by_cases e:p.1=k
  ·rw[if_pos e,if_pos (h1.symm.trans e)];exact⟨h1,ry⟩
  ·rw[if_neg e,if_neg (fun z=>e (h1.trans z))];exact⟨h1,h2⟩
theorem KV.put {kvs:List (κ×V)}{vs:List (κ×Value)}(r:KV kvs vs) (k:κ) {y:V}{u:Value}(ry:RelV y u):KV (putK kvs k y) (stored vs k u):=by
 unfold putK stored
 rw[r.any k]
 by_cases e:(vs.any fun kv=>decide (kv.1=k))=true
 ·rw[if_pos e,if_pos e];exact r.repl k ry
 ·rw[if_neg e,if_neg e];exact Paired.snoc r ⟨rfl,ry⟩
theorem KV.length {kvs:List (κ×V)}{vs:List (κ×Value)}(r:KV kvs vs):kvs.length=vs.length:=Paired.length r
end
theorem kV_is {P:Program}{w:World}{k:Key}{u:Value}(r:RelV (kV k) u):(mixKind P w).is k u=true:=by
 cases k with
 | inl i=>obtain⟨t,e⟩:=(show ∃t,u=Value.int i t from r);subst e;exact mixKind_int P w i t
 | inr x=>obtain⟨t,e⟩:=(show ∃t,u=Value.str x t from r);subst e;exact mixKind_str P w x t
theorem items_are {P:Program}{w:World}:∀{ks:List Key}{us:List Value},Vals (ks.map kV) us→ItemsAre (mixKind P w) ks us
 | [],_,r=>by rw[List.map_nil]at r;cases r;exact .nil
 | k::ks,_,r=>by
  rw[List.map_cons]at r
  cases r with
  | cons h t=>exact .cons (kV_is h) (items_are t)
abbrev KT (H:Hp):List (List Key×V)→List (List Key×Addr×Value)→Prop:=Paired fun p q=>p.1=q.1∧H q.2.1=some (.tup (p.1.map kV))∧RelV p.2 q.2.2
theorem KT.val {H:Hp}{kvs:List (List Key×V)}{xs:List (List Key×Addr×Value)}(r:KT H kvs xs) (k:List Key):RelO (valV kvs k) ((atKey xs k).map (·.2)):=by
 induction r with
 | nil=>exact True.intro
 | @cons p q ps qs h t ih =>
  obtain⟨h1,_,h2⟩:=h
  by_cases e:p.1=k
  ·have e':q.1=k:=h1.symm.trans e
   have b:atKey (q::qs) k=some q.2:=by simp[atKey,List.find?_cons,e']
   rw[valV_pos e,b];exact h2
  ·have e':¬ q.1=k:=fun z=>e (h1.trans z)
   have b:atKey (q::qs) k=atKey qs k:=by simp[atKey,List.find?_cons,e']
   rw[valV_neg e,b];exact ih
theorem KT.repl {H:Hp}{kvs:List (List Key×V)}{xs:List (List Key×Addr×Value)}(r:KT H kvs xs) (k:List Key) {y:V}{u:Value}(ry:RelV y u) :
  KT H (kvs.map fun kv=>if kv.1=k then(kv.1,y) else kv) (xs.map (putAt k u)):=by
 induction r with
 | nil=>exact .nil
 | @cons p q ps qs h t ih =>
  rw[List.map_cons,List.map_cons]
  refine .cons ?_ ih
  obtain⟨h1,h2,h3⟩:=h
  unfold putAt
  by_cases e:p.1=k
  ·rw[if_pos e,if_pos (h1.symm.trans e)];exact⟨h1,h2,ry⟩
  ·rw[if_neg e,if_neg (fun z=>e (h1.trans z))];exact⟨h1,h2,h3⟩
theorem KT.put {H:Hp}{kvs:List (List Key×V)}{xs:List (List Key×Addr×Value)}(r:KT H kvs xs) (k:List Key) {b:Addr}{y:V}{u:Value}(hb:H b=some (.tup (k.map kV))) (ry:RelV y u) :
  KT H (putK kvs k y) (storedH xs k b u):=by
 have e:(kvs.any fun kv=>decide (kv.1=k)) =(atKey xs k).isSome:=by
  rw[valV_any,(r.val k).isSome_eq,Option.isSome_map]
 unfold putK storedH
 rw[e]
 by_cases q:(atKey xs k).isSome=true
 ·rw[if_pos q,if_pos q];exact r.repl k ry
 ·rw[if_neg q,if_neg q];exact Paired.snoc r ⟨rfl,hb,ry⟩
theorem KT.keeps {H H':Hp}{kvs:List (List Key×V)}{xs:List (List Key×Addr×Value)}(r:KT H kvs xs) (ht:∀b ys,H b=some (.tup ys)→H' b=some (.tup ys)):KT H' kvs xs :=
 Paired.mapP r fun _ _ z=>⟨z.1,ht _ _ z.2.1,z.2.2⟩
section
variable {P:Program}{w:World}{H:Hp}{h:Heap}{a:Addr}
theorem rd_of {u:HO}(ok:HOk P w H h) (e:Rd H a u):ObjOk P w H h a u:=e.ok ok
theorem dk_rd {kvs:List (Key×V)}(ok:HOk P w H h) (e:Rd H a (.dK kvs)):kvs.length≤sizeLine∧(a == sysModules)=false∧∃vs,KV kvs vs∧h.DictOf (mixKind P w) a vs :=
 show ObjOk P w H h a (.dK kvs) from rd_of ok e
theorem dk_of {kvs:List (Key×V)}(ok:HOk P w H h) (e:H a=some (.dK kvs)):kvs.length≤sizeLine∧(a == sysModules)=false∧∃vs,KV kvs vs∧h.DictOf (mixKind P w) a vs:=dk_rd ok (.inl e)
theorem key_of {ks:List Key}(ok:HOk P w H h) (e:H a=some (.tup (ks.map kV))):(tupleKind (mixKind P w)).is h ks a:=by
 obtain⟨_,its,r,o,h1,h2,n,h3⟩:=(show ObjOk P w H h a (.tup (ks.map kV)) from ok a _ e)
 exact⟨o,its.toArray,n,h1,h2,h3,by simpa using items_are r⟩
theorem dt_rd {kvs:List (List Key×V)}(ok:HOk P w H h) (e:Rd H a (.dT kvs)):kvs.length≤sizeLine∧(a == sysModules)=false ∧
  ∃xs,KT H kvs xs∧h.DictOfH (tupleKind (mixKind P w)) a xs:=by
 obtain⟨z,y,xs,r,o,es,ep,h1,h2,h3,h4,h5⟩:=(show ObjOk P w H h a (.dT kvs) from rd_of ok e)
 refine⟨z,y,xs,r,o,es,ep,h1,h2,h3,h4,fun x hx=>?_,h5⟩
 have all:∀{l:List (List Key×V)}{m:List (List Key×Addr×Value)},KT H l m→∀x∈m,(tupleKind (mixKind P w)).is h x.1 x.2.1:=by
  intro l m q
  induction q with
  | nil=>intro x hx;exact nomatch hx
  | @cons p q ps qs hq t ih =>
   intro x hx
   rcases List.mem_cons.mp hx with e|hx
   ·subst e
    exact key_of ok (by rw[← hq.1];exact hq.2.1)
   ·exact ih x hx
 exact all r x hx
theorem dt_of {kvs:List (List Key×V)}(ok:HOk P w H h) (e:H a=some (.dT kvs)):kvs.length≤sizeLine∧(a == sysModules)=false ∧
  ∃xs,KT H kvs xs∧h.DictOfH (tupleKind (mixKind P w)) a xs:=dt_rd ok (.inl e)
end
def DGet (H:Hp) (a:Addr) (y:V) (r:Option V):Prop :=
 (∃kvs k,Rd H a (.dK kvs)∧y=kV k∧r=valV kvs k) ∨ ∃kvs k b,Rd H a (.dT kvs)∧y = .ref b∧H b=some (.tup (k.map kV))∧r=valV kvs k
def DPut (H:Hp) (a:Addr) (y v:V) (H':Hp):Prop :=
 (∃kvs k,H a=some (.dK kvs)∧y=kV k∧kvs.length<sizeLine∧H'=upd H a (.dK (putK kvs k v))) ∨
 ∃kvs k b,H a=some (.dT kvs)∧y = .ref b∧H b=some (.tup (k.map kV))∧kvs.length<sizeLine∧H'=upd H a (.dT (putK kvs k v))
theorem DGet.k {H:Hp}{a:Addr}{kvs:List (Key×V)}{k:Key}(e:H a=some (.dK kvs)):DGet H a (kV k) (valV kvs k):=.inl ⟨kvs,k,.inl e,rfl,rfl⟩
theorem DPut.k {H:Hp}{a:Addr}{kvs:List (Key×V)}{k:Key}{v:V}(e:H a=some (.dK kvs)) (hl:kvs.length<sizeLine):DPut H a (kV k) v (upd H a (.dK (putK kvs k v))):=.inl ⟨kvs,k,e,rfl,hl,rfl⟩
section
variable {X:Cx}{pins:List (Addr×Obj)}{σ:St}{H:Hp}{s:Shared}{a:Addr}{y v:V}{u r:Value}{o:Option V}{A:Around}{E:Value→Shared→Prop}
theorem Inv.big (I:Inv X pins σ H s):sysModules<s.heap.objs.size:=by
 have h:mainGlobals<s.heap.objs.size:=(I.mod.glob.keeps I.bk).lt
 exact Nat.lt_trans (by decide) h
theorem d_getItem {Q:Value→Shared→Prop}(hu:A.units+1<cLine) (I:Inv X pins σ H s) (g:DGet H a y (some v)) (ry:RelV y u) (h:∀w' s',Inv X pins σ H s'→RelV v w'→Q w' s') :
  wpAny (model X.prog X.w) A (getItem (.ref a) u) Q E s:=by
 rcases g with⟨kvs,k,e,ey,l⟩|⟨kvs,k,b,e,ey,eb,l⟩
 ·subst ey
  obtain⟨z,hd,vs,rel,dd⟩:=dk_rd I.hok e
  obtain⟨w',hw,rw'⟩:=RelO.some_of (v:=v) (o:=valueAt vs k) (by rw[l];exact rel.val k)
  exact wpAny_getItem_of (kV_is ry) dd.mapOf hw (h w' _ (I.tok _) rw')
 ·subst ey
  cases (show u=Value.ref b from ry)
  obtain⟨z,hd,xs,rel,dd⟩:=dt_rd I.hok e
  obtain⟨w',hw,rw'⟩:=RelO.some_of (v:=v) (o:=(atKey xs k).map (·.2)) (by rw[l];exact rel.val k)
  obtain⟨p,hp,hp2⟩:=Option.map_eq_some_iff.mp hw
  refine wpAny_getItem_heap (tupleKind_room_in1 hu) (key_of I.hok eb) dd hp ?_
  rw[hp2]
  exact h w' _ (I.tok _) rw'
theorem d_notIn {Q:Value→Shared→Prop}(hu:A.units+1<cLine) (I:Inv X pins σ H s) (g:DGet H a y o) (ry:RelV y u) (h:∀s',Inv X pins σ H s'→Q (.bool (!o.isSome)) s') :
  wpAny (model X.prog X.w) A (compareOp .NotIn u (.ref a)) Q E s:=by
 rcases g with⟨kvs,k,e,ey,l⟩|⟨kvs,k,b,e,ey,eb,l⟩
 ·subst ey
  obtain⟨z,hd,vs,rel,dd⟩:=dk_rd I.hok e
  refine wpAny_notIn_of (kV_is ry) hd dd.mapOf ?_
  rw[←(rel.val k).isSome_eq,← l]
  exact h _ (I.tok _)
 ·subst ey
  cases (show u=Value.ref b from ry)
  obtain⟨z,hd,xs,rel,dd⟩:=dt_rd I.hok e
  refine wpAny_notIn_heap (tupleKind_room_in1 hu) (key_of I.hok eb) hd dd ?_
  have q:=(rel.val k).isSome_eq
  rw[Option.isSome_map]at q
  rw[← q,← l]
  exact h _ (I.tok _)
theorem d_write {h':Heap}{t':Nat}{ob:HO}(I:Inv X pins σ H s) (mu:Mut (H a)) (hs:Heap.SameBut a s.heap h') (he:∃q,h'.get? a=some q) (new:ObjOk X.prog X.w (upd H a ob) h' a ob) :
  Inv X pins σ (upd H a ob) { s with heap:=h',toks:=t' } :=
 I.write (x:=a) (e:=a) mu (.inl rfl) (fun b q hb z=>(hs.2 b hb).trans z) he new
theorem dk_new {P:Program}{w:World}{H':Hp}{h':Heap}{kvs:List (Key×V)}{vs:List (Key×Value)}(z:kvs.length≤sizeLine) (hd:(a == sysModules)=false) (rel:KV kvs vs) (dd:h'.DictOf (mixKind P w) a vs) :
  ObjOk P w H' h' a (.dK kvs):=⟨z,hd,vs,rel,dd⟩
theorem d_setItem {H':Hp}{Q:Unit→Shared→Prop}(hu:A.units+1<cLine) (I:Inv X pins σ H s) (g:DPut H a y v H') (ry:RelV y u) (rv:RelV v r) (h:∀s',Inv X pins σ H' s'→Q () s') :
  wpAny (model X.prog X.w) A (setItem (.ref a) u r) Q E s:=by
 rcases g with⟨kvs,k,e,ey,l,eH⟩|⟨kvs,k,b,e,ey,eb,l,eH⟩
 ·subst ey eH
  obtain⟨z,hd,vs,rel,dd⟩:=dk_of I.hok e
  have hz:vs.length≤sizeLine:=by rw[← rel.length];exact z
  have hl:(putK kvs k v).length≤sizeLine:=by have:=length_putK kvs k v;omega
  refine wpAny_setItem_pairs (hsz:=hz) (kV_is ry) dd fun h' dd' hs=>h _ ?_
  have he:∃q,h'.get? a=some q:=let ⟨q,_,_,hq,_⟩:=dd';⟨q,hq⟩
  exact d_write I (by rw[e];exact True.intro) hs he (dk_new hl hd (rel.put k rv) dd')
 ·subst ey eH
  cases (show u=Value.ref b from ry)
  obtain⟨z,hd,xs,rel,dd⟩:=dt_of I.hok e
  have hz:xs.length≤sizeLine:=by rw[← Paired.length rel];exact z
  have hl:(putK kvs k v).length≤sizeLine:=by have:=length_putK kvs k v;omega
  refine wpAny_setItem_heap (hsz:=hz) (tupleKind_room_in1 hu) (key_of I.hok eb) dd fun h' dd' hs=>h _ ?_
  obtain⟨q,es,ep,hq,h2,h3,h4,_,h5⟩:=dd'
  refine d_write I (by rw[e];exact True.intro) hs ⟨q,hq⟩ ⟨hl,hd,_,(rel.put k eb rv).keeps fun c ys ec=>?_,q,es,ep,hq,h2,h3,h4,h5⟩
  rw[upd_ne (ne_of ec e (fun z=>nomatch z))]
  exact ec
end
section
variable {X:Cx}{pins:List (Addr×Obj)}{σ:St}{H:Hp}{s:Shared}{a:Addr}{kvs:List (Key×V)}{k:Key}{u:Value}{A:Around}{E:Value→Shared→Prop}
theorem d_len {Q:Value→Shared→Prop}(I:Inv X pins σ H s) (e:Rd H a (.dK kvs)) (h:∀t s',Inv X pins σ H s'→Q (.int kvs.length t) s'):wpAny (model X.prog X.w) A (call (.builtin "len") [.ref a]) Q E s:=by
 obtain⟨z,hd,vs,rel,dd⟩:=dk_rd I.hok e
 refine call_len_dict hd dd (by rw[← rel.length];rw[sizeLine_eq]at z;omega) ?_
 rw[← rel.length]
 exact h _ _ (I.tok _)
end
def NoSl (i:Expr):Prop:=∀ov iv,subscripted i false ov iv=operate [ov,iv] (getItem ov iv)
theorem subD_of {prog:Program}{w:World}{A:Around}{E:Value→Shared→Prop}{s:Shared}{env:Env}{value slice:Expr}{pos:Pos}{T id:String}{Q:Value→Shared→Prop}
  (hl:typeLookup (.type T) "__getitem__" = pure (some (.builtin id))) (hs:NoSl slice)
  (h:wpAny (model prog w) A (eval value env) (fun o s₁=>wpAny (model prog w) A (eval slice env) (fun i s₂=>s₂.TypeIs o T∧wpAny (model prog w) A (getItem o i) Q E s₂) E s₁) E s) :
  wpAny (model prog w) A (eval (.Subscript value slice pos) env) Q E s:=by
 refine Subscript_ (wpAny_mono h (fun o s₁ h₁=>wpAny_mono h₁ (fun i s₂ h₂=>?_) fun _ _ x=>x) fun _ _ x=>x)
 obtain⟨hT,h₂⟩:=h₂
 unfold subscriptTail
 refine wpAny_bind ?_
 rw[getitemInPython_of_ne hT.not_modules]
 refine wpAny_bind (wpAny_specialOf hT hl ?_)
 have fin:wpAny (model prog w) A (subscripted slice false o i) (fun r s₃=>wpAny (model prog w) A (letTemporaryGo value o r >>= fun _=>pure r) Q E s₃) E s₂:=by
  rw[hs o i]
  exact wpAny_operating (wpAny_mono h₂ (fun r s₃ h₃=>wpAny_bind (wpAny_letTemporaryGo (wpAny_pure h₃))) fun _ _ x=>x)
 first
  | exact wpAny_pure (wpAny_bind fin)
  | exact wpAny_bind (wpAny_pure (wpAny_bind fin))
  | exact wpAny_bind fin
theorem dict_typeIs {X:Cx}{pins:List (Addr×Obj)}{σ:St}{H:Hp}{s:Shared}{a:Addr}{y:V}{o:Option V}(I:Inv X pins σ H s) (g:DGet H a y o):s.TypeIs (.ref a) "dict" := by
 rcases g with⟨kvs,k,e,_,_⟩|⟨kvs,k,b,e,_,_,_⟩
 ·obtain⟨_,_,vs,_,dd⟩:=dk_rd I.hok e
  exact dd.typeIs
 ·obtain⟨_,_,xs,_,dd⟩:=dt_rd I.hok e
  exact dd.typeIs
def tDGet (td ty:TE):TE:=fun σ H Q=>td σ H fun x H1=>ty σ H1 fun y H2=>∃a v,x = .ref a∧DGet H2 a y (some v)∧Q v H2
def tDNotIn (ty td:TE):TE:=fun σ H Q=>ty σ H fun y H1=>td σ H1 fun x H2=>∃a o,x = .ref a∧DGet H2 a y o∧Q (.bl (!o.isSome)) H2
def sDPut (td ty tv:TE):TS:=fun D σ H=>tv σ H fun v H1=>td σ H1 fun x H2=>ty σ H2 fun y H3=>∃a H4,x = .ref a∧DPut H3 a y v H4∧D.nx σ H4
section
variable {X:Cx}{o i e value:Expr}{pos pos' tpos:Pos}{td ty tv:TE}
theorem pe_dget (hu:X.A.units+1<cLine) (ho:PE X o td) (hi:PE X i ty) (hs:NoSl i):PE X (.Subscript o i pos) (tDGet td ty):=by
 intro pins s σ H Q I h
 refine subD_of PySem.F.slot_dict_getitem.lookup hs (thn (ho pins s σ H _ I h) fun u s1 ⟨x,H1,I1,rx,q1⟩=>thn (hi pins s1 σ H1 _ I1 q1) fun iv s2 ⟨y,H2,I2,ry,a,v,ex,g,q2⟩=>?_)
 subst ex
 obtain rfl:u=Value.ref a:=rx
 exact⟨dict_typeIs I2 g,d_getItem hu I2 g ry fun w' s3 I3 rw'=>⟨v,H2,I3,rw',q2⟩⟩
theorem pc_dnotin (hu:X.A.units+1<cLine) (hi:PE X i ty) (ho:PE X o td):PC X .NotIn i o (tDNotIn ty td):=by
 intro pins s σ H Q I h
 refine thn (hi pins s σ H _ I h) fun iv s1 ⟨y,H1,I1,ry,q1⟩=>thn (ho pins s1 σ H1 _ I1 q1) fun u s2 ⟨x,H2,I2,rx,a,ov,ex,g,q2⟩=>?_
 subst ex
 obtain rfl:u=Value.ref a:=rx
 exact d_notIn hu I2 g ry fun s3 I3=>⟨.bl (!ov.isSome),H2,I3,rfl,q2⟩
theorem ps_dput (hu:X.A.units+1<cLine) (ho:PE X o td) (hi:PE X i ty) (hv:PE X value tv) (hs:swapsWith value (some (.Subscript o i pos')) pos.line X.env=pure false) :
  PS X (.Assign [.Subscript o i pos'] value pos) (sDPut td ty tv):=by
 intro pins s σ H D I h
 refine wpAny_Assign_Subscript (thn (hv pins s σ H _ I h) fun r s1 ⟨v,H1,I1,rv,q1⟩=>thn (ho pins s1 σ H1 _ I1 q1) fun u s2 ⟨x,H2,I2,rx,q2⟩=>thn (hi pins s2 σ H2 _ I2 q2) fun iv s3 ⟨y,H3,I3,ry,a,H4,ex,g,q3⟩=>?_) hs
 subst ex
 obtain rfl:u=Value.ref a:=rx
 exact d_setItem hu I3 g ry rv fun s4 I4=>⟨σ,H4,I4,q3⟩
end
theorem dk_empty {P:Program}{w:World}{H:Hp}(h:Heap) (hb:sysModules<h.objs.size):ObjOk P w H (h.push { cls:=.type "dict",data:=.dict #[] }) h.objs.size (.dK []) :=
 ⟨Nat.zero_le _,beq_eq_false_iff_ne.mpr (Ne.symm (Nat.ne_of_lt hb)),[],.nil,Heap.DictOf.new h⟩
def tDNewK:TE:=fun _ H Q=>∀p,H p=none→Q (.ref p) (upd H p (.dK []))
section
variable {X:Cx}{pos:Pos}
theorem pe_dnewK:PE X (.Dict [] [] pos) tDNewK:=fun pins s σ H Q I h =>
 wpAny_Dict_empty ⟨.ref s.heap.objs.size,_,I.laid (a:=s.heap.objs.size) (o:=.dK []) (t':=s.toks) (fun _ _ q=>Heap.get?_push_of_some _ q) (Nat.le_refl _) (dk_empty s.heap I.big),rfl,h _ (I.hok.fresh (Nat.le_refl _))⟩
end
section
variable {X:Cx}{pins:List (Addr×Obj)}{σ:St}{H:Hp}{s:Shared}{a:Addr}{y d:V}{u r:Value}{o:Option V}{A:Around}{E:Value→Shared→Prop}
end
section
variable {X:Cx}{o e f:Expr}{apos cpos:Pos}{td ty tx:TE}
end
section
variable {X:Cx}{pins:List (Addr×Obj)}{σ:St}{H:Hp}{s:Shared}{a:Addr}{kvs:List (Key×V)}{A:Around}{E:Value→Shared→Prop}
end
section
variable {X:Cx}{pins:List (Addr×Obj)}{σ:St}{H:Hp}{s:Shared}{a:Addr}{y:V}{u:Value}{A:Around}{E:Value→Shared→Prop}
end
end L2
namespace L2
open PySem PySem.Spec PyProof.Rows
section
variable {X:Cx}
def rLeS:R2:=fun x y H Q=>∃i j,x = .str i∧y = .str j∧Q (.bl (!decide (j.cps.toList<i.cps.toList))) H
def rLenS:List V→Hp→VK→Prop:=fun xs H Q=>∃z,xs=[.str z]∧z.length≤sizeLine∧Q (.int z.length) H
theorem call_lenS:CallR X (.builtin "len") rLenS:=call_len_str
theorem op_le_str:OpR X (compareOp .LtE) rLeS:=by
 intro pins s σ H x y v u Q I rx ry h
 obtain⟨i,j,rfl,rfl,q⟩:=h
 obtain⟨t,rfl⟩:=rx
 obtain⟨t',rfl⟩:=ry
 exact PySem.P.le_str (fin_bl I q rfl)
theorem strsAre_of {ns:List Str}:∀{us:List Value},Vals (ns.map V.str) us→StrsAre us ns:=by
 induction ns with
 | nil=>intro us r;cases r;exact .nil
 | cons n ns ih =>
  intro us r
  cases r with
  | cons r t =>
   obtain⟨tk,rfl⟩:=r
   exact .cons n tk (ih t)
def rJoin (K:PySem.W.Frag):V→List V→Hp→VK→Prop:=fun x vs H Q=>∃z a ys,x = .str z∧vs=[.ref a]∧SqL K H a (List.map V.str ys)∧(ys.map (·.length)).sum+ys.length*z.length≤16777216∧Q (.str (Txt.join z ys)) H
theorem mt_join:MtR X "str.join" (rJoin X.K):=by
 intro pins s σ H x xs v us Q I rx rs h
 obtain⟨z,a,ys,rfl,rfl,hq,hz,q⟩:=h
 obtain⟨t,rfl⟩:=rx
 obtain⟨u,rfl,ru⟩:=vals1 rs
 cases (show u=Value.ref a from ru)
 obtain⟨its,rv,pl,_⟩:=I.list hq
 exact join_list pl.isList (by simpa using strsAre_of rv) hz fun t' k=>⟨.str _,H,I.tok _,⟨_,rfl⟩,q⟩
end
def Its (x:Str):It:=⟨fun i _=>i<x.cps.size,fun i H v H'=>H'=H∧∃c,x.cps[i]? = some c∧v = .str ⟨#[c]⟩,fun i _=>x.cps.size≤i⟩
theorem go_str (tg:Expr) (it:Addr) (x:Str) (t:Tok):letOwnedTupleGo tg (.ref it) (.str x t)=pure ():=by
 cases tg <;> rfl
theorem turn_strG {P:Program}{w:World}{K:PySem.W.Frag}{tg:Expr}(it:Addr) (ty:String) (x:Str) (t:Tok)
  (W:∀A':Around,A'.handled=none→Walks P w A' it [it] [it] x.cps.size (SignAt x) (fun i h=>h.IsStrIter it ty x t i))
  (S:∀(A':Around) (i:Nat) (s:Shared) (Q:Value→Shared→Prop) (E:Value→Shared→Prop),s.heap.IsStrIter it ty x t i→Q (.ref it) s→wpAny (model P w) A' (pyIter (.ref it)) Q E s):Turn P w K tg (Its x) [it] it (fun i h=>h.IsStrIter it ty x t i∧i≤x.cps.size) where
 mem:=by simp
 obj:=fun i h st b hb=>by
  have e:b=it:=by simpa using hb
  subst e
  obtain⟨o,e,c,d⟩:=st.1
  exact⟨o,e,fun v z=>by rw[d]at z;cases z⟩
 keep:=fun i h h' st k=>⟨let ⟨o,ho,r⟩:=st.1;⟨o,k it (by simp) o ho,r⟩,st.2⟩
 item:=by
  intro X hP hw hK hc i pins s σ H E I hf st hg
  subst hP hw hK
  obtain⟨f0,f1,f2,f3,f4,f5⟩:=hf it (by simp)
  refine(W X.A (I.ok.hd hc)).item i s _ _ hg st.1 fun v h' tk hv st' kk=>?_
  obtain⟨c,u,hcx,rfl⟩:=hv
  have I1:Inv X pins σ H { s with heap:=h',toks:=tk }:=I.turned (fun b o hb e=>kk b o (by simpa using hb) e) f0 f1 f3 f4 f5
  refine⟨_,rfl,?_⟩
  rw[go_str tg]
  have hg':i<x.cps.size:=hg
  exact wpAny_pure ⟨.str ⟨#[c]⟩,H,I1,⟨u,rfl⟩,⟨rfl,c,hcx,rfl⟩,⟨st',hg'⟩,fun b hb=>(hf b hb).1⟩
 done:=by
  intro X hP hw hK hc i pins s σ H E I hf st hg
  subst hP hw hK
  obtain⟨f0,f1,f2,f3,f4,f5⟩:=hf it (by simp)
  have e:i=x.cps.size:=Nat.le_antisymm st.2 hg
  subst e
  exact(W X.A (I.ok.hd hc)).done s _ _ st.1 fun h' tk kk=>⟨rfl,I.turned (fun b o hb e=>kk b o (by simpa using hb) e) f0 f1 f3 f4 f5⟩
 self:=fun A' i s Q E st h=>S A' i s Q E st.1 h
section
variable {X:Cx}{tg:Expr}
def iStr (tl:TE):TI:=fun σ H R=>tl σ H fun x H1=>∃z,x = .str z∧R (Its z) H1
theorem pi_str {l:Expr}{tl:TE}(hl:PE X l tl):PI X tg l (iStr tl):=by
 intro pins s σ H R I h
 refine thn (hl pins s σ H _ I h) fun v s1 ⟨x,H1,I1,r1,q1⟩=>?_
 obtain⟨z,rfl,q⟩:=q1
 obtain⟨t,rfl⟩:=r1
 have fp:∀(o:Obj),∀b ∈ [s1.heap.objs.size],FpOk X pins H1 b:=fun o b hb=>by
  have e:b=s1.heap.objs.size:=by simpa using hb
  subst e
  exact I1.fpOk (Nat.le_refl _) (I1.hok.fresh (Nat.le_refl _))
 cases ha:z.cps.all (· < 128)
 ·refine wpAny_pyIter_wide ha ?_
  exact⟨s1.heap.objs.size,[s1.heap.objs.size],_,_,H1,rfl,I1.kept (t':=s1.toks) fun b o e=>Heap.get?_push_of_some _ e,
   turn_strG s1.heap.objs.size "str_iterator" z t (fun A' hA=>Walks.strWide hA _ z t) (fun _ _ _ _ _ st h=>wpAny_pyIter_striter_wide st h),⟨⟨_,Heap.get?_push_size _ rfl,rfl,rfl⟩,Nat.zero_le _⟩,fp default,q⟩
 ·refine wpAny_pyIter_ascii ha ?_
  exact⟨s1.heap.objs.size,[s1.heap.objs.size],_,_,H1,rfl,I1.kept (t':=s1.toks) fun b o e=>Heap.get?_push_of_some _ e,
   turn_strG s1.heap.objs.size "str_ascii_iterator" z t (fun A' hA=>Walks.strAscii hA _ z t) (fun _ _ _ _ _ st h=>wpAny_pyIter_striter_ascii st h),⟨⟨_,Heap.get?_push_size _ rfl,rfl,rfl⟩,Nat.zero_le _⟩,fp default,q⟩
end
section
variable {σ:St}{H:Hp}{Q:VK}{D:Ends}
theorem rd_leS {i j:Str}(q:Q (.bl (!decide (j.cps.toList<i.cps.toList))) H):rLeS (.str i) (.str j) H Q:=⟨i,j,rfl,rfl,q⟩
theorem rd_lenS {z:Str}(h:z.length≤sizeLine) (q:Q (.int z.length) H):rLenS [.str z] H Q:=⟨z,rfl,h,q⟩
theorem rd_ixS {z:Str}{i:Int}{c:Nat}(h:z.length≤sizeLine) (e:atI z.cps.toList i=some c) (q:Q (.str ⟨#[c]⟩) H):rIxS (.str z) (.int i) H Q:=⟨z,i,c,rfl,rfl,h,e,q⟩
theorem rd_istr {tl:TE}{R:It→Hp→Prop}(h:tl σ H fun x H1=>∃z,x = .str z∧R (Its z) H1):iStr tl σ H R:=h
theorem comp_str {vs:List Str}{js:List Nat}{g:TG}{tt:TT}{te:TE}{z:Str}(Pv:Nat→St→List V→Hp→Prop) (D:Addr) (h0:Pv 0 (blkSt vs js σ) [] (upd H D (.lst [])))
  (hs:∀i c σ' ys H',z.cps[i]? = some c→Pv i σ' ys H'→g (.str ⟨#[c]⟩) σ' H' fun σ3 H3=>tt σ3 H3 fun b H4=>if b=true then te σ3 H4 fun y H5=>H5 D=some (.lst ys)∧ys.length<sizeLine∧Pv (i+1) σ3 (ys ++ [y]) (upd H5 D (.lst (ys ++ [y]))) else Pv (i+1) σ3 ys H4)
  (hd:∀σ' ys H',Pv z.cps.size σ' ys H'→Q (.ref D) H'):CompW (Its z) vs js σ g tt te Q D H:=by
 refine⟨fun i m σ' ys H'=>m=z.cps.size-i∧i≤z.cps.size∧Pv i σ' ys H',⟨z.cps.size,by simp,Nat.zero_le _,h0⟩,?_⟩
 rintro i m σ' ys H' ⟨rfl,hi,p⟩
 by_cases hlt:i<z.cps.size
 ·refine .inr ⟨hlt,Pv (i+1),fun σ2 zs H2 p'=>⟨z.cps.size-(i+1),by omega,rfl,hlt,p'⟩,fun x H2 y=>?_⟩
  obtain⟨e,c,hc,y⟩:=y
  subst e y
  exact hs i c σ' ys _ hc p
 ·have e:i=z.cps.size:=by omega
  subst e
  exact .inl ⟨Nat.le_refl _,hd σ' ys H' p⟩
end
end L2
namespace L2
open PySem PySem.Spec PyProof.Rows
section
variable {es:List Expr}{env:Env}
theorem stx_Constant {c j p}:starEach (.Constant c j p::es) env =(false,eval (.Constant c j p) env)::starEach es env:=rfl
theorem stx_Name {x p}:starEach (.Name x p::es) env =(false,eval (.Name x p) env)::starEach es env:=rfl
theorem stx_BinOp {a o b p}:starEach (.BinOp a o b p::es) env =(false,eval (.BinOp a o b p) env)::starEach es env:=rfl
theorem stx_UnaryOp {o b p}:starEach (.UnaryOp o b p::es) env =(false,eval (.UnaryOp o b p) env)::starEach es env:=rfl
theorem stx_Call {a o b p}:starEach (.Call a o b p::es) env =(false,eval (.Call a o b p) env)::starEach es env:=rfl
theorem stx_Attribute {a o p}:starEach (.Attribute a o p::es) env =(false,eval (.Attribute a o p) env)::starEach es env:=rfl
theorem stx_Subscript {a o p}:starEach (.Subscript a o p::es) env =(false,eval (.Subscript a o p) env)::starEach es env:=rfl
theorem stx_List {a p}:starEach (.List a p::es) env =(false,eval (.List a p) env)::starEach es env:=rfl
theorem stx_Tuple {a k p}:starEach (.Tuple a k p::es) env =(false,eval (.Tuple a k p) env)::starEach es env:=rfl
theorem stx_Dict {a k p}:starEach (.Dict a k p::es) env =(false,eval (.Dict a k p) env)::starEach es env:=rfl
theorem stx_ListComp {a b c p}:starEach (.ListComp a b c p::es) env =(false,eval (.ListComp a b c p) env)::starEach es env:=rfl
end
end L2
namespace L2
open PySem PySem.Spec PyProof.Rows
section
variable {X:Cx}
end
end L2
namespace L2
open PySem PySem.Spec PyProof.Rows
section
variable {X:Cx}
end
section
variable {K:PySem.W.Frag}{H:Hp}{Q:VK}{σ:St}
theorem flat_ints:∀ns:List Int,(ns.map V.int).all flatV=true
 | []=>rfl
 | n::r=>by rw[List.map_cons,List.all_cons,flat_ints r];rfl
theorem inV_ints (k:Int):∀ns:List Int,inV (.int k) (ns.map V.int)=decide (k∈ns)
 | []=>by simp[inV]
 | n::r=>by
  have ih:=inV_ints k r
  unfold inV at ih ⊢
  rw[List.map_cons,List.any_cons,ih]
  have e:eqV (V.int n) (V.int k)=decide (k=n):=by
   by_cases h:k=n
   ·subst h;simp[eqV]
   ·rw[decide_eq_false h]
    have h2:¬ n=k:=fun z=>h z.symm
    simp[eqV,h2]
  rw[e]
  simp[List.mem_cons]
theorem rd_inI {a:Addr}{ns:List Int}{k:Int}(h:SqL K H a (ns.map V.int)) (q:Q (.bl (decide (k∈ns))) H):rIn K false (.int k) (.ref a) H Q :=
 ⟨a,_,rfl,.inl h,rfl,flat_ints ns,by rw[inV_ints];exact q⟩
end
end L2
namespace L2
open PySem PySem.Spec PyProof.Rows
section
variable {X:Cx}{pins:List (Addr×Obj)}{σ:St}{H:Hp}{s:Shared}{h':Heap}
theorem Inv.turnedL {t':Nat}{ch:List Addr}(I:Inv X pins σ H s) (k:∀b o,b∉ch→s.heap.get? b=some o→h'.get? b=some o) (f:∀b∈ch,FpOk X pins H b):Inv X pins σ H { s with heap:=h',toks:=t' }:=by
 have nit:∀b u,H b=some u→b∉ch:=fun b u e z=>by rw[(f b z).1]at e;cases e
 refine I.step (g':=s.gens) (d':=s.drawn) (ch:=ch) (fun b hb=>?_) (fun b o _ _ hc e _=>k b o hc e) (fun b o _ _ hc e _=>⟨o.slots,k b o hc e⟩) (fun _ _ _ _ n=>n) (fun b o hc e=>⟨o,k b o hc e⟩) (fun _ _ e=>e) (fun _ _ _ e=>e)
  (fun b ps e=>⟨#[],by rw[e];simp⟩) (fun m hm=>?_) (fun b u e=>?_) I.bare
 ·obtain⟨f0,f1,f2,f3,f4,f5⟩:=f b hb
  exact⟨f3,f1,f4,f5⟩
 ·obtain⟨o,es,ep,ho,r⟩:=hm
  exact⟨o,es,ep,k _ o (fun z=>(f _ z).2.1 rfl) ho,r⟩
 ·refine(I.hok b u e).stay (fun c v hc q=>k c v ?_ q) (fun _ q=>q) fun _ _ q=>q
  rcases hc with z|z
  ·rw[z];exact nit b u e
  ·exact nit c _ z
end
section
variable {X:Cx}{elts:List Expr}{x1:_}{tpos:Pos}
end
section
variable {K:PySem.W.Frag}{H:Hp}{Q:VK}{σ:St}
end
end L2
namespace L2
open PySem PySem.Spec PyProof.Rows
section
variable {X:Cx}{K:PySem.W.Frag}{tg:Expr}
end
end L2
namespace L2
open PySem PySem.Spec PyProof.Rows
section
variable {prog:Program}{w:World}{A:Around}{E:Value→Shared→Prop}{s:Shared}
def LtOk (prog:Program) (w:World) (A:Around) (E:Value→Shared→Prop) (s:Shared) (ltb:Keyed→Keyed→Bool) (S:Keyed→Prop) (κ:SortKind):Prop :=
 ∀(x y:Keyed) (st:SortSt) (Q:Option Bool→SortSt→Prop),S x→S y→kindOf st=κ→Q (some (ltb x y)) st→wpS (model prog w) A E s (lt' x y) Q st
variable {ltb:Keyed→Keyed→Bool}{S:Keyed→Prop}{κ:SortKind}
theorem wpS_elem {ar:Array Keyed}{i:Nat}{x:Keyed}{st:SortSt}{Q:Keyed→SortSt→Prop}(h:ar[i]? = some x) (q:Q x st):wpS (model prog w) A E s (elem' ar i) Q st:=by
 rw[elem'_eq,h];exact wpS_pure q
end
end L2
namespace L2
open PySem PySem.Spec PyProof.Rows
structure OrdB (ltb:Keyed→Keyed→Bool):Prop where
 asym:∀{x y},ltb x y=true→ltb y x=false
 tr:∀{x y z},ltb y x=false→ltb z y=false→ltb z x=false
def leB (ltb:Keyed→Keyed→Bool) (x y:Keyed):Prop:=ltb y x=false
section
variable {ltb:Keyed→Keyed→Bool}{xa xb ou:List Keyed}{ja jb k:Nat}
theorem drop_take_split {α:Type}(l:List α) (j k:Nat):l.drop j =(l.drop j).take k++l.drop (j+k):=by
 rw[← List.drop_drop];exact(List.take_append_drop k (l.drop j)).symm
structure MI (ltb:Keyed→Keyed→Bool) (xa xb ou:List Keyed) (ja jb:Nat):Prop where
 srt:ou.Pairwise (leB ltb)
 la:∀x∈ou,∀y∈xa.drop ja,leB ltb x y
 lb:∀x∈ou,∀y∈xb.drop jb,leB ltb x y
 pm:(ou++(xa.drop ja++xb.drop jb)).Perm (xa++xb)
 sz:ou.length=ja+jb
end
end L2
namespace L2
open PySem PySem.Spec PyProof.Rows
section
variable {ltb:Keyed→Keyed→Bool}{xa xb ou:Array Keyed}{ja jb k:Nat}
end
section
variable {prog:Program}{w:World}{A:Around}{E:Value→Shared→Prop}{s:Shared}{ltb:Keyed→Keyed→Bool}{S:Keyed→Prop}{κ:SortKind}
end
section
variable {prog:Program}{w:World}{A:Around}{E:Value→Shared→Prop}{s:Shared}{ltb:Keyed→Keyed→Bool}{S:Keyed→Prop}{κ:SortKind}
end
end L2
namespace L2
open PySem PySem.Spec PyProof.Rows
def flipB (ltb:Keyed→Keyed→Bool):Keyed→Keyed→Bool:=fun x y=>ltb y x
section
variable {ltb:Keyed→Keyed→Bool}{xa xb ou:Array Keyed}{na nb k:Nat}
def HI (ltb:Keyed→Keyed→Bool) (xa xb ou:Array Keyed) (na nb:Nat):Prop:=MI (flipB ltb) xb.toList.reverse xa.toList.reverse ou.toList (xb.size-nb) (xa.size-na)
end
end L2
namespace L2
open PySem PySem.Spec PyProof.Rows
section
variable {prog:Program}{w:World}{A:Around}{E:Value→Shared→Prop}{s:Shared}{ltb:Keyed→Keyed→Bool}{S:Keyed→Prop}{κ:SortKind}
end
end L2
namespace L2
open PySem PySem.Spec PyProof.Rows
section
variable {prog:Program}{w:World}{A:Around}{E:Value→Shared→Prop}{s:Shared}{ltb:Keyed→Keyed→Bool}{S:Keyed→Prop}{κ:SortKind}
theorem at_seg {ar:Array Keyed}{P R T:List Keyed}(h:ar.toList=P++R++T) (i:Nat) (hi:i<R.length):ar[P.length+i]? = R[i]?:=by
 have:ar.toList[P.length+i]? = R[i]?:=by
  rw[h,List.append_assoc,List.getElem?_append_right (by omega),Nat.add_sub_cancel_left,List.getElem?_append_left hi]
 simpa using this
end
end L2
namespace L2
open PySem PySem.Spec PyProof.Rows
def insB (R:List Keyed) (k l:Nat):List Keyed:=R.take l++((R.drop k).take 1++((R.take k).drop l++R.drop (k+1)))
theorem insB_perm (R:List Keyed) {k l:Nat}(h:l≤k):(insB R k l).Perm R:=by
 unfold insB
 have e1:R.take k=R.take l++(R.take k).drop l:=by
  conv=>lhs;rw[← List.take_append_drop l (R.take k)]
  rw[List.take_take,Nat.min_eq_left h]
 have e2:R=R.take k++((R.drop k).take 1++R.drop (k+1)):=by
  conv=>lhs;rw[← List.take_append_drop k R,drop_take_split R k 1]
 conv=>rhs;rw[e2]
 rw[e1,List.append_assoc]
 refine List.Perm.append_left _ ?_
 have e3:List.drop l (R.take l++(R.take k).drop l) =(R.take k).drop l:=by rw[← e1]
 rw[e3]
 rw[← List.append_assoc,← List.append_assoc]
 exact List.Perm.append_right _ List.perm_append_comm
theorem insB_get (R:List Keyed) {k l:Nat}(hk:k<R.length) (hl:l≤k) (p:Nat):(insB R k l)[p]? = if p=l then R[k]? else if l<p∧p≤k then R[p-1]? else R[p]?:=by
 unfold insB
 have len1:(R.take l).length=l:=by rw[List.length_take];omega
 have len2:((R.drop k).take 1).length=1:=by rw[List.length_take,List.length_drop];omega
 have len3:((R.take k).drop l).length=k-l:=by rw[List.length_drop,List.length_take];omega
 by_cases c1:p<l
 ·rw[List.getElem?_append_left (by omega),if_neg (by omega),if_neg (by omega),List.getElem?_take,if_pos c1]
 rw[List.getElem?_append_right (by omega),len1]
 by_cases c2:p=l
 ·rw[if_pos c2,List.getElem?_append_left (by omega),List.getElem?_take,if_pos (by omega),List.getElem?_drop]
  congr 1;omega
 rw[if_neg c2,List.getElem?_append_right (by omega),len2]
 by_cases c3:p≤k
 ·rw[if_pos ⟨by omega,c3⟩,List.getElem?_append_left (by omega),List.getElem?_drop,List.getElem?_take,if_pos (by omega)]
  congr 1;omega
 ·rw[if_neg (by omega),List.getElem?_append_right (by omega),len3,List.getElem?_drop]
  congr 1;omega
theorem bubble_list {ar:Array Keyed}{P R T:List Keyed}(h:ar.toList=P++R++T) {k l:Nat}(hk:k<R.length) (hl:l≤k):(bubble ar (P.length+k) (k-l)).toList=P++insB R k l++T:=by
 have hsz:ar.size=P.length+R.length+T.length:=by
  have:=congrArg List.length h
  rw[Array.length_toList]at this
  simp at this;omega
 have hil:(insB R k l).length=R.length:=(insB_perm R hl).length_eq
 apply List.ext_getElem?
 intro p
 rw[Array.getElem?_toList,getElem?_bubble (by omega) _ (by omega) p,show P.length+k-(k-l)=P.length+l by omega]
 have get:∀q,ar[q]? =(P++R++T)[q]?:=fun q=>by rw[← h,Array.getElem?_toList]
 by_cases c1:p<P.length
 ·rw[if_neg (by omega),if_neg (by omega),get,List.append_assoc,List.append_assoc,List.getElem?_append_left c1,List.getElem?_append_left c1]
 ·by_cases c2:p<P.length+R.length
  ·have eR:(P++insB R k l++T)[p]? =(insB R k l)[p-P.length]?:=by
    rw[List.append_assoc,List.getElem?_append_right (by omega),List.getElem?_append_left (by omega)]
   have eg:∀q,P.length≤q→q<P.length+R.length→ar[q]? = R[q-P.length]?:=fun q h1 h2=>by
    rw[get,List.append_assoc,List.getElem?_append_right h1,List.getElem?_append_left (by omega)]
   rw[eR,insB_get R hk hl]
   by_cases c3:p=P.length+l
   ·rw[if_pos c3,if_pos (show p-P.length=l by omega),eg _ (by omega) (by omega)];congr 1;omega
   ·rw[if_neg c3,if_neg (show ¬ p-P.length=l by omega)]
    by_cases c4:P.length+l<p∧p≤P.length+k
    ·rw[if_pos c4,if_pos (show l<p-P.length∧p-P.length≤k by omega),eg _ (by omega) (by omega)];congr 1;omega
    ·rw[if_neg c4,if_neg (show ¬(l<p-P.length∧p-P.length≤k) by omega),eg _ (by omega) (by omega)]
  ·rw[if_neg (by omega),if_neg (by omega),get,List.append_assoc,List.append_assoc,List.getElem?_append_right (by omega),List.getElem?_append_right (by omega),List.getElem?_append_right (by omega),List.getElem?_append_right (by omega),hil]
section
variable {prog:Program}{w:World}{A:Around}{E:Value→Shared→Prop}{s:Shared}{ltb:Keyed→Keyed→Bool}{S:Keyed→Prop}{κ:SortKind}
theorem wpS_ltAtB (hO:LtOk prog w A E s ltb S κ) {st:SortSt}{i j:Nat}{x y:Keyed}{Q:Option Bool→SortSt→Prop}(hk:kindOf st=κ) (hi:(arrOf st)[i]? = some x) (hj:(arrOf st)[j]? = some y) (Sx:S x) (Sy:S y) (q:Q (some (ltb x y)) st):wpS (model prog w) A E s (ltAt' i j) Q st:=by
 rw[ltAt'_eq]
 refine wpS_bind (wpS_get ?_)
 exact wpS_bind (wpS_elem hi (wpS_bind (wpS_elem hj (hO x y st Q Sx Sy hk q))))
def RiseTo (ltb:Keyed→Keyed→Bool) (R:List Keyed) (k:Nat):Prop:=∀i j x y,i<j→j<k→R[i]? = some x→R[j]? = some y→leB ltb x y
theorem wpS_binB (O:OrdB ltb) (hO:LtOk prog w A E s ltb S κ) {st:SortSt}{Q:Bool→SortSt→Prop}{P R T:List Keyed}{ok:Nat}(hk:kindOf st=κ) (hf:failedOf st=none) (harr:(arrOf st).toList=P++R++T) (hok:ok≤R.length) (hr:RiseTo ltb R ok) (hSa:∀x∈R,S x)
  (h:∀(st':SortSt) (R':List Keyed),(arrOf st').toList=P++R'++T→R'.Perm R→RiseTo ltb R' R'.length→kindOf st'=κ→failedOf st'=none→pendingOf st'=pendingOf st→Q true st'):wpS (model prog w) A E s (binarySort' P.length R.length ok) Q st:=by
 rw[binarySort'_eq]
 refine wpS_bind (wpS_mono (wpS_forRange (I:=fun k c st'=>c =(none,())∧kindOf st'=κ∧failedOf st'=none∧pendingOf st'=pendingOf st∧∃R',(arrOf st').toList=P++R'++T∧R'.Perm R∧RiseTo ltb R' (min k R.length))
  (Q:=fun c st'=>c =(none,())∧kindOf st'=κ∧failedOf st'=none∧pendingOf st'=pendingOf st∧∃R',(arrOf st').toList=P++R'++T∧R'.Perm R∧RiseTo ltb R' R.length) ?step ?fin ⟨rfl,hk,hf,rfl,R,harr,List.Perm.refl _,?init⟩) ?post)
 case init =>
  intro i j x y hij hj hx hy
  exact hr i j x y hij (by omega) hx hy
 case fin =>
  rintro c st' ⟨hc,k1,k2,k3,R',a1,a2,a3⟩
  exact⟨hc,k1,k2,k3,R',a1,a2,fun i j x y hij hj=>a3 i j x y hij (by omega)⟩
 case post =>
  rintro c st' ⟨rfl,k1,k2,k3,R',a1,a2,a3⟩
  exact wpS_pure (h st' R' a1 a2 (by rw[a2.length_eq];exact a3) k1 k2 k3)
 case step =>
  rintro k c st' h1 hkn ⟨rfl,k1,k2,k3,R',a1,a2,a3⟩
  rw[show min k R.length=k by omega]at a3
  have hlen:=a2.length_eq
  have hS':∀x∈R',S x:=fun x hx=>hSa x (a2.mem_iff.mp hx)
  have gt:∀i,i<R'.length→(arrOf st')[P.length+i]? = R'[i]?:=fun i hi=>at_seg a1 i hi
  obtain⟨v,hv⟩ : ∃v,R'[k]? = some v:=⟨_,List.getElem?_eq_getElem (by omega)⟩
  have Sv:=hS' v (List.mem_of_getElem? hv)
  refine wpS_bind (wpS_mono (wpS_forRange (I:=fun x c st''=>st''=st'∧∃l r,c =(none,l,r)∧l≤r∧r≤k∧r-l≤k-x∧(∀i x,i<l→R'[i]? = some x→leB ltb x v)∧(∀i x,r≤i→i<k→R'[i]? = some x→ltb v x=true))
   (Q:=fun c st''=>st''=st'∧∃l r,c =(none,l,r)∧l≤k∧(∀i x,i<l→R'[i]? = some x→leB ltb x v)∧(∀i x,l≤i→i<k→R'[i]? = some x→ltb v x=true)) ?istep ?ifin ⟨rfl,0,k,rfl,by omega,by omega,by omega,fun i x hi=>by omega,fun i x h1 h2=>by omega⟩) ?ipost)
  case ifin =>
   rintro c st'' ⟨rfl,l,r,rfl,b1,b2,b3,b4,b5⟩
   have:l=r:=by omega
   subst this
   exact⟨rfl,l,l,rfl,b2,b4,b5⟩
  case istep =>
   rintro x c st'' _ hxk ⟨e,l,r,rfl,b1,b2,b3,b4,b5⟩
   rw[e]
   dsimp only
   by_cases hge:l ≥ r
   ·rw[if_pos hge]
    have:l=r:=by omega
    subst this
    exact wpS_pure ⟨rfl,l,l,rfl,b2,b4,b5⟩
   ·rw[if_neg hge]
    obtain⟨u,hu⟩ : ∃u,R'[(l+r) / 2]? = some u:=⟨_,List.getElem?_eq_getElem (by omega)⟩
    refine wpS_bind (wpS_ltAtB hO k1 (by rw[gt k (by omega)];exact hv) (by rw[gt _ (by omega)];exact hu) Sv (hS' u (List.mem_of_getElem? hu)) ?_)
    dsimp only
    cases hw:ltb v u with
    | true =>
     simp only[if_true]
     refine wpS_pure ⟨rfl,l,(l+r) / 2,rfl,by omega,by omega,by omega,b4,fun i y q1 q2 hy=>?_⟩
     by_cases ei:i =(l+r) / 2
     ·subst ei;rw[hu]at hy;cases hy;exact hw
     ·have le1:=a3 ((l+r) / 2) i u y (by omega) q2 hu hy
      cases q:ltb v y with
      | true=>rfl
      | false=>have:=O.tr le1 q;rw[hw]at this;cases this
    | false =>
     simp only[Bool.false_eq_true,if_false]
     refine wpS_pure ⟨rfl,(l+r) / 2+1,r,rfl,by omega,by omega,by omega,fun i y q1 hy=>?_,b5⟩
     by_cases ei:i =(l+r) / 2
     ·subst ei;rw[hu]at hy;cases hy;exact hw
     ·exact O.tr (a3 i ((l+r) / 2) y u (by omega) (by omega) hy hu) hw
  case ipost =>
   rintro c st'' ⟨e,l,r,rfl,b1,b4,b5⟩
   rw[e]
   show wpS _ _ _ _ (do moveDown' (P.length+k) (P.length+l);pure (ForInStep.yield (none,()))) _ _
   rw[moveDown'_eq]
   refine wpS_bind (wpS_modify (wpS_pure ⟨rfl,k1,k2,k3,insB R' k l,?_,(insB_perm R' b1).trans a2,?_⟩))
   ·show(bubble (arrOf st') (P.length+k) (P.length+k-(P.length+l))).toList=_
    rw[show P.length+k-(P.length+l)=k-l by omega]
    exact bubble_list a1 (by omega) b1
   ·rw[show min (k+1) R.length=k+1 by omega]
    intro i j x y hij hj hx hy
    rw[insB_get R' (by omega) b1]at hx hy
    by_cases i1:i=l
    ·rw[if_pos i1,hv]at hx
     cases hx
     rw[if_neg (by omega),if_pos (by omega)]at hy
     exact O.asym (b5 (j-1) y (by omega) (by omega) hy)
    rw[if_neg i1]at hx
    by_cases i2:l<i∧i≤k
    ·rw[if_pos i2]at hx
     rw[if_neg (by omega),if_pos (by omega)]at hy
     exact a3 (i-1) (j-1) x y (by omega) (by omega) hx hy
    rw[if_neg i2]at hx
    by_cases j1:j=l
    ·rw[if_pos j1,hv]at hy
     cases hy
     exact b4 i x (by omega) hx
    rw[if_neg j1]at hy
    by_cases j2:l<j∧j≤k
    ·rw[if_pos j2]at hy
     exact a3 i (j-1) x y (by omega) (by omega) hx hy
    ·rw[if_neg j2]at hy
     exact a3 i j x y hij (by omega) hx hy
end
end L2
namespace L2
open PySem PySem.Spec PyProof.Rows
def revB (R:List Keyed) (i j:Nat):List Keyed:=R.take i++(((R.take j).drop i).reverse++R.drop j)
theorem revB_perm (R:List Keyed) {i j:Nat}(h:i≤j):(revB R i j).Perm R:=by
 unfold revB
 have e1:R.take j=R.take i++(R.take j).drop i:=by
  conv=>lhs;rw[← List.take_append_drop i (R.take j)]
  rw[List.take_take,Nat.min_eq_left h]
 have:(R.take i++(((R.take j).drop i).reverse++R.drop j)).Perm (R.take i++((R.take j).drop i++R.drop j)):=List.Perm.append_left _ (List.Perm.append_right _ (List.reverse_perm _))
 refine this.trans (List.Perm.of_eq ?_)
 rw[← List.append_assoc,← e1,List.take_append_drop]
theorem revB_get (R:List Keyed) {i j:Nat}(hj:j≤R.length) (h:i≤j) (p:Nat):(revB R i j)[p]? = if i≤p∧p<j then R[i+j-1-p]? else R[p]?:=by
 unfold revB
 have len1:(R.take i).length=i:=by rw[List.length_take];omega
 have len2:((R.take j).drop i).length=j-i:=by rw[List.length_drop,List.length_take];omega
 by_cases c1:p<i
 ·rw[List.getElem?_append_left (by omega),if_neg (by omega),List.getElem?_take,if_pos c1]
 rw[List.getElem?_append_right (by omega),len1]
 by_cases c2:p<j
 ·rw[if_pos ⟨by omega,c2⟩,List.getElem?_append_left (by rw[List.length_reverse];omega),List.getElem?_reverse (by omega),len2,List.getElem?_drop,List.getElem?_take,if_pos (by omega)]
  congr 1;omega
 ·rw[if_neg (by omega),List.getElem?_append_right (by rw[List.length_reverse];omega),List.length_reverse,len2,List.getElem?_drop]
  congr 1;omega
theorem mirror_list {ar:Array Keyed}{P R:List Keyed}(h:ar.toList=P++R) {i j:Nat}(hj:j≤R.length) (hi:i≤j):(mirror ar (P.length+i) (P.length+j) ((P.length+j-(P.length+i)) / 2)).toList=P++revB R i j:=by
 have hsz:ar.size=P.length+R.length:=by
  have:=congrArg List.length h
  rw[Array.length_toList]at this
  simp at this;omega
 apply List.ext_getElem?
 intro p
 rw[Array.getElem?_toList,getElem?_mirror_all (by omega) p]
 have get:∀q,ar[q]? =(P++R)[q]?:=fun q=>by rw[← h,Array.getElem?_toList]
 by_cases c1:p<P.length
 ·rw[if_neg (by omega),get,List.getElem?_append_left c1,List.getElem?_append_left c1]
 ·rw[List.getElem?_append_right (by omega),revB_get R hj hi]
  by_cases c2:P.length+i≤p∧p<P.length+j
  ·rw[if_pos c2,if_pos (show i≤p-P.length∧p-P.length<j by omega),get,List.getElem?_append_right (by omega)]
   congr 1;omega
  ·rw[if_neg c2,if_neg (show ¬(i≤p-P.length∧p-P.length<j) by omega),get,List.getElem?_append_right (by omega)]
theorem OrdB.refl {ltb:Keyed→Keyed→Bool}(O:OrdB ltb) (x:Keyed):leB ltb x x:=by
 unfold leB
 cases q:ltb x x with
 | false=>rfl
 | true=>have:=O.asym q;rw[q]at this;cases this
def FallTo (ltb:Keyed→Keyed→Bool) (R:List Keyed) (k:Nat):Prop:=∀i j x y,i<j→j<k→R[i]? = some x→R[j]? = some y→leB ltb y x
def EqSeg (ltb:Keyed→Keyed→Bool) (R:List Keyed) (a b:Nat):Prop:=∀i j x y,a≤i→i<b→a≤j→j<b→R[i]? = some x→R[j]? = some y→leB ltb x y
section
variable {ltb:Keyed→Keyed→Bool}{R:List Keyed}
theorem RiseTo.more (O:OrdB ltb) {n:Nat}(h:RiseTo ltb R n) (hn:1≤n) {u v:Keyed}(hu:R[n-1]? = some u) (hv:R[n]? = some v) (c:leB ltb u v):RiseTo ltb R (n+1):=by
 intro i j x y hij hj hx hy
 by_cases e:j=n
 ·subst e
  rw[hv]at hy;cases hy
  by_cases e2:i=j-1
  ·subst e2;rw[hu]at hx;cases hx;exact c
  ·exact O.tr (h i (j-1) x u (by omega) (by omega) hx hu) c
 ·exact h i j x y hij (by omega) hx hy
theorem FallTo.more (O:OrdB ltb) {n:Nat}(h:FallTo ltb R n) (hn:1≤n) {u v:Keyed}(hu:R[n-1]? = some u) (hv:R[n]? = some v) (c:leB ltb v u):FallTo ltb R (n+1):=by
 intro i j x y hij hj hx hy
 by_cases e:j=n
 ·subst e
  rw[hv]at hy;cases hy
  by_cases e2:i=j-1
  ·subst e2;rw[hu]at hx;cases hx;exact c
  ·exact O.tr c (h i (j-1) x u (by omega) (by omega) hx hu)
 ·exact h i j x y hij (by omega) hx hy
theorem FallTo.seg {n a:Nat}(h:FallTo ltb R n) (ha:a≤n) (hn:n≤R.length) (e:EqSeg ltb R a n):FallTo ltb (revB R a n) n:=by
 intro i j x y hij hj hx hy
 rw[revB_get R hn ha]at hx hy
 by_cases c1:a≤i
 ·rw[if_pos ⟨c1,by omega⟩]at hx
  rw[if_pos ⟨by omega,hj⟩]at hy
  exact e _ _ y x (by omega) (by omega) (by omega) (by omega) hy hx
 ·rw[if_neg (by omega)]at hx
  by_cases c2:a≤j
  ·rw[if_pos ⟨c2,hj⟩]at hy
   exact h i _ x y (by omega) (by omega) hx hy
  ·rw[if_neg (by omega)]at hy
   exact h i j x y hij hj hx hy
theorem FallTo.turn {n:Nat}(h:FallTo ltb R n) (hn:n≤R.length):RiseTo ltb (revB R 0 n) n:=by
 intro i j x y hij hj hx hy
 rw[revB_get R hn (Nat.zero_le _),if_pos ⟨Nat.zero_le _,by omega⟩]at hx
 rw[revB_get R hn (Nat.zero_le _),if_pos ⟨Nat.zero_le _,hj⟩]at hy
 exact h _ _ y x (by omega) (by omega) hy hx
end
section
variable {prog:Program}{w:World}{A:Around}{E:Value→Shared→Prop}{s:Shared}{ltb:Keyed→Keyed→Bool}{S:Keyed→Prop}{κ:SortKind}
structure ZS (κ:SortKind) (st:SortSt) (P R:List Keyed) (st':SortSt) (R':List Keyed):Prop where
 kind:kindOf st'=κ
 fail:failedOf st'=none
 pend:pendingOf st'=pendingOf st
 arr:(arrOf st').toList=P++R'
 perm:R'.Perm R
theorem ZS.rev {st st':SortSt}{P R R':List Keyed}(z:ZS κ st P R st' R') {i j:Nat}(hj:j≤R'.length) (hi:i≤j):ZS κ st P R (setArr st' (mirror (arrOf st') (P.length+i) (P.length+j) ((P.length+j-(P.length+i)) / 2))) (revB R' i j) :=
 ⟨z.kind,z.fail,z.pend,mirror_list z.arr hj hi,(revB_perm R' hi).trans z.perm⟩
theorem ZS.at {st st':SortSt}{P R R':List Keyed}(z:ZS κ st P R st' R') (i:Nat) (hi:i<R'.length):(arrOf st')[P.length+i]? = R'[i]?:=at_seg (T:=[]) (by rw[List.append_nil];exact z.arr) i hi
theorem ZS.ask (hO:LtOk prog w A E s ltb S κ) {st st':SortSt}{P R R':List Keyed}(z:ZS κ st P R st' R') (hS:∀x∈R,S x) {a b i j:Nat}(ea:a=P.length+i) (eb:b=P.length+j) (hi:i<R'.length) (hj:j<R'.length) {Q:Option Bool→SortSt→Prop}(q:∀x y,R'[i]? = some x→R'[j]? = some y→Q (some (ltb x y)) st') :
  wpS (model prog w) A E s (ltAt' a b) Q st':=by
 have m:∀x,x∈R'→S x:=fun x hx=>hS x (z.perm.mem_iff.mp hx)
 obtain⟨x,hx⟩ : ∃x,R'[i]? = some x:=⟨_,List.getElem?_eq_getElem hi⟩
 obtain⟨y,hy⟩ : ∃y,R'[j]? = some y:=⟨_,List.getElem?_eq_getElem hj⟩
 exact wpS_ltAtB hO z.kind (by rw[ea,z.at i hi];exact hx) (by rw[eb,z.at j hj];exact hy) (m x (List.mem_of_getElem? hx)) (m y (List.mem_of_getElem? hy)) (q x y hx hy)
theorem wpS_runB (O:OrdB ltb) (hO:LtOk prog w A E s ltb S κ) {st:SortSt}{Q:Option Nat→SortSt→Prop}{P R:List Keyed}(hk:kindOf st=κ) (hf:failedOf st=none) (harr:(arrOf st).toList=P++R) (hR:1≤R.length) (hS:∀x∈R,S x)
  (h:∀(st':SortSt) (R':List Keyed) (n:Nat),ZS κ st P R st' R'→1≤n→n≤R.length→RiseTo ltb R' n→Q (some n) st'):wpS (model prog w) A E s (countRun' P.length R.length) Q st:=by
 have z0:ZS κ st P R st R:=⟨hk,hf,rfl,harr,List.Perm.refl _⟩
 rw[countRun'_eq]
 refine wpS_bind (wpS_mono (wpS_forRange (I:=fun x c st'=>st'=st∧c =(none,x)∧RiseTo ltb R x∧x≤R.length)
  (Q:=fun c st'=>st'=st∧∃n,c =(none,n)∧1≤n∧n≤R.length∧RiseTo ltb R n∧(n<R.length→∀u v,R[n-1]? = some u→R[n]? = some v→ltb v u=true)) ?stp ?fin ⟨rfl,rfl,fun i j x y hij hj=>by omega,hR⟩) ?post)
 case fin =>
  rintro c st' ⟨rfl,rfl,a1,a2⟩
  exact⟨rfl,_,rfl,by omega,a2,a1,fun q=>by omega⟩
 case stp =>
  rintro x c st' hx1 hx2 ⟨est,rfl,a1,a2⟩
  rw[est]
  dsimp only
  refine wpS_bind (z0.ask hO hS (i:=x) (j:=x-1) rfl (by omega) hx2 (by omega) fun v u hv hu=>?_)
  dsimp only
  cases hw:ltb v u with
  | true =>
   simp only[if_true]
   exact wpS_pure ⟨rfl,x,rfl,hx1,a2,a1,fun _ u' v' hu' hv'=>by rw[hu]at hu';rw[hv]at hv';cases hu';cases hv';exact hw⟩
  | false =>
   simp only[Bool.false_eq_true,if_false]
   exact wpS_pure ⟨rfl,rfl,a1.more O hx1 hu hv hw,by omega⟩
 case post =>
  rintro c st' ⟨est,n,rfl,a1,a2,a3,a4⟩
  rw[est]
  dsimp only
  by_cases c1:n=R.length
  ·rw[if_pos (by simpa using c1)]
   exact wpS_pure (h st R n z0 a1 a2 a3)
  rw[if_neg (by simpa using c1)]
  have a4:=a4 (by omega)
  obtain⟨u0,hu0⟩ : ∃u,R[n-1]? = some u:=⟨_,List.getElem?_eq_getElem (by omega)⟩
  obtain⟨v0,hv0⟩ : ∃v,R[n]? = some v:=⟨_,List.getElem?_eq_getElem (by omega)⟩
  have hw0:=a4 u0 v0 hu0 hv0
  by_cases c2:n > 1
  ·rw[if_pos c2]
   refine wpS_bind (z0.ask hO hS (i:=0) (j:=n-1) rfl (by omega) (by omega) (by omega) fun f l hf0 hl0=>?_)
   rw[hu0]at hl0;cases hl0
   dsimp only
   cases hw1:ltb f u0 with
   | true =>
    simp only[if_true]
    exact wpS_pure (h st R n z0 a1 a2 a3)
   | false =>
    simp only[Bool.false_eq_true,if_false]
    rw[reverseSlice'_eq]
    refine wpS_bind (wpS_modify ?_)
    have z1:=z0.rev (i:=0) (j:=n) (by omega) (Nat.zero_le _)
    rw[Nat.add_zero]at z1
    have eq0:EqSeg ltb R 0 n:=fun i j x y _ i2 _ j2 hx hy=>by
     have t1:leB ltb x u0:=by
      by_cases e:i=n-1
      ·subst e;rw[hu0]at hx;cases hx;exact O.refl _
      ·exact a3 i (n-1) x u0 (by omega) (by omega) hx hu0
     have t2:leB ltb f y:=by
      by_cases e:j=0
      ·subst e;rw[hf0]at hy;cases hy;exact O.refl _
      ·exact a3 0 j f y (by omega) j2 hf0 hy
     exact O.tr (O.tr t1 hw1) t2
    have f1:FallTo ltb (revB R 0 n) (n+1):=by
     have ff:FallTo ltb R n:=fun i j x y hij hj hx hy=>eq0 j i y x (by omega) hj (by omega) (by omega) hy hx
     have fr:=ff.seg (a:=0) (by omega) (by omega) eq0
     obtain⟨u2,hu2⟩ : ∃u2,(revB R 0 n)[n-1]? = some u2:=⟨_,List.getElem?_eq_getElem (by rw[(revB_perm R (by omega)).length_eq];omega)⟩
     have hu3:=hu2
     rw[revB_get R (by omega) (by omega),if_pos (by omega)]at hu3
     refine fr.more O (by omega) hu2 (by rw[revB_get R (by omega) (by omega),if_neg (by omega)];exact hv0) (O.tr (O.asym hw0) (eq0 (n-1) _ u0 u2 (by omega) (by omega) (by omega) (by omega) hu0 hu3))
    generalize setArr st (mirror (arrOf st) P.length (P.length+n) ((P.length+n-P.length) / 2))=st1 at z1 ⊢
    generalize hR1:revB R 0 n=R1 at z1 f1
    refine wpS_bind (wpS_lift (wpAny_rule ⟨rfl,?_⟩))
    refine wpS_bind (wpS_mono (wpS_forRange (I:=fun x c st'=>∃R' q,c =(none,x,q)∧ZS κ st P R st' R'∧q+1≤x∧x≤R.length∧FallTo ltb R' x∧EqSeg ltb R' (x-(q+1)) x)
     (Q:=fun c st'=>∃R' m q,c =(none,m,q)∧ZS κ st P R st' R'∧q+1≤m∧m≤R.length∧FallTo ltb R' m∧EqSeg ltb R' (m-(q+1)) m) ?stp3 ?fin3 ⟨R1,0,rfl,z1,by omega,by omega,f1,fun i j x y i1 i2 j1 j2 hx hy=>by
      have e1:i=j:=by omega
      subst e1;rw[hx]at hy;cases hy;exact O.refl x⟩) ?post3)
    case fin3 =>
     rintro c st' ⟨R',q,rfl,b1,b2,b3,b4,b5⟩
     exact⟨R',_,q,rfl,b1,b2,b3,b4,b5⟩
    case stp3 =>
     rintro x c st' hx1 hx2 ⟨R',q,rfl,b1,b2,b3,b4,b5⟩
     have hl:=b1.perm.length_eq
     dsimp only
     refine wpS_bind (b1.ask hO hS (i:=x) (j:=x-1) rfl (by omega) (by omega) (by omega) fun v u hv hu=>?_)
     dsimp only
     cases hw:ltb v u with
     | true =>
      simp only[if_true]
      by_cases c6:q > 0
      ·rw[if_pos c6,reverseSlice'_eq]
       refine wpS_bind (wpS_modify ?_)
       have zr:=b1.rev (i:=x-(q+1)) (j:=x) (by omega) (by omega)
       have fr:=b4.seg (a:=x-(q+1)) (by omega) (by omega) b5
       have hv2:(revB R' (x-(q+1)) x)[x]? = some v:=by rw[revB_get R' (by omega) (by omega),if_neg (by omega)];exact hv
       obtain⟨u2,hu2⟩ : ∃u2,(revB R' (x-(q+1)) x)[x-1]? = some u2:=⟨_,List.getElem?_eq_getElem (by rw[(revB_perm R' (by omega)).length_eq];omega)⟩
       have hu3:=hu2
       rw[revB_get R' (by omega) (by omega),if_pos (by omega)]at hu3
       have cc:leB ltb v u2:=O.tr (O.asym hw) (b5 (x-1) _ u u2 (by omega) (by omega) (by omega) (by omega) hu hu3)
       refine wpS_pure ⟨_,0,rfl,?_,by omega,by omega,fr.more O (by omega) hu2 hv2 cc,fun i j x y i1 i2 j1 j2 hx hy=>by
        have e1:i=j:=by omega
        subst e1;rw[hx]at hy;cases hy;exact O.refl x⟩
       rw[show P.length+x-(q+1)=P.length+(x-(q+1)) by omega]
       exact zr
      ·rw[if_neg c6]
       exact wpS_pure ⟨R',0,rfl,b1,by omega,by omega,b4.more O (by omega) hu hv (O.asym hw),fun i j x y i1 i2 j1 j2 hx hy=>by
        have e1:i=j:=by omega
        subst e1;rw[hx]at hy;cases hy;exact O.refl x⟩
     | false =>
      simp only[Bool.false_eq_true,if_false]
      refine wpS_bind (b1.ask hO hS (i:=x-1) (j:=x) (by omega) rfl (by omega) (by omega) fun u' v' hu' hv'=>?_)
      rw[hu]at hu';cases hu'
      rw[hv]at hv';cases hv'
      dsimp only
      cases hw2:ltb u v with
      | true =>
       simp only[if_true]
       exact wpS_pure ⟨R',x,q,rfl,b1,b2,b3,b4,b5⟩
      | false =>
       simp only[Bool.false_eq_true,if_false]
       refine wpS_pure ⟨R',q+1,rfl,b1,by omega,by omega,b4.more O (by omega) hu hv hw2,fun i j p r i1 i2 j1 j2 hp hr=>?_⟩
       have toU:∀i p,x+1-(q+1+1)≤i→i<x+1→R'[i]? = some p→leB ltb p u∧leB ltb u p:=fun i p g1 g2 hp=>by
        by_cases e:i=x
        ·subst e;rw[hv]at hp;cases hp;exact⟨hw2,hw⟩
        ·exact⟨b5 i (x-1) p u (by omega) (by omega) (by omega) (by omega) hp hu,b5 (x-1) i u p (by omega) (by omega) (by omega) (by omega) hu hp⟩
       exact O.tr (toU i p (by omega) i2 hp).1 (toU j r (by omega) j2 hr).2
    case post3 =>
     rintro c st3 ⟨R',m,q,rfl,b1,b2,b3,b4,b5⟩
     have hl:=b1.perm.length_eq
     dsimp only
     by_cases c7:q > 0
     ·rw[if_pos c7,reverseSlice'_eq]
      refine wpS_bind (wpS_modify ?_)
      have zr:=b1.rev (i:=m-(q+1)) (j:=m) (by omega) (by omega)
      rw[show P.length+(m-(q+1))=P.length+m-(q+1) by omega]at zr
      have fr:=b4.seg (a:=m-(q+1)) (by omega) (by omega) b5
      have hl2:=zr.perm.length_eq
      generalize setArr st3 (mirror (arrOf st3) (P.length+m-(q+1)) (P.length+m) ((P.length+m-(P.length+m-(q+1))) / 2))=st4 at zr ⊢
      generalize revB R' (m-(q+1)) m=R4 at zr fr hl2
      rw[reverseSlice'_eq]
      refine wpS_bind (wpS_modify ?_)
      have z5:=zr.rev (i:=0) (j:=m) (by omega) (Nat.zero_le _)
      rw[Nat.add_zero]at z5
      have r5:=fr.turn (by omega)
      generalize setArr st4 (mirror (arrOf st4) P.length (P.length+m) ((P.length+m-P.length) / 2))=st5 at z5 ⊢
      refine wpS_bind (wpS_mono (wpS_forRange (I:=fun x c st'=>st'=st5∧c =(none,x)∧RiseTo ltb (revB R4 0 m) x∧x≤R.length)
       (Q:=fun c st'=>st'=st5∧∃n,c =(none,n)∧1≤n∧n≤R.length∧RiseTo ltb (revB R4 0 m) n) ?stp5 ?fin5 ⟨rfl,rfl,r5,by omega⟩) ?post5)
      case fin5 =>
       rintro c st' ⟨est,rfl,b1,b2⟩
       exact⟨est,_,rfl,by omega,b2,b1⟩
      case post5 =>
       rintro c st' ⟨est,n5,rfl,b1,b2,b3⟩
       rw[est]
       exact wpS_pure (h _ _ n5 z5 b1 b2 b3)
      case stp5 =>
       rintro x c st' hx1 hx2 ⟨est,rfl,b1,b2⟩
       rw[est]
       dsimp only
       refine wpS_bind (z5.ask hO hS (i:=x) (j:=x-1) rfl (by omega) (by rw[z5.perm.length_eq];exact hx2) (by rw[z5.perm.length_eq];omega) fun v u hv hu=>?_)
       dsimp only
       cases hw:ltb v u with
       | true =>
        simp only[if_true]
        exact wpS_pure ⟨rfl,x,rfl,by omega,b2,b1⟩
       | false =>
        simp only[Bool.false_eq_true,if_false]
        exact wpS_pure ⟨rfl,rfl,b1.more O (by omega) hu hv hw,by omega⟩
     ·rw[if_neg c7,reverseSlice'_eq]
      refine wpS_bind (wpS_modify ?_)
      have z5:=b1.rev (i:=0) (j:=m) (by omega) (Nat.zero_le _)
      rw[Nat.add_zero]at z5
      have r5:=b4.turn (by omega)
      generalize setArr st3 (mirror (arrOf st3) P.length (P.length+m) ((P.length+m-P.length) / 2))=st5 at z5 ⊢
      refine wpS_bind (wpS_mono (wpS_forRange (I:=fun x c st'=>st'=st5∧c =(none,x)∧RiseTo ltb (revB R' 0 m) x∧x≤R.length)
       (Q:=fun c st'=>st'=st5∧∃n,c =(none,n)∧1≤n∧n≤R.length∧RiseTo ltb (revB R' 0 m) n) ?stp5 ?fin5 ⟨rfl,rfl,r5,by omega⟩) ?post5)
      case fin5 =>
       rintro c st' ⟨est,rfl,b1,b2⟩
       exact⟨est,_,rfl,by omega,b2,b1⟩
      case post5 =>
       rintro c st' ⟨est,n5,rfl,b1,b2,b3⟩
       rw[est]
       exact wpS_pure (h _ _ n5 z5 b1 b2 b3)
      case stp5 =>
       rintro x c st' hx1 hx2 ⟨est,rfl,b1,b2⟩
       rw[est]
       dsimp only
       refine wpS_bind (z5.ask hO hS (i:=x) (j:=x-1) rfl (by omega) (by rw[z5.perm.length_eq];exact hx2) (by rw[z5.perm.length_eq];omega) fun v u hv hu=>?_)
       dsimp only
       cases hw:ltb v u with
       | true =>
        simp only[if_true]
        exact wpS_pure ⟨rfl,x,rfl,by omega,b2,b1⟩
       | false =>
        simp only[Bool.false_eq_true,if_false]
        exact wpS_pure ⟨rfl,rfl,b1.more O (by omega) hu hv hw,by omega⟩
  ·rw[if_neg c2]
   have e1:n=1:=by omega
   have f1:FallTo ltb R (n+1):=by
    have ff:FallTo ltb R n:=fun i j x y hij hj hx hy=>by omega
    exact ff.more O a1 hu0 hv0 (O.asym hw0)
   have z1:=z0
   have hR1:∃R1,R1=R:=⟨_,rfl⟩
   refine wpS_bind (wpS_lift (wpAny_rule ⟨rfl,?_⟩))
   refine wpS_bind (wpS_mono (wpS_forRange (I:=fun x c st'=>∃R' q,c =(none,x,q)∧ZS κ st P R st' R'∧q+1≤x∧x≤R.length∧FallTo ltb R' x∧EqSeg ltb R' (x-(q+1)) x)
    (Q:=fun c st'=>∃R' m q,c =(none,m,q)∧ZS κ st P R st' R'∧q+1≤m∧m≤R.length∧FallTo ltb R' m∧EqSeg ltb R' (m-(q+1)) m) ?stp3 ?fin3 ⟨R,0,rfl,z1,by omega,by omega,f1,fun i j x y i1 i2 j1 j2 hx hy=>by
     have e1:i=j:=by omega
     subst e1;rw[hx]at hy;cases hy;exact O.refl x⟩) ?post3)
   case fin3 =>
    rintro c st' ⟨R',q,rfl,b1,b2,b3,b4,b5⟩
    exact⟨R',_,q,rfl,b1,b2,b3,b4,b5⟩
   case stp3 =>
    rintro x c st' hx1 hx2 ⟨R',q,rfl,b1,b2,b3,b4,b5⟩
    have hl:=b1.perm.length_eq
    dsimp only
    refine wpS_bind (b1.ask hO hS (i:=x) (j:=x-1) rfl (by omega) (by omega) (by omega) fun v u hv hu=>?_)
    dsimp only
    cases hw:ltb v u with
    | true =>
     simp only[if_true]
     by_cases c6:q > 0
     ·rw[if_pos c6,reverseSlice'_eq]
      refine wpS_bind (wpS_modify ?_)
      have zr:=b1.rev (i:=x-(q+1)) (j:=x) (by omega) (by omega)
      have fr:=b4.seg (a:=x-(q+1)) (by omega) (by omega) b5
      have hv2:(revB R' (x-(q+1)) x)[x]? = some v:=by rw[revB_get R' (by omega) (by omega),if_neg (by omega)];exact hv
      obtain⟨u2,hu2⟩ : ∃u2,(revB R' (x-(q+1)) x)[x-1]? = some u2:=⟨_,List.getElem?_eq_getElem (by rw[(revB_perm R' (by omega)).length_eq];omega)⟩
      have hu3:=hu2
      rw[revB_get R' (by omega) (by omega),if_pos (by omega)]at hu3
      have cc:leB ltb v u2:=O.tr (O.asym hw) (b5 (x-1) _ u u2 (by omega) (by omega) (by omega) (by omega) hu hu3)
      refine wpS_pure ⟨_,0,rfl,?_,by omega,by omega,fr.more O (by omega) hu2 hv2 cc,fun i j x y i1 i2 j1 j2 hx hy=>by
       have e1:i=j:=by omega
       subst e1;rw[hx]at hy;cases hy;exact O.refl x⟩
      rw[show P.length+x-(q+1)=P.length+(x-(q+1)) by omega]
      exact zr
     ·rw[if_neg c6]
      exact wpS_pure ⟨R',0,rfl,b1,by omega,by omega,b4.more O (by omega) hu hv (O.asym hw),fun i j x y i1 i2 j1 j2 hx hy=>by
       have e1:i=j:=by omega
       subst e1;rw[hx]at hy;cases hy;exact O.refl x⟩
    | false =>
     simp only[Bool.false_eq_true,if_false]
     refine wpS_bind (b1.ask hO hS (i:=x-1) (j:=x) (by omega) rfl (by omega) (by omega) fun u' v' hu' hv'=>?_)
     rw[hu]at hu';cases hu'
     rw[hv]at hv';cases hv'
     dsimp only
     cases hw2:ltb u v with
     | true =>
      simp only[if_true]
      exact wpS_pure ⟨R',x,q,rfl,b1,b2,b3,b4,b5⟩
     | false =>
      simp only[Bool.false_eq_true,if_false]
      refine wpS_pure ⟨R',q+1,rfl,b1,by omega,by omega,b4.more O (by omega) hu hv hw2,fun i j p r i1 i2 j1 j2 hp hr=>?_⟩
      have toU:∀i p,x+1-(q+1+1)≤i→i<x+1→R'[i]? = some p→leB ltb p u∧leB ltb u p:=fun i p g1 g2 hp=>by
       by_cases e:i=x
       ·subst e;rw[hv]at hp;cases hp;exact⟨hw2,hw⟩
       ·exact⟨b5 i (x-1) p u (by omega) (by omega) (by omega) (by omega) hp hu,b5 (x-1) i u p (by omega) (by omega) (by omega) (by omega) hu hp⟩
      exact O.tr (toU i p (by omega) i2 hp).1 (toU j r (by omega) j2 hr).2
   case post3 =>
    rintro c st3 ⟨R',m,q,rfl,b1,b2,b3,b4,b5⟩
    have hl:=b1.perm.length_eq
    dsimp only
    by_cases c7:q > 0
    ·rw[if_pos c7,reverseSlice'_eq]
     refine wpS_bind (wpS_modify ?_)
     have zr:=b1.rev (i:=m-(q+1)) (j:=m) (by omega) (by omega)
     rw[show P.length+(m-(q+1))=P.length+m-(q+1) by omega]at zr
     have fr:=b4.seg (a:=m-(q+1)) (by omega) (by omega) b5
     have hl2:=zr.perm.length_eq
     generalize setArr st3 (mirror (arrOf st3) (P.length+m-(q+1)) (P.length+m) ((P.length+m-(P.length+m-(q+1))) / 2))=st4 at zr ⊢
     generalize revB R' (m-(q+1)) m=R4 at zr fr hl2
     rw[reverseSlice'_eq]
     refine wpS_bind (wpS_modify ?_)
     have z5:=zr.rev (i:=0) (j:=m) (by omega) (Nat.zero_le _)
     rw[Nat.add_zero]at z5
     have r5:=fr.turn (by omega)
     generalize setArr st4 (mirror (arrOf st4) P.length (P.length+m) ((P.length+m-P.length) / 2))=st5 at z5 ⊢
     refine wpS_bind (wpS_mono (wpS_forRange (I:=fun x c st'=>st'=st5∧c =(none,x)∧RiseTo ltb (revB R4 0 m) x∧x≤R.length)
      (Q:=fun c st'=>st'=st5∧∃n,c =(none,n)∧1≤n∧n≤R.length∧RiseTo ltb (revB R4 0 m) n) ?stp5 ?fin5 ⟨rfl,rfl,r5,by omega⟩) ?post5)
     case fin5 =>
      rintro c st' ⟨est,rfl,b1,b2⟩
      exact⟨est,_,rfl,by omega,b2,b1⟩
     case post5 =>
      rintro c st' ⟨est,n5,rfl,b1,b2,b3⟩
      rw[est]
      exact wpS_pure (h _ _ n5 z5 b1 b2 b3)
     case stp5 =>
      rintro x c st' hx1 hx2 ⟨est,rfl,b1,b2⟩
      rw[est]
      dsimp only
      refine wpS_bind (z5.ask hO hS (i:=x) (j:=x-1) rfl (by omega) (by rw[z5.perm.length_eq];exact hx2) (by rw[z5.perm.length_eq];omega) fun v u hv hu=>?_)
      dsimp only
      cases hw:ltb v u with
      | true =>
       simp only[if_true]
       exact wpS_pure ⟨rfl,x,rfl,by omega,b2,b1⟩
      | false =>
       simp only[Bool.false_eq_true,if_false]
       exact wpS_pure ⟨rfl,rfl,b1.more O (by omega) hu hv hw,by omega⟩
    ·rw[if_neg c7,reverseSlice'_eq]
     refine wpS_bind (wpS_modify ?_)
     have z5:=b1.rev (i:=0) (j:=m) (by omega) (Nat.zero_le _)
     rw[Nat.add_zero]at z5
     have r5:=b4.turn (by omega)
     generalize setArr st3 (mirror (arrOf st3) P.length (P.length+m) ((P.length+m-P.length) / 2))=st5 at z5 ⊢
     refine wpS_bind (wpS_mono (wpS_forRange (I:=fun x c st'=>st'=st5∧c =(none,x)∧RiseTo ltb (revB R' 0 m) x∧x≤R.length)
      (Q:=fun c st'=>st'=st5∧∃n,c =(none,n)∧1≤n∧n≤R.length∧RiseTo ltb (revB R' 0 m) n) ?stp5 ?fin5 ⟨rfl,rfl,r5,by omega⟩) ?post5)
     case fin5 =>
      rintro c st' ⟨est,rfl,b1,b2⟩
      exact⟨est,_,rfl,by omega,b2,b1⟩
     case post5 =>
      rintro c st' ⟨est,n5,rfl,b1,b2,b3⟩
      rw[est]
      exact wpS_pure (h _ _ n5 z5 b1 b2 b3)
     case stp5 =>
      rintro x c st' hx1 hx2 ⟨est,rfl,b1,b2⟩
      rw[est]
      dsimp only
      refine wpS_bind (z5.ask hO hS (i:=x) (j:=x-1) rfl (by omega) (by rw[z5.perm.length_eq];exact hx2) (by rw[z5.perm.length_eq];omega) fun v u hv hu=>?_)
      dsimp only
      cases hw:ltb v u with
      | true =>
       simp only[if_true]
       exact wpS_pure ⟨rfl,x,rfl,by omega,b2,b1⟩
      | false =>
       simp only[Bool.false_eq_true,if_false]
       exact wpS_pure ⟨rfl,rfl,b1.more O (by omega) hu hv hw,by omega⟩
end
end L2
namespace L2
open PySem PySem.Spec PyProof.Rows
def Offs:Nat→List (List Keyed)→List (Nat×Nat×Nat)→Prop
 | _,[],[]=>True
 | o,r::rs,p::ps=>p.1=o∧p.2.1=r.length∧Offs (o+r.length) rs ps
 | _,_,_=>False
theorem Offs.len:∀{o:Nat}{rs:List (List Keyed)}{ps:List (Nat×Nat×Nat)},Offs o rs ps→rs.length=ps.length
 | _,[],[],_=>rfl
 | _,_::_,_::_,⟨_,_,t⟩=>congrArg (· + 1) (Offs.len t)
theorem Offs.app:∀{o:Nat}{rs ts:List (List Keyed)}{ps qs:List (Nat×Nat×Nat)},Offs o rs ps→Offs (o+rs.flatten.length) ts qs→Offs o (rs++ts) (ps++qs)
 | o,[],ts,[],qs,_,h=>by simpa using h
 | o,r::rs,ts,p::ps,qs,⟨a,b,t⟩,h=>⟨a,b,Offs.app t (by rw[List.flatten_cons,List.length_append]at h;rw[Nat.add_assoc];exact h)⟩
section
variable {ltb:Keyed→Keyed→Bool}{κ:SortKind}
structure RI (ltb:Keyed→Keyed→Bool) (κ:SortKind) (a0:List Keyed) (st:SortSt) (rs:List (List Keyed)) (U:List Keyed):Prop where
 kind:kindOf st=κ
 fail:failedOf st=none
 arr:(arrOf st).toList=rs.flatten++U
 perm:(arrOf st).toList.Perm a0
 offs:Offs 0 rs (pendingOf st).toList
 rise:∀r∈rs,r.Pairwise (leB ltb)∧r ≠ []
end
section
variable {prog:Program}{w:World}{A:Around}{E:Value→Shared→Prop}{s:Shared}{ltb:Keyed→Keyed→Bool}{S:Keyed→Prop}{κ:SortKind}
end
end L2
namespace L2
open PySem PySem.Spec PyProof.Rows
section
variable {ltb:Keyed→Keyed→Bool}{κ:SortKind}{a0:List Keyed}{st:SortSt}{rs:List (List Keyed)}
theorem RI.push {run U2:List Keyed}{lo n:Nat}(ri:RI ltb κ a0 st rs (run++U2)) (h1:run.Pairwise (leB ltb)) (h2:run ≠ []) (el:lo=rs.flatten.length) (en:n=run.length):RI ltb κ a0 (setPending st ((pendingOf st).push (lo,n,0))) (rs ++ [run]) U2:=by
 refine⟨ri.kind,ri.fail,by show(arrOf st).toList=_;rw[ri.arr];simp,ri.perm,?_,fun r hr=>?_⟩
 ·show Offs 0 _ ((pendingOf st).push _).toList
  rw[Array.toList_push]
  exact Offs.app ri.offs ⟨by show lo=0+_;omega,en,trivial⟩
 ·rcases List.mem_append.mp hr with z|z
  ·exact ri.rise r z
  ·simp at z;rw[z];exact⟨h1,h2⟩
end
theorem rise_all {ltb:Keyed→Keyed→Bool}{R:List Keyed}(h:RiseTo ltb R R.length):R.Pairwise (leB ltb):=by
 rw[List.pairwise_iff_getElem]
 intro i j hi hj hij
 exact h i j _ _ hij hj (List.getElem?_eq_getElem hi) (List.getElem?_eq_getElem hj)
theorem rise_take {ltb:Keyed→Keyed→Bool}{R:List Keyed}{n:Nat}(h:RiseTo ltb R n) (hn:n≤R.length):(R.take n).Pairwise (leB ltb):=by
 apply rise_all
 intro i j x y hij hj hx hy
 rw[List.length_take]at hj
 rw[List.getElem?_take,if_pos (by omega)]at hx hy
 exact h i j x y hij (by omega) hx hy
section
variable {prog:Program}{w:World}{A:Around}{E:Value→Shared→Prop}{s:Shared}{ltb:Keyed→Keyed→Bool}{S:Keyed→Prop}{κ:SortKind}
theorem wpS_sortB (O:OrdB ltb) (hO:LtOk prog w A E s ltb S κ) {st:SortSt}{Q:Unit→SortSt→Prop}{a0:List Keyed}(hn:a0.length<64) (hk:kindOf st=κ) (hf:failedOf st=none) (harr:(arrOf st).toList=a0) (hp:pendingOf st = #[]) (hS:∀x∈a0,S x)
  (h:∀st',(arrOf st').toList.Perm a0→(arrOf st').toList.Pairwise (leB ltb)→failedOf st'=none→Q () st'):wpS (model prog w) A E s sortRuns' Q st:=by
 have hN:(arrOf st).size=a0.length:=by rw[← harr,Array.length_toList]
 rw[sortRuns'_eq]
 refine wpS_bind (wpS_get ?_)
 dsimp only
 rw[hN]
 have ri0:RI ltb κ a0 st [] a0:=⟨hk,hf,by rw[harr];rfl,by rw[harr],by rw[hp];exact trivial,fun r hr=>by cases hr⟩
 have split:∀{st' rs U},RI ltb κ a0 st' rs U→rs.flatten.length+U.length=a0.length:=fun {st' rs U} ri=>by
  have:=ri.perm.length_eq
  rw[ri.arr,List.length_append]at this;exact this
 refine wpS_bind (wpS_mono (wpS_forRange (I:=fun x c st'=>∃rs U,c =(none,rs.flatten.length)∧RI ltb κ a0 st' rs U∧x≤rs.flatten.length∧rs.length≤1∧(U=[]∨rs=[]))
  (Q:=fun c st'=>∃rs,c =(none,a0.length)∧RI ltb κ a0 st' rs []∧rs.length≤1) ?stp ?fin ⟨[],a0,rfl,ri0,Nat.zero_le _,Nat.zero_le _,.inr rfl⟩) ?post)
 case fin =>
  rintro c st' ⟨rs,U,rfl,ri,hx,l1,_⟩
  have:=split ri
  have hU:U=[]:=List.length_eq_zero_iff.mp (by omega)
  subst hU
  refine⟨rs,?_,ri,l1⟩
  rw[show rs.flatten.length=a0.length by omega]
 case post =>
  rintro c st1 ⟨rs,rfl,ri,l1⟩
  dsimp only
  refine wpS_bind (wpS_mono (wpS_forRange (I:=fun x c st'=>∃rs,c =(none,())∧RI ltb κ a0 st' rs []∧rs.length≤1)
   (Q:=fun c st'=>∃rs,c =(none,())∧RI ltb κ a0 st' rs []∧rs.length≤1) ?stp9 ?fin9 ⟨rs,rfl,ri,l1⟩) ?post9)
  case fin9 =>
   rintro c st' hh
   exact hh
  case post9 =>
   rintro c st' ⟨rs,rfl,ri,hl⟩
   refine wpS_pure (h st' ri.perm ?_ ri.fail)
   rw[ri.arr,List.append_nil]
   cases rs with
   | nil=>exact List.Pairwise.nil
   | cons r rs =>
    have:rs=[]:=by simp at hl;exact hl
    subst this
    simp
    exact(ri.rise r (by simp)).1
  case stp9 =>
   rintro x c st' _ hx ⟨rs,rfl,ri,hl⟩
   have hpl:(pendingOf st').size=rs.length:=by rw[← Array.length_toList,← ri.offs.len]
   refine wpS_bind (wpS_get ?_)
   try dsimp only
   rw[if_pos (by omega)]
   exact wpS_pure ⟨rs,rfl,ri,hl⟩
 case stp =>
  rintro x c st1 _ hx ⟨rs,U,rfl,ri,hxl,l1,ur⟩
  have hsp:=split ri
  dsimp only
  by_cases c1:rs.flatten.length ≥ a0.length
  ·rw[if_pos c1]
   have hU:U=[]:=List.length_eq_zero_iff.mp (by omega)
   subst hU
   refine wpS_pure ⟨rs,?_,ri,l1⟩
   rw[show rs.flatten.length=a0.length by omega]
  have hrs:rs=[]:=by
   rcases ur with e|e
   ·rw[e,List.length_nil]at hsp;omega
   ·exact e
  subst hrs
  have hUl:U.length=a0.length:=by simpa using hsp
  have hmr:minRun' a0.length a0.length 0=a0.length:=by
   cases e:a0.length with
   | zero=>rfl
   | succ k=>rw[minRun'_succ,if_pos (by omega)]
  have noB:∀{st':SortSt},pendingOf st'=pendingOf st1→(pendingOf st').back? = none:=fun {st'} e=>by
   have hpl:(pendingOf st1).size=0:=by rw[← Array.length_toList,← ri.offs.len];rfl
   rw[e,Array.back?_eq_getElem?]
   exact Array.getElem?_eq_none (by omega)
  rw[if_neg c1,show a0.length-([]:List (List Keyed)).flatten.length=U.length by omega]
  have hSU:∀x∈U,S x:=fun x hx=>hS x (ri.perm.mem_iff.mp (by rw[ri.arr];exact List.mem_append_right _ hx))
  refine wpS_bind (wpS_runB O hO (P:=([]:List (List Keyed)).flatten) (R:=U) ri.kind ri.fail ri.arr (by omega) hSU fun st2 R' n z n1 n2 rise=>?_)
  have lR':=z.perm.length_eq
  dsimp only
  rw[hmr]
  by_cases c2:n<a0.length
  ·rw[if_pos c2]
   refine wpS_bind (wpS_lift (wpAny_rule ⟨rfl,?_⟩))
   rw[show min U.length a0.length=R'.length by omega]
   refine wpS_bind (wpS_binB O hO (P:=([]:List (List Keyed)).flatten) (R:=R') (T:=[]) z.kind z.fail (by rw[z.arr,List.append_nil]) (by omega) (fun i j x y hij hj hx hy=>rise i j x y hij hj hx hy) (fun x hx=>hSU x (z.perm.mem_iff.mp hx)) fun st3 R3 a1 a2 a3 a4 a5 a6=>?_)
   simp only[Bool.not_true,Bool.false_eq_true,if_false]
   have l3:R3.length=R'.length:=a2.length_eq
   have r1:=rise_all a3
   have r2:R3 ≠ []:=fun e=>by rw[e]at l3;simp at l3;omega
   have rj:RI ltb κ a0 st3 [] (R3 ++ []):=⟨a4,a5,by rw[a1,List.append_assoc],by
    rw[a1]
    refine List.Perm.trans ?_ ri.perm
    rw[ri.arr,List.append_assoc]
    refine List.Perm.append_left _ ?_
    rw[List.append_nil]
    exact a2.trans z.perm,by rw[a6,z.pend];exact ri.offs,ri.rise⟩
   refine wpS_bind (wpS_get ?_)
   rw[noB (a6.trans z.pend)]
   dsimp only
   refine wpS_bind (wpS_modify (wpS_pure ⟨[R3],[],?_,rj.push r1 r2 rfl l3.symm,?_,Nat.le_refl _,.inl rfl⟩))
   ·simp[l3]
   ·have e1:[R3].flatten.length=a0.length:=by simp;omega
    omega
  ·rw[if_neg c2]
   have en:n=R'.length:=by omega
   subst en
   have r1:=rise_take rise (Nat.le_refl _)
   rw[List.take_length]at r1
   have r2:R' ≠ []:=fun e=>by rw[e]at n1;simp at n1
   have rj:RI ltb κ a0 st2 [] (R' ++ []):=⟨z.kind,z.fail,by rw[z.arr,List.append_nil],by
    rw[z.arr]
    refine List.Perm.trans ?_ ri.perm
    rw[ri.arr]
    exact List.Perm.append_left _ z.perm,by rw[z.pend];exact ri.offs,ri.rise⟩
   refine wpS_bind (wpS_get ?_)
   rw[noB z.pend]
   dsimp only
   refine wpS_bind (wpS_modify (wpS_pure ⟨[R'],[],?_,rj.push r1 r2 rfl rfl,?_,Nat.le_refl _,.inl rfl⟩))
   ·simp
   ·have e1:[R'].flatten.length=a0.length:=by simp;omega
    omega
end
end L2
namespace L2
open PySem PySem.Spec PyProof.Rows
def ltI (x y:Keyed):Bool:=decide (numOf x.1<numOf y.1)
def isI (x:Keyed):Prop:=∃n t,x.1=Value.int n t
theorem ordI:OrdB ltI:=⟨fun {x y} h=>by
 have:numOf x.1<numOf y.1:=of_decide_eq_true h
 exact decide_eq_false (by omega),fun {x y z} h1 h2=>by
 have a1:¬ numOf y.1<numOf x.1:=of_decide_eq_false h1
 have a2:¬ numOf z.1<numOf y.1:=of_decide_eq_false h2
 exact decide_eq_false (by omega)⟩
section
variable {prog:Program}{w:World}{A:Around}{E:Value→Shared→Prop}{s:Shared}
theorem ltOkI:LtOk prog w A E s ltI isI oneType':=by
 intro x y st Q hx hy hk q
 obtain⟨n,t,e1⟩:=hx
 obtain⟨m,u,e2⟩:=hy
 rw[lt'_eq]
 refine wpS_bind (wpS_get ?_)
 rw[hk,keyLt'_oneType,e1,e2]
 refine wpS_bind (wpS_lift (wpAny_attempt (oneLt_int ⟨rfl,wpS_pure ?_⟩)))
 have:ltI x y=decide (n<m):=by unfold ltI;rw[e1,e2];rfl
 rw[← this];exact q
theorem riseK {xs:Array Keyed}(h:xs.toList.Pairwise (leB ltI)) (k:Nat) (hk:k=xs.size):SortedTo xs k:=by
 intro i j hij hj
 subst hk
 rw[K_eq (by omega),K_eq hj]
 by_cases e:i=j
 ·subst e;exact Int.le_refl _
 ·have:=List.pairwise_iff_getElem.mp h i j (by simp;omega) (by simpa using hj) (by omega)
  have q:¬ numOf xs[j].1<numOf xs[i].1:=by
   have:=of_decide_eq_false this
   simpa using this
  omega
theorem lsort_any {a:Addr}{vs:List Value}{ns:List Int}{n:Nat}{Z:Fin→Shared→Prop}(ho:s.heap.get? a=some (seqObj "list" vs.toArray n)) (hI:IntsAre vs ns) (hv:vs.length≤63)
  (hZ:∀(out:Array Value) (ms:List Int),IntsAre out.toList ms→ms.Perm ns→ms.Pairwise (· ≤ ·)→Z (.done (.ret .none)) { s with heap:=sortedHeap s.heap a vs out }) :
  wpAny (model prog w) A (Builtin.«list.sort» ⟨[.ref a],[]⟩) Z E s:=by
 by_cases h64:vs.length<64
 ·exact list_sort_tree ho hI h64 hZ
 have hline:(63:Nat)<sizeLine:=by decide
 have lt0:=Heap.lt_size ho
 rw[list_sort_plain]
 refine(wpAny_bind (listItems_at ho rfl ?_))
 refine(wpAny_bind (listUpdate_at ho rfl ?_ (by simp;omega)))
 obtain⟨k1,hk1⟩ : ∃k1,(s.heap.update a (Obj.mapSeq fun _=>#[])).get? a=some (seqObj "list" #[] k1):=⟨_,(get?_update_seq ho (fun _=>#[]))⟩
 refine(wpAny_bind (seqEpoch_at hk1 rfl ?_))
 refine(wpAny_bind (wpAny_newTuple ?_ (by simp;omega)))
 refine(wpAny_bind (wpAny_newList ?_))
 refine(wpAny_holding ?_)
 have hk6:(((s.heap.update a (Obj.mapSeq fun _=>#[])).push (seqObj "tuple" vs.toArray 0)).push (seqObj "list" #[] 0)).get? a=some (seqObj "list" #[] k1):=(by
  rw[Heap.get?_push_ne _ _ _ (by rw[size_push',Heap.size_update];exact Nat.ne_of_lt (Nat.lt_succ_of_lt lt0)),Heap.get?_push_ne _ _ _ (by rw[Heap.size_update];exact Nat.ne_of_lt lt0)]
  exact hk1)
 show wpAny (model prog w) A _ Z E { s with heap:=((s.heap.update a (Obj.mapSeq fun _=>#[])).push (seqObj "tuple" vs.toArray 0)).push (seqObj "list" #[] 0) }
 dsimp only
 have two:¬ vs.toArray.size<2:=by simp;omega
 rw[if_neg two,if_neg two]
 obtain⟨v,u,r,rfl⟩ : ∃v u r,vs=v::u::r:=by
  cases vs with
  | nil=>simp at h64
  | cons v vs=>cases vs with
   | nil=>simp at h64
   | cons u r=>exact⟨v,u,r,rfl⟩
 rw[keyKind_ints hI]
 refine(wpAny_bind (wpAny_pure ?_))
 have a0S:∀x∈(pairsOf (v::u::r)).toList,isI x:=hI.intKeys
 refine wpAny_bind (wpAny_mono (wpS_sortB ordI ltOkI (hn:=by simp[pairsOf]at hv ⊢;omega) (st:=SortSt.mk' oneType' ((v::u::r).toArray.zip (v::u::r).toArray) #[] 7 none) (a0:=(pairsOf (v::u::r)).toList) (Q:=fun _ st'=>(arrOf st').toList.Perm (pairsOf (v::u::r)).toList∧(arrOf st').toList.Pairwise (leB ltI)∧failedOf st'=none) rfl rfl rfl rfl a0S fun st' b1 b2 b3=>⟨b1,b2,b3⟩) ?_ fun _ _ e=>e)
 rintro⟨⟨⟩,st'⟩ s' ⟨rfl,b1,b2,b3⟩
 dsimp only
 have hp:(arrOf st').Perm (pairsOf (v::u::r)):=Array.perm_iff_toList_perm.mpr b1
 have hsz:=hp.size_eq
 refine(wpAny_bind (seqEpoch_at hk6 rfl ?_))
 refine wpAny_bind (listUpdate_at hk6 rfl ?_ (hsz2:=by
  rw[Array.size_map,hsz,pairsOf_size];omega))
 rw[b3]
 simp only[bne_self_eq_false,Bool.false_eq_true,if_false]
 obtain⟨ms,c1,c2,c3⟩:=sorted_out hI hp (riseK b2 _ hsz.symm)
 exact wpAny_pure (hZ _ ms c1 c2 c3)
theorem sorted_any {l:Addr}{vs:List Value}{ns:List Int}{Q:Value→Shared→Prop}(hl:s.heap.IsList l vs.toArray) (hI:IntsAre vs ns) (hv:vs.length≤63)
  (hQ:∀(out:Array Value) (ms:List Int),IntsAre out.toList ms→ms.Perm ns→ms.Pairwise (· ≤ ·)→Q (.ref (s.heap.objs.size+1)) { s with heap:=sortedAll s.heap vs out }) :
  wpAny (model prog w) A (call (.builtin "sorted") [.ref l]) Q E s:=by
 have hline:(63:Nat)<sizeLine:=by decide
 refine(Calls.call_function_entry kind_sorted plain_sorted entry_sorted (args_sorted1 _) ?_)
 unfold Builtin.«sorted»
 refine(wpAny_bind (m:=checkCount "sorted" 1 1 _) (wpAny_pure ?_))
 refine(wpAny_bind (collect_list hl ?_ (by omega)))
 refine(wpAny_bind (wpAny_newList ?_ (by first|omega|(simp;omega))))
 have sz1:((s.heap.push (seqObj "list" #[] 0)).update s.heap.objs.size (Obj.mapSeq (· ++ vs.toArray))).objs.size=s.heap.objs.size+1:=(by rw[Heap.size_update,size_push'])
 have at1:(((s.heap.push (seqObj "list" #[] 0)).update s.heap.objs.size (Obj.mapSeq (· ++ vs.toArray))).push (seqObj "list" vs.toArray 0)).get? (s.heap.objs.size+1)=some (seqObj "list" vs.toArray 0):=(by
  rw[← sz1];exact Heap.get?_push_size _ rfl)
 show wpAny _ _ _ _ E { s with heap:=((s.heap.push (seqObj "list" #[] 0)).update s.heap.objs.size (Obj.mapSeq (· ++ vs.toArray))).push (seqObj "list" vs.toArray 0) }
 rw[sz1]
 refine wpAny_bind (wpAny_holding (wpAny_call_entry slot_list_sort ⟨_,at1,rfl⟩ entry_list_sort (lsort_any at1 hI hv fun out ms c1 c2 c3=>⟨_,rfl,?_⟩) (args_list_sort _)))
 exact wpAny_pure ⟨_,rfl,hQ out ms c1 c2 c3⟩
end
section
variable {X:Cx}
def rSortL (K:PySem.W.Frag):List V→Hp→VK→Prop:=fun xs H Q=>∃a ns,xs=[.ref a]∧SqL K H a (List.map V.int ns)∧ns.length≤63∧∀ms l,ms.Perm ns→ms.Pairwise (· ≤ ·)→H l=none→Q (.ref l) (upd H l (.lst (List.map V.int ms)))
theorem call_sortL:CallR X (.builtin "sorted") (rSortL X.K):=by
 intro pins s σ H xs us Q I r h
 obtain⟨a,ns,rfl,hq,hn,q⟩:=h
 obtain⟨u,rfl,r1⟩:=vals1 r
 cases (show u=Value.ref a from r1)
 obtain⟨its,rv,pl,hz⟩:=I.list hq
 have hi:IntsAre its ns:=intsAre_of rv
 refine sorted_any pl.isList hi (by rw[hi.length];exact hn) fun out ms c1 c2 c3=>?_
 obtain⟨e,he⟩:=sortedAll_at s.heap its out
 have hz2:(List.map V.int ms).length≤sizeLine:=by
  have hline:(63:Nat)<sizeLine:=by decide
  rw[List.length_map,c2.length_eq];omega
 exact⟨.ref (s.heap.objs.size+1),_,I.laid (t':=s.toks) (fun b o hb=>sortedAll_old hb) (Nat.le_succ _) (o:=.lst (List.map V.int ms)) ⟨hz2,out.toList,e,vals_ints c1,by simpa using he⟩,rfl,q ms _ c2 c3 (I.hok.fresh (Nat.le_succ _))⟩
theorem rd_sortL {K:PySem.W.Frag}{H:Hp}{Q:VK}{a:Addr}{ns:List Int}(h:SqL K H a (ns.map V.int)) (n:ns.length≤63) (q:∀(ms:List Int) (l:Addr),ms.Perm ns→ms.Pairwise (· ≤ ·)→H l=none→Q (.ref l) (upd H l (.lst (ms.map V.int)))):rSortL K [.ref a] H Q:=⟨a,ns,rfl,h,n,q⟩
end
end L2
namespace L2
open PySem PySem.Spec PyProof.Rows
def tDead:TS:=fun _ _ _=>False
theorem ps_dead {X:Cx}{st:Stmt}:PS X st tDead:=fun _ _ _ _ _ _ h=>h.elim
section
variable {X:Cx}{K:PySem.W.Frag}
end
section
variable {X:Cx}{K:PySem.W.Frag}{pos:Pos}
end
section
variable {σ:St}{H:Hp}{Q:VK}{D:Ends}
theorem rd_dput {td ty tv:TE}(h:tv σ H fun v H1=>td σ H1 fun x H2=>ty σ H2 fun y H3=>∃a H4,x = .ref a∧DPut H3 a y v H4∧D.nx σ H4):sDPut td ty tv D σ H:=h
theorem rd_dnewK (h:∀p,H p=none→Q (.ref p) (upd H p (.dK []))):tDNewK σ H Q:=h
end
section
variable {X:Cx}{elts:List Expr}{x1:_}{tpos:Pos}
end
section
variable {K:PySem.W.Frag}{H:Hp}{Q:VK}{σ:St}
end
end L2
namespace L2
open PySem PySem.Spec PyProof.Rows
section
variable {X:Cx}{pins:List (Addr×Obj)}{σ:St}{H:Hp}{s:Shared}{h':Heap}
theorem Inv.adopt {t':Nat}{ch:List Addr}{a:Addr}{o:HO}(I:Inv X pins σ H s) (k:∀b o,b∉ch→s.heap.get? b=some o→h'.get? b=some o) (f:∀b∈ch,FpOk X pins H b)
  (ha:a∈ch) (new:ObjOk X.prog X.w (upd H a o) h' a o):Inv X pins σ (upd H a o) { s with heap:=h',toks:=t' }:=by
 have nit:∀b u,H b=some u→b∉ch:=fun b u e z=>by rw[(f b z).1]at e;cases e
 have hn:=(f a ha).1
 have up:∀b u,H b=some u→upd H a o b=some u:=fun b u q=>by rw[upd_ne (ne_of_none q hn)];exact q
 refine I.step (g':=s.gens) (d':=s.drawn) (ch:=ch) (fun b hb=>?_) (fun b o _ _ hc e _=>k b o hc e) (fun b o _ _ hc e _=>⟨o.slots,k b o hc e⟩) (fun b ob hc e n=>by rw[upd_ne (show b≠a from fun z=>hc (by rw[z];exact ha))];exact n) (fun b o hc e=>⟨o,k b o hc e⟩) (fun b xs e=>up _ _ e) (fun b ob u e=>up _ _ e)
  (fun b ps e=>⟨#[],by rw[up _ _ e];simp⟩) (fun m hm=>?_) (fun b u e=>?_) I.bare
 ·obtain⟨f0,f1,f2,f3,f4,f5⟩:=f b hb
  exact⟨f3,f1,f4,f5⟩
 ·obtain⟨o,es,ep,ho,r⟩:=hm
  exact⟨o,es,ep,k _ o (fun z=>(f _ z).2.1 rfl) ho,r⟩
 ·by_cases hb:b=a
  ·subst hb;rw[upd_same]at e;cases e;exact new
  ·rw[upd_ne hb]at e
   refine(I.hok b u e).stay (fun c v hc q=>k c v ?_ q) (fun c q=>up _ _ q) fun c xs q=>up _ _ q
   rcases hc with z|z
   ·rw[z];exact nit b u e
   ·exact nit c _ z
variable {A:Around}{E:Value→Shared→Prop}
end
section
variable {prog:Program}{w:World}{A:Around}{E:Value→Shared→Prop}{s:Shared}
end
section
variable {X:Cx}{pins:List (Addr×Obj)}{σ:St}{H:Hp}{s:Shared}{E:Value→Shared→Prop}
end
section
variable {X:Cx}{e:Expr}{t:TA}{y:Str}{ps:List Str}{k:Nat}{sp:Sp}{p p2 kpos pos:Pos}
end
section
variable {X:Cx}
end
end L2
namespace L2
open PySem PySem.Spec PyProof.Rows
def CodeO (c:Addr) (qual:Str):HO:=.ext fun h=>h.CodeRec (.ref c) qual
def FnO (f:Addr) (o:Obj):HO:=.ext fun h=>h.get? f=some o
def Tb (P:Addr) (pos:Pos) (qual:Str) (H:Hp):Prop :=
 ∃ps:Array Value,H P=some (.tbl ps)∧TriplesOk ps.toList∧(codeAmong pos ps.toList=none ∨ ∃c,codeAmong pos ps.toList=some (.ref c)∧H c=some (CodeO c qual))
structure Sm (H H':Hp):Prop where
 nt:∀b o,H b=some o→(∀ps,o ≠ .tbl ps)→H' b=some o
 tb:∀b ps,H b=some (.tbl ps)→∃ps',H' b=some (.tbl ps')
theorem Sm.refl (H:Hp):Sm H H:=⟨fun _ _ h _=>h,fun _ ps h=>⟨ps,h⟩⟩
theorem Sm.trans {H H1 H2:Hp}(a:Sm H H1) (b:Sm H1 H2):Sm H H2:=⟨fun c o h n=>b.nt c o (a.nt c o h n) n,fun c ps h=>by
 obtain⟨ps',e⟩:=a.tb c ps h
 exact b.tb c ps' e⟩
theorem Same.sm {H H1:Hp}(a:Same H H1):Sm H H1:=⟨fun c o h _=>a c o h,fun c ps h=>⟨ps,a _ _ h⟩⟩
theorem Sm.lst {H H1:Hp}(a:Sm H H1) {b:Addr}{xs:List V}(h:H b=some (.lst xs)):H1 b=some (.lst xs):=a.nt _ _ h fun _=>nofun
theorem Sm.tup {H H1:Hp}(a:Sm H H1) {b:Addr}{xs:List V}(h:H b=some (.tup xs)):H1 b=some (.tup xs):=a.nt _ _ h fun _=>nofun
theorem Tb.same {P:Addr}{pos:Pos}{qual:Str}{H H1:Hp}(t:Tb P pos qual H) (s:Same H H1):Tb P pos qual H1:=by
 obtain⟨ps,e,h1,h2⟩:=t
 refine⟨ps,s _ _ e,h1,?_⟩
 rcases h2 with z|⟨c,z,hc⟩
 ·exact .inl z
 ·exact .inr ⟨c,z,s _ _ hc⟩
theorem Tb.keep {P:Addr}{pos:Pos}{qual:Str}{H H1:Hp}(t:Tb P pos qual H) (s:∀b o,H b=some o→((∃ps,o = .tbl ps)∨o=CodeO b qual)→H1 b=some o):Tb P pos qual H1:=by
 obtain⟨ps,e,h1,h2⟩:=t
 refine⟨ps,s _ _ e (.inl ⟨_,rfl⟩),h1,?_⟩
 rcases h2 with z|⟨c,z,hc⟩
 ·exact .inl z
 ·exact .inr ⟨c,z,s _ _ hc (.inr rfl)⟩
def BM (mg:Str→Option Value) (base:Heap):Prop:=∃bm o,mg "__builtins__" = some (.ref bm)∧bm≠builtinsNs∧base.get? bm=some o∧o.cls = .type "module"∧o.dict=some builtinsNs∧o.data = .plain
def tbP (K:PySem.W.Frag) (x:Str):Addr:=match PySem.W.tabIn K x with
 | some (_,P)=>P
 | none=>0
structure Lam (K:PySem.W.Frag) (mg:Str→Option Value) (base:Heap) (x:Str) (f:Addr) (fd:FuncData):Prop where
 bm:BM mg base
 code:∃c,fd.code = .ref c∧PySem.W.codeHdIn K c (tbP K x)=true
def tbC (K:PySem.W.Frag) (x:Str):Addr:=match PySem.W.tabIn K x with
 | some (c,_)=>c
 | none=>0
theorem lam_mk {K:PySem.W.Frag}{mg:Str→Option Value}{base:Heap}{x:Str}{f c P:Addr}{fd:FuncData}{oc:Value}{od:Option Addr}{sl:Array (Option Value)}(b:BM mg base) (a:PySem.W.nsIn K mainGlobals x=some (some (.ref f))) (l:K.lookup f=some ⟨oc,od,.func fd,sl⟩)
  (t:PySem.W.tabIn K x=some (c,P)) (h:PySem.W.codeHdIn K c P=true):Lam K mg base x f fd:=by
 have e:tbP K x=P:=by unfold tbP;rw[t]
 refine⟨b,c,?_,by rw[e];exact h⟩
 unfold PySem.W.tabIn at t
 rw[a]at t
 simp only[l]at t
 split at t
 ·rename_i c2 hc
  split at t
  ·split at t
   ·cases t;exact hc
   ·cases t
  ·cases t
 ·cases t
theorem Fun.okC {P:Program}{w:World}{K:PySem.W.Frag}{mg:Str→Option Value}{base:Heap}{x qual:Str}{st:Stmt}{f:Addr}{fd:FuncData}{N ps:List Str}{k:Nat}{sp:Sp}(F:Fun K x qual st f fd) (S:FnScope N ps (defScope st)) (len:∀vs H Q E,sp vs H Q E→vs.length=ps.length)
  (hbody:∀(cdv:Value) (A:Around) (outer:List Env) (s:Shared) (H:Hp) (vs:List V) (Q:VK) (E:XK),cdv=fd.code→Room k (A.deeper (envOfC qual (defScope st) s.heap.objs.size f cdv))→sp vs H Q E →
   ∃t,PSs (cxOf CX0 P w K mg base N qual (defScope st) f cdv A outer s H E).nox (defBody st) t∧t { nx:=fun _ H'=>Q .non H',rt:=Q } (start N vs) H):FnOk P w K mg base CX0 (k+1) f fd ps sp:=by
 obtain⟨oc,od,kV,doc,pm,an,cdv,ct,osl,rfl,lk,hcd⟩:=F.ex
 refine fn_of lk hcd S len fun A outer s H vs Q E hr hsp=>?_
 obtain⟨t,h,q⟩:=hbody cdv A outer s H vs Q E rfl hr hsp
 exact⟨t,h.nox,q⟩
theorem Cal.ofC {P:Program}{w:World}{K:PySem.W.Frag}{mg:Str→Option Value}{base:Heap}{x:Str}{st:Stmt}{f:Addr}{fd:FuncData}{N ps:List Str}{k:Nat}{sp:Sp}(F:Fun K x x st f fd) (mF:mg x=some (.ref f)) (bF:Binds K fd ps []) (S:FnScope N ps (defScope st)) (len:∀vs H Q E,sp vs H Q E→vs.length=ps.length)
  (hbody:∀(cdv:Value) (A:Around) (outer:List Env) (s:Shared) (H:Hp) (vs:List V) (Q:VK) (E:XK),cdv=fd.code→Room k (A.deeper (envOfC x (defScope st) s.heap.objs.size f cdv))→sp vs H Q E →
   ∃t,PSs (cxOf CX0 P w K mg base N x (defScope st) f cdv A outer s H E).nox (defBody st) t∧t { nx:=fun _ H'=>Q .non H',rt:=Q } (start N vs) H):Cal P w K mg base x ps (k+1) sp :=
 ⟨f,fd,F.okC S len hbody,bF,mF,F.kp⟩
section
variable {X:Cx}{pins:List (Addr×Obj)}{σ:St}{H:Hp}{s:Shared}
abbrev lamObj (X:Cx) (params:Arguments) (body:Expr) (scope:Scope) (c:Addr) (ctv:Value):Obj :=
 { cls:=.type "function",data:=.func (PySem.W.kla_fn "<lambda>" (X.env.qual ++ "<lambda>") params body scope (clOf X.env scope.names []) ((X.mg "__name__").getD .none) (.ref c) ctv) }
def tLam (X:Cx) (P:Addr) (params:Arguments) (body:Expr) (scope:Scope) (pos:Pos):TE:=fun σ H Q=>Tb P pos (X.env.qual ++ "<lambda>") H ∧
 ∀f c ctv H',Sm H H'→Tb P pos (X.env.qual ++ "<lambda>") H'→H f=none→H' f=some (FnO f (lamObj X params body scope c ctv))→H' c=some (CodeO c (X.env.qual ++ "<lambda>"))→Q (.ref f) H'
theorem objOk_code {pr:Program}{w:World}{H:Hp}{h:Heap}{c:Addr}{qual:Str}(x:h.CodeRec (.ref c) qual):ObjOk pr w H h c (CodeO c qual):=by
 refine⟨x,?_,fun h1 h2 y k=>?_⟩
 ·obtain⟨c',o,vs,t,e,g,_⟩:=x
  cases e;exact⟨o,g⟩
 ·obtain⟨c',o,vs,t,e,g,r⟩:=y
  cases e
  exact⟨c,o,vs,t,rfl,k _ g,r⟩
theorem objOk_fn {pr:Program}{w:World}{H:Hp}{h:Heap}{f:Addr}{o:Obj}(x:h.get? f=some o):ObjOk pr w H h f (FnO f o):=⟨x,⟨o,x⟩,fun h1 h2 y k=>k _ y⟩
theorem triples_snoc:∀(l:List Value) {a b:Int}{t u:Tok}{c:Value},TriplesOk l→TriplesOk (l ++ [.int a t,.int b u,c])
 | [],_,_,_,_,_,_=>trivial
 | [_],_,_,_,_,_,h=>by simp[TriplesOk]at h
 | [_,_],_,_,_,_,_,h=>by simp[TriplesOk]at h
 | x::y::z::r,a,b,t,u,c,h=>by
  cases x with
  | int i ti =>
   cases y with
   | int j tj=>exact triples_snoc r (show TriplesOk r from h)
   | _=>exact False.elim h
  | _=>exact False.elim h
theorem pe_lam {P c:Addr}{params:Arguments}{body:Expr}{scope:Scope}{pos:Pos}(hdef:defaultsOf params X.env =([],[])) (hf:∀y∈scope.names,y.2 = .free→X.env.kindOf y.1=some .cell∨X.env.kindOf y.1=some .free)
  (hcode:X.env.code = .ref c) (C:PySem.W.codeHdIn X.K c P=true) (B:BM X.mg X.base):PE X (.Lambda params body scope pos) (tLam X P params body scope pos):=by
 intro pins s σ H Q I h
 obtain⟨⟨ps,eP,ht,hc⟩,q⟩:=h
 refine PySem.W.kla_eval hdef ?_
 have hcl:closureFor scope X.env=pure (clOf X.env scope.names []):=closure_eq fun y hy hk=>I.ok.has y.1 (hf y hy hk)
 have hg:s.heap.Ns mainGlobals X.mg:=I.ok.mod.glob.keeps I.bk
 have CH:PySem.W.CodeHd s.heap c P:=(PySem.W.codeHd_of_K I.ok.mod.kin C).keeps I.bk
 have hP:s.heap.get? P=some (PySem.W.tabObj ps):=I.hok _ _ eP
 have hgP:mainGlobals≠P:=fun z=>by
  obtain⟨o,es,ep,e,hd,_⟩:=hg
  rw[z,hP]at e;cases e;cases hd
 have hB:s.heap.BuiltinsAt X.mg P:=by
  obtain⟨bm,o,b1,b2,b3,b4,b5,b6⟩:=B
  refine⟨bm,o,b1,b2,fun z=>?_,fun z=>?_,I.bk _ _ b3,b4,b5,b6⟩
  ·obtain⟨o',es,ep,e,hd,_⟩:=I.ok.mod.glob
   rw[z,e]at b3;cases b3;rw[hd]at b6;cases b6
  ·have:=(I.bs _ _ b3).2
   rw[z,eP]at this;cases this
 have tup_ne:∀{b:Addr}{o:HO},H b=some o→(∀ps,o ≠ .tbl ps)→b≠P:=fun {b o} e n z=>by rw[z,eP]at e;cases e;exact n _ rfl
 rcases hc with hn|⟨c',hc',eC⟩
 ·refine PySem.W.kla_makeFunction (mg:=X.mg) hcl I.ok.glob hg hcode CH hP ht hn hgP hB fun c' ctv h' tk hx hge hlt hrec htb=>?_
  have lt':s.heap.objs.size≤h'.objs.size:=Nat.le_trans hge (Nat.le_of_lt hlt)
  have nc:H c'=none:=I.hok.fresh hge
  have nf:H h'.objs.size=none:=I.hok.fresh lt'
  have cf:c'≠h'.objs.size:=Nat.ne_of_lt hlt
  have cP:c'≠P:=fun z=>by rw[z,eP]at nc;cases nc
  have fP:h'.objs.size≠P:=fun z=>by rw[z,eP]at nf;cases nf
  generalize hfa:h'.objs.size=f at cf nf fP lt' ⊢
  generalize hob:(PySem.W.kla_obj "<lambda>" (X.env.qual ++ "<lambda>") params body scope (clOf X.env scope.names []) ((X.mg "__name__").getD .none) c' ctv:Obj)=ob
  have kp:∀b o,b≠P→s.heap.get? b=some o→(h'.push ob).get? b=some o:=fun b o hb e=>Heap.get?_push_of_some _ (hx b o hb e)
  have gf:(h'.push ob).get? f=some ob:=by rw[← hfa];exact Heap.get?_push_size _ (by rw[← hob];rfl)
  have gP:(h'.push ob).get? P=some (PySem.W.tabObj (ps ++ #[rawInt pos.line,rawInt pos.col,.ref c'])):=Heap.get?_push_of_some _ htb
  have gC:=hrec.push ob
  generalize hH2:upd (upd (upd H P (.tbl (ps ++ #[rawInt pos.line,rawInt pos.col,.ref c']))) c' (CodeO c' (X.env.qual ++ "<lambda>"))) f (FnO f ob)=H2
  have e2f:H2 f=some (FnO f ob):=by rw[← hH2,upd_same]
  have e2c:H2 c'=some (CodeO c' (X.env.qual ++ "<lambda>")):=by rw[← hH2,upd_ne cf,upd_same]
  have e2P:H2 P=some (.tbl (ps ++ #[rawInt pos.line,rawInt pos.col,.ref c'])):=by rw[← hH2,upd_ne (Ne.symm fP),upd_ne (Ne.symm cP),upd_same]
  have e2o:∀b,b≠P→b≠c'→b≠f→H2 b=H b:=fun b h1 h2 h3=>by rw[← hH2,upd_ne h3,upd_ne h2,upd_ne h1]
  have old:∀b o,H b=some o→b≠P→H2 b=some o:=fun b o e hb=>by rw[e2o b hb (ne_of_none e nc) (ne_of_none e nf)];exact e
  have sm:Sm H H2:=⟨fun b o e n=>old b o e (tup_ne e n),fun b ps' e=>by
   by_cases h1:b=P
   ·exact⟨_,by rw[h1];exact e2P⟩
   ·exact⟨ps',old b _ e h1⟩⟩
  have hok2:HOk X.prog X.w H2 (h'.push ob):=fun b o e=>by
   by_cases h3:b=f
   ·subst h3;rw[e2f]at e;cases e;exact objOk_fn gf
   ·by_cases h2:b=c'
    ·subst h2;rw[e2c]at e;cases e;exact objOk_code gC
    ·by_cases h1:b=P
     ·subst h1;rw[e2P]at e;cases e;exact gP
     ·rw[e2o b h1 h2 h3]at e
      refine(I.hok b o e).stay (fun c u hc g=>kp c u ?_ g) (fun c z=>old c _ z (tup_ne z fun _=>nofun)) fun c xs z=>old c _ z (tup_ne z fun _=>nofun)
      rcases hc with z|z
      ·rw[z];exact h1
      ·exact tup_ne z fun _=>nofun
  have u:Un X.fs [] H H2 s.heap (h'.push ob):=by
   have neP:∀b,H b=none→b≠P:=fun b n z=>by rw[z,eP]at n;cases n
   refine⟨fun b o e n _ _=>kp b o (neP b n) e,fun b o e n _ _=>⟨o.slots,kp b o (neP b n) e⟩,fun b o e n _=>?_,fun b o e _=>?_,fun b xs e=>sm.nt _ _ e fun _=>nofun,fun b ob' u' e=>sm.nt _ _ e fun _=>nofun,fun b ps' e=>?_⟩
   ·have l:=Heap.lt_size e
    rw[e2o b (neP b n) (Nat.ne_of_lt (Nat.lt_of_lt_of_le l hge)) (Nat.ne_of_lt (Nat.lt_of_lt_of_le l lt'))];exact n
   ·by_cases h1:b=P
    ·subst h1;exact⟨_,gP⟩
    ·exact⟨o,kp b o h1 e⟩
   ·by_cases h1:b=P
    ·subst h1;rw[eP]at e;cases e;exact⟨_,e2P⟩
    ·exact⟨#[],by rw[old b _ e h1];simp⟩
  have tb2:Tb P pos (X.env.qual ++ "<lambda>") H2:=by
   refine⟨_,e2P,?_,.inr ⟨c',?_,e2c⟩⟩
   ·rw[Array.toList_append];exact triples_snoc _ ht
   ·rw[Array.toList_append];exact codeAmong_snoc _ ht hn
  refine⟨.ref f,H2,I.un (t':=tk) u hok2,rfl,q f c' ctv H2 sm tb2 nf ?_ e2c⟩
  rw[e2f,← hob]
 ·refine PySem.W.kla_makeFunctionHit (mg:=X.mg) hcl I.ok.glob hg hcode CH hP ht hc' hB fun ctv h' tk hk hsz=>?_
  have nf:H h'.objs.size=none:=I.hok.fresh hsz
  generalize hfa:h'.objs.size=f at nf hsz ⊢
  generalize hob:({ cls:=.type "function",data:=.func (PySem.W.kla_fn "<lambda>" (X.env.qual ++ "<lambda>") params body scope (clOf X.env scope.names []) ((X.mg "__name__").getD .none) (.ref c') ctv) }:Obj)=ob
  have kp:∀b o,s.heap.get? b=some o→(h'.push ob).get? b=some o:=fun b o e=>Heap.get?_push_of_some _ (hk b o e)
  have gf:(h'.push ob).get? f=some ob:=by rw[← hfa];exact Heap.get?_push_size _ (by rw[← hob];rfl)
  have sm:Same H (upd H f (FnO f ob)):=fun b o e=>by rw[upd_ne (ne_of_none e nf)];exact e
  refine⟨.ref f,upd H f (FnO f ob),I.laid (t':=tk) kp hsz (objOk_fn gf),rfl,q f c' ctv _ sm.sm ?_ nf (by rw[upd_same,← hob]) (sm _ _ eC)⟩
  exact Tb.same ⟨ps,eP,ht,.inr ⟨c',hc',eC⟩⟩ sm
end
end L2
namespace L2
open PySem PySem.Spec PyProof.Rows
def lamEnv (X:Cx) (scope:Scope) (L f c:Addr):Env:=PySem.W.envX (X.env.qual ++ "<lambda>") scope L f (.ref c) (clOf X.env scope.names [])
def cxLam (X:Cx) (scope:Scope) (N:List Str) (L f c:Addr) (s:Shared) (H:Hp):Cx :=
 { X with A:=X.A.in1.in1.deeper (lamEnv X scope L f c),N:=N,s₀:=s,H₀:=H,env:=lamEnv X scope L f c,outer:=X.stack,stack:=lamEnv X scope L f c::X.stack,ex:=[],fn:=fun _=>false,pn:=[],xe:=fun _ _=>False }
structure LamOk (X:Cx) (scope:Scope) (y:Str) (fs:List Str) (js:List Nat):Prop where
 kind:scope.kind = .function
 co:scope.isCoroutine=false
 gen:scope.isGenerator=false
 cell:∀z∈scope.names,z.2 ≠ .cell
 free:∀z∈scope.names,z.2 = .free→X.env.kindOf z.1=some .cell∨X.env.kindOf z.1=some .free
 own:scope.names.lookup y=some .local
 cap:∀z∈fs,scope.names.lookup z=some .free
 ix:js.map (fun j=>X.N[j]?)=fs.map some
def lamB (sc scope:Scope) (N:List Str) (y:Str) (fs:List Str) (js:List Nat):Bool :=
 (scope.kind == .function) && !scope.isCoroutine && !scope.isGenerator && scope.names.all (fun z=>z.2 != .cell) && scope.names.all (fun z=>z.2 != .free || sc.names.lookup z.1 == some .cell || sc.names.lookup z.1 == some .free) &&
 (scope.names.lookup y == some .local) && fs.all (fun z=>scope.names.lookup z == some .free) && (js.map (fun j=>N[j]?) == fs.map some)
theorem lamOk {X:Cx}{sc scope:Scope}{N:List Str}{y:Str}{fs:List Str}{js:List Nat}(h:lamB sc scope N y fs js=true) (hs:X.env.scope=sc) (hN:X.N=N):LamOk X scope y fs js:=by
 unfold lamB at h
 simp only[Bool.and_eq_true,List.all_eq_true,beq_iff_eq,bne_iff_ne,Bool.or_eq_true,Bool.not_eq_true']at h
 obtain⟨⟨⟨⟨⟨⟨⟨h1,h2⟩,h3⟩,h4⟩,h5⟩,h6⟩,h7⟩,h8⟩:=h
 refine⟨h1,h2,h3,h4,fun z hz hf=>?_,h6,h7,by rw[hN];exact h8⟩
 unfold Env.kindOf
 rw[hs]
 rcases h5 z hz with(q|q)|q
 ·exact absurd hf q
 ·exact .inl q
 ·exact .inr q
def lamSt (v:V) (js:List Nat) (σ:St):St:=some v::js.map (fun j=>(σ[j]?).join)
section
variable {X:Cx}{pins:List (Addr×Obj)}{σ:St}{H:Hp}{s:Shared}{scope:Scope}{y:Str}{fs:List Str}{js:List Nat}
theorem lam_start {h₁:Heap}{tk:Nat}{f c:Addr}{v:V}{u:Value}{m:Str→Option Value}(I:Inv X pins σ H s) (B:LamOk X scope y fs js) (hn:h₁.Ns s.heap.objs.size m) (hm:m y=some u) (rv:RelV v u)
  (hk:∀b o,s.heap.get? b=some o→h₁.get? b=some o):Inv (cxLam X scope (y::fs) s.heap.objs.size f c s H) [] (lamSt v js σ) H { s with heap:=h₁,toks:=tk }:=by
 have hasX:∀z∈scope.names,z.2 = .free→∃c,X.env.cells.lookup z.1=some c:=fun z hz hf=>I.ok.has z.1 (B.free z hz hf)
 have snd:∀{z:Str}{c:Addr},(clOf X.env scope.names []).lookup z=some c→X.env.cells.lookup z=some c:=fun h=>clOf_sound hasX (fun p hp=>absurd hp (by simp)) h
 have noA:∀b:Addr,b∉(cxLam X scope (y::fs) s.heap.objs.size f c s H).ex:=fun b z=>absurd (show b∈([]:List Addr) from z) (by simp)
 have hlen:js.length=fs.length:=by have:=congrArg List.length B.ix;simpa using this
 refine⟨⟨I.ok.mod,B.kind,rfl,rfl,Nat.le_refl _,fun y z c h1 h2=>I.ok.inj y z c (snd h1) (snd h2),fun z hz=>?_,fun z c q _=>absurd (show false=true from q) Bool.false_ne_true,I.ok.hd,Around.frames_deeper I.ok.frames,.inr ⟨rfl,rfl⟩,fun b z=>absurd z (noA b),I.bs,Nat.le_trans I.ok.bsz I.sz,fun b _ _=>noA b,fun b z=>absurd z (noA b),I.stack,I.stkFree⟩,
  rfl,I.bare,Un.kept hk,⟨m,hn,fun i z v' h1 h2 h3=>?_⟩,fun z c h=>?_,I.hok.fresh (Nat.le_refl _),fun z c h=>I.freeC z c (snd h),fun p hp=>absurd (show p∈([]:List (Addr×Obj)) from hp) (by simp),I.hok.kept hk,?_⟩
 ·have hz:scope.names.lookup z=some .cell∨scope.names.lookup z=some .free:=hz
  rcases hz with q|q
  ·exact absurd rfl (B.cell _ (PySem.mem_of_lookup q))
  ·exact lookup_mono_isSome (clOf_has (PySem.mem_of_lookup q))
 ·cases i with
  | zero =>
   have e1:y=z:=by simpa [cxLam] using h1
   have e2:v=v':=by simpa [lamSt] using h2
   subst e1 e2
   exact⟨u,rv,.inl ⟨B.own,hm⟩⟩
  | succ i =>
   have h1':fs[i]? = some z:=by simpa [cxLam] using h1
   have h2':(js[i]?).map (fun j=>(σ[j]?).join)=some (some v'):=by simpa [lamSt] using h2
   cases ej:js[i]? with
   | none=>rw[ej]at h2';cases h2'
   | some j =>
    rw[ej]at h2'
    have hσ:σ[j]? = some (some v'):=by
     have z:(σ[j]?).join=some v':=Option.some.inj h2'
     cases q:σ[j]? with
     | none=>rw[q]at z;cases z
     | some o=>rw[q]at z;have z':o=some v':=z;rw[z']
    have hNj:X.N[j]? = some z:=by
     have q:=congrArg (fun l=>l[i]?) B.ix
     simp only[List.getElem?_map,ej,h1',Option.map_some]at q
     exact Option.some.inj q
    have hcap:=B.cap z (List.mem_of_getElem? h1')
    have hmem:(z,NameKind.free)∈scope.names:=PySem.mem_of_lookup hcap
    have hkX:=B.free _ hmem rfl
    have vis:Vis X.env.scope z:=by
     rcases hkX with q|q
     ·exact .inr (.inl q)
     ·exact .inr (.inr q)
    obtain⟨m0,hn0,hl0⟩:=I.loc
    obtain⟨u',r,l⟩:=hl0 j z v' hNj hσ vis
    refine⟨u',r,.inr ⟨.inr hcap,?_⟩⟩
    rcases l with⟨q,_⟩|⟨_,c,hc,hcell⟩
    ·rcases hkX with w|w <;> (rw[w]at q;cases q)
    ·obtain⟨c',hc'⟩:=lookup_mono_isSome (clOf_has (env:=X.env) (cs:=[]) hmem)
     have e:=snd hc'
     rw[hc]at e
     cases e
     exact⟨c,hc',hcell.keeps hk⟩
 ·obtain⟨v,z⟩:=I.cell z c (snd h)
  exact⟨v,z.keeps hk⟩
 ·show(some v::js.map _).length =(y::fs).length
  rw[List.length_cons,List.length_cons,List.length_map,hlen]
theorem lam_run {k:Nat}{params:Arguments}{body:Expr}{f c:Addr}{ctv:Value}{te:TE}{Q:VK}{v:V}{u:Value}(B:LamOk X scope y fs js) (hr:Room (k+3) X.A)
  (hb:∀(L f c:Addr) (s:Shared) (H:Hp),PE (cxLam X scope (y::fs) L f c s H) body te)
  (hbind:∀(pm cv ct:Value) (u:Value),bindArgs (PySem.W.kla_fn "<lambda>" (X.env.qual ++ "<lambda>") params body scope (clOf X.env scope.names []) pm cv ct) ⟨[u],[]⟩=pure [(y,u)])
  (I:Inv X pins σ H s) (hf:H f=some (FnO f (lamObj X params body scope c ctv))) (hc:H c=some (CodeO c (X.env.qual ++ "<lambda>"))) (rv:RelV v u) (h:te (lamSt v js σ) H Q) :
  wpAny (model X.prog X.w) X.A.in1.in1 (call (.ref f) [u]) (EP X pins σ Q) (fun _ _=>False) s:=by
 have ho:s.heap.get? f=some (lamObj X params body scope c ctv):=(I.hok _ _ hf).1
 have hcd:s.heap.CodeRec (.ref c) (X.env.qual ++ "<lambda>"):=(I.hok _ _ hc).1
 refine wpAny_call (PySem.W.kla_callFunE hr.in1.in1.depth ho rfl B.co B.gen rfl hcd ?_)
 rw[hbind]
 refine wpAny_pure (wpAny_newFunctionEnv B.cell (by intro z hz;simp at hz;subst hz;exact B.own) (fun h₁ hns hsb=>⟨(I.nolimit).fresh _ hsb,?_⟩) B.kind)
 have hk₁:∀b o,s.heap.get? b=some o→h₁.get? b=some o:=fun b o e=>hsb.extBut b o (Nat.ne_of_lt (Heap.lt_size e)) (Heap.get?_push_of_some _ e)
 show codeAny _ _ (.expr body (lamEnv X scope s.heap.objs.size f c)) _ _
 refine PySem.W.kla_codeExpr ?_
 have J:=lam_start (f:=f) (c:=c) (tk:=s.toks + [(y,u)].length) I B hns (by simp) rv hk₁
 refine wpAny_mono (hb _ f c s H [] _ _ H Q J h) (fun r s' hq=>?_) (fun e s' hq=>(show False from hq).elim)
 obtain⟨x,H',J',rx,qx⟩:=hq
 exact I.after ⟨x,H',J'.os,J'.bare,J'.base,J'.hok,rx,qx⟩
end
section
variable {X:Cx}{e body:Expr}{t:TA}{te:TE}{k:Nat}{p kpos pos lpos:Pos}{params:Arguments}{scope:Scope}{y:Str}{fs:List Str}{js:List Nat}{P c:Addr}
theorem Sm.seq {K:PySem.W.Frag}{H H':Hp}{a:Addr}{xs:List V}(e:Sm H H') (h:SqL K H a xs):SqL K H' a xs:=by
 rcases h with(h|⟨o,h⟩)|h
 ·exact .inl (.inl (e.nt _ _ h fun _=>nofun))
 ·exact .inl (.inr ⟨o,e.nt _ _ h fun _=>nofun⟩)
 ·exact .inr h
end
section
variable {X:Cx}{a b:Expr}{rest:List Expr}{ta tb:TE}{pos:Pos}
end
def OnlyT (P:Addr) (H:Hp):Prop:=∀b,H b=none ∨(∃o xs,H b=some (.frz o (.lst xs))) ∨(b=P∧H b=some (.tbl #[]))
theorem law_callT {P:Program}{w:World}{K:PySem.W.Frag}{mg mb:Str→Option Value}{CX:CXT}{k:Nat}{fa a tP tc:Addr}{fd:FuncData}{x:Str}{sp:Sp}{s₁:Shared}{vs:List Value}{ns:List Int}
  (KX:K.In s₁.heap) (hns:s₁.heap.Ns mainGlobals mg) (hb:s₁.heap.Ns builtinsNs mb) (hbb:∀x:Str,x ≠ "__name__"→mb x=bootBuiltins x) (hlim:s₁.heap.NoLimit) (hg:s₁.gens = #[])
  (hT:s₁.heap.get? tP=some (PySem.W.tabObj #[])) (hTc:PySem.W.codeHdIn K tc tP=true) (hKP:K.lookup tP=none) (hBM:BM mg s₁.heap)
  (ha:s₁.heap.get? a=some { cls:=.type "list",data:=.seq vs.toArray }) (hi:IntsAre vs ns) (hl:ns.length≤sizeLine) (hr:Room k callerA)
  (F:∀base:Heap,K.In base→base.Ns mainGlobals mg→BM mg base→FnOk P w K mg base CX k fa fd [x] sp) (hbind:∀(s:Shared) (u:Value),BindsTo s fd ⟨[u],[]⟩ [(x,u)])
  (hsp:∀H:Hp,OnlyT tP H→H tP=some (.tbl #[])→SqL K H a (ns.map V.int)→sp [.ref a] H (fun v _=>v = .bl true) fun _ _ _=>False)
  (hCX:∀H e s',CX [] H s₁ (fun _ _ _=>False) e s'→False) :
  codeAny (model P w) callerA (.call (.ref fa) ⟨[.ref a],[]⟩) (fun r s'=>r = .ok (.ret (.bool true))∧OldK s₁.heap s'.heap∧s'.os=s₁.os∧AllBare s'.gens) s₁:=by
 have rv:=vals_ints hi
 have lenV:=hi.length
 have aP:a≠tP:=fun z=>by rw[z,hT]at ha;cases ha
 have core:∀H:Hp,OnlyT tP H→H tP=some (.tbl #[])→SqL K H a (ns.map V.int)→HOk P w H s₁.heap→(∀b,H b≠none→b=a∨b=tP)→(H a≠none→K.lookup a=none) →
   codeAny (model P w) callerA (.call (.ref fa) ⟨[.ref a],[]⟩) (fun r s'=>r = .ok (.ret (.bool true))∧OldK s₁.heap s'.heap∧s'.os=s₁.os∧AllBare s'.gens) s₁:=by
  intro H hO hHP hS hok hA hK
  have base_of:∀{b:Addr}{o:Obj},s₁.heap.get? b=some o→H b=none→(hidT s₁.heap H).get? b=some o:=fun e n=>hidT_get e n
  have noC:∀{b:Addr}{o:Obj},s₁.heap.get? b=some o→o.cls ≠ .none→o.cls ≠ .type "list"→H b=none:=fun {b o} e d d2=>by
   cases q:H b with
   | none=>rfl
   | some u =>
    rcases hA b (by rw[q];simp) with e'|e'
    ·subst e';rw[ha]at e;cases e;exact absurd rfl d2
    ·subst e';rw[hT]at e;cases e;exact absurd rfl d
  have noA:∀{b:Addr}{o:Obj}{es:Array DictEntry}{ep:Nat},s₁.heap.get? b=some o→o.data = .dict es ep→H b=none:=fun {b o es ep} e d=>by
   cases q:H b with
   | none=>rfl
   | some u =>
    rcases hA b (by rw[q];simp) with e'|e'
    ·subst e'
     rw[ha]at e;cases e
     have d':Data.seq vs.toArray _=Data.dict es ep:=d
     cases d'
    ·subst e'
     rw[hT]at e;cases e
     have d':Data.fields _=Data.dict es ep:=d
     cases d'
  have nsK:∀{b:Addr}{m:Str→Option Value},s₁.heap.Ns b m→(hidT s₁.heap H).Ns b m:=fun {b m} ⟨o,es,ep,e,d,r⟩=>⟨o,es,ep,base_of e (noA e d),d,r⟩
  have hKb:K.In (hidT s₁.heap H):=fun b o e=>base_of (KX b o e) (by
   cases q:H b with
   | none=>rfl
   | some u =>
    rcases hA b (by rw[q];simp) with e'|e'
    ·subst e'
     rw[hK (by rw[q];simp)]at e;cases e
    ·subst e'
     rw[hKP]at e;cases e)
  have hBb:BM mg (hidT s₁.heap H):=by
   obtain⟨bm,o,b1,b2,b3,b4,b5,b6⟩:=hBM
   exact⟨bm,o,b1,b2,base_of b3 (noC b3 (by rw[b4];nofun) (by rw[b4];decide)),b4,b5,b6⟩
  have hM:Mod K mg (hidT s₁.heap H):=⟨hKb,nsK hns,⟨mb,nsK hb,hbb⟩,let ⟨mc,h1,h2⟩:=hlim;⟨mc,nsK h1,h2⟩⟩
  have e0:Env0 P w K mg (hidT s₁.heap H) callerA [] s₁ H:=⟨rfl,hM,fun b o e=>of_hidT e,Nat.le_of_eq (hidT_size _ _),trivial,fun b hb=>absurd (show b∈([]:List Addr) from hb) (by simp),hok,.of_eq hg⟩
  refine codeAny_mono ((F _ hKb (nsK hns) hBb).run callerA [] s₁ H ⟨[.ref a],[]⟩ [.ref a] [.ref a] _ _ hr e0 (hbind s₁ (.ref a)) (.cons rfl .nil) (hsp H hO hHP hS)) fun r s' h=>?_
  cases r with
  | error e=>exact(hCX H e s' h).elim
  | ok fl =>
   cases fl with
   | next=>exact False.elim h
   | brk=>exact False.elim h
   | cont=>exact False.elim h
   | ret u =>
    obtain⟨v,H',os,bare,un,hok',r',q⟩:=h
    have q':v = .bl true:=q
    subst q'
    obtain rfl:u=Value.bool true:=r'
    have tb:PySem.isCodeTable s₁.heap tP:=((PySem.W.codeHd_of_K KX hTc).tab hT).isCodeTable
    have grown:∃more,s'.heap.get? tP=some (PySem.W.tabObj (#[]++more)):=by
     obtain⟨more,e⟩:=un.tbls tP _ hHP
     exact⟨more,hok' _ _ e⟩
    have keep:∀b o,b≠tP→s₁.heap.get? b=some o→s'.heap.get? b=some o:=fun b o hb' e=>by
     cases q:H b with
     | none=>exact un.keep b o e q (by intro z;exact absurd (show b∈([]:List Addr) from z) (by simp)) (by simp)
     | some u =>
      rcases hO b with z|⟨ob,xs,z⟩|⟨z,_⟩
      ·rw[q]at z;cases z
      ·have z2:=un.frzs b ob _ z
       obtain⟨e1,_⟩:=hok b _ z
       obtain⟨e2,_⟩:=hok' b _ z2
       rw[e]at e1;cases e1
       exact e2
      ·exact absurd z hb'
    refine⟨rfl,⟨fun b o e=>?_,fun b o e=>?_⟩,os,bare⟩
    ·by_cases hb':b=tP
     ·subst hb'
      rw[hT]at e;cases e
      obtain⟨more,hP⟩:=grown
      exact .inr (.inl ⟨tb,rfl,#[],more,rfl,hP⟩)
     ·exact .inl (keep b o hb' e)
    ·by_cases hb':b=tP
     ·subst hb'
      obtain⟨more,hP⟩:=grown
      exact⟨_,hP⟩
     ·exact⟨o,keep b o hb' e⟩
 have okT:∀H:Hp,ObjOk P w H s₁.heap tP (.tbl #[]):=fun H=>hT
 cases hk:K.lookup a with
 | some o =>
  have e:=KX a o hk
  rw[ha]at e
  cases e
  refine core (fun b=>if b=tP then some (.tbl #[]) else none) (fun b=>?_) (if_pos rfl) (.inr ⟨_,vs.toArray,_,hk,rfl,rfl,rfl,by rw[List.size_toArray,lenV];exact hl,by simpa using rv⟩) (fun b u z=>?_) (fun b z=>?_) fun z=>absurd (if_neg aP) z
  ·by_cases hb':b=tP
   ·exact .inr (.inr ⟨hb',if_pos hb'⟩)
   ·exact .inl (if_neg hb')
  ·by_cases hb':b=tP
   ·have z':=(if_pos hb').symm.trans z
    cases z';subst hb';exact okT _
   ·have z':=(if_neg hb').symm.trans z
    cases z'
  ·by_cases hb':b=tP
   ·exact .inr hb'
   ·exact absurd (if_neg hb') z
 | none =>
  have e3:∀b,b=tP→(fun b=>if b=tP then some (HO.tbl #[]) else if b=a then some (HO.frz { cls:=.type "list",data:=.seq vs.toArray } (.lst (ns.map V.int))) else none) b=some (.tbl #[]):=fun b e=>if_pos e
  have e4:∀b,b≠tP→b=a→(fun b=>if b=tP then some (HO.tbl #[]) else if b=a then some (HO.frz { cls:=.type "list",data:=.seq vs.toArray } (.lst (ns.map V.int))) else none) b=some (HO.frz { cls:=.type "list",data:=.seq vs.toArray } (.lst (ns.map V.int))):=fun b e1 e2=>(if_neg e1).trans (if_pos e2)
  have e5:∀b,b≠tP→b≠a→(fun b=>if b=tP then some (HO.tbl #[]) else if b=a then some (HO.frz { cls:=.type "list",data:=.seq vs.toArray } (.lst (ns.map V.int))) else none) b=none:=fun b e1 e2=>(if_neg e1).trans (if_neg e2)
  generalize (fun b=>if b=tP then some (HO.tbl #[]) else if b=a then some (HO.frz { cls:=.type "list",data:=.seq vs.toArray } (.lst (ns.map V.int))) else none)=H at e3 e4 e5
  refine core H (fun b=>?_) (e3 _ rfl) (.inl (.inr ⟨{ cls:=.type "list",data:=.seq vs.toArray },e4 _ aP rfl⟩)) (fun b u z=>?_) (fun b z=>?_) fun _=>hk
  ·by_cases h1:b=tP
   ·exact .inr (.inr ⟨h1,e3 b h1⟩)
   ·by_cases h2:b=a
    ·exact .inr (.inl ⟨_,_,e4 b h1 h2⟩)
    ·exact .inl (e5 b h1 h2)
  ·by_cases h1:b=tP
   ·rw[e3 b h1]at z;cases z;subst h1;exact okT _
   ·by_cases h2:b=a
    ·rw[e4 b h1 h2]at z;cases z;subst h2
     exact⟨ha,by rw[List.length_map];exact hl,vs,_,rv,ha⟩
    ·rw[e5 b h1 h2]at z;cases z
  ·by_cases h1:b=tP
   ·exact .inr h1
   ·by_cases h2:b=a
    ·exact .inl h2
    ·exact absurd (e5 b h1 h2) z
theorem walk_ofT {l:PySem.W.OpenLaw}{n k:Nat}{q:Program}{loose:List Str}{XP:(Str→Option Value)→Heap→Prop}{YP:World→Heap→Prop}{d:DefRec}{K:Params→PySem.W.Frag}{CX:World→CXT}{sp:World→Sp}{x:Str}{tP:Addr}
  (hn:l.most=some n) (hn2:n≤sizeLine) (hdf:d.params.defaults=[]) (hr:Room k callerA)
  (hY:∀(w:World) (h:Heap),YP w h→(K w.params).In h) (hT:∀(w:World) (h:Heap),YP w h→h.get? tP=some (PySem.W.tabObj #[])) (hTc:∀w:World,∃tc,PySem.W.codeHdIn (K w.params) tc tP=true) (hKP:∀w:World,(K w.params).lookup tP=none)
  (F:∀(w:World) (mg:Str→Option Value) (fa:Addr) (h:Heap),(K w.params).In h→h.Ns mainGlobals mg→mg d.name=some (.ref fa) →
   ∃fd:FuncData,(∀(s:Shared) (u:Value),BindsTo s fd ⟨[u],[]⟩ [(x,u)]) ∧
    ∀base:Heap,(K w.params).In base→base.Ns mainGlobals mg→BM mg base→FnOk l.prog w (K w.params) mg base (CX w) k fa fd [x] (sp w))
  (hsp:∀(w:World) (H:Hp) (a:Addr) (ns:List Int),ns.length≤n→OnlyT tP H→H tP=some (.tbl #[])→SqL (K w.params) H a (ns.map V.int)→sp w [.ref a] H (fun v _=>v = .bl true) fun _ _ _=>False)
  (hCX:∀(w:World) (H:Hp) (s:Shared) (e:Value) (s':Shared),CX w [] H s (fun _ _ _=>False) e s'→False) :
  PySem.W.WalkO q loose XP YP l.row.toRowW d [] (fun f vs=>PySem.call f vs):=by
 refine Att.attach_call hn hdf fun w s₀ s₁ mg mb fa o pm cd doc a vs ns G Y ho hd hcd hmg hobj hints hlen hg=>?_
 have KX:=hY w _ Y
 obtain⟨fd,hb,hF⟩:=F w mg fa _ KX G.T.g hmg
 obtain⟨bm,ob,b1,b2,b3,b4,b5,b6⟩:=G.T.bmain
 obtain⟨tc,hTc⟩:=hTc w
 exact law_callT KX G.T.g G.T.b G.T.builtins G.T.nolimit hg (hT w _ Y) hTc (hKP w) ⟨bm,ob,b1,b2,b3,b4,b5,b6⟩ hobj hints (Nat.le_trans hlen hn2) hr hF hb (fun H hO hP hS=>hsp w H a ns hlen hO hP hS) fun H e s'=>hCX w H s₁ e s'
end L2
namespace L2
open PySem PySem.Spec PyProof.Rows
theorem KV.get {κ:Type}:∀{kvs:List (κ×V)}{vs:List (κ×Value)}{i:Nat}{p:κ×V},KV kvs vs→kvs[i]? = some p→∃u,vs[i]? = some (p.1,u)∧RelV p.2 u
 | _,_,_,_,.nil,e=>by simp at e
 | _,_,0,_,.cons (b:=b) r _,e=>by
  simp at e;subst e
  exact⟨b.2,by rw[r.1];rfl,r.2⟩
 | _,_,i+1,p,.cons _ t,e=>by
  obtain⟨u,h1,h2⟩:=KV.get (i:=i) (p:=p) t (by simpa using e)
  exact⟨u,by simpa using h1,h2⟩
section
variable {X:Cx}
end
end L2
namespace L2
open PySem PySem.Spec PyProof.Rows
section
variable {X:Cx}
def rRng2:List V→Hp→VK→Prop:=fun xs H Q=>∃i j,xs=[.int i,.int j]∧∀r,H r=none→Q (.ref r) (upd H r (.rng i j))
theorem call_rng2:CallR X (.type "range") rRng2:=by
 intro pins s σ H xs us Q I r h
 obtain⟨i,j,rfl,q⟩:=h
 obtain⟨u,v,rfl,rx,ry⟩:=vals2 r
 obtain⟨t,rfl⟩:=rx
 obtain⟨t',rfl⟩:=ry
 refine call_range_2 ⟨.ref s.heap.objs.size,_,I.laid (fun b u e=>Heap.get?_push_of_some _ e) (Nat.le_refl _) (o:=.rng i j) ?_,rfl,q _ (I.hok.fresh (Nat.le_refl _))⟩
 exact⟨_,_,_,Heap.get?_push_size _ rfl⟩
def fromN (lo:Int) (n:Nat):List Int:=(List.range n).map fun(i:Nat)=>lo+(i:Int)
def rListR2:List V→Hp→VK→Prop:=fun xs H Q=>∃r i j,xs=[.ref r]∧H r=some (.rng i j)∧0≤i∧i≤100000∧i≤j∧j≤100000∧∀l,H l=none→Q (.ref l) (upd H l (.lst ((fromN i (j-i).toNat).map V.int)))
theorem vals_of_items2 {lo:Int}{n:Nat}{acc:Array Value}(h:ItemsOf (fun i v=>∃t,v=Value.int (lo+i*1) t) acc n):Vals ((fromN lo n).map V.int) acc.toList:=by
 obtain⟨hs,hi⟩:=h
 have key:∀(m:Nat) (l:List Value),l.length=m→(∀(i:Nat) v,l[i]? = some v→∃t,v=Value.int (lo+(i:Int)*1) t)→Vals ((fromN lo m).map V.int) l:=by
  intro m
  induction m with
  | zero=>intro l hl _;cases l with
   | nil=>exact .nil
   | cons a b=>cases hl
  | succ m ih =>
   intro l hl hv
   have hne:l ≠ []:=by intro z;rw[z]at hl;cases hl
   have hd:l=l.dropLast ++ [l.getLast hne]:=(List.dropLast_concat_getLast hne).symm
   have e:(fromN lo (m+1)).map V.int =(fromN lo m).map V.int ++ [V.int (lo+(m:Int))]:=by
    unfold fromN
    rw[List.range_succ,List.map_append,List.map_append];rfl
   rw[e,hd]
   refine Vals.append (ih _ (by rw[List.length_dropLast,hl];rfl) fun i v hh=>hv i v ?_) (.cons ?_ .nil)
   ·have:i<l.dropLast.length:=(List.getElem?_eq_some_iff.mp hh).1
    rw[hd,List.getElem?_append_left this];exact hh
   ·obtain⟨t,ht⟩:=hv m (l.getLast hne) (by
     rw[List.getLast_eq_getElem,← List.getElem?_eq_getElem]
     congr 1
     omega)
    exact⟨t,by rw[ht];congr 1;omega⟩
 refine key n acc.toList (by rw[← hs];simp) fun i v hh=>?_
 exact hi i v (by simpa using hh)
theorem call_listR2 (hc:X.calm=true):CallR X (.type "list") rListR2:=by
 intro pins s σ H xs us Q I r h
 obtain⟨a,i,j,rfl,ha,hi0,hi1,hij,hj,q⟩:=h
 obtain⟨u,rfl,rx⟩:=vals1 r
 cases rx
 obtain⟨t,u,v,e⟩:=I.hok _ _ ha
 have hn:Builtin.Range.rangeSize i j 1 =((j-i).toNat:Nat):=by rw[rangeSize_one];split <;> omega
 ·refine call_list_range (n:=(j-i).toNat) (I.ok.hd hc) e (small_one (by omega) (by omega) (by omega) (by omega)) hn (by omega) fun h' tk acc c hk hD hI=>?_
  have hv:=vals_of_items2 hI
  have hz:((fromN i (j-i).toNat).map V.int).length≤sizeLine:=by
   rw[List.length_map];unfold fromN;rw[List.length_map,List.length_range]
   have:(100000:Nat)≤sizeLine:=by decide
   omega
  refine⟨.ref s.heap.objs.size,_,I.laid (t':=tk) hk (Nat.le_refl _) (o:=.lst ((fromN i (j-i).toNat).map V.int)) ⟨hz,acc.toList,c,hv,by simpa using hD⟩,rfl,q _ (I.hok.fresh (Nat.le_refl _))⟩
end
end L2
namespace L2
open PySem PySem.Spec PyProof.Rows
def TupI (h:Heap) (v:Value) (k:Int):Prop:=∃(a:Addr) (o:Obj) (n:Nat) (t:Tok) (rest:List Value),v = .ref a∧h.get? a=some o∧o.cls = .type "tuple"∧o.data = .seq (Value.int k t::rest).toArray n
def ltT (kf:Value→Int) (x y:Keyed):Bool:=decide (kf x.1<kf y.1)
theorem ordT (kf:Value→Int):OrdB (ltT kf):=⟨fun {x y} h=>by
 have:kf x.1<kf y.1:=of_decide_eq_true h
 exact decide_eq_false (by omega),fun {x y z} h1 h2=>by
 have a1:¬ kf y.1<kf x.1:=of_decide_eq_false h1
 have a2:¬ kf z.1<kf y.1:=of_decide_eq_false h2
 exact decide_eq_false (by omega)⟩
theorem keyLt'_tuples (b:Bool) (x y:Value):keyLt' (tuples' b) x y =(do
  let xs ← Builtin.List.listItems x;let ys ← Builtin.List.listItems y
  for ((p,q),i) in(xs.toList.zip ys.toList).zipIdx do
   if !(← eqBool p q) then return ← oneLt' (b && i == 0) p q
  return decide (xs.size<ys.size)):=rfl
section
variable {prog:Program}{w:World}{A:Around}{E:Value→Shared→Prop}{s:Shared}
theorem eqBool_self {v:Value}{Q:Bool→Shared→Prop}(q:Q true s):wpAny (model prog w) A (eqBool v v) Q E s:=by
 unfold eqBool
 refine wpAny_holding ?_
 rw[if_pos (by simp)]
 refine wpAny_bind (wpAny_rule ?_)
 exact wpAny_pure q
theorem loop_same {b:Bool}{E':Value→Shared→Prop}:∀(l:List Value) (i:Nat) (Q:Option Bool×Unit→Shared→Prop),Q (none,()) s→wpAny (model prog w) A (forIn ((l.zip l).zipIdx i) ((none,()):Option Bool×Unit) fun x __s=>do
   let __do_lift ← eqBool x.1.fst x.1.snd
   if (!__do_lift)=true then do
     let __do_lift ← oneLt' (b && x.snd == 0) x.1.fst x.1.snd
     pure (ForInStep.done (some __do_lift,()))
    else pure (ForInStep.yield (none,()))) Q E' s
 | [],i,Q,q=>by
  show wpAny (model prog w) A (pure (none,())) Q E' s
  exact wpAny_pure q
 | v::l,i,Q,q=>by
  simp only[List.zip_cons_cons,List.zipIdx_cons,List.forIn_cons]
  refine wpAny_bind (wpAny_bind (eqBool_self ?_))
  rw[if_neg (by simp)]
  refine wpAny_pure ?_
  exact loop_same l (i+1) Q q
theorem ltOkT {kf:Value→Int}{a0:List Keyed}(hT:∀x∈a0,TupI s.heap x.1 (kf x.1)) (hN:∀x∈a0,∀y∈a0,kf x.1=kf y.1→x.1=y.1):LtOk prog w A E s (ltT kf) (fun x=>x∈a0) (tuples' true):=by
 intro x y st Q hx hy hk q
 obtain⟨a,o,n,t,rest,e1,g1,c1,d1⟩:=hT x hx
 obtain⟨a',o',n',t',rest',e2,g2,c2,d2⟩:=hT y hy
 have hxy:=hN x hx y hy
 rw[lt'_eq]
 refine wpS_bind (wpS_get ?_)
 rw[hk,keyLt'_tuples]
 have hq:ltT kf x y=decide (kf x.1<kf y.1):=rfl
 generalize kf x.1=k1 at *
 generalize kf y.1=k2 at *
 rw[e1,e2]
 refine wpS_bind (wpS_lift (wpAny_attempt (wpAny_bind (listItems_at g1 d1 (wpAny_bind (listItems_at g2 d2 ?_))))))
 simp only[List.zip_cons_cons,List.zipIdx_cons,List.forIn_cons]
 by_cases c:k1=k2
 ·have exy:=hxy c
  rw[e1,e2]at exy
  cases exy
  rw[g1]at g2
  cases g2
  rw[d1]at d2
  cases d2
  refine wpAny_bind (wpAny_bind (wpAny_bind (eqBool_self ?_)))
  rw[if_neg (by simp)]
  refine wpAny_pure (loop_same rest _ _ ?_)
  refine wpAny_pure ⟨rfl,wpS_pure ?_⟩
  have e:decide ((Value.int k1 t::rest).toArray.size <(Value.int k1 t::rest).toArray.size)=ltT kf x y:=by rw[hq];simp
  rw[e];exact q
 ·refine wpAny_bind (wpAny_bind (wpAny_bind (wpAny_eqBool_int ?_)))
  rw[if_pos (by simp[c])]
  refine wpAny_bind (oneLt_int (wpAny_pure ?_))
  refine wpAny_pure (wpAny_pure ⟨rfl,wpS_pure ?_⟩)
  rw[← hq];exact q
theorem first_tup {v:Value}{k:Int}{Q:Option Value→Shared→Prop}(h:TupI s.heap v k) (q:∀t,Q (some (.int k t)) s):wpAny (model prog w) A (firstOfTuple' v) Q E s:=by
 obtain⟨a,o,n,t,rest,rfl,g1,c1,d1⟩:=h
 show wpAny (model prog w) A (do
  if (← typeOf (.ref a)) != .type "tuple" then return none
  return (← Builtin.List.listItems (.ref a))[0]?) Q E s
 refine wpAny_bind (wpAny_typeOf_ref g1 ?_)
 rw[c1,if_neg (by simp)]
 refine wpAny_bind (listItems_at g1 d1 (wpAny_pure ?_))
 exact q t
theorem firsts_tup:∀{vs:List Value}{ks:List Int}{Q:List (Option Value)→Shared→Prop},(∀p∈vs.zip ks,TupI s.heap p.1 p.2)→vs.length=ks.length→(∀us:List Value,IntsAre us ks→Q (us.map some) s)→wpAny (model prog w) A (vs.mapM firstOfTuple') Q E s
 | [],[],Q,_,_,q=>by
  rw[List.mapM_nil]
  exact wpAny_pure (q [] .nil)
 | [],_::_,_,_,l,_=>by cases l
 | _::_,[],_,_,l,_=>by cases l
 | v::vs,k::ks,Q,h,l,q=>by
  rw[List.mapM_cons]
  refine wpAny_bind (first_tup (h (v,k) (by simp)) fun t=>?_)
  refine wpAny_bind (firsts_tup (ks:=ks) (fun p hp=>h p (by simp[hp])) (by simpa using l) fun us hu=>?_)
  exact wpAny_pure (q (.int k t::us) (.cons k t hu))
theorem one_int {us:List Value}{k:Int}{ks:List Int}(h:IntsAre us (k::ks)):oneTypeOnly' us.toArray=pure (some (.type "int")):=by
 rw[oneTypeOnly'_eq,List.mapM_toArray,mapM_typeOf_ints h]
 simp only[map_pure,pure_bind]
 cases h with
 | cons n t h =>
  have hall:∀l:List Value,((List.map (fun _=>Value.type "int") l).toArray.all fun x=>x == Value.type "int")=true:=fun l=>by
   simp only[List.all_toArray,List.all_map,List.all_eq_true]
   intro _ _
   rfl
  have h0:∀(u:Value) (l:List Value),(List.map (fun _=>Value.type "int") (u::l)).toArray[0]? = some (Value.type "int"):=fun _ _=>by simp
  rw[h0]
  simp only[hall,if_true]
theorem keyKind_tups {vs:List Value}{k:Int}{ks:List Int}{Q:SortKind→Shared→Prop}(h:∀p∈vs.zip (k::ks),TupI s.heap p.1 p.2) (l:vs.length =(k::ks).length) (q:Q (tuples' true) s):wpAny (model prog w) A (keyKind' vs.toArray) Q E s:=by
 rw[keyKind'_eq,List.mapM_toArray]
 refine wpAny_bind ?_
 refine wpAny_map ?_
 refine firsts_tup h l fun us hu=>?_
 rw[if_pos (by simp)]
 refine wpAny_bind (wpAny_rule ?_)
 have e:(us.map some).toArray.filterMap id=us.toArray:=by simp
 rw[e,one_int hu]
 refine wpAny_bind (wpAny_pure ?_)
 exact wpAny_pure q
theorem TupI.keep {h h':Heap}{v:Value}{k:Int}(t:TupI h v k) (f:∀a o,o.cls = .type "tuple"→h.get? a=some o→h'.get? a=some o):TupI h' v k:=by
 obtain⟨a,o,n,t,rest,e,g,c,d⟩:=t
 exact⟨a,o,n,t,rest,e,f a o c g,c,d⟩
theorem zip_self {vs:List Value}:∀{p:Value×Value},p∈vs.zip vs→p.1=p.2∧p.1∈vs:=fun h=>mem_zip_self h
theorem zipk {kf:Value→Int}:∀{l:List Value}{p:Value×Int},p∈l.zip (l.map kf)→p.1∈l∧p.2=kf p.1
 | [],_,h=>by simp at h
 | v::l,p,h=>by
  rw[List.map_cons,List.zip_cons_cons]at h
  rcases List.mem_cons.mp h with z|z
  ·rw[z];exact⟨List.mem_cons_self,rfl⟩
  ·obtain⟨a,b⟩:=zipk z
   exact⟨List.mem_cons_of_mem _ a,b⟩
theorem lsort_tups {kf:Value→Int}{a:Addr}{vs:List Value}{n:Nat}{Z:Fin→Shared→Prop}(ho:s.heap.get? a=some (seqObj "list" vs.toArray n)) (hT:∀v∈vs,TupI s.heap v (kf v)) (hN:∀v∈vs,∀u∈vs,kf v=kf u→v=u) (hv:vs.length≤63)
  (hZ:∀out:Array Value,out.toList.Perm vs→out.toList.Pairwise (fun u v=>kf u≤kf v)→Z (.done (.ret .none)) { s with heap:=sortedHeap s.heap a vs out }) :
  wpAny (model prog w) A (Builtin.«list.sort» ⟨[.ref a],[]⟩) Z E s:=by
 have hline:(63:Nat)<sizeLine:=by decide
 have lt0:=Heap.lt_size ho
 rw[list_sort_plain]
 refine(wpAny_bind (listItems_at ho rfl ?_))
 refine(wpAny_bind (listUpdate_at ho rfl ?_ (by simp;omega)))
 obtain⟨k1,hk1⟩ : ∃k1,(s.heap.update a (Obj.mapSeq fun _=>#[])).get? a=some (seqObj "list" #[] k1):=⟨_,(get?_update_seq ho (fun _=>#[]))⟩
 refine(wpAny_bind (seqEpoch_at hk1 rfl ?_))
 refine(wpAny_bind (wpAny_newTuple ?_ (by simp;omega)))
 refine(wpAny_bind (wpAny_newList ?_))
 refine(wpAny_holding ?_)
 have hk6:(((s.heap.update a (Obj.mapSeq fun _=>#[])).push (seqObj "tuple" vs.toArray 0)).push (seqObj "list" #[] 0)).get? a=some (seqObj "list" #[] k1):=(by
  rw[Heap.get?_push_ne _ _ _ (by rw[size_push',Heap.size_update];exact Nat.ne_of_lt (Nat.lt_succ_of_lt lt0)),Heap.get?_push_ne _ _ _ (by rw[Heap.size_update];exact Nat.ne_of_lt lt0)]
  exact hk1)
 have keep:∀b o,o.cls = .type "tuple"→s.heap.get? b=some o→(((s.heap.update a (Obj.mapSeq fun _=>#[])).push (seqObj "tuple" vs.toArray 0)).push (seqObj "list" #[] 0)).get? b=some o:=fun b o hc hb=>by
  have hlt:=Heap.lt_size hb
  have nb:b≠a:=fun z=>by
   subst z
   rw[ho]at hb
   cases hb
   exact absurd (show Value.type "list" = Value.type "tuple" from hc) (by decide)
  rw[Heap.get?_push_ne _ _ _ (by rw[size_push',Heap.size_update];exact Nat.ne_of_lt (Nat.lt_succ_of_lt hlt)),Heap.get?_push_ne _ _ _ (by rw[Heap.size_update];exact Nat.ne_of_lt hlt),Heap.get?_update_ne _ _ _ _ nb]
  exact hb
 show wpAny (model prog w) A _ Z E { s with heap:=((s.heap.update a (Obj.mapSeq fun _=>#[])).push (seqObj "tuple" vs.toArray 0)).push (seqObj "list" #[] 0) }
 dsimp only
 by_cases two:vs.toArray.size<2
 ·rw[if_pos two,if_pos two]
  refine(wpAny_bind (wpAny_pure ?_))
  refine wpAny_bind ?_
  show wpAny (model prog w) A (pure ((),SortSt.mk' general' (vs.toArray.zip vs.toArray) #[] 7 none)) _ _ _
  refine wpAny_pure ?_
  refine(wpAny_bind (seqEpoch_at hk6 rfl ?_))
  have ev:(vs.toArray.zip vs.toArray).map (·.2)=vs.toArray:=by
   apply Array.ext'
   rw[Array.toList_map,Array.toList_zip,List.map_snd_zip (by simp)]
  refine wpAny_bind (listUpdate_at hk6 rfl ?_ (hsz2:=by
   rw[show arrOf (SortSt.mk' general' (vs.toArray.zip vs.toArray) #[] 7 none)=vs.toArray.zip vs.toArray from rfl,ev];simp;omega))
  dsimp only
  rw[show arrOf (SortSt.mk' general' (vs.toArray.zip vs.toArray) #[] 7 none)=vs.toArray.zip vs.toArray from rfl,ev]
  simp only[bne_self_eq_false,Bool.false_eq_true,if_false]
  refine wpAny_pure (hZ _ (by simp) ?_)
  match vs,two with
  | [],_=>simp
  | [_],_=>simp
  | _::_::_,h=>simp at h;omega
 ·rw[if_neg two,if_neg two]
  obtain⟨v,r,rfl⟩ : ∃v r,vs=v::r:=by
   cases vs with
   | nil=>simp at two
   | cons v r=>exact⟨v,r,rfl⟩
  refine wpAny_bind (keyKind_tups (k:=kf v) (ks:=r.map kf) (fun p hp=>?_) (by simp) ?_)
  ·obtain⟨m1,m2⟩:=zipk (l:=v::r) (p:=p) (by simpa using hp)
   rw[m2]
   exact(hT _ m1).keep keep
  have a0T:∀x∈(pairsOf (v::r)).toList,TupI (((s.heap.update a (Obj.mapSeq fun _=>#[])).push (seqObj "tuple" (v::r).toArray 0)).push (seqObj "list" #[] 0)) x.1 (kf x.1):=fun x hx=>by
   rw[pairsOf_toList]at hx
   exact(hT _ (zip_self hx).2).keep keep
  have a0N:∀x∈(pairsOf (v::r)).toList,∀y∈(pairsOf (v::r)).toList,kf x.1=kf y.1→x.1=y.1:=fun x hx y hy=>by
   rw[pairsOf_toList]at hx hy
   exact hN _ (zip_self hx).2 _ (zip_self hy).2
  refine wpAny_bind (wpAny_mono (wpS_sortB (ordT kf) (ltOkT a0T a0N) (hn:=by simp[pairsOf]at hv ⊢;omega) (st:=SortSt.mk' (tuples' true) ((v::r).toArray.zip (v::r).toArray) #[] 7 none) (a0:=(pairsOf (v::r)).toList) (Q:=fun _ st'=>(arrOf st').toList.Perm (pairsOf (v::r)).toList∧(arrOf st').toList.Pairwise (leB (ltT kf))∧failedOf st'=none) rfl rfl rfl rfl (fun x hx=>hx) fun st' b1 b2 b3=>⟨b1,b2,b3⟩) ?_ fun _ _ e=>e)
  rintro⟨⟨⟩,st'⟩ s' ⟨rfl,b1,b2,b3⟩
  dsimp only
  have hp:(arrOf st').Perm (pairsOf (v::r)):=Array.perm_iff_toList_perm.mpr b1
  have hsz:=hp.size_eq
  refine(wpAny_bind (seqEpoch_at hk6 rfl ?_))
  refine wpAny_bind (listUpdate_at hk6 rfl ?_ (hsz2:=by
   rw[Array.size_map,hsz,pairsOf_size];omega))
  rw[b3]
  simp only[bne_self_eq_false,Bool.false_eq_true,if_false]
  refine wpAny_pure (hZ _ ?_ ?_)
  ·rw[Array.toList_map]
   have:=b1.map (·.2)
   rw[pairsOf_toList]at this
   refine this.trans ?_
   rw[List.map_snd_zip (by simp)]
  ·rw[Array.toList_map,List.pairwise_map]
   refine b2.imp_of_mem fun {x y} hx hy h=>?_
   have ex:=zip_self (by rw[← pairsOf_toList];exact b1.mem_iff.mp hx)
   have ey:=zip_self (by rw[← pairsOf_toList];exact b1.mem_iff.mp hy)
   rw[← ex.1,← ey.1]
   have:=of_decide_eq_false h
   omega
end
section
variable {X:Cx}
theorem refs_vals:∀(ts:List Addr),Vals (ts.map V.ref) (ts.map Value.ref)
 | []=>.nil
 | t::ts=>.cons rfl (refs_vals ts)
end
end L2
namespace PySem
namespace F
end F
end PySem
namespace L2
open PySem PySem.Spec PyProof.Rows
section
variable {prog:Program}{w:World}{κ:Type} [DecidableEq κ] {knd:KeyKind prog w κ}{A:Around}{E:Value→Shared→Prop}{s:Shared}
inductive PairsAt (knd:KeyKind prog w κ) (h:Heap):List Value→List (κ×Value)→Prop
 | nil:PairsAt knd h [] []
 | cons {a:Addr}{o:Obj}{n:Nat}{key val:Value}{k:κ}{vs:List Value}{rs:List (κ×Value)}:h.get? a=some o→o.cls = .type "tuple"→o.data = .seq #[key,val] n→knd.is k key=true→PairsAt knd h vs rs→PairsAt knd h (.ref a::vs) ((k,val)::rs)
end
section
variable {X:Cx}
end
theorem rd_dget {td ty:TE}{σ:St}{H:Hp}{Q:VK}(h:td σ H fun x H1=>ty σ H1 fun y H2=>∃a v,x = .ref a∧DGet H2 a y (some v)∧Q v H2):tDGet td ty σ H Q:=h
end L2
namespace L2
open PySem PySem.Spec PyProof.Rows
theorem is_kV {P:Program}{w:World}{k:Key}{u:Value}(h:(mixKind P w).is k u=true):RelV (kV k) u:=by
 rw[mixKind_is]at h
 rcases keyIs_shape h with⟨i,t,rfl,rfl⟩|⟨x,t,rfl,rfl⟩
 ·exact⟨t,rfl⟩
 ·exact⟨t,rfl⟩
section
variable {prog:Program}{w:World}{κ:Type} [DecidableEq κ] {knd:KeyKind prog w κ}{A:Around}{E:Value→Shared→Prop}{s:Shared}
theorem hint_dict {d:Addr}{kvs:List (κ×Value)}{Q:Bool→Shared→Prop}(hm:s.heap.DictOf knd d kvs) (h:Q false s):wpAny (model prog w) A (Builtin.List.listLengthHint (.ref d)) Q E s:=by
 unfold Builtin.List.listLengthHint
 refine wpAny_bind (wpAny_specialOf hm.typeIs F.slot_dict_len.lookup ?_)
 generalize hid:("dict.__len__" : String)=id0
 wp_delta
 rw[show splitId id0=some ("dict", "__len__") from by subst hid;decide +kernel]
 subst hid
 refine wpAny_bind (wpAny_isInstance (T := "dict") (b:=true) hm.typeIs (by rw[isSubtype_type];kernel_rfl) ?_)
 refine wpAny_ite_split (fun hab=>absurd hab (by decide)) (fun _=>?_)
 refine wpAny_ite_split (fun _=>?_) (fun hab=>absurd (by decide +kernel) hab)
 refine wpAny_bind (wpAny_typeOf hm.typeIs ?_)
 exact wpAny_pure h
theorem extend_dict {R:Result→Shared→Prop}{d:Addr}{kvs:List (κ×Value)}(hh:A.handled=none) (hd:(d == sysModules)=false) (hm:s.heap.DictOf knd d kvs) (hlen:kvs.length≤2^24) (S:Addr) (res:Value) (c₀:Nat) (hS:s.heap.get? S=some { cls:=.type "list",data:=.seq #[] c₀ })
  (hR:∀h' tk acc' c',(∀b o,b≠S→s.heap.get? b=some o→h'.get? b=some o)→h'.get? S=some { cls:=.type "list",dict:=none,data:=.seq acc' c',slots:=#[] } →
   ItemsOf (fun i v=>∃k x,kvs[i]? = some (k,x)∧knd.is k v=true) acc' kvs.length→R (.ok (.ret res)) { s with heap:=h',toks:=tk }) :
  wpAny (model prog w) A.in1 (Builtin.List.listExtendWith (.ref S) (.ref d) res)
   (fun fin s'=>match fin with | .done f=>R (.ok f) s' | .again c'=>c'.quiet=true∧codeAny (model prog w) A c' R s') (fun e s'=>R (.error e) s') s:=by
 obtain⟨ep,hA⟩:=hm.dictAt
 obtain⟨od,es,god,_⟩:=id hA
 have hSd:S≠d:=fun e=>by
  have h1:=hm.typeIs
  rw[← e]at h1
  obtain⟨o',g',c'⟩:=h1
  rw[hS]at g'
  cases g'
  exact absurd (show Value.type "list" = Value.type "dict" from c') (by decide)
 have hSlt:S<s.heap.objs.size:=Heap.lt_size hS
 have hSI:S≠s.heap.objs.size:=Nat.ne_of_lt hSlt
 have hdI:d≠s.heap.objs.size:=Nat.ne_of_lt (Heap.lt_size god)
 have hSf:S ∉ [s.heap.objs.size,d]:=fun hm=>by
  rcases List.mem_cons.mp hm with z|z
  ·exact hSI z
  ·exact hSd (by simpa using z)
 have W:=(Walks.dictKeys (prog:=prog) (w:=w) (A:=A.in1) (knd:=knd) hh s.heap.objs.size d hdI kvs ep).toS
 have key:∀(h:Heap) (c₁ tk:Nat),(h.IsKeyIter s.heap.objs.size d 0 kvs.length ep∧h.DictAt knd d kvs ep)→(∀b o,b≠S→s.heap.get? b=some o→h.get? b=some o) →
   h.get? S=some { cls:=.type "list",data:=.seq #[] c₁ }→codeAny (model prog w) A (.builtin "list.extend.loop" ⟨[.ref S,.ref s.heap.objs.size,res],[]⟩) R { s with heap:=h,toks:=tk }:=by
  intro h c₁ tk hit hk hS₁
  refine codeAny_extend_loopS W (by rw[sizeLine_eq];omega) S hSf res kvs.length 0 _ #[] c₁ rfl (Nat.zero_le _) hit hS₁ (ItemsOf.nil _) fun s' acc' c' hm hS' hacc=>?_
  rw[Moved.eq_with hm]
  refine hR s'.heap s'.toks acc' c' (fun b o hb e=>hm.heap b o (fun hmem=>?_) (hk b o hb e)) hS' hacc
  rcases List.mem_cons.mp hmem with e'|hmem
  ·exact hb e'
  ·exact absurd (Heap.lt_size e) (by rw[List.mem_singleton.mp hmem];exact Nat.lt_irrefl _)
 unfold Builtin.List.listExtendWith
 refine wpAny_bind (wpAny_typeOf hm.typeIs ?_)
 have h1:Builtin.List.listSameRef (.ref S) (.ref d)=false:=by simp[Builtin.List.listSameRef,hSd]
 have h2:(Value.type "dict" == Value.type "list")=false:=by decide
 have h3:(Value.type "dict" == Value.type "tuple")=false:=by decide
 simp only[h1,h2,h3,Bool.or_false,Bool.false_eq_true,if_false]
 refine wpAny_bind (wpAny_pyIter_dict hd hA ?_)
 refine wpAny_bind (wpAny_holding (hint_dict (hm.push _) ?_))
 have hit₁:(s.heap.push { cls:=.type "dict_keyiterator",data:=.fields #[.ref d,.int 0 0,.int kvs.length 0,.int ep 0] }).IsKeyIter s.heap.objs.size d 0 kvs.length ep:=⟨_,Heap.get?_push_size _ rfl,rfl,rfl⟩
 have hA₁:(s.heap.push { cls:=.type "dict_keyiterator",data:=.fields #[.ref d,.int 0 0,.int kvs.length 0,.int ep 0] }).DictAt knd d kvs ep:=hA.at' fun o e=>Heap.get?_push_of_some _ e
 have hS₁:=Heap.get?_push_of_some { cls:=.type "dict_keyiterator",data:=.fields #[.ref d,.int 0 0,.int kvs.length 0,.int ep 0] } hS
 refine wpAny_ite_split (fun _=>?_) (fun _=>wpAny_pure ⟨plainId_quiet F.plain_extend_loop _,key _ c₀ _ ⟨hit₁,hA₁⟩ (fun b o _ e=>Heap.get?_push_of_some _ e) hS₁⟩)
 refine wpAny_bind (wpAny_rule ?_)
 refine wpAny_bind ?_
 show wpAny _ _ (updateSeq S (·.push .none) >>= fun _=>updateSeq S (·.pop)) _ _ _
 refine wpAny_bind (wpAny_updateSeq hS₁ rfl ?_)
 have hS₂:=Heap.get?_update_self (Obj.mapSeq (·.push Value.none)) hS₁ rfl
 refine wpAny_updateSeq (hz:=by seq_fits) hS₂ rfl ?_
 have hS₃:=Heap.get?_update_self (Obj.mapSeq (·.pop)) hS₂ rfl
 have oth:∀b o,b≠S→(s.heap.push { cls:=.type "dict_keyiterator",data:=.fields #[.ref d,.int 0 0,.int kvs.length 0,.int ep 0] }).get? b=some o→(((s.heap.push { cls:=.type "dict_keyiterator",data:=.fields #[.ref d,.int 0 0,.int kvs.length 0,.int ep 0] }).update S (Obj.mapSeq (·.push Value.none))).update S (Obj.mapSeq (·.pop))).get? b=some o:=fun b o hb e=>(Heap.get?_update_other _ _ (Ne.symm hb)).trans ((Heap.get?_update_other _ _ (Ne.symm hb)).trans e)
 refine wpAny_pure ⟨plainId_quiet F.plain_extend_loop _,key _ _ _ ⟨hit₁.at fun o e=>oth _ o (Ne.symm hSI) e,hA₁.at' fun o e=>oth _ o (Ne.symm hSd) e⟩ (fun b o hb e=>oth b o hb (Heap.get?_push_of_some _ e)) hS₃⟩
theorem init_dict {R:Result→Shared→Prop}{d:Addr}{kvs:List (κ×Value)}(hh:A.handled=none) (hd:(d == sysModules)=false) (hm:s.heap.DictOf knd d kvs) (hlen:kvs.length≤2^24) (S:Addr) (hS:s.heap.get? S=some { cls:=.type "list",data:=.seq #[] })
  (hR:∀h' tk acc' c',(∀b o,b≠S→s.heap.get? b=some o→h'.get? b=some o)→h'.get? S=some { cls:=.type "list",dict:=none,data:=.seq acc' c',slots:=#[] } →
   ItemsOf (fun i v=>∃k x,kvs[i]? = some (k,x)∧knd.is k v=true) acc' kvs.length→R (.ok (.ret .none)) { s with heap:=h',toks:=tk }) :
  wpAny (model prog w) A.in1 (Builtin.«list.__init__» ⟨[.ref S,.ref d],[]⟩)
   (fun fin s'=>match fin with | .done f=>R (.ok f) s' | .again c'=>c'.quiet=true∧codeAny (model prog w) A c' R s') (fun e s'=>R (.error e) s') s:=by
 have hSd:S≠d:=fun e=>by
  have h1:=hm.typeIs
  rw[← e]at h1
  obtain⟨o',g',c'⟩:=h1
  rw[hS]at g'
  cases g'
  exact absurd (show Value.type "list" = Value.type "dict" from c') (by decide)
 show wpAny _ _ (do let old ← Builtin.List.listItems (.ref S);Builtin.List.listUpdate (.ref S) (fun _=>#[]);letGo old.toList.reverse;Builtin.List.listExtendWith (.ref S) (.ref d) .none) _ _ s
 refine wpAny_bind ?_
 unfold Builtin.List.listItems
 refine wpAny_bind (wpAny_seqItems hS rfl (wpAny_pure ?_))
 show wpAny _ _ (updateSeq S (fun _=>#[]) >>= fun _=>letGo (#[]:Array Value).toList.reverse >>= fun _=>Builtin.List.listExtendWith (.ref S) (.ref d) .none) _ _ s
 refine wpAny_bind (wpAny_updateSeq hS rfl ?_)
 have hS₂:=Heap.get?_update_self (Obj.mapSeq (fun _=>(#[]:Array Value))) hS rfl
 have oth:∀b o,b≠S→s.heap.get? b=some o→(s.heap.update S (Obj.mapSeq (fun _=>(#[]:Array Value)))).get? b=some o :=
  fun b o hb e=>(Heap.get?_update_other _ _ (Ne.symm hb)).trans e
 refine wpAny_bind (wpAny_letGo ?_)
 obtain⟨od,es,ep,god,r⟩:=id hm
 refine extend_dict (knd:=knd) (kvs:=kvs) hh hd ⟨od,es,ep,oth d _ (Ne.symm hSd) god,r⟩ hlen S .none _ hS₂ fun h' tk acc' c' hk hS' hacc=>?_
 exact hR h' tk acc' c' (fun b o hb e=>hk b o hb (oth b o hb e)) hS' hacc
theorem call_list_dict {Q:Value→Shared→Prop}{d:Addr}{kvs:List (κ×Value)}(hh:A.handled=none) (hd:(d == sysModules)=false) (hm:s.heap.DictOf knd d kvs) (hlen:kvs.length≤2^24)
  (hQ:∀h' tk acc' c',(∀b o,s.heap.get? b=some o→h'.get? b=some o) →
   h'.get? s.heap.objs.size=some { cls:=.type "list",dict:=none,data:=.seq acc' c',slots:=#[] }→ItemsOf (fun i v=>∃k x,kvs[i]? = some (k,x)∧knd.is k v=true) acc' kvs.length→Q (.ref s.heap.objs.size) { s with heap:=h',toks:=tk }) :
  wpAny (model prog w) A (call (.type "list") [.ref d]) Q E s:=by
 refine callType_codes (Q₁:=fun obj s₁=>obj = .ref s.heap.objs.size∧s₁ = { s with heap:=s.heap.push { cls:=.type "list",data:=.seq #[] } }) F.called_list (F.typeCall_list_1 _) F.entry_list_init
  (code_list_new _ ⟨rfl,rfl⟩) fun obj s₁ h₁=>?_
 obtain⟨rfl,rfl⟩:=h₁
 have hS:(s.heap.push { cls:=.type "list",data:=.seq #[] }).get? s.heap.objs.size=some { cls:=.type "list",data:=.seq #[] }:=Heap.get?_push_size _ rfl
 refine⟨⟨_,hS,rfl⟩,F.args_list_init_2 _ _,init_dict (A:=A.in1) (knd:=knd) (kvs:=kvs) hh hd (hm.push _) hlen _ hS fun h' tk acc' c' hk hS' hacc=>?_⟩
 exact⟨rfl,hQ h' tk acc' c' (fun b o e=>hk b o (Nat.ne_of_lt (Heap.lt_size e)) (Heap.get?_push_of_some _ e)) hS' hacc⟩
end
section
variable {X:Cx}
def rListD:List V→Hp→VK→Prop:=fun xs H Q=>∃(d:Addr) (kvs:List (Key×V)),xs=[.ref d]∧H d=some (.dK kvs)∧∀l,H l=none→Q (.ref l) (upd H l (.lst (kvs.map fun kv=>kV kv.1)))
theorem keys_vals {P:Program}{w:World}:∀{kvs:List (Key×V)}{vs:List (Key×Value)}{us:List Value},KV kvs vs→us.length=vs.length→(∀(i:Nat) v,us[i]? = some v→∃k x,vs[i]? = some (k,x)∧(mixKind P w).is k v=true)→Vals (kvs.map fun kv=>kV kv.1) us
 | _,_,[],.nil,_,_=>.nil
 | _,_,_::_,.nil,l,_=>by cases l
 | _,_,[],.cons _ _,l,_=>by cases l
 | _,_,u::us,.cons (a:=p) (b:=b) r t,l,h=>by
  obtain⟨k,x,h1,h2⟩:=h 0 u rfl
  have e:b =(k,x):=by simpa using h1
  refine .cons ?_ (keys_vals (P:=P) (w:=w) t (by simpa using l) fun i v hv=>?_)
  ·have:=is_kV h2
   show RelV (kV p.1) u
   rw[r.1,e];exact this
  ·obtain⟨k',x',h3,h4⟩:=h (i+1) v (by simpa using hv)
   exact⟨k',x',by simpa using h3,h4⟩
theorem call_listD (hc:X.calm=true):CallR X (.type "list") rListD:=by
 intro pins s σ H xs us Q I r h
 obtain⟨d,kvs,rfl,hd,q⟩:=h
 obtain⟨u,rfl,r1⟩:=vals1 r
 cases (show u=Value.ref d from r1)
 obtain⟨hz,lo,vs,rk,hD⟩ : kvs.length≤sizeLine∧(d == sysModules)=false∧∃vs,KV kvs vs∧s.heap.DictOf (mixKind X.prog X.w) d vs:=I.hok d _ hd
 have hl:kvs.length=vs.length:=Paired.length rk
 refine call_list_dict (I.ok.hd hc) lo hD (by rw[← hl];exact hz) fun h' tk acc c kp hS hacc=>?_
 have hv:Vals (kvs.map fun kv=>kV kv.1) acc.toList:=keys_vals (P:=X.prog) (w:=X.w) rk (by rw[← hacc.1];simp) fun i v e=>hacc.2 i v (by simpa using e)
 have hz2:(kvs.map fun kv=>kV kv.1).length≤sizeLine:=by rw[List.length_map];exact hz
 exact⟨.ref s.heap.objs.size,_,I.laid (t':=tk) kp (Nat.le_refl _) (o:=.lst (kvs.map fun kv=>kV kv.1)) ⟨hz2,acc.toList,c,hv,by simpa using hS⟩,rfl,q _ (I.hok.fresh (Nat.le_refl _))⟩
end
end L2
namespace L2
open PySem PySem.Spec PyProof.Rows
inductive NumU:Value→Int→Prop
 | int (i:Int) (t:Tok):NumU (.int i t) i
 | bl (b:Bool):NumU (.bool b) (if b=true then(1:Int) else 0)
section
variable {prog:Program}{w:World}{A:Around}{E:Value→Shared→Prop}{s:Shared}{Q:Value→Shared→Prop}{a b:Value}{i j:Int}
end
section
variable {prog:Program}{w:World}{A:Around}{E:Value→Shared→Prop}{s:Shared}{Q:Value→Shared→Prop}{a b:Value}{i j:Int}
end
inductive Num:V→Int→Prop
 | int (i:Int):Num (.int i) i
 | bl (b:Bool):Num (.bl b) (if b=true then(1:Int) else 0)
section
variable {X:Cx}
end
end L2
namespace L2
open PySem PySem.Spec PyProof.Rows
section
variable {X:Cx}
def plainV:V→Bool
 | .non=>true | .int _=>true | .bl _=>true | .str _=>true | .ref _=>true|_=>false
theorem eqAt_rel {A:Around}{s:Shared}{x:V}{u v:Value}(hx:plainV x=true) (r1:RelV x u) (r2:RelV x v):SeqAt.EqAt A s u v true:=by
 cases x with
 | non=>cases r1;cases r2;exact SeqAt.EqAt.same _
 | bl b=>cases r1;cases r2;exact SeqAt.EqAt.same _
 | int i =>
  obtain⟨t,rfl⟩:=r1
  obtain⟨t',rfl⟩:=r2
  have:=SeqAt.EqAt.int_int (A:=A) (s:=s) i t i t'
  simpa using this
 | str z =>
  obtain⟨t,rfl⟩:=r1
  obtain⟨t',rfl⟩:=r2
  have:=SeqAt.EqAt.str_str (A:=A) (s:=s) z t z t'
  simpa using this
 | ref p=>cases r1;cases r2;exact SeqAt.EqAt.same _
 | _=>cases hx
end
end L2
namespace L2
open PySem PySem.Spec PyProof.Rows
section
variable {X:Cx}
end
end L2
namespace L2
open PySem PySem.Spec PyProof.Rows
section
variable {prog:Program}{w:World}{A:Around}{R:Result→Shared→Prop}{s:Shared}{elt t1 i1 t2 i2:Expr}{fs1 fs2:List Expr}{scope:Scope}{pos:Pos}{it acc:Value}{env:Env}
end
section
variable {X:Cx}{pins:List (Addr×Obj)}{σ:St}{H:Hp}{s:Shared}{scope:Scope}{vs fs:List Str}{js:List Nat}
end
section
variable {X:Cx}{pins:List (Addr×Obj)}{σ:St}{H:Hp}{s:Shared}{scope:Scope}{vs fs:List Str}{js:List Nat}
end
section
variable {vs:List Str}{js:List Nat}{σ:St}{H:Hp}{Q:VK}
end
end L2
namespace L2
open PySem PySem.Spec PyProof.Rows
section
variable {X:Cx}
end
end L2
namespace L2
open PySem PySem.Spec PyProof.Rows
structure MCal (P:Program) (w:World) (K:PySem.W.Frag) (mg:Str→Option Value) (base:Heap) (C:Addr) (m:Str) (ps:List Str) (k:Nat) (sp:Sp):Prop where
 ex:∃(f:Addr) (fd:FuncData),FnOk P w K mg base CX0 k f fd ps sp∧Binds K fd ps []∧Meth K C m f
structure KCal (P:Program) (w:World) (K:PySem.W.Frag) (mg:Str→Option Value) (base:Heap) (x:Str) (C:Addr) (ps:List Str) (k:Nat) (sp:Sp):Prop where
 ex:∃(f:Addr) (fd:FuncData),FnOk P w K mg base CX0 k f fd ps sp∧Binds K fd ps []∧Mk K C f∧mg x=some (.ref C)
section
variable {X:Cx}{x m:Str}{C:Addr}{ps:List Str}{k:Nat}{sp:Sp}{e o:Expr}{es:List Expr}{t:TA}{ta:TE}{p pos apos:Pos}
theorem pml {pl:Sem Bool}(M:MCal X.prog X.w X.K X.mg X.base C m ps k sp) (c:Cls X.K C) (hr:Room k X.A) (he:PE X o ta) (ha:PA X (e::es) t)
  (hst:starEach (e::es) X.env =(false,eval e X.env)::starEach es X.env:=by rfl) (hpl:(backTo pos (starEach es X.env)).any (·.1)=false:=by rfl)
  (ht:eval (.Call (.Attribute o m apos) (e::es) [] pos) X.env =(do
   let ov ← eval o X.env
   standAt apos.atName
   let (f,first) ← holding [ov] (getMethod ov m pl)
   callWith pos f first (backTo pos (starEach (e::es) X.env)) (backToKw pos (keywordEach [] X.env))):=by rfl) :
  PE X (.Call (.Attribute o m apos) (e::es) [] pos) (tMeth C m sp [] E0 ta t):=by
 obtain⟨f,fd,F,hb,hm⟩:=M.ex
 exact pe_meth (pl:=pl) he c hm F hr hb .nil pass0 ha hst hpl ht
theorem pml0 {pl:Sem Bool}(M:MCal X.prog X.w X.K X.mg X.base C m ps k sp) (c:Cls X.K C) (hr:Room k X.A) (he:PE X o ta)
  (ht:eval (.Call (.Attribute o m apos) [] [] pos) X.env =(do
   let ov ← eval o X.env
   standAt apos.atName
   let (f,first) ← holding [ov] (getMethod ov m pl)
   callWith pos f first (backTo pos (starEach [] X.env)) (backToKw pos (keywordEach [] X.env))):=by rfl) :
  PE X (.Call (.Attribute o m apos) [] [] pos) (tMeth C m sp [] E0 ta tNil):=by
 obtain⟨f,fd,F,hb,hm⟩:=M.ex
 exact pe_meth0 (pl:=pl) he c hm F hr hb .nil pass0 ht
theorem pmk (M:KCal X.prog X.w X.K X.mg X.base x C ps k sp) (hr:Room (k+1) X.A) (ha:PA X (e::es) t) (hg:Gl X x:=by rfl) (hdb:(x ==("__debug__" : Str))=false:=by decide) (he:starEach (e::es) X.env =(false,eval e X.env)::starEach es X.env:=by rfl) (hpl:(backTo pos (starEach es X.env)).any (·.1)=false:=by rfl) :
  PE X (.Call (.Name x p) (e::es) [] pos) (tMake C sp [] E0 t):=by
 obtain⟨f,fd,F,hb,hM,hm⟩:=M.ex
 exact pe_make hM F hr hg hm hb .nil pass0 ha hdb he hpl
end
theorem MCal.of {P:Program}{w:World}{K:PySem.W.Frag}{mg:Str→Option Value}{base:Heap}{C:Addr}{x qual:Str}{st:Stmt}{f:Addr}{fd:FuncData}{N ps:List Str}{k:Nat}{sp:Sp}(F:Fun K x qual st f fd) (mF:Meth K C x f) (bF:Binds K fd ps []) (S:FnScope N ps (defScope st)) (len:∀vs H Q E,sp vs H Q E→vs.length=ps.length)
  (hbody:∀(cdv:Value) (A:Around) (outer:List Env) (s:Shared) (H:Hp) (vs:List V) (Q:VK) (E:XK),Room k (A.deeper (envOfC qual (defScope st) s.heap.objs.size f cdv))→sp vs H Q E →
   ∃t,PSs (cxOf CX0 P w K mg base N qual (defScope st) f cdv A outer s H E).nox (defBody st) t∧t { nx:=fun _ H'=>Q .non H',rt:=Q } (start N vs) H):MCal P w K mg base C x ps (k+1) sp :=
 ⟨f,fd,F.ok S len hbody,bF,mF⟩
theorem KCal.of {P:Program}{w:World}{K:PySem.W.Frag}{mg:Str→Option Value}{base:Heap}{C:Addr}{x y qual:Str}{st:Stmt}{f:Addr}{fd:FuncData}{N ps:List Str}{k:Nat}{sp:Sp}(F:Fun K y qual st f fd) (mF:Mk K C f) (mC:mg x=some (.ref C)) (bF:Binds K fd ps []) (S:FnScope N ps (defScope st)) (len:∀vs H Q E,sp vs H Q E→vs.length=ps.length)
  (hbody:∀(cdv:Value) (A:Around) (outer:List Env) (s:Shared) (H:Hp) (vs:List V) (Q:VK) (E:XK),Room k (A.deeper (envOfC qual (defScope st) s.heap.objs.size f cdv))→sp vs H Q E →
   ∃t,PSs (cxOf CX0 P w K mg base N qual (defScope st) f cdv A outer s H E).nox (defBody st) t∧t { nx:=fun _ H'=>Q .non H',rt:=Q } (start N vs) H):KCal P w K mg base x C ps (k+1) sp :=
 ⟨f,fd,F.ok S len hbody,bF,mF,mC⟩
section
variable {σ:St}{H:Hp}{Q:VK}
theorem rd_meth {C:Addr}{m:Str}{sp:Sp}{dvs:List V}{E:XK}{ta:TE}{t:TA}(h:ta σ H fun x H1=>∃a dx fs,x = .ref a∧H1 a=some (.ins C dx fs)∧fs.lookup m=none∧t σ H1 fun vs H2=>sp (x::(vs++dvs)) H2 Q E):tMeth C m sp dvs E ta t σ H Q:=h
theorem rd_make {C:Addr}{sp:Sp}{dvs:List V}{E:XK}{t:TA}(h:t σ H fun vs H1=>∀x dx,H1 x=none→H1 dx=none→dx≠x→sp (.ref x::(vs++dvs)) (upd (upd H1 dx (.own x)) x (.ins C dx [])) (fun v H2=>v = .non∧Q (.ref x) H2) E):tMake C sp dvs E t σ H Q:=h
theorem rd_fld {K:PySem.W.Frag}{ta:TE}{f:Str}(h:ta σ H fun x H1=>∃a C dx fs v,x = .ref a∧H1 a=some (.ins C dx fs)∧Cls K C∧NoAttr K C f∧fs.lookup f=some v∧Q v H1):tFld K ta f σ H Q:=h
theorem rd_sfld {K:PySem.W.Frag}{ta tv:TE}{f:Str}{D:Ends}(h:tv σ H fun y H1=>ta σ H1 fun x H2=>∃a C dx fs,x = .ref a∧H2 a=some (.ins C dx fs)∧Cls K C∧NoAttr K C f∧fs.length<1000∧D.nx σ (upd H2 a (.ins C dx (putF f y fs)))):sFld K ta tv f D σ H:=h
theorem rd_dnin {ty td:TE}(h:ty σ H fun y H1=>td σ H1 fun x H2=>∃a o,x = .ref a∧DGet H2 a y o∧Q (.bl (!o.isSome)) H2):tDNotIn ty td σ H Q:=h
end
section
variable {X:Cx}
def rLenD:List V→Hp→VK→Prop:=fun xs H Q=>∃a kvs,xs=[V.ref a]∧H a=some (.dK kvs)∧Q (.int kvs.length) H
theorem call_lenD:CallR X (.builtin "len") rLenD:=by
 intro pins s σ H xs us Q I r h
 obtain⟨a,kvs,rfl,ha,q⟩:=h
 obtain⟨u,rfl,ru⟩:=vals1 r
 cases ru
 exact d_len I (.inl ha) fun t s' I'=>⟨.int kvs.length,H,I',⟨t,rfl⟩,q⟩
end
section
variable {X:Cx}{pins:List (Addr×Obj)}{σ:St}{H:Hp}{s:Shared}{d:Addr}{o:Obj}{kvs:List (Key×V)}
end
section
variable {X:Cx}
end
end L2
namespace L2
open PySem PySem.Spec PyProof.Rows
section
variable {prog:Program}{w:World}{A:Around}{E:Value→Shared→Prop}{s:Shared}{κ:Type} [DecidableEq κ] {knd:KeyKind prog w κ}
theorem collect_dict {Q:List Value→Shared→Prop}{d:Addr}{kvs:List (κ×Value)}(hh:A.handled=none) (hd:(d == sysModules)=false) (hm:s.heap.DictOf knd d kvs) (hlen:kvs.length≤2^24)
  (hQ:∀h' tk acc,(∀b o,s.heap.get? b=some o→h'.get? b=some o)→ItemsOf (fun i v=>∃k x,kvs[i]? = some (k,x)∧knd.is k v=true) acc kvs.length→Q acc.toList { s with heap:=h',toks:=tk }) :
  wpAny (model prog w) A (collect (.ref d)) Q E s:=by
 unfold collect
 refine wpAny_bind (wpAny_runValue (codeAny_builtin PySem.F.entry_proto_collect ?_))
 rw[Around.under_plainId PySem.F.plain_proto_collect _]
 show wpAny _ A.in1 (newList [] >>= fun l=>again (.builtin "list.__iadd__" ⟨[l,.ref d],[]⟩)) _ _ s
 refine wpAny_bind (wpAny_newObj_type ?_)
 refine wpAny_pure ⟨plainId_quiet PySem.F.plain_list_iadd _,codeAny_builtin PySem.F.entry_list_iadd ?_⟩
 rw[Around.under_plainId PySem.F.plain_list_iadd _]
 have hS:(s.heap.push { cls:=.type "list",data:=.seq ([]:List Value).toArray }).get? s.heap.objs.size=some { cls:=.type "list",data:=.seq ([]:List Value).toArray }:=Heap.get?_push_size _ rfl
 show wpAny _ A.in1 (Builtin.List.listExtendWith (.ref s.heap.objs.size) (.ref d) (.ref s.heap.objs.size)) _ _ _
 refine extend_dict (knd:=knd) (kvs:=kvs) (R:=fun r s'=>match r with
   | .ok (.ret v)=>wpAny (model prog w) A (match v with
     | .ref a=>do
      let o ← load a
      match o.data with
      | .seq xs _=>pure xs.toList
      | _=>unsupported "internal:collect"
     | _=>unsupported "internal:collect") Q E s'
   | .ok _=>False
   | .error e=>E e s') (s:={ s with heap:=s.heap.push { cls:=.type "list",data:=.seq ([]:List Value).toArray } }) hh hd (hm.push _) hlen s.heap.objs.size _ _ hS fun h' tk acc' c' hk hS' hacc=>?_
 show wpAny _ A (load s.heap.objs.size >>= _) _ _ _
 refine wpAny_bind (wpAny_load hS' ?_)
 exact wpAny_pure (hQ h' tk acc' (fun b o e=>hk b o (Nat.ne_of_lt (Heap.lt_size e)) (Heap.get?_push_of_some _ e)) hacc)
theorem sorted_pairs {x:Value}{Q:Value→Shared→Prop}{n:Nat}(hv:n≤63) (P:Heap→List Value→(Value→Int)→Prop)
  (hC:∀(A':Around) (R:List Value→Shared→Prop) (E':Value→Shared→Prop),A'.handled=A.handled→(∀h' tk vs kf,P h' vs kf→vs.length=n→(∀v∈vs,TupI h' v (kf v))→(∀v∈vs,∀u∈vs,kf v=kf u→v=u)→R vs { s with heap:=h',toks:=tk })→wpAny (model prog w) A' (collect x) R E' s)
  (hQ:∀(h':Heap) (tk:Nat) (vs:List Value) (kf:Value→Int) (out:Array Value) (hF:Heap) (e:Nat),P h' vs kf→out.toList.Perm vs→out.toList.Pairwise (fun u v=>kf u≤kf v)→(∀b o,h'.get? b=some o→hF.get? b=some o)→hF.get? h'.objs.size=some (seqObj "list" out e)→Q (.ref h'.objs.size) { s with heap:=hF,toks:=tk }) :
  wpAny (model prog w) A (call (.builtin "sorted") [x]) Q E s:=by
 have hline:(63:Nat)<sizeLine:=by decide
 refine(Calls.call_function_entry kind_sorted plain_sorted entry_sorted (args_sorted1 _) ?_)
 unfold Builtin.«sorted»
 refine(wpAny_bind (m:=checkCount "sorted" 1 1 _) (wpAny_pure ?_))
 refine(wpAny_bind (hC _ _ _ rfl fun h' tk vs kf hP hl hT hN=>?_))
 have hvl:vs.length≤63:=by rw[hl];exact hv
 refine(wpAny_bind (wpAny_newList ?_ (by first|omega|(simp;omega))))
 have at1:(h'.push (seqObj "list" vs.toArray 0)).get? h'.objs.size=some (seqObj "list" vs.toArray 0):=Heap.get?_push_size _ rfl
 show wpAny _ _ _ _ E { s with heap:=h'.push (seqObj "list" vs.toArray 0),toks:=tk }
 refine wpAny_bind (wpAny_holding (wpAny_call_entry slot_list_sort ⟨_,at1,rfl⟩ entry_list_sort (lsort_tups (kf:=kf) at1 (fun v hv=>(hT v hv).keep fun b o _ hb=>Heap.get?_push_of_some _ hb) hN hvl fun out c1 c2=>⟨_,rfl,?_⟩) (args_list_sort _)))
 obtain⟨e,he⟩:=sortedHeap_at (vs:=vs) (out:=out) at1
 exact wpAny_pure ⟨_,rfl,hQ h' tk vs kf out _ e hP c1 c2 (fun b o hb=>by
  have hlt:=Heap.lt_size hb
  refine(sortedHeap_old (Nat.ne_of_lt hlt) (by rw[size_push'];exact Nat.lt_succ_of_lt hlt)).trans ?_
  rw[Heap.get?_push_ne _ _ _ (Nat.ne_of_lt hlt)];exact hb) he⟩
end
def kfI (e:Int×V):Key×V:=((Sum.inl e.1:Key),e.2)
section
variable {X:Cx}
def ViewI (v d:Addr):HO:=.ext fun h=>h.IsItemsView v d
def rItems:V→List V→Hp→VK→Prop:=fun x vs H Q=>∃d kvs,x = .ref d∧vs=[]∧H d=some (.dK kvs)∧∀v,H v=none→Q (.ref v) (upd H v (ViewI v d))
theorem mt_items:MtR X "dict.items" rItems:=by
 intro pins s σ H x xs v us Q I rx rs h
 obtain⟨d,kvs,rfl,rfl,hd,q⟩:=h
 cases rx
 cases rs
 obtain⟨hz,lo,vs,r,hD⟩ : kvs.length≤sizeLine∧(d == sysModules)=false∧∃vs,KV kvs vs∧s.heap.DictOf (mixKind X.prog X.w) d vs:=I.hok d _ hd
 refine call_meetsIn PySem.F.slot_dict_items hD.typeIs PySem.F.entry_dict_items (PySem.F.args_dict_items_1 _) (meets_dict_items (mixKind X.prog X.w) d lo) ⟨⟨vs,hD⟩,?_⟩
 exact⟨.ref s.heap.objs.size,_,I.laid (t':=s.toks) (a:=s.heap.objs.size) (o:=ViewI s.heap.objs.size d) (fun b u q=>Heap.get?_push_of_some _ q) (Nat.le_refl _) ⟨⟨_,Heap.get?_push_size _ rfl,rfl,rfl⟩,⟨_,Heap.get?_push_size _ rfl⟩,fun h1 h2 ⟨o,ho,r⟩ k=>⟨o,k _ ho,r⟩⟩,rfl,q _ (I.hok.fresh (Nat.le_refl _))⟩
theorem adopt_tups:∀{ps:List (Int×V)}{ts:List Addr}{pins:List (Addr×Obj)}{σ:St}{H:Hp}{s:Shared},Inv X pins σ H s→ts.Nodup→ts.length=ps.length→(∀t∈ts,FpOk X pins H t)→(∀(i:Nat) (t:Addr) (p:Int×V),ts[i]? = some t→ps[i]? = some p→∃its:List Value,Vals [.int p.1,p.2] its∧IsTup s.heap t its.toArray) →
  ∃H',Inv X pins σ H' s∧Same H H'∧(∀b,b∉ts→H' b=H b)∧∀(i:Nat) (t:Addr) (p:Int×V),ts[i]? = some t→ps[i]? = some p→H' t=some (.tup [.int p.1,p.2])
 | [],[],pins,σ,H,s,I,_,_,_,_=>⟨H,I,fun _ _ e=>e,fun _ _=>rfl,fun i t p e=>by simp at e⟩
 | [],_::_,_,_,_,_,_,_,l,_,_=>by cases l
 | _::_,[],_,_,_,_,_,_,l,_,_=>by cases l
 | p::ps,t::ts,pins,σ,H,s,I,nd,l,f,h=>by
  obtain⟨n1,n2⟩:=List.nodup_cons.mp nd
  obtain⟨its,rv,tu⟩:=h 0 t p rfl rfl
  have ft:=f t List.mem_cons_self
  have I1:Inv X pins σ (upd H t (.tup [.int p.1,p.2])) { s with heap:=s.heap,toks:=s.toks }:=I.adopt (t':=s.toks) (ch:=[t]) (fun b o _ e=>e) (fun b hb=>by rw[List.mem_singleton.mp hb];exact ft) (by simp) ⟨(by show 2≤sizeLine;decide),its,rv,tu⟩
  obtain⟨H',I',s',k',h'⟩:=adopt_tups (ps:=ps) (ts:=ts) I1 n2 (by simpa using l) (fun u hu=>by
   obtain⟨f0,f1⟩:=f u (List.mem_cons_of_mem _ hu)
   exact⟨by rw[upd_ne (show u≠t from fun z=>n1 (z ▸ hu))];exact f0,f1⟩) fun i u q e1 e2=>h (i+1) u q (by simpa using e1) (by simpa using e2)
  refine⟨H',I',fun b o e=>s' b o (by rw[upd_ne (ne_of_none e ft.1)];exact e),fun b hb=>?_,fun i u q e1 e2=>?_⟩
  ·rw[k' b (fun z=>hb (List.mem_cons_of_mem _ z)),upd_ne (show b≠t from fun z=>hb (z ▸ List.mem_cons_self))]
  ·cases i with
   | zero =>
    cases e1;cases e2
    exact s' _ _ upd_same
   | succ i=>exact h' i u q (by simpa using e1) (by simpa using e2)
def rSortI:List V→Hp→VK→Prop:=fun xs H Q=>∃(v d:Addr) (kvs:List (Int×V)),xs=[.ref v]∧H v=some (ViewI v d)∧H d=some (.dK (kvs.map kfI))∧(kvs.map (·.1)).Nodup∧kvs.length≤63 ∧
 ∀(ps:List (Int×V)) (ts:List Addr) (l:Addr) (H':Hp),ps.Perm kvs→ps.Pairwise (fun a b=>a.1≤b.1)→Same H H'→H l=none→H' l=some (.lst (ts.map V.ref))→ts.length=ps.length→(∀(i:Nat) (t:Addr) (p:Int×V),ts[i]? = some t→ps[i]? = some p→H' t=some (.tup [.int p.1,p.2]))→Q (.ref l) H'
theorem call_sortI (hc:X.calm=true):CallR X (.builtin "sorted") rSortI:=by
 intro pins s σ H xs us Q I r h
 obtain⟨v,d,kvs,rfl,hv,hd,nd,hn,q⟩:=h
 obtain⟨u,rfl,r1⟩:=vals1 r
 cases (show u=Value.ref v from r1)
 obtain⟨hz,lo,vs,rk,hD⟩ : (kvs.map kfI).length≤sizeLine∧(d == sysModules)=false∧∃vs,KV (kvs.map kfI) vs∧s.heap.DictOf (mixKind X.prog X.w) d vs:=I.hok d _ hd
 have hl:(kvs.map kfI).length=vs.length:=Paired.length rk
 rw[List.length_map]at hl
 have view:s.heap.IsItemsView v d:=(I.hok _ _ hv).1
 obtain⟨ep,hA⟩:=hD.dictAt
 refine sorted_pairs (n:=kvs.length) hn (fun h' ws kf=>(∀b o,s.heap.get? b=some o→h'.get? b=some o)∧∃as:List Addr,ws=as.map Value.ref∧as.length=kvs.length∧as.Nodup∧(∀a∈as,s.heap.objs.size≤a)∧∀(i:Nat) (a:Addr) (p:Int×V),as[i]? = some a→kvs[i]? = some p→kf (.ref a)=p.1∧∃its:List Value,Vals [.int p.1,p.2] its∧IsTup h' a its.toArray) (fun A' R E' hA' hR=>?_) fun h' tk ws kf out hF e hP c1 c2 keep he=>?_
 ·refine PySem.W.kdx_collect (knd:=mixKind X.prog X.w) (kvs:=vs) (ep:=ep) (hA'.trans (I.ok.hd hc)) view hA (Nat.le_trans (Nat.le_of_eq hl.symm) (Nat.le_trans hn (Nat.le_of_lt (show(63:Nat)<sizeLine by decide)))) fun h' tk as kp al G=>?_
  have pr:∀(i:Nat) (a:Addr) (p:Int×V),as[i]? = some a→kvs[i]? = some p→∃(t:Tok) (y:Value),RelV p.2 y∧h'.get? a=some { cls:=.type "tuple",data:=.seq #[.int p.1 t,y] }:=fun i a p e1 e2=>by
   obtain⟨key,k,x,g1,g2,g3⟩:=G.pairs i a e1
   have e3:(kvs.map kfI)[i]? = some (kfI p):=by rw[List.getElem?_map,e2];rfl
   obtain⟨u,hu,ru⟩:=KV.get rk e3
   rw[hu]at g1
   cases g1
   obtain⟨t,rfl⟩ : ∃t,key=Value.int p.1 t:=is_kV g2
   exact⟨t,_,ru,g3⟩
  have nda:as.Nodup:=G.rise.imp fun h=>Nat.ne_of_lt h
  let kf:Value→Int:=fun v=>match v with
   | .ref a=>(match as.findIdx? (· == a) with
    | some i=>(match kvs[i]? with
     | some p=>p.1
     | none=>0)
    | none=>0)
   | _=>0
  have kfe:∀(i:Nat) (a:Addr) (p:Int×V),as[i]? = some a→kvs[i]? = some p→kf (.ref a)=p.1:=fun i a p e1 e2=>by
   have il:=(List.getElem?_eq_some_iff.mp e1).1
   have hf:as.findIdx? (· == a)=some i:=by
    rw[List.findIdx?_eq_some_iff_getElem]
    refine⟨il,by rw[(List.getElem?_eq_some_iff.mp e1).2];simp,fun j hj=>?_⟩
    have:as[j]≠as[i]:=fun z=>by
     have:=(List.getElem_inj nda).mp z
     omega
    rw[(List.getElem?_eq_some_iff.mp e1).2]at this
    simpa using this
   show(match as.findIdx? (· == a) with
    | some i=>(match kvs[i]? with
     | some p=>p.1
     | none=>0)
    | none=>0)=p.1
   rw[hf]
   show(match kvs[i]? with|some p=>p.1|none=>0)=p.1
   rw[e2]
  have al':as.length=kvs.length:=by omega
  refine hR h' tk (as.map Value.ref) kf ⟨kp,as,rfl,al',nda,fun a ha=>Nat.le_of_lt (G.above a ha),fun i a p e1 e2=>⟨kfe i a p e1 e2,?_⟩⟩ (by rw[List.length_map];exact al') (fun v hv=>?_) fun v hv u hu e=>?_
  ·obtain⟨t,y,ry,g⟩:=pr i a p e1 e2
   exact⟨[.int p.1 t,y],.cons ⟨t,rfl⟩ (.cons ry .nil),⟨_,g,rfl,_,rfl⟩⟩
  ·obtain⟨a,ha,rfl⟩:=List.mem_map.mp hv
   obtain⟨i,hi⟩:=List.getElem?_of_mem ha
   have il:=(List.getElem?_eq_some_iff.mp hi).1
   have e2:=List.getElem?_eq_getElem (l:=kvs) (i:=i) (by omega)
   obtain⟨t,y,ry,g⟩:=pr i a _ hi e2
   rw[kfe i a _ hi e2]
   exact⟨a,_,0,t,[y],rfl,g,rfl,rfl⟩
  ·obtain⟨a,ha,rfl⟩:=List.mem_map.mp hv
   obtain⟨a',ha',rfl⟩:=List.mem_map.mp hu
   obtain⟨i,hi⟩:=List.getElem?_of_mem ha
   obtain⟨i',hi'⟩:=List.getElem?_of_mem ha'
   have il:=(List.getElem?_eq_some_iff.mp hi).1
   have il':=(List.getElem?_eq_some_iff.mp hi').1
   rw[kfe i a _ hi (List.getElem?_eq_getElem (by omega)),kfe i' a' _ hi' (List.getElem?_eq_getElem (by omega))]at e
   have e1:(kvs.map (·.1))[i]'(by rw[List.length_map];omega) =(kvs.map (·.1))[i']'(by rw[List.length_map];omega):=by simpa using e
   have ii:=(List.getElem_inj nd).mp e1
   subst ii
   rw[hi]at hi'
   rw[Option.some.inj hi']
 ·obtain⟨kp,as,rfl,al,nda,ab,hp⟩:=hP
  have I1:Inv X pins σ H { s with heap:=h',toks:=tk }:=I.kept kp
  obtain⟨H1,I2,s2,k2,h2⟩:=adopt_tups (ps:=kvs) (ts:=as) I1 nda al (fun t ht=>I.fpOk (ab t ht) (I.hok.fresh (ab t ht))) fun i t p e1 e2=>(hp i t p e1 e2).2
  have out':∃us2:List Addr,us2.Perm as∧out.toList=us2.map Value.ref:=by
   refine⟨out.toList.map fun v=>match v with | .ref a=>a|_=>0,?_,?_⟩
   ·have:=c1.map (fun v=>match v with|Value.ref a=>a|_=>0)
    refine this.trans ?_
    rw[List.map_map]
    exact List.Perm.of_eq (by simp[Function.comp_def])
   ·rw[List.map_map]
    refine(List.map_id _).symm.trans (List.map_congr_left fun v hv=>?_)
    obtain⟨t,_,rfl⟩:=List.mem_map.mp (c1.mem_iff.mp hv)
    rfl
  obtain⟨us2,p1,p2⟩:=out'
  have hz2:(us2.map V.ref).length≤sizeLine:=by
   have hline:(63:Nat)<sizeLine:=by decide
   rw[List.length_map,p1.length_eq];omega
  have nl:H1 h'.objs.size=none:=I2.hok.fresh (Nat.le_refl _)
  have I3:=I2.laid (t':=tk) (h':=hF) keep (Nat.le_refl _) (o:=.lst (us2.map V.ref)) ⟨hz2,out.toList,e,by rw[p2];exact refs_vals us2,by simpa using he⟩
  let g:Addr→Int×V:=fun a=>match as.findIdx? (· == a) with
   | some i=>(kvs[i]?).getD (0,.non)
   | none=>(0,.non)
  have ge:∀(i:Nat) (a:Addr) (p:Int×V),as[i]? = some a→kvs[i]? = some p→g a=p:=fun i a p e1 e2=>by
   have hf:as.findIdx? (· == a)=some i:=by
    rw[List.findIdx?_eq_some_iff_getElem]
    refine⟨(List.getElem?_eq_some_iff.mp e1).1,by rw[(List.getElem?_eq_some_iff.mp e1).2];simp,fun j hj=>?_⟩
    have il:=(List.getElem?_eq_some_iff.mp e1).1
    have:as[j]≠as[i]:=fun z=>by
     have:=(List.getElem_inj nda).mp z
     omega
    rw[(List.getElem?_eq_some_iff.mp e1).2]at this
    simpa using this
   show(match as.findIdx? (· == a) with
    | some i=>(kvs[i]?).getD (0,V.non)
    | none=>(0,V.non))=p
   rw[hf]
   show(kvs[i]?).getD (0,.non)=p
   rw[e2];rfl
  have gk:as.map g=kvs:=by
   refine List.ext_getElem? fun i=>?_
   rw[List.getElem?_map]
   cases c:as[i]? with
   | none=>rw[List.getElem?_eq_none (by have:=List.getElem?_eq_none_iff.mp c;omega)];rfl
   | some a =>
    have il:=(List.getElem?_eq_some_iff.mp c).1
    have e2:=List.getElem?_eq_getElem (l:=kvs) (i:=i) (by omega)
    rw[e2]
    show some (g a)=_
    rw[ge i a _ c e2]
  have at':∀a∈as,∃i p,as[i]? = some a∧kvs[i]? = some p:=fun a ha=>by
   obtain⟨i,hi⟩:=List.getElem?_of_mem ha
   have il:=(List.getElem?_eq_some_iff.mp hi).1
   exact⟨i,_,hi,List.getElem?_eq_getElem (by omega)⟩
  refine⟨.ref h'.objs.size,_,I3,rfl,q (us2.map g) us2 _ _ ?_ ?_ ?_ (I1.hok.fresh (Nat.le_refl _)) upd_same (by rw[List.length_map]) fun i t p e1 e2=>?_⟩
  ·rw[← gk];exact p1.map g
  ·rw[p2,List.pairwise_map]at c2
   rw[List.pairwise_map]
   refine c2.imp_of_mem fun {a b} ha hb h=>?_
   obtain⟨i,p,i1,i2⟩:=at' a (p1.mem_iff.mp ha)
   obtain⟨j,r,j1,j2⟩:=at' b (p1.mem_iff.mp hb)
   rw[(hp i a p i1 i2).1,(hp j b r j1 j2).1]at h
   rw[ge i a p i1 i2,ge j b r j1 j2]
   exact h
  ·intro b o e
   have n:b≠h'.objs.size:=ne_of_none (s2 _ _ e) nl
   rw[upd_ne n];exact s2 _ _ e
  ·rw[List.getElem?_map,e1]at e2
   have e3:g t=p:=Option.some.inj e2
   obtain⟨j,r,j1,j2⟩:=at' t (p1.mem_iff.mp (List.mem_of_getElem? e1))
   have ht:=h2 j t r j1 j2
   rw[ge j t r j1 j2]at e3
   rw[upd_ne (ne_of_none ht nl),ht,e3]
end
end L2
namespace L2
open PySem PySem.Spec PyProof.Rows
section
variable {σ:St}{H:Hp}{Q:VK}{D:Ends}
def IsT (R t:TS):Prop:=R=t
theorem rd_seqO {t u:TS}(h:∀R,IsT R u→t { D with nx:=R D } σ H):tSeq t u D σ H:=h u rfl
theorem rd_ifSO {c:TT}{t u:TS}(h:∀R S,IsT R t→IsT S u→c σ H fun b H1=>if b=true then R D σ H1 else S D σ H1):tIfS c t u D σ H:=h t u rfl rfl
theorem rd_forO {wi:TI}{g:TG}{tb:TS}(h:∀R,IsT R tb→wi σ H fun J H1=>∃W:Nat→Nat→St→Hp→Prop,(∃m,W 0 m σ H1)∧∀i m σ H,W i m σ H →
 (J.stop i H∧D.nx σ H) ∨(J.go i H∧∃N:St→Hp→Prop,(∀σ' H',N σ' H'→∃m',m'<m∧W (i+1) m' σ' H')∧∀x H',J.yld i H x H'→g x σ H' fun σ2 H2=>R { D with nx:=N,ct:=N,bk:=D.nx } σ2 H2)):tFor wi g tb D σ H:=h tb rfl
theorem rd_tx {R t:TS}(e:IsT R t) (h:t D σ H):R D σ H:=by cases e;exact h
def IsN (N I:St→Hp→Prop):Prop:=∀σ H,I σ H→N σ H
def AllN (I:St→Hp→Prop) (t:(St→Hp→Prop)→Prop):Prop:=∀N,IsN N I→t N
theorem rd_allN {I:St→Hp→Prop}{t:(St→Hp→Prop)→Prop}(h:∀N,IsN N I→t N):AllN I t:=h
theorem rd_isN {N I:St→Hp→Prop}(e:IsN N I) (h:I σ H):N σ H:=e σ H h
theorem cutO {t:TS}(R:St→Hp→Prop) (h:AllN R fun N=>t { D with nx:=N } σ H) (k:∀σ' H',R σ' H'→D.nx σ' H'):tCut t D σ H:=⟨R,h _ fun _ _ z=>z,k⟩
theorem for_rangeO {lo:Int}{n:Nat}{g:TG}{tb:TS}(Pv:Nat→St→Hp→Prop) (h0:Pv 0 σ H)
  (hs:∀i σ H,i<n→Pv i σ H→AllN (Pv (i+1)) fun N=>g (.int (lo+i)) σ H fun σ2 H2=>tb { D with nx:=N,ct:=N,bk:=D.nx } σ2 H2) (hd:∀σ H,Pv n σ H→D.nx σ H) :
  ∃W:Nat→Nat→St→Hp→Prop,(∃m,W 0 m σ H)∧∀i m σ H,W i m σ H →
   ((Itr lo n).stop i H∧D.nx σ H) ∨((Itr lo n).go i H∧∃N:St→Hp→Prop,(∀σ' H',N σ' H'→∃m',m'<m∧W (i+1) m' σ' H')∧∀x H',(Itr lo n).yld i H x H'→g x σ H' fun σ2 H2=>tb { D with nx:=N,ct:=N,bk:=D.nx } σ2 H2) :=
 for_range Pv h0 (fun i σ H a b=>hs i σ H a b _ fun _ _ z=>z) hd
theorem for_listO {K:PySem.W.Frag}{a:Addr}{xs:List V}{g:TG}{tb:TS}(Pv:Nat→St→Hp→Prop) (h0:Pv 0 σ H) (hl:∀i σ H,i≤xs.length→Pv i σ H→SqL K H a xs)
  (hs:∀i x σ H,xs[i]? = some x→Pv i σ H→AllN (Pv (i+1)) fun N=>g x σ H fun σ2 H2=>tb { D with nx:=N,ct:=N,bk:=D.nx } σ2 H2) (hd:∀σ H,Pv xs.length σ H→D.nx σ H) :
  ∃W:Nat→Nat→St→Hp→Prop,(∃m,W 0 m σ H)∧∀i m σ H,W i m σ H →
   ((Itl K a).stop i H∧D.nx σ H) ∨((Itl K a).go i H∧∃N:St→Hp→Prop,(∀σ' H',N σ' H'→∃m',m'<m∧W (i+1) m' σ' H')∧∀x H',(Itl K a).yld i H x H'→g x σ H' fun σ2 H2=>tb { D with nx:=N,ct:=N,bk:=D.nx } σ2 H2) :=
 for_list Pv h0 hl (fun i x σ H a b=>hs i x σ H a b _ fun _ _ z=>z) hd
end
end L2
namespace L2
open PySem PySem.Spec PyProof.Rows
section
variable {X:Cx}{σ:St}{H:Hp}{Q:VK}{D:DK}
end
section
variable {K:PySem.W.Frag}
def Ga (K:PySem.W.Frag) (x:Str) (st:Stmt):Prop:=∃f:Addr,PySem.W.nsIn K mainGlobals x=some (some (.ref f))∧∃fd:FuncData,Fun K x x st f fd
def Ga2 (K:PySem.W.Frag) (x y:Str) (st:Stmt):Prop:=∃f:Addr,PySem.W.nsIn K mainGlobals x=some (some (.ref f))∧PySem.W.nsIn K mainGlobals y=some (some (.ref f))∧∃fd:FuncData,Fun K x x st f fd
def Me (K:PySem.W.Frag) (C:Addr) (m q:Str) (st:Stmt):Prop:=∃f:Addr,PySem.W.findIn K (.ref C) m=some (some (.ref f))∧PySem.W.isFn K (.ref f)=true∧PySem.W.keepIn K (.ref f)=true∧∃fd:FuncData,Fun K m q st f fd
theorem Ga.elim {x:Str}{st:Stmt}{R:Prop}(g:Ga K x st) (k:∀f,PySem.W.nsIn K mainGlobals x=some (some (.ref f))→∀fd,Fun K x x st f fd→R):R:=by
 obtain⟨f,a,fd,F⟩:=g
 exact k f a fd F
theorem Me.elim {C:Addr}{m q:Str}{st:Stmt}{R:Prop}(g:Me K C m q st) (k:∀f,PySem.W.findIn K (.ref C) m=some (some (.ref f))→PySem.W.isFn K (.ref f)=true→PySem.W.keepIn K (.ref f)=true→∀fd,Fun K m q st f fd→R):R:=by
 obtain⟨f,a,b,c,fd,F⟩:=g
 exact k f a b c fd F
theorem Ga.mk {x:Str}{st:Stmt}{f:Addr}{oc:Value}{od an:Option Addr}{osl:Array (Option Value)}{kV doc pm cdv ct:Value}(a:PySem.W.nsIn K mainGlobals x=some (some (.ref f))) (l:K.lookup f=some ⟨oc,od,.func (PySem.W.fnOf x x (defArgs st) (defBody st) (defScope st) .none kV doc pm an cdv ct),osl⟩) (c:PySem.W.codeIn K cdv x=true) (k:PySem.W.keepIn K (.ref f)=true):Ga K x st:=⟨f,a,_,fun_mk l c k⟩
theorem Me.mk {C:Addr}{m q:Str}{st:Stmt}{f:Addr}{oc:Value}{od an:Option Addr}{osl:Array (Option Value)}{kV doc pm cdv ct:Value}(a:PySem.W.findIn K (.ref C) m=some (some (.ref f))) (b:PySem.W.isFn K (.ref f)=true) (l:K.lookup f=some ⟨oc,od,.func (PySem.W.fnOf m q (defArgs st) (defBody st) (defScope st) .none kV doc pm an cdv ct),osl⟩) (c:PySem.W.codeIn K cdv q=true) (k:PySem.W.keepIn K (.ref f)=true):Me K C m q st:=⟨f,a,b,k,_,fun_mk l c k⟩
end
end L2
namespace L2
open PySem PySem.Spec PyProof.Rows
mutual
inductive DW (H:Hp):V→PyData→Prop
 | non:DW H .non .none
 | bl (b:Bool):DW H (.bl b) (.bool b)
 | int (i:Int):DW H (.int i) (.int i)
 | str (x:Str):DW H (.str x) (.str x)
 | lst {a:Addr}{xs:List V}{ds:List PyData}:H a=some (.lst xs)→DWs H xs ds→DW H (.ref a) (.list ds)
 | tup {a:Addr}{xs:List V}{ds:List PyData}:H a=some (.tup xs)→DWs H xs ds→DW H (.ref a) (.tuple ds)
 | dic {a:Addr}:H a=some (.dK [])→DW H (.ref a) (.dict [])
inductive DWs (H:Hp):List V→List PyData→Prop
 | nil:DWs H [] []
 | cons {x:V}{d:PyData}{xs:List V}{ds:List PyData}:DW H x d→DWs H xs ds→DWs H (x::xs) (d::ds)
end
mutual
def nlD:PyData→Bool
 | .list _=>false
 | .tuple xs=>nlDs xs
 | _=>true
def nlDs:List PyData→Bool
 | []=>true
 | x::xs=>nlD x && nlDs xs
end
section
variable {X:Cx}{pins:List (Addr×Obj)}{σ:St}{H:Hp}{s:Shared}
end
section
variable {X:Cx}
end
section
variable {X:Cx}
end
def Sub (M:Addr→Bool) (H H':Hp):Prop:=∀a o,M a=false→H a=some o→H' a=some o
end L2
namespace L2
open PySem PySem.Spec PyProof.Rows
section
variable {K:PySem.W.Frag}{σ:St}{H:Hp}{Q:VK}
end
section
variable {X:Cx}
end
end L2
namespace L2
open PySem PySem.Spec PyProof.Rows
section
variable {X:Cx}{pins:List (Addr×Obj)}{σ:St}{H:Hp}{s:Shared}{a:Addr}{kvs:List (Key×V)}{k:Key}{u r:Value}{A:Around}{E:Value→Shared→Prop}
end
section
variable {X:Cx}
end
end L2
namespace L2
open PySem PySem.Spec PyProof.Rows
section
variable {X:Cx}{K:PySem.W.Frag}{C:Addr}
end
end L2
namespace PySem
open Sem (wp)
section
variable {prog:Program}{w:World}{A:Around}{E:Value→Shared→Prop}{h:Heap}{g:Array GenState}{d:Drawn}{t:Nat}{os:OsState}
variable {nm q:Str}{C N:Addr}{bs bm bmB:List Value}{hdct:Bool}{sn:List Str}{sub:List Value}{ab:Bool}{col:Option Bool}{dd:Option Addr}{k0 k1 k2 k3 k5:Option Value}{B newId initId:String}
theorem tcall_initT (F:ExcBaseFacts B newId initId bmB) (T:OwnTail h bmB bm) {mN:Str→Option Value}{rest:List Value}{fI:Addr}{oI:Obj}{Q:Fin→Shared→Prop}
  (hC:h.get? C=some (excClassObj nm q C N bs bm hdct sn sub ab col dd k0 k1 k2 k3 k5 newId)) (hn:h.Ns N mN) (hi:mN "__init__" = some (.ref fI))
  (hfI:h.get? fI=some oI) (hfc:oI.cls = .type "function")
  (hq:∀h' e,Heap.MadeExcOf h h' e (.ref C) rest→h.objs.size≤e →
   wpAny (model prog w) A (call (.ref fI) (.ref e::rest)) (fun r s'=>r = .none∧Q (.done (.ret (.ref e))) s') E ⟨h',g,d,t,os⟩) (hrest:rest.length≤sizeLine:=by size_fits) :
  wpAny (model prog w) A (Builtin.«type.__call__» ⟨.ref C::rest,[]⟩) Q E ⟨h,g,d,t,os⟩:=by
 repeat (first|with_reducible refine wpAny_loadPart_at hC ?_|with_reducible refine wpAny_madeBy_exc hC ?_|wp_step)
 refine codeAny_call_builtin_code (Code.quiet_builtin _ F.quiet) (wpAny_check_new_subT F T hC ?_)
 refine codeAny_exc_new_subT F T hC ?_ hrest
 show wpAny _ _ _ _ _ _
 let o1:Obj:={ cls:=.type "tuple",data:=.seq rest.toArray }
 let o2:Obj:={ cls:=.ref C,data:=.fields #[.ref h.objs.size,.none,.none,.none,.bool false,.none] }
 have kp:∀b o,h.get? b=some o→((h.push o1).push o2).get? b=some o:=fun b o e=>Heap.get?_push_of_some o2 (Heap.get?_push_of_some o1 e)
 have hget:((h.push o1).push o2).get? (h.objs.size+1)=some o2:=by heap_get
 have hcC:(Value.ref C::bm).contains (.ref C)=true:=by simp
 have hC1:=kp _ _ hC
 unfold isInstance
 repeat (first|with_reducible refine wpAny_loadPart_at hget ?_|(with_reducible refine wpAny_isSubtype_exc hC1 ?_;rw[hcC])|wp_step)
 show wpAny _ _ (typeLookup (.ref C) _) _ _ _
 refine wpAny_typeLookup_tail hC1 (hn.keeps kp) (T.keeps kp) F.mroIs F.init.lookup ?_
 rw[hi]
 refine wpAny_holding (wpAny_bind ?_)
 unfold bindSpecial
 refine wpAny_bind (wpAny_typeOf (T := "function") ⟨_,kp _ _ hfI,hfc⟩ ?_)
 rw[if_pos (by decide)]
 refine wpAny_pure (wpAny_bind (wpAny_mono (hq _ (h.objs.size+1) ⟨kp,Heap.get?_none_of_le (Nat.le_succ _),h.objs.size,hget,Heap.get?_none_of_le (Nat.le_refl _),?_⟩ (Nat.le_succ _)) (fun r s' hr=>?_) fun _ _ x=>x))
 ·exact Heap.get?_push_of_some _ (Heap.get?_push_at rfl rfl)
 ·obtain⟨rfl,hQ⟩:=hr
  wp_walk
  exact hQ
theorem call_initT (F:ExcBaseFacts B newId initId bmB) (T:OwnTail h bmB bm) {mN:Str→Option Value}{rest:List Value}{fI:Addr}{oI:Obj}{Q:Value→Shared→Prop}
  (hC:h.get? C=some (excClassObj nm q C N bs bm hdct sn sub ab col dd k0 k1 k2 k3 k5 newId)) (hn:h.Ns N mN) (hi:mN "__init__" = some (.ref fI))
  (hfI:h.get? fI=some oI) (hfc:oI.cls = .type "function")
  (hq:∀h' e,Heap.MadeExcOf h h' e (.ref C) rest→h.objs.size≤e →
   wpAny (model prog w) (A.under (.builtin "type.__call__" ⟨.ref C::rest,[]⟩)) (call (.ref fI) (.ref e::rest)) (fun r s'=>r = .none∧Q (.ref e) s') E ⟨h',g,d,t,os⟩) (hrest:rest.length≤sizeLine:=by size_fits) :
  wpAny (model prog w) A (call (.ref C) rest) Q E ⟨h,g,d,t,os⟩:=by
 have f1:=tc_lookup
 have f2:=tc_bind (.ref C)
 have hT:(⟨h,g,d,t,os⟩ : Shared).TypeIs (.ref C) "type" :=⟨_,hC,rfl⟩
 refine wpAny_call (codeAny_of_tree ?_)
 show wpAny _ _ (callAny (.ref C) _) _ _ _
 repeat (any_goals (first|assumption|with_reducible refine wpAny_loadPart_at hC ?_|wp_step))
 refine⟨rfl,?_⟩
 refine codeAny_call_builtin_at (Code.quiet_builtin _ (by decide +kernel)) entry_typeCall (wpAny_check_type_call_sub hC (tcall_initT (hrest:=hrest) F T hC hn hi hfI hfc fun h' e hm hz=>?_))
 exact hq h' e hm hz
end
end PySem
namespace PySem
open Sem (wp)
open Builtin Builtin.ObjectAttr
inductive TlN (h:Heap) (bmB:List Value) (P:Str→Prop):List Value→Prop
 | base:TlN h bmB P bmB
 | own {A:Addr}{c0:Value}{dd:Option Addr}{cd:ClassData}{sl:Array (Option Value)}{mA:Str→Option Value}{tl:List Value} :
   h.get? A=some { cls:=c0,dict:=dd,data:=.cls cd,slots:=sl }→h.Ns cd.ns mA→(∀n,P n→mA n=none)→TlN h bmB P tl→TlN h bmB P (.ref A::tl)
theorem TlN.keeps {h h':Heap}{bmB tl:List Value}{P:Str→Prop}(T:TlN h bmB P tl) (hk:∀b o,h.get? b=some o→h'.get? b=some o):TlN h' bmB P tl:=by
 induction T with
 | base=>exact .base
 | own hA hN hni _ ih=>exact .own (hk _ _ hA) (hN.keeps hk) hni ih
theorem TlN.has {h:Heap}{bmB tl:List Value}{P:Str→Prop}(T:TlN h bmB P tl) {X:String}(hb:bmB.contains (.type X)=true):tl.contains (.type X)=true:=by
 induction T with
 | base=>exact hb
 | own _ _ _ _ ih=>rw[List.contains_cons,ih,Bool.or_true]
theorem TlN.tail {h:Heap}{bmB tl:List Value}{P:Str→Prop}(T:TlN h bmB P tl) (hp:P "__init__"):OwnTail h bmB tl:=by
 induction T with
 | base=>exact .base
 | own hA hN hni _ ih=>exact .own hA hN (hni _ hp) ih
theorem TlN.passes {h:Heap}{bmB tl:List Value}{P:Str→Prop}(T:TlN h bmB P tl) {self:Value}{what:Str}(hb:refuseLoop self what bmB=pure ()):refuseLoop self what tl=pure ():=by
 induction T with
 | base=>exact hb
 | own _ _ _ _ ih=>rw[refuseLoop_ref];exact ih
section
variable {M:Model}{prog:Program}{w:World}{A:Around}{E:Value→Shared→Prop}{h:Heap}{g:Array GenState}{d:Drawn}{t:Nat}{os:OsState}{P:Str→Prop}
theorem lookN {bmB tl:List Value}{name:Str}{y:Option Value}{Q:Option Value→Shared→Prop}(T:TlN h bmB P tl) (hp:P name) (hrest:lookupAlong bmB name=pure y) (hq:Q y ⟨h,g,d,t,os⟩) :
  wpAny M A (lookupAlong tl name) Q E ⟨h,g,d,t,os⟩:=by
 induction T with
 | base=>rw[hrest];exact wpAny_pure hq
 | own hA hN hni _ ih =>
  rw[lookupAlong_cons]
  refine wpAny_bind (wpAny_classOwn_cls hA hN ?_)
  rw[hni _ hp]
  exact ih
variable {nm q:Str}{C N x:Addr}{bs bm bmB:List Value}{hdct:Bool}{sn:List Str}{sub:List Value}{ab:Bool}{col:Option Bool}{dd:Option Addr}{k0 k1 k2 k3 k5:Option Value}{B newId sa owner:String}{mN:Str→Option Value}{name:Str}{v:Value}
theorem typeLookN {y:Option Value}{Q:Option Value→Shared→Prop}
  (hC:h.get? C=some (excClassObj nm q C N bs bm hdct sn sub ab col dd k0 k1 k2 k3 k5 newId)) (hn:h.Ns N mN) (T:TlN h bmB P bm) (hp:P name) (hbm:mroOf (.type B)=pure bmB) (hB:typeLookup (.type B) name=pure y)
  (hq:Q (match mN name with|some v=>some v|none=>y) ⟨h,g,d,t,os⟩):wpAny M A (typeLookup (.ref C) name) Q E ⟨h,g,d,t,os⟩:=by
 have hrest:lookupAlong bmB name=pure y:=by rw[typeLookup_eq,hbm]at hB;exact hB
 rw[typeLookup_eq]
 refine wpAny_bind (wpAny_mroOf_exc hC ?_)
 rw[lookupAlong_cons]
 refine wpAny_bind (wpAny_classOwn_exc hC hn ?_)
 cases hv:mN name with
 | some v=>rw[hv]at hq;exact wpAny_pure hq
 | none=>rw[hv]at hq;exact lookN T hp hrest hq
theorem check_saT {o:Obj}{nameV:Value}{Q:Unit→Shared→Prop}(SF:StoreFacts B bmB sa owner) (T:TlN h bmB P bm)
  (hC:h.get? C=some (excClassObj nm q C N bs bm true sn sub ab col dd k0 k1 k2 k3 k5 newId)) (hx:h.get? x=some o) (hc:o.cls = .ref C) (hq:Q () ⟨h,g,d,t,os⟩) :
  wpAny M A (checkBuiltinCall sa ⟨[.ref x,nameV,v],[]⟩) Q E ⟨h,g,d,t,os⟩:=by
 have hcB:(Value.ref C::bm).contains (.type owner)=true:=by rw[List.contains_cons,T.has SF.hasOwner,Bool.or_true]
 have ha:=SF.args (.ref x) nameV v
 simp only[checkBuiltinCall,SF.kind,SF.split]
 refine wpAny_bind ?_
 ·unfold isInstance
  repeat (first|(with_reducible refine wpAny_loadPart_at hx ?_;rw[hc])|(with_reducible refine wpAny_isSubtype_exc hC ?_;rw[hcB])|wp_step)
  cases hsig:Manifest.signature? sa with
  | none=>exact wpAny_pure hq
  | some sig =>
   simp only[argsOk,hsig]at ha
   have h2:Bind.checkArgs sa sig ⟨[.ref x,nameV,v],[]⟩=pure ():=ha
   show wpAny M A (Bind.checkArgs sa sig ⟨[.ref x,nameV,v],[]⟩) Q E _
   rw[h2];exact wpAny_pure hq
theorem entryT {o:Obj}{tk:Tok}{Q:Fin→Shared→Prop}(SF:StoreFacts B bmB sa owner) (T:TlN h bmB P bm) (hp:P name)
  (hC:h.get? C=some (excClassObj nm q C N bs bm true sn sub ab col dd k0 k1 k2 k3 k5 newId)) (hn:h.Ns N mN) (hna:mN name=none)
  (hB:typeLookup (.type B) name=pure none) (hx:h.get? x=some o) (hc:o.cls = .ref C) (hnc:∀c,o.data ≠ .cls c) (hdn:o.dict=none)
  (hq:∀h' tk',h'.get? x=some { o with dict:=some h.objs.size }→h'.Ns1 h.objs.size (fun y=>if y=name then some v else none) →
   (∀b ob,b≠x→h.get? b=some ob→h'.get? b=some ob)→Q (.done (.ret .none)) ⟨h',g,d,tk',os⟩) :
  wpAny (model prog w) A (Builtin.«object.__setattr__» ⟨[.ref x,.str name tk,v],[]⟩) Q E ⟨h,g,d,t,os⟩:=by
 have hpass:=T.passes (SF.passes (.ref x))
 unfold Builtin.«object.__setattr__»
 repeat (first|rw[refuse_eq] | (rw[refuseLoop_ref,hpass])|(with_reducible refine wpAny_loadPart_at hx ?_;rw[hc])|with_reducible refine wpAny_mroOf_exc hC ?_|(with_reducible refine typeLookN hC hn T hp SF.mro hB ?_;rw[hna])|wp_step)
 rw[hdn,if_neg (by simp[typeHasDict])]
 split
 ·rename_i hcd
  cases hcd
 split
 ·rename_i c hcd
  exact absurd hcd (hnc c)
 ·have hx1:(h.push { cls:=.type "dict",data:=.dict #[] }).get? x=some o:=Heap.get?_push_of_some _ hx
  have hxs:x≠h.objs.size:=Nat.ne_of_lt (Heap.lt_size hx)
  refine wpAny_bind (wpAny_alloc' ?_)
  refine wpAny_bind (wpAny_update' hx1 ?_)
  refine wpAny_pure ?_
  have hgd:((h.push { cls:=.type "dict",data:=.dict #[] }).update x fun o=>{ cls:=o.cls,dict:=some h.objs.size,data:=o.data,slots:=o.slots }).get? h.objs.size
    = some { cls:=.type "dict",data:=.dict #[] } :=
   (Heap.get?_update_ne _ _ _ _ hxs.symm).trans (Heap.get?_push_at rfl rfl)
  have hnd:((h.push { cls:=.type "dict",data:=.dict #[] }).update x fun o=>{ cls:=o.cls,dict:=some h.objs.size,data:=o.data,slots:=o.slots }).Ns h.objs.size (fun _=>none) :=
   ⟨_,#[],_,hgd,rfl,fun e he=>absurd he (by simp),fun _=>rfl⟩
  show wpAny _ _ (storeInDict h.objs.size (.str name tk) name v) _ _ _
  unfold storeInDict newKeyGuard
  refine wpAny_bind (wpAny_pure (wpAny_bind (wpAny_nsSet1 (Heap.Ns1.of_empty hnd) fun h' hn' hs=>?_)))
  obtain⟨oD,esD,epD,hoD,hdD,hcD⟩:=hn'.count (Within.cons name v Within.nil)
  refine wpAny_bind (wpAny_lookBehind hoD (by rw[hdD];exact pastItsLine_dict (Nat.le_trans hcD (by rw[List.length_cons,List.length_nil,sizeLine_eq];omega))) ?_)
  wp_walk
  refine hq h' _ ?_ hn' fun b ob hbx hb=>?_
  ·refine(hs.2 x hxs).trans (Heap.get?_update_self _ hx1 ?_)
   have hfr:=(Heap.get?_some_iff.mp hx).2
   obtain⟨oc,od,odt,osl⟩:=o
   cases odt <;> first|rfl|exact hfr
  ·exact(hs.2 b (Nat.ne_of_lt (Heap.lt_size hb))).trans ((Heap.get?_update_ne _ _ _ _ hbx).trans (Heap.get?_push_of_some _ hb))
theorem setAttrT {o:Obj}{Q:Unit→Shared→Prop}(SF:StoreFacts B bmB sa owner) (T:TlN h bmB P bm) (hp:P name) (hps:P "__setattr__")
  (hC:h.get? C=some (excClassObj nm q C N bs bm true sn sub ab col dd k0 k1 k2 k3 k5 newId)) (hn:h.Ns N mN) (hns:mN "__setattr__" = none) (hna:mN name=none)
  (hB:typeLookup (.type B) name=pure none) (hx:h.get? x=some o) (hc:o.cls = .ref C) (hnc:∀c,o.data ≠ .cls c) (hdn:o.dict=none)
  (hq:∀h' tk',h'.get? x=some { o with dict:=some h.objs.size }→h'.Ns1 h.objs.size (fun y=>if y=name then some v else none) →
   (∀b ob,b≠x→h.get? b=some ob→h'.get? b=some ob)→Q () ⟨h',g,d,tk',os⟩) :
  wpAny (model prog w) A (setAttr (.ref x) name v) Q E ⟨h,g,d,t,os⟩:=by
 have f3:=SF.slot.bind (.ref x)
 unfold setAttr callSpecial? specialOf
 repeat (any_goals (first|assumption|(with_reducible refine wpAny_loadPart_at hx ?_;rw[hc])|(with_reducible refine typeLookN hC hn T hps SF.mro SF.slot.lookup ?_;rw[hns])|wp_step))
 refine codeAny_call_builtin SF.slot.plain SF.entry (check_saT SF T hC hx hc (entryT SF T hp hC hn hna hB hx hc hnc hdn fun h' tk' h1 h2 h3=>?_))
 repeat (any_goals (first|assumption|wp_step))
 exact hq h' tk' h1 h2 h3
end
end PySem
namespace L2
open PySem PySem.Spec PyProof.Rows
section
variable {P:Program}{w:World}{K:PySem.W.Frag}{A:Around}{s:Shared}{k:Nat}{f e C N:Addr}{name qual at_:Str}{params:Arguments}{scope:Scope}{dV kV doc pm cdv ct oc u:Value}{an od:Option Addr}
 {osl:Array (Option Value)}{nm q:Str}{bs bm bmB:List Value}{sn:List Str}{sub:List Value}{ab:Bool}{col:Option Bool}{dd:Option Addr}{k0 k1 k2 k3 k5:Option Value}{B newId sa owner:String}{mN:Str→Option Value}{oe:Obj}{Pn:Str→Prop}{p1 p2 p3 p4:Pos}
theorem init_ok (lk:K.lookup f=some ⟨oc,od,.func (PySem.W.fnOf name qual params [.Assign [.Attribute (.Name "self" p1) at_ p2] (.Name at_ p3) p4] scope dV kV doc pm an cdv ct),osl⟩) (hcd:PySem.W.codeIn K cdv qual=true)
  (S:FnScope ["self",at_] ["self",at_] scope) (KX:K.In s.heap) (lim:s.heap.NoLimit) (hr:Room (k+1) A)
  (hs:∀env,swapsWith (.Name at_ p3) (some (.Attribute (.Name "self" p1) at_ p2)) p4.line env=pure false)
  (h1:scope.names.lookup ("self" : Str)=some .local) (h2:scope.names.lookup at_=some .local) (hne:at_ ≠ "self") (hd:(at_ ==("__debug__" : Str))=false)
  (hb:BindsTo s (PySem.W.fnOf name qual params [.Assign [.Attribute (.Name "self" p1) at_ p2] (.Name at_ p3) p4] scope dV kV doc pm an cdv ct) ⟨[.ref e,u],[]⟩ [("self",.ref e),(at_,u)])
  (SF:StoreFacts B bmB sa owner) (T:TlN s.heap bmB Pn bm) (hp:Pn at_) (hps:Pn "__setattr__")
  (hC:s.heap.get? C=some (excClassObj nm q C N bs bm true sn sub ab col dd k0 k1 k2 k3 k5 newId)) (hn:s.heap.Ns N mN) (hns:mN "__setattr__" = none) (hna:mN at_=none)
  (hB:typeLookup (.type B) at_=pure none) (hx:s.heap.get? e=some oe) (hc:oe.cls = .ref C) (hnc:∀c,oe.data ≠ .cls c) (hdn:oe.dict=none)
  {R:Result→Shared→Prop}
  (hq:∀h' tk' D,s.heap.objs.size≤D→D≠e→h'.get? e=some { oe with dict:=some D }→h'.Ns1 D (fun y=>if y=at_ then some u else none) →
   (∀b ob,b≠e→s.heap.get? b=some ob→h'.get? b=some ob)→R (.ok (.ret .none)) { s with heap:=h',toks:=tk' }) :
  codeAny (model P w) A (.call (.ref f) ⟨[.ref e,u],[]⟩) R s:=by
 have hkind:∀y ∈ [(("self" : Str),Value.ref e),(at_,u)],scope.names.lookup y.1=some .local ∨(scope.names.lookup y.1=some .cell∧((cellsFrom (s.heap.objs.size+1) scope.names []).lookup y.1).isSome=true):=fun y hy=>by
  rcases List.mem_cons.mp hy with rfl|hy
  ·exact .inl h1
  ·rw[List.mem_singleton]at hy;subst hy;exact .inl h2
 refine codeAny_call_function hr.depth (KX _ _ lk) rfl S.co S.gen rfl (PySem.W.codeRec_of KX hcd) (hb _ _ _ _ ?_)
 refine wpAny_newFunctionEnv_cells S.kind hkind fun env he s1 x=>?_
 subst he
 refine⟨lim.keeps x.toInCall.keep,codeAny_func ?_⟩
 obtain⟨hh1,tk,rfl,hk⟩:=x.done
 refine wpAny_execs_cons (plainObj_wpAny_Assign_Attribute ?_ (hs _))
 have m1:bindL (envOfC qual scope s.heap.objs.size f cdv).kindOf [("self",.ref e),(at_,u)] (fun _=>none) at_=some u:=by
  exact bindL_get (kindOf:=(envOfC qual scope s.heap.objs.size f cdv).kindOf) (P:=["self",at_]) (vs:=[.ref e,u]) (i:=1) S.nd rfl rfl h2
 have m2:bindL (envOfC qual scope s.heap.objs.size f cdv).kindOf [("self",.ref e),(at_,u)] (fun _=>none) "self" = some (.ref e):=by
  exact bindL_get (kindOf:=(envOfC qual scope s.heap.objs.size f cdv).kindOf) (P:=["self",at_]) (vs:=[.ref e,u]) (i:=0) S.nd rfl rfl h1
 refine wpAny_Name (wpAny_loadName_local S.kind h2 x.toInCall.ns m1 ?_) hd
 refine wpAny_Name (wpAny_loadName_local S.kind h1 x.toInCall.ns m2 ?_) (by decide)
 obtain⟨h,g,d,t,os⟩:=s
 have Tk:=T.keeps hk
 refine setAttrT SF Tk hp hps (hk _ _ hC) (hn.keeps hk) hns hna hB (hk _ _ hx) hc hnc hdn fun h' tk' g1 g2 g3=>?_
 refine wpAny_execs_nil ?_
 have hz:h.objs.size≤hh1.objs.size:=by
  obtain⟨o,_,_,ho,_⟩:=x.toInCall.ns
  exact Nat.le_of_lt (Heap.lt_size ho)
 exact hq h' tk' hh1.objs.size hz (fun z=>by rw[← z]at hx;exact Nat.lt_irrefl _ (Heap.lt_size (hk _ _ hx))) g1 g2 fun b ob nb hb=>g3 b ob nb (hk _ _ hb)
end
end L2
namespace PySem
open Sem (wp)
section
variable {M:Model}{prog:Program}{w:World}{A:Around}{E:Value→Shared→Prop}{s:Shared}{env:Env}
variable {nm q:Str}{C N:Addr}{bs bm bmB:List Value}{hdct:Bool}{sn:List Str}{sub:List Value}{ab:Bool}{col:Option Bool}{dd:Option Addr}{k0 k1 k2 k3 k5:Option Value}{B newId initId:String}
theorem raiseT {x:Sem Value}{Q:Flow→Shared→Prop}(hbase:bm.contains (.type "BaseException")=true) (hh:A.handled=none)
  (h:wpAny M A x (fun v s1=>∃e dct t sl,v = .ref e∧s1.heap.get? C=some (excClassObj nm q C N bs bm hdct sn sub ab col dd k0 k1 k2 k3 k5 newId) ∧
   s1.heap.get? e=some ⟨.ref C,dct,.fields #[.ref t,.none,.none,.none,.bool false,.none],sl⟩∧E (.ref e) s1) E s) :
  wpAny M A (raiseStmt env (some x) none) Q E s:=by
 have hcB:(Value.ref C::bm).contains (.type "BaseException")=true:=by rw[List.contains_cons,hbase,Bool.or_true]
 unfold raiseStmt
 refine wpAny_bind (wpAny_mono h (fun v s1 h1=>?_) fun _ _ x=>x)
 obtain⟨e,dct,t,sl,rfl,hC,he,hE⟩:=h1
 obtain⟨hp,g,d,tk,os⟩:=s1
 repeat (first|with_reducible refine wpAny_loadPart_at he ?_|with_reducible refine wpAny_loadPart_at hC ?_|(with_reducible refine wpAny_isSubtype_exc hC ?_;rw[hcB])|wp_step)
 exact wpAny_raiseNew_none hh hE
theorem Raise_initT (F:ExcBaseFacts B newId initId bmB) {mN:Str→Option Value}{x:Str}{np cpos pos:Pos}{args:List Expr}{fI:Addr}{oI:Obj}{Q:Flow→Shared→Prop}
  (hbase:bm.contains (.type "BaseException")=true) (hh:A.handled=none) (hplain:(backTo cpos (starEach args env)).any (·.1)=false) (hi:mN "__init__" = some (.ref fI)) (hfc:oI.cls = .type "function")
  (h:wpAny (model prog w) A (eval (.Name x np) env) (fun f s1=>f = .ref C∧wpAny (model prog w) A (evalArgs (.ref C) true (backTo cpos (starEach args env)) [])
   (fun a s2=>a.kw=[]∧a.pos.length≤sizeLine∧s2.heap.get? C=some (excClassObj nm q C N bs bm hdct sn sub ab col dd k0 k1 k2 k3 k5 newId)∧s2.heap.Ns N mN∧OwnTail s2.heap bmB bm∧s2.heap.get? fI=some oI ∧
    ∀h' e,Heap.MadeExcOf s2.heap h' e (.ref C) a.pos→s2.heap.objs.size≤e →
     wpAny (model prog w) (A.under (.builtin "type.__call__" ⟨.ref C::a.pos,[]⟩)) (call (.ref fI) (.ref e::a.pos)) (fun r s'=>r = .none∧s'.heap.get? C=some (excClassObj nm q C N bs bm hdct sn sub ab col dd k0 k1 k2 k3 k5 newId) ∧
      (∃dct t sl,s'.heap.get? e=some ⟨.ref C,dct,.fields #[.ref t,.none,.none,.none,.bool false,.none],sl⟩)∧E (.ref e) s') E { s2 with heap:=h' }) E s1) E s) :
  wpAny (model prog w) A (exec (.Raise (some (.Call (.Name x np) args [] cpos)) none pos) env) Q E s:=by
 rw[arm_exec_Raise]
 refine wpAny_bind (wpAny_standAt (raiseT (C:=C) (nm:=nm) (q:=q) (N:=N) (bs:=bs) (bm:=bm) (hdct:=hdct) (sn:=sn) (sub:=sub) (ab:=ab) (col:=col) (dd:=dd) (k0:=k0) (k1:=k1) (k2:=k2) (k3:=k3) (k5:=k5) (newId:=newId) hbase hh (wpAny_bind (wpAny_mono (wpAny_Call_ofName (wpAny_mono h (fun f s1 h1=>?_) fun _ _ x=>x)) (fun v s3 h3=>wpAny_bind (wpAny_standAt (wpAny_pure h3))) fun _ _ x=>x))))
 obtain⟨rfl,h1⟩:=h1
 unfold callWith
 refine wpAny_bind (wpAny_holding (wpAny_mono h1 (fun a s2 h2=>wpAny_bind (wpAny_standAt ?_)) fun _ _ x=>x))
 obtain⟨apos,akw⟩:=a
 obtain⟨hkw,hlen,hC,hn,T,hfI,h2⟩:=h2
 obtain rfl:akw=[]:=hkw
 obtain⟨hp,g,d,tk,os⟩:=s2
 simp only[hplain]
 refine wpAny_bind (wpAny_keeperOf_exc hC ?_)
 refine wpAny_bind (call_initT (hrest:=hlen) F T hC hn hi hfI hfc fun h' e hm hz=>wpAny_mono (h2 h' e hm hz) (fun r s' z=>⟨z.1,wpAny_bind (wpAny_holding (wpAny_point (wpAny_pure ?_)))⟩) fun _ _ z=>z)
 obtain⟨_,hC',⟨dct,t,sl,he⟩,hE⟩:=z
 exact⟨e,dct,t,sl,rfl,hC',he,hE⟩
end
end PySem
namespace PySem
open Sem (wp)
theorem mapFields_at {o:Obj}{vs:Array Value}(h:o.data = .fields vs) (f:Array Value→Array Value):Obj.mapFields f o = { o with data:=.fields (f vs) }:=by
 obtain⟨c,d,dt,sl⟩:=o
 subst h
 rfl
structure Entered (l:List Env) (e:Addr) (oe:Obj) (h h':Heap):Prop where
 exc:∃vs T oT ts,h'.get? e=some { oe with data:=.fields vs }∧vs[1]? = some (.ref T)∧h.objs.size≤T∧T≠e∧h'.get? T=some oT∧oT.data = .fields ts∧ts[3]? = some .none
 keep:∀b o,b≠e→b∉l.filterMap (·.frame)→h.get? b=some o→h'.get? b=some o
 slot:∀b o,b≠e→h.get? b=some o→∃sl,h'.get? b=some { o with slots:=sl }
section
variable {M:Model}{A:Around}{E:Value→Shared→Prop}{s:Shared}
theorem newEntryS {base:Heap}{env:Env}{outer:List Env}{L e:Addr}{oe:Obj}{vs:Array Value}{head:Value}{hadNext:Bool}{Q:Unit→Shared→Prop}
  (hfr:A.frames=some (env::outer)) (hl:s.heap.FunFrames base (env::outer)) (hf:env.frame=some L)
  (he:s.heap.get? e=some oe) (hd:oe.data = .fields vs) (hsz:1<vs.size)
  (h:∀h',Entered (env::outer) e oe s.heap h'→Q () { s with heap:=h' }) :
  wpAny M A (do let a ← frameOf env;let pl ← entryPlaceOf L hadNext;let b ← EntryCells.newEntry head a .none (rawInt L) .none pl;setField (.ref e) 1 b) (fun _ s'=>wpAny M A (setFlight (.ref e) none) Q E s') E s:=by
 have hene:e∉(env::outer).filterMap (·.frame):=fun hm=>by
  obtain⟨_,o,ho,hnf⟩:=hl.mem hm
  rw[he]at ho;injection ho with ho;subst ho;exact hnf vs hd
 refine wpAny_bind (wpAny_frameOf_fun hfr hl hf fun g hg=>?_)
 refine wpAny_bind (wpAny_entryPlaceOf fun pl hpl=>?_)
 unfold EntryCells.newEntry newFields
 refine wpAny_bind (wpAny_newObj_type ?_ (hpl.sizeOk5 _ _ _ _ _))
 have he1:g.get? e=some oe:=(hg.2.1 e hene).trans he
 generalize hT0:({ cls:=.type "traceback",dict:=none,data:=.fields ([head,.ref L,.none,rawInt L,.none]++(if pl.isEmpty then List.replicate 6 Value.none else pl)).toArray }:Obj)=T0
 have hTd:∃ts,T0.data = .fields ts∧3<ts.size∧((ts.setIfInBounds 3 Value.none)[3]? = some .none):=by
  rw[← hT0]
  refine⟨_,rfl,by simp only[List.size_toArray,List.length_append,List.length_cons,List.length_nil] <;> omega,?_⟩
  first|(simp;done)|(rcases hpl with rfl|⟨_,_,_,_,_,_,_,rfl⟩ <;> simp)
 obtain⟨ts,hts,hs3,h3⟩:=hTd
 have he2:=Heap.get?_push_of_some (h:=g) T0 he1
 refine wpAny_setField he2 hd hsz ?_
 have hTe:g.objs.size≠e:=Nat.ne_of_gt (Heap.lt_size he1)
 have hd3:=Obj.data_mapFields hd (·.setIfInBounds 1 (Value.ref g.objs.size))
 have he3:=Heap.get?_update_self (Obj.mapFields (·.setIfInBounds 1 (Value.ref g.objs.size))) he2 (Obj.isFreed_of_fields hd3)
 have hT3:=(Heap.get?_update_other (g.push T0) (Obj.mapFields (·.setIfInBounds 1 (Value.ref g.objs.size))) (Ne.symm hTe)).trans (Heap.get?_push_size g (Obj.isFreed_of_fields hts))
 unfold setFlight
 refine wpAny_bind (wpAny_field he3 hd3 (x:=.ref g.objs.size) (by simp[hsz]) ?_)
 rw[if_pos (show(Value.ref g.objs.size != Value.none)=true from by simp)]
 refine wpAny_setField hT3 hts hs3 (h _ ?_)
 have keep : ∀ b o, b ≠ e → g.get? b = some o → (((g.push T0).update e (Obj.mapFields (·.setIfInBounds 1 (Value.ref g.objs.size)))).update g.objs.size
    (Obj.mapFields (·.setIfInBounds 3 ((none:Option Addr).elim Value.none fun f=>rawInt f)))).get? b=some o:=fun b o hbe hb=>by
  rw[Heap.get?_update_other _ _ (Nat.ne_of_gt (Heap.lt_size hb)),Heap.get?_update_other _ _ (Ne.symm hbe)]
  exact Heap.get?_push_of_some _ hb
 have heE:=(Heap.get?_update_other ((g.push T0).update e (Obj.mapFields (·.setIfInBounds 1 (Value.ref g.objs.size)))) (Obj.mapFields (·.setIfInBounds 3 ((none:Option Addr).elim Value.none fun f=>rawInt f))) hTe).trans he3
 rw[mapFields_at hd]at heE
 refine⟨⟨_,g.objs.size,_,_,heE,by simp[hsz],?_,hTe,Heap.get?_update_self _ hT3 (Obj.isFreed_of_fields (Obj.data_mapFields hts _)),Obj.data_mapFields hts _,h3⟩,fun b o hb hf hs=>keep b o hb ((hg.2.1 b hf).trans hs),fun b o hb hs=>?_⟩
 ·exact Nat.le_of_eq hg.1.symm
 ·obtain⟨sl,hs⟩:=hg.2.2 b o hs
  exact⟨sl,keep b _ hb hs⟩
theorem noteFirst {base:Heap}{env:Env}{outer:List Env}{L e:Addr}{oe:Obj}{vs:Array Value}{Q:Unit→Shared→Prop}
  (hfr:A.frames=some (env::outer)) (hl:s.heap.FunFrames base (env::outer)) (hf:env.frame=some L)
  (he:s.heap.get? e=some oe) (hd:oe.data = .fields vs) (h1:vs[1]? = some .none)
  (h:∀h',Entered (env::outer) e oe s.heap h'→Q () { s with heap:=h' }):wpAny M A (noteFrame (.ref e) env) (fun _ s'=>wpAny M A (setFlight (.ref e) none) Q E s') E s:=by
 unfold noteFrame
 simp only[hf]
 refine wpAny_bind (wpAny_field he hd h1 ?_)
 rw[if_neg (by decide)]
 exact newEntryS hfr hl hf he hd (Array.getElem?_eq_some_iff.mp h1).1 h
structure EnteredX (l:List Env) (e T:Addr) (oe oT:Obj) (h h':Heap):Prop where
 exc:∃vs T' oT' ts,h'.get? e=some { oe with data:=.fields vs }∧vs[1]? = some (.ref T')∧h.objs.size≤T'∧T'≠e∧h'.get? T'=some oT'∧oT'.data = .fields ts∧ts[3]? = some .none
 old:∃ts,h'.get? T=some { oT with data:=.fields ts }∧ts[3]? = some .none
 keep:∀b o,b≠e→b≠T→b∉l.filterMap (·.frame)→h.get? b=some o→h'.get? b=some o
 slot:∀b o,b≠e→b≠T→h.get? b=some o→∃sl,h'.get? b=some { o with slots:=sl }
theorem noteNext {base:Heap}{env:Env}{outer:List Env}{L e T:Addr}{oe oT:Obj}{vs ts:Array Value}{Q:Unit→Shared→Prop}
  (hfr:A.frames=some (env::outer)) (hl:s.heap.FunFrames base (env::outer)) (hf:env.frame=some L)
  (he:s.heap.get? e=some oe) (hd:oe.data = .fields vs) (h1:vs[1]? = some (.ref T)) (hTe:T≠e) (hT:s.heap.get? T=some oT) (hdT:oT.data = .fields ts) (h3:ts[3]? = some .none)
  (h:∀h',EnteredX (env::outer) e T oe oT s.heap h'→Q () { s with heap:=h' }):wpAny M A (noteFrame (.ref e) env) (fun _ s'=>wpAny M A (setFlight (.ref e) none) Q E s') E s:=by
 unfold noteFrame
 simp only[hf]
 refine wpAny_bind (wpAny_field he hd h1 ?_)
 rw[if_pos (show(Value.ref T != Value.none)=true from by simp)]
 refine wpAny_bind (wpAny_field hT hdT h3 ?_)
 rw[if_neg (show ¬((Value.none == rawInt L)=true) from by simp[rawInt])]
 have hs3:=(Array.getElem?_eq_some_iff.mp h3).1
 refine wpAny_bind (wpAny_setField hT hdT hs3 ?_)
 have other:∀b,b≠T→(s.heap.update T (Obj.mapFields (·.setIfInBounds 3 Value.none))).get? b=s.heap.get? b:=fun b hb=>Heap.get?_update_other _ _ (Ne.symm hb)
 have atT:=Heap.get?_update_self (Obj.mapFields (·.setIfInBounds 3 Value.none)) hT (Obj.isFreed_of_fields (Obj.data_mapFields hdT _))
 rw[mapFields_at hdT]at atT
 have noRec:∀b o,s.heap.get? b=some o→(∀vs,o.data ≠ .fields vs)→b≠T:=fun b o hb hnf q=>by
  rw[q,hT]at hb;injection hb with hb;subst hb;exact hnf ts hdT
 have nT:T∉(env::outer).filterMap (·.frame):=fun hm=>by
  obtain⟨_,o,ho,hnf⟩:=hl.mem hm
  rw[hT]at ho;injection ho with ho;subst ho;exact hnf ts hdT
 refine newEntryS hfr (hl.of_keeps fun b o hb hnf=>⟨o,(other b (noRec b o hb hnf)).trans hb,rfl⟩) hf ((other e (Ne.symm hTe)).trans he) hd (Array.getElem?_eq_some_iff.mp h1).1 fun h' x=>h h' ?_
 obtain⟨vs',T',oT',ts',g1,g2,g3,g4,g5,g6,g7⟩:=x.exc
 refine⟨⟨vs',T',oT',ts',g1,g2,?_,g4,g5,g6,g7⟩,⟨_,x.keep _ _ hTe nT atT,by simp[hs3]⟩,fun b o b1 b2 b3 hb=>x.keep b o b1 b3 ((other b b2).trans hb),fun b o b1 b2 hb=>x.slot b o b1 ((other b b2).trans hb)⟩
 rw[Heap.size_after_update]at g3;exact g3
end
end PySem
namespace L2
open PySem PySem.Spec PyProof.Rows
def ExP (e C D:Addr) (T:Option Addr):Heap→Prop:=fun h=>∃vs sl,h.get? e=some ⟨.ref C,some D,.fields vs,sl⟩∧vs[1]? = some (match T with|some t=>Value.ref t|none=>.none)
def TbP (T:Addr):Heap→Prop:=fun h=>∃oT ts,h.get? T=some oT∧oT.data = .fields ts∧ts[3]? = some .none
structure Exc (H:Hp) (e C D:Addr) (T:Option Addr) (a:Str) (v:V):Prop where
 ex:H e=some (.ext (ExP e C D T))
 xd:H D=some (.xd [(a,v)])
 tb:∀t,T=some t→H t=some (.ext (TbP t))∧t≠e
section
variable {X:Cx}{pins:List (Addr×Obj)}{σ:St}{H H':Hp}{s:Shared}{h':Heap}
theorem Inv.flown (I:Inv X pins σ H s) {S:Addr→Prop}
  (keep:∀b o,¬ S b→b∉frs (X.env::X.outer)→s.heap.get? b=some o→h'.get? b=some o)
  (slot:∀b o,¬ S b→s.heap.get? b=some o→∃sl,h'.get? b=some { o with slots:=sl })
  (sx:∀b,S b→∃φ,H b=some (.ext φ)) (st:∀b,S b→∃o,h'.get? b=some o)
  (hn:∀b,¬ S b→(H b≠none ∨ ∃o,s.heap.get? b=some o)→H' b=H b) (hf:X.env.frame=some X.env.locals)
  (hok:HOk X.prog X.w H' h'):Inv X pins σ H' { s with heap:=h' }:=by
 have nS:∀b,H b=none→¬ S b:=fun b e z=>by obtain⟨φ,q⟩:=sx b z;rw[q]at e;cases e
 have nfr:∀b,b≠X.env.locals→b∉X.fs→b∉frs (X.env::X.outer):=fun b n1 n2 z=>by
  unfold frs at z
  rw[List.filterMap_cons,hf]at z
  rcases List.mem_cons.mp z with q|q
  ·exact n1 q
  ·exact n2 q
 have nl:∀b o,X.s₀.heap.get? b=some o→b≠X.env.locals:=fun b o q z=>by
  rw[z]at q
  exact absurd (Nat.lt_of_lt_of_le (Heap.lt_size q) I.ok.above) (Nat.lt_irrefl _)
 have same:∀b u,H b=some u→(∀φ,u ≠ .ext φ)→H' b=some u:=fun b u q n=>by
  rw[hn b (fun z=>by obtain⟨φ,r⟩:=sx b z;rw[q]at r;exact n φ (Option.some.inj r)) (.inl (by rw[q];intro z;cases z))];exact q
 have cellK:∀x c v,X.env.cells.lookup x=some c→s.heap.IsCell c v→h'.IsCell c v:=fun x c v e ⟨o,ho,hd⟩=>by
  obtain⟨sl,q⟩:=slot c o (nS c (I.freeC x c e)) ho
  exact⟨_,q,hd⟩
 have hl0:∃o,s.heap.get? X.env.locals=some o:=by obtain⟨_,⟨o,_,_,ho,_⟩,_⟩:=I.loc;exact⟨o,ho⟩
 refine⟨I.ok,I.os,I.bare,⟨fun b o q n f x=>?_,fun b o q n f x=>?_,fun b o q n x=>?_,fun b o q x=>?_,fun b xs q=>?_,fun b o u q=>?_,fun b ps q=>?_⟩,?_,fun x c e=>?_,?_,fun x c e=>?_,fun p hp=>?_,hok,I.len⟩
 ·exact keep b o (nS b (I.base.free b o q n x)) (nfr b (nl b o q) f) (I.base.keep b o q n f x)
 ·obtain⟨sl,r⟩:=I.base.slot b o q n f x
  obtain⟨sl',r'⟩:=slot b _ (nS b (I.base.free b o q n x)) r
  exact⟨sl',r'⟩
 ·have z:=I.base.free b o q n x
  obtain⟨o',r⟩:=I.base.there b o q x
  rw[hn b (nS b z) (.inr ⟨o',r⟩)];exact z
 ·obtain⟨o',r⟩:=I.base.there b o q x
  by_cases c:S b
  ·exact st b c
  ·obtain⟨sl,r'⟩:=slot b o' c r
   exact⟨_,r'⟩
 ·exact same b _ (I.base.tups b xs q) (by intro φ z;cases z)
 ·exact same b _ (I.base.frzs b o u q) (by intro φ z;cases z)
 ·obtain⟨more,r⟩:=I.base.tbls b ps q
  exact⟨more,same b _ r (by intro φ z;cases z)⟩
 ·obtain⟨m,⟨o,es,ep,ho,hd,r⟩,hl⟩:=I.loc
  obtain⟨sl,q⟩:=slot _ o (nS _ I.free) ho
  refine⟨m,⟨_,es,ep,q,hd,r⟩,fun i x v e1 e2 e3=>?_⟩
  obtain⟨u,ru,lk⟩:=hl i x v e1 e2 e3
  refine⟨u,ru,?_⟩
  rcases lk with lk|⟨k,c,hc,ic⟩
  ·exact .inl lk
  ·exact .inr ⟨k,c,hc,cellK x c _ hc ic⟩
 ·obtain⟨v,ic⟩:=I.cell x c e
  exact⟨v,cellK x c v e ic⟩
 ·rw[hn _ (nS _ I.free) (.inr hl0)];exact I.free
 ·obtain⟨v,o,ho,_⟩:=I.cell x c e
  rw[hn _ (nS _ (I.freeC x c e)) (.inr ⟨o,ho⟩)];exact I.freeC x c e
 ·obtain⟨p1,p2,p3,p4,p5⟩:=I.pin p hp
  exact⟨keep _ _ (nS _ p2) (nfr _ p3 p4) p1,by rw[hn _ (nS _ p2) (.inr ⟨_,p1⟩)];exact p2,p3,p4,p5⟩
theorem Inv.note (I:Inv X pins σ H s) {e C D:Addr}{T:Option Addr}{a:Str}{v:V}(hf:X.env.frame=some X.env.locals) (hst:X.stack=X.env::X.outer) (x:Exc H e C D T a v) {Q:Unit→Shared→Prop}{E:Value→Shared→Prop}
  (k:∀(T':Addr) (h':Heap),H T'=none→Inv X pins σ (upd (upd H e (.ext (ExP e C D (some T')))) T' (.ext (TbP T'))) { s with heap:=h' }→Q () { s with heap:=h' }) :
  wpAny (model X.prog X.w) X.A (noteFrame (.ref e) X.env) (fun _ s'=>wpAny (model X.prog X.w) X.A (setFlight (.ref e) none) Q E s') E s:=by
 obtain⟨⟨vs,sl,he,h1⟩,_,_⟩:=I.hok e _ x.ex
 have stE:∀(T':Addr) (h1 h2:Heap),ExP e C D (some T') h1→(∀o,h1.get? e=some o→h2.get? e=some o)→ExP e C D (some T') h2:=fun T' h1 h2 ⟨vs,sl,q,r⟩ kk=>⟨vs,sl,kk _ q,r⟩
 have stT:∀(T':Addr) (h1 h2:Heap),TbP T' h1→(∀o,h1.get? T'=some o→h2.get? T'=some o)→TbP T' h2:=fun T' h1 h2 ⟨o,ts,q,r⟩ kk=>⟨o,ts,kk _ q,r⟩
 have fin:∀(h':Heap) (T':Addr) (S:Addr→Prop),s.heap.objs.size≤T'→T'≠e→S e→(∀b,S b→∃φ,H b=some (.ext φ))→(∀b,S b→b≠e→b≠T'∧H b=some (.ext (TbP b))∧TbP b h') →
   (∀b o,¬ S b→b∉frs (X.env::X.outer)→s.heap.get? b=some o→h'.get? b=some o)→(∀b o,¬ S b→s.heap.get? b=some o→∃sl,h'.get? b=some { o with slots:=sl }) →
   ExP e C D (some T') h'→TbP T' h'→Q () { s with heap:=h' }:=fun h' T' S hz hTe hS sx so keep slot pe pt=>by
  have nT:=I.hok.fresh hz
  refine k T' h' nT (I.flown (S:=S) keep slot sx (fun b hb=>?_) (fun b hb hh=>?_) hf fun b u q=>?_)
  ·by_cases c:b=e
   ·subst c;obtain⟨_,_,q,_⟩:=pe;exact⟨_,q⟩
   ·obtain⟨_,_,o,_,q,_⟩:=so b hb c;exact⟨_,q⟩
  ·have ne:b≠e:=fun z=>hb (z ▸ hS)
   have nt:b≠T':=fun z=>by
    subst z
    rcases hh with hh|⟨o,ho⟩
    ·exact hh nT
    ·exact absurd (Nat.lt_of_lt_of_le (Heap.lt_size ho) hz) (Nat.lt_irrefl _)
   rw[upd_ne nt,upd_ne ne]
  ·by_cases c:b=T'
   ·subst c
    rw[upd_same]at q;cases q
    obtain⟨o,ts,r,r'⟩:=id pt
    exact⟨pt,⟨o,r⟩,stT b⟩
   rw[upd_ne c]at q
   by_cases c2:b=e
   ·subst c2
    rw[upd_same]at q;cases q
    obtain⟨_,_,r,_⟩:=id pe
    exact⟨pe,⟨_,r⟩,stE T'⟩
   rw[upd_ne c2]at q
   by_cases c3:S b
   ·obtain⟨_,q',pb⟩:=so b c3 c2
    rw[q]at q';cases q'
    obtain⟨o,ts,r,r'⟩:=id pb
    exact⟨pb,⟨o,r⟩,stT b⟩
   have back:∀c u,H c=some u→(∀φ,u ≠ .ext φ)→upd (upd H e (.ext (ExP e C D (some T')))) T' (.ext (TbP T')) c=some u:=fun c u qc n=>by
    rw[upd_ne (fun z=>by rw[z,nT]at qc;cases qc),upd_ne (fun z=>by rw[z,x.ex]at qc;exact n _ (Option.some.inj qc).symm)];exact qc
   refine(I.hok b u q).stay (fun c o hc r=>keep c o ?_ ?_ r) (fun c qc=>back c _ qc (by intro φ z;cases z)) fun c xs qc=>back c _ qc (by intro φ z;cases z)
   ·rcases hc with rfl|hc
    ·exact c3
    ·intro z;obtain⟨φ,r'⟩:=sx c z;rw[hc]at r';cases r'
   ·intro z
    have hz2:H c=none:=I.stkFree c (by rw[hst];exact z)
    rcases hc with rfl|hc
    ·rw[q]at hz2;cases hz2
    ·rw[hc]at hz2;cases hz2
 have frA:X.A.frames=some (X.env::X.outer):=by rw[← hst];exact I.ok.frames
 have frS:s.heap.FunFrames X.base (X.env::X.outer):=by rw[← hst];exact I.stack
 cases T with
 | none =>
  refine noteFirst frA frS hf he rfl h1 fun h' y=>?_
  obtain⟨vs',T',oT,ts,q1,q2,q3,q4,q5,q6,q7⟩:=y.exc
  exact fin h' T' (· = e) q3 q4 rfl (fun b z=>by subst z;exact⟨_,x.ex⟩) (fun b z n=>absurd z n) (fun b o n f q=>y.keep b o n f q) (fun b o n q=>y.slot b o n q) ⟨vs',sl,q1,q2⟩ ⟨oT,ts,q5,q6,q7⟩
 | some T =>
  obtain⟨hT,hTe⟩:=x.tb T rfl
  obtain⟨⟨oT,ts,hT0,hdT,h3⟩,_,_⟩:=I.hok T _ hT
  refine noteNext frA frS hf he rfl h1 hTe hT0 hdT h3 fun h' y=>?_
  obtain⟨vs',T',oT',ts',q1,q2,q3,q4,q5,q6,q7⟩:=y.exc
  obtain⟨ts2,q8,q9⟩:=y.old
  have tt:T≠T':=fun z=>by rw[z]at hT0;exact absurd (Nat.lt_of_lt_of_le (Heap.lt_size hT0) q3) (Nat.lt_irrefl _)
  exact fin h' T' (fun b=>b=e∨b=T) q3 q4 (.inl rfl) (fun b z=>by rcases z with rfl|rfl;exact⟨_,x.ex⟩;exact⟨_,hT⟩) (fun b z n=>by
   rcases z with z|rfl
   ·exact absurd z n
   ·exact⟨tt,hT,_,ts2,q8,rfl,q9⟩) (fun b o n f q=>y.keep b o (fun z=>n (.inl z)) (fun z=>n (.inr z)) f q) (fun b o n q=>y.slot b o (fun z=>n (.inl z)) (fun z=>n (.inr z)) q) ⟨vs',sl,q1,q2⟩ ⟨oT',ts',q5,q6,q7⟩
end
end L2
namespace L2
open PySem PySem.Spec PyProof.Rows
structure XCls (K:PySem.W.Frag) (C:Addr) (a:Str):Prop where
 ex:∃(nm q:Str) (N:Addr) (bs bm bmB:List Value) (sn:List Str) (sub:List Value) (ab:Bool) (col:Option Bool) (dd:Option Addr) (k0 k1 k2 k3 k5:Option Value) (newId initId sa owner:String) (fI:Addr) (name qual:Str) (params:Arguments) (scope:Scope)
   (dV kV doc pm cdv ct:Value) (an od:Option Addr) (osl:Array (Option Value)) (p1 p2 p3 p4:Pos),
  ExcBaseFacts "ValueError" newId initId bmB∧StoreFacts "ValueError" bmB sa owner∧typeLookup (.type "ValueError") a=pure none∧bm.contains (.type "BaseException")=true ∧
  K.lookup C=some (excClassObj nm q C N bs bm true sn sub ab col dd k0 k1 k2 k3 k5 newId)∧(∀h,K.In h→TlN h bmB (fun n=>n = "__init__" ∨ n = "__setattr__" ∨ n=a) bm) ∧
  (∀h,K.In h→∃mN,h.Ns N mN∧mN "__init__" = some (.ref fI)∧mN "__setattr__" = none∧mN a=none) ∧
  K.lookup fI=some ⟨.type "function",od,.func (PySem.W.fnOf name qual params [.Assign [.Attribute (.Name "self" p1) a p2] (.Name a p3) p4] scope dV kV doc pm an cdv ct),osl⟩∧PySem.W.codeIn K cdv qual=true ∧
  FnScope ["self",a] ["self",a] scope∧(∀env,swapsWith (.Name a p3) (some (.Attribute (.Name "self" p1) a p2)) p4.line env=pure false)∧scope.names.lookup ("self" : Str)=some .local∧scope.names.lookup a=some .local∧a ≠ "self"∧(a ==("__debug__" : Str))=false ∧
  ∀s e u,BindsTo s (PySem.W.fnOf name qual params [.Assign [.Attribute (.Name "self" p1) a p2] (.Name a p3) p4] scope dV kV doc pm an cdv ct) ⟨[.ref e,u],[]⟩ [("self",.ref e),(a,u)]
theorem exc_ns {nm q nm' q':Str}{C N C' N':Addr}{bs bm bs' bm':List Value}{hdct hdct':Bool}{sn sn':List Str}{sub sub':List Value}{ab ab':Bool}{col col':Option Bool}{dd dd':Option Addr}{k0 k1 k2 k3 k5 k0' k1' k2' k3' k5':Option Value}{newId newId':String}(h:excClassObj nm q C N bs bm hdct sn sub ab col dd k0 k1 k2 k3 k5 newId=excClassObj nm' q' C' N' bs' bm' hdct' sn' sub' ab' col' dd' k0' k1' k2' k3' k5' newId'):N=N' :=
 congrArg (fun o:Obj=>match o.data with | .cls cd=>cd.ns|_=>0) h
theorem XCls.uniq {K:PySem.W.Frag}{C:Addr}{a b:Str}{h:Heap}(X:K.In h) (x:XCls K C a) (y:XCls K C b):a=b:=by
 obtain⟨nm,q,N,bs,bm,bmB,sn,sub,ab,col,dd,k0,k1,k2,k3,k5,newId,initId,sa,owner,fI,name,qual,params,scope,dV,kV,doc,pm,cdv,ct,an,od,osl,p1,p2,p3,p4,_,_,_,_,lC,_,hN,lf,_⟩:=x.ex
 obtain⟨nm',q',N',bs',bm',bmB',sn',sub',ab',col',dd',k0',k1',k2',k3',k5',newId',initId',sa',owner',fI',name',qual',params',scope',dV',kV',doc',pm',cdv',ct',an',od',osl',p1',p2',p3',p4',_,_,_,_,lC',_,hN',lf',_⟩:=y.ex
 have e1:=exc_ns (Option.some.inj (lC.symm.trans lC'))
 subst e1
 obtain⟨m,g1,g2,_⟩:=hN h X
 obtain⟨m',g1',g2',_⟩:=hN' h X
 have e2:m=m':=g1.eq_nsMap.trans g1'.eq_nsMap.symm
 rw[e2,g2']at g2
 have e3:fI'=fI:=Value.ref.inj (Option.some.inj g2)
 subst e3
 have e4:=Option.some.inj (lf.symm.trans lf')
 have e5:=congrArg (fun o:Obj=>match o.data with | .func f=>(match f.body with | .stmts [.Assign _ (.Name x _) _]=>x|_ => "")|_=>("" : Str)) e4
 exact e5
def CX1 (P:Program) (w:World) (K:PySem.W.Frag):CXT:=fun outer H s E ev s'=>∃(e:Addr) (H' H0:Hp) (C D:Addr) (T:Option Addr) (a:Str) (v:V) (u:Value),ev = .ref e∧s'.os=s.os∧AllBare s'.gens∧Un (frs outer) [] H H' s.heap s'.heap∧HOk P w H' s'.heap ∧
 Exc H' e C D T a v∧XCls K C a∧RelV v u∧H0 e=none∧(∀b o,H0 b=some o→H' b=some o)∧E u (some C) H0
def Throws (X:Cx) (E:XK):Prop:=∀(pins:List (Addr×Obj)) (σ:St) (H H0:Hp) (s:Shared) (e C D:Addr) (T:Option Addr) (a:Str) (v:V) (u:Value),Inv X pins σ H s→Exc H e C D T a v→XCls X.K C a→RelV v u→H0 e=none→(∀b o,H0 b=some o→H b=some o)→E u (some C) H0→X.xe (.ref e) s
theorem Exc.next {H:Hp}{e C D T':Addr}{T:Option Addr}{a:Str}{v:V}(x:Exc H e C D T a v) (n:H T'=none):Exc (upd (upd H e (.ext (ExP e C D (some T')))) T' (.ext (TbP T'))) e C D (some T') a v:=by
 have te:T'≠e:=fun z=>by rw[z,x.ex]at n;cases n
 have de:D≠e:=ne_of x.xd x.ex (by intro z;cases z)
 refine⟨by rw[upd_ne te.symm,upd_same],by rw[upd_ne (ne_of_none x.xd n),upd_ne de];exact x.xd,fun t q=>?_⟩
 cases q
 exact⟨upd_same,te⟩
theorem sub_next {H H0:Hp}{e T':Addr}{o1 o2:HO}(n:H T'=none) (n0:H0 e=none) (k:∀b o,H0 b=some o→H b=some o):∀b o,H0 b=some o→upd (upd H e o1) T' o2 b=some o:=fun b o q=>by
 rw[upd_ne (ne_of_none (k _ _ q) n),upd_ne (ne_of_none q n0)];exact k _ _ q
section
variable {P:Program}{w:World}{K:PySem.W.Frag}{mg:Str→Option Value}{base:Heap}{N:List Str}{qual:Str}{scope:Scope}{f:Addr}{cd:Value}{A:Around}{outer:List Env}{s0:Shared}{H00:Hp}{E:XK}
theorem throws_def:Throws (cxOf (CX1 P w K) P w K mg base N qual scope f cd A outer s0 H00 E) E:=fun pins σ H H0 s e C D T a v u I x xc rv n0 k q=>by
 show wpAny _ _ (leaving _ (.ref e)) _ _ s
 unfold leaving
 refine wpAny_bind (I.note rfl rfl x fun T' h' nT I'=>?_)
 exact⟨e,_,H0,C,D,some T',a,v,u,rfl,I'.os,I'.bare,I'.base,I'.hok,x.next nT,xc,rv,n0,sub_next nT n0 k,q⟩
end
theorem Throws.passes {X:Cx}{E E':XK}(t:Throws X E) (h:∀u c H,E' u c H→E u c H):Passes (CX1 X.prog X.w X.K) X E':=fun pins σ H s ev s' I ⟨e,H',H0,C,D,T,a,v,u,z,os,bare,un,hok,x,xc,rv,n0,k,q⟩=>by
 subst z
 obtain⟨hh,g,d,tk,os'⟩:=s'
 obtain rfl:os'=s.os:=os
 exact t pins σ H' H0 _ e C D T a v u (I.call (h':=hh) (g':=g) (d':=d) (t':=tk) (ch:=[]) un hok bare (fun b z=>absurd z (by simp))) x xc rv n0 k (h _ _ _ q)
end L2
namespace L2
open PySem PySem.Spec PyProof.Rows
def tRaise (C:Addr) (E:XK) (ta:TA):TS:=fun _ σ H=>ta σ H fun vs H1=>∃v,vs=[v]∧∀u,RelV v u→E u (some C) H1
section
variable {X:Cx}{E:XK}{C:Addr}{a x:Str}{k:Nat}{arg:Expr}{ta:TA}{np cpos pos:Pos}
theorem ps_raise1 (thr:Throws X E) (cl:XCls X.K C a) (hr:Room (k+2) X.A) (hg:Gl X x) (hm:X.mg x=some (.ref C)) (ha:PA X [arg] ta) (hs:starEach [arg] X.env=[(false,eval arg X.env)]:=by rfl) (hd:(x ==("__debug__" : Str))=false:=by decide) :
  PS X (.Raise (some (.Call (.Name x np) [arg] [] cpos)) none pos) (tRaise C E ta):=by
 intro pins s σ H D I h
 obtain⟨nm,q,N,bs,bm,bmB,sn,sub,ab,col,dd,k0,k1,k2,k3,k5,newId,initId,sa,owner,fI,name,qual,params,scope,dV,kV,doc,pm,cdv,ct,an,od,osl,p1,p2,p3,p4,F,SF,hB,hbase,lC,hT,hN,lf,hcd,S,hsw,l1,l2,hne,hdb,hbd⟩:=cl.ex
 obtain⟨mN,nN,hi,hns,hna⟩:=hN _ I.ok.mod.kin
 refine Raise_initT (C:=C) (nm:=nm) (q:=q) (N:=N) (bs:=bs) (bm:=bm) (bmB:=bmB) (hdct:=true) (sn:=sn) (sub:=sub) (ab:=ab) (col:=col) (dd:=dd) (k0:=k0) (k1:=k1) (k2:=k2) (k3:=k3) (k5:=k5) (newId:=newId) (mN:=mN) (fI:=fI) F hbase hr.hd (by rw[hs];rfl) hi (oI:=⟨.type "function",od,.func (PySem.W.fnOf name qual params [.Assign [.Attribute (.Name "self" p1) a p2] (.Name a p3) p4] scope dV kV doc pm an cdv ct),osl⟩) rfl ?_
 refine thn ((pe_glob hg hm (show RelV (.ref C) (.ref C) from rfl) hd) pins s σ H (fun v H1=>v = .ref C∧H1=H) I ⟨rfl,rfl⟩) fun f s1 ⟨v,H1,I1,rf,e1,e2⟩=>?_
 subst e1 e2
 refine⟨rf,?_⟩
 have ha':=ha cpos pins s1 σ H1 _ I1 h
 rw[hs]at ha' ⊢
 refine Calls.evalArgs_plain (thn ha' fun us s2 ⟨vs,H2,I2,r2,v,ev,q2⟩=>?_)
 subst ev
 obtain⟨u,rfl,ru⟩:=vals1 r2
 refine⟨rfl,by show 1≤sizeLine;decide,I2.kIn _ _ lC,nN.keeps I2.bk,(hT _ I2.kIn).tail (.inl rfl),I2.kIn _ _ lf,fun h' e hm hz=>?_⟩
 obtain⟨t,he,ht,_⟩:=hm.there
 have kB:∀b o,X.base.get? b=some o→h'.get? b=some o:=fun b o z=>hm.keeps _ _ (I2.bk _ _ z)
 have kI:X.K.In h':=I2.ok.mod.kin.keeps kB
 refine wpAny_call (codeAny_mono (init_ok (k:=k) (s:={ s2 with heap:=h' }) (A:=X.A.under (.builtin "type.__call__" ⟨[.ref C,u],[]⟩)) (R:=fun r s'=>r = .ok (.ret .none)∧∃h2 tk D,s' = { s2 with heap:=h2,toks:=tk }∧h'.objs.size≤D∧D≠e∧h2.get? e=some ⟨.ref C,some D,.fields #[.ref t,.none,.none,.none,.bool false,.none],#[]⟩∧h2.Ns1 D (fun y=>if y=a then some u else none)∧∀b ob,b≠e→h'.get? b=some ob→h2.get? b=some ob)
  lf hcd S kI (I2.ok.mod.nolimit.keeps kB) (hr.make C [u] []) hsw l1 l2 hne hdb (hbd _ _ _) SF (hT _ kI) (.inr (.inr rfl)) (.inr (.inl rfl)) (kI _ _ lC) (nN.keeps kB) hns hna hB he rfl (by intro c z;cases z) rfl fun h2 tk D g1 g2 g3 g4 g5=>⟨rfl,h2,tk,D,rfl,g1,g2,g3,g4,g5⟩) fun r s' z=>?_)
 obtain⟨rfl,h2,tk,D,rfl,g1,g2,g3,g4,g5⟩:=z
 have ke:∀b o,s2.heap.get? b=some o→b≠e:=fun b o z c=>by rw[c]at z;exact absurd (Nat.lt_of_lt_of_le (Heap.lt_size z) hz) (Nat.lt_irrefl _)
 have kk:∀b o,s2.heap.get? b=some o→h2.get? b=some o:=fun b o z=>g5 b o (ke b o z) (hm.keeps _ _ z)
 have hz':s2.heap.objs.size≤D:=Nat.le_trans (Nat.le_of_lt (Nat.lt_of_le_of_lt hz (Heap.lt_size he))) g1
 have ne:=I2.hok.fresh hz
 have nD:=I2.hok.fresh hz'
 have I3:Inv X pins σ (upd H2 e (.ext (ExP e C D none))) { s2 with heap:=h2,toks:=tk }:=I2.adopt (ch:=[e]) (fun b o _ z=>kk b o z) (fun b hb=>by rw[List.mem_singleton.mp hb];exact I2.fpOk hz ne) (List.mem_singleton.mpr rfl) ⟨⟨_,_,g3,rfl⟩,⟨_,g3⟩,fun a1 a2 ⟨vs,sl,y,y2⟩ kq=>⟨vs,sl,kq _ y,y2⟩⟩
 have I4:Inv X pins σ (upd (upd H2 e (.ext (ExP e C D none))) D (.xd [(a,v)])) { s2 with heap:=h2,toks:=tk }:=I3.adopt (ch:=[D]) (fun b o _ z=>z) (fun b hb=>by rw[List.mem_singleton.mp hb];exact I2.fpOk hz' (by rw[upd_ne g2];exact nD)) (List.mem_singleton.mpr rfl) ⟨_,g4,fun y=>by
  show RelO (List.lookup y [(a,v)]) (if y=a then some u else none)
  by_cases c:y=a
  ·subst c
   rw[if_pos rfl,show List.lookup y [(y,v)]=some v by simp[List.lookup]]
   exact ru
  ·have cb:(y == a)=false:=beq_eq_false_iff_ne.mpr c
   rw[if_neg c,show List.lookup y [(a,v)]=none by simp[List.lookup,cb]]
   exact True.intro⟩
 have ex:Exc (upd (upd H2 e (.ext (ExP e C D none))) D (.xd [(a,v)])) e C D none a v:=⟨by rw[upd_ne g2.symm,upd_same],upd_same,fun t z=>by cases z⟩
 refine⟨rfl,kk _ _ (I2.kIn _ _ lC),⟨_,t,_,g3⟩,thr pins σ _ H2 _ e C D none a v u I4 ex cl ru ne (fun b o z=>?_) (q2 u ru)⟩
 rw[upd_ne (ne_of_none z nD),upd_ne (ne_of_none z ne)];exact z
end
end L2
namespace PySem
section
variable {M:Model}{A:Around}{E:Value→Shared→Prop}{h:Heap}{g:Array GenState}{d:Drawn}{t:Nat}{os:OsState}
variable {nm q nm' q':Str}{C N C' N' e:Addr}{bs bm bs' bm':List Value}{hdct hdct':Bool}{sn sn':List Str}{sub sub':List Value}{ab ab':Bool}{col col':Option Bool}{dd dd':Option Addr}{k0 k1 k2 k3 k5 k0' k1' k2' k3' k5':Option Value}{newId newId':String}{oe:Obj}
theorem excMatchesT {Q:Bool→Shared→Prop}(hC:h.get? C=some (excClassObj nm q C N bs bm hdct sn sub ab col dd k0 k1 k2 k3 k5 newId)) (hC':h.get? C'=some (excClassObj nm' q' C' N' bs' bm' hdct' sn' sub' ab' col' dd' k0' k1' k2' k3' k5' newId'))
  (he:h.get? e=some oe) (hcls:oe.cls = .ref C) (hbase:bm'.contains (.type "BaseException")=true)
  (hq:Q ((Value.ref C::bm).contains (.ref C')) ⟨h,g,d,t,os⟩):wpAny M A (excMatches (.ref e) (.ref C')) Q E ⟨h,g,d,t,os⟩:=by
 have hcB:(Value.ref C'::bm').contains (.type "BaseException")=true:=by rw[List.contains_cons,hbase,Bool.or_true]
 have f:=tc_notTuple
 generalize hb:(Value.ref C::bm).contains (.ref C')=b at hq
 unfold excMatches
 repeat (first|(with_reducible refine wpAny_loadPart_at he ?_;rw[hcls])|with_reducible refine wpAny_loadPart_at hC' ?_|(with_reducible refine wpAny_isSubtype_exc hC' ?_;rw[hcB])|(with_reducible refine wpAny_isSubtype_exc hC ?_;rw[hb])|wp_step)
 cases b <;> first|exact hq|(wp_walk;exact hq)
end
end PySem
namespace L2
open PySem PySem.Spec PyProof.Rows
section
variable {X:Cx}{pins:List (Addr×Obj)}{σ:St}{H:Hp}{s:Shared}
theorem Inv.flight (I:Inv X pins σ H s) {e C D T:Addr}{a:Str}{v:V}{A:Around}(hf:X.env.frame=some X.env.locals) (x:Exc H e C D (some T) a v) {Q:Unit→Shared→Prop}{E:Value→Shared→Prop}
  (k:∀(h':Heap),Inv X pins σ H { s with heap:=h' }→Q () { s with heap:=h' }) :
  wpAny (model X.prog X.w) A (setFlight (.ref e) none) Q E s:=by
 obtain⟨⟨vs,sl,he,h1⟩,_,_⟩:=I.hok e _ x.ex
 obtain⟨hT,hTe⟩:=x.tb T rfl
 obtain⟨⟨oT,ts,hT0,hdT,h3⟩,_,stT⟩:=I.hok T _ hT
 have hs3:=(Array.getElem?_eq_some_iff.mp h3).1
 have other:∀b,b≠T→(s.heap.update T (Obj.mapFields (·.setIfInBounds 3 ((none:Option Addr).elim Value.none fun f=>rawInt f)))).get? b=s.heap.get? b:=fun b hb=>Heap.get?_update_other _ _ (Ne.symm hb)
 have atT:=Heap.get?_update_self (Obj.mapFields (·.setIfInBounds 3 ((none:Option Addr).elim Value.none fun f=>rawInt f))) hT0 (Obj.isFreed_of_fields (Obj.data_mapFields hdT _))
 rw[mapFields_at hdT]at atT
 unfold setFlight
 refine wpAny_bind (wpAny_field he rfl h1 ?_)
 rw[if_pos (show(Value.ref T != Value.none)=true from by simp)]
 refine wpAny_setField hT0 hdT hs3 (k _ (I.flown (S:=(· = T)) (fun b o n _ q=>(other b n).trans q) (fun b o n q=>⟨o.slots,(other b n).trans q⟩) (fun b z=>by subst z;exact⟨_,hT⟩) (fun b z=>by subst z;exact⟨_,atT⟩) (fun b _ _=>rfl) hf fun b u q=>?_))
 by_cases c:b=T
 ·subst c
  rw[hT]at q;cases q
  exact⟨⟨_,_,atT,rfl,by simp[hs3]⟩,⟨_,atT⟩,stT⟩
 ·refine(I.hok b u q).stay (fun c' o hc r=>(other c' ?_).trans r) (fun _ q=>q) fun _ _ q=>q
  rcases hc with rfl|hc
  ·exact c
  ·intro z;rw[z,hT]at hc;cases hc
def Cx.suite (X:Cx) (e:Addr):Cx:={ X with A:=X.A.mark (some (.ref e)),calm:=false,xe:=fun _ _=>False }
theorem Inv.toSuite (I:Inv X pins σ H s) (e:Addr):Inv (X.suite e) pins σ H s :=
 ⟨⟨I.ok.mod,I.ok.kind,I.ok.glob,I.ok.blt,I.ok.above,I.ok.inj,I.ok.has,I.ok.cab,fun z=>(by cases z),I.ok.frames,I.ok.stk,I.ok.exf,I.ok.bs,I.ok.bsz,I.ok.noex,I.ok.exfs,I.ok.funs,I.ok.frf⟩,I.os,I.bare,I.base,I.loc,I.cell,I.free,I.freeC,I.pin,I.hok,I.len⟩
theorem Inv.ofSuite {e:Addr}(ok:X.Ok) (I:Inv (X.suite e) pins σ H s):Inv X pins σ H s:=⟨ok,I.os,I.bare,I.base,I.loc,I.cell,I.free,I.freeC,I.pin,I.hok,I.len⟩
end
end L2
namespace L2
open PySem PySem.Spec PyProof.Rows
section
variable {X:Cx}{pins:List (Addr×Obj)}{σ:St}{H:Hp}{s:Shared}
theorem Inv.goes {M:Model}{A:Around}{E:Value→Shared→Prop}{i:Nat}{n:Str}{pos:Pos}{Q:Unit→Shared→Prop}(I:Inv X pins σ H s) (hN:X.N.Nodup) (hi:X.N[i]? = some n) (hk:X.env.kindOf n=some .local)
  (h:∀s',Inv X pins (σ.set i none) H s'→Q () s'):wpAny M A (do bindName X.env n .none;unbindBehindTheSuite X.env n pos) Q E s:=by
 obtain⟨m,hn,hl⟩:=id I.loc
 obtain⟨oL,_,_,hoL,_⟩:=id hn
 have hcls:(X.env.scope.kind == .class || (X.env.scope.kind == .module && X.env.locals != X.env.globals))=false:=by rw[I.ok.kind];rfl
 have hiσ:i<σ.length:=by rw[I.len];exact(List.getElem?_eq_some_iff.mp hi).1
 refine wpAny_nameGoes_keeps hk hn hcls fun h' v hn' hs=>h _ ?_
 have ab:∀b o,X.s₀.heap.get? b=some o→b≠X.env.locals:=fun b o e=>Nat.ne_of_lt (Nat.lt_of_lt_of_le (Heap.lt_size e) I.ok.above)
 refine⟨I.ok,I.os,I.bare,⟨fun b o e n hb hx=>(hs.2 b (ab b o e)).trans (I.base.keep b o e n hb hx),fun b o e n hb hx=>?_,I.base.free,fun b o e hx=>?_,I.base.tups,I.base.frzs,I.base.tbls⟩,⟨_,hn',fun j y v' e1 e2 e3=>?_⟩,fun y c e=>?_,I.free,I.freeC,fun p hp=>?_,fun b ob e=>?_,by simpa using I.len⟩
 ·obtain⟨sl,e1⟩:=I.base.slot b o e n hb hx
  exact⟨sl,(hs.2 b (ab b o e)).trans e1⟩
 ·obtain⟨o',e1⟩:=I.base.there b o e hx
  exact⟨o',(hs.2 b (ab b o e)).trans e1⟩
 ·by_cases hj:j=i
  ·subst hj
   rw[List.getElem?_set_self hiσ]at e2;cases e2
  ·rw[List.getElem?_set_ne (Ne.symm hj)]at e2
   obtain⟨u',r',q⟩:=hl j y v' e1 e2 e3
   refine⟨u',r',?_⟩
   rcases q with⟨k,e⟩|⟨k,c,e,z⟩
   ·refine .inl ⟨k,?_⟩
    have:y≠n:=fun e=>hj (nodup_ix hN e1 (e ▸ hi))
    simp[this,e]
   ·exact .inr ⟨k,c,e,z.sameBut hs (I.cne y c e)⟩
 ·obtain⟨w,z⟩:=I.cell y c e
  exact⟨w,z.sameBut hs (I.cne y c e)⟩
 ·obtain⟨p1,p2,p3,p4,p5⟩:=I.pin p hp
  exact⟨(hs.2 _ p3).trans p1,p2,p3,p4,p5⟩
 ·refine(I.hok b ob e).stay (fun c w' hc q=>(hs.2 c ?_).trans q) (fun _ q=>q) fun _ _ q=>q
  rintro rfl
  rcases hc with rfl|hc
  ·rw[I.free]at e;cases e
  ·rw[I.free]at hc;cases hc
end
def XC (K:PySem.W.Frag) (C:Addr) (bm:List Value):Prop:=∃(nm q:Str) (N:Addr) (bs:List Value) (hdct:Bool) (sn:List Str) (sub:List Value) (ab:Bool) (col:Option Bool) (dd:Option Addr) (k0 k1 k2 k3 k5:Option Value) (newId:String),
 K.lookup C=some (excClassObj nm q C N bs bm hdct sn sub ab col dd k0 k1 k2 k3 k5 newId)∧bm.contains (.type "BaseException")=true
def Und (K:PySem.W.Frag) (C C':Addr):Prop:=∃bm bm',XC K C bm∧XC K C' bm'∧(Value.ref C::bm).contains (.ref C')=true
def XAt (H:Hp) (e C:Addr) (a:Str) (v:V):Prop:=∃D T,Exc H e C D (some T) a v
def Ends.gone (D:Ends) (i:Nat):Ends:={ nx:=fun σ H=>D.nx (σ.set i none) H,rt:=D.rt,bk:=fun σ H=>D.bk (σ.set i none) H,ct:=fun σ H=>D.ct (σ.set i none) H }
def tTry (K:PySem.W.Frag) (C':Addr) (m i:Nat) (tb:XK→TS) (th:TS):TS:=fun D σ H=>∃E1:XK,tb E1 D σ H∧∀(u:Value) (C:Addr) (H0:Hp),E1 u (some C) H0→Und K C C' ∧
 ∀(e:Addr) (H':Hp) (σ':St) (a:Str) (v:V),RelV v u→XAt H' e C a v→(∀b,XCls K C b→a=b)→(∀b o,H0 b=some o→H' b=some o)→σ'.length=m→th (D.gone i) (σ'.set i (some (.ref e))) H'
section
variable {X:Cx}{body suite:List Stmt}{b0:Stmt}{np hpos pos:Pos}{xc n:Str}{i:Nat}{C':Addr}{tb:XK→TS}{th:TS}
theorem ps_try1 (hN:X.N.Nodup) (hi:X.N[i]? = some n) (hk:X.env.kindOf n=some .local) (hf:X.env.frame=some X.env.locals) (hst:X.stack=X.env::X.outer) (hg:Gl X xc) (hm:X.mg xc=some (.ref C'))
  (hb:∀(xe:Value→Shared→Prop) (pn:List (Addr×Obj)) (E1:XK),Throws { X with xe:=xe,pn:=pn } E1→PSs { X with xe:=xe,pn:=pn } body (tb E1)) (hs:∀e,PSs (X.suite e) (b0::suite) th) (hd:(xc ==("__debug__" : Str))=false:=by decide) :
  PS X (.Try body [.ExceptHandler (some (.Name xc np)) (some n) (b0::suite) hpos] [] [] pos) (tTry X.K C' X.N.length i tb th):=by
 intro pins s σ H D I h
 obtain⟨E1,hb1,hh⟩:=h
 refine wpAny_Try_except ?_
 let xe':Value→Shared→Prop:=fun ev s1=>wpAny (model X.prog X.w) X.A (noteFrame ev X.env) (fun _ s2=>wpAny (model X.prog X.w) X.A (setFlight ev none) (fun _ s3=>wpAny (model X.prog X.w) X.A (handleBy ev X.env [.ExceptHandler (some (.Name xc np)) (some n) (b0::suite) hpos]) (SP X pins D) X.xe s3) X.xe s2) X.xe s1
 have fwd:Inv { X with xe:=xe',pn:=X.pn++pins } [] σ H s :=
  ⟨⟨I.ok.mod,I.ok.kind,I.ok.glob,I.ok.blt,I.ok.above,I.ok.inj,I.ok.has,I.ok.cab,I.ok.hd,I.ok.frames,I.ok.stk,I.ok.exf,I.ok.bs,I.ok.bsz,I.ok.noex,I.ok.exfs,I.ok.funs,I.ok.frf⟩,I.os,I.bare,I.base,I.loc,I.cell,I.free,I.freeC,fun p hp=>I.pin p (by simpa using hp),I.hok,I.len⟩
 have bwd:∀{pins':List (Addr×Obj)}{σ':St}{H':Hp}{s':Shared},Inv { X with xe:=xe',pn:=X.pn++pins } pins' σ' H' s'→Inv X pins σ' H' s':=fun J =>
  ⟨I.ok,J.os,J.bare,J.base,J.loc,J.cell,J.free,J.freeC,fun p hp=>J.pin p (List.mem_append_left _ hp),J.hok,J.len⟩
 have thr:Throws { X with xe:=xe',pn:=X.pn++pins } E1:=fun pins' σ' H1 H0 s1 e C Dx T a v u I1 x xc rv n0 k q=>by
  have J:=bwd I1
  obtain⟨⟨bm,bm',⟨nm,q1,N,bs,hdct,sn,sub,ab,col,dd,k0,k1,k2,k3,k5,newId,lC,_⟩,⟨nm',q1',N',bs',hdct',sn',sub',ab',col',dd',k0',k1',k2',k3',k5',newId',lC',hbase'⟩,hcon⟩,hsu⟩:=hh u C H0 q
  refine J.note hf hst x fun T' h' nT J2=>?_
  have x2:=x.next nT
  have k2:=sub_next (o1:=.ext (ExP e C Dx (some T'))) (o2:=.ext (TbP T')) nT n0 k
  generalize upd (upd H1 e (.ext (ExP e C Dx (some T')))) T' (.ext (TbP T'))=H2 at J2 x2 k2
  refine wpAny_handleBy_cons (codeAny_handlers_test ?_) (by intro z;cases z)
  refine wpAny_mono ((pe_glob (X:=X.suite e) hg hm (show RelV (.ref C') (.ref C') from rfl) hd) pins _ σ' H2 (fun v H3=>v = .ref C'∧H3=H2) (J2.toSuite e) ⟨rfl,rfl⟩) (fun c s4 ⟨v',H4,J4,r4,e1,e2⟩=>?_) fun _ _ z=>z.elim
  subst e1 e2
  obtain rfl:c=Value.ref C':=r4
  have J5:=J4.ofSuite I.ok
  obtain⟨⟨vs,sl,he,_⟩,_,_⟩:=J5.hok e _ x2.ex
  have hC:=J5.kIn _ _ lC
  have hC':=J5.kIn _ _ lC'
  obtain⟨hh4,g,d,tk,os⟩:=s4
  refine excMatchesT hC hC' he rfl hbase' ?_
  rw[hcon]
  refine codeAny_handlers_suite_as ?_
  refine J5.flight hf x2 fun h6 J6=>?_
  refine store_ok J6 hN hi (.inl hk) (show RelV (.ref e) (.ref e) from rfl) (fun s7 J7=>?_) (.inr hk)
  refine wpAny_mono (hs e pins s7 _ _ (D.gone i) (J7.toSuite e) (hsu e H4 σ' a v rv ⟨Dx,T',x2⟩ (fun b y=>XCls.uniq J5.kIn xc y) k2 J6.len)) (fun f s8 h8=>?_) fun _ _ z=>z.elim
  cases f with
  | next =>
   obtain⟨σ9,H9,J9,q9⟩:=h8
   exact(J9.ofSuite I.ok).goes hN hi hk fun s' J10=>⟨_,_,J10,q9⟩
  | brk =>
   obtain⟨σ9,H9,J9,q9⟩:=h8
   exact(J9.ofSuite I.ok).goes hN hi hk fun s' J10=>⟨_,_,J10,q9⟩
  | cont =>
   obtain⟨σ9,H9,J9,q9⟩:=h8
   exact(J9.ofSuite I.ok).goes hN hi hk fun s' J10=>⟨_,_,J10,q9⟩
  | ret u9 =>
   obtain⟨v9,σ9,H9,J9,r9,q9⟩:=h8
   exact(J9.ofSuite I.ok).goes hN hi hk fun s' J10=>⟨_,_,_,J10,r9,q9⟩
 refine wpAny_mono (hb xe' (X.pn++pins) E1 thr [] s σ H D fwd hb1) (fun f s1 h1=>?_) fun e s1 z=>z
 cases f with
 | next =>
  obtain⟨σ9,H9,J9,q9⟩:=h1
  exact wpAny_execs_nil ⟨_,_,bwd J9,q9⟩
 | brk =>
  obtain⟨σ9,H9,J9,q9⟩:=h1
  exact⟨_,_,bwd J9,q9⟩
 | cont =>
  obtain⟨σ9,H9,J9,q9⟩:=h1
  exact⟨_,_,bwd J9,q9⟩
 | ret u9 =>
  obtain⟨v9,σ9,H9,J9,r9,q9⟩:=h1
  exact⟨_,_,_,bwd J9,r9,q9⟩
end
end L2
namespace L2
open PySem PySem.Spec PyProof.Rows
structure Cal1 (P:Program) (w:World) (K:PySem.W.Frag) (mg:Str→Option Value) (base:Heap) (x:Str) (ps:List Str) (k:Nat) (sp:Sp):Prop where
 ex:∃(f:Addr) (fd:FuncData),FnOk P w K mg base (CX1 P w K) k f fd ps sp∧Binds K fd ps []∧mg x=some (.ref f)∧PySem.W.keepIn K (.ref f)=true
section
variable {X:Cx}{E:XK}{x m:Str}{C:Addr}{ps:List Str}{k:Nat}{sp:Sp}{e o:Expr}{es:List Expr}{t:TA}{ta:TE}{p pos apos:Pos}
theorem pcl1 (C:Cal1 X.prog X.w X.K X.mg X.base x ps k sp) (hp:Passes (CX1 X.prog X.w X.K) X E) (hr:Room k X.A) (ha:PA X (e::es) t) (hg:Gl X x:=by rfl) (hdb:(x ==("__debug__" : Str))=false:=by decide) (he:starEach (e::es) X.env =(false,eval e X.env)::starEach es X.env:=by rfl) (hpl:(backTo pos (starEach es X.env)).any (·.1)=false:=by rfl) :
  PE X (.Call (.Name x p) (e::es) [] pos) (tCall sp [] E t):=by
 obtain⟨f,fd,F,hb,hm,hk⟩:=C.ex
 exact pe_call F hr hg hm hk hb .nil hp ha hdb he hpl
end
section
variable {P:Program}{w:World}{K:PySem.W.Frag}{mg:Str→Option Value}{base:Heap}{C:Addr}{x y qual:Str}{st:Stmt}{f:Addr}{fd:FuncData}{N ps:List Str}{k:Nat}{sp:Sp}
theorem Fun.ok1 (F:Fun K x qual st f fd) (S:FnScope N ps (defScope st)) (len:∀vs H Q E,sp vs H Q E→vs.length=ps.length)
  (hbody:∀(cdv:Value) (A:Around) (outer:List Env) (s:Shared) (H:Hp) (vs:List V) (Q:VK) (E:XK),Room k (A.deeper (envOfC qual (defScope st) s.heap.objs.size f cdv))→sp vs H Q E →
   ∃t,PSs (cxOf (CX1 P w K) P w K mg base N qual (defScope st) f cdv A outer s H E) (defBody st) t∧t { nx:=fun _ H'=>Q .non H',rt:=Q } (start N vs) H):FnOk P w K mg base (CX1 P w K) (k+1) f fd ps sp:=by
 obtain⟨oc,od,kV,doc,pm,an,cdv,ct,osl,rfl,lk,hcd⟩:=F.ex
 exact fn_of lk hcd S len fun A outer s H vs Q E hr hsp=>hbody cdv A outer s H vs Q E hr hsp
theorem Cal1.of (F:Fun K x x st f fd) (mF:mg x=some (.ref f)) (bF:Binds K fd ps []) (S:FnScope N ps (defScope st)) (len:∀vs H Q E,sp vs H Q E→vs.length=ps.length)
  (hbody:∀(cdv:Value) (A:Around) (outer:List Env) (s:Shared) (H:Hp) (vs:List V) (Q:VK) (E:XK),Room k (A.deeper (envOfC x (defScope st) s.heap.objs.size f cdv))→sp vs H Q E →
   ∃t,PSs (cxOf (CX1 P w K) P w K mg base N x (defScope st) f cdv A outer s H E) (defBody st) t∧t { nx:=fun _ H'=>Q .non H',rt:=Q } (start N vs) H):Cal1 P w K mg base x ps (k+1) sp :=
 ⟨f,fd,F.ok1 S len hbody,bF,mF,F.kp⟩
end
end L2
namespace L2
open PySem PySem.Spec PyProof.Rows
def nsK (K:PySem.W.Frag) (N:Addr):Bool:=match K.lookup N with
 | some ⟨_,_,.dict es _,_⟩=>es.all (fun e=>match e.key with | .str _ _=>true|_=>false)
 | _=>false
theorem ns_of_K {K:PySem.W.Frag}{N:Addr}{h:Heap}(hk:nsK K N=true) (X:K.In h):∃mN,h.Ns N mN∧(∀n v,PySem.W.nsIn K N n=some (some v)→mN n=some v)∧∀n,PySem.W.nsIn K N n=some none→mN n=none:=by
 unfold nsK at hk
 split at hk
 ·rename_i c d es ep sl q
  have ho:=X _ _ q
  have G:=Heap.Ns.of_isNs (h:=h) (a:=N) (by unfold Heap.isNs;rw[ho];exact hk)
  refine⟨_,G,fun n v e=>?_,fun n e=>?_⟩
  ·obtain⟨o,es',ep',ho',hd,_,hf⟩:=G
   rw[ho]at ho';cases ho';cases hd
   unfold PySem.W.nsIn at e
   rw[q]at e
   dsimp only at e
   rw[← hf]
   unfold nsFind findBy
   rw[← Array.find?_toList]
   split at e
   ·rename_i en he
    cases e
    rw[he];rfl
   ·split at e <;> cases e
  ·obtain⟨o,es',ep',ho',hd,_,hf⟩:=G
   rw[ho]at ho';cases ho';cases hd
   unfold PySem.W.nsIn at e
   rw[q]at e
   dsimp only at e
   rw[← hf]
   unfold nsFind findBy
   rw[← Array.find?_toList]
   split at e
   ·cases e
   ·rename_i he
    rw[he];rfl
 ·cases hk
abbrev veM:List Value:=[.type "ValueError",.type "Exception",.type "BaseException",.type "object"]
theorem veB {TE:Addr}:(Value.ref TE::veM).contains (.type "BaseException")=true:=by rw[List.contains_cons,show veM.contains (.type "BaseException")=true by decide +kernel,Bool.or_true]
def NoNs (K:PySem.W.Frag) (N:Addr) (n:Str):Prop:=PySem.W.nsIn K N n=some none
theorem XCls.mk' {K:PySem.W.Frag}{C TE N fI:Addr}{a nm q name qual:Str}{bs:List Value}{sn:List Str}{sub:List Value}{ab:Bool}{col:Option Bool}{dd ddT:Option Addr}{k0 k1 k2 k3 k5:Option Value}{newId initId:String}{c0:Value}{cdT:ClassData}{slT:Array (Option Value)}
  {params:Arguments}{scope:Scope}{dV kV doc pm cdv ct:Value}{an od:Option Addr}{osl:Array (Option Value)}{p1 p2 p3 p4:Pos}(F:ExcBaseFacts "ValueError" newId initId veM)
  (lC:K.lookup C=some (excClassObj nm q C N bs (.ref TE::veM) true sn sub ab col dd k0 k1 k2 k3 k5 newId)) (lT:K.lookup TE=some ⟨c0,ddT,.cls cdT,slT⟩) (n1:nsK K N=true) (n2:nsK K cdT.ns=true)
  (i1:PySem.W.nsIn K N "__init__" = some (some (.ref fI))) (i2:NoNs K N "__setattr__") (i3:NoNs K N a) (t1:NoNs K cdT.ns "__init__") (t2:NoNs K cdT.ns "__setattr__") (t3:NoNs K cdT.ns a)
  (hB:typeLookup (.type "ValueError") a=pure none)
  (lf:K.lookup fI=some ⟨.type "function",od,.func (PySem.W.fnOf name qual params [.Assign [.Attribute (.Name "self" p1) a p2] (.Name a p3) p4] scope dV kV doc pm an cdv ct),osl⟩) (hcd:PySem.W.codeIn K cdv qual=true)
  (S:FnScope ["self",a] ["self",a] scope) (hsw:∀env,swapsWith (.Name a p3) (some (.Attribute (.Name "self" p1) a p2)) p4.line env=pure false) (l1:scope.names.lookup ("self" : Str)=some .local) (l2:scope.names.lookup a=some .local) (hne:a ≠ "self") (hdb:(a ==("__debug__" : Str))=false)
  (hbd:∀s e u,BindsTo s (PySem.W.fnOf name qual params [.Assign [.Attribute (.Name "self" p1) a p2] (.Name a p3) p4] scope dV kV doc pm an cdv ct) ⟨[.ref e,u],[]⟩ [("self",.ref e),(a,u)]):XCls K C a∧XC K C (.ref TE::veM) :=
 ⟨⟨nm,q,N,bs,.ref TE::veM,veM,sn,sub,ab,col,dd,k0,k1,k2,k3,k5,newId,initId,_,_,fI,name,qual,params,scope,dV,kV,doc,pm,cdv,ct,an,od,osl,p1,p2,p3,p4,F,PySem.F.store_ValueError,hB,veB,lC,fun h X=>by
  obtain⟨mT,g1,_,g3⟩:=ns_of_K n2 X
  refine .own (X _ _ lT) g1 (fun n hn=>?_) .base
  rcases hn with rfl|rfl|rfl
  ·exact g3 _ t1
  ·exact g3 _ t2
  ·exact g3 _ t3,fun h X=>by
  obtain⟨mN,g1,g2,g3⟩:=ns_of_K n1 X
  exact⟨mN,g1,g2 _ _ i1,g3 _ i2,g3 _ i3⟩,lf,hcd,S,hsw,l1,l2,hne,hdb,hbd⟩,⟨nm,q,N,bs,true,sn,sub,ab,col,dd,k0,k1,k2,k3,k5,newId,lC,veB⟩⟩
end L2
namespace PySem
open Builtin
section
variable {M:Model}{prog:Program}{w:World}{A:Around}{E:Value→Shared→Prop}{h:Heap}{g:Array GenState}{d:Drawn}{t:Nat}{os:OsState}{P:Str→Prop}
variable {nm q:Str}{C N x D:Addr}{bs bm bmB:List Value}{hdct:Bool}{sn:List Str}{sub:List Value}{ab:Bool}{col:Option Bool}{dd:Option Addr}{k0 k1 k2 k3 k5:Option Value}{B newId:String}{mN mA:Str→Option Value}{name:Str}{v:Value}{vs:Array Value}{sl:Array (Option Value)}{od:Obj}
theorem xattr_entry {tk:Tok}{Q:Fin→Shared→Prop}(hC:h.get? C=some (excClassObj nm q C N bs bm true sn sub ab col dd k0 k1 k2 k3 k5 newId)) (hN:h.Ns N mN) (hna:mN name=none) (T:TlN h bmB P bm) (hp:P name) (hmro:mroOf (.type B)=pure bmB) (hB:typeLookup (.type B) name=pure none)
  (hx:h.get? x=some ⟨.ref C,some D,.fields vs,sl⟩) (hD:h.get? D=some od) (hl:nsLook name od=pure (some v)) (hq:Q (.done (.ret v)) ⟨h,g,d,t,os⟩) :
  wpAny (model prog w) A (Builtin.«object.__getattribute__» ⟨[.ref x,.str name tk],[]⟩) Q E ⟨h,g,d,t,os⟩:=by
 repeat (any_goals (first|assumption|with_reducible refine wpAny_loadPart_at hx ?_|with_reducible refine wpAny_loadPart_at hC ?_|(with_reducible refine typeLookN hC hN T hp hmro hB ?_;rw[hna])|wp_step))
theorem check_gaT {nameV:Value}{Q:Unit→Shared→Prop}(hC:h.get? C=some (excClassObj nm q C N bs bm hdct sn sub ab col dd k0 k1 k2 k3 k5 newId)) (hb:bm.contains (.type "BaseException")=true)
  (hx:h.get? x=some ⟨.ref C,some D,.fields vs,sl⟩) (hq:Q () ⟨h,g,d,t,os⟩):wpAny M A (checkBuiltinCall "BaseException.__getattribute__" ⟨[.ref x,nameV],[]⟩) Q E ⟨h,g,d,t,os⟩:=by
 have hk:builtinKind "BaseException.__getattribute__" = some .slot:=by decide +kernel
 have hsplit:splitId "BaseException.__getattribute__" = some ("BaseException", "__getattribute__"):=by decide +kernel
 have hcB:(Value.ref C::bm).contains (.type "BaseException")=true:=by rw[List.contains_cons,hb,Bool.or_true]
 have ha:=F.args_bexc_ga (.ref x) nameV
 simp only[checkBuiltinCall,hk,hsplit]
 refine wpAny_bind ?_
 ·unfold isInstance
  repeat (first|with_reducible refine wpAny_loadPart_at hx ?_|(with_reducible refine wpAny_isSubtype_exc hC ?_;rw[hcB])|wp_step)
  exact hq
theorem xattrT {expr:Bool}{Q:Value→Shared→Prop}(FB:ExcAttrBase B bmB) (hC:h.get? C=some (excClassObj nm q C N bs bm true sn sub ab col dd k0 k1 k2 k3 k5 newId)) (hb:bm.contains (.type "BaseException")=true) (hN:h.Ns N mN) (hna:mN name=none) (hn1:mN "__getattribute__" = none) (hn2:mN "__getattr__" = none)
  (T:TlN h bmB P bm) (hp:P name) (hp1:P "__getattribute__") (hp2:P "__getattr__") (hB:typeLookup (.type B) name=pure none)
  (hx:h.get? x=some ⟨.ref C,some D,.fields vs,sl⟩) (hD:h.get? D=some od) (hl:nsLook name od=pure (some v)) (hh:handedOut v=pure v) (hq:∀tk,Q v ⟨h,g,d,tk,os⟩) :
  wpAny (model prog w) A (getAttr (.ref x) name expr) Q E ⟨h,g,d,t,os⟩:=by
 have f3:=FB.ga.bind (.ref x)
 have hx0:(expr && onTheHeap (Value.builtin "BaseException.__getattribute__"))=false:=by cases expr <;> rfl
 have hx2:(Value.builtin "BaseException.__getattribute__" == Value.builtin "object.__getattribute__")=false:=by decide +kernel
 have hx1:(onTheHeap (Value.ref C) && Value.builtin "BaseException.__getattribute__" == Value.builtin "object.__getattribute__")=false:=by rw[hx2];rfl
 unfold getAttr
 repeat (any_goals (first|assumption|with_reducible refine wpAny_loadPart_at hx ?_|(with_reducible refine typeLookN hC hN T hp1 FB.mro FB.ga.lookup ?_;rw[hn1])|(with_reducible refine typeLookN hC hN T hp2 FB.mro FB.noGetattr ?_;rw[hn2])|wp_step))
 refine codeAny_call_builtin FB.ga.plain F.entry_bexc_ga (check_gaT hC hb hx (xattr_entry hC hN hna T hp FB.mro hB hx hD hl ?_))
 show wpAny _ _ (handedOut v) _ _ _
 rw[hh]
 exact wpAny_pure (hq _)
end
end PySem
namespace L2
open PySem PySem.Spec PyProof.Rows
def XAttr (K:PySem.W.Frag) (C:Addr) (a:Str):Prop:=∃(nm q:Str) (N:Addr) (bs bm bmB:List Value) (sn:List Str) (sub:List Value) (ab:Bool) (col:Option Bool) (dd:Option Addr) (k0 k1 k2 k3 k5:Option Value) (newId:String),
 K.lookup C=some (excClassObj nm q C N bs bm true sn sub ab col dd k0 k1 k2 k3 k5 newId)∧bm.contains (.type "BaseException")=true∧ExcAttrBase "ValueError" bmB∧typeLookup (.type "ValueError") a=pure none ∧
 (∀h,K.In h→TlN h bmB (fun n=>n=a∨n = "__getattribute__" ∨ n = "__getattr__") bm)∧∀h,K.In h→∃mN,h.Ns N mN∧mN a=none∧mN "__getattribute__" = none∧mN "__getattr__" = none
section
variable {X:Cx}{pins:List (Addr×Obj)}{σ:St}{H:Hp}{s:Shared}{e C:Addr}{a:Str}{v:V}
theorem xget2 {b:Bool}{A:Around}{E:Value→Shared→Prop}{Q:Value→Shared→Prop}(I:Inv X pins σ H s) (x:XAt H e C a v) (c:XAttr X.K C a)
  (h:∀u s',Inv X pins σ H s'→RelV v u→Q u s'):wpAny (model X.prog X.w) A (getAttr (.ref e) a b) Q E s:=by
 obtain⟨nm,q,N,bs,bm,bmB,sn,sub,ab,col,dd,k0,k1,k2,k3,k5,newId,lC,hb,FB,hB,hT,hN⟩:=c
 obtain⟨D,T,x⟩:=x
 obtain⟨⟨vs,sl,he,_⟩,_,_⟩:=I.hok e _ x.ex
 obtain⟨mA,hn,r⟩:=(show ObjOk X.prog X.w H s.heap D (.xd [(a,v)]) from I.hok D _ x.xd)
 obtain⟨od,ho,hl⟩:=lookIn_ns hn
 have ra:=r a
 rw[show List.lookup a [(a,v)]=some v by simp[List.lookup]]at ra
 obtain⟨u,hu,ru⟩:=RelO.some_of ra
 obtain⟨mN,g1,g2,g3,g4⟩:=hN _ I.kIn
 have kI:=I.kIn
 have I':=fun tk=>I.tok tk
 obtain⟨hh,g,d,t,os⟩:=s
 exact xattrT FB (kI _ _ lC) hb g1 g2 g3 g4 (hT _ kI) (.inl rfl) (.inr (.inl rfl)) (.inr (.inr rfl)) hB he ho (PySem.W.nsLook_of (by rw[hl,hu])) (PySem.W.handedOut_of (handed_of ru)) fun tk=>h u _ (I' tk) ru
def tXat2 (K:PySem.W.Frag) (ta:TE) (a:Str):TE:=fun σ H Q=>ta σ H fun x H1=>∃e C v,x = .ref e∧XAt H1 e C a v∧XAttr K C a∧Q v H1
theorem pe_xat2 {o:Expr}{ta:TE}{pos:Pos}(ha:PE X o ta) (hb:attributeBase o a X.env (eval o X.env)=eval o X.env:=by rfl):PE X (.Attribute o a pos) (tXat2 X.K ta a):=by
 intro pins s σ H Q I h
 refine attr_of hb (thn (ha pins s σ H _ I h) fun ov s1 ⟨x,H1,I1,rx,e,C,v,ex,xa,c,q⟩=>?_)
 subst ex
 obtain rfl:ov=Value.ref e:=rx
 exact xget2 I1 xa c fun u s2 I2 ru=>⟨v,H1,I2,ru,q⟩
end
def strK (es:Array DictEntry):Bool:=es.toList.all (fun e=>match e.key with | .str _ _=>true|_=>false)
theorem nsK_of {K:PySem.W.Frag}{N:Addr}{c:Value}{d:Option Addr}{es:Array DictEntry}{ep:Nat}{sl:Array (Option Value)}(l:K.lookup N=some ⟨c,d,.dict es ep,sl⟩) (h:strK es=true):nsK K N=true:=by
 unfold nsK;rw[l]
 show es.all _=true
 rw[← Array.all_toList];exact h
theorem XAttr.of {K:PySem.W.Frag}{C TE N:Addr}{a nm q:Str}{bs:List Value}{sn:List Str}{sub:List Value}{ab:Bool}{col:Option Bool}{dd ddT:Option Addr}{k0 k1 k2 k3 k5:Option Value}{newId:String}{c0:Value}{cdT:ClassData}{slT:Array (Option Value)}
  (lC:K.lookup C=some (excClassObj nm q C N bs (.ref TE::veM) true sn sub ab col dd k0 k1 k2 k3 k5 newId)) (lT:K.lookup TE=some ⟨c0,ddT,.cls cdT,slT⟩) (n1:nsK K N=true) (n2:nsK K cdT.ns=true)
  (i1:NoNs K N a) (i2:NoNs K N "__getattribute__") (i3:NoNs K N "__getattr__") (t1:NoNs K cdT.ns a) (t2:NoNs K cdT.ns "__getattribute__") (t3:NoNs K cdT.ns "__getattr__") (hB:typeLookup (.type "ValueError") a=pure none):XAttr K C a :=
 ⟨nm,q,N,bs,.ref TE::veM,veM,sn,sub,ab,col,dd,k0,k1,k2,k3,k5,newId,lC,veB,PySem.F.attrBase_ValueError,hB,fun h X=>by
  obtain⟨mT,g1,_,g3⟩:=ns_of_K n2 X
  refine .own (X _ _ lT) g1 (fun n hn=>?_) .base
  rcases hn with rfl|rfl|rfl
  ·exact g3 _ t1
  ·exact g3 _ t2
  ·exact g3 _ t3,fun h X=>by
  obtain⟨mN,g1,_,g3⟩:=ns_of_K n1 X
  exact⟨mN,g1,g3 _ i1,g3 _ i2,g3 _ i3⟩⟩
theorem ve_mark:typeLookup (.type "ValueError") "mark" = pure none:=by rw[typeLookup_type,builtinLookup_eq_fast];kernel_rfl
end L2
namespace PySem
open Builtin
section
variable {M:Model}{prog:Program}{w:World}{A:Around}{E:Value→Shared→Prop}{h:Heap}{g:Array GenState}{d:Drawn}{t:Nat}{os:OsState}{P:Str→Prop}
variable {nm q:Str}{C N x D:Addr}{bs bm bmB:List Value}{hdct:Bool}{sn:List Str}{sub:List Value}{ab:Bool}{col:Option Bool}{dd:Option Addr}{k0 k1 k2 k3 k5:Option Value}{B newId:String}{mN:Str→Option Value}{vs:Array Value}{sl:Array (Option Value)}{K:PySem.W.Frag}{od:Obj}
theorem ve_class:typeLookup (.type "ValueError") "__class__" = pure (some (.builtin "object.__class__")):=by rw[typeLookup_type,builtinLookup_eq_fast];kernel_rfl
theorem xclass_entry {tk:Tok}{Q:Fin→Shared→Prop}(KX:K.In h) (I:PySem.W.InstAt h x ⟨.ref C,some D,.fields vs,sl⟩ C (some od)) (hm:PySem.W.mroIn K C (.type "object")=some true) (hC:h.get? C=some (excClassObj nm q C N bs bm true sn sub ab col dd k0 k1 k2 k3 k5 newId)) (hN:h.Ns N mN) (hna:mN "__class__" = none) (T:TlN h bmB P bm) (hp:P "__class__") (hmro:mroOf (.type "ValueError")=pure bmB)
  (hx:h.get? x=some ⟨.ref C,some D,.fields vs,sl⟩) (hq:Q (.done (.ret (.ref C))) ⟨h,g,d,t,os⟩) :
  wpAny (model prog w) A (Builtin.«object.__getattribute__» ⟨[.ref x,.str "__class__" tk],[]⟩) Q E ⟨h,g,d,t,os⟩:=by
 have f5:=F.typeOf_object_class
 have f6:=F.slot_gs_get.lookup
 have f7:=F.slot_gs_set.lookup
 repeat (any_goals (first|assumption|with_reducible refine wpAny_loadPart_at hx ?_|with_reducible refine wpAny_loadPart_at hC ?_|(with_reducible refine typeLookN hC hN T hp hmro ve_class ?_;rw[hna])|wp_step))
 refine PySem.W.class_get (s:=⟨h,g,d,t,os⟩) KX I hm ?_
 repeat (any_goals (first|assumption|wp_step))
theorem xclassT {Q:Option Value→Shared→Prop}(FB:ExcAttrBase "ValueError" bmB) (KX:K.In h) (I:PySem.W.InstAt h x ⟨.ref C,some D,.fields vs,sl⟩ C (some od)) (hm:PySem.W.mroIn K C (.type "object")=some true) (hC:h.get? C=some (excClassObj nm q C N bs bm true sn sub ab col dd k0 k1 k2 k3 k5 newId)) (hb:bm.contains (.type "BaseException")=true) (hN:h.Ns N mN)
  (hna:mN "__class__" = none) (hn1:mN "__getattribute__" = none) (hn2:mN "__getattr__" = none) (T:TlN h bmB P bm) (hp:P "__class__") (hp1:P "__getattribute__") (hp2:P "__getattr__")
  (hx:h.get? x=some ⟨.ref C,some D,.fields vs,sl⟩) (hq:Q (some (.ref C)) ⟨h,g,d,t+1,os⟩):wpAny (model prog w) A (getAttr? (.ref x) "__class__") Q E ⟨h,g,d,t,os⟩:=by
 have f3:=FB.ga.bind (.ref x)
 have hx2:(Value.builtin "BaseException.__getattribute__" == Value.builtin "object.__getattribute__")=false:=by decide +kernel
 have hx1:(onTheHeap (Value.ref C) && Value.builtin "BaseException.__getattribute__" == Value.builtin "object.__getattribute__")=false:=by rw[hx2];rfl
 unfold getAttr?
 repeat (any_goals (first|assumption|with_reducible refine wpAny_loadPart_at hx ?_|(with_reducible refine typeLookN hC hN T hp1 FB.mro FB.ga.lookup ?_;rw[hn1])|(with_reducible refine typeLookN hC hN T hp2 FB.mro FB.noGetattr ?_;rw[hn2])|wp_step))
 refine codeAny_call_builtin FB.ga.plain F.entry_bexc_ga (check_gaT hC hb hx (xclass_entry KX I hm hC hN hna T hp FB.mro hx ?_))
 show wpAny _ _ (handedOut (.ref C)) _ _ _
 rw[PySem.W.handedOut_of rfl]
 exact wpAny_pure (wpAny_pure hq)
end
end PySem
namespace L2
open PySem PySem.Spec PyProof.Rows
def XKit (K:PySem.W.Frag) (C:Addr):Prop:=∃(nm q:Str) (N:Addr) (bs bm bmB:List Value) (sn:List Str) (sub:List Value) (ab:Bool) (col:Option Bool) (dd:Option Addr) (k0 k1 k2 k3 k5:Option Value) (newId:String),
 K.lookup C=some (excClassObj nm q C N bs bm true sn sub ab col dd k0 k1 k2 k3 k5 newId)∧bm.contains (.type "BaseException")=true∧ExcAttrBase "ValueError" bmB∧PySem.W.mroIn K C (.type "object")=some true ∧
 (∀h,K.In h→TlN h bmB (fun n=>n = "__class__" ∨ n = "__getattribute__" ∨ n = "__getattr__") bm)∧∀h,K.In h→∃mN,h.Ns N mN∧mN "__class__" = none∧mN "__getattribute__" = none∧mN "__getattr__" = none
theorem XKit.kit {K:PySem.W.Frag}{C e D:Addr}{od:Obj}(c:XKit K C):PySem.W.KitX K (.ref e) (.ref C) (fun h=>∃vs sl,h.get? e=some ⟨.ref C,some D,.fields vs,sl⟩∧h.get? D=some od):=by
 obtain⟨nm,q,N,bs,bm,bmB,sn,sub,ab,col,dd,k0,k1,k2,k3,k5,newId,lC,hb,FB,hm,hT,hN⟩:=c
 refine⟨fun M h X ⟨vs,sl,he,ho⟩=>(show PySem.W.InstAt h e ⟨.ref C,some D,.fields vs,sl⟩ C (some od) from⟨he,rfl,rfl,ho⟩).type,fun M h X _=>?_,fun h tp dd' its n sl X htp=>?_,fun {prog w A E Q s} X ⟨vs,sl,he,ho⟩ k=>?_⟩
 ·intro A' Q' E' s' kk q
  unfold isType loadHead
  exact wpAny_bind (wpAny_loadPart (kk _ _ (X _ _ lC)) (wpAny_pure q))
 ·refine Bool.eq_false_iff.mpr fun q=>?_
  have e:C=tp:=Value.ref.inj (beq_iff_eq.mp q)
  subst e
  have z:=congrArg (fun o=>o.map Obj.cls) ((X _ _ lC).symm.trans htp)
  exact absurd z (by simp)
 ·obtain⟨mN,g1,g2,g3,g4⟩:=hN _ X
  obtain⟨hh,g,d,t,os⟩:=s
  exact xclassT FB X ⟨he,rfl,rfl,ho⟩ hm (X _ _ lC) hb g1 g2 g3 g4 (hT _ X) (.inl rfl) (.inr (.inl rfl)) (.inr (.inr rfl)) he k
section
variable {X:Cx}
def rIsiE (K:PySem.W.Frag):List V→Hp→VK→Prop:=fun xs H Q=>∃e C a v c cv b,xs=[.ref e,c]∧(∀u,RelV c u→u=cv)∧XAt H e C a v∧XKit K C∧PySem.W.kitOne K (.ref C) cv=some b∧Q (.bl b) H
theorem call_isiE:CallR X (.builtin "isinstance") (rIsiE X.K):=by
 intro pins s σ H xs us Q I r h
 obtain⟨e,C,a,v,c,cv,b,rfl,hc,⟨D,T,x⟩,cl,hk,q⟩:=h
 obtain⟨u,w',rfl,r1,r2⟩:=vals2 r
 cases (show u=Value.ref e from r1)
 cases hc w' r2
 obtain⟨⟨vs,sl,he,_⟩,_,_⟩:=I.hok e _ x.ex
 obtain⟨mA,hn,_⟩:=(show ObjOk X.prog X.w H s.heap D (.xd [(a,v)]) from I.hok D _ x.xd)
 obtain⟨od,ho,_⟩:=lookIn_ns hn
 exact PySem.W.kia_one (cl.kit (D:=D) (od:=od)) I.kIn ⟨vs,sl,he,ho⟩ hk (fun z=>nomatch z) fun tk=>⟨.bl b,H,I.tok _,rfl,q⟩
end
end L2
namespace L2
open PySem PySem.Spec PyProof.Rows
section
variable {X:Cx}
def rIsiET (K:PySem.W.Frag):List V→Hp→VK→Prop:=fun xs H Q=>∃e C a v tp cs cvs b,xs=[.ref e,.ref tp]∧H tp=some (.tup cs)∧(∀us,Vals cs us→us=cvs)∧XAt H e C a v∧XKit K C∧PySem.W.kitAny K (.ref C) cvs=some b∧Q (.bl b) H
theorem call_isiET:CallR X (.builtin "isinstance") (rIsiET X.K):=by
 intro pins s σ H xs us Q I r h
 obtain⟨e,C,a,v,tp,cs,cvs,b,rfl,htp,hc,⟨D,T,x⟩,cl,hk,q⟩:=h
 obtain⟨u,w',rfl,r1,r2⟩:=vals2 r
 cases (show u=Value.ref e from r1)
 cases (show w'=Value.ref tp from r2)
 obtain⟨⟨vs,sl,he,_⟩,_,_⟩:=I.hok e _ x.ex
 obtain⟨mA,hn,_⟩:=(show ObjOk X.prog X.w H s.heap D (.xd [(a,v)]) from I.hok D _ x.xd)
 obtain⟨od,ho,_⟩:=lookIn_ns hn
 obtain⟨_,its,vr,ot,ht,hcls,n,hd⟩:=(show ObjOk X.prog X.w H s.heap tp (.tup cs) from I.hok tp _ htp)
 cases hc its vr
 obtain⟨c0,d0,dt,sl0⟩:=ot
 dsimp only at hcls hd
 subst hcls hd
 exact PySem.W.kia_tup (cl.kit (D:=D) (od:=od)) I.kIn ⟨vs,sl,he,ho⟩ ht hk (fun z=>nomatch z) fun tk=>⟨.bl b,H,I.tok _,rfl,q⟩
end
theorem XKit.of {K:PySem.W.Frag}{C TE N:Addr}{nm q:Str}{bs:List Value}{sn:List Str}{sub:List Value}{ab:Bool}{col:Option Bool}{dd ddT:Option Addr}{k0 k1 k2 k3 k5:Option Value}{newId:String}{c0:Value}{cdT:ClassData}{slT:Array (Option Value)}
  (lC:K.lookup C=some (excClassObj nm q C N bs (.ref TE::veM) true sn sub ab col dd k0 k1 k2 k3 k5 newId)) (lT:K.lookup TE=some ⟨c0,ddT,.cls cdT,slT⟩) (n1:nsK K N=true) (n2:nsK K cdT.ns=true) (hm:PySem.W.mroIn K C (.type "object")=some true)
  (i1:NoNs K N "__class__") (i2:NoNs K N "__getattribute__") (i3:NoNs K N "__getattr__") (t1:NoNs K cdT.ns "__class__") (t2:NoNs K cdT.ns "__getattribute__") (t3:NoNs K cdT.ns "__getattr__"):XKit K C :=
 ⟨nm,q,N,bs,.ref TE::veM,veM,sn,sub,ab,col,dd,k0,k1,k2,k3,k5,newId,lC,veB,PySem.F.attrBase_ValueError,hm,fun h X=>by
  obtain⟨mT,g1,_,g3⟩:=ns_of_K n2 X
  refine .own (X _ _ lT) g1 (fun n hn=>?_) .base
  rcases hn with rfl|rfl|rfl
  ·exact g3 _ t1
  ·exact g3 _ t2
  ·exact g3 _ t3,fun h X=>by
  obtain⟨mN,g1,_,g3⟩:=ns_of_K n1 X
  exact⟨mN,g1,g3 _ i1,g3 _ i2,g3 _ i3⟩⟩
end L2
namespace L2
open PySem PySem.Spec PyProof.Rows
structure XTxt (K:PySem.W.Frag) (mg:Str→Option Value) (x:Str) (C TE:Addr) (a:Str):Prop where
 mg:mg x=some (.ref C)
 nm:PySem.W.nsIn K mainGlobals x=some (some (.ref C))
 cls:XCls K C a
 at_:XAttr K C a
 kit:XKit K C
 xc:XC K C (.ref TE::veM)
structure GaX (K:PySem.W.Frag) (x:Str) (C TE:Addr) (a:Str):Prop where
 ex:∃(N fI:Addr) (nm q name qual:Str) (bs:List Value) (sn:List Str) (sub:List Value) (ab:Bool) (col:Option Bool) (dd ddT d1 d2:Option Addr) (k0 k1 k2 k3 k5:Option Value) (c0 c1 c2:Value) (cdT:ClassData) (slT sl1 sl2:Array (Option Value)) (es1 es2:Array DictEntry) (ep1 ep2:Nat)
   (params:Arguments) (scope:Scope) (dV kV doc pm cdv ct:Value) (an od:Option Addr) (osl:Array (Option Value)) (p1 p2 p3 p4:Pos),
  PySem.W.nsIn K mainGlobals x=some (some (.ref C))∧K.lookup C=some (excClassObj nm q C N bs (.ref TE::veM) true sn sub ab col dd k0 k1 k2 k3 k5 "ValueError.__new__")∧K.lookup TE=some ⟨c0,ddT,.cls cdT,slT⟩∧K.lookup N=some ⟨c1,d1,.dict es1 ep1,sl1⟩∧strK es1=true∧K.lookup cdT.ns=some ⟨c2,d2,.dict es2 ep2,sl2⟩∧strK es2=true ∧
  PySem.W.nsIn K N "__init__" = some (some (.ref fI))∧(NoNs K N "__setattr__"∧NoNs K N a∧NoNs K N "__getattribute__"∧NoNs K N "__getattr__"∧NoNs K N "__class__")∧(NoNs K cdT.ns "__init__"∧NoNs K cdT.ns "__setattr__"∧NoNs K cdT.ns a∧NoNs K cdT.ns "__getattribute__"∧NoNs K cdT.ns "__getattr__"∧NoNs K cdT.ns "__class__") ∧
  PySem.W.mroIn K C (.type "object")=some true∧typeLookup (.type "ValueError") a=pure none ∧
  K.lookup fI=some ⟨.type "function",od,.func (PySem.W.fnOf name qual params [.Assign [.Attribute (.Name "self" p1) a p2] (.Name a p3) p4] scope dV kV doc pm an cdv ct),osl⟩∧PySem.W.codeIn K cdv qual=true ∧
  FnScope ["self",a] ["self",a] scope∧(∀env,swapsWith (.Name a p3) (some (.Attribute (.Name "self" p1) a p2)) p4.line env=pure false)∧scope.names.lookup ("self" : Str)=some .local∧scope.names.lookup a=some .local∧a ≠ "self"∧(a ==("__debug__" : Str))=false ∧
  ∀s e u,BindsTo s (PySem.W.fnOf name qual params [.Assign [.Attribute (.Name "self" p1) a p2] (.Name a p3) p4] scope dV kV doc pm an cdv ct) ⟨[.ref e,u],[]⟩ [("self",.ref e),(a,u)]
theorem GaX.txt {K:PySem.W.Frag}{mg:Str→Option Value}{x a:Str}{C TE:Addr}{h:Heap}(g:GaX K x C TE a) (X:K.In h) (G:h.Ns mainGlobals mg):XTxt K mg x C TE a:=by
 obtain⟨N,fI,nm,q,name,qual,bs,sn,sub,ab,col,dd,ddT,d1,d2,k0,k1,k2,k3,k5,c0,c1,c2,cdT,slT,sl1,sl2,es1,es2,ep1,ep2,params,scope,dV,kV,doc,pm,cdv,ct,an,od,osl,p1,p2,p3,p4,aC,lC,lT,l1,n1,l2,n2,i0,⟨i1,i2,i3,i4,i5⟩,⟨t0,t1,t2,t3,t4,t5⟩,hm,hB,lf,hcd,S,hsw,s1,s2,hne,hdb,hbd⟩:=g.ex
 have m1:=nsK_of l1 n1
 have m2:=nsK_of l2 n2
 obtain⟨r1,r2⟩:=XCls.mk' PySem.F.excBase_ValueError lC lT m1 m2 i0 i1 i2 t0 t1 t2 hB lf hcd S hsw s1 s2 hne hdb hbd
 exact⟨PySem.W.mg_of X G aC,aC,r1,XAttr.of lC lT m1 m2 i2 i3 i4 t2 t3 t4 hB,XKit.of lC lT m1 m2 hm i5 i3 i4 t5 t3 t4,r2⟩
theorem und_tail {K:PySem.W.Frag}{C TE:Addr}{r bm':List Value}(x:XC K C (.ref TE::r)) (y:XC K TE bm'):Und K C TE:=⟨_,bm',x,y,by rw[List.contains_cons,List.contains_cons];simp⟩
end L2
namespace L2
open PySem PySem.Spec PyProof.Rows
theorem bt_ValueError:bootBuiltins "ValueError" = some (.type "ValueError"):=by decide +kernel
structure XTop (K:PySem.W.Frag) (mg:Str→Option Value) (TE:Addr):Prop where
 mg:mg "TailError" = some (.ref TE)
 xc:XC K TE veM
def GaT (K:PySem.W.Frag) (TE:Addr):Prop:=PySem.W.nsIn K mainGlobals "TailError" = some (some (.ref TE))∧XC K TE veM
theorem GaT.mk {K:PySem.W.Frag}{TE N:Addr}{nm q:Str}{bs:List Value}{hdct:Bool}{sn:List Str}{sub:List Value}{ab:Bool}{col:Option Bool}{dd:Option Addr}{k0 k1 k2 k3 k5:Option Value}{newId:String}
  (a:PySem.W.nsIn K mainGlobals "TailError" = some (some (.ref TE))) (l:K.lookup TE=some (excClassObj nm q TE N bs veM hdct sn sub ab col dd k0 k1 k2 k3 k5 newId)):GaT K TE :=
 ⟨a,nm,q,N,bs,hdct,sn,sub,ab,col,dd,k0,k1,k2,k3,k5,newId,l,by decide +kernel⟩
theorem GaT.txt {K:PySem.W.Frag}{mg:Str→Option Value}{TE:Addr}{h:Heap}(g:GaT K TE) (X:K.In h) (G:h.Ns mainGlobals mg):XTop K mg TE:=⟨PySem.W.mg_of X G g.1,g.2⟩
theorem GaX.mk' {K:PySem.W.Frag}{x a:Str}{C TE N fI:Addr}{nm q qual:Str}{bs:List Value}{sn:List Str}{sub:List Value}{ab:Bool}{col:Option Bool}{dd ddT d1 d2:Option Addr}{k0 k1 k2 k3 k5:Option Value}{c0 c1 c2:Value}{cdT:ClassData}{slT sl1 sl2:Array (Option Value)}{es1 es2:Array DictEntry}{ep1 ep2:Nat}
  {st:Stmt}{kV doc pm cdv ct:Value}{an od:Option Addr}{osl:Array (Option Value)}{p1 p2 p3 p4:Pos}
  (aC:PySem.W.nsIn K mainGlobals x=some (some (.ref C))) (lC:K.lookup C=some (excClassObj nm q C N bs (.ref TE::veM) true sn sub ab col dd k0 k1 k2 k3 k5 "ValueError.__new__")) (lT:K.lookup TE=some ⟨c0,ddT,.cls cdT,slT⟩) (l1:K.lookup N=some ⟨c1,d1,.dict es1 ep1,sl1⟩) (n1:strK es1=true) (l2:K.lookup cdT.ns=some ⟨c2,d2,.dict es2 ep2,sl2⟩) (n2:strK es2=true)
  (i0:PySem.W.nsIn K N "__init__" = some (some (.ref fI))) (i1:PySem.W.nsIn K N "__setattr__" = some none) (i2:PySem.W.nsIn K N a=some none) (i3:PySem.W.nsIn K N "__getattribute__" = some none) (i4:PySem.W.nsIn K N "__getattr__" = some none) (i5:PySem.W.nsIn K N "__class__" = some none)
  (t0:PySem.W.nsIn K cdT.ns "__init__" = some none) (t1:PySem.W.nsIn K cdT.ns "__setattr__" = some none) (t2:PySem.W.nsIn K cdT.ns a=some none) (t3:PySem.W.nsIn K cdT.ns "__getattribute__" = some none) (t4:PySem.W.nsIn K cdT.ns "__getattr__" = some none) (t5:PySem.W.nsIn K cdT.ns "__class__" = some none)
  (hm:PySem.W.mroIn K C (.type "object")=some true)
  (lf:K.lookup fI=some ⟨.type "function",od,.func (PySem.W.fnOf "__init__" qual (defArgs st) (defBody st) (defScope st) .none kV doc pm an cdv ct),osl⟩) (hcd:PySem.W.codeIn K cdv qual=true)
  (hB:typeLookup (.type "ValueError") a=pure none) (hb:defBody st=[.Assign [.Attribute (.Name "self" p1) a p2] (.Name a p3) p4]) (S:FnScope ["self",a] ["self",a] (defScope st)) (hsw:∀env,swapsWith (.Name a p3) (some (.Attribute (.Name "self" p1) a p2)) p4.line env=pure false) (s1:(defScope st).names.lookup ("self" : Str)=some .local) (s2:(defScope st).names.lookup a=some .local) (hne:a ≠ "self") (hdb:(a ==("__debug__" : Str))=false)
  (hbd:∀(name qual:Str) (b:List Stmt) (kV doc pm cdv ct:Value) (an:Option Addr) s e u,BindsTo s (PySem.W.fnOf name qual (defArgs st) b (defScope st) .none kV doc pm an cdv ct) ⟨[.ref e,u],[]⟩ [("self",.ref e),(a,u)]):GaX K x C TE a:=by
 refine⟨N,fI,nm,q, "__init__",qual,bs,sn,sub,ab,col,dd,ddT,d1,d2,k0,k1,k2,k3,k5,c0,c1,c2,cdT,slT,sl1,sl2,es1,es2,ep1,ep2,defArgs st,defScope st,.none,kV,doc,pm,cdv,ct,an,od,osl,p1,p2,p3,p4,aC,lC,lT,l1,n1,l2,n2,i0,⟨i1,i2,i3,i4,i5⟩,⟨t0,t1,t2,t3,t4,t5⟩,hm,hB,?_,hcd,S,hsw,s1,s2,hne,hdb,fun s e u=>hbd _ _ _ _ _ _ _ _ _ s e u⟩
 rw[lf,hb]
theorem pe_xat {X:Cx}{K:PySem.W.Frag}{a:Str}{o:Expr}{ta:TE}{pos:Pos}(hK:X.K=K) (ha:PE X o ta) (hb:attributeBase o a X.env (eval o X.env)=eval o X.env):PE X (.Attribute o a pos) (tXat2 K ta a):=by
 subst hK;exact pe_xat2 ha hb
theorem call_isiEK {X:Cx}{K:PySem.W.Frag}(hK:X.K=K):CallR X (.builtin "isinstance") (rIsiE K):=by subst hK;exact call_isiE
theorem call_isiETK {X:Cx}{K:PySem.W.Frag}(hK:X.K=K):CallR X (.builtin "isinstance") (rIsiET K):=by subst hK;exact call_isiET
section
variable {σ:St}{H:Hp}{Q:VK}{D:Ends}
theorem rd_raise {C:Addr}{E:XK}{ta:TA}(h:ta σ H fun vs H1=>∃v,vs=[v]∧∀u,RelV v u→E u (some C) H1):tRaise C E ta D σ H:=h
theorem rd_xat {K:PySem.W.Frag}{ta:TE}{a:Str}(h:ta σ H fun x H1=>∃e C v,x = .ref e∧XAt H1 e C a v∧XAttr K C a∧Q v H1):tXat2 K ta a σ H Q:=h
end
theorem stl7 {σ:St}(h:σ.length=7):∃a b c d e f g,σ=[a,b,c,d,e,f,g]:=match σ,h with | [a,b,c,d,e,f,g],_=>⟨a,b,c,d,e,f,g,rfl⟩
end L2
namespace L2
open PySem PySem.Spec PyProof.Rows
structure XNm (mg:Str→Option Value) (x:Str) (C:Addr):Prop where
 mg:mg x=some (.ref C)
theorem XAt.same {H H':Hp}{e C:Addr}{a:Str}{v:V}(x:XAt H e C a v) (s:∀b o,H b=some o→H' b=some o):XAt H' e C a v:=by
 obtain⟨D,T,x⟩:=x
 exact⟨D,T,s _ _ x.ex,s _ _ x.xd,fun t h=>⟨s _ _ (x.tb t h).1,(x.tb t h).2⟩⟩
theorem valsRefs:∀{as:List Addr}{us:List Value},Vals (as.map V.ref) us→us=as.map Value.ref
 | [],_,.nil=>rfl
 | a::as,_,.cons (b:=u) r t=>by
  have e:u=Value.ref a:=r
  rw[e,valsRefs t];rfl
theorem kit_self {K:PySem.W.Frag}{C:Addr}:PySem.W.kitOne K (.ref C) (.ref C)=some true:=by
 unfold PySem.W.kitOne;rw[if_pos (by simp)]
theorem rd_isiE {K:PySem.W.Frag}{H:Hp}{Q:VK}{e C:Addr}{a:Str}{v c:V}{cv:Value}{b:Bool}(x:XAt H e C a v) (k:XKit K C) (hc:∀u,RelV c u→u=cv) (h:PySem.W.kitOne K (.ref C) cv=some b) (q:Q (.bl b) H):rIsiE K [.ref e,c] H Q:=⟨e,C,a,v,c,cv,b,rfl,hc,x,k,h,q⟩
theorem rd_isiET {K:PySem.W.Frag}{H:Hp}{Q:VK}{e C tp:Addr}{a:Str}{v:V}{cs:List Addr}{b:Bool}(x:XAt H e C a v) (k:XKit K C) (ht:H tp=some (.tup (cs.map V.ref))) (h:PySem.W.kitAny K (.ref C) (cs.map Value.ref)=some b) (q:Q (.bl b) H):rIsiET K [.ref e,.ref tp] H Q:=⟨e,C,a,v,tp,_,_,b,rfl,ht,fun us r=>valsRefs r,x,k,h,q⟩
end L2
namespace L2
open PySem PySem.Spec PyProof.Rows
section
variable {X:Cx}
end
structure PAS (X:Cx) (es:List Expr) (t:TA):Prop where
 out:PA X es t
theorem pas_nil {X:Cx}:PAS X [] tNil:=⟨pa_nil⟩
theorem pas_cons {X:Cx}{e:Expr}{es:List Expr}{te:TE}{t:TA}(ha:PE X e te) (hr:PAS X es t) (hs:starEach (e::es) X.env =(false,eval e X.env)::starEach es X.env):PAS X (e::es) (tCons te t):=⟨pa_cons ha hr.out hs⟩
theorem pe_lstS {X:Cx}{es:List Expr}{t:TA}{pos:Pos}(h:PAS X es t):PE X (.List es pos) (tLst t):=pe_lst h.out
end L2
namespace L2
open PySem PySem.Spec PyProof.Rows
def gV (u:Value):V:=(absV u).getD .non
theorem gV_of {x:V}{u:Value}(r:RelV x u):gV u=x:=by unfold gV;rw[r.abs];rfl
theorem vals_g:∀{xs:List V}{us:List Value},Vals xs us→xs=us.map gV∧∀u∈us,RelV (gV u) u
 | _,_,.nil=>⟨rfl,fun _ h=>by cases h⟩
 | _,_,.cons (a:=x) (b:=u) r t=>by
  obtain⟨h1,h2⟩:=vals_g t
  refine⟨by rw[List.map_cons,gV_of r,← h1],fun w hw=>?_⟩
  rcases List.mem_cons.mp hw with rfl|hw
  ·rw[gV_of r];exact r
  ·exact h2 w hw
theorem vals_gV:∀{us:List Value},(∀u∈us,RelV (gV u) u)→Vals (us.map gV) us
 | [],_=>.nil
 | u::us,h=>.cons (h u (List.mem_cons_self ..)) (vals_gV fun w hw=>h w (List.mem_cons_of_mem _ hw))
theorem key_outV {vs:List Value}{xs:List V}{κ:V→Int}{out:List Value}(hI:Vals xs vs) (h:KskOut false (xs.map κ) vs out):∃ys,Vals ys out∧ys.Perm xs∧ys.Pairwise (fun x y=>κ x≤κ y):=by
 obtain⟨ps,h1,h2,h3⟩:=h
 obtain⟨en,all⟩:=vals_g hI
 have mem:∀p∈ps,RelV (gV p.2) p.2∧p.1=κ (gV p.2):=fun p hp=>by
  have hz:=h1.mem_iff.mp hp
  rw[en,List.map_map]at hz
  obtain⟨i,hi⟩:=List.getElem?_of_mem hz
  rw[List.getElem?_zip_eq_some,List.getElem?_map]at hi
  obtain⟨e1,e2⟩:=hi
  rw[e2]at e1
  exact⟨all _ (List.mem_of_getElem? e2),(Option.some.inj e1).symm⟩
 have hall:∀v∈out,RelV (gV v) v:=fun v hv=>by
  rw[h2]at hv
  obtain⟨p,hp,rfl⟩:=List.mem_map.mp hv
  exact(mem p hp).1
 refine⟨out.map gV,vals_gV hall,?_,?_⟩
 ·rw[h2,List.map_map]
  have:=h1.map (fun p:Int×Value=>gV p.2)
  refine this.trans (List.Perm.of_eq ?_)
  rw[en,List.map_map]
  refine List.ext_getElem? fun i=>?_
  rw[List.getElem?_map,List.getElem?_map]
  cases e:vs[i]? with
  | none =>
   have:((vs.map (κ ∘ gV)).zip vs)[i]? = none:=by
    rw[List.getElem?_eq_none_iff]at e ⊢
    rw[List.length_zip,List.length_map];omega
   rw[this];rfl
  | some v =>
   have:((vs.map (κ ∘ gV)).zip vs)[i]? = some (κ (gV v),v):=by
    rw[List.getElem?_zip_eq_some,List.getElem?_map,e]
    exact⟨rfl,rfl⟩
   rw[this];rfl
 ·rw[h2,List.map_map,List.pairwise_map]
  refine h3.imp_of_mem fun {p q} hp hq h=>?_
  show κ (gV p.2)≤κ (gV q.2)
  rw[←(mem p hp).2,←(mem q hq).2]
  simpa using h
section
variable {X:Cx}{pins:List (Addr×Obj)}{σ:St}{H:Hp}{s:Shared}{h':Heap}
variable {A:Around}{E:Value→Shared→Prop}
set_option maxHeartbeats 1000000 in
theorem lsort_keyV {a:Addr}{vs:List Value}{ns:List V}{n:Nat}{f:Value}{κ:V→Int}{Z:Fin→Shared→Prop}(I:Inv X pins σ H s) (ho:s.heap.get? a=some (seqObj "list" vs.toArray n)) (hfa:FpOk X pins H a) (hI:Vals ns vs) (hv:vs.length≤63)
  (turn:∀(z:V) (u:Value) (pins':List (Addr×Obj)) (s':Shared),z∈ns→RelV z u→Inv X pins' σ H s'→wpAny (model X.prog X.w) A (call f [u]) (fun r s''=>(∃t',r = .int (κ z) t')∧Inv X pins' σ H s'') (fun _ _=>False) s')
  (hZ:∀(s':Shared) (ms:List V),ms.Perm ns→ms.Pairwise (fun x y=>κ x≤κ y)→Inv X pins σ (upd H a (.lst ms)) s'→Z (.done (.ret .none)) s') :
  wpAny (model X.prog X.w) A (ksk_tree a f false) Z E s:=by
 have hline:(63:Nat)<sizeLine:=by decide
 have lt0:=Heap.lt_size ho
 obtain⟨e1,ho1⟩ : ∃e1,(s.heap.update a (Obj.mapSeq fun _=>(#[]:Array Value))).get? a=some (seqObj "list" #[] e1):=⟨_,get?_update_seq ho fun _=>#[]⟩
 have hkS:((s.heap.update a (Obj.mapSeq fun _=>(#[]:Array Value))).push (seqObj "tuple" vs.toArray 0)).objs.size=s.heap.objs.size+1:=by rw[size_push',Heap.size_update]
 unfold ksk_tree
 refine wpAny_bind (listItems_at ho rfl ?_)
 refine wpAny_bind (listUpdate_at ho rfl ?_ (by rw[List.size_toArray];omega) (Nat.zero_le _))
 refine wpAny_bind (seqEpoch_at ho1 rfl ?_)
 refine wpAny_bind (wpAny_newTuple ?_ (by show vs.length≤_;omega))
 refine wpAny_bind (wpAny_newList ?_ (Nat.zero_le _))
 refine wpAny_holding ?_
 have sb:=Heap.SameBut.update s.heap a (Obj.mapSeq fun _=>(#[]:Array Value))
 have I1:Inv X pins σ H { s with heap:=((s.heap.update a (Obj.mapSeq fun _=>(#[]:Array Value))).push (seqObj "tuple" vs.toArray 0)).push (seqObj "list" #[] 0) } :=
  I.turnedL (t':=s.toks) (ch:=[a]) (fun b o hb e=>Heap.get?_push_of_some _ (Heap.get?_push_of_some _ ((sb.2 b (fun z=>hb (by simp[z]))).trans e))) fun b hb=>by rw[List.mem_singleton.mp hb];exact hfa
 generalize hkk:((s.heap.update a (Obj.mapSeq fun _=>(#[]:Array Value))).push (seqObj "tuple" vs.toArray 0)).objs.size=kS at hkS
 have hk1:(((s.heap.update a (Obj.mapSeq fun _=>(#[]:Array Value))).push (seqObj "tuple" vs.toArray 0)).push (seqObj "list" #[] 0)).get? kS=some (seqObj "list" #[] 0):=by rw[← hkk];exact Heap.get?_push_size _ rfl
 have ha1:(((s.heap.update a (Obj.mapSeq fun _=>(#[]:Array Value))).push (seqObj "tuple" vs.toArray 0)).push (seqObj "list" #[] 0)).get? a=some (seqObj "list" #[] e1):=Heap.get?_push_of_some _ (Heap.get?_push_of_some _ ho1)
 have ka:kS≠a:=by rw[hkS];exact Nat.ne_of_gt (Nat.lt_succ_of_lt lt0)
 have hfk:FpOk X pins H kS:=by
  have hle:s.heap.objs.size≤kS:=by rw[hkS];exact Nat.le_succ _
  exact I.fpOk hle (I.hok.fresh hle)
 clear hkk hkS
 generalize hs1:({ s with heap:=((s.heap.update a (Obj.mapSeq fun _=>(#[]:Array Value))).push (seqObj "tuple" vs.toArray 0)).push (seqObj "list" #[] 0) }:Shared)=s1 at I1
 have hk1:s1.heap.get? kS=some (seqObj "list" #[] 0):=by rw[← hs1];exact hk1
 have ha1:s1.heap.get? a=some (seqObj "list" #[] e1):=by rw[← hs1];exact ha1
 clear hs1 sb ho1 I
 have fp2:∀b ∈ [kS,a],FpOk X pins H b:=fun b hb=>by
  have:b=kS∨b=a:=by simpa using hb
  rcases this with rfl|rfl <;> assumption
 unfold ksk_rest
 refine wpAny_bind (wpAny_rule ?_)
 first
  | rw[List.forIn_toArray]
  | (rw[← Array.forIn_toList];simp only[List.toList_toArray])
  | rw[← Array.forIn_toList]
 refine wpAny_bind (ksk_fold (fun i s'=>Inv X pins σ H s'∧∃kA e,s'.heap.get? kS=some (seqObj "list" kA e)∧s'.heap.get? a=some (seqObj "list" #[] e1)∧IntsAre kA.toList ((ns.map κ).take i)) vs 0 s1 ⟨I1,#[],0,hk1,ha1,by simpa using IntsAre.nil⟩ ?step ?done)
 case step =>
  rintro j x s' hx ⟨I',kA,e,hk,ha,hks⟩
  simp only[Nat.zero_add]at hks ⊢
  have hj:j<vs.length:=(List.getElem?_eq_some_iff.mp hx).1
  obtain⟨en,all⟩:=vals_g hI
  obtain⟨z,ez⟩ : ∃z,gV x=z:=⟨_,rfl⟩
  have rz:=all x (List.mem_of_getElem? hx)
  rw[ez]at rz
  have hz:ns[j]? = some z:=by rw[en,List.getElem?_map,hx];exact congrArg some ez
  have hzs:kA.size≤vs.length:=by
   have h1:=hks.length
   rw[Array.length_toList,List.length_take]at h1
   omega
  have Ip:=I'.pinned (fp:=[kS,a]) fp2 fun b hb=>by
   have:b=kS∨b=a:=by simpa using hb
   rcases this with rfl|rfl
   ·exact⟨_,hk,fun v q=>by cases q⟩
   ·exact⟨_,ha,fun v q=>by cases q⟩
  refine wpAny_bind (wpAny_attempt (wpAny_mono (turn z x _ s' (List.mem_of_getElem? hz) rz Ip) (fun v s'' he=>?_) fun _ _ hF=>hF.elim))
  obtain⟨⟨t2,rfl⟩,I2⟩:=he
  have gk:s''.heap.get? kS=some (seqObj "list" kA e):=(I2.pin (kS,_) (List.mem_append_right _ (List.mem_append_right _ (mem_pinsAt (by simp) hk)))).1
  have ga:s''.heap.get? a=some (seqObj "list" #[] e1):=(I2.pin (a,_) (List.mem_append_right _ (List.mem_append_right _ (mem_pinsAt (by simp) ha)))).1
  try dsimp only
  obtain⟨c2,hc2⟩ : ∃c2,(s''.heap.update kS (Obj.mapSeq (·.push (.int (κ z) t2)))).get? kS=some (seqObj "list" (kA.push (.int (κ z) t2)) c2):=⟨_,get?_update_seq gk (·.push (.int (κ z) t2))⟩
  have s1':=Heap.SameBut.update s''.heap kS (Obj.mapSeq (·.push (.int (κ z) t2)))
  have ek:(ns.map κ).take (j+1) =(ns.map κ).take j ++ [κ z]:=by
   rw[List.take_add_one,List.getElem?_map,hz];simp
  have ea:(kA.push (Value.int (κ z) t2)).toList=kA.toList ++ [Value.int (κ z) t2]:=by simp
  refine wpAny_bind (listUpdate_at gk rfl ?_ (by omega) (Nat.le_trans (Nat.le_of_eq (Array.size_push ..)) (by omega)))
  refine wpAny_pure ⟨rfl,I2.unpinned.turnedL (t':=s''.toks) (ch:=[kS]) (fun b o hb e=>(s1'.2 b (fun z=>hb (by simp[z]))).trans e) (fun b hb=>by rw[List.mem_singleton.mp hb];exact hfk),_,c2,hc2,(s1'.2 a ka.symm).trans ga,by rw[ea,ek];exact ksk_snoc hks⟩
 case done =>
  rintro s' ⟨I',kA,e,hk,ha,hks⟩
  have nl:ns.length=vs.length:=hI.length
  have e3:(ns.map κ).take (0+vs.length)=ns.map κ:=List.take_of_length_le (by rw[List.length_map];omega)
  rw[e3]at hks
  have hsz:kA.size=vs.length:=by
   have h1:=hks.length
   rw[Array.length_toList,List.length_map]at h1
   omega
  have hzs:(kA.zip vs.toArray).size=vs.length:=by rw[Array.size_zip,hsz,List.size_toArray,Nat.min_self]
  refine wpAny_bind (listItems_at hk rfl ?_)
  unfold ksk_end
  try dsimp only
  have tail:∀st:SortSt,(arrOf st).Perm (kA.zip vs.toArray)→SortedTo (arrOf st) (arrOf st).size→failedOf st=none→wpAny (model X.prog X.w) A (ksk_tail a false e1 (.ref kS) st) Z E s':=fun st hp hs hfl=>by
   have hsz2:(arrOf st).size=vs.length:=by rw[hp.size_eq,hzs]
   have hout:((arrOf st).map (·.2)).size=vs.length:=by rw[Array.size_map];exact hsz2
   obtain⟨ms,m1,m2,m3⟩:=key_outV hI (by have:=ksk_out (b:=false) hks hp hs;simpa using this)
   have s1':=Heap.SameBut.update s'.heap kS (Obj.mapSeq fun _=>(#[]:Array Value))
   have na1:(s'.heap.update kS (Obj.mapSeq fun _=>(#[]:Array Value))).get? a=some (seqObj "list" #[] e1):=(s1'.2 a ka.symm).trans ha
   have s2':=Heap.SameBut.update (s'.heap.update kS (Obj.mapSeq fun _=>(#[]:Array Value))) a (Obj.mapSeq fun _=>(arrOf st).map (·.2))
   obtain⟨c2,hc2⟩ : ∃c2,((s'.heap.update kS (Obj.mapSeq fun _=>(#[]:Array Value))).update a (Obj.mapSeq fun _=>(arrOf st).map (·.2))).get? a=some (seqObj "list" ((arrOf st).map (·.2)) c2):=⟨_,get?_update_seq na1 fun _=>(arrOf st).map (·.2)⟩
   have IA:Inv X pins σ (upd H a (.lst ms)) { s' with heap:=(s'.heap.update kS (Obj.mapSeq fun _=>(#[]:Array Value))).update a (Obj.mapSeq fun _=>(arrOf st).map (·.2)),toks:=s'.toks }:=by
    refine I'.adopt (ch:=[kS,a]) (fun b o hb q=>?_) fp2 (by simp) ?_
    ·exact(s2'.2 b (fun z=>hb (by simp[z]))).trans ((s1'.2 b (fun z=>hb (by simp[z]))).trans q)
    ·have m1':Vals ms ((arrOf st).map (fun x=>x.2)).toList:=by rw[Array.toList_map];exact m1
     refine⟨by rw[m2.length_eq,nl];omega,((arrOf st).map (fun x=>x.2)).toList,c2,m1',?_⟩
     rw[Array.toArray_toList]
     exact hc2
   generalize hh9:(s'.heap.update kS (Obj.mapSeq fun _=>(#[]:Array Value))).update a (Obj.mapSeq fun _=>(arrOf st).map (·.2))=h9 at IA
   unfold ksk_tail
   try dsimp only
   refine wpAny_bind (listUpdate_at hk rfl ?_ (by rw[hsz];omega) (Nat.zero_le _))
   refine wpAny_bind (wpAny_letGo ?_)
   refine wpAny_bind (seqEpoch_at na1 rfl ?_)
   refine wpAny_bind (listUpdate_at na1 rfl ?_ (Nat.zero_le _) (Nat.le_trans (Nat.le_of_eq (by simpa using hout)) (Nat.le_succ_of_le (Nat.le_of_lt (Nat.lt_of_le_of_lt hv hline)))))
   rw[hfl]
   simp only[bne_self_eq_false,Bool.false_eq_true,if_false]
   rw[hh9]
   exact wpAny_pure (hZ _ ms m2 m3 IA)
  by_cases h2:vs.toArray.size<2
  ·rw[if_neg (by decide),if_pos h2,if_pos h2]
   refine wpAny_bind (wpAny_pure ?_)
   rw[StateT.run_pure]
   refine wpAny_bind (wpAny_pure ?_)
   try dsimp only
   refine tail (SortSt.mk' general' (kA.zip vs.toArray) #[] 7 none) (Array.Perm.refl _) ?_ rfl
   intro i j hij hj
   have hj2:j <(kA.zip vs.toArray).size:=hj
   rw[hzs]at hj2
   rw[List.size_toArray]at h2
   have:i=j:=by omega
   subst this
   exact Int.le_refl _
  ·rw[if_neg (by decide),if_neg h2,if_neg h2]
   rw[List.size_toArray]at h2
   rw[ksk_kind hks (by rw[hsz];omega)]
   refine wpAny_bind (wpAny_pure ?_)
   have a0S:∀x∈(kA.zip vs.toArray).toList,isI x:=ksk_intKeys hks
   refine wpAny_bind (wpAny_mono (wpS_sortB ordI ltOkI (hn:=by rw[Array.length_toList,Array.size_zip];simp;omega) (st:=SortSt.mk' oneType' (kA.zip vs.toArray) #[] 7 none) (a0:=(kA.zip vs.toArray).toList) (Q:=fun _ st'=>(arrOf st').toList.Perm (kA.zip vs.toArray).toList∧(arrOf st').toList.Pairwise (leB ltI)∧failedOf st'=none) rfl rfl rfl rfl a0S fun st' b1 b2 b3=>⟨b1,b2,b3⟩) ?_ fun _ _ e=>e)
   rintro⟨⟨⟩,st'⟩ s'' ⟨rfl,b1,b2,b3⟩
   try dsimp only
   exact tail st' (Array.perm_iff_toList_perm.mpr b1) (riseK b2 _ rfl) b3
end
section
variable {X:Cx}{pins:List (Addr×Obj)}{σ:St}{H:Hp}{s:Shared}{E:Value→Shared→Prop}
theorem sorted_tailV {vs:List Value}{ns:List V}{f:Addr}{κ:V→Int}{Z:Fin→Shared→Prop}(I:Inv X pins σ H s) (hI:Vals ns vs) (hv:vs.length≤63)
  (turn:∀(z:V) (u:Value) (pins':List (Addr×Obj)) (s':Shared),z∈ns→RelV z u→Inv X pins' σ H s'→wpAny (model X.prog X.w) X.A.in1.in1 (call (.ref f) [u]) (fun r s''=>(∃t',r = .int (κ z) t')∧Inv X pins' σ H s'') (fun _ _=>False) s')
  (hZ:∀(s':Shared) (l:Addr) (ms:List V),H l=none→ms.Perm ns→ms.Pairwise (fun x y=>κ x≤κ y)→Inv X pins σ (upd H l (.lst ms)) s'→Z (.done (.ret (.ref l))) s') :
  wpAny (model X.prog X.w) X.A.in1 (do
   let l ← newList vs
   let _ ← holding [l] (call (.builtin "list.sort") [l] [(Str.ofString "key",.ref f)])
   ret l) Z E s:=by
 have hline:(63:Nat)<sizeLine:=by decide
 refine wpAny_bind (wpAny_newList ?_ (by omega))
 have at1:(s.heap.push (seqObj "list" vs.toArray 0)).get? s.heap.objs.size=some (seqObj "list" vs.toArray 0):=Heap.get?_push_size _ rfl
 have I1:Inv X pins σ H { s with heap:=s.heap.push (seqObj "list" vs.toArray 0) }:=I.kept (t':=s.toks) fun b o e=>Heap.get?_push_of_some _ e
 have hfa:=I.fpOk (Nat.le_refl _) (I.hok.fresh (Nat.le_refl _))
 refine wpAny_bind (wpAny_holding (wpAny_call_entry_kw slot_list_sort ⟨_,at1,rfl⟩ entry_list_sort ?body (ksk_l1 _ _)))
 case body =>
  show wpAny (model X.prog X.w) X.A.in1.in1 (Builtin.«list.sort» ⟨[.ref s.heap.objs.size],[(Str.ofString "key",.ref f)]⟩) _ _ _
  rw[ksk_t1]
  refine lsort_keyV I1 at1 hfa hI hv turn fun s' ms m1 m2 I2=>⟨_,rfl,wpAny_pure (hZ s' _ ms (I.hok.fresh (Nat.le_refl _)) m1 m2 I2)⟩
end
section
variable {X:Cx}{e body:Expr}{t:TA}{te:TE}{k:Nat}{p kpos pos lpos:Pos}{params:Arguments}{scope:Scope}{y:Str}{fs:List Str}{js:List Nat}{P c:Addr}
def tSortLV (K:PySem.W.Frag) (P:Addr) (lpos:Pos) (qual:Str) (js:List Nat) (te:TE) (t:TA):TE:=fun σ H Q=>t σ H fun vs H1=>∃(a:Addr) (ns:List V) (κ:V→Int),vs=[.ref a]∧SqL K H1 a ns∧ns.length≤63∧Tb P lpos qual H1 ∧
 ∀H2,Sm H1 H2→Tb P lpos qual H2→(∀z∈ns,∀R:VK,R (.int (κ z)) H2→te (lamSt z js σ) H2 R)∧∀(ms:List V) (l:Addr),ms.Perm ns→ms.Pairwise (fun x y=>κ x≤κ y)→H2 l=none→Q (.ref l) (upd H2 l (.lst ms))
theorem rd_sortLamV {K:PySem.W.Frag}{P:Addr}{lpos:Pos}{qual:Str}{js:List Nat}{te:TE}{t:TA}{σ:St}{H:Hp}{Q:VK}(h:t σ H fun vs H1=>∃(a:Addr) (ns:List V) (κ:V→Int),vs=[.ref a]∧SqL K H1 a ns∧ns.length≤63∧Tb P lpos qual H1 ∧
 ∀H2,Sm H1 H2→Tb P lpos qual H2→(∀z∈ns,∀R:VK,R (.int (κ z)) H2→te (lamSt z js σ) H2 R)∧∀(ms:List V) (l:Addr),ms.Perm ns→ms.Pairwise (fun x y=>κ x≤κ y)→H2 l=none→Q (.ref l) (upd H2 l (.lst ms))):tSortLV K P lpos qual js te t σ H Q:=h
theorem pe_sortLV (B:LamOk X scope y fs js) (hr:Room (k+3) X.A) (hg:Gl X "sorted") (hm:X.mg "sorted" = none) (hcl:X.calm=true) (ha:PA X [e] t)
  (hdef:defaultsOf params X.env =([],[])) (hcode:X.env.code = .ref c) (C:PySem.W.codeHdIn X.K c P=true) (BB:BM X.mg X.base)
  (hb:∀(L f c:Addr) (s:Shared) (H:Hp),PE (cxLam X scope (y::fs) L f c s H) body te)
  (hbind:∀(pm cv ct:Value) (u:Value),bindArgs (PySem.W.kla_fn "<lambda>" (X.env.qual ++ "<lambda>") params body scope (clOf X.env scope.names []) pm cv ct) ⟨[u],[]⟩=pure [(y,u)])
  (he:backTo pos (starEach [e] X.env) =(false,eval e X.env)::backTo pos (starEach [] X.env):=by rfl) (hpl:(backTo pos (starEach [e] X.env)).any (·.1)=false:=by rfl)
  (hs:(backToKw pos (keywordEach [⟨some "key",.Lambda params body scope lpos,kpos⟩] X.env)).filterMap (·.1)=[Str.ofString "key"]:=by rfl) (hall:(backToKw pos (keywordEach [⟨some "key",.Lambda params body scope lpos,kpos⟩] X.env)).all (·.1.isSome)=true:=by rfl)
  (hkw:(backToKw pos (keywordEach [⟨some "key",.Lambda params body scope lpos,kpos⟩] X.env)).any (·.1.isNone)=false:=by rfl) :
  PE X (.Call (.Name "sorted" p) [e] [⟨some "key",.Lambda params body scope lpos,kpos⟩] pos) (tSortLV X.K P lpos (X.env.qual ++ "<lambda>") js te t):=by
 intro pins s σ H Q I h
 refine wpAny_Call_Name_kw (ld_blt I hg hm bt_sorted ?_)
 refine PyProof.Rows.callWith_kw (thn (ha pos pins s σ H _ I h) fun us s1 ⟨vs,H1,I1,r1,q1⟩=>?_) he hpl hall hkw
 obtain⟨a,ns,κ,rfl,hsrc,hn,tb1,q⟩:=q1
 refine thn ((pk_cons (pe_lam hdef B.free hcode C BB) pk_nil) pos pins s1 σ H1 (fun zs H2=>∃f c ctv,zs=[.ref f]∧Sm H1 H2∧Tb P lpos (X.env.qual ++ "<lambda>") H2∧H2 f=some (FnO f (lamObj X params body scope c ctv))∧H2 c=some (CodeO c (X.env.qual ++ "<lambda>"))) I1
  ⟨tb1,fun f c ctv H2 s2 t2 _ e1 e2=>⟨f,c,ctv,rfl,s2,t2,e1,e2⟩⟩) fun ws s2 ⟨zs,H2,I2,rz,f,c',ctv,ez,sm2,tb2,ef,ec⟩=>?_
 subst ez
 obtain⟨w1,rfl,rw1⟩:=vals1 rz
 cases (show w1=Value.ref f from rw1)
 rw[hs]
 obtain⟨hte,q⟩:=q H2 sm2 tb2
 obtain⟨u,rfl,ru⟩:=vals1 r1
 cases (show u=Value.ref a from ru)
 show wpAny (model X.prog X.w) X.A (call (.builtin "sorted") [.ref a] [(Str.ofString "key",.ref f)]) _ _ s2
 refine call_function_entry_kw kind_sorted plain_sorted entry_sorted (ksk_s1 _ _) ?_
 unfold Builtin.«sorted»
 refine wpAny_bind (m:=checkCount "sorted" 1 1 _) (wpAny_pure ?_)
 have turn:∀(z:V) (u:Value) (pins':List (Addr×Obj)) (s':Shared),z∈ns→RelV z u→Inv X pins' σ H2 s'→wpAny (model X.prog X.w) X.A.in1.in1 (call (.ref f) [u]) (fun r s''=>(∃t',r = .int (κ z) t')∧Inv X pins' σ H2 s'') (fun _ _=>False) s':=fun z u pins' s' hz rz I'=>by
  refine wpAny_mono (lam_run (Q:=fun x H'=>x = .int (κ z)∧H'=H2) (v:=z) B hr hb hbind I' ef ec rz (hte z hz _ ⟨rfl,rfl⟩)) (fun r s'' hr'=>?_) fun _ _ e=>e
  obtain⟨x,H',I'',rx,rfl,rfl⟩:=hr'
  exact⟨rx,I''⟩
 have hline:(63:Nat)<sizeLine:=by decide
 have fin:∀(s':Shared) (l:Addr) (ms:List V),H2 l=none→ms.Perm ns→ms.Pairwise (fun x y=>κ x≤κ y)→Inv X pins σ (upd H2 l (.lst ms)) s'→∃v,Fin.done (Flow.ret (.ref l)) = .done (.ret v)∧EP X pins σ Q v s':=fun s' l ms nl m1 m2 I'=>⟨_,rfl,.ref l,_,I',rfl,q ms l m1 m2 nl⟩
 obtain⟨its,rv,pl,hz⟩:=I2.list (sm2.seq hsrc)
 have il:its.length≤63:=by rw[← rv.length];exact hn
 refine wpAny_bind (collect_list pl.isList ?_ (by omega))
 have I3:Inv X pins σ H2 { s2 with heap:=(s2.heap.push (seqObj "list" #[] 0)).update s2.heap.objs.size (Obj.mapSeq (· ++ its.toArray)) } :=
  I2.kept (t':=s2.toks) fun b o e=>by
   have hlt:b<s2.heap.objs.size:=Heap.lt_size e
   rw[Heap.get?_update_ne _ _ _ _ (Nat.ne_of_lt hlt),Heap.get?_push_ne _ _ _ (Nat.ne_of_lt hlt)]
   exact e
 exact sorted_tailV I3 rv il turn fin
end
end L2
namespace PySem.SeqAt
open AutoSeq1 (wpAny_loadPart')
open MeetsSeq
theorem sub_int_dict':isSubtype (.type "int") (.type "dict")=pure false:=by first|exact F.sub_int_dict|(unfold isSubtype;kernel_rfl)|decide +kernel
theorem dict_eq_declines_int (l:Addr) (es:Array DictEntry) (n:Nat) (dd:Option Addr) (sl:Array (Option Value)) (b:Int) (u:Tok) :
  Meets (Builtin.«dict.__eq__» ⟨[.ref l,.int b u],[]⟩) (fun _ R s=>s.heap.get? l=some { cls:=.type "dict",dict:=dd,data:=.dict es n,slots:=sl }∧R (.ok (.ret .notImplemented)) s) :=
 .of_wp fun prog w A R s h=>by obtain⟨hp,g,d,tk,os⟩:=s;obtain⟨hl,h⟩:=h;have f1:=sub_int_dict';wp_walk using wpAny_loadPart' hl;exact⟨_,rfl,h⟩
theorem int_eq_declines_dict (b:Int) (u:Tok) (l:Addr) (es:Array DictEntry) (n:Nat) (dd:Option Addr) (sl:Array (Option Value)) :
  Meets (Builtin.«int.__eq__» ⟨[.int b u,.ref l],[]⟩) (fun _ R s=>s.heap.get? l=some { cls:=.type "dict",dict:=dd,data:=.dict es n,slots:=sl }∧R (.ok (.ret .notImplemented)) s) :=
 .of_wp fun prog w A R s h=>by obtain⟨hp,g,d,tk,os⟩:=s;obtain⟨hl,h⟩:=h;wp_walk using wpAny_loadPart' hl,wpAny_load hl;exact⟨_,rfl,h⟩
theorem RcAt.dict_int {A:Around}{s:Shared}{l:Addr}{es:Array DictEntry}{n:Nat}{dd:Option Addr}{sl:Array (Option Value)}(b:Int) (u:Tok) (ho:s.heap.get? l=some { cls:=.type "dict",dict:=dd,data:=.dict es n,slots:=sl }) (hu:A.units<cLine):RcAt A s (.ref l) (.int b u) false:=fun prog w E Q h=>by
 exact rc_eq_decline_or (k:=false) ⟨_,ho,rfl⟩ (typeIs_int s b u) (by decide) sub_int_dict' F.slot_dict_eq F.slot_int_eq_refl
  (fun _ hq=>call_meets F.slot_dict_eq ⟨_,ho,rfl⟩ F.entry_dict_eq (F.args_dict_eq_2 _ _) (dict_eq_declines_int l es n dd sl b u) ⟨ho,hq⟩)
  (fun _ hq=>call_meets F.slot_int_eq_refl (typeIs_int s b u) F.entry_int_eq (F.args_int_eq_2 _ _) (int_eq_declines_dict b u l es n dd sl) ⟨ho,hq⟩)
  (fun _ hq=>wpAny_of_eq (rfl:isSame (.ref l) (.int b u)=pure false) hq) (.inr hu) h
end PySem.SeqAt
namespace L2
open PySem PySem.Spec PyProof.Rows
section
variable {X:Cx}
def eqAI (x:V) (k:Int):Bool:=match x with
 | .int j=>decide (j=k)
 | .bl b=>decide ((if b then 1 else 0)=k)
 | _=>false
def rEqAI (K:PySem.W.Frag):R2:=fun x y H Q=>∃k,y = .int k∧((∃j,x = .int j) ∨(∃b,x = .bl b)∨x = .non ∨(∃z,x = .str z) ∨ ∃a,x = .ref a∧((∃xs,SqT K H a xs) ∨(∃xs,SqL K H a xs) ∨ ∃kvs,H a=some (.dK kvs)))∧Q (.bl (eqAI x k)) H
theorem op_eqAI (hu:X.A.units+64<cLine):OpR X (compareOp .Eq) (rEqAI X.K):=by
 intro pins s σ H x y v u Q I rx ry h
 obtain⟨k,rfl,h,q⟩:=h
 obtain⟨tk,rfl⟩:=ry
 rcases h with⟨j,rfl⟩|⟨b,rfl⟩|rfl|⟨z,rfl⟩|⟨a,rfl,h⟩
 ·obtain⟨t,rfl⟩:=rx
  refine SeqAt.RcAt.int_int (A:=X.A) (s:=s) j t k tk X.prog X.w X.xe _ ⟨.bl _,H,I,?_,q⟩
  show _=_
  show Value.bool (j == k)=Value.bool (decide (j=k))
  congr 1
 ·cases rx
  refine SeqAt.RcAt.bool_int (A:=X.A) (s:=s) b k tk X.prog X.w X.xe _ ⟨.bl _,H,I,?_,q⟩
  show Value.bool ((if b=true then 1 else 0) == k)=Value.bool (decide ((if b then 1 else 0)=k))
  congr 1
 ·cases rx
  exact SeqAt.RcAt.none_int (A:=X.A) (s:=s) k tk X.prog X.w X.xe _ ⟨.bl _,H,I,rfl,q⟩
 ·obtain⟨t,rfl⟩:=rx
  exact SeqAt.RcAt.str_int (A:=X.A) (s:=s) z t k tk X.prog X.w X.xe _ ⟨.bl _,H,I,rfl,q⟩
 ·cases rx
  rcases h with⟨xs,h⟩|⟨xs,h⟩|⟨kvs,h⟩
  ·obtain⟨its,r1,pl1,_⟩:=I.tuple h
   exact SeqAt.RcAt.tuple_int k tk pl1 (by omega) X.prog X.w X.xe _ ⟨.bl _,H,I,rfl,q⟩
  ·obtain⟨its,r1,pl1,_⟩:=I.list h
   exact SeqAt.RcAt.list_int k tk pl1.isList (by omega) X.prog X.w X.xe _ ⟨.bl _,H,I,rfl,q⟩
  ·obtain⟨hz,lo,vs,rk,o,es,ep,h1,h2,h3,h4⟩ : kvs.length≤sizeLine∧(a == sysModules)=false∧∃vs,KV kvs vs∧s.heap.DictOf (mixKind X.prog X.w) a vs:=I.hok a _ h
   obtain⟨cls,dd,dat,sl⟩:=o
   obtain⟨c1,c2,c3⟩:=h2
   simp only at c1 c2 c3 h3
   subst c1 c2 c3 h3
   exact SeqAt.RcAt.dict_int k tk h1 (by omega) X.prog X.w X.xe _ ⟨.bl _,H,I,rfl,q⟩
def rEqT (K:PySem.W.Frag):R2:=fun x y H Q=>∃p q xs,x = .ref p∧y = .ref q∧SqT K H p xs∧SqT K H q xs∧xs.all plainV=true∧Q (.bl true) H
theorem op_eqT (hu:X.A.units+64<cLine):OpR X (compareOp .Eq) (rEqT X.K):=by
 intro pins s σ H x y v u Q I rx ry h
 obtain⟨p,p',xs,rfl,rfl,h1,h2,hp,q⟩:=h
 cases rx
 cases ry
 obtain⟨its,r1,pl1,_⟩:=I.tuple h1
 obtain⟨its2,r2,pl2,_⟩:=I.tuple h2
 have l1:=r1.length
 have l2:=r2.length
 refine SeqAt.eq_tupleAt (e:=fun _=>true) pl1 pl2 (by omega) (fun j g1 g2=>?_) ⟨.bl _,H,I,rfl,?_⟩
 ·have g1':j<xs.length:=by have:j<its.toArray.size:=g1;rw[List.size_toArray]at this;omega
  obtain⟨u1,e1,t1⟩:=r1.get (List.getElem?_eq_getElem g1')
  obtain⟨u2,e2,t2⟩:=r2.get (List.getElem?_eq_getElem g1')
  have k1:its.toArray[j]=u1:=by
   have:=List.getElem?_eq_some_iff.mp e1;simpa using this.2
  have k2:its2.toArray[j]=u2:=by
   have:=List.getElem?_eq_some_iff.mp e2;simpa using this.2
  rw[k1,k2]
  exact eqAt_rel (List.all_eq_true.mp hp _ (List.getElem_mem g1')) t1 t2
 ·rw[show((List.range (min its.toArray.size its2.toArray.size)).all (fun _=>true) && its.toArray.size == its2.toArray.size)=true by simp;omega];exact q
theorem rd_eqT {K:PySem.W.Frag}{H:Hp}{Q:VK}{p q:Addr}{xs:List V}(h1:SqT K H p xs) (h2:SqT K H q xs) (hp:xs.all plainV=true) (h:Q (.bl true) H):rEqT K (.ref p) (.ref q) H Q:=⟨p,q,xs,rfl,rfl,h1,h2,hp,h⟩
end
end L2
set_option maxHeartbeats 4000000
local macro_rules | `(tactic| walk_at"rdc")=>`(tactic| first
  | (show (0:Int) < _; omega)
  | (show (0:Int) ≤ _; omega)
  | (show (0:Int) < _∧_ < 2 ^ 100; omega)
  | (show (-(2 ^ 64) < _∧_ < 2 ^ 64) ∨ (-(2 ^ 64) < _∧_ < 2 ^ 64); omega)
  | (show (0:Int) ≤ _∧_ ≤ 1000000∧Int.natAbs _ < 2 ^ 64; omega))
local macro_rules | `(tactic| walk_at"rd1")=>`(tactic| first
  | (with_reducible refine' L2.rd_allN (fun _ _=>?_)) | (with_reducible refine' L2.rd_seqO (fun _ _=>?_)) | (with_reducible refine' L2.rd_asg ?_) | ((with_reducible refine' L2.rd_gname ?_); (try dsimp only [List.set_cons_zero,List.set_cons_succ])) | (with_reducible refine' L2.rd_ret ?_) | (with_reducible refine' L2.rd_retN ?_) | (with_reducible refine' L2.rd_next ?_) | (with_reducible refine' L2.rd_drop ?_) | (with_reducible refine' L2.rd_ifSO (fun _ _ _ _=>?_))
  | (with_reducible refine' L2.rd_op ?_) | (with_reducible refine' L2.rd_un ?_) | (with_reducible refine' L2.rd_c ?_) | ((with_reducible refine' L2.rd_var ?rdv ?_); (case rdv=>rfl))
  | (with_reducible refine' L2.rd_I0 ?_) | (with_reducible refine' L2.rd_U ?_) | (with_reducible refine' L2.rd_eqI ?_) | (with_reducible refine' L2.rd_neI ?_) | (with_reducible refine' L2.rd_eqB ?_) | (with_reducible refine' L2.rd_neB ?_)
  | (with_reducible refine' L2.rd_test ?_) | (with_reducible refine' L2.rd_tB ?_) | (with_reducible refine' L2.rd_and ?_) | (with_reducible refine' L2.rd_or ?_) | (with_reducible refine' L2.rd_not ?_) | (with_reducible refine' L2.rd_andV ?_) | (with_reducible refine' L2.rd_orV ?_) | (with_reducible refine' L2.rd_notV ?_) | (with_reducible refine' L2.rd_chain ?_) | (with_reducible refine' L2.rd_ifE ?_)
  | (with_reducible refine' L2.rd_nil ?_) | (with_reducible refine' L2.rd_cons ?_) | (with_reducible refine' L2.rd_call ?_) | (with_reducible refine' L2.rd_cb ?_) | (with_reducible refine' L2.rd_lst ?_) | (with_reducible refine' L2.rd_tup ?_) | (with_reducible refine' L2.rd_bm0 ?_) | (with_reducible refine' L2.rd_bm ?_) | (with_reducible refine' L2.rd_augS ?_) | ((with_reducible refine' L2.rd_ip ?_); (try dsimp only [List.set_cons_zero,List.set_cons_succ])) | ((with_reducible refine' L2.rd_aug ?rdv ?_); (case rdv=>rfl)) | (with_reducible refine' L2.rd_izip ?_) | (with_reducible refine' L2.rd_ivals ?_) | (with_reducible refine' L2.rd_dget2 ?_) | (with_reducible refine' L2.rd_dput ?_) | (with_reducible refine' L2.rd_dget ?_) | (with_reducible refine' L2.rd_dnewK ?_) | (with_reducible refine' L2.rd_sortK ?_) | (with_reducible refine' L2.rd_sortLam ?_) | (with_reducible refine' L2.rd_orG ?_) | (with_reducible refine' L2.rd_isB ?_) | (with_reducible refine' L2.rd_gsub ?_) | (with_reducible refine' L2.rd_meth ?_) | (with_reducible refine' L2.rd_make ?_) | (with_reducible refine' L2.rd_fld ?_) | (with_reducible refine' L2.rd_sfld ?_) | (with_reducible refine' L2.rd_din ?_) | (with_reducible refine' L2.rd_dnin ?_) | (with_reducible refine' L2.rd_idict ?_) | (with_reducible refine' L2.rd_dpop ?_) | (with_reducible refine' L2.rd_raise ?_) | (with_reducible refine' L2.rd_sortLamV ?_) | (with_reducible refine' L2.rd_xat ?_)
  | (with_reducible refine' L2.rd_sl ?_) | (with_reducible refine' L2.rd_nop ?_) | (with_reducible refine' L2.rd_part ?_) | (with_reducible refine' L2.rd_bl ?_) | (with_reducible refine' L2.rd_int ?_)
  | (with_reducible refine' L2.rd_iteT ?_) | (with_reducible refine' L2.rd_iteF ?_) | (with_reducible refine' L2.rd_iteNF ?_) | (with_reducible refine' L2.rd_iteNT ?_)
  | (with_reducible refine' L2.rd_forO (fun _ _=>?_)) | (with_reducible refine' L2.rd_rng1 ?_) | (with_reducible refine' L2.rd_rng2 ?_) | (with_reducible refine' L2.rd_ilist ?_) | (with_reducible refine' L2.rd_comp ?_) | (with_reducible refine' L2.rd_yes ?_)
  | (with_reducible refine' L2.rd_itup ?_) | (with_reducible refine' L2.rd_istr ?_) | (with_reducible refine' L2.rd_leS ?_) | (with_reducible refine' L2.rd_inS ?_)
  | (with_reducible refine' L2.rd_abs ?_) | (with_reducible refine' L2.rd_max ?_) | (with_reducible refine' L2.rd_min ?_) | (with_reducible refine' L2.rd_bitlen ?_)
  | (with_reducible refine' L2.rd_rev ?_) | (with_reducible refine' L2.rd_ienum ?_) | (with_reducible refine' L2.rd_intB ?_)
  | ((with_reducible refine' L2.rd_ixL (L2.SqL.of ?rdh) ?rde ?_); (case rdh=>assumption); (case rde=>rfl))
  | ((with_reducible refine' L2.rd_set0 ?rdh ?_); (case rdh=>assumption))
  | ((with_reducible refine' L2.rd_set1 ?rdh ?_); (case rdh=>assumption))
  | ((with_reducible refine' L2.rd_setL ?rdh ?rde ?_); (case rdh=>assumption); (case rde=>rfl))
  | ((with_reducible refine' L2.rd_ixT (L2.SqT.of ?rdh) ?rde ?_); (case rdh=>assumption); (case rde=>rfl))
  | ((with_reducible refine' L2.rd_lenL (L2.SqL.of ?rdh) ?_); (case rdh=>assumption))
  | ((with_reducible refine' L2.rd_I ?rdc ?_); (case rdc=>walk_at"rdc"))
  | ((with_reducible refine' L2.rd_tx ?rdt ?_); (case rdt=>assumption); (try dsimp only [List.set_cons_zero,List.set_cons_succ]))
  | (dsimp only; (with_reducible refine' L2.rd_tx ?rdt ?_); (case rdt=>assumption); (try dsimp only [List.set_cons_zero,List.set_cons_succ]))
  | ((with_reducible refine' L2.rd_isN ?rdt ?_); (case rdt=>assumption); (try dsimp only))
  | (dsimp only; (with_reducible refine' L2.rd_isN ?rdt ?_); (case rdt=>assumption); (try dsimp only)))
local macro_rules | `(tactic| walk_at"rd")=>`(tactic| repeat walk_at"rd1")
local macro_rules | `(tactic| walk_at"lk")=>`(tactic| first | k_is | ((refine' L2.Ga.mk ?lka ?lkl ?lkc ?lkk); (case lka=>k_is); (case lkl=>k_is); (case lkc=>k_is); (case lkk=>k_is)) | ((refine' L2.Ga2.mk ?lka ?lkb ?lkl ?lkc ?lkk); (case lka=>k_is); (case lkb=>k_is); (case lkl=>k_is); (case lkc=>k_is); (case lkk=>k_is)) | ((refine' L2.Me.mk ?lka ?lkb ?lkl ?lkc ?lkk); (case lka=>k_is); (case lkb=>k_is); (case lkl=>k_is); (case lkc=>k_is); (case lkk=>k_is)))
namespace Law
open PySem PySem.Spec PyProof.Rows L2
def top (i:Nat):Stmt:=PySem.Challenge.pw_tailrooms_k77_marks_refused.main.body.getD i (.Pass ⟨0,0,0,0⟩)
abbrev s_last_bits:Stmt:=top 3
abbrev s_level:Stmt:=top 4
abbrev s_turn:Stmt:=top 5
abbrev s_bits_for:Stmt:=top 6
abbrev s_room_of:Stmt:=top 7
abbrev s_split_of:Stmt:=top 8
abbrev s_turned:Stmt:=top 9
abbrev s_is_whole:Stmt:=top 20
abbrev s_is_key:Stmt:=top 21
abbrev s_is_name:Stmt:=top 22
abbrev s_is_size:Stmt:=top 23
abbrev s_is_mark:Stmt:=top 26
abbrev s_stretch_of:Stmt:=top 27
abbrev s_room_at:Stmt:=top 28
abbrev s_ask_sizes:Stmt:=top 30
abbrev s_ask_key:Stmt:=top 31
abbrev s_ask_entry:Stmt:=top 32
abbrev s_spread:Stmt:=top 37
abbrev s_rooms_for:Stmt:=top 40
abbrev s_Table___init__:Stmt:=inClass (top 41) 0
abbrev s_Table_put:Stmt:=inClass (top 41) 1
abbrev s_Table_count:Stmt:=inClass (top 41) 5
abbrev s_Table_rooms:Stmt:=inClass (top 41) 6
abbrev s_Table_entries:Stmt:=inClass (top 41) 7
abbrev s_Table_spread_keys:Stmt:=inClass (top 41) 13
abbrev s_page:Stmt:=top 43
abbrev s_between:Stmt:=top 44
abbrev s_ahead:Stmt:=top 45
abbrev s__law_open:Stmt:=top 47
abbrev s__law_draw:Stmt:=top 48
abbrev s__law_far:Stmt:=top 49
abbrev s__law_power:Stmt:=top 50
abbrev s__law_key:Stmt:=top 51
abbrev s__law_keys:Stmt:=top 52
abbrev s__law_thing:Stmt:=top 53
abbrev s__law_filled:Stmt:=top 54
abbrev s__law_places:Stmt:=top 55
abbrev s__law_asked:Stmt:=top 56
abbrev s__law_refused:Stmt:=top 57
abbrev s_law:Stmt:=top 58
theorem sc_last_bits:FnScope ["key", "many"] ["key", "many"] (defScope s_last_bits):=⟨rfl,rfl,rfl,by decide +kernel,rfl,by decide +kernel,by decide +kernel⟩
theorem sc_level:FnScope ["rooms"] ["rooms"] (defScope s_level):=⟨rfl,rfl,rfl,by decide +kernel,rfl,by decide +kernel,by decide +kernel⟩
theorem sc_turn:FnScope ["rooms"] ["rooms"] (defScope s_turn):=⟨rfl,rfl,rfl,by decide +kernel,rfl,by decide +kernel,by decide +kernel⟩
theorem sc_bits_for:FnScope ["room", "rooms", "deep"] ["room", "rooms"] (defScope s_bits_for):=⟨rfl,rfl,rfl,by decide +kernel,rfl,by decide +kernel,by decide +kernel⟩
theorem sc_room_of:FnScope ["key", "rooms"] ["key", "rooms"] (defScope s_room_of):=⟨rfl,rfl,rfl,by decide +kernel,rfl,by decide +kernel,by decide +kernel⟩
theorem sc_split_of:FnScope ["rooms"] ["rooms"] (defScope s_split_of):=⟨rfl,rfl,rfl,by decide +kernel,rfl,by decide +kernel,by decide +kernel⟩
theorem sc_turned:FnScope ["key", "told", "place"] ["key"] (defScope s_turned):=⟨rfl,rfl,rfl,by decide +kernel,rfl,by decide +kernel,by decide +kernel⟩
theorem sc_is_whole:FnScope ["thing"] ["thing"] (defScope s_is_whole):=⟨rfl,rfl,rfl,by decide +kernel,rfl,by decide +kernel,by decide +kernel⟩
theorem sc_is_key:FnScope ["thing"] ["thing"] (defScope s_is_key):=⟨rfl,rfl,rfl,by decide +kernel,rfl,by decide +kernel,by decide +kernel⟩
theorem sc_is_name:FnScope ["thing"] ["thing"] (defScope s_is_name):=⟨rfl,rfl,rfl,by decide +kernel,rfl,by decide +kernel,by decide +kernel⟩
theorem sc_is_size:FnScope ["thing"] ["thing"] (defScope s_is_size):=⟨rfl,rfl,rfl,by decide +kernel,rfl,by decide +kernel,by decide +kernel⟩
theorem sc_is_mark:FnScope ["thing"] ["thing"] (defScope s_is_mark):=⟨rfl,rfl,rfl,by decide +kernel,rfl,by decide +kernel,by decide +kernel⟩
theorem sc_stretch_of:FnScope ["room", "rooms", "first"] ["room", "rooms"] (defScope s_stretch_of):=⟨rfl,rfl,rfl,by decide +kernel,rfl,by decide +kernel,by decide +kernel⟩
theorem sc_room_at:FnScope ["mark", "rooms"] ["mark", "rooms"] (defScope s_room_at):=⟨rfl,rfl,rfl,by decide +kernel,rfl,by decide +kernel,by decide +kernel⟩
theorem sc_ask_sizes:FnScope ["wide", "fill"] ["wide", "fill"] (defScope s_ask_sizes):=⟨rfl,rfl,rfl,by decide +kernel,rfl,by decide +kernel,by decide +kernel⟩
theorem sc_ask_key:FnScope ["key"] ["key"] (defScope s_ask_key):=⟨rfl,rfl,rfl,by decide +kernel,rfl,by decide +kernel,by decide +kernel⟩
theorem sc_ask_entry:FnScope ["key", "thing"] ["key", "thing"] (defScope s_ask_entry):=⟨rfl,rfl,rfl,by decide +kernel,rfl,by decide +kernel,by decide +kernel⟩
theorem sc_spread:FnScope ["keys", "rooms", "told", "key"] ["keys", "rooms"] (defScope s_spread):=⟨rfl,rfl,rfl,by decide +kernel,rfl,by decide +kernel,by decide +kernel⟩
theorem sc_rooms_for:FnScope ["count", "fill"] ["count", "fill"] (defScope s_rooms_for):=⟨rfl,rfl,rfl,by decide +kernel,rfl,by decide +kernel,by decide +kernel⟩
theorem sc_Table___init__:FnScope ["self", "wide", "fill"] ["self", "wide", "fill"] (defScope s_Table___init__):=⟨rfl,rfl,rfl,by decide +kernel,rfl,by decide +kernel,by decide +kernel⟩
theorem sc_Table_put:FnScope ["self", "key", "thing", "ahead", "room", "new"] ["self", "key", "thing"] (defScope s_Table_put):=⟨rfl,rfl,rfl,by decide +kernel,rfl,by decide +kernel,by decide +kernel⟩
theorem sc_Table_count:FnScope ["self"] ["self"] (defScope s_Table_count):=⟨rfl,rfl,rfl,by decide +kernel,rfl,by decide +kernel,by decide +kernel⟩
theorem sc_Table_rooms:FnScope ["self"] ["self"] (defScope s_Table_rooms):=⟨rfl,rfl,rfl,by decide +kernel,rfl,by decide +kernel,by decide +kernel⟩
theorem sc_Table_entries:FnScope ["self"] ["self"] (defScope s_Table_entries):=⟨rfl,rfl,rfl,by decide +kernel,rfl,by decide +kernel,by decide +kernel⟩
theorem sc_Table_spread_keys:FnScope ["self", "rooms"] ["self", "rooms"] (defScope s_Table_spread_keys):=⟨rfl,rfl,rfl,by decide +kernel,rfl,by decide +kernel,by decide +kernel⟩
theorem sc_page:FnScope ["table", "mark", "rooms", "onward"] ["table", "mark"] (defScope s_page):=⟨rfl,rfl,rfl,by decide +kernel,rfl,by decide +kernel,by decide +kernel⟩
theorem sc_between:FnScope ["entries", "mark", "onward", "within"] ["entries", "mark", "onward"] (defScope s_between):=⟨rfl,rfl,rfl,by decide +kernel,rfl,by decide +kernel,by decide +kernel⟩
theorem sc_ahead:FnScope ["table", "mark"] ["table", "mark"] (defScope s_ahead):=⟨rfl,rfl,rfl,by decide +kernel,rfl,by decide +kernel,by decide +kernel⟩
theorem sc__law_open:FnScope ["_law_script", "_law_place", "_law_cells", "_law_at", "_law_digits"] ["_law_script", "_law_place"] (defScope s__law_open):=⟨rfl,rfl,rfl,by decide +kernel,rfl,by decide +kernel,by decide +kernel⟩
theorem sc__law_draw:FnScope ["_law_hand", "_law_many", "_law_got", "_law_k", "_law_number"] ["_law_hand", "_law_many"] (defScope s__law_draw):=⟨rfl,rfl,rfl,by decide +kernel,rfl,by decide +kernel,by decide +kernel⟩
theorem sc__law_far:FnScope ["_law_hand", "_law_many", "_law_number", "_law_k"] ["_law_hand", "_law_many"] (defScope s__law_far):=⟨rfl,rfl,rfl,by decide +kernel,rfl,by decide +kernel,by decide +kernel⟩
theorem sc__law_power:FnScope ["_law_many", "_law_number", "_law_k"] ["_law_many"] (defScope s__law_power):=⟨rfl,rfl,rfl,by decide +kernel,rfl,by decide +kernel,by decide +kernel⟩
theorem sc__law_key:FnScope ["_law_hand", "_law_way", "_law_low"] ["_law_hand"] (defScope s__law_key):=⟨rfl,rfl,rfl,by decide +kernel,rfl,by decide +kernel,by decide +kernel⟩
theorem sc__law_keys:FnScope ["_law_hand", "_law_many", "_law_keys_here", "_law_k", "_law_key_here"] ["_law_hand", "_law_many"] (defScope s__law_keys):=⟨rfl,rfl,rfl,by decide +kernel,rfl,by decide +kernel,by decide +kernel⟩
theorem sc__law_thing:FnScope ["_law_hand", "_law_letters"] ["_law_hand"] (defScope s__law_thing):=⟨rfl,rfl,rfl,by decide +kernel,rfl,by decide +kernel,by decide +kernel⟩
theorem sc__law_filled:FnScope ["_law_hand", "_law_table", "_law_many", "_law_model", "_law_key_here"] ["_law_hand", "_law_table", "_law_many"] (defScope s__law_filled):=⟨rfl,rfl,rfl,by decide +kernel,rfl,by decide +kernel,by decide +kernel⟩
theorem sc__law_places:FnScope ["_law_script", "_law_least", "_law_most"] ["_law_script", "_law_least", "_law_most"] (defScope s__law_places):=⟨rfl,rfl,rfl,by decide +kernel,rfl,by decide +kernel,by decide +kernel⟩
theorem sc__law_asked:FnScope ["_law_way", "_law_table", "_law_rooms", "_law_mark", "_law_got", "e", "_law_other"] ["_law_way", "_law_table", "_law_rooms", "_law_mark"] (defScope s__law_asked):=⟨rfl,rfl,rfl,by decide +kernel,rfl,by decide +kernel,by decide +kernel⟩
theorem sc__law_refused:FnScope ["_law_got", "_law_mark"] ["_law_got", "_law_mark"] (defScope s__law_refused):=⟨rfl,rfl,rfl,by decide +kernel,rfl,by decide +kernel,by decide +kernel⟩
theorem sc_law:FnScope ["_law_script", "_law_hand", "_law_table", "_law_model", "_law_place", "_law_some", "_law_at", "_law_rooms", "_law_k", "_law_mark", "_law_way", "_law_got"] ["_law_script"] (defScope s_law):=⟨rfl,rfl,rfl,by decide +kernel,rfl,by decide +kernel,by decide +kernel⟩
theorem st_last_bits (x0 x1:V):start ["key", "many"] [x0,x1]=[some x0,some x1]:=rfl
theorem st_level (x0:V):start ["rooms"] [x0]=[some x0]:=rfl
theorem st_turn (x0:V):start ["rooms"] [x0]=[some x0]:=rfl
theorem st_bits_for (x0 x1:V):start ["room", "rooms", "deep"] [x0,x1]=[some x0,some x1,none]:=rfl
theorem st_room_of (x0 x1:V):start ["key", "rooms"] [x0,x1]=[some x0,some x1]:=rfl
theorem st_split_of (x0:V):start ["rooms"] [x0]=[some x0]:=rfl
theorem st_turned (x0:V):start ["key", "told", "place"] [x0]=[some x0,none,none]:=rfl
theorem st_is_whole (x0:V):start ["thing"] [x0]=[some x0]:=rfl
theorem st_is_key (x0:V):start ["thing"] [x0]=[some x0]:=rfl
theorem st_is_name (x0:V):start ["thing"] [x0]=[some x0]:=rfl
theorem st_is_size (x0:V):start ["thing"] [x0]=[some x0]:=rfl
theorem st_is_mark (x0:V):start ["thing"] [x0]=[some x0]:=rfl
theorem st_stretch_of (x0 x1:V):start ["room", "rooms", "first"] [x0,x1]=[some x0,some x1,none]:=rfl
theorem st_room_at (x0 x1:V):start ["mark", "rooms"] [x0,x1]=[some x0,some x1]:=rfl
theorem st_ask_sizes (x0 x1:V):start ["wide", "fill"] [x0,x1]=[some x0,some x1]:=rfl
theorem st_ask_key (x0:V):start ["key"] [x0]=[some x0]:=rfl
theorem st_ask_entry (x0 x1:V):start ["key", "thing"] [x0,x1]=[some x0,some x1]:=rfl
theorem st_spread (x0 x1:V):start ["keys", "rooms", "told", "key"] [x0,x1]=[some x0,some x1,none,none]:=rfl
theorem st_rooms_for (x0 x1:V):start ["count", "fill"] [x0,x1]=[some x0,some x1]:=rfl
theorem st_Table___init__ (x0 x1 x2:V):start ["self", "wide", "fill"] [x0,x1,x2]=[some x0,some x1,some x2]:=rfl
theorem st_Table_put (x0 x1 x2:V):start ["self", "key", "thing", "ahead", "room", "new"] [x0,x1,x2]=[some x0,some x1,some x2,none,none,none]:=rfl
theorem st_Table_count (x0:V):start ["self"] [x0]=[some x0]:=rfl
theorem st_Table_rooms (x0:V):start ["self"] [x0]=[some x0]:=rfl
theorem st_Table_entries (x0:V):start ["self"] [x0]=[some x0]:=rfl
theorem st_Table_spread_keys (x0 x1:V):start ["self", "rooms"] [x0,x1]=[some x0,some x1]:=rfl
theorem st_page (x0 x1:V):start ["table", "mark", "rooms", "onward"] [x0,x1]=[some x0,some x1,none,none]:=rfl
theorem st_between (x0 x1 x2:V):start ["entries", "mark", "onward", "within"] [x0,x1,x2]=[some x0,some x1,some x2,none]:=rfl
theorem st_ahead (x0 x1:V):start ["table", "mark"] [x0,x1]=[some x0,some x1]:=rfl
theorem st__law_open (x0 x1:V):start ["_law_script", "_law_place", "_law_cells", "_law_at", "_law_digits"] [x0,x1]=[some x0,some x1,none,none,none]:=rfl
theorem st__law_draw (x0 x1:V):start ["_law_hand", "_law_many", "_law_got", "_law_k", "_law_number"] [x0,x1]=[some x0,some x1,none,none,none]:=rfl
theorem st__law_far (x0 x1:V):start ["_law_hand", "_law_many", "_law_number", "_law_k"] [x0,x1]=[some x0,some x1,none,none]:=rfl
theorem st__law_power (x0:V):start ["_law_many", "_law_number", "_law_k"] [x0]=[some x0,none,none]:=rfl
theorem st__law_key (x0:V):start ["_law_hand", "_law_way", "_law_low"] [x0]=[some x0,none,none]:=rfl
theorem st__law_keys (x0 x1:V):start ["_law_hand", "_law_many", "_law_keys_here", "_law_k", "_law_key_here"] [x0,x1]=[some x0,some x1,none,none,none]:=rfl
theorem st__law_thing (x0:V):start ["_law_hand", "_law_letters"] [x0]=[some x0,none]:=rfl
theorem st__law_filled (x0 x1 x2:V):start ["_law_hand", "_law_table", "_law_many", "_law_model", "_law_key_here"] [x0,x1,x2]=[some x0,some x1,some x2,none,none]:=rfl
theorem st__law_places (x0 x1 x2:V):start ["_law_script", "_law_least", "_law_most"] [x0,x1,x2]=[some x0,some x1,some x2]:=rfl
theorem st__law_asked (x0 x1 x2 x3:V):start ["_law_way", "_law_table", "_law_rooms", "_law_mark", "_law_got", "e", "_law_other"] [x0,x1,x2,x3]=[some x0,some x1,some x2,some x3,none,none,none]:=rfl
theorem st__law_refused (x0 x1:V):start ["_law_got", "_law_mark"] [x0,x1]=[some x0,some x1]:=rfl
theorem st_law (x0:V):start ["_law_script", "_law_hand", "_law_table", "_law_model", "_law_place", "_law_some", "_law_at", "_law_rooms", "_law_k", "_law_mark", "_law_way", "_law_got"] [x0]=[some x0,none,none,none,none,none,none,none,none,none,none,none]:=rfl
abbrev lp_between:Pos:=⟨172,30,172,60⟩
abbrev TB_between (K:PySem.W.Frag) (H:Hp):Prop:=Tb (tbP K "between") lp_between (("between" : Str) ++ ".<locals>." ++ "<lambda>") H
structure Bl (mg:Str→Option Value):Prop where
 range:mg "range" = none
 isinstance:mg "isinstance" = none
 int:mg "int" = none
 bool:mg "bool" = none
 str:mg "str" = none
 all:mg "all" = none
 len:mg "len" = none
 sorted:mg "sorted" = none
 max:mg "max" = none
 list:mg "list" = none
 abs:mg "abs" = none
 min:mg "min" = none
 ValueError:mg "ValueError" = none
 c_KEY_BITS:∃t,mg "KEY_BITS" = some (.int 60 t)
 c_END:∃t,mg "END" = some (.int 1152921504606846976 t)
 c_MOST_KEYS:∃t,mg "MOST_KEYS" = some (.int 64 t)
structure Txt_Table (K:PySem.W.Frag) (mg:Str→Option Value) (CT:Addr):Prop where
 cl:Cls K CT
 n_wide:NoAttr K CT "wide"
 n_fill:NoAttr K CT "fill"
 n_held:NoAttr K CT "held"
 mg:mg "Table" = some (.ref CT)
structure Hand (H:Hp) (p:Addr) (N:Nat):Prop where
 ex:∃(l:Addr) (d c:Int) (ns:List Int),H p=some (.lst [.int d,.int c,.ref l])∧H l=some (.lst (ns.map V.int))∧0≤c∧c≤N∧ns ≠ []
theorem Hand.mono {H:Hp}{p:Addr}{N M:Nat}(h:Hand H p N) (hm:N≤M):Hand H p M:=by
 obtain⟨l,d,c,ns,h1,h2,h3,h4,h5⟩:=h.ex
 exact⟨l,d,c,ns,h1,h2,h3,by omega,h5⟩
def cellsOf (H:Hp) (p:Addr):Option Addr:=match H p with
 | some (.lst [_,_,.ref l])=>some l
 | _=>none
theorem cells_of {H:Hp}{p l:Addr}{a b:V}(h:H p=some (.lst [a,b,.ref l])):cellsOf H p=some l:=by unfold cellsOf;rw[h]
def Kp (H H':Hp) (p:Addr):Prop:=(∀b o,H b=some o→b≠p→H' b=some o)∧cellsOf H' p=cellsOf H p
theorem Kp.refl (H:Hp) (p:Addr):Kp H H p:=⟨fun _ _ h _=>h,rfl⟩
theorem Kp.trans {H H1 H2:Hp}{p:Addr}(a:Kp H H1 p) (b:Kp H1 H2 p):Kp H H2 p:=⟨fun c o h n=>b.1 c o (a.1 c o h n) n,b.2.trans a.2⟩
theorem Kp.hand {H:Hp}{p l:Addr}{a b a' b':V}(h:H p=some (.lst [a,b,.ref l])):Kp H (upd H p (.lst [a',b',.ref l])) p :=
 ⟨fun b u h n=>by rw[upd_ne n];exact h,by rw[cells_of upd_same,cells_of h]⟩
theorem Kp.of {H H':Hp}{p:Addr}{N:Nat}(h:Same H H') (hh:Hand H p N):Kp H H' p:=by
 obtain⟨l,d,c,ns,h1,_⟩:=hh.ex
 exact⟨fun b o q _=>h b o q,by rw[cells_of h1,cells_of (h _ _ h1)]⟩
theorem Kp.new {H H1 H2:Hp}{p:Addr}(a:Same H H1) (n:H p=none) (b:Kp H1 H2 p):Same H H2:=fun c o h=>b.1 c o (a c o h) (ne_of_none h n)
theorem Hand.upd {H:Hp}{p c:Addr}{N:Nat}{o:HO}(h:Hand H p N) (n:c≠p) (nl:cellsOf H p≠some c):Hand (L2.upd H c o) p N:=by
 obtain⟨l,d,k,ns,h1,h2,r⟩:=h.ex
 have ne:l≠c:=fun z=>nl (by rw[cells_of h1,z])
 exact⟨l,d,k,ns,by rw[upd_ne n.symm];exact h1,by rw[upd_ne ne];exact h2,r⟩
theorem cells_new {H:Hp}{p c:Addr}{N:Nat}(h:Hand H p N) (n:H c=none):cellsOf H p≠some c:=by
 obtain⟨l,d,k,ns,h1,h2,r⟩:=h.ex
 rw[cells_of h1]
 intro z
 exact ne_of_none h2 n (Option.some.inj z)
theorem cells_upd {H:Hp}{p c:Addr}{o:HO}(n:c≠p):cellsOf (L2.upd H c o) p=cellsOf H p:=by unfold cellsOf;rw[upd_ne n.symm]
theorem Hand.same {H H':Hp}{p:Addr}{N:Nat}(h:Hand H p N) (s:Same H H'):Hand H' p N:=by
 obtain⟨l,d,c,ns,h1,h2,r⟩:=h.ex
 exact⟨l,d,c,ns,s _ _ h1,s _ _ h2,r⟩
theorem nsMod {ns:List Int}(h:ns ≠ []) (k:Int):∃v,atI (ns.map V.int) (k%((ns.map V.int).length:Int))=some (.int v):=by
 have hl:0<ns.length:=List.length_pos_iff.mpr h
 rw[List.length_map]
 have h0:0≤k%(ns.length:Int):=Int.emod_nonneg _ (by omega)
 have h1:k%(ns.length:Int)<ns.length:=Int.emod_lt_of_pos _ (by omega)
 have ek:k%(ns.length:Int) =(((k%(ns.length:Int)).toNat:Nat):Int):=by omega
 have hk:(k%(ns.length:Int)).toNat<ns.length:=by omega
 obtain⟨j,hj⟩ : ∃j:Nat,k%(ns.length:Int) =(j:Int):=⟨_,ek⟩
 have hk2:j<ns.length:=by omega
 refine⟨ns[j],?_⟩
 rw[hj]
 exact atI_nat (by rw[List.getElem?_map,List.getElem?_eq_getElem hk2] <;> rfl)
theorem hand_ne {H:Hp}{p l:Addr}{d c:Int}{ns:List Int}(hp:H p=some (.lst [.int d,.int c,.ref l])) (hl:H l=some (.lst (ns.map V.int))):l≠p:=by
 refine ne_of hl hp fun z=>?_
 injection z with z
 have q:=congrArg (fun x=>x[2]?) z
 rw[List.getElem?_map]at q
 cases e:ns[2]? with
 | none=>rw[e]at q;cases q
 | some v=>rw[e]at q;cases q
theorem len_pos {ns:List Int}(h:ns ≠ []):(0:Int) <((ns.map V.int).length:Int):=by
 rw[List.length_map]
 have:=List.length_pos_iff.mpr h
 omega
theorem pow2_cast (a:Nat):(2:Int)^a =((2^a:Nat):Int):=by
 induction a with
 | zero=>rfl
 | succ a ih=>rw[Int.pow_succ,Nat.pow_succ,ih];push_cast;rfl
theorem pow2_le {a b:Nat}(h:a≤b):(2:Int)^a≤2^b:=by
 rw[pow2_cast,pow2_cast]
 exact Int.ofNat_le.mpr (Nat.pow_le_pow_right (by decide) h)
theorem pow2_pos (a:Nat):(0:Int)<2^a:=by
 rw[pow2_cast]
 have:=Nat.two_pow_pos a
 omega
theorem newo {H1 H2:Hp}{l:Addr}{o:HO}(n:H1 l=none) (e:L2.upd H1 l o=H2):H2 l=some o∧Same H1 H2:=by
 subst e;exact⟨upd_same,same_new n _⟩
theorem Hand.ne {H:Hp}{p l:Addr}{N:Nat}(hh:Hand H p N) (n:H l=none):l≠p:=by
 obtain⟨l1,d,c,ns,h1,_⟩:=hh.ex
 exact(ne_of_none h1 n).symm
structure CK (H0:Hp) (p D:Addr) (N:Nat) (ys:List V) (H':Hp):Prop where
 hh:Hand H' p N
 lat:H' D=some (.lst ys)
 kp:Kp H0 H' p
 n0:H0 D=none
 np:D≠p
 nc:cellsOf H0 p≠some D
theorem CK.start {H0:Hp}{p D:Addr}{N:Nat}(hh:Hand H0 p N) (n:H0 D=none) {ys:List V}:CK H0 p D N ys (L2.upd H0 D (.lst ys)) where
 hh:=hh.same (same_new n _)
 lat:=upd_same
 kp:=Kp.of (same_new n _) hh
 n0:=n
 np:=by
  obtain⟨l1,d,c,ns,h1,_⟩:=hh.ex
  exact(ne_of_none h1 n).symm
 nc:=cells_new hh n
theorem CK.draw {H0 H' H2:Hp}{p D:Addr}{N M:Nat}{ys:List V}(c:CK H0 p D N ys H') (k:Kp H' H2 p) (hh:Hand H2 p M):CK H0 p D M ys H2 :=
 ⟨hh,k.1 _ _ c.lat c.np,c.kp.trans k,c.n0,c.np,c.nc⟩
theorem CK.push {H0 H':Hp}{p D:Addr}{N:Nat}{ys zs:List V}(c:CK H0 p D N ys H'):CK H0 p D N zs (L2.upd H' D (.lst zs)) where
 hh:=c.hh.upd c.np (by rw[c.kp.2];exact c.nc)
 lat:=upd_same
 kp:=⟨fun b o h n=>by rw[upd_ne (ne_of_none h c.n0)];exact c.kp.1 _ _ h n,by rw[cells_upd c.np];exact c.kp.2⟩
 n0:=c.n0
 np:=c.np
 nc:=c.nc
def sp__law_draw (K:PySem.W.Frag):Sp:=fun vs H Q _=>∃(p:Addr) (N:Nat) (n:Int),vs=[.ref p,.int n]∧Hand H p N∧N<2^60∧0<n∧n<2^100 ∧
 ∀(r:Int) (H':Hp),0≤r→r<n→Hand H' p (N+1)→Kp H H' p→Q (.int r) H'
def sp__law_far (K:PySem.W.Frag):Sp:=fun vs H Q _=>∃(p:Addr) (N:Nat) (n:Int),vs=[.ref p,.int n]∧Hand H p N∧N+10<2^60∧0<n∧n<2^100 ∧
 ∀(r:Int) (H':Hp),0≤r→r<n→Hand H' p (N+7)→Kp H H' p→Q (.int r) H'
def sp__law_power (K:PySem.W.Frag):Sp:=fun vs H Q _=>∃(m:Nat),vs=[.int m]∧m≤1000∧Q (.int (2^m)) H
def sp__law_open (K:PySem.W.Frag):Sp:=fun vs H Q _=>∃(a:Addr) (ns:List Int) (pl:Int),vs=[.ref a,.int pl]∧SqL K H a (ns.map V.int)∧ns.length≤63∧0≤pl∧pl≤1000 ∧
 ∀(p:Addr) (H':Hp),H p=none→Same H H'→Hand H' p 1100000→Q (.ref p) H'
def sp__law_key (K:PySem.W.Frag):Sp:=fun vs H Q _=>∃(p:Addr) (N:Nat),vs=[.ref p]∧Hand H p N∧N+30<2^60 ∧
 ∀(r:Int) (H':Hp),0≤r→r<2^60→Hand H' p (N+20)→Kp H H' p→Q (.int r) H'
def sp_law (K:PySem.W.Frag):Sp:=fun vs H Q _=>∃(a:Addr) (ns:List Int),vs=[.ref a]∧SqL K H a (ns.map V.int)∧ns.length≤63∧TB_between K H∧∀H',Q (.bl true) H'
theorem sub_len:∀{L K:List Int},L.Nodup→(∀x∈L,x∈K)→L.length≤K.length
 | [],_,_,_=>Nat.zero_le _
 | a::L,K,hn,hs=>by
  rw[List.nodup_cons]at hn
  have ha:=hs a List.mem_cons_self
  have ih:=sub_len (L:=L) (K:=K.erase a) hn.2 fun x hx=>by
   have:x≠a:=fun e=>hn.1 (e ▸ hx)
   exact(List.mem_erase_of_ne this).mpr (hs x (List.mem_cons_of_mem _ hx))
  rw[List.length_erase_of_mem ha]at ih
  have:=List.length_pos_of_mem ha
  rw[List.length_cons];omega
theorem free_key {ks:List Int}(hl:ks.length<1000) (v:Int):∃m:Nat,(v+m)%1152921504606846976∉ks:=by
 by_cases c:∃m:Nat,(v+m)%1152921504606846976∉ks
 ·exact c
 ·have all:∀m:Nat,(v+m)%1152921504606846976∈ks:=fun m=>Classical.not_not.mp fun z=>c ⟨m,z⟩
  have hn:((List.range (ks.length+1)).map fun(j:Nat)=>(v+j)%1152921504606846976).Nodup:=by
   rw[List.nodup_iff_pairwise_ne,List.pairwise_map]
   refine List.Pairwise.imp_of_mem ?_ List.nodup_range
   intro a b ha hb hab e
   have h1:=List.mem_range.mp ha
   have h2:=List.mem_range.mp hb
   omega
  have:=sub_len hn (fun x hx=>by
   obtain⟨j,_,rfl⟩:=List.mem_map.mp hx
   exact all j)
  rw[List.length_map,List.length_range]at this
  omega
def sp__law_keys (K:PySem.W.Frag):Sp:=fun vs H Q _=>∃(p:Addr) (N:Nat) (n:Int),vs=[.ref p,.int n]∧Hand H p N∧N+5000<2^60∧0≤n∧n≤125 ∧
 ∀(l:Addr) (ns:List Int) (H':Hp),H l=none→H' l=some (.lst (ns.map V.int))→ns.Nodup→(ns.length:Int)=n→(∀k∈ns,0≤k∧k<1152921504606846976)→Hand H' p (N+3000)→Kp H H' p→Q (.ref l) H'
def lg (R:Int):Nat:=R.toNat.log2
theorem lg_le {R:Int}(h:1≤R):(2:Int)^lg R≤R:=by
 have h1:R.toNat≠0:=by omega
 have h2:=Nat.log2_self_le h1
 rw[pow2_cast]
 unfold lg
 omega
theorem lg_lt {R:Int}(h:1≤R):R <(2:Int)^(lg R+1):=by
 have h1:R.toNat≠0:=by omega
 have h2:=(Nat.log2_lt h1).mp (Nat.lt_succ_self R.toNat.log2)
 rw[pow2_cast]
 unfold lg
 have h3:R.toNat<2^(R.toNat.log2+1):=h2
 omega
theorem lg_60 {R:Int}(h:1≤R) (h2:R≤2^60):lg R≤60:=by
 have h1:R.toNat≠0:=by omega
 have h3:R.toNat.log2<61:=(Nat.log2_lt h1).mpr (by omega)
 unfold lg
 omega
theorem bits_eq {R:Int}(h:1≤R):((Builtin.Int.intBits R:Nat):Int)-1 =(lg R:Int):=by
 unfold Builtin.Int.intBits lg
 have h0:(R == 0)=false:=by
  rw[beq_eq_false_iff_ne];omega
 rw[h0]
 have e:R.natAbs=R.toNat:=by omega
 rw[e]
 simp
def roomV (k R:Int):Int:=if R-2^lg R≤k%2^lg R then k%2^lg R else k%2^(lg R+1)
theorem roomV_lt {k R:Int}(h:1≤R):0≤roomV k R∧roomV k R<R:=by
 have p:=pow2_pos (lg R)
 have a:=lg_le h
 have b:=lg_lt h
 rw[Int.pow_succ]at b
 unfold roomV
 rw[Int.pow_succ]
 generalize (2:Int)^lg R=w at p a b ⊢
 have m0:=Int.emod_nonneg k (show w≠0 by omega)
 have m1:=Int.emod_lt_of_pos k p
 have d0:=Int.emod_nonneg k (show w*2≠0 by omega)
 have d1:=Int.emod_lt_of_pos k (show(0:Int)<w*2 by omega)
 have e:k%(w*2)%w=k%w:=Int.emod_emod_of_dvd k ⟨2,rfl⟩
 split
 ·omega
 ·rename_i hn
  refine⟨d0,?_⟩
  by_cases c:k%(w*2)<w
  ·rw[Int.emod_eq_of_lt d0 c]at e;omega
  ·have e2:k%(w*2)%w=k%(w*2)-w:=by
    have:k%(w*2) =(k%(w*2)-w)+w:=by omega
    rw[this,Int.add_emod_right,Int.emod_eq_of_lt (by omega) (by omega)]
    omega
   omega
def sp_last_bits (K:PySem.W.Frag):Sp:=fun vs H Q _=>∃(k:Int) (m:Nat),vs=[.int k,.int m]∧m≤100∧Q (.int (k%2^m)) H
def sp_level (K:PySem.W.Frag):Sp:=fun vs H Q _=>∃(R:Int),vs=[.int R]∧1≤R∧Q (.int (lg R)) H
def sp_turn (K:PySem.W.Frag):Sp:=fun vs H Q _=>∃(R:Int),vs=[.int R]∧1≤R∧R≤2^60∧Q (.int (R-2^lg R)) H
def bitsV (r R:Int):Nat:=if R-2^lg R≤r∧r<2^lg R then lg R else lg R+1
theorem bitsV_room {k R:Int}:k%2^bitsV (k%2^lg R) R=roomV k R:=by
 have lt:=Int.emod_lt_of_pos k (pow2_pos (lg R))
 unfold bitsV roomV
 by_cases c:R-2^lg R≤k%2^lg R
 ·rw[if_pos ⟨c,lt⟩,if_pos c]
 ·rw[if_neg (fun z=>c z.1),if_neg c]
def sp_bits_for (K:PySem.W.Frag):Sp:=fun vs H Q _=>∃(r R:Int),vs=[.int r,.int R]∧1≤R∧R≤2^60∧Q (.int (bitsV r R)) H
def sp_room_of (K:PySem.W.Frag):Sp:=fun vs H Q _=>∃(k R:Int),vs=[.int k,.int R]∧1≤R∧R≤2^60∧Q (.int (roomV k R)) H
def sp_split_of (K:PySem.W.Frag):Sp:=fun vs H Q _=>∃(R:Int),vs=[.int R]∧1≤R∧R≤2^60∧∀p,H p=none→Q (.ref p) (upd H p (.tup [.int (R-2^lg R),.int R]))
def bitV (k:Int) (j:Nat):Int:=k / 2^j%2
def rev (k:Int):Nat→Int
 | 0=>0
 | i+1=>rev k i*2+bitV k i
theorem bitV_01 (k:Int) (j:Nat):0≤bitV k j∧bitV k j<2:=by unfold bitV;omega
theorem rev_lt (k:Int):∀i:Nat,0≤rev k i∧rev k i<2^i
 | 0=>by simp[rev]
 | i+1=>by
  have h:=rev_lt k i
  have b:=bitV_01 k i
  rw[rev,Int.pow_succ]
  omega
def sp_turned (K:PySem.W.Frag):Sp:=fun vs H Q _=>∃(k:Int),vs=[.int k]∧Q (.int (rev k 60)) H
theorem up_div {m w g:Int}(hw:1≤w) (hm:0≤m) (hg:g=max 1 ((m+w-1) / w)):1≤g∧m≤w*g∧(g=1∨w*(g-1)<m):=by
 have h1:=Int.emod_add_mul_ediv (m+w-1) w
 have h2:=Int.emod_nonneg (m+w-1) (show w≠0 by omega)
 have h3:=Int.emod_lt_of_pos (m+w-1) (show 0<w by omega)
 generalize (m+w-1) / w=q at h1 hg
 generalize (m+w-1)%w=r at h1 h2 h3
 have e:w*(g-1)=w*g-w:=by rw[Int.mul_sub,Int.mul_one]
 refine⟨by omega,?_,?_⟩
 ·by_cases c:1≤q
  ·have:g=q:=by omega
   rw[this];omega
  ·have:g=1:=by omega
   rw[this,Int.mul_one]
   have:w*q≤0:=Int.mul_nonpos_of_nonneg_of_nonpos (by omega) (by omega)
   omega
 ·by_cases c:2≤q
  ·right
   have:g=q:=by omega
   rw[e,this];omega
  ·left;omega
def rfor (m w:Int):Int:=max 1 ((m+w-1) / w)
def Ls (H:Hp):List Addr→List (List Int)→Prop
 | [],[]=>True
 | a::as,r::rs=>H a=some (.lst (r.map V.int))∧Ls H as rs
 | _,_=>False
theorem Ls.same {H H':Hp}:∀{as:List Addr}{rs:List (List Int)},(∀a∈as,∀o,H a=some o→H' a=some o)→Ls H as rs→Ls H' as rs
 | [],[],_,_=>trivial
 | a::_,_::_,s,⟨h,t⟩=>⟨s a List.mem_cons_self _ h,Ls.same (fun b hb=>s b (List.mem_cons_of_mem _ hb)) t⟩
theorem Ls.len {H:Hp}:∀{as:List Addr}{rs:List (List Int)},Ls H as rs→as.length=rs.length
 | [],[],_=>rfl
 | _::_,_::_,⟨_,t⟩=>congrArg (· + 1) (Ls.len t)
theorem Ls.snoc {H:Hp}{a:Addr}{r:List Int}(hb:H a=some (.lst (r.map V.int))):∀{as:List Addr}{rs:List (List Int)},Ls H as rs→Ls H (as ++ [a]) (rs ++ [r])
 | [],[],_=>⟨hb,trivial⟩
 | _::_,_::_,⟨h,t⟩=>⟨h,Ls.snoc hb t⟩
theorem Ls.get {H:Hp}:∀{as:List Addr}{rs:List (List Int)}{i:Nat}{a:Addr},Ls H as rs→as[i]? = some a→∃r,rs[i]? = some r∧H a=some (.lst (r.map V.int))
 | [],[],_,_,_,e=>by cases e
 | _::_,r::_,0,_,⟨h,_⟩,e=>by cases e;exact⟨r,rfl,h⟩
 | _::_,_::_,i+1,_,⟨_,t⟩,e=>Ls.get (i:=i) t e
def sp_rows_for (K:PySem.W.Frag):Sp:=fun vs H Q _=>∃(m w:Int),vs=[.int m,.int w]∧1≤w∧w≤8∧Q (.int (rfor m w)) H
def rowsNV (ms:List V) (w n:Nat):List (List V):=(List.range n).map fun i=>(ms.drop (i*w)).take w
def rowsVV (ms:List V) (w:Nat):List (List V):=rowsNV ms w (rfor ms.length w).toNat
def RwsN (H0 H:Hp) (l:Addr) (X:List (List V)):Prop:=∃as:List Addr,H l=some (.lst (as.map V.ref))∧as.length=X.length∧(∀(i:Nat) (a:Addr) (es:List V),as[i]? = some a→X[i]? = some es→H a=some (.lst es))∧as.Nodup∧∀a∈as,H0 a=none∧a≠l
def sp_cut_rows (K:PySem.W.Frag):Sp:=fun vs H Q _=>∃(a:Addr) (ms:List V) (w:Nat),vs=[.ref a,.int w]∧H a=some (.lst ms)∧ms.length≤200∧1≤w∧w≤8 ∧
 ∀l H',H l=none→RwsN H H' l (rowsVV ms w)→Same H H'→Q (.ref l) H'
theorem refs_get {as:List Addr}{i:Nat}{x:V}(hx:(as.map V.ref)[i]? = some x):∃a,as[i]? = some a∧x = .ref a:=by
 rw[List.getElem?_map]at hx
 cases e:as[i]? with
 | none=>rw[e]at hx;cases hx
 | some a=>rw[e]at hx;exact⟨a,rfl,(Option.some.inj hx).symm⟩
theorem ints_get {ns:List Int}{i:Nat}{x:V}(hx:(ns.map V.int)[i]? = some x):∃z,ns[i]? = some z∧x = .int z:=by
 rw[List.getElem?_map]at hx
 cases e:ns[i]? with
 | none=>rw[e]at hx;cases hx
 | some a=>rw[e]at hx;exact⟨a,rfl,(Option.some.inj hx).symm⟩
theorem take_get {α:Type}{xs:List α}{i:Nat}{x:α}(h:xs[i]? = some x):xs.take (i+1)=xs.take i ++ [x]:=by
 obtain⟨hi,e⟩:=List.getElem?_eq_some_iff.mp h
 rw[List.take_succ_eq_append_getElem hi,e]
theorem at_ref' {as:List Addr}{i:Nat}{a:Addr}(h:as[i]? = some a):atI (as.map V.ref) (i:Int)=some (.ref a) :=
 atI_nat (by rw[List.getElem?_map,h];rfl)
theorem Ls.mem {H:Hp}:∀{as:List Addr}{rs:List (List Int)}{a:Addr},Ls H as rs→a∈as→∃r,r∈rs∧H a=some (.lst (r.map V.int))
 | [],[],_,_,h=>by cases h
 | b::as,r::rs,a,⟨h,t⟩,m=>by
  rcases List.mem_cons.mp m with e|m
  ·exact⟨r,List.mem_cons_self,e ▸ h⟩
  ·obtain⟨q,q1,q2⟩:=Ls.mem t m
   exact⟨q,List.mem_cons_of_mem _ q1,q2⟩
def spreadV (ms:List Int) (R:Nat):List (List Int):=(List.range R).map fun(r:Nat)=>ms.filter fun k=>decide (roomV k R =(r:Int))
theorem spreadV_len (ms:List Int) (R:Nat):(spreadV ms R).length=R:=by unfold spreadV;rw[List.length_map,List.length_range]
theorem spreadV_at {ms:List Int}{R j:Nat}(h:j<R):(spreadV ms R)[j]? = some (ms.filter fun k=>decide (roomV k R =(j:Int))):=by
 unfold spreadV
 rw[List.getElem?_map,List.getElem?_range h];rfl
theorem spreadV_nil (R:Nat):spreadV [] R=List.replicate R []:=by
 refine List.ext_getElem? fun i=>?_
 rw[List.getElem?_replicate]
 by_cases h:i<R
 ·rw[spreadV_at h,if_pos h];rfl
 ·rw[if_neg h,List.getElem?_eq_none (by rw[spreadV_len];omega)]
theorem spreadV_push {ms:List Int}{R j:Nat}{k:Int}(hj:roomV k R =(j:Int)) (h:j<R):spreadV (ms ++ [k]) R =(spreadV ms R).set j ((ms.filter fun k=>decide (roomV k R =(j:Int))) ++ [k]):=by
 refine List.ext_getElem? fun i=>?_
 rw[List.getElem?_set,spreadV_len]
 by_cases hi:i<R
 ·rw[spreadV_at hi,List.filter_append,List.filter_cons]
  by_cases e:j=i
  ·subst e
   rw[if_pos rfl,if_pos hi,if_pos (decide_eq_true hj)];rfl
  ·rw[if_neg e,spreadV_at hi,if_neg (by rw[hj];simp;omega)]
   simp
 ·rw[List.getElem?_eq_none (by rw[spreadV_len];omega)]
  by_cases e:j=i
  ·omega
  ·rw[if_neg e,List.getElem?_eq_none (by rw[spreadV_len];omega)]
theorem Ls.set {H:Hp}{a:Addr}{r:List Int}:∀{as:List Addr}{rs:List (List Int)}{j:Nat},as.Nodup→as[j]? = some a→Ls H as rs→Ls (upd H a (.lst (r.map V.int))) as (rs.set j r)
 | [],_,_,_,h,_=>by simp at h
 | b::as,q::rs,0,hn,h,⟨h1,t⟩=>by
  simp at h;subst h
  rw[List.nodup_cons]at hn
  exact⟨upd_same,t.same fun c hc o e=>by rw[upd_ne (show c≠b from fun z=>hn.1 (by rw[← z];exact hc))];exact e⟩
 | b::as,q::rs,j+1,hn,h,⟨h1,t⟩=>by
  rw[List.nodup_cons]at hn
  have h':as[j]? = some a:=by simpa using h
  have ne:b≠a:=fun z=>hn.1 (by rw[z];exact List.mem_of_getElem? h')
  exact⟨by rw[upd_ne ne];exact h1,Ls.set hn.2 h' t⟩
def LN (H0 H:Hp) (l:Addr) (rs:List (List Int)):Prop:=∃as:List Addr,H l=some (.lst (as.map V.ref))∧Ls H as rs∧as.Nodup∧∀a∈as,H0 a=none∧a≠l
theorem LN.base {H0 H1 H:Hp}{l:Addr}{rs:List (List Int)}(s:Same H0 H1) (h:LN H1 H l rs):LN H0 H l rs:=by
 obtain⟨as,h1,h2,h3,h4⟩:=h
 exact⟨as,h1,h2,h3,fun a ha=>⟨s.free (h4 a ha).1,(h4 a ha).2⟩⟩
theorem Ls.rep {H:Hp}:∀{as:List Addr}{n:Nat},Ls H as (List.replicate n [])→as.length=n:=fun h=>by rw[h.len,List.length_replicate]
def sp_spread (K:PySem.W.Frag):Sp:=fun vs H Q _=>∃(a:Addr) (ns:List Int) (R:Nat),vs=[.ref a,.int R]∧H a=some (.lst (ns.map V.int))∧ns.length≤63∧1≤R∧R≤200 ∧
 ∀ms l H',ms.Perm ns→ms.Pairwise (· ≤ ·)→H l=none→LN H H' l (spreadV ms R)→Same H H'→Q (.ref l) H'
def sp_counts (K:PySem.W.Frag):Sp:=fun vs H Q _=>∃(a:Addr) (ns:List Int) (R:Nat),vs=[.ref a,.int R]∧H a=some (.lst (ns.map V.int))∧ns.length≤63∧1≤R∧R≤200 ∧
 ∀ms l H',ms.Perm ns→ms.Pairwise (· ≤ ·)→H l=none→H' l=some (.lst (((spreadV ms R).map fun r=>(r.length:Int)).map V.int))→Same H H'→Q (.ref l) H'
def P1 {α:Type}(p:Addr→α→Prop) (as:List Addr) (xs:List α):Prop:=as.length=xs.length∧∀(i:Nat) (a:Addr) (x:α),as[i]? = some a→xs[i]? = some x→p a x
section
variable {α:Type}{p p':Addr→α→Prop}{as bs:List Addr}{xs ys:List α}{a b:Addr}{x y:α}{i:Nat}
theorem P1.imp (f:∀a x,p a x→p' a x) (h:P1 p as xs):P1 p' as xs:=⟨h.1,fun i a x e1 e2=>f a x (h.2 i a x e1 e2)⟩
theorem P1.get (h:P1 p as xs) (e:as[i]? = some a):∃x,xs[i]? = some x∧p a x:=by
 have il:=(List.getElem?_eq_some_iff.mp e).1
 rw[h.1]at il
 exact⟨_,List.getElem?_eq_getElem il,h.2 i a _ e (List.getElem?_eq_getElem il)⟩
end
def GD (K:PySem.W.Frag) (H:Hp) (n:Nat) (v:V) (d:PyData):Prop:=DV K H v d∧PyData.canLay0 d=true∧PyData.depth d≤n
def GDs (K:PySem.W.Frag) (H:Hp) (n:Nat) (vs:List V) (ds:List PyData):Prop:=DVs K H vs ds∧PyData.canLayAll0 ds=true∧PyData.depthAll ds≤n
section
variable {K:PySem.W.Frag}{H:Hp}{n:Nat}{v:V}{d:PyData}{vs:List V}{ds:List PyData}
theorem GDs.nil:GDs K H n [] []:=⟨.nil,rfl,by simp[PyData.depthAll]⟩
theorem GDs.cons (h:GD K H n v d) (t:GDs K H n vs ds):GDs K H n (v::vs) (d::ds):=by
 refine⟨.cons h.1 t.1,?_,?_⟩
 ·rw[PyData.canLayAll0,h.2.1,t.2.1];rfl
 ·rw[PyData.depthAll];exact Nat.max_le.mpr ⟨h.2.2,t.2.2⟩
theorem GD.lst {a:Addr}(h:H a=some (.lst vs)) (g:GDs K H n vs ds):GD K H (n+1) (.ref a) (.list ds) :=
 ⟨.lst (SqL.of h) g.1,by rw[PyData.canLay0];exact g.2.1,by rw[PyData.depth];have:=g.2.2;omega⟩
theorem GD.tup {a:Addr}(h:H a=some (.tup vs)) (g:GDs K H n vs ds):GD K H (n+1) (.ref a) (.tuple ds) :=
 ⟨.tup (SqT.of h) g.1,by rw[PyData.canLay0];exact g.2.1,by rw[PyData.depth];have:=g.2.2;omega⟩
theorem GD.int (i:Int):GD K H n (.int i) (.int i):=⟨.int i,rfl,by simp[PyData.depth]⟩
theorem GD.str {z:Str}(h:PyData.strOk z=true):GD K H n (.str z) (.str z):=⟨.str z,by rw[PyData.canLay0];exact h,by simp[PyData.depth]⟩
theorem GD.shaped (h:GD K H n v d) (l:n≤64):SeqAt.shaped d=true:=by
 have:=h.2.2
 simp[SeqAt.shaped,h.2.1];omega
theorem GD.refl (h:GD K H n v d):PyData.eqv d d=true:=SeqAt.eqv_refl d h.2.1
end
def En (H:Hp) (v:V):Prop:=∃t k z,v = .ref t∧H t=some (.tup [.int k,.str z])∧PyData.strOk z=true∧0≤k∧k<1152921504606846976∧z.length≤100
def dE (H:Hp) (v:V):PyData:=match v with
 | .ref t=>(match H t with
  | some (.tup [.int k,.str z])=>.tuple [.int k,.str z]
  | _=>.none)
 | _=>.none
theorem En.gd {K:PySem.W.Frag}{H:Hp}{v:V}(h:En H v):GD K H 1 v (dE H v):=by
 obtain⟨t,k,z,rfl,h1,h2⟩:=h
 have e:dE H (.ref t) = .tuple [.int k,.str z]:=by
  show(match H t with|some (.tup [.int k,.str z])=>PyData.tuple [.int k,.str z] | _=>.none)=_
  rw[h1]
 rw[e]
 exact GD.tup h1 (.cons (.int _) (.cons (.str h2.1) .nil))
theorem gds_en {K:PySem.W.Frag}{H:Hp}:∀{es:List V},(∀v∈es,En H v)→GDs K H 1 es (es.map (dE H))
 | [],_=>GDs.nil
 | v::es,h=>GDs.cons (h v List.mem_cons_self).gd (gds_en fun v m=>h v (List.mem_cons_of_mem _ m))
def R1 (S:Addr→Prop) (H:Hp) (a:Addr) (es:List V):Prop:=S a∧H a=some (.lst es)
def R2 (S:Addr→Prop) (H:Hp) (b:Addr) (rows:List (List V)):Prop:=S b∧∃as:List Addr,H b=some (.lst (as.map V.ref))∧P1 (R1 S H) as rows
def R3 (S:Addr→Prop) (H:Hp) (h:Addr) (X:List (List (List V))):Prop:=∃bs:List Addr,H h=some (.lst (bs.map V.ref))∧P1 (R2 S H) bs X
section
variable {S S':Addr→Prop}{H H':Hp}{a b h:Addr}{es:List V}{rows:List (List V)}{X:List (List (List V))}
end
def dRow (H:Hp) (es:List V):PyData:=.list (es.map (dE H))
theorem str_app (a b:Str):(a++b).cps=a.cps++b.cps:=rfl
theorem str_applen (a b:Str):(a++b).length=a.length+b.length:=by
 show(a.cps++b.cps).size=_
 rw[Array.size_append];rfl
def nm (z:Str):Prop:=1≤z.length∧z.length≤8∧∀c∈z.cps,97≤c∧c≤122
theorem nm_ok {z:Str}(h:nm z):PyData.strOk z=true∧z.length≤100:=by
 refine⟨?_,by have:=h.2.1;omega⟩
 unfold PyData.strOk
 rw[Array.all_eq_true_iff_forall_mem]
 intro c hc
 have:=h.2.2 c hc
 simp;omega
theorem join_nm:∀ys:List Str,(∀y∈ys,y.length=1∧∀c∈y.cps,97≤c∧c≤122)→(Str.join ⟨#[]⟩ ys).length=ys.length∧∀c∈(Str.join ⟨#[]⟩ ys).cps,97≤c∧c≤122
 | [],_=>⟨rfl,fun c hc=>absurd hc (by simp[Str.join,Str.empty])⟩
 | y::r,h=>by
  obtain⟨h1,h2⟩:=join_nm r fun z hz=>h z (List.mem_cons_of_mem _ hz)
  obtain⟨g1,g2⟩:=h y List.mem_cons_self
  rw[PyProof.Rows.join_nil_cons]
  refine⟨by rw[str_applen,h1,g1,List.length_cons];omega,fun c hc=>?_⟩
  rw[str_app]at hc
  rcases Array.mem_append.mp hc with z|z
  ·exact g2 c z
  ·exact h2 c z
theorem sum_nm:∀ys:List Str,(∀y∈ys,y.length=1∧∀c∈y.cps,97≤c∧c≤122)→(ys.map (·.length)).sum=ys.length
 | [],_=>rfl
 | y::r,h=>by
  rw[List.map_cons,List.sum_cons,sum_nm r fun z hz=>h z (List.mem_cons_of_mem _ hz),(h y List.mem_cons_self).1,List.length_cons];omega
theorem let26b {r:Int}(h0:0≤r) (h1:r<26):∃c,atI (Str.ofString "abcdefghijklmnopqrstuvwxyz").cps.toList r=some c∧97≤c∧c≤122:=by
 obtain⟨n,rfl⟩ : ∃n:Nat,r =(n:Int):=⟨r.toNat,by omega⟩
 have hl:(Str.ofString "abcdefghijklmnopqrstuvwxyz").cps.toList.length=26:=by decide +kernel
 have ha:∀c∈(Str.ofString "abcdefghijklmnopqrstuvwxyz").cps.toList,97≤c∧c≤122:=by decide +kernel
 have hi:=List.getElem?_eq_getElem (l:=(Str.ofString "abcdefghijklmnopqrstuvwxyz").cps.toList) (i:=n) (by omega)
 exact⟨_,atI_nat hi,ha _ (List.mem_of_getElem? hi)⟩
theorem joinT (ys:List Str):Txt.join (Str.ofString "") ys=Str.join ⟨#[]⟩ ys:=by
 have e:Str.ofString "" =⟨#[]⟩:=by decide
 rw[e]
 exact StrLaws.glued_eq_join _ _
def sp__law_thing (K:PySem.W.Frag):Sp:=fun vs H Q _=>∃(p:Addr) (N:Nat),vs=[.ref p]∧Hand H p N∧N+30<2^60 ∧
 ∀(z:Str) (H':Hp),nm z→Hand H' p (N+20)→Kp H H' p→Q (.str z) H'
def sp__law_whole (K:PySem.W.Frag):Sp:=fun vs H Q _=>∃(n:Int),vs=[.int n]∧Q (.bl true) H
def eD (H:Hp) (v:V):Int×Str:=match v with
 | .ref t=>(match H t with
  | some (.tup [.int k,.str z])=>(k,z)
  | _=>(0,⟨#[]⟩))
 | _=>(0,⟨#[]⟩)
theorem eD_at {H:Hp}{t:Addr}{k:Int}{z:Str}(h:H t=some (.tup [.int k,.str z])):eD H (.ref t) =(k,z):=by
 show(match H t with|some (.tup [.int k,.str z])=>(k,z)|_=>(0,⟨#[]⟩))=_
 rw[h]
def rowD (H:Hp) (es:List V):List (Int×Str):=es.map (eD H)
def sp__law_room (K:PySem.W.Frag):Sp:=fun vs H Q _=>∃(k R:Int),vs=[.int k,.int R]∧0≤k∧k<2^61∧1≤R∧R≤2^60∧Q (.int (roomV k R)) H
def pE (e:Int×Str):PyData:=.tuple [.int e.1,.str e.2]
def pRow (r:List (Int×Str)):PyData:=.list (r.map pE)
theorem dE_pE {H:Hp}{v:V}(h:En H v):dE H v=pE (eD H v):=by
 obtain⟨t,k,z,rfl,h1,h2⟩:=h
 rw[eD_at h1]
 show(match H t with|some (.tup [.int k,.str z])=>PyData.tuple [.int k,.str z] | _=>.none)=_
 rw[h1];rfl
theorem dRow_pRow {H:Hp}{es:List V}(h:∀v∈es,En H v):dRow H es=pRow (rowD H es):=by
 unfold dRow pRow rowD
 rw[List.map_map]
 congr 1
 exact List.map_congr_left fun v hv=>dE_pE (h v hv)
def EL (H:Hp) (ts:List Addr) (es:List (Int×Str)):Prop:=P1 (fun t e=>H t=some (.tup [.int e.1,.str e.2])∧PyData.strOk e.2=true∧0≤e.1∧e.1<1152921504606846976∧e.2.length≤100) ts es
theorem EL.same {H H':Hp}{ts:List Addr}{es:List (Int×Str)}(s:Same H H') (h:EL H ts es):EL H' ts es:=h.imp fun t e z=>⟨s _ _ z.1,z.2⟩
theorem EL.en {H:Hp}{ts:List Addr}{es:List (Int×Str)}(h:EL H ts es):∀v∈ts.map V.ref,En H v:=fun v hv=>by
 obtain⟨t,ht,rfl⟩:=List.mem_map.mp hv
 obtain⟨i,hi⟩:=List.getElem?_of_mem ht
 obtain⟨e,_,h1,h2⟩:=h.get hi
 exact⟨t,e.1,e.2,rfl,h1,h2⟩
theorem EL.row {H:Hp}{ts:List Addr}{es:List (Int×Str)}(h:EL H ts es):rowD H (ts.map V.ref)=es:=by
 refine List.ext_getElem? fun i=>?_
 unfold rowD
 rw[List.getElem?_map,List.getElem?_map]
 cases c:ts[i]? with
 | none =>
  have:=List.getElem?_eq_none_iff.mp c
  rw[List.getElem?_eq_none (by rw[← h.1];exact this)];rfl
 | some t =>
  obtain⟨e,he,h1,_⟩:=h.get c
  rw[he]
  show some (eD H (.ref t))=some e
  rw[eD_at h1]
def vE (e:Int×Str):Int×V:=(e.1,.str e.2)
def kf (e:Int×V):Key×V:=((Sum.inl e.1:Key),e.2)
def putI (qs:List (Int×V)) (k:Int) (v:V):List (Int×V):=if (qs.any fun e=>decide (e.1=k))=true then qs.map (fun e=>if e.1=k then(e.1,v) else e) else qs ++ [(k,v)]
theorem putI_map {qs:List (Int×V)}{k:Int}{v:V}:putK (qs.map kf) (Sum.inl k) v =(putI qs k v).map kf:=by
 unfold putK putI
 have e:((qs.map kf).any fun kv=>decide (kv.1 =(Sum.inl k:Key)))=qs.any fun e=>decide (e.1=k):=by
  rw[List.any_map]
  congr 1
  funext e
  simp[kf]
 rw[e]
 split
 ·rw[List.map_map,List.map_map]
  apply List.map_congr_left
  intro e _
  by_cases c:e.1=k
  ·simp[kf,c]
  ·simp[kf,c]
 ·rw[List.map_append];rfl
def valI (qs:List (Int×V)) (k:Int):V:=((qs.find? fun e=>decide (e.1=k)).map (·.2)).getD .non
theorem valI_some:∀{qs:List (Int×V)}{k:Int},k∈qs.map (·.1)→L2.valV (qs.map kf) (Sum.inl k)=some (valI qs k)
 | [],k,h=>by simp at h
 | e::qs,k,h=>by
  by_cases c:e.1=k
  ·rw[List.map_cons,valV_pos (by simp[kf,c])]
   unfold valI
   rw[List.find?_cons,decide_eq_true c];rfl
  ·rw[List.map_cons,valV_neg (by simp[kf,c]),valI_some (by
    rw[List.map_cons,List.mem_cons]at h
    rcases h with h|h
    ·exact absurd h.symm c
    ·exact h)]
   unfold valI
   rw[List.find?_cons,decide_eq_false c]
def hid (D:Addr) (H:Hp):Hp:=fun b=>if b=D then none else H b
def NonInt (H:Hp) (v:V):Prop:=(∃b,v = .bl b)∨v = .non ∨(∃z,v = .str z) ∨ ∃a,v = .ref a∧((∃ns:List Int,H a=some (.tup (ns.map V.int))) ∨(∃ns:List Int,H a=some (.lst (ns.map V.int)))∨H a=some (.dK []))
theorem NonInt.keep {H H':Hp}{v:V}(h:NonInt H v) (k:∀a,v = .ref a→∀o,H a=some o→H' a=some o):NonInt H' v:=by
 rcases h with h|h|h|⟨a,rfl,h⟩
 ·exact .inl h
 ·exact .inr (.inl h)
 ·exact .inr (.inr (.inl h))
 ·refine .inr (.inr (.inr ⟨a,rfl,?_⟩))
  rcases h with⟨ns,h⟩|⟨ns,h⟩|h
  ·exact .inl ⟨ns,k a rfl _ h⟩
  ·exact .inr (.inl ⟨ns,k a rfl _ h⟩)
  ·exact .inr (.inr (k a rfl _ h))
theorem NonInt.same {H H':Hp}{v:V}(h:NonInt H v) (s:Same H H'):NonInt H' v:=h.keep fun a _ o e=>s _ _ e
def isBl:V→Bool
 | .bl _=>true
 | _=>false
theorem rd_isBl {K:PySem.W.Frag}{H:Hp}{Q:VK}{v:V}(h:(∃k,v = .int k)∨NonInt H v) (q:Q (.bl (isBl v)) H):rIsi K [v,.ty "bool"] H Q:=by
 rcases h with⟨k,rfl⟩|⟨b,rfl⟩|rfl|⟨z,rfl⟩|⟨a,rfl,⟨ns,h⟩|⟨ns,h⟩|h⟩
 ·exact rd_isi (.int k) (b:=false) rfl q
 ·exact rd_isi (.bl b) (b:=true) rfl q
 ·exact rd_isi .non (b:=false) rfl q
 ·exact rd_isi (.str z) (b:=false) rfl q
 ·exact rd_isi (.tup h) (b:=false) rfl q
 ·exact rd_isi (.lst h) (b:=false) rfl q
 ·exact rd_isi (.dK h) (b:=false) rfl q
def sp_is_whole (K:PySem.W.Frag):Sp:=fun vs H Q _=>(∃(k:Int),vs=[.int k]∧Q (.bl true) H) ∨ ∃v,vs=[v]∧NonInt H v∧Q (.bl false) H
def OddM (b:Int) (H:Hp) (v:V):Prop:=(∃k,v = .int k∧¬(0≤k∧k<b))∨NonInt H v
theorem OddM.same {b:Int}{H H':Hp}{v:V}(h:OddM b H v) (s:Same H H'):OddM b H' v:=h.imp id fun h=>h.same s
theorem OddM.any {b:Int}{H:Hp}{v:V}(h:OddM b H v):(∃k,v = .int k)∨NonInt H v:=h.imp (fun⟨k,e,_⟩=>⟨k,e⟩) id
def sp_is_key (K:PySem.W.Frag):Sp:=fun vs H Q _=>(∃(k:Int),vs=[.int k]∧0≤k∧k<1152921504606846976∧Q (.bl true) H) ∨ ∃v,vs=[v]∧OddM 1152921504606846976 H v∧Q (.bl false) H
def sp_is_size (K:PySem.W.Frag):Sp:=fun vs H Q _=>∃(k:Int),vs=[.int k]∧1≤k∧k≤8∧Q (.bl true) H
def sp_is_name (K:PySem.W.Frag):Sp:=fun vs H Q _=>∃(z:Str),vs=[.str z]∧nm z∧∀H',Same H H'→Q (.bl true) H'
def sp_ask_sizes (K:PySem.W.Frag):Sp:=fun vs H Q _=>∃(w f:Int),vs=[.int w,.int f]∧1≤w∧w≤8∧1≤f∧f≤8∧Q .non H
def sp_ask_key (K:PySem.W.Frag):Sp:=fun vs H Q _=>∃(k:Int),vs=[.int k]∧0≤k∧k<1152921504606846976∧Q .non H
def sp_ask_entry (K:PySem.W.Frag):Sp:=fun vs H Q _=>∃(k:Int) (z:Str),vs=[.int k,.str z]∧0≤k∧k<1152921504606846976∧nm z∧∀H',Same H H'→Q .non H'
def sp_rooms_for (K:PySem.W.Frag):Sp:=fun vs H Q _=>∃(m w:Int),vs=[.int m,.int w]∧1≤w∧w≤8∧Q (.int (rfor m w)) H
def rowsL (ns:List Int) (w:Int):List Int:=ns.map fun m=>rfor m w
def moreL (ns:List Int) (w:Int):List Int:=ns.map fun m=>rfor m w-1
def sp_rows_behind (K:PySem.W.Frag):Sp:=fun vs H Q _=>∃(m w:Int),vs=[.int m,.int w]∧1≤w∧w≤8∧Q (.int (rfor m w-1)) H
def sp_spill (K:PySem.W.Frag):Sp:=fun vs H Q _=>∃(a:Addr) (ns:List Int) (w:Int),vs=[.ref a,.int w]∧SqL K H a (ns.map V.int)∧ns.length≤200∧1≤w∧w≤8 ∧
 ∀H',Same H H'→Q (.int (moreL ns w).sum) H'
def sp_longest (K:PySem.W.Frag):Sp:=fun vs H Q _=>∃(a:Addr) (ns:List Int) (w:Int),vs=[.ref a,.int w]∧SqL K H a (ns.map V.int)∧ns ≠ []∧ns.length≤200∧1≤w∧w≤8 ∧
 ∀M t H',M∈rowsL ns w→(∀z,z∈rowsL ns w→z≤M)→H t=none→Same H H'→H' t=some (.tup [.int M,.int ((rowsL ns w).idxOf M:Nat)])→Q (.ref t) H'
theorem lo97 (c:Nat) (h1:97≤c) (h2:c≤122):(!decide ([c] < [97]))=true∧(!decide ([122] < [c]))=true:=by
 have h:∀c,c<123→97≤c→(!decide ([c] < [97]))=true∧(!decide ([122] < [c]))=true:=by decide +kernel
 exact h c (by omega) h1
theorem bitsV_le {r R:Int}:bitsV r R≤lg R+1:=by unfold bitsV;split <;> omega
def sp_stretch_of (K:PySem.W.Frag):Sp:=fun vs H Q _=>∃(r R:Int),vs=[.int r,.int R]∧1≤R∧R≤2^50 ∧
 ∀t H',H t=none→H' t=some (.tup [.int (rev r 60),.int (rev r 60+2^(60-bitsV r R))])→Same H H'→Q (.ref t) H'
def sp_room_at (K:PySem.W.Frag):Sp:=fun vs H Q E=>∃(v:V) (R:Int),vs=[v,.int R]∧1≤R∧R≤2^50∧((∃m,v = .int m∧0≤m∧m<1152921504606846976∧Q (.int (roomV (rev m 60) R)) H) ∨
 (OddM 1152921504606846976 H v∧∀u C,RelV v u→PySem.W.nsIn K mainGlobals "NoMark" = some (some (.ref C))→E u (some C) H))
def sp_is_mark (K:PySem.W.Frag):Sp:=fun vs H Q _=>(∃(k:Int),vs=[.int k]∧0≤k∧k<1152921504606846977∧Q (.bl true) H) ∨ ∃v,vs=[v]∧OddM 1152921504606846977 H v∧Q (.bl false) H
theorem lg_50 {R:Int}(h:1≤R) (h2:R≤2^50):lg R≤50:=by
 have h1:R.toNat≠0:=by omega
 have h3:R.toNat.log2<51:=(Nat.log2_lt h1).mpr (by omega)
 unfold lg
 omega
theorem s_fh:¬(("fill" : Str) = "held"):=by decide +kernel
def tfl (w f:Int) (d:Addr):List (Str×V):=putF "held" (.ref d) (putF "fill" (.int f) (putF "wide" (.int w) []))
theorem tfl_held {w f:Int}{d:Addr}:(tfl w f d).lookup ("held" : Str)=some (.ref d):=by
 unfold tfl;rw[lookup_putF,if_pos rfl]
theorem tfl_fill {w f:Int}{d:Addr}:(tfl w f d).lookup ("fill" : Str)=some (.int f):=by
 unfold tfl;rw[lookup_putF,if_neg s_fh,lookup_putF,if_pos rfl]
theorem tfl_no {w f:Int}{d:Addr}{m:Str}(h1:¬ m = "held") (h2:¬ m = "fill") (h3:¬ m = "wide"):(tfl w f d).lookup m=none:=by
 unfold tfl
 rw[lookup_putF,if_neg h1,lookup_putF,if_neg h2,lookup_putF,if_neg h3]
 all_goals rfl
def eV (es:List (Int×Str)):List (Key×V):=(es.map vE).map kf
theorem eV_len {es:List (Int×Str)}:(eV es).length=es.length:=by unfold eV;rw[List.length_map,List.length_map]
theorem eV_keys {es:List (Int×Str)}:(eV es).map (fun kv=>kV kv.1) =(es.map (·.1)).map V.int:=by
 unfold eV;rw[List.map_map,List.map_map,List.map_map];rfl
def unS:V→Str
 | .str z=>z
 | _=>⟨#[]⟩
def uE (e:Int×V):Int×Str:=(e.1,unS e.2)
def okT (es:List (Int×Str)):Prop:=(es.map (·.1)).Nodup∧(∀e∈es,0≤e.1∧e.1<1152921504606846976∧nm e.2)∧es.length≤63
structure Tab (CT:Addr) (H:Hp) (p d:Addr) (w f:Int) (es:List (Int×Str)):Prop where
 ob:∃dx,H p=some (.ins CT dx (tfl w f d))
 dc:H d=some (.dK (eV es))
 ok:okT es
 sz:1≤w∧w≤8∧1≤f∧f≤8
theorem Tab.same {CT:Addr}{H H':Hp}{p d:Addr}{w f:Int}{es:List (Int×Str)}(s:Same H H') (t:Tab CT H p d w f es):Tab CT H' p d w f es:=by
 obtain⟨dx,h⟩:=t.ob
 exact⟨⟨dx,s _ _ h⟩,s _ _ t.dc,t.ok,t.sz⟩
theorem Tab.ne {CT:Addr}{H:Hp}{p d:Addr}{w f:Int}{es:List (Int×Str)}(t:Tab CT H p d w f es):p≠d:=by
 obtain⟨dx,h⟩:=t.ob
 exact ne_of h t.dc (by intro z;cases z)
def rmT (es:List (Int×Str)) (f:Int):Nat:=(rfor es.length f).toNat
theorem rfor_b {m f:Int}(f1:1≤f) (m0:0≤m):1≤rfor m f∧rfor m f≤m+1:=by
 obtain⟨g1,g2,g3⟩:=up_div (g:=rfor m f) (w:=f) (m:=m) f1 m0 rfl
 refine⟨g1,?_⟩
 rcases g3 with z|z
 ·omega
 ·by_cases q:rfor m f≤m+1
  ·exact q
  ·have:(1:Int)*(rfor m f-1)≤f*(rfor m f-1):=Int.mul_le_mul_of_nonneg_right (by omega) (by omega)
   omega
theorem rmT_eq {es:List (Int×Str)}{f:Int}(f1:1≤f):rfor es.length f =(rmT es f:Int)∧1≤rmT es f∧rmT es f≤es.length+1:=by
 have:=rfor_b (m:=es.length) f1 (by omega)
 unfold rmT
 omega
theorem rfor_step {m f:Int}(f1:1≤f) (m0:0≤m):rfor (m+1) f=rfor m f∨rfor (m+1) f=rfor m f+1:=by
 obtain⟨g1,g2,g3⟩:=up_div (g:=rfor m f) (w:=f) (m:=m) f1 m0 rfl
 obtain⟨h1,h2,h3⟩:=up_div (g:=rfor (m+1) f) (w:=f) (m:=m+1) f1 (by omega) rfl
 generalize rfor m f=a at *
 generalize rfor (m+1) f=b at *
 by_cases c:b<a
 ·exfalso
  have:f*b≤f*(a-1):=Int.mul_le_mul_of_nonneg_left (by omega) (by omega)
  rcases g3 with z|z <;> omega
 ·by_cases e:a+1<b
  ·exfalso
   have:f*(a+1)≤f*(b-1):=Int.mul_le_mul_of_nonneg_left (by omega) (by omega)
   have e2:f*(a+1)=f*a+f:=by rw[Int.mul_add,Int.mul_one]
   rcases h3 with z|z <;> omega
  ·omega
def putE (es:List (Int×Str)) (k:Int) (z:Str):List (Int×Str):=if (es.any fun e=>decide (e.1=k))=true then es.map (fun e=>if e.1=k then(e.1,z) else e) else es ++ [(k,z)]
theorem putE_V {es:List (Int×Str)}{k:Int}{z:Str}:putK (eV es) (Sum.inl k:Key) (.str z)=eV (putE es k z):=by
 unfold eV
 rw[putI_map]
 congr 1
 unfold putI putE
 have e:((es.map vE).any fun e=>decide (e.1=k))=es.any fun e=>decide (e.1=k):=by
  rw[List.any_map];rfl
 rw[e]
 split
 ·rw[List.map_map,List.map_map]
  apply List.map_congr_left
  intro x _
  by_cases c:x.1=k
  ·simp[vE,c]
  ·simp[vE,c]
 ·rw[List.map_append];rfl
theorem any_key {es:List (Int×Str)}{k:Int}:(es.any fun e=>decide (e.1=k))=true↔k∈es.map (·.1):=by
 rw[List.any_eq_true,List.mem_map]
 constructor
 ·rintro⟨e,h1,h2⟩;exact⟨e,h1,of_decide_eq_true h2⟩
 ·rintro⟨e,h1,h2⟩;exact⟨e,h1,decide_eq_true h2⟩
theorem putE_keys {es:List (Int×Str)}{k:Int}{z:Str}:(putE es k z).map (·.1)=if k∈es.map (·.1) then es.map (·.1) else es.map (·.1) ++ [k]:=by
 unfold putE
 by_cases c:k∈es.map (·.1)
 ·rw[if_pos (any_key.mpr c),if_pos c,List.map_map]
  apply List.map_congr_left
  intro e _
  by_cases d:e.1=k <;> simp[d]
 ·rw[if_neg (fun h=>c (any_key.mp h)),if_neg c,List.map_append];rfl
theorem putE_len {es:List (Int×Str)}{k:Int}{z:Str}:(putE es k z).length=if k∈es.map (·.1) then es.length else es.length+1:=by
 have:=congrArg List.length (putE_keys (es:=es) (k:=k) (z:=z))
 rw[List.length_map]at this
 rw[this]
 split
 ·rw[List.length_map]
 ·rw[List.length_append,List.length_map];rfl
theorem putE_ok {es:List (Int × Str)} {k:Int} {z:Str} (h:okT es) (k0:0 ≤ k) (k1:k < 1152921504606846976) (hz:nm z) (hl:k ∈ es.map (·.1) ∨ es.length < 63) : okT (putE es k z):=by
  refine ⟨?_,fun e he=>?_,?_⟩
  · rw [putE_keys]
    split
    · exact h.1
    · rename_i c
      rw [List.nodup_append]
      exact ⟨h.1, by simp, fun a ha b hb e => c (by have : b = k := by simpa using hb
                                                    rw [← this,← e]; exact ha)⟩
  · unfold putE at he
    split at he
    · obtain ⟨x,hx,rfl⟩:=List.mem_map.mp he
      have:=h.2.1 x hx
      split
      · exact ⟨this.1,this.2.1,hz⟩
      · exact this
    · rcases List.mem_append.mp he with w | w
      · exact h.2.1 e w
      · rw [List.mem_singleton.mp w]; exact ⟨k0,k1,hz⟩
  · rw [putE_len]
    have:=h.2.2
    split
    · omega
    · rename_i c
      rcases hl with z | z
      · exact absurd z c
      · omega
theorem find_some {es:List (Int×Str)}{k:Int}:(L2.valV (eV es) (Sum.inl k:Key)).isSome=decide (k∈es.map (·.1)):=by
 by_cases c:k∈es.map (·.1)
 ·rw[decide_eq_true c]
  unfold eV
  rw[valI_some (by rw[List.map_map];exact c)];rfl
 ·rw[decide_eq_false c]
  unfold L2.valV
  rw[Option.isSome_map]
  cases e:(eV es).find? fun kv=>decide (kv.1 =(Sum.inl k:Key)) with
  | none=>rfl
  | some p =>
   exfalso
   have h1:=List.mem_of_find?_eq_some e
   have h2:p.1=Sum.inl k:=by simpa using List.find?_some e
   unfold eV at h1
   obtain⟨q,hq,rfl⟩:=List.mem_map.mp h1
   obtain⟨x,hx,rfl⟩:=List.mem_map.mp hq
   exact c (List.mem_map.mpr ⟨x,hx,Sum.inl.inj h2⟩)
def thE (es:List (Int×Str)) (k:Int):Str:=((es.find? fun e=>decide (e.1=k)).map (·.2)).getD ⟨#[]⟩
theorem thE_at:∀{es:List (Int×Str)}{e:Int×Str},(es.map (·.1)).Nodup→e∈es→thE es e.1=e.2
 | [],e,_,h=>by cases h
 | x::es,e,hn,h=>by
  rw[List.map_cons,List.nodup_cons]at hn
  unfold thE
  by_cases c:x.1=e.1
  ·rw[List.find?_cons_of_pos (by simpa using c)]
   rcases List.mem_cons.mp h with z|z
   ·rw[z];rfl
   ·exact absurd (List.mem_map.mpr ⟨e,z,c.symm⟩) hn.1
  ·rw[List.find?_cons_of_neg (by simpa using c)]
   rcases List.mem_cons.mp h with z|z
   ·exact absurd (by rw[z]) c
   ·exact thE_at hn.2 z
theorem valV_thE {es:List (Int×Str)}{k:Int}(h:k∈es.map (·.1)):L2.valV (eV es) (Sum.inl k:Key)=some (.str (thE es k)):=by
 unfold eV
 rw[valI_some (by rw[List.map_map];exact h)]
 congr 1
 unfold valI thE
 rw[List.find?_map]
 obtain⟨e,h1,h2⟩:=List.mem_map.mp h
 cases c:es.find? fun e=>decide (e.1=k) with
 | none =>
  exact absurd (decide_eq_true h2) (by simpa using List.find?_eq_none.mp c e h1)
 | some x =>
  rw[show((fun e:Int×V=>decide (e.1=k)) ∘ vE)=fun e:Int×Str=>decide (e.1=k) from rfl,c];rfl
def Kd (H H':Hp) (d:Addr):Prop:=∀b o,b≠d→H b=some o→H' b=some o
def sp_Table___init__ (K:PySem.W.Frag) (CT:Addr):Sp:=fun vs H Q _=>∃(p dx:Addr) (w f:Int),vs=[.ref p,.int w,.int f]∧H p=some (.ins CT dx [])∧1≤w∧w≤8∧1≤f∧f≤8 ∧
 ∀(d:Addr) (H':Hp),H d=none→Tab CT H' p d w f []→(∀b o,H b=some o→b≠p→H' b=some o)→Q .non H'
def sp_Table_count (K:PySem.W.Frag) (CT:Addr):Sp:=fun vs H Q _=>∃(p d:Addr) (w f:Int) (es:List (Int×Str)),vs=[.ref p]∧Tab CT H p d w f es∧Q (.int es.length) H
def sp_Table_rooms (K:PySem.W.Frag) (CT:Addr):Sp:=fun vs H Q _=>∃(p d:Addr) (w f:Int) (es:List (Int×Str)),vs=[.ref p]∧Tab CT H p d w f es∧Q (.int (rmT es f)) H
def sp_Table_spread_keys (K:PySem.W.Frag) (CT:Addr):Sp:=fun vs H Q _=>∃(p d:Addr) (w f:Int) (es:List (Int×Str)) (R:Nat),vs=[.ref p,.int R]∧Tab CT H p d w f es∧1≤R∧R≤200 ∧
 ∀ms l H',ms.Perm (es.map (·.1))→ms.Pairwise (· ≤ ·)→H l=none→LN H H' l (spreadV ms R)→Same H H'→Q (.ref l) H'
def sp_Table_room_counts (K:PySem.W.Frag) (CT:Addr):Sp:=fun vs H Q _=>∃(p d:Addr) (w f:Int) (es:List (Int×Str)),vs=[.ref p]∧Tab CT H p d w f es ∧
 ∀ms l H',ms.Perm (es.map (·.1))→ms.Pairwise (· ≤ ·)→H l=none→H' l=some (.lst (((spreadV ms (rmT es f)).map fun r=>(r.length:Int)).map V.int))→Same H H'→Q (.ref l) H'
def sp_Table_spill (K:PySem.W.Frag) (CT:Addr):Sp:=fun vs H Q _=>∃(p d:Addr) (w f:Int) (es:List (Int×Str)),vs=[.ref p]∧Tab CT H p d w f es ∧
 ∀ms H',ms.Perm (es.map (·.1))→ms.Pairwise (· ≤ ·)→Same H H'→Q (.int (moreL ((spreadV ms (rmT es f)).map fun r=>(r.length:Int)) w).sum) H'
def sp_Table_longest (K:PySem.W.Frag) (CT:Addr):Sp:=fun vs H Q _=>∃(p d:Addr) (w f:Int) (es:List (Int×Str)),vs=[.ref p]∧Tab CT H p d w f es ∧
 ∀ms M t H',ms.Perm (es.map (·.1))→ms.Pairwise (· ≤ ·)→M∈rowsL ((spreadV ms (rmT es f)).map fun r=>(r.length:Int)) w→(∀z,z∈rowsL ((spreadV ms (rmT es f)).map fun r=>(r.length:Int)) w→z≤M)→Same H H'→H' t=some (.tup [.int M,.int ((rowsL ((spreadV ms (rmT es f)).map fun r=>(r.length:Int)) w).idxOf M:Nat)])→Q (.ref t) H'
def sp_Table_entries (K:PySem.W.Frag) (CT:Addr):Sp:=fun vs H Q _=>∃(p d:Addr) (w f:Int) (es:List (Int×Str)),vs=[.ref p]∧Tab CT H p d w f es ∧
 ∀(ps:List (Int×Str)) (ts:List Addr) (l:Addr) (H':Hp),ps.Perm es→ps.Pairwise (fun a b=>a.1≤b.1)→Same H H'→H l=none→H' l=some (.lst (ts.map V.ref))→EL H' ts ps→Q (.ref l) H'
def sp_Table_room (K:PySem.W.Frag) (CT:Addr):Sp:=fun vs H Q _=>∃(p d:Addr) (w:Nat) (f:Int) (es:List (Int×Str)) (r:Nat),vs=[.ref p,.int r]∧Tab CT H p d w f es∧r<rmT es f ∧
 ∀(ms:List Int) (ts:List Addr) (l:Addr) (H':Hp),ms.Perm (es.map (·.1))→ms.Pairwise (· ≤ ·)→Same H H'→H l=none→EL H' ts ((ms.filter fun k=>decide (roomV k (rmT es f) =(r:Int))).map fun k=>(k,thE es k))→RwsN H H' l (rowsVV (ts.map V.ref) w)→Q (.ref l) H'
def sp_Table_put (K:PySem.W.Frag) (CT:Addr):Sp:=fun vs H Q _=>∃(p d:Addr) (w f:Int) (es:List (Int×Str)) (k:Int) (z:Str),vs=[.ref p,.int k,.str z]∧Tab CT H p d w f es∧0≤k∧k<1152921504606846976∧nm z∧(k∈es.map (·.1)∨es.length<63) ∧
 (∀H',rmT (putE es k z) f=rmT es f→Tab CT H' p d w f (putE es k z)→Kd H H' d→Q .non H') ∧
 ∀(t l:Addr) (ms:List Int) (H':Hp),rmT (putE es k z) f=rmT es f+1→Tab CT H' p d w f (putE es k z)→Kd H H' d→ms.Perm ((putE es k z).map (·.1))→ms.Pairwise (· ≤ ·)→H l=none→H' t=some (.tup [.int ((rmT es f:Int)-2^lg (rmT es f)),.int (rmT es f),.ref l])→H' l=some (.lst ((ms.filter fun k=>decide (roomV k ((rmT es f+1:Nat):Int) =(rmT es f:Int))).map V.int))→Q (.ref t) H'
theorem Tab.sm {CT:Addr}{H H':Hp}{p d:Addr}{w f:Int}{es:List (Int×Str)}(s:Sm H H') (t:Tab CT H p d w f es):Tab CT H' p d w f es:=by
 obtain⟨dx,h⟩:=t.ob
 exact⟨⟨dx,s.nt _ _ h fun _=>nofun⟩,s.nt _ _ t.dc fun _=>nofun,t.ok,t.sz⟩
def keyAt (H:Hp) (v:V):Int:=match v with
 | .ref u=>(match H u with
  | some (.tup (.int k::_))=>rev k 60
  | _=>0)
 | _=>0
theorem keyAt_of {H:Hp}{u:Addr}{k:Int}{xs:List V}(h:H u=some (.tup (.int k::xs))):keyAt H (.ref u)=rev k 60:=by unfold keyAt;simp only[h]
def inB (m o:Int) (e:Int×Str):Bool:=decide (m≤rev e.1 60) && decide (rev e.1 60<o)
def sp_between (K:PySem.W.Frag):Sp:=fun vs H Q _=>∃(l:Addr) (ts:List Addr) (ps:List (Int×Str)) (m o:Int),vs=[.ref l,.int m,.int o]∧H l=some (.lst (ts.map V.ref))∧EL H ts ps∧ps.length≤63∧TB_between K H ∧
 ∀(l':Addr) (ys:List V) (H':Hp),H' l'=some (.lst ys)→ys.length =(ps.filter (inB m o)).length→Sm H H'→TB_between K H'→Q (.ref l') H'
def sp_page (K:PySem.W.Frag) (CT:Addr) : Sp:=fun vs H Q E=>∃ (p d:Addr) (w f:Int) (es:List (Int × Str)) (v:V),vs = [.ref p,v]∧Tab CT H p d w f es∧TB_between K H ∧
  ((∃ m,v = .int m∧0 ≤ m∧m < 1152921504606846976∧∀ t H',Sm H H'→TB_between K H'→Q (.ref t) H') ∨
   (OddM 1152921504606846976 H v∧∀ u C,RelV v u→PySem.W.nsIn K mainGlobals "NoMark" = some (some (.ref C))→E u (some C) H))
def sp_ahead (K:PySem.W.Frag) (CT:Addr) : Sp:=fun vs H Q E=>∃ (p d:Addr) (w f:Int) (es:List (Int × Str)) (v:V),vs = [.ref p,v]∧Tab CT H p d w f es∧TB_between K H ∧
  ((∃ m,v = .int m∧0 ≤ m∧m < 1152921504606846977∧∀ H',Sm H H'→TB_between K H'→Q (.int ((es.filter (inB m 1152921504606846976)).length:Nat)) H') ∨
   (OddM 1152921504606846977 H v∧∀ u C,RelV v u→PySem.W.nsIn K mainGlobals "NoMark" = some (some (.ref C))→E u (some C) H))
def oddW (way:Int) (H:Hp) (v:V):Prop:=(way<2∧OddM 1152921504606846976 H v) ∨(way=2∧OddM 1152921504606846977 H v)
def goodW (way m:Int):Prop:=0≤m∧(m<1152921504606846976∨way=2∧m<1152921504606846977)
def sp__law_asked (K:PySem.W.Frag) (CT:Addr) : Sp:=fun vs H Q _=>∃ (p d:Addr) (w f way R:Int) (es:List (Int × Str)) (v:V),vs = [.int way,.ref p,.int R,v]∧Tab CT H p d w f es∧TB_between K H∧0 ≤ way∧way ≤ 2∧1 ≤ R∧R ≤ 1000 ∧
  ((oddW way H v∧∀ t H',H' t = some (.tup [.str "refused",v])→Same H H'→TB_between K H'→Q (.ref t) H') ∨
   ∃ m,v = .int m∧goodW way m∧∀ t x H',H' t = some (.tup [.str "told",x])→(way = 2→x = .int ((es.filter (inB m 1152921504606846976)).length:Nat))→Sm H H'→TB_between K H'→Q (.ref t) H')
def sp__law_refused (K:PySem.W.Frag):Sp:=fun vs H Q _=>∃(t:Addr) (v:V),vs=[.ref t,v]∧H t=some (.tup [.str "refused",v])∧((∃k,v = .int k)∨NonInt H v)∧∀H',Same H H'→Q (.bl true) H'
theorem plain_any {H:Hp}{v:V}(h:(∃k,v = .int k)∨NonInt H v):plainV v=true:=by
 rcases h with⟨k,rfl⟩|⟨b,rfl⟩|rfl|⟨z,rfl⟩|⟨a,rfl,_⟩ <;> rfl
def K3 (H H':Hp) (p d:Addr):Prop:=∀b o,b≠p→b≠d→H b=some o→H' b=some o
def sp__law_filled (K:PySem.W.Frag) (CT:Addr):Sp:=fun vs H Q _=>∃(p x d:Addr) (w f n:Int) (N:Nat),vs=[.ref p,.ref x,.int n]∧Tab CT H x d w f []∧Hand H p N∧N+30000<2^60∧0≤n∧n≤20 ∧
 ∀(m:Addr) (es:List (Int×Str)) (H':Hp),Tab CT H' x d w f es→H' m=some (.dK (eV es))→K3 H H' p d→Q (.ref m) H'
structure TM (CT x d m p:Addr) (w f:Int) (N:Nat) (es:List (Int×Str)) (H:Hp):Prop where
 tb:Tab CT H x d w f es
 md:H m=some (.dK (eV es))
 hh:Hand H p N
 ne:m≠d
def K4 (H H':Hp) (p d m:Addr):Prop:=∀b o,b≠p→b≠d→b≠m→H b=some o→H' b=some o
theorem K4.trans {H H1 H2:Hp}{p d m:Addr}(a:K4 H H1 p d m) (b:K4 H1 H2 p d m):K4 H H2 p d m:=fun c o h1 h2 h3 h=>b c o h1 h2 h3 (a c o h1 h2 h3 h)
theorem Tab.kp {CT x d p:Addr}{w f:Int}{N:Nat}{es:List (Int×Str)}{H H':Hp}(t:Tab CT H x d w f es) (hh:Hand H p N) (k:Kp H H' p):Tab CT H' x d w f es:=by
 obtain⟨l,a,c,ns,h1,_⟩:=hh.ex
 obtain⟨dx,ho⟩:=t.ob
 exact⟨⟨dx,k.1 _ _ ho (ne_of ho h1 (by intro z;cases z))⟩,k.1 _ _ t.dc (ne_of t.dc h1 (by intro z;cases z)),t.ok,t.sz⟩
theorem TM.draw {CT x d m p:Addr}{w f:Int}{N M:Nat}{es:List (Int×Str)}{H H':Hp}(t:TM CT x d m p w f N es H) (k:Kp H H' p) (hh:Hand H' p M):TM CT x d m p w f M es H':=by
 obtain⟨l,a,c,ns,h1,_⟩:=t.hh.ex
 exact⟨t.tb.kp t.hh k,k.1 _ _ t.md (ne_of t.md h1 (by intro z;cases z)),hh,t.ne⟩
theorem dK_lst {H:Hp}{a b:Addr}{kvs:List (Key×V)}{xs:List V}(h:H a=some (.dK kvs)) (h2:H b=some (.lst xs)):b≠a:=ne_of h2 h (by intro z;cases z)
theorem no_put77 {w f:Int}{d:Addr}:List.lookup (Str.ofString "put") (tfl w f d)=none:=tfl_no (by decide +kernel) (by decide +kernel) (by decide +kernel)
theorem thE_putE {es:List (Int×Str)}{k:Int}{z:Str}(h:((putE es k z).map (·.1)).Nodup):k∈(putE es k z).map (·.1)∧thE (putE es k z) k=z:=by
 have hm:(k,z)∈putE es k z:=by
  unfold putE
  by_cases c:(es.any fun e=>decide (e.1=k))=true
  ·rw[if_pos c]
   obtain⟨e,he,hk⟩:=List.any_eq_true.mp c
   have hk:=of_decide_eq_true hk
   exact List.mem_map.mpr ⟨e,he,by rw[if_pos hk,hk]⟩
  ·rw[if_neg c];exact List.mem_append_right _ (List.mem_singleton.mpr rfl)
 exact⟨List.mem_map.mpr ⟨_,hm,rfl⟩,thE_at h hm⟩
theorem fromN_get {n i:Nat}{pl:Int}(h:(fromN 1 n)[i]? = some pl):pl=1+(i:Int)∧i<n:=by
 have hi:=(List.getElem?_eq_some_iff.mp h).1
 unfold fromN at h hi
 rw[List.length_map,List.length_range]at hi
 rw[List.getElem?_map,List.getElem?_range hi]at h
 exact⟨(Option.some.inj h).symm,hi⟩
def sp__law_places (K:PySem.W.Frag):Sp:=fun vs H Q _=>∃(a:Addr) (ns:List Int) (l m:Int),vs=[.ref a,.int l,.int m]∧SqL K H a (ns.map V.int)∧ns.length≤63∧0≤l∧l≤60∧0≤m∧m≤60 ∧
 ∀(n:Nat) (l':Addr) (H':Hp),n≤60→H l'=none→H' l'=some (.lst ((fromN 1 n).map V.int))→Same H H'→Q (.ref l') H'
theorem ps_eq77 {es ps ps':List (Int×Str)}(nd:(es.map (·.1)).Nodup) (pp:ps.Perm es) (po:ps.Pairwise fun a b=>a.1≤b.1) (pp':ps'.Perm es) (po':ps'.Pairwise fun a b=>a.1≤b.1):ps=ps' :=
 List.Perm.eq_of_pairwise (le:=fun a b=>a.1≤b.1) (fun a b ha hb x y=>by
  have e:a.1=b.1:=by omega
  have h1:=thE_at nd (pp.mem_iff.mp ha)
  have h2:=thE_at nd (pp'.mem_iff.mp hb)
  rw[e]at h1
  exact Prod.ext e (h1.symm.trans h2)) po po' (pp.trans pp'.symm)
theorem gd_el77 {K:PySem.W.Frag}{H:Hp}{l:Addr}{ts:List Addr}{ps:List (Int×Str)}(hl:H l=some (.lst (ts.map V.ref))) (el:EL H ts ps):GD K H 2 (.ref l) (.list (ps.map pE)):=by
 have:=GD.lst (K:=K) hl (gds_en el.en)
 rw[show PyData.list ((ts.map V.ref).map (dE H))=dRow H (ts.map V.ref) from rfl,dRow_pRow el.en,el.row]at this
 exact this
theorem upto_all {es:List (Int×Str)}:(es.filter (inB 0 1152921504606846976)).length=es.length:=by
 rw[List.filter_eq_self.mpr]
 intro e _
 obtain⟨g0,g1⟩:=rev_lt e.1 60
 unfold inB
 rw[decide_eq_true g0,decide_eq_true (by simpa using g1)];rfl
theorem upto_none {es:List (Int×Str)}:(es.filter (inB 1152921504606846976 1152921504606846976)).length=0:=by
 rw[List.filter_eq_nil_iff.mpr];rfl
 intro e _
 unfold inB
 obtain⟨g0,g1⟩:=rev_lt e.1 60
 rw[decide_eq_false (by simp at g1;omega)];simp
def Mk77 (H:Hp) (v:V):Prop:=v = .int 1152921504606846976∨OddM 1152921504606846977 H v
theorem Mk77.same {H H':Hp}{v:V}(h:Mk77 H v) (s:Same H H'):Mk77 H' v:=h.imp id fun h=>h.same s
theorem OddM.sm {b:Int}{H H':Hp}{v:V}(h:OddM b H v) (s:Sm H H'):OddM b H' v:=h.imp id fun h=>h.keep fun a e o ho=>by
 subst e
 refine s.nt _ _ ho fun ps z=>?_
 rw[z]at ho
 rcases h with⟨_,e⟩|e|⟨_,e⟩|⟨c,e,h⟩
 ·cases e
 ·cases e
 ·cases e
 ·cases e
  rcases h with⟨_,h⟩|⟨_,h⟩|h
  ·rw[ho]at h;cases h
  ·rw[ho]at h;cases h
  ·rw[ho]at h;cases h
theorem Mk77.sm {H H':Hp}{v:V}(h:Mk77 H v) (s:Sm H H'):Mk77 H' v:=h.imp id fun h=>h.sm s
theorem OddM.low {H:Hp}{v:V}(h:OddM 1152921504606846977 H v):OddM 1152921504606846976 H v:=h.imp (fun⟨k,e,n⟩=>⟨k,e,by omega⟩) id
theorem Mk77.low {H:Hp}{v:V}(h:Mk77 H v):OddM 1152921504606846976 H v:=by
 rcases h with rfl|h
 ·exact .inl ⟨_,rfl,by omega⟩
 ·exact h.low
theorem Mk77.eqr {K:PySem.W.Frag}{H:Hp}{Q:VK}{v:V}(h:Mk77 H v) (q:Q (.bl (eqAI v 1152921504606846976)) H):rEqAI K v (.int 1152921504606846976) H Q:=by
 refine⟨_,rfl,?_,q⟩
 rcases h with rfl|⟨k,rfl,_⟩|⟨b,rfl⟩|rfl|⟨z,rfl⟩|⟨a,rfl,⟨ns,h⟩|⟨ns,h⟩|h⟩
 ·exact .inl ⟨_,rfl⟩
 ·exact .inl ⟨_,rfl⟩
 ·exact .inr (.inl ⟨_,rfl⟩)
 ·exact .inr (.inr (.inl rfl))
 ·exact .inr (.inr (.inr (.inl ⟨_,rfl⟩)))
 ·exact .inr (.inr (.inr (.inr ⟨a,rfl,.inl ⟨_,SqT.of h⟩⟩)))
 ·exact .inr (.inr (.inr (.inr ⟨a,rfl,.inr (.inl ⟨_,SqL.of h⟩)⟩)))
 ·exact .inr (.inr (.inr (.inr ⟨a,rfl,.inr (.inr ⟨_,h⟩)⟩)))
theorem Mk77.eqv {H:Hp}{v:V}(h:Mk77 H v):(eqAI v 1152921504606846976=true∧v = .int 1152921504606846976) ∨(eqAI v 1152921504606846976=false∧OddM 1152921504606846977 H v):=by
 rcases h with rfl|h
 ·exact .inl ⟨by decide,rfl⟩
 ·refine .inr ⟨?_,h⟩
  rcases h with⟨k,rfl,n⟩|⟨b,rfl⟩|rfl|⟨z,rfl⟩|⟨a,rfl,_⟩
  ·exact decide_eq_false (by omega)
  ·cases b <;> decide
  ·rfl
  ·rfl
  ·rfl
section
variable {P:Program}{w:World}{K:PySem.W.Frag}{mg:Str→Option Value}{base:Heap}
theorem ok_last_bits {f:Addr}{fd:FuncData}(F:Fun K "last_bits" "last_bits" s_last_bits f fd) (mF:mg "last_bits" = some (.ref f)) (bF:Binds K fd ["key", "many"] []) (T:Bl mg)  : Cal P w K mg base "last_bits" ["key", "many"] 1 (sp_last_bits K):=by
 refine Cal.of F mF bF sc_last_bits (fun vs H Q E h=>?_) (fun cdv A outer s H vs Q E hr h=>?_)
 ·obtain⟨k,m,rfl,_⟩:=h;rfl
 obtain⟨k,m,rfl,hm,q⟩:=h
 refine⟨_,(pss_one (ps_ret (pe_op op_mod (pv 0) (pe_op op_shl pe_int (pv 1))))),?_⟩
 rw[st_last_bits]
 have p:=pow2_pos m
 walk_at"rd"
 have e:(1:Int)*2^(m:Int).toNat=2^m:=by rw[Int.one_mul,Int.toNat_natCast]
 rw[e]
 walk_at"rd"
 exact q
theorem ok_level {f:Addr}{fd:FuncData}(F:Fun K "level" "level" s_level f fd) (mF:mg "level" = some (.ref f)) (bF:Binds K fd ["rooms"] []) (T:Bl mg)  : Cal P w K mg base "level" ["rooms"] 1 (sp_level K):=by
 refine Cal.of F mF bF sc_level (fun vs H Q E h=>?_) (fun cdv A outer s H vs Q E hr h=>?_)
 ·obtain⟨R,rfl,_⟩:=h;rfl
 obtain⟨R,rfl,h1,q⟩:=h
 refine⟨_,(pss_one (ps_ret (pe_op op_sub (pe_bm0 PySem.F.plainAttrs_int PySem.F.slot_int_bit_length PySem.F.type_int_bit_length mt_bitlen (pv 0)) pe_int))),?_⟩
 rw[st_level]
 walk_at"rd"
 refine⟨rfl,?_⟩
 walk_at"rd"
 rw[bits_eq h1]
 exact q
theorem ok_turn {f:Addr}{fd:FuncData}(F:Fun K "turn" "turn" s_turn f fd) (mF:mg "turn" = some (.ref f)) (bF:Binds K fd ["rooms"] []) (T:Bl mg) (C_level:Cal P w K mg base "level" ["rooms"] 1 (sp_level K)):Cal P w K mg base "turn" ["rooms"] 2 (sp_turn K):=by
 refine Cal.of F mF bF sc_turn (fun vs H Q E h=>?_) (fun cdv A outer s H vs Q E hr h=>?_)
 ·obtain⟨R,rfl,_⟩:=h;rfl
 obtain⟨R,rfl,h1,h2,q⟩:=h
 have hl:=lg_60 h1 h2
 refine⟨_,(pss_one (ps_ret (pe_op op_sub (pv 0) (pe_op op_shl pe_int (pcl C_level (hr.mono (by decide)) (pa_cons (pv 0) pa_nil stx_Name)))))),?_⟩
 rw[st_turn]
 walk_at"rd"
 refine⟨R,rfl,h1,?_⟩
 walk_at"rd"
 have e:(1:Int)*2^(lg R:Int).toNat=2^lg R:=by rw[Int.one_mul,Int.toNat_natCast]
 rw[e]
 exact q
theorem ok_bits_for {f:Addr}{fd:FuncData}(F:Fun K "bits_for" "bits_for" s_bits_for f fd) (mF:mg "bits_for" = some (.ref f)) (bF:Binds K fd ["room", "rooms"] []) (T:Bl mg) (C_level:Cal P w K mg base "level" ["rooms"] 1 (sp_level K)) (C_turn:Cal P w K mg base "turn" ["rooms"] 2 (sp_turn K)):Cal P w K mg base "bits_for" ["room", "rooms"] 3 (sp_bits_for K):=by
 refine Cal.of F mF bF sc_bits_for (fun vs H Q E h=>?_) (fun cdv A outer s H vs Q E hr h=>?_)
 ·obtain⟨r,R,rfl,_⟩:=h;rfl
 obtain⟨r,R,rfl,h1,h2,q⟩:=h
 have hl:=lg_60 h1 h2
 refine⟨_,(pss_cons (ps_set (i:=2) sc_bits_for.nd rfl (Or.inl rfl) (pcl C_level (hr.mono (by decide)) (pa_cons (pv 1) pa_nil stx_Name)))
   (pss_cons (ps_if (pt_chain op_le op_lt (pcl C_turn (hr.mono (by decide)) (pa_cons (pv 1) pa_nil stx_Name)) (pv 0) (pe_op op_shl pe_int (pv 2))) (pss_one (ps_ret (pv 2))) pss_nil)
   (pss_one (ps_ret (pe_op op_add (pv 2) pe_int))))),?_⟩
 rw[st_bits_for]
 walk_at"rd"
 refine⟨R,rfl,h1,?_⟩
 walk_at"rd"
 refine⟨R,rfl,h1,h2,?_⟩
 walk_at"rd"
 have e:(1:Int)*2^(lg R:Int).toNat=2^lg R:=by rw[Int.one_mul,Int.toNat_natCast]
 refine rd_if (fun c=>?_) (fun c=>?_)
 ·walk_at"rd"
  rw[e]
  refine rd_if (fun d=>?_) (fun d=>?_)
  ·walk_at"rd"
   unfold bitsV at q
   rw[if_pos ⟨c,d⟩]at q
   exact q
  ·walk_at"rd"
   unfold bitsV at q
   rw[if_neg (fun z=>d z.2)]at q
   exact q
 ·walk_at"rd"
  unfold bitsV at q
  rw[if_neg (fun z=>c z.1)]at q
  exact q
theorem ok_room_of {f:Addr}{fd:FuncData}(F:Fun K "room_of" "room_of" s_room_of f fd) (mF:mg "room_of" = some (.ref f)) (bF:Binds K fd ["key", "rooms"] []) (T:Bl mg) (C_last_bits:Cal P w K mg base "last_bits" ["key", "many"] 1 (sp_last_bits K)) (C_bits_for:Cal P w K mg base "bits_for" ["room", "rooms"] 3 (sp_bits_for K)) (C_level:Cal P w K mg base "level" ["rooms"] 1 (sp_level K)):Cal P w K mg base "room_of" ["key", "rooms"] 4 (sp_room_of K):=by
 refine Cal.of F mF bF sc_room_of (fun vs H Q E h=>?_) (fun cdv A outer s H vs Q E hr h=>?_)
 ·obtain⟨k,R,rfl,_⟩:=h;rfl
 obtain⟨k,R,rfl,h1,h2,q⟩:=h
 have hl:=lg_60 h1 h2
 refine⟨_,(pss_one (ps_ret (pcl C_last_bits (hr.mono (by decide)) (pa_cons (pv 0) (pa_cons (pcl C_bits_for (hr.mono (by decide)) (pa_cons (pcl C_last_bits (hr.mono (by decide)) (pa_cons (pv 0) (pa_cons (pcl C_level (hr.mono (by decide)) (pa_cons (pv 1) pa_nil stx_Name)) pa_nil stx_Call) stx_Name)) (pa_cons (pv 1) pa_nil stx_Name) stx_Call)) pa_nil stx_Call) stx_Name)))),?_⟩
 rw[st_room_of]
 walk_at"rd"
 refine⟨R,rfl,h1,?_⟩
 walk_at"rd"
 refine⟨k,lg R,rfl,by omega,?_⟩
 walk_at"rd"
 refine⟨_,R,rfl,h1,h2,?_⟩
 walk_at"rd"
 refine⟨k,bitsV (k%2^lg R) R,rfl,by unfold bitsV;split <;> omega,?_⟩
 rw[bitsV_room]
 exact q
theorem ok_split_of {f:Addr}{fd:FuncData}(F:Fun K "split_of" "split_of" s_split_of f fd) (mF:mg "split_of" = some (.ref f)) (bF:Binds K fd ["rooms"] []) (T:Bl mg) (C_turn:Cal P w K mg base "turn" ["rooms"] 2 (sp_turn K)):Cal P w K mg base "split_of" ["rooms"] 3 (sp_split_of K):=by
 refine Cal.of F mF bF sc_split_of (fun vs H Q E h=>?_) (fun cdv A outer s H vs Q E hr h=>?_)
 ·obtain⟨R,rfl,_⟩:=h;rfl
 obtain⟨R,rfl,h1,h2,q⟩:=h
 refine⟨_,(pss_one (ps_ret (pe_tup (pa_cons (pcl C_turn (hr.mono (by decide)) (pa_cons (pv 0) pa_nil stx_Name)) (pa_cons (pv 0) pa_nil stx_Name) stx_Call)))),?_⟩
 rw[st_split_of]
 walk_at"rd"
 refine⟨R,rfl,h1,h2,?_⟩
 walk_at"rd"
 exact⟨(by show 2≤sizeLine;decide),q⟩
theorem ok_turned {f:Addr}{fd:FuncData}(F:Fun K "turned" "turned" s_turned f fd) (mF:mg "turned" = some (.ref f)) (bF:Binds K fd ["key"] []) (T:Bl mg)  : Cal P w K mg base "turned" ["key"] 1 (sp_turned K):=by
 refine Cal.of F mF bF sc_turned (fun vs H Q E h=>?_) (fun cdv A outer s H vs Q E hr h=>?_)
 ·obtain⟨k,rfl,_⟩:=h;rfl
 obtain⟨k,rfl,q⟩:=h
 refine⟨_,(pss_cons (ps_set (i:=1) sc_turned.nd rfl (Or.inl rfl) pe_int)
   (pss_cons (ps_for PassesOwn.never rfl (pi_range1 rfl T.range (pa_cons (pe_gint rfl T.c_KEY_BITS) pa_nil stx_Name)) (pg_name (i:=2) sc_turned.nd rfl (Or.inl rfl)) (pss_one (ps_set (i:=1) sc_turned.nd rfl (Or.inl rfl) (pe_op op_add (pe_op op_mul (pv 1) pe_int) (pe_op op_mod (pe_op op_shr (pv 0) (pv 2)) pe_int)))))
   (pss_one (ps_ret (pv 1))))),?_⟩
 rw[st_turned]
 walk_at"rd"
 refine⟨60,rfl,by omega,by omega,?_⟩
 refine for_rangeO (n:=60) (fun i σ H'=>(∃x,σ=[some (.int k),some (.int (rev k i)),x])∧H'=H) ⟨⟨_,rfl⟩,rfl⟩ ?_ ?_
 ·rintro i σ H' hi ⟨⟨x,rfl⟩,rfl⟩
  walk_at"rd"
  refine⟨⟨some (.int (0+(i:Int))),?_⟩,rfl⟩
  rw[show(0+(i:Int)).toNat=i by omega]
  rfl
 ·rintro σ H' ⟨⟨x,rfl⟩,rfl⟩
  walk_at"rd"
  exact q
theorem ok_is_whole {f:Addr}{fd:FuncData}(F:Fun K "is_whole" "is_whole" s_is_whole f fd) (mF:mg "is_whole" = some (.ref f)) (bF:Binds K fd ["thing"] []) (T:Bl mg)  : Cal P w K mg base "is_whole" ["thing"] 1 (sp_is_whole K):=by
 refine Cal.of F mF bF sc_is_whole (fun vs H Q E h=>?_) (fun cdv A outer s H vs Q E hr h=>?_)
 ·rcases h with⟨m,rfl,_⟩|⟨v,rfl,_⟩ <;> rfl
 refine⟨_,(pss_one (ps_ret (pe_and (pe_callB call_isinst rfl T.isinstance bt_isinstance (pa_cons (pv 0) (pa_cons (pe_bltn (v:=.ty "int") rfl T.int bt_int rfl) pa_nil stx_Name) stx_Name)) (pe_one (pe_not (pe_callB call_isinst rfl T.isinstance bt_isinstance (pa_cons (pv 0) (pa_cons (pe_bltn (v:=.ty "bool") rfl T.bool bt_bool rfl) pa_nil stx_Name) stx_Name))))))),?_⟩
 rcases h with⟨m,rfl,q⟩|⟨v,rfl,nv,q⟩
 ·rw[st_is_whole]
  walk_at"rd"
  refine rd_isi (.int m) (b:=true) rfl ?_
  walk_at"rd"
  refine rd_isi (.int m) (b:=false) rfl ?_
  walk_at"rd"
  exact q
 ·rw[st_is_whole]
  walk_at"rd"
  rcases nv with⟨b,rfl⟩|rfl|⟨z,rfl⟩|⟨a,rfl,⟨ns,h⟩|⟨ns,h⟩|h⟩
  ·refine rd_isi (.bl b) (b:=true) rfl ?_
   walk_at"rd"
   refine rd_isi (.bl b) (b:=true) rfl ?_
   walk_at"rd"
   exact q
  ·refine rd_isi .non (b:=false) rfl ?_
   walk_at"rd"
   exact q
  ·refine rd_isi (.str z) (b:=false) rfl ?_
   walk_at"rd"
   exact q
  ·refine rd_isi (.tup h) (b:=false) rfl ?_
   walk_at"rd"
   exact q
  ·refine rd_isi (.lst h) (b:=false) rfl ?_
   walk_at"rd"
   exact q
  ·refine rd_isi (.dK h) (b:=false) rfl ?_
   walk_at"rd"
   exact q
theorem ok_is_key {f:Addr}{fd:FuncData}(F:Fun K "is_key" "is_key" s_is_key f fd) (mF:mg "is_key" = some (.ref f)) (bF:Binds K fd ["thing"] []) (T:Bl mg) (C_is_whole:Cal P w K mg base "is_whole" ["thing"] 1 (sp_is_whole K)):Cal P w K mg base "is_key" ["thing"] 2 (sp_is_key K):=by
 refine Cal.of F mF bF sc_is_key (fun vs H Q E h=>?_) (fun cdv A outer s H vs Q E hr h=>?_)
 ·rcases h with⟨m,rfl,_⟩|⟨v,rfl,_⟩ <;> rfl
 refine⟨_,(pss_one (ps_ret (pe_and (pcl C_is_whole (hr.mono (by decide)) (pa_cons (pv 0) pa_nil stx_Name)) (pe_one (pe_chain op_le op_lt pe_int (pv 0) (pe_powC (c:=1152921504606846976) (by decide +kernel) ⟨by decide,by decide,by decide⟩)))))),?_⟩
 rcases h with⟨m,rfl,h0,h1,q⟩|⟨v,rfl,⟨k,rfl,nk⟩|nv,q⟩
 ·rw[st_is_key]
  walk_at"rd"
  refine .inl ⟨m,rfl,?_⟩
  walk_at"rd"
  rw[decide_eq_true h0]
  walk_at"rd"
  rw[decide_eq_true (by omega)]
  exact q
 ·rw[st_is_key]
  walk_at"rd"
  refine .inl ⟨k,rfl,?_⟩
  walk_at"rd"
  by_cases c:0≤k
  ·rw[decide_eq_true c]
   walk_at"rd"
   rw[decide_eq_false (by omega)]
   exact q
  ·rw[decide_eq_false c]
   walk_at"rd"
   exact q
 ·rw[st_is_key]
  walk_at"rd"
  refine .inr ⟨v,rfl,nv,?_⟩
  walk_at"rd"
  exact q
theorem ok_is_name {f:Addr}{fd:FuncData}(F:Fun K "is_name" "is_name" s_is_name f fd) (mF:mg "is_name" = some (.ref f)) (bF:Binds K fd ["thing"] []) (T:Bl mg)  : Cal P w K mg base "is_name" ["thing"] 1 (sp_is_name K):=by
 refine Cal.of F mF bF sc_is_name (fun vs H Q E h=>?_) (fun cdv A outer s H vs Q E hr h=>?_)
 ·obtain⟨z,rfl,_⟩:=h;rfl
 obtain⟨z,rfl,⟨z1,z2,zc⟩,q⟩:=h
 refine⟨_,(pss_one (ps_ret (pe_and (pe_callB call_isinst rfl T.isinstance bt_isinstance (pa_cons (pv 0) (pa_cons (pe_bltn (v:=.ty "str") rfl T.str bt_str rfl) pa_nil stx_Name) stx_Name)) (pe_and (pe_chain op_le op_le pe_int (pe_callB call_lenS rfl T.len bt_len (pa_cons (pv 0) pa_nil stx_Name)) pe_int) (pe_one (pe_callB (call_allL rfl) rfl T.all bt_all (pa_cons (pe_comp rfl (blkOk (sc:=defScope s_is_name) (N:=["thing"]) (vs:=["sign"]) (fs:=[]) (js:=[]) (by decide +kernel) rfl rfl) (pi_str (pv 0)) (fun _ _ _ _=>pg_name (i:=0) (show(["sign"]:List Str).Nodup by decide +kernel) rfl (Or.inl rfl)) (fun _ _ _ _=>pif0) (fun _ _ _ _=>(pe_chain op_le_str op_le_str pe_str (pv 0) pe_str))) pa_nil stx_ListComp))))))),?_⟩
 rw[st_is_name]
 walk_at"rd"
 refine rd_isi (.str z) (b:=true) rfl ?_
 walk_at"rd"
 refine rd_lenS (Nat.le_of_lt (small1000 (by omega))) ?_
 walk_at"rd"
 rw[decide_eq_true (show(1:Int) ≤(z.length:Int) by omega)]
 walk_at"rd"
 rw[decide_eq_true (show(z.length:Int)≤8 by omega)]
 walk_at"rd"
 refine⟨z,rfl,fun D nD=>?_⟩
 refine comp_str (fun i σ' ys H'=>(∃x,σ'=[x])∧i≤z.length∧ys=List.replicate i (V.bl true)∧Same H H'∧H' D=some (.lst ys)) D ?_ ?_ ?_
 ·exact⟨⟨_,rfl⟩,Nat.zero_le _,rfl,same_new nD _,upd_same⟩
 ·rintro i c σ' ys H' hi ⟨⟨y,rfl⟩,il,rfl,g1,g2⟩
  obtain⟨c1,c2⟩:=zc c (Array.mem_of_getElem? hi)
  have il2:i<z.length:=(Array.getElem?_eq_some_iff.mp hi).1
  obtain⟨d1,d2⟩:=lo97 c c1 c2
  walk_at"rd"
  rw[show((⟨#[c]⟩ : Str).cps.toList)=[c] from rfl,show((Str.ofString "a").cps.toList)=[97] by decide +kernel,d1]
  walk_at"rd"
  rw[show((⟨#[c]⟩ : Str).cps.toList)=[c] from rfl,show((Str.ofString "z").cps.toList)=[122] by decide +kernel,d2]
  refine⟨g2,by rw[List.length_replicate];exact small1000 (by omega),⟨_,rfl⟩,by omega,by rw[List.replicate_succ'],fun b o e=>?_,upd_same⟩
  rw[upd_ne (ne_of_none e nD)];exact g1 _ _ e
 ·rintro σ' ys H' ⟨⟨y,rfl⟩,_,rfl,g1,g2⟩
  walk_at"rd"
  rw[show List.replicate z.cps.size (V.bl true) =(List.replicate z.cps.size true).map V.bl by rw[List.map_replicate]]at g2
  refine rd_allL (SqL.of g2) ?_
  rw[List.all_replicate]
  simp
  exact q _ g1
theorem ok_is_size {f:Addr}{fd:FuncData}(F:Fun K "is_size" "is_size" s_is_size f fd) (mF:mg "is_size" = some (.ref f)) (bF:Binds K fd ["thing"] []) (T:Bl mg) (C_is_whole:Cal P w K mg base "is_whole" ["thing"] 1 (sp_is_whole K)):Cal P w K mg base "is_size" ["thing"] 2 (sp_is_size K):=by
 refine Cal.of F mF bF sc_is_size (fun vs H Q E h=>?_) (fun cdv A outer s H vs Q E hr h=>?_)
 ·obtain⟨m,rfl,_⟩:=h;rfl
 obtain⟨m,rfl,h0,h1,q⟩:=h
 refine⟨_,(pss_one (ps_ret (pe_and (pcl C_is_whole (hr.mono (by decide)) (pa_cons (pv 0) pa_nil stx_Name)) (pe_one (pe_chain op_le op_le pe_int (pv 0) pe_int))))),?_⟩
 rw[st_is_size]
 walk_at"rd"
 refine .inl ⟨m,rfl,?_⟩
 walk_at"rd"
 rw[decide_eq_true h0]
 walk_at"rd"
 rw[decide_eq_true h1]
 exact q
theorem ok_is_mark {f:Addr}{fd:FuncData}(F:Fun K "is_mark" "is_mark" s_is_mark f fd) (mF:mg "is_mark" = some (.ref f)) (bF:Binds K fd ["thing"] []) (T:Bl mg) (C_is_whole:Cal P w K mg base "is_whole" ["thing"] 1 (sp_is_whole K)):Cal P w K mg base "is_mark" ["thing"] 2 (sp_is_mark K):=by
 refine Cal.of F mF bF sc_is_mark (fun vs H Q E h=>?_) (fun cdv A outer s H vs Q E hr h=>?_)
 ·rcases h with⟨m,rfl,_⟩|⟨v,rfl,_⟩ <;> rfl
 refine⟨_,(pss_one (ps_ret (pe_and (pcl C_is_whole (hr.mono (by decide)) (pa_cons (pv 0) pa_nil stx_Name)) (pe_one (pe_chain op_le op_le pe_int (pv 0) (pe_gint rfl T.c_END)))))),?_⟩
 rcases h with⟨m,rfl,h0,h1,q⟩|⟨v,rfl,⟨k,rfl,nk⟩|nv,q⟩
 ·rw[st_is_mark]
  walk_at"rd"
  refine .inl ⟨m,rfl,?_⟩
  walk_at"rd"
  rw[decide_eq_true h0]
  walk_at"rd"
  rw[decide_eq_true (by omega)]
  exact q
 ·rw[st_is_mark]
  walk_at"rd"
  refine .inl ⟨k,rfl,?_⟩
  walk_at"rd"
  by_cases c:0≤k
  ·rw[decide_eq_true c]
   walk_at"rd"
   rw[decide_eq_false (by omega)]
   exact q
  ·rw[decide_eq_false c]
   walk_at"rd"
   exact q
 ·rw[st_is_mark]
  walk_at"rd"
  refine .inr ⟨v,rfl,nv,?_⟩
  walk_at"rd"
  exact q
theorem ok_stretch_of {f:Addr}{fd:FuncData}(F:Fun K "stretch_of" "stretch_of" s_stretch_of f fd) (mF:mg "stretch_of" = some (.ref f)) (bF:Binds K fd ["room", "rooms"] []) (T:Bl mg) (C_turned:Cal P w K mg base "turned" ["key"] 1 (sp_turned K)) (C_bits_for:Cal P w K mg base "bits_for" ["room", "rooms"] 3 (sp_bits_for K)):Cal P w K mg base "stretch_of" ["room", "rooms"] 4 (sp_stretch_of K):=by
 refine Cal.of F mF bF sc_stretch_of (fun vs H Q E h=>?_) (fun cdv A outer s H vs Q E hr h=>?_)
 ·obtain⟨r,R,rfl,_⟩:=h;rfl
 obtain⟨r,R,rfl,h1,h2,q⟩:=h
 have hl:=lg_50 h1 h2
 have hb:=bitsV_le (r:=r) (R:=R)
 refine⟨_,(pss_cons (ps_set (i:=2) sc_stretch_of.nd rfl (Or.inl rfl) (pcl C_turned (hr.mono (by decide)) (pa_cons (pv 0) pa_nil stx_Name)))
   (pss_one (ps_ret (pe_tup (pa_cons (pv 2) (pa_cons (pe_op op_add (pv 2) (pe_op op_shl pe_int (pe_op op_sub (pe_gint rfl T.c_KEY_BITS) (pcl C_bits_for (hr.mono (by decide)) (pa_cons (pv 0) (pa_cons (pv 1) pa_nil stx_Name) stx_Name))))) pa_nil stx_BinOp) stx_Name))))),?_⟩
 rw[st_stretch_of]
 walk_at"rd"
 refine⟨r,rfl,?_⟩
 walk_at"rd"
 refine⟨r,R,rfl,h1,by omega,?_⟩
 walk_at"rd"
 have e:(1:Int)*2^(60-(bitsV r R:Int)).toNat=2^(60-bitsV r R):=by
  rw[Int.one_mul,show(60-(bitsV r R:Int)).toNat=60-bitsV r R by omega]
 rw[e]
 walk_at"rd"
 refine⟨(by show 2≤sizeLine;decide),fun t nt=>q t _ nt upd_same (same_new nt _)⟩
theorem ok_room_at {f:Addr}{fd:FuncData}(F:Fun K "room_at" "room_at" s_room_at f fd) (mF:mg "room_at" = some (.ref f)) (bF:Binds K fd ["mark", "rooms"] []) (T:Bl mg) {TE:Addr}{CE_NoMark:Addr}(XE_NoMark:XTxt K mg "NoMark" CE_NoMark TE "mark")  (C_room_of:Cal P w K mg base "room_of" ["key", "rooms"] 4 (sp_room_of K)) (C_is_key:Cal P w K mg base "is_key" ["thing"] 2 (sp_is_key K)) (C_turned:Cal P w K mg base "turned" ["key"] 1 (sp_turned K)):Cal1 P w K mg base "room_at" ["mark", "rooms"] 5 (sp_room_at K):=by
 refine Cal1.of F mF bF sc_room_at (fun vs H Q E h=>?_) (fun cdv A outer s H vs Q E hr h=>?_)
 ·obtain⟨v,R,rfl,_⟩:=h;rfl
 obtain⟨v,R,rfl,h1,h2,h⟩:=h
 refine⟨_,(pss_cons (ps_if (pt_not (pt_val (pcl C_is_key (hr.mono (by decide)) (pa_cons (pv 0) pa_nil stx_Name)))) (pss_one (ps_raise1 (k:=0) throws_def XE_NoMark.cls (hr.mono (by decide)) rfl XE_NoMark.mg (pa_cons (pv 0) pa_nil stx_Name))) pss_nil)
   (pss_one (ps_ret (pcl C_room_of (hr.mono (by decide)) (pa_cons (pcl C_turned (hr.mono (by decide)) (pa_cons (pv 0) pa_nil stx_Name)) (pa_cons (pv 1) pa_nil stx_Name) stx_Call))))),?_⟩
 rw[st_room_at]
 walk_at"rd"
 rcases h with⟨m,rfl,m0,m1,q⟩|⟨ov,q⟩
 ·refine .inl ⟨m,rfl,m0,m1,?_⟩
  walk_at"rd"
  refine⟨m,rfl,?_⟩
  walk_at"rd"
  refine⟨_,R,rfl,h1,by omega,?_⟩
  exact q
 ·refine .inr ⟨v,rfl,ov,?_⟩
  walk_at"rd"
  exact⟨_,rfl,fun u ru=>q u _ ru XE_NoMark.nm⟩
theorem ok_ask_sizes {f:Addr}{fd:FuncData}(F:Fun K "ask_sizes" "ask_sizes" s_ask_sizes f fd) (mF:mg "ask_sizes" = some (.ref f)) (bF:Binds K fd ["wide", "fill"] []) (T:Bl mg) (C_is_size:Cal P w K mg base "is_size" ["thing"] 2 (sp_is_size K)):Cal P w K mg base "ask_sizes" ["wide", "fill"] 3 (sp_ask_sizes K):=by
 refine Cal.of F mF bF sc_ask_sizes (fun vs H Q E h=>?_) (fun cdv A outer s H vs Q E hr h=>?_)
 ·obtain⟨w,f,rfl,_⟩:=h;rfl
 obtain⟨w,f,rfl,w1,w2,f1,f2,q⟩:=h
 refine⟨_,(pss_cons (ps_if (pt_not (pt_val (pcl C_is_size (hr.mono (by decide)) (pa_cons (pv 0) pa_nil stx_Name)))) (pss_one ps_dead) pss_nil)
   (pss_one (ps_if (pt_not (pt_val (pcl C_is_size (hr.mono (by decide)) (pa_cons (pv 1) pa_nil stx_Name)))) (pss_one ps_dead) pss_nil))),?_⟩
 rw[st_ask_sizes]
 walk_at"rd"
 refine⟨w,rfl,w1,w2,?_⟩
 walk_at"rd"
 refine⟨f,rfl,f1,f2,?_⟩
 walk_at"rd"
 exact q
theorem ok_ask_key {f:Addr}{fd:FuncData}(F:Fun K "ask_key" "ask_key" s_ask_key f fd) (mF:mg "ask_key" = some (.ref f)) (bF:Binds K fd ["key"] []) (T:Bl mg) (C_is_key:Cal P w K mg base "is_key" ["thing"] 2 (sp_is_key K)):Cal P w K mg base "ask_key" ["key"] 3 (sp_ask_key K):=by
 refine Cal.of F mF bF sc_ask_key (fun vs H Q E h=>?_) (fun cdv A outer s H vs Q E hr h=>?_)
 ·obtain⟨k,rfl,_⟩:=h;rfl
 obtain⟨k,rfl,k0,k1,q⟩:=h
 refine⟨_,(pss_one (ps_if (pt_not (pt_val (pcl C_is_key (hr.mono (by decide)) (pa_cons (pv 0) pa_nil stx_Name)))) (pss_one ps_dead) pss_nil)),?_⟩
 rw[st_ask_key]
 walk_at"rd"
 refine .inl ⟨k,rfl,k0,k1,?_⟩
 walk_at"rd"
 exact q
theorem ok_ask_entry {f:Addr}{fd:FuncData}(F:Fun K "ask_entry" "ask_entry" s_ask_entry f fd) (mF:mg "ask_entry" = some (.ref f)) (bF:Binds K fd ["key", "thing"] []) (T:Bl mg) (C_ask_key:Cal P w K mg base "ask_key" ["key"] 3 (sp_ask_key K)) (C_is_name:Cal P w K mg base "is_name" ["thing"] 1 (sp_is_name K)):Cal P w K mg base "ask_entry" ["key", "thing"] 4 (sp_ask_entry K):=by
 refine Cal.of F mF bF sc_ask_entry (fun vs H Q E h=>?_) (fun cdv A outer s H vs Q E hr h=>?_)
 ·obtain⟨k,z,rfl,_⟩:=h;rfl
 obtain⟨k,z,rfl,k0,k1,hz,q⟩:=h
 refine⟨_,(pss_cons (ps_expr (pcl C_ask_key (hr.mono (by decide)) (pa_cons (pv 0) pa_nil stx_Name)))
   (pss_one (ps_if (pt_not (pt_val (pcl C_is_name (hr.mono (by decide)) (pa_cons (pv 1) pa_nil stx_Name)))) (pss_one ps_dead) pss_nil))),?_⟩
 rw[st_ask_entry]
 walk_at"rd"
 refine⟨k,rfl,k0,k1,?_⟩
 walk_at"rd"
 refine⟨z,rfl,hz,fun H1 s1=>?_⟩
 walk_at"rd"
 exact q H1 s1
theorem ok_spread {f:Addr}{fd:FuncData}(F:Fun K "spread" "spread" s_spread f fd) (mF:mg "spread" = some (.ref f)) (bF:Binds K fd ["keys", "rooms"] []) (T:Bl mg) (C_room_of:Cal P w K mg base "room_of" ["key", "rooms"] 4 (sp_room_of K)):Cal P w K mg base "spread" ["keys", "rooms"] 5 (sp_spread K):=by
 refine Cal.of F mF bF sc_spread (fun vs H Q E h=>?_) (fun cdv A outer s H vs Q E hr h=>?_)
 ·obtain⟨a,ns,R,rfl,_⟩:=h;rfl
 obtain⟨a,ns,R,rfl,ha,hl,r1,r2,q⟩:=h
 refine⟨_,(pss_cons (ps_setc (i:=2) sc_spread.nd rfl rfl rfl (blkOk (sc:=defScope s_spread) (N:=["keys", "rooms", "told", "key"]) (vs:=["room"]) (fs:=[]) (js:=[]) (by decide +kernel) rfl rfl) (pi_range1 rfl T.range (pa_cons (pv 1) pa_nil stx_Name)) (fun _ _ _ _=>pg_name (i:=0) (show(["room"]:List Str).Nodup by decide +kernel) rfl (Or.inl rfl)) (fun _ _ _ _=>pif0) (fun _ _ _ _=>(pe_lst pa_nil)))
   (pss_cons (ps_for PassesOwn.never rfl (pi_list (pe_callB call_sortL rfl T.sorted bt_sorted (pa_cons (pv 0) pa_nil stx_Name))) (pg_name (i:=3) sc_spread.nd rfl (Or.inl rfl)) (pss_one (ps_expr (pe_bm PySem.F.plainAttrs_list PySem.F.slot_list_append PySem.F.type_list_append mt_append (pe_ix ix_list (pv 2) (pcl C_room_of (hr.mono (by decide)) (pa_cons (pv 3) (pa_cons (pv 1) pa_nil stx_Name) stx_Name)) (fun _ _=>rfl)) (pa_cons (pv 3) pa_nil stx_Name)))))
   (pss_one (ps_ret (pv 2))))),?_⟩
 rw[st_spread]
 walk_at"rd"
 refine⟨R,rfl,by omega,by omega,fun D nD=>?_⟩
 rw[Int.toNat_natCast]
 refine comp_range (n:=R) (fun i σ' ys H'=>(∃x,σ'=[x])∧Same H H'∧∃as:List Addr,ys=as.map V.ref∧H' D=some (.lst ys)∧Ls H' as (List.replicate i [])∧as.Nodup∧∀b∈as,H b=none∧b≠D) D ⟨⟨_,rfl⟩,same_new nD _,[],rfl,upd_same,trivial,List.nodup_nil,fun _ h=>by(cases h)⟩ ?_ ?_
 ·rintro i σ' ys H1 hi ⟨⟨x,rfl⟩,s1,as,rfl,hD,hL,hn,h4⟩
  walk_at"rd"
  refine⟨by decide,fun b nb=>?_⟩
  generalize hE:upd H1 b _=H2
  obtain⟨hb,s2⟩:=newo nb hE
  clear hE
  have bD:b≠D:=by intro e;rw[e,hD]at nb;cases nb
  have bas:b∉as:=fun m=>by
   obtain⟨r,_,e⟩:=hL.mem m
   rw[e]at nb;cases nb
  have al:=hL.rep
  refine⟨s2 _ _ hD,by rw[List.length_map,al];exact small1000 (by omega),⟨_,rfl⟩,fun c o e=>?_,as ++ [b],by rw[List.map_append];rfl,upd_same,?_,?_⟩
  ·rw[upd_ne (ne_of_none e nD)];exact s2 _ _ (s1 _ _ e)
  ·rw[List.replicate_succ']
   exact Ls.snoc (r:=[]) (by rw[upd_ne bD];exact hb) (hL.same fun c hc o e=>by rw[upd_ne (h4 c hc).2];exact s2 _ _ e)
  ·refine⟨?_,fun c hc=>?_⟩
   ·rw[List.nodup_append]
    exact⟨hn,by simp,fun x hx y hy e=>by simp at hy;rw[hy]at e;exact bas (e ▸ hx)⟩
   ·rcases List.mem_append.mp hc with m|m
    ·exact h4 c m
    ·rw[List.mem_singleton.mp m];exact⟨s1.free nb,bD⟩
 ·rintro σ' ys H1 ⟨⟨x,rfl⟩,s1,as,rfl,hD,hL,hn,h4⟩
  have hL:Ls H1 as (spreadV [] R):=by rw[spreadV_nil];exact hL
  walk_at"rd"
  refine rd_sortL (SqL.of (s1 _ _ ha)) (by omega) fun ms e p1 p2 ne=>?_
  generalize hE:upd H1 e _=H2
  obtain⟨he,s2⟩:=newo ne hE
  clear hE
  have eas:∀b∈as,b≠e:=fun b m z=>by
   obtain⟨r,_,hb⟩:=hL.mem m
   rw[z,ne]at hb;cases hb
  have ml:ms.length≤63:=by rw[p1.length_eq];exact hl
  have eD:D≠e:=fun z=>by rw[← z,hD]at ne;cases ne
  refine⟨e,rfl,⟨_,SqL.of he⟩,?_⟩
  refine for_listO (xs:=ms.map V.int) (fun i σ H'=>(∃x,σ=[some (.ref a),some (.int R),some (.ref D),x])∧Same H H'∧H' e=some (.lst (ms.map V.int))∧H' D=some (.lst (as.map V.ref))∧Ls H' as (spreadV (ms.take i) R)) ⟨⟨_,rfl⟩,s1.trans s2,he,s2 _ _ hD,hL.same fun b _ o=>s2 b o⟩ (fun _ _ _ _ h=>SqL.of h.2.2.1) ?_ ?_
  ·rintro i x σ H3 hx ⟨⟨x1,rfl⟩,s3,he3,hD3,hL3⟩
   obtain⟨k,hk,rfl⟩:=ints_get hx
   have il:=(List.getElem?_eq_some_iff.mp hk).1
   have rb:=roomV_lt (k:=k) (R:=R) (by omega)
   obtain⟨j,hj,jl⟩ : ∃j:Nat,roomV k R =(j:Int)∧j<R:=⟨(roomV k R).toNat,by omega,by omega⟩
   obtain⟨b,hb⟩ : ∃b,as[j]? = some b:=⟨_,List.getElem?_eq_getElem (show j<as.length by rw[hL3.len,spreadV_len];exact jl)⟩
   obtain⟨r,hr1,hbr⟩:=hL3.get hb
   have hr2:r =(ms.take i).filter fun k=>decide (roomV k R =(j:Int)):=by
    rw[spreadV_at jl]at hr1
    exact(Option.some.inj hr1).symm
   have hm:=List.mem_of_getElem? hb
   walk_at"rd"
   refine⟨k,R,rfl,by omega,by omega,?_⟩
   rw[hj]
   refine rd_ixL (SqL.of hD3) (at_ref' hb) ?_
   walk_at"rd"
   refine⟨.inl ⟨rfl,_,SqL.of hbr⟩,?_⟩
   walk_at"rd"
   refine⟨b,_,_,rfl,rfl,hbr,?_,?_⟩
   ·rw[List.length_map,hr2]
    refine small1000 (Nat.le_trans (List.length_filter_le _ _) ?_)
    rw[List.length_take];omega
   walk_at"rd"
   refine⟨⟨_,rfl⟩,fun c o e=>?_,?_,?_,?_⟩
   ·rw[upd_ne (ne_of_none e (h4 b hm).1)];exact s3 _ _ e
   ·rw[upd_ne (eas b hm).symm];exact he3
   ·rw[upd_ne (h4 b hm).2.symm];exact hD3
   ·rw[take_get hk,spreadV_push hj jl,← hr2]
    have:=hL3.set (r:=r ++ [k]) hn hb
    rw[List.map_append]at this
    exact this
  ·rintro σ H3 ⟨⟨x1,rfl⟩,s3,he3,hD3,hL3⟩
   rw[List.length_map,List.take_length]at hL3
   walk_at"rd"
   exact q ms D H3 p1 p2 nD ⟨as,hD3,hL3,hn,h4⟩ s3
theorem ok_rooms_for {f:Addr}{fd:FuncData}(F:Fun K "rooms_for" "rooms_for" s_rooms_for f fd) (mF:mg "rooms_for" = some (.ref f)) (bF:Binds K fd ["count", "fill"] []) (T:Bl mg)  : Cal P w K mg base "rooms_for" ["count", "fill"] 1 (sp_rooms_for K):=by
 refine Cal.of F mF bF sc_rooms_for (fun vs H Q E h=>?_) (fun cdv A outer s H vs Q E hr h=>?_)
 ·obtain⟨m,w,rfl,_⟩:=h;rfl
 obtain⟨m,w,rfl,h1,h2,q⟩:=h
 refine⟨_,(pss_one (ps_ret (pe_callB (call_maxI rfl) rfl T.max bt_max (pa_cons pe_int (pa_cons (pe_op op_fdivB (pe_op op_sub (pe_op op_add (pv 0) (pv 1)) pe_int) (pv 1)) pa_nil stx_BinOp) stx_Constant)))),?_⟩
 rw[st_rooms_for]
 walk_at"rd"
 exact q
theorem ok_Table___init__ {f:Addr}{fd:FuncData}{CT:Addr}(F:Fun K "__init__" "Table.__init__" s_Table___init__ f fd) (mF:Mk K CT f) (bF:Binds K fd ["self", "wide", "fill"] []) (T:Bl mg) (TC:Txt_Table K mg CT) (C_ask_sizes:Cal P w K mg base "ask_sizes" ["wide", "fill"] 3 (sp_ask_sizes K)):KCal P w K mg base "Table" CT ["self", "wide", "fill"] 4 (sp_Table___init__ K CT):=by
 refine KCal.of F mF TC.mg bF sc_Table___init__ (fun vs H Q E h=>?_) (fun cdv A outer s H vs Q E hr h=>?_)
 ·obtain⟨p,dx,w,f,rfl,_⟩:=h;rfl
 obtain⟨p,dx,w,f,rfl,hp,w1,w2,f1,f2,q⟩:=h
 refine⟨_,(pss_cons (ps_expr (pcl C_ask_sizes (hr.mono (by decide)) (pa_cons (pv 1) (pa_cons (pv 2) pa_nil stx_Name) stx_Name)))
   (pss_cons (ps_fld (pv 0) (pv 1) rfl)
   (pss_cons (ps_fld (pv 0) (pv 2) rfl)
   (pss_one (ps_fld (pv 0) pe_dnewK rfl))))),?_⟩
 rw[st_Table___init__]
 walk_at"rd"
 refine⟨w,f,rfl,w1,w2,f1,f2,?_⟩
 walk_at"rd"
 refine⟨p,CT,dx,[],rfl,hp,TC.cl,TC.n_wide,(by show 0<1000;decide),?_⟩
 walk_at"rd"
 refine⟨p,CT,dx,_,rfl,upd_same,TC.cl,TC.n_fill,(by show 1<1000;decide),?_⟩
 walk_at"rd"
 intro d nd
 walk_at"rd"
 have npd:p≠d:=by
  intro z
  rw[← z,upd_same]at nd;cases nd
 have nd0:H d=none:=by
  rw[upd_ne npd.symm,upd_ne npd.symm]at nd;exact nd
 refine⟨p,CT,dx,_,rfl,by rw[upd_ne npd,upd_same],TC.cl,TC.n_held,?_,?_⟩
 ·have:=length_putF (Str.ofString "fill") (V.int f) (putF (Str.ofString "wide") (V.int w) [])
  have h2:=length_putF (Str.ofString "wide") (V.int w) []
  have h3:([]:List (Str×V)).length=0:=rfl
  omega
 ·walk_at"rd"
  refine q d _ nd0 ⟨⟨dx,upd_same⟩,?_,⟨List.nodup_nil,(fun _ h=>by cases h),Nat.zero_le _⟩,w1,w2,f1,f2⟩ fun b o e hb=>?_
  ·rw[upd_ne npd.symm,upd_same];rfl
  ·rw[upd_ne hb,upd_ne (ne_of_none e nd0),upd_ne hb,upd_ne hb];exact e
theorem ok_Table_put {f:Addr}{fd:FuncData}{CT:Addr}(F:Fun K "put" "Table.put" s_Table_put f fd) (mF:Meth K CT "put" f) (bF:Binds K fd ["self", "key", "thing"] []) (T:Bl mg) (TC:Txt_Table K mg CT) (C_Table_rooms:MCal P w K mg base CT "rooms" ["self"] 2 (sp_Table_rooms K CT)) (C_Table_count:MCal P w K mg base CT "count" ["self"] 1 (sp_Table_count K CT)) (C_Table_spread_keys:MCal P w K mg base CT "spread_keys" ["self", "rooms"] 6 (sp_Table_spread_keys K CT)) (C_ask_entry:Cal P w K mg base "ask_entry" ["key", "thing"] 4 (sp_ask_entry K)) (C_split_of:Cal P w K mg base "split_of" ["rooms"] 3 (sp_split_of K)):MCal P w K mg base CT "put" ["self", "key", "thing"] 7 (sp_Table_put K CT):=by
 refine MCal.of F mF bF sc_Table_put (fun vs H Q E h=>?_) (fun cdv A outer s H vs Q E hr h=>?_)
 ·obtain⟨p,d,w,f,es,k,z,rfl,_⟩:=h;rfl
 obtain⟨p,d,w,f,es,k,z,rfl,t,k0,k1,hz,hl,qa,qb⟩:=h
 obtain⟨w1,w2,f1,f2⟩:=t.sz
 obtain⟨_,r1,r2⟩:=rmT_eq (es:=es) f1
 have ln:=t.ok.2.2
 have hu1:=hu_of hr
 have npd:=t.ne
 refine⟨_,(pss_cons (ps_expr (pcl C_ask_entry (hr.mono (by decide)) (pa_cons (pv 1) (pa_cons (pv 2) pa_nil stx_Name) stx_Name)))
   (pss_cons (ps_cut (ps_if (PW.pt (pw_and (pt_cmp (pc_dnotin hu1 (pv 1) (pe_fld (pv 0) rfl))) (pw_and1 (pt_cmpR op_ge (pml0 C_Table_count TC.cl (hr.mono (by decide)) (pv 0)) (pe_gint rfl T.c_MOST_KEYS) (nomark _))))) (pss_one ps_dead) pss_nil))
   (pss_cons (ps_set (i:=3) sc_Table_put.nd rfl (Or.inl rfl) (pml0 C_Table_rooms TC.cl (hr.mono (by decide)) (pv 0)))
   (pss_cons (ps_dput hu1 (pe_fld (pv 0) rfl) (pv 1) (pv 2) rfl)
   (pss_cons (ps_if (pt_cmpR op_eq (pml0 C_Table_rooms TC.cl (hr.mono (by decide)) (pv 0)) (pv 3) (nomark _)) (pss_one (ps_ret pe_non)) pss_nil)
   (pss_cons (ps_asg (pcl C_split_of (hr.mono (by decide)) (pa_cons (pv 3) pa_nil stx_Name)) (pg_tup rfl (pgs_cons (pg_name (i:=4) sc_Table_put.nd rfl (Or.inl rfl)) (pgs_cons (pg_name (i:=5) sc_Table_put.nd rfl (Or.inl rfl)) pgs_nil))))
   (pss_one (ps_ret (pe_tup (pa_cons (pv 4) (pa_cons (pv 5) (pa_cons (pe_ix ix_list (pml C_Table_spread_keys TC.cl (hr.mono (by decide)) (pv 0) (pa_cons (pe_op op_add (pv 5) pe_int) pa_nil stx_BinOp)) (pv 5) (fun _ _=>rfl)) pa_nil stx_Subscript) stx_Name) stx_Name)))))))))),?_⟩
 rw[st_Table_put]
 walk_at"rd"
 refine⟨k,z,rfl,k0,k1,hz,fun H1 s1=>?_⟩
 have t1:=t.same s1
 obtain⟨dx,ho⟩:=t1.ob
 walk_at"rd"
 refine⟨fun σ H'=>H'=H1∧σ=[some (.ref p),some (.int k),some (.str z),none,none,none],?_,?_⟩
 ·walk_at"rd"
  refine⟨p,CT,dx,_,_,rfl,ho,TC.cl,TC.n_held,tfl_held,?_⟩
  refine⟨d,_,rfl,DGet.k (k:=Sum.inl k) t1.dc,?_⟩
  rw[find_some]
  by_cases c:k∈es.map (·.1)
  ·rw[decide_eq_true c]
   walk_at"rd"
   exact⟨rfl,rfl⟩
  ·rw[decide_eq_false c]
   walk_at"rd"
   refine⟨p,dx,_,rfl,ho,tfl_no (by decide +kernel) (by decide +kernel) (by decide +kernel),?_⟩
   walk_at"rd"
   refine⟨p,d,w,f,es,rfl,t1,?_⟩
   have l64:es.length<63:=hl.resolve_left c
   walk_at"rd"
   refine rd_if (fun c=>absurd c (by omega)) (fun _=>?_)
   walk_at"rd"
   exact⟨rfl,rfl⟩
 rintro σ H' ⟨rfl,rfl⟩
 walk_at"rd"
 refine⟨p,dx,_,rfl,ho,tfl_no (by decide +kernel) (by decide +kernel) (by decide +kernel),?_⟩
 walk_at"rd"
 refine⟨p,d,w,f,es,rfl,t1,?_⟩
 walk_at"rd"
 refine⟨p,CT,dx,_,_,rfl,ho,TC.cl,TC.n_held,tfl_held,?_⟩
 walk_at"rd"
 refine⟨d,_,rfl,DPut.k (k:=Sum.inl k) t1.dc (by rw[eV_len];exact small1000 (by omega)),?_⟩
 rw[putE_V]
 have t2:Tab CT (upd H' d (.dK (eV (putE es k z)))) p d w f (putE es k z):=⟨⟨dx,by rw[upd_ne npd];exact ho⟩,upd_same,putE_ok t.ok k0 k1 hz hl,t.sz⟩
 have kd2:Kd H (upd H' d (.dK (eV (putE es k z)))) d:=fun b o n e=>by rw[upd_ne n];exact s1 _ _ e
 have fr2:∀b,(upd H' d (.dK (eV (putE es k z)))) b=none→H b=none:=fun b n=>by
  refine s1.free ?_
  rw[upd_ne (show b≠d from fun e=>by rw[e,upd_same]at n;cases n)]at n
  exact n
 generalize upd H' d (.dK (eV (putE es k z)))=H2 at t2 kd2 fr2 ⊢
 obtain⟨dx2,ho2⟩:=t2.ob
 have l2:=t2.ok.2.2
 walk_at"rd"
 refine⟨p,dx2,_,rfl,ho2,tfl_no (by decide +kernel) (by decide +kernel) (by decide +kernel),?_⟩
 walk_at"rd"
 refine⟨p,d,w,f,putE es k z,rfl,t2,?_⟩
 walk_at"rd"
 refine rd_if (fun c=>?_) (fun c=>?_)
 ·walk_at"rd"
  exact qa H2 (by omega) t2 kd2
 ·have step:rmT (putE es k z) f=rmT es f+1:=by
   have e1:=(rmT_eq (es:=es) f1).1
   have e2:=(rmT_eq (es:=putE es k z) f1).1
   rw[putE_len]at e2
   split at e2
   ·omega
   ·have st:=rfor_step (m:=es.length) (f:=f) f1 (by omega)
    have ec:((es.length+1:Nat):Int) =(es.length:Int)+1:=by omega
    rw[ec]at e2
    omega
  walk_at"rd"
  refine⟨_,rfl,by omega,by omega,fun tp np=>?_⟩
  generalize hE:upd H2 tp _=H3
  obtain⟨htp,s3⟩:=newo np hE
  clear hE
  refine⟨tp,_,rfl,SqT.of htp,rfl,_,_,rfl,_,_,rfl,rfl,?_⟩
  have t3:=t2.same s3
  obtain⟨dx3,ho3⟩:=t3.ob
  walk_at"rd"
  refine⟨p,dx3,_,rfl,ho3,tfl_no (by decide +kernel) (by decide +kernel) (by decide +kernel),?_⟩
  walk_at"rd"
  refine⟨p,d,w,f,putE es k z,rmT es f+1,rfl,t3,by omega,by omega,fun ms l H4 p1 p2 nl L s4=>?_⟩
  obtain⟨as,hl4,hLs,_,hnew⟩:=L
  have al:=hLs.len
  rw[spreadV_len]at al
  have har:as[rmT es f]? = some (as[rmT es f]'(by omega)):=List.getElem?_eq_getElem _
  generalize as[rmT es f]=a at har
  obtain⟨own,ho1,hown⟩:=hLs.get har
  rw[spreadV_at (by omega)]at ho1
  have ho5:=Option.some.inj ho1
  subst ho5
  walk_at"rd"
  refine rd_ixL (SqL.of hl4) (at_ref' har) ?_
  walk_at"rd"
  refine⟨(by show 3≤sizeLine;decide),fun t5 nt5=>?_⟩
  generalize hE:upd H4 t5 _=H5
  obtain⟨ht5,s5⟩:=newo nt5 hE
  clear hE
  have s25:=(s3.trans s4).trans s5
  exact qb t5 a ms H5 step (t2.same s25) (fun b o n e=>s25 _ _ (kd2 b o n e)) p1 p2 (fr2 a (s3.free (hnew a (List.mem_of_getElem? har)).1)) ht5 (s5 _ _ hown)
theorem ok_Table_count {f:Addr}{fd:FuncData}{CT:Addr}(F:Fun K "count" "Table.count" s_Table_count f fd) (mF:Meth K CT "count" f) (bF:Binds K fd ["self"] []) (T:Bl mg) (TC:Txt_Table K mg CT)  : MCal P w K mg base CT "count" ["self"] 1 (sp_Table_count K CT):=by
 refine MCal.of F mF bF sc_Table_count (fun vs H Q E h=>?_) (fun cdv A outer s H vs Q E hr h=>?_)
 ·obtain⟨p,d,w,f,es,rfl,_⟩:=h;rfl
 obtain⟨p,d,w,f,es,rfl,t,q⟩:=h
 obtain⟨dx,ho⟩:=t.ob
 refine⟨_,(pss_one (ps_ret (pe_callB call_lenD rfl T.len bt_len (pa_cons (pe_fld (pv 0) rfl) pa_nil stx_Attribute)))),?_⟩
 rw[st_Table_count]
 walk_at"rd"
 refine⟨p,CT,dx,_,_,rfl,ho,TC.cl,TC.n_held,tfl_held,?_⟩
 walk_at"rd"
 refine⟨d,_,rfl,t.dc,?_⟩
 rw[eV_len]
 exact q
theorem ok_Table_rooms {f:Addr}{fd:FuncData}{CT:Addr}(F:Fun K "rooms" "Table.rooms" s_Table_rooms f fd) (mF:Meth K CT "rooms" f) (bF:Binds K fd ["self"] []) (T:Bl mg) (TC:Txt_Table K mg CT) (C_Table_count:MCal P w K mg base CT "count" ["self"] 1 (sp_Table_count K CT)) (C_rooms_for:Cal P w K mg base "rooms_for" ["count", "fill"] 1 (sp_rooms_for K)):MCal P w K mg base CT "rooms" ["self"] 2 (sp_Table_rooms K CT):=by
 refine MCal.of F mF bF sc_Table_rooms (fun vs H Q E h=>?_) (fun cdv A outer s H vs Q E hr h=>?_)
 ·obtain⟨p,d,w,f,es,rfl,_⟩:=h;rfl
 obtain⟨p,d,w,f,es,rfl,t,q⟩:=h
 obtain⟨dx,ho⟩:=t.ob
 obtain⟨w1,w2,f1,f2⟩:=t.sz
 refine⟨_,(pss_one (ps_ret (pcl C_rooms_for (hr.mono (by decide)) (pa_cons (pml0 C_Table_count TC.cl (hr.mono (by decide)) (pv 0)) (pa_cons (pe_fld (pv 0) rfl) pa_nil stx_Attribute) stx_Call)))),?_⟩
 rw[st_Table_rooms]
 walk_at"rd"
 refine⟨p,dx,_,rfl,ho,tfl_no (by decide +kernel) (by decide +kernel) (by decide +kernel),?_⟩
 walk_at"rd"
 refine⟨p,d,w,f,es,rfl,t,?_⟩
 walk_at"rd"
 refine⟨p,CT,dx,_,_,rfl,ho,TC.cl,TC.n_fill,tfl_fill,?_⟩
 walk_at"rd"
 refine⟨_,f,rfl,f1,f2,?_⟩
 rw[(rmT_eq f1).1]
 exact q
theorem ok_Table_entries {f:Addr}{fd:FuncData}{CT:Addr}(F:Fun K "entries" "Table.entries" s_Table_entries f fd) (mF:Meth K CT "entries" f) (bF:Binds K fd ["self"] []) (T:Bl mg) (TC:Txt_Table K mg CT)  : MCal P w K mg base CT "entries" ["self"] 1 (sp_Table_entries K CT):=by
 refine MCal.of F mF bF sc_Table_entries (fun vs H Q E h=>?_) (fun cdv A outer s H vs Q E hr h=>?_)
 ·obtain⟨p,d,w,f,es,rfl,_⟩:=h;rfl
 obtain⟨p,d,w,f,es,rfl,t,q⟩:=h
 obtain⟨dx,ho⟩:=t.ob
 have ln:=t.ok.2.2
 refine⟨_,(pss_one (ps_ret (pe_callB (call_sortI rfl) rfl T.sorted bt_sorted (pa_cons (pe_bm0 PySem.F.plainAttrs_dict PySem.F.slot_dict_items PySem.F.type_dict_items mt_items (pe_fld (pv 0) rfl)) pa_nil stx_Call)))),?_⟩
 rw[st_Table_entries]
 walk_at"rd"
 refine⟨p,CT,dx,_,_,rfl,ho,TC.cl,TC.n_held,tfl_held,?_⟩
 refine⟨.inr (.inr (.inl ⟨rfl,.inl ⟨_,t.dc⟩⟩)),?_⟩
 refine⟨d,_,rfl,rfl,t.dc,fun v nv=>?_⟩
 generalize hE:upd H v _=H1
 obtain⟨hv,s1⟩:=newo nv hE
 clear hE
 walk_at"rd"
 refine⟨v,d,es.map vE,rfl,hv,s1 _ _ t.dc,by rw[List.map_map];exact t.ok.1,by rw[List.length_map];omega,fun ps ts l H2 pp po s2 nl hl tl ht=>?_⟩
 have pv:(ps.map uE).map vE=ps:=by
  rw[List.map_map]
  refine(List.map_congr_left fun x hx=>?_).trans (List.map_id _)
  obtain⟨y,_,rfl⟩:=List.mem_map.mp (pp.mem_iff.mp hx)
  rfl
 have pm:(ps.map uE).Perm es:=by
  have:=pp.map uE
  rw[List.map_map,show(uE ∘ vE)=id from rfl,List.map_id]at this
  exact this
 refine q (ps.map uE) ts l H2 pm (by rw[List.pairwise_map];exact po) (s1.trans s2) (s1.free nl) hl ⟨by rw[List.length_map];exact tl,fun i t' e e1 e2=>?_⟩
 have e3:ps[i]? = some (vE e):=by rw[← pv,List.getElem?_map,e2];rfl
 have ee:=t.ok.2.1 e (pm.mem_iff.mp (List.mem_of_getElem? e2))
 obtain⟨n1,n2⟩:=nm_ok ee.2.2
 exact⟨ht i t' _ e1 e3,n1,ee.1,ee.2.1,n2⟩
theorem ok_Table_spread_keys {f:Addr}{fd:FuncData}{CT:Addr}(F:Fun K "spread_keys" "Table.spread_keys" s_Table_spread_keys f fd) (mF:Meth K CT "spread_keys" f) (bF:Binds K fd ["self", "rooms"] []) (T:Bl mg) (TC:Txt_Table K mg CT) (C_spread:Cal P w K mg base "spread" ["keys", "rooms"] 5 (sp_spread K)):MCal P w K mg base CT "spread_keys" ["self", "rooms"] 6 (sp_Table_spread_keys K CT):=by
 refine MCal.of F mF bF sc_Table_spread_keys (fun vs H Q E h=>?_) (fun cdv A outer s H vs Q E hr h=>?_)
 ·obtain⟨p,d,w,f,es,R,rfl,_⟩:=h;rfl
 obtain⟨p,d,w,f,es,R,rfl,t,r1,r2,q⟩:=h
 obtain⟨dx,ho⟩:=t.ob
 refine⟨_,(pss_one (ps_ret (pcl C_spread (hr.mono (by decide)) (pa_cons (pe_callTy (call_listD rfl) rfl T.list bt_list (pa_cons (pe_fld (pv 0) rfl) pa_nil stx_Attribute)) (pa_cons (pv 1) pa_nil stx_Name) stx_Call)))),?_⟩
 rw[st_Table_spread_keys]
 walk_at"rd"
 refine⟨p,CT,dx,_,_,rfl,ho,TC.cl,TC.n_held,tfl_held,?_⟩
 walk_at"rd"
 refine⟨d,_,rfl,t.dc,fun l nl=>?_⟩
 rw[eV_keys]
 generalize hE:upd H l _=H1
 obtain⟨hl,s1⟩:=newo nl hE
 clear hE
 walk_at"rd"
 refine⟨l,es.map (·.1),R,rfl,hl,by rw[List.length_map];have:=t.ok.2.2;omega,r1,r2,fun ms l2 H2 p1 p2 n2 L s2=>?_⟩
 exact q ms l2 H2 p1 p2 (s1.free n2) (L.base s1) (s1.trans s2)
theorem ok_page {f:Addr}{fd:FuncData}(F:Fun K "page" "page" s_page f fd) (mF:mg "page" = some (.ref f)) (bF:Binds K fd ["table", "mark"] []) (T:Bl mg) {CT:Addr}(TC:Txt_Table K mg CT) (C_Table_rooms:MCal P w K mg base CT "rooms" ["self"] 2 (sp_Table_rooms K CT)) (C_Table_entries:MCal P w K mg base CT "entries" ["self"] 1 (sp_Table_entries K CT)) (C_stretch_of:Cal P w K mg base "stretch_of" ["room", "rooms"] 4 (sp_stretch_of K)) (C_between:Cal P w K mg base "between" ["entries", "mark", "onward"] 5 (sp_between K)) (C_room_at:Cal1 P w K mg base "room_at" ["mark", "rooms"] 5 (sp_room_at K)):Cal1 P w K mg base "page" ["table", "mark"] 6 (sp_page K CT):=by
 refine Cal1.of F mF bF sc_page (fun vs H Q E h=>?_) (fun cdv A outer s H vs Q E hr h=>?_)
 ·obtain⟨p,d,w,f,es,v,rfl,_⟩:=h;rfl
 obtain⟨p,d,w,f,es,v,rfl,t,tb,h⟩:=h
 obtain⟨dx,ho⟩:=t.ob
 obtain⟨w1,w2,f1,f2⟩:=t.sz
 obtain⟨_,r1,r2⟩:=rmT_eq (es:=es) f1
 have ln:=t.ok.2.2
 refine⟨_,(pss_cons (ps_set (i:=2) sc_page.nd rfl (Or.inl rfl) (pml0 C_Table_rooms TC.cl (hr.mono (by decide)) (pv 0)))
   (pss_cons (ps_set (i:=3) sc_page.nd rfl (Or.inl rfl) (pe_ix ix_tup (pcl C_stretch_of (hr.mono (by decide)) (pa_cons (pcl1 C_room_at (throws_def.passes fun _ _ _ z=>z) (hr.mono (by decide)) (pa_cons (pv 1) (pa_cons (pv 2) pa_nil stx_Name) stx_Name)) (pa_cons (pv 2) pa_nil stx_Name) stx_Call)) pe_int (fun _ _=>rfl)))
   (pss_one (ps_ret (pe_tup (pa_cons (pcl C_between (hr.mono (by decide)) (pa_cons (pml0 C_Table_entries TC.cl (hr.mono (by decide)) (pv 0)) (pa_cons (pv 1) (pa_cons (pv 3) pa_nil stx_Name) stx_Name) stx_Call)) (pa_cons (pv 3) pa_nil stx_Name) stx_Call)))))),?_⟩
 rw[st_page]
 walk_at"rd"
 refine⟨p,dx,_,rfl,ho,tfl_no (by decide +kernel) (by decide +kernel) (by decide +kernel),?_⟩
 walk_at"rd"
 refine⟨p,d,w,f,es,rfl,t,?_⟩
 walk_at"rd"
 rcases h with⟨m,rfl,m0,m1,q⟩|⟨ov,q⟩
 case inr=>exact⟨v,_,rfl,by omega,by omega,.inr ⟨ov,q⟩⟩
 refine⟨_,_,rfl,by omega,by omega,.inl ⟨m,rfl,m0,m1,?_⟩⟩
 walk_at"rd"
 refine⟨_,_,rfl,by omega,by omega,fun t1 H1 n1 h1 s1=>?_⟩
 have t2:=t.same s1
 obtain⟨dx2,ho2⟩:=t2.ob
 walk_at"rd"
 refine⟨p,dx2,_,rfl,ho2,tfl_no (by decide +kernel) (by decide +kernel) (by decide +kernel),?_⟩
 walk_at"rd"
 refine⟨p,d,w,f,es,rfl,t2,fun ps ts l H2 pp po s2 nl hl el=>?_⟩
 walk_at"rd"
 refine⟨l,ts,ps,_,_,rfl,hl,el,by rw[pp.length_eq];exact ln,(tb.same s1).same s2,fun l' ys H3 _ _ s3 tb3=>?_⟩
 walk_at"rd"
 refine⟨(by show 2≤sizeLine;decide),fun t5 nt5=>?_⟩
 generalize hE:upd H3 t5 _=H5
 obtain⟨ht5,s5⟩:=newo nt5 hE
 clear hE
 walk_at"rd"
 exact q t5 H5 (((s1.sm.trans s2.sm).trans s3).trans s5.sm) (tb3.same s5)
theorem ok_between {f:Addr}{fd:FuncData}(F:Fun K "between" "between" s_between f fd) (mF:mg "between" = some (.ref f)) (bF:Binds K fd ["entries", "mark", "onward"] []) (T:Bl mg) (LM:Lam K mg base "between" f fd) (C_turned:Cal P w K mg base "turned" ["key"] 1 (sp_turned K)):Cal P w K mg base "between" ["entries", "mark", "onward"] 5 (sp_between K):=by
 refine Cal.ofC F mF bF sc_between (fun vs H Q E h=>?_) (fun cdv A outer s H vs Q E hcd hr h=>?_)
 ·obtain⟨l,ts,ps,m,o,rfl,_⟩:=h;rfl
 obtain⟨l,ts,ps,m,o,rfl,hl,el,pl,tb,q⟩:=h
 obtain⟨c0,hc0,hC0⟩:=LM.code
 have hcode:=hcd.trans hc0
 refine⟨_,(pss_cons (ps_setc (i:=3) sc_between.nd rfl rfl rfl (blkOk (sc:=defScope s_between) (N:=["entries", "mark", "onward", "within"]) (vs:=["entry"]) (fs:=["mark", "onward"]) (js:=[1,2]) (by decide +kernel) rfl rfl) (pi_list (pv 0)) (fun _ _ _ _=>pg_name (i:=0) (show(["entry", "mark", "onward"]:List Str).Nodup by decide +kernel) rfl (Or.inl rfl)) (fun _ _ _ _=>pif1 (pt_chain op_le op_lt (pv 1) (pcl C_turned (hr.mono (by decide)) (pa_cons (pe_ix (ix_tupK (K:=K) rfl) (pv 0) pe_int (fun _ _=>rfl)) pa_nil stx_Subscript)) (pv 2))) (fun _ _ _ _=>(pv 0)))
   (pss_one (ps_ret (pe_sortLV (k:=1) (P:=tbP K "between") (lamOk (sc:=defScope s_between) (N:=["entries", "mark", "onward", "within"]) (y := "entry") (fs:=[]) (js:=[]) (by decide +kernel) rfl rfl) (hr.mono (by decide)) rfl T.sorted rfl (pa_cons (pv 3) pa_nil stx_Name) rfl hcode hC0 LM.bm (fun _ _ _ _ _=>(pcl C_turned ((hr.mono (j:=4) (by decide)).in1.in1.deeper _) (pa_cons (pe_ix (ix_tupK (K:=K) rfl) (pv 0) pe_int (fun _ _=>rfl)) pa_nil stx_Subscript))) (fun _ _ _ _=>rfl))))),?_⟩
 rw[st_between]
 walk_at"rd"
 refine⟨l,rfl,⟨_,SqL.of hl⟩,fun D nD=>?_⟩
 refine comp_list (xs:=ts.map V.ref) (fun i σ' ys H'=>(∃x,σ'=[x,some (.int m),some (.int o)])∧Same H H'∧H' D=some (.lst ys)∧ys.length =((ps.take i).filter (inB m o)).length∧∀y∈ys,∃u k z,y = .ref u∧H u=some (.tup [.int k,.str z])) D ⟨⟨_,rfl⟩,same_new nD _,upd_same,rfl,fun _ h=>by cases h⟩ (fun i σ' ys H' _ h=>SqL.of (h.2.1 _ _ hl)) ?_ ?_
 ·rintro i x σ' ys H1 hx ⟨⟨x1,rfl⟩,s1,hD,yl,hy⟩
  obtain⟨u,hu,rfl⟩:=refs_get hx
  have il:i<ps.length:=by rw[← el.1];exact(List.getElem?_eq_some_iff.mp hu).1
  obtain⟨e,he⟩ : ∃e,ps[i]? = some e:=⟨_,List.getElem?_eq_getElem il⟩
  obtain⟨ht,_⟩:=el.2 i u e hu he
  have ht1:=s1 _ _ ht
  have fl:=List.length_filter_le (inB m o) (ps.take i)
  rw[List.length_take]at fl
  have es:(ps.take (i+1)).filter (inB m o) =(ps.take i).filter (inB m o)++(if inB m o e then [e] else []):=by
   rw[take_get he,List.filter_append];congr 1
   by_cases c:inB m o e=true
   ·simp[c]
   ·simp[c]
  walk_at"rd"
  refine⟨_,rfl,?_⟩
  walk_at"rd"
  by_cases c1:m≤rev e.1 60
  ·rw[decide_eq_true c1]
   walk_at"rd"
   by_cases c2:rev e.1 60<o
   ·rw[decide_eq_true c2]
    walk_at"rd"
    refine⟨hD,small1000 (by omega),⟨_,rfl⟩,fun c o e=>by rw[upd_ne (ne_of_none e nD)];exact s1 _ _ e,upd_same,?_,fun y hy'=>?_⟩
    ·rw[es,if_pos (by unfold inB;rw[decide_eq_true c1,decide_eq_true c2];rfl),List.length_append,List.length_append,yl];rfl
    ·rcases List.mem_append.mp hy' with z|z
     ·exact hy y z
     ·exact⟨u,e.1,e.2,List.mem_singleton.mp z,ht⟩
   ·rw[decide_eq_false c2]
    walk_at"rd"
    refine⟨⟨_,rfl⟩,s1,hD,?_,hy⟩
    rw[es,if_neg (by unfold inB;rw[decide_eq_false c2,Bool.and_false];simp),List.append_nil];exact yl
  ·rw[decide_eq_false c1]
   walk_at"rd"
   refine⟨⟨_,rfl⟩,s1,hD,?_,hy⟩
   rw[es,if_neg (by unfold inB;rw[decide_eq_false c1,Bool.false_and];simp),List.append_nil];exact yl
 ·rintro σ' ys H1 ⟨⟨x1,rfl⟩,s1,hD,yl,hy⟩
  rw[List.length_map,el.1,List.take_length]at yl
  have fl:=List.length_filter_le (inB m o) ps
  walk_at"rd"
  refine⟨D,ys,keyAt H,rfl,SqL.of hD,by omega,tb.same s1,fun H2 s2 tb2=>⟨fun z hz R hR=>?_,fun ms l' m1 m2 nl=>?_⟩⟩
  ·obtain⟨u,k,z',rfl,hu⟩:=hy z hz
   have hu2:=s2.tup (s1 _ _ hu)
   show tCall (sp_turned K) [] E0 (tCons (tOp (rIxT K) (tVar 0) (tC (V.int 0))) tNil) [some (.ref u)] H2 R
   walk_at"rd"
   refine⟨k,rfl,?_⟩
   rw[keyAt_of hu]at hR;exact hR
  ·generalize hE:upd H2 l' _=H3
   obtain⟨h3,s3⟩:=newo nl hE
   clear hE
   exact q l' ms H3 h3 (by rw[m1.length_eq];exact yl) ((s1.sm.trans s2).trans s3.sm) (tb2.same s3)
theorem ok_ahead {f:Addr}{fd:FuncData}(F:Fun K "ahead" "ahead" s_ahead f fd) (mF:mg "ahead" = some (.ref f)) (bF:Binds K fd ["table", "mark"] []) (T:Bl mg) {TE:Addr}{CE_NoMark:Addr}(XE_NoMark:XTxt K mg "NoMark" CE_NoMark TE "mark")  {CT:Addr}(TC:Txt_Table K mg CT) (C_Table_entries:MCal P w K mg base CT "entries" ["self"] 1 (sp_Table_entries K CT)) (C_is_mark:Cal P w K mg base "is_mark" ["thing"] 2 (sp_is_mark K)) (C_between:Cal P w K mg base "between" ["entries", "mark", "onward"] 5 (sp_between K)):Cal1 P w K mg base "ahead" ["table", "mark"] 6 (sp_ahead K CT):=by
 refine Cal1.of F mF bF sc_ahead (fun vs H Q E h=>?_) (fun cdv A outer s H vs Q E hr h=>?_)
 ·obtain⟨p,d,w,f,es,v,rfl,_⟩:=h;rfl
 obtain⟨p,d,w,f,es,v,rfl,t,tb,h⟩:=h
 obtain⟨dx,ho⟩:=t.ob
 have ln:=t.ok.2.2
 refine⟨_,(pss_cons (ps_if (pt_not (pt_val (pcl C_is_mark (hr.mono (by decide)) (pa_cons (pv 1) pa_nil stx_Name)))) (pss_one (ps_raise1 (k:=0) throws_def XE_NoMark.cls (hr.mono (by decide)) rfl XE_NoMark.mg (pa_cons (pv 1) pa_nil stx_Name))) pss_nil)
   (pss_one (ps_ret (pe_callB call_lenL rfl T.len bt_len (pa_cons (pcl C_between (hr.mono (by decide)) (pa_cons (pml0 C_Table_entries TC.cl (hr.mono (by decide)) (pv 0)) (pa_cons (pv 1) (pa_cons (pe_gint rfl T.c_END) pa_nil stx_Name) stx_Name) stx_Call)) pa_nil stx_Call))))),?_⟩
 rw[st_ahead]
 walk_at"rd"
 rcases h with⟨m,rfl,m0,m1,q⟩|⟨ov,q⟩
 ·refine .inl ⟨m,rfl,m0,m1,?_⟩
  walk_at"rd"
  refine⟨p,dx,_,rfl,ho,tfl_no (by decide +kernel) (by decide +kernel) (by decide +kernel),?_⟩
  walk_at"rd"
  refine⟨p,d,w,f,es,rfl,t,fun ps ts l H2 pp po s2 nl hl el=>?_⟩
  walk_at"rd"
  refine⟨l,ts,ps,_,_,rfl,hl,el,by rw[pp.length_eq];exact ln,tb.same s2,fun l' ys H3 hl' yl s3 tb3=>?_⟩
  walk_at"rd"
  rw[yl,(pp.filter _).length_eq]
  exact q H3 (s2.sm.trans s3) tb3
 ·refine .inr ⟨v,rfl,ov,?_⟩
  walk_at"rd"
  exact⟨_,rfl,fun u ru=>q u _ ru XE_NoMark.nm⟩
theorem ok__law_open {f:Addr}{fd:FuncData}(F:Fun K "_law_open" "_law_open" s__law_open f fd) (mF:mg "_law_open" = some (.ref f)) (bF:Binds K fd ["_law_script", "_law_place"] []) (T:Bl mg)  : Cal P w K mg base "_law_open" ["_law_script", "_law_place"] 1 (sp__law_open K):=by
 refine Cal.of F mF bF sc__law_open (fun vs H Q E h=>?_) (fun cdv A outer s H vs Q E hr h=>?_)
 ·obtain⟨a,ns,pl,rfl,_⟩:=h;rfl
 obtain⟨a,ns,pl,rfl,hS,hlen,h0,h1,q⟩:=h
 have hu:=hr.units
 refine⟨_,(pss_cons (ps_setc (i:=2) sc__law_open.nd rfl rfl rfl (blkOk (sc:=defScope s__law_open) (N:=["_law_script", "_law_place", "_law_cells", "_law_at", "_law_digits"]) (vs:=["_law_cell"]) (fs:=[]) (js:=[]) (by decide +kernel) rfl rfl) (pi_list (pe_slice sl_list (pv 0) po_none (po_some pe_int))) (fun _ _ _ _=>pg_name (i:=0) (show(["_law_cell"]:List Str).Nodup by decide +kernel) rfl (Or.inl rfl)) (fun _ _ _ _=>pif0) (fun _ _ _ _=>(pe_callB call_abs1 rfl T.abs bt_abs (pa_cons (pv 0) pa_nil stx_Name))))
   (pss_cons (ps_cut (ps_if (pt_cmpR (op_eqD hu) (pv 2) (pe_lst pa_nil) (nomark _)) (pss_one (ps_set (i:=2) sc__law_open.nd rfl (Or.inl rfl) (pe_lst (pa_cons pe_int pa_nil stx_Constant)))) pss_nil))
   (pss_cons (ps_set (i:=3) sc__law_open.nd rfl (Or.inl rfl) (pe_op op_mod (pv 1) (pe_callB call_lenL rfl T.len bt_len (pa_cons (pv 2) pa_nil stx_Name))))
   (pss_cons (ps_set (i:=4) sc__law_open.nd rfl (Or.inl rfl) pe_int)
   (pss_cons (ps_cut (ps_if (PW.pt (pw_and (pt_cmpR op_ge (pe_ix ix_list (pv 2) (pv 3) (fun _ _=>rfl)) (pe_powC (c:=1000000000000000000) (by decide +kernel) ⟨by decide,by decide,by decide⟩) (nomark _)) (pw_and1 (pt_cmpR op_lt (pv 1) (pe_callB call_lenL rfl T.len bt_len (pa_cons (pv 2) pa_nil stx_Name)) (nomark _))))) (pss_one (ps_set (i:=4) sc__law_open.nd rfl (Or.inl rfl) (pe_ix ix_list (pv 2) (pv 3) (fun _ _=>rfl)))) pss_nil))
   (pss_one (ps_ret (pe_lst (pa_cons (pv 4) (pa_cons (pe_op op_add pe_int (pe_op op_mul pe_int (pv 1))) (pa_cons (pe_op op_cat (pe_slice sl_list (pv 2) (po_some (pv 3)) po_none) (pe_slice sl_list (pv 2) po_none (po_some (pv 3)))) pa_nil stx_BinOp) stx_BinOp) stx_Name))))))))),?_⟩
 rw[st__law_open]
 walk_at"rd"
 refine rd_slL hS fun p1 n1=>?_
 have hcut:cutV (ns.map V.int) none (some 63)=ns.map V.int:=by
  have:=cut_hi (ms:=ns) (k:=63)
  rw[List.take_of_length_le hlen]at this
  exact this
 rw[hcut]
 have s1:=same_new n1 (.lst (ns.map V.int))
 have hp1:(upd H p1 (.lst (ns.map V.int))) p1=some (.lst (ns.map V.int)):=upd_same
 generalize upd H p1 (.lst (ns.map V.int))=H1 at s1 hp1 ⊢
 refine⟨p1,rfl,⟨_,SqL.of hp1⟩,fun D nD=>?_⟩
 have nD0:H D=none:=s1.free nD
 have npD:p1≠D:=ne_of_none hp1 nD
 refine comp_list (xs:=ns.map V.int) (fun i σ' ys H'=>(∃x,σ'=[x])∧(∃ms:List Int,ys=ms.map V.int∧ms.length=i)∧Same H H'∧H' p1=some (.lst (ns.map V.int))∧H' D=some (.lst ys)) D ?_ (fun i σ' ys H' _ h=>SqL.of h.2.2.2.1) ?_ ?_
 ·exact⟨⟨_,rfl⟩,⟨[],rfl,rfl⟩,s1.trans (same_new nD _),by rw[upd_ne npD];exact hp1,upd_same⟩
 ·rintro i x σ' ys H' hx ⟨⟨y,rfl⟩,⟨ms,rfl,hms⟩,g1,g2,g3⟩
  have hil:i <(ns.map V.int).length:=(List.getElem?_eq_some_iff.mp hx).1
  rw[List.length_map]at hil
  obtain⟨z,rfl⟩ : ∃z,x=V.int z:=by
   rw[List.getElem?_map]at hx
   cases e:ns[i]? with
   | none=>rw[e]at hx;cases hx
   | some z=>rw[e]at hx;exact⟨z,(Option.some.inj hx).symm⟩
  walk_at"rd"
  refine⟨g3,by rw[List.length_map];exact small1000 (by omega),⟨_,rfl⟩,⟨ms ++ [_],(by rw[List.map_append];rfl),by rw[List.length_append,hms];rfl⟩,fun b o e=>?_,?_,upd_same⟩
  ·rw[upd_ne (ne_of_none e nD0)];exact g1 _ _ e
  ·rw[upd_ne npD];exact g2
 ·rintro σ' ys H' ⟨⟨y,rfl⟩,⟨ms,rfl,hms⟩,g1,g2,g3⟩
  walk_at"rd"
  refine⟨fun σ H2=>∃C ms,σ=[some (.ref a),some (.int pl),some (.ref C),none,none]∧ms ≠ []∧ms.length≤63∧H2 C=some (.lst (List.map V.int ms))∧Same H H2,?_,?_⟩
  ·walk_at"rd"
   refine⟨by decide,fun p2 n2=>?_⟩
   refine⟨.list (ms.map PyData.int),.list [],DV.lst (SqL.of (by rw[upd_ne (ne_of_none g3 n2)];exact g3)) (DVs.ints ms),DV.lst (SqL.of upd_same) .nil,shaped_ints ms,rfl,?_⟩
   have e:PyData.eqv (.list (ms.map PyData.int)) (.list [])=decide (ms=[]):=by
    have:=eqv_ints ms []
    rw[← this,PyData.eqv];rfl
   rw[e]
   have s2:=g1.trans (same_new n2 (.lst []))
   have g32:(upd H' p2 (.lst [])) D=some (.lst (ms.map V.int)):=by rw[upd_ne (ne_of_none g3 n2)];exact g3
   generalize upd H' p2 (.lst [])=H2 at s2 g32 ⊢
   walk_at"rd"
   refine rd_if (fun h=>?_) (fun h=>?_)
   ·walk_at"rd"
    refine⟨by decide,fun p3 n3=>?_⟩
    walk_at"rd"
    exact⟨p3,[0],rfl,by simp,by simp,upd_same,s2.trans (same_new n3 _)⟩
   ·walk_at"rd"
    exact⟨D,ms,rfl,h,by rw[hms,List.length_map];exact hlen,g32,s2⟩
  ·rintro σ H2 ⟨C,ms,rfl,hne,hml,hC,s2⟩
   have hnl:=len_pos hne
   obtain⟨v,hv⟩:=nsMod hne pl
   walk_at"rd"
   refine⟨fun σ H3=>H3=H2∧∃d,σ=[some (.ref a),some (.int pl),some (.ref C),some (.int (pl%((ms.map V.int).length:Int))),some (.int d)],?_,?_⟩
   ·walk_at"rd"
    refine rd_ixL (SqL.of hC) hv ?_
    walk_at"rd"
    refine rd_if (fun h=>?_) (fun h=>?_)
    ·walk_at"rd"
     refine rd_if (fun h=>?_) (fun h=>?_)
     ·walk_at"rd"
      refine rd_ixL (SqL.of hC) hv ?_
      walk_at"rd"
      exact⟨rfl,_,rfl⟩
     ·walk_at"rd"
      exact⟨rfl,_,rfl⟩
    ·walk_at"rd"
     exact⟨rfl,_,rfl⟩
   ·rintro σ H3 ⟨rfl,d,rfl⟩
    obtain⟨k,hk,hk2⟩ : ∃k:Nat,pl%((ms.map V.int).length:Int) =(k:Int)∧k<ms.length:=by
     have z0:=Int.emod_nonneg pl (show((ms.map V.int).length:Int)≠0 by omega)
     have z1:=Int.emod_lt_of_pos pl hnl
     rw[List.length_map]at z0 z1 ⊢
     exact⟨(pl%(ms.length:Int)).toNat,by omega,by omega⟩
    rw[hk]
    walk_at"rd"
    refine rd_slL (SqL.of hC) fun p4 n4=>?_
    walk_at"rd"
    have hC4:(upd H3 p4 (.lst (cutV (ms.map V.int) (some (k:Int)) none))) C=some (.lst (ms.map V.int)):=by rw[upd_ne (ne_of_none hC n4)];exact hC
    refine rd_slL (SqL.of hC4) fun p5 n5=>?_
    rw[cut_lo,cut_hi]
    rw[cut_lo]at hC4 n5
    have s4:=s2.trans (same_new n4 (.lst ((ms.drop k).map V.int)))
    have hp4:(upd H3 p4 (.lst ((ms.drop k).map V.int))) p4=some (.lst ((ms.drop k).map V.int)):=upd_same
    generalize upd H3 p4 (.lst ((ms.drop k).map V.int))=H4 at s4 hp4 hC4 n5 ⊢
    have s5:=s4.trans (same_new n5 (.lst ((ms.take k).map V.int)))
    have hp5:(upd H4 p5 (.lst ((ms.take k).map V.int))) p5=some (.lst ((ms.take k).map V.int)):=upd_same
    have hp45:(upd H4 p5 (.lst ((ms.take k).map V.int))) p4=some (.lst ((ms.drop k).map V.int)):=by rw[upd_ne (ne_of_none hp4 n5)];exact hp4
    generalize upd H4 p5 (.lst ((ms.take k).map V.int))=H5 at s5 hp5 hp45 ⊢
    refine⟨p4,p5,_,_,rfl,rfl,hp45,hp5,(by rw[List.length_map,List.length_map,List.length_drop,List.length_take];exact Nat.le_of_lt (small1000 (by omega))),fun p6 n6=>?_⟩
    walk_at"rd"
    refine⟨(by show 3≤sizeLine;decide),fun p7 n7=>?_⟩
    have s6:=s5.trans (same_new n6 (.lst ((ms.drop k).map V.int++(ms.take k).map V.int)))
    refine q p7 _ (s6.free n7) (s6.trans (same_new n7 _)) ⟨p6,d,1+1009*pl,ms.drop k++ms.take k,upd_same,?_,by omega,by omega,?_⟩
    ·rw[upd_ne (ne_of_none upd_same n7),upd_same,List.map_append]
    ·intro e
     have:=congrArg List.length e
     rw[List.length_append,List.length_drop]at this
     simp at this
     omega
theorem ok__law_draw {f:Addr}{fd:FuncData}(F:Fun K "_law_draw" "_law_draw" s__law_draw f fd) (mF:mg "_law_draw" = some (.ref f)) (bF:Binds K fd ["_law_hand", "_law_many"] []) (T:Bl mg)  : Cal P w K mg base "_law_draw" ["_law_hand", "_law_many"] 1 (sp__law_draw K):=by
 refine Cal.of F mF bF sc__law_draw (fun vs H Q E h=>?_) (fun cdv A outer s H vs Q E hr h=>?_)
 ·obtain⟨p,N,n,rfl,_⟩:=h;rfl
 obtain⟨p,N,n,rfl,hh,hN,hn,hn2,q⟩:=h
 obtain⟨l,d,c,ns,hp,hl,hc0,hcN,hns⟩:=hh.ex
 have npl:l≠p:=hand_ne hp hl
 have hnl:=len_pos hns
 refine⟨_,(pss_cons (ps_if (pt_cmpR op_gt (pe_ix ix_list (pv 0) pe_int (fun _ _=>rfl)) pe_int (nomark _)) (pss_cons (ps_set (i:=2) sc__law_draw.nd rfl (Or.inl rfl) (pe_op op_mod (pe_ix ix_list (pv 0) pe_int (fun _ _=>rfl)) (pv 1)))
   (pss_cons (ps_asg (pe_op op_fdivB (pe_ix ix_list (pv 0) pe_int (fun _ _=>rfl)) (pv 1)) (pg_sub (pv 0) pe_int set_list))
   (pss_one (ps_ret (pv 2))))) pss_nil)
   (pss_cons (ps_augS (pv 0) pe_int get_list pe_int ip_add set_list)
   (pss_cons (ps_set (i:=3) sc__law_draw.nd rfl (Or.inl rfl) (pe_ix ix_list (pv 0) pe_int (fun _ _=>rfl)))
   (pss_cons (ps_set (i:=4) sc__law_draw.nd rfl (Or.inl rfl) (pe_op op_mod (pe_op op_add (pe_op op_mod (pe_ix ix_list (pe_ix ix_list (pv 0) pe_int (fun _ _=>rfl)) (pe_op op_mod (pv 3) (pe_callB call_lenL rfl T.len bt_len (pa_cons (pe_ix ix_list (pv 0) pe_int (fun _ _=>rfl)) pa_nil stx_Subscript))) (fun _ _=>rfl)) pe_int) (pe_op op_mul pe_int (pv 3))) pe_int))
   (pss_cons (ps_set (i:=4) sc__law_draw.nd rfl (Or.inl rfl) (pe_op op_mod (pe_op op_add (pe_op op_add (pe_op op_pow (pv 4) pe_int) (pe_op op_mul (pe_op op_mul pe_int (pv 3)) (pv 3))) pe_int) pe_int))
   (pss_cons (ps_set (i:=4) sc__law_draw.nd rfl (Or.inl rfl) (pe_op op_mod (pe_op op_add (pe_op op_mul (pe_op op_pow (pv 4) pe_int) (pe_op op_add (pe_op op_mul pe_int (pv 3)) pe_int)) pe_int) pe_int))
   (pss_one (ps_ret (pe_op op_mod (pe_op op_fdivB (pe_op op_mod (pe_op op_mul (pv 4) pe_int) pe_int) pe_int) (pv 1)))))))))),?_⟩
 rw[st__law_draw]
 walk_at"rd"
 refine rd_if (fun h=>?_) (fun h=>?_)
 ·walk_at"rd"
  refine q _ _ (Int.emod_nonneg _ (by omega)) (Int.emod_lt_of_pos _ hn) ⟨l,d / n,c,ns,upd_same,?_,hc0,by omega,hns⟩ (Kp.hand hp)
  rw[upd_ne npl];exact hl
 ·walk_at"rd"
  have hp1:(upd H p (.lst [V.int d,.int (c+1),.ref l])) p=some (.lst [.int d,.int (c+1),.ref l]):=upd_same
  have hl1:(upd H p (.lst [V.int d,.int (c+1),.ref l])) l=some (.lst (ns.map V.int)):=by rw[upd_ne npl];exact hl
  have k1:Kp H (upd H p (.lst [V.int d,.int (c+1),.ref l])) p:=Kp.hand hp
  generalize upd H p (.lst [V.int d,.int (c+1),.ref l])=H1 at hp1 hl1 k1 ⊢
  walk_at"rd"
  obtain⟨v,hv⟩:=nsMod hns (c+1)
  refine rd_ixL (SqL.of hl1) hv ?_
  walk_at"rd"
  have hn0:n≠0:=by omega
  exact q _ _ (Int.emod_nonneg _ hn0) (Int.emod_lt_of_pos _ hn) ⟨l,d,c+1,ns,hp1,hl1,by omega,by omega,hns⟩ k1
theorem ok__law_far {f:Addr}{fd:FuncData}(F:Fun K "_law_far" "_law_far" s__law_far f fd) (mF:mg "_law_far" = some (.ref f)) (bF:Binds K fd ["_law_hand", "_law_many"] []) (T:Bl mg) (C__law_draw:Cal P w K mg base "_law_draw" ["_law_hand", "_law_many"] 1 (sp__law_draw K)):Cal P w K mg base "_law_far" ["_law_hand", "_law_many"] 2 (sp__law_far K):=by
 refine Cal.of F mF bF sc__law_far (fun vs H Q E h=>?_) (fun cdv A outer s H vs Q E hr h=>?_)
 ·obtain⟨p,N,n,rfl,_⟩:=h;rfl
 obtain⟨p,N,n,rfl,hh,hN,hn,hn2,q⟩:=h
 obtain⟨l,d,c,ns,hp,hl,hc0,hcN,hns⟩:=hh.ex
 refine⟨_,(pss_cons (ps_if (pt_cmpR op_gt (pe_ix ix_list (pv 0) pe_int (fun _ _=>rfl)) pe_int (nomark _)) (pss_one (ps_ret (pcl C__law_draw (hr.mono (by decide)) (pa_cons (pv 0) (pa_cons (pv 1) pa_nil stx_Name) stx_Name)))) pss_nil)
   (pss_cons (ps_set (i:=2) sc__law_far.nd rfl (Or.inl rfl) pe_int)
   (pss_cons (ps_for PassesOwn.never rfl (pi_range1 rfl T.range (pa_cons pe_int pa_nil stx_Constant)) (pg_name (i:=3) sc__law_far.nd rfl (Or.inl rfl)) (pss_one (ps_set (i:=2) sc__law_far.nd rfl (Or.inl rfl) (pe_op op_add (pe_op op_mul (pv 2) (pe_powC (c:=1000000) (by decide +kernel) ⟨by decide,by decide,by decide⟩)) (pcl C__law_draw (hr.mono (by decide)) (pa_cons (pv 0) (pa_cons (pe_powC (c:=1000000) (by decide +kernel) ⟨by decide,by decide,by decide⟩) pa_nil stx_BinOp) stx_Name))))))
   (pss_one (ps_ret (pe_op op_mod (pv 2) (pv 1))))))),?_⟩
 rw[st__law_far]
 walk_at"rd"
 refine rd_if (fun h=>?_) (fun h=>?_)
 ·walk_at"rd"
  exact⟨p,N,n,rfl,hh,by omega,hn,hn2,fun r H' h0 h1 h2 h3=>q r H' h0 h1 (h2.mono (by omega)) h3⟩
 ·walk_at"rd"
  refine⟨7,rfl,by omega,by omega,?_⟩
  refine for_rangeO (n:=7) (fun i σ H'=>(∃v x,σ=[some (.ref p),some (.int n),some (.int v),x])∧Hand H' p (N+i)∧Kp H H' p∧i≤7) ⟨⟨_,_,rfl⟩,hh,Kp.refl _ _,by omega⟩ ?_ ?_
  ·rintro i σ H' hi ⟨⟨v,x,rfl⟩,h1,h2,h3⟩
   walk_at"rd"
   exact⟨p,N+i,_,rfl,h1,by omega,by decide,by decide,fun r H2 h0 h4 h5 h6=>by
    walk_at"rd"
    exact⟨⟨_,_,rfl⟩,h5,h2.trans h6,by omega⟩⟩
  ·rintro σ H' ⟨⟨v,x,rfl⟩,h1,h2,h3⟩
   walk_at"rd"
   exact q _ _ (Int.emod_nonneg _ (by omega)) (Int.emod_lt_of_pos _ hn) h1 h2
theorem ok__law_power {f:Addr}{fd:FuncData}(F:Fun K "_law_power" "_law_power" s__law_power f fd) (mF:mg "_law_power" = some (.ref f)) (bF:Binds K fd ["_law_many"] []) (T:Bl mg)  : Cal P w K mg base "_law_power" ["_law_many"] 1 (sp__law_power K):=by
 refine Cal.of F mF bF sc__law_power (fun vs H Q E h=>?_) (fun cdv A outer s H vs Q E hr h=>?_)
 ·obtain⟨m,rfl,_⟩:=h;rfl
 obtain⟨m,rfl,hm,q⟩:=h
 refine⟨_,(pss_cons (ps_set (i:=1) sc__law_power.nd rfl (Or.inl rfl) pe_int)
   (pss_cons (ps_for PassesOwn.never rfl (pi_range1 rfl T.range (pa_cons (pv 0) pa_nil stx_Name)) (pg_name (i:=2) sc__law_power.nd rfl (Or.inl rfl)) (pss_one (ps_set (i:=1) sc__law_power.nd rfl (Or.inl rfl) (pe_op op_mul (pv 1) pe_int))))
   (pss_one (ps_ret (pv 1))))),?_⟩
 rw[st__law_power]
 walk_at"rd"
 refine⟨(m:Int),rfl,by omega,by omega,?_⟩
 rw[show((m:Int)).toNat=m from by omega]
 refine for_rangeO (n:=m) (fun i σ H'=>(∃x,σ=[some (.int m),some (.int (2^i)),x])∧H'=H) ⟨⟨_,rfl⟩,rfl⟩ ?_ ?_
 ·rintro i σ H' hi ⟨⟨x,rfl⟩,rfl⟩
  walk_at"rd"
  exact⟨⟨_,by rw[Int.pow_succ]⟩,rfl⟩
 ·rintro σ H' ⟨⟨x,rfl⟩,rfl⟩
  walk_at"rd"
  exact q
theorem ok__law_key {f:Addr}{fd:FuncData}(F:Fun K "_law_key" "_law_key" s__law_key f fd) (mF:mg "_law_key" = some (.ref f)) (bF:Binds K fd ["_law_hand"] []) (T:Bl mg) (C__law_draw:Cal P w K mg base "_law_draw" ["_law_hand", "_law_many"] 1 (sp__law_draw K)) (C__law_far:Cal P w K mg base "_law_far" ["_law_hand", "_law_many"] 2 (sp__law_far K)) (C__law_power:Cal P w K mg base "_law_power" ["_law_many"] 1 (sp__law_power K)):Cal P w K mg base "_law_key" ["_law_hand"] 3 (sp__law_key K):=by
 refine Cal.of F mF bF sc__law_key (fun vs H Q E h=>?_) (fun cdv A outer s H vs Q E hr h=>?_)
 ·obtain⟨p,N,rfl,_⟩:=h;rfl
 obtain⟨p,N,rfl,hh,hN,q⟩:=h
 refine⟨_,(pss_cons (ps_set (i:=1) sc__law_key.nd rfl (Or.inl rfl) (pcl C__law_draw (hr.mono (by decide)) (pa_cons (pv 0) (pa_cons pe_int pa_nil stx_Constant) stx_Name)))
   (pss_cons (ps_set (i:=2) sc__law_key.nd rfl (Or.inl rfl) (pcl C__law_draw (hr.mono (by decide)) (pa_cons (pv 0) (pa_cons (pe_ix ix_list (pe_lst (pa_cons pe_int (pa_cons pe_int (pa_cons pe_int pa_nil stx_Constant) stx_Constant) stx_Constant)) (pcl C__law_draw (hr.mono (by decide)) (pa_cons (pv 0) (pa_cons pe_int pa_nil stx_Constant) stx_Name)) (fun _ _=>rfl)) pa_nil stx_Subscript) stx_Name)))
   (pss_cons (ps_if (pt_cmpR op_lt (pv 1) pe_int (nomark _)) (pss_one (ps_ret (pv 2))) pss_nil)
   (pss_cons (ps_if (pt_cmpR op_eq (pv 1) pe_int (nomark _)) (pss_one (ps_ret (pe_op op_sub (pe_op op_sub (pe_powC (c:=1152921504606846976) (by decide +kernel) ⟨by decide,by decide,by decide⟩) pe_int) (pv 2)))) pss_nil)
   (pss_cons (ps_if (pt_cmpR op_eq (pv 1) pe_int (nomark _)) (pss_one (ps_ret (pe_op op_add (pv 2) (pcl C__law_power (hr.mono (by decide)) (pa_cons (pe_op op_add pe_int (pcl C__law_draw (hr.mono (by decide)) (pa_cons (pv 0) (pa_cons pe_int pa_nil stx_Constant) stx_Name))) pa_nil stx_BinOp))))) pss_nil)
   (pss_cons (ps_if (pt_cmpR op_eq (pv 1) pe_int (nomark _)) (pss_one (ps_ret (pe_op op_add (pe_op op_mod (pv 2) pe_int) (pe_op op_mul pe_int (pcl C__law_far (hr.mono (by decide)) (pa_cons (pv 0) (pa_cons (pe_powC (c:=72057594037927936) (by decide +kernel) ⟨by decide,by decide,by decide⟩) pa_nil stx_BinOp) stx_Name)))))) pss_nil)
   (pss_one (ps_ret (pcl C__law_far (hr.mono (by decide)) (pa_cons (pv 0) (pa_cons (pe_powC (c:=1152921504606846976) (by decide +kernel) ⟨by decide,by decide,by decide⟩) pa_nil stx_BinOp) stx_Name)))))))))),?_⟩
 rw[st__law_key]
 walk_at"rd"
 refine⟨p,N,7,rfl,hh,by omega,by decide,by decide,fun way H1 w0 w1 hh1 k1=>?_⟩
 walk_at"rd"
 refine⟨(by show 3≤sizeLine;decide),fun l nl=>?_⟩
 walk_at"rd"
 have k2:=k1.trans (Kp.of (same_new nl (.lst [V.int 4,V.int 16,V.int 200])) hh1)
 have hh2:=hh1.same (same_new nl (.lst [V.int 4,V.int 16,V.int 200]))
 have hl:(upd H1 l (.lst [V.int 4,V.int 16,V.int 200])) l=some (.lst [V.int 4,V.int 16,V.int 200]):=upd_same
 have nlp:l≠p:=by
  obtain⟨l1,d,c,ns,h1,_⟩:=hh1.ex
  exact(ne_of_none h1 nl).symm
 generalize upd H1 l (.lst [V.int 4,V.int 16,V.int 200])=H2 at k2 hh2 hl ⊢
 refine⟨p,N+1,3,rfl,hh2,by omega,by decide,by decide,fun r H3 r0 r1 hh3 k3=>?_⟩
 have hl3:=k3.1 _ _ hl nlp
 obtain⟨b,hb,b0,b1⟩ : ∃b:Int,atI [V.int 4,V.int 16,V.int 200] r=some (.int b)∧0<b∧b≤200:=by
  have:r=0∨r=1∨r=2:=by omega
  rcases this with rfl|rfl|rfl
  ·exact⟨4,rfl,by decide,by decide⟩
  ·exact⟨16,rfl,by decide,by decide⟩
  ·exact⟨200,rfl,by decide,by decide⟩
 refine rd_ixL (SqL.of hl3) hb ?_
 walk_at"rd"
 refine⟨p,N+1+1,b,rfl,hh3,by omega,b0,by omega,fun low H4 l0 l1 hh4 k4=>?_⟩
 have k5:=(k2.trans k3).trans k4
 walk_at"rd"
 refine rd_if (fun c1=>?_) (fun c1=>?_)
 ·walk_at"rd"
  exact q _ _ l0 (by omega) (hh4.mono (by omega)) k5
 walk_at"rd"
 refine rd_if (fun c2=>?_) (fun c2=>?_)
 ·walk_at"rd"
  exact q _ _ (by omega) (by omega) (hh4.mono (by omega)) k5
 walk_at"rd"
 refine rd_if (fun c3=>?_) (fun c3=>?_)
 ·walk_at"rd"
  refine⟨p,N+1+1+1,52,rfl,hh4,by omega,by decide,by decide,fun e H5 e0 e1 hh5 k6=>?_⟩
  walk_at"rd"
  obtain⟨m,rfl⟩ : ∃m:Nat,e =(m:Int):=⟨e.toNat,by omega⟩
  refine⟨8+m,(by show [V.int (8+(m:Int))]=[V.int ((8+m:Nat):Int)];rw[show(8+(m:Int)) =((8+m:Nat):Int) by omega]),by omega,?_⟩
  walk_at"rd"
  have h1:(2:Int)^(8+m)≤2^59:=pow2_le (by omega)
  have h2:(0:Int)<2^(8+m):=Int.pow_pos (by decide)
  have h3:(2:Int)^59=576460752303423488:=by decide
  exact q _ _ (by omega) (by omega) (hh5.mono (by omega)) (k5.trans k6)
 walk_at"rd"
 refine rd_if (fun c4=>?_) (fun c4=>?_)
 ·walk_at"rd"
  refine⟨p,N+1+1+1,_,rfl,hh4,by omega,by decide,by decide,fun e H5 e0 e1 hh5 k6=>?_⟩
  walk_at"rd"
  exact q _ _ (by omega) (by omega) (hh5.mono (by omega)) (k5.trans k6)
 ·walk_at"rd"
  exact⟨p,N+1+1+1,_,rfl,hh4,by omega,by decide,by decide,fun e H5 e0 e1 hh5 k6=>q _ _ e0 e1 (hh5.mono (by omega)) (k5.trans k6)⟩
theorem ok__law_keys {f:Addr}{fd:FuncData}(F:Fun K "_law_keys" "_law_keys" s__law_keys f fd) (mF:mg "_law_keys" = some (.ref f)) (bF:Binds K fd ["_law_hand", "_law_many"] []) (T:Bl mg) (C__law_key:Cal P w K mg base "_law_key" ["_law_hand"] 3 (sp__law_key K)):Cal P w K mg base "_law_keys" ["_law_hand", "_law_many"] 4 (sp__law_keys K):=by
 refine Cal.of F mF bF sc__law_keys (fun vs H Q E h=>?_) (fun cdv A outer s H vs Q E hr h=>?_)
 ·obtain⟨p,N,n,rfl,_⟩:=h;rfl
 obtain⟨p,N,n,rfl,hh,hN,n0,n1,q⟩:=h
 have e60:(2:Int)^60=1152921504606846976:=by decide
 refine⟨_,(pss_cons (ps_set (i:=2) sc__law_keys.nd rfl (Or.inl rfl) (pe_lst pa_nil))
   (pss_cons (ps_for PassesOwn.never rfl (pi_range1 rfl T.range (pa_cons (pv 1) pa_nil stx_Name)) (pg_name (i:=3) sc__law_keys.nd rfl (Or.inl rfl)) (pss_cons (ps_set (i:=4) sc__law_keys.nd rfl (Or.inl rfl) (pcl C__law_key (hr.mono (by decide)) (pa_cons (pv 0) pa_nil stx_Name)))
   (pss_cons (ps_while PassesOwn.never (pt_cmpR op_in_seq (pv 4) (pv 2) (by with_unfolding_all rfl)) (pss_one (ps_set (i:=4) sc__law_keys.nd rfl (Or.inl rfl) (pe_op op_mod (pe_op op_add (pv 4) pe_int) (pe_powC (c:=1152921504606846976) (by decide +kernel) ⟨by decide,by decide,by decide⟩)))))
   (pss_one (ps_expr (pe_bm PySem.F.plainAttrs_list PySem.F.slot_list_append PySem.F.type_list_append mt_append (pv 2) (pa_cons (pv 4) pa_nil stx_Name)))))))
   (pss_one (ps_ret (pv 2))))),?_⟩
 rw[st__law_keys]
 walk_at"rd"
 refine⟨by decide,fun D nD=>?_⟩
 have ck:=CK.start (ys:=[]) hh nD
 generalize upd H D _=H1 at ck ⊢
 walk_at"rd"
 refine⟨n,rfl,by omega,by omega,?_⟩
 refine for_rangeO (n:=n.toNat) (fun i σ H'=>(∃x1 x2,σ=[some (.ref p),some (.int n),some (.ref D),x1,x2])∧∃ns:List Int,ns.Nodup∧(∀k∈ns,0≤k∧k<1152921504606846976)∧ns.length=i∧CK H p D (N+20*i) (ns.map V.int) H') ⟨⟨_,_,rfl⟩,[],List.nodup_nil,by simp,rfl,ck⟩ ?_ ?_
 ·rintro i σ H2 hi ⟨⟨x1,x2,rfl⟩,ns,nd,bd,len,ck⟩
  walk_at"rd"
  refine⟨p,_,rfl,ck.hh,by omega,fun v H3 v0 v1 hh3 k3=>?_⟩
  have ck:=ck.draw k3 hh3
  have hD:=ck.lat
  walk_at"rd"
  obtain⟨m0,hm0⟩:=free_key (ks:=ns) (by omega) v
  refine⟨fun m σ H'=>H'=H3∧∃v,σ=[some (.ref p),some (.int n),some (.ref D),some (.int (0+i)),some (.int v)]∧0≤v∧v<1152921504606846976∧(v+m)%1152921504606846976∉ns,⟨m0,rfl,v,rfl,v0,by omega,hm0⟩,?_⟩
  rintro m σ H' ⟨rfl,v,rfl,u0,u1,hm⟩
  walk_at"rd"
  refine rd_inI (SqL.of hD) ?_
  walk_at"rd"
  refine rd_if (fun c=>?_) (fun c=>?_)
  ·refine⟨_,fun σ' H'' h=>h,?_⟩
   walk_at"rd"
   have hm1:m≠0:=fun e=>by
    subst e
    rw[show((0:Nat):Int)=0 from rfl,Int.add_zero,Int.emod_eq_of_lt u0 u1]at hm
    exact hm c
   refine⟨m-1,by omega,rfl,(v+1)%1152921504606846976,rfl,by omega,by omega,?_⟩
   have e:((v+1)%1152921504606846976+((m-1:Nat):Int))%1152921504606846976 =(v+m)%1152921504606846976:=by omega
   rw[e];exact hm
  ·walk_at"rd"
   refine⟨.inl ⟨rfl,_,SqL.of hD⟩,?_⟩
   walk_at"rd"
   refine⟨D,_,_,rfl,rfl,hD,by rw[List.length_map];exact small1000 (by omega),?_⟩
   walk_at"rd"
   refine⟨⟨_,_,rfl⟩,ns ++ [v],?_,fun k hk=>?_,by rw[List.length_append,len];rfl,?_⟩
   ·rw[List.nodup_append]
    exact⟨nd,by simp,fun a ha b hb e=>by simp at hb;rw[hb]at e;exact c (e ▸ ha)⟩
   ·rcases List.mem_append.mp hk with z|z
    ·exact bd k z
    ·simp at z;rw[z];exact⟨u0,u1⟩
   ·rw[List.map_append]
    exact ck.push
 ·rintro σ H2 ⟨⟨x1,x2,rfl⟩,ns,nd,bd,len,ck⟩
  walk_at"rd"
  exact q D ns _ nD ck.lat nd (by omega) bd (ck.hh.mono (by omega)) ck.kp
theorem ok__law_thing {f:Addr} {fd:FuncData} (F:Fun K "_law_thing" "_law_thing" s__law_thing f fd) (mF:mg "_law_thing" = some (.ref f)) (bF:Binds K fd ["_law_hand"] []) (T:Bl mg) (C__law_draw:Cal P w K mg base "_law_draw" ["_law_hand", "_law_many"] 1 (sp__law_draw K)) : Cal P w K mg base "_law_thing" ["_law_hand"] 2 (sp__law_thing K):=by
  refine Cal.of F mF bF sc__law_thing (fun vs H Q E h=>?_) (fun cdv A outer s H vs Q E hr h=>?_)
  · obtain ⟨p,N,rfl,_⟩:=h; rfl
  obtain ⟨p,N,rfl,hh,hN,q⟩:=h
  refine ⟨_,(pss_cons (ps_set (i:=1) sc__law_thing.nd rfl (Or.inr rfl) pe_str)
      (pss_one (ps_ret (pe_bm PySem.F.plainAttrs_str PySem.F.slot_str_join PySem.F.type_str_join mt_join pe_str (pa_cons (pe_comp rfl (blkOk (sc:=defScope s__law_thing) (N:=["_law_hand", "_law_letters"]) (vs:=["_law_k"]) (fs:=["_law_letters", "_law_hand"]) (js:=[1,0]) (by decide +kernel) rfl rfl) (pi_range1 rfl T.range (pa_cons (pe_op op_add pe_int (pcl C__law_draw (hr.mono (by decide)) (pa_cons (pv 0) (pa_cons pe_int pa_nil stx_Constant) stx_Name))) pa_nil stx_BinOp)) (fun _ _ _ _=>pg_name (i:=0) (show (["_law_k", "_law_letters", "_law_hand"] : List Str).Nodup by decide +kernel) rfl (Or.inl rfl)) (fun _ _ _ _=>pif0) (fun _ _ _ _=>(pe_ix ix_str (pv 1) (pcl C__law_draw (hr.mono (by decide)) (pa_cons (pv 2) (pa_cons pe_int pa_nil stx_Constant) stx_Name)) (fun _ _=>rfl)))) pa_nil stx_ListComp))))),?_⟩
  rw [st__law_thing]
  walk_at"rd"
  refine ⟨rfl,?_⟩
  walk_at"rd"
  refine ⟨p,_,8,rfl,hh,by omega,by decide,by decide,fun n H1 n0 n1 hh1 k1=>?_⟩
  walk_at"rd"
  refine ⟨_,rfl,by omega,by omega,fun D nD=>?_⟩
  refine comp_range (n:=(1 + n).toNat) (fun j σ' ys H'=>(∃ x,σ' = [x,some (.str (Str.ofString "abcdefghijklmnopqrstuvwxyz")),some (.ref p)])∧(∃ zs:List Str,ys = zs.map V.str∧zs.length = j∧∀ y ∈ zs,y.length = 1∧∀ c ∈ y.cps,97 ≤ c∧c ≤ 122)∧j ≤ 8∧CK H1 p D (N + 1 + j) ys H') D ⟨⟨_,rfl⟩,⟨[],rfl,rfl,fun _ h=>(by cases h)⟩,by omega,CK.start hh1 nD⟩ ?_ ?_
  · rintro j σ' ys H2 hj ⟨⟨x,rfl⟩,⟨zs,rfl,zl,zc⟩,j8,ck⟩
    walk_at"rd"
    refine ⟨p,_,26,rfl,ck.hh,by omega,by decide,by decide,fun v H3 v0 v1 hh3 k3=>?_⟩
    have ck:=ck.draw k3 hh3
    obtain ⟨c,hc,c1⟩:=let26b v0 v1
    refine rd_ixS (by decide +kernel) hc ?_
    refine ⟨ck.lat,by rw [List.length_map]; exact small1000 (by omega),⟨_,rfl⟩,⟨zs ++ [⟨#[c]⟩],by rw [List.map_append]; rfl,by rw [List.length_append,zl]; rfl,fun y hy=>?_⟩,by omega,ck.push⟩
    rcases List.mem_append.mp hy with h | h
    · exact zc y h
    · have e:y = ⟨#[c]⟩:=by simpa using h
      subst e
      exact ⟨rfl, fun d hd => by have : d = c := by simpa using hd
                                 omega⟩
  · rintro σ' ys H2 ⟨⟨x,rfl⟩,⟨zs,rfl,zl,zc⟩,j8,ck⟩
    walk_at"rd"
    refine ⟨_,D,zs,rfl,rfl,SqL.of ck.lat,?_,?_⟩
    · rw [sum_nm zs zc,show (Str.ofString "").length = 0 by decide]; omega
    obtain ⟨w1,w2⟩:=join_nm zs zc
    rw [joinT]
    exact q _ _ ⟨by rw [w1]; omega,by rw [w1]; omega,w2⟩ (ck.hh.mono (by omega)) (k1.trans ck.kp)
theorem ok__law_filled {f:Addr}{fd:FuncData}(F:Fun K "_law_filled" "_law_filled" s__law_filled f fd) (mF:mg "_law_filled" = some (.ref f)) (bF:Binds K fd ["_law_hand", "_law_table", "_law_many"] []) (T:Bl mg) {CT:Addr}(TC:Txt_Table K mg CT) (C_Table_put:MCal P w K mg base CT "put" ["self", "key", "thing"] 7 (sp_Table_put K CT)) (C__law_keys:Cal P w K mg base "_law_keys" ["_law_hand", "_law_many"] 4 (sp__law_keys K)) (C__law_thing:Cal P w K mg base "_law_thing" ["_law_hand"] 2 (sp__law_thing K)):Cal P w K mg base "_law_filled" ["_law_hand", "_law_table", "_law_many"] 8 (sp__law_filled K CT):=by
 refine Cal.of F mF bF sc__law_filled (fun vs H Q E h=>?_) (fun cdv A outer s H vs Q E hr h=>?_)
 ·obtain⟨p,x,d,w,f,n,N,rfl,_⟩:=h;rfl
 obtain⟨p,x,d,w,f,n,N,rfl,t,hh,hN,n0,n1,q⟩:=h
 have hu1:=hu_of hr
 refine⟨_,(pss_cons (ps_set (i:=3) sc__law_filled.nd rfl (Or.inl rfl) pe_dnewK)
   (pss_cons (ps_for PassesOwn.never rfl (pi_list (pcl C__law_keys (hr.mono (by decide)) (pa_cons (pv 0) (pa_cons (pv 2) pa_nil stx_Name) stx_Name))) (pg_name (i:=4) sc__law_filled.nd rfl (Or.inl rfl)) (pss_cons (ps_dput hu1 (pv 3) (pv 4) (pcl C__law_thing (hr.mono (by decide)) (pa_cons (pv 0) pa_nil stx_Name)) rfl)
   (pss_one (ps_expr (pml C_Table_put TC.cl (hr.mono (by decide)) (pv 1) (pa_cons (pv 4) (pa_cons (pe_dget hu1 (pv 3) (pv 4) (fun _ _=>rfl)) pa_nil stx_Subscript) stx_Name))))))
   (pss_one (ps_ret (pv 3))))),?_⟩
 rw[st__law_filled]
 walk_at"rd"
 intro m nm0
 generalize hE:upd H m _=H1
 obtain⟨hm1,s1⟩:=newo nm0 hE
 clear hE
 have md:m≠d:=(ne_of_none t.dc nm0).symm
 walk_at"rd"
 refine⟨p,_,n,rfl,hh.same s1,by omega,by omega,by omega,fun kl ns H2 nkl hkl nd nlen nb hh2 k2=>?_⟩
 have tm2:TM CT x d m p w f (N+4000) [] H2:=((show TM CT x d m p w f N [] H1 from⟨t.same s1,hm1,hh.same s1,md⟩).draw k2 (hh2.mono (by omega)))
 have klp:kl≠p:=by
  obtain⟨l,a,c,zs,h1,h2,_⟩:=hh2.ex
  refine ne_of hkl h1 fun z=>?_
  injection z with z
  have q:=congrArg (fun x=>x[2]?) z
  rw[List.getElem?_map]at q
  cases e:ns[2]? with
  | none=>rw[e]at q;cases q
  | some v=>rw[e]at q;cases q
 have nl:ns.length≤20:=by omega
 have kls:∀H',K4 H2 H' p d m→H' kl=some (.lst (ns.map V.int)):=fun H' k=>k _ _ klp (dK_lst tm2.tb.dc hkl) (dK_lst tm2.md hkl) hkl
 walk_at"rd"
 refine⟨kl,rfl,⟨_,SqL.of hkl⟩,?_⟩
 refine for_listO (xs:=ns.map V.int) (fun i σ H'=>∃(es:List (Int×Str)) (y4:Option V),σ=[some (.ref p),some (.ref x),some (.int n),some (.ref m),y4]∧es.length≤i∧TM CT x d m p w f (N+4000+30*i) es H'∧K4 H2 H' p d m) ⟨[],_,rfl,Nat.le_refl _,tm2,fun _ _ _ _ _ e=>e⟩ (fun _ _ _ _ h=>by
   obtain⟨_,_,_,_,_,k⟩:=h
   exact SqL.of (kls _ k)) ?_ ?_
 ·rintro i z σ H7 hz ⟨es,y4,rfl,el,t7,k7⟩
  obtain⟨k,hk,rfl⟩:=ints_get hz
  have il2:=(List.getElem?_eq_some_iff.mp hk).1
  obtain⟨k0,k1⟩:=nb k (List.mem_of_getElem? hk)
  walk_at"rd"
  refine⟨p,_,rfl,t7.hh,by omega,fun z H8 zn hh8 k8=>?_⟩
  have t8:=t7.draw k8 hh8
  have k78:K4 H7 H8 p d m:=fun b o h1 _ _ e=>k8.1 _ _ e h1
  have okp:=putE_ok t8.tb.ok k0 k1 zn (.inr (by omega))
  obtain⟨tk,te⟩:=thE_putE (es:=es) (k:=k) (z:=z) okp.1
  walk_at"rd"
  refine⟨m,_,rfl,DPut.k (k:=Sum.inl k) t8.md (by rw[eV_len];exact small1000 (by omega)),?_⟩
  rw[putE_V]
  have hm9:(upd H8 m (.dK (eV (putE es k z)))) m=some (.dK (eV (putE es k z))):=upd_same
  have kd9:∀b o,b≠m→H8 b=some o→(upd H8 m (.dK (eV (putE es k z)))) b=some o:=fun b o n e=>by rw[upd_ne n];exact e
  generalize upd H8 m (.dK (eV (putE es k z)))=H9 at hm9 kd9 ⊢
  have t9:Tab CT H9 x d w f es:=by
   obtain⟨dx,ho⟩:=t8.tb.ob
   exact⟨⟨dx,kd9 _ _ (ne_of ho t8.md (by intro z;cases z)) ho⟩,kd9 _ _ t8.ne.symm t8.tb.dc,t8.tb.ok,t8.tb.sz⟩
  have hh9:Hand H9 p (N+4000+30*i+20):=by
   obtain⟨l,a,c,ns,h1,h2,r⟩:=hh8.ex
   exact⟨l,a,c,ns,kd9 _ _ (ne_of h1 t8.md (by intro z;cases z)) h1,kd9 _ _ (ne_of h2 t8.md (by intro z;cases z)) h2,r⟩
  obtain⟨dx,ho⟩:=t9.ob
  walk_at"rd"
  refine⟨x,dx,_,rfl,ho,no_put77,?_⟩
  walk_at"rd"
  refine⟨m,_,rfl,by rw[← valV_thE tk];exact DGet.k (k:=Sum.inl k) hm9,?_⟩
  rw[te]
  have fin:∀HA,Tab CT HA x d w f (putE es k z)→Kd H9 HA d→∃(es:List (Int×Str)) (y4:Option V),[some (V.ref p),some (.ref x),some (.int n),some (.ref m),some (.int k)]=[some (.ref p),some (.ref x),some (.int n),some (.ref m),y4]∧es.length≤i+1∧TM CT x d m p w f (N+4000+30*(i+1)) es HA∧K4 H2 HA p d m:=fun HA tA kdA=>by
   refine⟨putE es k z,_,rfl,?_,⟨tA,kdA _ _ t8.ne hm9,?_,t8.ne⟩,(k7.trans k78).trans fun b o h1 h2 h3 e=>kdA _ _ h2 (kd9 _ _ h3 e)⟩
   ·rw[putE_len];split <;> omega
   ·obtain⟨l,a,c,ns,h1,h2,r⟩:=(hh9.mono (M:=N+4000+30*(i+1)) (by omega)).ex
    exact⟨l,a,c,ns,kdA _ _ (ne_of h1 t9.dc (by intro z;cases z)) h1,kdA _ _ (ne_of h2 t9.dc (by intro z;cases z)) h2,r⟩
  walk_at"rd"
  refine⟨x,d,w,f,es,k,z,rfl,t9,k0,k1,zn,.inr (by omega),fun HA _ tA kA=>?_,fun _ _ _ HA _ tA kA _ _ _ _ _=>?_⟩
  ·walk_at"rd"
   exact fin HA tA kA
  ·walk_at"rd"
   exact fin HA tA kA
 ·rintro σ H7 ⟨es,y4,rfl,el,t7,k7⟩
  walk_at"rd"
  exact q m es H7 t7.tb t7.md fun b o h1 h2 e=>k7 _ _ h1 h2 (ne_of_none e nm0) (k2.1 _ _ (s1 _ _ e) h1)
theorem ok__law_places {f:Addr}{fd:FuncData}(F:Fun K "_law_places" "_law_places" s__law_places f fd) (mF:mg "_law_places" = some (.ref f)) (bF:Binds K fd ["_law_script", "_law_least", "_law_most"] []) (T:Bl mg)  : Cal P w K mg base "_law_places" ["_law_script", "_law_least", "_law_most"] 1 (sp__law_places K):=by
 refine Cal.of F mF bF sc__law_places (fun vs H Q E h=>?_) (fun cdv A outer s H vs Q E hr h=>?_)
 ·obtain⟨a,ns,l,m,rfl,_⟩:=h;rfl
 obtain⟨a,ns,l,m,rfl,ha,hl,l0,l1,m0,m1,q⟩:=h
 refine⟨_,(pss_one (ps_ret (pe_callTy (call_listR2 rfl) rfl T.list bt_list (pa_cons (pe_callTy call_rng2 rfl T.range bt_range (pa_cons pe_int (pa_cons (pe_op op_add pe_int (pe_callB (call_maxI rfl) rfl T.max bt_max (pa_cons (pv 1) (pa_cons (pe_callB (call_minI rfl) rfl T.min bt_min (pa_cons (pe_callB call_lenL rfl T.len bt_len (pa_cons (pv 0) pa_nil stx_Name)) (pa_cons (pv 2) pa_nil stx_Name) stx_Call)) pa_nil stx_Call) stx_Name))) pa_nil stx_BinOp) stx_Constant)) pa_nil stx_Call)))),?_⟩
 rw[st__law_places]
 walk_at"rd"
 refine⟨a,_,rfl,.inl ha,?_⟩
 rw[List.length_map]
 walk_at"rd"
 refine⟨_,_,rfl,fun r nr=>?_⟩
 generalize hE:upd H r _=H1
 obtain⟨hr1,s1⟩:=newo nr hE
 clear hE
 walk_at"rd"
 refine⟨r,_,_,rfl,hr1,by omega,by omega,by omega,by omega,fun l' nl'=>?_⟩
 exact q _ l' _ (by omega) (s1.free nl') upd_same (s1.trans (same_new nl' _))
theorem ok__law_asked {f:Addr}{fd:FuncData}(F:Fun K "_law_asked" "_law_asked" s__law_asked f fd) (mF:mg "_law_asked" = some (.ref f)) (bF:Binds K fd ["_law_way", "_law_table", "_law_rooms", "_law_mark"] []) (T:Bl mg) {TE:Addr}{CE_NoMark:Addr}(XE_NoMark:XTxt K mg "NoMark" CE_NoMark TE "mark") {CE_Lacking:Addr}(XE_Lacking:XNm mg "Lacking" CE_Lacking) {CE_NoKey:Addr}(XE_NoKey:XNm mg "NoKey" CE_NoKey) {CE_NoRoom:Addr}(XE_NoRoom:XNm mg "NoRoom" CE_NoRoom) {CE_NoSize:Addr}(XE_NoSize:XNm mg "NoSize" CE_NoSize) (XT:XTop K mg TE) (kt_no:PySem.W.kitAny K (.ref CE_NoMark) [.ref CE_Lacking,.ref CE_NoKey,.ref CE_NoRoom,.ref CE_NoSize]=some false) (kt_ve:PySem.W.kitOne K (.ref CE_NoMark) (.type "ValueError")=some true) {CT:Addr}(TC:Txt_Table K mg CT) (C_room_at:Cal1 P w K mg base "room_at" ["mark", "rooms"] 5 (sp_room_at K)) (C_page:Cal1 P w K mg base "page" ["table", "mark"] 6 (sp_page K CT)) (C_ahead:Cal1 P w K mg base "ahead" ["table", "mark"] 6 (sp_ahead K CT)):Cal P w K mg base "_law_asked" ["_law_way", "_law_table", "_law_rooms", "_law_mark"] 7 (sp__law_asked K CT):=by
 refine Cal.of F mF bF sc__law_asked (fun vs H Q E h=>?_) (fun cdv A outer s H vs Q E hr h=>?_)
 ·obtain⟨p,d,w,f,way,R,es,v,rfl,_⟩:=h;rfl
 obtain⟨p,d,w,f,way,R,es,v,rfl,t,tb,y0,y1,r1,r2,h⟩:=h
 refine⟨_,(pss_cons (ps_cut (ps_try1 (i:=5) sc__law_asked.nd rfl rfl rfl rfl rfl XT.mg (fun xe pn E1 thr=>(pss_one (ps_if (pt_cmpR op_eq (pv 0) pe_int (nomark _)) (pss_one (ps_set (i:=4) sc__law_asked.nd rfl (Or.inl rfl) (pcl1 C_room_at (thr.passes fun _ _ _ z=>z) (hr.mono (by decide)) (pa_cons (pv 3) (pa_cons (pv 2) pa_nil stx_Name) stx_Name)))) (pss_one (ps_if (pt_cmpR op_eq (pv 0) pe_int (nomark _)) (pss_one (ps_set (i:=4) sc__law_asked.nd rfl (Or.inl rfl) (pcl1 C_page (thr.passes fun _ _ _ z=>z) (hr.mono (by decide)) (pa_cons (pv 1) (pa_cons (pv 3) pa_nil stx_Name) stx_Name)))) (pss_one (ps_set (i:=4) sc__law_asked.nd rfl (Or.inl rfl) (pcl1 C_ahead (thr.passes fun _ _ _ z=>z) (hr.mono (by decide)) (pa_cons (pv 1) (pa_cons (pv 3) pa_nil stx_Name) stx_Name))))))))) (fun exx=>(pss_cons (ps_set (i:=6) sc__law_asked.nd rfl (Or.inl rfl) (pe_callB (call_isiETK (K:=K) rfl) rfl T.isinstance bt_isinstance (pa_cons (pv 5) (pa_cons (pe_tup (pa_cons (pe_glob (v:=V.ref CE_Lacking) rfl XE_Lacking.mg (show L2.RelV (.ref CE_Lacking) (.ref CE_Lacking) from rfl)) (pa_cons (pe_glob (v:=V.ref CE_NoKey) rfl XE_NoKey.mg (show L2.RelV (.ref CE_NoKey) (.ref CE_NoKey) from rfl)) (pa_cons (pe_glob (v:=V.ref CE_NoRoom) rfl XE_NoRoom.mg (show L2.RelV (.ref CE_NoRoom) (.ref CE_NoRoom) from rfl)) (pa_cons (pe_glob (v:=V.ref CE_NoSize) rfl XE_NoSize.mg (show L2.RelV (.ref CE_NoSize) (.ref CE_NoSize) from rfl)) pa_nil stx_Name) stx_Name) stx_Name) stx_Name)) pa_nil stx_Tuple) stx_Name)))
   (pss_cons (ps_if (PW.pt (pw_or (pt_val (pv 6)) (pw_or (pt_not (pt_val (pe_callB (call_isiEK (K:=K) rfl) rfl T.isinstance bt_isinstance (pa_cons (pv 5) (pa_cons (pe_glob (v:=V.ref CE_NoMark) rfl XE_NoMark.mg (show L2.RelV (.ref CE_NoMark) (.ref CE_NoMark) from rfl)) pa_nil stx_Name) stx_Name)))) (pw_or1 (pt_not (pt_val (pe_callB (call_isiEK (K:=K) rfl) rfl T.isinstance bt_isinstance (pa_cons (pv 5) (pa_cons (pe_bltn (v:=.ty "ValueError") rfl T.ValueError bt_ValueError rfl) pa_nil stx_Name) stx_Name)))))))) (pss_one (ps_ret (pe_tup (pa_cons pe_str (pa_cons pe_int pa_nil stx_Constant) stx_Constant)))) pss_nil)
   (pss_one (ps_ret (pe_tup (pa_cons pe_str (pa_cons (pe_xat (K:=K) rfl (pv 5) rfl) pa_nil stx_Attribute) stx_Constant)))))))))
   (pss_one (ps_ret (pe_tup (pa_cons pe_str (pa_cons (pv 4) pa_nil stx_Name) stx_Constant))))),?_⟩
 rw[st__law_asked]
 walk_at"rd"
 rcases h with⟨ow,q⟩|⟨m,rfl,gm,q⟩
 ·refine cutO (fun σ H'=>False) ?_ (fun _ _ z=>z.elim)
  intro Nx hNx
  refine⟨fun u C H0=>C=some CE_NoMark∧RelV v u∧H0=H,?_,?_⟩
  ·have fin:∀u C,RelV v u→PySem.W.nsIn K mainGlobals "NoMark" = some (some (.ref C))→(some C=some CE_NoMark∧RelV v u∧H=H):=fun u C ru hC=>by
    rw[XE_NoMark.nm]at hC;cases hC;exact⟨rfl,ru,rfl⟩
   walk_at"rd"
   refine rd_if (fun c=>?_) (fun c=>?_)
   ·walk_at"rd"
    refine⟨v,R,rfl,by omega,by omega,.inr ⟨?_,fin⟩⟩
    rcases ow with⟨_,o⟩|⟨z,_⟩
    ·exact o
    ·omega
   ·walk_at"rd"
    refine rd_if (fun c2=>?_) (fun c2=>?_)
    ·walk_at"rd"
     refine⟨p,d,w,f,es,v,rfl,t,tb,.inr ⟨?_,fin⟩⟩
     rcases ow with⟨_,o⟩|⟨z,_⟩
     ·exact o
     ·omega
    ·walk_at"rd"
     refine⟨p,d,w,f,es,v,rfl,t,tb,.inr ⟨?_,fin⟩⟩
     rcases ow with⟨z,_⟩|⟨_,o⟩
     ·omega
     ·exact o
  ·rintro u C H0 ⟨hC,ru,rfl⟩
   cases hC
   refine⟨und_tail XE_NoMark.xc XT.xc,fun e H' σ' a' v' rv xa ha s1 hl=>?_⟩
   obtain⟨z0,z1,z2,z3,z4,z5,z6,rfl⟩:=stl7 hl
   obtain rfl:=ha _ XE_NoMark.cls
   obtain rfl:=rv.inj ru
   walk_at"rd"
   refine⟨(by show 4≤sizeLine;decide),fun tp ntp=>?_⟩
   generalize hE:upd H' tp _=H2
   obtain⟨htp,s2⟩:=newo ntp hE
   clear hE
   have xa2:=xa.same s2
   walk_at"rd"
   refine rd_isiET (cs:=[CE_Lacking,CE_NoKey,CE_NoRoom,CE_NoSize]) xa2 XE_NoMark.kit htp kt_no ?_
   walk_at"rd"
   refine rd_isiE xa2 XE_NoMark.kit (cv:=.ref CE_NoMark) (fun u h=>h) kit_self ?_
   walk_at"rd"
   refine rd_isiE xa2 XE_NoMark.kit (cv:=.type "ValueError") (fun u h=>h) kt_ve ?_
   walk_at"rd"
   refine⟨e,_,_,rfl,xa2,XE_NoMark.at_,?_⟩
   walk_at"rd"
   refine⟨(by show 2≤sizeLine;decide),fun t2 n2=>?_⟩
   generalize hE:upd H2 t2 _=H3
   obtain⟨h3,s3⟩:=newo n2 hE
   clear hE
   walk_at"rd"
   have s13:Same H0 H3:=Same.trans (Same.trans s1 s2) s3
   exact q t2 H3 h3 s13 (tb.same s13)
 ·refine cutO (fun σ H'=>∃(x:V) (y5 y6:Option V),σ=[some (.int way),some (.ref p),some (.int R),some (.int m),some x,y5,y6]∧(way=2→x = .int ((es.filter (inB m 1152921504606846976)).length:Nat))∧Sm H H'∧TB_between K H') ?_ ?_
  ·intro Nx hNx
   refine⟨fun _ _ _=>False,?_,fun _ _ _ z=>z.elim⟩
   walk_at"rd"
   refine rd_if (fun c=>?_) (fun c=>?_)
   ·walk_at"rd"
    refine⟨_,R,rfl,by omega,by omega,.inl ⟨m,rfl,gm.1,by rcases gm.2 with z|z <;> omega,?_⟩⟩
    walk_at"rd"
    exact⟨_,_,_,rfl,fun z=>absurd z (by omega),Sm.refl _,tb⟩
   ·walk_at"rd"
    refine rd_if (fun c2=>?_) (fun c2=>?_)
    ·walk_at"rd"
     refine⟨p,d,w,f,es,_,rfl,t,tb,.inl ⟨m,rfl,gm.1,by rcases gm.2 with z|z <;> omega,fun t1 H1 s1 tb1=>?_⟩⟩
     walk_at"rd"
     exact⟨_,_,_,rfl,fun z=>absurd z (by omega),s1,tb1⟩
    ·walk_at"rd"
     refine⟨p,d,w,f,es,_,rfl,t,tb,.inl ⟨m,rfl,gm.1,by rcases gm.2 with z|z <;> omega,fun H1 s1 tb1=>?_⟩⟩
     walk_at"rd"
     exact⟨_,_,_,rfl,fun _=>rfl,s1,tb1⟩
  ·rintro σ H1 ⟨x,y5,y6,rfl,hx,s1,tb1⟩
   walk_at"rd"
   refine⟨(by show 2≤sizeLine;decide),fun t2 n2=>?_⟩
   generalize hE:upd H1 t2 _=H3
   obtain⟨h3,s3⟩:=newo n2 hE
   clear hE
   walk_at"rd"
   exact q t2 x H3 h3 hx (s1.trans s3.sm) (tb1.same s3)
theorem ok__law_refused {f:Addr}{fd:FuncData}(F:Fun K "_law_refused" "_law_refused" s__law_refused f fd) (mF:mg "_law_refused" = some (.ref f)) (bF:Binds K fd ["_law_got", "_law_mark"] []) (T:Bl mg)  : Cal P w K mg base "_law_refused" ["_law_got", "_law_mark"] 1 (sp__law_refused K):=by
 refine Cal.of F mF bF sc__law_refused (fun vs H Q E h=>?_) (fun cdv A outer s H vs Q E hr h=>?_)
 ·obtain⟨t,v,rfl,_⟩:=h;rfl
 obtain⟨t,v,rfl,ht,ov,q⟩:=h
 have hu:=hr.units
 refine⟨_,(pss_one (ps_ret (pe_and (pe_cmpR (op_eqT hu) (pv 0) (pe_tup (pa_cons pe_str (pa_cons (pv 1) pa_nil stx_Name) stx_Constant)) (nomark _)) (pe_one (pe_cmpR op_eq (pe_callB call_isinst rfl T.isinstance bt_isinstance (pa_cons (pe_ix ix_tup (pv 0) pe_int (fun _ _=>rfl)) (pa_cons (pe_bltn (v:=.ty "bool") rfl T.bool bt_bool rfl) pa_nil stx_Name) stx_Subscript)) (pe_callB call_isinst rfl T.isinstance bt_isinstance (pa_cons (pv 1) (pa_cons (pe_bltn (v:=.ty "bool") rfl T.bool bt_bool rfl) pa_nil stx_Name) stx_Name)) (nomark _)))))),?_⟩
 rw[st__law_refused]
 walk_at"rd"
 refine⟨(by show 2≤sizeLine;decide),fun t2 n2=>?_⟩
 generalize hE:upd H t2 _=H1
 obtain⟨h1,s1⟩:=newo n2 hE
 clear hE
 have ov1:(∃k,v = .int k)∨NonInt H1 v:=ov.imp id fun h=>h.same s1
 have ht1:=s1 _ _ ht
 walk_at"rd"
 refine rd_eqT (SqT.of ht1) (SqT.of h1) (by show(true && (plainV v && true))=true;rw[plain_any ov];rfl) ?_
 walk_at"rd"
 refine rd_isBl ov1 ?_
 walk_at"rd"
 refine rd_isBl ov1 ?_
 walk_at"rd"
 rw[decide_eq_true rfl]
 exact q _ s1
theorem ok_law {f:Addr}{fd:FuncData}(F:Fun K "law" "law" s_law f fd) (T:Bl mg) {CT:Addr}(TC:Txt_Table K mg CT) (C_Table___init__:KCal P w K mg base "Table" CT ["self", "wide", "fill"] 4 (sp_Table___init__ K CT)) (C_Table_entries:MCal P w K mg base CT "entries" ["self"] 1 (sp_Table_entries K CT)) (C__law_open:Cal P w K mg base "_law_open" ["_law_script", "_law_place"] 1 (sp__law_open K)) (C__law_filled:Cal P w K mg base "_law_filled" ["_law_hand", "_law_table", "_law_many"] 8 (sp__law_filled K CT)) (C__law_places:Cal P w K mg base "_law_places" ["_law_script", "_law_least", "_law_most"] 1 (sp__law_places K)) (C__law_draw:Cal P w K mg base "_law_draw" ["_law_hand", "_law_many"] 1 (sp__law_draw K)) (C__law_asked:Cal P w K mg base "_law_asked" ["_law_way", "_law_table", "_law_rooms", "_law_mark"] 7 (sp__law_asked K CT)) (C__law_refused:Cal P w K mg base "_law_refused" ["_law_got", "_law_mark"] 1 (sp__law_refused K)):FnOk P w K mg base CX0 9 f fd ["_law_script"] (sp_law K):=by
 refine F.ok sc_law (fun vs H Q E h=>?_) (fun cdv A outer s H vs Q E hr h=>?_)
 ·obtain⟨a,ns,rfl,_⟩:=h;rfl
 obtain⟨a,ms,rfl,hS,hlen,tb,q⟩:=h
 have hu:=hr.units
 have hu1:=hu_of hr
 refine⟨_,(pss_cons (ps_set (i:=1) sc_law.nd rfl (Or.inl rfl) (pcl C__law_open (hr.mono (by decide)) (pa_cons (pv 0) (pa_cons pe_int pa_nil stx_Constant) stx_Name)))
   (pss_cons (ps_set (i:=2) sc_law.nd rfl (Or.inr rfl) (pmk C_Table___init__ (hr.mono (by decide)) (pa_cons (pe_op op_add pe_int (pcl C__law_draw (hr.mono (by decide)) (pa_cons (pv 1) (pa_cons pe_int pa_nil stx_Constant) stx_Name))) (pa_cons (pe_op op_add pe_int (pcl C__law_draw (hr.mono (by decide)) (pa_cons (pv 1) (pa_cons pe_int pa_nil stx_Constant) stx_Name))) pa_nil stx_BinOp) stx_BinOp)))
   (pss_cons (ps_set (i:=3) sc_law.nd rfl (Or.inl rfl) (pcl C__law_filled (hr.mono (by decide)) (pa_cons (pv 1) (pa_cons (pv 2) (pa_cons (pcl C__law_draw (hr.mono (by decide)) (pa_cons (pv 1) (pa_cons pe_int pa_nil stx_Constant) stx_Name)) pa_nil stx_Call) stx_Name) stx_Name)))
   (pss_cons (ps_for PassesOwn.never rfl (pi_list (pcl C__law_places (hr.mono (by decide)) (pa_cons (pv 0) (pa_cons pe_int (pa_cons pe_int pa_nil stx_Constant) stx_Constant) stx_Name))) (pg_name (i:=4) sc_law.nd rfl (Or.inl rfl)) (pss_cons (ps_set (i:=1) sc_law.nd rfl (Or.inl rfl) (pcl C__law_open (hr.mono (by decide)) (pa_cons (pv 0) (pa_cons (pv 4) pa_nil stx_Name) stx_Name)))
   (pss_cons (ps_set (i:=5) sc_law.nd rfl (Or.inl rfl) (pe_lstS (pas_cons (pe_un un_neg pe_int) (pas_cons (pe_powC (c:=1152921504606846976) (by decide +kernel) ⟨by decide,by decide,by decide⟩) (pas_cons (pe_op op_add (pe_powC (c:=1152921504606846976) (by decide +kernel) ⟨by decide,by decide,by decide⟩) pe_int) (pas_cons (pe_powC (c:=1000000000000000000000000000000) (by decide +kernel) ⟨by decide,by decide,by decide⟩) (pas_cons pe_bl (pas_cons pe_bl (pas_cons pe_non (pas_cons pe_str (pas_cons (pe_tup (pa_cons pe_int pa_nil stx_Constant)) (pas_cons (pe_lst (pa_cons pe_int pa_nil stx_Constant)) (pas_cons pe_dnewK (pas_cons (pe_un un_neg (pe_powC (c:=10000000000000000000000000) (by decide +kernel) ⟨by decide,by decide,by decide⟩)) pas_nil stx_UnaryOp) stx_Dict) stx_List) stx_Tuple) stx_Constant) stx_Constant) stx_Constant) stx_Constant) stx_BinOp) stx_BinOp) stx_BinOp) stx_UnaryOp)))
   (pss_cons (ps_set (i:=6) sc_law.nd rfl (Or.inl rfl) (pcl C__law_draw (hr.mono (by decide)) (pa_cons (pv 1) (pa_cons pe_int pa_nil stx_Constant) stx_Name)))
   (pss_cons (ps_set (i:=7) sc_law.nd rfl (Or.inr rfl) (pe_op op_add pe_int (pcl C__law_draw (hr.mono (by decide)) (pa_cons (pv 1) (pa_cons pe_int pa_nil stx_Constant) stx_Name))))
   (pss_cons (ps_for PassesOwn.never rfl (pi_range1 rfl T.range (pa_cons pe_int pa_nil stx_Constant)) (pg_name (i:=8) sc_law.nd rfl (Or.inl rfl)) (pss_cons (ps_set (i:=9) sc_law.nd rfl (Or.inl rfl) (pe_ix ix_list (pv 5) (pe_op op_mod (pe_op op_add (pv 6) (pe_op op_mul pe_int (pv 8))) pe_int) (fun _ _=>rfl)))
   (pss_one (ps_for PassesOwn.never rfl (pi_range1 rfl T.range (pa_cons pe_int pa_nil stx_Constant)) (pg_name (i:=10) sc_law.nd rfl (Or.inr rfl)) (pss_cons (ps_set (i:=11) sc_law.nd rfl (Or.inl rfl) (pcl C__law_asked (hr.mono (by decide)) (pa_cons (pv 10) (pa_cons (pv 2) (pa_cons (pv 7) (pa_cons (pv 9) pa_nil stx_Name) stx_Name) stx_Name) stx_Name)))
   (pss_one (ps_if (PW.pt (pw_and (pt_cmpR op_eq (pv 10) pe_int (nomark _)) (pw_and1 (pt_cmpR (op_eqAI hu) (pv 9) (pe_powC (c:=1152921504606846976) (by decide +kernel) ⟨by decide,by decide,by decide⟩) (nomark _))))) (pss_one (ps_if (pt_cmpR (op_neD hu) (pv 11) (pe_tup (pa_cons pe_str (pa_cons pe_int pa_nil stx_Constant) stx_Constant)) (nomark _)) (pss_one (ps_ret pe_bl)) pss_nil)) (pss_one (ps_if (pt_not (pt_val (pcl C__law_refused (hr.mono (by decide)) (pa_cons (pv 11) (pa_cons (pv 9) pa_nil stx_Name) stx_Name)))) (pss_one (ps_ret pe_bl)) pss_nil)))))))))
   (pss_cons (ps_for PassesOwn.never rfl (pi_range1 rfl T.range (pa_cons pe_int pa_nil stx_Constant)) (pg_name (i:=10) sc_law.nd rfl (Or.inr rfl)) (pss_one (ps_if (pt_cmpR (op_neD hu) (pe_comp rfl (blkOk (sc:=defScope s_law) (N:=["_law_script", "_law_hand", "_law_table", "_law_model", "_law_place", "_law_some", "_law_at", "_law_rooms", "_law_k", "_law_mark", "_law_way", "_law_got"]) (vs:=["_law_mark"]) (fs:=["_law_way", "_law_table", "_law_rooms"]) (js:=[10,2,7]) (by decide +kernel) rfl rfl) (pi_list (pe_lst (pa_cons pe_int (pa_cons (pe_op op_sub (pe_powC (c:=1152921504606846976) (by decide +kernel) ⟨by decide,by decide,by decide⟩) pe_int) pa_nil stx_BinOp) stx_Constant))) (fun _ _ _ _=>pg_name (i:=0) (show(["_law_mark", "_law_way", "_law_table", "_law_rooms"]:List Str).Nodup by decide +kernel) rfl (Or.inl rfl)) (fun _ _ _ _=>pif0) (fun _ _ _ _=>(pe_ix (ix_tupK (K:=K) rfl) (pcl C__law_asked (hr.mono (by decide)) (pa_cons (pv 1) (pa_cons (pv 2) (pa_cons (pv 3) (pa_cons (pv 0) pa_nil stx_Name) stx_Name) stx_Name) stx_Name)) pe_int (fun _ _=>rfl)))) (pe_lst (pa_cons pe_str (pa_cons pe_str pa_nil stx_Constant) stx_Constant)) (nomark _)) (pss_one (ps_ret pe_bl)) pss_nil)))
   (pss_one (ps_if (PW.pt (pw_or (pt_cmpR (op_neD hu) (pcl C__law_asked (hr.mono (by decide)) (pa_cons pe_int (pa_cons (pv 2) (pa_cons (pv 7) (pa_cons pe_int pa_nil stx_Constant) stx_Name) stx_Name) stx_Constant)) (pe_tup (pa_cons pe_str (pa_cons (pe_callB call_lenD rfl T.len bt_len (pa_cons (pv 3) pa_nil stx_Name)) pa_nil stx_Call) stx_Constant)) (nomark _)) (pw_or1 (pt_cmpR (op_neD hu) (pml0 C_Table_entries TC.cl (hr.mono (by decide)) (pv 2)) (pe_callB (call_sortI rfl) rfl T.sorted bt_sorted (pa_cons (pe_bm0 PySem.F.plainAttrs_dict PySem.F.slot_dict_items PySem.F.type_dict_items mt_items (pv 3)) pa_nil stx_Call)) (nomark _))))) (pss_one (ps_ret pe_bl)) pss_nil)))))))))
   (pss_one (ps_ret pe_bl)))))),?_⟩
 rw[st_law]
 walk_at"rd"
 refine⟨a,ms,0,rfl,hS,hlen,by omega,by omega,fun p H1 np s1 hh1=>?_⟩
 walk_at"rd"
 refine⟨p,_,8,rfl,hh1,by decide,by decide,by decide,fun w0 H2 w00 w01 hh2 k2=>?_⟩
 walk_at"rd"
 refine⟨p,_,8,rfl,hh2,by decide,by decide,by decide,fun f0 H3 f00 f01 hh3 k3=>?_⟩
 walk_at"rd"
 have w1:1≤1+w0:=by omega
 have w2:1+w0≤8:=by omega
 have f1:1≤1+f0:=by omega
 have f2:1+f0≤8:=by omega
 generalize 1+w0=w at w1 w2 ⊢
 generalize 1+f0=f at f1 f2 ⊢
 have s03:Same H H3:=Kp.new s1 np (k2.trans k3)
 intro x dx nx ndx nex
 refine⟨x,dx,w,f,rfl,upd_same,w1,w2,f1,f2,fun d H4 nd tab kp=>⟨rfl,?_⟩⟩
 have s34:Same H3 H4:=fun c o e=>kp c o (by rw[upd_ne (ne_of_none e nx),upd_ne (ne_of_none e ndx)];exact e) (ne_of_none e nx)
 have s04:=s03.trans s34
 have hd:H d=none:=by
  refine s03.free ?_
  cases c:H3 d with
  | none=>rfl
  | some o=>rw[upd_ne (ne_of_none c nx),upd_ne (ne_of_none c ndx)]at nd;rw[c]at nd;cases nd
 have hh4:=hh3.same s34
 clear s34 kp nd hh1 hh2 hh3 k2 k3 s03 s1
 walk_at"rd"
 refine⟨p,_,21,rfl,hh4,by omega,by decide,by decide,fun n H5 n0 n1 hh5 k5=>?_⟩
 walk_at"rd"
 refine⟨p,x,d,w,f,n,_,rfl,tab.kp hh4 k5,hh5,by omega,n0,by omega,fun m es H6 t6 hm6 k6=>?_⟩
 have s06:Same H H6:=fun c o e=>k6 _ _ (ne_of_none e np) (ne_of_none e hd) (k5.1 _ _ (s04 _ _ e) (ne_of_none e np))
 have ln:=t6.ok.2.2
 have tb6:=tb.same s06
 clear tab hh4 hh5 k5 k6 s04
 walk_at"rd"
 refine⟨a,ms,8,30,rfl,s06.seq hS,hlen,by omega,by omega,by omega,by omega,fun n lp HA hn nlp hlp sA=>?_⟩
 have s0A:=s06.trans sA
 have tA:=t6.same sA
 have hmA:=sA _ _ hm6
 have tbA:=tb6.same sA
 clear s06 sA t6 hm6 tb6
 walk_at"rd"
 refine⟨lp,rfl,⟨_,SqL.of hlp⟩,?_⟩
 refine for_listO (xs:=(fromN 1 n).map V.int) (fun i σ H'=>(∃y1 y4 y5 y6 y7 y8 y9 yA yB,σ=[some (.ref a),y1,some (.ref x),some (.ref m),y4,y5,y6,y7,y8,y9,yA,yB])∧Sm HA H'∧TB_between K H') ⟨⟨_,_,_,_,_,_,_,_,_,rfl⟩,Sm.refl _,tbA⟩ (fun _ _ _ _ h=>SqL.of (h.2.1.lst hlp)) ?_ ?_
 ·rintro i z σ HB hz ⟨⟨y1,y4,y5,y6,y7,y8,y9,yA,yB,rfl⟩,sB,tbB⟩
  obtain⟨pl,hpl,rfl⟩:=ints_get hz
  have plb:0≤pl∧pl≤100:=by
   have:=fromN_get hpl
   omega
  walk_at"rd"
  refine⟨a,ms,pl,rfl,Sm.seq sB (s0A.seq hS),hlen,by omega,by omega,fun p2 HC np2 sC hhC=>?_⟩
  walk_at"rd"
  refine⟨(by show 1≤sizeLine;decide),fun ta nta=>?_⟩
  generalize hE:upd HC ta _=HD
  obtain⟨hta,sD⟩:=newo nta hE
  clear hE
  walk_at"rd"
  refine⟨(by show 1≤sizeLine;decide),fun la nla=>?_⟩
  generalize hE:upd HD la _=HE
  obtain⟨hla,sE⟩:=newo nla hE
  clear hE
  walk_at"rd"
  intro da nda
  generalize hE:upd HE da _=HF
  obtain⟨hda,sF⟩:=newo nda hE
  clear hE
  walk_at"rd"
  refine⟨(by show 12≤sizeLine;decide),fun l nl=>?_⟩
  generalize hE:upd HF l _=HG
  obtain⟨hl,sG⟩:=newo nl hE
  clear hE
  have sDG:=(sE.trans sF).trans sG
  have hhG:=hhC.same (sD.trans sDG)
  have tap:ta≠p2:=hhC.ne nta
  have lap:la≠p2:=(hhC.same sD).ne nla
  have dap:da≠p2:=(hhC.same (sD.trans sE)).ne nda
  have lp2:l≠p2:=(hhC.same ((sD.trans sE).trans sF)).ne nl
  walk_at"rd"
  refine⟨p2,_,12,rfl,hhG,by decide,by decide,by decide,fun at_ HH at0 at1 hhH kH=>?_⟩
  walk_at"rd"
  refine⟨p2,_,130,rfl,hhH,by decide,by decide,by decide,fun ro HI ro0 ro1 hhI kI=>?_⟩
  have kGI:=kH.trans kI
  have hlI:=kGI.1 _ _ hl lp2
  have taI:=kGI.1 _ _ (sDG _ _ hta) tap
  have laI:=kGI.1 _ _ ((sF.trans sG) _ _ hla) lap
  have daI:=kGI.1 _ _ (sG _ _ hda) dap
  have sBI:Same HB HI:=fun c o e=>kGI.1 _ _ ((sD.trans sDG) _ _ (sC _ _ e)) (ne_of_none e np2)
  have tbI:=tbB.same sBI
  have sAI:=sB.trans sBI.sm
  have mk:∀H',Sm HI H'→∀v ∈ [V.int (-1),V.int 1152921504606846976,V.int (1152921504606846976+1),V.int 1000000000000000000000000000000,V.bl true,V.bl false,V.non,V.str (Str.ofString "0"),V.ref ta,V.ref la,V.ref da,V.int (-10000000000000000000000000)],Mk77 H' v:=fun H' sm v hm=>by
   have oi:∀k:Int,¬(0≤k∧k<1152921504606846977)→Mk77 HI (.int k):=fun k h=>.inr (.inl ⟨k,rfl,h⟩)
   refine Mk77.sm (H:=HI) ?_ sm
   simp only[List.mem_cons,List.not_mem_nil,or_false]at hm
   rcases hm with rfl|rfl|rfl|rfl|rfl|rfl|rfl|rfl|rfl|rfl|rfl|rfl
   ·exact oi _ (by omega)
   ·exact .inl rfl
   ·exact oi _ (by omega)
   ·exact oi _ (by omega)
   ·exact .inr (.inr (.inl ⟨_,rfl⟩))
   ·exact .inr (.inr (.inl ⟨_,rfl⟩))
   ·exact .inr (.inr (.inr (.inl rfl)))
   ·exact .inr (.inr (.inr (.inr (.inl ⟨_,rfl⟩))))
   ·exact .inr (.inr (.inr (.inr (.inr ⟨ta,rfl,.inl ⟨[0],taI⟩⟩))))
   ·exact .inr (.inr (.inr (.inr (.inr ⟨la,rfl,.inr (.inl ⟨[0],laI⟩)⟩))))
   ·exact .inr (.inr (.inr (.inr (.inr ⟨da,rfl,.inr (.inr daI)⟩))))
   ·exact oi _ (by omega)
  generalize hxs:[V.int (-1),V.int 1152921504606846976,V.int (1152921504606846976+1),V.int 1000000000000000000000000000000,V.bl true,V.bl false,V.non,V.str (Str.ofString "0"),V.ref ta,V.ref la,V.ref da,V.int (-10000000000000000000000000)]=xs at hlI mk
  have xl:xs.length=12:=by rw[← hxs];rfl
  have r1:1≤1+ro:=by omega
  have r2:1+ro≤1000:=by omega
  clear hxs hl hta hla hda hhC hhG hhH hhI kH kI kGI sC sD sE sF sG sDG taI laI daI sBI
  walk_at"rd"
  generalize 1+ro=R at r1 r2 ⊢
  refine⟨3,rfl,by omega,by omega,?_⟩
  refine for_rangeO (n:=3) (fun i σ H'=>(∃y8 y9 yA yB,σ=[some (.ref a),some (.ref p2),some (.ref x),some (.ref m),some (.int pl),some (.ref l),some (.int at_),some (.int R),y8,y9,yA,yB])∧Sm HI H'∧TB_between K H') ⟨⟨_,_,_,_,rfl⟩,Sm.refl _,tbI⟩ ?_ ?_
  ·rintro j σ HJ jl ⟨⟨y8,y9,yA,yB,rfl⟩,sJ,tbJ⟩
   obtain⟨g,hg⟩ : ∃g:Nat,(at_+5*(0+(j:Int)))%12 =(g:Int):=⟨((at_+5*(0+(j:Int)))%12).toNat,by omega⟩
   have gl:g<xs.length:=by omega
   have hgx:xs[g]? = some (xs[g]'gl):=List.getElem?_eq_getElem _
   generalize xs[g]=v at hgx
   have mkv:=mk HJ sJ v (List.mem_of_getElem? hgx)
   walk_at"rd"
   rw[hg]
   refine rd_ixL (SqL.of (sJ.lst hlI)) (atI_nat hgx) ?_
   walk_at"rd"
   refine⟨3,rfl,by omega,by omega,?_⟩
   refine for_rangeO (n:=3) (fun i σ H'=>(∃yA yB,σ=[some (.ref a),some (.ref p2),some (.ref x),some (.ref m),some (.int pl),some (.ref l),some (.int at_),some (.int R),some (.int (0+(j:Int))),some v,yA,yB])∧Sm HJ H'∧TB_between K H') ⟨⟨_,_,rfl⟩,Sm.refl _,tbJ⟩ ?_ ?_
   ·rintro i2 σ HK il ⟨⟨yA,yB,rfl⟩,sK,tbK⟩
    have mkK:=mkv.sm sK
    have tK:=tA.sm ((sAI.trans sJ).trans sK)
    generalize hway:(0+(i2:Int))=way
    have y0:0≤way:=by omega
    have y2:way≤2:=by omega
    by_cases c:way=2∧v = .int 1152921504606846976
    ·obtain⟨c1,rfl⟩:=c
     walk_at"rd"
     refine⟨x,d,w,f,way,R,es,_,rfl,tK,tbK,y0,y2,r1,r2,.inr ⟨_,rfl,⟨by omega,.inr ⟨c1,by omega⟩⟩,fun t1 z1 H1 h1 hz s1 tb1=>?_⟩⟩
     have hz0:=hz c1
     rw[upto_none]at hz0
     subst hz0
     walk_at"rd"
     rw[decide_eq_true c1]
     walk_at"rd"
     refine(mkK.sm s1).eqr ?_
     walk_at"rd"
     refine rd_if_pos (by decide) ?_
     walk_at"rd"
     refine⟨(by show 2≤sizeLine;decide),fun t2 n2=>?_⟩
     generalize hE:upd H1 t2 _=H2
     obtain⟨h2,s2⟩:=newo n2 hE
     clear hE
     have go:∀t,H2 t=some (.tup [.str "told",.int 0])→GD K H2 2 (.ref t) (.tuple [.str "told",.int 0]):=fun t h=>GD.tup h (.cons (GD.str (by decide +kernel)) (.cons (.int _) .nil))
     have ga:=go t1 (s2 _ _ h1)
     have gb:=go t2 h2
     walk_at"rd"
     refine⟨_,_,ga.1,gb.1,ga.shaped (by omega),gb.shaped (by omega),?_⟩
     rw[ga.refl]
     walk_at"rd"
     exact⟨⟨_,_,rfl⟩,sK.trans (s1.trans s2.sm),tb1.same s2⟩
    ·have ow:oddW way HK v:=by
      by_cases c2:way=2
      ·rcases mkK with z|z
       ·exact absurd ⟨c2,z⟩ c
       ·exact .inr ⟨c2,z⟩
      ·exact .inl ⟨by omega,mkK.low⟩
     walk_at"rd"
     refine⟨x,d,w,f,way,R,es,v,rfl,tK,tbK,y0,y2,r1,r2,.inl ⟨ow,fun t1 H1 h1 s1 tb1=>?_⟩⟩
     have any1:(∃k,v = .int k)∨NonInt H1 v:=(mkK.same s1).low.any
     have fin:∀H2,Same H1 H2→(∃yA yB,[some (V.ref a),some (.ref p2),some (.ref x),some (.ref m),some (.int pl),some (.ref l),some (.int at_),some (.int R),some (.int (0+(j:Int))),some v,some (.int way),some (.ref t1)]=[some (.ref a),some (.ref p2),some (.ref x),some (.ref m),some (.int pl),some (.ref l),some (.int at_),some (.int R),some (.int (0+(j:Int))),some v,yA,yB])∧Sm HJ H2∧TB_between K H2:=fun H2 s2=>⟨⟨_,_,rfl⟩,sK.trans (s1.trans s2).sm,tb1.same s2⟩
     walk_at"rd"
     by_cases c1:way=2
     ·rw[decide_eq_true c1]
      walk_at"rd"
      refine(mkK.same s1).eqr ?_
      rcases(mkK.same s1).eqv with⟨_,z⟩|⟨z,_⟩
      ·exact absurd ⟨c1,z⟩ c
      rw[z]
      walk_at"rd"
      refine⟨t1,v,rfl,h1,any1,fun H2 s2=>?_⟩
      walk_at"rd"
      exact fin H2 s2
     ·rw[decide_eq_false c1]
      walk_at"rd"
      refine⟨t1,v,rfl,h1,any1,fun H2 s2=>?_⟩
      walk_at"rd"
      exact fin H2 s2
   ·rintro σ HK ⟨⟨yA,yB,rfl⟩,sK,tbK⟩
    walk_at"rd"
    exact⟨⟨_,_,_,_,rfl⟩,sJ.trans sK,tbK⟩
  ·rintro σ HJ ⟨⟨y8,y9,yA,yB,rfl⟩,sJ,tbJ⟩
   have tJ:=tA.sm (sAI.trans sJ)
   walk_at"rd"
   refine⟨3,rfl,by omega,by omega,?_⟩
   refine for_rangeO (n:=3) (fun i σ H'=>(∃yA,σ=[some (.ref a),some (.ref p2),some (.ref x),some (.ref m),some (.int pl),some (.ref l),some (.int at_),some (.int R),y8,y9,yA,yB])∧Sm HJ H'∧TB_between K H') ⟨⟨_,rfl⟩,Sm.refl _,tbJ⟩ ?_ ?_
   ·rintro i2 σ HK il ⟨⟨yA,rfl⟩,sK,tbK⟩
    generalize hway:(0+(i2:Int))=way
    have y0:0≤way:=by omega
    have y2:way≤2:=by omega
    walk_at"rd"
    refine⟨(by show 2≤sizeLine;decide),fun lm nlm=>?_⟩
    generalize hE:upd HK lm _=HL
    obtain⟨hlm,sL⟩:=newo nlm hE
    clear hE
    refine⟨lm,rfl,⟨_,SqL.of hlm⟩,fun D nD=>?_⟩
    have tbL:=tbK.same sL
    have tL:=tJ.sm (sK.trans sL.sm)
    refine comp_list (xs:=[V.int 0,V.int (1152921504606846976-1)]) (fun i σ' ys H'=>(∃x',σ'=[x',some (.int way),some (.ref x),some (.int R)])∧Sm HL H'∧TB_between K H'∧H' D=some (.lst ys)∧ys=List.replicate i (V.str (Str.ofString "told"))) D ⟨⟨_,rfl⟩,(same_new nD _).sm,tbL.same (same_new nD _),upd_same,rfl⟩ (fun i σ' ys H' _ h=>SqL.of (h.2.1.lst hlm)) ?_ ?_
    ·rintro i3 v σ' ys HM hv ⟨⟨x',rfl⟩,sM,tbM,hD,rfl⟩
     have il3:i3<2:=(List.getElem?_eq_some_iff.mp hv).1
     obtain⟨mm,rfl,m0,m1⟩ : ∃mm,v = .int mm∧0≤mm∧mm<1152921504606846976:=by
      have hm:=List.mem_of_getElem? hv
      simp only[List.mem_cons,List.not_mem_nil,or_false]at hm
      rcases hm with rfl|rfl
      ·exact⟨0,rfl,by omega,by omega⟩
      ·exact⟨_,rfl,by omega,by omega⟩
     walk_at"rd"
     refine⟨x,d,w,f,way,R,es,_,rfl,tL.sm sM,tbM,y0,y2,r1,r2,.inr ⟨mm,rfl,⟨m0,.inl m1⟩,fun t1 z1 H1 h1 _ s1 tb1=>?_⟩⟩
     have hD1:=s1.lst hD
     have s11:=sM.trans s1
     walk_at"rd"
     refine⟨hD1,by rw[List.length_replicate];exact small1000 (by omega),⟨_,rfl⟩,⟨fun c o e n=>by rw[upd_ne (ne_of_none e nD)];exact s11.nt _ _ e n,fun c ps e=>by
      obtain⟨ps',h⟩:=s11.2 c ps e
      exact⟨ps',by rw[upd_ne (ne_of_none e nD)];exact h⟩⟩,tb1.keep fun b o e hk=>?_,upd_same,by rw[List.replicate_succ']⟩
     rw[upd_ne ?_]
     ·exact e
     ·rintro rfl
      rw[hD1]at e
      cases e
      rcases hk with⟨_,h⟩|h
      ·cases h
      ·unfold CodeO at h;cases h
    ·rintro σ' ys HM ⟨⟨x',rfl⟩,sM,tbM,hD,rfl⟩
     walk_at"rd"
     refine⟨(by show 2≤sizeLine;decide),fun l2 nl2=>?_⟩
     generalize hE:upd HM l2 _=HN
     obtain⟨hl2,sN⟩:=newo nl2 hE
     clear hE
     have go:∀t,HN t=some (.lst [.str (Str.ofString "told"),.str (Str.ofString "told")])→GD K HN 2 (.ref t) (.list [.str "told",.str "told"]):=fun t h=>GD.lst h (.cons (GD.str (by decide +kernel)) (.cons (GD.str (by decide +kernel)) .nil))
     have ga:=go D (sN _ _ hD)
     have gb:=go l2 hl2
     walk_at"rd"
     refine⟨_,_,ga.1,gb.1,ga.shaped (by omega),gb.shaped (by omega),?_⟩
     rw[ga.refl]
     walk_at"rd"
     exact⟨⟨_,rfl⟩,(sK.trans sL.sm).trans (sM.trans sN.sm),tbM.same sN⟩
   ·rintro σ HK ⟨⟨yA,rfl⟩,sK,tbK⟩
    have tK:=tJ.sm sK
    walk_at"rd"
    refine⟨x,d,w,f,2,R,es,_,rfl,tK,tbK,by omega,by omega,r1,r2,.inr ⟨0,rfl,⟨by omega,.inl (by omega)⟩,fun t1 z1 H1 h1 hz s1 tb1=>?_⟩⟩
    have hz0:=hz rfl
    rw[upto_all]at hz0
    subst hz0
    have hm1:H1 m=some (.dK (eV es)):=(((sAI.trans sJ).trans sK).trans s1).nt _ _ hmA fun _=>nofun
    walk_at"rd"
    refine⟨m,_,rfl,hm1,?_⟩
    rw[eV_len]
    walk_at"rd"
    refine⟨(by show 2≤sizeLine;decide),fun t2 n2=>?_⟩
    generalize hE:upd H1 t2 _=H2
    obtain⟨h2,s2⟩:=newo n2 hE
    clear hE
    have go:∀t,H2 t=some (.tup [.str "told",.int (es.length:Nat)])→GD K H2 2 (.ref t) (.tuple [.str "told",.int (es.length:Nat)]):=fun t h=>GD.tup h (.cons (GD.str (by decide +kernel)) (.cons (.int _) .nil))
    have ga:=go t1 (s2 _ _ h1)
    have gb:=go t2 h2
    walk_at"rd"
    refine⟨_,_,ga.1,gb.1,ga.shaped (by omega),gb.shaped (by omega),?_⟩
    rw[ga.refl]
    have t2K:=(tK.sm s1).same s2
    obtain⟨dx2,ho2⟩:=t2K.ob
    walk_at"rd"
    refine⟨x,dx2,_,rfl,ho2,tfl_no (by decide +kernel) (by decide +kernel) (by decide +kernel),?_⟩
    walk_at"rd"
    refine⟨x,d,w,f,es,rfl,t2K,fun ps ts le H3 pp po s3 nle hle el=>?_⟩
    have hm3:=s3 _ _ (s2 _ _ hm1)
    walk_at"rd"
    refine⟨.inr (.inr (.inl ⟨rfl,.inl ⟨_,hm3⟩⟩)),?_⟩
    refine⟨m,_,rfl,rfl,hm3,fun vv nvv=>?_⟩
    generalize hE:upd H3 vv _=H4
    obtain⟨hvv,s4⟩:=newo nvv hE
    clear hE
    walk_at"rd"
    refine⟨vv,m,es.map vE,rfl,hvv,s4 _ _ hm3,by rw[List.map_map];exact t2K.ok.1,by rw[List.length_map];omega,fun ps' ts' l' H5 pp' po' s5 nl' hl' tl' ht'=>?_⟩
    have pv:(ps'.map uE).map vE=ps':=by
     rw[List.map_map]
     refine(List.map_congr_left fun x hx=>?_).trans (List.map_id _)
     obtain⟨y,_,rfl⟩:=List.mem_map.mp (pp'.mem_iff.mp hx)
     rfl
    have pm:(ps'.map uE).Perm es:=by
     have:=pp'.map uE
     rw[List.map_map,show(uE ∘ vE)=id from rfl,List.map_id]at this
     exact this
    have el':EL H5 ts' (ps'.map uE):=⟨by rw[List.length_map];exact tl',fun i t' e e1 e2=>by
     have e3:ps'[i]? = some (vE e):=by rw[← pv,List.getElem?_map,e2];rfl
     have ee:=t2K.ok.2.1 e (pm.mem_iff.mp (List.mem_of_getElem? e2))
     obtain⟨n1,n2⟩:=nm_ok ee.2.2
     exact⟨ht' i t' _ e1 e3,n1,ee.1,ee.2.1,n2⟩⟩
    have eqp:=ps_eq77 t2K.ok.1 pp po pm (by rw[List.pairwise_map];exact po')
    have s45:=s4.trans s5
    have g1:GD K H5 2 (.ref le) (.list (ps.map pE)):=gd_el77 (s45 _ _ hle) (el.same s45)
    have g2:GD K H5 2 (.ref l') (.list (ps.map pE)):=by rw[eqp];exact gd_el77 hl' el'
    walk_at"rd"
    refine⟨_,_,g1.1,g2.1,g1.shaped (by omega),g2.shaped (by omega),?_⟩
    rw[g1.refl]
    walk_at"rd"
    have sK5:=s1.trans (s2.trans (s3.trans s45)).sm
    exact⟨⟨_,_,_,_,_,_,_,_,_,rfl⟩,((sAI.trans sJ).trans sK).trans sK5,tb1.same (s2.trans (s3.trans s45))⟩
 ·rintro σ HB ⟨⟨y1,y4,y5,y6,y7,y8,y9,yA,yB,rfl⟩,sB,tbB⟩
  walk_at"rd"
  exact q _
end
theorem all_mk {l:PySem.W.OpenLaw}{w:World}{K:PySem.W.Frag}{h:Heap}{mg:Str→Option Value}{fa:Addr}(X:K.In h) (G:h.Ns mainGlobals mg) (hfa:mg "law" = some (.ref fa))
  {CT:Addr}(aC:PySem.W.nsIn K mainGlobals "Table" = some (some (.ref CT))) (pg:PySem.W.plainGet K CT Str.empty=true) (hd:PySem.W.hasDictIn K CT=true) (po:PySem.W.plainOver K CT=true) (sa:PySem.W.findIn K (.ref CT) "__setattr__" = some (some (.builtin "object.__setattr__"))) (mk:PySem.W.makesIn K CT=true) (kc:PySem.W.keepIn K (.ref CT)=true)
  (n_wide:PySem.W.findIn K (.ref CT) "wide" = some none)
  (n_fill:PySem.W.findIn K (.ref CT) "fill" = some none)
  (n_held:PySem.W.findIn K (.ref CT) "held" = some none)
  (g0:Ga K "last_bits" s_last_bits)
  (g1:Ga K "level" s_level)
  (g2:Ga K "turn" s_turn)
  (g3:Ga K "bits_for" s_bits_for)
  (g4:Ga K "room_of" s_room_of)
  (g5:Ga K "split_of" s_split_of)
  (g6:Ga K "turned" s_turned)
  (g7:Ga K "is_whole" s_is_whole)
  (g8:Ga K "is_key" s_is_key)
  (g9:Ga K "is_name" s_is_name)
  (g10:Ga K "is_size" s_is_size)
  (g11:Ga K "is_mark" s_is_mark)
  (g12:Ga K "stretch_of" s_stretch_of)
  (g13:Ga K "room_at" s_room_at)
  (g14:Ga K "ask_sizes" s_ask_sizes)
  (g15:Ga K "ask_key" s_ask_key)
  (g16:Ga K "ask_entry" s_ask_entry)
  (g17:Ga K "spread" s_spread)
  (g18:Ga K "rooms_for" s_rooms_for)
  (g19:Me K CT "__init__" "Table.__init__" s_Table___init__)
  (g20:Me K CT "put" "Table.put" s_Table_put)
  (g21:Me K CT "count" "Table.count" s_Table_count)
  (g22:Me K CT "rooms" "Table.rooms" s_Table_rooms)
  (g23:Me K CT "entries" "Table.entries" s_Table_entries)
  (g24:Me K CT "spread_keys" "Table.spread_keys" s_Table_spread_keys)
  (g25:Ga K "page" s_page)
  {f26:Addr}{od26 an26:Option Addr}{sl26:Array (Option Value)}{oc26 kV26 dc26 pm26 cd26 ct26:Value}(a26:PySem.W.nsIn K mainGlobals "between" = some (some (.ref f26))) (l26:K.lookup f26=some ⟨oc26,od26,.func (PySem.W.fnOf "between" "between" (defArgs s_between) (defBody s_between) (defScope s_between) .none kV26 dc26 pm26 an26 cd26 ct26),sl26⟩) (c26:PySem.W.codeIn K cd26 "between" = true) (k26:PySem.W.keepIn K (.ref f26)=true)
  (g27:Ga K "ahead" s_ahead)
  (g28:Ga K "_law_open" s__law_open)
  (g29:Ga K "_law_draw" s__law_draw)
  (g30:Ga K "_law_far" s__law_far)
  (g31:Ga K "_law_power" s__law_power)
  (g32:Ga K "_law_key" s__law_key)
  (g33:Ga K "_law_keys" s__law_keys)
  (g34:Ga K "_law_thing" s__law_thing)
  (g35:Ga K "_law_filled" s__law_filled)
  (g36:Ga K "_law_places" s__law_places)
  (g37:Ga K "_law_asked" s__law_asked)
  (g38:Ga K "_law_refused" s__law_refused)
  {f39:Addr}{od39 an39:Option Addr}{sl39:Array (Option Value)}{oc39 kV39 dc39 pm39 cd39 ct39:Value}(a39:PySem.W.nsIn K mainGlobals "law" = some (some (.ref f39))) (l39:K.lookup f39=some ⟨oc39,od39,.func (PySem.W.fnOf "law" "law" (defArgs s_law) (defBody s_law) (defScope s_law) .none kV39 dc39 pm39 an39 cd39 ct39),sl39⟩) (c39:PySem.W.codeIn K cd39 "law" = true) (k39:PySem.W.keepIn K (.ref f39)=true)
  {TE:Addr}(gT:GaT K TE)
  {CE_NoMark:Addr}(gx_NoMark:GaX K "NoMark" CE_NoMark TE "mark")
  {CE_Lacking:Addr}(gn_Lacking:PySem.W.nsIn K mainGlobals "Lacking" = some (some (.ref CE_Lacking)))
  {CE_NoKey:Addr}(gn_NoKey:PySem.W.nsIn K mainGlobals "NoKey" = some (some (.ref CE_NoKey)))
  {CE_NoRoom:Addr}(gn_NoRoom:PySem.W.nsIn K mainGlobals "NoRoom" = some (some (.ref CE_NoRoom)))
  {CE_NoSize:Addr}(gn_NoSize:PySem.W.nsIn K mainGlobals "NoSize" = some (some (.ref CE_NoSize)))
  (kt_no:PySem.W.kitAny K (.ref CE_NoMark) [.ref CE_Lacking,.ref CE_NoKey,.ref CE_NoRoom,.ref CE_NoSize]=some false)
  (kt_ve:PySem.W.kitOne K (.ref CE_NoMark) (.type "ValueError")=some true)
  (z_range:PySem.W.nsIn K mainGlobals "range" = some none)
  (z_isinstance:PySem.W.nsIn K mainGlobals "isinstance" = some none)
  (z_int:PySem.W.nsIn K mainGlobals "int" = some none)
  (z_bool:PySem.W.nsIn K mainGlobals "bool" = some none)
  (z_str:PySem.W.nsIn K mainGlobals "str" = some none)
  (z_all:PySem.W.nsIn K mainGlobals "all" = some none)
  (z_len:PySem.W.nsIn K mainGlobals "len" = some none)
  (z_sorted:PySem.W.nsIn K mainGlobals "sorted" = some none)
  (z_max:PySem.W.nsIn K mainGlobals "max" = some none)
  (z_list:PySem.W.nsIn K mainGlobals "list" = some none)
  (z_abs:PySem.W.nsIn K mainGlobals "abs" = some none)
  (z_min:PySem.W.nsIn K mainGlobals "min" = some none)
  (z_ValueError:PySem.W.nsIn K mainGlobals "ValueError" = some none)
  {t_KEY_BITS:Tok}(z_KEY_BITS:PySem.W.nsIn K mainGlobals "KEY_BITS" = some (some (.int 60 t_KEY_BITS)))
  {t_END:Tok}(z_END:PySem.W.nsIn K mainGlobals "END" = some (some (.int 1152921504606846976 t_END)))
  {t_MOST_KEYS:Tok}(z_MOST_KEYS:PySem.W.nsIn K mainGlobals "MOST_KEYS" = some (some (.int 64 t_MOST_KEYS)))
  (tL_between:PySem.W.tabIn K "between" = some (tbC K "between",tbP K "between")) (hL_between:PySem.W.codeHdIn K (tbC K "between") (tbP K "between")=true)
  : ∃fd:FuncData,(∀(s:Shared) (v:Value),BindsTo s fd ⟨[v],[]⟩ [("_law_script",v)])∧∀base:Heap,K.In base→base.Ns mainGlobals mg→BM mg base→FnOk l.prog w K mg base CX0 9 fa fd ["_law_script"] (sp_law K):=by
 have e:=hfa.symm.trans (PySem.W.mg_of X G a39)
 cases e
 have T:Bl mg:=⟨PySem.W.mg_none_of X G z_range,PySem.W.mg_none_of X G z_isinstance,PySem.W.mg_none_of X G z_int,PySem.W.mg_none_of X G z_bool,PySem.W.mg_none_of X G z_str,PySem.W.mg_none_of X G z_all,PySem.W.mg_none_of X G z_len,PySem.W.mg_none_of X G z_sorted,PySem.W.mg_none_of X G z_max,PySem.W.mg_none_of X G z_list,PySem.W.mg_none_of X G z_abs,PySem.W.mg_none_of X G z_min,PySem.W.mg_none_of X G z_ValueError,⟨_,PySem.W.mg_of X G z_KEY_BITS⟩,⟨_,PySem.W.mg_of X G z_END⟩,⟨_,PySem.W.mg_of X G z_MOST_KEYS⟩⟩
 refine⟨PySem.W.fnOf "law" "law" (defArgs s_law) (defBody s_law) (defScope s_law) .none kV39 dc39 pm39 an39 cd39 ct39,fun s v=>.of_eq rfl,fun base _ _ hBM=>?_⟩
 have XT:=gT.txt X G
 have XE_NoMark:=gx_NoMark.txt X G
 have XE_Lacking:XNm mg "Lacking" CE_Lacking:=⟨PySem.W.mg_of X G gn_Lacking⟩
 have XE_NoKey:XNm mg "NoKey" CE_NoKey:=⟨PySem.W.mg_of X G gn_NoKey⟩
 have XE_NoRoom:XNm mg "NoRoom" CE_NoRoom:=⟨PySem.W.mg_of X G gn_NoRoom⟩
 have XE_NoSize:XNm mg "NoSize" CE_NoSize:=⟨PySem.W.mg_of X G gn_NoSize⟩
 have TC:Txt_Table K mg CT:=⟨⟨pg,hd,po,sa⟩,n_wide,n_fill,n_held,PySem.W.mg_of X G aC⟩
 have C_last_bits:=g0.elim fun f a fd F=>ok_last_bits (P:=l.prog) (w:=w) (base:=base) F (PySem.W.mg_of X G a) (F.binds (ps:=["key", "many"]) fun _ _ _ _ _ _ us hl=>match us,hl with | [_,_],_=>rfl) T
 have C_level:=g1.elim fun f a fd F=>ok_level (P:=l.prog) (w:=w) (base:=base) F (PySem.W.mg_of X G a) (F.binds (ps:=["rooms"]) fun _ _ _ _ _ _ us hl=>match us,hl with | [_],_=>rfl) T
 have C_turned:=g6.elim fun f a fd F=>ok_turned (P:=l.prog) (w:=w) (base:=base) F (PySem.W.mg_of X G a) (F.binds (ps:=["key"]) fun _ _ _ _ _ _ us hl=>match us,hl with | [_],_=>rfl) T
 have C_is_whole:=g7.elim fun f a fd F=>ok_is_whole (P:=l.prog) (w:=w) (base:=base) F (PySem.W.mg_of X G a) (F.binds (ps:=["thing"]) fun _ _ _ _ _ _ us hl=>match us,hl with | [_],_=>rfl) T
 have C_is_name:=g9.elim fun f a fd F=>ok_is_name (P:=l.prog) (w:=w) (base:=base) F (PySem.W.mg_of X G a) (F.binds (ps:=["thing"]) fun _ _ _ _ _ _ us hl=>match us,hl with | [_],_=>rfl) T
 have C_rooms_for:=g18.elim fun f a fd F=>ok_rooms_for (P:=l.prog) (w:=w) (base:=base) F (PySem.W.mg_of X G a) (F.binds (ps:=["count", "fill"]) fun _ _ _ _ _ _ us hl=>match us,hl with | [_,_],_=>rfl) T
 have C_Table_count:=g21.elim fun f a i k fd F=>ok_Table_count (P:=l.prog) (w:=w) (base:=base) F ⟨a,i,k⟩ (F.binds (ps:=["self"]) fun _ _ _ _ _ _ us hl=>match us,hl with | [_],_=>rfl) T TC
 have C_Table_entries:=g23.elim fun f a i k fd F=>ok_Table_entries (P:=l.prog) (w:=w) (base:=base) F ⟨a,i,k⟩ (F.binds (ps:=["self"]) fun _ _ _ _ _ _ us hl=>match us,hl with | [_],_=>rfl) T TC
 have C__law_open:=g28.elim fun f a fd F=>ok__law_open (P:=l.prog) (w:=w) (base:=base) F (PySem.W.mg_of X G a) (F.binds (ps:=["_law_script", "_law_place"]) fun _ _ _ _ _ _ us hl=>match us,hl with | [_,_],_=>rfl) T
 have C__law_draw:=g29.elim fun f a fd F=>ok__law_draw (P:=l.prog) (w:=w) (base:=base) F (PySem.W.mg_of X G a) (F.binds (ps:=["_law_hand", "_law_many"]) fun _ _ _ _ _ _ us hl=>match us,hl with | [_,_],_=>rfl) T
 have C__law_power:=g31.elim fun f a fd F=>ok__law_power (P:=l.prog) (w:=w) (base:=base) F (PySem.W.mg_of X G a) (F.binds (ps:=["_law_many"]) fun _ _ _ _ _ _ us hl=>match us,hl with | [_],_=>rfl) T
 have C__law_places:=g36.elim fun f a fd F=>ok__law_places (P:=l.prog) (w:=w) (base:=base) F (PySem.W.mg_of X G a) (F.binds (ps:=["_law_script", "_law_least", "_law_most"]) fun _ _ _ _ _ _ us hl=>match us,hl with | [_,_,_],_=>rfl) T
 have C__law_refused:=g38.elim fun f a fd F=>ok__law_refused (P:=l.prog) (w:=w) (base:=base) F (PySem.W.mg_of X G a) (F.binds (ps:=["_law_got", "_law_mark"]) fun _ _ _ _ _ _ us hl=>match us,hl with | [_,_],_=>rfl) T
 have C_turn:=g2.elim fun f a fd F=>ok_turn (P:=l.prog) (w:=w) (base:=base) F (PySem.W.mg_of X G a) (F.binds (ps:=["rooms"]) fun _ _ _ _ _ _ us hl=>match us,hl with | [_],_=>rfl) T C_level
 have C_is_key:=g8.elim fun f a fd F=>ok_is_key (P:=l.prog) (w:=w) (base:=base) F (PySem.W.mg_of X G a) (F.binds (ps:=["thing"]) fun _ _ _ _ _ _ us hl=>match us,hl with | [_],_=>rfl) T C_is_whole
 have C_is_size:=g10.elim fun f a fd F=>ok_is_size (P:=l.prog) (w:=w) (base:=base) F (PySem.W.mg_of X G a) (F.binds (ps:=["thing"]) fun _ _ _ _ _ _ us hl=>match us,hl with | [_],_=>rfl) T C_is_whole
 have C_is_mark:=g11.elim fun f a fd F=>ok_is_mark (P:=l.prog) (w:=w) (base:=base) F (PySem.W.mg_of X G a) (F.binds (ps:=["thing"]) fun _ _ _ _ _ _ us hl=>match us,hl with | [_],_=>rfl) T C_is_whole
 have C_Table_rooms:=g22.elim fun f a i k fd F=>ok_Table_rooms (P:=l.prog) (w:=w) (base:=base) F ⟨a,i,k⟩ (F.binds (ps:=["self"]) fun _ _ _ _ _ _ us hl=>match us,hl with | [_],_=>rfl) T TC C_Table_count C_rooms_for
 have C__law_far:=g30.elim fun f a fd F=>ok__law_far (P:=l.prog) (w:=w) (base:=base) F (PySem.W.mg_of X G a) (F.binds (ps:=["_law_hand", "_law_many"]) fun _ _ _ _ _ _ us hl=>match us,hl with | [_,_],_=>rfl) T C__law_draw
 have C__law_thing:=g34.elim fun f a fd F=>ok__law_thing (P:=l.prog) (w:=w) (base:=base) F (PySem.W.mg_of X G a) (F.binds (ps:=["_law_hand"]) fun _ _ _ _ _ _ us hl=>match us,hl with | [_],_=>rfl) T C__law_draw
 have C_bits_for:=g3.elim fun f a fd F=>ok_bits_for (P:=l.prog) (w:=w) (base:=base) F (PySem.W.mg_of X G a) (F.binds (ps:=["room", "rooms"]) fun _ _ _ _ _ _ us hl=>match us,hl with | [_,_],_=>rfl) T C_level C_turn
 have C_split_of:=g5.elim fun f a fd F=>ok_split_of (P:=l.prog) (w:=w) (base:=base) F (PySem.W.mg_of X G a) (F.binds (ps:=["rooms"]) fun _ _ _ _ _ _ us hl=>match us,hl with | [_],_=>rfl) T C_turn
 have C_ask_sizes:=g14.elim fun f a fd F=>ok_ask_sizes (P:=l.prog) (w:=w) (base:=base) F (PySem.W.mg_of X G a) (F.binds (ps:=["wide", "fill"]) fun _ _ _ _ _ _ us hl=>match us,hl with | [_,_],_=>rfl) T C_is_size
 have C_ask_key:=g15.elim fun f a fd F=>ok_ask_key (P:=l.prog) (w:=w) (base:=base) F (PySem.W.mg_of X G a) (F.binds (ps:=["key"]) fun _ _ _ _ _ _ us hl=>match us,hl with | [_],_=>rfl) T C_is_key
 have C__law_key:=g32.elim fun f a fd F=>ok__law_key (P:=l.prog) (w:=w) (base:=base) F (PySem.W.mg_of X G a) (F.binds (ps:=["_law_hand"]) fun _ _ _ _ _ _ us hl=>match us,hl with | [_],_=>rfl) T C__law_draw C__law_far C__law_power
 have C_room_of:=g4.elim fun f a fd F=>ok_room_of (P:=l.prog) (w:=w) (base:=base) F (PySem.W.mg_of X G a) (F.binds (ps:=["key", "rooms"]) fun _ _ _ _ _ _ us hl=>match us,hl with | [_,_],_=>rfl) T C_last_bits C_bits_for C_level
 have C_stretch_of:=g12.elim fun f a fd F=>ok_stretch_of (P:=l.prog) (w:=w) (base:=base) F (PySem.W.mg_of X G a) (F.binds (ps:=["room", "rooms"]) fun _ _ _ _ _ _ us hl=>match us,hl with | [_,_],_=>rfl) T C_turned C_bits_for
 have C_ask_entry:=g16.elim fun f a fd F=>ok_ask_entry (P:=l.prog) (w:=w) (base:=base) F (PySem.W.mg_of X G a) (F.binds (ps:=["key", "thing"]) fun _ _ _ _ _ _ us hl=>match us,hl with | [_,_],_=>rfl) T C_ask_key C_is_name
 have C_Table___init__:=g19.elim fun f a i k fd F=>ok_Table___init__ (P:=l.prog) (w:=w) (base:=base) F ⟨mk,a,i,kc⟩ (F.binds (ps:=["self", "wide", "fill"]) fun _ _ _ _ _ _ us hl=>match us,hl with | [_,_,_],_=>rfl) T TC C_ask_sizes
 have C__law_keys:=g33.elim fun f a fd F=>ok__law_keys (P:=l.prog) (w:=w) (base:=base) F (PySem.W.mg_of X G a) (F.binds (ps:=["_law_hand", "_law_many"]) fun _ _ _ _ _ _ us hl=>match us,hl with | [_,_],_=>rfl) T C__law_key
 have C_room_at:=g13.elim fun f a fd F=>ok_room_at (P:=l.prog) (w:=w) (base:=base) F (PySem.W.mg_of X G a) (F.binds (ps:=["mark", "rooms"]) fun _ _ _ _ _ _ us hl=>match us,hl with | [_,_],_=>rfl) T XE_NoMark C_room_of C_is_key C_turned
 have C_spread:=g17.elim fun f a fd F=>ok_spread (P:=l.prog) (w:=w) (base:=base) F (PySem.W.mg_of X G a) (F.binds (ps:=["keys", "rooms"]) fun _ _ _ _ _ _ us hl=>match us,hl with | [_,_],_=>rfl) T C_room_of
 have C_between:=(fun F=>ok_between (P:=l.prog) (w:=w) (base:=base) F (PySem.W.mg_of X G a26) (F.binds (ps:=["entries", "mark", "onward"]) fun _ _ _ _ _ _ us hl=>match us,hl with | [_,_,_],_=>rfl) T (lam_mk hBM a26 l26 tL_between hL_between) C_turned) (fun_mk (st:=s_between) l26 c26 k26)
 have C_Table_spread_keys:=g24.elim fun f a i k fd F=>ok_Table_spread_keys (P:=l.prog) (w:=w) (base:=base) F ⟨a,i,k⟩ (F.binds (ps:=["self", "rooms"]) fun _ _ _ _ _ _ us hl=>match us,hl with | [_,_],_=>rfl) T TC C_spread
 have C_page:=g25.elim fun f a fd F=>ok_page (P:=l.prog) (w:=w) (base:=base) F (PySem.W.mg_of X G a) (F.binds (ps:=["table", "mark"]) fun _ _ _ _ _ _ us hl=>match us,hl with | [_,_],_=>rfl) T TC C_Table_rooms C_Table_entries C_stretch_of C_between C_room_at
 have C_ahead:=g27.elim fun f a fd F=>ok_ahead (P:=l.prog) (w:=w) (base:=base) F (PySem.W.mg_of X G a) (F.binds (ps:=["table", "mark"]) fun _ _ _ _ _ _ us hl=>match us,hl with | [_,_],_=>rfl) T XE_NoMark TC C_Table_entries C_is_mark C_between
 have C_Table_put:=g20.elim fun f a i k fd F=>ok_Table_put (P:=l.prog) (w:=w) (base:=base) F ⟨a,i,k⟩ (F.binds (ps:=["self", "key", "thing"]) fun _ _ _ _ _ _ us hl=>match us,hl with | [_,_,_],_=>rfl) T TC C_Table_rooms C_Table_count C_Table_spread_keys C_ask_entry C_split_of
 have C__law_asked:=g37.elim fun f a fd F=>ok__law_asked (P:=l.prog) (w:=w) (base:=base) F (PySem.W.mg_of X G a) (F.binds (ps:=["_law_way", "_law_table", "_law_rooms", "_law_mark"]) fun _ _ _ _ _ _ us hl=>match us,hl with | [_,_,_,_],_=>rfl) T XE_NoMark XE_Lacking XE_NoKey XE_NoRoom XE_NoSize XT kt_no kt_ve TC C_room_at C_page C_ahead
 have C__law_filled:=g35.elim fun f a fd F=>ok__law_filled (P:=l.prog) (w:=w) (base:=base) F (PySem.W.mg_of X G a) (F.binds (ps:=["_law_hand", "_law_table", "_law_many"]) fun _ _ _ _ _ _ us hl=>match us,hl with | [_,_,_],_=>rfl) T TC C_Table_put C__law_keys C__law_thing
 exact ok_law (fun_mk (st:=s_law) l39 c39 k39) T TC C_Table___init__ C_Table_entries C__law_open C__law_filled C__law_places C__law_draw C__law_asked C__law_refused
theorem walk {l:PySem.W.OpenLaw}{q:Program}{loose:List Str}{XP:(Str→Option Value)→Heap→Prop}{YP:World→Heap→Prop}{d:DefRec}{K:Params→PySem.W.Frag}(hn:l.most=some 63) (hdf:d.params.defaults=[])
  (hY:∀(w:World) (h:Heap),YP w h→(K w.params).In h)
  (tP:Addr) (hT:∀(w:World) (h:Heap),YP w h→h.get? tP=some (PySem.W.tabObj #[])) (hTb:∀w:World,tbP (K w.params) "between" = tP) (hTc:∀w:World,PySem.W.codeHdIn (K w.params) (tbC (K w.params) "between") (tbP (K w.params) "between")=true) (hKP:∀w:World,(K w.params).lookup (tbP (K w.params) "between")=none)
  (F:∀(w:World) (mg:Str→Option Value) (fa:Addr) (h:Heap),(K w.params).In h→h.Ns mainGlobals mg→mg d.name=some (.ref fa) →
   ∃fd:FuncData,(∀(s:Shared) (u:Value),BindsTo s fd ⟨[u],[]⟩ [("_law_script",u)])∧∀base:Heap,(K w.params).In base→base.Ns mainGlobals mg→BM mg base→FnOk l.prog w (K w.params) mg base CX0 9 fa fd ["_law_script"] (sp_law (K w.params))) :
  PySem.W.WalkO q loose XP YP l.row.toRowW d [] (fun f vs=>PySem.call f vs) :=
 L2.walk_ofT (n:=63) (k:=9) (x := "_law_script") (CX:=fun _=>CX0) (sp:=fun w=>sp_law (K w.params)) (tP:=tP) hn (by decide) hdf ⟨rfl,by decide,by decide,rfl⟩ hY hT (fun w=>⟨_,hTb w ▸ hTc w⟩) (fun w=>hTb w ▸ hKP w) F (fun w H a ns hl hO hP hS=>⟨a,ns,rfl,hS,hl,⟨#[],(hTb w).symm ▸ hP,trivial,.inl rfl⟩,fun _=>rfl⟩) fun _ _ _ _ _ z=>z
end Law
namespace HD
open PySem PySem.W PySem.PyData
noncomputable def pB:List Stmt:=PySem.Challenge.pw_tailrooms_k77_marks_refused.main.body
noncomputable def nS:List Stmt→Nat→Stmt
 | s::_,0=>s
 | _::r,n+1=>nS r n
 | [],_=>.Pass ⟨0,0,0,0⟩
noncomputable def bS:Stmt→List Stmt
 | .FunctionDef _ _ b ..=>b
 | .ClassDef _ _ _ b ..=>b
 | _=>[]
noncomputable def aS:Stmt→Arguments
 | .FunctionDef _ a ..=>a
 | _=>⟨[],[],none,[],[],none,[]⟩
noncomputable def sS:Stmt→Scope
 | .FunctionDef _ _ _ _ _ _ s ..=>s
 | _=>⟨.function,[],false,false,[]⟩
noncomputable def f (i:Nat):Stmt:=nS pB i
noncomputable def m (i j:Nat):Stmt:=nS (bS (f i)) j
abbrev O:=Params→Obj
noncomputable def E (P:Params) (x:Str) (n:Nat) (v:Value):DictEntry:=⟨keyHash P x,.str x n,v⟩
abbrev B:=Params→BT
noncomputable def n (o:O) (l r:B):B:=fun P=>.node (o P) (l P) (r P)
noncomputable def w (o:O):B:=fun P=>.node (o P) .nil .nil
noncomputable def u:B:=fun _=>.nil
noncomputable def c0 (P:Params) (r:List DictEntry):List DictEntry:=(E P "__name__" 165 (.str "tailrooms.table" 556))::(E P "__doc__" 166 .none)::(E P "__package__" 167 .none)::(E P "__loader__" 168 (.builtin "__main__.__loader__#opaque"))::(E P "__spec__" 169 .none)::(E P "__annotations__" 170 (.ref 6))::(E P "__builtins__" 171 (.ref 4))::(E P "__file__" 173 (.str "/claim/cut.py" 172))::r
noncomputable def c1 (P:Params) (r:List DictEntry):List DictEntry:=(E P "__cached__" 174 .none)::(E P "_wall" 193 (.ref 21))::(E P "KEY_BITS" 197 (.int 60 196))::(E P "last_bits" 205 (.ref 28))::(E P "level" 212 (.ref 35))::(E P "turn" 219 (.ref 42))::(E P "bits_for" 228 (.ref 49))::(E P "room_of" 236 (.ref 56))::r
noncomputable def c2 (P:Params) (r:List DictEntry):List DictEntry:=(E P "split_of" 243 (.ref 63))::(E P "turned" 252 (.ref 70))::(E P "TailError" 272 (.ref 80))::(E P "NoSize" 297 (.ref 100))::(E P "NoKey" 322 (.ref 119))::(E P "NoThing" 347 (.ref 138))::(E P "NoRoom" 372 (.ref 157))::(E P "Lacking" 397 (.ref 176))::r
noncomputable def c3 (P:Params) (r:List DictEntry):List DictEntry:=(E P "Full" 422 (.ref 195))::(E P "NoMark" 447 (.ref 214))::(E P "is_whole" 456 (.ref 223))::(E P "is_key" 463 (.ref 230))::(E P "is_name" 469 (.ref 235))::(E P "is_size" 476 (.ref 242))::(E P "END" 482 (.int 1152921504606846976 481))::(E P "is_mark" 489 (.ref 249))::r
noncomputable def c4 (P:Params) (r:List DictEntry):List DictEntry:=(E P "stretch_of" 498 (.ref 256))::(E P "room_at" 506 (.ref 263))::(E P "ask_sizes" 516 (.ref 270))::(E P "ask_key" 523 (.ref 277))::(E P "ask_entry" 531 (.ref 284))::(E P "rows_for" 541 (.ref 291))::(E P "cut_rows" 547 (.ref 296))::(E P "spread" 555 (.ref 301))::r
noncomputable def c5 (P:Params) (r:List DictEntry):List DictEntry:=(E P "MOST_KEYS" 559 (.int 64 558))::(E P "rooms_for" 567 (.ref 308))::r
noncomputable def c6 (P:Params) (r:List Value):List Value:=(.int 1 0)::(.int 0 0)::(.ref 20)::(.int 6 0)::(.int 0 0)::(.ref 27)::(.int 8 0)::(.int 0 0)::(.ref 34)::(.int 10 0)::(.int 0 0)::(.ref 41)::(.int 12 0)::(.int 0 0)::(.ref 48)::(.int 17 0)::(.int 0 0)::(.ref 55)::r
noncomputable def c7 (P:Params) (r:List Value):List Value:=(.int 19 0)::(.int 0 0)::(.ref 62)::(.int 21 0)::(.int 0 0)::(.ref 69)::(.int 27 0)::(.int 0 0)::(.ref 76)::(.int 29 0)::(.int 0 0)::(.ref 89)::(.int 33 0)::(.int 0 0)::(.ref 108)::(.int 37 0)::(.int 0 0)::(.ref 127)::r
noncomputable def c8 (P:Params) (r:List Value):List Value:=(.int 41 0)::(.int 0 0)::(.ref 146)::(.int 45 0)::(.int 0 0)::(.ref 165)::(.int 49 0)::(.int 0 0)::(.ref 184)::(.int 53 0)::(.int 0 0)::(.ref 203)::(.int 58 0)::(.int 0 0)::(.ref 222)::(.int 60 0)::(.int 0 0)::(.ref 229)::r
noncomputable def c9 (P:Params) (r:List Value):List Value:=(.int 62 0)::(.int 0 0)::(.ref 234)::(.int 64 0)::(.int 0 0)::(.ref 241)::(.int 68 0)::(.int 0 0)::(.ref 248)::(.int 70 0)::(.int 0 0)::(.ref 255)::(.int 73 0)::(.int 0 0)::(.ref 262)::(.int 78 0)::(.int 0 0)::(.ref 269)::r
noncomputable def c10 (P:Params) (r:List Value):List Value:=(.int 83 0)::(.int 0 0)::(.ref 276)::(.int 86 0)::(.int 0 0)::(.ref 283)::(.int 91 0)::(.int 0 0)::(.ref 290)::(.int 93 0)::(.int 0 0)::(.ref 295)::(.int 96 0)::(.int 0 0)::(.ref 300)::(.int 103 0)::(.int 0 0)::(.ref 307)::r
noncomputable def c11 (P:Params) (r:List Value):List Value:=(.int 105 0)::(.int 0 0)::(.ref 314)::r
noncomputable def c12 (P:Params) (r:List DictEntry):List DictEntry:=(E P "__module__" 575 (.str "tailrooms.table" 556))::(E P "__qualname__" 577 (.str "Table" 576))::(E P "__firstlineno__" 579 (.int 105 578))::(E P "__init__" 588 (.ref 322))::(E P "put" 600 (.ref 329))::(E P "drop" 608 (.ref 336))::(E P "find" 616 (.ref 343))::(E P "looks" 624 (.ref 350))::r
noncomputable def c13 (P:Params) (r:List DictEntry):List DictEntry:=(E P "count" 631 (.ref 357))::(E P "rooms" 638 (.ref 364))::(E P "entries" 645 (.ref 371))::(E P "room" 651 (.ref 376))::(E P "spill" 658 (.ref 383))::(E P "longest" 665 (.ref 390))::r
noncomputable def c14 (P:Params) (r:List Value):List Value:=(.int 107 0)::(.int 4 0)::(.ref 321)::(.int 113 0)::(.int 4 0)::(.ref 328)::(.int 124 0)::(.int 4 0)::(.ref 335)::(.int 127 0)::(.int 4 0)::(.ref 342)::(.int 130 0)::(.int 4 0)::(.ref 349)::(.int 133 0)::(.int 4 0)::(.ref 356)::r
noncomputable def c15 (P:Params) (r:List Value):List Value:=(.int 136 0)::(.int 4 0)::(.ref 363)::(.int 139 0)::(.int 4 0)::(.ref 370)::(.int 142 0)::(.int 4 0)::(.ref 375)::(.int 148 0)::(.int 4 0)::(.ref 382)::(.int 151 0)::(.int 4 0)::(.ref 389)::r
noncomputable def c16 (P:Params) (r:List DictEntry):List DictEntry:=(E P "__name__" 165 (.str "tailrooms.errors" 253))::(E P "__doc__" 166 .none)::(E P "__package__" 167 .none)::(E P "__loader__" 168 (.builtin "__main__.__loader__#opaque"))::(E P "__spec__" 169 .none)::(E P "__annotations__" 170 (.ref 6))::(E P "__builtins__" 171 (.ref 4))::(E P "__file__" 173 (.str "/claim/cut.py" 172))::r
noncomputable def c17 (P:Params) (r:List DictEntry):List DictEntry:=(E P "split_of" 243 (.ref 63))::(E P "turned" 252 (.ref 70))::(E P "TailError" 272 (.ref 80))::(E P "NoSize" 297 (.ref 100))::(E P "NoKey" 322 (.ref 119))::r
noncomputable def c18 (P:Params) (r:List Value):List Value:=(.int 19 0)::(.int 0 0)::(.ref 62)::(.int 21 0)::(.int 0 0)::(.ref 69)::(.int 27 0)::(.int 0 0)::(.ref 76)::(.int 29 0)::(.int 0 0)::(.ref 89)::(.int 33 0)::(.int 0 0)::(.ref 108)::r
noncomputable def c19 (P:Params) (r:List DictEntry):List DictEntry:=(E P "__name__" 165 (.str "law_tailrooms_k77_marks_refused" 733))::(E P "__doc__" 166 .none)::(E P "__package__" 167 .none)::(E P "__loader__" 168 (.builtin "__main__.__loader__#opaque"))::(E P "__spec__" 169 .none)::(E P "__annotations__" 170 (.ref 6))::(E P "__builtins__" 171 (.ref 4))::(E P "__file__" 173 (.str "/claim/cut.py" 172))::r
noncomputable def c20 (P:Params) (r:List DictEntry):List DictEntry:=(E P "MOST_KEYS" 559 (.int 64 558))::(E P "rooms_for" 567 (.ref 308))::(E P "Table" 706 (.ref 421))::(E P "page" 718 (.ref 432))::(E P "between" 724 (.ref 437))::(E P "ahead" 732 (.ref 444))::(E P "_law_open" 740 (.ref 449))::(E P "_law_draw" 751 (.ref 456))::r
noncomputable def c21 (P:Params) (r:List DictEntry):List DictEntry:=(E P "_law_far" 761 (.ref 463))::(E P "_law_power" 770 (.ref 470))::(E P "_law_key" 779 (.ref 477))::(E P "_law_keys" 790 (.ref 484))::(E P "_law_thing" 796 (.ref 489))::(E P "_law_filled" 807 (.ref 496))::(E P "_law_places" 816 (.ref 503))::(E P "_law_asked" 829 (.ref 510))::r
noncomputable def c22 (P:Params) (r:List DictEntry):List DictEntry:=(E P "_law_refused" 837 (.ref 517))::(E P "law" 843 (.ref 522))::r
noncomputable def c23 (P:Params) (r:List Value):List Value:=(.int 105 0)::(.int 0 0)::(.ref 314)::(.int 166 0)::(.int 0 0)::(.ref 431)::(.int 170 0)::(.int 0 0)::(.ref 436)::(.int 173 0)::(.int 0 0)::(.ref 443)::(.int 178 0)::(.int 0 0)::(.ref 448)::(.int 187 0)::(.int 0 0)::(.ref 455)::r
noncomputable def c24 (P:Params) (r:List Value):List Value:=(.int 198 0)::(.int 0 0)::(.ref 462)::(.int 205 0)::(.int 0 0)::(.ref 469)::(.int 210 0)::(.int 0 0)::(.ref 476)::(.int 222 0)::(.int 0 0)::(.ref 483)::(.int 230 0)::(.int 0 0)::(.ref 488)::(.int 233 0)::(.int 0 0)::(.ref 495)::r
noncomputable def c25 (P:Params) (r:List Value):List Value:=(.int 239 0)::(.int 0 0)::(.ref 502)::(.int 241 0)::(.int 0 0)::(.ref 509)::(.int 255 0)::(.int 0 0)::(.ref 516)::(.int 257 0)::(.int 0 0)::(.ref 521)::r
noncomputable def c26 (P:Params) (r:List DictEntry):List DictEntry:=(E P "count" 631 (.ref 357))::(E P "rooms" 638 (.ref 364))::(E P "entries" 645 (.ref 371))::(E P "room" 651 (.ref 376))::(E P "spill" 658 (.ref 383))::(E P "longest" 665 (.ref 390))::(E P "twin" 672 (.ref 397))::(E P "ask_standing" 680 (.ref 404))::r
noncomputable def c27 (P:Params) (r:List DictEntry):List DictEntry:=(E P "spread_keys" 688 (.ref 411))::(E P "room_counts" 695 (.ref 418))::(E P "__static_attributes__" 699 (.ref 419))::r
noncomputable def c28 (P:Params) (r:List Value):List Value:=(.int 136 0)::(.int 4 0)::(.ref 363)::(.int 139 0)::(.int 4 0)::(.ref 370)::(.int 142 0)::(.int 4 0)::(.ref 375)::(.int 148 0)::(.int 4 0)::(.ref 382)::(.int 151 0)::(.int 4 0)::(.ref 389)::(.int 154 0)::(.int 4 0)::(.ref 396)::r
noncomputable def c29 (P:Params) (r:List Value):List Value:=(.int 157 0)::(.int 4 0)::(.ref 403)::(.int 160 0)::(.int 4 0)::(.ref 410)::(.int 163 0)::(.int 4 0)::(.ref 417)::r
noncomputable def c30 (P:Params) (r:List DictEntry):List DictEntry:=(E P "__module__" 575 (.str "tailrooms.table" 556))::(E P "__firstlineno__" 579 (.int 105 578))::(E P "__init__" 588 (.ref 322))::(E P "put" 600 (.ref 329))::(E P "drop" 608 (.ref 336))::(E P "find" 616 (.ref 343))::(E P "looks" 624 (.ref 350))::(E P "count" 631 (.ref 357))::r
noncomputable def c31 (P:Params) (r:List DictEntry):List DictEntry:=(E P "rooms" 638 (.ref 364))::(E P "entries" 645 (.ref 371))::(E P "room" 651 (.ref 376))::(E P "spill" 658 (.ref 383))::(E P "longest" 665 (.ref 390))::(E P "twin" 672 (.ref 397))::(E P "ask_standing" 680 (.ref 404))::(E P "spread_keys" 688 (.ref 411))::r
noncomputable def c32 (P:Params) (r:List DictEntry):List DictEntry:=(E P "room_counts" 695 (.ref 418))::(E P "__static_attributes__" 699 (.ref 419))::(E P "__dict__" 701 (.ref 422))::(E P "__weakref__" 703 (.ref 423))::(E P "__doc__" 704 .none)::r
noncomputable def c33 (P:Params) (r:List DictEntry):List DictEntry:=(E P "split_of" 243 (.ref 63))::(E P "turned" 252 (.ref 70))::(E P "TailError" 272 (.ref 80))::(E P "NoSize" 297 (.ref 100))::(E P "NoKey" 322 (.ref 119))::(E P "NoThing" 347 (.ref 138))::r
noncomputable def c34 (P:Params) (r:List DictEntry):List DictEntry:=(E P "__name__" 165 (.str "tailrooms.marks" 477))::(E P "__doc__" 166 .none)::(E P "__package__" 167 .none)::(E P "__loader__" 168 (.builtin "__main__.__loader__#opaque"))::(E P "__spec__" 169 .none)::(E P "__annotations__" 170 (.ref 6))::(E P "__builtins__" 171 (.ref 4))::(E P "__file__" 173 (.str "/claim/cut.py" 172))::r
noncomputable def c35 (P:Params) (r:List DictEntry):List DictEntry:=(E P "Full" 422 (.ref 195))::(E P "NoMark" 447 (.ref 214))::(E P "is_whole" 456 (.ref 223))::(E P "is_key" 463 (.ref 230))::(E P "is_name" 469 (.ref 235))::(E P "is_size" 476 (.ref 242))::(E P "END" 482 (.int 1152921504606846976 481))::r
noncomputable def c36 (P:Params) (r:List Value):List Value:=(.int 62 0)::(.int 0 0)::(.ref 234)::(.int 64 0)::(.int 0 0)::(.ref 241)::r
noncomputable def c37 (P:Params) (r:List DictEntry):List DictEntry:=(E P "_law_far" 761 (.ref 463))::(E P "_law_power" 770 (.ref 470))::(E P "_law_key" 779 (.ref 477))::(E P "_law_keys" 790 (.ref 484))::(E P "_law_thing" 796 (.ref 489))::(E P "_law_filled" 807 (.ref 496))::(E P "_law_places" 816 (.ref 503))::r
noncomputable def c38 (P:Params) (r:List Value):List Value:=(.int 239 0)::(.int 0 0)::(.ref 502)::r
noncomputable def c39 (P:Params) (r:List DictEntry):List DictEntry:=(E P "MOST_KEYS" 559 (.int 64 558))::(E P "rooms_for" 567 (.ref 308))::(E P "Table" 706 (.ref 421))::r
noncomputable def c40 (P:Params) (r:List Value):List Value:=(.int 41 0)::(.int 0 0)::(.ref 146)::(.int 45 0)::(.int 0 0)::(.ref 165)::r
noncomputable def c41 (P:Params) (r:List DictEntry):List DictEntry:=(E P "Full" 422 (.ref 195))::r
noncomputable def c42 (P:Params) (r:List Value):List Value:=(.int 41 0)::(.int 0 0)::(.ref 146)::(.int 45 0)::(.int 0 0)::(.ref 165)::(.int 49 0)::(.int 0 0)::(.ref 184)::r
noncomputable def c43 (P:Params) (r:List DictEntry):List DictEntry:=(E P "split_of" 243 (.ref 63))::(E P "turned" 252 (.ref 70))::(E P "TailError" 272 (.ref 80))::(E P "NoSize" 297 (.ref 100))::r
noncomputable def c44 (P:Params) (r:List Value):List Value:=(.int 19 0)::(.int 0 0)::(.ref 62)::(.int 21 0)::(.int 0 0)::(.ref 69)::(.int 27 0)::(.int 0 0)::(.ref 76)::(.int 29 0)::(.int 0 0)::(.ref 89)::r
noncomputable def c45 (P:Params) (r:List DictEntry):List DictEntry:=(E P "split_of" 243 (.ref 63))::(E P "turned" 252 (.ref 70))::(E P "TailError" 272 (.ref 80))::(E P "NoSize" 297 (.ref 100))::(E P "NoKey" 322 (.ref 119))::(E P "NoThing" 347 (.ref 138))::(E P "NoRoom" 372 (.ref 157))::r
noncomputable def c46 (P:Params) (r:List Value):List Value:=(.int 41 0)::(.int 0 0)::(.ref 146)::r
noncomputable def t47 (a0:Str) (a1:Str) (a2:Stmt) (a3:Stmt) (P:Params):Obj:=⟨.none,none,(.func ⟨a0,a1,(aS a2),(.stmts (bS a2)),(sS a3),0,[],.none,.none,.none,.none,none,.none,.none,0⟩),#[]⟩
noncomputable def t48 (a0:Nat) (a1:Str) (a2:Int) (a3:Nat) (P:Params):Obj:=⟨(.type "dict"),none,(.dict #[(E P "__module__" a0 (.str "tailrooms.errors" 253)),(E P "__qualname__" (a0+2) (.str a1 (a0+1))),(E P "__firstlineno__" (a0+4) (.int a2 (a0+3))),(E P "__init__" (a0+12) (.ref a3)),(E P "__static_attributes__" (a0+14) (.ref (a3+1)))] 5),#[]⟩
noncomputable def t49 (a0:Str) (a1:Str) (a2:Stmt) (a3:Stmt) (a4:Str) (a5:Nat) (a6:Nat) (P:Params):Obj:=⟨(.type "function"),none,(.func ⟨a0,a1,(aS a2),(.stmts (bS a2)),(sS a3),3,[],.none,.none,.none,(.str a4 a5),none,(.ref a6),.none,0⟩),#[]⟩
noncomputable def t50 (a0:Nat) (a1:Nat) (a2:Str) (a3:Nat) (P:Params):Obj:=⟨(.type "frame"),none,.plain,#[(some (.ref a0)),(some (.ref 3)),(some (.ref a1)),none,(some (.str a2 a3)),none,(some (.ref 0))]⟩
noncomputable def t51 (a0:Str) (a1:Nat) (a2:Str) (P:Params):Obj:=⟨(.type "tuple"),none,(.seq #[(.str a0 a1),(.str a2 (a1+1))] 0),#[]⟩
noncomputable def t52 (a0:Str) (a1:Nat) (a2:Nat) (a3:Nat) (a4:Nat) (P:Params):Obj:=⟨(.type "type"),none,(.cls ⟨a0,[(.ref 80)],[(.ref a1),(.ref 80),(.type "ValueError"),(.type "Exception"),(.type "BaseException"),(.type "object")],a2,a0,.true,[],[],.false,none,.false⟩),#[(some (.ref a3)),none,(some (.str a0 a4)),(some (.str a0 (a4+8))),(some (.builtin "ValueError.__new__")),(some (.bool .true))]⟩
noncomputable def t53 (a0:Str) (a1:Nat) (a2:Int) (a3:Nat) (a4:Int) (P:Params):Obj:=⟨(.type "code"),none,(.fields #[(.str a0 a1),(.str a0 (a1+1)),(.str "/claim/cut.py" (a1+2)),(.int a2 0),(.int 0 0),(.int 0 0),(.int 0 0),(.int 0 0),(.ref a3),(.bool .false),(.int 181 0),(.ref (a3+1)),.none,.none,.none,.none,(.int a4 0),(.int a2 0),(.str "/claim/cut.py" (a1+4))]),#[]⟩
noncomputable def t54 (a0:Int) (a1:Nat) (P:Params):Obj:=⟨.none,none,(.fields #[(.int a0 0),(.int 4 0),(.ref a1)]),#[]⟩
noncomputable def t55 (a0:Nat) (P:Params):Obj:=⟨(.type "super"),none,(.fields #[(.ref a0),(.ref a0),(.ref a0)]),#[]⟩
noncomputable def t56 (a0:Str) (a1:Nat) (a2:Str) (a3:Str) (P:Params):Obj:=⟨(.type "tuple"),none,(.seq #[(.str a0 a1),(.str a2 (a1+1)),(.str a3 (a1+2))] 0),#[]⟩
noncomputable def t57 (a0:Nat) (P:Params):Obj:=⟨(.type "builtin_function_or_method"),none,(.fields #[(.builtin "object.__init_subclass__"),(.ref a0)]),#[]⟩
noncomputable def t58 (a0:Nat) (a1:Str) (a2:Str) (a3:Str) (a4:Str) (P:Params):Obj:=⟨(.type "tuple"),none,(.seq #[(.str "_law_hand" a0),(.str a1 (a0+1)),(.str a2 (a0+2)),(.str a3 (a0+3)),(.str a4 (a0+4))] 0),#[]⟩
noncomputable def t59 (a0:Str) (a1:Nat) (a2:Str) (a3:Int) (a4:Int) (a5:Nat) (a6:Int) (a7:Nat) (P:Params):Obj:=⟨(.type "code"),none,(.fields #[(.str a0 a1),(.str a2 (a1+1)),(.str "/claim/cut.py" (a1+2)),(.int a3 0),(.int a4 0),(.int 0 0),(.int 0 0),(.int 3 0),(.ref a5),(.bool .true),(.int 181 0),(.ref (a5+1)),.none,(.ref (a5+2)),(.ref (a5+3)),(.ref (a5+4)),(.int a6 0),(.int a3 0),(.str "/claim/cut.py" a7)]),#[]⟩
noncomputable def t60 (a0:Str) (a1:Nat) (a2:Str) (a3:Int) (a4:Int) (a5:Nat) (a6:Int) (P:Params):Obj:=⟨(.type "code"),none,(.fields #[(.str a0 a1),(.str a2 (a1+1)),(.str "/claim/cut.py" (a1+2)),(.int a3 0),(.int a4 0),(.int 0 0),(.int 0 0),(.int 3 0),(.ref a5),(.bool .true),(.int 181 0),(.ref (a5+1)),.none,.none,.none,(.ref (a5+2)),(.int a6 0),(.int a3 0),(.str "/claim/cut.py" (a1+4))]),#[]⟩
noncomputable def t61 (a0:Nat) (a1:Int) (a2:Str) (a3:Nat) (a4:Nat) (a5:Str) (a6:Nat) (a7:Nat) (P:Params):Obj:=⟨(.type "dict"),none,(.dict #[(E P "__module__" a0 (.str "tailrooms.errors" 253)),(E P "__firstlineno__" (a0+4) (.int a1 (a0+3))),(E P a2 a3 (.ref a4)),(E P a5 (a3+2) (.ref a6)),(E P "__doc__" (a3+3) .none)] a7),#[]⟩
noncomputable def t62 (a0:Str) (a1:Nat) (P:Params):Obj:=⟨(.type "tuple"),none,(.seq #[(.str a0 a1)] 0),#[]⟩
noncomputable def o0:O:=fun P=>⟨(.type "dict"),none,(.dict (c0 P (c1 P (c2 P (c3 P (c4 P (c5 P [])))))).toArray 42),#[]⟩
noncomputable def o1:O:=fun P=>⟨(.type "tuple"),none,(.seq #[] 0),#[]⟩
noncomputable def o2:O:=fun P=>⟨.none,none,(.fields (c6 P (c7 P (c8 P (c9 P (c10 P (c11 P [])))))).toArray),#[]⟩
noncomputable def o3:O:=t53 "<module>" 182 1 11 185
noncomputable def o4:O:=t50 13 3 "__main__" 164
noncomputable def o5:O:=fun P=>⟨.none,none,(.fields #[]),#[]⟩
noncomputable def o6:O:=t62 "k" 190
noncomputable def o7:O:=t47 "_wall" "_wall" (f 0) (f 0)
noncomputable def o8:O:=t59 "_wall" 187 "_wall" 1 1 15 191 192
noncomputable def o9:O:=t49 "_wall" "_wall" (f 0) (f 0) "__main__" 164 20
noncomputable def o10:O:=t51 "key" 201 "many"
noncomputable def o11:O:=t47 "last_bits" "last_bits" (f 3) (f 3)
noncomputable def o12:O:=t59 "last_bits" 198 "last_bits" 6 2 22 203 204
noncomputable def o13:O:=t49 "last_bits" "last_bits" (f 3) (f 3) "tailrooms.bits" 194 27
noncomputable def o14:O:=t62 "rooms" 209
noncomputable def o15:O:=t47 "level" "level" (f 4) (f 4)
noncomputable def o16:O:=t59 "level" 206 "level" 8 1 29 210 211
noncomputable def o17:O:=t49 "level" "level" (f 4) (f 4) "tailrooms.bits" 194 34
noncomputable def o18:O:=t62 "rooms" 216
noncomputable def o19:O:=t47 "turn" "turn" (f 5) (f 5)
noncomputable def o20:O:=t59 "turn" 213 "turn" 10 1 36 217 218
noncomputable def o21:O:=t49 "turn" "turn" (f 5) (f 5) "tailrooms.bits" 194 41
noncomputable def o22:O:=t56 "room" 223 "rooms" "deep"
noncomputable def o23:O:=t47 "bits_for" "bits_for" (f 6) (f 6)
noncomputable def o24:O:=t59 "bits_for" 220 "bits_for" 12 2 43 226 227
noncomputable def o25:O:=t49 "bits_for" "bits_for" (f 6) (f 6) "tailrooms.bits" 194 48
noncomputable def o26:O:=t51 "key" 232 "rooms"
noncomputable def o27:O:=t47 "room_of" "room_of" (f 7) (f 7)
noncomputable def o28:O:=t59 "room_of" 229 "room_of" 17 2 50 234 235
noncomputable def o29:O:=t49 "room_of" "room_of" (f 7) (f 7) "tailrooms.bits" 194 55
noncomputable def o30:O:=t62 "rooms" 240
noncomputable def o31:O:=t47 "split_of" "split_of" (f 8) (f 8)
noncomputable def o32:O:=t59 "split_of" 237 "split_of" 19 1 57 241 242
noncomputable def o33:O:=t49 "split_of" "split_of" (f 8) (f 8) "tailrooms.bits" 194 62
noncomputable def o34:O:=t56 "key" 247 "told" "place"
noncomputable def o35:O:=t47 "turned" "turned" (f 9) (f 9)
noncomputable def o36:O:=t59 "turned" 244 "turned" 21 1 64 250 251
noncomputable def o37:O:=t49 "turned" "turned" (f 9) (f 9) "tailrooms.bits" 194 69
noncomputable def o38:O:=fun P=>⟨(.type "tuple"),none,(.seq #[(.type "ValueError")] 0),#[]⟩
noncomputable def o39:O:=fun P=>⟨(.type "builtin_function_or_method"),none,(.fields #[(.builtin "type.__prepare__"),(.type "type")]),#[]⟩
noncomputable def o40:O:=fun P=>⟨(.type "dict"),none,(.dict #[(E P "__module__" 262 (.str "tailrooms.errors" 253)),(E P "__qualname__" 264 (.str "TailError" 263)),(E P "__firstlineno__" 266 (.int 27 265)),(E P "__static_attributes__" 267 (.ref 78))] 4),#[]⟩
noncomputable def o41:O:=t53 "TailError" 257 27 74 260
noncomputable def o42:O:=t50 76 73 "tailrooms.errors" 253
noncomputable def o43:O:=t61 262 27 "__static_attributes__" 267 78 "__weakref__" 81 3
noncomputable def o44:O:=fun P=>⟨(.type "type"),none,(.cls ⟨"TailError",[(.type "ValueError")],[(.ref 80),(.type "ValueError"),(.type "Exception"),(.type "BaseException"),(.type "object")],79,"TailError",.true,[],[(.ref 100),(.ref 119),(.ref 138),(.ref 157),(.ref 176),(.ref 195),(.ref 214)],.false,none,.false⟩),#[(some (.ref 71)),none,(some (.str "TailError" 255)),(some (.str "TailError" 263)),(some (.builtin "ValueError.__new__")),(some (.bool .true))]⟩
noncomputable def o45:O:=fun P=>⟨(.type "getset_descriptor"),none,(.fields #[(.str "__weakref__" 268),(.ref 80),(.builtin "ExceptionGroup.__weakref__"),.none]),#[]⟩
noncomputable def o46:O:=t55 80
noncomputable def o47:O:=t57 80
noncomputable def o48:O:=fun P=>⟨(.type "tuple"),none,(.seq #[(.ref 80)] 0),#[]⟩
noncomputable def o49:O:=t48 280 "NoSize" 29 97
noncomputable def o50:O:=t54 31 96
noncomputable def o51:O:=t53 "NoSize" 275 29 87 278
noncomputable def o52:O:=t50 89 86 "tailrooms.errors" 253
noncomputable def o53:O:=t51 "self" 288 "thing"
noncomputable def o54:O:=t47 "__init__" "NoSize.__init__" (m 12 0) (m 12 0)
noncomputable def o55:O:=t59 "__init__" 285 "NoSize.__init__" 31 2 91 290 291
noncomputable def o56:O:=t49 "__init__" "NoSize.__init__" (m 12 0) (m 12 0) "tailrooms.errors" 253 96
noncomputable def o57:O:=t62 "thing" 293
noncomputable def o58:O:=t61 280 29 "__init__" 292 97 "__static_attributes__" 98 2
noncomputable def o59:O:=t52 "NoSize" 100 99 84 273
noncomputable def o60:O:=t55 100
noncomputable def o61:O:=t57 100
noncomputable def o62:O:=t48 305 "NoKey" 33 116
noncomputable def o63:O:=t54 35 115
noncomputable def o64:O:=t53 "NoKey" 300 33 106 303
noncomputable def o65:O:=t50 108 105 "tailrooms.errors" 253
noncomputable def o66:O:=t51 "self" 313 "key"
noncomputable def o67:O:=t47 "__init__" "NoKey.__init__" (m 13 0) (m 13 0)
noncomputable def o68:O:=t59 "__init__" 310 "NoKey.__init__" 35 2 110 315 316
noncomputable def o69:O:=t49 "__init__" "NoKey.__init__" (m 13 0) (m 13 0) "tailrooms.errors" 253 115
noncomputable def o70:O:=t62 "key" 318
noncomputable def o71:O:=t61 305 33 "__init__" 317 116 "__static_attributes__" 117 2
noncomputable def o72:O:=t52 "NoKey" 119 118 103 298
noncomputable def o73:O:=t55 119
noncomputable def o74:O:=t57 119
noncomputable def o75:O:=t48 330 "NoThing" 37 135
noncomputable def o76:O:=t54 39 134
noncomputable def o77:O:=t53 "NoThing" 325 37 125 328
noncomputable def o78:O:=t50 127 124 "tailrooms.errors" 253
noncomputable def o79:O:=t51 "self" 338 "thing"
noncomputable def o80:O:=t47 "__init__" "NoThing.__init__" (m 14 0) (m 12 0)
noncomputable def o81:O:=t59 "__init__" 335 "NoThing.__init__" 39 2 129 340 341
noncomputable def o82:O:=t49 "__init__" "NoThing.__init__" (m 14 0) (m 12 0) "tailrooms.errors" 253 134
noncomputable def o83:O:=t62 "thing" 343
noncomputable def o84:O:=t61 330 37 "__init__" 342 135 "__static_attributes__" 136 2
noncomputable def o85:O:=t52 "NoThing" 138 137 122 323
noncomputable def o86:O:=t55 138
noncomputable def o87:O:=t57 138
noncomputable def o88:O:=t48 355 "NoRoom" 41 154
noncomputable def o89:O:=t54 43 153
noncomputable def o90:O:=t53 "NoRoom" 350 41 144 353
noncomputable def o91:O:=t50 146 143 "tailrooms.errors" 253
noncomputable def o92:O:=t51 "self" 363 "number"
noncomputable def o93:O:=t47 "__init__" "NoRoom.__init__" (m 15 0) (m 15 0)
noncomputable def o94:O:=t59 "__init__" 360 "NoRoom.__init__" 43 2 148 365 366
noncomputable def o95:O:=t49 "__init__" "NoRoom.__init__" (m 15 0) (m 15 0) "tailrooms.errors" 253 153
noncomputable def o96:O:=t62 "number" 368
noncomputable def o97:O:=t61 355 41 "__init__" 367 154 "__static_attributes__" 155 2
noncomputable def o98:O:=t52 "NoRoom" 157 156 141 348
noncomputable def o99:O:=t55 157
noncomputable def o100:O:=t57 157
noncomputable def o101:O:=t48 380 "Lacking" 45 173
noncomputable def o102:O:=t54 47 172
noncomputable def o103:O:=t53 "Lacking" 375 45 163 378
noncomputable def o104:O:=t50 165 162 "tailrooms.errors" 253
noncomputable def o105:O:=t51 "self" 388 "key"
noncomputable def o106:O:=t47 "__init__" "Lacking.__init__" (m 16 0) (m 13 0)
noncomputable def o107:O:=t59 "__init__" 385 "Lacking.__init__" 47 2 167 390 391
noncomputable def o108:O:=t49 "__init__" "Lacking.__init__" (m 16 0) (m 13 0) "tailrooms.errors" 253 172
noncomputable def o109:O:=t62 "key" 393
noncomputable def o110:O:=t61 380 45 "__init__" 392 173 "__static_attributes__" 174 2
noncomputable def o111:O:=t52 "Lacking" 176 175 160 373
noncomputable def o112:O:=t55 176
noncomputable def o113:O:=t57 176
noncomputable def o114:O:=t48 405 "Full" 49 192
noncomputable def o115:O:=t54 51 191
noncomputable def o116:O:=t53 "Full" 400 49 182 403
noncomputable def o117:O:=t50 184 181 "tailrooms.errors" 253
noncomputable def o118:O:=t51 "self" 413 "many"
noncomputable def o119:O:=t47 "__init__" "Full.__init__" (m 17 0) (m 17 0)
noncomputable def o120:O:=t59 "__init__" 410 "Full.__init__" 51 2 186 415 416
noncomputable def o121:O:=t49 "__init__" "Full.__init__" (m 17 0) (m 17 0) "tailrooms.errors" 253 191
noncomputable def o122:O:=t62 "many" 418
noncomputable def o123:O:=t61 405 49 "__init__" 417 192 "__static_attributes__" 193 2
noncomputable def o124:O:=t52 "Full" 195 194 179 398
noncomputable def o125:O:=t55 195
noncomputable def o126:O:=t57 195
noncomputable def o127:O:=t48 430 "NoMark" 53 211
noncomputable def o128:O:=t54 55 210
noncomputable def o129:O:=t53 "NoMark" 425 53 201 428
noncomputable def o130:O:=t50 203 200 "tailrooms.errors" 253
noncomputable def o131:O:=t51 "self" 438 "mark"
noncomputable def o132:O:=t47 "__init__" "NoMark.__init__" (m 18 0) (m 18 0)
noncomputable def o133:O:=t59 "__init__" 435 "NoMark.__init__" 55 2 205 440 441
noncomputable def o134:O:=t49 "__init__" "NoMark.__init__" (m 18 0) (m 18 0) "tailrooms.errors" 253 210
noncomputable def o135:O:=t62 "mark" 443
noncomputable def o136:O:=t61 430 53 "__init__" 442 211 "__static_attributes__" 212 2
noncomputable def o137:O:=t52 "NoMark" 214 213 198 423
noncomputable def o138:O:=t55 214
noncomputable def o139:O:=t57 214
noncomputable def o140:O:=t62 "thing" 453
noncomputable def o141:O:=t47 "is_whole" "is_whole" (f 20) (f 20)
noncomputable def o142:O:=t59 "is_whole" 450 "is_whole" 58 1 217 454 455
noncomputable def o143:O:=t49 "is_whole" "is_whole" (f 20) (f 20) "tailrooms.kinds" 448 222
noncomputable def o144:O:=t62 "thing" 460
noncomputable def o145:O:=t47 "is_key" "is_key" (f 21) (f 21)
noncomputable def o146:O:=t59 "is_key" 457 "is_key" 60 1 224 461 462
noncomputable def o147:O:=t49 "is_key" "is_key" (f 21) (f 21) "tailrooms.kinds" 448 229
noncomputable def o148:O:=t47 "is_name" "is_name" (f 22) (f 22)
noncomputable def o149:O:=t60 "is_name" 464 "is_name" 62 1 231 467
noncomputable def o150:O:=t49 "is_name" "is_name" (f 22) (f 22) "tailrooms.kinds" 448 234
noncomputable def o151:O:=t62 "thing" 473
noncomputable def o152:O:=t47 "is_size" "is_size" (f 23) (f 21)
noncomputable def o153:O:=t59 "is_size" 470 "is_size" 64 1 236 474 475
noncomputable def o154:O:=t49 "is_size" "is_size" (f 23) (f 21) "tailrooms.kinds" 448 241
noncomputable def o155:O:=t62 "thing" 486
noncomputable def o156:O:=t47 "is_mark" "is_mark" (f 26) (f 26)
noncomputable def o157:O:=t59 "is_mark" 483 "is_mark" 68 1 243 487 488
noncomputable def o158:O:=t49 "is_mark" "is_mark" (f 26) (f 26) "tailrooms.marks" 477 248
noncomputable def o159:O:=t56 "room" 493 "rooms" "first"
noncomputable def o160:O:=t47 "stretch_of" "stretch_of" (f 27) (f 27)
noncomputable def o161:O:=t59 "stretch_of" 490 "stretch_of" 70 2 250 496 497
noncomputable def o162:O:=t49 "stretch_of" "stretch_of" (f 27) (f 27) "tailrooms.marks" 477 255
noncomputable def o163:O:=t51 "mark" 502 "rooms"
noncomputable def o164:O:=t47 "room_at" "room_at" (f 28) (f 28)
noncomputable def o165:O:=t59 "room_at" 499 "room_at" 73 2 257 504 505
noncomputable def o166:O:=t49 "room_at" "room_at" (f 28) (f 28) "tailrooms.marks" 477 262
noncomputable def o167:O:=t51 "wide" 512 "fill"
noncomputable def o168:O:=t47 "ask_sizes" "ask_sizes" (f 30) (f 30)
noncomputable def o169:O:=t59 "ask_sizes" 509 "ask_sizes" 78 2 264 514 515
noncomputable def o170:O:=t49 "ask_sizes" "ask_sizes" (f 30) (f 30) "tailrooms.asks" 507 269
noncomputable def o171:O:=t62 "key" 520
noncomputable def o172:O:=t47 "ask_key" "ask_key" (f 31) (f 31)
noncomputable def o173:O:=t59 "ask_key" 517 "ask_key" 83 1 271 521 522
noncomputable def o174:O:=t49 "ask_key" "ask_key" (f 31) (f 31) "tailrooms.asks" 507 276
noncomputable def o175:O:=t51 "key" 527 "thing"
noncomputable def o176:O:=t47 "ask_entry" "ask_entry" (f 32) (f 32)
noncomputable def o177:O:=t59 "ask_entry" 524 "ask_entry" 86 2 278 529 530
noncomputable def o178:O:=t49 "ask_entry" "ask_entry" (f 32) (f 32) "tailrooms.asks" 507 283
noncomputable def o179:O:=t51 "many" 537 "wide"
noncomputable def o180:O:=t47 "rows_for" "rows_for" (f 34) (f 34)
noncomputable def o181:O:=t59 "rows_for" 534 "rows_for" 91 2 285 539 540
noncomputable def o182:O:=t49 "rows_for" "rows_for" (f 34) (f 34) "tailrooms.rows" 532 290
noncomputable def o183:O:=t47 "cut_rows" "cut_rows" (f 35) (f 35)
noncomputable def o184:O:=t60 "cut_rows" 542 "cut_rows" 93 2 292 545
noncomputable def o185:O:=t49 "cut_rows" "cut_rows" (f 35) (f 35) "tailrooms.rows" 532 295
noncomputable def o186:O:=t47 "spread" "spread" (f 37) (f 37)
noncomputable def o187:O:=t60 "spread" 550 "spread" 96 2 297 553
noncomputable def o188:O:=t49 "spread" "spread" (f 37) (f 37) "tailrooms.spread" 548 300
noncomputable def o189:O:=t51 "count" 563 "fill"
noncomputable def o190:O:=t47 "rooms_for" "rooms_for" (f 40) (f 40)
noncomputable def o191:O:=t59 "rooms_for" 560 "rooms_for" 103 2 302 565 566
noncomputable def o192:O:=t49 "rooms_for" "rooms_for" (f 40) (f 40) "tailrooms.table" 556 307
noncomputable def o193:O:=fun P=>⟨(.type "dict"),none,(.dict (c12 P (c13 P [])).toArray 14),#[]⟩
noncomputable def o194:O:=fun P=>⟨.none,none,(.fields (c14 P (c15 P [])).toArray),#[]⟩
noncomputable def o195:O:=t53 "Table" 570 105 312 573
noncomputable def o196:O:=t50 314 311 "tailrooms.table" 556
noncomputable def o197:O:=t56 "self" 583 "wide" "fill"
noncomputable def o198:O:=t47 "__init__" "Table.__init__" (m 41 0) (m 41 0)
noncomputable def o199:O:=t59 "__init__" 580 "Table.__init__" 107 3 316 586 587
noncomputable def o200:O:=t49 "__init__" "Table.__init__" (m 41 0) (m 41 0) "tailrooms.table" 556 321
noncomputable def o201:O:=fun P=>⟨(.type "tuple"),none,(.seq #[(.str "self" 592),(.str "key" 593),(.str "thing" 594),(.str "ahead" 595),(.str "room" 596),(.str "new" 597)] 0),#[]⟩
noncomputable def o202:O:=t47 "put" "Table.put" (m 41 1) (m 41 1)
noncomputable def o203:O:=t59 "put" 589 "Table.put" 113 3 323 598 599
noncomputable def o204:O:=t49 "put" "Table.put" (m 41 1) (m 41 1) "tailrooms.table" 556 328
noncomputable def o205:O:=t51 "self" 604 "key"
noncomputable def o206:O:=t47 "drop" "Table.drop" (m 41 2) (m 41 2)
noncomputable def o207:O:=t59 "drop" 601 "Table.drop" 124 2 330 606 607
noncomputable def o208:O:=t49 "drop" "Table.drop" (m 41 2) (m 41 2) "tailrooms.table" 556 335
noncomputable def o209:O:=t51 "self" 612 "key"
noncomputable def o210:O:=t47 "find" "Table.find" (m 41 3) (m 41 2)
noncomputable def o211:O:=t59 "find" 609 "Table.find" 127 2 337 614 615
noncomputable def o212:O:=t49 "find" "Table.find" (m 41 3) (m 41 2) "tailrooms.table" 556 342
noncomputable def o213:O:=t51 "self" 620 "key"
noncomputable def o214:O:=t47 "looks" "Table.looks" (m 41 4) (m 41 2)
noncomputable def o215:O:=t59 "looks" 617 "Table.looks" 130 2 344 622 623
noncomputable def o216:O:=t49 "looks" "Table.looks" (m 41 4) (m 41 2) "tailrooms.table" 556 349
noncomputable def o217:O:=t62 "self" 628
noncomputable def o218:O:=t47 "count" "Table.count" (m 41 5) (m 41 5)
noncomputable def o219:O:=t59 "count" 625 "Table.count" 133 1 351 629 630
noncomputable def o220:O:=t49 "count" "Table.count" (m 41 5) (m 41 5) "tailrooms.table" 556 356
noncomputable def o221:O:=t62 "self" 635
noncomputable def o222:O:=t47 "rooms" "Table.rooms" (m 41 6) (m 41 6)
noncomputable def o223:O:=t59 "rooms" 632 "Table.rooms" 136 1 358 636 637
noncomputable def o224:O:=t49 "rooms" "Table.rooms" (m 41 6) (m 41 6) "tailrooms.table" 556 363
noncomputable def o225:O:=t62 "self" 642
noncomputable def o226:O:=t47 "entries" "Table.entries" (m 41 7) (m 41 7)
noncomputable def o227:O:=t59 "entries" 639 "Table.entries" 139 1 365 643 644
noncomputable def o228:O:=t49 "entries" "Table.entries" (m 41 7) (m 41 7) "tailrooms.table" 556 370
noncomputable def o229:O:=t47 "room" "Table.room" (m 41 8) (m 41 8)
noncomputable def o230:O:=t60 "room" 646 "Table.room" 142 2 372 649
noncomputable def o231:O:=t49 "room" "Table.room" (m 41 8) (m 41 8) "tailrooms.table" 556 375
noncomputable def o232:O:=t62 "self" 655
noncomputable def o233:O:=t47 "spill" "Table.spill" (m 41 9) (m 41 9)
noncomputable def o234:O:=t59 "spill" 652 "Table.spill" 148 1 377 656 657
noncomputable def o235:O:=t49 "spill" "Table.spill" (m 41 9) (m 41 9) "tailrooms.table" 556 382
noncomputable def o236:O:=t62 "self" 662
noncomputable def o237:O:=t47 "longest" "Table.longest" (m 41 10) (m 41 9)
noncomputable def o238:O:=t59 "longest" 659 "Table.longest" 151 1 384 663 664
noncomputable def o239:O:=t49 "longest" "Table.longest" (m 41 10) (m 41 9) "tailrooms.table" 556 389
noncomputable def o240:O:=fun P=>⟨(.type "dict"),none,(.dict (c16 P (c1 P (c17 P []))).toArray 21),#[]⟩
noncomputable def o241:O:=fun P=>⟨.none,none,(.fields (c6 P (c18 P [])).toArray),#[]⟩
noncomputable def o242:O:=fun P=>⟨(.type "type"),none,(.cls ⟨"TailError",[(.type "ValueError")],[(.ref 80),(.type "ValueError"),(.type "Exception"),(.type "BaseException"),(.type "object")],79,"TailError",.true,[],[(.ref 100),(.ref 119)],.false,none,.false⟩),#[(some (.ref 71)),none,(some (.str "TailError" 255)),(some (.str "TailError" 263)),(some (.builtin "ValueError.__new__")),(some (.bool .true))]⟩
noncomputable def o243:O:=fun P=>⟨(.type "dict"),none,(.dict (c19 P (c1 P (c2 P (c3 P (c4 P (c20 P (c21 P (c22 P [])))))))).toArray 58),#[]⟩
noncomputable def o244:O:=fun P=>⟨.none,none,(.fields (c6 P (c7 P (c8 P (c9 P (c10 P (c23 P (c24 P (c25 P [])))))))).toArray),#[]⟩
noncomputable def o245:O:=fun P=>⟨(.type "dict"),none,(.dict (c12 P (c26 P (c27 P []))).toArray 19),#[]⟩
noncomputable def o246:O:=fun P=>⟨.none,none,(.fields (c14 P (c28 P (c29 P []))).toArray),#[]⟩
noncomputable def o247:O:=t62 "self" 669
noncomputable def o248:O:=t47 "twin" "Table.twin" (m 41 11) (m 41 9)
noncomputable def o249:O:=t59 "twin" 666 "Table.twin" 154 1 391 670 671
noncomputable def o250:O:=t49 "twin" "Table.twin" (m 41 11) (m 41 9) "tailrooms.table" 556 396
noncomputable def o251:O:=t51 "self" 676 "key"
noncomputable def o252:O:=t47 "ask_standing" "Table.ask_standing" (m 41 12) (m 41 2)
noncomputable def o253:O:=t59 "ask_standing" 673 "Table.ask_standing" 157 2 398 678 679
noncomputable def o254:O:=t49 "ask_standing" "Table.ask_standing" (m 41 12) (m 41 2) "tailrooms.table" 556 403
noncomputable def o255:O:=t51 "self" 684 "rooms"
noncomputable def o256:O:=t47 "spread_keys" "Table.spread_keys" (m 41 13) (m 41 13)
noncomputable def o257:O:=t59 "spread_keys" 681 "Table.spread_keys" 160 2 405 686 687
noncomputable def o258:O:=t49 "spread_keys" "Table.spread_keys" (m 41 13) (m 41 13) "tailrooms.table" 556 410
noncomputable def o259:O:=t62 "self" 692
noncomputable def o260:O:=t47 "room_counts" "Table.room_counts" (m 41 14) (m 41 9)
noncomputable def o261:O:=t59 "room_counts" 689 "Table.room_counts" 163 1 412 693 694
noncomputable def o262:O:=t49 "room_counts" "Table.room_counts" (m 41 14) (m 41 9) "tailrooms.table" 556 417
noncomputable def o263:O:=t56 "fill" 696 "held" "wide"
noncomputable def o264:O:=fun P=>⟨(.type "dict"),none,(.dict (c30 P (c31 P (c32 P []))).toArray 4),#[]⟩
noncomputable def o265:O:=fun P=>⟨(.type "type"),none,(.cls ⟨"Table",[(.type "object")],[(.ref 421),(.type "object")],420,"Table",.true,[],[],.false,none,.false⟩),#[none,none,(some (.str "Table" 568)),(some (.str "Table" 576)),(some (.builtin "object.__new__")),(some (.bool .true))]⟩
noncomputable def o266:O:=fun P=>⟨(.type "getset_descriptor"),none,(.fields #[(.str "__dict__" 700),(.ref 421),(.builtin "function.__dict__"),(.builtin "function.__dict__#set")]),#[]⟩
noncomputable def o267:O:=fun P=>⟨(.type "getset_descriptor"),none,(.fields #[(.str "__weakref__" 702),(.ref 421),(.builtin "ExceptionGroup.__weakref__"),.none]),#[]⟩
noncomputable def o268:O:=t55 421
noncomputable def o269:O:=t57 421
noncomputable def o270:O:=fun P=>⟨(.type "tuple"),none,(.seq #[(.str "table" 712),(.str "mark" 713),(.str "rooms" 714),(.str "onward" 715)] 0),#[]⟩
noncomputable def o271:O:=t47 "page" "page" (f 43) (f 43)
noncomputable def o272:O:=t59 "page" 709 "page" 166 2 426 716 717
noncomputable def o273:O:=t49 "page" "page" (f 43) (f 43) "tailrooms.walks" 707 431
noncomputable def o274:O:=t47 "between" "between" (f 44) (f 44)
noncomputable def o275:O:=t60 "between" 719 "between" 170 3 433 722
noncomputable def o276:O:=t49 "between" "between" (f 44) (f 44) "tailrooms.walks" 707 436
noncomputable def o277:O:=t51 "table" 728 "mark"
noncomputable def o278:O:=t47 "ahead" "ahead" (f 45) (f 45)
noncomputable def o279:O:=t59 "ahead" 725 "ahead" 173 2 438 730 731
noncomputable def o280:O:=t49 "ahead" "ahead" (f 45) (f 45) "tailrooms.walks" 707 443
noncomputable def o281:O:=t47 "_law_open" "_law_open" (f 47) (f 47)
noncomputable def o282:O:=t60 "_law_open" 735 "_law_open" 178 2 445 738
noncomputable def o283:O:=t49 "_law_open" "_law_open" (f 47) (f 47) "law_tailrooms_k77_marks_refused" 733 448
noncomputable def o284:O:=t58 744 "_law_many" "_law_got" "_law_k" "_law_number"
noncomputable def o285:O:=t47 "_law_draw" "_law_draw" (f 48) (f 48)
noncomputable def o286:O:=t59 "_law_draw" 741 "_law_draw" 187 2 450 749 750
noncomputable def o287:O:=t49 "_law_draw" "_law_draw" (f 48) (f 48) "law_tailrooms_k77_marks_refused" 733 455
noncomputable def o288:O:=fun P=>⟨(.type "tuple"),none,(.seq #[(.str "_law_hand" 755),(.str "_law_many" 756),(.str "_law_number" 757),(.str "_law_k" 758)] 0),#[]⟩
noncomputable def o289:O:=t47 "_law_far" "_law_far" (f 49) (f 49)
noncomputable def o290:O:=t59 "_law_far" 752 "_law_far" 198 2 457 759 760
noncomputable def o291:O:=t49 "_law_far" "_law_far" (f 49) (f 49) "law_tailrooms_k77_marks_refused" 733 462
noncomputable def o292:O:=t56 "_law_many" 765 "_law_number" "_law_k"
noncomputable def o293:O:=t47 "_law_power" "_law_power" (f 50) (f 50)
noncomputable def o294:O:=t59 "_law_power" 762 "_law_power" 205 1 464 768 769
noncomputable def o295:O:=t49 "_law_power" "_law_power" (f 50) (f 50) "law_tailrooms_k77_marks_refused" 733 469
noncomputable def o296:O:=t56 "_law_hand" 774 "_law_way" "_law_low"
noncomputable def o297:O:=t47 "_law_key" "_law_key" (f 51) (f 51)
noncomputable def o298:O:=t59 "_law_key" 771 "_law_key" 210 1 471 777 778
noncomputable def o299:O:=t49 "_law_key" "_law_key" (f 51) (f 51) "law_tailrooms_k77_marks_refused" 733 476
noncomputable def o300:O:=t58 783 "_law_many" "_law_keys_here" "_law_k" "_law_key_here"
noncomputable def o301:O:=t47 "_law_keys" "_law_keys" (f 52) (f 52)
noncomputable def o302:O:=t59 "_law_keys" 780 "_law_keys" 222 2 478 788 789
noncomputable def o303:O:=t49 "_law_keys" "_law_keys" (f 52) (f 52) "law_tailrooms_k77_marks_refused" 733 483
noncomputable def o304:O:=t47 "_law_thing" "_law_thing" (f 53) (f 53)
noncomputable def o305:O:=t60 "_law_thing" 791 "_law_thing" 230 1 485 794
noncomputable def o306:O:=t49 "_law_thing" "_law_thing" (f 53) (f 53) "law_tailrooms_k77_marks_refused" 733 488
noncomputable def o307:O:=t58 800 "_law_table" "_law_many" "_law_model" "_law_key_here"
noncomputable def o308:O:=t47 "_law_filled" "_law_filled" (f 54) (f 54)
noncomputable def o309:O:=t59 "_law_filled" 797 "_law_filled" 233 3 490 805 806
noncomputable def o310:O:=t49 "_law_filled" "_law_filled" (f 54) (f 54) "law_tailrooms_k77_marks_refused" 733 495
noncomputable def o311:O:=t56 "_law_script" 811 "_law_least" "_law_most"
noncomputable def o312:O:=t47 "_law_places" "_law_places" (f 55) (f 55)
noncomputable def o313:O:=t59 "_law_places" 808 "_law_places" 239 3 497 814 815
noncomputable def o314:O:=t49 "_law_places" "_law_places" (f 55) (f 55) "law_tailrooms_k77_marks_refused" 733 502
noncomputable def o315:O:=fun P=>⟨(.type "tuple"),none,(.seq #[(.str "_law_way" 820),(.str "_law_table" 821),(.str "_law_rooms" 822),(.str "_law_mark" 823),(.str "_law_got" 824),(.str "e" 825),(.str "_law_other" 826)] 0),#[]⟩
noncomputable def o316:O:=t47 "_law_asked" "_law_asked" (f 56) (f 56)
noncomputable def o317:O:=t59 "_law_asked" 817 "_law_asked" 241 4 504 827 828
noncomputable def o318:O:=t49 "_law_asked" "_law_asked" (f 56) (f 56) "law_tailrooms_k77_marks_refused" 733 509
noncomputable def o319:O:=t51 "_law_got" 833 "_law_mark"
noncomputable def o320:O:=t47 "_law_refused" "_law_refused" (f 57) (f 57)
noncomputable def o321:O:=t59 "_law_refused" 830 "_law_refused" 255 2 511 835 836
noncomputable def o322:O:=t49 "_law_refused" "_law_refused" (f 57) (f 57) "law_tailrooms_k77_marks_refused" 733 516
noncomputable def o323:O:=t47 "law" "law" (f 58) (f 58)
noncomputable def o324:O:=t60 "law" 838 "law" 257 1 518 841
noncomputable def o325:O:=t49 "law" "law" (f 58) (f 58) "law_tailrooms_k77_marks_refused" 733 521
noncomputable def o326:O:=fun P=>⟨(.type "dict"),none,(.dict (c16 P (c1 P (c33 P []))).toArray 22),#[]⟩
noncomputable def o327:O:=fun P=>⟨.none,none,(.fields (c6 P (c7 P [])).toArray),#[]⟩
noncomputable def o328:O:=fun P=>⟨(.type "type"),none,(.cls ⟨"TailError",[(.type "ValueError")],[(.ref 80),(.type "ValueError"),(.type "Exception"),(.type "BaseException"),(.type "object")],79,"TailError",.true,[],[(.ref 100),(.ref 119),(.ref 138)],.false,none,.false⟩),#[(some (.ref 71)),none,(some (.str "TailError" 255)),(some (.str "TailError" 263)),(some (.builtin "ValueError.__new__")),(some (.bool .true))]⟩
noncomputable def o329:O:=fun P=>⟨(.type "dict"),none,(.dict (c34 P (c1 P (c2 P (c35 P [])))).toArray 31),#[]⟩
noncomputable def o330:O:=fun P=>⟨.none,none,(.fields (c6 P (c7 P (c8 P (c36 P [])))).toArray),#[]⟩
noncomputable def o331:O:=fun P=>⟨.none,none,(.fields (c6 P (c7 P (c8 P (c9 P (c10 P []))))).toArray),#[]⟩
noncomputable def o332:O:=fun P=>⟨(.type "dict"),none,(.dict (c19 P (c1 P (c2 P (c3 P (c4 P (c20 P (c37 P []))))))).toArray 55),#[]⟩
noncomputable def o333:O:=fun P=>⟨.none,none,(.fields (c6 P (c7 P (c8 P (c9 P (c10 P (c23 P (c24 P (c38 P [])))))))).toArray),#[]⟩
noncomputable def o334:O:=fun P=>⟨(.type "dict"),none,(.dict (c0 P (c1 P (c2 P (c3 P (c4 P (c39 P [])))))).toArray 43),#[]⟩
noncomputable def o335:O:=fun P=>⟨(.type "dict"),none,(.dict (c16 P (c1 P (c2 P []))).toArray 24),#[]⟩
noncomputable def o336:O:=fun P=>⟨.none,none,(.fields (c6 P (c7 P (c40 P []))).toArray),#[]⟩
noncomputable def o337:O:=fun P=>⟨(.type "type"),none,(.cls ⟨"TailError",[(.type "ValueError")],[(.ref 80),(.type "ValueError"),(.type "Exception"),(.type "BaseException"),(.type "object")],79,"TailError",.true,[],[(.ref 100),(.ref 119),(.ref 138),(.ref 157),(.ref 176)],.false,none,.false⟩),#[(some (.ref 71)),none,(some (.str "TailError" 255)),(some (.str "TailError" 263)),(some (.builtin "ValueError.__new__")),(some (.bool .true))]⟩
noncomputable def o338:O:=fun P=>⟨(.type "dict"),none,(.dict (c16 P (c1 P (c2 P (c41 P [])))).toArray 25),#[]⟩
noncomputable def o339:O:=fun P=>⟨.none,none,(.fields (c6 P (c7 P (c42 P []))).toArray),#[]⟩
noncomputable def o340:O:=fun P=>⟨(.type "type"),none,(.cls ⟨"TailError",[(.type "ValueError")],[(.ref 80),(.type "ValueError"),(.type "Exception"),(.type "BaseException"),(.type "object")],79,"TailError",.true,[],[(.ref 100),(.ref 119),(.ref 138),(.ref 157),(.ref 176),(.ref 195)],.false,none,.false⟩),#[(some (.ref 71)),none,(some (.str "TailError" 255)),(some (.str "TailError" 263)),(some (.builtin "ValueError.__new__")),(some (.bool .true))]⟩
noncomputable def o341:O:=fun P=>⟨(.type "dict"),none,(.dict (c16 P (c1 P (c43 P []))).toArray 20),#[]⟩
noncomputable def o342:O:=fun P=>⟨.none,none,(.fields (c6 P (c44 P [])).toArray),#[]⟩
noncomputable def o343:O:=fun P=>⟨(.type "type"),none,(.cls ⟨"TailError",[(.type "ValueError")],[(.ref 80),(.type "ValueError"),(.type "Exception"),(.type "BaseException"),(.type "object")],79,"TailError",.true,[],[(.ref 100)],.false,none,.false⟩),#[(some (.ref 71)),none,(some (.str "TailError" 255)),(some (.str "TailError" 263)),(some (.builtin "ValueError.__new__")),(some (.bool .true))]⟩
noncomputable def o344:O:=fun P=>⟨(.type "dict"),none,(.dict (c16 P (c1 P (c45 P []))).toArray 23),#[]⟩
noncomputable def o345:O:=fun P=>⟨.none,none,(.fields (c6 P (c7 P (c46 P []))).toArray),#[]⟩
noncomputable def o346:O:=fun P=>⟨(.type "type"),none,(.cls ⟨"TailError",[(.type "ValueError")],[(.ref 80),(.type "ValueError"),(.type "Exception"),(.type "BaseException"),(.type "object")],79,"TailError",.true,[],[(.ref 100),(.ref 119),(.ref 138),(.ref 157)],.false,none,.false⟩),#[(some (.ref 71)),none,(some (.str "TailError" 255)),(some (.str "TailError" 263)),(some (.builtin "ValueError.__new__")),(some (.bool .true))]⟩
noncomputable def qB (_:Params→BT):Bool:=true
noncomputable def qH (_:Params→Heap):Bool:=true
noncomputable def qP (_:Program):Bool:=true
noncomputable def qS (_:List Stmt):Bool:=true
noncomputable def X_view_39:Program:={ PySem.Challenge.pw_tailrooms_k77_marks_refused with main:={ PySem.Challenge.pw_tailrooms_k77_marks_refused.main with body:=[f 0,f 2,f 3,f 4,f 5,f 6,f 7,f 8,f 9,f 11,f 12,f 13,f 14,f 15,f 16,f 17,f 18,f 20,f 21,f 22,f 23,f 25,f 26,f 27,f 28,f 30,f 31,f 32,f 34,f 35,f 37,f 39,f 40,f 41,f 43,f 44,f 45,f 47,f 48,f 49,f 50,f 51,f 52,f 53,f 54,f 55,f 56,f 57,f 58] } }
noncomputable def c63:B:=n o14 (n o33 (n o77 (w o161) (w o235)) (n o120 (w o1) u)) (n o54 (n o100 (w o179) u) (n o143 (w o1) u))
noncomputable def c64:B:=n o23 (n o43 (n o88 (w o1) u) (n o131 (w o207) u)) (n o5 (n o110 (w o5) u) (n o1 (w o225) u))
noncomputable def c65:B:=n o1 (n o38 (n o82 (w o166) u) (n o39 (w o202) u)) (n o48 (n o1 (w o184) u) (n o1 (w o5) u))
noncomputable def c66:B:=n o28 (n o1 (n o1 (w o5) u) (n o138 (w o212) u)) (n o72 (n o115 (w o193) u) (n o156 (w o230) u))
noncomputable def c67:B:=n o17 (n o1 (n o79 (w o163) (w o1)) (n o124 (w o1) u)) (n o58 (n o1 (w o182) u) (n o1 (w o218) u))
noncomputable def c68:B:=n o5 (n o47 (n o91 (w o172) u) (n o134 (w o209) u)) (n o68 (n o48 (w o191) u) (n o1 (w o228) u))
noncomputable def c69:B:=n o1 (n o5 (n o86 (w o1) u) (n o129 (w o5) u)) (n o63 (n o106 (w o186) u) (n o150 (w o223) u))
noncomputable def c70:B:=n o30 (n o1 (n o96 (w o177) u) (n o140 (w o1) u)) (n o39 (n o5 (w o196) u) (n o5 (w o232) u))
noncomputable def c71:B:=n o15 (n o5 (n o1 (w o1) (w o5)) (n o122 (w o199) u)) (n o56 (n o39 (w o180) u) (n o5 (w o217) u))
noncomputable def c72:B:=n o25 (n o45 (n o89 (w o171) u) (n o132 (w o1) u)) (n o1 (n o112 (w o1) u) (n o153 (w o226) u))
noncomputable def c73:B:=n o20 (n o40 (n o84 (w o5) u) (n o1 (w o204) u)) (n o62 (n o105 (w o1) u) (n o148 (w o1) u))
noncomputable def c74:B:=n o1 (n o51 (n o94 (w o1) u) (n o1 (w o5) u)) (n o74 (n o117 (w o194) u) (n o158 (w o1) u))
noncomputable def c75:B:=n o5 (n o36 (n o80 (w o164) (w o238)) (n o126 (w o201) u)) (n o60 (n o103 (w o5) u) (n o146 (w o220) u))
noncomputable def c76:B:=n o1 (n o39 (n o5 (w o174) u) (n o136 (w o210) u)) (n o70 (n o114 (w o1) u) (n o155 (w o5) u))
noncomputable def c77:B:=n o22 (n o42 (n o48 (w o169) u) (n o1 (w o1) u)) (n o65 (n o108 (w o188) u) (n o5 (w o1) u))
noncomputable def c78:B:=n o31 (n o53 (n o98 (w o1) u) (n o141 (w o215) u)) (n o1 (n o1 (w o5) u) (n o1 (w o233) u))
noncomputable def c79:B:=n o1 (n o1 (n o78 (w o162) (w o1)) (n o121 (w o198) u)) (n o55 (n o48 (w o1) u) (n o1 (w o5) u))
noncomputable def c80:B:=n o24 (n o44 (n o1 (w o5) u) (n o1 (w o208) u)) (n o66 (n o111 (w o189) u) (n o152 (w o1) u))
noncomputable def c81:B:=n o19 (n o39 (n o83 (w o1) u) (n o127 (w o203) u)) (n o39 (n o5 (w o185) u) (n o5 (w o221) u))
noncomputable def c82:B:=n o29 (n o50 (n o93 (w o175) u) (n o139 (w o1) u)) (n o73 (n o116 (w o1) u) (n o157 (w o231) u))
noncomputable def c83:B:=n o1 (n o35 (n o1 (w o1) (w o237)) (n o125 (w o5) u)) (n o59 (n o102 (w o1) u) (n o145 (w o219) u))
noncomputable def c84:B:=n o26 (n o48 (n o1 (w o173) u) (n o135 (w o1) u)) (n o69 (n o39 (w o192) u) (n o5 (w o1) u))
noncomputable def c85:B:=n o5 (n o41 (n o87 (w o168) u) (n o130 (w o205) u)) (n o64 (n o107 (w o187) u) (n o1 (w o224) u))
noncomputable def c86:B:=n o1 (n o5 (n o97 (w o178) u) (n o1 (w o214) u)) (n o75 (n o118 (w o1) u) (n o159 (w o1) u))
noncomputable def c87:B:=n o16 (n o34 (n o5 (w o5) (w o236)) (n o123 (w o200) u)) (n o57 (n o101 (w o181) u) (n o144 (w o1) u))
noncomputable def c88:B:=n o1 (n o46 (n o90 (w o1) u) (n o133 (w o5) u)) (n o67 (n o113 (w o190) u) (n o154 (w o227) u))
noncomputable def c89:B:=n o21 (n o1 (n o85 (w o167) u) (n o128 (w o1) u)) (n o1 (n o1 (w o5) u) (n o149 (w o222) u))
noncomputable def c90:B:=n o5 (n o52 (n o95 (w o176) u) (n o5 (w o213) u)) (n o48 (n o1 (w o195) u) (n o1 (w o5) u))
noncomputable def c91:B:=n o18 (n o37 (n o81 (w o165) (w o239)) (n o48 (w o1) u)) (n o61 (n o104 (w o183) u) (n o147 (w o1) u))
noncomputable def c92:B:=n o27 (n o49 (n o92 (w o1) u) (n o137 (w o211) u)) (n o71 (n o1 (w o39) u) (n o1 (w o229) u))
noncomputable def c93:B:=n o1 (n o1 (n o39 (w o170) u) (n o5 (w o206) u)) (n o1 (n o109 (w o1) u) (n o151 (w o5) u))
noncomputable def c94:B:=n o32 (n o1 (n o99 (w o5) u) (n o142 (w o216) u)) (n o76 (n o119 (w o197) u) (n o160 (w o234) u))
noncomputable def X_tree_571:Params→BT:=(n boot_o_0 (n boot_o_1 (n o0 (n boot_o_7 (n o1 c63 c64) (n o5 c65 c66)) (n o1 (n o7 c67 c68) (n o12 c69 c70))) (n boot_o_5 (n boot_o_9 (n o6 c71 c72) (n o1 c73 c74)) (n o3 (n o9 c75 c76) (n o1 c77 c78)))) (n boot_o_2 (n boot_o_4 (n boot_o_8 (n o5 c79 c80) (n o10 c81 c82)) (n o2 (n o8 c83 c84) (n o13 c85 c86))) (n boot_o_6 (n boot_o_10 (n o1 c87 c88) (n o11 c89 c90)) (n o4 (n o1 c91 c92) (n o5 c93 c94)))))
noncomputable def X_tree_165:Params→BT:=(n boot_o_0 (n boot_o_1 (n o240 (n boot_o_7 (n o1 (n o14 (w o33) (w o54)) (n o23 (w o43) (w o5))) (n o5 (n o1 (w o38) (w o48)) (n o28 (w o1) (w o72)))) (n o1 (n o7 (n o17 (w o1) (w o58)) (n o5 (w o47) (w o68))) (n o12 (n o1 (w o5) (w o63)) (n o30 (w o1) u)))) (n boot_o_5 (n boot_o_9 (n o6 (n o15 (w o5) (w o56)) (n o25 (w o45) (w o1))) (n o1 (n o20 (w o40) (w o62)) (n o1 (w o51) (w o74)))) (n o3 (n o9 (n o5 (w o36) (w o60)) (n o1 (w o39) (w o70))) (n o1 (n o22 (w o42) (w o65)) (n o31 (w o53) u))))) (n boot_o_2 (n boot_o_4 (n boot_o_8 (n o5 (n o1 (w o1) (w o55)) (n o24 (w o242) (w o66))) (n o10 (n o19 (w o39) (w o39)) (n o29 (w o50) (w o73)))) (n o241 (n o8 (n o1 (w o35) (w o59)) (n o26 (w o48) (w o69))) (n o13 (n o5 (w o41) (w o64)) (n o1 (w o5) u)))) (n boot_o_6 (n boot_o_10 (n o1 (n o16 (w o34) (w o57)) (n o1 (w o46) (w o67))) (n o11 (n o21 (w o1) (w o1)) (n o5 (w o52) u))) (n o4 (n o1 (n o18 (w o37) (w o61)) (n o27 (w o49) (w o71))) (n o5 (n o1 (w o1) (w o1)) (n o32 (w o1) u))))))
noncomputable def c95:B:=n o14 (n o33 (n o77 (n o161 (w o1) u) (w o235)) (n o120 (w o1) (w o281))) (n o54 (n o100 (w o179) (w o1)) (n o143 (w o1) (w o5)))
noncomputable def c96:B:=n o23 (n o43 (n o88 (w o1) (w o5)) (n o131 (w o207) (w o291))) (n o5 (n o110 (w o5) (w o272)) (n o1 (w o225) (w o309)))
noncomputable def c97:B:=n o1 (n o38 (n o82 (n o166 (w o5) u) (w o1)) (n o39 (w o202) (w o286))) (n o48 (n o1 (w o184) (w o267)) (n o1 (w o5) (w o304)))
noncomputable def c98:B:=n o28 (n o1 (n o1 (w o5) (w o255)) (n o138 (w o212) (w o1))) (n o72 (n o115 (w o245) (w o5)) (n o156 (w o230) (w o314)))
noncomputable def c99:B:=n o17 (n o1 (n o79 (n o163 (w o320) u) (w o1)) (n o124 (w o1) (w o5))) (n o58 (n o1 (w o182) (w o263)) (n o1 (w o218) (w o302)))
noncomputable def c100:B:=n o5 (n o47 (n o91 (w o172) (w o253)) (n o134 (w o209) (w o1))) (n o68 (n o48 (w o191) (w o274)) (n o1 (w o228) (w o311)))
noncomputable def c101:B:=n o1 (n o5 (n o86 (w o1) (w o248)) (n o129 (w o5) (w o288))) (n o63 (n o106 (w o186) (w o5)) (n o150 (w o223) (w o5)))
noncomputable def c102:B:=n o30 (n o1 (n o96 (w o177) (w o258)) (n o140 (w o1) (w o297))) (n o39 (n o5 (w o196) (w o279)) (n o5 (w o232) (w o1)))
noncomputable def c103:B:=n o15 (n o5 (n o1 (n o1 (w o319) u) (w o5)) (n o122 (w o199) (w o283))) (n o56 (n o39 (w o180) (w o261)) (n o5 (w o217) (w o1)))
noncomputable def c104:B:=n o25 (n o45 (n o89 (w o171) (w o1)) (n o132 (w o1) (w o5))) (n o1 (n o112 (w o1) (w o1)) (n o153 (w o226) (w o1)))
noncomputable def c105:B:=n o20 (n o40 (n o84 (n o5 (w o324) u) (w o247)) (n o1 (w o204) (w o1))) (n o62 (n o105 (w o1) (w o269)) (n o148 (w o1) (w o306)))
noncomputable def c106:B:=n o1 (n o51 (n o94 (w o1) (w o256)) (n o1 (w o5) (w o296))) (n o74 (n o117 (w o246) (w o1)) (n o158 (w o1) (w o5)))
noncomputable def c107:B:=n o5 (n o36 (n o80 (n o164 (w o322) u) (w o238)) (n o126 (w o201) (w o1))) (n o60 (n o103 (w o5) (w o265)) (n o146 (w o220) (w o1)))
noncomputable def c108:B:=n o1 (n o39 (n o5 (w o174) (w o1)) (n o136 (w o210) (w o294))) (n o70 (n o114 (w o1) (w o276)) (n o155 (w o5) (w o312)))
noncomputable def c109:B:=n o22 (n o42 (n o48 (w o169) (w o250)) (n o1 (w o1) (w o289))) (n o65 (n o108 (w o188) (w o1)) (n o5 (w o1) (w o1)))
noncomputable def c110:B:=n o31 (n o53 (n o98 (w o1) (w o5)) (n o141 (w o215) (w o299))) (n o1 (n o1 (w o5) (w o1)) (n o1 (w o233) (w o317)))
noncomputable def c111:B:=n o1 (n o1 (n o78 (n o162 (w o5) u) (w o1)) (n o121 (w o198) (w o282))) (n o55 (n o48 (w o1) (w o260)) (n o1 (w o5) (w o300)))
noncomputable def c112:B:=n o24 (n o44 (n o1 (w o5) (w o251)) (n o1 (w o208) (w o1))) (n o66 (n o111 (w o189) (w o273)) (n o152 (w o1) (w o310)))
noncomputable def c113:B:=n o19 (n o39 (n o83 (n o1 (w o323) u) (w o5)) (n o127 (w o203) (w o287))) (n o39 (n o5 (w o185) (w o268)) (n o5 (w o221) (w o305)))
noncomputable def c114:B:=n o29 (n o50 (n o93 (w o175) (w o1)) (n o139 (w o1) (w o5))) (n o73 (n o116 (w o1) (w o277)) (n o157 (w o231) (w o1)))
noncomputable def c115:B:=n o1 (n o35 (n o1 (n o1 (w o321) u) (w o237)) (n o125 (w o5) (w o284))) (n o59 (n o102 (w o1) (w o264)) (n o145 (w o219) (w o303)))
noncomputable def c116:B:=n o26 (n o48 (n o1 (w o173) (w o254)) (n o135 (w o1) (w o293))) (n o69 (n o39 (w o192) (w o275)) (n o5 (w o1) (w o1)))
noncomputable def c117:B:=n o5 (n o41 (n o87 (w o168) (w o249)) (n o130 (w o205) (w o1))) (n o64 (n o107 (w o187) (w o270)) (n o1 (w o224) (w o307)))
noncomputable def c118:B:=n o1 (n o5 (n o97 (w o178) (w o1)) (n o1 (w o214) (w o298))) (n o75 (n o118 (w o1) (w o280)) (n o159 (w o1) (w o316)))
noncomputable def c119:B:=n o16 (n o34 (n o5 (n o5 (w o1) u) (w o236)) (n o123 (w o200) (w o1))) (n o57 (n o101 (w o181) (w o262)) (n o144 (w o1) (w o301)))
noncomputable def c120:B:=n o1 (n o46 (n o90 (w o1) (w o252)) (n o133 (w o5) (w o292))) (n o67 (n o113 (w o190) (w o5)) (n o154 (w o227) (w o5)))
noncomputable def c121:B:=n o21 (n o1 (n o85 (n o167 (w o325) u) (w o1)) (n o128 (w o1) (w o5))) (n o1 (n o1 (w o5) (w o1)) (n o149 (w o222) (w o1)))
noncomputable def c122:B:=n o5 (n o52 (n o95 (w o176) (w o257)) (n o5 (w o213) (w o1))) (n o48 (n o1 (w o195) (w o278)) (n o1 (w o5) (w o315)))
noncomputable def c123:B:=n o18 (n o37 (n o81 (n o165 (w o1) u) (w o239)) (n o48 (w o1) (w o285))) (n o61 (n o104 (w o183) (w o266)) (n o147 (w o1) (w o5)))
noncomputable def c124:B:=n o27 (n o49 (n o92 (w o1) (w o5)) (n o137 (w o211) (w o295))) (n o71 (n o1 (w o39) (w o1)) (n o1 (w o229) (w o313)))
noncomputable def c125:B:=n o1 (n o1 (n o39 (w o170) (w o1)) (n o5 (w o206) (w o290))) (n o1 (n o109 (w o1) (w o271)) (n o151 (w o5) (w o308)))
noncomputable def c126:B:=n o32 (n o1 (n o99 (w o5) (w o259)) (n o142 (w o216) (w o1))) (n o76 (n o119 (w o197) (w o5)) (n o160 (w o234) (w o318)))
noncomputable def X_tree_675:Params→BT:=(n boot_o_0 (n boot_o_1 (n o243 (n boot_o_7 (n o1 c95 c96) (n o5 c97 c98)) (n o1 (n o7 c99 c100) (n o12 c101 c102))) (n boot_o_5 (n boot_o_9 (n o6 c103 c104) (n o1 c105 c106)) (n o3 (n o9 c107 c108) (n o1 c109 c110)))) (n boot_o_2 (n boot_o_4 (n boot_o_8 (n o5 c111 c112) (n o10 c113 c114)) (n o244 (n o8 c115 c116) (n o13 c117 c118))) (n boot_o_6 (n boot_o_10 (n o1 c119 c120) (n o11 c121 c122)) (n o4 (n o1 c123 c124) (n o5 c125 c126)))))
noncomputable def c127:B:=n o14 (n o33 (w o77) u) (w o54)
noncomputable def c128:B:=n o1 (n o38 (w o82) u) (w o48)
noncomputable def c129:B:=n o17 (n o1 (w o79) u) (w o58)
noncomputable def c130:B:=n o1 (n o5 (w o86) u) (w o63)
noncomputable def c131:B:=n o15 (n o5 (w o1) u) (w o56)
noncomputable def c132:B:=n o20 (n o40 (w o84) u) (w o62)
noncomputable def c133:B:=n o5 (n o36 (w o80) u) (w o60)
noncomputable def c134:B:=n o1 (n o1 (w o78) u) (w o55)
noncomputable def c135:B:=n o19 (n o39 (w o83) u) (w o39)
noncomputable def c136:B:=n o1 (n o35 (w o1) u) (w o59)
noncomputable def c137:B:=n o5 (n o41 (w o87) u) (w o64)
noncomputable def c138:B:=n o16 (n o34 (w o5) u) (w o57)
noncomputable def c139:B:=n o21 (n o1 (w o85) u) (w o1)
noncomputable def c140:B:=n o18 (n o37 (w o81) u) (w o61)
noncomputable def X_tree_187:Params→BT:=(n boot_o_0 (n boot_o_1 (n o326 (n boot_o_7 (n o1 c127 (n o23 (w o43) (w o5))) (n o5 c128 (n o28 (w o1) (w o72)))) (n o1 (n o7 c129 (n o5 (w o47) (w o68))) (n o12 c130 (n o30 (w o1) (w o39))))) (n boot_o_5 (n boot_o_9 (n o6 c131 (n o25 (w o45) (w o1))) (n o1 c132 (n o1 (w o51) (w o74)))) (n o3 (n o9 c133 (n o1 (w o39) (w o70))) (n o1 (n o22 (w o42) (w o65)) (n o31 (w o53) (w o1)))))) (n boot_o_2 (n boot_o_4 (n boot_o_8 (n o5 c134 (n o24 (w o328) (w o66))) (n o10 c135 (n o29 (w o50) (w o73)))) (n o327 (n o8 c136 (n o26 (w o48) (w o69))) (n o13 c137 (n o1 (w o5) (w o75))))) (n boot_o_6 (n boot_o_10 (n o1 c138 (n o1 (w o46) (w o67))) (n o11 c139 (n o5 (w o52) (w o48)))) (n o4 (n o1 c140 (n o27 (w o49) (w o71))) (n o5 (n o1 (w o1) (w o1)) (n o32 (w o1) (w o76)))))))
noncomputable def X_sts_370:List Stmt:=[f 41]
noncomputable def c141:B:=n o14 (n o33 (w o77) (w o120)) (n o54 (w o100) (w o143))
noncomputable def c142:B:=n o23 (n o43 (w o88) (w o131)) (n o5 (w o110) (w o1))
noncomputable def c143:B:=n o1 (n o38 (w o82) (w o39)) (n o48 (w o1) (w o1))
noncomputable def c144:B:=n o28 (n o1 (w o1) (w o138)) (n o72 (w o115) u)
noncomputable def c145:B:=n o17 (n o1 (w o79) (w o124)) (n o58 (w o1) (w o1))
noncomputable def c146:B:=n o5 (n o47 (w o91) (w o134)) (n o68 (w o48) u)
noncomputable def c147:B:=n o1 (n o5 (w o86) (w o129)) (n o63 (w o106) (w o150))
noncomputable def c148:B:=n o30 (n o1 (w o96) (w o140)) (n o39 (w o5) u)
noncomputable def c149:B:=n o15 (n o5 (w o1) (w o122)) (n o56 (w o39) (w o5))
noncomputable def c150:B:=n o25 (n o45 (w o89) (w o132)) (n o1 (w o112) (w o153))
noncomputable def c151:B:=n o20 (n o40 (w o84) (w o1)) (n o62 (w o105) (w o148))
noncomputable def c152:B:=n o1 (n o51 (w o94) (w o1)) (n o74 (w o117) u)
noncomputable def c153:B:=n o5 (n o36 (w o80) (w o126)) (n o60 (w o103) (w o146))
noncomputable def c154:B:=n o1 (n o39 (w o5) (w o136)) (n o70 (w o114) u)
noncomputable def c155:B:=n o22 (n o42 (w o48) (w o1)) (n o65 (w o108) (w o5))
noncomputable def c156:B:=n o31 (n o53 (w o98) (w o141)) (n o1 (w o1) u)
noncomputable def c157:B:=n o1 (n o1 (w o78) (w o121)) (n o55 (w o48) (w o1))
noncomputable def c158:B:=n o24 (n o44 (w o1) (w o1)) (n o66 (w o111) (w o152))
noncomputable def c159:B:=n o19 (n o39 (w o83) (w o127)) (n o39 (w o5) (w o5))
noncomputable def c160:B:=n o29 (n o50 (w o93) (w o139)) (n o73 (w o116) u)
noncomputable def c161:B:=n o1 (n o35 (w o1) (w o125)) (n o59 (w o102) (w o145))
noncomputable def c162:B:=n o26 (n o48 (w o1) (w o135)) (n o69 (w o39) u)
noncomputable def c163:B:=n o5 (n o41 (w o87) (w o130)) (n o64 (w o107) (w o1))
noncomputable def c164:B:=n o1 (n o5 (w o97) (w o1)) (n o75 (w o118) u)
noncomputable def c165:B:=n o16 (n o34 (w o5) (w o123)) (n o57 (w o101) (w o144))
noncomputable def c166:B:=n o1 (n o46 (w o90) (w o133)) (n o67 (w o113) (w o154))
noncomputable def c167:B:=n o21 (n o1 (w o85) (w o128)) (n o1 (w o1) (w o149))
noncomputable def c168:B:=n o5 (n o52 (w o95) (w o5)) (n o48 (w o1) u)
noncomputable def c169:B:=n o18 (n o37 (w o81) (w o48)) (n o61 (w o104) (w o147))
noncomputable def c170:B:=n o27 (n o49 (w o92) (w o137)) (n o71 (w o1) u)
noncomputable def c171:B:=n o1 (n o1 (w o39) (w o5)) (n o1 (w o109) (w o151))
noncomputable def c172:B:=n o32 (n o1 (w o99) (w o142)) (n o76 (w o119) u)
noncomputable def X_tree_301:Params→BT:=(n boot_o_0 (n boot_o_1 (n o329 (n boot_o_7 (n o1 c141 c142) (n o5 c143 c144)) (n o1 (n o7 c145 c146) (n o12 c147 c148))) (n boot_o_5 (n boot_o_9 (n o6 c149 c150) (n o1 c151 c152)) (n o3 (n o9 c153 c154) (n o1 c155 c156)))) (n boot_o_2 (n boot_o_4 (n boot_o_8 (n o5 c157 c158) (n o10 c159 c160)) (n o330 (n o8 c161 c162) (n o13 c163 c164))) (n boot_o_6 (n boot_o_10 (n o1 c165 c166) (n o11 c167 c168)) (n o4 (n o1 c169 c170) (n o5 c171 c172)))))
noncomputable def c173:B:=n o14 (n o33 (n o77 (w o161) u) (w o120)) (n o54 (n o100 (w o179) u) (w o143))
noncomputable def c174:B:=n o23 (n o43 (n o88 (w o1) u) (w o131)) (n o5 (n o110 (w o5) u) (w o1))
noncomputable def c175:B:=n o1 (n o38 (n o82 (w o166) u) (w o39)) (n o48 (n o1 (w o184) u) (w o1))
noncomputable def c176:B:=n o28 (n o1 (n o1 (w o5) u) (w o138)) (n o72 (w o115) (w o156))
noncomputable def c177:B:=n o17 (n o1 (n o79 (w o163) u) (w o124)) (n o58 (n o1 (w o182) u) (w o1))
noncomputable def c178:B:=n o5 (n o47 (n o91 (w o172) u) (w o134)) (n o68 (n o48 (w o191) u) (w o1))
noncomputable def c179:B:=n o1 (n o5 (n o86 (w o1) u) (w o129)) (n o63 (n o106 (w o186) u) (w o150))
noncomputable def c180:B:=n o30 (n o1 (n o96 (w o177) u) (w o140)) (n o39 (w o5) (w o5))
noncomputable def c181:B:=n o15 (n o5 (n o1 (w o1) u) (w o122)) (n o56 (n o39 (w o180) u) (w o5))
noncomputable def c182:B:=n o25 (n o45 (n o89 (w o171) u) (w o132)) (n o1 (n o112 (w o1) u) (w o153))
noncomputable def c183:B:=n o20 (n o40 (n o84 (w o5) u) (w o1)) (n o62 (n o105 (w o1) u) (w o148))
noncomputable def c184:B:=n o1 (n o51 (n o94 (w o1) u) (w o1)) (n o74 (w o117) (w o158))
noncomputable def c185:B:=n o5 (n o36 (n o80 (w o164) u) (w o126)) (n o60 (n o103 (w o5) u) (w o146))
noncomputable def c186:B:=n o1 (n o39 (n o5 (w o174) u) (w o136)) (n o70 (w o114) (w o155))
noncomputable def c187:B:=n o22 (n o42 (n o48 (w o169) u) (w o1)) (n o65 (n o108 (w o188) u) (w o5))
noncomputable def c188:B:=n o31 (n o53 (n o98 (w o1) u) (w o141)) (n o1 (w o1) (w o1))
noncomputable def c189:B:=n o1 (n o1 (n o78 (w o162) u) (w o121)) (n o55 (n o48 (w o1) u) (w o1))
noncomputable def c190:B:=n o24 (n o44 (n o1 (w o5) u) (w o1)) (n o66 (n o111 (w o189) u) (w o152))
noncomputable def c191:B:=n o19 (n o39 (n o83 (w o1) u) (w o127)) (n o39 (n o5 (w o185) u) (w o5))
noncomputable def c192:B:=n o29 (n o50 (n o93 (w o175) u) (w o139)) (n o73 (w o116) (w o157))
noncomputable def c193:B:=n o1 (n o35 (n o1 (w o1) u) (w o125)) (n o59 (n o102 (w o1) u) (w o145))
noncomputable def c194:B:=n o26 (n o48 (n o1 (w o173) u) (w o135)) (n o69 (n o39 (w o192) u) (w o5))
noncomputable def c195:B:=n o5 (n o41 (n o87 (w o168) u) (w o130)) (n o64 (n o107 (w o187) u) (w o1))
noncomputable def c196:B:=n o1 (n o5 (n o97 (w o178) u) (w o1)) (n o75 (w o118) (w o159))
noncomputable def c197:B:=n o16 (n o34 (n o5 (w o5) u) (w o123)) (n o57 (n o101 (w o181) u) (w o144))
noncomputable def c198:B:=n o1 (n o46 (n o90 (w o1) u) (w o133)) (n o67 (n o113 (w o190) u) (w o154))
noncomputable def c199:B:=n o21 (n o1 (n o85 (w o167) u) (w o128)) (n o1 (n o1 (w o5) u) (w o149))
noncomputable def c200:B:=n o5 (n o52 (n o95 (w o176) u) (w o5)) (n o48 (w o1) (w o1))
noncomputable def c201:B:=n o18 (n o37 (n o81 (w o165) u) (w o48)) (n o61 (n o104 (w o183) u) (w o147))
noncomputable def c202:B:=n o27 (n o49 (n o92 (w o1) u) (w o137)) (n o71 (w o1) (w o1))
noncomputable def c203:B:=n o1 (n o1 (n o39 (w o170) u) (w o5)) (n o1 (n o109 (w o1) u) (w o151))
noncomputable def c204:B:=n o32 (n o1 (n o99 (w o5) u) (w o142)) (n o76 (w o119) (w o160))
noncomputable def X_tree_369:Params→BT:=(n boot_o_0 (n boot_o_1 (n o0 (n boot_o_7 (n o1 c173 c174) (n o5 c175 c176)) (n o1 (n o7 c177 c178) (n o12 c179 c180))) (n boot_o_5 (n boot_o_9 (n o6 c181 c182) (n o1 c183 c184)) (n o3 (n o9 c185 c186) (n o1 c187 c188)))) (n boot_o_2 (n boot_o_4 (n boot_o_8 (n o5 c189 c190) (n o10 c191 c192)) (n o331 (n o8 c193 c194) (n o13 c195 c196))) (n boot_o_6 (n boot_o_10 (n o1 c197 c198) (n o11 c199 c200)) (n o4 (n o1 c201 c202) (n o5 c203 c204)))))
noncomputable def X_sts_655:List Stmt:=[f 56,f 57,f 58]
noncomputable def X_sts_302:List Stmt:=[f 26,f 27,f 28,f 29,f 30,f 31,f 32,f 33,f 34,f 35,f 36,f 37,f 38,f 39,f 40]
noncomputable def c205:B:=n o14 (n o33 (n o77 (w o161) (w o235)) (n o120 (w o1) (w o281))) (n o54 (n o100 (w o179) (w o1)) (n o143 (w o1) (w o5)))
noncomputable def c206:B:=n o1 (n o38 (n o82 (w o166) (w o1)) (n o39 (w o202) (w o286))) (n o48 (n o1 (w o184) (w o267)) (n o1 (w o5) (w o304)))
noncomputable def c207:B:=n o17 (n o1 (n o79 (w o163) (w o1)) (n o124 (w o1) (w o5))) (n o58 (n o1 (w o182) (w o263)) (n o1 (w o218) (w o302)))
noncomputable def c208:B:=n o30 (n o1 (n o96 (w o177) (w o258)) (n o140 (w o1) (w o297))) (n o39 (n o5 (w o196) (w o279)) (n o5 (w o232) u))
noncomputable def c209:B:=n o15 (n o5 (n o1 (w o1) (w o5)) (n o122 (w o199) (w o283))) (n o56 (n o39 (w o180) (w o261)) (n o5 (w o217) (w o1)))
noncomputable def c210:B:=n o20 (n o40 (n o84 (w o5) (w o247)) (n o1 (w o204) (w o1))) (n o62 (n o105 (w o1) (w o269)) (n o148 (w o1) (w o306)))
noncomputable def c211:B:=n o1 (n o51 (n o94 (w o1) (w o256)) (n o1 (w o5) (w o296))) (n o74 (n o117 (w o246) (w o1)) (n o158 (w o1) u))
noncomputable def c212:B:=n o5 (n o36 (n o80 (w o164) (w o238)) (n o126 (w o201) (w o1))) (n o60 (n o103 (w o5) (w o265)) (n o146 (w o220) (w o1)))
noncomputable def c213:B:=n o31 (n o53 (n o98 (w o1) (w o5)) (n o141 (w o215) (w o299))) (n o1 (n o1 (w o5) (w o1)) (n o1 (w o233) u))
noncomputable def c214:B:=n o1 (n o1 (n o78 (w o162) (w o1)) (n o121 (w o198) (w o282))) (n o55 (n o48 (w o1) (w o260)) (n o1 (w o5) (w o300)))
noncomputable def c215:B:=n o19 (n o39 (n o83 (w o1) (w o5)) (n o127 (w o203) (w o287))) (n o39 (n o5 (w o185) (w o268)) (n o5 (w o221) (w o305)))
noncomputable def c216:B:=n o29 (n o50 (n o93 (w o175) (w o1)) (n o139 (w o1) (w o5))) (n o73 (n o116 (w o1) (w o277)) (n o157 (w o231) u))
noncomputable def c217:B:=n o1 (n o35 (n o1 (w o1) (w o237)) (n o125 (w o5) (w o284))) (n o59 (n o102 (w o1) (w o264)) (n o145 (w o219) (w o303)))
noncomputable def c218:B:=n o1 (n o5 (n o97 (w o178) (w o1)) (n o1 (w o214) (w o298))) (n o75 (n o118 (w o1) (w o280)) (n o159 (w o1) u))
noncomputable def c219:B:=n o16 (n o34 (n o5 (w o5) (w o236)) (n o123 (w o200) (w o1))) (n o57 (n o101 (w o181) (w o262)) (n o144 (w o1) (w o301)))
noncomputable def c220:B:=n o21 (n o1 (n o85 (w o167) (w o1)) (n o128 (w o1) (w o5))) (n o1 (n o1 (w o5) (w o1)) (n o149 (w o222) (w o1)))
noncomputable def c221:B:=n o5 (n o52 (n o95 (w o176) (w o257)) (n o5 (w o213) (w o1))) (n o48 (n o1 (w o195) (w o278)) (n o1 (w o5) u))
noncomputable def c222:B:=n o18 (n o37 (n o81 (w o165) (w o239)) (n o48 (w o1) (w o285))) (n o61 (n o104 (w o183) (w o266)) (n o147 (w o1) (w o5)))
noncomputable def c223:B:=n o32 (n o1 (n o99 (w o5) (w o259)) (n o142 (w o216) (w o1))) (n o76 (n o119 (w o197) (w o5)) (n o160 (w o234) u))
noncomputable def X_tree_654:Params→BT:=(n boot_o_0 (n boot_o_1 (n o332 (n boot_o_7 (n o1 c205 c96) (n o5 c206 c98)) (n o1 (n o7 c207 c100) (n o12 c101 c208))) (n boot_o_5 (n boot_o_9 (n o6 c209 c104) (n o1 c210 c211)) (n o3 (n o9 c212 c108) (n o1 c109 c213)))) (n boot_o_2 (n boot_o_4 (n boot_o_8 (n o5 c214 c112) (n o10 c215 c216)) (n o333 (n o8 c217 c116) (n o13 c117 c218))) (n boot_o_6 (n boot_o_10 (n o1 c219 c120) (n o11 c220 c221)) (n o4 (n o1 c222 c124) (n o5 c125 c223)))))
noncomputable def c224:B:=n o14 (n o33 (n o77 (w o161) (w o235)) (n o120 (w o1) u)) (n o54 (n o100 (w o179) (w o1)) (n o143 (w o1) u))
noncomputable def c225:B:=n o23 (n o43 (n o88 (w o1) (w o5)) (n o131 (w o207) u)) (n o5 (n o110 (w o5) u) (n o1 (w o225) u))
noncomputable def c226:B:=n o1 (n o38 (n o82 (w o166) (w o1)) (n o39 (w o202) u)) (n o48 (n o1 (w o184) (w o267)) (n o1 (w o5) u))
noncomputable def c227:B:=n o28 (n o1 (n o1 (w o5) (w o255)) (n o138 (w o212) u)) (n o72 (n o115 (w o245) u) (n o156 (w o230) u))
noncomputable def c228:B:=n o17 (n o1 (n o79 (w o163) (w o1)) (n o124 (w o1) u)) (n o58 (n o1 (w o182) (w o263)) (n o1 (w o218) u))
noncomputable def c229:B:=n o5 (n o47 (n o91 (w o172) (w o253)) (n o134 (w o209) u)) (n o68 (n o48 (w o191) u) (n o1 (w o228) u))
noncomputable def c230:B:=n o1 (n o5 (n o86 (w o1) (w o248)) (n o129 (w o5) u)) (n o63 (n o106 (w o186) u) (n o150 (w o223) u))
noncomputable def c231:B:=n o30 (n o1 (n o96 (w o177) (w o258)) (n o140 (w o1) u)) (n o39 (n o5 (w o196) u) (n o5 (w o232) u))
noncomputable def c232:B:=n o15 (n o5 (n o1 (w o1) (w o5)) (n o122 (w o199) u)) (n o56 (n o39 (w o180) (w o261)) (n o5 (w o217) u))
noncomputable def c233:B:=n o25 (n o45 (n o89 (w o171) (w o1)) (n o132 (w o1) u)) (n o1 (n o112 (w o1) u) (n o153 (w o226) u))
noncomputable def c234:B:=n o20 (n o40 (n o84 (w o5) (w o247)) (n o1 (w o204) u)) (n o62 (n o105 (w o1) (w o269)) (n o148 (w o1) u))
noncomputable def c235:B:=n o1 (n o51 (n o94 (w o1) (w o256)) (n o1 (w o5) u)) (n o74 (n o117 (w o246) u) (n o158 (w o1) u))
noncomputable def c236:B:=n o5 (n o36 (n o80 (w o164) (w o238)) (n o126 (w o201) u)) (n o60 (n o103 (w o5) (w o265)) (n o146 (w o220) u))
noncomputable def c237:B:=n o1 (n o39 (n o5 (w o174) (w o1)) (n o136 (w o210) u)) (n o70 (n o114 (w o1) u) (n o155 (w o5) u))
noncomputable def c238:B:=n o22 (n o42 (n o48 (w o169) (w o250)) (n o1 (w o1) u)) (n o65 (n o108 (w o188) u) (n o5 (w o1) u))
noncomputable def c239:B:=n o31 (n o53 (n o98 (w o1) (w o5)) (n o141 (w o215) u)) (n o1 (n o1 (w o5) u) (n o1 (w o233) u))
noncomputable def c240:B:=n o1 (n o1 (n o78 (w o162) (w o1)) (n o121 (w o198) u)) (n o55 (n o48 (w o1) (w o260)) (n o1 (w o5) u))
noncomputable def c241:B:=n o24 (n o44 (n o1 (w o5) (w o251)) (n o1 (w o208) u)) (n o66 (n o111 (w o189) u) (n o152 (w o1) u))
noncomputable def c242:B:=n o19 (n o39 (n o83 (w o1) (w o5)) (n o127 (w o203) u)) (n o39 (n o5 (w o185) (w o268)) (n o5 (w o221) u))
noncomputable def c243:B:=n o29 (n o50 (n o93 (w o175) (w o1)) (n o139 (w o1) u)) (n o73 (n o116 (w o1) u) (n o157 (w o231) u))
noncomputable def c244:B:=n o1 (n o35 (n o1 (w o1) (w o237)) (n o125 (w o5) u)) (n o59 (n o102 (w o1) (w o264)) (n o145 (w o219) u))
noncomputable def c245:B:=n o26 (n o48 (n o1 (w o173) (w o254)) (n o135 (w o1) u)) (n o69 (n o39 (w o192) u) (n o5 (w o1) u))
noncomputable def c246:B:=n o5 (n o41 (n o87 (w o168) (w o249)) (n o130 (w o205) u)) (n o64 (n o107 (w o187) u) (n o1 (w o224) u))
noncomputable def c247:B:=n o1 (n o5 (n o97 (w o178) (w o1)) (n o1 (w o214) u)) (n o75 (n o118 (w o1) u) (n o159 (w o1) u))
noncomputable def c248:B:=n o16 (n o34 (n o5 (w o5) (w o236)) (n o123 (w o200) u)) (n o57 (n o101 (w o181) (w o262)) (n o144 (w o1) u))
noncomputable def c249:B:=n o1 (n o46 (n o90 (w o1) (w o252)) (n o133 (w o5) u)) (n o67 (n o113 (w o190) u) (n o154 (w o227) u))
noncomputable def c250:B:=n o21 (n o1 (n o85 (w o167) (w o1)) (n o128 (w o1) u)) (n o1 (n o1 (w o5) u) (n o149 (w o222) u))
noncomputable def c251:B:=n o5 (n o52 (n o95 (w o176) (w o257)) (n o5 (w o213) u)) (n o48 (n o1 (w o195) u) (n o1 (w o5) u))
noncomputable def c252:B:=n o18 (n o37 (n o81 (w o165) (w o239)) (n o48 (w o1) u)) (n o61 (n o104 (w o183) (w o266)) (n o147 (w o1) u))
noncomputable def c253:B:=n o27 (n o49 (n o92 (w o1) (w o5)) (n o137 (w o211) u)) (n o71 (n o1 (w o39) u) (n o1 (w o229) u))
noncomputable def c254:B:=n o1 (n o1 (n o39 (w o170) (w o1)) (n o5 (w o206) u)) (n o1 (n o109 (w o1) u) (n o151 (w o5) u))
noncomputable def c255:B:=n o32 (n o1 (n o99 (w o5) (w o259)) (n o142 (w o216) u)) (n o76 (n o119 (w o197) u) (n o160 (w o234) u))
noncomputable def X_tree_488:Params→BT:=(n boot_o_0 (n boot_o_1 (n o334 (n boot_o_7 (n o1 c224 c225) (n o5 c226 c227)) (n o1 (n o7 c228 c229) (n o12 c230 c231))) (n boot_o_5 (n boot_o_9 (n o6 c232 c233) (n o1 c234 c235)) (n o3 (n o9 c236 c237) (n o1 c238 c239)))) (n boot_o_2 (n boot_o_4 (n boot_o_8 (n o5 c240 c241) (n o10 c242 c243)) (n o2 (n o8 c244 c245) (n o13 c246 c247))) (n boot_o_6 (n boot_o_10 (n o1 c248 c249) (n o11 c250 c251)) (n o4 (n o1 c252 c253) (n o5 c254 c255)))))
noncomputable def c256 (P:Params) (r:List Obj):List Obj:=boot_o_0 P::boot_o_1 P::boot_o_2 P::o243 P::boot_o_4 P::boot_o_5 P::boot_o_6 P::boot_o_7 P::boot_o_8 P::boot_o_9 P::boot_o_10 P::o1 P::o244 P::o3 P::o4 P::o1 P::r
noncomputable def c257 (P:Params) (r:List Obj):List Obj:=o5 P::o6 P::o1 P::o7 P::o8 P::o9 P::o1 P::o5 P::o10 P::o1 P::o11 P::o12 P::o13 P::o1 P::o5 P::o14 P::r
noncomputable def c258 (P:Params) (r:List Obj):List Obj:=o1 P::o15 P::o16 P::o17 P::o1 P::o5 P::o18 P::o1 P::o19 P::o20 P::o21 P::o1 P::o5 P::o22 P::o1 P::o23 P::r
noncomputable def c259 (P:Params) (r:List Obj):List Obj:=o24 P::o25 P::o1 P::o5 P::o26 P::o1 P::o27 P::o28 P::o29 P::o1 P::o5 P::o30 P::o1 P::o31 P::o32 P::o33 P::r
noncomputable def c260 (P:Params) (r:List Obj):List Obj:=o1 P::o5 P::o34 P::o1 P::o35 P::o36 P::o37 P::o38 P::o39 P::o40 P::o1 P::o5 P::o41 P::o42 P::o1 P::o43 P::r
noncomputable def c261 (P:Params) (r:List Obj):List Obj:=o44 P::o45 P::o46 P::o47 P::o48 P::o39 P::o49 P::o1 P::o50 P::o51 P::o52 P::o1 P::o5 P::o53 P::o1 P::o54 P::r
noncomputable def c262 (P:Params) (r:List Obj):List Obj:=o55 P::o56 P::o57 P::o58 P::o59 P::o60 P::o61 P::o48 P::o39 P::o62 P::o1 P::o63 P::o64 P::o65 P::o1 P::o5 P::r
noncomputable def c263 (P:Params) (r:List Obj):List Obj:=o66 P::o1 P::o67 P::o68 P::o69 P::o70 P::o71 P::o72 P::o73 P::o74 P::o48 P::o39 P::o75 P::o1 P::o76 P::o77 P::r
noncomputable def c264 (P:Params) (r:List Obj):List Obj:=o78 P::o1 P::o5 P::o79 P::o1 P::o80 P::o81 P::o82 P::o83 P::o84 P::o85 P::o86 P::o87 P::o48 P::o39 P::o88 P::r
noncomputable def c265 (P:Params) (r:List Obj):List Obj:=o1 P::o89 P::o90 P::o91 P::o1 P::o5 P::o92 P::o1 P::o93 P::o94 P::o95 P::o96 P::o97 P::o98 P::o99 P::o100 P::r
noncomputable def c266 (P:Params) (r:List Obj):List Obj:=o48 P::o39 P::o101 P::o1 P::o102 P::o103 P::o104 P::o1 P::o5 P::o105 P::o1 P::o106 P::o107 P::o108 P::o109 P::o110 P::r
noncomputable def c267 (P:Params) (r:List Obj):List Obj:=o111 P::o112 P::o113 P::o48 P::o39 P::o114 P::o1 P::o115 P::o116 P::o117 P::o1 P::o5 P::o118 P::o1 P::o119 P::o120 P::r
noncomputable def c268 (P:Params) (r:List Obj):List Obj:=o121 P::o122 P::o123 P::o124 P::o125 P::o126 P::o48 P::o39 P::o127 P::o1 P::o128 P::o129 P::o130 P::o1 P::o5 P::o131 P::r
noncomputable def c269 (P:Params) (r:List Obj):List Obj:=o1 P::o132 P::o133 P::o134 P::o135 P::o136 P::o137 P::o138 P::o139 P::o1 P::o5 P::o140 P::o1 P::o141 P::o142 P::o143 P::r
noncomputable def c270 (P:Params) (r:List Obj):List Obj:=o1 P::o5 P::o144 P::o1 P::o145 P::o146 P::o147 P::o1 P::o5 P::o148 P::o149 P::o150 P::o1 P::o5 P::o151 P::o1 P::r
noncomputable def c271 (P:Params) (r:List Obj):List Obj:=o152 P::o153 P::o154 P::o1 P::o5 P::o155 P::o1 P::o156 P::o157 P::o158 P::o1 P::o5 P::o159 P::o1 P::o160 P::o161 P::r
noncomputable def c272 (P:Params) (r:List Obj):List Obj:=o162 P::o1 P::o5 P::o163 P::o1 P::o164 P::o165 P::o166 P::o1 P::o5 P::o167 P::o1 P::o168 P::o169 P::o170 P::o1 P::r
noncomputable def c273 (P:Params) (r:List Obj):List Obj:=o5 P::o171 P::o1 P::o172 P::o173 P::o174 P::o1 P::o5 P::o175 P::o1 P::o176 P::o177 P::o178 P::o1 P::o5 P::o179 P::r
noncomputable def c274 (P:Params) (r:List Obj):List Obj:=o1 P::o180 P::o181 P::o182 P::o1 P::o5 P::o183 P::o184 P::o185 P::o1 P::o5 P::o186 P::o187 P::o188 P::o1 P::o5 P::r
noncomputable def c275 (P:Params) (r:List Obj):List Obj:=o189 P::o1 P::o190 P::o191 P::o192 P::o1 P::o39 P::o245 P::o1 P::o246 P::o195 P::o196 P::o1 P::o5 P::o197 P::o1 P::r
noncomputable def c276 (P:Params) (r:List Obj):List Obj:=o198 P::o199 P::o200 P::o1 P::o5 P::o201 P::o1 P::o202 P::o203 P::o204 P::o1 P::o5 P::o205 P::o1 P::o206 P::o207 P::r
noncomputable def c277 (P:Params) (r:List Obj):List Obj:=o208 P::o1 P::o5 P::o209 P::o1 P::o210 P::o211 P::o212 P::o1 P::o5 P::o213 P::o1 P::o214 P::o215 P::o216 P::o1 P::r
noncomputable def c278 (P:Params) (r:List Obj):List Obj:=o5 P::o217 P::o1 P::o218 P::o219 P::o220 P::o1 P::o5 P::o221 P::o1 P::o222 P::o223 P::o224 P::o1 P::o5 P::o225 P::r
noncomputable def c279 (P:Params) (r:List Obj):List Obj:=o1 P::o226 P::o227 P::o228 P::o1 P::o5 P::o229 P::o230 P::o231 P::o1 P::o5 P::o232 P::o1 P::o233 P::o234 P::o235 P::r
noncomputable def c280 (P:Params) (r:List Obj):List Obj:=o1 P::o5 P::o236 P::o1 P::o237 P::o238 P::o239 P::o1 P::o5 P::o247 P::o1 P::o248 P::o249 P::o250 P::o1 P::o5 P::r
noncomputable def c281 (P:Params) (r:List Obj):List Obj:=o251 P::o1 P::o252 P::o253 P::o254 P::o1 P::o5 P::o255 P::o1 P::o256 P::o257 P::o258 P::o1 P::o5 P::o259 P::o1 P::r
noncomputable def c282 (P:Params) (r:List Obj):List Obj:=o260 P::o261 P::o262 P::o263 P::o264 P::o265 P::o266 P::o267 P::o268 P::o269 P::o1 P::o5 P::o270 P::o1 P::o271 P::o272 P::r
noncomputable def c283 (P:Params) (r:List Obj):List Obj:=o273 P::o1 P::o5 P::o274 P::o275 P::o276 P::o1 P::o5 P::o277 P::o1 P::o278 P::o279 P::o280 P::o1 P::o5 P::o281 P::r
noncomputable def c284 (P:Params) (r:List Obj):List Obj:=o282 P::o283 P::o1 P::o5 P::o284 P::o1 P::o285 P::o286 P::o287 P::o1 P::o5 P::o288 P::o1 P::o289 P::o290 P::o291 P::r
noncomputable def c285 (P:Params) (r:List Obj):List Obj:=o1 P::o5 P::o292 P::o1 P::o293 P::o294 P::o295 P::o1 P::o5 P::o296 P::o1 P::o297 P::o298 P::o299 P::o1 P::o5 P::r
noncomputable def c286 (P:Params) (r:List Obj):List Obj:=o300 P::o1 P::o301 P::o302 P::o303 P::o1 P::o5 P::o304 P::o305 P::o306 P::o1 P::o5 P::o307 P::o1 P::o308 P::o309 P::r
noncomputable def c287 (P:Params) (r:List Obj):List Obj:=o310 P::o1 P::o5 P::o311 P::o1 P::o312 P::o313 P::o314 P::o1 P::o5 P::o315 P::o1 P::o316 P::o317 P::o318 P::o1 P::r
noncomputable def c288 (P:Params) (r:List Obj):List Obj:=o5 P::o319 P::o1 P::o320 P::o321 P::o322 P::o1 P::o5 P::o323 P::o324 P::o325 P::r
noncomputable def X_heap_676:Params→Heap:=fun P=>⟨⟨(c256 P (c257 P (c258 P (c259 P (c260 P (c261 P (c262 P (c263 P (c264 P (c265 P (c266 P (c267 P (c268 P (c269 P (c270 P (c271 P (c272 P (c273 P (c274 P (c275 P (c276 P (c277 P (c278 P (c279 P (c280 P (c281 P (c282 P (c283 P (c284 P (c285 P (c286 P (c287 P (c288 P [])))))))))))))))))))))))))))))))))⟩,⟨[],[],[],0,[],[],.false,#[],[],0,.false,.false,.false,0,[2000,10,10],.false,0,.true,[],[],0,.false⟩⟩
noncomputable def c289:B:=n o14 (n o33 (w o77) u) (n o54 (w o100) u)
noncomputable def c290:B:=n o23 (n o43 (w o88) u) (n o5 (w o110) u)
noncomputable def c291:B:=n o1 (n o38 (w o82) u) (n o48 (w o1) u)
noncomputable def c292:B:=n o28 (n o1 (w o1) u) (w o72)
noncomputable def c293:B:=n o17 (n o1 (w o79) u) (n o58 (w o1) u)
noncomputable def c294:B:=n o5 (n o47 (w o91) u) (w o68)
noncomputable def c295:B:=n o1 (n o5 (w o86) u) (n o63 (w o106) u)
noncomputable def c296:B:=n o30 (n o1 (w o96) u) (w o39)
noncomputable def c297:B:=n o15 (n o5 (w o1) u) (n o56 (w o39) u)
noncomputable def c298:B:=n o25 (n o45 (w o89) u) (n o1 (w o112) u)
noncomputable def c299:B:=n o20 (n o40 (w o84) u) (n o62 (w o105) u)
noncomputable def c300:B:=n o1 (n o51 (w o94) u) (w o74)
noncomputable def c301:B:=n o5 (n o36 (w o80) u) (n o60 (w o103) u)
noncomputable def c302:B:=n o1 (n o39 (w o5) u) (w o70)
noncomputable def c303:B:=n o22 (n o42 (w o48) u) (n o65 (w o108) u)
noncomputable def c304:B:=n o31 (n o53 (w o98) u) (w o1)
noncomputable def c305:B:=n o1 (n o1 (w o78) u) (n o55 (w o48) u)
noncomputable def c306:B:=n o24 (n o337 (w o1) u) (n o66 (w o111) u)
noncomputable def c307:B:=n o19 (n o39 (w o83) u) (n o39 (w o5) u)
noncomputable def c308:B:=n o29 (n o50 (w o93) u) (w o73)
noncomputable def c309:B:=n o1 (n o35 (w o1) u) (n o59 (w o102) u)
noncomputable def c310:B:=n o26 (n o48 (w o1) u) (w o69)
noncomputable def c311:B:=n o5 (n o41 (w o87) u) (n o64 (w o107) u)
noncomputable def c312:B:=n o1 (n o5 (w o97) u) (w o75)
noncomputable def c313:B:=n o16 (n o34 (w o5) u) (n o57 (w o101) u)
noncomputable def c314:B:=n o1 (n o46 (w o90) u) (n o67 (w o113) u)
noncomputable def c315:B:=n o21 (n o1 (w o85) u) (n o1 (w o1) u)
noncomputable def c316:B:=n o5 (n o52 (w o95) u) (w o48)
noncomputable def c317:B:=n o18 (n o37 (w o81) u) (n o61 (w o104) u)
noncomputable def c318:B:=n o27 (n o49 (w o92) u) (w o71)
noncomputable def c319:B:=n o1 (n o1 (w o39) u) (n o1 (w o109) u)
noncomputable def c320:B:=n o32 (n o1 (w o99) u) (w o76)
noncomputable def X_tree_231:Params→BT:=(n boot_o_0 (n boot_o_1 (n o335 (n boot_o_7 (n o1 c289 c290) (n o5 c291 c292)) (n o1 (n o7 c293 c294) (n o12 c295 c296))) (n boot_o_5 (n boot_o_9 (n o6 c297 c298) (n o1 c299 c300)) (n o3 (n o9 c301 c302) (n o1 c303 c304)))) (n boot_o_2 (n boot_o_4 (n boot_o_8 (n o5 c305 c306) (n o10 c307 c308)) (n o336 (n o8 c309 c310) (n o13 c311 c312))) (n boot_o_6 (n boot_o_10 (n o1 c313 c314) (n o11 c315 c316)) (n o4 (n o1 c317 c318) (n o5 c319 c320)))))
noncomputable def c321:B:=n o14 (n o33 (w o77) (w o120)) (n o54 (w o100) u)
noncomputable def c322:B:=n o28 (n o1 (w o1) u) (n o72 (w o115) u)
noncomputable def c323:B:=n o17 (n o1 (w o79) (w o124)) (n o58 (w o1) u)
noncomputable def c324:B:=n o5 (n o47 (w o91) u) (n o68 (w o48) u)
noncomputable def c325:B:=n o30 (n o1 (w o96) u) (n o39 (w o5) u)
noncomputable def c326:B:=n o15 (n o5 (w o1) (w o122)) (n o56 (w o39) u)
noncomputable def c327:B:=n o1 (n o51 (w o94) u) (n o74 (w o117) u)
noncomputable def c328:B:=n o5 (n o36 (w o80) (w o126)) (n o60 (w o103) u)
noncomputable def c329:B:=n o1 (n o39 (w o5) u) (n o70 (w o114) u)
noncomputable def c330:B:=n o31 (n o53 (w o98) u) (n o1 (w o1) u)
noncomputable def c331:B:=n o1 (n o1 (w o78) (w o121)) (n o55 (w o48) u)
noncomputable def c332:B:=n o24 (n o340 (w o1) u) (n o66 (w o111) u)
noncomputable def c333:B:=n o29 (n o50 (w o93) u) (n o73 (w o116) u)
noncomputable def c334:B:=n o1 (n o35 (w o1) (w o125)) (n o59 (w o102) u)
noncomputable def c335:B:=n o26 (n o48 (w o1) u) (n o69 (w o39) u)
noncomputable def c336:B:=n o1 (n o5 (w o97) u) (n o75 (w o118) u)
noncomputable def c337:B:=n o16 (n o34 (w o5) (w o123)) (n o57 (w o101) u)
noncomputable def c338:B:=n o5 (n o52 (w o95) u) (n o48 (w o1) u)
noncomputable def c339:B:=n o27 (n o49 (w o92) u) (n o71 (w o1) u)
noncomputable def c340:B:=n o32 (n o1 (w o99) u) (n o76 (w o119) u)
noncomputable def X_tree_253:Params→BT:=(n boot_o_0 (n boot_o_1 (n o338 (n boot_o_7 (n o1 c321 c290) (n o5 c291 c322)) (n o1 (n o7 c323 c324) (n o12 c295 c325))) (n boot_o_5 (n boot_o_9 (n o6 c326 c298) (n o1 c299 c327)) (n o3 (n o9 c328 c329) (n o1 c303 c330)))) (n boot_o_2 (n boot_o_4 (n boot_o_8 (n o5 c331 c332) (n o10 c307 c333)) (n o339 (n o8 c334 c335) (n o13 c311 c336))) (n boot_o_6 (n boot_o_10 (n o1 c337 c314) (n o11 c315 c338)) (n o4 (n o1 c317 c339) (n o5 c319 c340)))))
noncomputable def X_tree_143:Params→BT:=(n boot_o_0 (n boot_o_1 (n o341 (n boot_o_7 (n o1 (n o14 (w o33) (w o54)) (n o23 (w o43) u)) (n o5 (n o1 (w o38) u) (n o28 (w o1) u))) (n o1 (n o7 (n o17 (w o1) (w o58)) (n o5 (w o47) u)) (n o12 (n o1 (w o5) u) (n o30 (w o1) u)))) (n boot_o_5 (n boot_o_9 (n o6 (n o15 (w o5) (w o56)) (n o25 (w o45) u)) (n o1 (n o20 (w o40) u) (n o1 (w o51) u))) (n o3 (n o9 (n o5 (w o36) (w o60)) (n o1 (w o39) u)) (n o1 (n o22 (w o42) u) (n o31 (w o53) u))))) (n boot_o_2 (n boot_o_4 (n boot_o_8 (n o5 (n o1 (w o1) (w o55)) (n o24 (w o343) u)) (n o10 (n o19 (w o39) u) (n o29 (w o50) u))) (n o342 (n o8 (n o1 (w o35) (w o59)) (n o26 (w o48) u)) (n o13 (n o5 (w o41) u) (n o1 (w o5) u)))) (n boot_o_6 (n boot_o_10 (n o1 (n o16 (w o34) (w o57)) (n o1 (w o46) u)) (n o11 (n o21 (w o1) u) (n o5 (w o52) u))) (n o4 (n o1 (n o18 (w o37) (w o61)) (n o27 (w o49) u)) (n o5 (n o1 (w o1) u) (n o32 (w o1) u))))))
noncomputable def X_sts_575:List Stmt:=[f 42,f 43,f 44,f 45,f 46,f 47,f 48,f 49,f 50,f 51,f 52,f 53,f 54,f 55]
noncomputable def c341:B:=n o23 (n o43 (w o88) u) (w o5)
noncomputable def c342:B:=n o25 (n o45 (w o89) u) (w o1)
noncomputable def c343:B:=n o22 (n o42 (w o48) u) (w o65)
noncomputable def c344:B:=n o24 (n o346 (w o1) u) (w o66)
noncomputable def c345:B:=n o1 (n o46 (w o90) u) (w o67)
noncomputable def c346:B:=n o1 (n o1 (w o39) u) (w o1)
noncomputable def X_tree_209:Params→BT:=(n boot_o_0 (n boot_o_1 (n o344 (n boot_o_7 (n o1 c289 c341) (n o5 c128 c292)) (n o1 (n o7 c129 c294) (n o12 c130 c296))) (n boot_o_5 (n boot_o_9 (n o6 c131 c342) (n o1 c132 c300)) (n o3 (n o9 c133 c302) (n o1 c343 c304)))) (n boot_o_2 (n boot_o_4 (n boot_o_8 (n o5 c134 c344) (n o10 c135 c308)) (n o345 (n o8 c136 c310) (n o13 c137 c312))) (n boot_o_6 (n boot_o_10 (n o1 c138 c345) (n o11 c139 c316)) (n o4 (n o1 c140 c318) (n o5 c346 c320)))))
theorem z:(qP X_view_39 && qB X_tree_571 && qB X_tree_165 && qB X_tree_675 && qB X_tree_187 && qS X_sts_370 && qB X_tree_301 && qB X_tree_369 && qS X_sts_655 && qS X_sts_302 && qB X_tree_654 && qB X_tree_488 && qH X_heap_676 && qB X_tree_231 && qB X_tree_253 && qB X_tree_143 && qS X_sts_575 && qB X_tree_209)=true:=by k_qdec
end HD
noncomputable def PySem.W.Fast.tw2922623716551708690:PySem.Program:=PySem.W.Fast.tw18025189030367128546
theorem PySem.W.Fast.te2922623716551708690:HD.X_view_39=PySem.W.Fast.tw2922623716551708690:=PySem.W.Fast.te18025189030367128546
noncomputable def PySem.W.Fast.tw15860876934274923943:PySem.Params→PySem.W.BT:=PySem.W.Fast.tw12408114632259791442
theorem PySem.W.Fast.te15860876934274923943:HD.X_tree_571=PySem.W.Fast.tw15860876934274923943:=PySem.W.Fast.te12408114632259791442
noncomputable def PySem.W.Fast.tw5887100330869869001:PySem.Params→PySem.W.BT:=PySem.W.Fast.tw14495835945199509939
theorem PySem.W.Fast.te5887100330869869001:HD.X_tree_165=PySem.W.Fast.tw5887100330869869001:=PySem.W.Fast.te14495835945199509939
noncomputable def PySem.W.Fast.tw12188258647101620008:PySem.Params→PySem.W.BT:=PySem.W.Fast.tw11773350118579636251
theorem PySem.W.Fast.te12188258647101620008:HD.X_tree_675=PySem.W.Fast.tw12188258647101620008:=PySem.W.Fast.te11773350118579636251
noncomputable def PySem.W.Fast.tw14839186873971996803:PySem.Params→PySem.W.BT:=PySem.W.Fast.tw12678799590433697976
theorem PySem.W.Fast.te14839186873971996803:HD.X_tree_187=PySem.W.Fast.tw14839186873971996803:=PySem.W.Fast.te12678799590433697976
noncomputable def PySem.W.Fast.tw9056879115869240121:List PySem.Stmt:=PySem.W.Fast.tw7229063955344640436
theorem PySem.W.Fast.te9056879115869240121:HD.X_sts_370=PySem.W.Fast.tw9056879115869240121:=PySem.W.Fast.te7229063955344640436
noncomputable def PySem.W.Fast.tw15634404158982001303:Nat:=0
theorem PySem.W.Fast.te15634404158982001303:True:=trivial
noncomputable def PySem.W.Fast.tw16669053138677588554:PySem.Params→PySem.W.BT:=PySem.W.Fast.tw7071371580609668987
theorem PySem.W.Fast.te16669053138677588554:HD.X_tree_301=PySem.W.Fast.tw16669053138677588554:=PySem.W.Fast.te7071371580609668987
noncomputable def PySem.W.Fast.tw4181084289894989491:PySem.Params→PySem.W.BT:=PySem.W.Fast.tw13720201014573980256
theorem PySem.W.Fast.te4181084289894989491:HD.X_tree_369=PySem.W.Fast.tw4181084289894989491:=PySem.W.Fast.te13720201014573980256
noncomputable def PySem.W.Fast.tw5910139433673810993:List PySem.Stmt:=PySem.W.Fast.tw1839914676808663010
theorem PySem.W.Fast.te5910139433673810993:HD.X_sts_655=PySem.W.Fast.tw5910139433673810993:=PySem.W.Fast.te1839914676808663010
noncomputable def PySem.W.Fast.tw18212292029572495911:List PySem.Stmt:=PySem.W.Fast.tw2903542560380788367
theorem PySem.W.Fast.te18212292029572495911:HD.X_sts_302=PySem.W.Fast.tw18212292029572495911:=PySem.W.Fast.te2903542560380788367
noncomputable def PySem.W.Fast.tw12331813862787078886:PySem.Params→PySem.W.BT:=PySem.W.Fast.tw16216399219657679401
theorem PySem.W.Fast.te12331813862787078886:HD.X_tree_654=PySem.W.Fast.tw12331813862787078886:=PySem.W.Fast.te16216399219657679401
noncomputable def PySem.W.Fast.tw1248882973988581254:PySem.Params→PySem.W.BT:=PySem.W.Fast.tw9659878747999197183
theorem PySem.W.Fast.te1248882973988581254:HD.X_tree_488=PySem.W.Fast.tw1248882973988581254:=PySem.W.Fast.te9659878747999197183
noncomputable def PySem.W.Fast.tw11835658576774300554:PySem.Params→PySem.Heap:=PySem.W.Fast.tw15740940902119539888
theorem PySem.W.Fast.te11835658576774300554:HD.X_heap_676=PySem.W.Fast.tw11835658576774300554:=PySem.W.Fast.te15740940902119539888
noncomputable def PySem.W.Fast.tw15770129972985476260:PySem.Params→PySem.W.BT:=PySem.W.Fast.tw13142184515464231052
theorem PySem.W.Fast.te15770129972985476260:HD.X_tree_231=PySem.W.Fast.tw15770129972985476260:=PySem.W.Fast.te13142184515464231052
noncomputable def PySem.W.Fast.tw8294833722133330421:PySem.Params→PySem.W.BT:=PySem.W.Fast.tw9020229356336831515
theorem PySem.W.Fast.te8294833722133330421:HD.X_tree_253=PySem.W.Fast.tw8294833722133330421:=PySem.W.Fast.te9020229356336831515
noncomputable def PySem.W.Fast.tw3669388805662403389:PySem.Params→PySem.W.BT:=PySem.W.Fast.tw16042499444001859677
theorem PySem.W.Fast.te3669388805662403389:HD.X_tree_143=PySem.W.Fast.tw3669388805662403389:=PySem.W.Fast.te16042499444001859677
noncomputable def PySem.W.Fast.tw2812974075140641906:List PySem.Stmt:=PySem.W.Fast.tw5377198752696546290
theorem PySem.W.Fast.te2812974075140641906:HD.X_sts_575=PySem.W.Fast.tw2812974075140641906:=PySem.W.Fast.te5377198752696546290
noncomputable def PySem.W.Fast.tw2939338681018651204:PySem.Params→PySem.W.BT:=PySem.W.Fast.tw6341297935216704407
theorem PySem.W.Fast.te2939338681018651204:HD.X_tree_209=PySem.W.Fast.tw2939338681018651204:=PySem.W.Fast.te6341297935216704407
open PySem PySem.W PyProof.Rows
set_option maxRecDepth 100000 in
set_option maxHeartbeats 0 in
theorem PySem.Challenge.cw_tailrooms_k77_marks_refused_holds : PySem.Challenge.rw_tailrooms_k77_marks_refused.Holds := by
  w_on; o_law; k_head; (case hw=>w_witness2)
  k_fill
  refine' Law.walk (l:=PySem.Challenge.rw_tailrooms_k77_marks_refused) rfl rfl (fun w h Y=>PySem.W.km_in_of Y) _ (fun w h Y=>PySem.W.km_tabs_of Y _ (.head _)) ?tb ?tc ?kp ?F
  case tb=>intro w; kernel_rfl
  case tc=>intro w; kernel_rfl
  case kp=>intro w; kernel_rfl
  case F =>
    intro w mg fa h KX G hmg
    refine' Law.all_mk KX G hmg ?aC ?pg ?hd ?po ?sa ?mk ?kc ?n_wide ?n_fill ?n_held ?ga0 ?ga1 ?ga2 ?ga3 ?ga4 ?ga5 ?ga6 ?ga7 ?ga8 ?ga9 ?ga10 ?ga11 ?ga12 ?ga13 ?ga14 ?ga15 ?ga16 ?ga17 ?ga18 ?ga19 ?ga20 ?ga21 ?ga22 ?ga23 ?ga24 ?ga25 ?a26 ?l26 ?c26 ?k26 ?ga27 ?ga28 ?ga29 ?ga30 ?ga31 ?ga32 ?ga33 ?ga34 ?ga35 ?ga36 ?ga37 ?ga38 ?a39 ?l39 ?c39 ?k39 ?gT ?gx_NoMark ?gn_Lacking ?gn_NoKey ?gn_NoRoom ?gn_NoSize ?kt_no ?kt_ve ?z_range ?z_isinstance ?z_int ?z_bool ?z_str ?z_all ?z_len ?z_sorted ?z_max ?z_list ?z_abs ?z_min ?z_ValueError ?z_KEY_BITS ?z_END ?z_MOST_KEYS ?tL_between ?hL_between
    (case tL_between=>kernel_rfl)
    (case hL_between=>kernel_rfl)
    (case aC=>walk_at"lk")
    (case pg=>walk_at"lk")
    (case hd=>walk_at"lk")
    (case po=>walk_at"lk")
    (case sa=>walk_at"lk")
    (case mk=>walk_at"lk")
    (case kc=>walk_at"lk")
    (case n_wide=>walk_at"lk")
    (case n_fill=>walk_at"lk")
    (case n_held=>walk_at"lk")
    (case ga0=>walk_at"lk")
    (case ga1=>walk_at"lk")
    (case ga2=>walk_at"lk")
    (case ga3=>walk_at"lk")
    (case ga4=>walk_at"lk")
    (case ga5=>walk_at"lk")
    (case ga6=>walk_at"lk")
    (case ga7=>walk_at"lk")
    (case ga8=>walk_at"lk")
    (case ga9=>walk_at"lk")
    (case ga10=>walk_at"lk")
    (case ga11=>walk_at"lk")
    (case ga12=>walk_at"lk")
    (case ga13=>walk_at"lk")
    (case ga14=>walk_at"lk")
    (case ga15=>walk_at"lk")
    (case ga16=>walk_at"lk")
    (case ga17=>walk_at"lk")
    (case ga18=>walk_at"lk")
    (case ga19=>walk_at"lk")
    (case ga20=>walk_at"lk")
    (case ga21=>walk_at"lk")
    (case ga22=>walk_at"lk")
    (case ga23=>walk_at"lk")
    (case ga24=>walk_at"lk")
    (case ga25=>walk_at"lk")
    (case a26=>walk_at"lk")
    (case l26=>walk_at"lk")
    (case c26=>walk_at"lk")
    (case k26=>walk_at"lk")
    (case ga27=>walk_at"lk")
    (case ga28=>walk_at"lk")
    (case ga29=>walk_at"lk")
    (case ga30=>walk_at"lk")
    (case ga31=>walk_at"lk")
    (case ga32=>walk_at"lk")
    (case ga33=>walk_at"lk")
    (case ga34=>walk_at"lk")
    (case ga35=>walk_at"lk")
    (case ga36=>walk_at"lk")
    (case ga37=>walk_at"lk")
    (case ga38=>walk_at"lk")
    (case a39=>walk_at"lk")
    (case l39=>walk_at"lk")
    (case c39=>walk_at"lk")
    (case k39=>walk_at"lk")
    (case gT=>(refine' L2.GaT.mk ?gTa ?gTl); (case gTa=>k_is); (case gTl=>k_is))
    (case gx_NoMark=>(refine' L2.GaX.mk' (st:=L2.inClass (Law.top 18) 0) (p1:=_) ?xaC ?xlC ?xlT ?xl1 ?xn1 ?xl2 ?xn2 ?xi0 ?xi1 ?xi2 ?xi3 ?xi4 ?xi5 ?xt0 ?xt1 ?xt2 ?xt3 ?xt4 ?xt5 ?xhm ?xlf ?xhcd L2.ve_mark rfl ⟨rfl,rfl,rfl,by decide +kernel,rfl,by decide +kernel,by decide +kernel⟩ (fun _=>rfl) (by decide +kernel) (by decide +kernel) (by decide +kernel) (by decide +kernel) (fun _ _ _ _ _ _ _ _ _ _ _ _=>.of_eq rfl)); (case xaC=>k_is); (case xlC=>k_is); (case xlT=>k_is); (case xl1=>k_is); (case xn1=>rfl); (case xl2=>k_is); (case xn2=>rfl); (case xi0=>k_is); (case xi1=>k_is); (case xi2=>k_is); (case xi3=>k_is); (case xi4=>k_is); (case xi5=>k_is); (case xt0=>k_is); (case xt1=>k_is); (case xt2=>k_is); (case xt3=>k_is); (case xt4=>k_is); (case xt5=>k_is); (case xhm=>k_is); (case xlf=>k_is); (case xhcd=>k_is))
    (case gn_Lacking=>k_is)
    (case gn_NoKey=>k_is)
    (case gn_NoRoom=>k_is)
    (case gn_NoSize=>k_is)
    (case kt_no=>first | k_is | kernel_rfl)
    (case kt_ve=>first | k_is | kernel_rfl)
    (case z_range=>walk_at"lk")
    (case z_isinstance=>walk_at"lk")
    (case z_int=>walk_at"lk")
    (case z_bool=>walk_at"lk")
    (case z_str=>walk_at"lk")
    (case z_all=>walk_at"lk")
    (case z_len=>walk_at"lk")
    (case z_sorted=>walk_at"lk")
    (case z_max=>walk_at"lk")
    (case z_list=>walk_at"lk")
    (case z_abs=>walk_at"lk")
    (case z_min=>walk_at"lk")
    (case z_ValueError=>walk_at"lk")
    (case z_KEY_BITS=>walk_at"lk")
    (case z_END=>walk_at"lk")
    (case z_MOST_KEYS=>walk_at"lk")
