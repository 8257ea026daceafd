import PyProof.Rows.All
import Wide.All
import OpenK.AllK
import Wide.FinOn
import PyProof.EqAt
import PyProof.EqKinds
import PyProof.TupleCall
import PyProof.ExcArgsOwn
import PyProof.ExcAttrAll.ValueError
import PyProof.ExcBaseAll.ValueError
import PyProof.ExcClass2
import PyProof.ExcInit
import PyProof.InstStore
import PyProof.InstStoreFacts
import PyProof.NsDelKeeps
import PyProof.NsMap
import PyProof.Rows.CatchOwn
import PyProof.StationsW
import PyProof.StrBlock2
import PyProof.StrBlockI
import PyProof.RangeIter
import PyProof.FactsCmp
import KE.KEqDict
import PySem.Challenge.RW_tailrooms_k18_refusals_apart
set_option Elab.async false
set_option linter.all false
set_option maxRecDepth 100000
local macro_rules | `(tactic| omega)=>`(tactic| first | lia | omega (config:={}))
namespace L2
open PySem PySem.Spec PyProof.Rows
abbrev Key:=Sum Int Str
def keyIs:Key→Value→Bool
 | .inl k,v=>Value.isInt k v
 | .inr x,v=>Value.isStrOf x v
def keyH (w:World):Key→Int
 | .inl k=>hashInt k
 | .inr x=>hashStr w x
theorem keyIs_shape:∀{k:Key}{v:Value},keyIs k v=true→(∃i t,k=Sum.inl i∧v=Value.int i t) ∨(∃x t,k=Sum.inr x∧v=Value.str x t)
 | .inl i,v,h=>by
  obtain⟨t,e⟩:=Value.isInt_shape (k:=i) (v:=v) h
  exact .inl ⟨i,t,rfl,e⟩
 | .inr x,v,h=>by
  obtain⟨t,e⟩:=Value.isStrOf_shape (x:=x) (v:=v) h
  exact .inr ⟨x,t,rfl,e⟩
theorem keyIs_int (i:Int) (t:Tok):keyIs (.inl i) (.int i t)=true:=by simp[keyIs,Value.isInt]
theorem keyIs_str (x:Str) (t:Tok):keyIs (.inr x) (.str x t)=true:=by simp[keyIs,Value.isStrOf]
theorem key_ll (a b:Int):decide ((Sum.inl a:Key)=Sum.inl b) =(a == b):=by
 by_cases e:a=b
 ·subst e;simp
 ·have h:¬(Sum.inl a:Key)=Sum.inl b:=fun q=>e (Sum.inl.inj q)
  rw[decide_eq_false h]
  exact(beq_eq_false_iff_ne.mpr e).symm
theorem key_rr (a b:Str):decide ((Sum.inr a:Key)=Sum.inr b)=decide (a=b):=by
 by_cases e:a=b
 ·subst e;simp
 ·have h:¬(Sum.inr a:Key)=Sum.inr b:=fun q=>e (Sum.inr.inj q)
  rw[decide_eq_false h,decide_eq_false e]
theorem key_lr (a:Int) (b:Str):decide ((Sum.inl a:Key)=Sum.inr b)=false:=decide_eq_false (fun q=>nomatch q)
theorem key_rl (a:Str) (b:Int):decide ((Sum.inr a:Key)=Sum.inl b)=false:=decide_eq_false (fun q=>nomatch q)
def mixKind (prog:Program) (w:World):PySem.KeyKind prog w Key where
 is:=keyIs
 hash:=keyH w
 inj:=fun v a b ha hb=>by
  rcases keyIs_shape ha with⟨i,t,rfl,rfl⟩|⟨x,t,rfl,rfl⟩
  ·rcases keyIs_shape hb with⟨j,u,rfl,e⟩|⟨y,u,rfl,e⟩
   ·injection e with e1 _;rw[e1]
   ·exact nomatch e
  ·rcases keyIs_shape hb with⟨j,u,rfl,e⟩|⟨y,u,rfl,e⟩
   ·exact nomatch e
   ·injection e with e1 _;rw[e1]
 byValue:=fun k v h=>by
  rcases keyIs_shape h with⟨i,t,rfl,rfl⟩|⟨x,t,rfl,rfl⟩ <;> rfl
 pyHash:=fun hv h=>by
  rcases keyIs_shape hv with⟨i,t,rfl,rfl⟩|⟨x,t,rfl,rfl⟩
  ·exact wpAny_pyHash_int h
  ·exact wpAny_pyHash_str h
 eqBool:=fun hu hv h=>by
  rcases keyIs_shape hu with⟨i,t,rfl,rfl⟩|⟨x,t,rfl,rfl⟩
  ·rcases keyIs_shape hv with⟨j,u,rfl,rfl⟩|⟨y,u,rfl,rfl⟩
   ·rw[key_ll]at h;exact wpAny_eqBool_int h
   ·rw[key_lr]at h;exact SeqAt.EqAt.int_str i t y u _ _ _ _ h
  ·rcases keyIs_shape hv with⟨j,u,rfl,rfl⟩|⟨y,u,rfl,rfl⟩
   ·rw[key_rl]at h;exact SeqAt.EqAt.str_int x t j u _ _ _ _ h
   ·rw[key_rr]at h;exact wpAny_eqBool_str h
 «strs»:=fun k x t v h=>by
  rcases keyIs_shape h with⟨i,u,rfl,e⟩|⟨y,u,rfl,e⟩
  ·exact nomatch e
  ·injection e with e1 _
   subst e1
   cases v <;> rfl
theorem mixKind_int (prog:Program) (w:World) (i:Int) (t:Tok):(mixKind prog w).is (.inl i) (.int i t)=true:=keyIs_int i t
theorem mixKind_str (prog:Program) (w:World) (x:Str) (t:Tok):(mixKind prog w).is (.inr x) (.str x t)=true:=keyIs_str x t
end L2
namespace L2
open PySem PySem.Spec PyProof.Rows
inductive V where
 | non|bl (b:Bool)|int (i:Int)|str (x:Str)|byt (b:Array UInt8)|flt (b:UInt64)|ref (a:Addr)|ty (n:String)
 deriving DecidableEq
def RelV:V→Value→Prop
 | .non,u=>u=Value.none
 | .bl b,u=>u=Value.bool b
 | .int i,u=>∃t,u=Value.int i t
 | .str x,u=>∃t,u=Value.str x t
 | .byt b,u=>∃t,u=Value.bytes b t
 | .flt b,u=>∃t,u=Value.float b t
 | .ref a,u=>u=Value.ref a
 | .ty n,u=>u=Value.type n
abbrev Vals:List V→List Value→Prop:=Paired RelV
theorem Vals.length {xs:List V}{us:List Value}(r:Vals xs us):xs.length=us.length:=Paired.length r
theorem Vals.get:∀{xs:List V}{us:List Value}{i:Nat}{x:V},Vals xs us→xs[i]? = some x→∃u,us[i]? = some u∧RelV x u
 | _,_,_,_,.nil,e=>by simp at e
 | _,_,0,_,.cons r _,e=>by simp at e;subst e;exact⟨_,rfl,r⟩
 | _,_,i+1,x,.cons _ t,e=>by
  obtain⟨u,h1,h2⟩:=Vals.get (i:=i) (x:=x) t (by simpa using e)
  exact⟨u,by simpa using h1,h2⟩
theorem Vals.set {x:V}{u:Value}(r:RelV x u):∀{xs:List V}{us:List Value}(i:Nat),Vals xs us→Vals (xs.set i x) (us.set i u)
 | _,_,_,.nil=>.nil
 | _,_,0,.cons _ t=>.cons r t
 | _,_,i+1,.cons q t=>.cons q (Vals.set r i t)
theorem Vals.append:∀{xs ys:List V}{us ws:List Value},Vals xs us→Vals ys ws→Vals (xs++ys) (us++ws)
 | _,_,_,_,.nil,s=>s
 | _,_,_,_,.cons r t,s=>.cons r (Vals.append t s)
theorem Vals.take:∀{xs:List V}{us:List Value}(n:Nat),Vals xs us→Vals (xs.take n) (us.take n)
 | _,_,0,_=>.nil
 | _,_,_+1,.nil=>.nil
 | _,_,n+1,.cons r t=>.cons r (Vals.take n t)
theorem Vals.drop:∀{xs:List V}{us:List Value}(n:Nat),Vals xs us→Vals (xs.drop n) (us.drop n)
 | _,_,0,r=>r
 | _,_,_+1,.nil=>.nil
 | _,_,n+1,.cons _ t=>Vals.drop n t
def RelO:Option V→Option Value→Prop
 | some v,some u=>RelV v u
 | none,none=>True
 | _,_=>False
def KV {κ:Type}:List (κ×V)→List (κ×Value)→Prop:=Paired fun(p:κ×V) (q:κ×Value)=>p.1=q.1∧RelV p.2 q.2
def kV:Key→V
 | .inl i=>.int i
 | .inr x=>.str x
inductive HO where
 | lst (xs:List V)
 | tup (xs:List V)
 | dK (kvs:List (Key×V))|dT (kvs:List (List Key×V))
 | set (S:Int→Bool) (n:Nat)
 | ins (C dx:Addr) (fs:List (Str×V))
 | own (x:Addr)
 | xd (fs:List (Str×V))
 | met (f x:Addr)
 | rng (lo hi:Int)
 | frz (o:Obj) (u:HO)
 | tbl (ps:Array Value)
 | ext (φ:Heap→Prop)
abbrev Hp:=Addr→Option HO
def upd (H:Hp) (a:Addr) (o:HO):Hp:=fun b=>if b=a then some o else H b
theorem upd_same {H:Hp}{a:Addr}{o:HO}:upd H a o a=some o:=by unfold upd;rw[if_pos rfl]
theorem upd_ne {H:Hp}{a b:Addr}{o:HO}(h:b≠a):upd H a o b=H b:=by unfold upd;rw[if_neg h]
theorem upd_upd {H:Hp}{a:Addr}{o u:HO}:upd (upd H a o) a u=upd H a u:=by
 funext b;unfold upd;split <;> rfl
theorem ne_of {H:Hp}{a b:Addr}{o u:HO}(h:H a=some o) (h':H b=some u) (d:o≠u):a≠b:=by
 intro e;subst e;rw[h]at h';exact d (Option.some.inj h')
theorem ne_of_none {H:Hp}{a b:Addr}{o:HO}(h:H a=some o) (h':H b=none):a≠b:=by
 intro e;subst e;rw[h]at h';cases h'
section
variable (P:Program) (w:World)
def ObjOk (H:Hp) (h:Heap) (a:Addr):HO→Prop
 | .lst xs=>xs.length≤sizeLine∧∃(its:List Value) (n:Nat),Vals xs its∧h.get? a=some { cls:=.type "list",data:=.seq its.toArray n }
 | .tup xs=>xs.length≤sizeLine∧∃its:List Value,Vals xs its∧IsTup h a its.toArray
 | .dK kvs=>kvs.length≤sizeLine∧(a == sysModules)=false∧∃vs,KV kvs vs∧h.DictOf (mixKind P w) a vs
 | .dT kvs=>kvs.length≤sizeLine∧(a == sysModules)=false∧∃xs:List (List Key×Addr×Value),
   Paired (fun(p:List Key×V) (q:List Key×Addr×Value)=>p.1=q.1∧H q.2.1=some (.tup (p.1.map kV))∧RelV p.2 q.2.2) kvs xs ∧
   ∃o es ep,h.get? a=some o∧o.ExactDict∧o.data = .dict es ep∧es.toList=xs.map (entryOfKey (tupleKind (mixKind P w)))∧(xs.map (·.1)).Nodup
 | .set S n=>h.SetOf (intKind P w) a S n
 | .ins C dx fs=>H dx=some (.own a)∧fs.length≤1000∧dx≠a∧h.get? a=some (PySem.W.instObj C dx) ∧
   ∃mA,h.Ns1 dx mA∧(∀f,RelO (fs.lookup f) (mA f))∧PySem.Within mA (fs.map (·.1))
 | .own _=>∃o,h.get? a=some o
 | .xd fs=>∃mA,h.Ns1 a mA∧∀f,RelO (fs.lookup f) (mA f)
 | .rng lo hi=>∃t u v,h.get? a=some { cls:=.type "range",data:=.fields #[.int lo t,.int hi u,.int 1 v] }
 | .frz o u=>h.get? a=some o∧ObjOk H h a u
 | .tbl ps=>h.get? a=some { cls:=.none,data:=.fields ps }
 | .met f x=>h.get? a=some (PySem.W.methodObj (.ref f) (.ref x))
 | .ext φ=>φ h∧(∃o,h.get? a=some o)∧∀h1 h2:Heap,φ h1→(∀o,h1.get? a=some o→h2.get? a=some o)→φ h2
def HOk (H:Hp) (h:Heap):Prop:=∀a o,H a=some o→ObjOk P w H h a o
end
section
variable {P:Program}{w:World}{H H':Hp}{h h':Heap}{a:Addr}{o:HO}
theorem ObjOk.lt (x:ObjOk P w H h a o):a<h.objs.size:=by
 cases o with
 | lst xs=>obtain⟨_,_,_,_,e⟩:=x;exact Heap.lt_size e
 | tup xs=>obtain⟨_,_,_,p⟩:=x;exact p.lt
 | dK kvs=>obtain⟨_,_,_,_,o,_,_,e,_⟩:=x;exact Heap.lt_size e
 | dT kvs=>obtain⟨_,_,_,_,o,_,_,e,_⟩:=x;exact Heap.lt_size e
 | set S n=>obtain⟨o,_,_,_,e,_⟩:=x;exact Heap.lt_size e
 | ins C dx fs=>obtain⟨_,_,_,e,_⟩:=x;exact Heap.lt_size e
 | own y=>obtain⟨_,e⟩:=x;exact Heap.lt_size e
 | xd fs=>obtain⟨_,⟨_,_,_,e,_⟩,_⟩:=x;exact Heap.lt_size e
 | rng lo hi=>obtain⟨_,_,_,e⟩:=x;exact Heap.lt_size e
 | frz ob u=>obtain⟨e,_⟩:=x;exact Heap.lt_size e
 | tbl ps=>exact Heap.lt_size (show h.get? a=some _ from x)
 | met f y=>exact Heap.lt_size (show h.get? a=some _ from x)
 | ext φ=>obtain⟨_,⟨_,e⟩,_⟩:=x;exact Heap.lt_size e
theorem Paired.mapP {α β:Type}{F G:α→β→Prop}:∀{l₁:List α}{l₂:List β},Paired F l₁ l₂→(∀a b,F a b→G a b)→Paired G l₁ l₂
 | _,_,.nil,_=>.nil
 | _,_,.cons r t,f=>.cons (f _ _ r) (Paired.mapP t f)
theorem ObjOk.stay (x:ObjOk P w H h a o) (k:∀b u,(b=a∨H b=some (.own a))→h.get? b=some u→h'.get? b=some u)
  (ho:∀b,H b=some (.own a)→H' b=some (.own a)) (ht:∀b xs,H b=some (.tup xs)→H' b=some (.tup xs)):ObjOk P w H' h' a o:=by
 induction o with
 | lst xs=>obtain⟨z,its,n,r,e⟩:=x;exact⟨z,its,n,r,k _ _ (.inl rfl) e⟩
 | tup xs=>obtain⟨z,its,r,ob,e,c⟩:=x;exact⟨z,its,r,ob,k _ _ (.inl rfl) e,c⟩
 | dK kvs=>obtain⟨z,y,vs,r,ob,es,ep,e,c⟩:=x;exact⟨z,y,vs,r,ob,es,ep,k _ _ (.inl rfl) e,c⟩
 | dT kvs =>
  obtain⟨z,y,xs,r,ob,es,ep,e,c⟩:=x
  exact⟨z,y,xs,Paired.mapP r fun p q z=>⟨z.1,ht _ _ z.2.1,z.2.2⟩,ob,es,ep,k _ _ (.inl rfl) e,c⟩
 | set S n=>obtain⟨ob,es,ep,t,e,c⟩:=x;exact⟨ob,es,ep,t,k _ _ (.inl rfl) e,c⟩
 | ins C dx fs =>
  obtain⟨d,z,ne,e,mA,⟨od,es,ep,e2,c⟩,r⟩:=x
  exact⟨ho _ d,z,ne,k _ _ (.inl rfl) e,mA,⟨od,es,ep,k _ _ (.inr d) e2,c⟩,r⟩
 | own y=>obtain⟨ob,e⟩:=x;exact⟨ob,k _ _ (.inl rfl) e⟩
 | xd fs=>obtain⟨mA,⟨od,es,ep,e,c⟩,r⟩:=x;exact⟨mA,⟨od,es,ep,k _ _ (.inl rfl) e,c⟩,r⟩
 | rng lo hi=>obtain⟨t,u,v,e⟩:=x;exact⟨t,u,v,k _ _ (.inl rfl) e⟩
 | frz ob u ih=>obtain⟨e,q⟩:=x;exact⟨k _ _ (.inl rfl) e,ih q⟩
 | tbl ps =>
  have e:h.get? a=some { cls:=.none,data:=.fields ps }:=x
  show h'.get? a=some { cls:=.none,data:=.fields ps }
  exact k a _ (.inl rfl) e
 | met f y =>
  have e:h.get? a=some (PySem.W.methodObj (.ref f) (.ref y)):=x
  show h'.get? a=some (PySem.W.methodObj (.ref f) (.ref y))
  exact k a _ (.inl rfl) e
 | ext φ=>obtain⟨p,⟨o,e⟩,st⟩:=x;exact⟨st _ _ p fun o q=>k _ _ (.inl rfl) q,⟨o,k _ _ (.inl rfl) e⟩,st⟩
theorem HOk.lt (x:HOk P w H h) (e:H a=some o):a<h.objs.size:=(x a o e).lt
theorem HOk.fresh (x:HOk P w H h) (e:h.objs.size≤a):H a=none:=by
 cases q:H a with
 | none=>rfl
 | some u=>exact absurd (Nat.lt_of_lt_of_le (x.lt q) e) (Nat.lt_irrefl _)
theorem HOk.kept (x:HOk P w H h) (k:∀b u,h.get? b=some u→h'.get? b=some u):HOk P w H h':=fun a o e =>
 (x a o e).stay (fun b u _ q=>k b u q) (fun _ q=>q) fun _ _ q=>q
theorem HOk.laid (x:HOk P w H h) (k:∀b u,h.get? b=some u→h'.get? b=some u) (hp:h.objs.size≤a) (new:ObjOk P w (upd H a o) h' a o):HOk P w (upd H a o) h':=fun b u e=>by
 have hn:=x.fresh hp
 by_cases hb:b=a
 ·subst hb;rw[upd_same]at e;cases e;exact new
 ·rw[upd_ne hb]at e
  exact(x b u e).stay (fun c v _ q=>k c v q) (fun c q=>by rw[upd_ne (ne_of_none q hn)];exact q) fun c xs q=>by rw[upd_ne (ne_of_none q hn)];exact q
end
def Rd (H:Hp) (a:Addr) (u:HO):Prop:=H a=some u ∨ ∃o,H a=some (.frz o u)
theorem Rd.ok {P:Program}{w:World}{H:Hp}{h:Heap}{a:Addr}{u:HO}(r:Rd H a u) (x:HOk P w H h):ObjOk P w H h a u:=by
 rcases r with r|⟨o,r⟩
 ·exact x a u r
 ·obtain⟨_,q⟩:=x a _ r
  exact q
def Mut:Option HO→Prop
 | some (.lst _)=>True
 | some (.dK _)=>True
 | some (.dT _)=>True
 | some (.set _ _)=>True
 | some (.ins _ _ _)=>True
 | some (.ext _)=>True
 | _=>False
section
variable {P:Program}{w:World}{H:Hp}{h h':Heap}{x e:Addr}{o':HO}
theorem HOk.write (ok:HOk P w H h) (mu:Mut (H x)) (he:e=x∨H e=some (.own x)) (k:∀b u,b≠e→h.get? b=some u→h'.get? b=some u) (heo:∃u,h'.get? e=some u)
  (new:ObjOk P w (upd H x o') h' x o'):HOk P w (upd H x o') h':=fun b u q=>by
 have nown:∀c y,H c=some (.own y)→c≠x:=fun c y r z=>by subst z;rw[r]at mu;exact mu
 have ntup:∀c xs,H c=some (.tup xs)→c≠x:=fun c xs r z=>by subst z;rw[r]at mu;exact mu
 by_cases hb:b=x
 ·subst hb;rw[upd_same]at q;cases q;exact new
 ·rw[upd_ne hb]at q
  by_cases hbe:b=e
  ·have q':H b=some (.own x):=by
    rcases he with z|z
    ·exact absurd (hbe.trans z) hb
    ·rw[hbe];exact z
   rw[q]at q';cases q'
   obtain⟨v,hv⟩:=heo
   exact⟨v,by rw[hbe];exact hv⟩
  ·refine(ok b u q).stay (fun c v hc r=>k c v ?_ r) (fun c r=>by rw[upd_ne (nown c b r)];exact r) fun c xs r=>by rw[upd_ne (ntup c xs r)];exact r
   rcases hc with rfl|hc
   ·exact hbe
   ·rintro rfl
    rcases he with z|z
    ·exact nown c b hc z
    ·rw[hc]at z;cases z;exact hb rfl
end
structure Un (fs ex:List Addr) (H H':Hp) (h h':Heap):Prop where
 keep:∀b o,h.get? b=some o→H b=none→b∉fs→b∉ex→h'.get? b=some o
 slot:∀b o,h.get? b=some o→H b=none→b∈fs→b∉ex→∃sl,h'.get? b=some { o with slots:=sl }
 free:∀b o,h.get? b=some o→H b=none→b∉ex→H' b=none
 there:∀b o,h.get? b=some o→b∉ex→∃o',h'.get? b=some o'
 tups:∀b xs,H b=some (.tup xs)→H' b=some (.tup xs)
 frzs:∀b o u,H b=some (.frz o u)→H' b=some (.frz o u)
 tbls:∀b ps,H b=some (.tbl ps)→∃more,H' b=some (.tbl (ps++more))
section
variable {fs fs' ex ex':List Addr}{H H1 H2:Hp}{h h1 h2 h':Heap}{a x e:Addr}{o:HO}
theorem Un.any (u:Un fs ex H H1 h h1) {b:Addr}{ob:Obj}(q:h.get? b=some ob) (n:H b=none) (hx:b∉ex):∃sl,h1.get? b=some { ob with slots:=sl }:=by
 by_cases hb:b∈fs
 ·exact u.slot b ob q n hb hx
 ·exact⟨ob.slots,u.keep b ob q n hb hx⟩
theorem Un.kept (k:∀b u,h.get? b=some u→h'.get? b=some u):Un fs ex H H h h' :=
 ⟨fun b ob q _ _ _=>k b ob q,fun b ob q _ _ _=>⟨ob.slots,k b ob q⟩,fun _ _ _ n _=>n,fun b ob q _=>⟨ob,k b ob q⟩,fun _ _ q=>q,fun _ _ _ q=>q,fun _ ps q=>⟨#[],by rw[q];simp⟩⟩
theorem Un.refl:Un fs ex H H h h:=Un.kept fun _ _ q=>q
theorem Un.laid (k:∀b u,h.get? b=some u→h'.get? b=some u) (hp:h.objs.size≤a) (hn:H a=none):Un fs ex H (upd H a o) h h' where
 keep:=fun b u q _ _ _=>k b u q
 slot:=fun b u q _ _ _=>⟨u.slots,k b u q⟩
 free:=fun b u q n _=>by rw[upd_ne (Nat.ne_of_lt (Nat.lt_of_lt_of_le (Heap.lt_size q) hp))];exact n
 there:=fun b u q _=>⟨u,k b u q⟩
 tups:=fun b xs q=>by rw[upd_ne (ne_of_none q hn)];exact q
 frzs:=fun b u xs q=>by rw[upd_ne (ne_of_none q hn)];exact q
 tbls:=fun b ps q=>⟨#[],by rw[upd_ne (ne_of_none q hn),q];simp⟩
theorem Un.write (mu:Mut (H x)) (he:e=x∨H e=some (.own x)) (k:∀b u,b≠e→h.get? b=some u→h'.get? b=some u) (heo:∃u,h'.get? e=some u):Un fs ex H (upd H x o) h h':=by
 have hx:∀b,H b=none→b≠x:=fun b n z=>by subst z;rw[n]at mu;exact mu
 have hb:∀b,H b=none→b≠e:=fun b n z=>by
  subst z
  rcases he with r|r
  ·exact hx b n r
  ·rw[n]at r;cases r
 have hm:∀b u,H b=some u→¬ Mut (some u)→b≠x:=fun b u q nm z=>by subst z;rw[q]at mu;exact nm mu
 refine⟨fun b u q n _ _=>k b u (hb b n) q,fun b u q n _ _=>⟨u.slots,k b u (hb b n) q⟩,fun b u q n _=>by rw[upd_ne (hx b n)];exact n,fun b u q _=>?_,
  fun b xs q=>by rw[upd_ne (hm b _ q fun z=>z)];exact q,fun b u xs q=>by rw[upd_ne (hm b _ q fun z=>z)];exact q,fun b ps q=>⟨#[],by rw[upd_ne (hm b _ q fun z=>z),q];simp⟩⟩
 by_cases hbe:b=e
 ·subst hbe;exact heo
 ·exact⟨u,k b u hbe q⟩
end
def trk (h:Heap) (H:Hp):List Addr:=(List.range h.objs.size).filter fun a=>(H a).isSome
def hidT (h:Heap) (H:Hp):Heap:=PySem.W.hideAll h (trk h H)
theorem hidT_size (h:Heap) (H:Hp):(hidT h H).objs.size=h.objs.size:=PySem.W.hideAll_size _ _
theorem hidT_get {h:Heap}{H:Hp}{b:Addr}{o:Obj}(e:h.get? b=some o) (n:H b=none):(hidT h H).get? b=some o :=
 PySem.W.hideAll_get _ e fun hm=>by
  have q:(H b).isSome=true:=(List.mem_filter.mp hm).2
  rw[n]at q;simp at q
theorem of_hidT {h:Heap}{H:Hp}{b:Addr}{o:Obj}(e:(hidT h H).get? b=some o):h.get? b=some o∧H b=none:=by
 have e':h.get? b=some o:=PySem.W.of_hideAll (trk h H) e
 refine⟨e',?_⟩
 cases q:H b with
 | none=>rfl
 | some x =>
  have hm:b∈trk h H:=List.mem_filter.mpr ⟨List.mem_range.mpr (Heap.lt_size e'),by simp[q]⟩
  have z:(hidT h H).get? b=none:=PySem.W.hideAll_none (trk h H) hm
  rw[z]at e;cases e
def allNews (g h:Heap) (L:Addr):List (Addr×Obj):=(List.range h.objs.size).filterMap fun a=>if a=L ∨(g.get? a).isSome=true then none else(h.get? a).map fun o=>(a,o)
def rest (g h:Heap) (L d:Addr):List (Addr×Obj):=(allNews g h L).filter fun p=>decide (p.1≠d)
end L2
namespace L2
open PySem PySem.Spec PyProof.Rows
structure Mod (K:PySem.W.Frag) (mg:Str→Option Value) (base:Heap):Prop where
 kin:K.In base
 glob:base.Ns mainGlobals mg
 blt:∃mb,base.Ns builtinsNs mb∧∀x:Str,x ≠ "__name__"→mb x=bootBuiltins x
 nolimit:base.NoLimit
structure Cx where
 prog:Program
 w:World
 K:PySem.W.Frag
 mg:Str→Option Value
 base:Heap
 A:Around
 N:List Str
 s₀:Shared
 H₀:Hp
 env:Env
 outer:List Env
 stack:List Env
 ex:List Addr
 fn:Str→Bool
 calm:Bool
 pn:List (Addr×Obj)
 xe:Value→Shared→Prop
def frs (l:List Env):List Addr:=l.filterMap (·.frame)
abbrev Cx.fs (X:Cx):List Addr:=frs X.outer
def Vis (sc:Scope) (x:Str):Prop:=sc.names.lookup x=some .local∨sc.names.lookup x=some .cell∨sc.names.lookup x=some .free
def Loc (sc:Scope) (x:Str):Prop:=sc.names.lookup x=some .local∨sc.names.lookup x=some .cell
def Look (env:Env) (h:Heap) (m:Str→Option Value) (x:Str) (u:Value):Prop :=
 (env.kindOf x=some .local∧m x=some u) ∨((env.kindOf x=some .cell∨env.kindOf x=some .free)∧∃c,env.cells.lookup x=some c∧h.IsCell c (some u))
structure Cx.Ok (X:Cx):Prop where
 mod:Mod X.K X.mg X.base
 kind:X.env.scope.kind = .function
 glob:X.env.globals=mainGlobals
 blt:X.env.builtins=builtinsNs
 above:X.s₀.heap.objs.size≤X.env.locals
 inj:∀x y c,X.env.cells.lookup x=some c→X.env.cells.lookup y=some c→x=y
 has:∀x,(X.env.kindOf x=some .cell∨X.env.kindOf x=some .free)→∃c,X.env.cells.lookup x=some c
 cab:∀x c,X.fn x=true→X.env.cells.lookup x=some c→X.s₀.heap.objs.size≤c
 hd:X.calm=true→X.A.handled=none
 frames:X.A.frames=some X.stack
 stk:X.stack=X.outer ∨(X.stack=X.env::X.outer∧X.env.frame=some X.env.locals)
 exf:∀b∈X.ex,b≠X.env.locals∧∀x c,X.env.cells.lookup x=some c→c≠b
 bs:∀b o,X.base.get? b=some o→X.s₀.heap.get? b=some o∧X.H₀ b=none
 bsz:X.base.objs.size≤X.s₀.heap.objs.size
 noex:∀b o,X.base.get? b=some o→b∉X.ex
 exfs:∀b∈X.ex,b∉X.fs
 funs:X.s₀.heap.FunFrames X.base X.outer
 frf:∀b∈X.fs,X.H₀ b=none
structure Inv (X:Cx) (pins:List (Addr×Obj)) (σ:List (Option V)) (H:Hp) (s:Shared):Prop where
 ok:X.Ok
 os:s.os=X.s₀.os
 bare:AllBare s.gens
 base:Un X.fs X.ex X.H₀ H X.s₀.heap s.heap
 loc:∃m,s.heap.Ns X.env.locals m∧∀(i:Nat) (x:Str) (v:V),X.N[i]? = some x→σ[i]? = some (some v)→Vis X.env.scope x→∃u,RelV v u∧Look X.env s.heap m x u
 cell:∀x c,X.env.cells.lookup x=some c→∃v,s.heap.IsCell c v
 free:H X.env.locals=none
 freeC:∀x c,X.env.cells.lookup x=some c→H c=none
 pin:∀p∈X.pn++pins,s.heap.get? p.1=some p.2∧H p.1=none∧p.1≠X.env.locals∧p.1∉X.fs∧∀v,p.2.data ≠ .cell v
 hok:HOk X.prog X.w H s.heap
 len:σ.length=X.N.length
section
variable {X:Cx}{pins:List (Addr×Obj)}{σ:List (Option V)}{H H':Hp}{s:Shared}{h':Heap}
theorem Cx.Ok.nofr (ok:X.Ok) {b:Addr}{o:Obj}(e:X.base.get? b=some o):b∉X.fs:=fun hb=>by
 have:=(ok.funs.mem hb).1
 rw[e]at this;cases this
theorem Inv.bs (I:Inv X pins σ H s):∀b o,X.base.get? b=some o→s.heap.get? b=some o∧H b=none:=fun b o e =>
 ⟨I.base.keep b o (I.ok.bs b o e).1 (I.ok.bs b o e).2 (I.ok.nofr e) (I.ok.noex b o e),I.base.free b o (I.ok.bs b o e).1 (I.ok.bs b o e).2 (I.ok.noex b o e)⟩
theorem Inv.bk (I:Inv X pins σ H s):∀b o,X.base.get? b=some o→s.heap.get? b=some o:=fun b o e=>(I.bs b o e).1
theorem Inv.mod (I:Inv X pins σ H s):Mod X.K X.mg X.base:=I.ok.mod
theorem Inv.kIn (I:Inv X pins σ H s):X.K.In s.heap:=I.ok.mod.kin.keeps I.bk
theorem Inv.lt (I:Inv X pins σ H s):X.env.locals<s.heap.objs.size:=let ⟨_,hn,_⟩:=I.loc;hn.lt
theorem Inv.sz (I:Inv X pins σ H s):X.s₀.heap.objs.size≤s.heap.objs.size:=Nat.le_trans I.ok.above (Nat.le_of_lt I.lt)
theorem Inv.nofs (I:Inv X pins σ H s) {a:Addr}(h:s.heap.objs.size≤a):a∉X.fs:=fun hb=>by
 obtain⟨_,o,ho,_⟩:=I.ok.funs.mem hb
 exact absurd (Nat.lt_of_lt_of_le (Heap.lt_size ho) (Nat.le_trans I.sz h)) (Nat.lt_irrefl _)
theorem Inv.cne (I:Inv X pins σ H s):∀x c,X.env.cells.lookup x=some c→c≠X.env.locals:=fun x c e z=>by
 obtain⟨v,o,ho,hd⟩:=I.cell x c e
 obtain⟨m,⟨o',es,ep,ho',hd',_⟩,_⟩:=I.loc
 rw[z,ho']at ho;cases ho;rw[hd']at hd;cases hd
theorem Inv.funs (I:Inv X pins σ H s):s.heap.FunFrames X.base X.outer:=by
 have all:∀(l:List Env),(∀b∈frs l,b∈X.fs)→X.s₀.heap.FunFrames X.base l→s.heap.FunFrames X.base l:=by
  intro l
  induction l with
  | nil=>intro _ _;trivial
  | cons env r ih =>
   intro hs hl
   obtain⟨hk,⟨L,o,hf,hn,ho,hd⟩,hr⟩:=hl
   have hL:L∈X.fs:=hs L (by unfold frs;rw[List.filterMap_cons,hf];exact List.mem_cons_self)
   obtain⟨sl,e⟩:=I.base.slot L o ho (I.ok.frf L hL) hL fun z=>I.ok.exfs L z hL
   exact⟨hk,⟨L,_,hf,hn,e,hd⟩,ih (fun b hb=>hs b (by unfold frs;rw[List.filterMap_cons,hf];exact List.mem_cons_of_mem _ hb)) hr⟩
 exact all X.outer (fun _ hb=>hb) I.ok.funs
theorem Inv.stack (I:Inv X pins σ H s):s.heap.FunFrames X.base X.stack:=by
 rcases I.ok.stk with e|⟨e,hf⟩
 ·rw[e];exact I.funs
 ·rw[e]
  obtain⟨m,hn,_⟩:=I.loc
  refine .cons (by rw[I.ok.kind];decide) hf hn ?_ I.funs
  exact Heap.get?_none_of_le (Nat.le_trans I.ok.bsz I.ok.above)
theorem Inv.stkSub (I:Inv X pins σ H s):∀b∈frs X.stack,b∈X.env.locals::X.fs:=fun b hb=>by
 rcases I.ok.stk with e|⟨e,hf⟩
 ·rw[e]at hb;exact List.mem_cons_of_mem _ hb
 ·rw[e]at hb
  unfold frs at hb
  rw[List.filterMap_cons,hf]at hb
  exact hb
theorem Inv.stkFree (I:Inv X pins σ H s):∀b∈frs X.stack,H b=none:=fun b hb=>by
 rcases List.mem_cons.mp (I.stkSub b hb) with e|hb
 ·rw[e];exact I.free
 ·obtain⟨_,o,ho,_⟩:=I.ok.funs.mem hb
  exact I.base.free b o ho (I.ok.frf b hb) fun z=>I.ok.exfs b z hb
theorem Inv.step {g':Array GenState}{t':Nat}{d':Drawn}{ch:List Addr}(I:Inv X pins σ H s)
  (hch:∀b∈ch,(b∈X.ex∨X.s₀.heap.objs.size≤b)∧b≠X.env.locals∧(∀x c,X.env.cells.lookup x=some c→c≠b)∧∀p∈X.pn++pins,p.1≠b)
  (keep:∀b o,b≠X.env.locals→b∉X.fs→b∉ch→s.heap.get? b=some o→H b=none→h'.get? b=some o)
  (slot:∀b o,b≠X.env.locals→b∈X.fs→b∉ch→s.heap.get? b=some o→H b=none→∃sl,h'.get? b=some { o with slots:=sl }) (free:∀b o,b∉ch→s.heap.get? b=some o→H b=none→H' b=none)
  (there:∀b o,b∉ch→s.heap.get? b=some o→∃o',h'.get? b=some o')
  (tups:∀b xs,H b=some (.tup xs)→H' b=some (.tup xs)) (frzs:∀b o u,H b=some (.frz o u)→H' b=some (.frz o u)) (tbls:∀b ps,H b=some (.tbl ps)→∃more,H' b=some (.tbl (ps++more)))
  (ns:∀m,s.heap.Ns X.env.locals m→h'.Ns X.env.locals m) (hok:HOk X.prog X.w H' h') (hg:AllBare g') :
  Inv X pins σ H' { s with heap:=h',gens:=g',drawn:=d',toks:=t' }:=by
 have neL:∀b o,X.s₀.heap.get? b=some o→b≠X.env.locals:=fun b o e=>Nat.ne_of_lt (Nat.lt_of_lt_of_le (Heap.lt_size e) I.ok.above)
 have neC:∀b o,X.s₀.heap.get? b=some o→b∉X.ex→b∉ch:=fun b o e hx hb=>by
  rcases(hch b hb).1 with z|z
  ·exact hx z
  ·exact absurd (Nat.lt_of_lt_of_le (Heap.lt_size e) z) (Nat.lt_irrefl _)
 have cellK:∀x c,X.env.cells.lookup x=some c→∀v,s.heap.IsCell c v→h'.IsCell c v:=fun x c e v ⟨o,ho,hd⟩=>by
  have nch:c∉ch:=fun z=>(hch c z).2.2.1 x c e rfl
  by_cases hc:c∈X.fs
  ·obtain⟨sl,q⟩:=slot c o (I.cne x c e) hc nch ho (I.freeC x c e)
   exact⟨_,q,hd⟩
  ·exact⟨o,keep c o (I.cne x c e) hc nch ho (I.freeC x c e),hd⟩
 refine⟨I.ok,I.os,hg,⟨fun b o e n hb hx=>?_,fun b o e n hb hx=>?_,fun b o e n hx=>?_,fun b o e hx=>?_,fun b xs e=>tups b xs (I.base.tups b xs e),fun b o xs e=>frzs b o xs (I.base.frzs b o xs e),fun b ps e=>?_⟩,?_,fun x c e=>?_,?_,fun x c e=>?_,fun p hp=>?_,hok,I.len⟩
 ·exact keep b o (neL b o e) hb (neC b o e hx) (I.base.keep b o e n hb hx) (I.base.free b o e n hx)
 ·obtain⟨sl,e1⟩:=I.base.slot b o e n hb hx
  obtain⟨sl',e2⟩:=slot b _ (neL b o e) hb (neC b o e hx) e1 (I.base.free b o e n hx)
  exact⟨sl',e2⟩
 ·obtain⟨o',e1⟩:=I.base.there b o e hx
  exact free b o' (neC b o e hx) e1 (I.base.free b o e n hx)
 ·obtain⟨o',e1⟩:=I.base.there b o e hx
  exact there b o' (neC b o e hx) e1
 ·obtain⟨m1,e1⟩:=I.base.tbls b ps e
  obtain⟨m2,e2⟩:=tbls b _ e1
  exact⟨m1++m2,by rw[e2,Array.append_assoc]⟩
 ·obtain⟨m,hn,hl⟩:=I.loc
  refine⟨m,ns m hn,fun i x v e1 e2 e3=>?_⟩
  obtain⟨u,r,l⟩:=hl i x v e1 e2 e3
  refine⟨u,r,?_⟩
  rcases l with l|⟨k,c,e,z⟩
  ·exact .inl l
  ·exact .inr ⟨k,c,e,cellK x c e _ z⟩
 ·obtain⟨v,z⟩:=I.cell x c e
  exact⟨v,cellK x c e v z⟩
 ·obtain⟨m,⟨o,_,_,ho,_⟩,_⟩:=I.loc
  exact free _ o (fun z=>(hch _ z).2.1 rfl) ho I.free
 ·obtain⟨v,o,ho,hd⟩:=I.cell x c e
  exact free c o (fun z=>(hch c z).2.2.1 x c e rfl) ho (I.freeC x c e)
 ·obtain⟨e,n,ne,nf,d⟩:=I.pin p hp
  have nch:p.1∉ch:=fun z=>(hch p.1 z).2.2.2 p hp rfl
  exact⟨keep p.1 p.2 ne nf nch e n,free p.1 p.2 nch e n,ne,nf,d⟩
theorem Inv.un {t':Nat}(I:Inv X pins σ H s) (u:Un X.fs [] H H' s.heap h') (hok:HOk X.prog X.w H' h'):Inv X pins σ H' { s with heap:=h',toks:=t' }:=by
 obtain⟨m,⟨o,es,ep,ho,r⟩,_⟩:=id I.loc
 obtain⟨sl,hL⟩:=u.any ho I.free (by simp)
 exact I.step (g':=s.gens) (d':=s.drawn) (ch:=[]) (fun _ z=>nomatch z) (fun b o _ hb _ e n=>u.keep b o e n hb (by simp)) (fun b o _ hb _ e n=>u.slot b o e n hb (by simp)) (fun b o _ e n=>u.free b o e n (by simp)) (fun b o _ e=>u.there b o e (by simp)) u.tups u.frzs u.tbls (fun m' hm=>by
  obtain⟨o',es',ep',ho',r'⟩:=hm
  rw[ho]at ho';cases ho'
  exact⟨_,es',ep',hL,r'⟩) hok I.bare
theorem Inv.call {g':Array GenState}{t':Nat}{d':Drawn}{ch:List Addr}(I:Inv X pins σ H s) (u:Un (frs X.stack) ch H H' s.heap h') (hok:HOk X.prog X.w H' h') (hg:AllBare g')
  (hch:∀b∈ch,(b∈X.ex∨X.s₀.heap.objs.size≤b)∧b≠X.env.locals∧(∀x c,X.env.cells.lookup x=some c→c≠b)∧∀p∈X.pn++pins,p.1≠b) :
  Inv X pins σ H' { s with heap:=h',gens:=g',drawn:=d',toks:=t' }:=by
 obtain⟨m,⟨o,es,ep,ho,r⟩,_⟩:=id I.loc
 obtain⟨sl,hL⟩:=u.any ho I.free fun z=>(hch _ z).2.1 rfl
 exact I.step (ch:=ch) hch (fun b o hL hb hc e n=>u.keep b o e n (fun z=>(List.mem_cons.mp (I.stkSub b z)).elim hL hb) hc) (fun b o _ _ hc e n=>u.any e n hc) (fun b o hc e n=>u.free b o e n hc) (fun b o hc e=>u.there b o e hc) u.tups u.frzs u.tbls (fun m' hm=>by
  obtain⟨o',es',ep',ho',r'⟩:=hm
  rw[ho]at ho';cases ho'
  exact⟨_,es',ep',hL,r'⟩) hok hg
theorem Inv.turned {t':Nat}{it:Addr}(I:Inv X pins σ H s) (k:∀b o,b≠it→s.heap.get? b=some o→h'.get? b=some o) (hn:H it=none) (hL:it≠X.env.locals)
  (h1:it∈X.ex∨X.s₀.heap.objs.size≤it) (h2:∀x c,X.env.cells.lookup x=some c→c≠it) (h3:∀p∈X.pn++pins,p.1≠it):Inv X pins σ H { s with heap:=h',toks:=t' }:=by
 have nit:∀b u,H b=some u→b≠it:=fun b u e z=>by rw[z,hn]at e;cases e
 refine I.step (g':=s.gens) (d':=s.drawn) (ch:=[it]) (fun b hb=>?_) (fun b o _ _ hc e _=>k b o (fun z=>hc (by simp[z])) e) (fun b o _ _ hc e _=>⟨o.slots,k b o (fun z=>hc (by simp[z])) e⟩) (fun _ _ _ _ n=>n)
  (fun b o hc e=>⟨o,k b o (fun z=>hc (by simp[z])) e⟩) (fun _ _ e=>e) (fun _ _ _ e=>e) (fun b ps e=>⟨#[],by rw[e];simp⟩) (fun m hm=>?_) (fun b u e=>?_) I.bare
 ·have e:b=it:=by simpa using hb
  subst e
  exact⟨h1,hL,h2,h3⟩
 ·obtain⟨o,es,ep,ho,r⟩:=hm
  exact⟨o,es,ep,k _ o (Ne.symm hL) ho,r⟩
 ·refine(I.hok b u e).stay (fun c v hc q=>k c v ?_ q) (fun _ q=>q) fun _ _ q=>q
  rcases hc with z|z
  ·rw[z];exact nit b u e
  ·exact nit c _ z
theorem Inv.tok (I:Inv X pins σ H s) (t:Nat):Inv X pins σ H { s with toks:=t }:=I.un (h':=s.heap) (t':=t) Un.refl I.hok
theorem Inv.kept {t':Nat}(I:Inv X pins σ H s) (k:∀b u,s.heap.get? b=some u→h'.get? b=some u):Inv X pins σ H { s with heap:=h',toks:=t' }:=I.un (Un.kept k) (I.hok.kept k)
theorem Inv.laid {a:Addr}{o:HO}{t':Nat}(I:Inv X pins σ H s) (k:∀b u,s.heap.get? b=some u→h'.get? b=some u) (hp:s.heap.objs.size≤a) (new:ObjOk X.prog X.w (upd H a o) h' a o) :
  Inv X pins σ (upd H a o) { s with heap:=h',toks:=t' }:=I.un (Un.laid k hp (I.hok.fresh hp)) (I.hok.laid k hp new)
theorem Inv.write {x e:Addr}{o:HO}{t':Nat}(I:Inv X pins σ H s) (mu:Mut (H x)) (he:e=x∨H e=some (.own x)) (k:∀b u,b≠e→s.heap.get? b=some u→h'.get? b=some u) (heo:∃u,h'.get? e=some u)
  (new:ObjOk X.prog X.w (upd H x o) h' x o):Inv X pins σ (upd H x o) { s with heap:=h',toks:=t' }:=I.un (Un.write mu he k heo) (I.hok.write mu he k heo new)
theorem Inv.pins_of {pins':List (Addr×Obj)}(I:Inv X pins σ H s) (h:∀p∈pins',s.heap.get? p.1=some p.2∧H p.1=none∧p.1≠X.env.locals∧p.1∉X.fs∧∀v,p.2.data ≠ .cell v):Inv X pins' σ H s :=
 ⟨I.ok,I.os,I.bare,I.base,I.loc,I.cell,I.free,I.freeC,fun p hp=>(List.mem_append.mp hp).elim (fun z=>I.pin p (List.mem_append_left _ z)) (h p),I.hok,I.len⟩
theorem nodup_ix {N:List Str}(hN:N.Nodup) {i j:Nat}{x:Str}(a:N[i]? = some x) (b:N[j]? = some x):i=j:=by
 obtain⟨h1,e1⟩:=List.getElem?_eq_some_iff.mp a
 obtain⟨h2,e2⟩:=List.getElem?_eq_some_iff.mp b
 exact(List.getElem_inj hN).mp (e1.trans e2.symm)
theorem store_ok2 {M:Model}{A:Around}{E:Value→Shared→Prop}{i:Nat}{x:Str}{v:V}{u:Value}{Q:Unit→Shared→Prop}(I:Inv X pins σ H s) (hN:X.N.Nodup) (hi:X.N[i]? = some x) (hx:Loc X.env.scope x) (r:RelV v u)
  (h:∀s',Inv X pins (σ.set i (some v)) H s'→(∃a,Heap.SameBut a s.heap s'.heap∧(a=X.env.locals∨X.env.cells.lookup x=some a))→Q () s') (hf:X.fn x=true∨X.env.scope.names.lookup x=some .local:=by first|exact .inl rfl|exact .inr rfl|assumption):wpAny M A (storeName X.env x u) Q E s:=by
 obtain⟨m,hn,hl⟩:=id I.loc
 have hcls:(X.env.scope.kind == .class || (X.env.scope.kind == .module && X.env.locals != X.env.globals))=false:=by rw[I.ok.kind];rfl
 have hiσ:i<σ.length:=by rw[I.len];exact(List.getElem?_eq_some_iff.mp hi).1
 have cne:=I.cne
 have tracked:∀{a:Addr}{h':Heap},(∃o,s.heap.get? a=some o∧H a=none)→Heap.SameBut a s.heap h'→HOk X.prog X.w H h':=fun {a h'} ha hs b ob e=>by
  obtain⟨_,_,hfree⟩:=ha
  refine(I.hok b ob e).stay (fun c w' hc q=>(hs.2 c ?_).trans q) (fun _ q=>q) fun _ _ q=>q
  rintro rfl
  rcases hc with rfl|hc
  ·rw[hfree]at e;cases e
  ·rw[hfree]at hc;cases hc
 rcases hx with hk|hk
 ·refine wpAny_storeName_local hk hn (fun h' hn' hs=>?_) hcls
  obtain⟨oL,_,_,hoL,_⟩:=id hn
  refine h _ ⟨I.ok,I.os,I.bare,⟨fun b o e n hb hx=>?_,fun b o e n hb hx=>?_,I.base.free,fun b o e hx=>?_,I.base.tups,I.base.frzs,I.base.tbls⟩,⟨_,hn',fun j y v' e1 e2 e3=>?_⟩,fun y c e=>?_,I.free,I.freeC,fun p hp=>?_,tracked ⟨oL,hoL,I.free⟩ hs,by simpa using I.len⟩ ⟨_,hs,.inl rfl⟩
  ·exact(hs.2 b (Nat.ne_of_lt (Nat.lt_of_lt_of_le (Heap.lt_size e) I.ok.above))).trans (I.base.keep b o e n hb hx)
  ·obtain⟨sl,e1⟩:=I.base.slot b o e n hb hx
   exact⟨sl,(hs.2 b (Nat.ne_of_lt (Nat.lt_of_lt_of_le (Heap.lt_size e) I.ok.above))).trans e1⟩
  ·obtain⟨o',e1⟩:=I.base.there b o e hx
   exact⟨o',(hs.2 b (Nat.ne_of_lt (Nat.lt_of_lt_of_le (Heap.lt_size e) I.ok.above))).trans e1⟩
  ·by_cases hj:j=i
   ·subst hj
    rw[hi]at e1;cases e1
    rw[List.getElem?_set_self hiσ]at e2
    cases e2
    exact⟨u,r,.inl ⟨hk,by simp⟩⟩
   ·rw[List.getElem?_set_ne (Ne.symm hj)]at e2
    obtain⟨u',r',q⟩:=hl j y v' e1 e2 e3
    refine⟨u',r',?_⟩
    rcases q with⟨k,e⟩|⟨k,c,e,z⟩
    ·refine .inl ⟨k,?_⟩
     have:y≠x:=fun e=>hj (nodup_ix hN e1 (e ▸ hi))
     simp[this,e]
    ·exact .inr ⟨k,c,e,z.sameBut hs (cne y c e)⟩
  ·obtain⟨w',z⟩:=I.cell y c e
   exact⟨w',z.sameBut hs (cne y c e)⟩
  ·obtain⟨e,n,ne,nf,d⟩:=I.pin p hp
   exact⟨(hs.2 p.1 ne).trans e,n,ne,nf,d⟩
 ·have hfn:X.fn x=true:=by
   rcases hf with z|z
   ·exact z
   ·rw[z]at hk;cases hk
  obtain⟨c,hc⟩:=I.ok.has x (.inl hk)
  obtain⟨w',z⟩:=I.cell x c hc
  refine wpAny_storeName_cell I.ok.kind hk hc z (fun h' hc' hs=>?_)
  obtain⟨oc,hoc,hocd⟩:=id z
  refine h { s with heap:=h' } ⟨I.ok,I.os,I.bare,⟨fun b o e n hb hx=>?_,fun b o e n hb hx=>?_,I.base.free,fun b o e hx=>?_,I.base.tups,I.base.frzs,I.base.tbls⟩,⟨m,hn.sameBut hs (Ne.symm (cne x c hc)),fun j y v' e1 e2 e3=>?_⟩,fun y c' e=>?_,I.free,I.freeC,fun p hp=>?_,tracked ⟨oc,hoc,I.freeC x c hc⟩ hs,by simpa using I.len⟩ ⟨c,hs,.inr hc⟩
  ·exact(hs.2 b (Nat.ne_of_lt (Nat.lt_of_lt_of_le (Heap.lt_size e) (I.ok.cab x c hfn hc)))).trans (I.base.keep b o e n hb hx)
  ·obtain⟨sl,e1⟩:=I.base.slot b o e n hb hx
   exact⟨sl,(hs.2 b (Nat.ne_of_lt (Nat.lt_of_lt_of_le (Heap.lt_size e) (I.ok.cab x c hfn hc)))).trans e1⟩
  ·obtain⟨o',e1⟩:=I.base.there b o e hx
   exact⟨o',(hs.2 b (Nat.ne_of_lt (Nat.lt_of_lt_of_le (Heap.lt_size e) (I.ok.cab x c hfn hc)))).trans e1⟩
  ·by_cases hj:j=i
   ·subst hj
    rw[hi]at e1;cases e1
    rw[List.getElem?_set_self hiσ]at e2
    cases e2
    exact⟨u,r,.inr ⟨.inl hk,c,hc,hc'⟩⟩
   ·rw[List.getElem?_set_ne (Ne.symm hj)]at e2
    obtain⟨u',r',q⟩:=hl j y v' e1 e2 e3
    refine⟨u',r',?_⟩
    rcases q with q|⟨k,c',e,z'⟩
    ·exact .inl q
    ·refine .inr ⟨k,c',e,z'.sameBut hs ?_⟩
     rintro rfl
     exact hj (nodup_ix hN e1 (I.ok.inj _ _ _ e hc ▸ hi))
  ·by_cases hcc:c'=c
   ·subst hcc;exact⟨_,hc'⟩
   ·obtain⟨w2,z2⟩:=I.cell y c' e
    exact⟨w2,z2.sameBut hs hcc⟩
  ·obtain⟨e,n,ne,nf,d⟩:=I.pin p hp
   refine⟨(hs.2 p.1 ?_).trans e,n,ne,nf,d⟩
   intro q
   rw[q,hoc]at e
   have q':oc=p.2:=Option.some.inj e
   exact d w' (by rw[← q'];exact hocd)
theorem store_ok {M:Model}{A:Around}{E:Value→Shared→Prop}{i:Nat}{x:Str}{v:V}{u:Value}{Q:Unit→Shared→Prop}(I:Inv X pins σ H s) (hN:X.N.Nodup) (hi:X.N[i]? = some x) (hx:Loc X.env.scope x) (r:RelV v u)
  (h:∀s',Inv X pins (σ.set i (some v)) H s'→Q () s') (hf:X.fn x=true∨X.env.scope.names.lookup x=some .local:=by first|exact .inl rfl|exact .inr rfl|assumption):wpAny M A (storeName X.env x u) Q E s :=
 store_ok2 I hN hi hx r (fun s' I' _=>h s' I') hf
theorem Inv.call' {s':Shared}{ch:List Addr}(I:Inv X pins σ H s) (ho:s'.os=s.os) (u:Un (frs X.stack) ch H H' s.heap s'.heap) (hok:HOk X.prog X.w H' s'.heap) (hg:AllBare s'.gens)
  (hch:∀b∈ch,(b∈X.ex∨X.s₀.heap.objs.size≤b)∧b≠X.env.locals∧(∀x c,X.env.cells.lookup x=some c→c≠b)∧∀p∈X.pn++pins,p.1≠b):Inv X pins σ H' s':=by
 obtain⟨h',g',d',t',o'⟩:=s'
 have e:o'=s.os:=ho
 subst e
 exact I.call (g':=g') (t':=t') (d':=d') u hok hg hch
end
abbrev XK:=Value→Option Addr→Hp→Prop
abbrev St:=List (Option V)
abbrev VK:=V→Hp→Prop
abbrev TE:=St→Hp→VK→Prop
abbrev TT:=St→Hp→(Bool→Hp→Prop)→Prop
abbrev TA:=St→Hp→(List V→Hp→Prop)→Prop
structure Ends where
 nx:St→Hp→Prop
 rt:VK
 bk:St→Hp→Prop:=fun _ _=>False
 ct:St→Hp→Prop:=fun _ _=>False
abbrev TS:=Ends→St→Hp→Prop
def EP (X:Cx) (pins:List (Addr×Obj)) (σ:St) (Q:VK) (u:Value) (s':Shared):Prop:=∃v H',Inv X pins σ H' s'∧RelV v u∧Q v H'
def TP (X:Cx) (pins:List (Addr×Obj)) (σ:St) (Q:Bool→Hp→Prop) (b:Bool) (s':Shared):Prop:=∃H',Inv X pins σ H' s'∧Q b H'
def AP (X:Cx) (pins:List (Addr×Obj)) (σ:St) (Q:List V→Hp→Prop) (us:List Value) (s':Shared):Prop:=∃vs H',Inv X pins σ H' s'∧Vals vs us∧Q vs H'
def SP (X:Cx) (pins:List (Addr×Obj)) (D:Ends) (f:Flow) (s':Shared):Prop :=
 match f with
 | .next=>∃σ' H',Inv X pins σ' H' s'∧D.nx σ' H'
 | .brk=>∃σ' H',Inv X pins σ' H' s'∧D.bk σ' H'
 | .cont=>∃σ' H',Inv X pins σ' H' s'∧D.ct σ' H'
 | .ret u=>∃v σ' H',Inv X pins σ' H' s'∧RelV v u∧D.rt v H'
def PE (X:Cx) (e:Expr) (t:TE):Prop :=
 ∀(pins:List (Addr×Obj)) (s:Shared) (σ:St) (H:Hp) (Q:VK),Inv X pins σ H s→t σ H Q→wpAny (model X.prog X.w) X.A (eval e X.env) (EP X pins σ Q) X.xe s
def PT (X:Cx) (e:Expr) (t:TT):Prop :=
 ∀(pins:List (Addr×Obj)) (s:Shared) (σ:St) (H:Hp) (Q:Bool→Hp→Prop),Inv X pins σ H s→t σ H Q→wpAny (model X.prog X.w) X.A (isTrue e X.env (eval e X.env)) (TP X pins σ Q) X.xe s
def PW (X:Cx) (e:Expr) (t:TT):Prop :=
 ∀(whole:Sem Value) (pins:List (Addr×Obj)) (s:Shared) (σ:St) (H:Hp) (Q:Bool→Hp→Prop),Inv X pins σ H s→t σ H Q→wpAny (model X.prog X.w) X.A (isTrue e X.env whole) (TP X pins σ Q) X.xe s
theorem PW.pt {X:Cx}{e:Expr}{t:TT}(h:PW X e t):PT X e t:=h _
def PA (X:Cx) (es:List Expr) (t:TA):Prop :=
 ∀(pos:Pos) (pins:List (Addr×Obj)) (s:Shared) (σ:St) (H:Hp) (Q:List V→Hp→Prop),Inv X pins σ H s→t σ H Q→wpAny (model X.prog X.w) X.A (spliced (backTo pos (starEach es X.env))) (AP X pins σ Q) X.xe s
def PS (X:Cx) (st:Stmt) (t:TS):Prop :=
 ∀(pins:List (Addr×Obj)) (s:Shared) (σ:St) (H:Hp) (D:Ends),Inv X pins σ H s→t D σ H→wpAny (model X.prog X.w) X.A (exec st X.env) (SP X pins D) X.xe s
def PSs (X:Cx) (st:List Stmt) (t:TS):Prop :=
 ∀(pins:List (Addr×Obj)) (s:Shared) (σ:St) (H:Hp) (D:Ends),Inv X pins σ H s→t D σ H→wpAny (model X.prog X.w) X.A (execs st X.env) (SP X pins D) X.xe s
theorem thn {α:Type}{t:Sem α}{Q Q':α→Shared→Prop}{M:Model}{A:Around}{E:Value→Shared→Prop}{s:Shared}(h:wpAny M A t Q E s) (hQ:∀a s,Q a s→Q' a s):wpAny M A t Q' E s:=wpAny_mono h hQ fun _ _ x=>x
end L2
namespace L2
open PySem PySem.Spec PyProof.Rows
section
variable {X:Cx}
theorem bin {a b:Expr}{ta tb:TE}(ha:PE X a ta) (hb:PE X b tb) {pins:List (Addr×Obj)}{s:Shared}{σ:St}{H:Hp}{R:V→V→Hp→Prop}(I:Inv X pins σ H s) (h:ta σ H fun x H1=>tb σ H1 fun y H2=>R x y H2)
  {α:Type}{Q:α→Shared→Prop}{f:Value→Value→Sem α}
  (hf:∀v u s2 x y H2,Inv X pins σ H2 s2→RelV x v→RelV y u→R x y H2→wpAny (model X.prog X.w) X.A (f v u) Q X.xe s2) :
  wpAny (model X.prog X.w) X.A (eval a X.env) (fun v s₁=>wpAny (model X.prog X.w) X.A (eval b X.env) (fun u s₂=>wpAny (model X.prog X.w) X.A (f v u) Q X.xe s₂) X.xe s₁) X.xe s:=by
 refine thn (ha pins s σ H _ I h) fun v s1 ⟨x,H1,I1,r1,q1⟩=>?_
 refine thn (hb pins s1 σ H1 _ I1 q1) fun u s2 ⟨y,H2,I2,r2,q2⟩=>?_
 exact hf v u s2 x y H2 I2 r1 r2 q2
def tVar (i:Nat):TE:=fun σ H Q=>∃v,σ[i]? = some (some v)∧Q v H
def tC (v:V):TE:=fun _ H Q=>Q v H
theorem pe_var {i:Nat}{x:Str}{pos:Pos}(hN:X.N[i]? = some x) (hv:Vis X.env.scope x) (hd:(x ==("__debug__" : Str))=false:=by decide) (hcd:(x ==("__classdict__" : Str))=false:=by decide):PE X (.Name x pos) (tVar i):=by
 intro pins s σ H Q I h
 obtain⟨v,e,h⟩:=h
 obtain⟨m,hn,hl⟩:=I.loc
 obtain⟨u,r,l⟩:=hl i x v hN e hv
 have fin:EP X pins σ Q u s:=⟨v,H,I,r,h⟩
 rcases l with⟨hk,hm⟩|⟨hk,c,hc,hcell⟩
 ·exact wpAny_Name (wpAny_loadName_local I.ok.kind hk hn hm fin) hd
 ·rcases hk with hk|hk
  ·exact wpAny_Name (wpAny_loadName_cell I.ok.kind hk hc hcell fin) hd
  ·exact wpAny_Name (wpAny_loadName_free I.ok.kind hk hc hcell fin hcd) hd
theorem pe_int {i j pos}:PE X (.Constant (.int i) j pos) (tC (.int i)):=fun _ _ _ H _ I h=>wpAny_Constant_int ⟨.int i,H,I.tok _,⟨_,rfl⟩,h⟩
theorem pe_bl {b j pos}:PE X (.Constant (.bool b) j pos) (tC (.bl b)):=fun _ _ _ H _ I h=>Constant_bool ⟨.bl b,H,I,rfl,h⟩
theorem pe_non {j pos}:PE X (.Constant .none j pos) (tC .non):=fun _ _ _ H _ I h=>Constant_none ⟨.non,H,I,rfl,h⟩
theorem pe_str {x j pos}:PE X (.Constant (.str x) j pos) (tC (.str x)):=fun _ _ _ H _ I h=>Calls.Constant_str ⟨.str x,H,I.tok _,⟨_,rfl⟩,h⟩
def Gl (X:Cx) (x:Str):Prop:=X.env.kindOf x=some .globalImplicit
theorem ld_glob {E:Value→Shared→Prop}{pins:List (Addr×Obj)}{s:Shared}{σ:St}{H:Hp}{x:Str}{u:Value}{pos:Pos}{Q:Value→Shared→Prop}(I:Inv X pins σ H s) (hg:Gl X x) (hm:X.mg x=some u) (h:Q u s)
  (hd:(x ==("__debug__" : Str))=false:=by decide):wpAny (model X.prog X.w) X.A (eval (.Name x pos) X.env) Q E s :=
 Calls.Name_function_global I.ok.kind hg (Calls.loadGlobal_global (by rw[I.ok.glob];exact I.mod.glob.keeps I.bk) hm h) hd
theorem ld_blt {E:Value→Shared→Prop}{pins:List (Addr×Obj)}{s:Shared}{σ:St}{H:Hp}{x:Str}{u:Value}{pos:Pos}{Q:Value→Shared→Prop}(I:Inv X pins σ H s) (hg:Gl X x) (hm:X.mg x=none) (hv:bootBuiltins x=some u) (h:Q u s)
  (hn:x ≠ "__name__" := by decide) (hd:(x ==("__debug__" : Str))=false:=by decide):wpAny (model X.prog X.w) X.A (eval (.Name x pos) X.env) Q E s:=by
 obtain⟨mb,h1,h2⟩:=I.mod.blt
 exact Calls.Name_function_global I.ok.kind hg (Calls.loadGlobal_builtin (by rw[I.ok.glob];exact I.mod.glob.keeps I.bk) hm (by rw[I.ok.blt];exact h1.keeps I.bk) ((h2 x hn).trans hv) h) hd
theorem pe_glob {x:Str}{v:V}{u:Value}{pos:Pos}(hg:Gl X x) (hm:X.mg x=some u) (r:RelV v u) (hd:(x ==("__debug__" : Str))=false:=by decide):PE X (.Name x pos) (tC v) :=
 fun _ _ _ H _ I h=>ld_glob I hg hm ⟨v,H,I,r,h⟩ hd
theorem pe_bltn {x:Str}{v:V}{u:Value}{pos:Pos}(hg:Gl X x) (hm:X.mg x=none) (hv:bootBuiltins x=some u) (r:RelV v u) (hn:x ≠ "__name__" := by decide) (hd:(x ==("__debug__" : Str))=false:=by decide):PE X (.Name x pos) (tC v) :=
 fun _ _ _ H _ I h=>ld_blt I hg hm hv ⟨v,H,I,r,h⟩ hn hd
variable {a b:Expr}{ta tb:TE}{pos:Pos}
def PC (X:Cx) (op:CmpOp) (a b:Expr) (t:TE):Prop :=
 ∀(pins:List (Addr×Obj)) (s:Shared) (σ:St) (H:Hp) (Q:VK),Inv X pins σ H s→t σ H Q →
  wpAny (model X.prog X.w) X.A (eval a X.env) (fun v s₁=>wpAny (model X.prog X.w) X.A (eval b X.env) (fun u s₂=>wpAny (model X.prog X.w) X.A (compareOp op v u) (EP X pins σ Q) X.xe s₂) X.xe s₁) X.xe s
def tB (t:TE):TT:=fun σ H Q=>t σ H fun x H1=>∃c,x = .bl c∧Q c H1
theorem pt_cmp {op:CmpOp}{t:TE}(h:PC X op a b t) (h1:behindInMarks op b=false:=by first|exact nobehind _ (by decide) (by decide)|rfl):PT X (.Compare a [op] [b] pos) (tB t):=by
 intro pins s σ H Q I hw
 refine wpAny_isTrue_Compare1 (thn (h pins s σ H _ I hw) fun v s1 h1=>thn h1 fun u s2 h2=>thn h2 fun c s3 ⟨x,H1,I1,r1,q1⟩=>?_) h1
 obtain⟨d,rfl,q⟩:=q1
 cases r1
 exact wpAny_truthy_bool ⟨H1,I1,q⟩
theorem pt_val {e:Expr}{t:TE}(h:PE X e t) (he:∀whole,isTrue e X.env whole =(do let v ← whole;standAt e.pos;holding [v] (truthy v)):=by intro _;rfl):PT X e (tB t):=by
 intro pins s σ H Q I hw
 refine isTrue_plain (thn (h pins s σ H _ I hw) fun v s1 ⟨x,H1,I1,r1,q1⟩=>?_) (he _)
 obtain⟨d,rfl,q⟩:=q1
 cases r1
 exact wpAny_truthy_bool ⟨H1,I1,q⟩
variable {tA tB':TT}{rest:List Expr}
def tAnd (t u:TT):TT:=fun σ H Q=>t σ H fun c H1=>if c=true then u σ H1 Q else Q false H1
def tOr (t u:TT):TT:=fun σ H Q=>t σ H fun c H1=>if c=true then Q true H1 else u σ H1 Q
def tNot (t:TT):TT:=fun σ H Q=>t σ H fun c H1=>Q (!c) H1
theorem pw_and1 (ha:PT X a tA):PW X (.BoolOp .And [a] pos) tA:=by
 intro wh pins s σ H Q I h
 refine isTrue_and (thn (ha pins s σ H Q I h) fun c s1 e=>?_)
 cases c with
 | true=>exact isTrue_and_nil e
 | false=>exact e
theorem pw_or1 (ha:PT X a tA):PW X (.BoolOp .Or [a] pos) tA:=by
 intro wh pins s σ H Q I h
 refine isTrue_or (thn (ha pins s σ H Q I h) fun c s1 e=>?_)
 cases c with
 | false=>exact isTrue_or_nil e
 | true=>exact e
theorem pw_and (ha:PT X a tA) (hb:PW X (.BoolOp .And (b::rest) pos) tB'):PW X (.BoolOp .And (a::b::rest) pos) (tAnd tA tB'):=by
 intro wh pins s σ H Q I h
 refine isTrue_and (thn (ha pins s σ H _ I h) fun c s1 ⟨H1,I1,q1⟩=>?_)
 cases c with
 | true=>exact hb wh pins s1 σ H1 Q I1 q1
 | false=>exact⟨H1,I1,q1⟩
theorem pw_or (ha:PT X a tA) (hb:PW X (.BoolOp .Or (b::rest) pos) tB'):PW X (.BoolOp .Or (a::b::rest) pos) (tOr tA tB'):=by
 intro wh pins s σ H Q I h
 refine isTrue_or (thn (ha pins s σ H _ I h) fun c s1 ⟨H1,I1,q1⟩=>?_)
 cases c with
 | true=>exact⟨H1,I1,q1⟩
 | false=>exact hb wh pins s1 σ H1 Q I1 q1
theorem pt_not (ha:PT X a tA):PT X (.UnaryOp .Not a pos) (tNot tA):=by
 intro pins s σ H Q I h
 exact isTrue_not (ha pins s σ H (fun c H1=>Q (!c) H1) I h)
def tAndV (ta tb:TE):TE:=fun σ H Q=>ta σ H fun x H1=>∃c,x = .bl c∧if c=true then tb σ H1 Q else Q (.bl false) H1
theorem pe_one {op}{t:TE}(h:PE X a t):PE X (.BoolOp op [a] pos) t:=fun pins s σ H Q I hw=>BoolOp_one (h pins s σ H Q I hw)
theorem pe_and (ha:PE X a ta) (hb:PE X (.BoolOp .And (b::rest) pos) tb):PE X (.BoolOp .And (a::b::rest) pos) (tAndV ta tb):=by
 intro pins s σ H Q I h
 refine BoolOp_and (thn (ha pins s σ H _ I h) fun v s1 ⟨x,H1,I1,r1,q1⟩=>?_)
 obtain⟨c,rfl,q1⟩:=q1
 cases r1
 refine wpAny_truthy_bool ?_
 cases c with
 | true=>exact hb pins s1 σ H1 Q I1 q1
 | false=>exact⟨.bl false,H1,I1,rfl,q1⟩
end
end L2
namespace L2
open PySem PySem.Spec PyProof.Rows
def SqL (K:PySem.W.Frag) (H:Hp) (a:Addr) (xs:List V):Prop :=
 Rd H a (.lst xs) ∨
  ∃(o:Obj) (its:Array Value) (n:Nat),K.lookup a=some o∧o.cls = .type "list"∧o.dict=none∧o.data = .seq its n∧its.size≤sizeLine∧Vals xs its.toList
def SqT (K:PySem.W.Frag) (H:Hp) (a:Addr) (xs:List V):Prop :=
 Rd H a (.tup xs) ∨
  ∃(o:Obj) (its:Array Value) (n:Nat),K.lookup a=some o∧o.cls = .type "tuple"∧o.data = .seq its n∧its.size≤sizeLine∧Vals xs its.toList
def absV:Value→Option V
 | .none=>some .non
 | .bool b=>some (.bl b)
 | .int i _=>some (.int i)
 | .str x _=>some (.str x)
 | .bytes b _=>some (.byt b)
 | .float b _=>some (.flt b)
 | .ref a=>some (.ref a)
 | .type n=>some (.ty n)
 | _=>none
theorem RelV.abs {x:V}{u:Value}(r:RelV x u):absV u=some x:=by
 cases x with
 | non=>cases r;rfl
 | bl _=>cases r;rfl
 | int _=>obtain⟨t,rfl⟩:=r;rfl
 | str _=>obtain⟨t,rfl⟩:=r;rfl
 | byt _=>obtain⟨t,rfl⟩:=r;rfl
 | flt _=>obtain⟨t,rfl⟩:=r;rfl
 | ref _=>cases r;rfl
 | ty _=>cases r;rfl
theorem RelV.inj {x y:V}{u:Value}(r:RelV x u) (q:RelV y u):x=y:=Option.some.inj (r.abs.symm.trans q.abs)
theorem Vals.inj:∀{xs ys:List V}{us:List Value},Vals xs us→Vals ys us→xs=ys
 | _,_,_,.nil,.nil=>rfl
 | _,_,_,.cons r t,.cons r' t'=>by rw[r.inj r',Vals.inj t t']
section
variable {X:Cx}{pins:List (Addr×Obj)}{σ:St}{H:Hp}{s:Shared}{a:Addr}{xs ys:List V}
theorem SqL.of {K:PySem.W.Frag}(h:H a=some (.lst xs)):SqL K H a xs:=.inl (.inl h)
theorem SqT.of {K:PySem.W.Frag}(h:H a=some (.tup xs)):SqT K H a xs:=.inl (.inl h)
theorem Inv.list (I:Inv X pins σ H s) (h:SqL X.K H a xs):∃its:List Value,Vals xs its∧PlainL s.heap a its.toArray∧xs.length≤sizeLine:=by
 rcases h with h|⟨o,its,n,hk,hc,hd,hs,hz,r⟩
 ·obtain⟨z,its,n,r,e⟩:=h.ok I.hok
  exact⟨its,r,⟨_,n,e,rfl,rfl,rfl⟩,z⟩
 ·refine⟨its.toList,r,⟨o,n,I.kIn a o hk,hc,hd,by simpa using hs⟩,?_⟩
  have e:=r.length
  simp only[Array.length_toList]at e
  omega
theorem Inv.tuple (I:Inv X pins σ H s) (h:SqT X.K H a xs):∃its:List Value,Vals xs its∧IsTup s.heap a its.toArray∧xs.length≤sizeLine:=by
 rcases h with h|⟨o,its,n,hk,hc,hs,hz,r⟩
 ·obtain⟨z,its,r,p⟩:=h.ok I.hok
  exact⟨its,r,p,z⟩
 ·refine⟨its.toList,r,⟨o,I.kIn a o hk,hc,n,by simpa using hs⟩,?_⟩
  have e:=r.length
  simp only[Array.length_toList]at e
  omega
theorem Inv.list_inj (I:Inv X pins σ H s) (h:SqL X.K H a xs) (h':SqL X.K H a ys):xs=ys:=by
 obtain⟨its,r,⟨o,n,e,_,_,d⟩,_⟩:=I.list h
 obtain⟨its',r',⟨o',n',e',_,_,d'⟩,_⟩:=I.list h'
 rw[e]at e';cases e'
 rw[d]at d'
 injection d' with d1 _
 have:its=its':=by simpa using congrArg Array.toList d1
 subst this
 exact r.inj r'
end
abbrev Cx.wish (X:Cx) (E:Value→Shared→Prop):Cx:={ X with xe:=E }
abbrev Cx.nox (X:Cx):Cx:=X.wish fun _ _=>False
theorem Cx.Ok.wish {X:Cx}(ok:X.Ok) (E:Value→Shared→Prop):(X.wish E).Ok :=
 ⟨ok.mod,ok.kind,ok.glob,ok.blt,ok.above,ok.inj,ok.has,ok.cab,ok.hd,ok.frames,ok.stk,ok.exf,ok.bs,ok.bsz,ok.noex,ok.exfs,ok.funs,ok.frf⟩
theorem Cx.Ok.unwish {X:Cx}{E:Value→Shared→Prop}(ok:(X.wish E).Ok):X.Ok :=
 ⟨ok.mod,ok.kind,ok.glob,ok.blt,ok.above,ok.inj,ok.has,ok.cab,ok.hd,ok.frames,ok.stk,ok.exf,ok.bs,ok.bsz,ok.noex,ok.exfs,ok.funs,ok.frf⟩
section
variable {X:Cx}{pins:List (Addr×Obj)}{σ:St}{H:Hp}{s:Shared}{E:Value→Shared→Prop}
theorem Inv.wish (I:Inv X pins σ H s) (E:Value→Shared→Prop):Inv (X.wish E) pins σ H s:=⟨I.ok.wish E,I.os,I.bare,I.base,I.loc,I.cell,I.free,I.freeC,I.pin,I.hok,I.len⟩
theorem Inv.unwish (I:Inv (X.wish E) pins σ H s):Inv X pins σ H s:=⟨I.ok.unwish,I.os,I.bare,I.base,I.loc,I.cell,I.free,I.freeC,I.pin,I.hok,I.len⟩
theorem SP.unwish {D:Ends}{f:Flow}{s':Shared}(h:SP (X.wish E) pins D f s'):SP X pins D f s':=by
 cases f with
 | next=>obtain⟨σ',H',I,q⟩:=h;exact⟨σ',H',I.unwish,q⟩
 | brk=>obtain⟨σ',H',I,q⟩:=h;exact⟨σ',H',I.unwish,q⟩
 | cont=>obtain⟨σ',H',I,q⟩:=h;exact⟨σ',H',I.unwish,q⟩
 | ret u=>obtain⟨v,σ',H',I,r,q⟩:=h;exact⟨v,σ',H',I.unwish,r,q⟩
theorem PSs.nox {st:List Stmt}{t:TS}(h:PSs X.nox st t):PSs X st t:=fun pins s σ H D I hw =>
 wpAny_mono (h pins s σ H D (I.wish _) hw) (fun _ _ q=>q.unwish) fun _ _ z=>False.elim z
end
section
variable {X:Cx}{st:Stmt}{rest:List Stmt}{t u:TS}{e:Expr}{te:TE}{pos:Pos}
def tNext:TS:=fun D σ H=>D.nx σ H
def tSeq (t u:TS):TS:=fun D σ H=>t { D with nx:=u D } σ H
theorem pss_nil:PSs X [] tNext:=fun _ _ σ H _ I h=>wpAny_execs_nil ⟨σ,H,I,h⟩
theorem pss_cons (h1:PS X st t) (h2:PSs X rest u):PSs X (st::rest) (tSeq t u):=by
 intro pins s σ H D I h
 refine wpAny_execs_cons (thn (h1 pins s σ H { D with nx:=u D } I h) fun f s1 q=>?_)
 cases f with
 | next =>
  obtain⟨σ',H',I',q⟩:=q
  exact h2 pins s1 σ' H' D I' q
 | ret v=>exact q
 | brk=>exact q
 | cont=>exact q
theorem pss_one (h1:PS X st t):PSs X [st] t:=by
 intro pins s σ H D I h
 refine wpAny_execs_cons (thn (h1 pins s σ H D I h) fun f s1 q=>?_)
 cases f with
 | next=>exact wpAny_execs_nil q
 | ret v=>exact q
 | brk=>exact q
 | cont=>exact q
def tRet (te:TE):TS:=fun D σ H=>te σ H D.rt
theorem ps_ret (he:PE X e te):PS X (.Return (some e) pos) (tRet te):=by
 intro pins s σ H D I h
 exact wpAny_Return_some (thn (he pins s σ H _ I h) fun v s1 ⟨x,H1,I1,r1,q1⟩=>⟨x,σ,H1,I1,r1,q1⟩)
def tIfS (c:TT) (t u:TS):TS:=fun D σ H=>c σ H fun b H1=>if b=true then t D σ H1 else u D σ H1
theorem ps_if {c:Expr}{a b:List Stmt}{tc:TT}(hc:PT X c tc) (ha:PSs X a t) (hb:PSs X b u):PS X (.If c a b pos) (tIfS tc t u):=by
 intro pins s σ H D I h
 refine wpAny_If (thn (hc pins s σ H _ I h) fun d s1 ⟨H1,I1,q1⟩=>?_)
 cases d with
 | true=>exact ha pins s1 σ H1 D I1 q1
 | false=>exact hb pins s1 σ H1 D I1 q1
end
abbrev TG:=V→St→Hp→(St→Hp→Prop)→Prop
def PG (X:Cx) (target:Expr) (t:TG):Prop :=
 ∀(pins:List (Addr×Obj)) (s:Shared) (σ:St) (H:Hp) (v:V) (u:Value) (Q:St→Hp→Prop),Inv X pins σ H s→RelV v u→t v σ H Q →
  wpAny (model X.prog X.w) X.A (assign target X.env u) (fun _ s'=>∃σ' H',Inv X pins σ' H' s'∧Q σ' H') X.xe s
abbrev TSet:=V→V→V→Hp→(Hp→Prop)→Prop
def PSet (X:Cx) (t:TSet):Prop :=
 ∀(pins:List (Addr×Obj)) (s:Shared) (σ:St) (H:Hp) (o i v:V) (ov iv u:Value) (Q:Hp→Prop),Inv X pins σ H s→RelV o ov→RelV i iv→RelV v u→t o i v H Q →
  wpAny (model X.prog X.w) X.A (setItem ov iv u) (fun _ s'=>∃H',Inv X pins σ H' s'∧Q H') X.xe s
abbrev TIp:=V→V→Hp→VK→Prop
def PIp (X:Cx) (op:Operator) (t:TIp):Prop :=
 ∀(pins:List (Addr×Obj)) (s:Shared) (σ:St) (H:Hp) (x y:V) (v u:Value) (Q:VK),Inv X pins σ H s→RelV x v→RelV y u→t x y H Q →
  wpAny (model X.prog X.w) X.A (inplaceOp op v u) (EP X pins σ Q) X.xe s
section
variable {X:Cx}{pos:Pos}
def gName (i:Nat):TG:=fun v σ H Q=>Q (σ.set i (some v)) H
theorem pg_name {i:Nat}{x:Str}(hN:X.N.Nodup) (hi:X.N[i]? = some x) (hx:Loc X.env.scope x) (hf:X.fn x=true∨X.env.scope.names.lookup x=some .local:=by first|exact .inl rfl|exact .inr rfl|assumption):PG X (.Name x pos) (gName i):=by
 intro pins s σ H v u Q I r h
 exact wpAny_assign_Name (store_ok I hN hi hx r (fun s' I'=>⟨_,H,I',h⟩) hf)
def gSub (to ti:TE) (t:TSet):TG:=fun v σ H Q=>to σ H fun o H1=>ti σ H1 fun i H2=>t o i v H2 fun H3=>Q σ H3
theorem pg_sub {o i:Expr}{to ti:TE}{t:TSet}(ho:PE X o to) (hi:PE X i ti) (hs:PSet X t)
  (ha:∀v,assign (.Subscript o i pos) X.env v =(do
   let ov ← holding [v] (eval o X.env)
   let iv ← holding [v,ov] (eval i X.env)
   standAt pos
   holding [v,ov,iv] (setItem ov iv v)
   release [v,ov,iv] []):=by intro _;rfl):PG X (.Subscript o i pos) (gSub to ti t):=by
 intro pins s σ H v u Q I r h
 rw[ha]
 refine wpAny_bind (wpAny_holding (thn (ho pins s σ H _ I h) fun ov s1 ⟨x,H1,I1,r1,q1⟩=>?_))
 refine wpAny_bind (wpAny_holding (thn (hi pins s1 σ H1 _ I1 q1) fun iv s2 ⟨y,H2,I2,r2,q2⟩=>?_))
 refine wpAny_bind (wpAny_standAt (wpAny_bind (wpAny_holding (thn (hs pins s2 σ H2 x y v ov iv u _ I2 r1 r2 r q2) fun _ s3 ⟨H3,I3,q3⟩=>?_))))
 exact wpAny_release ⟨σ,H3,I3,q3⟩
def tAsg (te:TE) (g:TG):TS:=fun D σ H=>te σ H fun x H1=>g x σ H1 D.nx
theorem ps_asg {tg e:Expr}{te:TE}{g:TG}(he:PE X e te) (hg:PG X tg g) (hs:swapsWithSole [tg] e pos.line X.env=pure false:=by rfl) (hw:swappedStores [tg] e X.env=pure none:=by rfl)
  (h1:(assignEach [tg] X.env).map (·.2)=[assign tg X.env]:=by rfl):PS X (.Assign [tg] e pos) (tAsg te g):=by
 intro pins s σ H D I h
 refine wpAny_Assign_stores (thn (he pins s σ H _ I h) fun v s1 ⟨x,H1,I1,r1,q1⟩=>?_) hs hw
 rw[h1]
 exact thn (hg pins s1 σ H1 x v _ I1 r1 q1) fun _ s2 q=>q
theorem ps_set {i:Nat}{x:Str}{e:Expr}{te:TE}{pos':Pos}(hN:X.N.Nodup) (hi:X.N[i]? = some x) (hx:Loc X.env.scope x) (he:PE X e te) (hs:swapsWith e (some (.Name x pos')) pos.line X.env=pure false:=by rfl) (hf:X.fn x=true∨X.env.scope.names.lookup x=some .local:=by first|exact .inl rfl|exact .inr rfl|assumption) :
  PS X (.Assign [.Name x pos'] e pos) (tAsg te (gName i)):=by
 intro pins s σ H D I h
 refine wpAny_Assign_Name (thn (he pins s σ H _ I h) fun v s1 ⟨y,H1,I1,r1,q1⟩=>?_) hs
 exact store_ok I1 hN hi hx r1 (fun s2 I2=>⟨_,H1,I2,q1⟩) hf
def tAugS (to ti te:TE) (tget:V→V→Hp→VK→Prop) (tip:TIp) (tset:TSet):TS:=fun D σ H=>to σ H fun o H1=>ti σ H1 fun i H2=>tget o i H2 fun x H3=>te σ H3 fun y H4=>tip x y H4 fun z H5=>tset o i z H5 fun H6=>D.nx σ H6
def PGet (X:Cx) (t:V→V→Hp→VK→Prop):Prop :=
 ∀(pins:List (Addr×Obj)) (s:Shared) (σ:St) (H:Hp) (o i:V) (ov iv:Value) (Q:VK),Inv X pins σ H s→RelV o ov→RelV i iv→t o i H Q →
  wpAny (model X.prog X.w) X.A (getItem ov iv) (EP X pins σ Q) X.xe s
theorem ps_augS {o i e:Expr}{to ti te:TE}{tget:V→V→Hp→VK→Prop}{tip:TIp}{tset:TSet}{op:Operator}{tpos:Pos}(ho:PE X o to) (hi:PE X i ti) (hg:PGet X tget) (he:PE X e te) (hp:PIp X op tip) (hs:PSet X tset)
  (ha:∀ov iv new,augStore i ov iv new =(do holding [new,ov,iv] (setItem ov iv new);release [new,ov,iv] [];pure .next):=by intros;rfl):PS X (.AugAssign (.Subscript o i tpos) op e pos) (tAugS to ti te tget tip tset):=by
 intro pins s σ H D I h
 refine wpAny_AugAssign_SubscriptAny (thn (ho pins s σ H _ I h) fun ov s1 ⟨x1,H1,I1,r1,q1⟩=>?_) ha
 refine thn (hi pins s1 σ H1 _ I1 q1) fun iv s2 ⟨x2,H2,I2,r2,q2⟩=>?_
 refine thn (hg pins s2 σ H2 x1 x2 ov iv _ I2 r1 r2 q2) fun old s3 ⟨x3,H3,I3,r3,q3⟩=>?_
 refine thn (he pins s3 σ H3 _ I3 q3) fun v s4 ⟨x4,H4,I4,r4,q4⟩=>?_
 refine thn (hp pins s4 σ H4 x3 x4 old v _ I4 r3 r4 q4) fun new s5 ⟨x5,H5,I5,r5,q5⟩=>?_
 exact thn (hs pins s5 σ H5 x1 x2 x5 ov iv new _ I5 r1 r2 r5 q5) fun _ s6 ⟨H6,I6,q6⟩=>⟨σ,H6,I6,q6⟩
def ipI (f:Int→Int→Int):TIp:=fun x y H Q=>∃i j,x = .int i∧y = .int j∧Q (.int (f i j)) H
theorem ip_add:PIp X .Add (ipI fun i j=>i+j):=by
 intro pins s σ H x y v u Q I r1 r2 h
 obtain⟨i,j,e1,e2,q⟩:=h
 subst e1;subst e2
 obtain⟨t,rfl⟩:=r1
 obtain⟨t',rfl⟩:=r2
 exact iadd_int ⟨.int _,H,I.tok _,⟨_,rfl⟩,q⟩
end
section
variable {X:Cx}{pos:Pos}
end
structure It where
 go:Nat→Hp→Prop
 yld:Nat→Hp→V→Hp→Prop
 stop:Nat→Hp→Prop
def FpOk (X:Cx) (pins:List (Addr×Obj)) (H:Hp) (b:Addr):Prop :=
 H b=none∧b≠X.env.locals∧b∉X.fs∧(b∈X.ex∨X.s₀.heap.objs.size≤b)∧(∀x c,X.env.cells.lookup x=some c→c≠b)∧∀p∈X.pn++pins,p.1≠b
theorem Inv.fpOk {X:Cx}{pins:List (Addr×Obj)}{σ:St}{H H':Hp}{s:Shared}{b:Addr}(I:Inv X pins σ H s) (hb:s.heap.objs.size≤b) (hn:H' b=none):FpOk X pins H' b:=by
 refine⟨hn,Nat.ne_of_gt (Nat.lt_of_lt_of_le I.lt hb),I.nofs hb,.inr (Nat.le_trans I.sz hb),fun x c e z=>?_,fun p hp z=>?_⟩
 ·obtain⟨v,q⟩:=I.cell x c e
  exact absurd (Nat.lt_of_lt_of_le q.lt (by rw[z];exact hb)) (Nat.lt_irrefl _)
 ·exact absurd (Nat.lt_of_lt_of_le (Heap.lt_size (I.pin p hp).1) (by rw[z];exact hb)) (Nat.lt_irrefl _)
structure Turn (P:Program) (w:World) (K:PySem.W.Frag) (tg:Expr) (J:It) (fp:List Addr) (it:Addr) (tn:Nat→Heap→Prop):Prop where
 mem:it∈fp
 obj:∀i h,tn i h→∀b∈fp,∃o,h.get? b=some o∧∀v,o.data ≠ .cell v
 keep:∀i h h',tn i h→(∀b∈fp,∀o,h.get? b=some o→h'.get? b=some o)→tn i h'
 item:∀(X:Cx),X.prog=P→X.w=w→X.K=K→X.calm=true→∀(i:Nat) (pins:List (Addr×Obj)) (s:Shared) (σ:St) (H:Hp) (E:Value→Shared→Prop),Inv X pins σ H s→(∀b∈fp,FpOk X pins H b)→tn i s.heap→J.go i H →
  wpAny (model P w) X.A (pyNext (.ref it)) (fun r s1=>∃u,r=some u ∧
   wpAny (model P w) X.A (letOwnedTupleGo tg (.ref it) u) (fun _ s2=>∃x H',Inv X pins σ H' s2∧RelV x u∧J.yld i H x H'∧tn (i+1) s2.heap∧∀b∈fp,H' b=none) E s1) E s
 done:∀(X:Cx),X.prog=P→X.w=w→X.K=K→X.calm=true→∀(i:Nat) (pins:List (Addr×Obj)) (s:Shared) (σ:St) (H:Hp) (E:Value→Shared→Prop),Inv X pins σ H s→(∀b∈fp,FpOk X pins H b)→tn i s.heap→J.stop i H →
  wpAny (model P w) X.A (pyNext (.ref it)) (fun r s1=>r=none∧Inv X pins σ H s1) E s
 self:∀(A:Around) (i:Nat) (s:Shared) (Q:Value→Shared→Prop) (E:Value→Shared→Prop),tn i s.heap→Q (.ref it) s→wpAny (model P w) A (pyIter (.ref it)) Q E s
abbrev TI:=St→Hp→(It→Hp→Prop)→Prop
def PIE (X:Cx) (pins:List (Addr×Obj)) (σ:St) (tg:Expr) (R:It→Hp→Prop) (itv:Value) (s2:Shared):Prop :=
 ∃(it:Addr) (fp:List Addr) (tn:Nat→Heap→Prop) (J:It) (H':Hp),itv = .ref it∧Inv X pins σ H' s2∧Turn X.prog X.w X.K tg J fp it tn∧tn 0 s2.heap∧(∀b∈fp,FpOk X pins H' b)∧R J H'
def PI (X:Cx) (tg iter:Expr) (wi:TI):Prop :=
 ∀(pins:List (Addr×Obj)) (s:Shared) (σ:St) (H:Hp) (R:It→Hp→Prop),Inv X pins σ H s→wi σ H R →
  wpAny (model X.prog X.w) X.A (eval iter X.env) (fun v s1=>wpAny (model X.prog X.w) X.A (pyIter v) (PIE X pins σ tg R) X.xe s1) X.xe s
theorem go_of {M:Model} {A:Around} {E:Value→Shared→Prop} {s:Shared} {tg:Expr} {it:Addr} {u:Value} {o:Obj} {n:String} {vs:Array Value} {Q:Unit→Shared→Prop} (ho:s.heap.get? it = some o) (hc:o.cls = .type n) (hd:o.data = .fields vs)
    (hn:["enumerate", "zip", "dict_itemiterator", "dict_reverseitemiterator", "odict_iterator", "itertools.zip_longest", "itertools.pairwise"].contains n = false) (hQ:Q () s) : wpAny M A (letOwnedTupleGo tg (.ref it) u) Q E s:=by
  unfold letOwnedTupleGo
  cases tg <;> first
    | exact wpAny_pure hQ
    | (cases u <;> first
        | exact wpAny_pure hQ
        | (refine wpAny_bind (wpAny_load ho ?_)
           rw [hc,hd]
           show wpAny M A (if (["enumerate", "zip", "dict_itemiterator", "dict_reverseitemiterator", "odict_iterator", "itertools.zip_longest", "itertools.pairwise"].contains n && vs[0]? == some (rawInt _)) = true then _ else _) Q E s
           rw [if_neg (by intro h; rw [hn,Bool.false_and] at h; cases h)]
           exact wpAny_pure hQ))
def Itl (K:PySem.W.Frag) (a:Addr):It :=
 ⟨fun i H=>∃xs x,SqL K H a xs∧xs[i]? = some x,fun i H x H'=>H'=H∧∀xs,SqL K H a xs→xs[i]? = some x,fun i H=>∃xs,SqL K H a xs∧xs.length≤i⟩
def Itr (lo:Int) (n:Nat):It:=⟨fun i _=>i<n,fun i H x H'=>H'=H∧x = .int (lo+i),fun i _=>n≤i⟩
theorem turn_list {P:Program}{w:World}{K:PySem.W.Frag}{tg:Expr}(a it:Addr):Turn P w K tg (Itl K a) [it] it (fun i h=>h.IsListIter it a i) where
 mem:=by simp
 obj:=fun i h st b hb=>by
  have e:b=it:=by simpa using hb
  subst e
  obtain⟨o,e,c,d⟩:=st
  exact⟨o,e,fun v z=>by rw[d]at z;cases z⟩
 keep:=fun i h h' st k=>st.at fun o e=>k it (by simp) o e
 item:=by
  intro X hP hw hK hc i pins s σ H E I hf st hg
  subst hP hw hK
  obtain⟨xs,x,hq,hx⟩:=hg
  obtain⟨its,rv,p,hz⟩:=I.list hq
  obtain⟨u,hu,ru⟩:=rv.get hx
  obtain⟨f0,f1,f2,f3,f4,f5⟩:=hf it (by simp)
  refine wpAny_pyNext_list_item st p.isList (x:=u) (by simpa using hu) fun h' st' sb=>?_
  have I1:Inv X pins σ H { s with heap:=h' }:=I.turned (t':=s.toks) (fun b o hb e=>(sb.2 b hb).trans e) f0 f1 f3 f4 f5
  obtain⟨o,e,c,d⟩:=id st'
  exact⟨u,rfl,go_of (s:={ s with heap:=h' }) e c d (by decide) ⟨x,H,I1,ru,⟨rfl,fun ys hy=>by rw[I.list_inj hy hq];exact hx⟩,st',fun b hb=>(hf b hb).1⟩⟩
 done:=by
  intro X hP hw hK hc i pins s σ H E I hf st hg
  subst hP hw hK
  obtain⟨xs,hq,hx⟩:=hg
  obtain⟨its,rv,p,hz⟩:=I.list hq
  obtain⟨f0,f1,f2,f3,f4,f5⟩:=hf it (by simp)
  have hl:=rv.length
  exact wpAny_pyNext_list_end (I.ok.hd hc) st p.isList (by simp;omega) fun h' eb=>⟨rfl,I.turned (t':=s.toks) (fun b o hb e=>eb b o hb e) f0 f1 f3 f4 f5⟩
 self:=fun _ _ _ _ _ st h=>wpAny_pyIter_listiter st h
theorem turn_range {P:Program}{w:World}{K:PySem.W.Frag}{tg:Expr}(it:Addr) (lo:Int) (n:Nat):Turn P w K tg (Itr lo n) [it] it (fun i h=>IsRangeIter h it (lo+(i:Nat)*1) ((n:Int)-(i:Nat)) 1) where
 mem:=by simp
 obj:=fun i h st b hb=>by
  have e:b=it:=by simpa using hb
  subst e
  exact⟨_,st,fun v z=>by
   have z':Data.fields _=Data.cell v:=z
   cases z'⟩
 keep:=fun i h h' st k=>k it (by simp) _ st
 item:=by
  intro X hP hw hK hc i pins s σ H E I hf st hg
  subst hP hw hK
  obtain⟨f0,f1,f2,f3,f4,f5⟩:=hf it (by simp)
  have W:=Walks.range (prog:=X.prog) (w:=X.w) (I.ok.hd hc) it lo 1 n
  refine W.item i s _ _ hg st fun v h' tk hv st' kk=>?_
  obtain⟨t,rfl⟩:=hv
  have I1:Inv X pins σ H { s with heap:=h',toks:=tk }:=I.turned (fun b o hb e=>kk b o (by simpa using hb) e) f0 f1 f3 f4 f5
  refine⟨_,rfl,go_of (s:={ s with heap:=h',toks:=tk }) (n := "range_iterator") st' rfl rfl (by decide) ⟨.int (lo+i),H,I1,⟨t,?_⟩,⟨rfl,rfl⟩,st',fun b hb=>(hf b hb).1⟩⟩
  rw[Int.mul_one]
 done:=by
  intro X hP hw hK hc i pins s σ H E I hf st hg
  subst hP hw hK
  obtain⟨f0,f1,f2,f3,f4,f5⟩:=hf it (by simp)
  exact wpAny_pyNext_range_end (I.ok.hd hc) st (by have:n≤i:=hg;omega) fun h' eb=>⟨rfl,I.turned (t':=s.toks) (fun b o hb e=>eb b o hb e) f0 f1 f3 f4 f5⟩
 self:=fun _ _ _ _ _ st h=>wpAny_pyIter_rangeiter st h
end L2
namespace L2
open PySem PySem.Spec PyProof.Rows
section
variable {X:Cx}{tg:Expr}
def iList (K:PySem.W.Frag) (tl:TE):TI:=fun σ H R=>tl σ H fun x H1=>∃a,x = .ref a∧(∃xs,SqL K H1 a xs)∧R (Itl K a) H1
theorem pi_list {l:Expr}{tl:TE}(hl:PE X l tl):PI X tg l (iList X.K tl):=by
 intro pins s σ H R I h
 refine thn (hl pins s σ H _ I h) fun v s1 ⟨x,H1,I1,r1,q1⟩=>?_
 obtain⟨a,e,⟨xs,hq⟩,q⟩:=q1
 subst e
 cases r1
 obtain⟨its,rv,p,hz⟩:=I1.list hq
 refine wpAny_pyIter_list p.isList ?_
 refine⟨s1.heap.objs.size,[s1.heap.objs.size],_,_,H1,rfl,I1.kept (t':=s1.toks) fun b o e=>Heap.get?_push_of_some _ e,turn_list a _,⟨_,Heap.get?_push_size _ rfl,rfl,rfl⟩,fun b hb=>?_,q⟩
 have e:b=s1.heap.objs.size:=by simpa using hb
 subst e
 exact I1.fpOk (Nat.le_refl _) (I1.hok.fresh (Nat.le_refl _))
theorem range_it {pins:List (Addr×Obj)}{σ:St}{H:Hp}{s:Shared}{R:It→Hp→Prop}{E:Value→Shared→Prop}{lo hi:Int}{t u v:Tok}{tk:Nat}(I:Inv X pins σ H s) (h1:-(2^62)≤lo) (h2:lo<2^62) (h3:-(2^62)≤hi) (h4:hi<2^62)
  (q:R (Itr lo (hi-lo).toNat) H):wpAny (model X.prog X.w) X.A (pyIter (.ref s.heap.objs.size)) (PIE X pins σ tg R) E { s with heap:=s.heap.push { cls:=.type "range",data:=.fields #[.int lo t,.int hi u,.int 1 v] },toks:=tk }:=by
 refine wpAny_pyIter_range (IsRange.new ..) (small_one h1 h2 h3 h4) ?_
 have I1:Inv X pins σ H { s with heap:=s.heap.push { cls:=.type "range",data:=.fields #[.int lo t,.int hi u,.int 1 v] },toks:=tk }:=I.kept fun b o e=>Heap.get?_push_of_some _ e
 refine⟨(s.heap.push { cls:=.type "range",data:=.fields #[.int lo t,.int hi u,.int 1 v] }).objs.size,[(s.heap.push { cls:=.type "range",data:=.fields #[.int lo t,.int hi u,.int 1 v] }).objs.size],_,_,H,rfl,
  I1.kept (t':=tk) fun b o e=>Heap.get?_push_of_some _ e,turn_range _ lo (hi-lo).toNat,?_,fun b hb=>?_,q⟩
 ·have e1:lo+((0:Nat):Int)*1=lo:=by simp
  have e2:(((hi-lo).toNat:Nat):Int)-((0:Nat):Int)=Builtin.Range.rangeSize lo hi 1:=by rw[rangeSize_one];split <;> omega
  show IsRangeIter _ _ (lo+((0:Nat):Int)*1) ((((hi-lo).toNat:Nat):Int)-((0:Nat):Int)) 1
  rw[e1,e2]
  exact Heap.get?_push_size _ rfl
 ·have e:b =(s.heap.push { cls:=.type "range",data:=.fields #[.int lo t,.int hi u,.int 1 v] }).objs.size:=by simpa using hb
  subst e
  exact I1.fpOk (Nat.le_refl _) (I1.hok.fresh (Nat.le_refl _))
def iRng1 (ta:TA):TI:=fun σ H R=>ta σ H fun vs H1=>∃j:Int,vs=[.int j]∧-(2^62)≤j∧j<2^62∧R (Itr 0 j.toNat) H1
theorem pi_range1 {a:Expr}{ta:TA}{p pos:Pos}(hg:Gl X "range") (hm:X.mg "range" = none) (ha:PA X [a] ta) (hs:starEach [a] X.env=[(false,eval a X.env)]:=by rfl):PI X tg (.Call (.Name "range" p) [a] [] pos) (iRng1 ta):=by
 intro pins s σ H R I h
 refine Call_ (ld_blt I hg hm boot_range (PyProof.Rows.callWith_type1 (thn (ha pos pins s σ H _ I h) fun us s1 ⟨vs,H1,I1,r1,q1⟩=>?_) hs rfl))
 obtain⟨j,e,q1,q2,q⟩:=q1
 subst e
 cases r1 with
 | cons r rr =>
  cases rr
  obtain⟨t,rfl⟩:=r
  exact call_range_1 (range_it I1 (by omega) (by omega) q1 q2 (by simpa using q))
def tFor (wi:TI) (g:TG) (tb:TS):TS:=fun D σ H=>wi σ H fun J H1=>∃W:Nat→Nat→St→Hp→Prop,(∃m,W 0 m σ H1)∧∀i m σ H,W i m σ H →
 (J.stop i H∧D.nx σ H) ∨(J.go i H∧∃N:St→Hp→Prop,(∀σ' H',N σ' H'→∃m',m'<m∧W (i+1) m' σ' H')∧∀x H',J.yld i H x H'→g x σ H' fun σ2 H2=>tb { D with nx:=N,ct:=N,bk:=D.nx } σ2 H2)
def pinsAt (fp:List Addr) (h:Heap):List (Addr×Obj):=fp.filterMap fun b=>(h.get? b).map fun o=>(b,o)
theorem mem_pinsAt {fp:List Addr}{h:Heap}{b:Addr}{o:Obj}(hb:b∈fp) (e:h.get? b=some o):(b,o)∈pinsAt fp h:=List.mem_filterMap.mpr ⟨b,hb,by rw[e];rfl⟩
theorem of_pinsAt {fp:List Addr}{h:Heap}{p:Addr×Obj}(hp:p∈pinsAt fp h):p.1∈fp∧h.get? p.1=some p.2:=by
 obtain⟨b,hb,e⟩:=List.mem_filterMap.mp hp
 cases q:h.get? b with
 | none=>rw[q]at e;cases e
 | some o =>
  rw[q]at e
  have e':(b,o)=p:=Option.some.inj e
  subst e'
  exact⟨hb,q⟩
theorem Inv.pinned {pins:List (Addr×Obj)}{σ:St}{H:Hp}{s:Shared}{fp:List Addr}(I:Inv X pins σ H s) (hf:∀b∈fp,FpOk X pins H b) (ho:∀b∈fp,∃o,s.heap.get? b=some o∧∀v,o.data ≠ .cell v):Inv X (pins++pinsAt fp s.heap) σ H s :=
 I.pins_of fun p hp=>(List.mem_append.mp hp).elim (fun z=>I.pin p (List.mem_append_right _ z)) fun z=>by
  obtain⟨hb,e⟩:=of_pinsAt z
  obtain⟨f0,f1,f2,_⟩:=hf p.1 hb
  obtain⟨o,e',d⟩:=ho p.1 hb
  rw[e]at e';cases e'
  exact⟨e,f0,f1,f2,d⟩
theorem Inv.unpinned {pins pl:List (Addr×Obj)}{σ:St}{H:Hp}{s:Shared}(I:Inv X (pins++pl) σ H s):Inv X pins σ H s:=I.pins_of fun p hp=>I.pin p (List.mem_append_right _ (List.mem_append_left _ hp))
theorem ps_for {iter:Expr}{body:List Stmt}{wi:TI}{g:TG}{tb:TS}{pos:Pos}(hp:PassesOwn (model X.prog X.w) X.A X.env X.xe) (hc:X.calm=true) (hi:PI X tg iter wi) (hg:PG X tg g) (hb:PSs X body tb)
  (hs:∀x,foldedSetIterable iter X.env x=pure x:=by intro _;rfl):PS X (.For tg iter body [] pos) (tFor wi g tb):=by
 intro pins s σ H D I h
 refine wpAny_For (thn (hi pins s σ H _ I h) fun v s1 h1=>thn h1 fun itv s2 h2=>?_) hs
 obtain⟨it,fp,tn,J,H2,e,I2,T,st2,f2,W,⟨m0,w0⟩,turn⟩:=h2
 subst e
 have stat:∀{H':Hp},(∀b∈fp,H' b=none)→∀b∈fp,FpOk X pins H' b:=fun hn b hb=>⟨hn b hb,(f2 b hb).2⟩
 refine codeAny_forLoop_any (fun n s'=>∃i σ' H',Inv X pins σ' H' s'∧tn i s'.heap∧(∀b∈fp,H' b=none)∧W i n σ' H') ?_ m0 ⟨0,σ,H2,I2,st2,fun b hb=>(f2 b hb).1,w0⟩
 rintro n s3 ⟨i,σ3,H3,I3,st3,fr3,w3⟩
 rcases turn i n σ3 H3 w3 with⟨stop,qn⟩|⟨go,N,hN,step⟩
 ·refine wpAny_passesOwn hp (thn (T.done X rfl rfl rfl hc i pins s3 σ3 H3 X.xe I3 (stat fr3) st3 stop) fun r s4 ⟨hr,I4⟩=>?_)
  subst hr
  exact wpAny_execs_nil ⟨σ3,H3,I4,qn⟩
 ·refine wpAny_passesOwn hp (thn (T.item X rfl rfl rfl hc i pins s3 σ3 H3 X.xe I3 (stat fr3) st3 go) fun r s4 ⟨u,hr,h4⟩=>?_)
  subst hr
  refine wpAny_passesOwn hp (thn h4 fun _ s5 ⟨x,H5,I5,r5,y5,st5,fr5⟩=>?_)
  have I5':=I5.pinned (stat fr5) (T.obj _ _ st5)
  refine wpAny_passesOwn hp (thn (hg _ s5 σ3 H5 x u _ I5' r5 (step x H5 y5)) fun _ s6 ⟨σ6,H6,I6,q6⟩=>?_)
  refine wpAny_passesOwn hp (thn (hb _ s6 σ6 H6 _ I6 q6) fun f s7 q7=>?_)
  have again:∀{σ7:St}{H7:Hp},Inv X (pins++pinsAt fp s5.heap) σ7 H7 s7→N σ7 H7→∃m,m<n∧∃i σ' H',Inv X pins σ' H' s7∧tn i s7.heap∧(∀b∈fp,H' b=none)∧W i m σ' H':=fun {σ7 H7} I7 n7=>by
   obtain⟨m',hm,w7⟩:=hN σ7 H7 n7
   refine⟨m',hm,i+1,σ7,H7,I7.unpinned,T.keep _ _ _ st5 fun b hb o e=>(I7.pin (b,o) (List.mem_append_right _ (List.mem_append_right _ (mem_pinsAt hb e)))).1,fun b hb=>?_,w7⟩
   obtain⟨o,e,d⟩:=T.obj _ _ st5 b hb
   exact(I7.pin (b,o) (List.mem_append_right _ (List.mem_append_right _ (mem_pinsAt hb e)))).2.1
  cases f with
  | next=>obtain⟨σ7,H7,I7,n7⟩:=q7;exact again I7 n7
  | cont=>obtain⟨σ7,H7,I7,n7⟩:=q7;exact again I7 n7
  | brk=>obtain⟨σ7,H7,I7,q7⟩:=q7;exact⟨σ7,H7,I7.unpinned,q7⟩
  | ret v=>obtain⟨x7,σ7,H7,I7,r7,q7⟩:=q7;exact⟨x7,σ7,H7,I7.unpinned,r7,q7⟩
end
theorem for_range {lo:Int}{n:Nat}{g:TG}{tb:TS}{D:Ends}{σ:St}{H:Hp}(Pv:Nat→St→Hp→Prop) (h0:Pv 0 σ H)
  (hs:∀i σ H,i<n→Pv i σ H→g (.int (lo+i)) σ H fun σ2 H2=>tb { D with nx:=Pv (i+1),ct:=Pv (i+1),bk:=D.nx } σ2 H2) (hd:∀σ H,Pv n σ H→D.nx σ H) :
  ∃W:Nat→Nat→St→Hp→Prop,(∃m,W 0 m σ H)∧∀i m σ H,W i m σ H →
   ((Itr lo n).stop i H∧D.nx σ H) ∨((Itr lo n).go i H∧∃N:St→Hp→Prop,(∀σ' H',N σ' H'→∃m',m'<m∧W (i+1) m' σ' H')∧∀x H',(Itr lo n).yld i H x H'→g x σ H' fun σ2 H2=>tb { D with nx:=N,ct:=N,bk:=D.nx } σ2 H2):=by
 refine⟨fun i m σ H=>m=n-i∧i≤n∧Pv i σ H,⟨n,by simp,Nat.zero_le _,h0⟩,?_⟩
 rintro i m σ H ⟨rfl,hi,p⟩
 by_cases hlt:i<n
 ·refine .inr ⟨hlt,Pv (i+1),fun σ' H' p'=>⟨n-(i+1),by omega,rfl,hlt,p'⟩,fun x H' y=>?_⟩
  obtain⟨e,y⟩:=y
  subst e y
  exact hs i σ _ hlt p
 ·have e:i=n:=by omega
  subst e
  exact .inl ⟨Nat.le_refl _,hd σ H p⟩
end L2
namespace L2
open PySem PySem.Spec PyProof.Rows
abbrev R2:=V→V→Hp→VK→Prop
def OpR (X:Cx) (f:Value→Value→Sem Value) (r:R2):Prop :=
 ∀(pins:List (Addr×Obj)) (s:Shared) (σ:St) (H:Hp) (x y:V) (v u:Value) (Q:VK),Inv X pins σ H s→RelV x v→RelV y u→r x y H Q →
  wpAny (model X.prog X.w) X.A (f v u) (EP X pins σ Q) X.xe s
def CallR (X:Cx) (f:Value) (r:List V→Hp→VK→Prop):Prop :=
 ∀(pins:List (Addr×Obj)) (s:Shared) (σ:St) (H:Hp) (xs:List V) (us:List Value) (Q:VK),Inv X pins σ H s→Vals xs us→r xs H Q →
  wpAny (model X.prog X.w) X.A (call f us) (EP X pins σ Q) X.xe s
def tOp (r:R2) (ta tb:TE):TE:=fun σ H Q=>ta σ H fun x H1=>tb σ H1 fun y H2=>r x y H2 Q
def rI (C:Int→Int→Prop) (g:Int→Int→V):R2:=fun x y H Q=>∃i j,x = .int i∧y = .int j∧C i j∧Q (g i j) H
def rI0 (g:Int→Int→V):R2:=fun x y H Q=>∃i j,x = .int i∧y = .int j∧Q (g i j) H
section
variable {X:Cx}{a b c:Expr}{ta tb tc:TE}{pos:Pos}
theorem binT (ha:PE X a ta) (hb:PE X b tb) {pins:List (Addr×Obj)}{s:Shared}{σ:St}{H:Hp}{R:V→V→Hp→Prop}(I:Inv X pins σ H s)
  (h:ta σ H fun x H1=>tb σ H1 fun y H2=>R x y H2) {Q:Value→Shared→Prop}{f:Value→Value→Sem Value}
  (hf:∀v u s2 x y H2,Inv X pins σ H2 s2→RelV x v→RelV y u→R x y H2→wpAny (model X.prog X.w) X.A (f v u) Q X.xe s2) :
  wpAny (model X.prog X.w) X.A (eval a X.env) (fun v s₁=>wpAny (model X.prog X.w) X.A (eval b X.env) (fun u s₂=>wpAny (model X.prog X.w) X.A (f v u) Q X.xe s₂) X.xe s₁) X.xe s:=by
 refine thn (ha pins s σ H _ I h) fun v s1 ⟨x,H1,I1,r1,q1⟩=>?_
 refine thn (hb pins s1 σ H1 _ I1 q1) fun u s2 ⟨y,H2,I2,r2,q2⟩=>?_
 exact hf v u s2 x y H2 I2 r1 r2 q2
theorem pe_op {op:Operator}{r:R2}(ho:OpR X (binaryOp op) r) (ha:PE X a ta) (hb:PE X b tb):PE X (.BinOp a op b pos) (tOp r ta tb):=by
 intro pins s σ H Q I h
 exact wpAny_BinOp (binT ha hb I h fun v u s2 x y H2 I2 rx ry q=>ho pins s2 σ H2 x y v u Q I2 rx ry q)
theorem opI {f:Value→Value→Sem Value}{C:Int→Int→Prop}{g:Int→Int→Int}
  (rule:∀(i j:Int) (t u:Tok) (s:Shared) (Q:Value→Shared→Prop) (E:Value→Shared→Prop),C i j→Q (.int (g i j) s.toks) { s with toks:=s.toks+1 }→wpAny (model X.prog X.w) X.A (f (.int i t) (.int j u)) Q E s) :
  OpR X f (rI C fun i j=>.int (g i j)):=by
 intro pins s σ H x y v u Q I rx ry h
 obtain⟨i,j,rfl,rfl,hc,q⟩:=h
 obtain⟨t,rfl⟩:=rx
 obtain⟨t',rfl⟩:=ry
 exact rule i j t t' s _ _ hc ⟨.int (g i j),H,I.tok _,⟨_,rfl⟩,q⟩
theorem opI0 {f:Value→Value→Sem Value}{g:Int→Int→Int}
  (rule:∀(i j:Int) (t u:Tok) (s:Shared) (Q:Value→Shared→Prop) (E:Value→Shared→Prop),Q (.int (g i j) s.toks) { s with toks:=s.toks+1 }→wpAny (model X.prog X.w) X.A (f (.int i t) (.int j u)) Q E s) :
  OpR X f (rI0 fun i j=>.int (g i j)):=by
 intro pins s σ H x y v u Q I rx ry h
 obtain⟨i,j,rfl,rfl,q⟩:=h
 obtain⟨t,rfl⟩:=rx
 obtain⟨t',rfl⟩:=ry
 exact rule i j t t' s _ _ ⟨.int (g i j),H,I.tok _,⟨_,rfl⟩,q⟩
theorem opB0 {f:Value→Value→Sem Value}{g:Int→Int→Bool}
  (rule:∀(i j:Int) (t u:Tok) (s:Shared) (Q:Value→Shared→Prop) (E:Value→Shared→Prop),Q (.bool (g i j)) s→wpAny (model X.prog X.w) X.A (f (.int i t) (.int j u)) Q E s) :
  OpR X f (rI0 fun i j=>.bl (g i j)):=by
 intro pins s σ H x y v u Q I rx ry h
 obtain⟨i,j,rfl,rfl,q⟩:=h
 obtain⟨t,rfl⟩:=rx
 obtain⟨t',rfl⟩:=ry
 exact rule i j t t' s _ _ ⟨.bl (g i j),H,I,rfl,q⟩
def CPow (i j:Int):Prop:=0≤j∧j≤1000000∧i.natAbs<2^64
def CMul (i j:Int):Prop:=(-(2^64)<i∧i<2^64) ∨(-(2^64)<j∧j<2^64)
theorem CMul.ok {i j:Int}(h:CMul i j):IntMulOk i j:=by
 rcases h with⟨h1,h2⟩|⟨h1,h2⟩
 ·exact .of_left (intBits_le_64 h1 h2)
 ·exact .of_right (intBits_le_64 h1 h2)
theorem op_add:OpR X (binaryOp .Add) (rI0 fun i j=>.int (i+j)):=opI0 fun _ _ _ _ _ _ _ q=>add_int q
theorem op_sub:OpR X (binaryOp .Sub) (rI0 fun i j=>.int (i-j)):=opI0 fun _ _ _ _ _ _ _ q=>sub_int q
theorem op_mul:OpR X (binaryOp .Mult) (rI CMul fun i j=>.int (i*j)):=opI fun _ _ _ _ _ _ _ hc q=>mul_int q hc.ok
theorem op_mod:OpR X (binaryOp .Mod) (rI (fun _ j=>0<j) fun i j=>.int (i%j)):=opI fun i j _ _ _ _ _ hc q=>by
 have h1:(0:Int)<j:=hc
 exact mod_int' (by omega) (by rw[Int.fmod_eq_emod_of_nonneg i (by omega)];exact q)
theorem op_pow:OpR X (binaryOp .Pow) (rI CPow fun i j=>.int (i^j.toNat)):=opI fun _ _ _ _ _ _ _ hc q=>pow_int_small hc.1 hc.2.1 hc.2.2 q
end
def scal:V→V→Bool
 | .non,.non=>true | .non,.int _=>true | .int _,.non=>true | .non,.bl _=>true | .bl _,.non=>true | .non,.str _=>true | .str _,.non=>true
 | .int _,.int _=>true | .bl _,.bl _=>true | .str _,.str _=>true | .byt _,.byt _=>true
 | .int _,.str _=>true | .str _,.int _=>true | .bl _,.str _=>true | .str _,.bl _=>true
 | _,_=>false
def rEq:R2:=fun x y H Q=>scal x y=true∧Q (.bl (decide (x=y))) H
def rNe:R2:=fun x y H Q=>scal x y=true∧Q (.bl (!decide (x=y))) H
theorem dec_int {i j:Int}:decide (V.int i=V.int j) =(i == j):=by
 rw[Bool.eq_iff_iff]
 simp
theorem dec_bl {i j:Bool}:decide (V.bl i=V.bl j) =(i == j):=by
 rw[Bool.eq_iff_iff]
 simp
theorem dec_str {i j:Str}:decide (V.str i=V.str j) =(i == j):=by
 rw[Bool.eq_iff_iff]
 simp
theorem dec_byt {i j:Array UInt8}:decide (V.byt i=V.byt j) =(i.toList == j.toList):=by
 rw[Bool.eq_iff_iff]
 cases i
 cases j
 simp
section
variable {X:Cx}{a b c:Expr}{ta tb tc:TE}{pos:Pos}
theorem fin_bl {pins:List (Addr×Obj)}{σ:St}{H:Hp}{s:Shared}{Q:VK}{k k':Bool}(I:Inv X pins σ H s) (q:Q (.bl k) H) (e:k=k'):EP X pins σ Q (.bool k') s:=by
 subst e
 exact⟨.bl k,H,I,rfl,q⟩
theorem op_eq:OpR X (compareOp .Eq) rEq:=by
 intro pins s σ H x y v u Q I rx ry h
 obtain⟨hs,q⟩:=h
 cases x with
 | non =>
  cases rx
  cases y with
  | non=>cases ry;exact PySem.EqNone.eq_none_none (fin_bl I q (by simp))
  | bl j=>cases ry;exact PySem.EqNone.eq_none_bool (fin_bl I q (by simp))
  | int j=>obtain⟨t',rfl⟩:=ry;exact PySem.EqNone.eq_none_int (fin_bl I q (by simp))
  | str j=>obtain⟨t',rfl⟩:=ry;exact PySem.EqNone.eq_none_str (fin_bl I q (by simp))
  | _=>exact absurd (show false=true from hs) Bool.false_ne_true
 | bl i =>
  cases rx
  cases y with
  | non=>cases ry;exact PySem.EqNone.eq_bool_none (fin_bl I q (by simp))
  | bl j=>cases ry;exact eq_bool (fin_bl I q dec_bl)
  | str j=>obtain⟨t',rfl⟩:=ry;exact PySem.EqMixed.eq_bool_str (fin_bl I q (by simp))
  | _=>exact absurd (show false=true from hs) Bool.false_ne_true
 | int i =>
  obtain⟨t,rfl⟩:=rx
  cases y with
  | non=>cases ry;exact PySem.EqNone.eq_int_none (fin_bl I q (by simp))
  | int j=>obtain⟨t',rfl⟩:=ry;exact eq_int (fin_bl I q dec_int)
  | str j=>obtain⟨t',rfl⟩:=ry;exact PySem.EqMixed.eq_int_str (fin_bl I q (by simp))
  | _=>exact absurd (show false=true from hs) Bool.false_ne_true
 | str i =>
  obtain⟨t,rfl⟩:=rx
  cases y with
  | non=>cases ry;exact PySem.EqNone.eq_str_none (fin_bl I q (by simp))
  | bl j=>cases ry;exact PySem.EqMixed.eq_str_bool (fin_bl I q (by simp))
  | int j=>obtain⟨t',rfl⟩:=ry;exact PySem.EqMixed.eq_str_int (fin_bl I q (by simp))
  | str j=>obtain⟨t',rfl⟩:=ry;exact eq_str (fin_bl I q dec_str)
  | _=>exact absurd (show false=true from hs) Bool.false_ne_true
 | byt i =>
  obtain⟨t,rfl⟩:=rx
  cases y with
  | byt j=>obtain⟨t',rfl⟩:=ry;exact PySem.W.eq_bytes (fin_bl I q dec_byt)
  | _=>exact absurd (show false=true from hs) Bool.false_ne_true
 | _=>cases y <;> exact absurd (show false=true from hs) Bool.false_ne_true
theorem op_ne:OpR X (compareOp .NotEq) rNe:=by
 intro pins s σ H x y v u Q I rx ry h
 obtain⟨hs,q⟩:=h
 cases x with
 | non =>
  cases rx
  cases y with
  | non=>cases ry;exact PySem.EqNone.ne_none_none (fin_bl I q (by simp))
  | bl j=>cases ry;exact PySem.EqNone.ne_none_bool (fin_bl I q (by simp))
  | int j=>obtain⟨t',rfl⟩:=ry;exact PySem.EqNone.ne_none_int (fin_bl I q (by simp))
  | str j=>obtain⟨t',rfl⟩:=ry;exact PySem.EqNone.ne_none_str (fin_bl I q (by simp))
  | _=>exact absurd (show false=true from hs) Bool.false_ne_true
 | bl i =>
  cases rx
  cases y with
  | non=>cases ry;exact PySem.EqNone.ne_bool_none (fin_bl I q (by simp))
  | bl j=>cases ry;exact ne_bool (fin_bl I q (congrArg not dec_bl))
  | str j=>obtain⟨t',rfl⟩:=ry;exact PySem.EqMixed.ne_bool_str (fin_bl I q (by simp))
  | _=>exact absurd (show false=true from hs) Bool.false_ne_true
 | int i =>
  obtain⟨t,rfl⟩:=rx
  cases y with
  | non=>cases ry;exact PySem.EqNone.ne_int_none (fin_bl I q (by simp))
  | int j=>obtain⟨t',rfl⟩:=ry;exact ne_int (fin_bl I q (congrArg not dec_int))
  | str j=>obtain⟨t',rfl⟩:=ry;exact PySem.EqMixed.ne_int_str (fin_bl I q (by simp))
  | _=>exact absurd (show false=true from hs) Bool.false_ne_true
 | str i =>
  obtain⟨t,rfl⟩:=rx
  cases y with
  | non=>cases ry;exact PySem.EqNone.ne_str_none (fin_bl I q (by simp))
  | bl j=>cases ry;exact PySem.EqMixed.ne_str_bool (fin_bl I q (by simp))
  | int j=>obtain⟨t',rfl⟩:=ry;exact PySem.EqMixed.ne_str_int (fin_bl I q (by simp))
  | str j=>obtain⟨t',rfl⟩:=ry;exact ne_str (fin_bl I q (congrArg not dec_str))
  | _=>exact absurd (show false=true from hs) Bool.false_ne_true
 | byt i =>
  obtain⟨t,rfl⟩:=rx
  cases y with
  | byt j=>obtain⟨t',rfl⟩:=ry;exact PySem.W.ne_bytes (fin_bl I q (congrArg not dec_byt))
  | _=>exact absurd (show false=true from hs) Bool.false_ne_true
 | _=>cases y <;> exact absurd (show false=true from hs) Bool.false_ne_true
theorem op_lt:OpR X (compareOp .Lt) (rI0 fun i j=>.bl (decide (i<j))):=opB0 fun _ _ _ _ _ _ _ q=>lt_int q
theorem op_gt:OpR X (compareOp .Gt) (rI0 fun i j=>.bl (decide (j<i))):=opB0 fun _ _ _ _ _ _ _ q=>gt_int q
theorem op_ge:OpR X (compareOp .GtE) (rI0 fun i j=>.bl (decide (j≤i))):=opB0 fun _ _ _ _ _ _ _ q=>ge_int q
theorem nomark (b:Expr) {op:CmpOp}(h:op ≠ .In:=by decide) (h2:op ≠ .NotIn:=by decide):behindInMarks op b=false:=by
 have e1:(op == CmpOp.In)=false:=by cases op <;> first|rfl|exact absurd rfl h
 have e2:(op == CmpOp.NotIn)=false:=by cases op <;> first|rfl|exact absurd rfl h2
 cases b <;> simp[behindInMarks,e1,e2]
theorem pe_cmpR {op:CmpOp}{r:R2}(ho:OpR X (compareOp op) r) (ha:PE X a ta) (hb:PE X b tb) (hm:behindInMarks op b=false):PE X (.Compare a [op] [b] pos) (tOp r ta tb):=by
 intro pins s σ H Q I h
 exact wpAny_Compare1 (binT ha hb I h fun v u s2 x y H2 I2 rx ry q=>ho pins s2 σ H2 x y v u Q I2 rx ry q) hm
def tTest (t:TE):TT:=fun σ H Q=>t σ H fun x H'=>∃k,x = .bl k∧Q k H'
theorem pt_cmpR {op:CmpOp}{r:R2}(ho:OpR X (compareOp op) r) (ha:PE X a ta) (hb:PE X b tb) (hm:behindInMarks op b=false):PT X (.Compare a [op] [b] pos) (tTest (tOp r ta tb)):=by
 intro pins s σ H Q I h
 refine wpAny_isTrue_Compare1 (thn (ha pins s σ H _ I h) fun v s1 ⟨x,H1,I1,r1,q1⟩=>thn (hb pins s1 σ H1 _ I1 q1) fun u s2 ⟨y,H2,I2,r2,q2⟩ =>
  thn (ho pins s2 σ H2 x y v u _ I2 r1 r2 q2) fun c s3 ⟨z,H3,I3,r3,k,e,q3⟩=>?_) hm
 subst e
 cases r3
 exact wpAny_truthy_bool ⟨H3,I3,q3⟩
theorem line63:(sizeLine:Nat)<2^63:=by rw[sizeLine_eq];decide
theorem vals1 {x:V}{us:List Value}(r:Vals [x] us):∃u,us=[u]∧RelV x u:=by
 cases r with
 | cons r1 r2=>cases r2;exact⟨_,rfl,r1⟩
theorem vals2 {x y:V}{us:List Value}(r:Vals [x,y] us):∃u w',us=[u,w']∧RelV x u∧RelV y w':=by
 cases r with
 | cons r1 r2 =>
  cases r2 with
  | cons r3 r4=>cases r4;exact⟨_,_,rfl,r1,r3⟩
theorem call_abs:CallR X (.builtin "abs") (fun xs H Q=>∃i,xs=[.int i]∧Q (.int (if i<0 then -i else i)) H):=by
 intro pins s σ H xs us Q I r h
 obtain⟨i,rfl,q⟩:=h
 obtain⟨u,rfl,t,rfl⟩:=vals1 r
 exact call_abs_int fun u tk=>⟨.int (if i<0 then -i else i),H,I.tok _,⟨_,rfl⟩,q⟩
theorem call_max2 (hc:X.calm=true):CallR X (.builtin "max") (fun xs H Q=>∃i j,xs=[.int i,.int j]∧Q (.int (if j > i then j else i)) H):=by
 intro pins s σ H xs us Q I r h
 obtain⟨i,j,rfl,q⟩:=h
 obtain⟨u,w',rfl,⟨t,rfl⟩,⟨t',rfl⟩⟩:=vals2 r
 refine max_two_ints (I.ok.hd hc) fun h' tk k=>⟨_,H,I.kept k,?_,q⟩
 by_cases hj:j > i
 ·rw[if_pos hj,if_pos hj];exact⟨_,rfl⟩
 ·rw[if_neg hj,if_neg hj];exact⟨_,rfl⟩
theorem call_min2 (hc:X.calm=true):CallR X (.builtin "min") (fun xs H Q=>∃i j,xs=[.int i,.int j]∧Q (.int (if j<i then j else i)) H):=by
 intro pins s σ H xs us Q I r h
 obtain⟨i,j,rfl,q⟩:=h
 obtain⟨u,w',rfl,⟨t,rfl⟩,⟨t',rfl⟩⟩:=vals2 r
 refine min_two_ints (I.ok.hd hc) fun h' tk k=>⟨_,H,I.kept k,?_,q⟩
 by_cases hj:j<i
 ·rw[if_pos hj,if_pos hj];exact⟨_,rfl⟩
 ·rw[if_neg hj,if_neg hj];exact⟨_,rfl⟩
end
end L2
namespace L2
open PySem PySem.Spec PyProof.Rows
structure ObjM (h:Heap) (x dx C:Addr) (mA:Str→Option Value):Prop where
 obj:h.get? x=some (PySem.W.instObj C dx)
 ns:h.Ns1 dx mA
 ne:dx≠x
theorem lookIn_ns {h:Heap}{dx:Addr}{mA:Str→Option Value}(n:h.Ns1 dx mA):∃od,h.get? dx=some od∧∀name,PySem.W.lookIn name od=some (mA name):=by
 obtain⟨o,es,ep,ho,hd,hk,_,hm⟩:=n
 refine⟨o,ho,fun name=>?_⟩
 have e:=hm name
 unfold nsFind findBy at e
 rw[← Array.find?_toList]at e
 unfold PySem.W.lookIn
 rw[hd]
 dsimp only
 split
 ·rename_i y q
  rw[q]at e
  exact congrArg some e
 ·rename_i q
  rw[q]at e
  have a:es.toList.any (·.refKey)=false:=by
   rw[List.any_eq_false]
   intro y hy
   obtain⟨z,t,hkey⟩:=hk y (Array.mem_toList_iff.mp hy)
   simp[DictEntry.refKey,hkey]
  have a':¬ es.toList.any (·.refKey)=true:=by rw[a];exact Bool.false_ne_true
  rw[if_neg a']
  exact congrArg some e
theorem ObjM.look {h:Heap}{x dx C:Addr}{mA:Str→Option Value}(I:ObjM h x dx C mA):∃od,PySem.W.InstAt h x (PySem.W.instObj C dx) C (some od)∧∀name,PySem.W.lookIn name od=some (mA name) :=
 let ⟨od,ho,hl⟩:=lookIn_ns I.ns
 ⟨od,⟨I.obj,rfl,rfl,ho⟩,hl⟩
section
variable {prog:Program}{w:World}{A:Around}{E:Value→Shared→Prop}{s:Shared}{K:PySem.W.Frag}{x dx C f:Addr}{mA:Str→Option Value}{name:Str}{v:Value}
end
theorem RelO.some_of {v:V}{o:Option Value}(r:RelO (some v) o):∃u,o=some u∧RelV v u:=by
 cases o with
 | none=>exact(show False from r).elim
 | some u=>exact⟨u,rfl,r⟩
theorem handed_of {v:V}{u:Value}(r:RelV v u):PySem.W.handedIn u=true:=by
 cases v with
 | non=>cases (show u=Value.none from r);rfl
 | bl b=>cases (show u=Value.bool b from r);rfl
 | int i=>obtain⟨t,e⟩:=(show ∃t,u=Value.int i t from r);cases e;rfl
 | str x=>obtain⟨t,e⟩:=(show ∃t,u=Value.str x t from r);cases e;rfl
 | byt b=>obtain⟨t,e⟩:=(show ∃t,u=Value.bytes b t from r);cases e;rfl
 | flt b=>obtain⟨t,e⟩:=(show ∃t,u=Value.float b t from r);cases e;rfl
 | ref a=>cases (show u=Value.ref a from r);rfl
 | ty n=>cases (show u=Value.type n from r);rfl
section
variable {P:Program}{w:World}{H H':Hp}{h h':Heap}{a C dx:Addr}{fs fs':List (Str×V)}
theorem ins_get (hok:HOk P w H h) (e:H a=some (.ins C dx fs)):∃mA,ObjM h a dx C mA∧(∀f,RelO (fs.lookup f) (mA f))∧PySem.Within mA (fs.map (·.1))∧fs.length≤1000∧H dx=some (.own a):=by
 obtain⟨d,z,ne,ob,mA,n,r,q⟩:=(show ObjOk P w H h a (.ins C dx fs) from hok a _ e)
 exact⟨mA,⟨ob,n,ne⟩,r,q,z,d⟩
end
structure Cls (K:PySem.W.Frag) (C:Addr):Prop where
 pg:PySem.W.plainGet K C Str.empty=true
 hd:PySem.W.hasDictIn K C=true
 po:PySem.W.plainOver K C=true
 sa:PySem.W.findIn K (.ref C) "__setattr__" = some (some (.builtin "object.__setattr__"))
theorem Cls.get {K:PySem.W.Frag}{C:Addr}(c:Cls K C) (f:Str):PySem.W.plainGet K C f=true:=c.pg
section
variable {X:Cx}{pins:List (Addr×Obj)}{σ:St}{H:Hp}{s:Shared}{a C dx:Addr}{fs:List (Str×V)}{f:Str}{v:V}{A:Around}{E:Value→Shared→Prop}
theorem attr_of {prog:Program}{w:World}{env:Env}{e:Expr}{f:Str}{pos:Pos}{s:Shared}{Q:Value→Shared→Prop}(hb:attributeBase e f env (eval e env)=eval e env)
  (h:wpAny (model prog w) A (eval e env) (fun o s₁=>wpAny (model prog w) A (getAttr o f true) Q E s₁) E s):wpAny (model prog w) A (eval (.Attribute e f pos) env) Q E s :=
 Attribute_any_ h (by rw[arm_eval_Attribute,hb])
end
section
variable {X:Cx}{o e value:Expr}{f:Str}{pos pos' tpos:Pos}{ta tv:TE}
end
section
variable {X:Cx}{pins:List (Addr×Obj)}{σ:St}{H:Hp}{s:Shared}{A:Around}{E:Value→Shared→Prop}{Q:Value→Shared→Prop}{c:Value}{b:Bool}
inductive TyOf (K:PySem.W.Frag) (H:Hp):V→Value→Prop where
 | non:TyOf K H .non (.type "NoneType")
 | bl (x:Bool):TyOf K H (.bl x) (.type "bool")
 | int (i:Int):TyOf K H (.int i) (.type "int")
 | str (x:Str):TyOf K H (.str x) (.type "str")
 | flt (x:UInt64):TyOf K H (.flt x) (.type "float")
 | lst {a:Addr}{xs:List V}(e:H a=some (.lst xs)):TyOf K H (.ref a) (.type "list")
 | frz {a:Addr}{o:Obj}{xs:List V}(e:H a=some (.frz o (.lst xs))):TyOf K H (.ref a) (.type "list")
 | tup {a:Addr}{xs:List V}(e:H a=some (.tup xs)):TyOf K H (.ref a) (.type "tuple")
 | dK {a:Addr}{kvs:List (Key×V)}(e:H a=some (.dK kvs)):TyOf K H (.ref a) (.type "dict")
 | dT {a:Addr}{kvs:List (List Key×V)}(e:H a=some (.dT kvs)):TyOf K H (.ref a) (.type "dict")
 | ins {a C dx:Addr}{fs:List (Str×V)}(e:H a=some (.ins C dx fs)) (cl:Cls K C) (ha:PySem.W.findIn K (.ref C) "__class__" = some (some (.builtin "object.__class__")))
   (hn:PySem.W.specialIn K (.builtin "object.__class__") "__get__" = some (some (.builtin "getset_descriptor.__get__"))) (htk:PySem.W.takesIn K (.builtin "object.__class__")=some true)
   (hm:PySem.W.mroIn K C (.type "object")=some true):TyOf K H (.ref a) (.ref C)
theorem isinst_ok {x:V}{u t:Value}(I:Inv X pins σ H s) (rx:RelV x u) (ty:TyOf X.K H x t) (e:PySem.W.kitOne X.K t c=some b) (h:∀tk,Q (.bool b) { s with toks:=tk }) :
  wpAny (model X.prog X.w) A (call (.builtin "isinstance") [u,c]) Q E s:=by
 cases ty with
 | non=>cases (show u=Value.none from rx);exact PySem.W.kia_one PySem.W.kitx_none I.kIn True.intro e (fun z=>nomatch z) h
 | bl y=>cases (show u=Value.bool y from rx);exact PySem.W.kia_one PySem.W.kitx_bool I.kIn True.intro e (fun z=>nomatch z) h
 | int i=>obtain⟨t,q⟩:=(show ∃t,u=Value.int i t from rx);cases q;exact PySem.W.kia_one PySem.W.kitx_int I.kIn True.intro e (fun z=>nomatch z) h
 | str y=>obtain⟨t,q⟩:=(show ∃t,u=Value.str y t from rx);cases q;exact PySem.W.kia_one PySem.W.kitx_str I.kIn True.intro e (fun z=>nomatch z) h
 | flt y=>obtain⟨t,q⟩:=(show ∃t,u=Value.float y t from rx);cases q;exact PySem.W.kia_one PySem.W.kitx_float I.kIn True.intro e (fun z=>nomatch z) h
 | @lst a xs ea =>
  cases (show u=Value.ref a from rx)
  obtain⟨_,_,n,_,h1⟩:=(show ObjOk X.prog X.w H s.heap a (.lst xs) from I.hok a _ ea)
  exact PySem.W.kia_one PySem.W.kitx_list I.kIn ⟨_,h1,rfl⟩ e (fun z=>nomatch z) h
 | @frz a ob xs ea =>
  cases (show u=Value.ref a from rx)
  obtain⟨_,_,_,n,_,h1⟩:=(show ObjOk X.prog X.w H s.heap a (.frz ob (.lst xs)) from I.hok a _ ea)
  exact PySem.W.kia_one PySem.W.kitx_list I.kIn ⟨_,h1,rfl⟩ e (fun z=>nomatch z) h
 | @tup a xs ea =>
  cases (show u=Value.ref a from rx)
  obtain⟨_,_,_,p⟩:=(show ObjOk X.prog X.w H s.heap a (.tup xs) from I.hok a _ ea)
  obtain⟨o,h1,h2,_⟩:=p
  exact PySem.W.kia_one PySem.W.kitx_tuple I.kIn ⟨o,h1,h2⟩ e (fun z=>nomatch z) h
 | @dK a kvs ea =>
  cases (show u=Value.ref a from rx)
  obtain⟨_,_,vs,_,p⟩:=(show ObjOk X.prog X.w H s.heap a (.dK kvs) from I.hok a _ ea)
  obtain⟨o,es,ep,h1,h2,_⟩:=p
  exact PySem.W.kia_one PySem.W.kitx_dict I.kIn ⟨o,h1,h2.1⟩ e (fun z=>nomatch z) h
 | @dT a kvs ea =>
  cases (show u=Value.ref a from rx)
  obtain⟨_,_,xs,_,o,es,ep,h1,h2,_⟩:=(show ObjOk X.prog X.w H s.heap a (.dT kvs) from I.hok a _ ea)
  exact PySem.W.kia_one PySem.W.kitx_dict I.kIn ⟨o,h1,h2.1⟩ e (fun z=>nomatch z) h
 | @ins a C dx fs ea cl ha hn htk hm =>
  cases (show u=Value.ref a from rx)
  obtain⟨mA,O,_⟩:=ins_get I.hok ea
  obtain⟨od,J,_⟩:=O.look
  exact PySem.W.kia_one (PySem.W.kitx_own (cl.get _) cl.hd ha hn htk hm) I.kIn J e (fun z=>nomatch z) h
end
end L2
namespace L2
open PySem PySem.Spec PyProof.Rows
structure Room (k:Nat) (A:Around):Prop where
 hd:A.handled=none
 dp:A.depth+3*k+5<recursionLimit
 un:A.units+16*k+200<cLine
 gd:A.guards=some []
theorem Room.mono {j k:Nat}{A:Around}(r:Room k A) (h:j≤k):Room j A:=⟨r.hd,by have:=r.dp;omega,by have:=r.un;omega,r.gd⟩
theorem guards_deeper {A:Around}{env:Env}(h:A.guards=some []):(A.deeper env).guards=some []:=by
 first|exact h|simp[Around.deeper,Around.under,Code.guards,Code.isGuard,pushGuards,h]
theorem Room.deeper {k:Nat}{A:Around}(r:Room (k+1) A) (env:Env):Room k (A.deeper env) :=
 ⟨r.hd,by have:=r.dp;show A.depth+1+3*k+5<_;omega,by have:=r.un;show A.units+3+16*k+200<_;omega,guards_deeper r.gd⟩
theorem make_depth {A:Around}{C:Addr}{us:List Value}{kw:List (Str×Value)}:(A.under (.builtin "type.__call__" ⟨.ref C::us,kw⟩)).depth=A.depth+1:=by
 first|rfl|simp[Around.under,Code.weight,Code.isCreation,Code.isGuard,Code.isCaller,Code.frames,Code.isFrame,guardIds]
theorem make_units {A:Around}{C:Addr}{us:List Value}{kw:List (Str×Value)}:(A.under (.builtin "type.__call__" ⟨.ref C::us,kw⟩)).units=A.units+1:=by
 first|rfl|simp[Around.under,Code.cUnits,Code.frames,Code.isFrame]
theorem guards_make {A:Around}{C:Addr}{us:List Value}{kw:List (Str×Value)}(h:A.guards=some []):(A.under (.builtin "type.__call__" ⟨.ref C::us,kw⟩)).guards=some []:=by
 first|exact h|(show pushGuards _ A.guards=_;rw[h];rfl)
theorem Room.make {k:Nat}{A:Around}(r:Room (k+1) A) (C:Addr) (us:List Value) (kw:List (Str×Value)):Room k (A.under (.builtin "type.__call__" ⟨.ref C::us,kw⟩)) :=
 ⟨r.hd,by have:=r.dp;rw[make_depth];omega,by have:=r.un;rw[make_units];omega,guards_make r.gd⟩
theorem Room.depth {k:Nat}{A:Around}(r:Room k A):A.depth<recursionLimit:=by have:=r.dp;omega
theorem Room.units {k:Nat}{A:Around}(r:Room k A):A.units+64<cLine:=by have:=r.un;omega
def tNil:TA:=fun _ H Q=>Q [] H
def tCons (ta:TE) (tr:TA):TA:=fun σ H Q=>ta σ H fun x H1=>tr σ H1 fun xs H2=>Q (x::xs) H2
section
variable {X:Cx}{e:Expr}{es:List Expr}{te:TE}{t:TA}{pos:Pos}
theorem pa_nil:PA X [] tNil:=fun _ _ _ _ H Q I h=>Calls.spliced_nil ⟨[],H,I,.nil,h⟩
theorem pa_cons (ha:PE X e te) (hr:PA X es t) (hs:starEach (e::es) X.env =(false,eval e X.env)::starEach es X.env:=by rfl):PA X (e::es) (tCons te t):=by
 intro pos pins s σ H Q I h
 rw[hs]
 show wpAny _ _ (spliced ((false,eval e X.env)::backTo pos (starEach es X.env))) _ _ s
 refine Calls.spliced_cons (thn (ha pins s σ H _ I h) fun u s1 ⟨x,H1,I1,r1,q1⟩=>?_)
 exact thn (hr pos pins s1 σ H1 _ I1 q1) fun us s2 ⟨xs,H2,I2,r2,q2⟩=>⟨x::xs,H2,I2,.cons r1 r2,q2⟩
def tTup (t:TA):TE:=fun σ H Q=>t σ H fun xs H1=>xs.length≤sizeLine∧∀p,H1 p=none→Q (.ref p) (upd H1 p (.tup xs))
def tLst (t:TA):TE:=fun σ H Q=>t σ H fun xs H1=>xs.length≤sizeLine∧∀p,H1 p=none→Q (.ref p) (upd H1 p (.lst xs))
theorem pe_tup {x1}(h:PA X es t):PE X (.Tuple es x1 pos) (tTup t):=by
 intro pins s σ H Q I hq
 refine wpAny_Tuple_spliced (thn (h pos pins s σ H _ I hq) fun us s1 ⟨xs,H1,I1,r,z,q⟩=>⟨by rw[← r.length];exact z,?_⟩)
 have hf:H1 s1.heap.objs.size=none:=I1.hok.fresh (Nat.le_refl _)
 refine⟨.ref s1.heap.objs.size,upd H1 s1.heap.objs.size (.tup xs),I1.laid (t':=s1.toks) (fun b u e=>Heap.get?_push_of_some _ e) (Nat.le_refl _) ?_,rfl,q _ hf⟩
 exact⟨z,us,r,⟨_,Heap.get?_push_size _ rfl,rfl,_,rfl⟩⟩
theorem pe_lst (h:PA X es t):PE X (.List es pos) (tLst t):=by
 intro pins s σ H Q I hq
 refine wpAny_List_spliced (thn (h pos pins s σ H _ I hq) fun us s1 ⟨xs,H1,I1,r,z,q⟩=>⟨by rw[← r.length];exact z,?_⟩)
 have hf:H1 s1.heap.objs.size=none:=I1.hok.fresh (Nat.le_refl _)
 refine⟨.ref s1.heap.objs.size,upd H1 s1.heap.objs.size (.lst xs),I1.laid (t':=s1.toks) (fun b u e=>Heap.get?_push_of_some _ e) (Nat.le_refl _) ?_,rfl,q _ hf⟩
 exact⟨z,us,0,r,Heap.get?_push_size _ rfl⟩
end
abbrev Sp:=List V→Hp→VK→XK→Prop
abbrev CXT:=List Env→Hp→Shared→XK→Value→Shared→Prop
structure Env0 (P:Program) (w:World) (K:PySem.W.Frag) (mg:Str→Option Value) (base:Heap) (A:Around) (outer:List Env) (s:Shared) (H:Hp):Prop where
 frames:A.frames=some outer
 mod:Mod K mg base
 bs:∀b o,base.get? b=some o→s.heap.get? b=some o∧H b=none
 bsz:base.objs.size≤s.heap.objs.size
 funs:s.heap.FunFrames base outer
 frf:∀b∈frs outer,H b=none
 hok:HOk P w H s.heap
 bare:AllBare s.gens
def CE (outer:List Env) (P:Program) (w:World) (H:Hp) (s:Shared) (Q:VK) (u:Value) (s':Shared):Prop :=
 ∃v H',s'.os=s.os∧AllBare s'.gens∧Un (frs outer) [] H H' s.heap s'.heap∧HOk P w H' s'.heap∧RelV v u∧Q v H'
def CR (CX:CXT) (outer:List Env) (P:Program) (w:World) (H:Hp) (s:Shared) (Q:VK) (E:XK) (r:Result) (s':Shared):Prop :=
 match r with
 | .ok (.ret u)=>CE outer P w H s Q u s'
 | .ok _=>False
 | .error e=>CX outer H s E e s'
structure FnOk (P:Program) (w:World) (K:PySem.W.Frag) (mg:Str→Option Value) (base:Heap) (CX:CXT) (k:Nat) (f:Addr) (fd:FuncData) (ps:List Str) (sp:Sp):Prop where
 len:∀vs H Q E,sp vs H Q E→vs.length=ps.length
 run:∀(A:Around) (outer:List Env) (s:Shared) (H:Hp) (args:Args) (us:List Value) (vs:List V) (Q:VK) (E:XK),Room k A→Env0 P w K mg base A outer s H→BindsTo s fd args (ps.zip us)→Vals vs us→sp vs H Q E →
  codeAny (model P w) A (.call (.ref f) args) (CR CX outer P w H s Q E) s
section
variable {X:Cx}{pins:List (Addr×Obj)}{σ:St}{H:Hp}{s s':Shared}
theorem Inv.env0 (I:Inv X pins σ H s):Env0 X.prog X.w X.K X.mg X.base X.A X.stack s H :=
 ⟨I.ok.frames,I.ok.mod,I.bs,Nat.le_trans I.ok.bsz I.sz,I.stack,I.stkFree,I.hok,I.bare⟩
theorem Inv.after {Q:VK}{u:Value}(I:Inv X pins σ H s) (h:CE X.stack X.prog X.w H s Q u s'):EP X pins σ Q u s':=by
 obtain⟨v,H',os,bare,un,hok,r,q⟩:=h
 obtain⟨hh,g,d,t,os'⟩:=s'
 obtain rfl:os'=s.os:=os
 exact⟨v,H',I.call (h':=hh) (g':=g) (d':=d) (t':=t) (ch:=[]) un hok bare (fun b z=>absurd z (by simp)),r,q⟩
end
def tCall (sp:Sp) (dvs:List V) (E:XK) (t:TA):TE:=fun σ H Q=>t σ H fun vs H1=>sp (vs++dvs) H1 Q E
def Binds (K:PySem.W.Frag) (fd:FuncData) (ps:List Str) (ds:List Value):Prop :=
 ∀(s:Shared) (us:List Value),K.In s.heap→(us++ds).length=ps.length→BindsTo s fd ⟨us,[]⟩ (ps.zip (us++ds))
theorem Binds.all {K:PySem.W.Frag}{fd:FuncData}{ps:List Str}(h:∀us:List Value,us.length=ps.length→bindArgs fd ⟨us,[]⟩=pure (ps.zip us)):Binds K fd ps []:=fun s us _ hl=>by
 rw[List.append_nil]at hl ⊢
 exact .of_eq (h us hl)
def Passes (CX:CXT) (X:Cx) (E:XK):Prop:=∀(pins:List (Addr×Obj)) (σ:St) (H:Hp) (s:Shared) (e:Value) (s':Shared),Inv X pins σ H s→CX X.stack H s E e s'→X.xe e s'
section
variable {X:Cx}{CX:CXT}{k:Nat}{f C:Addr}{fd:FuncData}{ps:List Str}{sp:Sp}{dvs:List V}{ds:List Value}{E:XK}{x m:Str}{p pos apos:Pos}{e o:Expr}{es:List Expr}{ta:TE}{t:TA}
theorem run_fn {pins:List (Addr×Obj)}{σ:St}{H:Hp}{s:Shared}{Q:VK}{us:List Value}{vs:List V}(F:FnOk X.prog X.w X.K X.mg X.base CX k f fd ps sp) (hr:Room k X.A) (hb:Binds X.K fd ps ds) (hd:Vals dvs ds) (hx:Passes CX X E)
  (I:Inv X pins σ H s) (r:Vals vs us) (h:sp (vs++dvs) H Q E):wpAny (model X.prog X.w) X.A (call (.ref f) us) (EP X pins σ Q) X.xe s:=by
 have r2:Vals (vs++dvs) (us++ds):=r.append hd
 have hl:(us++ds).length=ps.length:=by rw[← r2.length];exact F.len _ _ _ _ h
 refine wpAny_call (codeAny_mono (F.run X.A X.stack s H ⟨us,[]⟩ (us++ds) (vs++dvs) Q E hr I.env0 (hb s us I.kIn hl) r2 h) fun r s' hq=>?_)
 cases r with
 | error e=>exact hx pins σ H s e s' I hq
 | ok fl =>
  cases fl with
  | ret u=>exact I.after hq
  | next=>exact False.elim hq
  | brk=>exact False.elim hq
  | cont=>exact False.elim hq
theorem pe_call (F:FnOk X.prog X.w X.K X.mg X.base CX k f fd ps sp) (hr:Room k X.A) (hg:Gl X x) (hm:X.mg x=some (.ref f)) (hk:PySem.W.keepIn X.K (.ref f)=true) (hb:Binds X.K fd ps ds) (hd:Vals dvs ds) (hx:Passes CX X E)
  (ha:PA X (e::es) t) (hdb:(x ==("__debug__" : Str))=false:=by decide) (he:starEach (e::es) X.env =(false,eval e X.env)::starEach es X.env:=by rfl) (hpl:(backTo pos (starEach es X.env)).any (·.1)=false:=by rfl) :
  PE X (.Call (.Name x p) (e::es) [] pos) (tCall sp dvs E t):=by
 intro pins s σ H Q I h
 refine wpAny_Call_Name_kw (ld_glob I hg hm ?_ hdb)
 refine PySem.W.callWith_K (h₀:=X.base) I.ok.mod.kin hk (thn (ha pos pins s σ H _ I h) fun us s1 ⟨vs,H1,I1,r,q⟩=>⟨I1.kIn,?_⟩) he hpl
 exact run_fn F hr hb hd hx I1 r q
end
section
variable {X:Cx}{CX:CXT}{k:Nat}{f C:Addr}{fd:FuncData}{ps ks:List Str}{sp:Sp}{E:XK}{x m:Str}{p pos apos kpos:Pos}{e o:Expr}{es:List Expr}{kws:List Keyword}{te ta:TE}{t tk:TA}{nm:Option Str}
variable {g:List Value→List Value→List Value}{gV:List V→List V→List V}
end
structure FnScope (N P:List Str) (sc:Scope):Prop where
 kind:sc.kind = .function
 co:sc.isCoroutine=false
 gen:sc.isGenerator=false
 nd:N.Nodup
 pre:N.take P.length=P
 par:∀x∈P,sc.names.lookup x=some .local∨sc.names.lookup x=some .cell
 nofree:∀y∈sc.names,y.2 ≠ .free
theorem bindL_out {kindOf:Str→Option NameKind}{x:Str}:∀{binds:List (Str×Value)}{m:Str→Option Value},(∀v,(x,v)∉binds)→bindL kindOf binds m x=m x
 | [],_,_=>rfl
 | (n,v)::r,m,h=>by
  unfold bindL
  rw[bindL_out fun w hw=>h w (List.mem_cons_of_mem _ hw)]
  split
  ·have:x≠n:=by rintro rfl;exact h v List.mem_cons_self
   simp[this]
  ·rfl
theorem bindC_out {kindOf:Str→Option NameKind}{x:Str}:∀{binds:List (Str×Value)}{m:Str→Option Value},(∀v,(x,v)∉binds)→bindC kindOf binds m x=m x
 | [],_,_=>rfl
 | (n,v)::r,m,h=>by
  unfold bindC
  rw[bindC_out fun w hw=>h w (List.mem_cons_of_mem _ hw)]
  split
  ·rfl
  ·have:x≠n:=by rintro rfl;exact h v List.mem_cons_self
   simp[this]
theorem bindL_get {kindOf:Str→Option NameKind}{x:Str}{v:Value}:∀{P:List Str}{vs:List Value}{i:Nat}{m:Str→Option Value},P.Nodup→P[i]? = some x→vs[i]? = some v→kindOf x=some .local →
  bindL kindOf (P.zip vs) m x=some v
 | [],_,_,_,_,h,_,_=>by simp at h
 | _::_,[],_,_,_,_,h,_=>by simp at h
 | p::P,w::vs,0,m,nd,h1,h2,hk=>by
  simp at h1 h2;subst h1;subst h2
  show bindL kindOf ((p,w)::P.zip vs) m p=_
  unfold bindL
  rw[bindL_out fun v hv=>(List.nodup_cons.mp nd).1 (List.of_mem_zip hv).1,if_pos hk]
  simp
 | p::P,w::vs,i+1,m,nd,h1,h2,hk=>by
  show bindL kindOf ((p,w)::P.zip vs) m x=_
  unfold bindL
  exact bindL_get (i:=i) (List.nodup_cons.mp nd).2 (by simpa using h1) (by simpa using h2) hk
theorem bindC_get {kindOf:Str→Option NameKind}{x:Str}{v:Value}:∀{P:List Str}{vs:List Value}{i:Nat}{m:Str→Option Value},P.Nodup→P[i]? = some x→vs[i]? = some v→kindOf x≠some .local →
  bindC kindOf (P.zip vs) m x=some v
 | [],_,_,_,_,h,_,_=>by simp at h
 | _::_,[],_,_,_,_,h,_=>by simp at h
 | p::P,w::vs,0,m,nd,h1,h2,hk=>by
  simp at h1 h2;subst h1;subst h2
  show bindC kindOf ((p,w)::P.zip vs) m p=_
  unfold bindC
  rw[bindC_out fun v hv=>(List.nodup_cons.mp nd).1 (List.of_mem_zip hv).1,if_neg hk]
  simp
 | p::P,w::vs,i+1,m,nd,h1,h2,hk=>by
  show bindC kindOf ((p,w)::P.zip vs) m x=_
  unfold bindC
  exact bindC_get (i:=i) (List.nodup_cons.mp nd).2 (by simpa using h1) (by simpa using h2) hk
def start (N:List Str) (vs:List V):St:=vs.map some++List.replicate (N.length-vs.length) none
def cxOf (CX:CXT) (P:Program) (w:World) (K:PySem.W.Frag) (mg:Str→Option Value) (base:Heap) (N:List Str) (qual:Str) (scope:Scope) (f:Addr) (cd:Value) (A:Around) (outer:List Env) (s:Shared) (H:Hp) (E:XK):Cx where
 prog:=P
 w:=w
 K:=K
 mg:=mg
 base:=base
 A:=A.deeper (envOfC qual scope s.heap.objs.size f cd)
 N:=N
 s₀:=s
 H₀:=H
 env:=envOfC qual scope s.heap.objs.size f cd
 outer:=outer
 stack:=envOfC qual scope s.heap.objs.size f cd::outer
 ex:=[]
 calm:=true
 fn:=fun _=>true
 pn:=[]
 xe:=fun e s'=>wpAny (model P w) (A.deeper (envOfC qual scope s.heap.objs.size f cd)) (leaving (envOfC qual scope s.heap.objs.size f cd) e) (fun _ s''=>CX outer H s E e s'') (fun e' s''=>CX outer H s E e' s'') s'
theorem cell_has {sc:Scope}{n:Nat}{x:Str}(h:sc.names.lookup x=some .cell):∃c,(cellsFrom n sc.names []).lookup x=some c:=by
 have q:=PySem.W.cellsFrom_some sc.names n [] (.inl h)
 exact Option.isSome_iff_exists.mp q
theorem inv_start {CX:CXT}{P:Program}{w:World}{K:PySem.W.Frag}{mg:Str→Option Value}{base:Heap}{N ps:List Str}{qual:Str}{scope:Scope}{f:Addr}{cd:Value}{A:Around}{outer:List Env}{s s1:Shared}{H:Hp}{E:XK}{us:List Value}{vs:List V}
  (S:FnScope N ps scope) (hd:A.handled=none) (e0:Env0 P w K mg base A outer s H) (hl:vs.length=ps.length) (r:Vals vs us)
  (x:InCallC s s.heap.objs.size (bindL (envOfC qual scope s.heap.objs.size f cd).kindOf (ps.zip us) fun _=>none) (cellsFrom (s.heap.objs.size+1) scope.names []) (bindC (envOfC qual scope s.heap.objs.size f cd).kindOf (ps.zip us) fun _=>none) s1) :
  Inv (cxOf CX P w K mg base N qual scope f cd A outer s H E) [] (start N vs) H s1:=by
 have hpl:ps.length≤N.length:=by have:=congrArg List.length S.pre;rw[List.length_take]at this;omega
 obtain⟨h1,tk,rfl,hk⟩:=x.done
 have noA:∀b:Addr,b∉(cxOf CX P w K mg base N qual scope f cd A outer s H E).ex:=fun b z=>absurd (show b∈([]:List Addr) from z) (by simp)
 refine⟨⟨e0.mod,S.kind,rfl,rfl,Nat.le_refl _,fun y z c h1 h2=>?_,fun y hy=>?_,fun y c _ h=>?_,fun _=>hd,Around.frames_deeper e0.frames,.inr ⟨rfl,rfl⟩,fun b z=>absurd z (noA b),e0.bs,e0.bsz,fun b _ _=>noA b,fun b z=>absurd z (noA b),e0.funs,e0.frf⟩,
  rfl,e0.bare,Un.kept hk,⟨_,x.toInCall.ns,fun i y v h1 h2 h3=>?_⟩,fun y c h=>⟨_,x.cell y c h⟩,e0.hok.fresh (Nat.le_refl _),fun y c h=>?_,fun p hp=>absurd (show p∈([]:List (Addr×Obj)) from hp) (by simp),e0.hok.kept hk,?_⟩
 ·exact name_of_addr x.apart (PySem.mem_of_lookup h1) (PySem.mem_of_lookup h2)
 ·have hy:scope.names.lookup y=some .cell∨scope.names.lookup y=some .free:=hy
  rcases hy with hy|hy
  ·exact cell_has hy
  ·exact absurd rfl (S.nofree _ (PySem.mem_of_lookup hy))
 ·exact Nat.le_of_lt (x.above y c (PySem.mem_of_lookup h))
 ·have hi:i<vs.length:=by
   unfold start at h2
   by_cases hi:i<vs.length
   ·exact hi
   ·rw[List.getElem?_append_right (by simpa using hi)]at h2
    rw[List.getElem?_replicate]at h2
    split at h2 <;> cases h2
  have ha:vs[i]? = some v:=by
   unfold start at h2
   rw[List.getElem?_append_left (by simpa using hi),List.getElem?_map]at h2
   cases e:vs[i]? with
   | none=>rw[e]at h2;cases h2
   | some a=>rw[e]at h2;cases h2;rfl
  obtain⟨u,hu,rv⟩:=r.get ha
  have hp:ps[i]? = some y:=by
   rw[← S.pre,List.getElem?_take_of_lt (by omega)];exact h1
  have ndP:ps.Nodup:=by rw[← S.pre];exact S.nd.sublist (List.take_sublist _ _)
  refine⟨u,rv,?_⟩
  rcases S.par y (List.mem_of_getElem? hp) with k|k
  ·exact .inl ⟨k,bindL_get ndP hp hu k⟩
  ·obtain⟨c,e⟩:=cell_has (n:=s.heap.objs.size+1) k
   refine .inr ⟨.inl k,c,e,?_⟩
   have q:=x.cell y c e
   rw[bindC_get ndP hp hu (by show scope.names.lookup y≠_;rw[k];decide)]at q
   exact q
 ·exact e0.hok.fresh (Nat.le_of_lt (x.above y c (PySem.mem_of_lookup h)))
 ·unfold start
  show _=N.length
  rw[List.length_append,List.length_map,List.length_replicate]
  omega
theorem fn_of {CX:CXT}{P:Program}{w:World}{K:PySem.W.Frag}{mg:Str→Option Value}{base:Heap}{k:Nat}{f:Addr}{name qual:Str}{params:Arguments}{body:List Stmt}{scope:Scope}{dV kV doc pm cdv ct oc:Value}{an od:Option Addr}
  {osl:Array (Option Value)}{N ps:List Str}{sp:Sp}(lk:K.lookup f=some ⟨oc,od,.func (PySem.W.fnOf name qual params body scope dV kV doc pm an cdv ct),osl⟩) (hcd:PySem.W.codeIn K cdv qual=true) (S:FnScope N ps scope)
  (len:∀vs H Q E,sp vs H Q E→vs.length=ps.length)
  (hbody:∀(A:Around) (outer:List Env) (s:Shared) (H:Hp) (vs:List V) (Q:VK) (E:XK),Room k (A.deeper (envOfC qual scope s.heap.objs.size f cdv))→sp vs H Q E →
   ∃t,PSs (cxOf CX P w K mg base N qual scope f cdv A outer s H E) body t∧t { nx:=fun _ H'=>Q .non H',rt:=Q } (start N vs) H) :
  FnOk P w K mg base CX (k+1) f (PySem.W.fnOf name qual params body scope dV kV doc pm an cdv ct) ps sp:=by
 refine⟨len,fun A outer s H args us vs Q E hr e0 hb r hsp=>?_⟩
 have hl:=len _ _ _ _ hsp
 have KX:K.In s.heap:=e0.mod.kin.keeps fun b o e=>(e0.bs b o e).1
 have lim:s.heap.NoLimit:=e0.mod.nolimit.keeps fun b o e=>(e0.bs b o e).1
 have hkind:∀y∈ps.zip us,scope.names.lookup y.1=some .local ∨(scope.names.lookup y.1=some .cell∧((cellsFrom (s.heap.objs.size+1) scope.names []).lookup y.1).isSome=true):=fun⟨n,v⟩ hy=>by
  rcases S.par n (List.of_mem_zip hy).1 with q|q
  ·exact .inl q
  ·exact .inr ⟨q,PySem.W.cellsFrom_some _ _ _ (.inl q)⟩
 refine codeAny_call_function hr.depth (KX _ _ lk) rfl S.co S.gen rfl (PySem.W.codeRec_of KX hcd) (hb _ _ _ _ ?_)
 refine wpAny_newFunctionEnv_cells S.kind hkind fun env he s1 x=>?_
 subst he
 refine⟨lim.keeps x.toInCall.keep,codeAny_func ?_⟩
 obtain⟨t,ht,hq⟩:=hbody A outer s H vs Q E (hr.deeper _) hsp
 have I:Inv (cxOf CX P w K mg base N qual scope f cdv A outer s H E) [] (start N vs) H s1:=inv_start S hr.hd e0 hl r x
 refine wpAny_mono (ht [] s1 (start N vs) H _ I hq) (fun fl s' hs=>?_) fun e s' hs=>hs
 have fin:∀{σ':St}{H':Hp}{v:V}{u:Value},Inv (cxOf CX P w K mg base N qual scope f cdv A outer s H E) [] σ' H' s'→RelV v u→Q v H'→CE outer P w H s Q u s' :=
  fun {σ' H' v u} J rv q=>⟨v,H',J.os,J.bare,J.base,J.hok,rv,q⟩
 cases fl with
 | ret u =>
  obtain⟨v,σ',H',J,rv,q⟩:=hs
  exact fin J rv q
 | next =>
  obtain⟨σ',H',J,q⟩:=hs
  exact fin (v:=V.non) (u:=Value.none) J rfl q
 | brk =>
  obtain⟨_,_,_,q⟩:=hs
  exact False.elim q
 | cont =>
  obtain⟨_,_,_,q⟩:=hs
  exact False.elim q
end L2
namespace L2
open PySem PySem.Spec PyProof.Rows
section
variable {X:Cx}{x:Str}{p pos:Pos}{e:Expr}{es:List Expr}{t:TA}{id T:String}{r:List V→Hp→VK→Prop}
def tCB (r:List V→Hp→VK→Prop) (t:TA):TE:=fun σ H Q=>t σ H fun vs H1=>r vs H1 Q
theorem pe_callB (hc:CallR X (.builtin id) r) (hg:Gl X x) (hm:X.mg x=none) (hv:bootBuiltins x=some (.builtin id)) (ha:PA X (e::es) t) (hn:x ≠ "__name__" := by decide) (hdb:(x ==("__debug__" : Str))=false:=by decide)
  (he:starEach (e::es) X.env =(false,eval e X.env)::starEach es X.env:=by rfl) (hpl:(backTo pos (starEach es X.env)).any (·.1)=false:=by rfl):PE X (.Call (.Name x p) (e::es) [] pos) (tCB r t):=by
 intro pins s σ H Q I h
 refine wpAny_Call_Name_kw (ld_blt I hg hm hv ?_ hn hdb)
 exact PyProof.Rows.callWith_builtin1 (thn (ha pos pins s σ H _ I h) fun us s1 ⟨vs,H1,I1,r1,q1⟩=>hc pins s1 σ H1 vs us Q I1 r1 q1) he hpl
end
end L2
namespace HT
open PySem PyProof.Rows
section
open PySem.SeqAt
open PySem.AutoSeq1 (wpAny_loadPart')
open PySem.MeetsSeq PySem.MeetsSeq2 PySem.MeetsSeq3
end
section
variable {prog:Program}{w:World}{A:Around}{E:Value→Shared→Prop}{s:Shared}
def sIx (n d:Nat):Option Int→Nat
 | none=>d
 | some v=>if v<0 then(v+(n:Int)).toNat else min v.toNat n
theorem sIx_none (n d:Nat):sIx n d none=d:=rfl
theorem sIx_nat (n d k:Nat):sIx n d (some (k:Int))=min k n:=by
 show(if (k:Int)<0 then((k:Int)+(n:Int)).toNat else min (k:Int).toNat n)=min k n
 rw[if_neg (by omega),Int.toNat_natCast]
end
end HT
namespace L2
open PySem PySem.Spec PyProof.Rows
abbrev TO:=St→Hp→(Option Int→Hp→Prop)→Prop
def PO (X:Cx) (e:Option Expr) (t:TO):Prop :=
 ∀(pins:List (Addr×Obj)) (s:Shared) (σ:St) (H:Hp) (Q:Option Int→Hp→Prop),Inv X pins σ H s→t σ H Q →
  wpAny (model X.prog X.w) X.A (evalPart e X.env) (fun u s'=>∃o H',Inv X pins σ H' s'∧IsPart u o∧Q o H') X.xe s
def tNoPart:TO:=fun _ H Q=>Q none H
def tPart (t:TE):TO:=fun σ H Q=>t σ H fun x H1=>∃i,x = .int i∧Q (some i) H1
section
variable {X:Cx}{e:Expr}{te:TE}{lo hi:Option Expr}{tl th:TO}{pos p2:Pos}
theorem po_none:PO X none tNoPart:=by
 intro pins s σ H Q I h
 rw[evalPart_none]
 exact wpAny_pure ⟨none,H,I,.none,h⟩
theorem po_some (h:PE X e te):PO X (some e) (tPart te):=by
 intro pins s σ H Q I hw
 rw[evalPart_some]
 refine thn (h pins s σ H _ I hw) fun u s1 ⟨x,H1,I1,r1,q1⟩=>?_
 obtain⟨i,rfl,q⟩:=q1
 obtain⟨t,rfl⟩:=r1
 exact⟨some i,H1,I1,.int i t,q⟩
def SlR (X:Cx) (r:V→Option Int→Option Int→Hp→VK→Prop):Prop :=
 ∀(pins:List (Addr×Obj)) (s:Shared) (σ:St) (H:Hp) (x:V) (v vl vu:Value) (lo hi:Option Int) (sl:Addr) (Q:VK),Inv X pins σ H s→RelV x v→s.heap.IsSliceOf sl vl vu .none→IsPart vl lo→IsPart vu hi→r x lo hi H Q →
  ∃T id,typeLookup (.type T) "__getitem__" = pure (some (.builtin id))∧s.TypeIs v T∧wpAny (model X.prog X.w) X.A (getItem v (.ref sl)) (EP X pins σ Q) X.xe s
def tSl (r:V→Option Int→Option Int→Hp→VK→Prop) (te:TE) (tl th:TO):TE:=fun σ H Q=>te σ H fun x H1=>tl σ H1 fun l H2=>th σ H2 fun u H3=>r x l u H3 Q
theorem pe_slice {r:V→Option Int→Option Int→Hp→VK→Prop}(hr:SlR X r) (he:PE X e te) (hl:PO X lo tl) (hu:PO X hi th):PE X (.Subscript e (.Slice lo hi none p2) pos) (tSl r te tl th):=by
 intro pins s σ H Q I h
 refine Subscript_ (thn (he pins s σ H _ I h) fun v s1 ⟨x,H1,I1,r1,q1⟩=>?_)
 refine wpAny_Slice (thn (hl pins s1 σ H1 _ I1 q1) fun vl s2 ⟨l,H2,I2,pl,q2⟩=>thn (hu pins s2 σ H2 _ I2 q2) fun vu s3 ⟨u,H3,I3,pu,q3⟩=>?_)
 rw[evalPart_none]
 refine wpAny_pure ?_
 have I4:Inv X pins σ H3 { s3 with heap:=s3.heap.push { cls:=.type "slice",data:=.fields #[vl,vu,.none] } }:=I3.kept (t':=s3.toks) fun b ob q=>Heap.get?_push_of_some _ q
 obtain⟨T,id,hT,ht,hg⟩:=hr pins { s3 with heap:=s3.heap.push { cls:=.type "slice",data:=.fields #[vl,vu,.none] } } σ H3 x v vl vu l u s3.heap.objs.size Q I4 r1 (Heap.IsSliceOf.new ..) pl pu q3
 show wpAny (model X.prog X.w) X.A (subscriptTail e (.Slice lo hi none p2) v (.ref s3.heap.objs.size)) (EP X pins σ Q) X.xe { s3 with heap:=s3.heap.push { cls:=.type "slice",data:=.fields #[vl,vu,.none] } }
 exact tail_any (ops:=[.ref s3.heap.objs.size,v]) ht hT hg (by with_unfolding_all rfl)
def cutV (xs:List V) (lo hi:Option Int):List V:=(xs.drop (HT.sIx xs.length 0 lo)).take (HT.sIx xs.length xs.length hi-HT.sIx xs.length 0 lo)
theorem cutV_length (xs:List V) (lo hi:Option Int):(cutV xs lo hi).length≤xs.length:=by
 unfold cutV
 rw[List.length_take,List.length_drop]
 omega
end
end L2
namespace L2
open PySem PySem.Spec PyProof.Rows
def ixN (n:Nat) (i:Int):Option Nat:=if 0≤i then(if i<n then some i.toNat else none) else if -(n:Int)≤i then some (i+n).toNat else none
def atI {α:Type}(xs:List α) (i:Int):Option α:=(ixN xs.length i).bind fun j=>xs[j]?
theorem ixN_seq {n:Nat}{i:Int}{j:Nat}(h:ixN n i=some j):seqIndex? i n=some j∧j<n∧-(n:Int)≤i∧i<n:=by
 unfold ixN at h
 by_cases h0:0≤i
 ·rw[if_pos h0]at h
  by_cases h1:i<n
  ·rw[if_pos h1]at h
   have e:i.toNat=j:=Option.some.inj h
   exact⟨by rw[seqIndex_of h0 h1,e],by omega,by omega,h1⟩
  ·rw[if_neg h1]at h;cases h
 ·rw[if_neg h0]at h
  by_cases h1:-(n:Int)≤i
  ·rw[if_pos h1]at h
   have e:(i+n).toNat=j:=Option.some.inj h
   exact⟨by rw[seqIndex_neg (by omega) h1,e],by omega,h1,by omega⟩
  ·rw[if_neg h1]at h;cases h
theorem atI_get {α:Type}{xs:List α}{i:Int}{v:α}(h:atI xs i=some v):∃j,seqIndex? i xs.length=some j∧xs[j]? = some v∧j<xs.length∧-(xs.length:Int)≤i∧i<xs.length:=by
 unfold atI at h
 cases e:ixN xs.length i with
 | none=>rw[e]at h;cases h
 | some j =>
  rw[e]at h
  obtain⟨h1,h2,h3,h4⟩:=ixN_seq e
  exact⟨j,h1,h,h2,h3,h4⟩
theorem atI_nat {α:Type}{xs:List α}{j:Nat}{v:α}(h:xs[j]? = some v):atI xs (j:Int)=some v:=by
 have hj:j<xs.length:=(List.getElem?_eq_some_iff.mp h).1
 have e:ixN xs.length (j:Int)=some j:=by
  unfold ixN
  rw[if_pos (by omega),if_pos (by omega)];simp
 unfold atI;rw[e];exact h
def PlainIx (b:Expr):Prop:=∀o i,subscripted b false o i=operate [o,i] (getItem o i)
def IxR (X:Cx) (r:R2):Prop :=
 ∀(value slice:Expr) (pins:List (Addr×Obj)) (s:Shared) (σ:St) (H:Hp) (x y:V) (v u:Value) (Q:VK),Inv X pins σ H s→RelV x v→RelV y u→r x y H Q →
  subscripted slice false v u=operate [v,u] (getItem v u)→wpAny (model X.prog X.w) X.A (subscriptTail value slice v u) (EP X pins σ Q) X.xe s
section
variable {X:Cx}{a b:Expr}{ta tb:TE}{pos:Pos}
theorem pe_ix {r:R2}(hr:IxR X r) (ha:PE X a ta) (hb:PE X b tb) (hs:PlainIx b):PE X (.Subscript a b pos) (tOp r ta tb):=by
 intro pins s σ H Q I h
 exact Subscript_ (binT ha hb I h fun v u s2 x y H2 I2 rx ry q=>hr a b pins s2 σ H2 x y v u Q I2 rx ry q (hs _ _))
def rIxL (K:PySem.W.Frag):R2:=fun x y H Q=>∃p xs i v,x = .ref p∧y = .int i∧SqL K H p xs∧atI xs i=some v∧Q v H
theorem ix_list:IxR X (rIxL X.K):=by
 intro value slice pins s σ H x y v u Q I rx ry h hs
 obtain⟨p,xs,i,z,rfl,rfl,hq,he,q⟩:=h
 cases rx
 obtain⟨t,rfl⟩:=ry
 obtain⟨its,r,pl,hz⟩:=I.list hq
 obtain⟨j,h1,h2,h3,h4,h5⟩:=atI_get he
 obtain⟨w,ew,rw'⟩:=r.get h2
 have hl:=r.length
 have hn:=line63
 have fin:EP X pins σ Q w s:=⟨z,H,I,rw',q⟩
 by_cases h0:0≤i
 ·have hj:i.toNat=j:=by
   rw[seqIndex_of h0 h5]at h1
   exact Option.some.inj h1
  exact item_listR pl.isList h0 (by omega) (by rw[hj];simpa using ew) fin hs
 ·have hj:(i+(its.toArray.size:Int)).toNat=j:=by
   rw[seqIndex_neg (by omega) h4]at h1
   rw[List.size_toArray,← hl]
   exact Option.some.inj h1
  exact subscriptTail_builtinR (x:=w) pl.isList.typeIs slot_list_getitem.lookup
   (wpAny_getItem_list_neg (Q:=fun r s'=>r=w∧EP X pins σ Q r s') pl.isList (by omega) (by rw[List.size_toArray] <;> omega) (by omega) (by rw[hj];simpa using ew) ⟨rfl,fin⟩) hs
theorem mapSeq_set (its:List Value) (n j:Nat) (u:Value):Obj.mapSeq (·.setIfInBounds j u) { cls:=.type "list",data:=.seq its.toArray n } = { cls:=.type "list",data:=.seq (its.set j u).toArray n }:=by
 simp[Obj.mapSeq]
theorem Inv.lst {pins:List (Addr×Obj)}{σ:St}{H:Hp}{s:Shared}{p:Addr}{xs:List V}(I:Inv X pins σ H s) (h:H p=some (.lst xs)) :
  ∃(its:List Value) (n:Nat),Vals xs its∧s.heap.get? p=some { cls:=.type "list",data:=.seq its.toArray n }∧xs.length≤sizeLine:=by
 obtain⟨z,its,n,r,e⟩:=I.hok p _ h
 exact⟨its,n,r,e,z⟩
theorem Inv.lstUpd {pins:List (Addr×Obj)}{σ:St}{H:Hp}{s:Shared}{p:Addr}{xs ys:List V}{its its':List Value}{n n':Nat}{f:Obj→Obj}(I:Inv X pins σ H s) (h:H p=some (.lst xs))
  (ho:s.heap.get? p=some { cls:=.type "list",data:=.seq its.toArray n }) (hf:f { cls:=.type "list",data:=.seq its.toArray n } = { cls:=.type "list",data:=.seq its'.toArray n' }) (r:Vals ys its') (hz:ys.length≤sizeLine) (t:Nat) :
  Inv X pins σ (upd H p (.lst ys)) { s with heap:=s.heap.update p f,toks:=t }:=by
 have e:(s.heap.update p f).get? p=some { cls:=.type "list",data:=.seq its'.toArray n' }:=by
  rw[Heap.get?_update_self f ho (by rw[hf] <;> rfl),hf]
 refine I.write (x:=p) (e:=p) (by rw[h];trivial) (.inl rfl) (fun b u hb q=>(Heap.get?_update_other _ _ (Ne.symm hb)).trans q) ⟨_,e⟩ ?_
 exact⟨hz,its',n',r,e⟩
def rSetL:V→V→V→Hp→(Hp→Prop)→Prop:=fun o i v H Q=>∃p xs k j,o = .ref p∧i = .int k∧H p=some (.lst xs)∧ixN xs.length k=some j∧Q (upd H p (.lst (xs.set j v)))
theorem set_list:PSet X rSetL:=by
 intro pins s σ H o i v ov iv u Q I ro ri rv h
 obtain⟨p,xs,k,j,rfl,rfl,hp,hj,q⟩:=h
 cases ro
 obtain⟨t,rfl⟩:=ri
 obtain⟨its,n,r,ho,hz⟩:=I.lst hp
 obtain⟨h1,h2,h3,h4⟩:=ixN_seq hj
 have hl:=r.length
 have hn:=line63
 have I':Inv X pins σ (upd H p (.lst (xs.set j v))) { s with heap:=s.heap.update p (Obj.mapSeq (·.setIfInBounds j u)) } :=
  I.lstUpd hp ho (mapSeq_set its n j u) (r.set rv j) (by rw[List.length_set];exact hz) s.toks
 by_cases h0:0≤k
 ·have hk:k.toNat=j:=by
   rw[seqIndex_of h0 h4]at h1
   exact Option.some.inj h1
  exact PySem.W.ki_setAt ho h0 (by omega) (by rw[List.size_toArray,← hl];exact h4) (by rw[hk];exact⟨_,I',q⟩)
 ·have hk:(k+(its.toArray.size:Int)).toNat=j:=by
   rw[seqIndex_neg (by omega) h3]at h1
   rw[List.size_toArray,← hl]
   exact Option.some.inj h1
  exact PySem.W.ki_setBack ho (by omega) (by rw[List.size_toArray,← hl];exact h3) (by omega) (by rw[hk];exact⟨_,I',q⟩)
theorem slice_bounds (lo hi:Option Int) (n:Nat):(sliceBounds lo hi none n).1 =((HT.sIx n 0 lo:Nat):Int)∧(sliceBounds lo hi none n).2.1 =((HT.sIx n n hi:Nat):Int)∧(sliceBounds lo hi none n).2.2=1:=by
 refine⟨?_,?_,rfl⟩
 ·cases lo with
  | none=>simp[sliceBounds,HT.sIx]
  | some i =>
   simp only[sliceBounds,HT.sIx,Option.getD_none,show(1:Int) > 0 by decide,if_true]
   by_cases h:i<0
   ·simp only[h,if_true] <;> omega
   ·simp only[h,if_false] <;> omega
 ·cases hi with
  | none=>simp[sliceBounds,HT.sIx]
  | some i =>
   simp only[sliceBounds,HT.sIx,Option.getD_none,show(1:Int) > 0 by decide,if_true]
   by_cases h:i<0
   ·simp only[h,if_true] <;> omega
   ·simp only[h,if_false] <;> omega
theorem slicePick_cut (its:List Value) (lo hi:Option Int):slicePick its.toArray lo hi none =((its.drop (HT.sIx its.length 0 lo)).take (HT.sIx its.length its.length hi-HT.sIx its.length 0 lo)).toArray:=by
 obtain⟨h1,h2,h3⟩:=slice_bounds lo hi its.toArray.size
 unfold slicePick
 rw[h1,h2,h3]
 simp only[sliceRange_one,pick_run,List.size_toArray] <;> rfl
def rSlL (K:PySem.W.Frag):V→Option Int→Option Int→Hp→VK→Prop:=fun x lo hi H Q=>∃a xs,x = .ref a∧SqL K H a xs∧∀p,H p=none→Q (.ref p) (upd H p (.lst (cutV xs lo hi)))
theorem sl_list:SlR X (rSlL X.K):=by
 intro pins s σ H x v vl vu lo hi sl Q I rx hs pl pu h
 obtain⟨a,xs,rfl,hx,q⟩:=h
 cases rx
 obtain⟨its,r,ht,hz⟩:=I.list hx
 have hlen:=r.length
 refine⟨"list",_,slot_list_getitem.lookup,ht.isList.typeIs,?_⟩
 refine wpAny_getItem_list_slice ht.isList hs pl pu .none (by simp) ?_ (by rw[List.size_toArray] <;> omega)
 rw[slicePick_cut,← hlen]
 refine⟨.ref s.heap.objs.size,_,I.laid (t':=s.toks) (o:=.lst (cutV xs lo hi)) (fun b ob q=>Heap.get?_push_of_some _ q) (Nat.le_refl _) ?_,rfl,q _ (I.hok.fresh (Nat.le_refl _))⟩
 exact⟨Nat.le_trans (cutV_length xs lo hi) hz,_,0,(r.drop (HT.sIx xs.length 0 lo)).take (HT.sIx xs.length xs.length hi-HT.sIx xs.length 0 lo),Heap.get?_push_size _ rfl⟩
theorem call_len_seq:CallR X (.builtin "len") (fun xs H Q=>∃p ys,xs=[.ref p]∧(SqL X.K H p ys∨SqT X.K H p ys)∧Q (.int ys.length) H):=by
 intro pins s σ H xs us Q I r h
 obtain⟨p,ys,rfl,hq,q⟩:=h
 obtain⟨u,rfl,rx⟩:=vals1 r
 cases rx
 have hn:=line63
 rcases hq with hq|hq
 ·obtain⟨its,r',pl,hz⟩:=I.list hq
  have hlen:=r'.length
  exact Calls.call_len_list pl.isList (by simp only[List.size_toArray] <;> omega) ⟨.int ys.length,H,I.tok _,⟨s.toks+1,by rw[List.size_toArray,hlen]⟩,q⟩
 ·obtain⟨its,r',pl,hz⟩:=I.tuple hq
  have hlen:=r'.length
  exact len_tuple pl (by simp only[List.size_toArray] <;> omega) ⟨.int ys.length,H,I.tok _,⟨s.toks+1,by rw[List.size_toArray,hlen]⟩,q⟩
variable {o e:Expr}{es:List Expr}{to:TE}{t:TA}{name:Str}{apos cpos:Pos}{T id:String}{r:V→List V→Hp→VK→Prop}
end
end L2
namespace L2
open PySem PySem.Spec PyProof.Rows
def MtM (X:Cx) (id:String) (r:V→List V→Hp→VK→Prop):Prop :=
 ∀(pins:List (Addr×Obj)) (s:Shared) (σ:St) (H:Hp) (x:V) (xs:List V) (v:Value) (us:List Value) (Q:VK),Inv X pins σ H s→RelV x v→Vals xs us→r x xs H Q →
  wpAny (model X.prog X.w) X.A (call (.builtin id) (v::us)) (EP X pins σ Q) X.xe s
theorem Vals.one:∀{x:V}{us:List Value},Vals [x] us→∃u,us=[u]∧RelV x u
 | _,_,.cons r .nil=>⟨_,rfl,r⟩
theorem Vals.dropLast {xs:List V}{us:List Value}(h:Vals xs us):Vals xs.dropLast us.dropLast:=by
 induction h with
 | nil=>exact .nil
 | cons r t ih =>
  cases t with
  | nil=>exact .nil
  | cons q t'=>exact .cons r ih
theorem erase_last {α:Type}(l:List α):l.eraseIdx (l.length-1)=l.dropLast:=by
 induction l with
 | nil=>rfl
 | cons a r ih =>
  cases r with
  | nil=>rfl
  | cons b r =>
   have e:(a::b::r).length-1 =((b::r).length-1)+1:=by
    have h1:(a::b::r).length=r.length+2:=rfl
    have h2:(b::r).length=r.length+1:=rfl
    omega
   rw[e,List.eraseIdx_cons_succ,ih]
   all_goals rfl
section
variable {X:Cx}{pins:List (Addr×Obj)}{σ:St}{H:Hp}{s:Shared}{l b:Addr}{xs ys zs:List V}
theorem Inv.lset {its its':List Value}{n:Nat}{f:Array Value→Array Value}{t':Nat}(I:Inv X pins σ H s) (hH:H l=some (.lst xs))
  (e:s.heap.get? l=some { cls:=.type "list",data:=.seq its.toArray n }) (hf:f its.toArray=its'.toArray) (hv:Vals ys its') (hz:ys.length≤sizeLine) :
  Inv X pins σ (upd H l (.lst ys)) { s with heap:=s.heap.update l (Obj.mapSeq f),toks:=t' }:=by
 have q:=PySem.IsL.update e f
 rw[hf]at q
 refine I.write (x:=l) (e:=l) (by rw[hH];exact trivial) (.inl rfl) (fun b' u hb hu=>(Heap.get?_update_other s.heap (Obj.mapSeq f) (Ne.symm hb)).trans hu) ⟨_,q⟩ ?_
 exact⟨hz,its',_,hv,q⟩
theorem Inv.lnew {its:List Value}{t':Nat}(I:Inv X pins σ H s) (hv:Vals ys its) (hz:ys.length≤sizeLine) :
  Inv X pins σ (upd H s.heap.objs.size (.lst ys)) { s with heap:=s.heap.push { cls:=.type "list",data:=.seq its.toArray },toks:=t' } :=
 I.laid (fun _ _ q=>Heap.get?_push_of_some _ q) (Nat.le_refl _) ⟨hz,its,0,hv,Heap.get?_push_size _ rfl⟩
theorem Inv.fresh (I:Inv X pins σ H s):H s.heap.objs.size=none:=I.hok.fresh (Nat.le_refl _)
theorem Inv.lstM (I:Inv X pins σ H s) (hH:H l=some (.lst xs)):xs.length≤sizeLine∧∃(its:List Value) (n:Nat),Vals xs its∧xs.length=its.length∧s.heap.get? l=some { cls:=.type "list",data:=.seq its.toArray n }:=by
 obtain⟨z,its,n,r,e⟩:=I.hok l _ hH
 exact⟨z,its,n,r,r.length,e⟩
theorem notLongL {n:Nat}(h:n≤sizeLine):Builtin.List.listTooLong n=false:=by
 unfold Builtin.List.listTooLong
 exact decide_eq_false (by omega)
end
section
variable {X:Cx}
def rAppend:V→List V→Hp→VK→Prop:=fun x vs H Q=>∃l xs y,x = .ref l∧vs=[y]∧H l=some (.lst xs)∧xs.length<sizeLine∧Q .non (upd H l (.lst (xs ++ [y])))
theorem mt_append:MtM X "list.append" rAppend:=by
 intro pins s σ H x vs v us Q I rx rv h
 obtain⟨l,xs,y,rfl,rfl,hH,hz,q⟩:=h
 cases rx
 obtain⟨u,rfl,ru⟩:=rv.one
 obtain⟨z,its,n,r,hl,e⟩:=I.lstM hH
 refine call_meets F.slot_list_append ⟨_,e,rfl⟩ F.entry_list_append (F.args_list_append_2 _ _) (PySem.list_append l its.toArray n u (by rw[List.size_toArray];omega)) ⟨e,?_⟩
 refine⟨.non,_,I.lset (its':=its ++ [u]) hH e (by simp) (r.append (.cons ru .nil)) ?_,rfl,q⟩
 rw[List.length_append,List.length_singleton]
 omega
def rExtend:V→List V→Hp→VK→Prop:=fun x vs H Q=>∃l b xs zs,x = .ref l∧vs=[.ref b]∧H l=some (.lst xs)∧H b=some (.lst zs)∧xs.length+zs.length≤sizeLine∧Q .non (upd H l (.lst (xs++zs)))
theorem mt_extend:MtM X "list.extend" rExtend:=by
 intro pins s σ H x vs v us Q I rx rv h
 obtain⟨l,b,xs,zs,rfl,rfl,hH,hB,hz,q⟩:=h
 cases rx
 obtain⟨u,rfl,ru⟩:=rv.one
 cases ru
 obtain⟨z,its,n,r,hl,e⟩:=I.lstM hH
 obtain⟨z2,its2,n2,r2,hl2,e2⟩:=I.lstM hB
 have hsz:its.toArray.size+its2.toArray.size≤sizeLine:=by rw[List.size_toArray,List.size_toArray];omega
 have hlong:¬(!its.toArray.isEmpty && Builtin.List.listTooLong (its.toArray.size+its2.toArray.size))=true:=by
  rw[notLongL hsz,Bool.and_false]
  exact Bool.false_ne_true
 refine call_meets F.slot_list_extend ⟨_,e,rfl⟩ F.entry_list_extend (F.args_list_extend_2 _ _)
  (AutoSeq1.list_extend_list_list_0 l its.toArray n b its2.toArray n2 hlong (by rw[List.size_toArray];omega) (by omega)) ⟨e,e2,?_⟩
 refine⟨.non,_,I.lset (its':=its++its2) hH e (by simp) (r.append r2) ?_,rfl,q⟩
 rw[List.length_append]
 omega
def rCat:R2:=fun x y H Q=>∃l b xs zs,x = .ref l∧y = .ref b∧H l=some (.lst xs)∧H b=some (.lst zs)∧xs.length+zs.length≤sizeLine∧∀p,H p=none→Q (.ref p) (upd H p (.lst (xs++zs)))
theorem op_cat:OpR X (binaryOp .Add) rCat:=by
 intro pins s σ H x y v u Q I rx ry h
 obtain⟨l,b,xs,zs,rfl,rfl,hH,hB,hz,q⟩:=h
 cases rx
 cases ry
 obtain⟨z,its,n,r,hl,e⟩:=I.lstM hH
 obtain⟨z2,its2,n2,r2,hl2,e2⟩:=I.lstM hB
 refine PySem.P.add_list e e2 ?_ (by rw[List.size_toArray,List.size_toArray];omega)
 have ea:its.toArray++its2.toArray =(its++its2).toArray:=by simp
 rw[ea]
 exact⟨.ref _,_,I.lnew (t':=s.toks) (r.append r2) (by rw[List.length_append];omega),rfl,q _ I.fresh⟩
end
section
variable {prog:Program}{w:World}{A:Around}{E:Value→Shared→Prop}{s:Shared}
end
section
variable {X:Cx}
end
end L2
namespace Att
open PySem PySem.W PySem.Calls PyProof.Rows
theorem ints_of_wellAll {P:Params}{h:Heap}:∀(ns:List Int) (vs:List Value),WellAll P h vs (ns.map WData.int)→IntsAre vs ns:=by
 intro ns
 induction ns with
 | nil =>
  intro vs w
  rw[List.map_nil]at w
  cases w
  exact .nil
 | cons n ns ih =>
  intro vs w
  rw[List.map_cons]at w
  cases w with
  | cons a b =>
   cases a
   exact .cons _ _ (ih _ b)
theorem script_of {l:OpenLaw}{n:Nat}(hn:l.most=some n) {P:Params}{h:Heap}{args:List WData}{vals:List Value}
  (hpre:l.row.toRowW.claim.pre args=true) (hwl:WellAll P h vals args) :
  ∃a vs ns,vals=[Value.ref a]∧args=[WData.list (ns.map WData.int)]∧h.get? a=some { cls:=.type "list",data:=.seq vs.toArray }∧IntsAre vs ns∧ns.length≤n:=by
 have hsh:WShape.hasAll [] args [.list .int]=true:=(pre_splitW hpre).1
 have hc:l.pre.holds [] { args:=args } = true:=(pre_splitW hpre).2
 obtain⟨d,r,rfl,h1,h2⟩:=hasAllW_cons hsh
 obtain rfl:=hasAllW_nil h2
 obtain⟨xs,rfl,h3⟩:=hasW_list h1
 obtain⟨ns,rfl⟩:=items_int h3
 have hlen:ns.length≤n:=by
  unfold OpenLaw.pre at hc
  have h4:(WTm.not (.lt (.lit (.int (n:Int))) (.len (.arg 0)))).holds [] { args:=[.list (ns.map .int)] } = true:=by
   have h4:=(holds_andW hc).1
   rw[hn]at h4
   exact h4
  have h5:=condW_of h4 (w_not (w_lt w_lit (w_len_list (w_arg rfl))))
  rw[List.length_map]at h5
  refine Nat.le_of_not_lt fun q=>?_
  have q':(n:Int) <((ns.length:Nat):Int):=by omega
  first
   | (rw[decide_eq_true q']at h5;exact absurd h5 (by decide))
   | (simp at h5;omega)
 cases hwl with
 | cons w1 w2 =>
  cases w2
  cases w1 with
  | list ho hall=>exact⟨_,_,ns,rfl,rfl,ho,ints_of_wellAll ns _ hall,hlen⟩
theorem post_true (l:OpenLaw) (args:List WData):l.row.toRowW.claim.post args (.bool true) args=true :=
 postW_of (r:=l.row.toRowW) (X:=(true == true))
  (show WShape.has [] (.bool true) .bool=true by first|rfl|decide|simp[WShape.has,WShape.arms,WShape.armsAll])
  (show(WTm.eq .res (.lit (.bool true))).value [] { args:=args,res:=some (.bool true),after:=args } = some (.bool (true == true)) from w_eq_bool (w_res rfl) w_lit) rfl
theorem attach_call {l:OpenLaw}{n:Nat}{q:Program}{loose:List Str}{XP:(Str→Option Value)→Heap→Prop}{YP:World→Heap→Prop}{d:DefRec}
  (hn:l.most=some n) (hdf:d.params.defaults=[])
  (call:∀(w:World) (s₀ s₁:Shared) (mg mb:Str→Option Value) (fa:Addr) (o:Obj) (pm cd doc:Value) (a:Addr) (vs:List Value) (ns:List Int),
   Ground q loose [] XP w s₀ mg mb s₁.heap→YP w s₁.heap →
   s₁.heap.get? fa=some o→o.data = .func (docDef d.name d.params d.body d.scope pm cd doc)→s₁.heap.CodeRec cd d.name→mg d.name=some (.ref fa) →
   s₁.heap.get? a=some { cls:=.type "list",data:=.seq vs.toArray }→IntsAre vs ns→ns.length≤n→s₁.gens = #[] →
   codeAny (model l.prog w) callerA (.call (.ref fa) ⟨[.ref a],[]⟩) (fun r s'=>r = .ok (.ret (.bool true))∧OldK s₁.heap s'.heap∧s'.os=s₁.os∧AllBare s'.gens) s₁) :
  WalkO q loose XP YP l.row.toRowW d [] (fun f vs=>PySem.call f vs):=by
 intro w s₀ s₁ mg mb G Y fa o pm cd doc dV kV ho hd hcd hD hmg hg args vals as hpre hlay hrd hwl hlo
 obtain rfl:dV = .none:=Dflts.none hD hdf
 obtain rfl:kV = .none:=Dflts.noKw hD
 obtain⟨a,vs,ns,rfl,rfl,hobj,hints,hlen⟩:=script_of hn hpre hwl
 refine enter_call (codeAny_mono (call w s₀ s₁ mg mb fa o pm cd doc a vs ns G Y ho (fd_plain hd) hcd hmg hobj hints hlen hg) fun r s' hq=>?_)
 obtain⟨rfl,h2,h3,h4⟩:=hq
 exact⟨.inl ⟨.bool true,.bool true,[],rfl,fun _=>rfl,.bool true,post_true l _,fun _=>⟨List.Pairwise.nil,fun _ hm=>(nomatch hm)⟩⟩,h2,h3,h4⟩
section
variable {prog:Program}{w:World}{A:Around}{E:Value→Shared→Prop}{s:Shared}{K:Frag}
end
end Att
namespace L2
open PySem PySem.Spec PyProof.Rows
theorem vals_ints:∀{vs:List Value}{ns:List Int},IntsAre vs ns→Vals (ns.map V.int) vs
 | _,_,.nil=>.nil
 | _,_,.cons n t h=>.cons ⟨t,rfl⟩ (vals_ints h)
def Only (H:Hp):Prop:=∀b,H b=none ∨ ∃o xs,H b=some (.frz o (.lst xs))
theorem law_call {P:Program}{w:World}{K:PySem.W.Frag}{mg mb:Str→Option Value}{CX:CXT}{k:Nat}{fa a:Addr}{fd:FuncData}{x:Str}{sp:Sp}{s₁:Shared}{vs:List Value}{ns:List Int}
  (KX:K.In s₁.heap) (hns:s₁.heap.Ns mainGlobals mg) (hb:s₁.heap.Ns builtinsNs mb) (hbb:∀x:Str,x ≠ "__name__"→mb x=bootBuiltins x) (hlim:s₁.heap.NoLimit) (hg:s₁.gens = #[])
  (ha:s₁.heap.get? a=some { cls:=.type "list",data:=.seq vs.toArray }) (hi:IntsAre vs ns) (hl:ns.length≤sizeLine) (hr:Room k callerA)
  (F:∀base:Heap,K.In base→base.Ns mainGlobals mg→FnOk P w K mg base CX k fa fd [x] sp) (hbind:∀(s:Shared) (u:Value),BindsTo s fd ⟨[u],[]⟩ [(x,u)])
  (hsp:∀H:Hp,Only H→SqL K H a (ns.map V.int)→sp [.ref a] H (fun v _=>v = .bl true) fun _ _ _=>False)
  (hCX:∀H e s',CX [] H s₁ (fun _ _ _=>False) e s'→False) :
  codeAny (model P w) callerA (.call (.ref fa) ⟨[.ref a],[]⟩) (fun r s'=>r = .ok (.ret (.bool true))∧OldK s₁.heap s'.heap∧s'.os=s₁.os∧AllBare s'.gens) s₁:=by
 have rv:=vals_ints hi
 have lenV:=hi.length
 have core:∀H:Hp,Only H→SqL K H a (ns.map V.int)→HOk P w H s₁.heap→(∀b,H b≠none→b=a)→(H a≠none→K.lookup a=none) →
   codeAny (model P w) callerA (.call (.ref fa) ⟨[.ref a],[]⟩) (fun r s'=>r = .ok (.ret (.bool true))∧OldK s₁.heap s'.heap∧s'.os=s₁.os∧AllBare s'.gens) s₁:=by
  intro H hO hS hok hA hK
  have base_of:∀{b:Addr}{o:Obj},s₁.heap.get? b=some o→H b=none→(hidT s₁.heap H).get? b=some o:=fun e n=>hidT_get e n
  have noA:∀{b:Addr}{o:Obj}{es:Array DictEntry}{ep:Nat},s₁.heap.get? b=some o→o.data = .dict es ep→H b=none:=fun {b o es ep} e d=>by
   cases q:H b with
   | none=>rfl
   | some u =>
    have e':b=a:=hA b (by rw[q];simp)
    subst e'
    rw[ha]at e;cases e
    have d':Data.seq vs.toArray _=Data.dict es ep:=d
    cases d'
  have nsK:∀{b:Addr}{m:Str→Option Value},s₁.heap.Ns b m→(hidT s₁.heap H).Ns b m:=fun {b m} ⟨o,es,ep,e,d,r⟩=>⟨o,es,ep,base_of e (noA e d),d,r⟩
  have hKb:K.In (hidT s₁.heap H):=fun b o e=>base_of (KX b o e) (by
   cases q:H b with
   | none=>rfl
   | some u =>
    have e':b=a:=hA b (by rw[q];simp)
    subst e'
    rw[hK (by rw[q];simp)]at e;cases e)
  have hM:Mod K mg (hidT s₁.heap H):=⟨hKb,nsK hns,⟨mb,nsK hb,hbb⟩,let ⟨mc,h1,h2⟩:=hlim;⟨mc,nsK h1,h2⟩⟩
  have e0:Env0 P w K mg (hidT s₁.heap H) callerA [] s₁ H:=⟨rfl,hM,fun b o e=>of_hidT e,Nat.le_of_eq (hidT_size _ _),trivial,fun b hb=>absurd (show b∈([]:List Addr) from hb) (by simp),hok,.of_eq hg⟩
  refine codeAny_mono ((F _ hKb (nsK hns)).run callerA [] s₁ H ⟨[.ref a],[]⟩ [.ref a] [.ref a] _ _ hr e0 (hbind s₁ (.ref a)) (.cons rfl .nil) (hsp H hO hS)) fun r s' h=>?_
  cases r with
  | error e=>exact(hCX H e s' h).elim
  | ok fl =>
   cases fl with
   | next=>exact False.elim h
   | brk=>exact False.elim h
   | cont=>exact False.elim h
   | ret u =>
    obtain⟨v,H',os,bare,un,hok',r',q⟩:=h
    have q':v = .bl true:=q
    subst q'
    obtain rfl:u=Value.bool true:=r'
    refine⟨rfl,OldK.of_keep fun b o e=>?_,os,bare⟩
    cases q:H b with
    | none=>exact un.keep b o e q (by intro z;exact absurd (show b∈([]:List Addr) from z) (by simp)) (by simp)
    | some u =>
     rcases hO b with z|⟨ob,xs,z⟩
     ·rw[q]at z;cases z
     ·have z2:=un.frzs b ob _ z
      obtain⟨e1,_⟩:=hok b _ z
      obtain⟨e2,_⟩:=hok' b _ z2
      rw[e]at e1;cases e1
      exact e2
 cases hk:K.lookup a with
 | some o =>
  have e:=KX a o hk
  rw[ha]at e
  cases e
  refine core (fun _=>none) (fun _=>.inl rfl) (.inr ⟨_,vs.toArray,_,hk,rfl,rfl,rfl,by rw[List.size_toArray,lenV];exact hl,by simpa using rv⟩) (fun b u z=>by have z':(none:Option HO)=some u:=z;cases z') (fun b z=>absurd rfl z) fun z=>absurd rfl z
 | none =>
  refine core (fun b=>if b=a then some (.frz { cls:=.type "list",data:=.seq vs.toArray } (.lst (ns.map V.int))) else none) (fun b=>?_) (.inl (.inr ⟨{ cls:=.type "list",data:=.seq vs.toArray },if_pos rfl⟩)) (fun b u z=>?_) (fun b z=>?_) fun _=>hk
  ·by_cases hb:b=a
   ·exact .inr ⟨_,_,if_pos hb⟩
   ·exact .inl (if_neg hb)
  ·by_cases hb:b=a
   ·have z':=(if_pos hb).symm.trans z
    cases z'
    subst hb
    exact⟨ha,by rw[List.length_map];exact hl,vs,_,rv,ha⟩
   ·have z':=(if_neg hb).symm.trans z
    cases z'
  ·by_cases hb:b=a
   ·exact hb
   ·exact absurd (if_neg hb) z
end L2
namespace L2
open PySem PySem.Spec PyProof.Rows
theorem walk_of {l:PySem.W.OpenLaw}{n k:Nat}{q:Program}{loose:List Str}{XP:(Str→Option Value)→Heap→Prop}{YP:World→Heap→Prop}{d:DefRec}{K:Params→PySem.W.Frag}{CX:World→CXT}{sp:World→Sp}{x:Str}
  (hn:l.most=some n) (hn2:n≤sizeLine) (hdf:d.params.defaults=[]) (hr:Room k callerA)
  (hY:∀(w:World) (h:Heap),YP w h→(K w.params).In h)
  (F:∀(w:World) (mg:Str→Option Value) (fa:Addr) (h:Heap),(K w.params).In h→h.Ns mainGlobals mg→mg d.name=some (.ref fa) →
   ∃fd:FuncData,(∀(s:Shared) (u:Value),BindsTo s fd ⟨[u],[]⟩ [(x,u)]) ∧
    ∀base:Heap,(K w.params).In base→base.Ns mainGlobals mg→FnOk l.prog w (K w.params) mg base (CX w) k fa fd [x] (sp w))
  (hsp:∀(w:World) (H:Hp) (a:Addr) (ns:List Int),ns.length≤n→Only H→SqL (K w.params) H a (ns.map V.int)→sp w [.ref a] H (fun v _=>v = .bl true) fun _ _ _=>False)
  (hCX:∀(w:World) (H:Hp) (s:Shared) (e:Value) (s':Shared),CX w [] H s (fun _ _ _=>False) e s'→False) :
  PySem.W.WalkO q loose XP YP l.row.toRowW d [] (fun f vs=>PySem.call f vs):=by
 refine Att.attach_call hn hdf fun w s₀ s₁ mg mb fa o pm cd doc a vs ns G Y ho hd hcd hmg hobj hints hlen hg=>?_
 have KX:=hY w _ Y
 obtain⟨fd,hb,hF⟩:=F w mg fa _ KX G.T.g hmg
 exact law_call KX G.T.g G.T.b G.T.builtins G.T.nolimit hg hobj hints (Nat.le_trans hlen hn2) hr hF hb (fun H hO hS=>hsp w H a ns hlen hO hS) fun H e s'=>hCX w H s₁ e s'
end L2
namespace L2
open PySem PySem.Spec PyProof.Rows
def inClass (s:Stmt) (j:Nat):Stmt:=match s with
 | .ClassDef _ _ _ body _ _ _ _ _ _ _=>body.getD j (.Pass ⟨0,0,0,0⟩)
 | _=>.Pass ⟨0,0,0,0⟩
def defArgs (s:Stmt):Arguments:=match s with
 | .FunctionDef _ a _ _ _ _ _ _ _ _=>a
 | _=>{ posonlyargs:=[],args:=[],vararg:=none,kwonlyargs:=[],kw_defaults:=[],kwarg:=none,defaults:=[] }
def defBody (s:Stmt):List Stmt:=match s with
 | .FunctionDef _ _ b _ _ _ _ _ _ _=>b
 | _=>[]
def defScope (s:Stmt):Scope:=match s with
 | .FunctionDef _ _ _ _ _ _ sc _ _ _=>sc
 | _=>{ kind:=.function,names:=[],isGenerator:=false,isCoroutine:=false }
abbrev CX0:CXT:=fun _ _ _ _ _ _=>False
abbrev E0:XK:=fun _ _ _=>False
theorem pass0 {X:Cx}:Passes CX0 X E0:=fun _ _ _ _ _ _ _ h=>h.elim
structure Fun (K:PySem.W.Frag) (x qual:Str) (st:Stmt) (f:Addr) (fd:FuncData):Prop where
 ex:∃(oc:Value) (od:Option Addr) (kV doc pm:Value) (an:Option Addr) (cdv ct:Value) (osl:Array (Option Value)),
  fd=PySem.W.fnOf x qual (defArgs st) (defBody st) (defScope st) .none kV doc pm an cdv ct∧K.lookup f=some ⟨oc,od,.func fd,osl⟩∧PySem.W.codeIn K cdv qual=true
 kp:PySem.W.keepIn K (.ref f)=true
section
variable {P:Program}{w:World}{K:PySem.W.Frag}{mg:Str→Option Value}{base:Heap}
theorem Fun.ok {x qual:Str}{st:Stmt}{f:Addr}{fd:FuncData}{N ps:List Str}{k:Nat}{sp:Sp}(F:Fun K x qual st f fd) (S:FnScope N ps (defScope st)) (len:∀vs H Q E,sp vs H Q E→vs.length=ps.length)
  (hbody:∀(cdv:Value) (A:Around) (outer:List Env) (s:Shared) (H:Hp) (vs:List V) (Q:VK) (E:XK),Room k (A.deeper (envOfC qual (defScope st) s.heap.objs.size f cdv))→sp vs H Q E →
   ∃t,PSs (cxOf CX0 P w K mg base N qual (defScope st) f cdv A outer s H E).nox (defBody st) t∧t { nx:=fun _ H'=>Q .non H',rt:=Q } (start N vs) H):FnOk P w K mg base CX0 (k+1) f fd ps sp:=by
 obtain⟨oc,od,kV,doc,pm,an,cdv,ct,osl,rfl,lk,hcd⟩:=F.ex
 refine fn_of lk hcd S len fun A outer s H vs Q E hr hsp=>?_
 obtain⟨t,h,q⟩:=hbody cdv A outer s H vs Q E hr hsp
 exact⟨t,h.nox,q⟩
theorem Fun.binds {x qual:Str}{st:Stmt}{f:Addr}{fd:FuncData}{ps:List Str}(F:Fun K x qual st f fd)
  (h:∀(kV doc pm:Value) (an:Option Addr) (cdv ct:Value) (us:List Value),us.length=ps.length→bindArgs (PySem.W.fnOf x qual (defArgs st) (defBody st) (defScope st) .none kV doc pm an cdv ct) ⟨us,[]⟩=pure (ps.zip us)):Binds K fd ps []:=by
 obtain⟨oc,od,kV,doc,pm,an,cdv,ct,osl,rfl,lk,hcd⟩:=F.ex
 exact .all (h kV doc pm an cdv ct)
theorem fun_mk {x qual:Str}{st:Stmt}{f:Addr}{oc:Value}{od an:Option Addr}{osl:Array (Option Value)}{kV doc pm cdv ct:Value}(l:K.lookup f=some ⟨oc,od,.func (PySem.W.fnOf x qual (defArgs st) (defBody st) (defScope st) .none kV doc pm an cdv ct),osl⟩)
  (c:PySem.W.codeIn K cdv qual=true) (k:PySem.W.keepIn K (.ref f)=true):Fun K x qual st f (PySem.W.fnOf x qual (defArgs st) (defBody st) (defScope st) .none kV doc pm an cdv ct):=⟨⟨oc,od,kV,doc,pm,an,cdv,ct,osl,rfl,l,c⟩,k⟩
end
theorem small1000 {n:Nat}(h:n≤1000):n<sizeLine:=Nat.lt_of_le_of_lt h (by decide)
section
variable {X:Cx}
theorem pv (i:Nat) {x:Str}{pos:Pos}(hN:X.N[i]? = some x:=by rfl) (hv:Vis X.env.scope x:=by first|exact Or.inl rfl|exact Or.inr (Or.inl rfl)|exact Or.inr (Or.inr rfl)) (hd:(x ==("__debug__" : Str))=false:=by decide)
  (hcd:(x ==("__classdict__" : Str))=false:=by decide):PE X (.Name x pos) (tVar i):=pe_var hN hv hd hcd
end
theorem iteF {A B:Prop}(h:B):if false=true then A else B:=by
 rw[if_neg Bool.false_ne_true]
 exact h
theorem iteT {A B:Prop}(h:A):if true=true then A else B:=by
 rw[if_pos rfl]
 exact h
def Same (H H':Hp):Prop:=∀b o,H b=some o→H' b=some o
theorem Same.refl (H:Hp):Same H H:=fun _ _ h=>h
theorem Same.trans {H H1 H2:Hp}(a:Same H H1) (b:Same H1 H2):Same H H2:=fun c o h=>b c o (a c o h)
theorem Same.free {H H':Hp}(e:Same H H') {l:Addr}(h:H' l=Option.none):H l=Option.none:=by
 cases q:H l with
 | none=>rfl
 | some o =>
  rw[e l o q]at h
  cases h
theorem Same.seq {K:PySem.W.Frag}{H H':Hp}{a:Addr}{xs:List V}(e:Same H H') (h:SqL K H a xs):SqL K H' a xs:=by
 rcases h with(h|⟨o,h⟩)|h
 ·exact .inl (.inl (e _ _ h))
 ·exact .inl (.inr ⟨o,e _ _ h⟩)
 ·exact .inr h
end L2
namespace L2
open PySem PySem.Spec PyProof.Rows
def clOf (env:Env):List (Str×NameKind)→List (Str×Addr)→List (Str×Addr)
 | [],cs=>cs
 | (n,k)::r,cs=>clOf env r (if k == .free then(n,(env.cells.lookup n).getD 0)::cs else cs)
def clStep (env:Env) (x:Str×NameKind) (s:List (Str×Addr)):Sem (ForInStep (List (Str×Addr))):=if (x.2 == NameKind.free)=true then cellOf env x.1 >>= fun c=>pure (ForInStep.yield ((x.1,c)::s)) else pure (ForInStep.yield s)
theorem clStep_run {env:Env}:∀{ns:List (Str×NameKind)}(cs:List (Str×Addr)),(∀y∈ns,y.2 = .free→∃c,env.cells.lookup y.1=some c)→(forIn ns cs (clStep env):Sem (List (Str×Addr)))=pure (clOf env ns cs)
 | [],cs,_=>rfl
 | (n,k)::r,cs,h=>by
  rw[List.forIn_cons]
  have hr:∀y∈r,y.2 = .free→∃c,env.cells.lookup y.1=some c:=fun z hz=>h z (List.mem_cons_of_mem _ hz)
  cases hk:(k == NameKind.free) with
  | false =>
   have e1:clStep env (n,k) cs=pure (ForInStep.yield cs):=by
    unfold clStep
    exact if_neg (by rw[show(n,k).2=k from rfl,hk];decide)
   rw[e1,pure_bind]
   show forIn r cs (clStep env)=_
   rw[clStep_run cs hr]
   show pure (clOf env r cs)=pure (clOf env r (if (k == NameKind.free)=true then(n,(List.lookup n env.cells).getD 0)::cs else cs))
   rw[hk]
   rfl
  | true =>
   have hk':k = .free:=by simpa using hk
   obtain⟨c,hc⟩:=h (n,k) List.mem_cons_self hk'
   have hc':env.cells.lookup n=some c:=hc
   have q:cellOf env n=pure c:=by unfold cellOf;rw[hc']
   have e1:clStep env (n,k) cs=pure (ForInStep.yield ((n,c)::cs)):=by
    unfold clStep
    rw[if_pos (by rw[show(n,k).2=k from rfl,hk]),show(n,k).1=n from rfl,q,pure_bind]
   rw[e1,pure_bind]
   show forIn r ((n,c)::cs) (clStep env)=_
   rw[clStep_run _ hr]
   show pure (clOf env r ((n,c)::cs))=pure (clOf env r (if (k == NameKind.free)=true then(n,(List.lookup n env.cells).getD 0)::cs else cs))
   rw[hk,hc']
   rfl
theorem closure_eq {scope:Scope}{env:Env}(h:∀y∈scope.names,y.2 = .free→∃c,env.cells.lookup y.1=some c):closureFor scope env=pure (clOf env scope.names []):=by
 show(forIn scope.names ([]:List (Str×Addr)) (clStep env) >>= fun s=>(pure s:Sem (List (Str×Addr))))=_
 rw[clStep_run [] h,pure_bind]
theorem clOf_sound {env:Env}{n:Str}{c:Addr}:∀{ns:List (Str×NameKind)}{cs:List (Str×Addr)},(∀y∈ns,y.2 = .free→∃c,env.cells.lookup y.1=some c)→(∀p∈cs,env.cells.lookup p.1=some p.2)→(clOf env ns cs).lookup n=some c→env.cells.lookup n=some c
 | [],cs,_,hc,h=>hc _ (PySem.mem_of_lookup h)
 | (m,k)::r,cs,hn,hc,h=>by
  unfold clOf at h
  refine clOf_sound (fun y hy=>hn y (List.mem_cons_of_mem _ hy)) ?_ h
  intro p hp
  split at hp
  ·rename_i hk
   have hk':k = .free:=by simpa using hk
   obtain⟨c',hc'⟩:=hn (m,k) List.mem_cons_self hk'
   have hc2:env.cells.lookup m=some c':=hc'
   rw[hc2]at hp
   rcases List.mem_cons.mp hp with rfl|hp
   ·exact hc2
   ·exact hc p hp
  ·exact hc p hp
theorem lookup_mono_isSome {n:Str}:∀{cs:List (Str×Addr)},(∃c,(n,c)∈cs)→∃c,cs.lookup n=some c
 | [],⟨_,h⟩=>absurd h (by simp)
 | (m,d)::r,⟨c,h⟩=>by
  rw[List.lookup_cons]
  by_cases e:n=m
  ·subst e;exact⟨d,by simp⟩
  ·have:(n == m)=false:=beq_eq_false_iff_ne.mpr e
   rw[this]
   rcases List.mem_cons.mp h with z|z
   ·cases z;exact absurd rfl e
   ·exact lookup_mono_isSome ⟨c,z⟩
theorem clOf_keeps {env:Env}{p:Str×Addr}:∀{ns:List (Str×NameKind)}{cs:List (Str×Addr)},p∈cs→p∈clOf env ns cs
 | [],_,h=>h
 | (m,k)::r,cs,h=>by
  unfold clOf
  refine clOf_keeps ?_
  split
  ·exact List.mem_cons_of_mem _ h
  ·exact h
theorem clOf_has {env:Env}{n:Str}:∀{ns:List (Str×NameKind)}{cs:List (Str×Addr)},(n,NameKind.free)∈ns→∃c,(n,c)∈clOf env ns cs
 | [],_,h=>absurd h (by simp)
 | (m,k)::r,cs,h=>by
  unfold clOf
  rcases List.mem_cons.mp h with z|z
  ·cases z
   exact⟨(env.cells.lookup n).getD 0,clOf_keeps (by simp)⟩
  ·exact clOf_has z
def cxBlk (X:Cx) (scope:Scope) (N:List Str) (C:Addr) (s:Shared) (H:Hp) (ex:List Addr):Cx :=
 { X with N:=N,s₀:=s,H₀:=H,env:=compEnvC scope (clOf X.env scope.names []) C X.env,outer:=X.stack,ex:=ex,fn:=fun _=>false,pn:=[],xe:=fun _ _=>False }
structure BlkOk (X:Cx) (scope:Scope) (vs fs:List Str) (js:List Nat):Prop where
 kind:scope.kind = .function
 cell:∀y∈scope.names,y.2 ≠ .cell
 names:∀y∈scope.names,y.2 = .local→scope.names.lookup y.1=some .local
 free:∀y∈scope.names,y.2 = .free→X.env.kindOf y.1=some .cell∨X.env.kindOf y.1=some .free
 own:∀y∈vs,scope.names.lookup y=some .local
 cap:∀y∈fs,scope.names.lookup y=some .free
 ix:js.map (fun j=>X.N[j]?)=fs.map some
def blkSt (vs:List Str) (js:List Nat) (σ:St):St:=vs.map (fun _=>none)++js.map (fun j=>(σ[j]?).join)
theorem lookup_relabel_free {env:Env}{names:List (Str×NameKind)}{x:Str}(h:names.lookup x=some .free) :
  (names.map fun(n,k)=>if (k == NameKind.free && env.scope.kind == .function && env.kindOf n == some .cell) then(n,NameKind.cell) else(n,k)).lookup x=some .cell ∨
  (names.map fun(n,k)=>if (k == NameKind.free && env.scope.kind == .function && env.kindOf n == some .cell) then(n,NameKind.cell) else(n,k)).lookup x=some .free:=by
 induction names with
 | nil=>cases h
 | cons y r ih =>
  obtain⟨n,k⟩:=y
  rw[List.map_cons]
  show List.lookup x ((if (k == NameKind.free && env.scope.kind == .function && env.kindOf n == some .cell)=true then(n,NameKind.cell) else(n,k))::_)=_∨List.lookup x ((if (k == NameKind.free && env.scope.kind == .function && env.kindOf n == some .cell)=true then(n,NameKind.cell) else(n,k))::_)=_
  rw[List.lookup_cons]at h
  cases e:x == n with
  | true =>
   rw[e]at h
   have h':k = .free:=by simpa using h
   subst h'
   split
   ·left;rw[List.lookup_cons,e]
   ·right;rw[List.lookup_cons,e]
  | false =>
   rw[e]at h
   have h':=ih h
   split
   ·rw[List.lookup_cons,e];exact h'
   ·rw[List.lookup_cons,e];exact h'
theorem relabel_back {env:Env}{names:List (Str×NameKind)}{x:Str}{kk:NameKind}
  (h:(names.map fun(n,k)=>if (k == NameKind.free && env.scope.kind == .function && env.kindOf n == some .cell) then(n,NameKind.cell) else(n,k)).lookup x=some kk) :
  (kk = .cell∧(x,NameKind.free)∈names) ∨(x,kk)∈names:=by
 induction names with
 | nil=>cases h
 | cons y r ih =>
  obtain⟨n,k⟩:=y
  rw[List.map_cons]at h
  have h2:List.lookup x ((if (k == NameKind.free && env.scope.kind == .function && env.kindOf n == some .cell)=true then(n,NameKind.cell) else(n,k))::(r.map fun(n,k)=>if (k == NameKind.free && env.scope.kind == .function && env.kindOf n == some .cell) then(n,NameKind.cell) else(n,k)))=some kk:=h
  cases e:x == n with
  | true =>
   have e':x=n:=by simpa using e
   subst e'
   split at h2
   ·rename_i hc
    rw[List.lookup_cons,e]at h2
    have h3:kk = .cell:=by simpa using h2.symm
    have hk:k = .free:=by
     have:=(Bool.and_eq_true _ _ ▸ hc).1
     have:=(Bool.and_eq_true _ _ ▸ this).1
     simpa using this
    subst hk
    exact .inl ⟨h3,List.mem_cons_self⟩
   ·rw[List.lookup_cons,e]at h2
    have h3:kk=k:=by simpa using h2.symm
    subst h3
    exact .inr List.mem_cons_self
  | false =>
   have h3:(r.map fun(n,k)=>if (k == NameKind.free && env.scope.kind == .function && env.kindOf n == some .cell) then(n,NameKind.cell) else(n,k)).lookup x=some kk:=by
    split at h2
    ·rw[List.lookup_cons,e]at h2;exact h2
    ·rw[List.lookup_cons,e]at h2;exact h2
   rcases ih h3 with⟨a,b⟩|b
   ·exact .inl ⟨a,List.mem_cons_of_mem _ b⟩
   ·exact .inr (List.mem_cons_of_mem _ b)
section
variable {prog:Program}{w:World}{A:Around}{R:Result→Shared→Prop}{s:Shared}
theorem codeAny_compLoop_gen {elt target iter:Expr}{ifs:List Expr}{scope:Scope}{pos:Pos}{it acc:Value}{env:Env}(I:Nat→Shared→Prop)
  (turn:∀n s,I n s→wpAny (model prog w) A (pyNext it) (fun r s₁=>match r with
   | none=>R (.ok .next) s₁
   | some v=>wpAny (model prog w) A (letOwnedTupleGo target it v) (fun _ s₁'=>wpAny (model prog w) A (assign target env v) (fun _ s₂ =>
     wpAny (model prog w) A (forIn ifs true fun c r=>if r=true then do let ok ← isTrue c env (eval c env);pure (ForInStep.yield ok) else pure (ForInStep.yield r)) (fun ok s₃ =>
      if ok=true then wpAny (model prog w) A (eval elt env) (fun x s₄ =>
       wpAny (model prog w) A (call (.builtin "list.append") [acc,x]) (fun _ s₅=>∃m,m<n∧I m s₅) (fun _ _=>False) s₄) (fun _ _=>False) s₃
      else ∃m,m<n∧I m s₃) (fun _ _=>False) s₂) (fun _ _=>False) s₁') (fun _ _=>False) s₁) (fun _ _=>False) s)
  (n:Nat) (h:I n s) :
  codeAny (model prog w) A (.compLoop (.ListComp elt [⟨target,iter,ifs,0⟩] scope pos) 0 it acc env) R s:=by
 refine codeAny_loop rfl I (fun n s hI=>?_) n h
 show wpAny _ A ((compTurn (.ListComp elt [⟨target,iter,ifs,0⟩] scope pos) 0 it acc env).onRaise (fun x=>do noteFrame x env;theTreesLotGoes x)) _ _ s
 refine wpAny_noted ?_
 rw[compTurn_list]
 refine wpAny_bind (wpAny_standAt (wpAny_bind (wpAny_mono (turn n s hI) (fun r s₁ h₁=>?_) fun _ _ h'=>h'.elim)))
 cases r with
 | none=>exact wpAny_pure h₁
 | some v =>
  refine wpAny_bind (wpAny_mono h₁ (fun _ s₁' h₁'=>?_) fun _ _ h'=>h'.elim)
  refine wpAny_bind (wpAny_mono h₁' (fun _ s₂ h₂=>wpAny_bind (wpAny_mono h₂ (fun ok s₃ h₃=>?_) fun _ _ h'=>h'.elim)) fun _ _ h'=>h'.elim)
  cases ok with
  | false=>exact wpAny_pure ⟨rfl,h₃⟩
  | true =>
   exact wpAny_bind (wpAny_bind (wpAny_mono h₃ (fun x s₄ h₄=>wpAny_bind (wpAny_mono h₄ (fun _ s₅ h₅=>wpAny_pure (wpAny_pure ⟨rfl,h₅⟩)) fun _ _ h'=>h'.elim)) fun _ _ h'=>h'.elim))
end
def PIfs (X:Cx) (ifs:List Expr) (t:TT):Prop :=
 ∀(pins:List (Addr×Obj)) (s:Shared) (σ:St) (H:Hp) (Q:Bool→Hp→Prop),Inv X pins σ H s→t σ H Q →
  wpAny (model X.prog X.w) X.A (forIn ifs true fun c r=>if r=true then do let ok ← isTrue c X.env (eval c X.env);pure (ForInStep.yield ok) else pure (ForInStep.yield r)) (TP X pins σ Q) X.xe s
def tYes:TT:=fun _ H Q=>Q true H
theorem pif0 {X:Cx}:PIfs X [] tYes:=fun _ _ _ H _ I h=>wpAny_tests_nil ⟨H,I,h⟩
def CompW (J:It) (vs:List Str) (js:List Nat) (σ:St) (g:TG) (tt:TT) (te:TE) (Q:VK) (D:Addr) (H1:Hp):Prop :=
 ∃W:Nat→Nat→St→List V→Hp→Prop,(∃m,W 0 m (blkSt vs js σ) [] (upd H1 D (.lst [])))∧∀i m σ' ys H',W i m σ' ys H' →
  (J.stop i H'∧Q (.ref D) H') ∨(J.go i H'∧∃N:St→List V→Hp→Prop,(∀σ2 zs H2,N σ2 zs H2→∃m',m'<m∧W (i+1) m' σ2 zs H2) ∧
   ∀x H2,J.yld i H' x H2→g x σ' H2 fun σ3 H3=>tt σ3 H3 fun b H4=>if b=true then te σ3 H4 fun y H5=>H5 D=some (.lst ys)∧ys.length<sizeLine∧N σ3 (ys ++ [y]) (upd H5 D (.lst (ys ++ [y]))) else N σ3 ys H4)
def tComp (vs:List Str) (js:List Nat) (wi:TI) (g:TG) (tt:TT) (te:TE):TE:=fun σ H Q=>wi σ H fun J H1=>∀D,H1 D=none→CompW J vs js σ g tt te Q D H1
section
variable {X:Cx}{pins:List (Addr×Obj)}{σ:St}{H:Hp}{s:Shared}{scope:Scope}{vs fs:List Str}{js:List Nat}
theorem blk_start {fp:List Addr}{C D:Addr}{h₁:Heap}{tk:Nat}{m:Str→Option Value}(I:Inv X pins σ H s) (B:BlkOk X scope vs fs js) (hf:∀b∈fp,FpOk X pins H b) (hfp:∀b∈fp,b<s.heap.objs.size)
  (hn:h₁.Ns C m) (hk:∀b o,s.heap.get? b=some o→h₁.get? b=some o) (hD:D=s.heap.objs.size) (hC:s.heap.objs.size<C)
  (hl:h₁.get? D=some { cls:=.type "list",data:=.seq ([]:List Value).toArray }) :
  Inv (cxBlk X scope (vs++fs) C s H fp) [] (blkSt vs js σ) (upd H D (.lst [])) { s with heap:=h₁,toks:=tk }:=by
 have hasX:∀y∈scope.names,y.2 = .free→∃c,X.env.cells.lookup y.1=some c:=fun y hy hf=>I.ok.has y.1 (B.free y hy hf)
 have snd:∀{y:Str}{c:Addr},(clOf X.env scope.names []).lookup y=some c→X.env.cells.lookup y=some c:=fun h=>clOf_sound hasX (fun p hp=>absurd hp (by simp)) h
 have clt:∀{y:Str}{c:Addr},X.env.cells.lookup y=some c→c<s.heap.objs.size:=fun {y c} h=>by
  obtain⟨v,o,ho,_⟩:=I.cell y c h
  exact Heap.lt_size ho
 have hfr:H D=none:=by rw[hD];exact I.hok.fresh (Nat.le_refl _)
 have hfC:H C=none:=I.hok.fresh (Nat.le_of_lt hC)
 have nCD:C≠D:=by rw[hD];exact Nat.ne_of_gt hC
 refine⟨⟨I.ok.mod,B.kind,I.ok.glob,I.ok.blt,Nat.le_of_lt hC,fun y z c h1 h2=>I.ok.inj y z c (snd h1) (snd h2),fun y hy=>?_,fun y c z _=>absurd (show false=true from z) Bool.false_ne_true,I.ok.hd,I.ok.frames,.inl rfl,fun b hb=>⟨?_,fun y c h=>(hf b hb).2.2.2.2.1 y c (snd h)⟩,I.bs,Nat.le_trans I.ok.bsz I.sz,fun b o e hb=>?_,fun b hb z=>?_,I.stack,I.stkFree⟩,
  rfl,I.bare,Un.laid hk (Nat.le_of_eq hD.symm) hfr,⟨m,hn,fun i y v h1 h2 h3=>?_⟩,fun y c h=>?_,?_,fun y c h=>?_,fun p hp=>absurd (show p∈([]:List (Addr×Obj)) from hp) (by simp),I.hok.laid hk (Nat.le_of_eq hD.symm) ⟨by simp,[],0,.nil,hl⟩,?_⟩
 ·-- has
  have key:(y,NameKind.free)∈scope.names:=by
   rcases hy with hy|hy
   ·rcases relabel_back hy with⟨_,z⟩|z
    ·exact z
    ·exact absurd rfl (B.cell _ z)
   ·rcases relabel_back hy with⟨z,_⟩|z
    ·cases z
    ·exact z
  exact lookup_mono_isSome (clOf_has key)
 ·exact Nat.ne_of_lt (Nat.lt_trans (hfp b hb) hC)
 ·rcases(hf b hb).2.2.2.1 with z|z
  ·exact I.ok.noex b o e z
  ·exact absurd (Nat.lt_of_lt_of_le (Heap.lt_size e) (Nat.le_trans I.ok.bsz z)) (Nat.lt_irrefl _)
 ·rcases List.mem_cons.mp (I.stkSub b z) with e|e
  ·exact(hf b hb).2.1 e
  ·exact(hf b hb).2.2.1 e
 ·-- loc
  have hlen:js.length=fs.length:=by have:=congrArg List.length B.ix;simpa using this
  have hi:¬ i<vs.length:=fun hi=>by
   unfold blkSt at h2
   rw[List.getElem?_append_left (by simpa using hi),List.getElem?_map]at h2
   cases e:vs[i]? with
   | none=>rw[e]at h2;cases h2
   | some a=>rw[e]at h2;cases h2
  have hi':vs.length≤i:=Nat.le_of_not_lt hi
  have h1':fs[i-vs.length]? = some y:=by
   have:=h1
   rw[show(cxBlk X scope (vs++fs) C s H fp).N=vs++fs from rfl,List.getElem?_append_right hi']at this
   exact this
  have h2':(js[i-vs.length]?).map (fun j=>(σ[j]?).join)=some (some v):=by
   unfold blkSt at h2
   rw[List.getElem?_append_right (by simpa using hi'),List.length_map,List.getElem?_map]at h2
   exact h2
  cases ej:js[i-vs.length]? with
  | none=>rw[ej]at h2';cases h2'
  | some j =>
   rw[ej]at h2'
   have hσ:σ[j]? = some (some v):=by
    have z:(σ[j]?).join=some v:=Option.some.inj h2'
    cases q:σ[j]? with
    | none=>rw[q]at z;cases z
    | some o=>rw[q]at z;have z':o=some v:=z;rw[z']
   have hNj:X.N[j]? = some y:=by
    have q:=congrArg (fun l=>l[i-vs.length]?) B.ix
    simp only[List.getElem?_map,ej,h1',Option.map_some]at q
    exact Option.some.inj q
   have hcap:=B.cap y (List.mem_of_getElem? h1')
   have hmem:(y,NameKind.free)∈scope.names:=PySem.mem_of_lookup hcap
   have hkX:=B.free _ hmem rfl
   have vis:Vis X.env.scope y:=by
    rcases hkX with z|z
    ·exact .inr (.inl z)
    ·exact .inr (.inr z)
   obtain⟨m0,hn0,hl0⟩:=I.loc
   obtain⟨u,r,l⟩:=hl0 j y v hNj hσ vis
   refine⟨u,r,.inr ⟨lookup_relabel_free hcap,?_⟩⟩
   rcases l with⟨z,_⟩|⟨_,c,hc,hcell⟩
   ·rcases hkX with q|q <;> (rw[q]at z;cases z)
   ·obtain⟨c',hc'⟩:=lookup_mono_isSome (clOf_has (env:=X.env) (cs:=[]) hmem)
    have e:=snd hc'
    rw[hc]at e
    cases e
    exact⟨c,hc',hcell.keeps hk⟩
 ·obtain⟨v,z⟩:=I.cell y c (snd h)
  exact⟨v,z.keeps hk⟩
 ·rw[show(cxBlk X scope (vs++fs) C s H fp).env.locals=C from rfl,upd_ne nCD]
  exact hfC
 ·have q:=snd h
  have ne:c≠D:=by rw[hD];exact Nat.ne_of_lt (clt q)
  rw[upd_ne ne]
  exact I.freeC y c q
 ·have hlen:js.length=fs.length:=by have:=congrArg List.length B.ix;simpa using this
  show(vs.map _++js.map _).length =(vs++fs).length
  rw[List.length_append,List.length_append,List.length_map,List.length_map,hlen]
theorem Inv.goneC {H':Hp}{s':Shared}{C:Addr}{h'':Heap}(I2:Inv X pins σ H s) {σ':St}(I':Inv X pins σ' H' s') (hC:H' C=none) (hle:s.heap.objs.size≤C) (hs:Heap.SameBut C s'.heap h''):Inv X pins σ' H' { s' with heap:=h'' }:=by
 refine I'.turned (t':=s'.toks) (fun b o hb e=>(hs.2 b hb).trans e) hC (Nat.ne_of_gt (Nat.lt_of_lt_of_le I2.lt hle)) (.inr (Nat.le_trans I2.sz hle)) (fun y c e z=>?_) fun p hp z=>?_
 ·obtain⟨v,o,ho,_⟩:=I2.cell y c e
  have:=Heap.lt_size ho
  rw[z]at this
  exact absurd (Nat.lt_of_lt_of_le this hle) (Nat.lt_irrefl _)
 ·have:=Heap.lt_size (I2.pin p hp).1
  rw[z]at this
  exact absurd (Nat.lt_of_lt_of_le this hle) (Nat.lt_irrefl _)
theorem blk_run {tg iter elt:Expr}{ifs:List Expr}{pos:Pos}{g:TG}{tt:TT}{te:TE}(hc:X.calm=true) (B:BlkOk X scope vs fs js)
  (hg:∀C s H ex,PG (cxBlk X scope (vs++fs) C s H ex) tg g) (ht:∀C s H ex,PIfs (cxBlk X scope (vs++fs) C s H ex) ifs tt) (he:∀C s H ex,PE (cxBlk X scope (vs++fs) C s H ex) elt te)
  {it:Addr}{fp:List Addr}{tn:Nat→Heap→Prop}{J:It}{Q:VK}{E:Value→Shared→Prop}(I2:Inv X pins σ H s) (T:Turn X.prog X.w X.K tg J fp it tn) (st2:tn 0 s.heap) (f2:∀b∈fp,FpOk X pins H b)
  (hW:∀D,H D=none→CompW J vs js σ g tt te Q D H)
  {RR:Value→Addr→Result→Shared→Prop}
  (hR:∀D C H' s',Inv X pins σ H' s'→(∃m,s'.heap.Ns C m)→H' C=none→s.heap.objs.size≤C→Q (.ref D) H'→RR (.ref D) C (.ok .next) s') :
  wpAny (model X.prog X.w) X.A (newList []) (fun acc s₃=>wpAny (model X.prog X.w) X.A (newFunctionEnv scope X.env.globals (clOf X.env scope.names []) [] X.env.qual none .none (some X.env)) (fun cenv s₄ =>
   codeAny (model X.prog X.w) X.A (.compStart (.ListComp elt [⟨tg,iter,ifs,0⟩] scope pos) 0 (.ref it) acc { cenv with scope:=relabel scope X.env }) (RR acc cenv.locals) s₄) E s₃) E s:=by
 have hfp:∀b∈fp,b<s.heap.objs.size:=fun b hb=>by
  obtain⟨o,e,_⟩:=T.obj _ _ st2 b hb
  exact Heap.lt_size e
 refine wpAny_newObj_type (wpAny_newFunctionEnv B.cell (by intro y hy;simp at hy) (fun h₁ hns₁ hsb₁=>?_) B.kind)
 dsimp only at hns₁ hsb₁ ⊢
 generalize hH2:s.heap.push { cls:=.type "list",dict:=none,data:=.seq ([]:List Value).toArray } = HH at hns₁ hsb₁ ⊢
 have hC:HH.objs.size=s.heap.objs.size+1:=by rw[← hH2,Heap.size_push]
 have hlt:s.heap.objs.size<HH.objs.size:=by rw[hC];exact Nat.lt_succ_self _
 have old:∀b o,s.heap.get? b=some o→h₁.get? b=some o:=fun b o e=>hsb₁.extBut b o (Nat.ne_of_lt (Nat.lt_trans (Heap.lt_size e) hlt)) (Heap.get?_push_of_some _ (hH2 ▸ Heap.get?_push_of_some _ e))
 have hacc:h₁.get? s.heap.objs.size=some { cls:=.type "list",data:=.seq ([]:List Value).toArray }:=hsb₁.extBut _ _ (Nat.ne_of_lt hlt) (Heap.get?_push_of_some _ (hH2 ▸ Heap.get?_push_size _ rfl))
 have I0:Inv (cxBlk X scope (vs++fs) HH.objs.size s H fp) [] (blkSt vs js σ) (upd H s.heap.objs.size (.lst [])) { s with heap:=h₁,toks:=s.toks+([]:List (Str×Value)).length }:=blk_start I2 B f2 hfp hns₁ old rfl hlt hacc
 obtain⟨W,⟨m0,w0⟩,turn⟩:=hW s.heap.objs.size (I2.hok.fresh (Nat.le_refl _))
 have st1:tn 0 h₁:=T.keep _ _ _ st2 fun b hb o e=>old b o e
 have hch:∀b∈fp,(b∈X.ex∨X.s₀.heap.objs.size≤b)∧b≠X.env.locals∧(∀x c,X.env.cells.lookup x=some c→c≠b)∧∀p∈X.pn++pins,p.1≠b:=fun b hb=>by
  obtain⟨_,a2,_,a4,a5,a6⟩:=f2 b hb
  exact⟨a4,a2,a5,a6⟩
 have back:∀{pl:List (Addr×Obj)}{σ':St}{H':Hp}{s':Shared},Inv (cxBlk X scope (vs++fs) HH.objs.size s H fp) pl σ' H' s'→Inv X pins σ H' s':=fun {pl σ' H' s'} J'=>I2.call' (ch:=fp) J'.os J'.base J'.hok J'.bare hch
 have nD:∀b∈fp,b≠s.heap.objs.size:=fun b hb=>Nat.ne_of_lt (hfp b hb)
 have stat:∀{H':Hp},(∀b∈fp,H' b=none)→∀b∈fp,FpOk (cxBlk X scope (vs++fs) HH.objs.size s H fp) [] H' b:=fun {H'} hn b hb=>by
  have z:=I0.ok
  refine⟨hn b hb,(z.exf b hb).1,z.exfs b hb,.inl hb,(z.exf b hb).2,fun p hp=>absurd (show p∈([]:List (Addr×Obj)) from hp) (by simp)⟩
 have loop:∀s₃:Shared,s₃ = { s with heap:=h₁,toks:=s.toks+([]:List (Str×Value)).length } →
   codeAny (model X.prog X.w) X.A (.compLoop (.ListComp elt [⟨tg,iter,ifs,0⟩] scope pos) 0 (.ref it) (.ref s.heap.objs.size) (compEnvC scope (clOf X.env scope.names []) HH.objs.size X.env)) (RR (.ref s.heap.objs.size) HH.objs.size) s₃:=by
  rintro s₃ rfl
  refine codeAny_compLoop_gen (fun n s'=>∃i σ' ys H',Inv (cxBlk X scope (vs++fs) HH.objs.size s H fp) [] σ' H' s'∧tn i s'.heap∧(∀b∈fp,H' b=none)∧W i n σ' ys H') ?_ m0
   ⟨0,_,_,_,I0,st1,fun b hb=>by rw[upd_ne (nD b hb)];exact(f2 b hb).1,w0⟩
  rintro n s3 ⟨i,σ3,ys,H3,I3,st3,fr3,w3⟩
  rcases turn i n σ3 ys H3 w3 with⟨stop,q⟩|⟨go,N,hN,step⟩
  ·refine thn (T.done (cxBlk X scope (vs++fs) HH.objs.size s H fp) rfl rfl rfl hc i [] s3 σ3 H3 _ I3 (stat fr3) st3 stop) fun r s4 ⟨hr,I4⟩=>?_
   subst hr
   obtain⟨m,hm,_⟩:=I4.loc
   exact hR _ _ H3 s4 (back I4) ⟨m,hm⟩ I4.free (Nat.le_of_lt hlt) q
  ·refine thn (T.item (cxBlk X scope (vs++fs) HH.objs.size s H fp) rfl rfl rfl hc i [] s3 σ3 H3 _ I3 (stat fr3) st3 go) fun r s4 ⟨u,hr,h4⟩=>?_
   subst hr
   refine thn h4 fun _ s5 ⟨x,H5,I5,r5,y5,st5,fr5⟩=>?_
   have I5':=I5.pinned (stat fr5) (T.obj _ _ st5)
   have again:∀{σ7:St}{H7:Hp}{s7:Shared}{zs:List V},Inv (cxBlk X scope (vs++fs) HH.objs.size s H fp) ([]++pinsAt fp s5.heap) σ7 H7 s7→N σ7 zs H7→∃m,m<n∧∃i σ' ys H',Inv (cxBlk X scope (vs++fs) HH.objs.size s H fp) [] σ' H' s7∧tn i s7.heap∧(∀b∈fp,H' b=none)∧W i m σ' ys H':=fun {σ7 H7 s7 zs} I7 n7=>by
    obtain⟨m',hm,w7⟩:=hN σ7 zs H7 n7
    refine⟨m',hm,i+1,σ7,zs,H7,I7.unpinned,T.keep _ _ _ st5 fun b hb o e=>(I7.pin (b,o) (List.mem_append_right _ (List.mem_append_right _ (mem_pinsAt hb e)))).1,fun b hb=>?_,w7⟩
    obtain⟨o,e,d⟩:=T.obj _ _ st5 b hb
    exact(I7.pin (b,o) (List.mem_append_right _ (List.mem_append_right _ (mem_pinsAt hb e)))).2.1
   refine thn (hg _ _ _ _ _ s5 σ3 H5 x u _ I5' r5 (step x H5 y5)) fun _ s6 ⟨σ6,H6,I6,q6⟩=>?_
   refine thn (ht _ _ _ _ _ s6 σ6 H6 _ I6 q6) fun ok s7 ⟨H7,I7,q7⟩=>?_
   cases ok with
   | false =>
    rw[if_neg Bool.false_ne_true]at q7 ⊢
    exact again I7 q7
   | true =>
    rw[if_pos rfl]at q7 ⊢
    refine thn (he _ _ _ _ _ s7 σ6 H7 _ I7 q7) fun y s8 ⟨yv,H8,I8,r8,hD8,hz,n8⟩=>?_
    refine thn (mt_append _ s8 σ6 H8 (.ref s.heap.objs.size) [yv] (.ref s.heap.objs.size) [y] (fun _ H9=>N σ6 (ys ++ [yv]) H9) I8 rfl (.cons r8 .nil) ⟨_,ys,yv,rfl,rfl,hD8,hz,n8⟩) fun _ s9 ⟨_,H9,I9,_,n9⟩=>?_
    exact again I9 n9
 exact codeAny_compStart_list (loop _ rfl) (T.self X.A 0 _ _ _ st1 (loop _ rfl))
theorem pe_comp {tg iter elt:Expr}{ifs:List Expr}{pos:Pos}{wi:TI}{g:TG}{tt:TT}{te:TE}(hc:X.calm=true) (B:BlkOk X scope vs fs js) (hi:PI X tg iter wi)
  (hg:∀C s H ex,PG (cxBlk X scope (vs++fs) C s H ex) tg g) (ht:∀C s H ex,PIfs (cxBlk X scope (vs++fs) C s H ex) ifs tt) (he:∀C s H ex,PE (cxBlk X scope (vs++fs) C s H ex) elt te)
  (hs:∀x,foldedSetIterable iter X.env x=pure x:=by intro _;rfl):PE X (.ListComp elt [⟨tg,iter,ifs,0⟩] scope pos) (tComp vs js wi g tt te):=by
 intro pins s σ H Q I h
 rw[eval_ListComp]
 refine wpAny_comprehension_free (use:=none) rfl hs (closure_eq fun y hy hf=>I.ok.has y.1 (B.free y hy hf)) B.kind B.names (thn (hi pins s σ H _ I h) fun v s1 h1=>thn h1 fun itv s2 h2=>?_)
 obtain⟨it,fp,tn,J,H2,e,I2,T,st2,f2,hW⟩:=h2
 subst e
 refine blk_run (RR:=fun acc C=>compPost (model X.prog X.w) X.A X.xe none (EP X pins σ Q) acc C) hc B hg ht he I2 T st2 f2 hW ?_
 intro D C H' s' I' hn hC hle q
 obtain⟨m,hn⟩:=hn
 exact⟨m,hn,fun h'' hs''=>⟨.ref D,H',I2.goneC I' hC hle hs'',rfl,q⟩⟩
theorem ps_setc {i:Nat}{y:Str}{py spos:Pos}{tg iter elt:Expr}{ifs:List Expr}{pos:Pos}{wi:TI}{g:TG}{tt:TT}{te:TE}(hN:X.N.Nodup) (hi':X.N[i]? = some y) (hy:X.env.scope.names.lookup y=some .local) (hc:X.calm=true) (B:BlkOk X scope vs fs js) (hi:PI X tg iter wi)
  (hg:∀C s H ex,PG (cxBlk X scope (vs++fs) C s H ex) tg g) (ht:∀C s H ex,PIfs (cxBlk X scope (vs++fs) C s H ex) ifs tt) (he:∀C s H ex,PE (cxBlk X scope (vs++fs) C s H ex) elt te)
  (hsw:swapsWith (.ListComp elt [⟨tg,iter,ifs,0⟩] scope pos) (some (.Name y py)) spos.line X.env=pure true:=by rfl)
  (hs:∀x,foldedSetIterable iter X.env x=pure x:=by intro _;rfl):PS X (.Assign [.Name y py] (.ListComp elt [⟨tg,iter,ifs,0⟩] scope pos) spos) (tAsg (tComp vs js wi g tt te) (gName i)):=by
 intro pins s σ H D I h
 rw[exec_Assign_Name_used _ _ _ _ hsw]
 refine wpAny_bind (wpAny_standAt (wpAny_bind ?_))
 show wpAny _ X.A (do let _ ← comprehension (.ListComp elt [⟨tg,iter,ifs,0⟩] scope pos) scope X.env _ (newList []) false (eval iter X.env) (some (assign (.Name y py) X.env))) _ _ s
 refine wpAny_bind (wpAny_mono (wpAny_comprehension_free (use:=some (assign (.Name y py) X.env)) (Q:=fun _ s'=>SP X pins D .next s') rfl hs (closure_eq fun y hy hf=>I.ok.has y.1 (B.free y hy hf)) B.kind B.names
  (thn (hi pins s σ H _ I h) fun v s1 h1=>thn h1 fun itv s2 h2=>?_)) (fun _ s' hq=>wpAny_pure (wpAny_pure hq)) fun _ _ e=>e)
 obtain⟨it,fp,tn,J,H2,e,I2,T,st2,f2,hW⟩:=h2
 subst e
 refine blk_run (Q:=fun x H1=>gName i x σ H1 D.nx) (RR:=fun acc C=>compPost (model X.prog X.w) X.A X.xe (some (assign (.Name y py) X.env)) (fun _ s'=>SP X pins D .next s') acc C) hc B hg ht he I2 T st2 f2 hW ?_
 intro D' C H' s' I' hn hC hle q
 obtain⟨m,hn⟩:=hn
 show wpAny _ X.A (assign (.Name y py) X.env (.ref D')) _ _ _
 refine wpAny_assign_Name (store_ok2 I' hN hi' (.inl hy) (v:=.ref D') rfl (fun s'' I'' hsb=>?_) (.inr hy))
 obtain⟨a,hsb,ha⟩:=hsb
 have nCa:C≠a:=by
  rcases ha with z|z
  ·rw[z];exact Nat.ne_of_gt (Nat.lt_of_lt_of_le I2.lt hle)
  ·obtain⟨v,o,ho,_⟩:=I2.cell y a z
   exact Nat.ne_of_gt (Nat.lt_of_lt_of_le (Heap.lt_size ho) hle)
 exact⟨m,hn.sameBut hsb nCa,fun h'' hs''=>⟨_,H',I2.goneC I'' hC hle hs'',q⟩⟩
end
section
variable {vs:List Str}{js:List Nat}{σ:St}{g:TG}{tt:TT}{te:TE}{Q:VK}
theorem comp_range {lo:Int}{n:Nat}{H:Hp}(Pv:Nat→St→List V→Hp→Prop) (D:Addr) (h0:Pv 0 (blkSt vs js σ) [] (upd H D (.lst [])))
  (hs:∀i σ' ys H',i<n→Pv i σ' ys H'→g (.int (lo+i)) σ' H' fun σ3 H3=>tt σ3 H3 fun b H4=>if b=true then te σ3 H4 fun y H5=>H5 D=some (.lst ys)∧ys.length<sizeLine∧Pv (i+1) σ3 (ys ++ [y]) (upd H5 D (.lst (ys ++ [y]))) else Pv (i+1) σ3 ys H4)
  (hd:∀σ' ys H',Pv n σ' ys H'→Q (.ref D) H') :
  CompW (Itr lo n) vs js σ g tt te Q D H:=by
 refine⟨fun i m σ' ys H'=>m=n-i∧i≤n∧Pv i σ' ys H',⟨n,by simp,Nat.zero_le _,h0⟩,?_⟩
 rintro i m σ' ys H' ⟨rfl,hi,p⟩
 by_cases hlt:i<n
 ·refine .inr ⟨hlt,Pv (i+1),fun σ2 zs H2 p'=>⟨n-(i+1),by omega,rfl,hlt,p'⟩,fun x H2 y=>?_⟩
  obtain⟨e,y⟩:=y
  subst e y
  exact hs i σ' ys _ hlt p
 ·have e:i=n:=by omega
  subst e
  exact .inl ⟨Nat.le_refl _,hd σ' ys H' p⟩
theorem comp_list {K:PySem.W.Frag}{a:Addr}{xs:List V}{H:Hp}(Pv:Nat→St→List V→Hp→Prop) (D:Addr) (h0:Pv 0 (blkSt vs js σ) [] (upd H D (.lst []))) (hl:∀i σ' ys H',i≤xs.length→Pv i σ' ys H'→SqL K H' a xs)
  (hs:∀i x σ' ys H',xs[i]? = some x→Pv i σ' ys H'→g x σ' H' fun σ3 H3=>tt σ3 H3 fun b H4=>if b=true then te σ3 H4 fun y H5=>H5 D=some (.lst ys)∧ys.length<sizeLine∧Pv (i+1) σ3 (ys ++ [y]) (upd H5 D (.lst (ys ++ [y]))) else Pv (i+1) σ3 ys H4)
  (hd:∀σ' ys H',Pv xs.length σ' ys H'→Q (.ref D) H') :
  CompW (Itl K a) vs js σ g tt te Q D H:=by
 refine⟨fun i m σ' ys H'=>m=xs.length-i∧i≤xs.length∧Pv i σ' ys H',⟨xs.length,by simp,Nat.zero_le _,h0⟩,?_⟩
 rintro i m σ' ys H' ⟨rfl,hi,p⟩
 have q:=hl i σ' ys H' hi p
 by_cases hlt:i<xs.length
 ·refine .inr ⟨⟨xs,xs[i],q,by simp[hlt]⟩,Pv (i+1),fun σ2 zs H2 p'=>⟨xs.length-(i+1),by omega,rfl,hlt,p'⟩,fun x H2 y=>?_⟩
  obtain⟨e,y⟩:=y
  subst e
  exact hs i x σ' ys _ (y xs q) p
 ·have e:i=xs.length:=by omega
  subst e
  exact .inl ⟨⟨xs,q,Nat.le_refl _⟩,hd σ' ys H' p⟩
end
end L2
namespace L2
open PySem PySem.Spec PyProof.Rows
theorem bt_len:bootBuiltins "len" = some (.builtin "len"):=by decide +kernel
theorem bt_abs:bootBuiltins "abs" = some (.builtin "abs"):=by decide +kernel
theorem bt_max:bootBuiltins "max" = some (.builtin "max"):=by decide +kernel
theorem bt_min:bootBuiltins "min" = some (.builtin "min"):=by decide +kernel
theorem bt_all:bootBuiltins "all" = some (.builtin "all"):=by decide +kernel
theorem bt_isinstance:bootBuiltins "isinstance" = some (.builtin "isinstance"):=by decide +kernel
theorem bt_bool:bootBuiltins "bool" = some (.type "bool"):=by decide +kernel
structure Cal (P:Program) (w:World) (K:PySem.W.Frag) (mg:Str→Option Value) (base:Heap) (x:Str) (ps:List Str) (k:Nat) (sp:Sp):Prop where
 ex:∃(f:Addr) (fd:FuncData),FnOk P w K mg base CX0 k f fd ps sp∧Binds K fd ps []∧mg x=some (.ref f)∧PySem.W.keepIn K (.ref f)=true
section
variable {X:Cx}{x:Str}{ps:List Str}{k:Nat}{sp:Sp}{e:Expr}{es:List Expr}{t:TA}{p pos:Pos}
theorem pcl (C:Cal X.prog X.w X.K X.mg X.base x ps k sp) (hr:Room k X.A) (ha:PA X (e::es) t) (hg:Gl X x:=by rfl) (hdb:(x ==("__debug__" : Str))=false:=by decide) (he:starEach (e::es) X.env =(false,eval e X.env)::starEach es X.env:=by rfl) (hpl:(backTo pos (starEach es X.env)).any (·.1)=false:=by rfl) :
  PE X (.Call (.Name x p) (e::es) [] pos) (tCall sp [] E0 t):=by
 obtain⟨f,fd,F,hb,hm,hk⟩:=C.ex
 exact pe_call F hr hg hm hk hb .nil pass0 ha hdb he hpl
end
theorem Cal.of {P:Program}{w:World}{K:PySem.W.Frag}{mg:Str→Option Value}{base:Heap}{x:Str}{st:Stmt}{f:Addr}{fd:FuncData}{N ps:List Str}{k:Nat}{sp:Sp}(F:Fun K x x st f fd) (mF:mg x=some (.ref f)) (bF:Binds K fd ps []) (S:FnScope N ps (defScope st)) (len:∀vs H Q E,sp vs H Q E→vs.length=ps.length)
  (hbody:∀(cdv:Value) (A:Around) (outer:List Env) (s:Shared) (H:Hp) (vs:List V) (Q:VK) (E:XK),Room k (A.deeper (envOfC x (defScope st) s.heap.objs.size f cdv))→sp vs H Q E →
   ∃t,PSs (cxOf CX0 P w K mg base N x (defScope st) f cdv A outer s H E).nox (defBody st) t∧t { nx:=fun _ H'=>Q .non H',rt:=Q } (start N vs) H):Cal P w K mg base x ps (k+1) sp :=
 ⟨f,fd,F.ok S len hbody,bF,mF,F.kp⟩
def blkB (sc scope:Scope) (N vs fs:List Str) (js:List Nat):Bool :=
 (scope.kind == .function) && scope.names.all (fun y=>y.2 != .cell) && scope.names.all (fun y=>y.2 != .local || scope.names.lookup y.1 == some .local) &&
 scope.names.all (fun y=>y.2 != .free || sc.names.lookup y.1 == some .cell || sc.names.lookup y.1 == some .free) && vs.all (fun y=>scope.names.lookup y == some .local) && fs.all (fun y=>scope.names.lookup y == some .free) &&
 (js.map (fun j=>N[j]?) == fs.map some)
theorem blkOk {X:Cx}{sc scope:Scope}{N vs fs:List Str}{js:List Nat}(h:blkB sc scope N vs fs js=true) (hs:X.env.scope=sc) (hN:X.N=N):BlkOk X scope vs fs js:=by
 unfold blkB at h
 simp only[Bool.and_eq_true,List.all_eq_true,beq_iff_eq,bne_iff_ne,Bool.or_eq_true]at h
 obtain⟨⟨⟨⟨⟨⟨h1,h2⟩,h3⟩,h4⟩,h5⟩,h6⟩,h7⟩:=h
 refine⟨h1,h2,fun y hy hl=>?_,fun y hy hf=>?_,h5,h6,?_⟩
 ·rcases h3 y hy with z|z
  ·exact absurd hl z
  ·exact z
 ·unfold Env.kindOf
  rw[hs]
  rcases h4 y hy with(z|z)|z
  ·exact absurd hf z
  ·exact .inl z
  ·exact .inr z
 ·rw[hN];exact h7
def tCut (t:TS):TS:=fun D σ H=>∃R:St→Hp→Prop,t { D with nx:=R } σ H∧∀σ' H',R σ' H'→D.nx σ' H'
theorem ps_cut {X:Cx}{st:Stmt}{t:TS}(h:PS X st t):PS X st (tCut t):=by
 intro pins s σ H D I hw
 obtain⟨R,h1,h2⟩:=hw
 refine thn (h pins s σ H _ I h1) fun f s' q=>?_
 cases f with
 | next =>
  obtain⟨σ',H',I',q⟩:=q
  exact⟨σ',H',I',h2 _ _ q⟩
 | brk=>exact q
 | cont=>exact q
 | ret u=>exact q
section
variable {X:Cx}
def CDivB (i j:Int):Prop:=0<j∧j<2^100
theorem op_fdivB:OpR X (binaryOp .FloorDiv) (rI CDivB fun i j=>.int (i / j)):=opI fun i j _ _ _ _ _ hc q=>by
 have h1:(0:Int)<j:=hc.1
 have h2:j<2^100:=hc.2
 refine floordiv_int (by omega) (by rw[Int.fdiv_eq_ediv_of_nonneg i (by omega)];exact q) (.inl (PyProof.noPylong_of_log2 ?_))
 have h0:j.natAbs≠0:=by omega
 have h3:j.natAbs.log2<100:=(Nat.log2_lt h0).mpr (by omega)
 omega
theorem pe_powC {a b c:Int}{j1 j2:Nat}{p1 p2 pos:Pos}(h:a^b.toNat=c) (h1:CPow a b):PE X (.BinOp (.Constant (.int a) j1 p1) .Pow (.Constant (.int b) j2 p2) pos) (tC (.int c)):=by
 intro pins s σ H Q I q
 subst h
 exact pe_op op_pow pe_int pe_int pins s σ H Q I ⟨a,b,rfl,rfl,h1,q⟩
theorem get_list:PGet X (rIxL X.K):=by
 intro pins s σ H x y v u Q I rx ry h
 obtain⟨p,xs,i,z,rfl,rfl,hq,he,q⟩:=h
 cases rx
 obtain⟨t,rfl⟩:=ry
 obtain⟨its,r,pl,hz⟩:=I.list hq
 obtain⟨j,h1,h2,h3,h4,h5⟩:=atI_get he
 obtain⟨w,ew,rw'⟩:=r.get h2
 have hl:=r.length
 have hn:=line63
 have fin:EP X pins σ Q w s:=⟨z,H,I,rw',q⟩
 by_cases h0:0≤i
 ·have hj:i.toNat=j:=by
   rw[seqIndex_of h0 h5]at h1
   exact Option.some.inj h1
  exact wpAny_getItem_list pl.isList h0 (by omega) (by rw[hj];simpa using ew) fin
 ·have hj:(i+(its.toArray.size:Int)).toNat=j:=by
   rw[seqIndex_neg (by omega) h4]at h1
   rw[List.size_toArray,← hl]
   exact Option.some.inj h1
  exact wpAny_getItem_list_neg pl.isList (by omega) (by rw[List.size_toArray] <;> omega) (by omega) (by rw[hj];simpa using ew) fin
def rLenL (K:PySem.W.Frag):List V→Hp→VK→Prop:=fun xs H Q=>∃p ys,xs=[.ref p]∧(SqL K H p ys∨SqT K H p ys)∧Q (.int ys.length) H
theorem call_lenL:CallR X (.builtin "len") (rLenL X.K):=call_len_seq
def rAbs1:List V→Hp→VK→Prop:=fun xs H Q=>∃i,xs=[.int i]∧Q (.int (if i<0 then -i else i)) H
theorem call_abs1:CallR X (.builtin "abs") rAbs1:=call_abs
def rMaxI:List V→Hp→VK→Prop:=fun xs H Q=>∃i j,xs=[.int i,.int j]∧Q (.int (if j > i then j else i)) H
theorem call_maxI (hc:X.calm=true):CallR X (.builtin "max") rMaxI:=call_max2 hc
def rMinI:List V→Hp→VK→Prop:=fun xs H Q=>∃i j,xs=[.int i,.int j]∧Q (.int (if j<i then j else i)) H
theorem call_minI (hc:X.calm=true):CallR X (.builtin "min") rMinI:=call_min2 hc
def rIsi (K:PySem.W.Frag):List V→Hp→VK→Prop:=fun xs H Q=>∃x t T b,xs=[x,.ty T]∧TyOf K H x t∧PySem.W.kitOne K t (.type T)=some b∧Q (.bl b) H
theorem call_isinst:CallR X (.builtin "isinstance") (rIsi X.K):=by
 intro pins s σ H xs us Q I r h
 obtain⟨x,t,T,b,rfl,ty,e,q⟩:=h
 obtain⟨u,w',rfl,r1,r2⟩:=vals2 r
 cases (show w'=Value.type T from r2)
 exact isinst_ok I r1 ty e fun tk=>⟨.bl b,H,I.tok _,rfl,q⟩
end
section
variable {σ:St}{H:Hp}{Q:VK}{D:Ends}
theorem rd_var {i:Nat}{v:V}(h:σ[i]? = some (some v)) (q:Q v H):tVar i σ H Q:=⟨v,h,q⟩
theorem rd_c {v:V}(q:Q v H):tC v σ H Q:=q
theorem rd_op {r:R2}{ta tb:TE}(h:ta σ H fun x H1=>tb σ H1 fun y H2=>r x y H2 Q):tOp r ta tb σ H Q:=h
theorem rd_I0 {g:Int→Int→V}{i j:Int}(q:Q (g i j) H):rI0 g (.int i) (.int j) H Q:=⟨i,j,rfl,rfl,q⟩
theorem rd_I {C:Int→Int→Prop}{g:Int→Int→V}{i j:Int}(c:C i j) (q:Q (g i j) H):rI C g (.int i) (.int j) H Q:=⟨i,j,rfl,rfl,c,q⟩
theorem dec_int' {i j:Int}:decide (V.int i=V.int j)=decide (i=j):=by
 rw[Bool.eq_iff_iff];simp
theorem rd_eqI {i j:Int}(q:Q (.bl (decide (i=j))) H):rEq (.int i) (.int j) H Q:=⟨rfl,by rw[dec_int'];exact q⟩
theorem rd_neB {i j:Bool}(q:Q (.bl (!decide (i=j))) H):rNe (.bl i) (.bl j) H Q:=⟨rfl,by
 have e:decide (V.bl i=V.bl j)=decide (i=j):=by rw[Bool.eq_iff_iff];simp
 rw[e];exact q⟩
theorem rd_bl {c:Bool}{P:Bool→Prop}(h:P c):∃k,V.bl c=V.bl k∧P k:=⟨c,rfl,h⟩
theorem rd_test {t:TE}{R:Bool→Hp→Prop}(h:t σ H fun x H'=>∃k,x = .bl k∧R k H'):tTest t σ H R:=h
theorem rd_tB {t:TE}{R:Bool→Hp→Prop}(h:t σ H fun x H'=>∃k,x = .bl k∧R k H'):tB t σ H R:=h
theorem rd_and {t u:TT}{R:Bool→Hp→Prop}(h:t σ H fun c H1=>if c=true then u σ H1 R else R false H1):tAnd t u σ H R:=h
theorem rd_or {t u:TT}{R:Bool→Hp→Prop}(h:t σ H fun c H1=>if c=true then R true H1 else u σ H1 R):tOr t u σ H R:=h
theorem rd_not {t:TT}{R:Bool→Hp→Prop}(h:t σ H fun c H1=>R (!c) H1):tNot t σ H R:=h
theorem rd_andV {ta tb:TE}(h:ta σ H fun x H1=>∃c,x = .bl c∧if c=true then tb σ H1 Q else Q (.bl false) H1):tAndV ta tb σ H Q:=h
theorem rd_nil {R:List V→Hp→Prop}(h:R [] H):tNil σ H R:=h
theorem rd_cons {ta:TE}{tr:TA}{R:List V→Hp→Prop}(h:ta σ H fun x H1=>tr σ H1 fun xs H2=>R (x::xs) H2):tCons ta tr σ H R:=h
theorem rd_call {sp:Sp}{dvs:List V}{E:XK}{t:TA}(h:t σ H fun vs H1=>sp (vs++dvs) H1 Q E):tCall sp dvs E t σ H Q:=h
theorem rd_cb {r:List V→Hp→VK→Prop}{t:TA}(h:t σ H fun vs H1=>r vs H1 Q):tCB r t σ H Q:=h
theorem rd_lst {t:TA}(h:t σ H fun xs H1=>xs.length≤sizeLine∧∀p,H1 p=none→Q (.ref p) (upd H1 p (.lst xs))):tLst t σ H Q:=h
theorem rd_tup {t:TA}(h:t σ H fun xs H1=>xs.length≤sizeLine∧∀p,H1 p=none→Q (.ref p) (upd H1 p (.tup xs))):tTup t σ H Q:=h
theorem rd_asg {te:TE}{g:TG}(h:te σ H fun x H1=>g x σ H1 D.nx):tAsg te g D σ H:=h
theorem rd_gname {i:Nat}{v:V}{R:St→Hp→Prop}(h:R (σ.set i (some v)) H):gName i v σ H R:=h
theorem rd_ret {te:TE}(h:te σ H D.rt):tRet te D σ H:=h
theorem rd_next (h:D.nx σ H):tNext D σ H:=h
theorem rd_ixL {K:PySem.W.Frag}{p:Addr}{xs:List V}{i:Int}{v:V}(h:SqL K H p xs) (e:atI xs i=some v) (q:Q v H):rIxL K (.ref p) (.int i) H Q:=⟨p,xs,i,v,rfl,rfl,h,e,q⟩
theorem rd_augS {to ti te:TE}{tget:V→V→Hp→VK→Prop}{tip:TIp}{tset:TSet}(h:to σ H fun o H1=>ti σ H1 fun i H2=>tget o i H2 fun x H3=>te σ H3 fun y H4=>tip x y H4 fun z H5=>tset o i z H5 fun H6=>D.nx σ H6):tAugS to ti te tget tip tset D σ H:=h
theorem rd_ip {f:Int→Int→Int}{i j:Int}(q:Q (.int (f i j)) H):ipI f (.int i) (.int j) H Q:=⟨i,j,rfl,rfl,q⟩
theorem rd_set0 {p:Addr}{a:V}{r:List V}{v:V}{R:Hp→Prop}(h:H p=some (.lst (a::r))) (q:R (upd H p (.lst (v::r)))):rSetL (.ref p) (.int 0) v H R :=
 ⟨p,_,0,0,rfl,rfl,h,by unfold ixN;rw[if_pos (by decide),if_pos (by rw[List.length_cons];omega)];rfl,q⟩
theorem rd_set1 {p:Addr}{a b:V}{r:List V}{v:V}{R:Hp→Prop}(h:H p=some (.lst (a::b::r))) (q:R (upd H p (.lst (a::v::r)))):rSetL (.ref p) (.int 1) v H R :=
 ⟨p,_,1,1,rfl,rfl,h,by unfold ixN;rw[if_pos (by decide),if_pos (by rw[List.length_cons,List.length_cons];omega)];rfl,q⟩
theorem rd_gsub {to ti:TE}{t:TSet}{v:V}{R:St→Hp→Prop}(h:to σ H fun o H1=>ti σ H1 fun i H2=>t o i v H2 fun H3=>R σ H3):gSub to ti t v σ H R:=h
theorem rd_sl {r:V→Option Int→Option Int→Hp→VK→Prop}{te:TE}{tl th:TO}(h:te σ H fun x H1=>tl σ H1 fun l H2=>th σ H2 fun u H3=>r x l u H3 Q):tSl r te tl th σ H Q:=h
theorem rd_nop {R:Option Int→Hp→Prop}(h:R none H):tNoPart σ H R:=h
theorem rd_part {t:TE}{R:Option Int→Hp→Prop}(h:t σ H fun x H1=>∃i,x = .int i∧R (some i) H1):tPart t σ H R:=h
theorem rd_int {i:Int}{P:Int→Prop}(h:P i):∃k,V.int i=V.int k∧P k:=⟨i,rfl,h⟩
theorem rd_slL {K:PySem.W.Frag}{a:Addr}{xs:List V}{lo hi:Option Int}(h:SqL K H a xs) (q:∀p,H p=none→Q (.ref p) (upd H p (.lst (cutV xs lo hi)))):rSlL K (.ref a) lo hi H Q:=⟨a,xs,rfl,h,q⟩
theorem rd_lenL {K:PySem.W.Frag}{a:Addr}{ys:List V}(h:SqL K H a ys) (q:Q (.int ys.length) H):rLenL K [.ref a] H Q:=⟨a,ys,rfl,.inl h,q⟩
theorem rd_abs {i:Int}(q:Q (.int (if i<0 then -i else i)) H):rAbs1 [.int i] H Q:=⟨i,rfl,q⟩
theorem rd_max {i j:Int}(q:Q (.int (max i j)) H):rMaxI [.int i,.int j] H Q:=⟨i,j,rfl,by
 have e:(if j > i then j else i)=max i j:=by omega
 rw[e];exact q⟩
theorem rd_min {i j:Int}(q:Q (.int (min i j)) H):rMinI [.int i,.int j] H Q:=⟨i,j,rfl,by
 have e:(if j<i then j else i)=min i j:=by omega
 rw[e];exact q⟩
theorem rd_isi {K:PySem.W.Frag}{x:V}{t:Value}{T:String}{b:Bool}(h:TyOf K H x t) (e:PySem.W.kitOne K t (.type T)=some b) (q:Q (.bl b) H):rIsi K [x,.ty T] H Q:=⟨x,t,T,b,rfl,h,e,q⟩
theorem rd_if {c:Prop} [Decidable c] {A B:Prop}(h1:c→A) (h2:¬ c→B):if decide c=true then A else B:=by
 by_cases h:c
 ·rw[decide_eq_true h,if_pos rfl];exact h1 h
 ·rw[decide_eq_false h,if_neg Bool.false_ne_true];exact h2 h
theorem rd_rng1 {ta:TA}{R:It→Hp→Prop}(h:ta σ H fun vs H1=>∃j:Int,vs=[.int j]∧-(2^62)≤j∧j<2^62∧R (Itr 0 j.toNat) H1):iRng1 ta σ H R:=h
theorem rd_ilist {K:PySem.W.Frag}{tl:TE}{R:It→Hp→Prop}(h:tl σ H fun x H1=>∃a,x = .ref a∧(∃xs,SqL K H1 a xs)∧R (Itl K a) H1):iList K tl σ H R:=h
theorem rd_comp {vs:List Str}{js:List Nat}{wi:TI}{g:TG}{tt:TT}{te:TE}(h:wi σ H fun J H1=>∀D,H1 D=none→CompW J vs js σ g tt te Q D H1):tComp vs js wi g tt te σ H Q:=h
theorem rd_yes {R:Bool→Hp→Prop}(h:R true H):tYes σ H R:=h
theorem rd_iteT {A B:Prop}(h:A):if true=true then A else B:=iteT h
theorem rd_iteF {A B:Prop}(h:B):if false=true then A else B:=iteF h
theorem rd_iteNT {A B:Prop}(h:B):if (!true)=true then A else B:=iteF h
theorem cut_lo {ms:List Int}{k:Nat}:cutV (ms.map V.int) (some (k:Int)) none =(ms.drop k).map V.int:=by
 unfold cutV
 rw[HT.sIx_nat,HT.sIx_none,List.length_map,← List.map_drop]
 by_cases h:k≤ms.length
 ·rw[Nat.min_eq_left h,List.take_of_length_le (by rw[List.length_map,List.length_drop];omega)]
 ·rw[List.drop_eq_nil_of_le (by omega:ms.length≤min k ms.length),List.drop_eq_nil_of_le (by omega:ms.length≤k)]
  simp
theorem cut_hi {ms:List Int}{k:Nat}:cutV (ms.map V.int) none (some (k:Int)) =(ms.take k).map V.int:=by
 unfold cutV
 rw[HT.sIx_nat,HT.sIx_none,List.length_map,List.drop_zero,Nat.sub_zero,← List.map_take]
 by_cases h:k≤ms.length
 ·rw[Nat.min_eq_left h]
 ·rw[Nat.min_eq_right (by omega),List.take_of_length_le (Nat.le_refl _),List.take_of_length_le (by omega)]
theorem same_new {H:Hp}{p:Addr}(h:H p=none) (o:HO):Same H (upd H p o):=fun b u q=>by rw[upd_ne (ne_of_none q h)];exact q
end
end L2
namespace L2
open PySem PySem.Spec PyProof.Rows
mutual
inductive DV (K:PySem.W.Frag) (H:Hp):V→PyData→Prop
 | non:DV K H .non .none
 | bl (b:Bool):DV K H (.bl b) (.bool b)
 | int (i:Int):DV K H (.int i) (.int i)
 | str (x:Str):DV K H (.str x) (.str x)
 | lst {a:Addr}{xs:List V}{ds:List PyData}:SqL K H a xs→DVs K H xs ds→DV K H (.ref a) (.list ds)
 | tup {a:Addr}{xs:List V}{ds:List PyData}:SqT K H a xs→DVs K H xs ds→DV K H (.ref a) (.tuple ds)
inductive DVs (K:PySem.W.Frag) (H:Hp):List V→List PyData→Prop
 | nil:DVs K H [] []
 | cons {x:V}{d:PyData}{xs:List V}{ds:List PyData}:DV K H x d→DVs K H xs ds→DVs K H (x::xs) (d::ds)
end
section
variable {X:Cx}{pins:List (Addr×Obj)}{σ:St}{H:Hp}{s:Shared}
mutual
theorem DV.reads (I:Inv X pins σ H s):∀{x:V}{d:PyData}{v:Value},DV X.K H x d→RelV x v→∃as,Reads s.heap v d as
 | _,_,_,.non,r=>by cases r;exact⟨_,.none⟩
 | _,_,_,.bl b,r=>by cases r;exact⟨_,.bool b⟩
 | _,_,_,.int i,r=>by obtain⟨t,rfl⟩:=r;exact⟨_,.int i t⟩
 | _,_,_,.str x,r=>by obtain⟨t,rfl⟩:=r;exact⟨_,.str x t⟩
 | _,_,_,.lst (a:=a) h ds,r=>by
  cases r
  obtain⟨its,rv,⟨o,n,e,c,_,d⟩,_⟩:=I.list h
  obtain⟨as,q⟩:=DVs.reads I ds rv
  exact⟨_,.list e c d (by simpa using q)⟩
 | _,_,_,.tup (a:=a) h ds,r=>by
  cases r
  obtain⟨its,rv,⟨o,e,c,n,d⟩,_⟩:=I.tuple h
  obtain⟨as,q⟩:=DVs.reads I ds rv
  exact⟨_,.tuple e c d (by simpa using q)⟩
theorem DVs.reads (I:Inv X pins σ H s):∀{xs:List V}{ds:List PyData}{vs:List Value},DVs X.K H xs ds→Vals xs vs→∃as,ReadsAll s.heap vs ds as
 | _,_,_,.nil,r=>by cases r;exact⟨_,.nil⟩
 | _,_,_,.cons h t,r=>by
  cases r with
  | cons r1 r2 =>
   obtain⟨as,q⟩:=DV.reads I h r1
   obtain⟨bs,p⟩:=DVs.reads I t r2
   exact⟨_,.cons q p⟩
end
end
theorem DVs.ints {K:PySem.W.Frag}{H:Hp}:∀ns:List Int,DVs K H (ns.map V.int) (ns.map PyData.int)
 | []=>.nil
 | n::r=>.cons (.int n) (DVs.ints r)
theorem DVs.bools {K:PySem.W.Frag}{H:Hp}:∀ns:List Bool,DVs K H (ns.map V.bl) (ns.map PyData.bool)
 | []=>.nil
 | n::r=>.cons (.bl n) (DVs.bools r)
theorem lay_ints:∀ns:List Int,PyData.canLayAll0 (ns.map PyData.int)=true∧PyData.depthAll (ns.map PyData.int)=0
 | []=>⟨rfl,rfl⟩
 | n::r=>by
  obtain⟨h1,h2⟩:=lay_ints r
  simp[PyData.canLayAll0,PyData.canLay0,PyData.depthAll,PyData.depth,h1,h2]
theorem shaped_ints (ns:List Int):SeqAt.shaped (.list (ns.map PyData.int))=true:=by
 obtain⟨h1,h2⟩:=lay_ints ns
 simp[SeqAt.shaped,PyData.canLay0,PyData.depth,h1,h2]
theorem eqv_ints:∀ns ms:List Int,PyData.eqvAll (ns.map PyData.int) (ms.map PyData.int)=decide (ns=ms)
 | [],[]=>rfl
 | [],_::_=>rfl
 | _::_,[]=>rfl
 | n::ns,m::ms=>by
  rw[List.map_cons,List.map_cons,PyData.eqvAll,PyData.eqv,eqv_ints ns ms,Bool.eq_iff_iff]
  simp
section
variable {X:Cx}
def rEqD (K:PySem.W.Frag):R2:=fun x y H Q=>∃d e,DV K H x d∧DV K H y e∧SeqAt.shaped d=true∧SeqAt.shaped e=true∧Q (.bl (PyData.eqv d e)) H
def rNeD (K:PySem.W.Frag):R2:=fun x y H Q=>∃d e,DV K H x d∧DV K H y e∧SeqAt.shaped d=true∧SeqAt.shaped e=true∧Q (.bl (!PyData.eqv d e)) H
theorem op_eqD (hu:X.A.units+64<cLine):OpR X (compareOp .Eq) (rEqD X.K):=by
 intro pins s σ H x y v u Q I rx ry h
 obtain⟨d,e,h1,h2,h3,h4,q⟩:=h
 obtain⟨as,r1⟩:=h1.reads I rx
 obtain⟨bs,r2⟩:=h2.reads I ry
 exact eq_dataH r1 r2 h3 h4 hu ⟨.bl _,H,I,rfl,q⟩
theorem op_neD (hu:X.A.units+64<cLine):OpR X (compareOp .NotEq) (rNeD X.K):=by
 intro pins s σ H x y v u Q I rx ry h
 obtain⟨d,e,h1,h2,h3,h4,q⟩:=h
 obtain⟨as,r1⟩:=h1.reads I rx
 obtain⟨bs,r2⟩:=h2.reads I ry
 exact ne_dataH r1 r2 h3 h4 hu ⟨.bl _,H,I,rfl,q⟩
end
end L2
namespace L2
open PySem PySem.Spec PyProof.Rows
section
variable {X:Cx}
theorem bools_get:∀{bs:List Bool}{its:List Value}{i:Nat}{v:Value},Vals (bs.map V.bl) its→its[i]? = some v→∃b,bs[i]? = some b∧v = .bool b
 | [],_,i,v,.nil,e=>by simp at e
 | b::bs,_,0,v,.cons r t,e=>by
  simp at e;subst e
  exact⟨b,rfl,r⟩
 | b::bs,_,i+1,v,.cons r t,e=>by
  obtain⟨c,h1,h2⟩:=bools_get (i:=i) (v:=v) t (by simpa using e)
  exact⟨c,by simpa using h1,h2⟩
theorem all_range (bs:List Bool):(List.range bs.length).all (fun i=>bs.getD i true)=bs.all id:=by
 rw[Bool.eq_iff_iff,List.all_eq_true,List.all_eq_true]
 constructor
 ·intro h b hb
  obtain⟨i,hi,rfl⟩:=List.mem_iff_getElem.mp hb
  have:=h i (List.mem_range.mpr hi)
  simpa [List.getD,hi] using this
 ·intro h i hi
  have hi':=List.mem_range.mp hi
  have:=h bs[i] (List.getElem_mem hi')
  simpa [List.getD,hi'] using this
theorem it_list {s:Shared}{l:Addr}{items:Array Value}{A:Around}{E:Value→Shared→Prop}{Q:Value→Shared→Prop}{prog:Program}{w:World}(hl:s.heap.IsList l items)
  (h:∀s₂:Shared,s₂ = { s with heap:=s.heap.push { cls:=.type "list_iterator",data:=.fields #[.ref l,.int 0 0] } }→(s₂.heap.IsListIter s.heap.objs.size l 0∧s₂.heap.IsList l items)→l≠s.heap.objs.size→Q (.ref s.heap.objs.size) s₂) :
  wpAny (model prog w) A (pyIter (.ref l)) Q E s:=by
 have hlt:l<s.heap.objs.size:=by obtain⟨_,e,_⟩:=hl;exact Heap.lt_size e
 exact wpAny_pyIter_list hl (h _ rfl ⟨⟨_,Heap.get?_push_size _ rfl,rfl,rfl⟩,hl.push _⟩ (Nat.ne_of_lt hlt))
def rAllL (K:PySem.W.Frag):List V→Hp→VK→Prop:=fun xs H Q=>∃a bs,xs=[.ref a]∧SqL K H a (List.map V.bl bs)∧Q (.bl (bs.all id)) H
theorem call_allL (hc:X.calm=true):CallR X (.builtin "all") (rAllL X.K):=by
 intro pins s σ H xs us Q I r h
 obtain⟨a,bs,rfl,hq,q⟩:=h
 obtain⟨u,rfl,r1⟩:=vals1 r
 cases (show u=Value.ref a from r1)
 obtain⟨its,rv,pl,hz⟩:=I.list hq
 have hlen:bs.length=its.length:=by simpa using rv.length
 refine call_all_walk (it_list pl.isList fun s₂ e st hne=>?_)
 subst e
 refine⟨_,_,_,_,_,_,fun i=>bs.getD i true,rfl,Walks.list (A:=X.A.in1) (I.ok.hd hc) _ a hne its.toArray,st,fun i v s' Q' E' hP hQ=>?_,fun h' tk hk=>?_⟩
 ·obtain⟨b,h1,rfl⟩:=bools_get rv (by simpa using hP)
  have e:bs.getD i true=b:=by simp[List.getD,h1]
  exact wpAny_truthy_bool (by have hQ2:=hQ;dsimp only at hQ2;rw[e]at hQ2;exact hQ2)
 ·refine⟨.bl (bs.all id),H,I.kept (fun b o e=>hk b o (fun z=>?_) (Heap.get?_push_of_some _ e)),?_,q⟩
  ·have z':b=s.heap.objs.size:=by simpa using z
   rw[z']at e
   exact absurd (Heap.lt_size e) (Nat.lt_irrefl _)
  ·show Value.bool _=Value.bool _
   rw[List.size_toArray,← hlen,all_range]
end
section
variable {X:Cx}{K:PySem.W.Frag}
theorem ix_listK (h:X.K=K):IxR X (rIxL K):=by subst h;exact ix_list
theorem op_eqDK (h:X.K=K) (hu:X.A.units+64<cLine):OpR X (compareOp .Eq) (rEqD K):=by subst h;exact op_eqD hu
end
section
variable {σ:St}{H:Hp}{Q:VK}{D:Ends}
theorem rd_allL {K:PySem.W.Frag}{a:Addr}{bs:List Bool}(h:SqL K H a (bs.map V.bl)) (q:Q (.bl (bs.all id)) H):rAllL K [.ref a] H Q:=⟨a,bs,rfl,h,q⟩
end
end L2
namespace L2
open PySem PySem.Spec PyProof.Rows
section
variable {κ:Type} [DecidableEq κ]
def putK (kvs:List (κ×V)) (k:κ) (v:V):List (κ×V) :=
 if (kvs.any fun kv=>decide (kv.1=k))=true then kvs.map (fun kv=>if kv.1=k then(kv.1,v) else kv) else kvs ++ [(k,v)]
theorem length_putK (kvs:List (κ×V)) (k:κ) (v:V):(putK kvs k v).length≤kvs.length+1:=by
 unfold putK
 split
 ·rw[List.length_map];omega
 ·rw[List.length_append,List.length_cons,List.length_nil];omega
theorem KV.any {kvs:List (κ×V)}{vs:List (κ×Value)}(r:KV kvs vs) (k:κ):(kvs.any fun kv=>decide (kv.1=k))=vs.any fun kv=>decide (kv.1=k):=by
 unfold KV at r
 induction r with
 | nil=>rfl
 | cons h t ih=>rw[List.any_cons,List.any_cons,ih,h.1]
theorem KV.repl {kvs:List (κ×V)}{vs:List (κ×Value)}(r:KV kvs vs) (k:κ) {y:V}{u:Value}(ry:RelV y u) :
  KV (kvs.map fun kv=>if kv.1=k then(kv.1,y) else kv) (vs.map fun kv=>if kv.1=k then(kv.1,u) else kv):=by
 unfold KV at r ⊢
 induction r with
 | nil=>exact .nil
 | @cons p q ps qs h t ih =>
  rw[List.map_cons,List.map_cons]
  refine .cons ?_ ih
  obtain⟨h1,h2⟩:=h
  by_cases e:p.1=k
  ·rw[if_pos e,if_pos (h1.symm.trans e)];exact⟨h1,ry⟩
  ·rw[if_neg e,if_neg (fun z=>e (h1.trans z))];exact⟨h1,h2⟩
theorem KV.put {kvs:List (κ×V)}{vs:List (κ×Value)}(r:KV kvs vs) (k:κ) {y:V}{u:Value}(ry:RelV y u):KV (putK kvs k y) (stored vs k u):=by
 unfold putK stored
 rw[r.any k]
 by_cases e:(vs.any fun kv=>decide (kv.1=k))=true
 ·rw[if_pos e,if_pos e];exact r.repl k ry
 ·rw[if_neg e,if_neg e];exact Paired.snoc r ⟨rfl,ry⟩
end
theorem kV_is {P:Program}{w:World}{k:Key}{u:Value}(r:RelV (kV k) u):(mixKind P w).is k u=true:=by
 cases k with
 | inl i=>obtain⟨t,e⟩:=(show ∃t,u=Value.int i t from r);subst e;exact mixKind_int P w i t
 | inr x=>obtain⟨t,e⟩:=(show ∃t,u=Value.str x t from r);subst e;exact mixKind_str P w x t
section
variable {P:Program}{w:World}{H:Hp}{h:Heap}{a:Addr}
theorem rd_of {u:HO}(ok:HOk P w H h) (e:Rd H a u):ObjOk P w H h a u:=e.ok ok
theorem dk_rd {kvs:List (Key×V)}(ok:HOk P w H h) (e:Rd H a (.dK kvs)):kvs.length≤sizeLine∧(a == sysModules)=false∧∃vs,KV kvs vs∧h.DictOf (mixKind P w) a vs :=
 show ObjOk P w H h a (.dK kvs) from rd_of ok e
theorem dk_of {kvs:List (Key×V)}(ok:HOk P w H h) (e:H a=some (.dK kvs)):kvs.length≤sizeLine∧(a == sysModules)=false∧∃vs,KV kvs vs∧h.DictOf (mixKind P w) a vs:=dk_rd ok (.inl e)
end
section
variable {X:Cx}{pins:List (Addr×Obj)}{σ:St}{H:Hp}{s:Shared}{a:Addr}{y v:V}{u r:Value}{o:Option V}{A:Around}{E:Value→Shared→Prop}
theorem Inv.big (I:Inv X pins σ H s):sysModules<s.heap.objs.size:=by
 have h:mainGlobals<s.heap.objs.size:=(I.mod.glob.keeps I.bk).lt
 exact Nat.lt_trans (by decide) h
theorem d_write {h':Heap}{t':Nat}{ob:HO}(I:Inv X pins σ H s) (mu:Mut (H a)) (hs:Heap.SameBut a s.heap h') (he:∃q,h'.get? a=some q) (new:ObjOk X.prog X.w (upd H a ob) h' a ob) :
  Inv X pins σ (upd H a ob) { s with heap:=h',toks:=t' } :=
 I.write (x:=a) (e:=a) mu (.inl rfl) (fun b q hb z=>(hs.2 b hb).trans z) he new
theorem dk_new {P:Program}{w:World}{H':Hp}{h':Heap}{kvs:List (Key×V)}{vs:List (Key×Value)}(z:kvs.length≤sizeLine) (hd:(a == sysModules)=false) (rel:KV kvs vs) (dd:h'.DictOf (mixKind P w) a vs) :
  ObjOk P w H' h' a (.dK kvs):=⟨z,hd,vs,rel,dd⟩
end
section
variable {X:Cx}{pins:List (Addr×Obj)}{σ:St}{H:Hp}{s:Shared}{a:Addr}{kvs:List (Key×V)}{k:Key}{u:Value}{A:Around}{E:Value→Shared→Prop}
end
section
variable {X:Cx}{o i e value:Expr}{pos pos' tpos:Pos}{td ty tv:TE}
end
theorem dk_empty {P:Program}{w:World}{H:Hp}(h:Heap) (hb:sysModules<h.objs.size):ObjOk P w H (h.push { cls:=.type "dict",data:=.dict #[] }) h.objs.size (.dK []) :=
 ⟨Nat.zero_le _,beq_eq_false_iff_ne.mpr (Ne.symm (Nat.ne_of_lt hb)),[],.nil,Heap.DictOf.new h⟩
section
variable {X:Cx}{pos:Pos}
end
def tPairs:List (TE×TE)→St→Hp→(List (V×V)→Hp→Prop)→Prop
 | [],_,H,Q=>Q [] H
 | (tk,tv)::r,σ,H,Q=>tk σ H fun x H1=>tv σ H1 fun y H2=>tPairs r σ H2 fun ps H3=>Q ((x,y)::ps) H3
abbrev VV:List (V×V)→List (Value×Value)→Prop:=Paired fun p q=>RelV p.1 q.1∧RelV p.2 q.2
def PPs (X:Cx) (pos:Pos) (keys:List (Option Expr)) (values:List Expr) (trs:List (TE×TE)):Prop :=
 ∀(pins:List (Addr×Obj)) (s:Shared) (σ:St) (H:Hp) (Q:List (V×V)→Hp→Prop),Inv X pins σ H s→tPairs trs σ H Q →
  wpAny (model X.prog X.w) X.A (evalPairs (pairTrees keys values X.env pos)) (fun vs s'=>∃ps H',Inv X pins σ H' s'∧VV ps vs∧Q ps H') X.xe s
theorem pps_nil {X:Cx}{pos:Pos}:PPs X pos [] [] []:=fun pins s σ H Q I h=>pairTrees_nil_walk ⟨[],H,I,.nil,h⟩
theorem pps_cons {X:Cx}{pos:Pos}{k v:Expr}{ks:List (Option Expr)}{vs:List Expr}{tk tv:TE}{trs:List (TE×TE)}(hk:PE X k tk) (hv:PE X v tv) (hr:PPs X pos ks vs trs) :
  PPs X pos (some k::ks) (v::vs) ((tk,tv)::trs):=fun pins s σ H Q I h =>
 pairTrees_cons_walk (thn (hk pins s σ H _ I h) fun u s1 ⟨x,H1,I1,rx,q1⟩=>thn (hv pins s1 σ H1 _ I1 q1) fun w2 s2 ⟨y,H2,I2,ry,q2⟩ =>
  thn (hr pins s2 σ H2 _ I2 q2) fun ws s3 ⟨ps,H3,I3,rel,q3⟩=>⟨(x,y)::ps,H3,I3,.cons ⟨rx,ry⟩ rel,q3⟩)
def mergeK (kvs more:List (Key×V)):List (Key×V):=more.foldl (fun acc kv=>putK acc kv.1 kv.2) kvs
theorem KV.merge:∀{more:List (Key×V)}{rs:List (Key×Value)}{kvs:List (Key×V)}{vs:List (Key×Value)},KV more rs→KV kvs vs→KV (mergeK kvs more) (merged vs rs):=by
 intro more rs kvs vs r
 unfold KV at r
 induction r generalizing kvs vs with
 | nil=>intro q;exact q
 | @cons p q ps qs h t ih =>
  intro r0
  have e:KV (putK kvs p.1 p.2) (stored vs q.1 q.2):=by
   have:=r0.put p.1 h.2
   rw[← h.1];exact this
  exact ih e
theorem length_mergeK:∀(more kvs:List (Key×V)),(mergeK kvs more).length≤kvs.length+more.length
 | [],kvs=>by show kvs.length≤kvs.length+0;omega
 | p::r,kvs=>by
  have h1:=length_mergeK r (putK kvs p.1 p.2)
  have h2:=length_putK kvs p.1 p.2
  show(mergeK (putK kvs p.1 p.2) r).length≤_
  rw[List.length_cons];omega
theorem carries_of {P:Program}{w:World}:∀{kvs:List (Key×V)}{ws:List (Value×Value)},VV (kvs.map fun kv=>(kV kv.1,kv.2)) ws→∃rs,Carries (mixKind P w) ws rs∧KV kvs rs
 | [],_,r=>by rw[List.map_nil]at r;cases r;exact⟨[],True.intro,.nil⟩
 | p::kvs,_,r=>by
  rw[List.map_cons]at r
  cases r with
  | @cons a b as bs h t =>
   obtain⟨rs,c,q⟩:=carries_of (P:=P) (w:=w) t
   obtain⟨b1,b2⟩:=b
   exact⟨(p.1,b2)::rs,⟨kV_is h.1,rfl,c⟩,.cons ⟨rfl,h.2⟩ q⟩
def tDisp (trs:List (TE×TE)):TE:=fun σ H Q=>∀p,H p=none→tPairs trs σ (upd H p (.dK [])) fun ps H2=>H2 p=some (.dK [])∧∃kvs:List (Key×V),ps=kvs.map (fun kv=>(kV kv.1,kv.2))∧kvs.length≤15∧Q (.ref p) (upd H2 p (.dK (mergeK [] kvs)))
theorem pe_disp {X:Cx}{pos:Pos}{keys:List (Option Expr)}{values:List Expr}{trs:List (TE×TE)}(h:PPs X pos keys values trs) (hall:keys.all (·.isSome)=true) (hl:keys.length=values.length) (h0:keys ≠ [])
  (h15:keys.length≤15):PE X (.Dict keys values pos) (tDisp trs):=by
 intro pins s σ H Q I q
 have hn:=I.hok.fresh (Nat.le_refl s.heap.objs.size)
 have I1:=I.laid (a:=s.heap.objs.size) (o:=.dK []) (h':=s.heap.push { cls:=.type "dict",data:=.dict #[] }) (t':=s.toks) (fun _ _ q=>Heap.get?_push_of_some _ q) (Nat.le_refl _) (dk_empty s.heap I.big)
 refine wpAny_Dict_walk (knd:=mixKind X.prog X.w) hall hl h0 h15 (thn (h pins _ σ _ _ I1 (q _ hn)) fun ws s2 ⟨ps,H2,I2,rel,e,kvs,ep,lk,q2⟩=>?_)
 subst ep
 obtain⟨rs,c,rk⟩:=carries_of (P:=X.prog) (w:=X.w) rel
 obtain⟨z,hd,vs0,r0,dd⟩:=dk_of I2.hok e
 cases r0
 refine⟨rs,c,dd,fun h' dd' hs=>⟨.ref s.heap.objs.size,_,?_,rfl,q2⟩⟩
 have hz:(mergeK [] kvs).length≤sizeLine:=by
  have h1:=length_mergeK kvs []
  rw[List.length_nil]at h1
  rw[sizeLine_eq];omega
 have he:∃q,h'.get? s.heap.objs.size=some q:=let ⟨q,_,_,hq,_⟩:=dd';⟨q,hq⟩
 exact d_write I2 (by rw[e];exact True.intro) hs he (dk_new hz hd (rk.merge .nil) dd')
section
variable {X:Cx}{pins:List (Addr×Obj)}{σ:St}{H:Hp}{s:Shared}{a:Addr}{y d:V}{u r:Value}{o:Option V}{A:Around}{E:Value→Shared→Prop}
end
section
variable {X:Cx}{o e f:Expr}{apos cpos:Pos}{td ty tx:TE}
end
section
variable {X:Cx}{pins:List (Addr×Obj)}{σ:St}{H:Hp}{s:Shared}{a:Addr}{kvs:List (Key×V)}{A:Around}{E:Value→Shared→Prop}
end
section
variable {X:Cx}{pins:List (Addr×Obj)}{σ:St}{H:Hp}{s:Shared}{a:Addr}{y:V}{u:Value}{A:Around}{E:Value→Shared→Prop}
end
end L2
namespace L2
open PySem PySem.Spec PyProof.Rows
section
variable {X:Cx}
def rSlS:V→Option Int→Option Int→Hp→VK→Prop:=fun x lo hi H Q=>∃z,x = .str z∧z.length≤sizeLine∧Q (.str (Txt.slice z lo hi)) H
theorem sl_str:SlR X rSlS:=by
 intro pins s σ H x v vl vu lo hi sl Q I rx hs pl pu h
 obtain⟨z,rfl,hz,q⟩:=h
 obtain⟨t,rfl⟩:=rx
 refine⟨"str",_,F.slot_str_getitem.lookup,typeIs_str _ _ _,?_⟩
 cases pl with
 | none =>
  cases pu with
  | none=>exact wpAny_getItem_str_slice (l:=none) (u:=none) (st:=none) hs rfl (post_val_or_str ⟨Nat.le_trans (Txt.slice_le z _ _) hz,fun t' k=>⟨.str (Txt.slice z none none),H,I.tok _,⟨t',rfl⟩,q⟩⟩)
  | int j uj=>exact wpAny_getItem_str_slice (l:=none) (u:=some (j,uj)) (st:=none) hs rfl (post_val_or_str ⟨Nat.le_trans (Txt.slice_le z _ _) hz,fun t' k=>⟨.str (Txt.slice z none (some j)),H,I.tok _,⟨t',rfl⟩,q⟩⟩)
 | int i ui =>
  cases pu with
  | none=>exact wpAny_getItem_str_slice (l:=some (i,ui)) (u:=none) (st:=none) hs rfl (post_val_or_str ⟨Nat.le_trans (Txt.slice_le z _ _) hz,fun t' k=>⟨.str (Txt.slice z (some i) none),H,I.tok _,⟨t',rfl⟩,q⟩⟩)
  | int j uj=>exact wpAny_getItem_str_slice (l:=some (i,ui)) (u:=some (j,uj)) (st:=none) hs rfl (post_val_or_str ⟨Nat.le_trans (Txt.slice_le z _ _) hz,fun t' k=>⟨.str (Txt.slice z (some i) (some j)),H,I.tok _,⟨t',rfl⟩,q⟩⟩)
end
section
variable {X:Cx}{tg:Expr}
end
section
variable {σ:St}{H:Hp}{Q:VK}{D:Ends}
end
end L2
namespace L2
open PySem PySem.Spec PyProof.Rows
section
variable {es:List Expr}{env:Env}
theorem stx_Constant {c j p}:starEach (.Constant c j p::es) env =(false,eval (.Constant c j p) env)::starEach es env:=rfl
theorem stx_Name {x p}:starEach (.Name x p::es) env =(false,eval (.Name x p) env)::starEach es env:=rfl
theorem stx_BinOp {a o b p}:starEach (.BinOp a o b p::es) env =(false,eval (.BinOp a o b p) env)::starEach es env:=rfl
theorem stx_Call {a o b p}:starEach (.Call a o b p::es) env =(false,eval (.Call a o b p) env)::starEach es env:=rfl
theorem stx_Attribute {a o p}:starEach (.Attribute a o p::es) env =(false,eval (.Attribute a o p) env)::starEach es env:=rfl
theorem stx_Subscript {a o p}:starEach (.Subscript a o p::es) env =(false,eval (.Subscript a o p) env)::starEach es env:=rfl
theorem stx_List {a p}:starEach (.List a p::es) env =(false,eval (.List a p) env)::starEach es env:=rfl
theorem stx_Tuple {a k p}:starEach (.Tuple a k p::es) env =(false,eval (.Tuple a k p) env)::starEach es env:=rfl
theorem stx_Dict {a k p}:starEach (.Dict a k p::es) env =(false,eval (.Dict a k p) env)::starEach es env:=rfl
theorem stx_ListComp {a b c p}:starEach (.ListComp a b c p::es) env =(false,eval (.ListComp a b c p) env)::starEach es env:=rfl
end
end L2
namespace L2
open PySem PySem.Spec PyProof.Rows
section
variable {X:Cx}
end
end L2
namespace L2
open PySem PySem.Spec PyProof.Rows
section
variable {X:Cx}
end
section
variable {K:PySem.W.Frag}{H:Hp}{Q:VK}{σ:St}
end
end L2
namespace L2
open PySem PySem.Spec PyProof.Rows
section
variable {X:Cx}{pins:List (Addr×Obj)}{σ:St}{H:Hp}{s:Shared}{h':Heap}
end
section
variable {X:Cx}{elts:List Expr}{x1:_}{tpos:Pos}
end
section
variable {K:PySem.W.Frag}{H:Hp}{Q:VK}{σ:St}
end
end L2
namespace L2
open PySem PySem.Spec PyProof.Rows
section
variable {X:Cx}{K:PySem.W.Frag}{tg:Expr}
end
end L2
namespace L2
open PySem PySem.Spec PyProof.Rows
section
variable {prog:Program}{w:World}{A:Around}{E:Value→Shared→Prop}{s:Shared}
variable {ltb:Keyed→Keyed→Bool}{S:Keyed→Prop}{κ:SortKind}
end
end L2
namespace L2
open PySem PySem.Spec PyProof.Rows
section
variable {ltb:Keyed→Keyed→Bool}{xa xb ou:List Keyed}{ja jb k:Nat}
end
end L2
namespace L2
open PySem PySem.Spec PyProof.Rows
section
variable {ltb:Keyed→Keyed→Bool}{xa xb ou:Array Keyed}{ja jb k:Nat}
end
section
variable {prog:Program}{w:World}{A:Around}{E:Value→Shared→Prop}{s:Shared}{ltb:Keyed→Keyed→Bool}{S:Keyed→Prop}{κ:SortKind}
end
section
variable {prog:Program}{w:World}{A:Around}{E:Value→Shared→Prop}{s:Shared}{ltb:Keyed→Keyed→Bool}{S:Keyed→Prop}{κ:SortKind}
end
end L2
namespace L2
open PySem PySem.Spec PyProof.Rows
section
variable {ltb:Keyed→Keyed→Bool}{xa xb ou:Array Keyed}{na nb k:Nat}
end
end L2
namespace L2
open PySem PySem.Spec PyProof.Rows
section
variable {prog:Program}{w:World}{A:Around}{E:Value→Shared→Prop}{s:Shared}{ltb:Keyed→Keyed→Bool}{S:Keyed→Prop}{κ:SortKind}
end
end L2
namespace L2
open PySem PySem.Spec PyProof.Rows
section
variable {prog:Program}{w:World}{A:Around}{E:Value→Shared→Prop}{s:Shared}{ltb:Keyed→Keyed→Bool}{S:Keyed→Prop}{κ:SortKind}
end
end L2
namespace L2
open PySem PySem.Spec PyProof.Rows
section
variable {prog:Program}{w:World}{A:Around}{E:Value→Shared→Prop}{s:Shared}{ltb:Keyed→Keyed→Bool}{S:Keyed→Prop}{κ:SortKind}
end
end L2
namespace L2
open PySem PySem.Spec PyProof.Rows
section
variable {ltb:Keyed→Keyed→Bool}{R:List Keyed}
end
section
variable {prog:Program}{w:World}{A:Around}{E:Value→Shared→Prop}{s:Shared}{ltb:Keyed→Keyed→Bool}{S:Keyed→Prop}{κ:SortKind}
end
end L2
namespace L2
open PySem PySem.Spec PyProof.Rows
section
variable {ltb:Keyed→Keyed→Bool}{κ:SortKind}
end
section
variable {prog:Program}{w:World}{A:Around}{E:Value→Shared→Prop}{s:Shared}{ltb:Keyed→Keyed→Bool}{S:Keyed→Prop}{κ:SortKind}
end
end L2
namespace L2
open PySem PySem.Spec PyProof.Rows
section
variable {ltb:Keyed→Keyed→Bool}{κ:SortKind}{a0:List Keyed}{st:SortSt}{rs:List (List Keyed)}
end
section
variable {prog:Program}{w:World}{A:Around}{E:Value→Shared→Prop}{s:Shared}{ltb:Keyed→Keyed→Bool}{S:Keyed→Prop}{κ:SortKind}
end
end L2
namespace L2
open PySem PySem.Spec PyProof.Rows
section
variable {prog:Program}{w:World}{A:Around}{E:Value→Shared→Prop}{s:Shared}
end
section
variable {X:Cx}
end
end L2
namespace L2
open PySem PySem.Spec PyProof.Rows
section
variable {X:Cx}{K:PySem.W.Frag}
end
section
variable {X:Cx}{K:PySem.W.Frag}{pos:Pos}
end
section
variable {σ:St}{H:Hp}{Q:VK}{D:Ends}
end
section
variable {X:Cx}{elts:List Expr}{x1:_}{tpos:Pos}
end
section
variable {K:PySem.W.Frag}{H:Hp}{Q:VK}{σ:St}
end
end L2
namespace L2
open PySem PySem.Spec PyProof.Rows
section
variable {X:Cx}{pins:List (Addr×Obj)}{σ:St}{H:Hp}{s:Shared}{h':Heap}
theorem Inv.adopt {t':Nat}{ch:List Addr}{a:Addr}{o:HO}(I:Inv X pins σ H s) (k:∀b o,b∉ch→s.heap.get? b=some o→h'.get? b=some o) (f:∀b∈ch,FpOk X pins H b)
  (ha:a∈ch) (new:ObjOk X.prog X.w (upd H a o) h' a o):Inv X pins σ (upd H a o) { s with heap:=h',toks:=t' }:=by
 have nit:∀b u,H b=some u→b∉ch:=fun b u e z=>by rw[(f b z).1]at e;cases e
 have hn:=(f a ha).1
 have up:∀b u,H b=some u→upd H a o b=some u:=fun b u q=>by rw[upd_ne (ne_of_none q hn)];exact q
 refine I.step (g':=s.gens) (d':=s.drawn) (ch:=ch) (fun b hb=>?_) (fun b o _ _ hc e _=>k b o hc e) (fun b o _ _ hc e _=>⟨o.slots,k b o hc e⟩) (fun b ob hc e n=>by rw[upd_ne (show b≠a from fun z=>hc (by rw[z];exact ha))];exact n) (fun b o hc e=>⟨o,k b o hc e⟩) (fun b xs e=>up _ _ e) (fun b ob u e=>up _ _ e)
  (fun b ps e=>⟨#[],by rw[up _ _ e];simp⟩) (fun m hm=>?_) (fun b u e=>?_) I.bare
 ·obtain⟨f0,f1,f2,f3,f4,f5⟩:=f b hb
  exact⟨f3,f1,f4,f5⟩
 ·obtain⟨o,es,ep,ho,r⟩:=hm
  exact⟨o,es,ep,k _ o (fun z=>(f _ z).2.1 rfl) ho,r⟩
 ·by_cases hb:b=a
  ·subst hb;rw[upd_same]at e;cases e;exact new
  ·rw[upd_ne hb]at e
   refine(I.hok b u e).stay (fun c v hc q=>k c v ?_ q) (fun c q=>up _ _ q) fun c xs q=>up _ _ q
   rcases hc with z|z
   ·rw[z];exact nit b u e
   ·exact nit c _ z
variable {A:Around}{E:Value→Shared→Prop}
end
section
variable {prog:Program}{w:World}{A:Around}{E:Value→Shared→Prop}{s:Shared}
end
section
variable {X:Cx}{pins:List (Addr×Obj)}{σ:St}{H:Hp}{s:Shared}{E:Value→Shared→Prop}
end
section
variable {X:Cx}{e:Expr}{t:TA}{y:Str}{ps:List Str}{k:Nat}{sp:Sp}{p p2 kpos pos:Pos}
end
section
variable {X:Cx}
end
end L2
namespace L2
open PySem PySem.Spec PyProof.Rows
section
variable {X:Cx}{pins:List (Addr×Obj)}{σ:St}{H:Hp}{s:Shared}
end
end L2
namespace L2
open PySem PySem.Spec PyProof.Rows
section
variable {X:Cx}{pins:List (Addr×Obj)}{σ:St}{H:Hp}{s:Shared}{scope:Scope}{y:Str}{fs:List Str}{js:List Nat}
end
section
variable {X:Cx}{e body:Expr}{t:TA}{te:TE}{k:Nat}{p kpos pos lpos:Pos}{params:Arguments}{scope:Scope}{y:Str}{fs:List Str}{js:List Nat}{P c:Addr}
end
section
variable {X:Cx}{a b:Expr}{rest:List Expr}{ta tb:TE}{pos:Pos}
end
end L2
namespace L2
open PySem PySem.Spec PyProof.Rows
section
variable {X:Cx}
end
end L2
namespace L2
open PySem PySem.Spec PyProof.Rows
section
variable {X:Cx}
end
end L2
namespace L2
open PySem PySem.Spec PyProof.Rows
section
variable {prog:Program}{w:World}{A:Around}{E:Value→Shared→Prop}{s:Shared}
end
section
variable {X:Cx}
end
end L2
namespace PySem
namespace F
end F
end PySem
namespace L2
open PySem PySem.Spec PyProof.Rows
section
variable {prog:Program}{w:World}{κ:Type} [DecidableEq κ] {knd:KeyKind prog w κ}{A:Around}{E:Value→Shared→Prop}{s:Shared}
inductive PairsAt (knd:KeyKind prog w κ) (h:Heap):List Value→List (κ×Value)→Prop
 | nil:PairsAt knd h [] []
 | cons {a:Addr}{o:Obj}{n:Nat}{key val:Value}{k:κ}{vs:List Value}{rs:List (κ×Value)}:h.get? a=some o→o.cls = .type "tuple"→o.data = .seq #[key,val] n→knd.is k key=true→PairsAt knd h vs rs→PairsAt knd h (.ref a::vs) ((k,val)::rs)
end
section
variable {X:Cx}
end
end L2
namespace L2
open PySem PySem.Spec PyProof.Rows
section
variable {prog:Program}{w:World}{κ:Type} [DecidableEq κ] {knd:KeyKind prog w κ}{A:Around}{E:Value→Shared→Prop}{s:Shared}
end
section
variable {X:Cx}
end
end L2
namespace L2
open PySem PySem.Spec PyProof.Rows
inductive NumU:Value→Int→Prop
 | int (i:Int) (t:Tok):NumU (.int i t) i
 | bl (b:Bool):NumU (.bool b) (if b=true then(1:Int) else 0)
section
variable {prog:Program}{w:World}{A:Around}{E:Value→Shared→Prop}{s:Shared}{Q:Value→Shared→Prop}{a b:Value}{i j:Int}
end
section
variable {prog:Program}{w:World}{A:Around}{E:Value→Shared→Prop}{s:Shared}{Q:Value→Shared→Prop}{a b:Value}{i j:Int}
end
inductive Num:V→Int→Prop
 | int (i:Int):Num (.int i) i
 | bl (b:Bool):Num (.bl b) (if b=true then(1:Int) else 0)
section
variable {X:Cx}
end
end L2
namespace L2
open PySem PySem.Spec PyProof.Rows
section
variable {X:Cx}
end
end L2
namespace L2
open PySem PySem.Spec PyProof.Rows
section
variable {X:Cx}
end
end L2
namespace L2
open PySem PySem.Spec PyProof.Rows
section
variable {prog:Program}{w:World}{A:Around}{R:Result→Shared→Prop}{s:Shared}{elt t1 i1 t2 i2:Expr}{fs1 fs2:List Expr}{scope:Scope}{pos:Pos}{it acc:Value}{env:Env}
end
section
variable {X:Cx}{pins:List (Addr×Obj)}{σ:St}{H:Hp}{s:Shared}{scope:Scope}{vs fs:List Str}{js:List Nat}
end
section
variable {X:Cx}{pins:List (Addr×Obj)}{σ:St}{H:Hp}{s:Shared}{scope:Scope}{vs fs:List Str}{js:List Nat}
end
section
variable {vs:List Str}{js:List Nat}{σ:St}{H:Hp}{Q:VK}
end
end L2
namespace L2
open PySem PySem.Spec PyProof.Rows
section
variable {X:Cx}
end
end L2
namespace L2
open PySem PySem.Spec PyProof.Rows
section
variable {X:Cx}{x m:Str}{C:Addr}{ps:List Str}{k:Nat}{sp:Sp}{e o:Expr}{es:List Expr}{t:TA}{ta:TE}{p pos apos:Pos}
end
section
variable {σ:St}{H:Hp}{Q:VK}
end
section
variable {X:Cx}
end
section
variable {X:Cx}{pins:List (Addr×Obj)}{σ:St}{H:Hp}{s:Shared}{d:Addr}{o:Obj}{kvs:List (Key×V)}
end
section
variable {X:Cx}
end
end L2
namespace L2
open PySem PySem.Spec PyProof.Rows
section
variable {prog:Program}{w:World}{A:Around}{E:Value→Shared→Prop}{s:Shared}{κ:Type} [DecidableEq κ] {knd:KeyKind prog w κ}
end
section
variable {X:Cx}
end
end L2
namespace L2
open PySem PySem.Spec PyProof.Rows
section
variable {σ:St}{H:Hp}{Q:VK}{D:Ends}
def IsT (R t:TS):Prop:=R=t
theorem rd_seqO {t u:TS}(h:∀R,IsT R u→t { D with nx:=R D } σ H):tSeq t u D σ H:=h u rfl
theorem rd_ifSO {c:TT}{t u:TS}(h:∀R S,IsT R t→IsT S u→c σ H fun b H1=>if b=true then R D σ H1 else S D σ H1):tIfS c t u D σ H:=h t u rfl rfl
theorem rd_forO {wi:TI}{g:TG}{tb:TS}(h:∀R,IsT R tb→wi σ H fun J H1=>∃W:Nat→Nat→St→Hp→Prop,(∃m,W 0 m σ H1)∧∀i m σ H,W i m σ H →
 (J.stop i H∧D.nx σ H) ∨(J.go i H∧∃N:St→Hp→Prop,(∀σ' H',N σ' H'→∃m',m'<m∧W (i+1) m' σ' H')∧∀x H',J.yld i H x H'→g x σ H' fun σ2 H2=>R { D with nx:=N,ct:=N,bk:=D.nx } σ2 H2)):tFor wi g tb D σ H:=h tb rfl
theorem rd_tx {R t:TS}(e:IsT R t) (h:t D σ H):R D σ H:=by cases e;exact h
def IsN (N I:St→Hp→Prop):Prop:=∀σ H,I σ H→N σ H
def AllN (I:St→Hp→Prop) (t:(St→Hp→Prop)→Prop):Prop:=∀N,IsN N I→t N
theorem rd_allN {I:St→Hp→Prop}{t:(St→Hp→Prop)→Prop}(h:∀N,IsN N I→t N):AllN I t:=h
theorem rd_isN {N I:St→Hp→Prop}(e:IsN N I) (h:I σ H):N σ H:=e σ H h
theorem cutO {t:TS}(R:St→Hp→Prop) (h:AllN R fun N=>t { D with nx:=N } σ H) (k:∀σ' H',R σ' H'→D.nx σ' H'):tCut t D σ H:=⟨R,h _ fun _ _ z=>z,k⟩
theorem for_rangeO {lo:Int}{n:Nat}{g:TG}{tb:TS}(Pv:Nat→St→Hp→Prop) (h0:Pv 0 σ H)
  (hs:∀i σ H,i<n→Pv i σ H→AllN (Pv (i+1)) fun N=>g (.int (lo+i)) σ H fun σ2 H2=>tb { D with nx:=N,ct:=N,bk:=D.nx } σ2 H2) (hd:∀σ H,Pv n σ H→D.nx σ H) :
  ∃W:Nat→Nat→St→Hp→Prop,(∃m,W 0 m σ H)∧∀i m σ H,W i m σ H →
   ((Itr lo n).stop i H∧D.nx σ H) ∨((Itr lo n).go i H∧∃N:St→Hp→Prop,(∀σ' H',N σ' H'→∃m',m'<m∧W (i+1) m' σ' H')∧∀x H',(Itr lo n).yld i H x H'→g x σ H' fun σ2 H2=>tb { D with nx:=N,ct:=N,bk:=D.nx } σ2 H2) :=
 for_range Pv h0 (fun i σ H a b=>hs i σ H a b _ fun _ _ z=>z) hd
end
end L2
namespace L2
open PySem PySem.Spec PyProof.Rows
section
variable {X:Cx}{σ:St}{H:Hp}{Q:VK}{D:DK}
end
section
variable {K:PySem.W.Frag}
def Ga (K:PySem.W.Frag) (x:Str) (st:Stmt):Prop:=∃f:Addr,PySem.W.nsIn K mainGlobals x=some (some (.ref f))∧∃fd:FuncData,Fun K x x st f fd
def Ga2 (K:PySem.W.Frag) (x y:Str) (st:Stmt):Prop:=∃f:Addr,PySem.W.nsIn K mainGlobals x=some (some (.ref f))∧PySem.W.nsIn K mainGlobals y=some (some (.ref f))∧∃fd:FuncData,Fun K x x st f fd
def Me (K:PySem.W.Frag) (C:Addr) (m q:Str) (st:Stmt):Prop:=∃f:Addr,PySem.W.findIn K (.ref C) m=some (some (.ref f))∧PySem.W.isFn K (.ref f)=true∧PySem.W.keepIn K (.ref f)=true∧∃fd:FuncData,Fun K m q st f fd
theorem Ga.elim {x:Str}{st:Stmt}{R:Prop}(g:Ga K x st) (k:∀f,PySem.W.nsIn K mainGlobals x=some (some (.ref f))→∀fd,Fun K x x st f fd→R):R:=by
 obtain⟨f,a,fd,F⟩:=g
 exact k f a fd F
theorem Ga.mk {x:Str}{st:Stmt}{f:Addr}{oc:Value}{od an:Option Addr}{osl:Array (Option Value)}{kV doc pm cdv ct:Value}(a:PySem.W.nsIn K mainGlobals x=some (some (.ref f))) (l:K.lookup f=some ⟨oc,od,.func (PySem.W.fnOf x x (defArgs st) (defBody st) (defScope st) .none kV doc pm an cdv ct),osl⟩) (c:PySem.W.codeIn K cdv x=true) (k:PySem.W.keepIn K (.ref f)=true):Ga K x st:=⟨f,a,_,fun_mk l c k⟩
end
end L2
namespace L2
open PySem PySem.Spec PyProof.Rows
mutual
inductive DW (H:Hp):V→PyData→Prop
 | non:DW H .non .none
 | bl (b:Bool):DW H (.bl b) (.bool b)
 | int (i:Int):DW H (.int i) (.int i)
 | str (x:Str):DW H (.str x) (.str x)
 | lst {a:Addr}{xs:List V}{ds:List PyData}:H a=some (.lst xs)→DWs H xs ds→DW H (.ref a) (.list ds)
 | tup {a:Addr}{xs:List V}{ds:List PyData}:H a=some (.tup xs)→DWs H xs ds→DW H (.ref a) (.tuple ds)
 | dic {a:Addr}:H a=some (.dK [])→DW H (.ref a) (.dict [])
inductive DWs (H:Hp):List V→List PyData→Prop
 | nil:DWs H [] []
 | cons {x:V}{d:PyData}{xs:List V}{ds:List PyData}:DW H x d→DWs H xs ds→DWs H (x::xs) (d::ds)
end
mutual
def nlD:PyData→Bool
 | .list _=>false
 | .tuple xs=>nlDs xs
 | _=>true
def nlDs:List PyData→Bool
 | []=>true
 | x::xs=>nlD x && nlDs xs
end
section
variable {X:Cx}{pins:List (Addr×Obj)}{σ:St}{H:Hp}{s:Shared}
end
section
variable {X:Cx}
end
section
variable {X:Cx}
end
def Sub (M:Addr→Bool) (H H':Hp):Prop:=∀a o,M a=false→H a=some o→H' a=some o
end L2
namespace L2
open PySem PySem.Spec PyProof.Rows
section
variable {K:PySem.W.Frag}{σ:St}{H:Hp}{Q:VK}
end
section
variable {X:Cx}
end
end L2
namespace L2
open PySem PySem.Spec PyProof.Rows
section
variable {X:Cx}{pins:List (Addr×Obj)}{σ:St}{H:Hp}{s:Shared}{a:Addr}{kvs:List (Key×V)}{k:Key}{u r:Value}{A:Around}{E:Value→Shared→Prop}
end
section
variable {X:Cx}
end
end L2
namespace L2
open PySem PySem.Spec PyProof.Rows
section
variable {X:Cx}{K:PySem.W.Frag}{C:Addr}
end
end L2
namespace PySem
open Sem (wp)
section
variable {prog:Program}{w:World}{A:Around}{E:Value→Shared→Prop}{h:Heap}{g:Array GenState}{d:Drawn}{t:Nat}{os:OsState}
variable {nm q:Str}{C N:Addr}{bs bm bmB:List Value}{hdct:Bool}{sn:List Str}{sub:List Value}{ab:Bool}{col:Option Bool}{dd:Option Addr}{k0 k1 k2 k3 k5:Option Value}{B newId initId:String}
theorem tcall_initT (F:ExcBaseFacts B newId initId bmB) (T:OwnTail h bmB bm) {mN:Str→Option Value}{rest:List Value}{fI:Addr}{oI:Obj}{Q:Fin→Shared→Prop}
  (hC:h.get? C=some (excClassObj nm q C N bs bm hdct sn sub ab col dd k0 k1 k2 k3 k5 newId)) (hn:h.Ns N mN) (hi:mN "__init__" = some (.ref fI))
  (hfI:h.get? fI=some oI) (hfc:oI.cls = .type "function")
  (hq:∀h' e,Heap.MadeExcOf h h' e (.ref C) rest→h.objs.size≤e →
   wpAny (model prog w) A (call (.ref fI) (.ref e::rest)) (fun r s'=>r = .none∧Q (.done (.ret (.ref e))) s') E ⟨h',g,d,t,os⟩) (hrest:rest.length≤sizeLine:=by size_fits) :
  wpAny (model prog w) A (Builtin.«type.__call__» ⟨.ref C::rest,[]⟩) Q E ⟨h,g,d,t,os⟩:=by
 repeat (first|with_reducible refine wpAny_loadPart_at hC ?_|with_reducible refine wpAny_madeBy_exc hC ?_|wp_step)
 refine codeAny_call_builtin_code (Code.quiet_builtin _ F.quiet) (wpAny_check_new_subT F T hC ?_)
 refine codeAny_exc_new_subT F T hC ?_ hrest
 show wpAny _ _ _ _ _ _
 let o1:Obj:={ cls:=.type "tuple",data:=.seq rest.toArray }
 let o2:Obj:={ cls:=.ref C,data:=.fields #[.ref h.objs.size,.none,.none,.none,.bool false,.none] }
 have kp:∀b o,h.get? b=some o→((h.push o1).push o2).get? b=some o:=fun b o e=>Heap.get?_push_of_some o2 (Heap.get?_push_of_some o1 e)
 have hget:((h.push o1).push o2).get? (h.objs.size+1)=some o2:=by heap_get
 have hcC:(Value.ref C::bm).contains (.ref C)=true:=by simp
 have hC1:=kp _ _ hC
 unfold isInstance
 repeat (first|with_reducible refine wpAny_loadPart_at hget ?_|(with_reducible refine wpAny_isSubtype_exc hC1 ?_;rw[hcC])|wp_step)
 show wpAny _ _ (typeLookup (.ref C) _) _ _ _
 refine wpAny_typeLookup_tail hC1 (hn.keeps kp) (T.keeps kp) F.mroIs F.init.lookup ?_
 rw[hi]
 refine wpAny_holding (wpAny_bind ?_)
 unfold bindSpecial
 refine wpAny_bind (wpAny_typeOf (T := "function") ⟨_,kp _ _ hfI,hfc⟩ ?_)
 rw[if_pos (by decide)]
 refine wpAny_pure (wpAny_bind (wpAny_mono (hq _ (h.objs.size+1) ⟨kp,Heap.get?_none_of_le (Nat.le_succ _),h.objs.size,hget,Heap.get?_none_of_le (Nat.le_refl _),?_⟩ (Nat.le_succ _)) (fun r s' hr=>?_) fun _ _ x=>x))
 ·exact Heap.get?_push_of_some _ (Heap.get?_push_at rfl rfl)
 ·obtain⟨rfl,hQ⟩:=hr
  wp_walk
  exact hQ
theorem call_initT (F:ExcBaseFacts B newId initId bmB) (T:OwnTail h bmB bm) {mN:Str→Option Value}{rest:List Value}{fI:Addr}{oI:Obj}{Q:Value→Shared→Prop}
  (hC:h.get? C=some (excClassObj nm q C N bs bm hdct sn sub ab col dd k0 k1 k2 k3 k5 newId)) (hn:h.Ns N mN) (hi:mN "__init__" = some (.ref fI))
  (hfI:h.get? fI=some oI) (hfc:oI.cls = .type "function")
  (hq:∀h' e,Heap.MadeExcOf h h' e (.ref C) rest→h.objs.size≤e →
   wpAny (model prog w) (A.under (.builtin "type.__call__" ⟨.ref C::rest,[]⟩)) (call (.ref fI) (.ref e::rest)) (fun r s'=>r = .none∧Q (.ref e) s') E ⟨h',g,d,t,os⟩) (hrest:rest.length≤sizeLine:=by size_fits) :
  wpAny (model prog w) A (call (.ref C) rest) Q E ⟨h,g,d,t,os⟩:=by
 have f1:=tc_lookup
 have f2:=tc_bind (.ref C)
 have hT:(⟨h,g,d,t,os⟩ : Shared).TypeIs (.ref C) "type" :=⟨_,hC,rfl⟩
 refine wpAny_call (codeAny_of_tree ?_)
 show wpAny _ _ (callAny (.ref C) _) _ _ _
 repeat (any_goals (first|assumption|with_reducible refine wpAny_loadPart_at hC ?_|wp_step))
 refine⟨rfl,?_⟩
 refine codeAny_call_builtin_at (Code.quiet_builtin _ (by decide +kernel)) entry_typeCall (wpAny_check_type_call_sub hC (tcall_initT (hrest:=hrest) F T hC hn hi hfI hfc fun h' e hm hz=>?_))
 exact hq h' e hm hz
theorem tcall_plainT (F:ExcBaseFacts B newId initId bmB) (T:OwnTail h bmB bm) {mN:Str→Option Value}{rest:List Value}{Q:Fin→Shared→Prop}
  (hC:h.get? C=some (excClassObj nm q C N bs bm hdct sn sub ab col dd k0 k1 k2 k3 k5 newId)) (hn:h.Ns N mN) (hni:mN "__init__" = none)
  (hq:∀h' e,Heap.MadeExcOf h h' e (.ref C) rest→h.objs.size≤e→Q (.done (.ret (.ref e))) ⟨h',g,d,t,os⟩) (hrest:rest.length≤sizeLine:=by size_fits) :
  wpAny (model prog w) A (Builtin.«type.__call__» ⟨.ref C::rest,[]⟩) Q E ⟨h,g,d,t,os⟩:=by
 repeat (first|with_reducible refine wpAny_loadPart_at hC ?_|with_reducible refine wpAny_madeBy_exc hC ?_|wp_step)
 refine codeAny_call_builtin_code (Code.quiet_builtin _ F.quiet) (wpAny_check_new_subT F T hC ?_)
 refine codeAny_exc_new_subT F T hC ?_ hrest
 show wpAny _ _ _ _ _ _
 let o1:Obj:={ cls:=.type "tuple",data:=.seq rest.toArray }
 let o2:Obj:={ cls:=.ref C,data:=.fields #[.ref h.objs.size,.none,.none,.none,.bool false,.none] }
 have kp:∀b o,h.get? b=some o→((h.push o1).push o2).get? b=some o:=fun b o e=>Heap.get?_push_of_some o2 (Heap.get?_push_of_some o1 e)
 have hget:((h.push o1).push o2).get? (h.objs.size+1)=some o2:=by heap_get
 have hcC:(Value.ref C::bm).contains (.ref C)=true:=by simp
 have hC1:=kp _ _ hC
 have T1:=T.keeps kp
 unfold isInstance
 repeat (first|with_reducible refine wpAny_loadPart_at hget ?_|(with_reducible refine wpAny_isSubtype_exc hC1 ?_;rw[hcC])|wp_step)
 show wpAny _ _ (typeLookup (.ref C) _) _ _ _
 refine wpAny_typeLookup_tail hC1 (hn.keeps kp) T1 F.mroIs F.init.lookup ?_
 rw[hni]
 refine wpAny_holding (wpAny_bind (wpAny_of_eq (F.init.bind _) ?_))
 refine wpAny_bind (wpAny_call (codeAny_call_builtin F.init.plain F.initEntry (wpAny_check_init_subT F T1 hC1 hget rfl ?_)))
 wp_walk
 refine hq _ _ ⟨fun b o hb=>?_,Heap.get?_none_of_le (Nat.le_succ _),h.objs.size+2,?_,Heap.get?_none_of_le (by omega),?_⟩ (Nat.le_succ _)
 ·rw[Heap.get?_update_other _ _ (Nat.ne_of_gt (Nat.lt_succ_of_lt (Heap.lt_size hb)))]
  exact Heap.get?_push_of_some _ (Heap.get?_push_of_some _ (Heap.get?_push_of_some _ hb))
 ·rw[Heap.get?_update_self _ (Heap.get?_push_of_some _ hget) rfl]
  simp only[Heap.size_push]
  rfl
 ·rw[Heap.get?_update_other _ _ (show h.objs.size+1≠h.objs.size+2 by omega)]
  exact Heap.get?_push_at (by simp only[Heap.size_push]) rfl
theorem call_plainT (F:ExcBaseFacts B newId initId bmB) (T:OwnTail h bmB bm) {mN:Str→Option Value}{rest:List Value}{Q:Value→Shared→Prop}
  (hC:h.get? C=some (excClassObj nm q C N bs bm hdct sn sub ab col dd k0 k1 k2 k3 k5 newId)) (hn:h.Ns N mN) (hni:mN "__init__" = none)
  (hq:∀h' e,Heap.MadeExcOf h h' e (.ref C) rest→h.objs.size≤e→Q (.ref e) ⟨h',g,d,t,os⟩) (hrest:rest.length≤sizeLine:=by size_fits) :
  wpAny (model prog w) A (call (.ref C) rest) Q E ⟨h,g,d,t,os⟩:=by
 have f1:=tc_lookup
 have f2:=tc_bind (.ref C)
 have hT:(⟨h,g,d,t,os⟩ : Shared).TypeIs (.ref C) "type" :=⟨_,hC,rfl⟩
 refine wpAny_call (codeAny_of_tree ?_)
 show wpAny _ _ (callAny (.ref C) _) _ _ _
 repeat (any_goals (first|assumption|with_reducible refine wpAny_loadPart_at hC ?_|wp_step))
 refine⟨rfl,?_⟩
 refine codeAny_call_builtin_at (Code.quiet_builtin _ (by decide +kernel)) entry_typeCall (wpAny_check_type_call_sub hC (tcall_plainT (hrest:=hrest) F T hC hn hni fun h' e hm hz=>?_))
 exact hq h' e hm hz
end
end PySem
namespace PySem
open Sem (wp)
open Builtin Builtin.ObjectAttr
inductive TlN (h:Heap) (bmB:List Value) (P:Str→Prop):List Value→Prop
 | base:TlN h bmB P bmB
 | own {A:Addr}{c0:Value}{dd:Option Addr}{cd:ClassData}{sl:Array (Option Value)}{mA:Str→Option Value}{tl:List Value} :
   h.get? A=some { cls:=c0,dict:=dd,data:=.cls cd,slots:=sl }→h.Ns cd.ns mA→(∀n,P n→mA n=none)→TlN h bmB P tl→TlN h bmB P (.ref A::tl)
theorem TlN.keeps {h h':Heap}{bmB tl:List Value}{P:Str→Prop}(T:TlN h bmB P tl) (hk:∀b o,h.get? b=some o→h'.get? b=some o):TlN h' bmB P tl:=by
 induction T with
 | base=>exact .base
 | own hA hN hni _ ih=>exact .own (hk _ _ hA) (hN.keeps hk) hni ih
theorem TlN.has {h:Heap}{bmB tl:List Value}{P:Str→Prop}(T:TlN h bmB P tl) {X:String}(hb:bmB.contains (.type X)=true):tl.contains (.type X)=true:=by
 induction T with
 | base=>exact hb
 | own _ _ _ _ ih=>rw[List.contains_cons,ih,Bool.or_true]
theorem TlN.tail {h:Heap}{bmB tl:List Value}{P:Str→Prop}(T:TlN h bmB P tl) (hp:P "__init__"):OwnTail h bmB tl:=by
 induction T with
 | base=>exact .base
 | own hA hN hni _ ih=>exact .own hA hN (hni _ hp) ih
theorem TlN.passes {h:Heap}{bmB tl:List Value}{P:Str→Prop}(T:TlN h bmB P tl) {self:Value}{what:Str}(hb:refuseLoop self what bmB=pure ()):refuseLoop self what tl=pure ():=by
 induction T with
 | base=>exact hb
 | own _ _ _ _ ih=>rw[refuseLoop_ref];exact ih
section
variable {M:Model}{prog:Program}{w:World}{A:Around}{E:Value→Shared→Prop}{h:Heap}{g:Array GenState}{d:Drawn}{t:Nat}{os:OsState}{P:Str→Prop}
theorem lookN {bmB tl:List Value}{name:Str}{y:Option Value}{Q:Option Value→Shared→Prop}(T:TlN h bmB P tl) (hp:P name) (hrest:lookupAlong bmB name=pure y) (hq:Q y ⟨h,g,d,t,os⟩) :
  wpAny M A (lookupAlong tl name) Q E ⟨h,g,d,t,os⟩:=by
 induction T with
 | base=>rw[hrest];exact wpAny_pure hq
 | own hA hN hni _ ih =>
  rw[lookupAlong_cons]
  refine wpAny_bind (wpAny_classOwn_cls hA hN ?_)
  rw[hni _ hp]
  exact ih
variable {nm q:Str}{C N x:Addr}{bs bm bmB:List Value}{hdct:Bool}{sn:List Str}{sub:List Value}{ab:Bool}{col:Option Bool}{dd:Option Addr}{k0 k1 k2 k3 k5:Option Value}{B newId sa owner:String}{mN:Str→Option Value}{name:Str}{v:Value}
theorem typeLookN {y:Option Value}{Q:Option Value→Shared→Prop}
  (hC:h.get? C=some (excClassObj nm q C N bs bm hdct sn sub ab col dd k0 k1 k2 k3 k5 newId)) (hn:h.Ns N mN) (T:TlN h bmB P bm) (hp:P name) (hbm:mroOf (.type B)=pure bmB) (hB:typeLookup (.type B) name=pure y)
  (hq:Q (match mN name with|some v=>some v|none=>y) ⟨h,g,d,t,os⟩):wpAny M A (typeLookup (.ref C) name) Q E ⟨h,g,d,t,os⟩:=by
 have hrest:lookupAlong bmB name=pure y:=by rw[typeLookup_eq,hbm]at hB;exact hB
 rw[typeLookup_eq]
 refine wpAny_bind (wpAny_mroOf_exc hC ?_)
 rw[lookupAlong_cons]
 refine wpAny_bind (wpAny_classOwn_exc hC hn ?_)
 cases hv:mN name with
 | some v=>rw[hv]at hq;exact wpAny_pure hq
 | none=>rw[hv]at hq;exact lookN T hp hrest hq
theorem check_saT {o:Obj}{nameV:Value}{Q:Unit→Shared→Prop}(SF:StoreFacts B bmB sa owner) (T:TlN h bmB P bm)
  (hC:h.get? C=some (excClassObj nm q C N bs bm true sn sub ab col dd k0 k1 k2 k3 k5 newId)) (hx:h.get? x=some o) (hc:o.cls = .ref C) (hq:Q () ⟨h,g,d,t,os⟩) :
  wpAny M A (checkBuiltinCall sa ⟨[.ref x,nameV,v],[]⟩) Q E ⟨h,g,d,t,os⟩:=by
 have hcB:(Value.ref C::bm).contains (.type owner)=true:=by rw[List.contains_cons,T.has SF.hasOwner,Bool.or_true]
 have ha:=SF.args (.ref x) nameV v
 simp only[checkBuiltinCall,SF.kind,SF.split]
 refine wpAny_bind ?_
 ·unfold isInstance
  repeat (first|(with_reducible refine wpAny_loadPart_at hx ?_;rw[hc])|(with_reducible refine wpAny_isSubtype_exc hC ?_;rw[hcB])|wp_step)
  cases hsig:Manifest.signature? sa with
  | none=>exact wpAny_pure hq
  | some sig =>
   simp only[argsOk,hsig]at ha
   have h2:Bind.checkArgs sa sig ⟨[.ref x,nameV,v],[]⟩=pure ():=ha
   show wpAny M A (Bind.checkArgs sa sig ⟨[.ref x,nameV,v],[]⟩) Q E _
   rw[h2];exact wpAny_pure hq
theorem entryT {o:Obj}{tk:Tok}{Q:Fin→Shared→Prop}(SF:StoreFacts B bmB sa owner) (T:TlN h bmB P bm) (hp:P name)
  (hC:h.get? C=some (excClassObj nm q C N bs bm true sn sub ab col dd k0 k1 k2 k3 k5 newId)) (hn:h.Ns N mN) (hna:mN name=none)
  (hB:typeLookup (.type B) name=pure none) (hx:h.get? x=some o) (hc:o.cls = .ref C) (hnc:∀c,o.data ≠ .cls c) (hdn:o.dict=none)
  (hq:∀h' tk',h'.get? x=some { o with dict:=some h.objs.size }→h'.Ns1 h.objs.size (fun y=>if y=name then some v else none) →
   (∀b ob,b≠x→h.get? b=some ob→h'.get? b=some ob)→Q (.done (.ret .none)) ⟨h',g,d,tk',os⟩) :
  wpAny (model prog w) A (Builtin.«object.__setattr__» ⟨[.ref x,.str name tk,v],[]⟩) Q E ⟨h,g,d,t,os⟩:=by
 have hpass:=T.passes (SF.passes (.ref x))
 unfold Builtin.«object.__setattr__»
 repeat (first|rw[refuse_eq] | (rw[refuseLoop_ref,hpass])|(with_reducible refine wpAny_loadPart_at hx ?_;rw[hc])|with_reducible refine wpAny_mroOf_exc hC ?_|(with_reducible refine typeLookN hC hn T hp SF.mro hB ?_;rw[hna])|wp_step)
 rw[hdn,if_neg (by simp[typeHasDict])]
 split
 ·rename_i hcd
  cases hcd
 split
 ·rename_i c hcd
  exact absurd hcd (hnc c)
 ·have hx1:(h.push { cls:=.type "dict",data:=.dict #[] }).get? x=some o:=Heap.get?_push_of_some _ hx
  have hxs:x≠h.objs.size:=Nat.ne_of_lt (Heap.lt_size hx)
  refine wpAny_bind (wpAny_alloc' ?_)
  refine wpAny_bind (wpAny_update' hx1 ?_)
  refine wpAny_pure ?_
  have hgd:((h.push { cls:=.type "dict",data:=.dict #[] }).update x fun o=>{ cls:=o.cls,dict:=some h.objs.size,data:=o.data,slots:=o.slots }).get? h.objs.size
    = some { cls:=.type "dict",data:=.dict #[] } :=
   (Heap.get?_update_ne _ _ _ _ hxs.symm).trans (Heap.get?_push_at rfl rfl)
  have hnd:((h.push { cls:=.type "dict",data:=.dict #[] }).update x fun o=>{ cls:=o.cls,dict:=some h.objs.size,data:=o.data,slots:=o.slots }).Ns h.objs.size (fun _=>none) :=
   ⟨_,#[],_,hgd,rfl,fun e he=>absurd he (by simp),fun _=>rfl⟩
  show wpAny _ _ (storeInDict h.objs.size (.str name tk) name v) _ _ _
  unfold storeInDict newKeyGuard
  refine wpAny_bind (wpAny_pure (wpAny_bind (wpAny_nsSet1 (Heap.Ns1.of_empty hnd) fun h' hn' hs=>?_)))
  obtain⟨oD,esD,epD,hoD,hdD,hcD⟩:=hn'.count (Within.cons name v Within.nil)
  refine wpAny_bind (wpAny_lookBehind hoD (by rw[hdD];exact pastItsLine_dict (Nat.le_trans hcD (by rw[List.length_cons,List.length_nil,sizeLine_eq];omega))) ?_)
  wp_walk
  refine hq h' _ ?_ hn' fun b ob hbx hb=>?_
  ·refine(hs.2 x hxs).trans (Heap.get?_update_self _ hx1 ?_)
   have hfr:=(Heap.get?_some_iff.mp hx).2
   obtain⟨oc,od,odt,osl⟩:=o
   cases odt <;> first|rfl|exact hfr
  ·exact(hs.2 b (Nat.ne_of_lt (Heap.lt_size hb))).trans ((Heap.get?_update_ne _ _ _ _ hbx).trans (Heap.get?_push_of_some _ hb))
theorem setAttrT {o:Obj}{Q:Unit→Shared→Prop}(SF:StoreFacts B bmB sa owner) (T:TlN h bmB P bm) (hp:P name) (hps:P "__setattr__")
  (hC:h.get? C=some (excClassObj nm q C N bs bm true sn sub ab col dd k0 k1 k2 k3 k5 newId)) (hn:h.Ns N mN) (hns:mN "__setattr__" = none) (hna:mN name=none)
  (hB:typeLookup (.type B) name=pure none) (hx:h.get? x=some o) (hc:o.cls = .ref C) (hnc:∀c,o.data ≠ .cls c) (hdn:o.dict=none)
  (hq:∀h' tk',h'.get? x=some { o with dict:=some h.objs.size }→h'.Ns1 h.objs.size (fun y=>if y=name then some v else none) →
   (∀b ob,b≠x→h.get? b=some ob→h'.get? b=some ob)→Q () ⟨h',g,d,tk',os⟩) :
  wpAny (model prog w) A (setAttr (.ref x) name v) Q E ⟨h,g,d,t,os⟩:=by
 have f3:=SF.slot.bind (.ref x)
 unfold setAttr callSpecial? specialOf
 repeat (any_goals (first|assumption|(with_reducible refine wpAny_loadPart_at hx ?_;rw[hc])|(with_reducible refine typeLookN hC hn T hps SF.mro SF.slot.lookup ?_;rw[hns])|wp_step))
 refine codeAny_call_builtin SF.slot.plain SF.entry (check_saT SF T hC hx hc (entryT SF T hp hC hn hna hB hx hc hnc hdn fun h' tk' h1 h2 h3=>?_))
 repeat (any_goals (first|assumption|wp_step))
 exact hq h' tk' h1 h2 h3
end
end PySem
namespace L2
open PySem PySem.Spec PyProof.Rows
section
variable {P:Program}{w:World}{K:PySem.W.Frag}{A:Around}{s:Shared}{k:Nat}{f e C N:Addr}{name qual at_:Str}{params:Arguments}{scope:Scope}{dV kV doc pm cdv ct oc u:Value}{an od:Option Addr}
 {osl:Array (Option Value)}{nm q:Str}{bs bm bmB:List Value}{sn:List Str}{sub:List Value}{ab:Bool}{col:Option Bool}{dd:Option Addr}{k0 k1 k2 k3 k5:Option Value}{B newId sa owner:String}{mN:Str→Option Value}{oe:Obj}{Pn:Str→Prop}{p1 p2 p3 p4:Pos}
theorem init_ok (lk:K.lookup f=some ⟨oc,od,.func (PySem.W.fnOf name qual params [.Assign [.Attribute (.Name "self" p1) at_ p2] (.Name at_ p3) p4] scope dV kV doc pm an cdv ct),osl⟩) (hcd:PySem.W.codeIn K cdv qual=true)
  (S:FnScope ["self",at_] ["self",at_] scope) (KX:K.In s.heap) (lim:s.heap.NoLimit) (hr:Room (k+1) A)
  (hs:∀env,swapsWith (.Name at_ p3) (some (.Attribute (.Name "self" p1) at_ p2)) p4.line env=pure false)
  (h1:scope.names.lookup ("self" : Str)=some .local) (h2:scope.names.lookup at_=some .local) (hne:at_ ≠ "self") (hd:(at_ ==("__debug__" : Str))=false)
  (hb:BindsTo s (PySem.W.fnOf name qual params [.Assign [.Attribute (.Name "self" p1) at_ p2] (.Name at_ p3) p4] scope dV kV doc pm an cdv ct) ⟨[.ref e,u],[]⟩ [("self",.ref e),(at_,u)])
  (SF:StoreFacts B bmB sa owner) (T:TlN s.heap bmB Pn bm) (hp:Pn at_) (hps:Pn "__setattr__")
  (hC:s.heap.get? C=some (excClassObj nm q C N bs bm true sn sub ab col dd k0 k1 k2 k3 k5 newId)) (hn:s.heap.Ns N mN) (hns:mN "__setattr__" = none) (hna:mN at_=none)
  (hB:typeLookup (.type B) at_=pure none) (hx:s.heap.get? e=some oe) (hc:oe.cls = .ref C) (hnc:∀c,oe.data ≠ .cls c) (hdn:oe.dict=none)
  {R:Result→Shared→Prop}
  (hq:∀h' tk' D,s.heap.objs.size≤D→D≠e→h'.get? e=some { oe with dict:=some D }→h'.Ns1 D (fun y=>if y=at_ then some u else none) →
   (∀b ob,b≠e→s.heap.get? b=some ob→h'.get? b=some ob)→R (.ok (.ret .none)) { s with heap:=h',toks:=tk' }) :
  codeAny (model P w) A (.call (.ref f) ⟨[.ref e,u],[]⟩) R s:=by
 have hkind:∀y ∈ [(("self" : Str),Value.ref e),(at_,u)],scope.names.lookup y.1=some .local ∨(scope.names.lookup y.1=some .cell∧((cellsFrom (s.heap.objs.size+1) scope.names []).lookup y.1).isSome=true):=fun y hy=>by
  rcases List.mem_cons.mp hy with rfl|hy
  ·exact .inl h1
  ·rw[List.mem_singleton]at hy;subst hy;exact .inl h2
 refine codeAny_call_function hr.depth (KX _ _ lk) rfl S.co S.gen rfl (PySem.W.codeRec_of KX hcd) (hb _ _ _ _ ?_)
 refine wpAny_newFunctionEnv_cells S.kind hkind fun env he s1 x=>?_
 subst he
 refine⟨lim.keeps x.toInCall.keep,codeAny_func ?_⟩
 obtain⟨hh1,tk,rfl,hk⟩:=x.done
 refine wpAny_execs_cons (plainObj_wpAny_Assign_Attribute ?_ (hs _))
 have m1:bindL (envOfC qual scope s.heap.objs.size f cdv).kindOf [("self",.ref e),(at_,u)] (fun _=>none) at_=some u:=by
  exact bindL_get (kindOf:=(envOfC qual scope s.heap.objs.size f cdv).kindOf) (P:=["self",at_]) (vs:=[.ref e,u]) (i:=1) S.nd rfl rfl h2
 have m2:bindL (envOfC qual scope s.heap.objs.size f cdv).kindOf [("self",.ref e),(at_,u)] (fun _=>none) "self" = some (.ref e):=by
  exact bindL_get (kindOf:=(envOfC qual scope s.heap.objs.size f cdv).kindOf) (P:=["self",at_]) (vs:=[.ref e,u]) (i:=0) S.nd rfl rfl h1
 refine wpAny_Name (wpAny_loadName_local S.kind h2 x.toInCall.ns m1 ?_) hd
 refine wpAny_Name (wpAny_loadName_local S.kind h1 x.toInCall.ns m2 ?_) (by decide)
 obtain⟨h,g,d,t,os⟩:=s
 have Tk:=T.keeps hk
 refine setAttrT SF Tk hp hps (hk _ _ hC) (hn.keeps hk) hns hna hB (hk _ _ hx) hc hnc hdn fun h' tk' g1 g2 g3=>?_
 refine wpAny_execs_nil ?_
 have hz:h.objs.size≤hh1.objs.size:=by
  obtain⟨o,_,_,ho,_⟩:=x.toInCall.ns
  exact Nat.le_of_lt (Heap.lt_size ho)
 exact hq h' tk' hh1.objs.size hz (fun z=>by rw[← z]at hx;exact Nat.lt_irrefl _ (Heap.lt_size (hk _ _ hx))) g1 g2 fun b ob nb hb=>g3 b ob nb (hk _ _ hb)
end
end L2
namespace PySem
open Sem (wp)
section
variable {M:Model}{prog:Program}{w:World}{A:Around}{E:Value→Shared→Prop}{s:Shared}{env:Env}
variable {nm q:Str}{C N:Addr}{bs bm bmB:List Value}{hdct:Bool}{sn:List Str}{sub:List Value}{ab:Bool}{col:Option Bool}{dd:Option Addr}{k0 k1 k2 k3 k5:Option Value}{B newId initId:String}
theorem raiseT {x:Sem Value}{Q:Flow→Shared→Prop}(hbase:bm.contains (.type "BaseException")=true) (hh:A.handled=none)
  (h:wpAny M A x (fun v s1=>∃e dct t sl,v = .ref e∧s1.heap.get? C=some (excClassObj nm q C N bs bm hdct sn sub ab col dd k0 k1 k2 k3 k5 newId) ∧
   s1.heap.get? e=some ⟨.ref C,dct,.fields #[.ref t,.none,.none,.none,.bool false,.none],sl⟩∧E (.ref e) s1) E s) :
  wpAny M A (raiseStmt env (some x) none) Q E s:=by
 have hcB:(Value.ref C::bm).contains (.type "BaseException")=true:=by rw[List.contains_cons,hbase,Bool.or_true]
 unfold raiseStmt
 refine wpAny_bind (wpAny_mono h (fun v s1 h1=>?_) fun _ _ x=>x)
 obtain⟨e,dct,t,sl,rfl,hC,he,hE⟩:=h1
 obtain⟨hp,g,d,tk,os⟩:=s1
 repeat (first|with_reducible refine wpAny_loadPart_at he ?_|with_reducible refine wpAny_loadPart_at hC ?_|(with_reducible refine wpAny_isSubtype_exc hC ?_;rw[hcB])|wp_step)
 exact wpAny_raiseNew_none hh hE
theorem Raise_initT (F:ExcBaseFacts B newId initId bmB) {mN:Str→Option Value}{x:Str}{np cpos pos:Pos}{args:List Expr}{fI:Addr}{oI:Obj}{Q:Flow→Shared→Prop}
  (hbase:bm.contains (.type "BaseException")=true) (hh:A.handled=none) (hplain:(backTo cpos (starEach args env)).any (·.1)=false) (hi:mN "__init__" = some (.ref fI)) (hfc:oI.cls = .type "function")
  (h:wpAny (model prog w) A (eval (.Name x np) env) (fun f s1=>f = .ref C∧wpAny (model prog w) A (evalArgs (.ref C) true (backTo cpos (starEach args env)) [])
   (fun a s2=>a.kw=[]∧a.pos.length≤sizeLine∧s2.heap.get? C=some (excClassObj nm q C N bs bm hdct sn sub ab col dd k0 k1 k2 k3 k5 newId)∧s2.heap.Ns N mN∧OwnTail s2.heap bmB bm∧s2.heap.get? fI=some oI ∧
    ∀h' e,Heap.MadeExcOf s2.heap h' e (.ref C) a.pos→s2.heap.objs.size≤e →
     wpAny (model prog w) (A.under (.builtin "type.__call__" ⟨.ref C::a.pos,[]⟩)) (call (.ref fI) (.ref e::a.pos)) (fun r s'=>r = .none∧s'.heap.get? C=some (excClassObj nm q C N bs bm hdct sn sub ab col dd k0 k1 k2 k3 k5 newId) ∧
      (∃dct t sl,s'.heap.get? e=some ⟨.ref C,dct,.fields #[.ref t,.none,.none,.none,.bool false,.none],sl⟩)∧E (.ref e) s') E { s2 with heap:=h' }) E s1) E s) :
  wpAny (model prog w) A (exec (.Raise (some (.Call (.Name x np) args [] cpos)) none pos) env) Q E s:=by
 rw[arm_exec_Raise]
 refine wpAny_bind (wpAny_standAt (raiseT (C:=C) (nm:=nm) (q:=q) (N:=N) (bs:=bs) (bm:=bm) (hdct:=hdct) (sn:=sn) (sub:=sub) (ab:=ab) (col:=col) (dd:=dd) (k0:=k0) (k1:=k1) (k2:=k2) (k3:=k3) (k5:=k5) (newId:=newId) hbase hh (wpAny_bind (wpAny_mono (wpAny_Call_ofName (wpAny_mono h (fun f s1 h1=>?_) fun _ _ x=>x)) (fun v s3 h3=>wpAny_bind (wpAny_standAt (wpAny_pure h3))) fun _ _ x=>x))))
 obtain⟨rfl,h1⟩:=h1
 unfold callWith
 refine wpAny_bind (wpAny_holding (wpAny_mono h1 (fun a s2 h2=>wpAny_bind (wpAny_standAt ?_)) fun _ _ x=>x))
 obtain⟨apos,akw⟩:=a
 obtain⟨hkw,hlen,hC,hn,T,hfI,h2⟩:=h2
 obtain rfl:akw=[]:=hkw
 obtain⟨hp,g,d,tk,os⟩:=s2
 simp only[hplain]
 refine wpAny_bind (wpAny_keeperOf_exc hC ?_)
 refine wpAny_bind (call_initT (hrest:=hlen) F T hC hn hi hfI hfc fun h' e hm hz=>wpAny_mono (h2 h' e hm hz) (fun r s' z=>⟨z.1,wpAny_bind (wpAny_holding (wpAny_point (wpAny_pure ?_)))⟩) fun _ _ z=>z)
 obtain⟨_,hC',⟨dct,t,sl,he⟩,hE⟩:=z
 exact⟨e,dct,t,sl,rfl,hC',he,hE⟩
theorem Raise_plainT (F:ExcBaseFacts B newId initId bmB) {mN:Str→Option Value}{x:Str}{np cpos pos:Pos}{args:List Expr}{Q:Flow→Shared→Prop}
  (hbase:bm.contains (.type "BaseException")=true) (hh:A.handled=none) (hplain:(backTo cpos (starEach args env)).any (·.1)=false) (hni:mN "__init__" = none)
  (h:wpAny (model prog w) A (eval (.Name x np) env) (fun f s1=>f = .ref C∧wpAny (model prog w) A (evalArgs (.ref C) true (backTo cpos (starEach args env)) [])
   (fun a s2=>a.kw=[]∧a.pos.length≤sizeLine∧s2.heap.get? C=some (excClassObj nm q C N bs bm hdct sn sub ab col dd k0 k1 k2 k3 k5 newId)∧s2.heap.Ns N mN∧OwnTail s2.heap bmB bm ∧
    ∀h' e,Heap.MadeExcOf s2.heap h' e (.ref C) a.pos→s2.heap.objs.size≤e→E (.ref e) { s2 with heap:=h' }) E s1) E s) :
  wpAny (model prog w) A (exec (.Raise (some (.Call (.Name x np) args [] cpos)) none pos) env) Q E s:=by
 rw[arm_exec_Raise]
 refine wpAny_bind (wpAny_standAt (raiseT (C:=C) (nm:=nm) (q:=q) (N:=N) (bs:=bs) (bm:=bm) (hdct:=hdct) (sn:=sn) (sub:=sub) (ab:=ab) (col:=col) (dd:=dd) (k0:=k0) (k1:=k1) (k2:=k2) (k3:=k3) (k5:=k5) (newId:=newId) hbase hh (wpAny_bind (wpAny_mono (wpAny_Call_ofName (wpAny_mono h (fun f s1 h1=>?_) fun _ _ x=>x)) (fun v s3 h3=>wpAny_bind (wpAny_standAt (wpAny_pure h3))) fun _ _ x=>x))))
 obtain⟨rfl,h1⟩:=h1
 unfold callWith
 refine wpAny_bind (wpAny_holding (wpAny_mono h1 (fun a s2 h2=>wpAny_bind (wpAny_standAt ?_)) fun _ _ x=>x))
 obtain⟨apos,akw⟩:=a
 obtain⟨hkw,hlen,hC,hn,T,h2⟩:=h2
 obtain rfl:akw=[]:=hkw
 obtain⟨hp,g,d,tk,os⟩:=s2
 simp only[hplain]
 refine wpAny_bind (wpAny_keeperOf_exc hC ?_)
 refine wpAny_bind (call_plainT (hrest:=hlen) F T hC hn hni fun h' e hm hz=>wpAny_bind (wpAny_holding (wpAny_point (wpAny_pure ?_))))
 obtain⟨t,ht,_,_⟩:=hm.there
 exact⟨e,none,t,#[],rfl,hm.keeps _ _ hC,ht,h2 h' e hm hz⟩
end
end PySem
namespace PySem
open Sem (wp)
theorem mapFields_at {o:Obj}{vs:Array Value}(h:o.data = .fields vs) (f:Array Value→Array Value):Obj.mapFields f o = { o with data:=.fields (f vs) }:=by
 obtain⟨c,d,dt,sl⟩:=o
 subst h
 rfl
structure Entered (l:List Env) (e:Addr) (oe:Obj) (h h':Heap):Prop where
 exc:∃vs T oT ts x,h'.get? e=some { oe with data:=.fields vs }∧(∀us,oe.data = .fields us→vs[2]? = us[2]?)∧vs[1]? = some (.ref T)∧h.objs.size≤T∧T≠e∧h'.get? T=some oT∧oT.data = .fields ts∧ts[3]? = some x
 keep:∀b o,b≠e→b∉l.filterMap (·.frame)→h.get? b=some o→h'.get? b=some o
 slot:∀b o,b≠e→h.get? b=some o→∃sl,h'.get? b=some { o with slots:=sl }
section
variable {M:Model}{A:Around}{E:Value→Shared→Prop}{s:Shared}
theorem newEntryS {base:Heap}{env e0:Env}{outer:List Env}{L e:Addr}{oe:Obj}{vs:Array Value}{head:Value}{hadNext:Bool}{Q:Unit→Shared→Prop}
  (hfr:A.frames=some (e0::outer)) (hl:s.heap.FunFrames base (e0::outer)) (hf:e0.frame=some L) (hf':env.frame=some L)
  (he:s.heap.get? e=some oe) (hd:oe.data = .fields vs) (hsz:1<vs.size)
  (h:∀h',Entered (e0::outer) e oe s.heap h'→Q () { s with heap:=h' }) :
  wpAny M A (do let a ← frameOf env;let pl ← entryPlaceOf L hadNext;let b ← EntryCells.newEntry head a .none (rawInt L) .none pl;setField (.ref e) 1 b) Q E s:=by
 have fe:frameOf env=frameOf e0:=by unfold frameOf;rw[hf,hf']
 rw[fe]
 have hene:e∉(e0::outer).filterMap (·.frame):=fun hm=>by
  obtain⟨_,o,ho,hnf⟩:=hl.mem hm
  rw[he]at ho;injection ho with ho;subst ho;exact hnf vs hd
 refine wpAny_bind (wpAny_frameOf_fun hfr hl hf fun g hg=>?_)
 refine wpAny_bind (wpAny_entryPlaceOf fun pl hpl=>?_)
 unfold EntryCells.newEntry newFields
 refine wpAny_bind (wpAny_newObj_type ?_ (hpl.sizeOk5 _ _ _ _ _))
 have he1:g.get? e=some oe:=(hg.2.1 e hene).trans he
 generalize hT0:({ cls:=.type "traceback",dict:=none,data:=.fields ([head,.ref L,.none,rawInt L,.none]++(if pl.isEmpty then List.replicate 6 Value.none else pl)).toArray }:Obj)=T0
 have hTd:∃ts x,T0.data = .fields ts∧ts[3]? = some x:=by
  rw[← hT0]
  exact⟨_,rawInt L,rfl,by simp⟩
 obtain⟨ts,x3,hts,h3⟩:=hTd
 have he2:=Heap.get?_push_of_some (h:=g) T0 he1
 refine wpAny_setField he2 hd hsz (h _ ?_)
 have hTe:g.objs.size≠e:=Nat.ne_of_gt (Heap.lt_size he1)
 have hd3:=Obj.data_mapFields hd (·.setIfInBounds 1 (Value.ref g.objs.size))
 have he3:=Heap.get?_update_self (Obj.mapFields (·.setIfInBounds 1 (Value.ref g.objs.size))) he2 (Obj.isFreed_of_fields hd3)
 have hT3:=(Heap.get?_update_other (g.push T0) (Obj.mapFields (·.setIfInBounds 1 (Value.ref g.objs.size))) (Ne.symm hTe)).trans (Heap.get?_push_size g (Obj.isFreed_of_fields hts))
 have keep:∀b o,b≠e→g.get? b=some o→((g.push T0).update e (Obj.mapFields (·.setIfInBounds 1 (Value.ref g.objs.size)))).get? b=some o:=fun b o hbe hb=>by
  rw[Heap.get?_update_other _ _ (Ne.symm hbe)]
  exact Heap.get?_push_of_some _ hb
 rw[mapFields_at hd]at he3
 refine⟨⟨_,g.objs.size,_,_,x3,he3,(fun us e=>by rw[hd]at e;cases e;simp),by simp[hsz],?_,hTe,hT3,hts,h3⟩,fun b o hb hf hs=>keep b o hb ((hg.2.1 b hf).trans hs),fun b o hb hs=>?_⟩
 ·exact Nat.le_of_eq hg.1.symm
 ·obtain⟨sl,hs⟩:=hg.2.2 b o hs
  exact⟨sl,keep b _ hb hs⟩
theorem noteFirst {base:Heap}{env e0:Env}{outer:List Env}{L e:Addr}{oe:Obj}{vs:Array Value}{Q:Unit→Shared→Prop}
  (hfr:A.frames=some (e0::outer)) (hl:s.heap.FunFrames base (e0::outer)) (hf0:e0.frame=some L) (hf:env.frame=some L)
  (he:s.heap.get? e=some oe) (hd:oe.data = .fields vs) (h1:vs[1]? = some .none)
  (h:∀h',Entered (e0::outer) e oe s.heap h'→Q () { s with heap:=h' }):wpAny M A (noteFrame (.ref e) env) Q E s:=by
 unfold noteFrame
 simp only[hf]
 refine wpAny_bind (wpAny_field he hd h1 ?_)
 rw[if_neg (by decide)]
 exact newEntryS hfr hl hf0 hf he hd (Array.getElem?_eq_some_iff.mp h1).1 h
structure EnteredX (l:List Env) (e T:Addr) (oe oT:Obj) (h h':Heap):Prop where
 exc:∃vs T' oT' ts x,h'.get? e=some { oe with data:=.fields vs }∧(∀us,oe.data = .fields us→vs[2]? = us[2]?)∧vs[1]? = some (.ref T')∧h.objs.size≤T'∧T'≠e∧h'.get? T'=some oT'∧oT'.data = .fields ts∧ts[3]? = some x
 old:∃ts x,h'.get? T=some { oT with data:=.fields ts }∧ts[3]? = some x
 keep:∀b o,b≠e→b≠T→b∉l.filterMap (·.frame)→h.get? b=some o→h'.get? b=some o
 slot:∀b o,b≠e→b≠T→h.get? b=some o→∃sl,h'.get? b=some { o with slots:=sl }
theorem noteSame {env:Env}{L e T:Addr}{oe oT:Obj}{vs ts:Array Value}{x:Value}{Q:Unit→Shared→Prop}(hf:env.frame=some L)
  (he:s.heap.get? e=some oe) (hd:oe.data = .fields vs) (h1:vs[1]? = some (.ref T)) (hT:s.heap.get? T=some oT) (hdT:oT.data = .fields ts) (h3:ts[3]? = some x) (hx:(x == rawInt L)=true)
  (h:Q () s):wpAny M A (noteFrame (.ref e) env) Q E s:=by
 unfold noteFrame
 simp only[hf]
 refine wpAny_bind (wpAny_field he hd h1 ?_)
 rw[if_pos (show(Value.ref T != Value.none)=true from by simp)]
 refine wpAny_bind (wpAny_field hT hdT h3 ?_)
 rw[if_pos hx]
 exact wpAny_pure h
theorem noteNext {base:Heap}{env e0:Env}{outer:List Env}{L e T:Addr}{oe oT:Obj}{vs ts:Array Value}{x:Value}{Q:Unit→Shared→Prop}
  (hfr:A.frames=some (e0::outer)) (hl:s.heap.FunFrames base (e0::outer)) (hf0:e0.frame=some L) (hf:env.frame=some L)
  (he:s.heap.get? e=some oe) (hd:oe.data = .fields vs) (h1:vs[1]? = some (.ref T)) (hTe:T≠e) (hT:s.heap.get? T=some oT) (hdT:oT.data = .fields ts) (h3:ts[3]? = some x) (hx:¬(x == rawInt L)=true)
  (h:∀h',EnteredX (e0::outer) e T oe oT s.heap h'→Q () { s with heap:=h' }):wpAny M A (noteFrame (.ref e) env) Q E s:=by
 unfold noteFrame
 simp only[hf]
 refine wpAny_bind (wpAny_field he hd h1 ?_)
 rw[if_pos (show(Value.ref T != Value.none)=true from by simp)]
 refine wpAny_bind (wpAny_field hT hdT h3 ?_)
 rw[if_neg hx]
 have hs3:=(Array.getElem?_eq_some_iff.mp h3).1
 refine wpAny_bind (wpAny_setField hT hdT hs3 ?_)
 have other:∀b,b≠T→(s.heap.update T (Obj.mapFields (·.setIfInBounds 3 Value.none))).get? b=s.heap.get? b:=fun b hb=>Heap.get?_update_other _ _ (Ne.symm hb)
 have atT:=Heap.get?_update_self (Obj.mapFields (·.setIfInBounds 3 Value.none)) hT (Obj.isFreed_of_fields (Obj.data_mapFields hdT _))
 rw[mapFields_at hdT]at atT
 have noRec:∀b o,s.heap.get? b=some o→(∀vs,o.data ≠ .fields vs)→b≠T:=fun b o hb hnf q=>by
  rw[q,hT]at hb;injection hb with hb;subst hb;exact hnf ts hdT
 have nT:T∉(e0::outer).filterMap (·.frame):=fun hm=>by
  obtain⟨_,o,ho,hnf⟩:=hl.mem hm
  rw[hT]at ho;injection ho with ho;subst ho;exact hnf ts hdT
 refine newEntryS hfr (hl.of_keeps fun b o hb hnf=>⟨o,(other b (noRec b o hb hnf)).trans hb,rfl⟩) hf0 hf ((other e (Ne.symm hTe)).trans he) hd (Array.getElem?_eq_some_iff.mp h1).1 fun h' x=>h h' ?_
 obtain⟨vs',T',oT',ts',x3,g1,g0,g2,g3,g4,g5,g6,g7⟩:=x.exc
 refine⟨⟨vs',T',oT',ts',x3,g1,g0,g2,?_,g4,g5,g6,g7⟩,⟨_,Value.none,x.keep _ _ hTe nT atT,by simp[hs3]⟩,fun b o b1 b2 b3 hb=>x.keep b o b1 b3 ((other b b2).trans hb),fun b o b1 b2 hb=>x.slot b o b1 ((other b b2).trans hb)⟩
 rw[Heap.size_after_update]at g3;exact g3
end
end PySem
namespace L2
open PySem PySem.Spec PyProof.Rows
def ExP (e C:Addr) (D T:Option Addr):Heap→Prop:=fun h=>∃vs sl,h.get? e=some ⟨.ref C,D,.fields vs,sl⟩∧vs[1]? = some (match T with|some t=>Value.ref t|none=>.none)∧vs[2]? = some .none
def TbP (T:Addr):Heap→Prop:=fun h=>∃oT ts x,h.get? T=some oT∧oT.data = .fields ts∧ts[3]? = some x
structure Exc (H:Hp) (e C:Addr) (D T:Option Addr) (a:Str) (v:V):Prop where
 ex:H e=some (.ext (ExP e C D T))
 xd:∀d,D=some d→H d=some (.xd [(a,v)])
 tb:∀t,T=some t→H t=some (.ext (TbP t))∧t≠e
section
variable {X:Cx}{pins:List (Addr×Obj)}{σ:St}{H H':Hp}{s:Shared}{h':Heap}
theorem Inv.flown (I:Inv X pins σ H s) {S:Addr→Prop}
  (keep:∀b o,¬ S b→b∉frs X.stack→s.heap.get? b=some o→h'.get? b=some o)
  (slot:∀b o,¬ S b→s.heap.get? b=some o→∃sl,h'.get? b=some { o with slots:=sl })
  (sx:∀b,S b→∃φ,H b=some (.ext φ)) (st:∀b,S b→∃o,h'.get? b=some o)
  (hn:∀b,¬ S b→(H b≠none ∨ ∃o,s.heap.get? b=some o)→H' b=H b)
  (hok:HOk X.prog X.w H' h'):Inv X pins σ H' { s with heap:=h' }:=by
 have nS:∀b,H b=none→¬ S b:=fun b e z=>by obtain⟨φ,q⟩:=sx b z;rw[q]at e;cases e
 have nfr:∀b,b≠X.env.locals→b∉X.fs→b∉frs X.stack:=fun b n1 n2 z=>by
  rcases I.ok.stk with e|⟨e,hf⟩
  ·rw[e]at z;exact n2 z
  ·rw[e]at z
   unfold frs at z
   rw[List.filterMap_cons,hf]at z
   rcases List.mem_cons.mp z with q|q
   ·exact n1 q
   ·exact n2 q
 have nl:∀b o,X.s₀.heap.get? b=some o→b≠X.env.locals:=fun b o q z=>by
  rw[z]at q
  exact absurd (Nat.lt_of_lt_of_le (Heap.lt_size q) I.ok.above) (Nat.lt_irrefl _)
 have same:∀b u,H b=some u→(∀φ,u ≠ .ext φ)→H' b=some u:=fun b u q n=>by
  rw[hn b (fun z=>by obtain⟨φ,r⟩:=sx b z;rw[q]at r;exact n φ (Option.some.inj r)) (.inl (by rw[q];intro z;cases z))];exact q
 have cellK:∀x c v,X.env.cells.lookup x=some c→s.heap.IsCell c v→h'.IsCell c v:=fun x c v e ⟨o,ho,hd⟩=>by
  obtain⟨sl,q⟩:=slot c o (nS c (I.freeC x c e)) ho
  exact⟨_,q,hd⟩
 have hl0:∃o,s.heap.get? X.env.locals=some o:=by obtain⟨_,⟨o,_,_,ho,_⟩,_⟩:=I.loc;exact⟨o,ho⟩
 refine⟨I.ok,I.os,I.bare,⟨fun b o q n f x=>?_,fun b o q n f x=>?_,fun b o q n x=>?_,fun b o q x=>?_,fun b xs q=>?_,fun b o u q=>?_,fun b ps q=>?_⟩,?_,fun x c e=>?_,?_,fun x c e=>?_,fun p hp=>?_,hok,I.len⟩
 ·exact keep b o (nS b (I.base.free b o q n x)) (nfr b (nl b o q) f) (I.base.keep b o q n f x)
 ·obtain⟨sl,r⟩:=I.base.slot b o q n f x
  obtain⟨sl',r'⟩:=slot b _ (nS b (I.base.free b o q n x)) r
  exact⟨sl',r'⟩
 ·have z:=I.base.free b o q n x
  obtain⟨o',r⟩:=I.base.there b o q x
  rw[hn b (nS b z) (.inr ⟨o',r⟩)];exact z
 ·obtain⟨o',r⟩:=I.base.there b o q x
  by_cases c:S b
  ·exact st b c
  ·obtain⟨sl,r'⟩:=slot b o' c r
   exact⟨_,r'⟩
 ·exact same b _ (I.base.tups b xs q) (by intro φ z;cases z)
 ·exact same b _ (I.base.frzs b o u q) (by intro φ z;cases z)
 ·obtain⟨more,r⟩:=I.base.tbls b ps q
  exact⟨more,same b _ r (by intro φ z;cases z)⟩
 ·obtain⟨m,⟨o,es,ep,ho,hd,r⟩,hl⟩:=I.loc
  obtain⟨sl,q⟩:=slot _ o (nS _ I.free) ho
  refine⟨m,⟨_,es,ep,q,hd,r⟩,fun i x v e1 e2 e3=>?_⟩
  obtain⟨u,ru,lk⟩:=hl i x v e1 e2 e3
  refine⟨u,ru,?_⟩
  rcases lk with lk|⟨k,c,hc,ic⟩
  ·exact .inl lk
  ·exact .inr ⟨k,c,hc,cellK x c _ hc ic⟩
 ·obtain⟨v,ic⟩:=I.cell x c e
  exact⟨v,cellK x c v e ic⟩
 ·rw[hn _ (nS _ I.free) (.inr hl0)];exact I.free
 ·obtain⟨v,o,ho,_⟩:=I.cell x c e
  rw[hn _ (nS _ (I.freeC x c e)) (.inr ⟨o,ho⟩)];exact I.freeC x c e
 ·obtain⟨p1,p2,p3,p4,p5⟩:=I.pin p hp
  exact⟨keep _ _ (nS _ p2) (nfr _ p3 p4) p1,by rw[hn _ (nS _ p2) (.inr ⟨_,p1⟩)];exact p2,p3,p4,p5⟩
theorem Inv.note (I:Inv X pins σ H s) {e C:Addr}{D T:Option Addr}{a:Str}{v:V}{e0:Env}{o0:List Env}{L:Addr}(hst:X.stack=e0::o0) (hf0:e0.frame=some L) (hf:X.env.frame=some L) (x:Exc H e C D T a v) {Q:Unit→Shared→Prop}{E:Value→Shared→Prop}
  (k:∀(T':Addr) (H':Hp) (h':Heap),Exc H' e C D (some T') a v→(∀b o,b≠e→H b=some o→H' b=some o)→Inv X pins σ H' { s with heap:=h' }→Q () { s with heap:=h' }) :
  wpAny (model X.prog X.w) X.A (noteFrame (.ref e) X.env) Q E s:=by
 obtain⟨⟨vs,sl,he,h1,h2⟩,_,_⟩:=I.hok e _ x.ex
 have stE:∀(T':Addr) (h1 h2:Heap),ExP e C D (some T') h1→(∀o,h1.get? e=some o→h2.get? e=some o)→ExP e C D (some T') h2:=fun T' h1 h2 ⟨vs,sl,q,r⟩ kk=>⟨vs,sl,kk _ q,r⟩
 have stT:∀(T':Addr) (h1 h2:Heap),TbP T' h1→(∀o,h1.get? T'=some o→h2.get? T'=some o)→TbP T' h2:=fun T' h1 h2 ⟨o,ts,y,q,r⟩ kk=>⟨o,ts,y,kk _ q,r⟩
 have fin:∀(h':Heap) (T':Addr) (S:Addr→Prop),s.heap.objs.size≤T'→T'≠e→S e→(∀b,S b→∃φ,H b=some (.ext φ))→(∀b,S b→b≠e→b≠T'∧H b=some (.ext (TbP b))∧TbP b h') →
   (∀b o,¬ S b→b∉frs X.stack→s.heap.get? b=some o→h'.get? b=some o)→(∀b o,¬ S b→s.heap.get? b=some o→∃sl,h'.get? b=some { o with slots:=sl }) →
   ExP e C D (some T') h'→TbP T' h'→Q () { s with heap:=h' }:=fun h' T' S hz hTe hS sx so keep slot pe pt=>by
  have nT:=I.hok.fresh hz
  refine k T' (upd (upd H e (.ext (ExP e C D (some T')))) T' (.ext (TbP T'))) h' ⟨by rw[upd_ne hTe.symm,upd_same],fun d q=>?_,fun t q=>?_⟩ (fun b o ne q=>by rw[upd_ne (ne_of_none q nT),upd_ne ne];exact q) (I.flown (S:=S) keep slot sx (fun b hb=>?_) (fun b hb hh=>?_) fun b u q=>?_)
  ·have hd:=x.xd d q
   rw[upd_ne (ne_of_none hd nT),upd_ne (ne_of hd x.ex (by intro z;cases z))];exact hd
  ·cases q
   exact⟨upd_same,hTe⟩
  ·by_cases c:b=e
   ·subst c;obtain⟨_,_,q,_⟩:=pe;exact⟨_,q⟩
   ·obtain⟨_,_,o,_,_,q,_⟩:=so b hb c;exact⟨_,q⟩
  ·have ne:b≠e:=fun z=>hb (z ▸ hS)
   have nt:b≠T':=fun z=>by
    subst z
    rcases hh with hh|⟨o,ho⟩
    ·exact hh nT
    ·exact absurd (Nat.lt_of_lt_of_le (Heap.lt_size ho) hz) (Nat.lt_irrefl _)
   rw[upd_ne nt,upd_ne ne]
  ·by_cases c:b=T'
   ·subst c
    rw[upd_same]at q;cases q
    obtain⟨o,ts,y,r,r'⟩:=id pt
    exact⟨pt,⟨o,r⟩,stT b⟩
   rw[upd_ne c]at q
   by_cases c2:b=e
   ·subst c2
    rw[upd_same]at q;cases q
    obtain⟨_,_,r,_⟩:=id pe
    exact⟨pe,⟨_,r⟩,stE T'⟩
   rw[upd_ne c2]at q
   by_cases c3:S b
   ·obtain⟨_,q',pb⟩:=so b c3 c2
    rw[q]at q';cases q'
    obtain⟨o,ts,y,r,r'⟩:=id pb
    exact⟨pb,⟨o,r⟩,stT b⟩
   have back:∀c u,H c=some u→(∀φ,u ≠ .ext φ)→upd (upd H e (.ext (ExP e C D (some T')))) T' (.ext (TbP T')) c=some u:=fun c u qc n=>by
    rw[upd_ne (fun z=>by rw[z,nT]at qc;cases qc),upd_ne (fun z=>by rw[z,x.ex]at qc;exact n _ (Option.some.inj qc).symm)];exact qc
   refine(I.hok b u q).stay (fun c o hc r=>keep c o ?_ ?_ r) (fun c qc=>back c _ qc (by intro φ z;cases z)) fun c xs qc=>back c _ qc (by intro φ z;cases z)
   ·rcases hc with rfl|hc
    ·exact c3
    ·intro z;obtain⟨φ,r'⟩:=sx c z;rw[hc]at r';cases r'
   ·intro z
    have hz2:H c=none:=I.stkFree c z
    rcases hc with rfl|hc
    ·rw[q]at hz2;cases hz2
    ·rw[hc]at hz2;cases hz2
 have frA:X.A.frames=some (e0::o0):=by rw[← hst];exact I.ok.frames
 have frS:s.heap.FunFrames X.base (e0::o0):=by rw[← hst];exact I.stack
 cases T with
 | none =>
  refine noteFirst frA frS hf0 hf he rfl h1 fun h' y=>?_
  obtain⟨vs',T',oT,ts,x3,q1,q0,q2,q3,q4,q5,q6,q7⟩:=y.exc
  exact fin h' T' (· = e) q3 q4 rfl (fun b z=>by subst z;exact⟨_,x.ex⟩) (fun b z n=>absurd z n) (fun b o n f q=>y.keep b o n (by rw[hst]at f;exact f) q) (fun b o n q=>y.slot b o n q) ⟨vs',sl,q1,q2,(q0 vs rfl).trans h2⟩ ⟨oT,ts,x3,q5,q6,q7⟩
 | some T =>
  obtain⟨hT,hTe⟩:=x.tb T rfl
  obtain⟨⟨oT,ts,x3,hT0,hdT,h3⟩,_,_⟩:=I.hok T _ hT
  by_cases hx:(x3 == rawInt L)=true
  ·exact noteSame hf he rfl h1 hT0 hdT h3 hx (k T H s.heap x (fun b o _ q=>q) I)
  refine noteNext frA frS hf0 hf he rfl h1 hTe hT0 hdT h3 hx fun h' y=>?_
  obtain⟨vs',T',oT',ts',x4,q1,q0,q2,q3,q4,q5,q6,q7⟩:=y.exc
  obtain⟨ts2,x5,q8,q9⟩:=y.old
  have tt:T≠T':=fun z=>by rw[z]at hT0;exact absurd (Nat.lt_of_lt_of_le (Heap.lt_size hT0) q3) (Nat.lt_irrefl _)
  exact fin h' T' (fun b=>b=e∨b=T) q3 q4 (.inl rfl) (fun b z=>by rcases z with rfl|rfl;exact⟨_,x.ex⟩;exact⟨_,hT⟩) (fun b z n=>by
   rcases z with z|rfl
   ·exact absurd z n
   ·exact⟨tt,hT,_,ts2,x5,q8,rfl,q9⟩) (fun b o n f q=>y.keep b o (fun z=>n (.inl z)) (fun z=>n (.inr z)) (by rw[hst]at f;exact f) q) (fun b o n q=>y.slot b o (fun z=>n (.inl z)) (fun z=>n (.inr z)) q) ⟨vs',sl,q1,q2,(q0 vs rfl).trans h2⟩ ⟨oT',ts',x4,q5,q6,q7⟩
theorem Inv.flight (I:Inv X pins σ H s) {e C T:Addr}{D:Option Addr}{a:Str}{v:V}{A:Around}{fr:Option Addr}(x:Exc H e C D (some T) a v) {Q:Unit→Shared→Prop}{E:Value→Shared→Prop}
  (k:∀(h':Heap),Inv X pins σ H { s with heap:=h' }→(∀b,b≠T→h'.get? b=s.heap.get? b)→Q () { s with heap:=h' }) :
  wpAny (model X.prog X.w) A (setFlight (.ref e) fr) Q E s:=by
 obtain⟨⟨vs,sl,he,h1,h2⟩,_,_⟩:=I.hok e _ x.ex
 obtain⟨hT,hTe⟩:=x.tb T rfl
 obtain⟨⟨oT,ts,x3,hT0,hdT,h3⟩,_,stT⟩:=I.hok T _ hT
 have hs3:=(Array.getElem?_eq_some_iff.mp h3).1
 have other:∀b,b≠T→(s.heap.update T (Obj.mapFields (·.setIfInBounds 3 (fr.elim Value.none fun f=>rawInt f)))).get? b=s.heap.get? b:=fun b hb=>Heap.get?_update_other _ _ (Ne.symm hb)
 have atT:=Heap.get?_update_self (Obj.mapFields (·.setIfInBounds 3 (fr.elim Value.none fun f=>rawInt f))) hT0 (Obj.isFreed_of_fields (Obj.data_mapFields hdT _))
 rw[mapFields_at hdT]at atT
 unfold setFlight
 refine wpAny_bind (wpAny_field he rfl h1 ?_)
 rw[if_pos (show(Value.ref T != Value.none)=true from by simp)]
 refine wpAny_setField hT0 hdT hs3 (k _ (I.flown (S:=(· = T)) (fun b o n _ q=>(other b n).trans q) (fun b o n q=>⟨o.slots,(other b n).trans q⟩) (fun b z=>by subst z;exact⟨_,hT⟩) (fun b z=>by subst z;exact⟨_,atT⟩) (fun b _ _=>rfl) fun b u q=>?_) other)
 by_cases c:b=T
 ·subst c
  rw[hT]at q;cases q
  exact⟨⟨_,_,fr.elim Value.none (fun f=>rawInt f),atT,rfl,by simp[hs3]⟩,⟨_,atT⟩,stT⟩
 ·refine(I.hok b u q).stay (fun c' o hc r=>(other c' ?_).trans r) (fun _ q=>q) fun _ _ q=>q
  rcases hc with rfl|hc
  ·exact c
  ·intro z;rw[z,hT]at hc;cases hc
end
end L2
namespace L2
open PySem PySem.Spec PyProof.Rows
structure XCls (K:PySem.W.Frag) (C:Addr) (a:Str):Prop where
 ex:∃(nm q:Str) (N:Addr) (bs bm bmB:List Value) (sn:List Str) (sub:List Value) (ab:Bool) (col:Option Bool) (dd:Option Addr) (k0 k1 k2 k3 k5:Option Value) (newId initId sa owner:String) (fI:Addr) (name qual:Str) (params:Arguments) (scope:Scope)
   (dV kV doc pm cdv ct:Value) (an od:Option Addr) (osl:Array (Option Value)) (p1 p2 p3 p4:Pos),
  ExcBaseFacts "ValueError" newId initId bmB∧StoreFacts "ValueError" bmB sa owner∧typeLookup (.type "ValueError") a=pure none∧bm.contains (.type "BaseException")=true ∧
  K.lookup C=some (excClassObj nm q C N bs bm true sn sub ab col dd k0 k1 k2 k3 k5 newId)∧(∀h,K.In h→TlN h bmB (fun n=>n = "__init__" ∨ n = "__setattr__" ∨ n=a) bm) ∧
  (∀h,K.In h→∃mN,h.Ns N mN∧mN "__init__" = some (.ref fI)∧mN "__setattr__" = none∧mN a=none) ∧
  K.lookup fI=some ⟨.type "function",od,.func (PySem.W.fnOf name qual params [.Assign [.Attribute (.Name "self" p1) a p2] (.Name a p3) p4] scope dV kV doc pm an cdv ct),osl⟩∧PySem.W.codeIn K cdv qual=true ∧
  FnScope ["self",a] ["self",a] scope∧(∀env,swapsWith (.Name a p3) (some (.Attribute (.Name "self" p1) a p2)) p4.line env=pure false)∧scope.names.lookup ("self" : Str)=some .local∧scope.names.lookup a=some .local∧a ≠ "self"∧(a ==("__debug__" : Str))=false ∧
  ∀s e u,BindsTo s (PySem.W.fnOf name qual params [.Assign [.Attribute (.Name "self" p1) a p2] (.Name a p3) p4] scope dV kV doc pm an cdv ct) ⟨[.ref e,u],[]⟩ [("self",.ref e),(a,u)]
theorem exc_ns {nm q nm' q':Str}{C N C' N':Addr}{bs bm bs' bm':List Value}{hdct hdct':Bool}{sn sn':List Str}{sub sub':List Value}{ab ab':Bool}{col col':Option Bool}{dd dd':Option Addr}{k0 k1 k2 k3 k5 k0' k1' k2' k3' k5':Option Value}{newId newId':String}(h:excClassObj nm q C N bs bm hdct sn sub ab col dd k0 k1 k2 k3 k5 newId=excClassObj nm' q' C' N' bs' bm' hdct' sn' sub' ab' col' dd' k0' k1' k2' k3' k5' newId'):N=N' :=
 congrArg (fun o:Obj=>match o.data with | .cls cd=>cd.ns|_=>0) h
theorem XCls.uniq {K:PySem.W.Frag}{C:Addr}{a b:Str}{h:Heap}(X:K.In h) (x:XCls K C a) (y:XCls K C b):a=b:=by
 obtain⟨nm,q,N,bs,bm,bmB,sn,sub,ab,col,dd,k0,k1,k2,k3,k5,newId,initId,sa,owner,fI,name,qual,params,scope,dV,kV,doc,pm,cdv,ct,an,od,osl,p1,p2,p3,p4,_,_,_,_,lC,_,hN,lf,_⟩:=x.ex
 obtain⟨nm',q',N',bs',bm',bmB',sn',sub',ab',col',dd',k0',k1',k2',k3',k5',newId',initId',sa',owner',fI',name',qual',params',scope',dV',kV',doc',pm',cdv',ct',an',od',osl',p1',p2',p3',p4',_,_,_,_,lC',_,hN',lf',_⟩:=y.ex
 have e1:=exc_ns (Option.some.inj (lC.symm.trans lC'))
 subst e1
 obtain⟨m,g1,g2,_⟩:=hN h X
 obtain⟨m',g1',g2',_⟩:=hN' h X
 have e2:m=m':=g1.eq_nsMap.trans g1'.eq_nsMap.symm
 rw[e2,g2']at g2
 have e3:fI'=fI:=Value.ref.inj (Option.some.inj g2)
 subst e3
 have e4:=Option.some.inj (lf.symm.trans lf')
 have e5:=congrArg (fun o:Obj=>match o.data with | .func f=>(match f.body with | .stmts [.Assign _ (.Name x _) _]=>x|_ => "")|_=>("" : Str)) e4
 exact e5
structure XPl (K:PySem.W.Frag) (C:Addr):Prop where
 ex:∃(nm q:Str) (N:Addr) (bs bm bmB:List Value) (sn:List Str) (sub:List Value) (ab:Bool) (col:Option Bool) (dd:Option Addr) (k0 k1 k2 k3 k5:Option Value) (newId initId:String),
  ExcBaseFacts "ValueError" newId initId bmB∧bm.contains (.type "BaseException")=true∧K.lookup C=some (excClassObj nm q C N bs bm true sn sub ab col dd k0 k1 k2 k3 k5 newId)∧(∀h,K.In h→OwnTail h bmB bm) ∧
  ∀h,K.In h→∃mN,h.Ns N mN∧mN "__init__" = none
theorem XPl.no {K:PySem.W.Frag}{C:Addr}{a:Str}{h:Heap}(X:K.In h) (x:XPl K C) (y:XCls K C a):False:=by
 obtain⟨nm,q,N,bs,bm,bmB,sn,sub,ab,col,dd,k0,k1,k2,k3,k5,newId,initId,_,_,lC,_,hN⟩:=x.ex
 obtain⟨nm',q',N',bs',bm',bmB',sn',sub',ab',col',dd',k0',k1',k2',k3',k5',newId',initId',sa',owner',fI',name',qual',params',scope',dV',kV',doc',pm',cdv',ct',an',od',osl',p1',p2',p3',p4',_,_,_,_,lC',_,hN',lf',_⟩:=y.ex
 have e1:=exc_ns (Option.some.inj (lC.symm.trans lC'))
 subst e1
 obtain⟨m,g1,g2⟩:=hN h X
 obtain⟨m',g1',g2',_⟩:=hN' h X
 have e2:m=m':=g1.eq_nsMap.trans g1'.eq_nsMap.symm
 rw[← e2,g2]at g2'
 cases g2'
def XMk (K:PySem.W.Frag) (C:Addr) (D:Option Addr) (a:Str):Prop:=(∃d,D=some d∧XCls K C a) ∨(D=none∧XPl K C)
theorem sub_next {H H' H0:Hp}{e:Addr}(k':∀b o,b≠e→H b=some o→H' b=some o) (n0:H0 e=none) (k:∀b o,H0 b=some o→H b=some o):∀b o,H0 b=some o→H' b=some o:=fun b o q=>k' b o (ne_of_none q n0) (k b o q)
section
variable {P:Program}{w:World}{K:PySem.W.Frag}{mg:Str→Option Value}{base:Heap}{N:List Str}{qual:Str}{scope:Scope}{f:Addr}{cd:Value}{A:Around}{outer:List Env}{s0:Shared}{H00:Hp}{E:XK}
end
end L2
namespace L2
open PySem PySem.Spec PyProof.Rows
section
variable {X:Cx}{E:XK}{C:Addr}{a x:Str}{k:Nat}{arg:Expr}{ta:TA}{np cpos pos:Pos}
end
end L2
namespace PySem
section
variable {M:Model}{A:Around}{E:Value→Shared→Prop}{h:Heap}{g:Array GenState}{d:Drawn}{t:Nat}{os:OsState}
variable {nm q nm' q':Str}{C N C' N' e:Addr}{bs bm bs' bm':List Value}{hdct hdct':Bool}{sn sn':List Str}{sub sub':List Value}{ab ab':Bool}{col col':Option Bool}{dd dd':Option Addr}{k0 k1 k2 k3 k5 k0' k1' k2' k3' k5':Option Value}{newId newId':String}{oe:Obj}
theorem excMatchesT {Q:Bool→Shared→Prop}(hC:h.get? C=some (excClassObj nm q C N bs bm hdct sn sub ab col dd k0 k1 k2 k3 k5 newId)) (hC':h.get? C'=some (excClassObj nm' q' C' N' bs' bm' hdct' sn' sub' ab' col' dd' k0' k1' k2' k3' k5' newId'))
  (he:h.get? e=some oe) (hcls:oe.cls = .ref C) (hbase:bm'.contains (.type "BaseException")=true)
  (hq:Q ((Value.ref C::bm).contains (.ref C')) ⟨h,g,d,t,os⟩):wpAny M A (excMatches (.ref e) (.ref C')) Q E ⟨h,g,d,t,os⟩:=by
 have hcB:(Value.ref C'::bm').contains (.type "BaseException")=true:=by rw[List.contains_cons,hbase,Bool.or_true]
 have f:=tc_notTuple
 generalize hb:(Value.ref C::bm).contains (.ref C')=b at hq
 unfold excMatches
 repeat (first|(with_reducible refine wpAny_loadPart_at he ?_;rw[hcls])|with_reducible refine wpAny_loadPart_at hC' ?_|(with_reducible refine wpAny_isSubtype_exc hC' ?_;rw[hcB])|(with_reducible refine wpAny_isSubtype_exc hC ?_;rw[hb])|wp_step)
 cases b <;> first|exact hq|(wp_walk;exact hq)
end
end PySem
namespace L2
open PySem PySem.Spec PyProof.Rows
section
variable {X:Cx}{pins:List (Addr×Obj)}{σ:St}{H:Hp}{s:Shared}
def Cx.suite (X:Cx) (e:Addr):Cx:={ X with A:=X.A.mark (some (.ref e)),calm:=false,xe:=fun _ _=>False }
theorem Inv.toSuite (I:Inv X pins σ H s) (e:Addr):Inv (X.suite e) pins σ H s :=
 ⟨⟨I.ok.mod,I.ok.kind,I.ok.glob,I.ok.blt,I.ok.above,I.ok.inj,I.ok.has,I.ok.cab,fun z=>(by cases z),I.ok.frames,I.ok.stk,I.ok.exf,I.ok.bs,I.ok.bsz,I.ok.noex,I.ok.exfs,I.ok.funs,I.ok.frf⟩,I.os,I.bare,I.base,I.loc,I.cell,I.free,I.freeC,I.pin,I.hok,I.len⟩
theorem Inv.ofSuite {e:Addr}(ok:X.Ok) (I:Inv (X.suite e) pins σ H s):Inv X pins σ H s:=⟨ok,I.os,I.bare,I.base,I.loc,I.cell,I.free,I.freeC,I.pin,I.hok,I.len⟩
end
end L2
namespace L2
open PySem PySem.Spec PyProof.Rows
section
variable {X:Cx}{pins:List (Addr×Obj)}{σ:St}{H:Hp}{s:Shared}
theorem Inv.goes {M:Model}{A:Around}{E:Value→Shared→Prop}{i:Nat}{n:Str}{pos:Pos}{Q:Unit→Shared→Prop}(I:Inv X pins σ H s) (hN:X.N.Nodup) (hi:X.N[i]? = some n) (hk:X.env.kindOf n=some .local)
  (h:∀s',Inv X pins (σ.set i none) H s'→Q () s'):wpAny M A (do bindName X.env n .none;unbindBehindTheSuite X.env n pos) Q E s:=by
 obtain⟨m,hn,hl⟩:=id I.loc
 obtain⟨oL,_,_,hoL,_⟩:=id hn
 have hcls:(X.env.scope.kind == .class || (X.env.scope.kind == .module && X.env.locals != X.env.globals))=false:=by rw[I.ok.kind];rfl
 have hiσ:i<σ.length:=by rw[I.len];exact(List.getElem?_eq_some_iff.mp hi).1
 refine wpAny_nameGoes_keeps hk hn hcls fun h' v hn' hs=>h _ ?_
 have ab:∀b o,X.s₀.heap.get? b=some o→b≠X.env.locals:=fun b o e=>Nat.ne_of_lt (Nat.lt_of_lt_of_le (Heap.lt_size e) I.ok.above)
 refine⟨I.ok,I.os,I.bare,⟨fun b o e n hb hx=>(hs.2 b (ab b o e)).trans (I.base.keep b o e n hb hx),fun b o e n hb hx=>?_,I.base.free,fun b o e hx=>?_,I.base.tups,I.base.frzs,I.base.tbls⟩,⟨_,hn',fun j y v' e1 e2 e3=>?_⟩,fun y c e=>?_,I.free,I.freeC,fun p hp=>?_,fun b ob e=>?_,by simpa using I.len⟩
 ·obtain⟨sl,e1⟩:=I.base.slot b o e n hb hx
  exact⟨sl,(hs.2 b (ab b o e)).trans e1⟩
 ·obtain⟨o',e1⟩:=I.base.there b o e hx
  exact⟨o',(hs.2 b (ab b o e)).trans e1⟩
 ·by_cases hj:j=i
  ·subst hj
   rw[List.getElem?_set_self hiσ]at e2;cases e2
  ·rw[List.getElem?_set_ne (Ne.symm hj)]at e2
   obtain⟨u',r',q⟩:=hl j y v' e1 e2 e3
   refine⟨u',r',?_⟩
   rcases q with⟨k,e⟩|⟨k,c,e,z⟩
   ·refine .inl ⟨k,?_⟩
    have:y≠n:=fun e=>hj (nodup_ix hN e1 (e ▸ hi))
    simp[this,e]
   ·exact .inr ⟨k,c,e,z.sameBut hs (I.cne y c e)⟩
 ·obtain⟨w,z⟩:=I.cell y c e
  exact⟨w,z.sameBut hs (I.cne y c e)⟩
 ·obtain⟨p1,p2,p3,p4,p5⟩:=I.pin p hp
  exact⟨(hs.2 _ p3).trans p1,p2,p3,p4,p5⟩
 ·refine(I.hok b ob e).stay (fun c w' hc q=>(hs.2 c ?_).trans q) (fun _ q=>q) fun _ _ q=>q
  rintro rfl
  rcases hc with rfl|hc
  ·rw[I.free]at e;cases e
  ·rw[I.free]at hc;cases hc
end
def XC (K:PySem.W.Frag) (C:Addr) (bm:List Value):Prop:=∃(nm q:Str) (N:Addr) (bs:List Value) (hdct:Bool) (sn:List Str) (sub:List Value) (ab:Bool) (col:Option Bool) (dd:Option Addr) (k0 k1 k2 k3 k5:Option Value) (newId:String),
 K.lookup C=some (excClassObj nm q C N bs bm hdct sn sub ab col dd k0 k1 k2 k3 k5 newId)∧bm.contains (.type "BaseException")=true
def Und (K:PySem.W.Frag) (C C':Addr):Prop:=∃bm bm',XC K C bm∧XC K C' bm'∧(Value.ref C::bm).contains (.ref C')=true
def UndN (K:PySem.W.Frag) (C C':Addr):Prop:=∃bm bm',XC K C bm∧XC K C' bm'∧(Value.ref C::bm).contains (.ref C')=false
def XAt (H:Hp) (e C:Addr) (a:Str) (v:V):Prop:=∃D T,Exc H e C (some D) T a v
def XAt0 (H:Hp) (e C:Addr):Prop:=∃T a v,Exc H e C none T a v
def Ends.gone (D:Ends) (i:Nat):Ends:={ nx:=fun σ H=>D.nx (σ.set i none) H,rt:=D.rt,bk:=fun σ H=>D.bk (σ.set i none) H,ct:=fun σ H=>D.ct (σ.set i none) H }
def Ends.goneO (D:Ends):Option Nat→Ends
 | none=>D
 | some i=>D.gone i
def setO (σ:St) (e:Addr):Option Nat→St
 | none=>σ
 | some i=>σ.set i (some (.ref e))
structure Cl where
 C:Addr
 i:Option Nat
 th:Addr→TS
def tHan (K:PySem.W.Frag) (C e:Addr) (σ:St) (H:Hp) (D:Ends):List Cl→Prop
 | []=>False
 | c::r=>(Und K C c.C∧c.th e (D.goneO c.i) (setO σ e c.i) H) ∨(UndN K C c.C∧tHan K C e σ H D r)
inductive PHs (X:Cx):List ExceptHandler→List Cl→Prop
 | nil:PHs X [] []
 | named {i:Nat}{n xc:Str}{C':Addr}{np hpos:Pos}{b0:Stmt}{suite:List Stmt}{th:Addr→TS}{hs:List ExceptHandler}{cs:List Cl}(hi:X.N[i]? = some n) (hk:X.env.kindOf n=some .local) (hg:Gl X xc) (hm:X.mg xc=some (.ref C'))
   (hs':∀e,PSs (X.suite e) (b0::suite) (th e)) (r:PHs X hs cs) (hd:(xc ==("__debug__" : Str))=false:=by decide):PHs X (.ExceptHandler (some (.Name xc np)) (some n) (b0::suite) hpos::hs) (⟨C',some i,th⟩::cs)
 | bare {xc:Str}{C':Addr}{np hpos:Pos}{b0:Stmt}{suite:List Stmt}{th:Addr→TS}{hs:List ExceptHandler}{cs:List Cl}(hg:Gl X xc) (hm:X.mg xc=some (.ref C'))
   (hs':∀e,PSs (X.suite e) (b0::suite) (th e)) (r:PHs X hs cs) (hd:(xc ==("__debug__" : Str))=false:=by decide):PHs X (.ExceptHandler (some (.Name xc np)) none (b0::suite) hpos::hs) (⟨C',none,th⟩::cs)
section
variable {X:Cx}{pins:List (Addr×Obj)}
theorem han_ok (hN:X.N.Nodup) (ok:X.Ok) {hs:List ExceptHandler}{cs:List Cl}(P:PHs X hs cs) {σ:St}{H:Hp}{e C T:Addr}{Dx:Option Addr}{a:Str}{v:V}{D:Ends}(x:Exc H e C Dx (some T) a v) :
  ∀{s:Shared},Inv X pins σ H s→tHan X.K C e σ H D cs→wpAny (model X.prog X.w) X.A (handleBy (.ref e) X.env hs) (SP X pins D) X.xe s:=by
 induction P with
 | nil=>intro s _ h;exact h.elim
 | @named i n xc C' np hpos b0 suite th hs cs hi hk hg hm hs' r hd ih =>
  intro s J2 h
  refine wpAny_handleBy_cons (codeAny_handlers_test ?_) (by intro z;cases z)
  refine wpAny_mono ((pe_glob (X:=X.suite e) hg hm (show RelV (.ref C') (.ref C') from rfl) hd) pins _ σ H (fun v H3=>v = .ref C'∧H3=H) (J2.toSuite e) ⟨rfl,rfl⟩) (fun c s4 ⟨v',H4,J4,r4,e1,e2⟩=>?_) fun _ _ z=>z.elim
  subst e1 e2
  obtain rfl:c=Value.ref C':=r4
  have J5:=J4.ofSuite ok
  obtain⟨⟨vs,sl,he,_⟩,_,_⟩:=J5.hok e _ x.ex
  obtain⟨hh4,g,d,tk,os⟩:=s4
  rcases h with⟨⟨bm,bm',⟨nm,q1,N,bs,hdct,sn,sub,ab,col,dd,k0,k1,k2,k3,k5,newId,lC,_⟩,⟨nm',q1',N',bs',hdct',sn',sub',ab',col',dd',k0',k1',k2',k3',k5',newId',lC',hbase'⟩,hcon⟩,hth⟩|⟨⟨bm,bm',⟨nm,q1,N,bs,hdct,sn,sub,ab,col,dd,k0,k1,k2,k3,k5,newId,lC,_⟩,⟨nm',q1',N',bs',hdct',sn',sub',ab',col',dd',k0',k1',k2',k3',k5',newId',lC',hbase'⟩,hcon⟩,hth⟩
  ·refine excMatchesT (J5.kIn _ _ lC) (J5.kIn _ _ lC') he rfl hbase' ?_
   rw[hcon]
   refine codeAny_handlers_suite_as ?_
   refine J5.flight x fun h6 J6 _=>?_
   refine store_ok J6 hN hi (.inl hk) (show RelV (.ref e) (.ref e) from rfl) (fun s7 J7=>?_) (.inr hk)
   refine wpAny_mono (hs' e pins s7 _ _ (D.gone i) (J7.toSuite e) hth) (fun f s8 h8=>?_) fun _ _ z=>z.elim
   cases f with
   | next =>
    obtain⟨σ9,H9,J9,q9⟩:=h8
    exact(J9.ofSuite ok).goes hN hi hk fun s' J10=>⟨_,_,J10,q9⟩
   | brk =>
    obtain⟨σ9,H9,J9,q9⟩:=h8
    exact(J9.ofSuite ok).goes hN hi hk fun s' J10=>⟨_,_,J10,q9⟩
   | cont =>
    obtain⟨σ9,H9,J9,q9⟩:=h8
    exact(J9.ofSuite ok).goes hN hi hk fun s' J10=>⟨_,_,J10,q9⟩
   | ret u9 =>
    obtain⟨v9,σ9,H9,J9,r9,q9⟩:=h8
    exact(J9.ofSuite ok).goes hN hi hk fun s' J10=>⟨_,_,_,J10,r9,q9⟩
  ·refine excMatchesT (J5.kIn _ _ lC) (J5.kIn _ _ lC') he rfl hbase' ?_
   rw[hcon]
   exact ih J5 hth
 | @bare xc C' np hpos b0 suite th hs cs hg hm hs' r hd ih =>
  intro s J2 h
  refine wpAny_handleBy_cons (codeAny_handlers_test ?_) (by intro z;cases z)
  refine wpAny_mono ((pe_glob (X:=X.suite e) hg hm (show RelV (.ref C') (.ref C') from rfl) hd) pins _ σ H (fun v H3=>v = .ref C'∧H3=H) (J2.toSuite e) ⟨rfl,rfl⟩) (fun c s4 ⟨v',H4,J4,r4,e1,e2⟩=>?_) fun _ _ z=>z.elim
  subst e1 e2
  obtain rfl:c=Value.ref C':=r4
  have J5:=J4.ofSuite ok
  obtain⟨⟨vs,sl,he,_⟩,_,_⟩:=J5.hok e _ x.ex
  obtain⟨hh4,g,d,tk,os⟩:=s4
  rcases h with⟨⟨bm,bm',⟨nm,q1,N,bs,hdct,sn,sub,ab,col,dd,k0,k1,k2,k3,k5,newId,lC,_⟩,⟨nm',q1',N',bs',hdct',sn',sub',ab',col',dd',k0',k1',k2',k3',k5',newId',lC',hbase'⟩,hcon⟩,hth⟩|⟨⟨bm,bm',⟨nm,q1,N,bs,hdct,sn,sub,ab,col,dd,k0,k1,k2,k3,k5,newId,lC,_⟩,⟨nm',q1',N',bs',hdct',sn',sub',ab',col',dd',k0',k1',k2',k3',k5',newId',lC',hbase'⟩,hcon⟩,hth⟩
  ·refine excMatchesT (J5.kIn _ _ lC) (J5.kIn _ _ lC') he rfl hbase' ?_
   rw[hcon]
   refine codeAny_handlers_suite ?_
   refine J5.flight x fun h6 J6 _=>?_
   refine wpAny_mono (hs' e pins _ _ _ D (J6.toSuite e) hth) (fun f s8 h8=>?_) fun _ _ z=>z.elim
   cases f with
   | next =>
    obtain⟨σ9,H9,J9,q9⟩:=h8
    exact⟨_,_,J9.ofSuite ok,q9⟩
   | brk =>
    obtain⟨σ9,H9,J9,q9⟩:=h8
    exact⟨_,_,J9.ofSuite ok,q9⟩
   | cont =>
    obtain⟨σ9,H9,J9,q9⟩:=h8
    exact⟨_,_,J9.ofSuite ok,q9⟩
   | ret u9 =>
    obtain⟨v9,σ9,H9,J9,r9,q9⟩:=h8
    exact⟨_,_,_,J9.ofSuite ok,r9,q9⟩
  ·refine excMatchesT (J5.kIn _ _ lC) (J5.kIn _ _ lC') he rfl hbase' ?_
   rw[hcon]
   exact ih J5 hth
end
section
variable {X:Cx}{body:List Stmt}{pos:Pos}{tb:XK→TS}{hs:List ExceptHandler}{cs:List Cl}
end
end L2
namespace L2
open PySem PySem.Spec PyProof.Rows
section
variable {X:Cx}{E:XK}{x m:Str}{C:Addr}{ps:List Str}{k:Nat}{sp:Sp}{e o:Expr}{es:List Expr}{t:TA}{ta:TE}{p pos apos:Pos}
end
section
variable {P:Program}{w:World}{K:PySem.W.Frag}{mg:Str→Option Value}{base:Heap}{C:Addr}{x y qual:Str}{st:Stmt}{f:Addr}{fd:FuncData}{N ps:List Str}{k:Nat}{sp:Sp}
end
end L2
namespace L2
open PySem PySem.Spec PyProof.Rows
def nsK (K:PySem.W.Frag) (N:Addr):Bool:=match K.lookup N with
 | some ⟨_,_,.dict es _,_⟩=>es.all (fun e=>match e.key with | .str _ _=>true|_=>false)
 | _=>false
theorem ns_of_K {K:PySem.W.Frag}{N:Addr}{h:Heap}(hk:nsK K N=true) (X:K.In h):∃mN,h.Ns N mN∧(∀n v,PySem.W.nsIn K N n=some (some v)→mN n=some v)∧∀n,PySem.W.nsIn K N n=some none→mN n=none:=by
 unfold nsK at hk
 split at hk
 ·rename_i c d es ep sl q
  have ho:=X _ _ q
  have G:=Heap.Ns.of_isNs (h:=h) (a:=N) (by unfold Heap.isNs;rw[ho];exact hk)
  refine⟨_,G,fun n v e=>?_,fun n e=>?_⟩
  ·obtain⟨o,es',ep',ho',hd,_,hf⟩:=G
   rw[ho]at ho';cases ho';cases hd
   unfold PySem.W.nsIn at e
   rw[q]at e
   dsimp only at e
   rw[← hf]
   unfold nsFind findBy
   rw[← Array.find?_toList]
   split at e
   ·rename_i en he
    cases e
    rw[he];rfl
   ·split at e <;> cases e
  ·obtain⟨o,es',ep',ho',hd,_,hf⟩:=G
   rw[ho]at ho';cases ho';cases hd
   unfold PySem.W.nsIn at e
   rw[q]at e
   dsimp only at e
   rw[← hf]
   unfold nsFind findBy
   rw[← Array.find?_toList]
   split at e
   ·cases e
   ·rename_i he
    rw[he];rfl
 ·cases hk
abbrev veM:List Value:=[.type "ValueError",.type "Exception",.type "BaseException",.type "object"]
theorem veB {TE:Addr}:(Value.ref TE::veM).contains (.type "BaseException")=true:=by rw[List.contains_cons,show veM.contains (.type "BaseException")=true by decide +kernel,Bool.or_true]
def NoNs (K:PySem.W.Frag) (N:Addr) (n:Str):Prop:=PySem.W.nsIn K N n=some none
theorem XCls.mk' {K:PySem.W.Frag}{C TE N fI:Addr}{a nm q name qual:Str}{bs:List Value}{sn:List Str}{sub:List Value}{ab:Bool}{col:Option Bool}{dd ddT:Option Addr}{k0 k1 k2 k3 k5:Option Value}{newId initId:String}{c0:Value}{cdT:ClassData}{slT:Array (Option Value)}
  {params:Arguments}{scope:Scope}{dV kV doc pm cdv ct:Value}{an od:Option Addr}{osl:Array (Option Value)}{p1 p2 p3 p4:Pos}(F:ExcBaseFacts "ValueError" newId initId veM)
  (lC:K.lookup C=some (excClassObj nm q C N bs (.ref TE::veM) true sn sub ab col dd k0 k1 k2 k3 k5 newId)) (lT:K.lookup TE=some ⟨c0,ddT,.cls cdT,slT⟩) (n1:nsK K N=true) (n2:nsK K cdT.ns=true)
  (i1:PySem.W.nsIn K N "__init__" = some (some (.ref fI))) (i2:NoNs K N "__setattr__") (i3:NoNs K N a) (t1:NoNs K cdT.ns "__init__") (t2:NoNs K cdT.ns "__setattr__") (t3:NoNs K cdT.ns a)
  (hB:typeLookup (.type "ValueError") a=pure none)
  (lf:K.lookup fI=some ⟨.type "function",od,.func (PySem.W.fnOf name qual params [.Assign [.Attribute (.Name "self" p1) a p2] (.Name a p3) p4] scope dV kV doc pm an cdv ct),osl⟩) (hcd:PySem.W.codeIn K cdv qual=true)
  (S:FnScope ["self",a] ["self",a] scope) (hsw:∀env,swapsWith (.Name a p3) (some (.Attribute (.Name "self" p1) a p2)) p4.line env=pure false) (l1:scope.names.lookup ("self" : Str)=some .local) (l2:scope.names.lookup a=some .local) (hne:a ≠ "self") (hdb:(a ==("__debug__" : Str))=false)
  (hbd:∀s e u,BindsTo s (PySem.W.fnOf name qual params [.Assign [.Attribute (.Name "self" p1) a p2] (.Name a p3) p4] scope dV kV doc pm an cdv ct) ⟨[.ref e,u],[]⟩ [("self",.ref e),(a,u)]):XCls K C a∧XC K C (.ref TE::veM) :=
 ⟨⟨nm,q,N,bs,.ref TE::veM,veM,sn,sub,ab,col,dd,k0,k1,k2,k3,k5,newId,initId,_,_,fI,name,qual,params,scope,dV,kV,doc,pm,cdv,ct,an,od,osl,p1,p2,p3,p4,F,PySem.F.store_ValueError,hB,veB,lC,fun h X=>by
  obtain⟨mT,g1,_,g3⟩:=ns_of_K n2 X
  refine .own (X _ _ lT) g1 (fun n hn=>?_) .base
  rcases hn with rfl|rfl|rfl
  ·exact g3 _ t1
  ·exact g3 _ t2
  ·exact g3 _ t3,fun h X=>by
  obtain⟨mN,g1,g2,g3⟩:=ns_of_K n1 X
  exact⟨mN,g1,g2 _ _ i1,g3 _ i2,g3 _ i3⟩,lf,hcd,S,hsw,l1,l2,hne,hdb,hbd⟩,⟨nm,q,N,bs,true,sn,sub,ab,col,dd,k0,k1,k2,k3,k5,newId,lC,veB⟩⟩
end L2
namespace PySem
open Builtin
section
variable {M:Model}{prog:Program}{w:World}{A:Around}{E:Value→Shared→Prop}{h:Heap}{g:Array GenState}{d:Drawn}{t:Nat}{os:OsState}{P:Str→Prop}
variable {nm q:Str}{C N x D:Addr}{bs bm bmB:List Value}{hdct:Bool}{sn:List Str}{sub:List Value}{ab:Bool}{col:Option Bool}{dd:Option Addr}{k0 k1 k2 k3 k5:Option Value}{B newId:String}{mN mA:Str→Option Value}{name:Str}{v:Value}{vs:Array Value}{sl:Array (Option Value)}{od:Obj}
theorem xattr_entry {tk:Tok}{Q:Fin→Shared→Prop}(hC:h.get? C=some (excClassObj nm q C N bs bm true sn sub ab col dd k0 k1 k2 k3 k5 newId)) (hN:h.Ns N mN) (hna:mN name=none) (T:TlN h bmB P bm) (hp:P name) (hmro:mroOf (.type B)=pure bmB) (hB:typeLookup (.type B) name=pure none)
  (hx:h.get? x=some ⟨.ref C,some D,.fields vs,sl⟩) (hD:h.get? D=some od) (hl:nsLook name od=pure (some v)) (hq:Q (.done (.ret v)) ⟨h,g,d,t,os⟩) :
  wpAny (model prog w) A (Builtin.«object.__getattribute__» ⟨[.ref x,.str name tk],[]⟩) Q E ⟨h,g,d,t,os⟩:=by
 repeat (any_goals (first|assumption|with_reducible refine wpAny_loadPart_at hx ?_|with_reducible refine wpAny_loadPart_at hC ?_|(with_reducible refine typeLookN hC hN T hp hmro hB ?_;rw[hna])|wp_step))
theorem check_gaT {Do:Option Addr}{nameV:Value}{Q:Unit→Shared→Prop}(hC:h.get? C=some (excClassObj nm q C N bs bm hdct sn sub ab col dd k0 k1 k2 k3 k5 newId)) (hb:bm.contains (.type "BaseException")=true)
  (hx:h.get? x=some ⟨.ref C,Do,.fields vs,sl⟩) (hq:Q () ⟨h,g,d,t,os⟩):wpAny M A (checkBuiltinCall "BaseException.__getattribute__" ⟨[.ref x,nameV],[]⟩) Q E ⟨h,g,d,t,os⟩:=by
 have hk:builtinKind "BaseException.__getattribute__" = some .slot:=by decide +kernel
 have hsplit:splitId "BaseException.__getattribute__" = some ("BaseException", "__getattribute__"):=by decide +kernel
 have hcB:(Value.ref C::bm).contains (.type "BaseException")=true:=by rw[List.contains_cons,hb,Bool.or_true]
 have ha:=F.args_bexc_ga (.ref x) nameV
 simp only[checkBuiltinCall,hk,hsplit]
 refine wpAny_bind ?_
 ·unfold isInstance
  repeat (first|with_reducible refine wpAny_loadPart_at hx ?_|(with_reducible refine wpAny_isSubtype_exc hC ?_;rw[hcB])|wp_step)
  exact hq
theorem xattrT {expr:Bool}{Q:Value→Shared→Prop}(FB:ExcAttrBase B bmB) (hC:h.get? C=some (excClassObj nm q C N bs bm true sn sub ab col dd k0 k1 k2 k3 k5 newId)) (hb:bm.contains (.type "BaseException")=true) (hN:h.Ns N mN) (hna:mN name=none) (hn1:mN "__getattribute__" = none) (hn2:mN "__getattr__" = none)
  (T:TlN h bmB P bm) (hp:P name) (hp1:P "__getattribute__") (hp2:P "__getattr__") (hB:typeLookup (.type B) name=pure none)
  (hx:h.get? x=some ⟨.ref C,some D,.fields vs,sl⟩) (hD:h.get? D=some od) (hl:nsLook name od=pure (some v)) (hh:handedOut v=pure v) (hq:∀tk,Q v ⟨h,g,d,tk,os⟩) :
  wpAny (model prog w) A (getAttr (.ref x) name expr) Q E ⟨h,g,d,t,os⟩:=by
 have f3:=FB.ga.bind (.ref x)
 have hx0:(expr && onTheHeap (Value.builtin "BaseException.__getattribute__"))=false:=by cases expr <;> rfl
 have hx2:(Value.builtin "BaseException.__getattribute__" == Value.builtin "object.__getattribute__")=false:=by decide +kernel
 have hx1:(onTheHeap (Value.ref C) && Value.builtin "BaseException.__getattribute__" == Value.builtin "object.__getattribute__")=false:=by rw[hx2];rfl
 unfold getAttr
 repeat (any_goals (first|assumption|with_reducible refine wpAny_loadPart_at hx ?_|(with_reducible refine typeLookN hC hN T hp1 FB.mro FB.ga.lookup ?_;rw[hn1])|(with_reducible refine typeLookN hC hN T hp2 FB.mro FB.noGetattr ?_;rw[hn2])|wp_step))
 refine codeAny_call_builtin FB.ga.plain F.entry_bexc_ga (check_gaT hC hb hx (xattr_entry hC hN hna T hp FB.mro hB hx hD hl ?_))
 show wpAny _ _ (handedOut v) _ _ _
 rw[hh]
 exact wpAny_pure (hq _)
end
end PySem
namespace L2
open PySem PySem.Spec PyProof.Rows
def XAttr (K:PySem.W.Frag) (C:Addr) (a:Str):Prop:=∃(nm q:Str) (N:Addr) (bs bm bmB:List Value) (sn:List Str) (sub:List Value) (ab:Bool) (col:Option Bool) (dd:Option Addr) (k0 k1 k2 k3 k5:Option Value) (newId:String),
 K.lookup C=some (excClassObj nm q C N bs bm true sn sub ab col dd k0 k1 k2 k3 k5 newId)∧bm.contains (.type "BaseException")=true∧ExcAttrBase "ValueError" bmB∧typeLookup (.type "ValueError") a=pure none ∧
 (∀h,K.In h→TlN h bmB (fun n=>n=a∨n = "__getattribute__" ∨ n = "__getattr__") bm)∧∀h,K.In h→∃mN,h.Ns N mN∧mN a=none∧mN "__getattribute__" = none∧mN "__getattr__" = none
section
variable {X:Cx}{pins:List (Addr×Obj)}{σ:St}{H:Hp}{s:Shared}{e C:Addr}{a:Str}{v:V}
theorem xget2 {b:Bool}{A:Around}{E:Value→Shared→Prop}{Q:Value→Shared→Prop}(I:Inv X pins σ H s) (x:XAt H e C a v) (c:XAttr X.K C a)
  (h:∀u s',Inv X pins σ H s'→RelV v u→Q u s'):wpAny (model X.prog X.w) A (getAttr (.ref e) a b) Q E s:=by
 obtain⟨nm,q,N,bs,bm,bmB,sn,sub,ab,col,dd,k0,k1,k2,k3,k5,newId,lC,hb,FB,hB,hT,hN⟩:=c
 obtain⟨D,T,x⟩:=x
 obtain⟨⟨vs,sl,he,_⟩,_,_⟩:=I.hok e _ x.ex
 obtain⟨mA,hn,r⟩:=(show ObjOk X.prog X.w H s.heap D (.xd [(a,v)]) from I.hok D _ (x.xd D rfl))
 obtain⟨od,ho,hl⟩:=lookIn_ns hn
 have ra:=r a
 rw[show List.lookup a [(a,v)]=some v by simp[List.lookup]]at ra
 obtain⟨u,hu,ru⟩:=RelO.some_of ra
 obtain⟨mN,g1,g2,g3,g4⟩:=hN _ I.kIn
 have kI:=I.kIn
 have I':=fun tk=>I.tok tk
 obtain⟨hh,g,d,t,os⟩:=s
 exact xattrT FB (kI _ _ lC) hb g1 g2 g3 g4 (hT _ kI) (.inl rfl) (.inr (.inl rfl)) (.inr (.inr rfl)) hB he ho (PySem.W.nsLook_of (by rw[hl,hu])) (PySem.W.handedOut_of (handed_of ru)) fun tk=>h u _ (I' tk) ru
def tXat2 (K:PySem.W.Frag) (ta:TE) (a:Str):TE:=fun σ H Q=>ta σ H fun x H1=>∃e C v,x = .ref e∧XAt H1 e C a v∧XAttr K C a∧Q v H1
theorem pe_xat2 {o:Expr}{ta:TE}{pos:Pos}(ha:PE X o ta) (hb:attributeBase o a X.env (eval o X.env)=eval o X.env:=by rfl):PE X (.Attribute o a pos) (tXat2 X.K ta a):=by
 intro pins s σ H Q I h
 refine attr_of hb (thn (ha pins s σ H _ I h) fun ov s1 ⟨x,H1,I1,rx,e,C,v,ex,xa,c,q⟩=>?_)
 subst ex
 obtain rfl:ov=Value.ref e:=rx
 exact xget2 I1 xa c fun u s2 I2 ru=>⟨v,H1,I2,ru,q⟩
end
def strK (es:Array DictEntry):Bool:=es.toList.all (fun e=>match e.key with | .str _ _=>true|_=>false)
theorem nsK_of {K:PySem.W.Frag}{N:Addr}{c:Value}{d:Option Addr}{es:Array DictEntry}{ep:Nat}{sl:Array (Option Value)}(l:K.lookup N=some ⟨c,d,.dict es ep,sl⟩) (h:strK es=true):nsK K N=true:=by
 unfold nsK;rw[l]
 show es.all _=true
 rw[← Array.all_toList];exact h
theorem XAttr.of {K:PySem.W.Frag}{C TE N:Addr}{a nm q:Str}{bs:List Value}{sn:List Str}{sub:List Value}{ab:Bool}{col:Option Bool}{dd ddT:Option Addr}{k0 k1 k2 k3 k5:Option Value}{newId:String}{c0:Value}{cdT:ClassData}{slT:Array (Option Value)}
  (lC:K.lookup C=some (excClassObj nm q C N bs (.ref TE::veM) true sn sub ab col dd k0 k1 k2 k3 k5 newId)) (lT:K.lookup TE=some ⟨c0,ddT,.cls cdT,slT⟩) (n1:nsK K N=true) (n2:nsK K cdT.ns=true)
  (i1:NoNs K N a) (i2:NoNs K N "__getattribute__") (i3:NoNs K N "__getattr__") (t1:NoNs K cdT.ns a) (t2:NoNs K cdT.ns "__getattribute__") (t3:NoNs K cdT.ns "__getattr__") (hB:typeLookup (.type "ValueError") a=pure none):XAttr K C a :=
 ⟨nm,q,N,bs,.ref TE::veM,veM,sn,sub,ab,col,dd,k0,k1,k2,k3,k5,newId,lC,veB,PySem.F.attrBase_ValueError,hB,fun h X=>by
  obtain⟨mT,g1,_,g3⟩:=ns_of_K n2 X
  refine .own (X _ _ lT) g1 (fun n hn=>?_) .base
  rcases hn with rfl|rfl|rfl
  ·exact g3 _ t1
  ·exact g3 _ t2
  ·exact g3 _ t3,fun h X=>by
  obtain⟨mN,g1,_,g3⟩:=ns_of_K n1 X
  exact⟨mN,g1,g3 _ i1,g3 _ i2,g3 _ i3⟩⟩
theorem ve_key:typeLookup (.type "ValueError") "key" = pure none:=by rw[typeLookup_type,builtinLookup_eq_fast];kernel_rfl
theorem ve_thing:typeLookup (.type "ValueError") "thing" = pure none:=by rw[typeLookup_type,builtinLookup_eq_fast];kernel_rfl
theorem ve_number:typeLookup (.type "ValueError") "number" = pure none:=by rw[typeLookup_type,builtinLookup_eq_fast];kernel_rfl
theorem ve_many:typeLookup (.type "ValueError") "many" = pure none:=by rw[typeLookup_type,builtinLookup_eq_fast];kernel_rfl
theorem ve_mark:typeLookup (.type "ValueError") "mark" = pure none:=by rw[typeLookup_type,builtinLookup_eq_fast];kernel_rfl
theorem ve_name:typeLookup (.type "ValueError") "name" = pure none:=by rw[typeLookup_type,builtinLookup_eq_fast];kernel_rfl
end L2
namespace PySem
open Builtin
section
variable {M:Model}{prog:Program}{w:World}{A:Around}{E:Value→Shared→Prop}{h:Heap}{g:Array GenState}{d:Drawn}{t:Nat}{os:OsState}{P:Str→Prop}
variable {nm q:Str}{C N x D:Addr}{bs bm bmB:List Value}{hdct:Bool}{sn:List Str}{sub:List Value}{ab:Bool}{col:Option Bool}{dd:Option Addr}{k0 k1 k2 k3 k5:Option Value}{B newId:String}{mN:Str→Option Value}{vs:Array Value}{sl:Array (Option Value)}{K:PySem.W.Frag}{od:Obj}
theorem ve_class:typeLookup (.type "ValueError") "__class__" = pure (some (.builtin "object.__class__")):=by rw[typeLookup_type,builtinLookup_eq_fast];kernel_rfl
theorem xclass_entry {Do:Option Addr}{oo:Option Obj}{tk:Tok}{Q:Fin→Shared→Prop}(KX:K.In h) (I:PySem.W.InstAt h x ⟨.ref C,Do,.fields vs,sl⟩ C oo) (hm:PySem.W.mroIn K C (.type "object")=some true) (hC:h.get? C=some (excClassObj nm q C N bs bm true sn sub ab col dd k0 k1 k2 k3 k5 newId)) (hN:h.Ns N mN) (hna:mN "__class__" = none) (T:TlN h bmB P bm) (hp:P "__class__") (hmro:mroOf (.type "ValueError")=pure bmB)
  (hx:h.get? x=some ⟨.ref C,Do,.fields vs,sl⟩) (hq:Q (.done (.ret (.ref C))) ⟨h,g,d,t,os⟩) :
  wpAny (model prog w) A (Builtin.«object.__getattribute__» ⟨[.ref x,.str "__class__" tk],[]⟩) Q E ⟨h,g,d,t,os⟩:=by
 have f5:=F.typeOf_object_class
 have f6:=F.slot_gs_get.lookup
 have f7:=F.slot_gs_set.lookup
 repeat (any_goals (first|assumption|with_reducible refine wpAny_loadPart_at hx ?_|with_reducible refine wpAny_loadPart_at hC ?_|(with_reducible refine typeLookN hC hN T hp hmro ve_class ?_;rw[hna])|wp_step))
 refine PySem.W.class_get (s:=⟨h,g,d,t,os⟩) KX I hm ?_
 repeat (any_goals (first|assumption|wp_step))
theorem xclassT {Do:Option Addr}{oo:Option Obj}{Q:Option Value→Shared→Prop}(FB:ExcAttrBase "ValueError" bmB) (KX:K.In h) (I:PySem.W.InstAt h x ⟨.ref C,Do,.fields vs,sl⟩ C oo) (hm:PySem.W.mroIn K C (.type "object")=some true) (hC:h.get? C=some (excClassObj nm q C N bs bm true sn sub ab col dd k0 k1 k2 k3 k5 newId)) (hb:bm.contains (.type "BaseException")=true) (hN:h.Ns N mN)
  (hna:mN "__class__" = none) (hn1:mN "__getattribute__" = none) (hn2:mN "__getattr__" = none) (T:TlN h bmB P bm) (hp:P "__class__") (hp1:P "__getattribute__") (hp2:P "__getattr__")
  (hx:h.get? x=some ⟨.ref C,Do,.fields vs,sl⟩) (hq:Q (some (.ref C)) ⟨h,g,d,t+1,os⟩):wpAny (model prog w) A (getAttr? (.ref x) "__class__") Q E ⟨h,g,d,t,os⟩:=by
 have f3:=FB.ga.bind (.ref x)
 have hx2:(Value.builtin "BaseException.__getattribute__" == Value.builtin "object.__getattribute__")=false:=by decide +kernel
 have hx1:(onTheHeap (Value.ref C) && Value.builtin "BaseException.__getattribute__" == Value.builtin "object.__getattribute__")=false:=by rw[hx2];rfl
 unfold getAttr?
 repeat (any_goals (first|assumption|with_reducible refine wpAny_loadPart_at hx ?_|(with_reducible refine typeLookN hC hN T hp1 FB.mro FB.ga.lookup ?_;rw[hn1])|(with_reducible refine typeLookN hC hN T hp2 FB.mro FB.noGetattr ?_;rw[hn2])|wp_step))
 refine codeAny_call_builtin FB.ga.plain F.entry_bexc_ga (check_gaT hC hb hx (xclass_entry KX I hm hC hN hna T hp FB.mro hx ?_))
 show wpAny _ _ (handedOut (.ref C)) _ _ _
 rw[PySem.W.handedOut_of rfl]
 exact wpAny_pure (wpAny_pure hq)
end
end PySem
namespace L2
open PySem PySem.Spec PyProof.Rows
def XKit (K:PySem.W.Frag) (C:Addr):Prop:=∃(nm q:Str) (N:Addr) (bs bm bmB:List Value) (sn:List Str) (sub:List Value) (ab:Bool) (col:Option Bool) (dd:Option Addr) (k0 k1 k2 k3 k5:Option Value) (newId:String),
 K.lookup C=some (excClassObj nm q C N bs bm true sn sub ab col dd k0 k1 k2 k3 k5 newId)∧bm.contains (.type "BaseException")=true∧ExcAttrBase "ValueError" bmB∧PySem.W.mroIn K C (.type "object")=some true ∧
 (∀h,K.In h→TlN h bmB (fun n=>n = "__class__" ∨ n = "__getattribute__" ∨ n = "__getattr__") bm)∧∀h,K.In h→∃mN,h.Ns N mN∧mN "__class__" = none∧mN "__getattribute__" = none∧mN "__getattr__" = none
theorem XKit.kit {K:PySem.W.Frag}{C e:Addr}{Do:Option Addr}{oo:Option Obj}(c:XKit K C):PySem.W.KitX K (.ref e) (.ref C) (fun h=>∃vs sl,PySem.W.InstAt h e ⟨.ref C,Do,.fields vs,sl⟩ C oo∧h.get? e=some ⟨.ref C,Do,.fields vs,sl⟩):=by
 obtain⟨nm,q,N,bs,bm,bmB,sn,sub,ab,col,dd,k0,k1,k2,k3,k5,newId,lC,hb,FB,hm,hT,hN⟩:=c
 refine⟨fun M h X ⟨vs,sl,ia,he⟩=>ia.type,fun M h X _=>?_,fun h tp dd' its n sl X htp=>?_,fun {prog w A E Q s} X ⟨vs,sl,ia,he⟩ k=>?_⟩
 ·intro A' Q' E' s' kk q
  unfold isType loadHead
  exact wpAny_bind (wpAny_loadPart (kk _ _ (X _ _ lC)) (wpAny_pure q))
 ·refine Bool.eq_false_iff.mpr fun q=>?_
  have e:C=tp:=Value.ref.inj (beq_iff_eq.mp q)
  subst e
  have z:=congrArg (fun o=>o.map Obj.cls) ((X _ _ lC).symm.trans htp)
  exact absurd z (by simp)
 ·obtain⟨mN,g1,g2,g3,g4⟩:=hN _ X
  obtain⟨hh,g,d,t,os⟩:=s
  exact xclassT FB X ia hm (X _ _ lC) hb g1 g2 g3 g4 (hT _ X) (.inl rfl) (.inr (.inl rfl)) (.inr (.inr rfl)) he k
def XAny (H:Hp) (e C:Addr):Prop:=∃D T a v,Exc H e C D T a v
theorem XAt.any {H:Hp}{e C:Addr}{a:Str}{v:V}(x:XAt H e C a v):XAny H e C:=by obtain⟨D,T,x⟩:=x;exact⟨_,_,_,_,x⟩
theorem XAt0.any {H:Hp}{e C:Addr}(x:XAt0 H e C):XAny H e C:=by obtain⟨T,a,v,x⟩:=x;exact⟨_,_,_,_,x⟩
section
variable {X:Cx}
theorem XAny.inst {pins:List (Addr×Obj)}{σ:St}{H:Hp}{s:Shared}{e C:Addr}(I:Inv X pins σ H s) (x:XAny H e C):∃Do oo vs sl,PySem.W.InstAt s.heap e ⟨.ref C,Do,.fields vs,sl⟩ C oo∧s.heap.get? e=some ⟨.ref C,Do,.fields vs,sl⟩:=by
 obtain⟨D,T,a,v,x⟩:=x
 obtain⟨⟨vs,sl,he,_⟩,_,_⟩:=I.hok e _ x.ex
 cases D with
 | none=>exact⟨none,none,vs,sl,⟨he,rfl,rfl,trivial⟩,he⟩
 | some D =>
  obtain⟨mA,hn,_⟩:=(show ObjOk X.prog X.w H s.heap D (.xd [(a,v)]) from I.hok D _ (x.xd D rfl))
  obtain⟨od,ho,_⟩:=lookIn_ns hn
  exact⟨some D,some od,vs,sl,⟨he,rfl,rfl,ho⟩,he⟩
def rIsiE (K:PySem.W.Frag):List V→Hp→VK→Prop:=fun xs H Q=>∃e C c cv b,xs=[.ref e,c]∧(∀u,RelV c u→u=cv)∧XAny H e C∧XKit K C∧PySem.W.kitOne K (.ref C) cv=some b∧Q (.bl b) H
theorem call_isiE:CallR X (.builtin "isinstance") (rIsiE X.K):=by
 intro pins s σ H xs us Q I r h
 obtain⟨e,C,c,cv,b,rfl,hc,x,cl,hk,q⟩:=h
 obtain⟨u,w',rfl,r1,r2⟩:=vals2 r
 cases (show u=Value.ref e from r1)
 cases hc w' r2
 obtain⟨Do,oo,vs,sl,ia,he⟩:=x.inst I
 exact PySem.W.kia_one (cl.kit (Do:=Do) (oo:=oo)) I.kIn ⟨vs,sl,ia,he⟩ hk (fun z=>nomatch z) fun tk=>⟨.bl b,H,I.tok _,rfl,q⟩
end
end L2
namespace L2
open PySem PySem.Spec PyProof.Rows
section
variable {X:Cx}
end
theorem XKit.of {K:PySem.W.Frag}{C TE N:Addr}{nm q:Str}{bs:List Value}{sn:List Str}{sub:List Value}{ab:Bool}{col:Option Bool}{dd ddT:Option Addr}{k0 k1 k2 k3 k5:Option Value}{newId:String}{c0:Value}{cdT:ClassData}{slT:Array (Option Value)}
  (lC:K.lookup C=some (excClassObj nm q C N bs (.ref TE::veM) true sn sub ab col dd k0 k1 k2 k3 k5 newId)) (lT:K.lookup TE=some ⟨c0,ddT,.cls cdT,slT⟩) (n1:nsK K N=true) (n2:nsK K cdT.ns=true) (hm:PySem.W.mroIn K C (.type "object")=some true)
  (i1:NoNs K N "__class__") (i2:NoNs K N "__getattribute__") (i3:NoNs K N "__getattr__") (t1:NoNs K cdT.ns "__class__") (t2:NoNs K cdT.ns "__getattribute__") (t3:NoNs K cdT.ns "__getattr__"):XKit K C :=
 ⟨nm,q,N,bs,.ref TE::veM,veM,sn,sub,ab,col,dd,k0,k1,k2,k3,k5,newId,lC,veB,PySem.F.attrBase_ValueError,hm,fun h X=>by
  obtain⟨mT,g1,_,g3⟩:=ns_of_K n2 X
  refine .own (X _ _ lT) g1 (fun n hn=>?_) .base
  rcases hn with rfl|rfl|rfl
  ·exact g3 _ t1
  ·exact g3 _ t2
  ·exact g3 _ t3,fun h X=>by
  obtain⟨mN,g1,_,g3⟩:=ns_of_K n1 X
  exact⟨mN,g1,g3 _ i1,g3 _ i2,g3 _ i3⟩⟩
end L2
namespace L2
open PySem PySem.Spec PyProof.Rows
structure XTxt (K:PySem.W.Frag) (mg:Str→Option Value) (x:Str) (C TE:Addr) (a:Str):Prop where
 mg:mg x=some (.ref C)
 nm:PySem.W.nsIn K mainGlobals x=some (some (.ref C))
 cls:XCls K C a
 at_:XAttr K C a
 kit:XKit K C
 xc:XC K C (.ref TE::veM)
structure GaX (K:PySem.W.Frag) (x:Str) (C TE:Addr) (a:Str):Prop where
 ex:∃(N fI:Addr) (nm q name qual:Str) (bs:List Value) (sn:List Str) (sub:List Value) (ab:Bool) (col:Option Bool) (dd ddT d1 d2:Option Addr) (k0 k1 k2 k3 k5:Option Value) (c0 c1 c2:Value) (cdT:ClassData) (slT sl1 sl2:Array (Option Value)) (es1 es2:Array DictEntry) (ep1 ep2:Nat)
   (params:Arguments) (scope:Scope) (dV kV doc pm cdv ct:Value) (an od:Option Addr) (osl:Array (Option Value)) (p1 p2 p3 p4:Pos),
  PySem.W.nsIn K mainGlobals x=some (some (.ref C))∧K.lookup C=some (excClassObj nm q C N bs (.ref TE::veM) true sn sub ab col dd k0 k1 k2 k3 k5 "ValueError.__new__")∧K.lookup TE=some ⟨c0,ddT,.cls cdT,slT⟩∧K.lookup N=some ⟨c1,d1,.dict es1 ep1,sl1⟩∧strK es1=true∧K.lookup cdT.ns=some ⟨c2,d2,.dict es2 ep2,sl2⟩∧strK es2=true ∧
  PySem.W.nsIn K N "__init__" = some (some (.ref fI))∧(NoNs K N "__setattr__"∧NoNs K N a∧NoNs K N "__getattribute__"∧NoNs K N "__getattr__"∧NoNs K N "__class__")∧(NoNs K cdT.ns "__init__"∧NoNs K cdT.ns "__setattr__"∧NoNs K cdT.ns a∧NoNs K cdT.ns "__getattribute__"∧NoNs K cdT.ns "__getattr__"∧NoNs K cdT.ns "__class__") ∧
  PySem.W.mroIn K C (.type "object")=some true∧typeLookup (.type "ValueError") a=pure none ∧
  K.lookup fI=some ⟨.type "function",od,.func (PySem.W.fnOf name qual params [.Assign [.Attribute (.Name "self" p1) a p2] (.Name a p3) p4] scope dV kV doc pm an cdv ct),osl⟩∧PySem.W.codeIn K cdv qual=true ∧
  FnScope ["self",a] ["self",a] scope∧(∀env,swapsWith (.Name a p3) (some (.Attribute (.Name "self" p1) a p2)) p4.line env=pure false)∧scope.names.lookup ("self" : Str)=some .local∧scope.names.lookup a=some .local∧a ≠ "self"∧(a ==("__debug__" : Str))=false ∧
  ∀s e u,BindsTo s (PySem.W.fnOf name qual params [.Assign [.Attribute (.Name "self" p1) a p2] (.Name a p3) p4] scope dV kV doc pm an cdv ct) ⟨[.ref e,u],[]⟩ [("self",.ref e),(a,u)]
theorem GaX.txt {K:PySem.W.Frag}{mg:Str→Option Value}{x a:Str}{C TE:Addr}{h:Heap}(g:GaX K x C TE a) (X:K.In h) (G:h.Ns mainGlobals mg):XTxt K mg x C TE a:=by
 obtain⟨N,fI,nm,q,name,qual,bs,sn,sub,ab,col,dd,ddT,d1,d2,k0,k1,k2,k3,k5,c0,c1,c2,cdT,slT,sl1,sl2,es1,es2,ep1,ep2,params,scope,dV,kV,doc,pm,cdv,ct,an,od,osl,p1,p2,p3,p4,aC,lC,lT,l1,n1,l2,n2,i0,⟨i1,i2,i3,i4,i5⟩,⟨t0,t1,t2,t3,t4,t5⟩,hm,hB,lf,hcd,S,hsw,s1,s2,hne,hdb,hbd⟩:=g.ex
 have m1:=nsK_of l1 n1
 have m2:=nsK_of l2 n2
 obtain⟨r1,r2⟩:=XCls.mk' PySem.F.excBase_ValueError lC lT m1 m2 i0 i1 i2 t0 t1 t2 hB lf hcd S hsw s1 s2 hne hdb hbd
 exact⟨PySem.W.mg_of X G aC,aC,r1,XAttr.of lC lT m1 m2 i2 i3 i4 t2 t3 t4 hB,XKit.of lC lT m1 m2 hm i5 i3 i4 t5 t3 t4,r2⟩
structure XTxt0 (K:PySem.W.Frag) (mg:Str→Option Value) (x:Str) (C TE:Addr):Prop where
 mg:mg x=some (.ref C)
 nm:PySem.W.nsIn K mainGlobals x=some (some (.ref C))
 cls:XPl K C
 kit:XKit K C
 xc:XC K C (.ref TE::veM)
def GaX0 (K:PySem.W.Frag) (x:Str) (C TE:Addr):Prop:=PySem.W.nsIn K mainGlobals x=some (some (.ref C))∧XPl K C∧XKit K C∧XC K C (.ref TE::veM)
theorem GaX0.mk' {K:PySem.W.Frag}{x:Str}{C TE N:Addr}{nm q:Str}{bs:List Value}{sn:List Str}{sub:List Value}{ab:Bool}{col:Option Bool}{dd ddT d1 d2:Option Addr}{k0 k1 k2 k3 k5:Option Value}{c0 c1 c2:Value}{cdT:ClassData}{slT sl1 sl2:Array (Option Value)}{es1 es2:Array DictEntry}{ep1 ep2:Nat}
  (aC:PySem.W.nsIn K mainGlobals x=some (some (.ref C))) (lC:K.lookup C=some (excClassObj nm q C N bs (.ref TE::veM) true sn sub ab col dd k0 k1 k2 k3 k5 "ValueError.__new__")) (lT:K.lookup TE=some ⟨c0,ddT,.cls cdT,slT⟩) (l1:K.lookup N=some ⟨c1,d1,.dict es1 ep1,sl1⟩) (n1:strK es1=true) (l2:K.lookup cdT.ns=some ⟨c2,d2,.dict es2 ep2,sl2⟩) (n2:strK es2=true)
  (i0:PySem.W.nsIn K N "__init__" = some none) (i3:PySem.W.nsIn K N "__getattribute__" = some none) (i4:PySem.W.nsIn K N "__getattr__" = some none) (i5:PySem.W.nsIn K N "__class__" = some none)
  (t0:PySem.W.nsIn K cdT.ns "__init__" = some none) (t3:PySem.W.nsIn K cdT.ns "__getattribute__" = some none) (t4:PySem.W.nsIn K cdT.ns "__getattr__" = some none) (t5:PySem.W.nsIn K cdT.ns "__class__" = some none)
  (hm:PySem.W.mroIn K C (.type "object")=some true):GaX0 K x C TE:=by
 have m1:=nsK_of l1 n1
 have m2:=nsK_of l2 n2
 refine⟨aC,⟨nm,q,N,bs,.ref TE::veM,veM,sn,sub,ab,col,dd,k0,k1,k2,k3,k5,_,_,PySem.F.excBase_ValueError,veB,lC,fun h X=>?_,fun h X=>?_⟩,XKit.of lC lT m1 m2 hm i5 i3 i4 t5 t3 t4,nm,q,N,bs,true,sn,sub,ab,col,dd,k0,k1,k2,k3,k5,_,lC,veB⟩
 ·obtain⟨mT,g1,_,g3⟩:=ns_of_K m2 X
  exact(TlN.own (P:=fun n=>n = "__init__") (X _ _ lT) g1 (fun n hn=>by subst hn;exact g3 _ t0) .base).tail rfl
 ·obtain⟨mN,g1,_,g3⟩:=ns_of_K m1 X
  exact⟨mN,g1,g3 _ i0⟩
theorem GaX0.txt {K:PySem.W.Frag}{mg:Str→Option Value}{x:Str}{C TE:Addr}{h:Heap}(g:GaX0 K x C TE) (X:K.In h) (G:h.Ns mainGlobals mg):XTxt0 K mg x C TE:=⟨PySem.W.mg_of X G g.1,g.1,g.2.1,g.2.2.1,g.2.2.2⟩
theorem und_self {K:PySem.W.Frag}{C:Addr}{bm:List Value}(x:XC K C bm):Und K C C:=⟨bm,bm,x,x,by rw[List.contains_cons];simp⟩
theorem und_tail {K:PySem.W.Frag}{C TE:Addr}{r bm':List Value}(x:XC K C (.ref TE::r)) (y:XC K TE bm'):Und K C TE:=⟨_,bm',x,y,by rw[List.contains_cons,List.contains_cons];simp⟩
theorem exc_bm {nm q nm' q':Str}{C N C' N':Addr}{bs bm bs' bm':List Value}{hdct hdct':Bool}{sn sn':List Str}{sub sub':List Value}{ab ab':Bool}{col col':Option Bool}{dd dd':Option Addr}{k0 k1 k2 k3 k5 k0' k1' k2' k3' k5':Option Value}{newId newId':String}(h:excClassObj nm q C N bs bm hdct sn sub ab col dd k0 k1 k2 k3 k5 newId=excClassObj nm' q' C' N' bs' bm' hdct' sn' sub' ab' col' dd' k0' k1' k2' k3' k5' newId'):Value.ref C::bm=Value.ref C'::bm' :=
 congrArg (fun o:Obj=>match o.data with | .cls cd=>cd.mro|_=>[]) h
theorem XC.uniq {K:PySem.W.Frag}{C:Addr}{bm bm':List Value}(x:XC K C bm) (y:XC K C bm'):bm=bm':=by
 obtain⟨nm,q,N,bs,hdct,sn,sub,ab,col,dd,k0,k1,k2,k3,k5,newId,l,_⟩:=x
 obtain⟨nm',q',N',bs',hdct',sn',sub',ab',col',dd',k0',k1',k2',k3',k5',newId',l',_⟩:=y
 exact(List.cons.inj (exc_bm (Option.some.inj (l.symm.trans l')))).2
theorem und_not {K:PySem.W.Frag}{C C' TE:Addr}(x:XC K C (.ref TE::veM)) (y:XC K C' (.ref TE::veM)) (t:XC K TE veM) (n:C≠C'):UndN K C C':=by
 have nt:TE≠C':=fun e=>by
  subst e
  have:=congrArg List.length (t.uniq y)
  simp at this
 refine⟨_,_,x,y,?_⟩
 rw[List.contains_cons,List.contains_cons,show veM.contains (.ref C')=false by simp[veM,List.contains_cons]]
 have h1:(Value.ref C' == Value.ref C)=false:=beq_eq_false_iff_ne.mpr fun z=>n (Value.ref.inj z).symm
 have h2:(Value.ref C' == Value.ref TE)=false:=beq_eq_false_iff_ne.mpr fun z=>nt (Value.ref.inj z).symm
 rw[h1,h2];rfl
end L2
namespace L2
open PySem PySem.Spec PyProof.Rows
theorem bt_ValueError:bootBuiltins "ValueError" = some (.type "ValueError"):=by decide +kernel
structure XTop (K:PySem.W.Frag) (mg:Str→Option Value) (TE:Addr):Prop where
 mg:mg "TailError" = some (.ref TE)
 xc:XC K TE veM
def GaT (K:PySem.W.Frag) (TE:Addr):Prop:=PySem.W.nsIn K mainGlobals "TailError" = some (some (.ref TE))∧XC K TE veM
theorem GaT.mk {K:PySem.W.Frag}{TE N:Addr}{nm q:Str}{bs:List Value}{hdct:Bool}{sn:List Str}{sub:List Value}{ab:Bool}{col:Option Bool}{dd:Option Addr}{k0 k1 k2 k3 k5:Option Value}{newId:String}
  (a:PySem.W.nsIn K mainGlobals "TailError" = some (some (.ref TE))) (l:K.lookup TE=some (excClassObj nm q TE N bs veM hdct sn sub ab col dd k0 k1 k2 k3 k5 newId)):GaT K TE :=
 ⟨a,nm,q,N,bs,hdct,sn,sub,ab,col,dd,k0,k1,k2,k3,k5,newId,l,by decide +kernel⟩
theorem GaT.txt {K:PySem.W.Frag}{mg:Str→Option Value}{TE:Addr}{h:Heap}(g:GaT K TE) (X:K.In h) (G:h.Ns mainGlobals mg):XTop K mg TE:=⟨PySem.W.mg_of X G g.1,g.2⟩
theorem GaX.mk' {K:PySem.W.Frag}{x a:Str}{C TE N fI:Addr}{nm q qual:Str}{bs:List Value}{sn:List Str}{sub:List Value}{ab:Bool}{col:Option Bool}{dd ddT d1 d2:Option Addr}{k0 k1 k2 k3 k5:Option Value}{c0 c1 c2:Value}{cdT:ClassData}{slT sl1 sl2:Array (Option Value)}{es1 es2:Array DictEntry}{ep1 ep2:Nat}
  {st:Stmt}{kV doc pm cdv ct:Value}{an od:Option Addr}{osl:Array (Option Value)}{p1 p2 p3 p4:Pos}
  (aC:PySem.W.nsIn K mainGlobals x=some (some (.ref C))) (lC:K.lookup C=some (excClassObj nm q C N bs (.ref TE::veM) true sn sub ab col dd k0 k1 k2 k3 k5 "ValueError.__new__")) (lT:K.lookup TE=some ⟨c0,ddT,.cls cdT,slT⟩) (l1:K.lookup N=some ⟨c1,d1,.dict es1 ep1,sl1⟩) (n1:strK es1=true) (l2:K.lookup cdT.ns=some ⟨c2,d2,.dict es2 ep2,sl2⟩) (n2:strK es2=true)
  (i0:PySem.W.nsIn K N "__init__" = some (some (.ref fI))) (i1:PySem.W.nsIn K N "__setattr__" = some none) (i2:PySem.W.nsIn K N a=some none) (i3:PySem.W.nsIn K N "__getattribute__" = some none) (i4:PySem.W.nsIn K N "__getattr__" = some none) (i5:PySem.W.nsIn K N "__class__" = some none)
  (t0:PySem.W.nsIn K cdT.ns "__init__" = some none) (t1:PySem.W.nsIn K cdT.ns "__setattr__" = some none) (t2:PySem.W.nsIn K cdT.ns a=some none) (t3:PySem.W.nsIn K cdT.ns "__getattribute__" = some none) (t4:PySem.W.nsIn K cdT.ns "__getattr__" = some none) (t5:PySem.W.nsIn K cdT.ns "__class__" = some none)
  (hm:PySem.W.mroIn K C (.type "object")=some true)
  (lf:K.lookup fI=some ⟨.type "function",od,.func (PySem.W.fnOf "__init__" qual (defArgs st) (defBody st) (defScope st) .none kV doc pm an cdv ct),osl⟩) (hcd:PySem.W.codeIn K cdv qual=true)
  (hB:typeLookup (.type "ValueError") a=pure none) (hb:defBody st=[.Assign [.Attribute (.Name "self" p1) a p2] (.Name a p3) p4]) (S:FnScope ["self",a] ["self",a] (defScope st)) (hsw:∀env,swapsWith (.Name a p3) (some (.Attribute (.Name "self" p1) a p2)) p4.line env=pure false) (s1:(defScope st).names.lookup ("self" : Str)=some .local) (s2:(defScope st).names.lookup a=some .local) (hne:a ≠ "self") (hdb:(a ==("__debug__" : Str))=false)
  (hbd:∀(name qual:Str) (b:List Stmt) (kV doc pm cdv ct:Value) (an:Option Addr) s e u,BindsTo s (PySem.W.fnOf name qual (defArgs st) b (defScope st) .none kV doc pm an cdv ct) ⟨[.ref e,u],[]⟩ [("self",.ref e),(a,u)]):GaX K x C TE a:=by
 refine⟨N,fI,nm,q, "__init__",qual,bs,sn,sub,ab,col,dd,ddT,d1,d2,k0,k1,k2,k3,k5,c0,c1,c2,cdT,slT,sl1,sl2,es1,es2,ep1,ep2,defArgs st,defScope st,.none,kV,doc,pm,cdv,ct,an,od,osl,p1,p2,p3,p4,aC,lC,lT,l1,n1,l2,n2,i0,⟨i1,i2,i3,i4,i5⟩,⟨t0,t1,t2,t3,t4,t5⟩,hm,hB,?_,hcd,S,hsw,s1,s2,hne,hdb,fun s e u=>hbd _ _ _ _ _ _ _ _ _ s e u⟩
 rw[lf,hb]
theorem pe_xat {X:Cx}{K:PySem.W.Frag}{a:Str}{o:Expr}{ta:TE}{pos:Pos}(hK:X.K=K) (ha:PE X o ta) (hb:attributeBase o a X.env (eval o X.env)=eval o X.env):PE X (.Attribute o a pos) (tXat2 K ta a):=by
 subst hK;exact pe_xat2 ha hb
theorem call_isiEK {X:Cx}{K:PySem.W.Frag}(hK:X.K=K):CallR X (.builtin "isinstance") (rIsiE K):=by subst hK;exact call_isiE
section
variable {σ:St}{H:Hp}{Q:VK}{D:Ends}
theorem rd_xat {K:PySem.W.Frag}{ta:TE}{a:Str}(h:ta σ H fun x H1=>∃e C v,x = .ref e∧XAt H1 e C a v∧XAttr K C a∧Q v H1):tXat2 K ta a σ H Q:=h
end
end L2
namespace L2
open PySem PySem.Spec PyProof.Rows
theorem Exc.same {H H':Hp}{e C:Addr}{D T:Option Addr}{a:Str}{v:V}(x:Exc H e C D T a v) (s:∀b o,H b=some o→H' b=some o):Exc H' e C D T a v:=⟨s _ _ x.ex,fun d q=>s _ _ (x.xd d q),fun t q=>⟨s _ _ (x.tb t q).1,(x.tb t q).2⟩⟩
theorem XAt.same {H H':Hp}{e C:Addr}{a:Str}{v:V}(x:XAt H e C a v) (s:∀b o,H b=some o→H' b=some o):XAt H' e C a v:=by
 obtain⟨D,T,x⟩:=x
 exact⟨D,T,x.same s⟩
theorem XAny.same {H H':Hp}{e C:Addr}(x:XAny H e C) (s:∀b o,H b=some o→H' b=some o):XAny H' e C:=by
 obtain⟨D,T,a,v,x⟩:=x
 exact⟨D,T,a,v,x.same s⟩
theorem rd_isiE {K:PySem.W.Frag}{H:Hp}{Q:VK}{e C:Addr}{c:V}{cv:Value}{b:Bool}(x:XAny H e C) (k:XKit K C) (hc:∀u,RelV c u→u=cv) (h:PySem.W.kitOne K (.ref C) cv=some b) (q:Q (.bl b) H):rIsiE K [.ref e,c] H Q:=⟨e,C,c,cv,b,rfl,hc,x,k,h,q⟩
end L2
namespace L2
open PySem PySem.Spec PyProof.Rows
section
variable {prog:Program}{w:World}{A:Around}{R:Result→Shared→Prop}{s:Shared}
end
section
variable {X:Cx}{pins:List (Addr×Obj)}{σ:St}{H:Hp}{s:Shared}{scope:Scope}{vs fs:List Str}{js:List Nat}
end
end L2
namespace L2
open PySem PySem.Spec PyProof.Rows
structure RoomS (k:Nat) (A:Around):Prop where
 dp:A.depth+3*k+5<recursionLimit
 un:A.units+16*k+200<cLine
 gd:A.guards=some []
theorem Room.s {k:Nat}{A:Around}(r:Room k A):RoomS k A:=⟨r.dp,r.un,r.gd⟩
theorem RoomS.deeper {k:Nat}{A:Around}(r:RoomS (k+1) A) (env:Env):RoomS k (A.deeper env) :=
 ⟨by have:=r.dp;show A.depth+1+3*k+5<_;omega,by have:=r.un;show A.units+3+16*k+200<_;omega,guards_deeper r.gd⟩
theorem RoomS.depth {k:Nat}{A:Around}(r:RoomS k A):A.depth<recursionLimit:=by have:=r.dp;omega
theorem Room.mark {k:Nat}{A:Around}(r:Room k A) (h:Option Value):RoomS k (A.mark h):=⟨r.dp,r.un,r.gd⟩
structure FnOkS (P:Program) (w:World) (K:PySem.W.Frag) (mg:Str→Option Value) (base:Heap) (CX:CXT) (k:Nat) (f:Addr) (fd:FuncData) (ps:List Str) (sp:Sp):Prop where
 len:∀vs H Q E,sp vs H Q E→vs.length=ps.length
 run:∀(A:Around) (outer:List Env) (s:Shared) (H:Hp) (args:Args) (us:List Value) (vs:List V) (Q:VK) (E:XK),RoomS k A→Env0 P w K mg base A outer s H→BindsTo s fd args (ps.zip us)→Vals vs us→sp vs H Q E →
  codeAny (model P w) A (.call (.ref f) args) (CR CX outer P w H s Q E) s
theorem FnOkS.ok {P:Program}{w:World}{K:PySem.W.Frag}{mg:Str→Option Value}{base:Heap}{CX:CXT}{k:Nat}{f:Addr}{fd:FuncData}{ps:List Str}{sp:Sp}(F:FnOkS P w K mg base CX k f fd ps sp):FnOk P w K mg base CX k f fd ps sp :=
 ⟨F.len,fun A outer s H args us vs Q E hr=>F.run A outer s H args us vs Q E hr.s⟩
def cxOfS (CX:CXT) (P:Program) (w:World) (K:PySem.W.Frag) (mg:Str→Option Value) (base:Heap) (N:List Str) (qual:Str) (scope:Scope) (f:Addr) (cd:Value) (A:Around) (outer:List Env) (s:Shared) (H:Hp) (E:XK):Cx :=
 { cxOf CX P w K mg base N qual scope f cd A outer s H E with calm:=false }
theorem inv_startS {CX:CXT}{P:Program}{w:World}{K:PySem.W.Frag}{mg:Str→Option Value}{base:Heap}{N ps:List Str}{qual:Str}{scope:Scope}{f:Addr}{cd:Value}{A:Around}{outer:List Env}{s s1:Shared}{H:Hp}{E:XK}{us:List Value}{vs:List V}
  (S:FnScope N ps scope) (e0:Env0 P w K mg base A outer s H) (hl:vs.length=ps.length) (r:Vals vs us)
  (x:InCallC s s.heap.objs.size (bindL (envOfC qual scope s.heap.objs.size f cd).kindOf (ps.zip us) fun _=>none) (cellsFrom (s.heap.objs.size+1) scope.names []) (bindC (envOfC qual scope s.heap.objs.size f cd).kindOf (ps.zip us) fun _=>none) s1) :
  Inv (cxOfS CX P w K mg base N qual scope f cd A outer s H E) [] (start N vs) H s1:=by
 have hpl:ps.length≤N.length:=by have:=congrArg List.length S.pre;rw[List.length_take]at this;omega
 obtain⟨h1,tk,rfl,hk⟩:=x.done
 have noA:∀b:Addr,b∉(cxOfS CX P w K mg base N qual scope f cd A outer s H E).ex:=fun b z=>absurd (show b∈([]:List Addr) from z) (by simp)
 refine⟨⟨e0.mod,S.kind,rfl,rfl,Nat.le_refl _,fun y z c h1 h2=>?_,fun y hy=>?_,fun y c _ h=>?_,(fun z=>by cases z),Around.frames_deeper e0.frames,.inr ⟨rfl,rfl⟩,fun b z=>absurd z (noA b),e0.bs,e0.bsz,fun b _ _=>noA b,fun b z=>absurd z (noA b),e0.funs,e0.frf⟩,
  rfl,e0.bare,Un.kept hk,⟨_,x.toInCall.ns,fun i y v h1 h2 h3=>?_⟩,fun y c h=>⟨_,x.cell y c h⟩,e0.hok.fresh (Nat.le_refl _),fun y c h=>?_,fun p hp=>absurd (show p∈([]:List (Addr×Obj)) from hp) (by simp),e0.hok.kept hk,?_⟩
 ·exact name_of_addr x.apart (PySem.mem_of_lookup h1) (PySem.mem_of_lookup h2)
 ·have hy:scope.names.lookup y=some .cell∨scope.names.lookup y=some .free:=hy
  rcases hy with hy|hy
  ·exact cell_has hy
  ·exact absurd rfl (S.nofree _ (PySem.mem_of_lookup hy))
 ·exact Nat.le_of_lt (x.above y c (PySem.mem_of_lookup h))
 ·have hi:i<vs.length:=by
   unfold start at h2
   by_cases hi:i<vs.length
   ·exact hi
   ·rw[List.getElem?_append_right (by simpa using hi)]at h2
    rw[List.getElem?_replicate]at h2
    split at h2 <;> cases h2
  have ha:vs[i]? = some v:=by
   unfold start at h2
   rw[List.getElem?_append_left (by simpa using hi),List.getElem?_map]at h2
   cases e:vs[i]? with
   | none=>rw[e]at h2;cases h2
   | some a=>rw[e]at h2;cases h2;rfl
  obtain⟨u,hu,rv⟩:=r.get ha
  have hp:ps[i]? = some y:=by
   rw[← S.pre,List.getElem?_take_of_lt (by omega)];exact h1
  have ndP:ps.Nodup:=by rw[← S.pre];exact S.nd.sublist (List.take_sublist _ _)
  refine⟨u,rv,?_⟩
  rcases S.par y (List.mem_of_getElem? hp) with k|k
  ·exact .inl ⟨k,bindL_get ndP hp hu k⟩
  ·obtain⟨c,e⟩:=cell_has (n:=s.heap.objs.size+1) k
   refine .inr ⟨.inl k,c,e,?_⟩
   have q:=x.cell y c e
   rw[bindC_get ndP hp hu (by show scope.names.lookup y≠_;rw[k];decide)]at q
   exact q
 ·exact e0.hok.fresh (Nat.le_of_lt (x.above y c (PySem.mem_of_lookup h)))
 ·unfold start
  show _=N.length
  rw[List.length_append,List.length_map,List.length_replicate]
  omega
theorem fn_ofS {CX:CXT}{P:Program}{w:World}{K:PySem.W.Frag}{mg:Str→Option Value}{base:Heap}{k:Nat}{f:Addr}{name qual:Str}{params:Arguments}{body:List Stmt}{scope:Scope}{dV kV doc pm cdv ct oc:Value}{an od:Option Addr}
  {osl:Array (Option Value)}{N ps:List Str}{sp:Sp}(lk:K.lookup f=some ⟨oc,od,.func (PySem.W.fnOf name qual params body scope dV kV doc pm an cdv ct),osl⟩) (hcd:PySem.W.codeIn K cdv qual=true) (S:FnScope N ps scope)
  (len:∀vs H Q E,sp vs H Q E→vs.length=ps.length)
  (hbody:∀(A:Around) (outer:List Env) (s:Shared) (H:Hp) (vs:List V) (Q:VK) (E:XK),RoomS k (A.deeper (envOfC qual scope s.heap.objs.size f cdv))→sp vs H Q E →
   ∃t,PSs (cxOfS CX P w K mg base N qual scope f cdv A outer s H E) body t∧t { nx:=fun _ H'=>Q .non H',rt:=Q } (start N vs) H) :
  FnOkS P w K mg base CX (k+1) f (PySem.W.fnOf name qual params body scope dV kV doc pm an cdv ct) ps sp:=by
 refine⟨len,fun A outer s H args us vs Q E hr e0 hb r hsp=>?_⟩
 have hl:=len _ _ _ _ hsp
 have KX:K.In s.heap:=e0.mod.kin.keeps fun b o e=>(e0.bs b o e).1
 have lim:s.heap.NoLimit:=e0.mod.nolimit.keeps fun b o e=>(e0.bs b o e).1
 have hkind:∀y∈ps.zip us,scope.names.lookup y.1=some .local ∨(scope.names.lookup y.1=some .cell∧((cellsFrom (s.heap.objs.size+1) scope.names []).lookup y.1).isSome=true):=fun⟨n,v⟩ hy=>by
  rcases S.par n (List.of_mem_zip hy).1 with q|q
  ·exact .inl q
  ·exact .inr ⟨q,PySem.W.cellsFrom_some _ _ _ (.inl q)⟩
 refine codeAny_call_function hr.depth (KX _ _ lk) rfl S.co S.gen rfl (PySem.W.codeRec_of KX hcd) (hb _ _ _ _ ?_)
 refine wpAny_newFunctionEnv_cells S.kind hkind fun env he s1 x=>?_
 subst he
 refine⟨lim.keeps x.toInCall.keep,codeAny_func ?_⟩
 obtain⟨t,ht,hq⟩:=hbody A outer s H vs Q E (hr.deeper _) hsp
 have I:Inv (cxOfS CX P w K mg base N qual scope f cdv A outer s H E) [] (start N vs) H s1:=inv_startS S e0 hl r x
 refine wpAny_mono (ht [] s1 (start N vs) H _ I hq) (fun fl s' hs=>?_) fun e s' hs=>hs
 have fin:∀{σ':St}{H':Hp}{v:V}{u:Value},Inv (cxOfS CX P w K mg base N qual scope f cdv A outer s H E) [] σ' H' s'→RelV v u→Q v H'→CE outer P w H s Q u s' :=
  fun {σ' H' v u} J rv q=>⟨v,H',J.os,J.bare,J.base,J.hok,rv,q⟩
 cases fl with
 | ret u =>
  obtain⟨v,σ',H',J,rv,q⟩:=hs
  exact fin J rv q
 | next =>
  obtain⟨σ',H',J,q⟩:=hs
  exact fin (v:=V.non) (u:=Value.none) J rfl q
 | brk =>
  obtain⟨_,_,_,q⟩:=hs
  exact False.elim q
 | cont =>
  obtain⟨_,_,_,q⟩:=hs
  exact False.elim q
structure CalS (P:Program) (w:World) (K:PySem.W.Frag) (mg:Str→Option Value) (base:Heap) (x:Str) (ps:List Str) (k:Nat) (sp:Sp):Prop where
 ex:∃(f:Addr) (fd:FuncData),FnOkS P w K mg base CX0 k f fd ps sp∧Binds K fd ps []∧mg x=some (.ref f)∧PySem.W.keepIn K (.ref f)=true
theorem CalS.cal {P:Program}{w:World}{K:PySem.W.Frag}{mg:Str→Option Value}{base:Heap}{x:Str}{ps:List Str}{k:Nat}{sp:Sp}(C:CalS P w K mg base x ps k sp):Cal P w K mg base x ps k sp:=by
 obtain⟨f,fd,F,h⟩:=C.ex
 exact⟨f,fd,F.ok,h⟩
section
variable {X:Cx}{x:Str}{ps:List Str}{k:Nat}{sp:Sp}{e:Expr}{es:List Expr}{t:TA}{p pos:Pos}
theorem pclS (C:CalS X.prog X.w X.K X.mg X.base x ps k sp) (hr:RoomS k X.A) (ha:PA X (e::es) t) (hg:Gl X x:=by rfl) (hdb:(x ==("__debug__" : Str))=false:=by decide) (he:starEach (e::es) X.env =(false,eval e X.env)::starEach es X.env:=by rfl) (hpl:(backTo pos (starEach es X.env)).any (·.1)=false:=by rfl) :
  PE X (.Call (.Name x p) (e::es) [] pos) (tCall sp [] E0 t):=by
 obtain⟨f,fd,F,hb,hm,hk⟩:=C.ex
 intro pins s σ H Q I h
 refine wpAny_Call_Name_kw (ld_glob I hg hm ?_ hdb)
 refine PySem.W.callWith_K (h₀:=X.base) I.ok.mod.kin hk (thn (ha pos pins s σ H _ I h) fun us s1 ⟨vs,H1,I1,r,q⟩=>⟨I1.kIn,?_⟩) he hpl
 have q:sp (vs ++ []) H1 Q E0:=q
 rw[List.append_nil]at q
 have hl:us.length=ps.length:=by rw[← r.length];exact F.len _ _ _ _ q
 refine wpAny_call (codeAny_mono (F.run X.A X.stack s1 H1 ⟨us,[]⟩ us vs Q E0 hr I1.env0 (by have:=hb s1 us I1.kIn (by rw[List.append_nil];exact hl);rw[List.append_nil]at this;exact this) r q) fun r s' hq=>?_)
 cases r with
 | error e=>exact hq.elim
 | ok fl =>
  cases fl with
  | ret u=>exact I1.after hq
  | next=>exact False.elim hq
  | brk=>exact False.elim hq
  | cont=>exact False.elim hq
end
theorem CalS.of {P:Program}{w:World}{K:PySem.W.Frag}{mg:Str→Option Value}{base:Heap}{x:Str}{st:Stmt}{f:Addr}{fd:FuncData}{N ps:List Str}{k:Nat}{sp:Sp}(F:Fun K x x st f fd) (mF:mg x=some (.ref f)) (bF:Binds K fd ps []) (S:FnScope N ps (defScope st)) (len:∀vs H Q E,sp vs H Q E→vs.length=ps.length)
  (hbody:∀(cdv:Value) (A:Around) (outer:List Env) (s:Shared) (H:Hp) (vs:List V) (Q:VK) (E:XK),RoomS k (A.deeper (envOfC x (defScope st) s.heap.objs.size f cdv))→sp vs H Q E →
   ∃t,PSs (cxOfS CX0 P w K mg base N x (defScope st) f cdv A outer s H E).nox (defBody st) t∧t { nx:=fun _ H'=>Q .non H',rt:=Q } (start N vs) H):CalS P w K mg base x ps (k+1) sp:=by
 refine⟨f,fd,?_,bF,mF,F.kp⟩
 obtain⟨oc,od,kV,doc,pm,an,cdv,ct,osl,rfl,lk,hcd⟩:=F.ex
 refine fn_ofS lk hcd S len fun A outer s H vs Q E hr hsp=>?_
 obtain⟨t,h,q⟩:=hbody cdv A outer s H vs Q E hr hsp
 exact⟨t,h.nox,q⟩
end L2
namespace PySem
section
variable {prog:Program}{w:World}{A:Around}{E:Value→Shared→Prop}{s:Shared}
theorem entry_unchain:entryFor table "proto.unchain" = some Builtin.«proto.unchain»:=entryFor_of_fast (by kernel_rfl)
theorem raiseNewH {α:Type}{Q:α→Shared→Prop}{e h:Addr}{oe oh:Obj}{us vs:Array Value}(hh:A.handled=some (.ref h)) (hne:h≠e) (he:s.heap.get? e=some oe) (hde:oe.data = .fields us) (h2e:2<us.size)
  (hg:s.heap.get? h=some oh) (hd:oh.data = .fields vs) (h2:vs[2]? = some .none)
  (k:E (.ref e) { s with heap:=s.heap.update e (Obj.mapFields (·.setIfInBounds 2 (.ref h))) }):wpAny (model prog w) A (raiseNew (.ref e):Sem α) Q E s:=by
 unfold raiseNew
 refine wpAny_bind (wpAny_handled ?_)
 rw[hh]
 have c:(Value.ref h != Value.ref e)=true:=by simp[hne]
 simp only[c,if_true]
 refine wpAny_bind (wpAny_holding (wpAny_runValue (codeAny_builtin entry_unchain ?_)))
 show wpAny _ _ (field (.ref h) 2 >>= _) _ _ _
 refine wpAny_bind (wpAny_field hg hd h2 ?_)
 show wpAny _ _ (ret .none) _ _ _
 refine wpAny_pure ?_
 show wpAny _ _ (updateField e 2 (.ref h) >>= _) _ _ _
 refine wpAny_bind ?_
 show wpAny _ _ (setField (.ref e) 2 (.ref h)) _ _ _
 exact wpAny_setField he hde h2e (wpAny_throw k)
theorem range_endH {it h:Addr}{x left step:Int}{Q:Option Value→Shared→Prop}{oh:Obj}{vs:Array Value}(hh:A.handled=some (.ref h)) (hg:s.heap.get? h=some oh) (hd:oh.data = .fields vs) (h2:vs[2]? = some .none)
  (hit:IsRangeIter s.heap it x left step) (hleft:left≤0)
  (hQ:∀h',Heap.ExtBut it s.heap h'→Q none { s with heap:=h' }):wpAny (model prog w) A (pyNext (.ref it)) Q E s:=by
 have hT:s.TypeIs (.ref it) "range_iterator" :=⟨_,hit,rfl⟩
 unfold pyNext
 refine wpAny_bind (wpAny_attempt (wpAny_callSpecial?_slot (name:=Str.ofString "__next__") hT F.slot_range_iterator_next
  (wpAny_call_entry F.slot_range_iterator_next hT F.entry_range_iterator_next ?_ (F.args_range_iterator_next_1 _))))
 show wpAny _ _ (field (.ref it) 0 >>= _) _ _ s
 refine wpAny_bind (wpAny_field hit rfl (x:=rawInt x) rfl ?_)
 show wpAny _ _ (field (.ref it) 1 >>= _) _ _ s
 refine wpAny_bind (wpAny_field hit rfl (x:=rawInt left) rfl ?_)
 show wpAny _ _ (field (.ref it) 2 >>= _) _ _ s
 refine wpAny_bind (wpAny_field hit rfl (x:=rawInt step) rfl ?_)
 show wpAny _ _ (if left≤0 then _ else _) _ _ s
 rw[if_pos hleft]
 refine wpAny_bind (wpAny_rule ?_)
 refine wpAny_bind ?_
 show wpAny _ _ (newExc (.type "StopIteration") [] >>= _) _ _ _
 refine wpAny_bind ?_
 simp only[newExc,newTuple]
 refine wpAny_bind (wpAny_newObj_type ?_ (by size_fits))
 refine wpAny_bind (m:=firstArgMember _ _) (wpAny_of_eq (a:=Value.none) (by first|rfl|(simp only[firstArgMember];rfl)) ?_)
 refine wpAny_newObj_type ?_ (by size_fits)
 have hlt:=Heap.lt_size hg
 refine raiseNewH (h:=h) (by first|exact hh|(show A.in1.handled=_;exact hh)) (Nat.ne_of_lt (by rw[Heap.size_push];exact Nat.lt_succ_of_lt hlt)) (Heap.get?_push_size _ rfl) rfl (by simp;omega) (Heap.get?_push_of_some _ (Heap.get?_push_of_some _ hg)) hd h2 ?_
 refine wpAny_bind (wpAny_isInstance (T := "StopIteration") (b:=true) ⟨_,Heap.get?_update_self _ (Heap.get?_push_size _ rfl) rfl,rfl⟩ isSubtype_stop ?_)
 refine wpAny_pure (hQ _ fun b o hb e=>?_)
 have:b<s.heap.objs.size:=Heap.lt_size e
 rw[Heap.get?_update_other _ _ (Nat.ne_of_gt (by rw[Heap.size_push];exact Nat.lt_succ_of_lt this))]
 exact Heap.get?_push_of_some _ (Heap.get?_push_of_some _ e)
end
end PySem
namespace L2
open PySem PySem.Spec PyProof.Rows
def ItrS (eh:Addr) (lo:Int) (n:Nat):It:=⟨fun i _=>i<n,fun i H x H'=>H'=H∧x = .int (lo+i),fun i H=>n≤i∧∃C D T,H eh=some (.ext (ExP eh C D T))⟩
structure TurnS (eh:Addr) (P:Program) (w:World) (K:PySem.W.Frag) (tg:Expr) (J:It) (fp:List Addr) (it:Addr) (tn:Nat→Heap→Prop):Prop where
 mem:it∈fp
 obj:∀i h,tn i h→∀b∈fp,∃o,h.get? b=some o∧∀v,o.data ≠ .cell v
 keep:∀i h h',tn i h→(∀b∈fp,∀o,h.get? b=some o→h'.get? b=some o)→tn i h'
 item:∀(X:Cx),X.prog=P→X.w=w→X.K=K→X.A.handled=some (.ref eh)→∀(i:Nat) (pins:List (Addr×Obj)) (s:Shared) (σ:St) (H:Hp) (E:Value→Shared→Prop),Inv X pins σ H s→(∀b∈fp,FpOk X pins H b)→tn i s.heap→J.go i H →
  wpAny (model P w) X.A (pyNext (.ref it)) (fun r s1=>∃u,r=some u ∧
   wpAny (model P w) X.A (letOwnedTupleGo tg (.ref it) u) (fun _ s2=>∃x H',Inv X pins σ H' s2∧RelV x u∧J.yld i H x H'∧tn (i+1) s2.heap∧∀b∈fp,H' b=none) E s1) E s
 done:∀(X:Cx),X.prog=P→X.w=w→X.K=K→X.A.handled=some (.ref eh)→∀(i:Nat) (pins:List (Addr×Obj)) (s:Shared) (σ:St) (H:Hp) (E:Value→Shared→Prop),Inv X pins σ H s→(∀b∈fp,FpOk X pins H b)→tn i s.heap→J.stop i H →
  wpAny (model P w) X.A (pyNext (.ref it)) (fun r s1=>r=none∧Inv X pins σ H s1) E s
 self:∀(A:Around) (i:Nat) (s:Shared) (Q:Value→Shared→Prop) (E:Value→Shared→Prop),tn i s.heap→Q (.ref it) s→wpAny (model P w) A (pyIter (.ref it)) Q E s
theorem turnS_range {eh:Addr}{P:Program}{w:World}{K:PySem.W.Frag}{tg:Expr}(it:Addr) (lo:Int) (n:Nat):TurnS eh P w K tg (ItrS eh lo n) [it] it (fun i h=>IsRangeIter h it (lo+(i:Nat)*1) ((n:Int)-(i:Nat)) 1) where
 mem:=by simp
 obj:=fun i h st b hb=>by
  have e:b=it:=by simpa using hb
  subst e
  exact⟨_,st,fun v z=>by
   have z':Data.fields _=Data.cell v:=z
   cases z'⟩
 keep:=fun i h h' st k=>k it (by simp) _ st
 item:=by
  intro X hP hw hK hc i pins s σ H E I hf st hg
  subst hP hw hK
  obtain⟨f0,f1,f2,f3,f4,f5⟩:=hf it (by simp)
  refine wpAny_pyNext_range_item st (by have:i<n:=hg;omega) fun h' hit' hs'=>?_
  have st':IsRangeIter h' it (lo+((i+1:Nat):Int)*1) ((n:Int)-((i+1:Nat):Int)) 1:=by
   have e1:lo+((i+1:Nat):Int)*1=lo+(i:Int)*1+1:=by push_cast;omega
   have e2:(n:Int)-((i+1:Nat):Int) =(n:Int)-(i:Int)-1:=by push_cast;omega
   rw[e1,e2];exact hit'
  have kk:∀b o,b ∉ [it]→s.heap.get? b=some o→h'.get? b=some o:=fun b o hb e=>hs'.extBut b o (fun h=>hb (by simp[h])) e
  have I1:Inv X pins σ H { s with heap:=h',toks:=s.toks+1 }:=I.turned (fun b o hb e=>kk b o (by simpa using hb) e) f0 f1 f3 f4 f5
  refine⟨_,rfl,go_of (s:={ s with heap:=h',toks:=s.toks+1 }) (n := "range_iterator") st' rfl rfl (by decide) ⟨.int (lo+i),H,I1,⟨s.toks,?_⟩,⟨rfl,rfl⟩,st',fun b hb=>(hf b hb).1⟩⟩
  rw[Int.mul_one]
 done:=by
  intro X hP hw hK hc i pins s σ H E I hf st hg
  subst hP hw hK
  obtain⟨f0,f1,f2,f3,f4,f5⟩:=hf it (by simp)
  obtain⟨hle,C,D,T,hx⟩:=hg
  obtain⟨⟨vs,sl,he,h1,h2⟩,_,_⟩:=I.hok eh _ hx
  exact range_endH hc he rfl h2 st (by omega) fun h' eb=>⟨rfl,I.turned (t':=s.toks) (fun b o hb e=>eb b o hb e) f0 f1 f3 f4 f5⟩
 self:=fun _ _ _ _ _ st h=>wpAny_pyIter_rangeiter st h
def PIES (eh:Addr) (X:Cx) (pins:List (Addr×Obj)) (σ:St) (tg:Expr) (R:It→Hp→Prop) (itv:Value) (s2:Shared):Prop :=
 ∃(it:Addr) (fp:List Addr) (tn:Nat→Heap→Prop) (J:It) (H':Hp),itv = .ref it∧Inv X pins σ H' s2∧TurnS eh X.prog X.w X.K tg J fp it tn∧tn 0 s2.heap∧(∀b∈fp,FpOk X pins H' b)∧R J H'
section
variable {X:Cx}{tg:Expr}
def PIr (eh:Addr) (X:Cx) (tg iter:Expr) (wi:TI):Prop :=
 ∀(pins:List (Addr×Obj)) (s:Shared) (σ:St) (H:Hp) (R:It→Hp→Prop),Inv X pins σ H s→wi σ H R →
  wpAny (model X.prog X.w) X.A (eval iter X.env) (fun v s1=>wpAny (model X.prog X.w) X.A (pyIter v) (PIES eh X pins σ tg R) X.xe s1) X.xe s
theorem range_itS {eh:Addr}{pins:List (Addr×Obj)}{σ:St}{H:Hp}{s:Shared}{R:It→Hp→Prop}{E:Value→Shared→Prop}{lo hi:Int}{t u v:Tok}{tk:Nat}(I:Inv X pins σ H s) (h1:-(2^62)≤lo) (h2:lo<2^62) (h3:-(2^62)≤hi) (h4:hi<2^62)
  (q:R (ItrS eh lo (hi-lo).toNat) H):wpAny (model X.prog X.w) X.A (pyIter (.ref s.heap.objs.size)) (PIES eh X pins σ tg R) E { s with heap:=s.heap.push { cls:=.type "range",data:=.fields #[.int lo t,.int hi u,.int 1 v] },toks:=tk }:=by
 refine wpAny_pyIter_range (IsRange.new ..) (small_one h1 h2 h3 h4) ?_
 have I1:Inv X pins σ H { s with heap:=s.heap.push { cls:=.type "range",data:=.fields #[.int lo t,.int hi u,.int 1 v] },toks:=tk }:=I.kept fun b o e=>Heap.get?_push_of_some _ e
 refine⟨(s.heap.push { cls:=.type "range",data:=.fields #[.int lo t,.int hi u,.int 1 v] }).objs.size,[(s.heap.push { cls:=.type "range",data:=.fields #[.int lo t,.int hi u,.int 1 v] }).objs.size],_,_,H,rfl,
  I1.kept (t':=tk) fun b o e=>Heap.get?_push_of_some _ e,turnS_range _ lo (hi-lo).toNat,?_,fun b hb=>?_,q⟩
 ·have e1:lo+((0:Nat):Int)*1=lo:=by simp
  have e2:(((hi-lo).toNat:Nat):Int)-((0:Nat):Int)=Builtin.Range.rangeSize lo hi 1:=by rw[rangeSize_one];split <;> omega
  show IsRangeIter _ _ (lo+((0:Nat):Int)*1) ((((hi-lo).toNat:Nat):Int)-((0:Nat):Int)) 1
  rw[e1,e2]
  exact Heap.get?_push_size _ rfl
 ·have e:b =(s.heap.push { cls:=.type "range",data:=.fields #[.int lo t,.int hi u,.int 1 v] }).objs.size:=by simpa using hb
  subst e
  exact I1.fpOk (Nat.le_refl _) (I1.hok.fresh (Nat.le_refl _))
def iRng1S (eh:Addr) (ta:TA):TI:=fun σ H R=>ta σ H fun vs H1=>∃j:Int,vs=[.int j]∧-(2^62)≤j∧j<2^62∧R (ItrS eh 0 j.toNat) H1
theorem pi_range1S {eh:Addr}{a:Expr}{ta:TA}{p pos:Pos}(hg:Gl X "range") (hm:X.mg "range" = none) (ha:PA X [a] ta) (hs:starEach [a] X.env=[(false,eval a X.env)]:=by rfl):PIr eh X tg (.Call (.Name "range" p) [a] [] pos) (iRng1S eh ta):=by
 intro pins s σ H R I h
 refine Call_ (ld_blt I hg hm boot_range (PyProof.Rows.callWith_type1 (thn (ha pos pins s σ H _ I h) fun us s1 ⟨vs,H1,I1,r1,q1⟩=>?_) hs rfl))
 obtain⟨j,e,q1,q2,q⟩:=q1
 subst e
 cases r1 with
 | cons r rr =>
  cases rr
  obtain⟨t,rfl⟩:=r
  exact call_range_1 (range_itS I1 (by omega) (by omega) q1 q2 (by simpa using q))
end
section
variable {X:Cx}{pins:List (Addr×Obj)}{σ:St}{H:Hp}{s:Shared}{scope:Scope}{vs fs:List Str}{js:List Nat}
theorem blk_runS {eh:Addr}{tg iter elt:Expr}{ifs:List Expr}{pos:Pos}{g:TG}{tt:TT}{te:TE}(hc:X.A.handled=some (.ref eh)) (B:BlkOk X scope vs fs js)
  (hg:∀C s H ex,PG (cxBlk X scope (vs++fs) C s H ex) tg g) (ht:∀C s H ex,PIfs (cxBlk X scope (vs++fs) C s H ex) ifs tt) (he:∀C s H ex,PE (cxBlk X scope (vs++fs) C s H ex) elt te)
  {it:Addr}{fp:List Addr}{tn:Nat→Heap→Prop}{J:It}{Q:VK}{E:Value→Shared→Prop}(I2:Inv X pins σ H s) (T:TurnS eh X.prog X.w X.K tg J fp it tn) (st2:tn 0 s.heap) (f2:∀b∈fp,FpOk X pins H b)
  (hW:∀D,H D=none→CompW J vs js σ g tt te Q D H)
  {RR:Value→Addr→Result→Shared→Prop}
  (hR:∀D C H' s',Inv X pins σ H' s'→(∃m,s'.heap.Ns C m)→H' C=none→s.heap.objs.size≤C→Q (.ref D) H'→RR (.ref D) C (.ok .next) s') :
  wpAny (model X.prog X.w) X.A (newList []) (fun acc s₃=>wpAny (model X.prog X.w) X.A (newFunctionEnv scope X.env.globals (clOf X.env scope.names []) [] X.env.qual none .none (some X.env)) (fun cenv s₄ =>
   codeAny (model X.prog X.w) X.A (.compStart (.ListComp elt [⟨tg,iter,ifs,0⟩] scope pos) 0 (.ref it) acc { cenv with scope:=relabel scope X.env }) (RR acc cenv.locals) s₄) E s₃) E s:=by
 have hfp:∀b∈fp,b<s.heap.objs.size:=fun b hb=>by
  obtain⟨o,e,_⟩:=T.obj _ _ st2 b hb
  exact Heap.lt_size e
 refine wpAny_newObj_type (wpAny_newFunctionEnv B.cell (by intro y hy;simp at hy) (fun h₁ hns₁ hsb₁=>?_) B.kind)
 dsimp only at hns₁ hsb₁ ⊢
 generalize hH2:s.heap.push { cls:=.type "list",dict:=none,data:=.seq ([]:List Value).toArray } = HH at hns₁ hsb₁ ⊢
 have hC:HH.objs.size=s.heap.objs.size+1:=by rw[← hH2,Heap.size_push]
 have hlt:s.heap.objs.size<HH.objs.size:=by rw[hC];exact Nat.lt_succ_self _
 have old:∀b o,s.heap.get? b=some o→h₁.get? b=some o:=fun b o e=>hsb₁.extBut b o (Nat.ne_of_lt (Nat.lt_trans (Heap.lt_size e) hlt)) (Heap.get?_push_of_some _ (hH2 ▸ Heap.get?_push_of_some _ e))
 have hacc:h₁.get? s.heap.objs.size=some { cls:=.type "list",data:=.seq ([]:List Value).toArray }:=hsb₁.extBut _ _ (Nat.ne_of_lt hlt) (Heap.get?_push_of_some _ (hH2 ▸ Heap.get?_push_size _ rfl))
 have I0:Inv (cxBlk X scope (vs++fs) HH.objs.size s H fp) [] (blkSt vs js σ) (upd H s.heap.objs.size (.lst [])) { s with heap:=h₁,toks:=s.toks+([]:List (Str×Value)).length }:=blk_start I2 B f2 hfp hns₁ old rfl hlt hacc
 obtain⟨W,⟨m0,w0⟩,turn⟩:=hW s.heap.objs.size (I2.hok.fresh (Nat.le_refl _))
 have st1:tn 0 h₁:=T.keep _ _ _ st2 fun b hb o e=>old b o e
 have hch:∀b∈fp,(b∈X.ex∨X.s₀.heap.objs.size≤b)∧b≠X.env.locals∧(∀x c,X.env.cells.lookup x=some c→c≠b)∧∀p∈X.pn++pins,p.1≠b:=fun b hb=>by
  obtain⟨_,a2,_,a4,a5,a6⟩:=f2 b hb
  exact⟨a4,a2,a5,a6⟩
 have back:∀{pl:List (Addr×Obj)}{σ':St}{H':Hp}{s':Shared},Inv (cxBlk X scope (vs++fs) HH.objs.size s H fp) pl σ' H' s'→Inv X pins σ H' s':=fun {pl σ' H' s'} J'=>I2.call' (ch:=fp) J'.os J'.base J'.hok J'.bare hch
 have nD:∀b∈fp,b≠s.heap.objs.size:=fun b hb=>Nat.ne_of_lt (hfp b hb)
 have stat:∀{H':Hp},(∀b∈fp,H' b=none)→∀b∈fp,FpOk (cxBlk X scope (vs++fs) HH.objs.size s H fp) [] H' b:=fun {H'} hn b hb=>by
  have z:=I0.ok
  refine⟨hn b hb,(z.exf b hb).1,z.exfs b hb,.inl hb,(z.exf b hb).2,fun p hp=>absurd (show p∈([]:List (Addr×Obj)) from hp) (by simp)⟩
 have loop:∀s₃:Shared,s₃ = { s with heap:=h₁,toks:=s.toks+([]:List (Str×Value)).length } →
   codeAny (model X.prog X.w) X.A (.compLoop (.ListComp elt [⟨tg,iter,ifs,0⟩] scope pos) 0 (.ref it) (.ref s.heap.objs.size) (compEnvC scope (clOf X.env scope.names []) HH.objs.size X.env)) (RR (.ref s.heap.objs.size) HH.objs.size) s₃:=by
  rintro s₃ rfl
  refine codeAny_compLoop_gen (fun n s'=>∃i σ' ys H',Inv (cxBlk X scope (vs++fs) HH.objs.size s H fp) [] σ' H' s'∧tn i s'.heap∧(∀b∈fp,H' b=none)∧W i n σ' ys H') ?_ m0
   ⟨0,_,_,_,I0,st1,fun b hb=>by rw[upd_ne (nD b hb)];exact(f2 b hb).1,w0⟩
  rintro n s3 ⟨i,σ3,ys,H3,I3,st3,fr3,w3⟩
  rcases turn i n σ3 ys H3 w3 with⟨stop,q⟩|⟨go,N,hN,step⟩
  ·refine thn (T.done (cxBlk X scope (vs++fs) HH.objs.size s H fp) rfl rfl rfl hc i [] s3 σ3 H3 _ I3 (stat fr3) st3 stop) fun r s4 ⟨hr,I4⟩=>?_
   subst hr
   obtain⟨m,hm,_⟩:=I4.loc
   exact hR _ _ H3 s4 (back I4) ⟨m,hm⟩ I4.free (Nat.le_of_lt hlt) q
  ·refine thn (T.item (cxBlk X scope (vs++fs) HH.objs.size s H fp) rfl rfl rfl hc i [] s3 σ3 H3 _ I3 (stat fr3) st3 go) fun r s4 ⟨u,hr,h4⟩=>?_
   subst hr
   refine thn h4 fun _ s5 ⟨x,H5,I5,r5,y5,st5,fr5⟩=>?_
   have I5':=I5.pinned (stat fr5) (T.obj _ _ st5)
   have again:∀{σ7:St}{H7:Hp}{s7:Shared}{zs:List V},Inv (cxBlk X scope (vs++fs) HH.objs.size s H fp) ([]++pinsAt fp s5.heap) σ7 H7 s7→N σ7 zs H7→∃m,m<n∧∃i σ' ys H',Inv (cxBlk X scope (vs++fs) HH.objs.size s H fp) [] σ' H' s7∧tn i s7.heap∧(∀b∈fp,H' b=none)∧W i m σ' ys H':=fun {σ7 H7 s7 zs} I7 n7=>by
    obtain⟨m',hm,w7⟩:=hN σ7 zs H7 n7
    refine⟨m',hm,i+1,σ7,zs,H7,I7.unpinned,T.keep _ _ _ st5 fun b hb o e=>(I7.pin (b,o) (List.mem_append_right _ (List.mem_append_right _ (mem_pinsAt hb e)))).1,fun b hb=>?_,w7⟩
    obtain⟨o,e,d⟩:=T.obj _ _ st5 b hb
    exact(I7.pin (b,o) (List.mem_append_right _ (List.mem_append_right _ (mem_pinsAt hb e)))).2.1
   refine thn (hg _ _ _ _ _ s5 σ3 H5 x u _ I5' r5 (step x H5 y5)) fun _ s6 ⟨σ6,H6,I6,q6⟩=>?_
   refine thn (ht _ _ _ _ _ s6 σ6 H6 _ I6 q6) fun ok s7 ⟨H7,I7,q7⟩=>?_
   cases ok with
   | false =>
    rw[if_neg Bool.false_ne_true]at q7 ⊢
    exact again I7 q7
   | true =>
    rw[if_pos rfl]at q7 ⊢
    refine thn (he _ _ _ _ _ s7 σ6 H7 _ I7 q7) fun y s8 ⟨yv,H8,I8,r8,hD8,hz,n8⟩=>?_
    refine thn (mt_append _ s8 σ6 H8 (.ref s.heap.objs.size) [yv] (.ref s.heap.objs.size) [y] (fun _ H9=>N σ6 (ys ++ [yv]) H9) I8 rfl (.cons r8 .nil) ⟨_,ys,yv,rfl,rfl,hD8,hz,n8⟩) fun _ s9 ⟨_,H9,I9,_,n9⟩=>?_
    exact again I9 n9
 exact codeAny_compStart_list (loop _ rfl) (T.self X.A 0 _ _ _ st1 (loop _ rfl))
theorem pe_compS {eh:Addr}{tg iter elt:Expr}{ifs:List Expr}{pos:Pos}{wi:TI}{g:TG}{tt:TT}{te:TE}(hc:X.A.handled=some (.ref eh)) (B:BlkOk X scope vs fs js) (hi:PIr eh X tg iter wi)
  (hg:∀C s H ex,PG (cxBlk X scope (vs++fs) C s H ex) tg g) (ht:∀C s H ex,PIfs (cxBlk X scope (vs++fs) C s H ex) ifs tt) (he:∀C s H ex,PE (cxBlk X scope (vs++fs) C s H ex) elt te)
  (hs:∀x,foldedSetIterable iter X.env x=pure x:=by intro _;rfl):PE X (.ListComp elt [⟨tg,iter,ifs,0⟩] scope pos) (tComp vs js wi g tt te):=by
 intro pins s σ H Q I h
 rw[eval_ListComp]
 refine wpAny_comprehension_free (use:=none) rfl hs (closure_eq fun y hy hf=>I.ok.has y.1 (B.free y hy hf)) B.kind B.names (thn (hi pins s σ H _ I h) fun v s1 h1=>thn h1 fun itv s2 h2=>?_)
 obtain⟨it,fp,tn,J,H2,e,I2,T,st2,f2,hW⟩:=h2
 subst e
 refine blk_runS (RR:=fun acc C=>compPost (model X.prog X.w) X.A X.xe none (EP X pins σ Q) acc C) hc B hg ht he I2 T st2 f2 hW ?_
 intro D C H' s' I' hn hC hle q
 obtain⟨m,hn⟩:=hn
 exact⟨m,hn,fun h'' hs''=>⟨.ref D,H',I2.goneC I' hC hle hs'',rfl,q⟩⟩
end
section
variable {vs:List Str}{js:List Nat}{σ:St}{g:TG}{tt:TT}{te:TE}{Q:VK}
theorem comp_rangeS {eh:Addr}{lo:Int}{n:Nat}{H:Hp}(Pv:Nat→St→List V→Hp→Prop) (D:Addr) (h0:Pv 0 (blkSt vs js σ) [] (upd H D (.lst [])))
  (hs:∀i σ' ys H',i<n→Pv i σ' ys H'→g (.int (lo+i)) σ' H' fun σ3 H3=>tt σ3 H3 fun b H4=>if b=true then te σ3 H4 fun y H5=>H5 D=some (.lst ys)∧ys.length<sizeLine∧Pv (i+1) σ3 (ys ++ [y]) (upd H5 D (.lst (ys ++ [y]))) else Pv (i+1) σ3 ys H4)
  (hx:∀σ' ys H',Pv n σ' ys H'→∃C D T,H' eh=some (.ext (ExP eh C D T))) (hd:∀σ' ys H',Pv n σ' ys H'→Q (.ref D) H'):CompW (ItrS eh lo n) vs js σ g tt te Q D H:=by
 refine⟨fun i m σ' ys H'=>m=n-i∧i≤n∧Pv i σ' ys H',⟨n,by simp,Nat.zero_le _,h0⟩,?_⟩
 rintro i m σ' ys H' ⟨rfl,hi,p⟩
 by_cases hlt:i<n
 ·refine .inr ⟨hlt,Pv (i+1),fun σ2 zs H2 p'=>⟨n-(i+1),by omega,rfl,hlt,p'⟩,fun x H2 y=>?_⟩
  obtain⟨e,y⟩:=y
  subst e y
  exact hs i σ' ys _ hlt p
 ·have e:i=n:=by omega
  subst e
  exact .inl ⟨⟨Nat.le_refl _,hx σ' ys H' p⟩,hd σ' ys H' p⟩
end
end L2
namespace PySem
open Sem (wp)
section
variable {prog:Program}{w:World}{A:Around}{E:Value→Shared→Prop}{s:Shared}{env:Env}
variable {nm q:Str}{C N:Addr}{bs bm bmB:List Value}{hdct:Bool}{sn:List Str}{sub:List Value}{ab:Bool}{col:Option Bool}{dd:Option Addr}{k0 k1 k2 k3 k5:Option Value}{B newId initId:String}
theorem Call_initT (F:ExcBaseFacts B newId initId bmB) {mN:Str→Option Value}{x:Str}{np cpos:Pos}{args:List Expr}{fI:Addr}{oI:Obj}{Q:Value→Shared→Prop}
  (hplain:(backTo cpos (starEach args env)).any (·.1)=false) (hi:mN "__init__" = some (.ref fI)) (hfc:oI.cls = .type "function")
  (h:wpAny (model prog w) A (eval (.Name x np) env) (fun f s1=>f = .ref C∧wpAny (model prog w) A (evalArgs (.ref C) true (backTo cpos (starEach args env)) [])
   (fun a s2=>a.kw=[]∧a.pos.length≤sizeLine∧s2.heap.get? C=some (excClassObj nm q C N bs bm hdct sn sub ab col dd k0 k1 k2 k3 k5 newId)∧s2.heap.Ns N mN∧OwnTail s2.heap bmB bm∧s2.heap.get? fI=some oI ∧
    ∀h' e,Heap.MadeExcOf s2.heap h' e (.ref C) a.pos→s2.heap.objs.size≤e →
     wpAny (model prog w) (A.under (.builtin "type.__call__" ⟨.ref C::a.pos,[]⟩)) (call (.ref fI) (.ref e::a.pos)) (fun r s'=>r = .none∧Q (.ref e) s') E { s2 with heap:=h' }) E s1) E s) :
  wpAny (model prog w) A (eval (.Call (.Name x np) args [] cpos) env) Q E s:=by
 refine wpAny_Call_ofName (wpAny_mono h (fun f s1 h1=>?_) fun _ _ x=>x)
 obtain⟨rfl,h1⟩:=h1
 unfold callWith
 refine wpAny_bind (wpAny_holding (wpAny_mono h1 (fun a s2 h2=>wpAny_bind (wpAny_standAt ?_)) fun _ _ x=>x))
 obtain⟨apos,akw⟩:=a
 obtain⟨hkw,hlen,hC,hn,T,hfI,h2⟩:=h2
 obtain rfl:akw=[]:=hkw
 obtain⟨hp,g,d,tk,os⟩:=s2
 simp only[hplain]
 refine wpAny_bind (wpAny_keeperOf_exc hC ?_)
 exact wpAny_bind (call_initT (hrest:=hlen) F T hC hn hi hfI hfc fun h' e hm hz=>wpAny_mono (h2 h' e hm hz) (fun r s' z=>⟨z.1,wpAny_bind (wpAny_holding (wpAny_point (wpAny_pure z.2)))⟩) fun _ _ z=>z)
theorem Call_plainT (F:ExcBaseFacts B newId initId bmB) {mN:Str→Option Value}{x:Str}{np cpos:Pos}{args:List Expr}{Q:Value→Shared→Prop}
  (hplain:(backTo cpos (starEach args env)).any (·.1)=false) (hni:mN "__init__" = none)
  (h:wpAny (model prog w) A (eval (.Name x np) env) (fun f s1=>f = .ref C∧wpAny (model prog w) A (evalArgs (.ref C) true (backTo cpos (starEach args env)) [])
   (fun a s2=>a.kw=[]∧a.pos.length≤sizeLine∧s2.heap.get? C=some (excClassObj nm q C N bs bm hdct sn sub ab col dd k0 k1 k2 k3 k5 newId)∧s2.heap.Ns N mN∧OwnTail s2.heap bmB bm ∧
    ∀h' e,Heap.MadeExcOf s2.heap h' e (.ref C) a.pos→s2.heap.objs.size≤e→Q (.ref e) { s2 with heap:=h' }) E s1) E s) :
  wpAny (model prog w) A (eval (.Call (.Name x np) args [] cpos) env) Q E s:=by
 refine wpAny_Call_ofName (wpAny_mono h (fun f s1 h1=>?_) fun _ _ x=>x)
 obtain⟨rfl,h1⟩:=h1
 unfold callWith
 refine wpAny_bind (wpAny_holding (wpAny_mono h1 (fun a s2 h2=>wpAny_bind (wpAny_standAt ?_)) fun _ _ x=>x))
 obtain⟨apos,akw⟩:=a
 obtain⟨hkw,hlen,hC,hn,T,h2⟩:=h2
 obtain rfl:akw=[]:=hkw
 obtain⟨hp,g,d,tk,os⟩:=s2
 simp only[hplain]
 refine wpAny_bind (wpAny_keeperOf_exc hC ?_)
 exact wpAny_bind (call_plainT (hrest:=hlen) F T hC hn hni fun h' e hm hz=>wpAny_bind (wpAny_holding (wpAny_point (wpAny_pure (h2 h' e hm hz)))))
end
end PySem
namespace L2
open PySem PySem.Spec PyProof.Rows
def tMkX (C:Addr) (a:Str) (ta:TA):TE:=fun σ H Q=>ta σ H fun vs H1=>∃v,vs=[v]∧∀e D,H1 e=none→H1 D=none→D≠e→Q (.ref e) (upd (upd H1 e (.ext (ExP e C (some D) none))) D (.xd [(a,v)]))
def tMkX0 (C:Addr):TE:=fun _ H Q=>∀e,H e=none→Q (.ref e) (upd H e (.ext (ExP e C none none)))
section
variable {X:Cx}{C:Addr}{a x:Str}{k:Nat}{arg:Expr}{ta:TA}{np cpos:Pos}
theorem pe_mkx (cl:XCls X.K C a) (hr:Room (k+2) X.A) (hg:Gl X x) (hm:X.mg x=some (.ref C)) (ha:PA X [arg] ta) (hs:starEach [arg] X.env=[(false,eval arg X.env)]:=by rfl) (hd:(x ==("__debug__" : Str))=false:=by decide) :
  PE X (.Call (.Name x np) [arg] [] cpos) (tMkX C a ta):=by
 intro pins s σ H Q I h
 obtain⟨nm,q,N,bs,bm,bmB,sn,sub,ab,col,dd,k0,k1,k2,k3,k5,newId,initId,sa,owner,fI,name,qual,params,scope,dV,kV,doc,pm,cdv,ct,an,od,osl,p1,p2,p3,p4,F,SF,hB,hbase,lC,hT,hN,lf,hcd,S,hsw,l1,l2,hne,hdb,hbd⟩:=cl.ex
 obtain⟨mN,nN,hi,hns,hna⟩:=hN _ I.ok.mod.kin
 refine Call_initT (C:=C) (nm:=nm) (q:=q) (N:=N) (bs:=bs) (bm:=bm) (bmB:=bmB) (hdct:=true) (sn:=sn) (sub:=sub) (ab:=ab) (col:=col) (dd:=dd) (k0:=k0) (k1:=k1) (k2:=k2) (k3:=k3) (k5:=k5) (newId:=newId) (mN:=mN) (fI:=fI) F (by rw[hs];rfl) hi (oI:=⟨.type "function",od,.func (PySem.W.fnOf name qual params [.Assign [.Attribute (.Name "self" p1) a p2] (.Name a p3) p4] scope dV kV doc pm an cdv ct),osl⟩) rfl ?_
 refine thn ((pe_glob hg hm (show RelV (.ref C) (.ref C) from rfl) hd) pins s σ H (fun v H1=>v = .ref C∧H1=H) I ⟨rfl,rfl⟩) fun f s1 ⟨v,H1,I1,rf,e1,e2⟩=>?_
 subst e1 e2
 refine⟨rf,?_⟩
 have ha':=ha cpos pins s1 σ H1 _ I1 h
 rw[hs]at ha' ⊢
 refine Calls.evalArgs_plain (thn ha' fun us s2 ⟨vs,H2,I2,r2,v,ev,q2⟩=>?_)
 subst ev
 obtain⟨u,rfl,ru⟩:=vals1 r2
 refine⟨rfl,by show 1≤sizeLine;decide,I2.kIn _ _ lC,nN.keeps I2.bk,(hT _ I2.kIn).tail (.inl rfl),I2.kIn _ _ lf,fun h' e hm hz=>?_⟩
 obtain⟨t,he,ht,_⟩:=hm.there
 have kB:∀b o,X.base.get? b=some o→h'.get? b=some o:=fun b o z=>hm.keeps _ _ (I2.bk _ _ z)
 have kI:X.K.In h':=I2.ok.mod.kin.keeps kB
 refine wpAny_call (codeAny_mono (init_ok (k:=k) (s:={ s2 with heap:=h' }) (A:=X.A.under (.builtin "type.__call__" ⟨[.ref C,u],[]⟩)) (R:=fun r s'=>r = .ok (.ret .none)∧∃h2 tk D,s' = { s2 with heap:=h2,toks:=tk }∧h'.objs.size≤D∧D≠e∧h2.get? e=some ⟨.ref C,some D,.fields #[.ref t,.none,.none,.none,.bool false,.none],#[]⟩∧h2.Ns1 D (fun y=>if y=a then some u else none)∧∀b ob,b≠e→h'.get? b=some ob→h2.get? b=some ob)
  lf hcd S kI (I2.ok.mod.nolimit.keeps kB) (hr.make C [u] []) hsw l1 l2 hne hdb (hbd _ _ _) SF (hT _ kI) (.inr (.inr rfl)) (.inr (.inl rfl)) (kI _ _ lC) (nN.keeps kB) hns hna hB he rfl (by intro c z;cases z) rfl fun h2 tk D g1 g2 g3 g4 g5=>⟨rfl,h2,tk,D,rfl,g1,g2,g3,g4,g5⟩) fun r s' z=>?_)
 obtain⟨rfl,h2,tk,D,rfl,g1,g2,g3,g4,g5⟩:=z
 have ke:∀b o,s2.heap.get? b=some o→b≠e:=fun b o z c=>by rw[c]at z;exact absurd (Nat.lt_of_lt_of_le (Heap.lt_size z) hz) (Nat.lt_irrefl _)
 have kk:∀b o,s2.heap.get? b=some o→h2.get? b=some o:=fun b o z=>g5 b o (ke b o z) (hm.keeps _ _ z)
 have hz':s2.heap.objs.size≤D:=Nat.le_trans (Nat.le_of_lt (Nat.lt_of_le_of_lt hz (Heap.lt_size he))) g1
 have ne:=I2.hok.fresh hz
 have nD:=I2.hok.fresh hz'
 have I3:Inv X pins σ (upd H2 e (.ext (ExP e C (some D) none))) { s2 with heap:=h2,toks:=tk }:=I2.adopt (ch:=[e]) (fun b o _ z=>kk b o z) (fun b hb=>by rw[List.mem_singleton.mp hb];exact I2.fpOk hz ne) (List.mem_singleton.mpr rfl) ⟨⟨_,_,g3,rfl,rfl⟩,⟨_,g3⟩,fun a1 a2 ⟨vs,sl,y,y2⟩ kq=>⟨vs,sl,kq _ y,y2⟩⟩
 have I4:Inv X pins σ (upd (upd H2 e (.ext (ExP e C (some D) none))) D (.xd [(a,v)])) { s2 with heap:=h2,toks:=tk }:=I3.adopt (ch:=[D]) (fun b o _ z=>z) (fun b hb=>by rw[List.mem_singleton.mp hb];exact I2.fpOk hz' (by rw[upd_ne g2];exact nD)) (List.mem_singleton.mpr rfl) ⟨_,g4,fun y=>by
  show RelO (List.lookup y [(a,v)]) (if y=a then some u else none)
  by_cases c:y=a
  ·subst c
   rw[if_pos rfl,show List.lookup y [(y,v)]=some v by simp[List.lookup]]
   exact ru
  ·have cb:(y == a)=false:=beq_eq_false_iff_ne.mpr c
   rw[if_neg c,show List.lookup y [(a,v)]=none by simp[List.lookup,cb]]
   exact True.intro⟩
 exact⟨rfl,.ref e,_,I4,rfl,q2 e D ne nD g2⟩
theorem pe_mkx0 (cl:XPl X.K C) (hg:Gl X x) (hm:X.mg x=some (.ref C)) (hd:(x ==("__debug__" : Str))=false:=by decide):PE X (.Call (.Name x np) [] [] cpos) (tMkX0 C):=by
 intro pins s σ H Q I h
 obtain⟨nm,q,N,bs,bm,bmB,sn,sub,ab,col,dd,k0,k1,k2,k3,k5,newId,initId,F,hbase,lC,hT,hN⟩:=cl.ex
 obtain⟨mN,nN,hni⟩:=hN _ I.ok.mod.kin
 refine Call_plainT (C:=C) (nm:=nm) (q:=q) (N:=N) (bs:=bs) (bm:=bm) (bmB:=bmB) (hdct:=true) (sn:=sn) (sub:=sub) (ab:=ab) (col:=col) (dd:=dd) (k0:=k0) (k1:=k1) (k2:=k2) (k3:=k3) (k5:=k5) (newId:=newId) (mN:=mN) F rfl hni ?_
 refine thn ((pe_glob hg hm (show RelV (.ref C) (.ref C) from rfl) hd) pins s σ H (fun v H1=>v = .ref C∧H1=H) I ⟨rfl,rfl⟩) fun f s1 ⟨v,H1,I1,rf,e1,e2⟩=>?_
 subst e1 e2
 refine⟨rf,?_⟩
 refine wpAny_pure ?_
 refine⟨rfl,Nat.zero_le _,I1.kIn _ _ lC,nN.keeps I1.bk,hT _ I1.kIn,fun h' e hm hz=>?_⟩
 obtain⟨t,he,ht,_⟩:=hm.there
 have ne:=I1.hok.fresh hz
 have I3:Inv X pins σ (upd H1 e (.ext (ExP e C none none))) { s1 with heap:=h' }:=I1.adopt (ch:=[e]) (t':=s1.toks) (fun b o _ z=>hm.keeps b o z) (fun b hb=>by rw[List.mem_singleton.mp hb];exact I1.fpOk hz ne) (List.mem_singleton.mpr rfl) ⟨⟨_,_,he,rfl,rfl⟩,⟨_,he⟩,fun a1 a2 ⟨vs,sl,y,y2⟩ kq=>⟨vs,sl,kq _ y,y2⟩⟩
 exact⟨.ref e,_,I3,rfl,h e ne⟩
end
theorem mkx_at {H:Hp}{e C D:Addr}{a:Str}{v:V}(h:D≠e):XAt (upd (upd H e (.ext (ExP e C (some D) none))) D (.xd [(a,v)])) e C a v:=⟨D,none,⟨by rw[upd_ne h.symm,upd_same],(fun d z=>by cases z;exact upd_same),fun t z=>by cases z⟩⟩
theorem mkx_at0 {H:Hp}{e C:Addr}:XAt0 (upd H e (.ext (ExP e C none none))) e C:=⟨none, "",.non,⟨upd_same,(fun d z=>by cases z),fun t z=>by cases z⟩⟩
theorem rd_mkx {C:Addr}{a:Str}{ta:TA}{σ:St}{H:Hp}{Q:VK}(h:ta σ H fun vs H1=>∃v,vs=[v]∧∀e D,H1 e=none→H1 D=none→D≠e→Q (.ref e) (upd (upd H1 e (.ext (ExP e C (some D) none))) D (.xd [(a,v)]))):tMkX C a ta σ H Q:=h
theorem rd_mkx0 {C:Addr}{σ:St}{H:Hp}{Q:VK}(h:∀e,H e=none→Q (.ref e) (upd H e (.ext (ExP e C none none)))):tMkX0 C σ H Q:=h
end L2
namespace L2
open PySem PySem.Spec PyProof.Rows
def ThrowsS (X:Cx) (E:St→XK):Prop:=∀(pins:List (Addr×Obj)) (σ:St) (H H0:Hp) (s:Shared) (e C:Addr) (D T:Option Addr) (a:Str) (v:V) (u:Value),Inv X pins σ H s→Exc H e C D T a v→XMk X.K C D a→RelV v u→H0 e=none→(∀b o,H0 b=some o→H b=some o)→E σ u (some C) H0→X.xe (.ref e) s
def tRaiseS (C:Addr) (E:St→XK) (ta:TA):TS:=fun _ σ H=>ta σ H fun vs H1=>∃v,vs=[v]∧∀u,RelV v u→E σ u (some C) H1
section
variable {X:Cx}{E:St→XK}{C:Addr}{a x:Str}{k:Nat}{arg:Expr}{ta:TA}{np cpos pos:Pos}
theorem ps_raise1S (thr:ThrowsS X E) (cl:XCls X.K C a) (hr:Room (k+2) X.A) (hg:Gl X x) (hm:X.mg x=some (.ref C)) (ha:PA X [arg] ta) (hs:starEach [arg] X.env=[(false,eval arg X.env)]:=by rfl) (hd:(x ==("__debug__" : Str))=false:=by decide) :
  PS X (.Raise (some (.Call (.Name x np) [arg] [] cpos)) none pos) (tRaiseS C E ta):=by
 intro pins s σ H D I h
 obtain⟨nm,q,N,bs,bm,bmB,sn,sub,ab,col,dd,k0,k1,k2,k3,k5,newId,initId,sa,owner,fI,name,qual,params,scope,dV,kV,doc,pm,cdv,ct,an,od,osl,p1,p2,p3,p4,F,SF,hB,hbase,lC,hT,hN,lf,hcd,S,hsw,l1,l2,hne,hdb,hbd⟩:=cl.ex
 obtain⟨mN,nN,hi,hns,hna⟩:=hN _ I.ok.mod.kin
 refine Raise_initT (C:=C) (nm:=nm) (q:=q) (N:=N) (bs:=bs) (bm:=bm) (bmB:=bmB) (hdct:=true) (sn:=sn) (sub:=sub) (ab:=ab) (col:=col) (dd:=dd) (k0:=k0) (k1:=k1) (k2:=k2) (k3:=k3) (k5:=k5) (newId:=newId) (mN:=mN) (fI:=fI) F hbase hr.hd (by rw[hs];rfl) hi (oI:=⟨.type "function",od,.func (PySem.W.fnOf name qual params [.Assign [.Attribute (.Name "self" p1) a p2] (.Name a p3) p4] scope dV kV doc pm an cdv ct),osl⟩) rfl ?_
 refine thn ((pe_glob hg hm (show RelV (.ref C) (.ref C) from rfl) hd) pins s σ H (fun v H1=>v = .ref C∧H1=H) I ⟨rfl,rfl⟩) fun f s1 ⟨v,H1,I1,rf,e1,e2⟩=>?_
 subst e1 e2
 refine⟨rf,?_⟩
 have ha':=ha cpos pins s1 σ H1 _ I1 h
 rw[hs]at ha' ⊢
 refine Calls.evalArgs_plain (thn ha' fun us s2 ⟨vs,H2,I2,r2,v,ev,q2⟩=>?_)
 subst ev
 obtain⟨u,rfl,ru⟩:=vals1 r2
 refine⟨rfl,by show 1≤sizeLine;decide,I2.kIn _ _ lC,nN.keeps I2.bk,(hT _ I2.kIn).tail (.inl rfl),I2.kIn _ _ lf,fun h' e hm hz=>?_⟩
 obtain⟨t,he,ht,_⟩:=hm.there
 have kB:∀b o,X.base.get? b=some o→h'.get? b=some o:=fun b o z=>hm.keeps _ _ (I2.bk _ _ z)
 have kI:X.K.In h':=I2.ok.mod.kin.keeps kB
 refine wpAny_call (codeAny_mono (init_ok (k:=k) (s:={ s2 with heap:=h' }) (A:=X.A.under (.builtin "type.__call__" ⟨[.ref C,u],[]⟩)) (R:=fun r s'=>r = .ok (.ret .none)∧∃h2 tk D,s' = { s2 with heap:=h2,toks:=tk }∧h'.objs.size≤D∧D≠e∧h2.get? e=some ⟨.ref C,some D,.fields #[.ref t,.none,.none,.none,.bool false,.none],#[]⟩∧h2.Ns1 D (fun y=>if y=a then some u else none)∧∀b ob,b≠e→h'.get? b=some ob→h2.get? b=some ob)
  lf hcd S kI (I2.ok.mod.nolimit.keeps kB) (hr.make C [u] []) hsw l1 l2 hne hdb (hbd _ _ _) SF (hT _ kI) (.inr (.inr rfl)) (.inr (.inl rfl)) (kI _ _ lC) (nN.keeps kB) hns hna hB he rfl (by intro c z;cases z) rfl fun h2 tk D g1 g2 g3 g4 g5=>⟨rfl,h2,tk,D,rfl,g1,g2,g3,g4,g5⟩) fun r s' z=>?_)
 obtain⟨rfl,h2,tk,D,rfl,g1,g2,g3,g4,g5⟩:=z
 have ke:∀b o,s2.heap.get? b=some o→b≠e:=fun b o z c=>by rw[c]at z;exact absurd (Nat.lt_of_lt_of_le (Heap.lt_size z) hz) (Nat.lt_irrefl _)
 have kk:∀b o,s2.heap.get? b=some o→h2.get? b=some o:=fun b o z=>g5 b o (ke b o z) (hm.keeps _ _ z)
 have hz':s2.heap.objs.size≤D:=Nat.le_trans (Nat.le_of_lt (Nat.lt_of_le_of_lt hz (Heap.lt_size he))) g1
 have ne:=I2.hok.fresh hz
 have nD:=I2.hok.fresh hz'
 have I3:Inv X pins σ (upd H2 e (.ext (ExP e C (some D) none))) { s2 with heap:=h2,toks:=tk }:=I2.adopt (ch:=[e]) (fun b o _ z=>kk b o z) (fun b hb=>by rw[List.mem_singleton.mp hb];exact I2.fpOk hz ne) (List.mem_singleton.mpr rfl) ⟨⟨_,_,g3,rfl,rfl⟩,⟨_,g3⟩,fun a1 a2 ⟨vs,sl,y,y2⟩ kq=>⟨vs,sl,kq _ y,y2⟩⟩
 have I4:Inv X pins σ (upd (upd H2 e (.ext (ExP e C (some D) none))) D (.xd [(a,v)])) { s2 with heap:=h2,toks:=tk }:=I3.adopt (ch:=[D]) (fun b o _ z=>z) (fun b hb=>by rw[List.mem_singleton.mp hb];exact I2.fpOk hz' (by rw[upd_ne g2];exact nD)) (List.mem_singleton.mpr rfl) ⟨_,g4,fun y=>by
  show RelO (List.lookup y [(a,v)]) (if y=a then some u else none)
  by_cases c:y=a
  ·subst c
   rw[if_pos rfl,show List.lookup y [(y,v)]=some v by simp[List.lookup]]
   exact ru
  ·have cb:(y == a)=false:=beq_eq_false_iff_ne.mpr c
   rw[if_neg c,show List.lookup y [(a,v)]=none by simp[List.lookup,cb]]
   exact True.intro⟩
 have ex:Exc (upd (upd H2 e (.ext (ExP e C (some D) none))) D (.xd [(a,v)])) e C (some D) none a v:=⟨by rw[upd_ne g2.symm,upd_same],fun d z=>by cases z;exact upd_same,fun t z=>by cases z⟩
 refine⟨rfl,kk _ _ (I2.kIn _ _ lC),⟨_,t,_,g3⟩,thr pins σ _ H2 _ e C (some D) none a v u I4 ex (.inl ⟨D,rfl,cl⟩) ru ne (fun b o z=>?_) (q2 u ru)⟩
 rw[upd_ne (ne_of_none z nD),upd_ne (ne_of_none z ne)];exact z
def tRaise0S (C:Addr) (E:St→XK):TS:=fun _ σ H=>E σ .none (some C) H
theorem ps_raise0S (thr:ThrowsS X E) (cl:XPl X.K C) (hr:Room k X.A) (hg:Gl X x) (hm:X.mg x=some (.ref C)) (hd:(x ==("__debug__" : Str))=false:=by decide) :
  PS X (.Raise (some (.Call (.Name x np) [] [] cpos)) none pos) (tRaise0S C E):=by
 intro pins s σ H D I h
 obtain⟨nm,q,N,bs,bm,bmB,sn,sub,ab,col,dd,k0,k1,k2,k3,k5,newId,initId,F,hbase,lC,hT,hN⟩:=cl.ex
 obtain⟨mN,nN,hni⟩:=hN _ I.ok.mod.kin
 refine Raise_plainT (C:=C) (nm:=nm) (q:=q) (N:=N) (bs:=bs) (bm:=bm) (bmB:=bmB) (hdct:=true) (sn:=sn) (sub:=sub) (ab:=ab) (col:=col) (dd:=dd) (k0:=k0) (k1:=k1) (k2:=k2) (k3:=k3) (k5:=k5) (newId:=newId) (mN:=mN) F hbase hr.hd rfl hni ?_
 refine thn ((pe_glob hg hm (show RelV (.ref C) (.ref C) from rfl) hd) pins s σ H (fun v H1=>v = .ref C∧H1=H) I ⟨rfl,rfl⟩) fun f s1 ⟨v,H1,I1,rf,e1,e2⟩=>?_
 subst e1 e2
 refine⟨rf,?_⟩
 refine wpAny_pure ?_
 refine⟨rfl,Nat.zero_le _,I1.kIn _ _ lC,nN.keeps I1.bk,hT _ I1.kIn,fun h' e hm hz=>?_⟩
 obtain⟨t,he,ht,_⟩:=hm.there
 have ne:=I1.hok.fresh hz
 have I3:Inv X pins σ (upd H1 e (.ext (ExP e C none none))) { s1 with heap:=h' }:=I1.adopt (ch:=[e]) (t':=s1.toks) (fun b o _ z=>hm.keeps b o z) (fun b hb=>by rw[List.mem_singleton.mp hb];exact I1.fpOk hz ne) (List.mem_singleton.mpr rfl) ⟨⟨_,_,he,rfl,rfl⟩,⟨_,he⟩,fun a1 a2 ⟨vs,sl,y,y2⟩ kq=>⟨vs,sl,kq _ y,y2⟩⟩
 exact thr pins σ _ H1 _ e C none none "" .non .none I3 ⟨upd_same,(fun d z=>by cases z),fun t z=>by cases z⟩ (.inr ⟨rfl,cl⟩) rfl ne (fun b o z=>by rw[upd_ne (ne_of_none z ne)];exact z) h
end
def tTrySN (K:PySem.W.Frag) (m:Nat) (tb:(St→XK)→TS) (cs:List Cl):TS:=fun D σ H=>∃E1:St→XK,tb E1 D σ H∧∀(σ':St) (u:Value) (C:Addr) (H0:Hp),E1 σ' u (some C) H0 →
 ∀(e:Addr) (H':Hp) (v:V),RelV v u→(∀b,XCls K C b→XAt H' e C b v)→(XPl K C→XAt0 H' e C)→(∀b o,H0 b=some o→H' b=some o)→σ'.length=m→tHan K C e σ' H' D cs
section
variable {X:Cx}{body:List Stmt}{pos:Pos}{tb:(St→XK)→TS}{hs:List ExceptHandler}{cs:List Cl}
theorem ps_trySN {h0:ExceptHandler}(hN:X.N.Nodup) (hf:X.env.frame=some X.env.locals) (hst:X.stack=X.env::X.outer)
  (hb:∀(xe:Value→Shared→Prop) (pn:List (Addr×Obj)) (E1:St→XK),ThrowsS { X with xe:=xe,pn:=pn } E1→PSs { X with xe:=xe,pn:=pn } body (tb E1)) (hP:PHs X (h0::hs) cs) :
  PS X (.Try body (h0::hs) [] [] pos) (tTrySN X.K X.N.length tb cs):=by
 intro pins s σ H D I h
 obtain⟨E1,hb1,hh⟩:=h
 refine wpAny_Try_except ?_
 let xe':Value→Shared→Prop:=fun ev s1=>wpAny (model X.prog X.w) X.A (noteFrame ev X.env) (fun _ s2=>wpAny (model X.prog X.w) X.A (setFlight ev none) (fun _ s3=>wpAny (model X.prog X.w) X.A (handleBy ev X.env (h0::hs)) (SP X pins D) X.xe s3) X.xe s2) X.xe s1
 have fwd:Inv { X with xe:=xe',pn:=X.pn++pins } [] σ H s :=
  ⟨⟨I.ok.mod,I.ok.kind,I.ok.glob,I.ok.blt,I.ok.above,I.ok.inj,I.ok.has,I.ok.cab,I.ok.hd,I.ok.frames,I.ok.stk,I.ok.exf,I.ok.bs,I.ok.bsz,I.ok.noex,I.ok.exfs,I.ok.funs,I.ok.frf⟩,I.os,I.bare,I.base,I.loc,I.cell,I.free,I.freeC,fun p hp=>I.pin p (by simpa using hp),I.hok,I.len⟩
 have bwd:∀{pins':List (Addr×Obj)}{σ':St}{H':Hp}{s':Shared},Inv { X with xe:=xe',pn:=X.pn++pins } pins' σ' H' s'→Inv X pins σ' H' s':=fun J =>
  ⟨I.ok,J.os,J.bare,J.base,J.loc,J.cell,J.free,J.freeC,fun p hp=>J.pin p (List.mem_append_left _ hp),J.hok,J.len⟩
 have thr:ThrowsS { X with xe:=xe',pn:=X.pn++pins } E1:=fun pins' σ' H1 H0 s1 e C Dx T a v u I1 x xc rv n0 k q=>by
  have J:=bwd I1
  refine J.note hst hf hf x fun T' H2 h' x2 k2 J2=>J2.flight x2 fun h'' J3 _=>?_
  refine han_ok hN I.ok hP x2 J3 (hh σ' u C H0 q e H2 v rv (fun b y=>?_) (fun y=>?_) (sub_next k2 n0 k) J3.len)
  ·rcases xc with⟨d,rfl,xc⟩|⟨rfl,xc⟩
   ·obtain rfl:=XCls.uniq J3.kIn xc y
    exact⟨d,some T',x2⟩
   ·exact(xc.no J3.kIn y).elim
  ·rcases xc with⟨d,rfl,xc⟩|⟨rfl,xc⟩
   ·exact(y.no J3.kIn xc).elim
   ·exact⟨some T',a,v,x2⟩
 refine wpAny_mono (hb xe' (X.pn++pins) E1 thr [] s σ H D fwd hb1) (fun f s1 h1=>?_) fun e s1 z=>z
 cases f with
 | next =>
  obtain⟨σ9,H9,J9,q9⟩:=h1
  exact wpAny_execs_nil ⟨_,_,bwd J9,q9⟩
 | brk =>
  obtain⟨σ9,H9,J9,q9⟩:=h1
  exact⟨_,_,bwd J9,q9⟩
 | cont =>
  obtain⟨σ9,H9,J9,q9⟩:=h1
  exact⟨_,_,bwd J9,q9⟩
 | ret u9 =>
  obtain⟨v9,σ9,H9,J9,r9,q9⟩:=h1
  exact⟨_,_,_,bwd J9,r9,q9⟩
end
section
variable {σ:St}{H:Hp}{D:Ends}
theorem rd_raiseS {C:Addr}{E:St→XK}{ta:TA}(h:ta σ H fun vs H1=>∃v,vs=[v]∧∀u,RelV v u→E σ u (some C) H1):tRaiseS C E ta D σ H:=h
end
end L2
namespace L2
open PySem PySem.Spec PyProof.Rows
section
variable {X:Cx}
end
end L2
namespace L2
open PySem PySem.Spec PyProof.Rows
def gV (u:Value):V:=(absV u).getD .non
section
variable {X:Cx}{pins:List (Addr×Obj)}{σ:St}{H:Hp}{s:Shared}{h':Heap}
variable {A:Around}{E:Value→Shared→Prop}
end
section
variable {X:Cx}{pins:List (Addr×Obj)}{σ:St}{H:Hp}{s:Shared}{E:Value→Shared→Prop}
end
section
variable {X:Cx}{e body:Expr}{t:TA}{te:TE}{k:Nat}{p kpos pos lpos:Pos}{params:Arguments}{scope:Scope}{y:Str}{fs:List Str}{js:List Nat}{P c:Addr}
end
end L2
namespace PySem.SeqAt
open AutoSeq1 (wpAny_loadPart')
open MeetsSeq
end PySem.SeqAt
namespace L2
open PySem PySem.Spec PyProof.Rows
section
variable {X:Cx}
end
end L2
namespace L2
open PySem PySem.Spec PyProof.Rows
section
variable {X:Cx}
end
end L2
namespace L2
open PySem PySem.Spec PyProof.Rows
section
variable {X:Cx}
open PySem.Builtin PySem.Builtin.Str in
end
section
variable {X:Cx}
end
abbrev TF:=St→Hp→Str→VK→Prop
section
variable {X:Cx}{e e1 e2:Expr}{es:List Expr}{te:TE}{t:TF}{pos:Pos}
end
section
variable {prog:Program}{w:World}{A:Around}{E:Value→Shared→Prop}{s:Shared}
end
section
variable {X:Cx}{pos:Pos}
end
end L2
namespace L2
open PySem PySem.Spec PyProof.Rows
section
variable {prog:Program}{w:World}{A:Around}{E:Value→Shared→Prop}{s:Shared}
structure Nx (prog:Program) (w:World) (A:Around) (i:Addr) (own:List Addr) (S:Nat→Heap→Prop) (val:Nat→Option Value):Prop where
 one:∀{k:Nat}{x:Value}{s:Shared}{E:Value→Shared→Prop}{Q:Value→Shared→Prop},S k s.heap→val k=some x→(∀g,S (k+1) g→Heap.SameBut i s.heap g→Q x { s with heap:=g })→wpAny (model prog w) A (Builtin.SmallTypes.nextOf (.ref i)) Q E s
 fin:∀{k:Nat}{s:Shared}{E:Value→Shared→Prop}{Q:Value→Shared→Prop},S k s.heap→val k=none→(∀g e,Heap.ExtBut i s.heap g→(∃o,g.get? e=some o∧o.cls = .type "StopIteration")→E (.ref e) { s with heap:=g })→wpAny (model prog w) A (Builtin.SmallTypes.nextOf (.ref i)) Q E s
 far:∀{k:Nat}{g g':Heap},S k g→(∀b∈own,∀o,g.get? b=some o→g'.get? b=some o)→S k g'
section
variable {z TI TO i1 i2:Addr}{o1 o2:List Addr}{S1 S2:Nat→Heap→Prop}{v1 v2:Nat→Option Value}{k:Nat}
end
end
section
variable {X:Cx}{elts:List Expr}{x1:_}{tpos:Pos}
end
section
variable {K:PySem.W.Frag}{H:Hp}{Q:VK}{σ:St}
end
end L2
namespace L2
open PySem PySem.Spec PyProof.Rows
section
variable {X:Cx}{o lo hi:Expr}{to:TE}{tl th:TO}{pos p2:Pos}
end
section
variable {X:Cx}
end
end L2
namespace L2
open PySem PySem.Spec PyProof.Rows
section
variable {X:Cx}{K:PySem.W.Frag}
end
end L2
namespace L2
open PySem PySem.Spec PyProof.Rows
section
variable {X:Cx}{e a b:Expr}{es:List Expr}{te ta tb:TE}{t u:TS}{st:Stmt}{rest:List Stmt}{pos:Pos}
end
end L2
namespace L2
open PySem PySem.Spec PyProof.Rows
section
variable {X:Cx}
def SlfV (K:PySem.W.Frag) (H:Hp) (x:V):Prop:=(∃d,DV K H x d∧SeqAt.shaped d=true∧PyData.eqv d d=true) ∨ ∃p kv,x = .ref p∧H p=some (.dK [kv])
def rEqS (K:PySem.W.Frag):R2:=fun x y H Q=>x=y∧SlfV K H x∧Q (.bl true) H
def rNeS (K:PySem.W.Frag):R2:=fun x y H Q=>x=y∧SlfV K H x∧Q (.bl false) H
theorem hits1 {P:Program}{w:World}{A:Around}{s:Shared}{p:Addr}{kv:Key×V}{vs:List (Key×Value)}(r:KV [kv] vs):PySem.W.KeqHits A s vs vs true:=by
 match vs,r with
 | [(k,v)],_ =>
  have:=PySem.W.KeqHits.hit (A:=A) (s:=s) (kb:=[(k,v)]) (k:=k) (v:=v) (y:=v) (r:=[]) (e:=true) (b:=true) (by simp[valueAt]) (SeqAt.EqAt.same v) .nil
  exact this
theorem op_eqS (hu:X.A.units+64<cLine):OpR X (compareOp .Eq) (rEqS X.K):=by
 intro pins s σ H x y v u Q I rx ry h
 obtain⟨rfl,h,q⟩:=h
 rcases h with⟨d,dv,sh,ee⟩|⟨p,kv,rfl,hp⟩
 ·exact op_eqD hu pins s σ H x x v u Q I rx ry ⟨d,d,dv,dv,sh,sh,by rw[ee];exact q⟩
 ·cases rx;cases ry
  obtain⟨hz,lo,vs,rk,dk⟩ : [kv].length≤sizeLine∧(p == sysModules)=false∧∃vs,KV [kv] vs∧s.heap.DictOf (mixKind X.prog X.w) p vs:=I.hok p _ hp
  refine PySem.W.keq_eq lo lo dk dk (by omega) (fun _=>hits1 (P:=X.prog) (w:=X.w) (p:=p) rk) ?_
  rw[show(vs.length == vs.length && true)=true by simp]
  exact⟨.bl _,H,I,rfl,q⟩
theorem op_neS (hu:X.A.units+64<cLine):OpR X (compareOp .NotEq) (rNeS X.K):=by
 intro pins s σ H x y v u Q I rx ry h
 obtain⟨rfl,h,q⟩:=h
 rcases h with⟨d,dv,sh,ee⟩|⟨p,kv,rfl,hp⟩
 ·exact op_neD hu pins s σ H x x v u Q I rx ry ⟨d,d,dv,dv,sh,sh,by rw[ee];exact q⟩
 ·cases rx;cases ry
  obtain⟨hz,lo,vs,rk,dk⟩ : [kv].length≤sizeLine∧(p == sysModules)=false∧∃vs,KV [kv] vs∧s.heap.DictOf (mixKind X.prog X.w) p vs:=I.hok p _ hp
  refine PySem.W.keq_ne lo lo dk dk (by omega) (fun _=>hits1 (P:=X.prog) (w:=X.w) (p:=p) rk) ?_
  rw[show(!(vs.length == vs.length && true))=false by simp]
  exact⟨.bl _,H,I,rfl,q⟩
theorem op_eqSK {K:PySem.W.Frag}(hK:X.K=K) (hu:X.A.units+64<cLine):OpR X (compareOp .Eq) (rEqS K):=by subst hK;exact op_eqS hu
end
end L2
set_option maxHeartbeats 4000000
local macro_rules | `(tactic| walk_at"rdc")=>`(tactic| first
  | (show (0:Int) < _; omega)
  | (show (0:Int) ≤ _; omega)
  | (show (0:Int) < _∧_ < 2 ^ 100; omega)
  | (show (-(2 ^ 64) < _∧_ < 2 ^ 64) ∨ (-(2 ^ 64) < _∧_ < 2 ^ 64); omega)
  | (show (0:Int) ≤ _∧_ ≤ 1000000∧Int.natAbs _ < 2 ^ 64; omega))
local macro_rules | `(tactic| walk_at"rd1")=>`(tactic| first
  | (with_reducible refine' L2.rd_allN (fun _ _=>?_)) | (with_reducible refine' L2.rd_seqO (fun _ _=>?_)) | (with_reducible refine' L2.rd_asg ?_) | ((with_reducible refine' L2.rd_gname ?_); (try dsimp only [List.set_cons_zero,List.set_cons_succ])) | (with_reducible refine' L2.rd_ret ?_) | (with_reducible refine' L2.rd_retN ?_) | (with_reducible refine' L2.rd_next ?_) | (with_reducible refine' L2.rd_drop ?_) | (with_reducible refine' L2.rd_ifSO (fun _ _ _ _=>?_))
  | (with_reducible refine' L2.rd_op ?_) | (with_reducible refine' L2.rd_un ?_) | (with_reducible refine' L2.rd_c ?_) | ((with_reducible refine' L2.rd_var ?rdv ?_); (case rdv=>rfl))
  | (with_reducible refine' L2.rd_I0 ?_) | (with_reducible refine' L2.rd_U ?_) | (with_reducible refine' L2.rd_eqI ?_) | (with_reducible refine' L2.rd_neI ?_) | (with_reducible refine' L2.rd_eqB ?_) | (with_reducible refine' L2.rd_neB ?_)
  | (with_reducible refine' L2.rd_test ?_) | (with_reducible refine' L2.rd_tB ?_) | (with_reducible refine' L2.rd_and ?_) | (with_reducible refine' L2.rd_or ?_) | (with_reducible refine' L2.rd_not ?_) | (with_reducible refine' L2.rd_andV ?_) | (with_reducible refine' L2.rd_orV ?_) | (with_reducible refine' L2.rd_notV ?_) | (with_reducible refine' L2.rd_chain ?_) | (with_reducible refine' L2.rd_ifE ?_)
  | (with_reducible refine' L2.rd_nil ?_) | (with_reducible refine' L2.rd_cons ?_) | (with_reducible refine' L2.rd_call ?_) | (with_reducible refine' L2.rd_cb ?_) | (with_reducible refine' L2.rd_lst ?_) | (with_reducible refine' L2.rd_tup ?_) | (with_reducible refine' L2.rd_bm0 ?_) | (with_reducible refine' L2.rd_bm ?_) | (with_reducible refine' L2.rd_augS ?_) | ((with_reducible refine' L2.rd_ip ?_); (try dsimp only [List.set_cons_zero,List.set_cons_succ])) | ((with_reducible refine' L2.rd_aug ?rdv ?_); (case rdv=>rfl)) | (with_reducible refine' L2.rd_izip ?_) | (with_reducible refine' L2.rd_ivals ?_) | (with_reducible refine' L2.rd_dget2 ?_) | (with_reducible refine' L2.rd_dput ?_) | (with_reducible refine' L2.rd_dget ?_) | (with_reducible refine' L2.rd_dnewK ?_) | (with_reducible refine' L2.rd_sortK ?_) | (with_reducible refine' L2.rd_sortLam ?_) | (with_reducible refine' L2.rd_orG ?_) | (with_reducible refine' L2.rd_isB ?_) | (with_reducible refine' L2.rd_gsub ?_) | (with_reducible refine' L2.rd_meth ?_) | (with_reducible refine' L2.rd_make ?_) | (with_reducible refine' L2.rd_fld ?_) | (with_reducible refine' L2.rd_sfld ?_) | (with_reducible refine' L2.rd_din ?_) | (with_reducible refine' L2.rd_dnin ?_) | (with_reducible refine' L2.rd_idict ?_) | (with_reducible refine' L2.rd_dpop ?_) | (with_reducible refine' L2.rd_raise ?_) | (with_reducible refine' L2.rd_sortLamV ?_) | (with_reducible refine' L2.rd_xat ?_)
  | (with_reducible refine' L2.rd_sl ?_) | (with_reducible refine' L2.rd_nop ?_) | (with_reducible refine' L2.rd_part ?_) | (with_reducible refine' L2.rd_bl ?_) | (with_reducible refine' L2.rd_int ?_)
  | (with_reducible refine' L2.rd_iteT ?_) | (with_reducible refine' L2.rd_iteF ?_) | (with_reducible refine' L2.rd_iteNF ?_) | (with_reducible refine' L2.rd_iteNT ?_)
  | (with_reducible refine' L2.rd_forO (fun _ _=>?_)) | (with_reducible refine' L2.rd_rng1 ?_) | (with_reducible refine' L2.rd_rng2 ?_) | (with_reducible refine' L2.rd_ilist ?_) | (with_reducible refine' L2.rd_comp ?_) | (with_reducible refine' L2.rd_yes ?_)
  | (with_reducible refine' L2.rd_itup ?_) | (with_reducible refine' L2.rd_istr ?_) | (with_reducible refine' L2.rd_leS ?_) | (with_reducible refine' L2.rd_inS ?_)
  | (with_reducible refine' L2.rd_abs ?_) | (with_reducible refine' L2.rd_max ?_) | (with_reducible refine' L2.rd_min ?_) | (with_reducible refine' L2.rd_bitlen ?_)
  | (with_reducible refine' L2.rd_tF ?_) | (with_reducible refine' L2.rd_tfV ?_) | (with_reducible refine' L2.rd_izip2 ?_) | (with_reducible refine' L2.rd_iseq ?_)
  | (with_reducible refine' L2.rd_rev ?_) | (with_reducible refine' L2.rd_ienum ?_) | (with_reducible refine' L2.rd_intB ?_)
  | ((with_reducible refine' L2.rd_ixL (L2.SqL.of ?rdh) ?rde ?_); (case rdh=>assumption); (case rde=>rfl))
  | ((with_reducible refine' L2.rd_set0 ?rdh ?_); (case rdh=>assumption))
  | ((with_reducible refine' L2.rd_set1 ?rdh ?_); (case rdh=>assumption))
  | ((with_reducible refine' L2.rd_setL ?rdh ?rde ?_); (case rdh=>assumption); (case rde=>rfl))
  | ((with_reducible refine' L2.rd_ixT (L2.SqT.of ?rdh) ?rde ?_); (case rdh=>assumption); (case rde=>rfl))
  | ((with_reducible refine' L2.rd_lenL (L2.SqL.of ?rdh) ?_); (case rdh=>assumption))
  | ((with_reducible refine' L2.rd_I ?rdc ?_); (case rdc=>walk_at"rdc"))
  | ((with_reducible refine' L2.rd_tx ?rdt ?_); (case rdt=>assumption); (try dsimp only [List.set_cons_zero,List.set_cons_succ]))
  | (dsimp only; (with_reducible refine' L2.rd_tx ?rdt ?_); (case rdt=>assumption); (try dsimp only [List.set_cons_zero,List.set_cons_succ]))
  | ((with_reducible refine' L2.rd_isN ?rdt ?_); (case rdt=>assumption); (try dsimp only))
  | (dsimp only; (with_reducible refine' L2.rd_isN ?rdt ?_); (case rdt=>assumption); (try dsimp only)))
local macro_rules | `(tactic| walk_at"rd")=>`(tactic| repeat walk_at"rd1")
local macro_rules | `(tactic| walk_at"lk")=>`(tactic| first | k_is | ((refine' L2.Ga.mk ?lka ?lkl ?lkc ?lkk); (case lka=>k_is); (case lkl=>k_is); (case lkc=>k_is); (case lkk=>k_is)) | ((refine' L2.Ga2.mk ?lka ?lkb ?lkl ?lkc ?lkk); (case lka=>k_is); (case lkb=>k_is); (case lkl=>k_is); (case lkc=>k_is); (case lkk=>k_is)) | ((refine' L2.Me.mk ?lka ?lkb ?lkl ?lkc ?lkk); (case lka=>k_is); (case lkb=>k_is); (case lkl=>k_is); (case lkc=>k_is); (case lkk=>k_is)))
namespace Law
open PySem PySem.Spec PyProof.Rows L2
def top (i:Nat):Stmt:=PySem.Challenge.pw_tailrooms_k18_refusals_apart.main.body.getD i (.Pass ⟨0,0,0,0⟩)
abbrev s__law_open:Stmt:=top 15
abbrev s__law_draw:Stmt:=top 16
abbrev s__law_far:Stmt:=top 17
abbrev s__law_thing:Stmt:=top 18
abbrev s__law_flags:Stmt:=top 19
abbrev s__law_made:Stmt:=top 20
abbrev s__law_values:Stmt:=top 21
abbrev s__law_same:Stmt:=top 22
abbrev s__law_taken:Stmt:=top 23
abbrev s_law:Stmt:=top 24
theorem sc__law_open:FnScope ["_law_script", "_law_place", "_law_cells", "_law_at", "_law_digits"] ["_law_script", "_law_place"] (defScope s__law_open):=⟨rfl,rfl,rfl,by decide +kernel,rfl,by decide +kernel,by decide +kernel⟩
theorem sc__law_draw:FnScope ["_law_hand", "_law_many", "_law_got", "_law_k", "_law_number"] ["_law_hand", "_law_many"] (defScope s__law_draw):=⟨rfl,rfl,rfl,by decide +kernel,rfl,by decide +kernel,by decide +kernel⟩
theorem sc__law_far:FnScope ["_law_hand", "_law_many", "_law_number", "_law_k"] ["_law_hand", "_law_many"] (defScope s__law_far):=⟨rfl,rfl,rfl,by decide +kernel,rfl,by decide +kernel,by decide +kernel⟩
theorem sc__law_thing:FnScope ["_law_hand", "_law_number", "_law_some"] ["_law_hand"] (defScope s__law_thing):=⟨rfl,rfl,rfl,by decide +kernel,rfl,by decide +kernel,by decide +kernel⟩
theorem sc__law_flags:FnScope ["_law_e", "_law_some"] ["_law_e"] (defScope s__law_flags):=⟨rfl,rfl,rfl,by decide +kernel,rfl,by decide +kernel,by decide +kernel⟩
theorem sc__law_made:FnScope ["_law_some", "_law_made_here"] ["_law_some"] (defScope s__law_made):=⟨rfl,rfl,rfl,by decide +kernel,rfl,by decide +kernel,by decide +kernel⟩
theorem sc__law_values:FnScope ["_law_made_here", "_law_told"] ["_law_made_here"] (defScope s__law_values):=⟨rfl,rfl,rfl,by decide +kernel,rfl,by decide +kernel,by decide +kernel⟩
theorem sc__law_same:FnScope ["_law_one", "_law_other", "_law_k"] ["_law_one", "_law_other"] (defScope s__law_same):=⟨rfl,rfl,rfl,by decide +kernel,rfl,by decide +kernel,by decide +kernel⟩
theorem sc__law_taken:FnScope ["_law_k", "_law_thing_here", "_law_e"] ["_law_k", "_law_thing_here"] (defScope s__law_taken):=⟨rfl,rfl,rfl,by decide +kernel,rfl,by decide +kernel,by decide +kernel⟩
theorem sc_law:FnScope ["_law_script", "_law_place", "_law_hand", "_law_some", "_law_k", "_law_more", "_law_made_here", "_law_others"] ["_law_script"] (defScope s_law):=⟨rfl,rfl,rfl,by decide +kernel,rfl,by decide +kernel,by decide +kernel⟩
theorem st__law_open (x0 x1:V):start ["_law_script", "_law_place", "_law_cells", "_law_at", "_law_digits"] [x0,x1]=[some x0,some x1,none,none,none]:=rfl
theorem st__law_draw (x0 x1:V):start ["_law_hand", "_law_many", "_law_got", "_law_k", "_law_number"] [x0,x1]=[some x0,some x1,none,none,none]:=rfl
theorem st__law_far (x0 x1:V):start ["_law_hand", "_law_many", "_law_number", "_law_k"] [x0,x1]=[some x0,some x1,none,none]:=rfl
theorem st__law_thing (x0:V):start ["_law_hand", "_law_number", "_law_some"] [x0]=[some x0,none,none]:=rfl
theorem st__law_flags (x0:V):start ["_law_e", "_law_some"] [x0]=[some x0,none]:=rfl
theorem st__law_made (x0:V):start ["_law_some", "_law_made_here"] [x0]=[some x0,none]:=rfl
theorem st__law_values (x0:V):start ["_law_made_here", "_law_told"] [x0]=[some x0,none]:=rfl
theorem st__law_same (x0 x1:V):start ["_law_one", "_law_other", "_law_k"] [x0,x1]=[some x0,some x1,none]:=rfl
theorem st__law_taken (x0 x1:V):start ["_law_k", "_law_thing_here", "_law_e"] [x0,x1]=[some x0,some x1,none]:=rfl
theorem st_law (x0:V):start ["_law_script", "_law_place", "_law_hand", "_law_some", "_law_k", "_law_more", "_law_made_here", "_law_others"] [x0]=[some x0,none,none,none,none,none,none,none]:=rfl
structure Bl (mg:Str→Option Value):Prop where
 abs:mg "abs" = none
 len:mg "len" = none
 range:mg "range" = none
 isinstance:mg "isinstance" = none
 bool:mg "bool" = none
 max:mg "max" = none
 min:mg "min" = none
 all:mg "all" = none
 ValueError:mg "ValueError" = none
structure Hand (H:Hp) (p:Addr) (N:Nat):Prop where
 ex:∃(l:Addr) (d c:Int) (ns:List Int),H p=some (.lst [.int d,.int c,.ref l])∧H l=some (.lst (ns.map V.int))∧0≤c∧c≤N∧ns ≠ []
theorem Hand.mono {H:Hp}{p:Addr}{N M:Nat}(h:Hand H p N) (hm:N≤M):Hand H p M:=by
 obtain⟨l,d,c,ns,h1,h2,h3,h4,h5⟩:=h.ex
 exact⟨l,d,c,ns,h1,h2,h3,by omega,h5⟩
def cellsOf (H:Hp) (p:Addr):Option Addr:=match H p with
 | some (.lst [_,_,.ref l])=>some l
 | _=>none
theorem cells_of {H:Hp}{p l:Addr}{a b:V}(h:H p=some (.lst [a,b,.ref l])):cellsOf H p=some l:=by unfold cellsOf;rw[h]
def Kp (H H':Hp) (p:Addr):Prop:=(∀b o,H b=some o→b≠p→H' b=some o)∧cellsOf H' p=cellsOf H p
theorem Kp.refl (H:Hp) (p:Addr):Kp H H p:=⟨fun _ _ h _=>h,rfl⟩
theorem Kp.trans {H H1 H2:Hp}{p:Addr}(a:Kp H H1 p) (b:Kp H1 H2 p):Kp H H2 p:=⟨fun c o h n=>b.1 c o (a.1 c o h n) n,b.2.trans a.2⟩
theorem Kp.hand {H:Hp}{p l:Addr}{a b a' b':V}(h:H p=some (.lst [a,b,.ref l])):Kp H (upd H p (.lst [a',b',.ref l])) p :=
 ⟨fun b u h n=>by rw[upd_ne n];exact h,by rw[cells_of upd_same,cells_of h]⟩
theorem Kp.of {H H':Hp}{p:Addr}{N:Nat}(h:Same H H') (hh:Hand H p N):Kp H H' p:=by
 obtain⟨l,d,c,ns,h1,_⟩:=hh.ex
 exact⟨fun b o q _=>h b o q,by rw[cells_of h1,cells_of (h _ _ h1)]⟩
theorem Kp.new {H H1 H2:Hp}{p:Addr}(a:Same H H1) (n:H p=none) (b:Kp H1 H2 p):Same H H2:=fun c o h=>b.1 c o (a c o h) (ne_of_none h n)
theorem Kp.free {H H':Hp}{p l:Addr}(k:Kp H H' p) (n:H' l=none) (h:l≠p):H l=none:=by
 cases e:H l with
 | none=>rfl
 | some o=>rw[k.1 _ _ e h]at n;cases n
theorem Hand.upd {H:Hp}{p c:Addr}{N:Nat}{o:HO}(h:Hand H p N) (n:c≠p) (nl:cellsOf H p≠some c):Hand (L2.upd H c o) p N:=by
 obtain⟨l,d,k,ns,h1,h2,r⟩:=h.ex
 have ne:l≠c:=fun z=>nl (by rw[cells_of h1,z])
 exact⟨l,d,k,ns,by rw[upd_ne n.symm];exact h1,by rw[upd_ne ne];exact h2,r⟩
theorem cells_new {H:Hp}{p c:Addr}{N:Nat}(h:Hand H p N) (n:H c=none):cellsOf H p≠some c:=by
 obtain⟨l,d,k,ns,h1,h2,r⟩:=h.ex
 rw[cells_of h1]
 intro z
 exact ne_of_none h2 n (Option.some.inj z)
theorem cells_upd {H:Hp}{p c:Addr}{o:HO}(n:c≠p):cellsOf (L2.upd H c o) p=cellsOf H p:=by unfold cellsOf;rw[upd_ne n.symm]
theorem Hand.same {H H':Hp}{p:Addr}{N:Nat}(h:Hand H p N) (s:Same H H'):Hand H' p N:=by
 obtain⟨l,d,c,ns,h1,h2,r⟩:=h.ex
 exact⟨l,d,c,ns,s _ _ h1,s _ _ h2,r⟩
theorem nsMod {ns:List Int}(h:ns ≠ []) (k:Int):∃v,atI (ns.map V.int) (k%((ns.map V.int).length:Int))=some (.int v):=by
 have hl:0<ns.length:=List.length_pos_iff.mpr h
 rw[List.length_map]
 have h0:0≤k%(ns.length:Int):=Int.emod_nonneg _ (by omega)
 have h1:k%(ns.length:Int)<ns.length:=Int.emod_lt_of_pos _ (by omega)
 have ek:k%(ns.length:Int) =(((k%(ns.length:Int)).toNat:Nat):Int):=by omega
 have hk:(k%(ns.length:Int)).toNat<ns.length:=by omega
 obtain⟨j,hj⟩ : ∃j:Nat,k%(ns.length:Int) =(j:Int):=⟨_,ek⟩
 have hk2:j<ns.length:=by omega
 refine⟨ns[j],?_⟩
 rw[hj]
 exact atI_nat (by rw[List.getElem?_map,List.getElem?_eq_getElem hk2] <;> rfl)
theorem hand_ne {H:Hp}{p l:Addr}{d c:Int}{ns:List Int}(hp:H p=some (.lst [.int d,.int c,.ref l])) (hl:H l=some (.lst (ns.map V.int))):l≠p:=by
 refine ne_of hl hp fun z=>?_
 injection z with z
 have q:=congrArg (fun x=>x[2]?) z
 rw[List.getElem?_map]at q
 cases e:ns[2]? with
 | none=>rw[e]at q;cases q
 | some v=>rw[e]at q;cases q
theorem len_pos {ns:List Int}(h:ns ≠ []):(0:Int) <((ns.map V.int).length:Int):=by
 rw[List.length_map]
 have:=List.length_pos_iff.mpr h
 omega
theorem newo {H1 H2:Hp}{l:Addr}{o:HO}(n:H1 l=none) (e:L2.upd H1 l o=H2):H2 l=some o∧Same H1 H2:=by
 subst e;exact⟨upd_same,same_new n _⟩
theorem Hand.ne {H:Hp}{p l:Addr}{N:Nat}(hh:Hand H p N) (n:H l=none):l≠p:=by
 obtain⟨l1,d,c,ns,h1,_⟩:=hh.ex
 exact(ne_of_none h1 n).symm
structure CK (H0:Hp) (p D:Addr) (N:Nat) (ys:List V) (H':Hp):Prop where
 hh:Hand H' p N
 lat:H' D=some (.lst ys)
 kp:Kp H0 H' p
 n0:H0 D=none
 np:D≠p
 nc:cellsOf H0 p≠some D
theorem CK.start {H0:Hp}{p D:Addr}{N:Nat}(hh:Hand H0 p N) (n:H0 D=none) {ys:List V}:CK H0 p D N ys (L2.upd H0 D (.lst ys)) where
 hh:=hh.same (same_new n _)
 lat:=upd_same
 kp:=Kp.of (same_new n _) hh
 n0:=n
 np:=by
  obtain⟨l1,d,c,ns,h1,_⟩:=hh.ex
  exact(ne_of_none h1 n).symm
 nc:=cells_new hh n
theorem CK.draw {H0 H' H2:Hp}{p D:Addr}{N M:Nat}{ys:List V}(c:CK H0 p D N ys H') (k:Kp H' H2 p) (hh:Hand H2 p M):CK H0 p D M ys H2 :=
 ⟨hh,k.1 _ _ c.lat c.np,c.kp.trans k,c.n0,c.np,c.nc⟩
theorem CK.push {H0 H':Hp}{p D:Addr}{N:Nat}{ys zs:List V}(c:CK H0 p D N ys H'):CK H0 p D N zs (L2.upd H' D (.lst zs)) where
 hh:=c.hh.upd c.np (by rw[c.kp.2];exact c.nc)
 lat:=upd_same
 kp:=⟨fun b o h n=>by rw[upd_ne (ne_of_none h c.n0)];exact c.kp.1 _ _ h n,by rw[cells_upd c.np];exact c.kp.2⟩
 n0:=c.n0
 np:=c.np
 nc:=c.nc
def sp__law_draw (K:PySem.W.Frag):Sp:=fun vs H Q _=>∃(p:Addr) (N:Nat) (n:Int),vs=[.ref p,.int n]∧Hand H p N∧N<2^60∧0<n∧n<2^100 ∧
 ∀(r:Int) (H':Hp),0≤r→r<n→Hand H' p (N+1)→Kp H H' p→Q (.int r) H'
def sp__law_far (K:PySem.W.Frag):Sp:=fun vs H Q _=>∃(p:Addr) (N:Nat) (n:Int),vs=[.ref p,.int n]∧Hand H p N∧N+10<2^60∧0<n∧n<2^100 ∧
 ∀(r:Int) (H':Hp),0≤r→r<n→Hand H' p (N+7)→Kp H H' p→Q (.int r) H'
def sp__law_power (K:PySem.W.Frag):Sp:=fun vs H Q _=>∃(m:Nat),vs=[.int m]∧m≤1000∧Q (.int (2^m)) H
def sp__law_open (K:PySem.W.Frag):Sp:=fun vs H Q _=>∃(a:Addr) (ns:List Int) (pl:Int),vs=[.ref a,.int pl]∧SqL K H a (ns.map V.int)∧ns.length≤63∧0≤pl∧pl≤1000 ∧
 ∀(p:Addr) (H':Hp),H p=none→Same H H'→Hand H' p 1100000→Q (.ref p) H'
def sp__law_key (K:PySem.W.Frag):Sp:=fun vs H Q _=>∃(p:Addr) (N:Nat),vs=[.ref p]∧Hand H p N∧N+30<2^60 ∧
 ∀(r:Int) (H':Hp),0≤r→r<2^60→Hand H' p (N+20)→Kp H H' p→Q (.int r) H'
def sp_law (K:PySem.W.Frag):Sp:=fun vs H Q _=>∃(a:Addr) (ns:List Int),vs=[.ref a]∧SqL K H a (ns.map V.int)∧ns.length≤63∧∀H',Q (.bl true) H'
def kitTab (K:PySem.W.Frag) (cs:List Addr):Bool:=(cs.all fun c=>cs.all fun d=>PySem.W.kitOne K (.ref c) (.ref d) == some (c == d)) && decide cs.Nodup
def kitTop (K:PySem.W.Frag) (TE:Addr) (cs:List Addr):Bool:=cs.all fun c=>PySem.W.kitOne K (.ref c) (.ref TE) == some true && PySem.W.kitOne K (.ref c) (.type "ValueError") == some true
theorem kitTab.at {K:PySem.W.Frag}{cs:List Addr}(h:kitTab K cs=true) {c d:Addr}(hc:c∈cs) (hd:d∈cs):PySem.W.kitOne K (.ref c) (.ref d)=some (c == d):=by
 unfold kitTab at h
 rw[Bool.and_eq_true]at h
 have:=List.all_eq_true.mp (List.all_eq_true.mp h.1 c hc) d hd
 exact eq_of_beq this
theorem kitTab.nd {K:PySem.W.Frag}{cs:List Addr}(h:kitTab K cs=true):cs.Nodup:=by
 unfold kitTab at h
 rw[Bool.and_eq_true]at h
 exact of_decide_eq_true h.2
theorem kitTop.at {K:PySem.W.Frag}{TE:Addr}{cs:List Addr}(h:kitTop K TE cs=true) {c:Addr}(hc:c∈cs):PySem.W.kitOne K (.ref c) (.ref TE)=some true∧PySem.W.kitOne K (.ref c) (.type "ValueError")=some true:=by
 have:=List.all_eq_true.mp h c hc
 rw[Bool.and_eq_true]at this
 exact⟨eq_of_beq this.1,eq_of_beq this.2⟩
def nm12:List Str:=["NoSize", "NoKey", "NoThing", "NoRoom", "Lacking", "Full", "NoMark", "NoName", "Taken", "Busy", "NoText", "NoLine"]
def Is12 (K:PySem.W.Frag) (cs:List Addr):Prop:=cs.length=12∧∀(i:Nat) (x:Str) (c:Addr),nm12[i]? = some x→cs[i]? = some c→PySem.W.nsIn K mainGlobals x=some (some (.ref c))
theorem Is12.uniq {K:PySem.W.Frag}{cs ds:List Addr}(h:Is12 K cs) (g:Is12 K ds):cs=ds:=by
 apply List.ext_getElem?
 intro i
 by_cases hi:i<12
 ·have h1:i<cs.length:=by rw[h.1];exact hi
  have h2:i<ds.length:=by rw[g.1];exact hi
  have h3:i<nm12.length:=hi
  have a:=h.2 i _ _ (List.getElem?_eq_getElem h3) (List.getElem?_eq_getElem h1)
  have b:=g.2 i _ _ (List.getElem?_eq_getElem h3) (List.getElem?_eq_getElem h2)
  rw[a]at b
  rw[List.getElem?_eq_getElem h1,List.getElem?_eq_getElem h2]
  exact congrArg some (Value.ref.inj (Option.some.inj (Option.some.inj b)))
 ·rw[List.getElem?_eq_none (by rw[h.1];omega),List.getElem?_eq_none (by rw[g.1];omega)]
def sp__law_flags (K:PySem.W.Frag):Sp:=fun vs H Q _=>∃(e C:Addr) (cs:List Addr),vs=[.ref e]∧Is12 K cs∧C∈cs∧XAny H e C∧XKit K C ∧
 ∀l H',H' l=some (.lst ((cs.map fun c=>C == c).map V.bl))→Same H H'→Q (.ref l) H'
theorem rd_pairs1 {tk tv:TE}{σ:L2.St}{H:Hp}{R:List (V×V)→Hp→Prop}(h:tk σ H fun x H1=>tv σ H1 fun y H2=>R [(x,y)] H2):tPairs [(tk,tv)] σ H R:=h
theorem tup_shaped (n:Int):SeqAt.shaped (.tuple [.int n,.str (Str.ofString "a")])=true:=by
 have h:SeqAt.shaped (.tuple [.int 0,.str (Str.ofString "a")])=true:=by decide +kernel
 exact h
inductive Thg (H:Hp):V→Prop
 | non:Thg H .non
 | bl (b:Bool):Thg H (.bl b)
 | int (n:Int):Thg H (.int n)
 | str (x:Str) (hs:SeqAt.shaped (.str x)=true):Thg H (.str x)
 | lst {a:Addr}{n:Int}:H a=some (.lst [.int n])→Thg H (.ref a)
 | tup {a:Addr}{n:Int}:H a=some (.tup [.int n,.str "a"])→Thg H (.ref a)
 | dic {a:Addr}{kv:Key×V}:H a=some (.dK [kv])→Thg H (.ref a)
theorem Thg.same {H H':Hp}{x:V}(h:Thg H x) (s:Same H H'):Thg H' x:=by
 cases h with
 | non=>exact .non
 | bl b=>exact .bl b
 | int n=>exact .int n
 | str x hs=>exact .str x hs
 | lst e=>exact .lst (s _ _ e)
 | tup e=>exact .tup (s _ _ e)
 | dic e=>exact .dic (s _ _ e)
theorem Thg.slf {K:PySem.W.Frag}{H:Hp}{x:V}(h:Thg H x):SlfV K H x:=by
 cases h with
 | non=>exact .inl ⟨_,.non,rfl,rfl⟩
 | bl b=>exact .inl ⟨_,.bl b,rfl,by cases b <;> rfl⟩
 | int n=>exact .inl ⟨_,.int n,rfl,by simp[PyData.eqv]⟩
 | str x hs=>exact .inl ⟨_,.str x,hs,by simp[PyData.eqv]⟩
 | lst e=>exact .inl ⟨_,.lst (SqL.of e) (.cons (.int _) .nil),rfl,by simp[PyData.eqv,PyData.eqvAll]⟩
 | tup e=>exact .inl ⟨_,.tup (SqT.of e) (.cons (.int _) (.cons (.str _) .nil)),tup_shaped _,by simp[PyData.eqv,PyData.eqvAll]⟩
 | dic e=>exact .inr ⟨_,_,rfl,e⟩
theorem Thg.isb {K:PySem.W.Frag}{H:Hp}{x:V}(h:Thg H x):∃t b,TyOf K H x t∧PySem.W.kitOne K t (.type "bool")=some b:=by
 cases h with
 | non=>exact⟨_,_,.non,rfl⟩
 | bl b=>exact⟨_,_,.bl b,rfl⟩
 | int n=>exact⟨_,_,.int n,rfl⟩
 | str x _=>exact⟨_,_,.str x,rfl⟩
 | lst e=>exact⟨_,_,.lst e,rfl⟩
 | tup e=>exact⟨_,_,.tup e,rfl⟩
 | dic e=>exact⟨_,_,.dK e,rfl⟩
theorem Thg.kp {H H':Hp}{p:Addr}{N:Nat}{x:V}(h:Thg H x) (hh:Hand H p N) (k:Kp H H' p):Thg H' x:=by
 obtain⟨l,d,c,ns,h1,_⟩:=hh.ex
 cases h with
 | non=>exact .non
 | bl b=>exact .bl b
 | int n=>exact .int n
 | str x hs=>exact .str x hs
 | lst e=>exact .lst (k.1 _ _ e (ne_of e h1 (by intro z;injection z with z;cases z)))
 | tup e=>exact .tup (k.1 _ _ e (ne_of e h1 (by intro z;cases z)))
 | dic e=>exact .dic (k.1 _ _ e (ne_of e h1 (by intro z;cases z)))
theorem cut8:∀n:Nat,n<9→SeqAt.shaped (.str (Txt.slice (Str.ofString "abcdefgh") none (some (n:Int))))=true:=by decide +kernel
theorem ne_of_list10 {H:Hp}{p o:Addr}{N:Nat}{a b c d:V}{r:List V}(hh:Hand H p N) (h:H o=some (.lst (a::b::c::d::r))):o≠p:=by
 obtain⟨l,d',c',ns,h1,_⟩:=hh.ex
 exact ne_of h h1 (by intro z;injection z with z;injections)
def sp__law_thing (K:PySem.W.Frag):Sp:=fun vs H Q _=>∃(p:Addr) (N:Nat),vs=[.ref p]∧Hand H p N∧N+30<2^60 ∧
 ∀(x:V) (H':Hp),Thg H' x→(∀a,x = .ref a→H a=none)→Hand H' p (N+10)→Kp H H' p→Q x H'
def at9:List Str:=["thing", "key", "thing", "number", "key", "many", "mark", "name", "name"]
structure Made (K:PySem.W.Frag) (H:Hp) (cs es:List Addr) (xs:List V):Prop where
 len:es.length=12
 any:∀(i:Nat) (c e:Addr),cs[i]? = some c→es[i]? = some e→XAny H e c
 at':∀(i:Nat) (c e:Addr) (a:Str) (x:V),cs[i]? = some c→es[i]? = some e→at9[i]? = some a→xs[i]? = some x→XAt H e c a x
 kit:∀c∈cs,XKit K c
 atr:∀(i:Nat) (c:Addr) (a:Str),cs[i]? = some c→at9[i]? = some a→XAttr K c a
theorem Made.same {K:PySem.W.Frag}{H H':Hp}{cs es:List Addr}{xs:List V}(m:Made K H cs es xs) (s:Same H H'):Made K H' cs es xs :=
 ⟨m.len,fun i c e h1 h2=>(m.any i c e h1 h2).same s,fun i c e a x h1 h2 h3 h4=>(m.at' i c e a x h1 h2 h3 h4).same s,m.kit,m.atr⟩
theorem mkx_new {H1 H2:Hp}{e C D:Addr}{a:Str}{v:V}(ne:H1 e=none) (nD:H1 D=none) (hn:D≠e) (hE:L2.upd (L2.upd H1 e (.ext (ExP e C (some D) none))) D (.xd [(a,v)])=H2):XAt H2 e C a v∧Same H1 H2:=by
 subst hE
 exact⟨mkx_at hn,(same_new ne _).trans (same_new (by rw[upd_ne hn];exact nD) _)⟩
theorem mkx0_new {H1 H2:Hp}{e C:Addr}(ne:H1 e=none) (hE:L2.upd H1 e (.ext (ExP e C none none))=H2):XAny H2 e C∧Same H1 H2:=by
 subst hE
 exact⟨mkx_at0.any,same_new ne _⟩
theorem nine {α:Type}{xs:List α}(h:xs.length=9):∃a b c d e f g i j,xs=[a,b,c,d,e,f,g,i,j]:=by
 match xs,h with
 | [a,b,c,d,e,f,g,i,j],_=>exact⟨a,b,c,d,e,f,g,i,j,rfl⟩
theorem twelve {α:Type}{xs:List α}(h:xs.length=12):∃a b c d e f g i j k l m,xs=[a,b,c,d,e,f,g,i,j,k,l,m]:=by
 match xs,h with
 | [a,b,c,d,e,f,g,i,j,k,l,m],_=>exact⟨a,b,c,d,e,f,g,i,j,k,l,m,rfl⟩
def sp__law_made (K:PySem.W.Frag):Sp:=fun vs H Q _=>∃(a:Addr) (xs:List V) (cs:List Addr),vs=[.ref a]∧H a=some (.lst xs)∧xs.length=9∧Is12 K cs ∧
 ∀(l:Addr) (es:List Addr) (H':Hp),H' l=some (.lst (es.map V.ref))→Made K H' cs es xs→Same H H'→Q (.ref l) H'
def sp__law_values (K:PySem.W.Frag):Sp:=fun vs H Q _=>∃(l:Addr) (es cs:List Addr) (xs:List V),vs=[.ref l]∧H l=some (.lst (es.map V.ref))∧xs.length=9∧cs.length=12∧Made K H cs es xs ∧
 ∀(r:Addr) (H':Hp),H' r=some (.lst xs)→Same H H'→Q (.ref r) H'
def sp__law_same (K:PySem.W.Frag):Sp:=fun vs H Q _=>∃(a b:Addr) (xs:List V),vs=[.ref a,.ref b]∧H a=some (.lst xs)∧H b=some (.lst xs)∧xs.length=9∧(∀x∈xs,Thg H x)∧Q (.bl true) H
def sp__law_taken (K:PySem.W.Frag):Sp:=fun vs H Q _=>∃(k:Int) (x:V),vs=[.int k,x]∧0≤k∧k<3∧Thg H x∧∀H',Same H H'→Q (.bl true) H'
theorem bools12 {bs:List Bool}(h:bs.length=12):SeqAt.shaped (.list (bs.map PyData.bool))=true∧PyData.eqv (.list (bs.map PyData.bool)) (.list (bs.map PyData.bool))=true:=by
 obtain⟨b0,b1,b2,b3,b4,b5,b6,b7,b8,b9,b10,b11,rfl⟩:=twelve h
 exact⟨rfl,by simp[PyData.eqv,PyData.eqvAll]⟩
def tells (k:Nat):List Bool:=(List.range 12).map fun(j:Nat)=>decide ((0:Int)+(j:Int) =(k:Int))
theorem tells_len (k:Nat):(tells k).length=12:=by simp[tells]
theorem flags_eq {cs:List Addr}{k:Nat}{C:Addr}(hl:cs.length=12) (nd:cs.Nodup) (hk:cs[k]? = some C):(cs.map fun c=>C == c)=tells k:=by
 apply List.ext_getElem?
 intro i
 unfold tells
 rw[List.getElem?_map,List.getElem?_map]
 by_cases hi:i<12
 ·rw[List.getElem?_eq_getElem (l:=cs) (by omega),List.getElem?_range hi]
  show some (C == cs[i])=some (decide ((0:Int)+(i:Int) =(k:Int)))
  have hk':=List.getElem?_eq_some_iff.mp hk
  obtain⟨kl,ke⟩:=hk'
  by_cases e:i=k
  ·subst e
   rw[ke]
   simp
  ·have ne:C≠cs[i]:=fun z=>e ((List.getElem?_inj (by omega) nd).mp (by rw[hk,List.getElem?_eq_getElem (by omega),z]))
   rw[beq_eq_false_iff_ne.mpr ne]
   have:¬((0:Int)+(i:Int) =(k:Int)):=by omega
   rw[decide_eq_false this]
 ·rw[List.getElem?_eq_none (l:=cs) (by omega),List.getElem?_eq_none (by simp;omega)]
  rfl
theorem nd_ne {cs:List Addr}{i j:Nat}{c d:Addr}(nd:cs.Nodup) (hi:cs[i]? = some c) (hj:cs[j]? = some d) (n:i≠j):c≠d:=by
 intro z
 subst z
 exact n ((List.getElem?_inj (List.getElem?_eq_some_iff.mp hi).1 nd).mp (hi.trans hj.symm))
theorem Thg.upd {H:Hp}{D:Addr}{o:HO}{x:V}(h:Thg H x) (n:x ≠ .ref D):Thg (L2.upd H D o) x:=by
 cases h with
 | non=>exact .non
 | bl b=>exact .bl b
 | int m=>exact .int m
 | str x hs=>exact .str x hs
 | lst e=>exact .lst (by rw[upd_ne (fun z=>n (by rw[z]))];exact e)
 | tup e=>exact .tup (by rw[upd_ne (fun z=>n (by rw[z]))];exact e)
 | dic e=>exact .dic (by rw[upd_ne (fun z=>n (by rw[z]))];exact e)
section
variable {P:Program}{w:World}{K:PySem.W.Frag}{mg:Str→Option Value}{base:Heap}
theorem ok__law_open {f:Addr}{fd:FuncData}(F:Fun K "_law_open" "_law_open" s__law_open f fd) (mF:mg "_law_open" = some (.ref f)) (bF:Binds K fd ["_law_script", "_law_place"] []) (T:Bl mg)  : Cal P w K mg base "_law_open" ["_law_script", "_law_place"] 1 (sp__law_open K):=by
 refine Cal.of F mF bF sc__law_open (fun vs H Q E h=>?_) (fun cdv A outer s H vs Q E hr h=>?_)
 ·obtain⟨a,ns,pl,rfl,_⟩:=h;rfl
 obtain⟨a,ns,pl,rfl,hS,hlen,h0,h1,q⟩:=h
 have hu:=hr.units
 refine⟨_,(pss_cons (ps_setc (i:=2) sc__law_open.nd rfl rfl rfl (blkOk (sc:=defScope s__law_open) (N:=["_law_script", "_law_place", "_law_cells", "_law_at", "_law_digits"]) (vs:=["_law_cell"]) (fs:=[]) (js:=[]) (by decide +kernel) rfl rfl) (pi_list (pe_slice sl_list (pv 0) po_none (po_some pe_int))) (fun _ _ _ _=>pg_name (i:=0) (show(["_law_cell"]:List Str).Nodup by decide +kernel) rfl (Or.inl rfl)) (fun _ _ _ _=>pif0) (fun _ _ _ _=>(pe_callB call_abs1 rfl T.abs bt_abs (pa_cons (pv 0) pa_nil stx_Name))))
   (pss_cons (ps_cut (ps_if (pt_cmpR (op_eqD hu) (pv 2) (pe_lst pa_nil) (nomark _)) (pss_one (ps_set (i:=2) sc__law_open.nd rfl (Or.inl rfl) (pe_lst (pa_cons pe_int pa_nil stx_Constant)))) pss_nil))
   (pss_cons (ps_set (i:=3) sc__law_open.nd rfl (Or.inl rfl) (pe_op op_mod (pv 1) (pe_callB call_lenL rfl T.len bt_len (pa_cons (pv 2) pa_nil stx_Name))))
   (pss_cons (ps_set (i:=4) sc__law_open.nd rfl (Or.inl rfl) pe_int)
   (pss_cons (ps_cut (ps_if (PW.pt (pw_and (pt_cmpR op_ge (pe_ix ix_list (pv 2) (pv 3) (fun _ _=>rfl)) (pe_powC (c:=1000000000000000000) (by decide +kernel) ⟨by decide,by decide,by decide⟩) (nomark _)) (pw_and1 (pt_cmpR op_lt (pv 1) (pe_callB call_lenL rfl T.len bt_len (pa_cons (pv 2) pa_nil stx_Name)) (nomark _))))) (pss_one (ps_set (i:=4) sc__law_open.nd rfl (Or.inl rfl) (pe_ix ix_list (pv 2) (pv 3) (fun _ _=>rfl)))) pss_nil))
   (pss_one (ps_ret (pe_lst (pa_cons (pv 4) (pa_cons (pe_op op_add pe_int (pe_op op_mul pe_int (pv 1))) (pa_cons (pe_op op_cat (pe_slice sl_list (pv 2) (po_some (pv 3)) po_none) (pe_slice sl_list (pv 2) po_none (po_some (pv 3)))) pa_nil stx_BinOp) stx_BinOp) stx_Name))))))))),?_⟩
 rw[st__law_open]
 walk_at"rd"
 refine rd_slL hS fun p1 n1=>?_
 have hcut:cutV (ns.map V.int) none (some 63)=ns.map V.int:=by
  have:=cut_hi (ms:=ns) (k:=63)
  rw[List.take_of_length_le hlen]at this
  exact this
 rw[hcut]
 have s1:=same_new n1 (.lst (ns.map V.int))
 have hp1:(upd H p1 (.lst (ns.map V.int))) p1=some (.lst (ns.map V.int)):=upd_same
 generalize upd H p1 (.lst (ns.map V.int))=H1 at s1 hp1 ⊢
 refine⟨p1,rfl,⟨_,SqL.of hp1⟩,fun D nD=>?_⟩
 have nD0:H D=none:=s1.free nD
 have npD:p1≠D:=ne_of_none hp1 nD
 refine comp_list (xs:=ns.map V.int) (fun i σ' ys H'=>(∃x,σ'=[x])∧(∃ms:List Int,ys=ms.map V.int∧ms.length=i)∧Same H H'∧H' p1=some (.lst (ns.map V.int))∧H' D=some (.lst ys)) D ?_ (fun i σ' ys H' _ h=>SqL.of h.2.2.2.1) ?_ ?_
 ·exact⟨⟨_,rfl⟩,⟨[],rfl,rfl⟩,s1.trans (same_new nD _),by rw[upd_ne npD];exact hp1,upd_same⟩
 ·rintro i x σ' ys H' hx ⟨⟨y,rfl⟩,⟨ms,rfl,hms⟩,g1,g2,g3⟩
  have hil:i <(ns.map V.int).length:=(List.getElem?_eq_some_iff.mp hx).1
  rw[List.length_map]at hil
  obtain⟨z,rfl⟩ : ∃z,x=V.int z:=by
   rw[List.getElem?_map]at hx
   cases e:ns[i]? with
   | none=>rw[e]at hx;cases hx
   | some z=>rw[e]at hx;exact⟨z,(Option.some.inj hx).symm⟩
  walk_at"rd"
  refine⟨g3,by rw[List.length_map];exact small1000 (by omega),⟨_,rfl⟩,⟨ms ++ [_],(by rw[List.map_append];rfl),by rw[List.length_append,hms];rfl⟩,fun b o e=>?_,?_,upd_same⟩
  ·rw[upd_ne (ne_of_none e nD0)];exact g1 _ _ e
  ·rw[upd_ne npD];exact g2
 ·rintro σ' ys H' ⟨⟨y,rfl⟩,⟨ms,rfl,hms⟩,g1,g2,g3⟩
  walk_at"rd"
  refine⟨fun σ H2=>∃C ms,σ=[some (.ref a),some (.int pl),some (.ref C),none,none]∧ms ≠ []∧ms.length≤63∧H2 C=some (.lst (List.map V.int ms))∧Same H H2,?_,?_⟩
  ·walk_at"rd"
   refine⟨by decide,fun p2 n2=>?_⟩
   refine⟨.list (ms.map PyData.int),.list [],DV.lst (SqL.of (by rw[upd_ne (ne_of_none g3 n2)];exact g3)) (DVs.ints ms),DV.lst (SqL.of upd_same) .nil,shaped_ints ms,rfl,?_⟩
   have e:PyData.eqv (.list (ms.map PyData.int)) (.list [])=decide (ms=[]):=by
    have:=eqv_ints ms []
    rw[← this,PyData.eqv];rfl
   rw[e]
   have s2:=g1.trans (same_new n2 (.lst []))
   have g32:(upd H' p2 (.lst [])) D=some (.lst (ms.map V.int)):=by rw[upd_ne (ne_of_none g3 n2)];exact g3
   generalize upd H' p2 (.lst [])=H2 at s2 g32 ⊢
   walk_at"rd"
   refine rd_if (fun h=>?_) (fun h=>?_)
   ·walk_at"rd"
    refine⟨by decide,fun p3 n3=>?_⟩
    walk_at"rd"
    exact⟨p3,[0],rfl,by simp,by simp,upd_same,s2.trans (same_new n3 _)⟩
   ·walk_at"rd"
    exact⟨D,ms,rfl,h,by rw[hms,List.length_map];exact hlen,g32,s2⟩
  ·rintro σ H2 ⟨C,ms,rfl,hne,hml,hC,s2⟩
   have hnl:=len_pos hne
   obtain⟨v,hv⟩:=nsMod hne pl
   walk_at"rd"
   refine⟨fun σ H3=>H3=H2∧∃d,σ=[some (.ref a),some (.int pl),some (.ref C),some (.int (pl%((ms.map V.int).length:Int))),some (.int d)],?_,?_⟩
   ·walk_at"rd"
    refine rd_ixL (SqL.of hC) hv ?_
    walk_at"rd"
    refine rd_if (fun h=>?_) (fun h=>?_)
    ·walk_at"rd"
     refine rd_if (fun h=>?_) (fun h=>?_)
     ·walk_at"rd"
      refine rd_ixL (SqL.of hC) hv ?_
      walk_at"rd"
      exact⟨rfl,_,rfl⟩
     ·walk_at"rd"
      exact⟨rfl,_,rfl⟩
    ·walk_at"rd"
     exact⟨rfl,_,rfl⟩
   ·rintro σ H3 ⟨rfl,d,rfl⟩
    obtain⟨k,hk,hk2⟩ : ∃k:Nat,pl%((ms.map V.int).length:Int) =(k:Int)∧k<ms.length:=by
     have z0:=Int.emod_nonneg pl (show((ms.map V.int).length:Int)≠0 by omega)
     have z1:=Int.emod_lt_of_pos pl hnl
     rw[List.length_map]at z0 z1 ⊢
     exact⟨(pl%(ms.length:Int)).toNat,by omega,by omega⟩
    rw[hk]
    walk_at"rd"
    refine rd_slL (SqL.of hC) fun p4 n4=>?_
    walk_at"rd"
    have hC4:(upd H3 p4 (.lst (cutV (ms.map V.int) (some (k:Int)) none))) C=some (.lst (ms.map V.int)):=by rw[upd_ne (ne_of_none hC n4)];exact hC
    refine rd_slL (SqL.of hC4) fun p5 n5=>?_
    rw[cut_lo,cut_hi]
    rw[cut_lo]at hC4 n5
    have s4:=s2.trans (same_new n4 (.lst ((ms.drop k).map V.int)))
    have hp4:(upd H3 p4 (.lst ((ms.drop k).map V.int))) p4=some (.lst ((ms.drop k).map V.int)):=upd_same
    generalize upd H3 p4 (.lst ((ms.drop k).map V.int))=H4 at s4 hp4 hC4 n5 ⊢
    have s5:=s4.trans (same_new n5 (.lst ((ms.take k).map V.int)))
    have hp5:(upd H4 p5 (.lst ((ms.take k).map V.int))) p5=some (.lst ((ms.take k).map V.int)):=upd_same
    have hp45:(upd H4 p5 (.lst ((ms.take k).map V.int))) p4=some (.lst ((ms.drop k).map V.int)):=by rw[upd_ne (ne_of_none hp4 n5)];exact hp4
    generalize upd H4 p5 (.lst ((ms.take k).map V.int))=H5 at s5 hp5 hp45 ⊢
    refine⟨p4,p5,_,_,rfl,rfl,hp45,hp5,(by rw[List.length_map,List.length_map,List.length_drop,List.length_take];exact Nat.le_of_lt (small1000 (by omega))),fun p6 n6=>?_⟩
    walk_at"rd"
    refine⟨(by show 3≤sizeLine;decide),fun p7 n7=>?_⟩
    have s6:=s5.trans (same_new n6 (.lst ((ms.drop k).map V.int++(ms.take k).map V.int)))
    refine q p7 _ (s6.free n7) (s6.trans (same_new n7 _)) ⟨p6,d,1+1009*pl,ms.drop k++ms.take k,upd_same,?_,by omega,by omega,?_⟩
    ·rw[upd_ne (ne_of_none upd_same n7),upd_same,List.map_append]
    ·intro e
     have:=congrArg List.length e
     rw[List.length_append,List.length_drop]at this
     simp at this
     omega
theorem ok__law_draw {f:Addr}{fd:FuncData}(F:Fun K "_law_draw" "_law_draw" s__law_draw f fd) (mF:mg "_law_draw" = some (.ref f)) (bF:Binds K fd ["_law_hand", "_law_many"] []) (T:Bl mg)  : Cal P w K mg base "_law_draw" ["_law_hand", "_law_many"] 1 (sp__law_draw K):=by
 refine Cal.of F mF bF sc__law_draw (fun vs H Q E h=>?_) (fun cdv A outer s H vs Q E hr h=>?_)
 ·obtain⟨p,N,n,rfl,_⟩:=h;rfl
 obtain⟨p,N,n,rfl,hh,hN,hn,hn2,q⟩:=h
 obtain⟨l,d,c,ns,hp,hl,hc0,hcN,hns⟩:=hh.ex
 have npl:l≠p:=hand_ne hp hl
 have hnl:=len_pos hns
 refine⟨_,(pss_cons (ps_if (pt_cmpR op_gt (pe_ix ix_list (pv 0) pe_int (fun _ _=>rfl)) pe_int (nomark _)) (pss_cons (ps_set (i:=2) sc__law_draw.nd rfl (Or.inl rfl) (pe_op op_mod (pe_ix ix_list (pv 0) pe_int (fun _ _=>rfl)) (pv 1)))
   (pss_cons (ps_asg (pe_op op_fdivB (pe_ix ix_list (pv 0) pe_int (fun _ _=>rfl)) (pv 1)) (pg_sub (pv 0) pe_int set_list))
   (pss_one (ps_ret (pv 2))))) pss_nil)
   (pss_cons (ps_augS (pv 0) pe_int get_list pe_int ip_add set_list)
   (pss_cons (ps_set (i:=3) sc__law_draw.nd rfl (Or.inl rfl) (pe_ix ix_list (pv 0) pe_int (fun _ _=>rfl)))
   (pss_cons (ps_set (i:=4) sc__law_draw.nd rfl (Or.inl rfl) (pe_op op_mod (pe_op op_add (pe_op op_mod (pe_ix ix_list (pe_ix ix_list (pv 0) pe_int (fun _ _=>rfl)) (pe_op op_mod (pv 3) (pe_callB call_lenL rfl T.len bt_len (pa_cons (pe_ix ix_list (pv 0) pe_int (fun _ _=>rfl)) pa_nil stx_Subscript))) (fun _ _=>rfl)) pe_int) (pe_op op_mul pe_int (pv 3))) pe_int))
   (pss_cons (ps_set (i:=4) sc__law_draw.nd rfl (Or.inl rfl) (pe_op op_mod (pe_op op_add (pe_op op_add (pe_op op_pow (pv 4) pe_int) (pe_op op_mul (pe_op op_mul pe_int (pv 3)) (pv 3))) pe_int) pe_int))
   (pss_cons (ps_set (i:=4) sc__law_draw.nd rfl (Or.inl rfl) (pe_op op_mod (pe_op op_add (pe_op op_mul (pe_op op_pow (pv 4) pe_int) (pe_op op_add (pe_op op_mul pe_int (pv 3)) pe_int)) pe_int) pe_int))
   (pss_one (ps_ret (pe_op op_mod (pe_op op_fdivB (pe_op op_mod (pe_op op_mul (pv 4) pe_int) pe_int) pe_int) (pv 1)))))))))),?_⟩
 rw[st__law_draw]
 walk_at"rd"
 refine rd_if (fun h=>?_) (fun h=>?_)
 ·walk_at"rd"
  refine q _ _ (Int.emod_nonneg _ (by omega)) (Int.emod_lt_of_pos _ hn) ⟨l,d / n,c,ns,upd_same,?_,hc0,by omega,hns⟩ (Kp.hand hp)
  rw[upd_ne npl];exact hl
 ·walk_at"rd"
  have hp1:(upd H p (.lst [V.int d,.int (c+1),.ref l])) p=some (.lst [.int d,.int (c+1),.ref l]):=upd_same
  have hl1:(upd H p (.lst [V.int d,.int (c+1),.ref l])) l=some (.lst (ns.map V.int)):=by rw[upd_ne npl];exact hl
  have k1:Kp H (upd H p (.lst [V.int d,.int (c+1),.ref l])) p:=Kp.hand hp
  generalize upd H p (.lst [V.int d,.int (c+1),.ref l])=H1 at hp1 hl1 k1 ⊢
  walk_at"rd"
  obtain⟨v,hv⟩:=nsMod hns (c+1)
  refine rd_ixL (SqL.of hl1) hv ?_
  walk_at"rd"
  have hn0:n≠0:=by omega
  exact q _ _ (Int.emod_nonneg _ hn0) (Int.emod_lt_of_pos _ hn) ⟨l,d,c+1,ns,hp1,hl1,by omega,by omega,hns⟩ k1
theorem ok__law_far {f:Addr}{fd:FuncData}(F:Fun K "_law_far" "_law_far" s__law_far f fd) (mF:mg "_law_far" = some (.ref f)) (bF:Binds K fd ["_law_hand", "_law_many"] []) (T:Bl mg) (C__law_draw:Cal P w K mg base "_law_draw" ["_law_hand", "_law_many"] 1 (sp__law_draw K)):Cal P w K mg base "_law_far" ["_law_hand", "_law_many"] 2 (sp__law_far K):=by
 refine Cal.of F mF bF sc__law_far (fun vs H Q E h=>?_) (fun cdv A outer s H vs Q E hr h=>?_)
 ·obtain⟨p,N,n,rfl,_⟩:=h;rfl
 obtain⟨p,N,n,rfl,hh,hN,hn,hn2,q⟩:=h
 obtain⟨l,d,c,ns,hp,hl,hc0,hcN,hns⟩:=hh.ex
 refine⟨_,(pss_cons (ps_if (pt_cmpR op_gt (pe_ix ix_list (pv 0) pe_int (fun _ _=>rfl)) pe_int (nomark _)) (pss_one (ps_ret (pcl C__law_draw (hr.mono (by decide)) (pa_cons (pv 0) (pa_cons (pv 1) pa_nil stx_Name) stx_Name)))) pss_nil)
   (pss_cons (ps_set (i:=2) sc__law_far.nd rfl (Or.inl rfl) pe_int)
   (pss_cons (ps_for PassesOwn.never rfl (pi_range1 rfl T.range (pa_cons pe_int pa_nil stx_Constant)) (pg_name (i:=3) sc__law_far.nd rfl (Or.inl rfl)) (pss_one (ps_set (i:=2) sc__law_far.nd rfl (Or.inl rfl) (pe_op op_add (pe_op op_mul (pv 2) (pe_powC (c:=1000000) (by decide +kernel) ⟨by decide,by decide,by decide⟩)) (pcl C__law_draw (hr.mono (by decide)) (pa_cons (pv 0) (pa_cons (pe_powC (c:=1000000) (by decide +kernel) ⟨by decide,by decide,by decide⟩) pa_nil stx_BinOp) stx_Name))))))
   (pss_one (ps_ret (pe_op op_mod (pv 2) (pv 1))))))),?_⟩
 rw[st__law_far]
 walk_at"rd"
 refine rd_if (fun h=>?_) (fun h=>?_)
 ·walk_at"rd"
  exact⟨p,N,n,rfl,hh,by omega,hn,hn2,fun r H' h0 h1 h2 h3=>q r H' h0 h1 (h2.mono (by omega)) h3⟩
 ·walk_at"rd"
  refine⟨7,rfl,by omega,by omega,?_⟩
  refine for_rangeO (n:=7) (fun i σ H'=>(∃v x,σ=[some (.ref p),some (.int n),some (.int v),x])∧Hand H' p (N+i)∧Kp H H' p∧i≤7) ⟨⟨_,_,rfl⟩,hh,Kp.refl _ _,by omega⟩ ?_ ?_
  ·rintro i σ H' hi ⟨⟨v,x,rfl⟩,h1,h2,h3⟩
   walk_at"rd"
   exact⟨p,N+i,_,rfl,h1,by omega,by decide,by decide,fun r H2 h0 h4 h5 h6=>by
    walk_at"rd"
    exact⟨⟨_,_,rfl⟩,h5,h2.trans h6,by omega⟩⟩
  ·rintro σ H' ⟨⟨v,x,rfl⟩,h1,h2,h3⟩
   walk_at"rd"
   exact q _ _ (Int.emod_nonneg _ (by omega)) (Int.emod_lt_of_pos _ hn) h1 h2
theorem ok__law_thing {f:Addr}{fd:FuncData}(F:Fun K "_law_thing" "_law_thing" s__law_thing f fd) (mF:mg "_law_thing" = some (.ref f)) (bF:Binds K fd ["_law_hand"] []) (T:Bl mg) (C__law_far:Cal P w K mg base "_law_far" ["_law_hand", "_law_many"] 2 (sp__law_far K)) (C__law_draw:Cal P w K mg base "_law_draw" ["_law_hand", "_law_many"] 1 (sp__law_draw K)):Cal P w K mg base "_law_thing" ["_law_hand"] 3 (sp__law_thing K):=by
 refine Cal.of F mF bF sc__law_thing (fun vs H Q E h=>?_) (fun cdv A outer s H vs Q E hr h=>?_)
 ·obtain⟨p,N,rfl,_⟩:=h;rfl
 obtain⟨p,N,rfl,hh,hN,q⟩:=h
 refine⟨_,(pss_cons (ps_set (i:=1) sc__law_thing.nd rfl (Or.inl rfl) (pe_op op_sub (pcl C__law_far (hr.mono (by decide)) (pa_cons (pv 0) (pa_cons (pe_powC (c:=4611686018427387904) (by decide +kernel) ⟨by decide,by decide,by decide⟩) pa_nil stx_BinOp) stx_Name)) (pe_op op_mul (pcl C__law_draw (hr.mono (by decide)) (pa_cons (pv 0) (pa_cons pe_int pa_nil stx_Constant) stx_Name)) (pe_powC (c:=2305843009213693952) (by decide +kernel) ⟨by decide,by decide,by decide⟩))))
   (pss_cons (ps_set (i:=2) sc__law_thing.nd rfl (Or.inl rfl) (pe_lst (pa_cons (pv 1) (pa_cons (pe_slice sl_str pe_str po_none (po_some (pcl C__law_draw (hr.mono (by decide)) (pa_cons (pv 0) (pa_cons pe_int pa_nil stx_Constant) stx_Name)))) (pa_cons pe_non (pa_cons pe_bl (pa_cons pe_bl (pa_cons (pe_lst (pa_cons (pv 1) pa_nil stx_Name)) pa_nil stx_List) stx_Constant) stx_Constant) stx_Constant) stx_Subscript) stx_Name)))
   (pss_cons (ps_set (i:=2) sc__law_thing.nd rfl (Or.inl rfl) (pe_op op_cat (pv 2) (pe_lst (pa_cons (pe_tup (pa_cons (pv 1) (pa_cons pe_str pa_nil stx_Constant) stx_Name)) (pa_cons (pe_disp (pps_cons pe_str (pv 1) pps_nil) rfl rfl (List.cons_ne_nil _ _) (Nat.le_of_ble_eq_true rfl)) (pa_cons pe_int (pa_cons pe_str pa_nil stx_Constant) stx_Constant) stx_Dict) stx_Tuple))))
   (pss_one (ps_ret (pe_ix ix_list (pv 2) (pcl C__law_draw (hr.mono (by decide)) (pa_cons (pv 0) (pa_cons pe_int pa_nil stx_Constant) stx_Name)) (fun _ _=>rfl))))))),?_⟩
 rw[st__law_thing]
 walk_at"rd"
 refine⟨p,_,2^62,rfl,hh,by omega,by decide,by decide,fun n H1 n0 n1 hh1 k1=>?_⟩
 walk_at"rd"
 refine⟨p,_,2,rfl,hh1,by omega,by decide,by decide,fun m H2 m0 m1 hh2 k2=>?_⟩
 walk_at"rd"
 refine⟨p,_,9,rfl,hh2,by omega,by decide,by decide,fun c H3 c0 c1 hh3 k3=>?_⟩
 have hcut:SeqAt.shaped (.str (Txt.slice (Str.ofString "abcdefgh") none (some c)))=true:=by
  obtain⟨k,rfl⟩:=Int.eq_ofNat_of_zero_le c0
  exact cut8 k (by omega)
 refine⟨_,rfl,_,rfl,by decide +kernel,?_⟩
 generalize Txt.slice (Str.ofString "abcdefgh") none (some c)=z at hcut
 generalize n-m*2305843009213693952=num
 have kk:=(k1.trans k2).trans k3
 walk_at"rd"
 refine⟨(by show 1≤sizeLine;decide),fun o1 m1=>?_⟩
 generalize hE:upd H3 o1 _=K1
 obtain⟨g1,t1⟩:=newo m1 hE
 clear hE
 walk_at"rd"
 refine⟨(by show 6≤sizeLine;decide),fun o2 m2=>?_⟩
 generalize hE:upd K1 o2 _=K2
 obtain⟨g2,t2⟩:=newo m2 hE
 clear hE
 walk_at"rd"
 refine⟨(by show 2≤sizeLine;decide),fun o3 m3=>?_⟩
 generalize hE:upd K2 o3 _=K3
 obtain⟨g3,t3⟩:=newo m3 hE
 clear hE
 walk_at"rd"
 refine fun o4 m4=>rd_pairs1 ?_
 walk_at"rd"
 refine⟨upd_same,[(Sum.inr (Str.ofString "a"),V.int num)],rfl,(by show 1≤15;decide),?_⟩
 rw[upd_upd]
 generalize hE:upd K3 o4 _=K4
 obtain⟨g4,t4⟩:=newo m4 hE
 clear hE
 walk_at"rd"
 refine⟨(by show 4≤sizeLine;decide),fun o5 m5=>?_⟩
 generalize hE:upd K4 o5 _=K5
 obtain⟨g5,t5⟩:=newo m5 hE
 clear hE
 walk_at"rd"
 refine⟨o2,o5,_,_,rfl,rfl,t5 _ _ (t4 _ _ (t3 _ _ g2)),g5,(by show 6+4≤sizeLine;decide),fun o6 m6=>?_⟩
 generalize hE:upd K5 o6 _=K6
 obtain⟨g6,t6⟩:=newo m6 hE
 clear hE
 have T2:=(((t2.trans t3).trans t4).trans t5).trans t6
 have T6:=t1.trans T2
 have hh6:=hh3.same T6
 have kk6:=kk.trans (Kp.of T6 hh3)
 have a1:Thg K6 (.ref o1):=.lst (T2 _ _ g1)
 have a2:Thg K6 (.ref o3):=.tup (((t4.trans t5).trans t6) _ _ g3)
 have a3:Thg K6 (.ref o4):=.dic ((t5.trans t6) _ _ g4)
 walk_at"rd"
 refine⟨p,_,10,rfl,hh6,by omega,by decide,by decide,fun j H7 j0 j1 hh7 k7=>?_⟩
 have f1:H o1=none:=kk.free m1 (hh3.ne m1)
 have f3:H o3=none:=kk.free ((t1.trans t2).free m3) (hh3.ne ((t1.trans t2).free m3))
 have f4:H o4=none:=kk.free (((t1.trans t2).trans t3).free m4) (hh3.ne (((t1.trans t2).trans t3).free m4))
 have all:∀x ∈ [V.int num,.str z,.non,.bl true,.bl false,.ref o1] ++ [.ref o3,.ref o4,.int 0,.str (Str.ofString "")],Thg H7 x∧∀a,x = .ref a→H a=none:=by
  intro x hx
  simp only[List.cons_append,List.nil_append,List.mem_cons,List.not_mem_nil,or_false]at hx
  rcases hx with rfl|rfl|rfl|rfl|rfl|rfl|rfl|rfl|rfl|rfl
  ·exact⟨.int _,fun _ z=>by cases z⟩
  ·exact⟨.str _ hcut,fun _ z=>by cases z⟩
  ·exact⟨.non,fun _ z=>by cases z⟩
  ·exact⟨.bl _,fun _ z=>by cases z⟩
  ·exact⟨.bl _,fun _ z=>by cases z⟩
  ·exact⟨a1.kp hh6 k7,fun _ z=>by cases z;exact f1⟩
  ·exact⟨a2.kp hh6 k7,fun _ z=>by cases z;exact f3⟩
  ·exact⟨a3.kp hh6 k7,fun _ z=>by cases z;exact f4⟩
  ·exact⟨.int _,fun _ z=>by cases z⟩
  ·exact⟨.str _ (by decide +kernel),fun _ z=>by cases z⟩
 obtain⟨i,rfl⟩:=Int.eq_ofNat_of_zero_le j0
 obtain⟨v,hv⟩ : ∃v,([V.int num,.str z,.non,.bl true,.bl false,.ref o1] ++ [.ref o3,.ref o4,.int 0,.str (Str.ofString "")])[i]? = some v:=⟨_,List.getElem?_eq_getElem (by show i<10;omega)⟩
 refine rd_ixL (SqL.of (k7.1 _ _ g6 (ne_of_list10 hh6 g6))) (atI_nat hv) ?_
 exact q _ _ (all _ (List.mem_of_getElem? hv)).1 (all _ (List.mem_of_getElem? hv)).2 (hh7.mono (by omega)) (kk6.trans k7)
theorem ok__law_flags {f:Addr}{fd:FuncData}(F:Fun K "_law_flags" "_law_flags" s__law_flags f fd) (mF:mg "_law_flags" = some (.ref f)) (bF:Binds K fd ["_law_e"] []) (T:Bl mg) {TE:Addr}{CE_Full:Addr}(XE_Full:XTxt K mg "Full" CE_Full TE "many") {CE_Lacking:Addr}(XE_Lacking:XTxt K mg "Lacking" CE_Lacking TE "key") {CE_NoKey:Addr}(XE_NoKey:XTxt K mg "NoKey" CE_NoKey TE "key") {CE_NoMark:Addr}(XE_NoMark:XTxt K mg "NoMark" CE_NoMark TE "mark") {CE_NoName:Addr}(XE_NoName:XTxt K mg "NoName" CE_NoName TE "name") {CE_NoRoom:Addr}(XE_NoRoom:XTxt K mg "NoRoom" CE_NoRoom TE "number") {CE_NoSize:Addr}(XE_NoSize:XTxt K mg "NoSize" CE_NoSize TE "thing") {CE_NoThing:Addr}(XE_NoThing:XTxt K mg "NoThing" CE_NoThing TE "thing") {CE_Taken:Addr}(XE_Taken:XTxt K mg "Taken" CE_Taken TE "name") {CE_Busy:Addr}(XE_Busy:XTxt0 K mg "Busy" CE_Busy TE) {CE_NoLine:Addr}(XE_NoLine:XTxt0 K mg "NoLine" CE_NoLine TE) {CE_NoText:Addr}(XE_NoText:XTxt0 K mg "NoText" CE_NoText TE)  (kt_tab:kitTab K [CE_NoSize,CE_NoKey,CE_NoThing,CE_NoRoom,CE_Lacking,CE_Full,CE_NoMark,CE_NoName,CE_Taken,CE_Busy,CE_NoText,CE_NoLine]=true) (kt_top:kitTop K TE [CE_NoSize,CE_NoKey,CE_NoThing,CE_NoRoom,CE_Lacking,CE_Full,CE_NoMark,CE_NoName,CE_Taken,CE_Busy,CE_NoText,CE_NoLine]=true)  : CalS P w K mg base "_law_flags" ["_law_e"] 1 (sp__law_flags K):=by
 refine CalS.of F mF bF sc__law_flags (fun vs H Q E h=>?_) (fun cdv A outer s H vs Q E hr h=>?_)
 ·obtain⟨e,C,cs,rfl,_⟩:=h;rfl
 obtain⟨e,C,cs,rfl,i12,hC,xa,xk,q⟩:=h
 have i12':Is12 K [CE_NoSize,CE_NoKey,CE_NoThing,CE_NoRoom,CE_Lacking,CE_Full,CE_NoMark,CE_NoName,CE_Taken,CE_Busy,CE_NoText,CE_NoLine]:=⟨rfl,fun i x c h1 h2=>by
  match i,h1,h2 with
  | 0,h1,h2=>cases h1;cases h2;exact XE_NoSize.nm
  | 1,h1,h2=>cases h1;cases h2;exact XE_NoKey.nm
  | 2,h1,h2=>cases h1;cases h2;exact XE_NoThing.nm
  | 3,h1,h2=>cases h1;cases h2;exact XE_NoRoom.nm
  | 4,h1,h2=>cases h1;cases h2;exact XE_Lacking.nm
  | 5,h1,h2=>cases h1;cases h2;exact XE_Full.nm
  | 6,h1,h2=>cases h1;cases h2;exact XE_NoMark.nm
  | 7,h1,h2=>cases h1;cases h2;exact XE_NoName.nm
  | 8,h1,h2=>cases h1;cases h2;exact XE_Taken.nm
  | 9,h1,h2=>cases h1;cases h2;exact XE_Busy.nm
  | 10,h1,h2=>cases h1;cases h2;exact XE_NoText.nm
  | 11,h1,h2=>cases h1;cases h2;exact XE_NoLine.nm
  | n+12,h1,_=>simp[nm12]at h1⟩
 obtain rfl:=i12.uniq i12'
 have kt:=fun d hd=>kitTab.at kt_tab hC (d:=d) hd
 refine⟨_,(pss_cons (ps_set (i:=1) sc__law_flags.nd rfl (Or.inl rfl) (pe_lst (pa_cons (pe_callB (call_isiEK (K:=K) rfl) rfl T.isinstance bt_isinstance (pa_cons (pv 0) (pa_cons (pe_glob (v:=V.ref CE_NoSize) rfl XE_NoSize.mg (show L2.RelV (.ref CE_NoSize) (.ref CE_NoSize) from rfl)) pa_nil stx_Name) stx_Name)) (pa_cons (pe_callB (call_isiEK (K:=K) rfl) rfl T.isinstance bt_isinstance (pa_cons (pv 0) (pa_cons (pe_glob (v:=V.ref CE_NoKey) rfl XE_NoKey.mg (show L2.RelV (.ref CE_NoKey) (.ref CE_NoKey) from rfl)) pa_nil stx_Name) stx_Name)) (pa_cons (pe_callB (call_isiEK (K:=K) rfl) rfl T.isinstance bt_isinstance (pa_cons (pv 0) (pa_cons (pe_glob (v:=V.ref CE_NoThing) rfl XE_NoThing.mg (show L2.RelV (.ref CE_NoThing) (.ref CE_NoThing) from rfl)) pa_nil stx_Name) stx_Name)) (pa_cons (pe_callB (call_isiEK (K:=K) rfl) rfl T.isinstance bt_isinstance (pa_cons (pv 0) (pa_cons (pe_glob (v:=V.ref CE_NoRoom) rfl XE_NoRoom.mg (show L2.RelV (.ref CE_NoRoom) (.ref CE_NoRoom) from rfl)) pa_nil stx_Name) stx_Name)) pa_nil stx_Call) stx_Call) stx_Call) stx_Call)))
   (pss_cons (ps_set (i:=1) sc__law_flags.nd rfl (Or.inl rfl) (pe_op op_cat (pv 1) (pe_lst (pa_cons (pe_callB (call_isiEK (K:=K) rfl) rfl T.isinstance bt_isinstance (pa_cons (pv 0) (pa_cons (pe_glob (v:=V.ref CE_Lacking) rfl XE_Lacking.mg (show L2.RelV (.ref CE_Lacking) (.ref CE_Lacking) from rfl)) pa_nil stx_Name) stx_Name)) (pa_cons (pe_callB (call_isiEK (K:=K) rfl) rfl T.isinstance bt_isinstance (pa_cons (pv 0) (pa_cons (pe_glob (v:=V.ref CE_Full) rfl XE_Full.mg (show L2.RelV (.ref CE_Full) (.ref CE_Full) from rfl)) pa_nil stx_Name) stx_Name)) (pa_cons (pe_callB (call_isiEK (K:=K) rfl) rfl T.isinstance bt_isinstance (pa_cons (pv 0) (pa_cons (pe_glob (v:=V.ref CE_NoMark) rfl XE_NoMark.mg (show L2.RelV (.ref CE_NoMark) (.ref CE_NoMark) from rfl)) pa_nil stx_Name) stx_Name)) (pa_cons (pe_callB (call_isiEK (K:=K) rfl) rfl T.isinstance bt_isinstance (pa_cons (pv 0) (pa_cons (pe_glob (v:=V.ref CE_NoName) rfl XE_NoName.mg (show L2.RelV (.ref CE_NoName) (.ref CE_NoName) from rfl)) pa_nil stx_Name) stx_Name)) pa_nil stx_Call) stx_Call) stx_Call) stx_Call))))
   (pss_one (ps_ret (pe_op op_cat (pv 1) (pe_lst (pa_cons (pe_callB (call_isiEK (K:=K) rfl) rfl T.isinstance bt_isinstance (pa_cons (pv 0) (pa_cons (pe_glob (v:=V.ref CE_Taken) rfl XE_Taken.mg (show L2.RelV (.ref CE_Taken) (.ref CE_Taken) from rfl)) pa_nil stx_Name) stx_Name)) (pa_cons (pe_callB (call_isiEK (K:=K) rfl) rfl T.isinstance bt_isinstance (pa_cons (pv 0) (pa_cons (pe_glob (v:=V.ref CE_Busy) rfl XE_Busy.mg (show L2.RelV (.ref CE_Busy) (.ref CE_Busy) from rfl)) pa_nil stx_Name) stx_Name)) (pa_cons (pe_callB (call_isiEK (K:=K) rfl) rfl T.isinstance bt_isinstance (pa_cons (pv 0) (pa_cons (pe_glob (v:=V.ref CE_NoText) rfl XE_NoText.mg (show L2.RelV (.ref CE_NoText) (.ref CE_NoText) from rfl)) pa_nil stx_Name) stx_Name)) (pa_cons (pe_callB (call_isiEK (K:=K) rfl) rfl T.isinstance bt_isinstance (pa_cons (pv 0) (pa_cons (pe_glob (v:=V.ref CE_NoLine) rfl XE_NoLine.mg (show L2.RelV (.ref CE_NoLine) (.ref CE_NoLine) from rfl)) pa_nil stx_Name) stx_Name)) pa_nil stx_Call) stx_Call) stx_Call) stx_Call))))))),?_⟩
 rw[st__law_flags]
 walk_at"rd"
 refine rd_isiE xa xk (fun u r=>r) (kt _ (by simp)) ?_
 walk_at"rd"
 refine rd_isiE xa xk (fun u r=>r) (kt _ (by simp)) ?_
 walk_at"rd"
 refine rd_isiE xa xk (fun u r=>r) (kt _ (by simp)) ?_
 walk_at"rd"
 refine rd_isiE xa xk (fun u r=>r) (kt _ (by simp)) ?_
 walk_at"rd"
 refine⟨(by show 4≤sizeLine;decide),fun l1 n1=>?_⟩
 generalize hE:upd H l1 _=H1
 obtain⟨h1,s1⟩:=newo n1 hE
 clear hE
 have xa1:=xa.same s1
 walk_at"rd"
 refine rd_isiE xa1 xk (fun u r=>r) (kt _ (by simp)) ?_
 walk_at"rd"
 refine rd_isiE xa1 xk (fun u r=>r) (kt _ (by simp)) ?_
 walk_at"rd"
 refine rd_isiE xa1 xk (fun u r=>r) (kt _ (by simp)) ?_
 walk_at"rd"
 refine rd_isiE xa1 xk (fun u r=>r) (kt _ (by simp)) ?_
 walk_at"rd"
 refine⟨(by show 4≤sizeLine;decide),fun l2 n2=>?_⟩
 generalize hE:upd H1 l2 _=H2
 obtain⟨h2,s2⟩:=newo n2 hE
 clear hE
 walk_at"rd"
 refine⟨l1,l2,_,_,rfl,rfl,s2 _ _ h1,h2,(by show 4+4≤sizeLine;decide),fun l3 n3=>?_⟩
 generalize hE:upd H2 l3 _=H3
 obtain⟨h3,s3⟩:=newo n3 hE
 clear hE
 have xa3:=xa1.same (s2.trans s3)
 walk_at"rd"
 refine rd_isiE xa3 xk (fun u r=>r) (kt _ (by simp)) ?_
 walk_at"rd"
 refine rd_isiE xa3 xk (fun u r=>r) (kt _ (by simp)) ?_
 walk_at"rd"
 refine rd_isiE xa3 xk (fun u r=>r) (kt _ (by simp)) ?_
 walk_at"rd"
 refine rd_isiE xa3 xk (fun u r=>r) (kt _ (by simp)) ?_
 walk_at"rd"
 refine⟨(by show 4≤sizeLine;decide),fun l4 n4=>?_⟩
 generalize hE:upd H3 l4 _=H4
 obtain⟨h4,s4⟩:=newo n4 hE
 clear hE
 walk_at"rd"
 refine⟨l3,l4,_,_,rfl,rfl,s4 _ _ h3,h4,(by show 8+4≤sizeLine;decide),fun l5 n5=>?_⟩
 generalize hE:upd H4 l5 _=H5
 obtain⟨h5,s5⟩:=newo n5 hE
 clear hE
 walk_at"rd"
 exact q l5 H5 h5 (s1.trans (s2.trans (s3.trans (s4.trans s5))))
theorem ok__law_made {f:Addr}{fd:FuncData}(F:Fun K "_law_made" "_law_made" s__law_made f fd) (mF:mg "_law_made" = some (.ref f)) (bF:Binds K fd ["_law_some"] []) (T:Bl mg) {TE:Addr}{CE_Full:Addr}(XE_Full:XTxt K mg "Full" CE_Full TE "many") {CE_Lacking:Addr}(XE_Lacking:XTxt K mg "Lacking" CE_Lacking TE "key") {CE_NoKey:Addr}(XE_NoKey:XTxt K mg "NoKey" CE_NoKey TE "key") {CE_NoMark:Addr}(XE_NoMark:XTxt K mg "NoMark" CE_NoMark TE "mark") {CE_NoName:Addr}(XE_NoName:XTxt K mg "NoName" CE_NoName TE "name") {CE_NoRoom:Addr}(XE_NoRoom:XTxt K mg "NoRoom" CE_NoRoom TE "number") {CE_NoSize:Addr}(XE_NoSize:XTxt K mg "NoSize" CE_NoSize TE "thing") {CE_NoThing:Addr}(XE_NoThing:XTxt K mg "NoThing" CE_NoThing TE "thing") {CE_Taken:Addr}(XE_Taken:XTxt K mg "Taken" CE_Taken TE "name") {CE_Busy:Addr}(XE_Busy:XTxt0 K mg "Busy" CE_Busy TE) {CE_NoLine:Addr}(XE_NoLine:XTxt0 K mg "NoLine" CE_NoLine TE) {CE_NoText:Addr}(XE_NoText:XTxt0 K mg "NoText" CE_NoText TE)  (kt_tab:kitTab K [CE_NoSize,CE_NoKey,CE_NoThing,CE_NoRoom,CE_Lacking,CE_Full,CE_NoMark,CE_NoName,CE_Taken,CE_Busy,CE_NoText,CE_NoLine]=true) (kt_top:kitTop K TE [CE_NoSize,CE_NoKey,CE_NoThing,CE_NoRoom,CE_Lacking,CE_Full,CE_NoMark,CE_NoName,CE_Taken,CE_Busy,CE_NoText,CE_NoLine]=true)  : Cal P w K mg base "_law_made" ["_law_some"] 3 (sp__law_made K):=by
 refine Cal.of F mF bF sc__law_made (fun vs H Q E h=>?_) (fun cdv A outer s H vs Q E hr h=>?_)
 ·obtain⟨a,xs,cs,rfl,_⟩:=h;rfl
 obtain⟨a,xs,cs,rfl,ha,hx,i12,q⟩:=h
 obtain⟨x0,x1,x2,x3,x4,x5,x6,x7,x8,rfl⟩:=nine hx
 have i12':Is12 K [CE_NoSize,CE_NoKey,CE_NoThing,CE_NoRoom,CE_Lacking,CE_Full,CE_NoMark,CE_NoName,CE_Taken,CE_Busy,CE_NoText,CE_NoLine]:=⟨rfl,fun i x c h1 h2=>by
  match i,h1,h2 with
  | 0,h1,h2=>cases h1;cases h2;exact XE_NoSize.nm
  | 1,h1,h2=>cases h1;cases h2;exact XE_NoKey.nm
  | 2,h1,h2=>cases h1;cases h2;exact XE_NoThing.nm
  | 3,h1,h2=>cases h1;cases h2;exact XE_NoRoom.nm
  | 4,h1,h2=>cases h1;cases h2;exact XE_Lacking.nm
  | 5,h1,h2=>cases h1;cases h2;exact XE_Full.nm
  | 6,h1,h2=>cases h1;cases h2;exact XE_NoMark.nm
  | 7,h1,h2=>cases h1;cases h2;exact XE_NoName.nm
  | 8,h1,h2=>cases h1;cases h2;exact XE_Taken.nm
  | 9,h1,h2=>cases h1;cases h2;exact XE_Busy.nm
  | 10,h1,h2=>cases h1;cases h2;exact XE_NoText.nm
  | 11,h1,h2=>cases h1;cases h2;exact XE_NoLine.nm
  | n+12,h1,_=>simp[nm12]at h1⟩
 obtain rfl:=i12.uniq i12'
 refine⟨_,(pss_cons (ps_set (i:=1) sc__law_made.nd rfl (Or.inl rfl) (pe_lst (pa_cons (pe_mkx (k:=0) XE_NoSize.cls (hr.mono (by decide)) rfl XE_NoSize.mg (pa_cons (pe_ix ix_list (pv 0) pe_int (fun _ _=>rfl)) pa_nil stx_Subscript)) (pa_cons (pe_mkx (k:=0) XE_NoKey.cls (hr.mono (by decide)) rfl XE_NoKey.mg (pa_cons (pe_ix ix_list (pv 0) pe_int (fun _ _=>rfl)) pa_nil stx_Subscript)) (pa_cons (pe_mkx (k:=0) XE_NoThing.cls (hr.mono (by decide)) rfl XE_NoThing.mg (pa_cons (pe_ix ix_list (pv 0) pe_int (fun _ _=>rfl)) pa_nil stx_Subscript)) (pa_cons (pe_mkx (k:=0) XE_NoRoom.cls (hr.mono (by decide)) rfl XE_NoRoom.mg (pa_cons (pe_ix ix_list (pv 0) pe_int (fun _ _=>rfl)) pa_nil stx_Subscript)) (pa_cons (pe_mkx (k:=0) XE_Lacking.cls (hr.mono (by decide)) rfl XE_Lacking.mg (pa_cons (pe_ix ix_list (pv 0) pe_int (fun _ _=>rfl)) pa_nil stx_Subscript)) (pa_cons (pe_mkx (k:=0) XE_Full.cls (hr.mono (by decide)) rfl XE_Full.mg (pa_cons (pe_ix ix_list (pv 0) pe_int (fun _ _=>rfl)) pa_nil stx_Subscript)) pa_nil stx_Call) stx_Call) stx_Call) stx_Call) stx_Call) stx_Call)))
   (pss_one (ps_ret (pe_op op_cat (pv 1) (pe_lst (pa_cons (pe_mkx (k:=0) XE_NoMark.cls (hr.mono (by decide)) rfl XE_NoMark.mg (pa_cons (pe_ix ix_list (pv 0) pe_int (fun _ _=>rfl)) pa_nil stx_Subscript)) (pa_cons (pe_mkx (k:=0) XE_NoName.cls (hr.mono (by decide)) rfl XE_NoName.mg (pa_cons (pe_ix ix_list (pv 0) pe_int (fun _ _=>rfl)) pa_nil stx_Subscript)) (pa_cons (pe_mkx (k:=0) XE_Taken.cls (hr.mono (by decide)) rfl XE_Taken.mg (pa_cons (pe_ix ix_list (pv 0) pe_int (fun _ _=>rfl)) pa_nil stx_Subscript)) (pa_cons (pe_mkx0 XE_Busy.cls rfl XE_Busy.mg) (pa_cons (pe_mkx0 XE_NoText.cls rfl XE_NoText.mg) (pa_cons (pe_mkx0 XE_NoLine.cls rfl XE_NoLine.mg) pa_nil stx_Call) stx_Call) stx_Call) stx_Call) stx_Call) stx_Call)))))),?_⟩
 rw[st__law_made]
 walk_at"rd"
 refine rd_mkx ?_
 walk_at"rd"
 refine⟨_,rfl,fun e0 D0 ne nD hn=>?_⟩
 generalize hE:upd (upd H e0 _) D0 _=K0
 obtain⟨t0,s0⟩:=mkx_new ne nD hn hE
 clear hE ne nD hn
 replace ha:=s0 _ _ ha
 walk_at"rd"
 refine rd_mkx ?_
 walk_at"rd"
 refine⟨_,rfl,fun e1 D1 ne nD hn=>?_⟩
 generalize hE:upd (upd K0 e1 _) D1 _=K1
 obtain⟨t1,s1⟩:=mkx_new ne nD hn hE
 clear hE ne nD hn
 replace ha:=s1 _ _ ha
 walk_at"rd"
 refine rd_mkx ?_
 walk_at"rd"
 refine⟨_,rfl,fun e2 D2 ne nD hn=>?_⟩
 generalize hE:upd (upd K1 e2 _) D2 _=K2
 obtain⟨t2,s2⟩:=mkx_new ne nD hn hE
 clear hE ne nD hn
 replace ha:=s2 _ _ ha
 walk_at"rd"
 refine rd_mkx ?_
 walk_at"rd"
 refine⟨_,rfl,fun e3 D3 ne nD hn=>?_⟩
 generalize hE:upd (upd K2 e3 _) D3 _=K3
 obtain⟨t3,s3⟩:=mkx_new ne nD hn hE
 clear hE ne nD hn
 replace ha:=s3 _ _ ha
 walk_at"rd"
 refine rd_mkx ?_
 walk_at"rd"
 refine⟨_,rfl,fun e4 D4 ne nD hn=>?_⟩
 generalize hE:upd (upd K3 e4 _) D4 _=K4
 obtain⟨t4,s4⟩:=mkx_new ne nD hn hE
 clear hE ne nD hn
 replace ha:=s4 _ _ ha
 walk_at"rd"
 refine rd_mkx ?_
 walk_at"rd"
 refine⟨_,rfl,fun e5 D5 ne nD hn=>?_⟩
 generalize hE:upd (upd K4 e5 _) D5 _=K5
 obtain⟨t5,s5⟩:=mkx_new ne nD hn hE
 clear hE ne nD hn
 replace ha:=s5 _ _ ha
 walk_at"rd"
 refine⟨(by show 6≤sizeLine;decide),fun l1 m1=>?_⟩
 generalize hE:upd K5 l1 _=L1
 obtain⟨hl1,sl1⟩:=newo m1 hE
 clear hE
 replace ha:=sl1 _ _ ha
 walk_at"rd"
 refine rd_mkx ?_
 walk_at"rd"
 refine⟨_,rfl,fun e6 D6 ne nD hn=>?_⟩
 generalize hE:upd (upd L1 e6 _) D6 _=K6
 obtain⟨t6,s6⟩:=mkx_new ne nD hn hE
 clear hE ne nD hn
 replace ha:=s6 _ _ ha
 walk_at"rd"
 refine rd_mkx ?_
 walk_at"rd"
 refine⟨_,rfl,fun e7 D7 ne nD hn=>?_⟩
 generalize hE:upd (upd K6 e7 _) D7 _=K7
 obtain⟨t7,s7⟩:=mkx_new ne nD hn hE
 clear hE ne nD hn
 replace ha:=s7 _ _ ha
 walk_at"rd"
 refine rd_mkx ?_
 walk_at"rd"
 refine⟨_,rfl,fun e8 D8 ne nD hn=>?_⟩
 generalize hE:upd (upd K7 e8 _) D8 _=K8
 obtain⟨t8,s8⟩:=mkx_new ne nD hn hE
 clear hE ne nD hn
 replace ha:=s8 _ _ ha
 walk_at"rd"
 refine rd_mkx0 fun e9 ne=>?_
 generalize hE:upd K8 e9 _=K9
 obtain⟨t9,s9⟩:=mkx0_new ne hE
 clear hE ne
 replace ha:=s9 _ _ ha
 walk_at"rd"
 refine rd_mkx0 fun e10 ne=>?_
 generalize hE:upd K9 e10 _=K10
 obtain⟨t10,s10⟩:=mkx0_new ne hE
 clear hE ne
 replace ha:=s10 _ _ ha
 walk_at"rd"
 refine rd_mkx0 fun e11 ne=>?_
 generalize hE:upd K10 e11 _=K11
 obtain⟨t11,s11⟩:=mkx0_new ne hE
 clear hE ne
 replace ha:=s11 _ _ ha
 walk_at"rd"
 refine⟨(by show 6≤sizeLine;decide),fun l2 m2=>?_⟩
 generalize hE:upd K11 l2 _=L2'
 obtain⟨hl2,sl2⟩:=newo m2 hE
 clear hE
 have z13:=sl2
 have z12:=s11.trans z13
 have z11:=s10.trans z12
 have z10:=s9.trans z11
 have z9:=s8.trans z10
 have z8:=s7.trans z9
 have z7:=s6.trans z8
 have z6:=sl1.trans z7
 have z5:=s5.trans z6
 have z4:=s4.trans z5
 have z3:=s3.trans z4
 have z2:=s2.trans z3
 have z1:=s1.trans z2
 have z0:=s0.trans z1
 walk_at"rd"
 refine⟨l1,l2,_,_,rfl,rfl,z7 _ _ hl1,hl2,(by show 6+6≤sizeLine;decide),fun l3 m3=>?_⟩
 generalize hE:upd L2' l3 _=L3
 obtain⟨hl3,sl3⟩:=newo m3 hE
 clear hE
 have y0:=t0.same (z1.trans sl3)
 have y1:=t1.same (z2.trans sl3)
 have y2:=t2.same (z3.trans sl3)
 have y3:=t3.same (z4.trans sl3)
 have y4:=t4.same (z5.trans sl3)
 have y5:=t5.same (z6.trans sl3)
 have y6:=t6.same (z8.trans sl3)
 have y7:=t7.same (z9.trans sl3)
 have y8:=t8.same (z10.trans sl3)
 have y9:=t9.same (z11.trans sl3)
 have y10:=t10.same (z12.trans sl3)
 have y11:=t11.same (z13.trans sl3)
 walk_at"rd"
 refine q l3 [e0,e1,e2,e3,e4,e5,e6,e7,e8,e9,e10,e11] L3 hl3 ⟨rfl,fun i c e h1 h2=>?_,fun i c e a x h1 h2 h3 h4=>?_,fun c hc=>?_,fun i c a h1 h2=>?_⟩ (z0.trans sl3)
 ·match i,h1,h2 with
  | 0,h1,h2=>cases h1;cases h2;exact y0.any
  | 1,h1,h2=>cases h1;cases h2;exact y1.any
  | 2,h1,h2=>cases h1;cases h2;exact y2.any
  | 3,h1,h2=>cases h1;cases h2;exact y3.any
  | 4,h1,h2=>cases h1;cases h2;exact y4.any
  | 5,h1,h2=>cases h1;cases h2;exact y5.any
  | 6,h1,h2=>cases h1;cases h2;exact y6.any
  | 7,h1,h2=>cases h1;cases h2;exact y7.any
  | 8,h1,h2=>cases h1;cases h2;exact y8.any
  | 9,h1,h2=>cases h1;cases h2;exact y9
  | 10,h1,h2=>cases h1;cases h2;exact y10
  | 11,h1,h2=>cases h1;cases h2;exact y11
  | n+12,h1,_=>simp at h1
 ·match i,h1,h2,h3,h4 with
  | 0,h1,h2,h3,h4=>cases h1;cases h2;cases h3;cases h4;exact y0
  | 1,h1,h2,h3,h4=>cases h1;cases h2;cases h3;cases h4;exact y1
  | 2,h1,h2,h3,h4=>cases h1;cases h2;cases h3;cases h4;exact y2
  | 3,h1,h2,h3,h4=>cases h1;cases h2;cases h3;cases h4;exact y3
  | 4,h1,h2,h3,h4=>cases h1;cases h2;cases h3;cases h4;exact y4
  | 5,h1,h2,h3,h4=>cases h1;cases h2;cases h3;cases h4;exact y5
  | 6,h1,h2,h3,h4=>cases h1;cases h2;cases h3;cases h4;exact y6
  | 7,h1,h2,h3,h4=>cases h1;cases h2;cases h3;cases h4;exact y7
  | 8,h1,h2,h3,h4=>cases h1;cases h2;cases h3;cases h4;exact y8
  | n+9,_,_,h3,_=>simp[at9]at h3
 ·simp only[List.mem_cons,List.not_mem_nil,or_false]at hc
  rcases hc with rfl|rfl|rfl|rfl|rfl|rfl|rfl|rfl|rfl|rfl|rfl|rfl
  ·exact XE_NoSize.kit
  ·exact XE_NoKey.kit
  ·exact XE_NoThing.kit
  ·exact XE_NoRoom.kit
  ·exact XE_Lacking.kit
  ·exact XE_Full.kit
  ·exact XE_NoMark.kit
  ·exact XE_NoName.kit
  ·exact XE_Taken.kit
  ·exact XE_Busy.kit
  ·exact XE_NoText.kit
  ·exact XE_NoLine.kit
 ·match i,h1,h2 with
  | 0,h1,h2=>cases h1;cases h2;exact XE_NoSize.at_
  | 1,h1,h2=>cases h1;cases h2;exact XE_NoKey.at_
  | 2,h1,h2=>cases h1;cases h2;exact XE_NoThing.at_
  | 3,h1,h2=>cases h1;cases h2;exact XE_NoRoom.at_
  | 4,h1,h2=>cases h1;cases h2;exact XE_Lacking.at_
  | 5,h1,h2=>cases h1;cases h2;exact XE_Full.at_
  | 6,h1,h2=>cases h1;cases h2;exact XE_NoMark.at_
  | 7,h1,h2=>cases h1;cases h2;exact XE_NoName.at_
  | 8,h1,h2=>cases h1;cases h2;exact XE_Taken.at_
  | n+9,_,h2=>simp[at9]at h2
theorem ok__law_values {f:Addr}{fd:FuncData}(F:Fun K "_law_values" "_law_values" s__law_values f fd) (mF:mg "_law_values" = some (.ref f)) (bF:Binds K fd ["_law_made_here"] []) (T:Bl mg)  : Cal P w K mg base "_law_values" ["_law_made_here"] 1 (sp__law_values K):=by
 refine Cal.of F mF bF sc__law_values (fun vs H Q E h=>?_) (fun cdv A outer s H vs Q E hr h=>?_)
 ·obtain⟨l,es,cs,xs,rfl,_⟩:=h;rfl
 obtain⟨l,es,cs,xs,rfl,hl,hx,hc,md,q⟩:=h
 obtain⟨x0,x1,x2,x3,x4,x5,x6,x7,x8,rfl⟩:=nine hx
 obtain⟨e0,e1,e2,e3,e4,e5,e6,e7,e8,e9,e10,e11,rfl⟩:=twelve md.len
 obtain⟨c0,c1,c2,c3,c4,c5,c6,c7,c8,c9,c10,c11,rfl⟩:=twelve hc
 have t0:=md.at' 0 _ _ _ _ rfl rfl rfl rfl
 have t1:=md.at' 1 _ _ _ _ rfl rfl rfl rfl
 have t2:=md.at' 2 _ _ _ _ rfl rfl rfl rfl
 have t3:=md.at' 3 _ _ _ _ rfl rfl rfl rfl
 have t4:=md.at' 4 _ _ _ _ rfl rfl rfl rfl
 have t5:=md.at' 5 _ _ _ _ rfl rfl rfl rfl
 have t6:=md.at' 6 _ _ _ _ rfl rfl rfl rfl
 have t7:=md.at' 7 _ _ _ _ rfl rfl rfl rfl
 have t8:=md.at' 8 _ _ _ _ rfl rfl rfl rfl
 have u0:=md.atr 0 _ _ rfl rfl
 have u1:=md.atr 1 _ _ rfl rfl
 have u2:=md.atr 2 _ _ rfl rfl
 have u3:=md.atr 3 _ _ rfl rfl
 have u4:=md.atr 4 _ _ rfl rfl
 have u5:=md.atr 5 _ _ rfl rfl
 have u6:=md.atr 6 _ _ rfl rfl
 have u7:=md.atr 7 _ _ rfl rfl
 have u8:=md.atr 8 _ _ rfl rfl
 refine⟨_,(pss_cons (ps_set (i:=1) sc__law_values.nd rfl (Or.inl rfl) (pe_lst (pa_cons (pe_xat (K:=K) rfl (pe_ix ix_list (pv 0) pe_int (fun _ _=>rfl)) rfl) (pa_cons (pe_xat (K:=K) rfl (pe_ix ix_list (pv 0) pe_int (fun _ _=>rfl)) rfl) (pa_cons (pe_xat (K:=K) rfl (pe_ix ix_list (pv 0) pe_int (fun _ _=>rfl)) rfl) (pa_cons (pe_xat (K:=K) rfl (pe_ix ix_list (pv 0) pe_int (fun _ _=>rfl)) rfl) (pa_cons (pe_xat (K:=K) rfl (pe_ix ix_list (pv 0) pe_int (fun _ _=>rfl)) rfl) (pa_cons (pe_xat (K:=K) rfl (pe_ix ix_list (pv 0) pe_int (fun _ _=>rfl)) rfl) pa_nil stx_Attribute) stx_Attribute) stx_Attribute) stx_Attribute) stx_Attribute) stx_Attribute)))
   (pss_one (ps_ret (pe_op op_cat (pv 1) (pe_lst (pa_cons (pe_xat (K:=K) rfl (pe_ix ix_list (pv 0) pe_int (fun _ _=>rfl)) rfl) (pa_cons (pe_xat (K:=K) rfl (pe_ix ix_list (pv 0) pe_int (fun _ _=>rfl)) rfl) (pa_cons (pe_xat (K:=K) rfl (pe_ix ix_list (pv 0) pe_int (fun _ _=>rfl)) rfl) pa_nil stx_Attribute) stx_Attribute) stx_Attribute)))))),?_⟩
 rw[st__law_values]
 walk_at"rd"
 refine⟨_,_,_,rfl,t0,u0,?_⟩
 walk_at"rd"
 refine⟨_,_,_,rfl,t1,u1,?_⟩
 walk_at"rd"
 refine⟨_,_,_,rfl,t2,u2,?_⟩
 walk_at"rd"
 refine⟨_,_,_,rfl,t3,u3,?_⟩
 walk_at"rd"
 refine⟨_,_,_,rfl,t4,u4,?_⟩
 walk_at"rd"
 refine⟨_,_,_,rfl,t5,u5,?_⟩
 walk_at"rd"
 refine⟨(by show 6≤sizeLine;decide),fun l1 m1=>?_⟩
 generalize hE:upd H l1 _=L1
 obtain⟨hl1,sl1⟩:=newo m1 hE
 clear hE
 replace hl:=sl1 _ _ hl
 walk_at"rd"
 refine⟨_,_,_,rfl,t6.same sl1,u6,?_⟩
 walk_at"rd"
 refine⟨_,_,_,rfl,t7.same sl1,u7,?_⟩
 walk_at"rd"
 refine⟨_,_,_,rfl,t8.same sl1,u8,?_⟩
 walk_at"rd"
 refine⟨(by show 3≤sizeLine;decide),fun l2 m2=>?_⟩
 generalize hE:upd L1 l2 _=L2'
 obtain⟨hl2,sl2⟩:=newo m2 hE
 clear hE
 walk_at"rd"
 refine⟨l1,l2,_,_,rfl,rfl,sl2 _ _ hl1,hl2,(by show 6+3≤sizeLine;decide),fun l3 m3=>?_⟩
 generalize hE:upd L2' l3 _=L3
 obtain⟨hl3,sl3⟩:=newo m3 hE
 clear hE
 walk_at"rd"
 exact q l3 L3 hl3 (sl1.trans (sl2.trans sl3))
theorem ok__law_same {f:Addr}{fd:FuncData}(F:Fun K "_law_same" "_law_same" s__law_same f fd) (mF:mg "_law_same" = some (.ref f)) (bF:Binds K fd ["_law_one", "_law_other"] []) (T:Bl mg)  : Cal P w K mg base "_law_same" ["_law_one", "_law_other"] 1 (sp__law_same K):=by
 refine Cal.of F mF bF sc__law_same (fun vs H Q E h=>?_) (fun cdv A outer s H vs Q E hr h=>?_)
 ·obtain⟨a,b,xs,rfl,_⟩:=h;rfl
 obtain⟨a,b,xs,rfl,ha,hb,hx,th,q⟩:=h
 have hu:=hr.units
 refine⟨_,(pss_cons (ps_for PassesOwn.never rfl (pi_range1 rfl T.range (pa_cons pe_int pa_nil stx_Constant)) (pg_name (i:=2) sc__law_same.nd rfl (Or.inl rfl)) (pss_one (ps_if (PW.pt (pw_or (pt_cmpR op_ne (pe_callB call_isinst rfl T.isinstance bt_isinstance (pa_cons (pe_ix ix_list (pv 0) (pv 2) (fun _ _=>rfl)) (pa_cons (pe_bltn (v:=.ty "bool") rfl T.bool bt_bool rfl) pa_nil stx_Name) stx_Subscript)) (pe_callB call_isinst rfl T.isinstance bt_isinstance (pa_cons (pe_ix ix_list (pv 1) (pv 2) (fun _ _=>rfl)) (pa_cons (pe_bltn (v:=.ty "bool") rfl T.bool bt_bool rfl) pa_nil stx_Name) stx_Subscript)) (nomark _)) (pw_or1 (pt_cmpR (op_neS hu) (pe_ix ix_list (pv 0) (pv 2) (fun _ _=>rfl)) (pe_ix ix_list (pv 1) (pv 2) (fun _ _=>rfl)) (nomark _))))) (pss_one (ps_ret pe_bl)) pss_nil)))
   (pss_one (ps_ret pe_bl))),?_⟩
 rw[st__law_same]
 walk_at"rd"
 refine⟨9,rfl,by omega,by omega,?_⟩
 refine for_rangeO (n:=9) (fun i σ H'=>(∃x,σ=[some (.ref a),some (.ref b),x])∧H'=H) ⟨⟨_,rfl⟩,rfl⟩ ?_ ?_
 ·rintro i σ H' hi ⟨⟨x,rfl⟩,rfl⟩
  obtain⟨v,hv⟩ : ∃v,xs[i]? = some v:=⟨_,List.getElem?_eq_getElem (by omega)⟩
  have tv:=th _ (List.mem_of_getElem? hv)
  obtain⟨t,bb,ty,kt⟩:=tv.isb (K:=K)
  walk_at"rd"
  rw[Int.zero_add]
  refine rd_ixL (SqL.of ha) (atI_nat hv) ?_
  walk_at"rd"
  refine rd_isi ty kt ?_
  walk_at"rd"
  refine rd_ixL (SqL.of hb) (atI_nat hv) ?_
  walk_at"rd"
  refine rd_isi ty kt ?_
  walk_at"rd"
  rw[if_neg (by simp)]
  walk_at"rd"
  refine rd_ixL (SqL.of ha) (atI_nat hv) ?_
  walk_at"rd"
  refine rd_ixL (SqL.of hb) (atI_nat hv) ?_
  walk_at"rd"
  refine⟨rfl,tv.slf,?_⟩
  walk_at"rd"
  exact⟨⟨_,rfl⟩,rfl⟩
 ·rintro σ H' ⟨⟨x,rfl⟩,rfl⟩
  walk_at"rd"
  exact q
theorem ok__law_taken {f:Addr}{fd:FuncData}(F:Fun K "_law_taken" "_law_taken" s__law_taken f fd) (mF:mg "_law_taken" = some (.ref f)) (bF:Binds K fd ["_law_k", "_law_thing_here"] []) (T:Bl mg) {TE:Addr}{CE_Full:Addr}(XE_Full:XTxt K mg "Full" CE_Full TE "many") {CE_Lacking:Addr}(XE_Lacking:XTxt K mg "Lacking" CE_Lacking TE "key") {CE_NoKey:Addr}(XE_NoKey:XTxt K mg "NoKey" CE_NoKey TE "key") {CE_NoMark:Addr}(XE_NoMark:XTxt K mg "NoMark" CE_NoMark TE "mark") {CE_NoName:Addr}(XE_NoName:XTxt K mg "NoName" CE_NoName TE "name") {CE_NoRoom:Addr}(XE_NoRoom:XTxt K mg "NoRoom" CE_NoRoom TE "number") {CE_NoSize:Addr}(XE_NoSize:XTxt K mg "NoSize" CE_NoSize TE "thing") {CE_NoThing:Addr}(XE_NoThing:XTxt K mg "NoThing" CE_NoThing TE "thing") {CE_Taken:Addr}(XE_Taken:XTxt K mg "Taken" CE_Taken TE "name") {CE_Busy:Addr}(XE_Busy:XTxt0 K mg "Busy" CE_Busy TE) {CE_NoLine:Addr}(XE_NoLine:XTxt0 K mg "NoLine" CE_NoLine TE) {CE_NoText:Addr}(XE_NoText:XTxt0 K mg "NoText" CE_NoText TE)  (XT:XTop K mg TE) (kt_tab:kitTab K [CE_NoSize,CE_NoKey,CE_NoThing,CE_NoRoom,CE_Lacking,CE_Full,CE_NoMark,CE_NoName,CE_Taken,CE_Busy,CE_NoText,CE_NoLine]=true) (kt_top:kitTop K TE [CE_NoSize,CE_NoKey,CE_NoThing,CE_NoRoom,CE_Lacking,CE_Full,CE_NoMark,CE_NoName,CE_Taken,CE_Busy,CE_NoText,CE_NoLine]=true) (C__law_flags:CalS P w K mg base "_law_flags" ["_law_e"] 1 (sp__law_flags K)):Cal P w K mg base "_law_taken" ["_law_k", "_law_thing_here"] 3 (sp__law_taken K):=by
 refine Cal.of F mF bF sc__law_taken (fun vs H Q E h=>?_) (fun cdv A outer s H vs Q E hr h=>?_)
 ·obtain⟨k,x,rfl,_⟩:=h;rfl
 obtain⟨k,x,rfl,k0,k1,tx,q⟩:=h
 have hu:=hr.units
 have i12:Is12 K [CE_NoSize,CE_NoKey,CE_NoThing,CE_NoRoom,CE_Lacking,CE_Full,CE_NoMark,CE_NoName,CE_Taken,CE_Busy,CE_NoText,CE_NoLine]:=⟨rfl,fun i x c h1 h2=>by
  match i,h1,h2 with
  | 0,h1,h2=>cases h1;cases h2;exact XE_NoSize.nm
  | 1,h1,h2=>cases h1;cases h2;exact XE_NoKey.nm
  | 2,h1,h2=>cases h1;cases h2;exact XE_NoThing.nm
  | 3,h1,h2=>cases h1;cases h2;exact XE_NoRoom.nm
  | 4,h1,h2=>cases h1;cases h2;exact XE_Lacking.nm
  | 5,h1,h2=>cases h1;cases h2;exact XE_Full.nm
  | 6,h1,h2=>cases h1;cases h2;exact XE_NoMark.nm
  | 7,h1,h2=>cases h1;cases h2;exact XE_NoName.nm
  | 8,h1,h2=>cases h1;cases h2;exact XE_Taken.nm
  | 9,h1,h2=>cases h1;cases h2;exact XE_Busy.nm
  | 10,h1,h2=>cases h1;cases h2;exact XE_NoText.nm
  | 11,h1,h2=>cases h1;cases h2;exact XE_NoLine.nm
  | n+12,h1,_=>simp[nm12]at h1⟩
 have NE_Busy:CE_Busy≠CE_NoKey:=nd_ne (kitTab.nd kt_tab) (i:=9) (j:=1) rfl rfl (by decide)
 have NE_Taken:CE_Taken≠CE_NoKey:=nd_ne (kitTab.nd kt_tab) (i:=8) (j:=1) rfl rfl (by decide)
 refine⟨_,(pss_cons (ps_cut (ps_trySN sc__law_taken.nd rfl rfl (fun xe pn E1 thr=>(pss_cons (ps_if (pt_cmpR op_eq (pv 0) pe_int (nomark _)) (pss_one (ps_raise1S (k:=0) thr XE_NoKey.cls (hr.mono (by decide)) rfl XE_NoKey.mg (pa_cons (pv 1) pa_nil stx_Name))) pss_nil)
   (pss_cons (ps_if (pt_cmpR op_eq (pv 0) pe_int (nomark _)) (pss_one (ps_raise0S (k:=0) thr XE_Busy.cls (hr.mono (by decide)) rfl XE_Busy.mg)) pss_nil)
   (pss_one (ps_raise1S (k:=0) thr XE_Taken.cls (hr.mono (by decide)) rfl XE_Taken.mg (pa_cons (pv 1) pa_nil stx_Name)))))) (PHs.named (i:=2) rfl rfl rfl XE_NoKey.mg (fun exx=>(pss_one (ps_ret (pe_and (pe_cmpR op_eq (pv 0) pe_int (nomark _)) (pe_one (pe_cmpR (op_eqSK (K:=K) rfl hu) (pe_xat (K:=K) rfl (pv 2) rfl) (pv 1) (nomark _))))))) (PHs.named (i:=2) rfl rfl rfl XT.mg (fun exx=>(pss_one (ps_ret (pe_and (pe_cmpR op_gt (pv 0) pe_int (nomark _)) (pe_one (pe_cmpR (op_eqDK (K:=K) rfl hu) (pclS C__law_flags ((hr.mono (by decide)).mark _) (pa_cons (pv 2) pa_nil stx_Name)) (pe_compS (eh:=exx) rfl (blkOk (sc:=defScope s__law_taken) (N:=["_law_k", "_law_thing_here", "_law_e"]) (vs:=["_law_j"]) (fs:=["_law_k"]) (js:=[0]) (by decide +kernel) rfl rfl) (pi_range1S (by rfl) T.range (pa_cons pe_int pa_nil stx_Constant)) (fun _ _ _ _=>pg_name (i:=0) (show(["_law_j", "_law_k"]:List Str).Nodup by decide +kernel) rfl (Or.inl rfl)) (fun _ _ _ _=>pif0) (fun _ _ _ _=>(pe_cmpR op_eq (pv 0) (pe_ix (ix_listK (K:=K) rfl) (pe_lst (pa_cons pe_int (pa_cons pe_int pa_nil stx_Constant) stx_Constant)) (pe_op op_mod (pv 1) pe_int) (fun _ _=>rfl)) (nomark _)))) (nomark _))))))) PHs.nil))))
   (pss_one (ps_ret pe_bl))),?_⟩
 rw[st__law_taken]
 walk_at"rd"
 refine cutO (fun σ H'=>False) ?_ (fun σ H' h=>h.elim)
 intro Nx hNx
 refine⟨fun σ u c H0=>H0=H∧(∃y,σ=[some (.int k),some x,y])∧((k=0∧c=some CE_NoKey∧RelV x u) ∨(k=1∧c=some CE_Busy) ∨(k=2∧c=some CE_Taken∧RelV x u)),?_,?_⟩
 ·walk_at"rd"
  refine rd_if (fun c=>?_) (fun c=>?_)
  ·walk_at"rd"
   refine rd_raiseS ?_
   walk_at"rd"
   exact⟨x,rfl,fun u r=>⟨rfl,⟨_,rfl⟩,.inl ⟨c,rfl,r⟩⟩⟩
  walk_at"rd"
  refine rd_if (fun c2=>?_) (fun c2=>?_)
  ·walk_at"rd"
   exact⟨rfl,⟨_,rfl⟩,.inr (.inl ⟨c2,rfl⟩)⟩
  walk_at"rd"
  refine rd_raiseS ?_
  walk_at"rd"
  exact⟨x,rfl,fun u r=>⟨rfl,⟨_,rfl⟩,.inr (.inr ⟨by omega,rfl,r⟩)⟩⟩
 ·rintro σ' u C H0 ⟨rfl,⟨y,rfl⟩,hk⟩ e H' v' rv xa xp sub hl
  rcases hk with⟨rfl,cc,rx⟩|⟨rfl,cc⟩|⟨rfl,cc,rx⟩
  ·cases cc
   obtain rfl:=rv.inj rx
   have x1:=xa _ XE_NoKey.cls
   refine .inl ⟨und_self XE_NoKey.xc,?_⟩
   dsimp only[setO,Ends.goneO,List.set]
   walk_at"rd"
   rw[if_pos (by decide)]
   walk_at"rd"
   refine⟨e,_,_,rfl,x1,XE_NoKey.at_,?_⟩
   walk_at"rd"
   refine⟨rfl,(tx.same sub).slf,?_⟩
   exact q _ sub
  ·cases cc
   have x1:=(xp XE_Busy.cls).any
   refine .inr ⟨und_not XE_Busy.xc XE_NoKey.xc XT.xc NE_Busy,.inl ⟨und_tail XE_Busy.xc XT.xc,?_⟩⟩
   dsimp only[setO,Ends.goneO,List.set]
   walk_at"rd"
   rw[if_pos (by decide)]
   walk_at"rd"
   refine⟨e,CE_Busy,_,rfl,i12,by simp,x1,XE_Busy.kit,fun l H1 hl1 s1=>?_⟩
   have fe:=flags_eq (k:=9) i12.1 (kitTab.nd kt_tab) (C:=CE_Busy) rfl
   rw[fe]at hl1
   walk_at"rd"
   refine⟨12,rfl,by omega,by omega,fun D nD=>?_⟩
   refine comp_rangeS (n:=12) (fun j σ' ys H2=>(∃y,σ'=[y,some (.int 1)])∧ys =((List.range j).map fun(t:Nat)=>decide ((0:Int)+(t:Int) =((9:Nat):Int))).map V.bl∧Same H1 H2∧H2 D=some (.lst ys)) D ⟨⟨_,rfl⟩,rfl,same_new nD _,upd_same⟩ ?_ ?_ ?_
   ·rintro j σ' ys H2 hj ⟨⟨y',rfl⟩,rfl,g1,g2⟩
    walk_at"rd"
    refine⟨(by show 2≤sizeLine;decide),fun o m1=>?_⟩
    generalize hE:upd H2 o _=H3
    obtain⟨go,to⟩:=newo m1 hE
    clear hE
    walk_at"rd"
    refine⟨to _ _ g2,?_,⟨_,rfl⟩,?_,fun c o e=>?_,upd_same⟩
    ·rw[List.length_map,List.length_map,List.length_range]
     exact small1000 (by omega)
    ·rw[List.range_succ,List.map_append,List.map_append]
     rfl
    ·rw[upd_ne (ne_of_none e nD)]
     exact to _ _ (g1 _ _ e)
   ·rintro σ' ys H2 ⟨⟨y',rfl⟩,rfl,g1,g2⟩
    obtain⟨D1,T1,a1,v1,xx⟩:=x1.same (s1.trans g1)
    exact⟨_,_,_,xx.ex⟩
   ·rintro σ' ys H2 ⟨⟨y',rfl⟩,rfl,g1,g2⟩
    walk_at"rd"
    obtain⟨w1,w2⟩:=bools12 (tells_len 9)
    refine⟨_,_,.lst (SqL.of (g1 _ _ hl1)) (DVs.bools _),.lst (SqL.of g2) (DVs.bools (tells 9)),w1,w1,?_⟩
    rw[w2]
    exact q _ (Same.trans sub (s1.trans g1))
  ·cases cc
   have x1:=(xa _ XE_Taken.cls).any
   refine .inr ⟨und_not XE_Taken.xc XE_NoKey.xc XT.xc NE_Taken,.inl ⟨und_tail XE_Taken.xc XT.xc,?_⟩⟩
   dsimp only[setO,Ends.goneO,List.set]
   walk_at"rd"
   rw[if_pos (by decide)]
   walk_at"rd"
   refine⟨e,CE_Taken,_,rfl,i12,by simp,x1,XE_Taken.kit,fun l H1 hl1 s1=>?_⟩
   have fe:=flags_eq (k:=8) i12.1 (kitTab.nd kt_tab) (C:=CE_Taken) rfl
   rw[fe]at hl1
   walk_at"rd"
   refine⟨12,rfl,by omega,by omega,fun D nD=>?_⟩
   refine comp_rangeS (n:=12) (fun j σ' ys H2=>(∃y,σ'=[y,some (.int 2)])∧ys =((List.range j).map fun(t:Nat)=>decide ((0:Int)+(t:Int) =((8:Nat):Int))).map V.bl∧Same H1 H2∧H2 D=some (.lst ys)) D ⟨⟨_,rfl⟩,rfl,same_new nD _,upd_same⟩ ?_ ?_ ?_
   ·rintro j σ' ys H2 hj ⟨⟨y',rfl⟩,rfl,g1,g2⟩
    walk_at"rd"
    refine⟨(by show 2≤sizeLine;decide),fun o m1=>?_⟩
    generalize hE:upd H2 o _=H3
    obtain⟨go,to⟩:=newo m1 hE
    clear hE
    walk_at"rd"
    refine⟨to _ _ g2,?_,⟨_,rfl⟩,?_,fun c o e=>?_,upd_same⟩
    ·rw[List.length_map,List.length_map,List.length_range]
     exact small1000 (by omega)
    ·rw[List.range_succ,List.map_append,List.map_append]
     rfl
    ·rw[upd_ne (ne_of_none e nD)]
     exact to _ _ (g1 _ _ e)
   ·rintro σ' ys H2 ⟨⟨y',rfl⟩,rfl,g1,g2⟩
    obtain⟨D1,T1,a1,v1,xx⟩:=x1.same (s1.trans g1)
    exact⟨_,_,_,xx.ex⟩
   ·rintro σ' ys H2 ⟨⟨y',rfl⟩,rfl,g1,g2⟩
    walk_at"rd"
    obtain⟨w1,w2⟩:=bools12 (tells_len 8)
    refine⟨_,_,.lst (SqL.of (g1 _ _ hl1)) (DVs.bools _),.lst (SqL.of g2) (DVs.bools (tells 8)),w1,w1,?_⟩
    rw[w2]
    exact q _ (Same.trans sub (s1.trans g1))
theorem ok_law {f:Addr}{fd:FuncData}(F:Fun K "law" "law" s_law f fd) (T:Bl mg) {TE:Addr}{CE_Full:Addr}(XE_Full:XTxt K mg "Full" CE_Full TE "many") {CE_Lacking:Addr}(XE_Lacking:XTxt K mg "Lacking" CE_Lacking TE "key") {CE_NoKey:Addr}(XE_NoKey:XTxt K mg "NoKey" CE_NoKey TE "key") {CE_NoMark:Addr}(XE_NoMark:XTxt K mg "NoMark" CE_NoMark TE "mark") {CE_NoName:Addr}(XE_NoName:XTxt K mg "NoName" CE_NoName TE "name") {CE_NoRoom:Addr}(XE_NoRoom:XTxt K mg "NoRoom" CE_NoRoom TE "number") {CE_NoSize:Addr}(XE_NoSize:XTxt K mg "NoSize" CE_NoSize TE "thing") {CE_NoThing:Addr}(XE_NoThing:XTxt K mg "NoThing" CE_NoThing TE "thing") {CE_Taken:Addr}(XE_Taken:XTxt K mg "Taken" CE_Taken TE "name") {CE_Busy:Addr}(XE_Busy:XTxt0 K mg "Busy" CE_Busy TE) {CE_NoLine:Addr}(XE_NoLine:XTxt0 K mg "NoLine" CE_NoLine TE) {CE_NoText:Addr}(XE_NoText:XTxt0 K mg "NoText" CE_NoText TE)  (XT:XTop K mg TE) (kt_tab:kitTab K [CE_NoSize,CE_NoKey,CE_NoThing,CE_NoRoom,CE_Lacking,CE_Full,CE_NoMark,CE_NoName,CE_Taken,CE_Busy,CE_NoText,CE_NoLine]=true) (kt_top:kitTop K TE [CE_NoSize,CE_NoKey,CE_NoThing,CE_NoRoom,CE_Lacking,CE_Full,CE_NoMark,CE_NoName,CE_Taken,CE_Busy,CE_NoText,CE_NoLine]=true) (C__law_open:Cal P w K mg base "_law_open" ["_law_script", "_law_place"] 1 (sp__law_open K)) (C__law_made:Cal P w K mg base "_law_made" ["_law_some"] 3 (sp__law_made K)) (C__law_thing:Cal P w K mg base "_law_thing" ["_law_hand"] 3 (sp__law_thing K)) (C__law_flags:CalS P w K mg base "_law_flags" ["_law_e"] 1 (sp__law_flags K)) (C__law_same:Cal P w K mg base "_law_same" ["_law_one", "_law_other"] 1 (sp__law_same K)) (C__law_values:Cal P w K mg base "_law_values" ["_law_made_here"] 1 (sp__law_values K)) (C__law_taken:Cal P w K mg base "_law_taken" ["_law_k", "_law_thing_here"] 3 (sp__law_taken K)):FnOk P w K mg base CX0 4 f fd ["_law_script"] (sp_law K):=by
 refine F.ok sc_law (fun vs H Q E h=>?_) (fun cdv A outer s H vs Q E hr h=>?_)
 ·obtain⟨a,ns,rfl,_⟩:=h;rfl
 obtain⟨a,ns,rfl,hS,hlen,q⟩:=h
 have hu:=hr.units
 have i12:Is12 K [CE_NoSize,CE_NoKey,CE_NoThing,CE_NoRoom,CE_Lacking,CE_Full,CE_NoMark,CE_NoName,CE_Taken,CE_Busy,CE_NoText,CE_NoLine]:=⟨rfl,fun i x c h1 h2=>by
  match i,h1,h2 with
  | 0,h1,h2=>cases h1;cases h2;exact XE_NoSize.nm
  | 1,h1,h2=>cases h1;cases h2;exact XE_NoKey.nm
  | 2,h1,h2=>cases h1;cases h2;exact XE_NoThing.nm
  | 3,h1,h2=>cases h1;cases h2;exact XE_NoRoom.nm
  | 4,h1,h2=>cases h1;cases h2;exact XE_Lacking.nm
  | 5,h1,h2=>cases h1;cases h2;exact XE_Full.nm
  | 6,h1,h2=>cases h1;cases h2;exact XE_NoMark.nm
  | 7,h1,h2=>cases h1;cases h2;exact XE_NoName.nm
  | 8,h1,h2=>cases h1;cases h2;exact XE_Taken.nm
  | 9,h1,h2=>cases h1;cases h2;exact XE_Busy.nm
  | 10,h1,h2=>cases h1;cases h2;exact XE_NoText.nm
  | 11,h1,h2=>cases h1;cases h2;exact XE_NoLine.nm
  | n+12,h1,_=>simp[nm12]at h1⟩
 refine⟨_,(pss_cons (ps_for PassesOwn.never rfl (pi_range1 rfl T.range (pa_cons (pe_callB (call_maxI rfl) rfl T.max bt_max (pa_cons pe_int (pa_cons (pe_callB (call_minI rfl) rfl T.min bt_min (pa_cons pe_int (pa_cons (pe_callB call_lenL rfl T.len bt_len (pa_cons (pv 0) pa_nil stx_Name)) pa_nil stx_Call) stx_Constant)) pa_nil stx_Call) stx_Constant)) pa_nil stx_Call)) (pg_name (i:=1) sc_law.nd rfl (Or.inl rfl)) (pss_cons (ps_set (i:=2) sc_law.nd rfl (Or.inr rfl) (pcl C__law_open (hr.mono (by decide)) (pa_cons (pv 0) (pa_cons (pv 1) pa_nil stx_Name) stx_Name)))
   (pss_cons (ps_set (i:=3) sc_law.nd rfl (Or.inr rfl) (pe_comp rfl (blkOk (sc:=defScope s_law) (N:=["_law_script", "_law_place", "_law_hand", "_law_some", "_law_k", "_law_more", "_law_made_here", "_law_others"]) (vs:=["_law_k"]) (fs:=["_law_hand"]) (js:=[2]) (by decide +kernel) rfl rfl) (pi_range1 rfl T.range (pa_cons pe_int pa_nil stx_Constant)) (fun _ _ _ _=>pg_name (i:=0) (show(["_law_k", "_law_hand"]:List Str).Nodup by decide +kernel) rfl (Or.inl rfl)) (fun _ _ _ _=>pif0) (fun _ _ _ _=>(pcl C__law_thing (hr.mono (by decide)) (pa_cons (pv 1) pa_nil stx_Name)))))
   (pss_cons (ps_setc (i:=5) sc_law.nd rfl rfl rfl (blkOk (sc:=defScope s_law) (N:=["_law_script", "_law_place", "_law_hand", "_law_some", "_law_k", "_law_more", "_law_made_here", "_law_others"]) (vs:=["_law_k"]) (fs:=["_law_hand"]) (js:=[2]) (by decide +kernel) rfl rfl) (pi_range1 rfl T.range (pa_cons pe_int pa_nil stx_Constant)) (fun _ _ _ _=>pg_name (i:=0) (show(["_law_k", "_law_hand"]:List Str).Nodup by decide +kernel) rfl (Or.inl rfl)) (fun _ _ _ _=>pif0) (fun _ _ _ _=>(pcl C__law_thing (hr.mono (by decide)) (pa_cons (pv 1) pa_nil stx_Name))))
   (pss_cons (ps_set (i:=6) sc_law.nd rfl (Or.inl rfl) (pcl C__law_made (hr.mono (by decide)) (pa_cons (pv 3) pa_nil stx_Name)))
   (pss_cons (ps_set (i:=7) sc_law.nd rfl (Or.inl rfl) (pcl C__law_made (hr.mono (by decide)) (pa_cons (pv 5) pa_nil stx_Name)))
   (pss_cons (ps_for PassesOwn.never rfl (pi_range1 rfl T.range (pa_cons pe_int pa_nil stx_Constant)) (pg_name (i:=4) sc_law.nd rfl (Or.inr rfl)) (pss_cons (ps_if (PW.pt (pw_or (pt_not (pt_val (pe_callB (call_isiEK (K:=K) rfl) rfl T.isinstance bt_isinstance (pa_cons (pe_ix ix_list (pv 6) (pv 4) (fun _ _=>rfl)) (pa_cons (pe_glob (v:=V.ref TE) rfl XT.mg (show L2.RelV (.ref TE) (.ref TE) from rfl)) pa_nil stx_Name) stx_Subscript)))) (pw_or1 (pt_not (pt_val (pe_callB (call_isiEK (K:=K) rfl) rfl T.isinstance bt_isinstance (pa_cons (pe_ix ix_list (pv 6) (pv 4) (fun _ _=>rfl)) (pa_cons (pe_bltn (v:=.ty "ValueError") rfl T.ValueError bt_ValueError rfl) pa_nil stx_Name) stx_Subscript))))))) (pss_one (ps_ret pe_bl)) pss_nil)
   (pss_one (ps_if (pt_cmpR (op_neD hu) (pcl C__law_flags.cal (hr.mono (by decide)) (pa_cons (pe_ix ix_list (pv 6) (pv 4) (fun _ _=>rfl)) pa_nil stx_Subscript)) (pe_comp rfl (blkOk (sc:=defScope s_law) (N:=["_law_script", "_law_place", "_law_hand", "_law_some", "_law_k", "_law_more", "_law_made_here", "_law_others"]) (vs:=["_law_j"]) (fs:=["_law_k"]) (js:=[4]) (by decide +kernel) rfl rfl) (pi_range1 rfl T.range (pa_cons pe_int pa_nil stx_Constant)) (fun _ _ _ _=>pg_name (i:=0) (show(["_law_j", "_law_k"]:List Str).Nodup by decide +kernel) rfl (Or.inl rfl)) (fun _ _ _ _=>pif0) (fun _ _ _ _=>(pe_cmpR op_eq (pv 0) (pv 1) (nomark _)))) (nomark _)) (pss_one (ps_ret pe_bl)) pss_nil))))
   (pss_cons (ps_if (PW.pt (pw_or (pt_not (pt_val (pcl C__law_same (hr.mono (by decide)) (pa_cons (pcl C__law_values (hr.mono (by decide)) (pa_cons (pv 7) pa_nil stx_Name)) (pa_cons (pv 5) pa_nil stx_Name) stx_Call)))) (pw_or1 (pt_not (pt_val (pcl C__law_same (hr.mono (by decide)) (pa_cons (pcl C__law_values (hr.mono (by decide)) (pa_cons (pv 6) pa_nil stx_Name)) (pa_cons (pv 3) pa_nil stx_Name) stx_Call))))))) (pss_one (ps_ret pe_bl)) pss_nil)
   (pss_one (ps_if (pt_not (pt_val (pe_callB (call_allL rfl) rfl T.all bt_all (pa_cons (pe_comp rfl (blkOk (sc:=defScope s_law) (N:=["_law_script", "_law_place", "_law_hand", "_law_some", "_law_k", "_law_more", "_law_made_here", "_law_others"]) (vs:=["_law_k"]) (fs:=["_law_some"]) (js:=[3]) (by decide +kernel) rfl rfl) (pi_range1 rfl T.range (pa_cons pe_int pa_nil stx_Constant)) (fun _ _ _ _=>pg_name (i:=0) (show(["_law_k", "_law_some"]:List Str).Nodup by decide +kernel) rfl (Or.inl rfl)) (fun _ _ _ _=>pif0) (fun _ _ _ _=>(pcl C__law_taken (hr.mono (by decide)) (pa_cons (pv 0) (pa_cons (pe_ix (ix_listK (K:=K) rfl) (pv 1) (pv 0) (fun _ _=>rfl)) pa_nil stx_Subscript) stx_Name)))) pa_nil stx_ListComp)))) (pss_one (ps_ret pe_bl)) pss_nil))))))))))
   (pss_one (ps_ret pe_bl))),?_⟩
 rw[st_law]
 walk_at"rd"
 refine rd_lenL hS ?_
 walk_at"rd"
 rw[List.length_map]
 refine⟨_,rfl,by omega,by omega,?_⟩
 have hb:(max 2 (min 12 (ns.length:Int))).toNat≤12:=by omega
 generalize (max 2 (min 12 (ns.length:Int))).toNat=n at hb ⊢
 refine for_rangeO (n:=n) (fun i σ H'=>(∃x1 x2 x3 x4 x5 x6 x7,σ=[some (.ref a),x1,x2,x3,x4,x5,x6,x7])∧Same H H') ⟨⟨_,_,_,_,_,_,_,rfl⟩,Same.refl H⟩ ?_ ?_
 ·rintro i σ H' hi ⟨⟨x1,x2,x3,x4,x5,x6,x7,rfl⟩,s1⟩
  walk_at"rd"
  refine⟨a,ns,0+i,rfl,s1.seq hS,hlen,by omega,by omega,fun p H1 np s2 hh1=>?_⟩
  have nH:H p=none:=s1.free np
  walk_at"rd"
  refine⟨9,rfl,by omega,by omega,fun D1 nD1=>?_⟩
  refine comp_range (n:=9) (fun j σ' ys G=>(∃x,σ'=[x,some (.ref p)])∧ys.length=j∧(∀y∈ys,Thg G y∧y ≠ .ref D1)∧CK H1 p D1 (1100000+10*j) ys G) D1 ⟨⟨_,rfl⟩,rfl,fun _ h=>(by cases h),CK.start hh1 nD1⟩ ?_ ?_
  ·rintro j σ' ys G hj ⟨⟨x,rfl⟩,yl,ya,ck⟩
   walk_at"rd"
   refine⟨p,_,rfl,ck.hh,by omega,fun y G2 ty ny hh2 k2=>?_⟩
   have ck2:=ck.draw k2 hh2
   refine⟨ck2.lat,small1000 (by omega),⟨_,rfl⟩,by rw[List.length_append,yl];rfl,fun z hz=>?_,ck2.push⟩
   rcases List.mem_append.mp hz with h|h
   ·exact⟨((ya z h).1.kp ck.hh k2).upd (ya z h).2,(ya z h).2⟩
   ·obtain rfl:z=y:=by simpa using h
    have nz:z ≠ .ref D1:=fun e=>by have:=ny _ e;rw[ck.lat]at this;cases this
    exact⟨ty.upd nz,nz⟩
  ·rintro σ' ys G0 ⟨⟨x,rfl⟩,yl,ya,ck⟩
   walk_at"rd"
   refine⟨9,rfl,by omega,by omega,fun D2 nD2=>?_⟩
   have hhG:=ck.hh
   refine comp_range (n:=9) (fun j σ' zs G=>(∃x,σ'=[x,some (.ref p)])∧zs.length=j∧(∀y∈zs,Thg G y∧y ≠ .ref D2)∧CK G0 p D2 ((1100000+10*9)+10*j) zs G) D2 ⟨⟨_,rfl⟩,rfl,fun _ h=>(by cases h),CK.start hhG nD2⟩ ?_ ?_
   ·rintro j σ' zs G hj ⟨⟨x,rfl⟩,zl,za,cj⟩
    walk_at"rd"
    refine⟨p,_,rfl,cj.hh,by omega,fun y G2 ty ny hh2 k2=>?_⟩
    have cj2:=cj.draw k2 hh2
    refine⟨cj2.lat,small1000 (by omega),⟨_,rfl⟩,by rw[List.length_append,zl];rfl,fun z hz=>?_,cj2.push⟩
    rcases List.mem_append.mp hz with h|h
    ·exact⟨((za z h).1.kp cj.hh k2).upd (za z h).2,(za z h).2⟩
    ·obtain rfl:z=y:=by simpa using h
     have nz:z ≠ .ref D2:=fun e=>by have:=ny _ e;rw[cj.lat]at this;cases this
     exact⟨ty.upd nz,nz⟩
   ·rintro σ' zs G2 ⟨⟨x',rfl⟩,zl,za,cj⟩
    have hD1:=cj.kp.1 _ _ ck.lat ck.np
    have hD2:=cj.lat
    have th1:∀y∈ys,Thg G2 y:=fun y hy=>(ya y hy).1.kp hhG cj.kp
    have th2:∀y∈zs,Thg G2 y:=fun y hy=>(za y hy).1
    have sG:Same H G2:=Kp.new (s1.trans s2) nH (ck.kp.trans cj.kp)
    clear ck cj ya za hhG
    walk_at"rd"
    refine⟨D1,ys,_,rfl,hD1,yl,i12,fun l1 es1 K1 hl1 md1 t1=>?_⟩
    walk_at"rd"
    refine⟨D2,zs,_,rfl,t1 _ _ hD2,zl,i12,fun l2 es2 K2 hl2 md2 t2=>?_⟩
    replace hl1:=t2 _ _ hl1
    replace md1:=md1.same t2
    replace hD1:=t2 _ _ (t1 _ _ hD1)
    replace hD2:=t2 _ _ (t1 _ _ hD2)
    replace th1:∀y∈ys,Thg K2 y:=fun y hy=>(th1 y hy).same (t1.trans t2)
    replace th2:∀y∈zs,Thg K2 y:=fun y hy=>(th2 y hy).same (t1.trans t2)
    replace sG:=sG.trans (t1.trans t2)
    clear t1 t2
    walk_at"rd"
    refine⟨12,rfl,by omega,by omega,?_⟩
    refine for_rangeO (n:=12) (fun k σ' G=>(∃y,σ'=[some (.ref a),some (.int (0+i)),some (.ref p),some (.ref D1),y,some (.ref D2),some (.ref l1),some (.ref l2)])∧Same K2 G) ⟨⟨_,rfl⟩,Same.refl _⟩ ?_ ?_
    ·rintro k σ' G hk ⟨⟨y,rfl⟩,sA⟩
     obtain⟨e,he⟩ : ∃e,es1[k]? = some e:=⟨_,List.getElem?_eq_getElem (by rw[md1.len];omega)⟩
     obtain⟨C,hC⟩ : ∃C,([CE_NoSize,CE_NoKey,CE_NoThing,CE_NoRoom,CE_Lacking,CE_Full,CE_NoMark,CE_NoName,CE_Taken,CE_Busy,CE_NoText,CE_NoLine]:List Addr)[k]? = some C:=⟨_,List.getElem?_eq_getElem (by show k<12;omega)⟩
     have hCm:=List.mem_of_getElem? hC
     have xa:=(md1.any k C e hC he).same sA
     have xk:=md1.kit C hCm
     have hev:(es1.map V.ref)[k]? = some (.ref e):=by rw[List.getElem?_map,he];rfl
     walk_at"rd"
     rw[Int.zero_add]
     refine rd_ixL (SqL.of (sA _ _ hl1)) (atI_nat hev) ?_
     walk_at"rd"
     refine rd_isiE xa xk (fun u r=>r) (kitTop.at kt_top hCm).1 ?_
     walk_at"rd"
     refine rd_ixL (SqL.of (sA _ _ hl1)) (atI_nat hev) ?_
     walk_at"rd"
     refine rd_isiE xa xk (fun u r=>r) (kitTop.at kt_top hCm).2 ?_
     walk_at"rd"
     refine rd_ixL (SqL.of (sA _ _ hl1)) (atI_nat hev) ?_
     walk_at"rd"
     refine⟨e,C,_,rfl,i12,hCm,xa,xk,fun lf G1 hlf sf=>?_⟩
     rw[flags_eq i12.1 (kitTab.nd kt_tab) hC]at hlf
     walk_at"rd"
     refine⟨12,rfl,by omega,by omega,fun D nD=>?_⟩
     refine comp_range (n:=12) (fun j σ' ys G2=>(∃y,σ'=[y,some (.int k)])∧ys =((List.range j).map fun(t:Nat)=>decide ((0:Int)+(t:Int) =(k:Int))).map V.bl∧Same G1 G2∧G2 D=some (.lst ys)) D ⟨⟨_,rfl⟩,rfl,same_new nD _,upd_same⟩ ?_ ?_
     ·rintro j σ' ys G2 hj ⟨⟨y',rfl⟩,rfl,g1,g2⟩
      walk_at"rd"
      refine⟨g2,?_,⟨_,rfl⟩,?_,fun c o e=>?_,upd_same⟩
      ·rw[List.length_map,List.length_map,List.length_range]
       exact small1000 (by omega)
      ·rw[List.range_succ,List.map_append,List.map_append]
       rfl
      ·rw[upd_ne (ne_of_none e nD)]
       exact g1 _ _ e
     ·rintro σ' ys' G2 ⟨⟨y',rfl⟩,rfl,g1,g2⟩
      walk_at"rd"
      obtain⟨w1,w2⟩:=bools12 (tells_len k)
      refine⟨_,_,.lst (SqL.of (g1 _ _ hlf)) (DVs.bools _),.lst (SqL.of g2) (DVs.bools (tells k)),w1,w1,?_⟩
      rw[w2]
      walk_at"rd"
      exact⟨⟨_,rfl⟩,sA.trans (sf.trans g1)⟩
    ·rintro σ' G ⟨⟨y,rfl⟩,sA⟩
     walk_at"rd"
     refine⟨l2,es2,_,zs,rfl,sA _ _ hl2,zl,i12.1,md2.same sA,fun r1 G1 hr1 t1=>?_⟩
     walk_at"rd"
     refine⟨r1,D2,zs,rfl,hr1,t1 _ _ (sA _ _ hD2),zl,fun y hy=>(th2 y hy).same (sA.trans t1),?_⟩
     walk_at"rd"
     refine⟨l1,es1,_,ys,rfl,t1 _ _ (sA _ _ hl1),yl,i12.1,md1.same (sA.trans t1),fun r2 G2 hr2 t2=>?_⟩
     have sB:=sA.trans (t1.trans t2)
     walk_at"rd"
     refine⟨r2,D1,ys,rfl,hr2,sB _ _ hD1,yl,fun y hy=>(th1 y hy).same sB,?_⟩
     walk_at"rd"
     refine⟨3,rfl,by omega,by omega,fun D3 nD3=>?_⟩
     refine comp_range (n:=3) (fun j σ' ys3 G3=>(∃y,σ'=[y,some (.ref D1)])∧ys3 =(List.replicate j true).map V.bl∧Same G2 G3∧G3 D3=some (.lst ys3)) D3 ⟨⟨_,rfl⟩,rfl,same_new nD3 _,upd_same⟩ ?_ ?_
     ·rintro j σ' ys3 G3 hj ⟨⟨y',rfl⟩,rfl,g1,g2⟩
      obtain⟨v,hv⟩ : ∃v,ys[j]? = some v:=⟨_,List.getElem?_eq_getElem (by omega)⟩
      walk_at"rd"
      rw[Int.zero_add]
      refine rd_ixL (SqL.of (g1 _ _ (sB _ _ hD1))) (atI_nat hv) ?_
      walk_at"rd"
      refine⟨_,v,rfl,by omega,by omega,(th1 v (List.mem_of_getElem? hv)).same (sB.trans g1),fun G4 t4=>?_⟩
      walk_at"rd"
      refine⟨t4 _ _ g2,by rw[List.length_map,List.length_replicate];exact small1000 (by omega),⟨_,rfl⟩,by rw[List.replicate_succ',List.map_append];rfl,fun c o e=>?_,upd_same⟩
      rw[upd_ne (ne_of_none e nD3)]
      exact t4 _ _ (g1 _ _ e)
     ·rintro σ' ys3 G3 ⟨⟨y',rfl⟩,rfl,g1,g2⟩
      walk_at"rd"
      refine rd_allL (SqL.of g2) ?_
      rw[show(List.replicate 3 true).all id=true from rfl]
      walk_at"rd"
      exact⟨⟨_,_,_,_,_,_,_,rfl⟩,sG.trans (sB.trans g1)⟩
 ·rintro σ H' ⟨⟨x1,x2,x3,x4,x5,x6,x7,rfl⟩,s1⟩
  walk_at"rd"
  exact q H'
end
theorem all_mk {l:PySem.W.OpenLaw}{w:World}{K:PySem.W.Frag}{h:Heap}{mg:Str→Option Value}{fa:Addr}(X:K.In h) (G:h.Ns mainGlobals mg) (hfa:mg "law" = some (.ref fa))
  (g0:Ga K "_law_open" s__law_open)
  (g1:Ga K "_law_draw" s__law_draw)
  (g2:Ga K "_law_far" s__law_far)
  (g3:Ga K "_law_thing" s__law_thing)
  (g4:Ga K "_law_flags" s__law_flags)
  (g5:Ga K "_law_made" s__law_made)
  (g6:Ga K "_law_values" s__law_values)
  (g7:Ga K "_law_same" s__law_same)
  (g8:Ga K "_law_taken" s__law_taken)
  {f9:Addr}{od9 an9:Option Addr}{sl9:Array (Option Value)}{oc9 kV9 dc9 pm9 cd9 ct9:Value}(a9:PySem.W.nsIn K mainGlobals "law" = some (some (.ref f9))) (l9:K.lookup f9=some ⟨oc9,od9,.func (PySem.W.fnOf "law" "law" (defArgs s_law) (defBody s_law) (defScope s_law) .none kV9 dc9 pm9 an9 cd9 ct9),sl9⟩) (c9:PySem.W.codeIn K cd9 "law" = true) (k9:PySem.W.keepIn K (.ref f9)=true)
  {TE:Addr}(gT:GaT K TE)
  {CE_Full:Addr}(gx_Full:GaX K "Full" CE_Full TE "many")
  {CE_Lacking:Addr}(gx_Lacking:GaX K "Lacking" CE_Lacking TE "key")
  {CE_NoKey:Addr}(gx_NoKey:GaX K "NoKey" CE_NoKey TE "key")
  {CE_NoMark:Addr}(gx_NoMark:GaX K "NoMark" CE_NoMark TE "mark")
  {CE_NoName:Addr}(gx_NoName:GaX K "NoName" CE_NoName TE "name")
  {CE_NoRoom:Addr}(gx_NoRoom:GaX K "NoRoom" CE_NoRoom TE "number")
  {CE_NoSize:Addr}(gx_NoSize:GaX K "NoSize" CE_NoSize TE "thing")
  {CE_NoThing:Addr}(gx_NoThing:GaX K "NoThing" CE_NoThing TE "thing")
  {CE_Taken:Addr}(gx_Taken:GaX K "Taken" CE_Taken TE "name")
  {CE_Busy:Addr}(gp_Busy:GaX0 K "Busy" CE_Busy TE)
  {CE_NoLine:Addr}(gp_NoLine:GaX0 K "NoLine" CE_NoLine TE)
  {CE_NoText:Addr}(gp_NoText:GaX0 K "NoText" CE_NoText TE)
  (kt_tab:kitTab K [CE_NoSize,CE_NoKey,CE_NoThing,CE_NoRoom,CE_Lacking,CE_Full,CE_NoMark,CE_NoName,CE_Taken,CE_Busy,CE_NoText,CE_NoLine]=true)
  (kt_top:kitTop K TE [CE_NoSize,CE_NoKey,CE_NoThing,CE_NoRoom,CE_Lacking,CE_Full,CE_NoMark,CE_NoName,CE_Taken,CE_Busy,CE_NoText,CE_NoLine]=true)
  (z_abs:PySem.W.nsIn K mainGlobals "abs" = some none)
  (z_len:PySem.W.nsIn K mainGlobals "len" = some none)
  (z_range:PySem.W.nsIn K mainGlobals "range" = some none)
  (z_isinstance:PySem.W.nsIn K mainGlobals "isinstance" = some none)
  (z_bool:PySem.W.nsIn K mainGlobals "bool" = some none)
  (z_max:PySem.W.nsIn K mainGlobals "max" = some none)
  (z_min:PySem.W.nsIn K mainGlobals "min" = some none)
  (z_all:PySem.W.nsIn K mainGlobals "all" = some none)
  (z_ValueError:PySem.W.nsIn K mainGlobals "ValueError" = some none)
  : ∃fd:FuncData,(∀(s:Shared) (v:Value),BindsTo s fd ⟨[v],[]⟩ [("_law_script",v)])∧∀base:Heap,K.In base→base.Ns mainGlobals mg→FnOk l.prog w K mg base CX0 4 fa fd ["_law_script"] (sp_law K):=by
 have e:=hfa.symm.trans (PySem.W.mg_of X G a9)
 cases e
 have T:Bl mg:=⟨PySem.W.mg_none_of X G z_abs,PySem.W.mg_none_of X G z_len,PySem.W.mg_none_of X G z_range,PySem.W.mg_none_of X G z_isinstance,PySem.W.mg_none_of X G z_bool,PySem.W.mg_none_of X G z_max,PySem.W.mg_none_of X G z_min,PySem.W.mg_none_of X G z_all,PySem.W.mg_none_of X G z_ValueError⟩
 refine⟨PySem.W.fnOf "law" "law" (defArgs s_law) (defBody s_law) (defScope s_law) .none kV9 dc9 pm9 an9 cd9 ct9,fun s v=>.of_eq rfl,fun base _ _=>?_⟩
 have XT:=gT.txt X G
 have XE_Busy:=gp_Busy.txt X G
 have XE_NoLine:=gp_NoLine.txt X G
 have XE_NoText:=gp_NoText.txt X G
 have XE_Full:=gx_Full.txt X G
 have XE_Lacking:=gx_Lacking.txt X G
 have XE_NoKey:=gx_NoKey.txt X G
 have XE_NoMark:=gx_NoMark.txt X G
 have XE_NoName:=gx_NoName.txt X G
 have XE_NoRoom:=gx_NoRoom.txt X G
 have XE_NoSize:=gx_NoSize.txt X G
 have XE_NoThing:=gx_NoThing.txt X G
 have XE_Taken:=gx_Taken.txt X G
 have C__law_open:=g0.elim fun f a fd F=>ok__law_open (P:=l.prog) (w:=w) (base:=base) F (PySem.W.mg_of X G a) (F.binds (ps:=["_law_script", "_law_place"]) fun _ _ _ _ _ _ us hl=>match us,hl with | [_,_],_=>rfl) T
 have C__law_draw:=g1.elim fun f a fd F=>ok__law_draw (P:=l.prog) (w:=w) (base:=base) F (PySem.W.mg_of X G a) (F.binds (ps:=["_law_hand", "_law_many"]) fun _ _ _ _ _ _ us hl=>match us,hl with | [_,_],_=>rfl) T
 have C__law_flags:=g4.elim fun f a fd F=>ok__law_flags (P:=l.prog) (w:=w) (base:=base) F (PySem.W.mg_of X G a) (F.binds (ps:=["_law_e"]) fun _ _ _ _ _ _ us hl=>match us,hl with | [_],_=>rfl) T XE_Full XE_Lacking XE_NoKey XE_NoMark XE_NoName XE_NoRoom XE_NoSize XE_NoThing XE_Taken XE_Busy XE_NoLine XE_NoText kt_tab kt_top
 have C__law_values:=g6.elim fun f a fd F=>ok__law_values (P:=l.prog) (w:=w) (base:=base) F (PySem.W.mg_of X G a) (F.binds (ps:=["_law_made_here"]) fun _ _ _ _ _ _ us hl=>match us,hl with | [_],_=>rfl) T
 have C__law_same:=g7.elim fun f a fd F=>ok__law_same (P:=l.prog) (w:=w) (base:=base) F (PySem.W.mg_of X G a) (F.binds (ps:=["_law_one", "_law_other"]) fun _ _ _ _ _ _ us hl=>match us,hl with | [_,_],_=>rfl) T
 have C__law_far:=g2.elim fun f a fd F=>ok__law_far (P:=l.prog) (w:=w) (base:=base) F (PySem.W.mg_of X G a) (F.binds (ps:=["_law_hand", "_law_many"]) fun _ _ _ _ _ _ us hl=>match us,hl with | [_,_],_=>rfl) T C__law_draw
 have C__law_thing:=g3.elim fun f a fd F=>ok__law_thing (P:=l.prog) (w:=w) (base:=base) F (PySem.W.mg_of X G a) (F.binds (ps:=["_law_hand"]) fun _ _ _ _ _ _ us hl=>match us,hl with | [_],_=>rfl) T C__law_far C__law_draw
 have C__law_made:=g5.elim fun f a fd F=>ok__law_made (P:=l.prog) (w:=w) (base:=base) F (PySem.W.mg_of X G a) (F.binds (ps:=["_law_some"]) fun _ _ _ _ _ _ us hl=>match us,hl with | [_],_=>rfl) T XE_Full XE_Lacking XE_NoKey XE_NoMark XE_NoName XE_NoRoom XE_NoSize XE_NoThing XE_Taken XE_Busy XE_NoLine XE_NoText kt_tab kt_top
 have C__law_taken:=g8.elim fun f a fd F=>ok__law_taken (P:=l.prog) (w:=w) (base:=base) F (PySem.W.mg_of X G a) (F.binds (ps:=["_law_k", "_law_thing_here"]) fun _ _ _ _ _ _ us hl=>match us,hl with | [_,_],_=>rfl) T XE_Full XE_Lacking XE_NoKey XE_NoMark XE_NoName XE_NoRoom XE_NoSize XE_NoThing XE_Taken XE_Busy XE_NoLine XE_NoText XT kt_tab kt_top C__law_flags
 exact ok_law (fun_mk (st:=s_law) l9 c9 k9) T XE_Full XE_Lacking XE_NoKey XE_NoMark XE_NoName XE_NoRoom XE_NoSize XE_NoThing XE_Taken XE_Busy XE_NoLine XE_NoText XT kt_tab kt_top C__law_open C__law_made C__law_thing C__law_flags C__law_same C__law_values C__law_taken
theorem walk {l:PySem.W.OpenLaw}{q:Program}{loose:List Str}{XP:(Str→Option Value)→Heap→Prop}{YP:World→Heap→Prop}{d:DefRec}{K:Params→PySem.W.Frag}(hn:l.most=some 63) (hdf:d.params.defaults=[])
  (hY:∀(w:World) (h:Heap),YP w h→(K w.params).In h)
  (F:∀(w:World) (mg:Str→Option Value) (fa:Addr) (h:Heap),(K w.params).In h→h.Ns mainGlobals mg→mg d.name=some (.ref fa) →
   ∃fd:FuncData,(∀(s:Shared) (u:Value),BindsTo s fd ⟨[u],[]⟩ [("_law_script",u)])∧∀base:Heap,(K w.params).In base→base.Ns mainGlobals mg→FnOk l.prog w (K w.params) mg base CX0 4 fa fd ["_law_script"] (sp_law (K w.params))) :
  PySem.W.WalkO q loose XP YP l.row.toRowW d [] (fun f vs=>PySem.call f vs) :=
 L2.walk_of (n:=63) (k:=4) (x := "_law_script") (CX:=fun _=>CX0) (sp:=fun w=>sp_law (K w.params)) hn (by decide) hdf ⟨rfl,by decide,by decide,rfl⟩ hY F (fun _ _ a ns hl _ hS=>⟨a,ns,rfl,hS,hl,fun _=>rfl⟩) fun _ _ _ _ _ z=>z
end Law
namespace HD
open PySem PySem.W PySem.PyData
noncomputable def pB:List Stmt:=PySem.Challenge.pw_tailrooms_k18_refusals_apart.main.body
noncomputable def nS:List Stmt→Nat→Stmt
 | s::_,0=>s
 | _::r,n+1=>nS r n
 | [],_=>.Pass ⟨0,0,0,0⟩
noncomputable def bS:Stmt→List Stmt
 | .FunctionDef _ _ b ..=>b
 | .ClassDef _ _ _ b ..=>b
 | _=>[]
noncomputable def aS:Stmt→Arguments
 | .FunctionDef _ a ..=>a
 | _=>⟨[],[],none,[],[],none,[]⟩
noncomputable def sS:Stmt→Scope
 | .FunctionDef _ _ _ _ _ _ s ..=>s
 | _=>⟨.function,[],false,false,[]⟩
noncomputable def f (i:Nat):Stmt:=nS pB i
noncomputable def m (i j:Nat):Stmt:=nS (bS (f i)) j
abbrev O:=Params→Obj
noncomputable def E (P:Params) (x:Str) (n:Nat) (v:Value):DictEntry:=⟨keyHash P x,.str x n,v⟩
abbrev B:=Params→BT
noncomputable def n (o:O) (l r:B):B:=fun P=>.node (o P) (l P) (r P)
noncomputable def w (o:O):B:=fun P=>.node (o P) .nil .nil
noncomputable def u:B:=fun _=>.nil
noncomputable def c0 (P:Params) (r:List DictEntry):List DictEntry:=(E P "__name__" 165 (.str "law_tailrooms_k18_refusals_apart" 480))::(E P "__doc__" 166 .none)::(E P "__package__" 167 .none)::(E P "__loader__" 168 (.builtin "__main__.__loader__#opaque"))::(E P "__spec__" 169 .none)::(E P "__annotations__" 170 (.ref 6))::(E P "__builtins__" 171 (.ref 4))::(E P "__file__" 173 (.str "/claim/cut.py" 172))::r
noncomputable def c1 (P:Params) (r:List DictEntry):List DictEntry:=(E P "__cached__" 174 .none)::(E P "TailError" 206 (.ref 24))::(E P "NoSize" 231 (.ref 44))::(E P "NoKey" 256 (.ref 63))::(E P "NoThing" 281 (.ref 82))::(E P "NoRoom" 306 (.ref 101))::(E P "Lacking" 331 (.ref 120))::(E P "Full" 356 (.ref 139))::r
noncomputable def c2 (P:Params) (r:List DictEntry):List DictEntry:=(E P "NoMark" 381 (.ref 158))::(E P "Busy" 397 (.ref 170))::(E P "NoText" 413 (.ref 182))::(E P "NoLine" 429 (.ref 194))::(E P "NoName" 454 (.ref 213))::(E P "Taken" 479 (.ref 232))::(E P "_law_open" 487 (.ref 239))::(E P "_law_draw" 498 (.ref 246))::r
noncomputable def c3 (P:Params) (r:List DictEntry):List DictEntry:=(E P "_law_far" 508 (.ref 253))::(E P "_law_thing" 517 (.ref 260))::r
noncomputable def c4 (P:Params) (r:List Value):List Value:=(.int 2 0)::(.int 0 0)::(.ref 20)::(.int 4 0)::(.int 0 0)::(.ref 33)::(.int 8 0)::(.int 0 0)::(.ref 52)::(.int 12 0)::(.int 0 0)::(.ref 71)::(.int 16 0)::(.int 0 0)::(.ref 90)::(.int 20 0)::(.int 0 0)::(.ref 109)::r
noncomputable def c5 (P:Params) (r:List Value):List Value:=(.int 24 0)::(.int 0 0)::(.ref 128)::(.int 28 0)::(.int 0 0)::(.ref 147)::(.int 32 0)::(.int 0 0)::(.ref 166)::(.int 34 0)::(.int 0 0)::(.ref 178)::(.int 36 0)::(.int 0 0)::(.ref 190)::(.int 38 0)::(.int 0 0)::(.ref 202)::r
noncomputable def c6 (P:Params) (r:List Value):List Value:=(.int 42 0)::(.int 0 0)::(.ref 221)::(.int 47 0)::(.int 0 0)::(.ref 238)::(.int 56 0)::(.int 0 0)::(.ref 245)::(.int 67 0)::(.int 0 0)::(.ref 252)::(.int 74 0)::(.int 0 0)::(.ref 259)::r
noncomputable def c7 (P:Params) (r:List DictEntry):List DictEntry:=(E P "_law_far" 508 (.ref 253))::(E P "_law_thing" 517 (.ref 260))::(E P "_law_flags" 525 (.ref 267))::(E P "_law_made" 533 (.ref 274))::(E P "_law_values" 541 (.ref 281))::(E P "_law_same" 550 (.ref 288))::(E P "_law_taken" 556 (.ref 293))::(E P "law" 562 (.ref 298))::r
noncomputable def c8 (P:Params) (r:List Value):List Value:=(.int 42 0)::(.int 0 0)::(.ref 221)::(.int 47 0)::(.int 0 0)::(.ref 238)::(.int 56 0)::(.int 0 0)::(.ref 245)::(.int 67 0)::(.int 0 0)::(.ref 252)::(.int 74 0)::(.int 0 0)::(.ref 259)::(.int 79 0)::(.int 0 0)::(.ref 266)::r
noncomputable def c9 (P:Params) (r:List Value):List Value:=(.int 83 0)::(.int 0 0)::(.ref 273)::(.int 86 0)::(.int 0 0)::(.ref 280)::(.int 89 0)::(.int 0 0)::(.ref 287)::(.int 94 0)::(.int 0 0)::(.ref 292)::(.int 106 0)::(.int 0 0)::(.ref 297)::r
noncomputable def c10 (P:Params) (r:List DictEntry):List DictEntry:=(E P "__name__" 165 (.str "tailrooms.errors" 187))::(E P "__doc__" 166 .none)::(E P "__package__" 167 .none)::(E P "__loader__" 168 (.builtin "__main__.__loader__#opaque"))::(E P "__spec__" 169 .none)::(E P "__annotations__" 170 (.ref 6))::(E P "__builtins__" 171 (.ref 4))::(E P "__file__" 173 (.str "/claim/cut.py" 172))::r
noncomputable def c11 (P:Params) (r:List DictEntry):List DictEntry:=(E P "NoMark" 381 (.ref 158))::r
noncomputable def c12 (P:Params) (r:List Value):List Value:=(.int 24 0)::(.int 0 0)::(.ref 128)::(.int 28 0)::(.int 0 0)::(.ref 147)::r
noncomputable def c13 (P:Params) (r:List DictEntry):List DictEntry:=(E P "__cached__" 174 .none)::(E P "TailError" 206 (.ref 24))::(E P "NoSize" 231 (.ref 44))::(E P "NoKey" 256 (.ref 63))::(E P "NoThing" 281 (.ref 82))::(E P "NoRoom" 306 (.ref 101))::r
noncomputable def c14 (P:Params) (r:List DictEntry):List DictEntry:=(E P "NoMark" 381 (.ref 158))::(E P "Busy" 397 (.ref 170))::(E P "NoText" 413 (.ref 182))::r
noncomputable def c15 (P:Params) (r:List Value):List Value:=(.int 24 0)::(.int 0 0)::(.ref 128)::(.int 28 0)::(.int 0 0)::(.ref 147)::(.int 32 0)::(.int 0 0)::(.ref 166)::(.int 34 0)::(.int 0 0)::(.ref 178)::r
noncomputable def c16 (P:Params) (r:List DictEntry):List DictEntry:=(E P "NoMark" 381 (.ref 158))::(E P "Busy" 397 (.ref 170))::(E P "NoText" 413 (.ref 182))::(E P "NoLine" 429 (.ref 194))::r
noncomputable def c17 (P:Params) (r:List Value):List Value:=(.int 24 0)::(.int 0 0)::(.ref 128)::(.int 28 0)::(.int 0 0)::(.ref 147)::(.int 32 0)::(.int 0 0)::(.ref 166)::(.int 34 0)::(.int 0 0)::(.ref 178)::(.int 36 0)::(.int 0 0)::(.ref 190)::r
noncomputable def c18 (P:Params) (r:List DictEntry):List DictEntry:=(E P "__cached__" 174 .none)::(E P "TailError" 206 (.ref 24))::(E P "NoSize" 231 (.ref 44))::(E P "NoKey" 256 (.ref 63))::(E P "NoThing" 281 (.ref 82))::(E P "NoRoom" 306 (.ref 101))::(E P "Lacking" 331 (.ref 120))::r
noncomputable def c19 (P:Params) (r:List DictEntry):List DictEntry:=(E P "NoMark" 381 (.ref 158))::(E P "Busy" 397 (.ref 170))::(E P "NoText" 413 (.ref 182))::(E P "NoLine" 429 (.ref 194))::(E P "NoName" 454 (.ref 213))::r
noncomputable def c20 (P:Params) (r:List DictEntry):List DictEntry:=(E P "NoMark" 381 (.ref 158))::(E P "Busy" 397 (.ref 170))::r
noncomputable def c21 (P:Params) (r:List Value):List Value:=(.int 24 0)::(.int 0 0)::(.ref 128)::(.int 28 0)::(.int 0 0)::(.ref 147)::(.int 32 0)::(.int 0 0)::(.ref 166)::r
noncomputable def c22 (P:Params) (r:List Value):List Value:=(.int 24 0)::(.int 0 0)::(.ref 128)::r
noncomputable def t23 (a0:Str) (a1:Str) (a2:Stmt) (a3:Stmt) (P:Params):Obj:=⟨.none,none,(.func ⟨a0,a1,(aS a2),(.stmts (bS a2)),(sS a3),0,[],.none,.none,.none,.none,none,.none,.none,0⟩),#[]⟩
noncomputable def t24 (a0:Nat) (a1:Str) (a2:Int) (a3:Nat) (P:Params):Obj:=⟨(.type "dict"),none,(.dict #[(E P "__module__" a0 (.str "tailrooms.errors" 187)),(E P "__qualname__" (a0+2) (.str a1 (a0+1))),(E P "__firstlineno__" (a0+4) (.int a2 (a0+3))),(E P "__init__" (a0+12) (.ref a3)),(E P "__static_attributes__" (a0+14) (.ref (a3+1)))] 5),#[]⟩
noncomputable def t25 (a0:Str) (a1:Str) (a2:Stmt) (a3:Stmt) (a4:Str) (a5:Nat) (a6:Nat) (P:Params):Obj:=⟨(.type "function"),none,(.func ⟨a0,a1,(aS a2),(.stmts (bS a2)),(sS a3),3,[],.none,.none,.none,(.str a4 a5),none,(.ref a6),.none,0⟩),#[]⟩
noncomputable def t26 (a0:Nat) (a1:Nat) (a2:Str) (a3:Nat) (P:Params):Obj:=⟨(.type "frame"),none,.plain,#[(some (.ref a0)),(some (.ref 3)),(some (.ref a1)),none,(some (.str a2 a3)),none,(some (.ref 0))]⟩
noncomputable def t27 (a0:Str) (a1:Nat) (a2:Str) (P:Params):Obj:=⟨(.type "tuple"),none,(.seq #[(.str a0 a1),(.str a2 (a1+1))] 0),#[]⟩
noncomputable def t28 (a0:Str) (a1:Nat) (a2:Nat) (a3:Nat) (a4:Nat) (P:Params):Obj:=⟨(.type "type"),none,(.cls ⟨a0,[(.ref 24)],[(.ref a1),(.ref 24),(.type "ValueError"),(.type "Exception"),(.type "BaseException"),(.type "object")],a2,a0,.true,[],[],.false,none,.false⟩),#[(some (.ref a3)),none,(some (.str a0 a4)),(some (.str a0 (a4+8))),(some (.builtin "ValueError.__new__")),(some (.bool .true))]⟩
noncomputable def t29 (a0:Str) (a1:Nat) (a2:Int) (a3:Nat) (a4:Int) (P:Params):Obj:=⟨(.type "code"),none,(.fields #[(.str a0 a1),(.str a0 (a1+1)),(.str "/claim/cut.py" (a1+2)),(.int a2 0),(.int 0 0),(.int 0 0),(.int 0 0),(.int 0 0),(.ref a3),(.bool .false),(.int 181 0),(.ref (a3+1)),.none,.none,.none,.none,(.int a4 0),(.int a2 0),(.str "/claim/cut.py" (a1+4))]),#[]⟩
noncomputable def t30 (a0:Int) (a1:Nat) (P:Params):Obj:=⟨.none,none,(.fields #[(.int a0 0),(.int 4 0),(.ref a1)]),#[]⟩
noncomputable def t31 (a0:Nat) (a1:Str) (a2:Int) (a3:Nat) (P:Params):Obj:=⟨(.type "dict"),none,(.dict #[(E P "__module__" a0 (.str "tailrooms.errors" 187)),(E P "__qualname__" (a0+2) (.str a1 (a0+1))),(E P "__firstlineno__" (a0+4) (.int a2 (a0+3))),(E P "__static_attributes__" (a0+5) (.ref a3))] 4),#[]⟩
noncomputable def t32 (a0:Nat) (P:Params):Obj:=⟨(.type "super"),none,(.fields #[(.ref a0),(.ref a0),(.ref a0)]),#[]⟩
noncomputable def t33 (a0:Nat) (P:Params):Obj:=⟨(.type "builtin_function_or_method"),none,(.fields #[(.builtin "object.__init_subclass__"),(.ref a0)]),#[]⟩
noncomputable def t34 (a0:Nat) (a1:Int) (a2:Nat) (P:Params):Obj:=⟨(.type "dict"),none,(.dict #[(E P "__module__" a0 (.str "tailrooms.errors" 187)),(E P "__firstlineno__" (a0+4) (.int a1 (a0+3))),(E P "__static_attributes__" (a0+5) (.ref a2)),(E P "__doc__" (a0+6) .none)] 2),#[]⟩
noncomputable def t35 (a0:Str) (a1:Nat) (a2:Str) (a3:Int) (a4:Int) (a5:Nat) (a6:Int) (a7:Nat) (P:Params):Obj:=⟨(.type "code"),none,(.fields #[(.str a0 a1),(.str a2 (a1+1)),(.str "/claim/cut.py" (a1+2)),(.int a3 0),(.int a4 0),(.int 0 0),(.int 0 0),(.int 3 0),(.ref a5),(.bool .true),(.int 181 0),(.ref (a5+1)),.none,(.ref (a5+2)),(.ref (a5+3)),(.ref (a5+4)),(.int a6 0),(.int a3 0),(.str "/claim/cut.py" a7)]),#[]⟩
noncomputable def t36 (a0:Str) (a1:Nat) (a2:Int) (a3:Int) (a4:Nat) (a5:Int) (P:Params):Obj:=⟨(.type "code"),none,(.fields #[(.str a0 a1),(.str a0 (a1+1)),(.str "/claim/cut.py" (a1+2)),(.int a2 0),(.int a3 0),(.int 0 0),(.int 0 0),(.int 3 0),(.ref a4),(.bool .true),(.int 181 0),(.ref (a4+1)),.none,.none,.none,(.ref (a4+2)),(.int a5 0),(.int a2 0),(.str "/claim/cut.py" (a1+4))]),#[]⟩
noncomputable def t37 (a0:Nat) (a1:Int) (a2:Str) (a3:Nat) (a4:Nat) (a5:Str) (a6:Nat) (a7:Nat) (P:Params):Obj:=⟨(.type "dict"),none,(.dict #[(E P "__module__" a0 (.str "tailrooms.errors" 187)),(E P "__firstlineno__" (a0+4) (.int a1 (a0+3))),(E P a2 a3 (.ref a4)),(E P a5 (a3+2) (.ref a6)),(E P "__doc__" (a3+3) .none)] a7),#[]⟩
noncomputable def t38 (a0:Str) (a1:Nat) (P:Params):Obj:=⟨(.type "tuple"),none,(.seq #[(.str a0 a1)] 0),#[]⟩
noncomputable def o0:O:=fun P=>⟨(.type "dict"),none,(.dict (c0 P (c1 P (c2 P (c3 P [])))).toArray 26),#[]⟩
noncomputable def o1:O:=fun P=>⟨(.type "tuple"),none,(.seq #[] 0),#[]⟩
noncomputable def o2:O:=fun P=>⟨.none,none,(.fields (c4 P (c5 P (c6 P []))).toArray),#[]⟩
noncomputable def o3:O:=t29 "<module>" 182 1 11 185
noncomputable def o4:O:=t26 13 3 "__main__" 164
noncomputable def o5:O:=fun P=>⟨(.type "tuple"),none,(.seq #[(.type "ValueError")] 0),#[]⟩
noncomputable def o6:O:=fun P=>⟨(.type "builtin_function_or_method"),none,(.fields #[(.builtin "type.__prepare__"),(.type "type")]),#[]⟩
noncomputable def o7:O:=t31 196 "TailError" 2 22
noncomputable def o8:O:=fun P=>⟨.none,none,(.fields #[]),#[]⟩
noncomputable def o9:O:=t29 "TailError" 191 2 18 194
noncomputable def o10:O:=t26 20 17 "tailrooms.errors" 187
noncomputable def o11:O:=t37 196 2 "__static_attributes__" 201 22 "__weakref__" 25 3
noncomputable def o12:O:=fun P=>⟨(.type "type"),none,(.cls ⟨"TailError",[(.type "ValueError")],[(.ref 24),(.type "ValueError"),(.type "Exception"),(.type "BaseException"),(.type "object")],23,"TailError",.true,[],[(.ref 44),(.ref 63),(.ref 82),(.ref 101),(.ref 120),(.ref 139),(.ref 158),(.ref 170),(.ref 182),(.ref 194),(.ref 213),(.ref 232)],.false,none,.false⟩),#[(some (.ref 15)),none,(some (.str "TailError" 189)),(some (.str "TailError" 197)),(some (.builtin "ValueError.__new__")),(some (.bool .true))]⟩
noncomputable def o13:O:=fun P=>⟨(.type "getset_descriptor"),none,(.fields #[(.str "__weakref__" 202),(.ref 24),(.builtin "ExceptionGroup.__weakref__"),.none]),#[]⟩
noncomputable def o14:O:=t32 24
noncomputable def o15:O:=t33 24
noncomputable def o16:O:=fun P=>⟨(.type "tuple"),none,(.seq #[(.ref 24)] 0),#[]⟩
noncomputable def o17:O:=t24 214 "NoSize" 4 41
noncomputable def o18:O:=t30 6 40
noncomputable def o19:O:=t29 "NoSize" 209 4 31 212
noncomputable def o20:O:=t26 33 30 "tailrooms.errors" 187
noncomputable def o21:O:=t27 "self" 222 "thing"
noncomputable def o22:O:=t23 "__init__" "NoSize.__init__" (m 2 0) (m 2 0)
noncomputable def o23:O:=t35 "__init__" 219 "NoSize.__init__" 6 2 35 224 225
noncomputable def o24:O:=t25 "__init__" "NoSize.__init__" (m 2 0) (m 2 0) "tailrooms.errors" 187 40
noncomputable def o25:O:=t38 "thing" 227
noncomputable def o26:O:=t37 214 4 "__init__" 226 41 "__static_attributes__" 42 2
noncomputable def o27:O:=t28 "NoSize" 44 43 28 207
noncomputable def o28:O:=t32 44
noncomputable def o29:O:=t33 44
noncomputable def o30:O:=t24 239 "NoKey" 8 60
noncomputable def o31:O:=t30 10 59
noncomputable def o32:O:=t29 "NoKey" 234 8 50 237
noncomputable def o33:O:=t26 52 49 "tailrooms.errors" 187
noncomputable def o34:O:=t27 "self" 247 "key"
noncomputable def o35:O:=t23 "__init__" "NoKey.__init__" (m 3 0) (m 3 0)
noncomputable def o36:O:=t35 "__init__" 244 "NoKey.__init__" 10 2 54 249 250
noncomputable def o37:O:=t25 "__init__" "NoKey.__init__" (m 3 0) (m 3 0) "tailrooms.errors" 187 59
noncomputable def o38:O:=t38 "key" 252
noncomputable def o39:O:=t37 239 8 "__init__" 251 60 "__static_attributes__" 61 2
noncomputable def o40:O:=t28 "NoKey" 63 62 47 232
noncomputable def o41:O:=t32 63
noncomputable def o42:O:=t33 63
noncomputable def o43:O:=t24 264 "NoThing" 12 79
noncomputable def o44:O:=t30 14 78
noncomputable def o45:O:=t29 "NoThing" 259 12 69 262
noncomputable def o46:O:=t26 71 68 "tailrooms.errors" 187
noncomputable def o47:O:=t27 "self" 272 "thing"
noncomputable def o48:O:=t23 "__init__" "NoThing.__init__" (m 4 0) (m 2 0)
noncomputable def o49:O:=t35 "__init__" 269 "NoThing.__init__" 14 2 73 274 275
noncomputable def o50:O:=t25 "__init__" "NoThing.__init__" (m 4 0) (m 2 0) "tailrooms.errors" 187 78
noncomputable def o51:O:=t38 "thing" 277
noncomputable def o52:O:=t37 264 12 "__init__" 276 79 "__static_attributes__" 80 2
noncomputable def o53:O:=t28 "NoThing" 82 81 66 257
noncomputable def o54:O:=t32 82
noncomputable def o55:O:=t33 82
noncomputable def o56:O:=t24 289 "NoRoom" 16 98
noncomputable def o57:O:=t30 18 97
noncomputable def o58:O:=t29 "NoRoom" 284 16 88 287
noncomputable def o59:O:=t26 90 87 "tailrooms.errors" 187
noncomputable def o60:O:=t27 "self" 297 "number"
noncomputable def o61:O:=t23 "__init__" "NoRoom.__init__" (m 5 0) (m 5 0)
noncomputable def o62:O:=t35 "__init__" 294 "NoRoom.__init__" 18 2 92 299 300
noncomputable def o63:O:=t25 "__init__" "NoRoom.__init__" (m 5 0) (m 5 0) "tailrooms.errors" 187 97
noncomputable def o64:O:=t38 "number" 302
noncomputable def o65:O:=t37 289 16 "__init__" 301 98 "__static_attributes__" 99 2
noncomputable def o66:O:=t28 "NoRoom" 101 100 85 282
noncomputable def o67:O:=t32 101
noncomputable def o68:O:=t33 101
noncomputable def o69:O:=t24 314 "Lacking" 20 117
noncomputable def o70:O:=t30 22 116
noncomputable def o71:O:=t29 "Lacking" 309 20 107 312
noncomputable def o72:O:=t26 109 106 "tailrooms.errors" 187
noncomputable def o73:O:=t27 "self" 322 "key"
noncomputable def o74:O:=t23 "__init__" "Lacking.__init__" (m 6 0) (m 3 0)
noncomputable def o75:O:=t35 "__init__" 319 "Lacking.__init__" 22 2 111 324 325
noncomputable def o76:O:=t25 "__init__" "Lacking.__init__" (m 6 0) (m 3 0) "tailrooms.errors" 187 116
noncomputable def o77:O:=t38 "key" 327
noncomputable def o78:O:=t37 314 20 "__init__" 326 117 "__static_attributes__" 118 2
noncomputable def o79:O:=t28 "Lacking" 120 119 104 307
noncomputable def o80:O:=t32 120
noncomputable def o81:O:=t33 120
noncomputable def o82:O:=t24 339 "Full" 24 136
noncomputable def o83:O:=t30 26 135
noncomputable def o84:O:=t29 "Full" 334 24 126 337
noncomputable def o85:O:=t26 128 125 "tailrooms.errors" 187
noncomputable def o86:O:=t27 "self" 347 "many"
noncomputable def o87:O:=t23 "__init__" "Full.__init__" (m 7 0) (m 7 0)
noncomputable def o88:O:=t35 "__init__" 344 "Full.__init__" 26 2 130 349 350
noncomputable def o89:O:=t25 "__init__" "Full.__init__" (m 7 0) (m 7 0) "tailrooms.errors" 187 135
noncomputable def o90:O:=t38 "many" 352
noncomputable def o91:O:=t37 339 24 "__init__" 351 136 "__static_attributes__" 137 2
noncomputable def o92:O:=t28 "Full" 139 138 123 332
noncomputable def o93:O:=t32 139
noncomputable def o94:O:=t33 139
noncomputable def o95:O:=t24 364 "NoMark" 28 155
noncomputable def o96:O:=t30 30 154
noncomputable def o97:O:=t29 "NoMark" 359 28 145 362
noncomputable def o98:O:=t26 147 144 "tailrooms.errors" 187
noncomputable def o99:O:=t27 "self" 372 "mark"
noncomputable def o100:O:=t23 "__init__" "NoMark.__init__" (m 8 0) (m 8 0)
noncomputable def o101:O:=t35 "__init__" 369 "NoMark.__init__" 30 2 149 374 375
noncomputable def o102:O:=t25 "__init__" "NoMark.__init__" (m 8 0) (m 8 0) "tailrooms.errors" 187 154
noncomputable def o103:O:=t38 "mark" 377
noncomputable def o104:O:=t37 364 28 "__init__" 376 155 "__static_attributes__" 156 2
noncomputable def o105:O:=t28 "NoMark" 158 157 142 357
noncomputable def o106:O:=t32 158
noncomputable def o107:O:=t33 158
noncomputable def o108:O:=t31 389 "Busy" 32 168
noncomputable def o109:O:=t29 "Busy" 384 32 164 387
noncomputable def o110:O:=t26 166 163 "tailrooms.errors" 187
noncomputable def o111:O:=t34 389 32 168
noncomputable def o112:O:=t28 "Busy" 170 169 161 382
noncomputable def o113:O:=t32 170
noncomputable def o114:O:=t33 170
noncomputable def o115:O:=t31 405 "NoText" 34 180
noncomputable def o116:O:=t29 "NoText" 400 34 176 403
noncomputable def o117:O:=t26 178 175 "tailrooms.errors" 187
noncomputable def o118:O:=t34 405 34 180
noncomputable def o119:O:=t28 "NoText" 182 181 173 398
noncomputable def o120:O:=t32 182
noncomputable def o121:O:=t33 182
noncomputable def o122:O:=t31 421 "NoLine" 36 192
noncomputable def o123:O:=t29 "NoLine" 416 36 188 419
noncomputable def o124:O:=t26 190 187 "tailrooms.errors" 187
noncomputable def o125:O:=t34 421 36 192
noncomputable def o126:O:=t28 "NoLine" 194 193 185 414
noncomputable def o127:O:=t32 194
noncomputable def o128:O:=t33 194
noncomputable def o129:O:=t24 437 "NoName" 38 210
noncomputable def o130:O:=t30 40 209
noncomputable def o131:O:=t29 "NoName" 432 38 200 435
noncomputable def o132:O:=t26 202 199 "tailrooms.errors" 187
noncomputable def o133:O:=t27 "self" 445 "name"
noncomputable def o134:O:=t23 "__init__" "NoName.__init__" (m 12 0) (m 12 0)
noncomputable def o135:O:=t35 "__init__" 442 "NoName.__init__" 40 2 204 447 448
noncomputable def o136:O:=t25 "__init__" "NoName.__init__" (m 12 0) (m 12 0) "tailrooms.errors" 187 209
noncomputable def o137:O:=t38 "name" 450
noncomputable def o138:O:=t37 437 38 "__init__" 449 210 "__static_attributes__" 211 2
noncomputable def o139:O:=t28 "NoName" 213 212 197 430
noncomputable def o140:O:=t32 213
noncomputable def o141:O:=t33 213
noncomputable def o142:O:=t24 462 "Taken" 42 229
noncomputable def o143:O:=t30 44 228
noncomputable def o144:O:=t29 "Taken" 457 42 219 460
noncomputable def o145:O:=t26 221 218 "tailrooms.errors" 187
noncomputable def o146:O:=t27 "self" 470 "name"
noncomputable def o147:O:=t23 "__init__" "Taken.__init__" (m 13 0) (m 12 0)
noncomputable def o148:O:=t35 "__init__" 467 "Taken.__init__" 44 2 223 472 473
noncomputable def o149:O:=t25 "__init__" "Taken.__init__" (m 13 0) (m 12 0) "tailrooms.errors" 187 228
noncomputable def o150:O:=t38 "name" 475
noncomputable def o151:O:=t37 462 42 "__init__" 474 229 "__static_attributes__" 230 2
noncomputable def o152:O:=t28 "Taken" 232 231 216 455
noncomputable def o153:O:=t32 232
noncomputable def o154:O:=t33 232
noncomputable def o155:O:=t23 "_law_open" "_law_open" (f 15) (f 15)
noncomputable def o156:O:=t36 "_law_open" 482 47 2 235 485
noncomputable def o157:O:=t25 "_law_open" "_law_open" (f 15) (f 15) "law_tailrooms_k18_refusals_apart" 480 238
noncomputable def o158:O:=fun P=>⟨(.type "tuple"),none,(.seq #[(.str "_law_hand" 491),(.str "_law_many" 492),(.str "_law_got" 493),(.str "_law_k" 494),(.str "_law_number" 495)] 0),#[]⟩
noncomputable def o159:O:=t23 "_law_draw" "_law_draw" (f 16) (f 16)
noncomputable def o160:O:=t35 "_law_draw" 488 "_law_draw" 56 2 240 496 497
noncomputable def o161:O:=t25 "_law_draw" "_law_draw" (f 16) (f 16) "law_tailrooms_k18_refusals_apart" 480 245
noncomputable def o162:O:=fun P=>⟨(.type "tuple"),none,(.seq #[(.str "_law_hand" 502),(.str "_law_many" 503),(.str "_law_number" 504),(.str "_law_k" 505)] 0),#[]⟩
noncomputable def o163:O:=t23 "_law_far" "_law_far" (f 17) (f 17)
noncomputable def o164:O:=t35 "_law_far" 499 "_law_far" 67 2 247 506 507
noncomputable def o165:O:=t25 "_law_far" "_law_far" (f 17) (f 17) "law_tailrooms_k18_refusals_apart" 480 252
noncomputable def o166:O:=fun P=>⟨(.type "tuple"),none,(.seq #[(.str "_law_hand" 512),(.str "_law_number" 513),(.str "_law_some" 514)] 0),#[]⟩
noncomputable def o167:O:=t23 "_law_thing" "_law_thing" (f 18) (f 18)
noncomputable def o168:O:=t35 "_law_thing" 509 "_law_thing" 74 1 254 515 516
noncomputable def o169:O:=t25 "_law_thing" "_law_thing" (f 18) (f 18) "law_tailrooms_k18_refusals_apart" 480 259
noncomputable def o170:O:=fun P=>⟨(.type "dict"),none,(.dict (c0 P (c1 P (c2 P (c7 P [])))).toArray 32),#[]⟩
noncomputable def o171:O:=fun P=>⟨.none,none,(.fields (c4 P (c5 P (c8 P (c9 P [])))).toArray),#[]⟩
noncomputable def o172:O:=t27 "_law_e" 521 "_law_some"
noncomputable def o173:O:=t23 "_law_flags" "_law_flags" (f 19) (f 19)
noncomputable def o174:O:=t35 "_law_flags" 518 "_law_flags" 79 1 261 523 524
noncomputable def o175:O:=t25 "_law_flags" "_law_flags" (f 19) (f 19) "law_tailrooms_k18_refusals_apart" 480 266
noncomputable def o176:O:=t27 "_law_some" 529 "_law_made_here"
noncomputable def o177:O:=t23 "_law_made" "_law_made" (f 20) (f 20)
noncomputable def o178:O:=t35 "_law_made" 526 "_law_made" 83 1 268 531 532
noncomputable def o179:O:=t25 "_law_made" "_law_made" (f 20) (f 20) "law_tailrooms_k18_refusals_apart" 480 273
noncomputable def o180:O:=t27 "_law_made_here" 537 "_law_told"
noncomputable def o181:O:=t23 "_law_values" "_law_values" (f 21) (f 21)
noncomputable def o182:O:=t35 "_law_values" 534 "_law_values" 86 1 275 539 540
noncomputable def o183:O:=t25 "_law_values" "_law_values" (f 21) (f 21) "law_tailrooms_k18_refusals_apart" 480 280
noncomputable def o184:O:=fun P=>⟨(.type "tuple"),none,(.seq #[(.str "_law_one" 545),(.str "_law_other" 546),(.str "_law_k" 547)] 0),#[]⟩
noncomputable def o185:O:=t23 "_law_same" "_law_same" (f 22) (f 22)
noncomputable def o186:O:=t35 "_law_same" 542 "_law_same" 89 2 282 548 549
noncomputable def o187:O:=t25 "_law_same" "_law_same" (f 22) (f 22) "law_tailrooms_k18_refusals_apart" 480 287
noncomputable def o188:O:=t23 "_law_taken" "_law_taken" (f 23) (f 23)
noncomputable def o189:O:=t36 "_law_taken" 551 94 2 289 554
noncomputable def o190:O:=t25 "_law_taken" "_law_taken" (f 23) (f 23) "law_tailrooms_k18_refusals_apart" 480 292
noncomputable def o191:O:=t23 "law" "law" (f 24) (f 24)
noncomputable def o192:O:=t36 "law" 557 106 1 294 560
noncomputable def o193:O:=t25 "law" "law" (f 24) (f 24) "law_tailrooms_k18_refusals_apart" 480 297
noncomputable def o194:O:=fun P=>⟨(.type "dict"),none,(.dict (c10 P (c1 P (c11 P []))).toArray 17),#[]⟩
noncomputable def o195:O:=fun P=>⟨.none,none,(.fields (c4 P (c12 P [])).toArray),#[]⟩
noncomputable def o196:O:=fun P=>⟨(.type "type"),none,(.cls ⟨"TailError",[(.type "ValueError")],[(.ref 24),(.type "ValueError"),(.type "Exception"),(.type "BaseException"),(.type "object")],23,"TailError",.true,[],[(.ref 44),(.ref 63),(.ref 82),(.ref 101),(.ref 120),(.ref 139),(.ref 158)],.false,none,.false⟩),#[(some (.ref 15)),none,(some (.str "TailError" 189)),(some (.str "TailError" 197)),(some (.builtin "ValueError.__new__")),(some (.bool .true))]⟩
noncomputable def o197:O:=fun P=>⟨(.type "dict"),none,(.dict (c10 P (c13 P [])).toArray 14),#[]⟩
noncomputable def o198:O:=fun P=>⟨.none,none,(.fields #[(.int 2 0),(.int 0 0),(.ref 20),(.int 4 0),(.int 0 0),(.ref 33),(.int 8 0),(.int 0 0),(.ref 52),(.int 12 0),(.int 0 0),(.ref 71),(.int 16 0),(.int 0 0),(.ref 90)]),#[]⟩
noncomputable def o199:O:=fun P=>⟨(.type "type"),none,(.cls ⟨"TailError",[(.type "ValueError")],[(.ref 24),(.type "ValueError"),(.type "Exception"),(.type "BaseException"),(.type "object")],23,"TailError",.true,[],[(.ref 44),(.ref 63),(.ref 82),(.ref 101)],.false,none,.false⟩),#[(some (.ref 15)),none,(some (.str "TailError" 189)),(some (.str "TailError" 197)),(some (.builtin "ValueError.__new__")),(some (.bool .true))]⟩
noncomputable def o200:O:=fun P=>⟨(.type "dict"),none,(.dict (c10 P (c1 P (c14 P []))).toArray 19),#[]⟩
noncomputable def o201:O:=fun P=>⟨.none,none,(.fields (c4 P (c15 P [])).toArray),#[]⟩
noncomputable def o202:O:=fun P=>⟨(.type "type"),none,(.cls ⟨"TailError",[(.type "ValueError")],[(.ref 24),(.type "ValueError"),(.type "Exception"),(.type "BaseException"),(.type "object")],23,"TailError",.true,[],[(.ref 44),(.ref 63),(.ref 82),(.ref 101),(.ref 120),(.ref 139),(.ref 158),(.ref 170),(.ref 182)],.false,none,.false⟩),#[(some (.ref 15)),none,(some (.str "TailError" 189)),(some (.str "TailError" 197)),(some (.builtin "ValueError.__new__")),(some (.bool .true))]⟩
noncomputable def o203:O:=fun P=>⟨(.type "dict"),none,(.dict (c10 P (c1 P (c16 P []))).toArray 20),#[]⟩
noncomputable def o204:O:=fun P=>⟨.none,none,(.fields (c4 P (c17 P [])).toArray),#[]⟩
noncomputable def o205:O:=fun P=>⟨(.type "type"),none,(.cls ⟨"TailError",[(.type "ValueError")],[(.ref 24),(.type "ValueError"),(.type "Exception"),(.type "BaseException"),(.type "object")],23,"TailError",.true,[],[(.ref 44),(.ref 63),(.ref 82),(.ref 101),(.ref 120),(.ref 139),(.ref 158),(.ref 170),(.ref 182),(.ref 194)],.false,none,.false⟩),#[(some (.ref 15)),none,(some (.str "TailError" 189)),(some (.str "TailError" 197)),(some (.builtin "ValueError.__new__")),(some (.bool .true))]⟩
noncomputable def o206:O:=fun P=>⟨(.type "dict"),none,(.dict (c10 P (c18 P [])).toArray 15),#[]⟩
noncomputable def o207:O:=fun P=>⟨.none,none,(.fields #[(.int 2 0),(.int 0 0),(.ref 20),(.int 4 0),(.int 0 0),(.ref 33),(.int 8 0),(.int 0 0),(.ref 52),(.int 12 0),(.int 0 0),(.ref 71),(.int 16 0),(.int 0 0),(.ref 90),(.int 20 0),(.int 0 0),(.ref 109)]),#[]⟩
noncomputable def o208:O:=fun P=>⟨(.type "type"),none,(.cls ⟨"TailError",[(.type "ValueError")],[(.ref 24),(.type "ValueError"),(.type "Exception"),(.type "BaseException"),(.type "object")],23,"TailError",.true,[],[(.ref 44),(.ref 63),(.ref 82),(.ref 101),(.ref 120)],.false,none,.false⟩),#[(some (.ref 15)),none,(some (.str "TailError" 189)),(some (.str "TailError" 197)),(some (.builtin "ValueError.__new__")),(some (.bool .true))]⟩
noncomputable def o209:O:=fun P=>⟨(.type "dict"),none,(.dict (c10 P (c1 P (c19 P []))).toArray 21),#[]⟩
noncomputable def o210:O:=fun P=>⟨.none,none,(.fields (c4 P (c5 P [])).toArray),#[]⟩
noncomputable def o211:O:=fun P=>⟨(.type "type"),none,(.cls ⟨"TailError",[(.type "ValueError")],[(.ref 24),(.type "ValueError"),(.type "Exception"),(.type "BaseException"),(.type "object")],23,"TailError",.true,[],[(.ref 44),(.ref 63),(.ref 82),(.ref 101),(.ref 120),(.ref 139),(.ref 158),(.ref 170),(.ref 182),(.ref 194),(.ref 213)],.false,none,.false⟩),#[(some (.ref 15)),none,(some (.str "TailError" 189)),(some (.str "TailError" 197)),(some (.builtin "ValueError.__new__")),(some (.bool .true))]⟩
noncomputable def o212:O:=fun P=>⟨(.type "dict"),none,(.dict (c10 P (c1 P (c20 P []))).toArray 18),#[]⟩
noncomputable def o213:O:=fun P=>⟨.none,none,(.fields (c4 P (c21 P [])).toArray),#[]⟩
noncomputable def o214:O:=fun P=>⟨(.type "type"),none,(.cls ⟨"TailError",[(.type "ValueError")],[(.ref 24),(.type "ValueError"),(.type "Exception"),(.type "BaseException"),(.type "object")],23,"TailError",.true,[],[(.ref 44),(.ref 63),(.ref 82),(.ref 101),(.ref 120),(.ref 139),(.ref 158),(.ref 170)],.false,none,.false⟩),#[(some (.ref 15)),none,(some (.str "TailError" 189)),(some (.str "TailError" 197)),(some (.builtin "ValueError.__new__")),(some (.bool .true))]⟩
noncomputable def o215:O:=fun P=>⟨(.type "dict"),none,(.dict (c10 P (c1 P [])).toArray 16),#[]⟩
noncomputable def o216:O:=fun P=>⟨.none,none,(.fields (c4 P (c22 P [])).toArray),#[]⟩
noncomputable def o217:O:=fun P=>⟨(.type "type"),none,(.cls ⟨"TailError",[(.type "ValueError")],[(.ref 24),(.type "ValueError"),(.type "Exception"),(.type "BaseException"),(.type "object")],23,"TailError",.true,[],[(.ref 44),(.ref 63),(.ref 82),(.ref 101),(.ref 120),(.ref 139)],.false,none,.false⟩),#[(some (.ref 15)),none,(some (.str "TailError" 189)),(some (.str "TailError" 197)),(some (.builtin "ValueError.__new__")),(some (.bool .true))]⟩
noncomputable def qB (_:Params→BT):Bool:=true
noncomputable def qH (_:Params→Heap):Bool:=true
noncomputable def qP (_:Program):Bool:=true
noncomputable def qS (_:List Stmt):Bool:=true
noncomputable def c39:B:=n o1 (n o40 (n o83 (w o8) u) (w o124)) (n o1 (w o106) (w o1))
noncomputable def c40:B:=n o16 (n o50 (w o6) (w o1)) (n o1 (w o115) (w o157))
noncomputable def c41:B:=n o22 (n o45 (w o88) (w o129)) (n o68 (w o110) (w o151))
noncomputable def c42:B:=n o8 (n o56 (w o99) (w o141)) (n o78 (w o120) (w o1))
noncomputable def c43:B:=n o1 (n o6 (n o8 (w o168) u) (w o127)) (n o64 (w o108) (w o147))
noncomputable def c44:B:=n o31 (n o54 (w o97) (w o137)) (n o74 (w o117) (w o1))
noncomputable def c45:B:=n o26 (n o47 (w o92) (w o132)) (n o1 (w o113) (w o1))
noncomputable def c46:B:=n o36 (n o59 (w o102) (w o1)) (n o16 (w o122) (w o163))
noncomputable def c47:B:=n o19 (n o42 (n o85 (w o1) u) (w o125)) (n o62 (w o16) (w o146))
noncomputable def c48:B:=n o30 (n o52 (w o1) (w o135)) (n o73 (w o8) (w o8))
noncomputable def c49:B:=n o24 (n o1 (w o90) (w o130)) (n o6 (w o111) (w o153))
noncomputable def c50:B:=n o1 (n o57 (w o100) (w o6)) (n o80 (w o16) (w o162))
noncomputable def c51:B:=n o21 (n o1 (w o1) (w o16)) (n o66 (w o8) (w o149))
noncomputable def c52:B:=n o33 (n o16 (w o1) (w o139)) (n o76 (w o118) (w o160))
noncomputable def c53:B:=n o28 (n o48 (w o94) (w o8)) (n o71 (w o16) (w o155))
noncomputable def c54:B:=n o38 (n o8 (w o104) (w o144)) (n o82 (w o8) (w o165))
noncomputable def c55:B:=n o18 (n o41 (n o84 (w o166) u) (w o1)) (n o61 (w o107) (w o8))
noncomputable def c56:B:=n o6 (n o51 (w o95) (w o134)) (n o8 (w o1) (w o1))
noncomputable def c57:B:=n o23 (n o46 (w o89) (w o1)) (n o16 (w o1) (w o152))
noncomputable def c58:B:=n o34 (n o1 (w o1) (w o16)) (n o79 (w o121) (w o8))
noncomputable def c59:B:=n o8 (n o43 (n o86 (w o169) u) (w o128)) (n o65 (w o1) (w o148))
noncomputable def c60:B:=n o32 (n o55 (w o98) (w o138)) (n o75 (w o1) (w o159))
noncomputable def c61:B:=n o27 (n o1 (w o93) (w o1)) (n o70 (w o114) (w o8))
noncomputable def c62:B:=n o37 (n o1 (w o103) (w o143)) (n o6 (w o1) (w o164))
noncomputable def c63:B:=n o20 (n o16 (n o1 (w o167) u) (w o126)) (n o63 (w o6) (w o1))
noncomputable def c64:B:=n o1 (n o53 (w o96) (w o136)) (n o1 (w o116) (w o158))
noncomputable def c65:B:=n o25 (n o8 (w o91) (w o131)) (n o69 (w o112) (w o154))
noncomputable def c66:B:=n o35 (n o58 (w o101) (w o142)) (n o81 (w o6) (w o1))
noncomputable def c67:B:=n o1 (n o44 (w o87) (w o6)) (n o67 (w o109) (w o150))
noncomputable def c68:B:=n o1 (n o6 (w o8) (w o140)) (n o77 (w o119) (w o161))
noncomputable def c69:B:=n o29 (n o49 (w o16) (w o133)) (n o72 (w o6) (w o156))
noncomputable def c70:B:=n o39 (n o60 (w o105) (w o145)) (n o1 (w o123) (w o1))
noncomputable def X_tree_332:Params→BT:=(n boot_o_0 (n boot_o_1 (n o0 (n boot_o_7 (n o5 c39 c40) (n o11 c41 c42)) (n o1 (n o8 c43 c44) (n o15 c45 c46))) (n boot_o_5 (n boot_o_9 (n o7 c47 c48) (n o13 c49 c50)) (n o3 (n o10 c51 c52) (n o6 c53 c54)))) (n boot_o_2 (n boot_o_4 (n boot_o_8 (n o6 c55 c56) (n o12 c57 c58)) (n o2 (n o9 c59 c60) (n o16 c61 c62))) (n boot_o_6 (n boot_o_10 (n o1 c63 c64) (n o14 c65 c66)) (n o4 (n o1 c67 c68) (n o17 c69 c70)))))
noncomputable def c71:B:=n o1 (n o40 (n o83 (w o8) u) (w o124)) (n o1 (n o106 (w o186) u) (w o1))
noncomputable def c72:B:=n o16 (n o50 (n o6 (w o1) u) (w o1)) (n o1 (w o115) (w o157))
noncomputable def c73:B:=n o22 (n o45 (n o88 (w o172) u) (w o129)) (n o68 (n o110 (w o8) u) (w o151))
noncomputable def c74:B:=n o8 (n o56 (n o99 (w o181) u) (w o141)) (n o78 (w o120) (w o1))
noncomputable def c75:B:=n o1 (n o6 (n o8 (w o168) u) (w o127)) (n o64 (n o108 (w o188) u) (w o147))
noncomputable def c76:B:=n o31 (n o54 (n o97 (w o1) u) (w o137)) (n o74 (w o117) (w o1))
noncomputable def c77:B:=n o26 (n o47 (n o92 (w o175) u) (w o132)) (n o1 (w o113) (w o1))
noncomputable def c78:B:=n o36 (n o59 (n o102 (w o8) u) (w o1)) (n o16 (w o122) (w o163))
noncomputable def c79:B:=n o19 (n o42 (n o85 (w o1) u) (w o125)) (n o62 (n o16 (w o1) u) (w o146))
noncomputable def c80:B:=n o30 (n o52 (n o1 (w o178) u) (w o135)) (n o73 (w o8) (w o8))
noncomputable def c81:B:=n o24 (n o1 (n o90 (w o173) u) (w o130)) (n o6 (n o111 (w o192) u) (w o153))
noncomputable def c82:B:=n o1 (n o57 (n o100 (w o183) u) (w o6)) (n o80 (w o16) (w o162))
noncomputable def c83:B:=n o21 (n o1 (n o1 (w o1) u) (w o16)) (n o66 (n o8 (w o190) u) (w o149))
noncomputable def c84:B:=n o33 (n o16 (n o1 (w o180) u) (w o139)) (n o76 (w o118) (w o160))
noncomputable def c85:B:=n o28 (n o48 (n o94 (w o8) u) (w o8)) (n o71 (w o16) (w o155))
noncomputable def c86:B:=n o38 (n o8 (n o104 (w o1) u) (w o144)) (n o82 (w o8) (w o165))
noncomputable def c87:B:=n o18 (n o41 (n o84 (w o166) u) (w o1)) (n o61 (n o107 (w o187) u) (w o8))
noncomputable def c88:B:=n o6 (n o51 (n o95 (w o177) u) (w o134)) (n o8 (w o1) (w o1))
noncomputable def c89:B:=n o23 (n o46 (n o89 (w o1) u) (w o1)) (n o16 (n o1 (w o191) u) (w o152))
noncomputable def c90:B:=n o34 (n o1 (n o1 (w o182) u) (w o16)) (n o79 (w o121) (w o8))
noncomputable def c91:B:=n o8 (n o43 (n o86 (w o169) u) (w o128)) (n o65 (n o1 (w o189) u) (w o148))
noncomputable def c92:B:=n o32 (n o55 (n o98 (w o8) u) (w o138)) (n o75 (w o1) (w o159))
noncomputable def c93:B:=n o27 (n o1 (n o93 (w o1) u) (w o1)) (n o70 (w o114) (w o8))
noncomputable def c94:B:=n o37 (n o1 (n o103 (w o184) u) (w o143)) (n o6 (w o1) (w o164))
noncomputable def c95:B:=n o20 (n o16 (n o1 (w o167) u) (w o126)) (n o63 (n o6 (w o8) u) (w o1))
noncomputable def c96:B:=n o1 (n o53 (n o96 (w o179) u) (w o136)) (n o1 (w o116) (w o158))
noncomputable def c97:B:=n o25 (n o8 (n o91 (w o174) u) (w o131)) (n o69 (n o112 (w o193) u) (w o154))
noncomputable def c98:B:=n o35 (n o58 (n o101 (w o1) u) (w o142)) (n o81 (w o6) (w o1))
noncomputable def c99:B:=n o1 (n o44 (n o87 (w o8) u) (w o6)) (n o67 (n o109 (w o1) u) (w o150))
noncomputable def c100:B:=n o1 (n o6 (n o8 (w o1) u) (w o140)) (n o77 (w o119) (w o161))
noncomputable def c101:B:=n o29 (n o49 (n o16 (w o176) u) (w o133)) (n o72 (w o6) (w o156))
noncomputable def c102:B:=n o39 (n o60 (n o105 (w o185) u) (w o145)) (n o1 (w o123) (w o1))
noncomputable def X_tree_372:Params→BT:=(n boot_o_0 (n boot_o_1 (n o170 (n boot_o_7 (n o5 c71 c72) (n o11 c73 c74)) (n o1 (n o8 c75 c76) (n o15 c77 c78))) (n boot_o_5 (n boot_o_9 (n o7 c79 c80) (n o13 c81 c82)) (n o3 (n o10 c83 c84) (n o6 c85 c86)))) (n boot_o_2 (n boot_o_4 (n boot_o_8 (n o6 c87 c88) (n o12 c89 c90)) (n o171 (n o9 c91 c92) (n o16 c93 c94))) (n boot_o_6 (n boot_o_10 (n o1 c95 c96) (n o14 c97 c98)) (n o4 (n o1 c99 c100) (n o17 c101 c102)))))
noncomputable def X_sts_333:List Stmt:=[f 19,f 20,f 21,f 22,f 23,f 24]
noncomputable def c103:B:=n o1 (n o40 (w o83) u) (n o1 (w o106) u)
noncomputable def c104:B:=n o16 (n o50 (w o6) u) (w o1)
noncomputable def c105:B:=n o22 (n o45 (w o88) u) (w o68)
noncomputable def c106:B:=n o8 (n o56 (w o99) u) (w o78)
noncomputable def c107:B:=n o1 (n o6 (w o8) u) (w o64)
noncomputable def c108:B:=n o31 (n o54 (w o97) u) (w o74)
noncomputable def c109:B:=n o26 (n o47 (w o92) u) (w o1)
noncomputable def c110:B:=n o36 (n o59 (w o102) u) (w o16)
noncomputable def c111:B:=n o19 (n o42 (w o85) u) (w o62)
noncomputable def c112:B:=n o30 (n o52 (w o1) u) (w o73)
noncomputable def c113:B:=n o24 (n o1 (w o90) u) (w o6)
noncomputable def c114:B:=n o1 (n o57 (w o100) u) (w o80)
noncomputable def c115:B:=n o21 (n o1 (w o1) u) (w o66)
noncomputable def c116:B:=n o33 (n o16 (w o1) u) (w o76)
noncomputable def c117:B:=n o28 (n o48 (w o94) u) (w o71)
noncomputable def c118:B:=n o38 (n o8 (w o104) u) (w o82)
noncomputable def c119:B:=n o18 (n o41 (w o84) u) (n o61 (w o107) u)
noncomputable def c120:B:=n o6 (n o51 (w o95) u) (w o8)
noncomputable def c121:B:=n o23 (n o46 (w o89) u) (w o16)
noncomputable def c122:B:=n o34 (n o1 (w o1) u) (w o79)
noncomputable def c123:B:=n o8 (n o43 (w o86) u) (w o65)
noncomputable def c124:B:=n o32 (n o55 (w o98) u) (w o75)
noncomputable def c125:B:=n o27 (n o1 (w o93) u) (w o70)
noncomputable def c126:B:=n o37 (n o1 (w o103) u) (w o6)
noncomputable def c127:B:=n o20 (n o16 (w o1) u) (w o63)
noncomputable def c128:B:=n o1 (n o53 (w o96) u) (w o1)
noncomputable def c129:B:=n o25 (n o8 (w o91) u) (w o69)
noncomputable def c130:B:=n o35 (n o58 (w o101) u) (w o81)
noncomputable def c131:B:=n o1 (n o44 (w o87) u) (w o67)
noncomputable def c132:B:=n o1 (n o6 (w o8) u) (w o77)
noncomputable def c133:B:=n o29 (n o49 (w o16) u) (w o72)
noncomputable def c134:B:=n o39 (n o60 (w o105) u) (w o1)
noncomputable def X_tree_217:Params→BT:=(n boot_o_0 (n boot_o_1 (n o194 (n boot_o_7 (n o5 c103 c104) (n o11 c105 c106)) (n o1 (n o8 c107 c108) (n o15 c109 c110))) (n boot_o_5 (n boot_o_9 (n o7 c111 c112) (n o13 c113 c114)) (n o3 (n o10 c115 c116) (n o6 c117 c118)))) (n boot_o_2 (n boot_o_4 (n boot_o_8 (n o6 c119 c120) (n o196 c121 c122)) (n o195 (n o9 c123 c124) (n o16 c125 c126))) (n boot_o_6 (n boot_o_10 (n o1 c127 c128) (n o14 c129 c130)) (n o4 (n o1 c131 c132) (n o17 c133 c134)))))
noncomputable def X_view_39:Program:={ PySem.Challenge.pw_tailrooms_k18_refusals_apart with main:={ PySem.Challenge.pw_tailrooms_k18_refusals_apart.main with body:=[f 1,f 2,f 3,f 4,f 5,f 6,f 7,f 8,f 9,f 10,f 11,f 12,f 13,f 15,f 16,f 17,f 18,f 19,f 20,f 21,f 22,f 23,f 24] } }
noncomputable def X_tree_151:Params→BT:=(n boot_o_0 (n boot_o_1 (n o197 (n boot_o_7 (n o5 (n o1 (w o40) (w o1)) (n o16 (w o50) u)) (n o11 (n o22 (w o45) (w o68)) (n o8 (w o56) u))) (n o1 (n o8 (n o1 (w o6) (w o64)) (n o31 (w o54) u)) (n o15 (n o26 (w o47) u) (n o36 (w o59) u)))) (n boot_o_5 (n boot_o_9 (n o7 (n o19 (w o42) (w o62)) (n o30 (w o52) u)) (n o13 (n o24 (w o1) u) (n o1 (w o57) u))) (n o3 (n o10 (n o21 (w o1) (w o66)) (n o33 (w o16) u)) (n o6 (n o28 (w o48) u) (n o38 (w o8) u))))) (n boot_o_2 (n boot_o_4 (n boot_o_8 (n o6 (n o18 (w o41) (w o61)) (n o6 (w o51) u)) (n o199 (n o23 (w o46) u) (n o34 (w o1) u))) (n o198 (n o9 (n o8 (w o43) (w o65)) (n o32 (w o55) u)) (n o16 (n o27 (w o1) u) (n o37 (w o1) u)))) (n boot_o_6 (n boot_o_10 (n o1 (n o20 (w o16) (w o63)) (n o1 (w o53) u)) (n o14 (n o25 (w o8) u) (n o35 (w o58) u))) (n o4 (n o1 (n o1 (w o44) (w o67)) (n o1 (w o6) u)) (n o17 (n o29 (w o49) u) (n o39 (w o60) u))))))
noncomputable def X_sts_285:List Stmt:=[f 13,f 14,f 15,f 16,f 17,f 18]
noncomputable def c135:B:=n o16 (n o50 (w o6) u) (n o1 (w o115) u)
noncomputable def c136:B:=n o22 (n o45 (w o88) u) (n o68 (w o110) u)
noncomputable def c137:B:=n o8 (n o56 (w o99) u) (n o78 (w o120) u)
noncomputable def c138:B:=n o1 (n o6 (w o8) u) (n o64 (w o108) u)
noncomputable def c139:B:=n o31 (n o54 (w o97) u) (n o74 (w o117) u)
noncomputable def c140:B:=n o26 (n o47 (w o92) u) (n o1 (w o113) u)
noncomputable def c141:B:=n o19 (n o42 (w o85) u) (n o62 (w o16) u)
noncomputable def c142:B:=n o30 (n o52 (w o1) u) (n o73 (w o8) u)
noncomputable def c143:B:=n o24 (n o1 (w o90) u) (n o6 (w o111) u)
noncomputable def c144:B:=n o21 (n o1 (w o1) u) (n o66 (w o8) u)
noncomputable def c145:B:=n o33 (n o16 (w o1) u) (n o76 (w o118) u)
noncomputable def c146:B:=n o28 (n o48 (w o94) u) (n o71 (w o16) u)
noncomputable def c147:B:=n o6 (n o51 (w o95) u) (n o8 (w o1) u)
noncomputable def c148:B:=n o23 (n o46 (w o89) u) (n o16 (w o1) u)
noncomputable def c149:B:=n o34 (n o1 (w o1) u) (n o79 (w o121) u)
noncomputable def c150:B:=n o8 (n o43 (w o86) u) (n o65 (w o1) u)
noncomputable def c151:B:=n o32 (n o55 (w o98) u) (n o75 (w o1) u)
noncomputable def c152:B:=n o27 (n o1 (w o93) u) (n o70 (w o114) u)
noncomputable def c153:B:=n o20 (n o16 (w o1) u) (n o63 (w o6) u)
noncomputable def c154:B:=n o1 (n o53 (w o96) u) (n o1 (w o116) u)
noncomputable def c155:B:=n o25 (n o8 (w o91) u) (n o69 (w o112) u)
noncomputable def c156:B:=n o1 (n o44 (w o87) u) (n o67 (w o109) u)
noncomputable def c157:B:=n o1 (n o6 (w o8) u) (n o77 (w o119) u)
noncomputable def c158:B:=n o29 (n o49 (w o16) u) (n o72 (w o6) u)
noncomputable def X_tree_247:Params→BT:=(n boot_o_0 (n boot_o_1 (n o200 (n boot_o_7 (n o5 c103 c135) (n o11 c136 c137)) (n o1 (n o8 c138 c139) (n o15 c140 c110))) (n boot_o_5 (n boot_o_9 (n o7 c141 c142) (n o13 c143 c114)) (n o3 (n o10 c144 c145) (n o6 c146 c118)))) (n boot_o_2 (n boot_o_4 (n boot_o_8 (n o6 c119 c147) (n o202 c148 c149)) (n o201 (n o9 c150 c151) (n o16 c152 c126))) (n boot_o_6 (n boot_o_10 (n o1 c153 c154) (n o14 c155 c130)) (n o4 (n o1 c156 c157) (n o17 c158 c134)))))
noncomputable def c159:B:=n o1 (n o40 (w o83) (w o124)) (n o1 (w o106) u)
noncomputable def c160:B:=n o1 (n o6 (w o8) (w o127)) (n o64 (w o108) u)
noncomputable def c161:B:=n o36 (n o59 (w o102) u) (n o16 (w o122) u)
noncomputable def c162:B:=n o19 (n o42 (w o85) (w o125)) (n o62 (w o16) u)
noncomputable def c163:B:=n o1 (n o57 (w o100) u) (n o80 (w o16) u)
noncomputable def c164:B:=n o38 (n o8 (w o104) u) (n o82 (w o8) u)
noncomputable def c165:B:=n o18 (n o41 (w o84) (w o1)) (n o61 (w o107) u)
noncomputable def c166:B:=n o8 (n o43 (w o86) (w o128)) (n o65 (w o1) u)
noncomputable def c167:B:=n o37 (n o1 (w o103) u) (n o6 (w o1) u)
noncomputable def c168:B:=n o20 (n o16 (w o1) (w o126)) (n o63 (w o6) u)
noncomputable def c169:B:=n o35 (n o58 (w o101) u) (n o81 (w o6) u)
noncomputable def c170:B:=n o39 (n o60 (w o105) u) (n o1 (w o123) u)
noncomputable def X_tree_262:Params→BT:=(n boot_o_0 (n boot_o_1 (n o203 (n boot_o_7 (n o5 c159 c135) (n o11 c136 c137)) (n o1 (n o8 c160 c139) (n o15 c140 c161))) (n boot_o_5 (n boot_o_9 (n o7 c162 c142) (n o13 c143 c163)) (n o3 (n o10 c144 c145) (n o6 c146 c164)))) (n boot_o_2 (n boot_o_4 (n boot_o_8 (n o6 c165 c147) (n o205 c148 c149)) (n o204 (n o9 c166 c151) (n o16 c152 c167))) (n boot_o_6 (n boot_o_10 (n o1 c168 c154) (n o14 c155 c169)) (n o4 (n o1 c156 c157) (n o17 c158 c170)))))
noncomputable def c171 (P:Params) (r:List Obj):List Obj:=boot_o_0 P::boot_o_1 P::boot_o_2 P::o170 P::boot_o_4 P::boot_o_5 P::boot_o_6 P::boot_o_7 P::boot_o_8 P::boot_o_9 P::boot_o_10 P::o1 P::o171 P::o3 P::o4 P::o5 P::r
noncomputable def c172 (P:Params) (r:List Obj):List Obj:=o6 P::o7 P::o1 P::o8 P::o9 P::o10 P::o1 P::o11 P::o12 P::o13 P::o14 P::o15 P::o16 P::o6 P::o17 P::o1 P::r
noncomputable def c173 (P:Params) (r:List Obj):List Obj:=o18 P::o19 P::o20 P::o1 P::o8 P::o21 P::o1 P::o22 P::o23 P::o24 P::o25 P::o26 P::o27 P::o28 P::o29 P::o16 P::r
noncomputable def c174 (P:Params) (r:List Obj):List Obj:=o6 P::o30 P::o1 P::o31 P::o32 P::o33 P::o1 P::o8 P::o34 P::o1 P::o35 P::o36 P::o37 P::o38 P::o39 P::o40 P::r
noncomputable def c175 (P:Params) (r:List Obj):List Obj:=o41 P::o42 P::o16 P::o6 P::o43 P::o1 P::o44 P::o45 P::o46 P::o1 P::o8 P::o47 P::o1 P::o48 P::o49 P::o50 P::r
noncomputable def c176 (P:Params) (r:List Obj):List Obj:=o51 P::o52 P::o53 P::o54 P::o55 P::o16 P::o6 P::o56 P::o1 P::o57 P::o58 P::o59 P::o1 P::o8 P::o60 P::o1 P::r
noncomputable def c177 (P:Params) (r:List Obj):List Obj:=o61 P::o62 P::o63 P::o64 P::o65 P::o66 P::o67 P::o68 P::o16 P::o6 P::o69 P::o1 P::o70 P::o71 P::o72 P::o1 P::r
noncomputable def c178 (P:Params) (r:List Obj):List Obj:=o8 P::o73 P::o1 P::o74 P::o75 P::o76 P::o77 P::o78 P::o79 P::o80 P::o81 P::o16 P::o6 P::o82 P::o1 P::o83 P::r
noncomputable def c179 (P:Params) (r:List Obj):List Obj:=o84 P::o85 P::o1 P::o8 P::o86 P::o1 P::o87 P::o88 P::o89 P::o90 P::o91 P::o92 P::o93 P::o94 P::o16 P::o6 P::r
noncomputable def c180 (P:Params) (r:List Obj):List Obj:=o95 P::o1 P::o96 P::o97 P::o98 P::o1 P::o8 P::o99 P::o1 P::o100 P::o101 P::o102 P::o103 P::o104 P::o105 P::o106 P::r
noncomputable def c181 (P:Params) (r:List Obj):List Obj:=o107 P::o16 P::o6 P::o108 P::o1 P::o8 P::o109 P::o110 P::o1 P::o111 P::o112 P::o113 P::o114 P::o16 P::o6 P::o115 P::r
noncomputable def c182 (P:Params) (r:List Obj):List Obj:=o1 P::o8 P::o116 P::o117 P::o1 P::o118 P::o119 P::o120 P::o121 P::o16 P::o6 P::o122 P::o1 P::o8 P::o123 P::o124 P::r
noncomputable def c183 (P:Params) (r:List Obj):List Obj:=o1 P::o125 P::o126 P::o127 P::o128 P::o16 P::o6 P::o129 P::o1 P::o130 P::o131 P::o132 P::o1 P::o8 P::o133 P::o1 P::r
noncomputable def c184 (P:Params) (r:List Obj):List Obj:=o134 P::o135 P::o136 P::o137 P::o138 P::o139 P::o140 P::o141 P::o16 P::o6 P::o142 P::o1 P::o143 P::o144 P::o145 P::o1 P::r
noncomputable def c185 (P:Params) (r:List Obj):List Obj:=o8 P::o146 P::o1 P::o147 P::o148 P::o149 P::o150 P::o151 P::o152 P::o153 P::o154 P::o1 P::o8 P::o155 P::o156 P::o157 P::r
noncomputable def c186 (P:Params) (r:List Obj):List Obj:=o1 P::o8 P::o158 P::o1 P::o159 P::o160 P::o161 P::o1 P::o8 P::o162 P::o1 P::o163 P::o164 P::o165 P::o1 P::o8 P::r
noncomputable def c187 (P:Params) (r:List Obj):List Obj:=o166 P::o1 P::o167 P::o168 P::o169 P::o1 P::o8 P::o172 P::o1 P::o173 P::o174 P::o175 P::o1 P::o8 P::o176 P::o1 P::r
noncomputable def c188 (P:Params) (r:List Obj):List Obj:=o177 P::o178 P::o179 P::o1 P::o8 P::o180 P::o1 P::o181 P::o182 P::o183 P::o1 P::o8 P::o184 P::o1 P::o185 P::o186 P::r
noncomputable def c189 (P:Params) (r:List Obj):List Obj:=o187 P::o1 P::o8 P::o188 P::o189 P::o190 P::o1 P::o8 P::o191 P::o192 P::o193 P::r
noncomputable def X_heap_373:Params→Heap:=fun P=>⟨⟨(c171 P (c172 P (c173 P (c174 P (c175 P (c176 P (c177 P (c178 P (c179 P (c180 P (c181 P (c182 P (c183 P (c184 P (c185 P (c186 P (c187 P (c188 P (c189 P [])))))))))))))))))))⟩,⟨[],[],[],0,[],[],.false,#[],[],0,.false,.false,.false,0,[2000,10,10],.false,0,.true,[],[],0,.false⟩⟩
noncomputable def X_tree_173:Params→BT:=(n boot_o_0 (n boot_o_1 (n o206 (n boot_o_7 (n o5 (n o1 (w o40) (w o1)) (n o16 (w o50) (w o1))) (n o11 (n o22 (w o45) (w o68)) (n o8 (w o56) (w o78)))) (n o1 (n o8 (n o1 (w o6) (w o64)) (n o31 (w o54) (w o74))) (n o15 (n o26 (w o47) (w o1)) (n o36 (w o59) u)))) (n boot_o_5 (n boot_o_9 (n o7 (n o19 (w o42) (w o62)) (n o30 (w o52) (w o73))) (n o13 (n o24 (w o1) (w o6)) (n o1 (w o57) (w o80)))) (n o3 (n o10 (n o21 (w o1) (w o66)) (n o33 (w o16) (w o76))) (n o6 (n o28 (w o48) (w o71)) (n o38 (w o8) u))))) (n boot_o_2 (n boot_o_4 (n boot_o_8 (n o6 (n o18 (w o41) (w o61)) (n o6 (w o51) (w o8))) (n o208 (n o23 (w o46) (w o16)) (n o34 (w o1) (w o79)))) (n o207 (n o9 (n o8 (w o43) (w o65)) (n o32 (w o55) (w o75))) (n o16 (n o27 (w o1) (w o70)) (n o37 (w o1) u)))) (n boot_o_6 (n boot_o_10 (n o1 (n o20 (w o16) (w o63)) (n o1 (w o53) (w o1))) (n o14 (n o25 (w o8) (w o69)) (n o35 (w o58) (w o81)))) (n o4 (n o1 (n o1 (w o44) (w o67)) (n o1 (w o6) (w o77))) (n o17 (n o29 (w o49) (w o72)) (n o39 (w o60) u))))))
noncomputable def c190:B:=n o16 (n o50 (w o6) (w o1)) (n o1 (w o115) u)
noncomputable def c191:B:=n o22 (n o45 (w o88) (w o129)) (n o68 (w o110) u)
noncomputable def c192:B:=n o8 (n o56 (w o99) (w o141)) (n o78 (w o120) u)
noncomputable def c193:B:=n o31 (n o54 (w o97) (w o137)) (n o74 (w o117) u)
noncomputable def c194:B:=n o26 (n o47 (w o92) (w o132)) (n o1 (w o113) u)
noncomputable def c195:B:=n o30 (n o52 (w o1) (w o135)) (n o73 (w o8) u)
noncomputable def c196:B:=n o24 (n o1 (w o90) (w o130)) (n o6 (w o111) u)
noncomputable def c197:B:=n o21 (n o1 (w o1) (w o16)) (n o66 (w o8) u)
noncomputable def c198:B:=n o33 (n o16 (w o1) (w o139)) (n o76 (w o118) u)
noncomputable def c199:B:=n o28 (n o48 (w o94) (w o8)) (n o71 (w o16) u)
noncomputable def c200:B:=n o6 (n o51 (w o95) (w o134)) (n o8 (w o1) u)
noncomputable def c201:B:=n o23 (n o46 (w o89) (w o1)) (n o16 (w o1) u)
noncomputable def c202:B:=n o32 (n o55 (w o98) (w o138)) (n o75 (w o1) u)
noncomputable def c203:B:=n o27 (n o1 (w o93) (w o1)) (n o70 (w o114) u)
noncomputable def c204:B:=n o1 (n o53 (w o96) (w o136)) (n o1 (w o116) u)
noncomputable def c205:B:=n o25 (n o8 (w o91) (w o131)) (n o69 (w o112) u)
noncomputable def c206:B:=n o1 (n o44 (w o87) (w o6)) (n o67 (w o109) u)
noncomputable def c207:B:=n o1 (n o6 (w o8) (w o140)) (n o77 (w o119) u)
noncomputable def c208:B:=n o29 (n o49 (w o16) (w o133)) (n o72 (w o6) u)
noncomputable def X_tree_284:Params→BT:=(n boot_o_0 (n boot_o_1 (n o209 (n boot_o_7 (n o5 c159 c190) (n o11 c191 c192)) (n o1 (n o8 c160 c193) (n o15 c194 c161))) (n boot_o_5 (n boot_o_9 (n o7 c162 c195) (n o13 c196 c163)) (n o3 (n o10 c197 c198) (n o6 c199 c164)))) (n boot_o_2 (n boot_o_4 (n boot_o_8 (n o6 c165 c200) (n o211 c201 c149)) (n o210 (n o9 c166 c202) (n o16 c203 c167))) (n boot_o_6 (n boot_o_10 (n o1 c168 c204) (n o14 c205 c169)) (n o4 (n o1 c206 c207) (n o17 c208 c170)))))
noncomputable def X_tree_232:Params→BT:=(n boot_o_0 (n boot_o_1 (n o212 (n boot_o_7 (n o5 c103 c104) (n o11 c136 c106)) (n o1 (n o8 c138 c108) (n o15 c140 c110))) (n boot_o_5 (n boot_o_9 (n o7 c141 c112) (n o13 c143 c114)) (n o3 (n o10 c144 c116) (n o6 c117 c118)))) (n boot_o_2 (n boot_o_4 (n boot_o_8 (n o6 c119 c120) (n o214 c148 c122)) (n o213 (n o9 c150 c124) (n o16 c152 c126))) (n boot_o_6 (n boot_o_10 (n o1 c153 c128) (n o14 c155 c130)) (n o4 (n o1 c156 c132) (n o17 c133 c134)))))
noncomputable def c209:B:=n o1 (n o40 (w o83) u) (w o1)
noncomputable def c210:B:=n o18 (n o41 (w o84) u) (w o61)
noncomputable def X_tree_195:Params→BT:=(n boot_o_0 (n boot_o_1 (n o215 (n boot_o_7 (n o5 c209 (n o16 (w o50) (w o1))) (n o11 c105 (n o8 (w o56) (w o78)))) (n o1 (n o8 c107 (n o31 (w o54) (w o74))) (n o15 c109 (n o36 (w o59) (w o16))))) (n boot_o_5 (n boot_o_9 (n o7 c111 (n o30 (w o52) (w o73))) (n o13 c113 (n o1 (w o57) (w o80)))) (n o3 (n o10 c115 (n o33 (w o16) (w o76))) (n o6 c117 (n o38 (w o8) (w o82)))))) (n boot_o_2 (n boot_o_4 (n boot_o_8 (n o6 c210 (n o6 (w o51) (w o8))) (n o217 c121 (n o34 (w o1) (w o79)))) (n o216 (n o9 c123 (n o32 (w o55) (w o75))) (n o16 c125 (n o37 (w o1) (w o6))))) (n boot_o_6 (n boot_o_10 (n o1 c127 (n o1 (w o53) (w o1))) (n o14 c129 (n o35 (w o58) (w o81)))) (n o4 (n o1 c131 (n o1 (w o6) (w o77))) (n o17 (n o29 (w o49) (w o72)) (n o39 (w o60) (w o1)))))))
theorem z:(qB X_tree_332 && qB X_tree_372 && qS X_sts_333 && qB X_tree_217 && qP X_view_39 && qB X_tree_151 && qS X_sts_285 && qB X_tree_247 && qB X_tree_262 && qH X_heap_373 && qB X_tree_173 && qB X_tree_284 && qB X_tree_232 && qB X_tree_195)=true:=by k_qdec
end HD
noncomputable def PySem.W.Fast.tw10925275831850435802:PySem.Params→PySem.W.BT:=PySem.W.Fast.tw7628767006525106943
theorem PySem.W.Fast.te10925275831850435802:HD.X_tree_332=PySem.W.Fast.tw10925275831850435802:=PySem.W.Fast.te7628767006525106943
noncomputable def PySem.W.Fast.tw10904997918836783958:PySem.Params→PySem.W.BT:=PySem.W.Fast.tw7712805916673202230
theorem PySem.W.Fast.te10904997918836783958:HD.X_tree_372=PySem.W.Fast.tw10904997918836783958:=PySem.W.Fast.te7712805916673202230
noncomputable def PySem.W.Fast.tw14684414695096736014:List PySem.Stmt:=PySem.W.Fast.tw5591593215407550941
theorem PySem.W.Fast.te14684414695096736014:HD.X_sts_333=PySem.W.Fast.tw14684414695096736014:=PySem.W.Fast.te5591593215407550941
noncomputable def PySem.W.Fast.tw9918734652794499457:PySem.Params→PySem.W.BT:=PySem.W.Fast.tw1359773242563585694
theorem PySem.W.Fast.te9918734652794499457:HD.X_tree_217=PySem.W.Fast.tw9918734652794499457:=PySem.W.Fast.te1359773242563585694
noncomputable def PySem.W.Fast.tw7299464018827594539:PySem.Program:=PySem.W.Fast.tw18025189030367128546
theorem PySem.W.Fast.te7299464018827594539:HD.X_view_39=PySem.W.Fast.tw7299464018827594539:=PySem.W.Fast.te18025189030367128546
noncomputable def PySem.W.Fast.tw5639715784272463961:PySem.Params→PySem.W.BT:=PySem.W.Fast.tw6993101475732854169
theorem PySem.W.Fast.te5639715784272463961:HD.X_tree_151=PySem.W.Fast.tw5639715784272463961:=PySem.W.Fast.te6993101475732854169
noncomputable def PySem.W.Fast.tw5853939691332831615:List PySem.Stmt:=PySem.W.Fast.tw4586217979611060724
theorem PySem.W.Fast.te5853939691332831615:HD.X_sts_285=PySem.W.Fast.tw5853939691332831615:=PySem.W.Fast.te4586217979611060724
noncomputable def PySem.W.Fast.tw7097748384754097830:Nat:=0
theorem PySem.W.Fast.te7097748384754097830:True:=trivial
noncomputable def PySem.W.Fast.tw1542695153146150769:PySem.Params→PySem.W.BT:=PySem.W.Fast.tw1910330143717840126
theorem PySem.W.Fast.te1542695153146150769:HD.X_tree_247=PySem.W.Fast.tw1542695153146150769:=PySem.W.Fast.te1910330143717840126
noncomputable def PySem.W.Fast.tw10583906784549214745:PySem.Params→PySem.W.BT:=PySem.W.Fast.tw12825380204184946203
theorem PySem.W.Fast.te10583906784549214745:HD.X_tree_262=PySem.W.Fast.tw10583906784549214745:=PySem.W.Fast.te12825380204184946203
noncomputable def PySem.W.Fast.tw15646574699387547840:PySem.Params→PySem.Heap:=PySem.W.Fast.tw10128509686690893103
theorem PySem.W.Fast.te15646574699387547840:HD.X_heap_373=PySem.W.Fast.tw15646574699387547840:=PySem.W.Fast.te10128509686690893103
noncomputable def PySem.W.Fast.tw5964243483067284775:PySem.Params→PySem.W.BT:=PySem.W.Fast.tw10857044630490521568
theorem PySem.W.Fast.te5964243483067284775:HD.X_tree_173=PySem.W.Fast.tw5964243483067284775:=PySem.W.Fast.te10857044630490521568
noncomputable def PySem.W.Fast.tw11241621125153018612:PySem.Params→PySem.W.BT:=PySem.W.Fast.tw6858789243893916140
theorem PySem.W.Fast.te11241621125153018612:HD.X_tree_284=PySem.W.Fast.tw11241621125153018612:=PySem.W.Fast.te6858789243893916140
noncomputable def PySem.W.Fast.tw5945445799751283412:PySem.Params→PySem.W.BT:=PySem.W.Fast.tw1818806372403010703
theorem PySem.W.Fast.te5945445799751283412:HD.X_tree_232=PySem.W.Fast.tw5945445799751283412:=PySem.W.Fast.te1818806372403010703
noncomputable def PySem.W.Fast.tw1686779986150369433:PySem.Params→PySem.W.BT:=PySem.W.Fast.tw95323471910808647
theorem PySem.W.Fast.te1686779986150369433:HD.X_tree_195=PySem.W.Fast.tw1686779986150369433:=PySem.W.Fast.te95323471910808647
open PySem PySem.W PyProof.Rows
set_option maxRecDepth 100000 in
set_option maxHeartbeats 0 in
theorem PySem.Challenge.cw_tailrooms_k18_refusals_apart_holds : PySem.Challenge.rw_tailrooms_k18_refusals_apart.Holds := by
  w_on; o_law; k_head; (case hw=>w_witness2)
  k_fill
  refine Law.walk (l:=PySem.Challenge.rw_tailrooms_k18_refusals_apart) rfl rfl (fun w h Y=>PySem.W.kIn_of Y) ?F
  case F =>
    intro w mg fa h KX G hmg
    refine' Law.all_mk KX G hmg ?ga0 ?ga1 ?ga2 ?ga3 ?ga4 ?ga5 ?ga6 ?ga7 ?ga8 ?a9 ?l9 ?c9 ?k9 ?gT ?gx_Full ?gx_Lacking ?gx_NoKey ?gx_NoMark ?gx_NoName ?gx_NoRoom ?gx_NoSize ?gx_NoThing ?gx_Taken ?gp_Busy ?gp_NoLine ?gp_NoText ?kt_tab ?kt_top ?z_abs ?z_len ?z_range ?z_isinstance ?z_bool ?z_max ?z_min ?z_all ?z_ValueError
    (case ga0=>walk_at"lk")
    (case ga1=>walk_at"lk")
    (case ga2=>walk_at"lk")
    (case ga3=>walk_at"lk")
    (case ga4=>walk_at"lk")
    (case ga5=>walk_at"lk")
    (case ga6=>walk_at"lk")
    (case ga7=>walk_at"lk")
    (case ga8=>walk_at"lk")
    (case a9=>walk_at"lk")
    (case l9=>walk_at"lk")
    (case c9=>walk_at"lk")
    (case k9=>walk_at"lk")
    (case gT=>(refine' L2.GaT.mk ?gTa ?gTl); (case gTa=>k_is); (case gTl=>k_is))
    (case gx_Full=>(refine' L2.GaX.mk' (st:=L2.inClass (Law.top 7) 0) (p1:=_) ?xaC ?xlC ?xlT ?xl1 ?xn1 ?xl2 ?xn2 ?xi0 ?xi1 ?xi2 ?xi3 ?xi4 ?xi5 ?xt0 ?xt1 ?xt2 ?xt3 ?xt4 ?xt5 ?xhm ?xlf ?xhcd L2.ve_many rfl ⟨rfl,rfl,rfl,by decide +kernel,rfl,by decide +kernel,by decide +kernel⟩ (fun _=>rfl) (by decide +kernel) (by decide +kernel) (by decide +kernel) (by decide +kernel) (fun _ _ _ _ _ _ _ _ _ _ _ _=>.of_eq rfl)); (case xaC=>k_is); (case xlC=>k_is); (case xlT=>k_is); (case xl1=>k_is); (case xn1=>rfl); (case xl2=>k_is); (case xn2=>rfl); (case xi0=>k_is); (case xi1=>k_is); (case xi2=>k_is); (case xi3=>k_is); (case xi4=>k_is); (case xi5=>k_is); (case xt0=>k_is); (case xt1=>k_is); (case xt2=>k_is); (case xt3=>k_is); (case xt4=>k_is); (case xt5=>k_is); (case xhm=>k_is); (case xlf=>k_is); (case xhcd=>k_is))
    (case gx_Lacking=>(refine' L2.GaX.mk' (st:=L2.inClass (Law.top 6) 0) (p1:=_) ?xaC ?xlC ?xlT ?xl1 ?xn1 ?xl2 ?xn2 ?xi0 ?xi1 ?xi2 ?xi3 ?xi4 ?xi5 ?xt0 ?xt1 ?xt2 ?xt3 ?xt4 ?xt5 ?xhm ?xlf ?xhcd L2.ve_key rfl ⟨rfl,rfl,rfl,by decide +kernel,rfl,by decide +kernel,by decide +kernel⟩ (fun _=>rfl) (by decide +kernel) (by decide +kernel) (by decide +kernel) (by decide +kernel) (fun _ _ _ _ _ _ _ _ _ _ _ _=>.of_eq rfl)); (case xaC=>k_is); (case xlC=>k_is); (case xlT=>k_is); (case xl1=>k_is); (case xn1=>rfl); (case xl2=>k_is); (case xn2=>rfl); (case xi0=>k_is); (case xi1=>k_is); (case xi2=>k_is); (case xi3=>k_is); (case xi4=>k_is); (case xi5=>k_is); (case xt0=>k_is); (case xt1=>k_is); (case xt2=>k_is); (case xt3=>k_is); (case xt4=>k_is); (case xt5=>k_is); (case xhm=>k_is); (case xlf=>k_is); (case xhcd=>k_is))
    (case gx_NoKey=>(refine' L2.GaX.mk' (st:=L2.inClass (Law.top 3) 0) (p1:=_) ?xaC ?xlC ?xlT ?xl1 ?xn1 ?xl2 ?xn2 ?xi0 ?xi1 ?xi2 ?xi3 ?xi4 ?xi5 ?xt0 ?xt1 ?xt2 ?xt3 ?xt4 ?xt5 ?xhm ?xlf ?xhcd L2.ve_key rfl ⟨rfl,rfl,rfl,by decide +kernel,rfl,by decide +kernel,by decide +kernel⟩ (fun _=>rfl) (by decide +kernel) (by decide +kernel) (by decide +kernel) (by decide +kernel) (fun _ _ _ _ _ _ _ _ _ _ _ _=>.of_eq rfl)); (case xaC=>k_is); (case xlC=>k_is); (case xlT=>k_is); (case xl1=>k_is); (case xn1=>rfl); (case xl2=>k_is); (case xn2=>rfl); (case xi0=>k_is); (case xi1=>k_is); (case xi2=>k_is); (case xi3=>k_is); (case xi4=>k_is); (case xi5=>k_is); (case xt0=>k_is); (case xt1=>k_is); (case xt2=>k_is); (case xt3=>k_is); (case xt4=>k_is); (case xt5=>k_is); (case xhm=>k_is); (case xlf=>k_is); (case xhcd=>k_is))
    (case gx_NoMark=>(refine' L2.GaX.mk' (st:=L2.inClass (Law.top 8) 0) (p1:=_) ?xaC ?xlC ?xlT ?xl1 ?xn1 ?xl2 ?xn2 ?xi0 ?xi1 ?xi2 ?xi3 ?xi4 ?xi5 ?xt0 ?xt1 ?xt2 ?xt3 ?xt4 ?xt5 ?xhm ?xlf ?xhcd L2.ve_mark rfl ⟨rfl,rfl,rfl,by decide +kernel,rfl,by decide +kernel,by decide +kernel⟩ (fun _=>rfl) (by decide +kernel) (by decide +kernel) (by decide +kernel) (by decide +kernel) (fun _ _ _ _ _ _ _ _ _ _ _ _=>.of_eq rfl)); (case xaC=>k_is); (case xlC=>k_is); (case xlT=>k_is); (case xl1=>k_is); (case xn1=>rfl); (case xl2=>k_is); (case xn2=>rfl); (case xi0=>k_is); (case xi1=>k_is); (case xi2=>k_is); (case xi3=>k_is); (case xi4=>k_is); (case xi5=>k_is); (case xt0=>k_is); (case xt1=>k_is); (case xt2=>k_is); (case xt3=>k_is); (case xt4=>k_is); (case xt5=>k_is); (case xhm=>k_is); (case xlf=>k_is); (case xhcd=>k_is))
    (case gx_NoName=>(refine' L2.GaX.mk' (st:=L2.inClass (Law.top 12) 0) (p1:=_) ?xaC ?xlC ?xlT ?xl1 ?xn1 ?xl2 ?xn2 ?xi0 ?xi1 ?xi2 ?xi3 ?xi4 ?xi5 ?xt0 ?xt1 ?xt2 ?xt3 ?xt4 ?xt5 ?xhm ?xlf ?xhcd L2.ve_name rfl ⟨rfl,rfl,rfl,by decide +kernel,rfl,by decide +kernel,by decide +kernel⟩ (fun _=>rfl) (by decide +kernel) (by decide +kernel) (by decide +kernel) (by decide +kernel) (fun _ _ _ _ _ _ _ _ _ _ _ _=>.of_eq rfl)); (case xaC=>k_is); (case xlC=>k_is); (case xlT=>k_is); (case xl1=>k_is); (case xn1=>rfl); (case xl2=>k_is); (case xn2=>rfl); (case xi0=>k_is); (case xi1=>k_is); (case xi2=>k_is); (case xi3=>k_is); (case xi4=>k_is); (case xi5=>k_is); (case xt0=>k_is); (case xt1=>k_is); (case xt2=>k_is); (case xt3=>k_is); (case xt4=>k_is); (case xt5=>k_is); (case xhm=>k_is); (case xlf=>k_is); (case xhcd=>k_is))
    (case gx_NoRoom=>(refine' L2.GaX.mk' (st:=L2.inClass (Law.top 5) 0) (p1:=_) ?xaC ?xlC ?xlT ?xl1 ?xn1 ?xl2 ?xn2 ?xi0 ?xi1 ?xi2 ?xi3 ?xi4 ?xi5 ?xt0 ?xt1 ?xt2 ?xt3 ?xt4 ?xt5 ?xhm ?xlf ?xhcd L2.ve_number rfl ⟨rfl,rfl,rfl,by decide +kernel,rfl,by decide +kernel,by decide +kernel⟩ (fun _=>rfl) (by decide +kernel) (by decide +kernel) (by decide +kernel) (by decide +kernel) (fun _ _ _ _ _ _ _ _ _ _ _ _=>.of_eq rfl)); (case xaC=>k_is); (case xlC=>k_is); (case xlT=>k_is); (case xl1=>k_is); (case xn1=>rfl); (case xl2=>k_is); (case xn2=>rfl); (case xi0=>k_is); (case xi1=>k_is); (case xi2=>k_is); (case xi3=>k_is); (case xi4=>k_is); (case xi5=>k_is); (case xt0=>k_is); (case xt1=>k_is); (case xt2=>k_is); (case xt3=>k_is); (case xt4=>k_is); (case xt5=>k_is); (case xhm=>k_is); (case xlf=>k_is); (case xhcd=>k_is))
    (case gx_NoSize=>(refine' L2.GaX.mk' (st:=L2.inClass (Law.top 2) 0) (p1:=_) ?xaC ?xlC ?xlT ?xl1 ?xn1 ?xl2 ?xn2 ?xi0 ?xi1 ?xi2 ?xi3 ?xi4 ?xi5 ?xt0 ?xt1 ?xt2 ?xt3 ?xt4 ?xt5 ?xhm ?xlf ?xhcd L2.ve_thing rfl ⟨rfl,rfl,rfl,by decide +kernel,rfl,by decide +kernel,by decide +kernel⟩ (fun _=>rfl) (by decide +kernel) (by decide +kernel) (by decide +kernel) (by decide +kernel) (fun _ _ _ _ _ _ _ _ _ _ _ _=>.of_eq rfl)); (case xaC=>k_is); (case xlC=>k_is); (case xlT=>k_is); (case xl1=>k_is); (case xn1=>rfl); (case xl2=>k_is); (case xn2=>rfl); (case xi0=>k_is); (case xi1=>k_is); (case xi2=>k_is); (case xi3=>k_is); (case xi4=>k_is); (case xi5=>k_is); (case xt0=>k_is); (case xt1=>k_is); (case xt2=>k_is); (case xt3=>k_is); (case xt4=>k_is); (case xt5=>k_is); (case xhm=>k_is); (case xlf=>k_is); (case xhcd=>k_is))
    (case gx_NoThing=>(refine' L2.GaX.mk' (st:=L2.inClass (Law.top 4) 0) (p1:=_) ?xaC ?xlC ?xlT ?xl1 ?xn1 ?xl2 ?xn2 ?xi0 ?xi1 ?xi2 ?xi3 ?xi4 ?xi5 ?xt0 ?xt1 ?xt2 ?xt3 ?xt4 ?xt5 ?xhm ?xlf ?xhcd L2.ve_thing rfl ⟨rfl,rfl,rfl,by decide +kernel,rfl,by decide +kernel,by decide +kernel⟩ (fun _=>rfl) (by decide +kernel) (by decide +kernel) (by decide +kernel) (by decide +kernel) (fun _ _ _ _ _ _ _ _ _ _ _ _=>.of_eq rfl)); (case xaC=>k_is); (case xlC=>k_is); (case xlT=>k_is); (case xl1=>k_is); (case xn1=>rfl); (case xl2=>k_is); (case xn2=>rfl); (case xi0=>k_is); (case xi1=>k_is); (case xi2=>k_is); (case xi3=>k_is); (case xi4=>k_is); (case xi5=>k_is); (case xt0=>k_is); (case xt1=>k_is); (case xt2=>k_is); (case xt3=>k_is); (case xt4=>k_is); (case xt5=>k_is); (case xhm=>k_is); (case xlf=>k_is); (case xhcd=>k_is))
    (case gx_Taken=>(refine' L2.GaX.mk' (st:=L2.inClass (Law.top 13) 0) (p1:=_) ?xaC ?xlC ?xlT ?xl1 ?xn1 ?xl2 ?xn2 ?xi0 ?xi1 ?xi2 ?xi3 ?xi4 ?xi5 ?xt0 ?xt1 ?xt2 ?xt3 ?xt4 ?xt5 ?xhm ?xlf ?xhcd L2.ve_name rfl ⟨rfl,rfl,rfl,by decide +kernel,rfl,by decide +kernel,by decide +kernel⟩ (fun _=>rfl) (by decide +kernel) (by decide +kernel) (by decide +kernel) (by decide +kernel) (fun _ _ _ _ _ _ _ _ _ _ _ _=>.of_eq rfl)); (case xaC=>k_is); (case xlC=>k_is); (case xlT=>k_is); (case xl1=>k_is); (case xn1=>rfl); (case xl2=>k_is); (case xn2=>rfl); (case xi0=>k_is); (case xi1=>k_is); (case xi2=>k_is); (case xi3=>k_is); (case xi4=>k_is); (case xi5=>k_is); (case xt0=>k_is); (case xt1=>k_is); (case xt2=>k_is); (case xt3=>k_is); (case xt4=>k_is); (case xt5=>k_is); (case xhm=>k_is); (case xlf=>k_is); (case xhcd=>k_is))
    (case gp_Busy=>(refine' L2.GaX0.mk' ?xaC ?xlC ?xlT ?xl1 ?xn1 ?xl2 ?xn2 ?xi0 ?xi3 ?xi4 ?xi5 ?xt0 ?xt3 ?xt4 ?xt5 ?xhm); (case xaC=>k_is); (case xlC=>k_is); (case xlT=>k_is); (case xl1=>k_is); (case xn1=>rfl); (case xl2=>k_is); (case xn2=>rfl); (case xi0=>k_is); (case xi3=>k_is); (case xi4=>k_is); (case xi5=>k_is); (case xt0=>k_is); (case xt3=>k_is); (case xt4=>k_is); (case xt5=>k_is); (case xhm=>k_is))
    (case gp_NoLine=>(refine' L2.GaX0.mk' ?xaC ?xlC ?xlT ?xl1 ?xn1 ?xl2 ?xn2 ?xi0 ?xi3 ?xi4 ?xi5 ?xt0 ?xt3 ?xt4 ?xt5 ?xhm); (case xaC=>k_is); (case xlC=>k_is); (case xlT=>k_is); (case xl1=>k_is); (case xn1=>rfl); (case xl2=>k_is); (case xn2=>rfl); (case xi0=>k_is); (case xi3=>k_is); (case xi4=>k_is); (case xi5=>k_is); (case xt0=>k_is); (case xt3=>k_is); (case xt4=>k_is); (case xt5=>k_is); (case xhm=>k_is))
    (case gp_NoText=>(refine' L2.GaX0.mk' ?xaC ?xlC ?xlT ?xl1 ?xn1 ?xl2 ?xn2 ?xi0 ?xi3 ?xi4 ?xi5 ?xt0 ?xt3 ?xt4 ?xt5 ?xhm); (case xaC=>k_is); (case xlC=>k_is); (case xlT=>k_is); (case xl1=>k_is); (case xn1=>rfl); (case xl2=>k_is); (case xn2=>rfl); (case xi0=>k_is); (case xi3=>k_is); (case xi4=>k_is); (case xi5=>k_is); (case xt0=>k_is); (case xt3=>k_is); (case xt4=>k_is); (case xt5=>k_is); (case xhm=>k_is))
    (case kt_tab=>first | k_is | kernel_rfl)
    (case kt_top=>first | k_is | kernel_rfl)
    (case z_abs=>walk_at"lk")
    (case z_len=>walk_at"lk")
    (case z_range=>walk_at"lk")
    (case z_isinstance=>walk_at"lk")
    (case z_bool=>walk_at"lk")
    (case z_max=>walk_at"lk")
    (case z_min=>walk_at"lk")
    (case z_all=>walk_at"lk")
    (case z_ValueError=>walk_at"lk")
