import PyProof.Rows.All
import Wide.All
import OpenK.AllK
import Wide.FinOn
import PyProof.EqAt
import PyProof.EqKinds
import PyProof.TupleCall
import PyProof.ExcArgsOwn
import PyProof.ExcAttrAll.ValueError
import PyProof.ExcBaseAll.ValueError
import PyProof.ExcClass2
import PyProof.ExcInit
import PyProof.InstStore
import PyProof.InstStoreFacts
import PyProof.NsDelKeeps
import PyProof.NsMap
import PyProof.Rows.CatchOwn
import PyProof.StationsW
import PyProof.StrBlock2
import PyProof.StrBlockI
import PyProof.RangeIter
import PyProof.FactsCmp
import KE.KEqDict
import PySem.Challenge.RW_tailrooms_k37_refused_in_order
set_option Elab.async false
set_option linter.all false
set_option maxRecDepth 100000
local macro_rules|`(tactic|z_go)=>`(tactic|decide +kernel)
set_option compiler.extract_closed false
local macro_rules | `(tactic| omega)=>`(tactic| first | lia | omega (config:={}))
namespace L2
open PySem PySem.Spec PyProof.Rows
abbrev Key:=Sum Int Str
def ql:Key->Value->Bool
 | .inl k,v=>Value.isInt k v
 | .inr x,v=>Value.isStrOf x v
def S7 (w:World):Key->Int
 | .inl k=>hashInt k
 | .inr x=>hashStr w x
theorem cj:∀{k:Key}{v:Value},ql k v=true->(∃i t,k=Sum.inl i/\v=Value.int i t) \/(∃x t,k=Sum.inr x/\v=Value.str x t)
 | .inl i,v,h=>by
  obtain⟨t,e⟩:=Value.isInt_shape (k:=i) (v:=v) h
  exact .inl ⟨i,t,rfl,e⟩
 | .inr x,v,h=>by
  obtain⟨t,e⟩:=Value.isStrOf_shape (x:=x) (v:=v) h
  exact .inr ⟨x,t,rfl,e⟩
theorem CU (i:Int) (t:Tok):ql (.inl i) (.int i t)=true:=by simp[ql,Value.isInt]
theorem Cq (x:Str) (t:Tok):ql (.inr x) (.str x t)=true:=by simp[ql,Value.isStrOf]
theorem Mq (a b:Int):decide ((Sum.inl a:Key)=Sum.inl b) =(a == b):=by
 by_cases e:a=b
 ·subst e;simp
 ·have h:¬(Sum.inl a:Key)=Sum.inl b:=fun q=>e (Sum.inl.inj q)
  rw[decide_eq_false h]
  exact(beq_eq_false_iff_ne.mpr e).symm
theorem N4 (a b:Str):decide ((Sum.inr a:Key)=Sum.inr b)=decide (a=b):=by
 by_cases e:a=b
 ·subst e;simp
 ·have h:¬(Sum.inr a:Key)=Sum.inr b:=fun q=>e (Sum.inr.inj q)
  rw[decide_eq_false h,decide_eq_false e]
theorem Ox (a:Int) (b:Str):decide ((Sum.inl a:Key)=Sum.inr b)=false:=decide_eq_false (fun q=>nomatch q)
theorem Mu (a:Str) (b:Int):decide ((Sum.inr a:Key)=Sum.inl b)=false:=decide_eq_false (fun q=>nomatch q)
def bE (prog:Program) (w:World):PySem.KeyKind prog w Key where
 is:=ql
 hash:=S7 w
 inj:=fun v a b ha hb=>by
  rcases cj ha with⟨i,t,rfl,rfl⟩|⟨x,t,rfl,rfl⟩
  ·rcases cj hb with⟨j,u,rfl,e⟩|⟨y,u,rfl,e⟩
   ·injection e with e1 _;rw[e1]
   ·exact nomatch e
  ·rcases cj hb with⟨j,u,rfl,e⟩|⟨y,u,rfl,e⟩
   ·exact nomatch e
   ·injection e with e1 _;rw[e1]
 byValue:=fun k v h=>by
  rcases cj h with⟨i,t,rfl,rfl⟩|⟨x,t,rfl,rfl⟩ <;> rfl
 pyHash:=fun hv h=>by
  rcases cj hv with⟨i,t,rfl,rfl⟩|⟨x,t,rfl,rfl⟩
  ·exact wpAny_pyHash_int h
  ·exact wpAny_pyHash_str h
 eqBool:=fun hu hv h=>by
  rcases cj hu with⟨i,t,rfl,rfl⟩|⟨x,t,rfl,rfl⟩
  ·rcases cj hv with⟨j,u,rfl,rfl⟩|⟨y,u,rfl,rfl⟩
   ·rw[Mq]at h;exact wpAny_eqBool_int h
   ·rw[Ox]at h;exact SeqAt.EqAt.int_str i t y u _ _ _ _ h
  ·rcases cj hv with⟨j,u,rfl,rfl⟩|⟨y,u,rfl,rfl⟩
   ·rw[Mu]at h;exact SeqAt.EqAt.str_int x t j u _ _ _ _ h
   ·rw[N4]at h;exact wpAny_eqBool_str h
 «strs»:=fun k x t v h=>by
  rcases cj h with⟨i,u,rfl,e⟩|⟨y,u,rfl,e⟩
  ·exact nomatch e
  ·injection e with e1 _
   subst e1
   cases v <;> rfl
theorem zC (prog:Program) (w:World) (k:Key) (v:Value):(bE prog w).is k v=ql k v:=rfl
theorem xD (prog:Program) (w:World) (i:Int) (t:Tok):(bE prog w).is (.inl i) (.int i t)=true:=CU i t
theorem yd (prog:Program) (w:World) (x:Str) (t:Tok):(bE prog w).is (.inr x) (.str x t)=true:=Cq x t
inductive V where
 | non|bl (b:Bool)|int (i:Int)|str (x:Str)|byt (b:Array UInt8)|flt (b:UInt64)|ref (a:Addr)|ty (n:String)
 deriving DecidableEq
def RelV:V->Value->Prop
 | .non,u=>u=Value.none
 | .bl b,u=>u=Value.bool b
 | .int i,u=>∃t,u=Value.int i t
 | .str x,u=>∃t,u=Value.str x t
 | .byt b,u=>∃t,u=Value.bytes b t
 | .flt b,u=>∃t,u=Value.float b t
 | .ref a,u=>u=Value.ref a
 | .ty n,u=>u=Value.type n
abbrev Vals:List V->List Value->Prop:=Paired RelV
theorem Vals.length {xs:List V}{us:List Value}(r:Vals xs us):xs.length=us.length:=Paired.length r
theorem Vals.get:∀{xs:List V}{us:List Value}{i:Nat}{x:V},Vals xs us->xs[i]? = some x->∃u,us[i]? = some u/\RelV x u
 | _,_,_,_,.nil,e=>by simp at e
 | _,_,0,_,.cons r _,e=>by simp at e;subst e;exact⟨_,rfl,r⟩
 | _,_,i+1,x,.cons _ t,e=>by
  obtain⟨u,h1,h2⟩:=Vals.get (i:=i) (x:=x) t (by simpa using e)
  exact⟨u,by simpa using h1,h2⟩
theorem Vals.set {x:V}{u:Value}(r:RelV x u):∀{xs:List V}{us:List Value}(i:Nat),Vals xs us->Vals (xs.set i x) (us.set i u)
 | _,_,_,.nil=>.nil
 | _,_,0,.cons _ t=>.cons r t
 | _,_,i+1,.cons q t=>.cons q (Vals.set r i t)
theorem Vals.append:∀{xs ys:List V}{us ws:List Value},Vals xs us->Vals ys ws->Vals (xs++ys) (us++ws)
 | _,_,_,_,.nil,s=>s
 | _,_,_,_,.cons r t,s=>.cons r (Vals.append t s)
theorem Vals.take:∀{xs:List V}{us:List Value}(n:Nat),Vals xs us->Vals (xs.take n) (us.take n)
 | _,_,0,_=>.nil
 | _,_,_+1,.nil=>.nil
 | _,_,n+1,.cons r t=>.cons r (Vals.take n t)
theorem Vals.drop:∀{xs:List V}{us:List Value}(n:Nat),Vals xs us->Vals (xs.drop n) (us.drop n)
 | _,_,0,r=>r
 | _,_,_+1,.nil=>.nil
 | _,_,n+1,.cons _ t=>Vals.drop n t
def iC:Option V->Option Value->Prop
 | some v,some u=>RelV v u
 | none,none=>True
 | _,_=>False
def KV {κ:Type}:List (κ×V)->List (κ×Value)->Prop:=Paired fun(p:κ×V) (q:κ×Value)=>p.1=q.1/\RelV p.2 q.2
def kV:Key->V
 | .inl i=>.int i
 | .inr x=>.str x
inductive HO where
 | lst (xs:List V)
 | tup (xs:List V)
 | dK (kvs:List (Key×V))|dT (kvs:List (List Key×V))
 | set (S:Int->Bool) (n:Nat)
 | ins (C dx:Addr) (fs:List (Str×V))
 | own (x:Addr)
 | xd (fs:List (Str×V))
 | met (f x:Addr)
 | rng (lo hi:Int)
 | frz (o:Obj) (u:HO)
 | tbl (ps:Array Value)
 | ext (φ:Heap->Prop)
abbrev Hp:=Addr->Option HO
def upd (H:Hp) (a:Addr) (o:HO):Hp:=fun b=>if b=a then some o else H b
theorem aA {H:Hp}{a:Addr}{o:HO}:upd H a o a=some o:=by unfold upd;rw[if_pos rfl]
theorem az {H:Hp}{a b:Addr}{o:HO}(h:b≠a):upd H a o b=H b:=by unfold upd;rw[if_neg h]
theorem cX {H:Hp}{a b:Addr}{o u:HO}(h:H a=some o) (h':H b=some u) (d:o≠u):a≠b:=by
 intro e;subst e;rw[h]at h';exact d (Option.some.inj h')
theorem ay {H:Hp}{a b:Addr}{o:HO}(h:H a=some o) (h':H b=none):a≠b:=by
 intro e;subst e;rw[h]at h';cases h'
section
variable (P:Program) (w:World)
def cH (H:Hp) (h:Heap) (a:Addr):HO->Prop
 | .lst xs=>xs.length<=sizeLine/\∃(its:List Value) (n:Nat),Vals xs its/\h.get? a=some { cls:=.type "list",data:=.seq its.toArray n }
 | .tup xs=>xs.length<=sizeLine/\∃its:List Value,Vals xs its/\IsTup h a its.toArray
 | .dK kvs=>kvs.length<=sizeLine/\(a == sysModules)=false/\∃vs,KV kvs vs/\h.DictOf (bE P w) a vs
 | .dT kvs=>kvs.length<=sizeLine/\(a == sysModules)=false/\∃xs:List (List Key×Addr×Value),
   Paired (fun(p:List Key×V) (q:List Key×Addr×Value)=>p.1=q.1/\H q.2.1=some (.tup (p.1.map kV))/\RelV p.2 q.2.2) kvs xs /\
   ∃o es ep,h.get? a=some o/\o.ExactDict/\o.data = .dict es ep/\es.toList=xs.map (entryOfKey (tupleKind (bE P w)))/\(xs.map (·.1)).Nodup
 | .set S n=>h.SetOf (intKind P w) a S n
 | .ins C dx fs=>H dx=some (.own a)/\fs.length<=1000/\dx≠a/\h.get? a=some (PySem.W.instObj C dx) /\
   ∃mA,h.Ns1 dx mA/\(∀f,iC (fs.lookup f) (mA f))/\PySem.Within mA (fs.map (·.1))
 | .own _=>∃o,h.get? a=some o
 | .xd fs=>∃mA,h.Ns1 a mA/\∀f,iC (fs.lookup f) (mA f)
 | .rng lo hi=>∃t u v,h.get? a=some { cls:=.type "range",data:=.fields #[.int lo t,.int hi u,.int 1 v] }
 | .frz o u=>h.get? a=some o/\cH H h a u
 | .tbl ps=>h.get? a=some { cls:=.none,data:=.fields ps }
 | .met f x=>h.get? a=some (PySem.W.methodObj (.ref f) (.ref x))
 | .ext φ=>φ h/\(∃o,h.get? a=some o)/\∀h1 h2:Heap,φ h1->(∀o,h1.get? a=some o->h2.get? a=some o)->φ h2
def kH (H:Hp) (h:Heap):Prop:=∀a o,H a=some o->cH P w H h a o
end
section
variable {P:Program}{w:World}{H H':Hp}{h h':Heap}{a:Addr}{o:HO}
theorem cH.lt (x:cH P w H h a o):a<h.objs.size:=by
 cases o with
 | lst xs=>obtain⟨_,_,_,_,e⟩:=x;exact Heap.lt_size e
 | tup xs=>obtain⟨_,_,_,p⟩:=x;exact p.lt
 | dK kvs=>obtain⟨_,_,_,_,o,_,_,e,_⟩:=x;exact Heap.lt_size e
 | dT kvs=>obtain⟨_,_,_,_,o,_,_,e,_⟩:=x;exact Heap.lt_size e
 | set S n=>obtain⟨o,_,_,_,e,_⟩:=x;exact Heap.lt_size e
 | ins C dx fs=>obtain⟨_,_,_,e,_⟩:=x;exact Heap.lt_size e
 | own y=>obtain⟨_,e⟩:=x;exact Heap.lt_size e
 | xd fs=>obtain⟨_,⟨_,_,_,e,_⟩,_⟩:=x;exact Heap.lt_size e
 | rng lo hi=>obtain⟨_,_,_,e⟩:=x;exact Heap.lt_size e
 | frz ob u=>obtain⟨e,_⟩:=x;exact Heap.lt_size e
 | tbl ps=>exact Heap.lt_size (show h.get? a=some _ from x)
 | met f y=>exact Heap.lt_size (show h.get? a=some _ from x)
 | ext φ=>obtain⟨_,⟨_,e⟩,_⟩:=x;exact Heap.lt_size e
theorem Paired.mapP {α β:Type}{F G:α->β->Prop}:∀{l₁:List α}{l₂:List β},Paired F l₁ l₂->(∀a b,F a b->G a b)->Paired G l₁ l₂
 | _,_,.nil,_=>.nil
 | _,_,.cons r t,f=>.cons (f _ _ r) (Paired.mapP t f)
theorem cH.stay (x:cH P w H h a o) (k:∀b u,(b=a\/H b=some (.own a))->h.get? b=some u->h'.get? b=some u)
  (ho:∀b,H b=some (.own a)->H' b=some (.own a)) (ht:∀b xs,H b=some (.tup xs)->H' b=some (.tup xs)):cH P w H' h' a o:=by
 induction o with
 | lst xs=>obtain⟨z,its,n,r,e⟩:=x;exact⟨z,its,n,r,k _ _ (.inl rfl) e⟩
 | tup xs=>obtain⟨z,its,r,ob,e,c⟩:=x;exact⟨z,its,r,ob,k _ _ (.inl rfl) e,c⟩
 | dK kvs=>obtain⟨z,y,vs,r,ob,es,ep,e,c⟩:=x;exact⟨z,y,vs,r,ob,es,ep,k _ _ (.inl rfl) e,c⟩
 | dT kvs =>
  obtain⟨z,y,xs,r,ob,es,ep,e,c⟩:=x
  exact⟨z,y,xs,Paired.mapP r fun p q z=>⟨z.1,ht _ _ z.2.1,z.2.2⟩,ob,es,ep,k _ _ (.inl rfl) e,c⟩
 | set S n=>obtain⟨ob,es,ep,t,e,c⟩:=x;exact⟨ob,es,ep,t,k _ _ (.inl rfl) e,c⟩
 | ins C dx fs =>
  obtain⟨d,z,ne,e,mA,⟨od,es,ep,e2,c⟩,r⟩:=x
  exact⟨ho _ d,z,ne,k _ _ (.inl rfl) e,mA,⟨od,es,ep,k _ _ (.inr d) e2,c⟩,r⟩
 | own y=>obtain⟨ob,e⟩:=x;exact⟨ob,k _ _ (.inl rfl) e⟩
 | xd fs=>obtain⟨mA,⟨od,es,ep,e,c⟩,r⟩:=x;exact⟨mA,⟨od,es,ep,k _ _ (.inl rfl) e,c⟩,r⟩
 | rng lo hi=>obtain⟨t,u,v,e⟩:=x;exact⟨t,u,v,k _ _ (.inl rfl) e⟩
 | frz ob u ih=>obtain⟨e,q⟩:=x;exact⟨k _ _ (.inl rfl) e,ih q⟩
 | tbl ps =>
  have e:h.get? a=some { cls:=.none,data:=.fields ps }:=x
  show h'.get? a=some { cls:=.none,data:=.fields ps }
  exact k a _ (.inl rfl) e
 | met f y =>
  have e:h.get? a=some (PySem.W.methodObj (.ref f) (.ref y)):=x
  show h'.get? a=some (PySem.W.methodObj (.ref f) (.ref y))
  exact k a _ (.inl rfl) e
 | ext φ=>obtain⟨p,⟨o,e⟩,st⟩:=x;exact⟨st _ _ p fun o q=>k _ _ (.inl rfl) q,⟨o,k _ _ (.inl rfl) e⟩,st⟩
theorem kH.lt (x:kH P w H h) (e:H a=some o):a<h.objs.size:=(x a o e).lt
theorem kH.fresh (x:kH P w H h) (e:h.objs.size<=a):H a=none:=by
 cases q:H a with
 | none=>rfl
 | some u=>exact absurd (Nat.lt_of_lt_of_le (x.lt q) e) (Nat.lt_irrefl _)
theorem kH.kept (x:kH P w H h) (k:∀b u,h.get? b=some u->h'.get? b=some u):kH P w H h':=fun a o e =>
 (x a o e).stay (fun b u _ q=>k b u q) (fun _ q=>q) fun _ _ q=>q
theorem kH.laid (x:kH P w H h) (k:∀b u,h.get? b=some u->h'.get? b=some u) (hp:h.objs.size<=a) (new:cH P w (upd H a o) h' a o):kH P w (upd H a o) h':=fun b u e=>by
 have hn:=x.fresh hp
 by_cases hb:b=a
 ·subst hb;rw[aA]at e;cases e;exact new
 ·rw[az hb]at e
  exact(x b u e).stay (fun c v _ q=>k c v q) (fun c q=>by rw[az (ay q hn)];exact q) fun c xs q=>by rw[az (ay q hn)];exact q
end
def Rd (H:Hp) (a:Addr) (u:HO):Prop:=H a=some u \/ ∃o,H a=some (.frz o u)
theorem Rd.ok {P:Program}{w:World}{H:Hp}{h:Heap}{a:Addr}{u:HO}(r:Rd H a u) (x:kH P w H h):cH P w H h a u:=by
 rcases r with r|⟨o,r⟩
 ·exact x a u r
 ·obtain⟨_,q⟩:=x a _ r
  exact q
def O5:Option HO->Prop
 | some (.lst _)=>True
 | some (.dK _)=>True
 | some (.dT _)=>True
 | some (.set _ _)=>True
 | some (.ins _ _ _)=>True
 | some (.ext _)=>True
 | _=>False
section
variable {P:Program}{w:World}{H:Hp}{h h':Heap}{x e:Addr}{o':HO}
theorem kH.write (ok:kH P w H h) (mu:O5 (H x)) (he:e=x\/H e=some (.own x)) (k:∀b u,b≠e->h.get? b=some u->h'.get? b=some u) (heo:∃u,h'.get? e=some u)
  (new:cH P w (upd H x o') h' x o'):kH P w (upd H x o') h':=fun b u q=>by
 have nown:∀c y,H c=some (.own y)->c≠x:=fun c y r z=>by subst z;rw[r]at mu;exact mu
 have ntup:∀c xs,H c=some (.tup xs)->c≠x:=fun c xs r z=>by subst z;rw[r]at mu;exact mu
 by_cases hb:b=x
 ·subst hb;rw[aA]at q;cases q;exact new
 ·rw[az hb]at q
  by_cases hbe:b=e
  ·have q':H b=some (.own x):=by
    rcases he with z|z
    ·exact absurd (hbe.trans z) hb
    ·rw[hbe];exact z
   rw[q]at q';cases q'
   obtain⟨v,hv⟩:=heo
   exact⟨v,by rw[hbe];exact hv⟩
  ·refine(ok b u q).stay (fun c v hc r=>k c v ?_ r) (fun c r=>by rw[az (nown c b r)];exact r) fun c xs r=>by rw[az (ntup c xs r)];exact r
   rcases hc with rfl|hc
   ·exact hbe
   ·rintro rfl
    rcases he with z|z
    ·exact nown c b hc z
    ·rw[hc]at z;cases z;exact hb rfl
end
structure Un (fs ex:List Addr) (H H':Hp) (h h':Heap):Prop where
 keep:∀b o,h.get? b=some o->H b=none->b∉fs->b∉ex->h'.get? b=some o
 slot:∀b o,h.get? b=some o->H b=none->b∈fs->b∉ex->∃sl,h'.get? b=some { o with slots:=sl }
 free:∀b o,h.get? b=some o->H b=none->b∉ex->H' b=none
 there:∀b o,h.get? b=some o->b∉ex->∃o',h'.get? b=some o'
 tups:∀b xs,H b=some (.tup xs)->H' b=some (.tup xs)
 frzs:∀b o u,H b=some (.frz o u)->H' b=some (.frz o u)
 tbls:∀b ps,H b=some (.tbl ps)->∃more,H' b=some (.tbl (ps++more))
section
variable {fs fs' ex ex':List Addr}{H H1 H2:Hp}{h h1 h2 h':Heap}{a x e:Addr}{o:HO}
theorem Un.any (u:Un fs ex H H1 h h1) {b:Addr}{ob:Obj}(q:h.get? b=some ob) (n:H b=none) (hx:b∉ex):∃sl,h1.get? b=some { ob with slots:=sl }:=by
 by_cases hb:b∈fs
 ·exact u.slot b ob q n hb hx
 ·exact⟨ob.slots,u.keep b ob q n hb hx⟩
theorem Un.kept (k:∀b u,h.get? b=some u->h'.get? b=some u):Un fs ex H H h h' :=
 ⟨fun b ob q _ _ _=>k b ob q,fun b ob q _ _ _=>⟨ob.slots,k b ob q⟩,fun _ _ _ n _=>n,fun b ob q _=>⟨ob,k b ob q⟩,fun _ _ q=>q,fun _ _ _ q=>q,fun _ ps q=>⟨#[],by rw[q];simp⟩⟩
theorem Un.refl:Un fs ex H H h h:=Un.kept fun _ _ q=>q
theorem Un.laid (k:∀b u,h.get? b=some u->h'.get? b=some u) (hp:h.objs.size<=a) (hn:H a=none):Un fs ex H (upd H a o) h h' where
 keep:=fun b u q _ _ _=>k b u q
 slot:=fun b u q _ _ _=>⟨u.slots,k b u q⟩
 free:=fun b u q n _=>by rw[az (Nat.ne_of_lt (Nat.lt_of_lt_of_le (Heap.lt_size q) hp))];exact n
 there:=fun b u q _=>⟨u,k b u q⟩
 tups:=fun b xs q=>by rw[az (ay q hn)];exact q
 frzs:=fun b u xs q=>by rw[az (ay q hn)];exact q
 tbls:=fun b ps q=>⟨#[],by rw[az (ay q hn),q];simp⟩
theorem Un.write (mu:O5 (H x)) (he:e=x\/H e=some (.own x)) (k:∀b u,b≠e->h.get? b=some u->h'.get? b=some u) (heo:∃u,h'.get? e=some u):Un fs ex H (upd H x o) h h':=by
 have hx:∀b,H b=none->b≠x:=fun b n z=>by subst z;rw[n]at mu;exact mu
 have hb:∀b,H b=none->b≠e:=fun b n z=>by
  subst z
  rcases he with r|r
  ·exact hx b n r
  ·rw[n]at r;cases r
 have hm:∀b u,H b=some u->¬ O5 (some u)->b≠x:=fun b u q nm z=>by subst z;rw[q]at mu;exact nm mu
 refine⟨fun b u q n _ _=>k b u (hb b n) q,fun b u q n _ _=>⟨u.slots,k b u (hb b n) q⟩,fun b u q n _=>by rw[az (hx b n)];exact n,fun b u q _=>?_,
  fun b xs q=>by rw[az (hm b _ q fun z=>z)];exact q,fun b u xs q=>by rw[az (hm b _ q fun z=>z)];exact q,fun b ps q=>⟨#[],by rw[az (hm b _ q fun z=>z),q];simp⟩⟩
 by_cases hbe:b=e
 ·subst hbe;exact heo
 ·exact⟨u,k b u hbe q⟩
end
def QW (h:Heap) (H:Hp):List Addr:=(List.range h.objs.size).filter fun a=>(H a).isSome
def uQ (h:Heap) (H:Hp):Heap:=PySem.W.hideAll h (QW h H)
theorem BN (h:Heap) (H:Hp):(uQ h H).objs.size=h.objs.size:=PySem.W.hideAll_size _ _
theorem Di {h:Heap}{H:Hp}{b:Addr}{o:Obj}(e:h.get? b=some o) (n:H b=none):(uQ h H).get? b=some o :=
 PySem.W.hideAll_get _ e fun hm=>by
  have q:(H b).isSome=true:=(List.mem_filter.mp hm).2
  rw[n]at q;simp at q
theorem Hs {h:Heap}{H:Hp}{b:Addr}{o:Obj}(e:(uQ h H).get? b=some o):h.get? b=some o/\H b=none:=by
 have e':h.get? b=some o:=PySem.W.of_hideAll (QW h H) e
 refine⟨e',?_⟩
 cases q:H b with
 | none=>rfl
 | some x =>
  have hm:b∈QW h H:=List.mem_filter.mpr ⟨List.mem_range.mpr (Heap.lt_size e'),by simp[q]⟩
  have z:(uQ h H).get? b=none:=PySem.W.hideAll_none (QW h H) hm
  rw[z]at e;cases e
def KA (g h:Heap) (L:Addr):List (Addr×Obj):=(List.range h.objs.size).filterMap fun a=>if a=L \/(g.get? a).isSome=true then none else(h.get? a).map fun o=>(a,o)
def rest (g h:Heap) (L d:Addr):List (Addr×Obj):=(KA g h L).filter fun p=>decide (p.1≠d)
structure Mod (K:W.Frag) (mg:Str->Option Value) (base:Heap):Prop where
 kin:K.In base
 glob:base.Ns mainGlobals mg
 blt:∃mb,base.Ns builtinsNs mb/\∀x:Str,x ≠ "__name__"->mb x=bootBuiltins x
 nolimit:base.NoLimit
structure Cx where
 prog:Program
 w:World
 K:W.Frag
 mg:Str->Option Value
 base:Heap
 A:Around
 N:List Str
 s₀:Shared
 H₀:Hp
 env:Env
 outer:List Env
 stack:List Env
 ex:List Addr
 fn:Str->Bool
 calm:Bool
 pn:List (Addr×Obj)
 xe:Value->Shared->Prop
def frs (l:List Env):List Addr:=l.filterMap (·.frame)
abbrev Cx.fs (X:Cx):List Addr:=frs X.outer
def O2 (sc:Scope) (x:Str):Prop:=sc.names.lookup x=some .local\/sc.names.lookup x=some .cell\/sc.names.lookup x=some .free
def Loc (sc:Scope) (x:Str):Prop:=sc.names.lookup x=some .local\/sc.names.lookup x=some .cell
def Look (env:Env) (h:Heap) (m:Str->Option Value) (x:Str) (u:Value):Prop :=
 (env.kindOf x=some .local/\m x=some u) \/((env.kindOf x=some .cell\/env.kindOf x=some .free)/\∃c,env.cells.lookup x=some c/\h.IsCell c (some u))
structure Cx.Ok (X:Cx):Prop where
 mod:Mod X.K X.mg X.base
 kind:X.env.scope.kind = .function
 glob:X.env.globals=mainGlobals
 blt:X.env.builtins=builtinsNs
 above:X.s₀.heap.objs.size<=X.env.locals
 inj:∀x y c,X.env.cells.lookup x=some c->X.env.cells.lookup y=some c->x=y
 has:∀x,(X.env.kindOf x=some .cell\/X.env.kindOf x=some .free)->∃c,X.env.cells.lookup x=some c
 cab:∀x c,X.fn x=true->X.env.cells.lookup x=some c->X.s₀.heap.objs.size<=c
 hd:X.calm=true->X.A.handled=none
 frames:X.A.frames=some X.stack
 stk:X.stack=X.outer \/(X.stack=X.env::X.outer/\X.env.frame=some X.env.locals)
 exf:∀b∈X.ex,b≠X.env.locals/\∀x c,X.env.cells.lookup x=some c->c≠b
 bs:∀b o,X.base.get? b=some o->X.s₀.heap.get? b=some o/\X.H₀ b=none
 bsz:X.base.objs.size<=X.s₀.heap.objs.size
 noex:∀b o,X.base.get? b=some o->b∉X.ex
 exfs:∀b∈X.ex,b∉X.fs
 funs:X.s₀.heap.FunFrames X.base X.outer
 frf:∀b∈X.fs,X.H₀ b=none
structure Inv (X:Cx) (pins:List (Addr×Obj)) (σ:List (Option V)) (H:Hp) (s:Shared):Prop where
 ok:X.Ok
 os:s.os=X.s₀.os
 bare:AllBare s.gens
 base:Un X.fs X.ex X.H₀ H X.s₀.heap s.heap
 loc:∃m,s.heap.Ns X.env.locals m/\∀(i:Nat) (x:Str) (v:V),X.N[i]? = some x->σ[i]? = some (some v)->O2 X.env.scope x->∃u,RelV v u/\Look X.env s.heap m x u
 cell:∀x c,X.env.cells.lookup x=some c->∃v,s.heap.IsCell c v
 free:H X.env.locals=none
 freeC:∀x c,X.env.cells.lookup x=some c->H c=none
 pin:∀p∈X.pn++pins,s.heap.get? p.1=some p.2/\H p.1=none/\p.1≠X.env.locals/\p.1∉X.fs/\∀v,p.2.data ≠ .cell v
 hok:kH X.prog X.w H s.heap
 len:σ.length=X.N.length
section
variable {X:Cx}{pins:List (Addr×Obj)}{σ:List (Option V)}{H H':Hp}{s:Shared}{h':Heap}
theorem Cx.Ok.nofr (ok:X.Ok) {b:Addr}{o:Obj}(e:X.base.get? b=some o):b∉X.fs:=fun hb=>by
 have:=(ok.funs.mem hb).1
 rw[e]at this;cases this
theorem Inv.bs (I:Inv X pins σ H s):∀b o,X.base.get? b=some o->s.heap.get? b=some o/\H b=none:=fun b o e =>
 ⟨I.base.keep b o (I.ok.bs b o e).1 (I.ok.bs b o e).2 (I.ok.nofr e) (I.ok.noex b o e),I.base.free b o (I.ok.bs b o e).1 (I.ok.bs b o e).2 (I.ok.noex b o e)⟩
theorem Inv.bk (I:Inv X pins σ H s):∀b o,X.base.get? b=some o->s.heap.get? b=some o:=fun b o e=>(I.bs b o e).1
theorem Inv.mod (I:Inv X pins σ H s):Mod X.K X.mg X.base:=I.ok.mod
theorem Inv.kIn (I:Inv X pins σ H s):X.K.In s.heap:=I.ok.mod.kin.keeps I.bk
theorem Inv.lt (I:Inv X pins σ H s):X.env.locals<s.heap.objs.size:=let ⟨_,hn,_⟩:=I.loc;hn.lt
theorem Inv.sz (I:Inv X pins σ H s):X.s₀.heap.objs.size<=s.heap.objs.size:=Nat.le_trans I.ok.above (Nat.le_of_lt I.lt)
theorem Inv.nofs (I:Inv X pins σ H s) {a:Addr}(h:s.heap.objs.size<=a):a∉X.fs:=fun hb=>by
 obtain⟨_,o,ho,_⟩:=I.ok.funs.mem hb
 exact absurd (Nat.lt_of_lt_of_le (Heap.lt_size ho) (Nat.le_trans I.sz h)) (Nat.lt_irrefl _)
theorem Inv.cne (I:Inv X pins σ H s):∀x c,X.env.cells.lookup x=some c->c≠X.env.locals:=fun x c e z=>by
 obtain⟨v,o,ho,hd⟩:=I.cell x c e
 obtain⟨m,⟨o',es,ep,ho',hd',_⟩,_⟩:=I.loc
 rw[z,ho']at ho;cases ho;rw[hd']at hd;cases hd
theorem Inv.funs (I:Inv X pins σ H s):s.heap.FunFrames X.base X.outer:=by
 have all:∀(l:List Env),(∀b∈frs l,b∈X.fs)->X.s₀.heap.FunFrames X.base l->s.heap.FunFrames X.base l:=by
  intro l
  induction l with
  | nil=>intro _ _;trivial
  | cons env r ih =>
   intro hs hl
   obtain⟨hk,⟨L,o,hf,hn,ho,hd⟩,hr⟩:=hl
   have hL:L∈X.fs:=hs L (by unfold frs;rw[List.filterMap_cons,hf];exact List.mem_cons_self)
   obtain⟨sl,e⟩:=I.base.slot L o ho (I.ok.frf L hL) hL fun z=>I.ok.exfs L z hL
   exact⟨hk,⟨L,_,hf,hn,e,hd⟩,ih (fun b hb=>hs b (by unfold frs;rw[List.filterMap_cons,hf];exact List.mem_cons_of_mem _ hb)) hr⟩
 exact all X.outer (fun _ hb=>hb) I.ok.funs
theorem Inv.stack (I:Inv X pins σ H s):s.heap.FunFrames X.base X.stack:=by
 rcases I.ok.stk with e|⟨e,hf⟩
 ·rw[e];exact I.funs
 ·rw[e]
  obtain⟨m,hn,_⟩:=I.loc
  refine .cons (by rw[I.ok.kind];decide) hf hn ?_ I.funs
  exact Heap.get?_none_of_le (Nat.le_trans I.ok.bsz I.ok.above)
theorem Inv.stkSub (I:Inv X pins σ H s):∀b∈frs X.stack,b∈X.env.locals::X.fs:=fun b hb=>by
 rcases I.ok.stk with e|⟨e,hf⟩
 ·rw[e]at hb;exact List.mem_cons_of_mem _ hb
 ·rw[e]at hb
  unfold frs at hb
  rw[List.filterMap_cons,hf]at hb
  exact hb
theorem Inv.stkFree (I:Inv X pins σ H s):∀b∈frs X.stack,H b=none:=fun b hb=>by
 rcases List.mem_cons.mp (I.stkSub b hb) with e|hb
 ·rw[e];exact I.free
 ·obtain⟨_,o,ho,_⟩:=I.ok.funs.mem hb
  exact I.base.free b o ho (I.ok.frf b hb) fun z=>I.ok.exfs b z hb
theorem Inv.step {g':Array GenState}{t':Nat}{d':Drawn}{ch:List Addr}(I:Inv X pins σ H s)
  (hch:∀b∈ch,(b∈X.ex\/X.s₀.heap.objs.size<=b)/\b≠X.env.locals/\(∀x c,X.env.cells.lookup x=some c->c≠b)/\∀p∈X.pn++pins,p.1≠b)
  (keep:∀b o,b≠X.env.locals->b∉X.fs->b∉ch->s.heap.get? b=some o->H b=none->h'.get? b=some o)
  (slot:∀b o,b≠X.env.locals->b∈X.fs->b∉ch->s.heap.get? b=some o->H b=none->∃sl,h'.get? b=some { o with slots:=sl }) (free:∀b o,b∉ch->s.heap.get? b=some o->H b=none->H' b=none)
  (there:∀b o,b∉ch->s.heap.get? b=some o->∃o',h'.get? b=some o')
  (tups:∀b xs,H b=some (.tup xs)->H' b=some (.tup xs)) (frzs:∀b o u,H b=some (.frz o u)->H' b=some (.frz o u)) (tbls:∀b ps,H b=some (.tbl ps)->∃more,H' b=some (.tbl (ps++more)))
  (ns:∀m,s.heap.Ns X.env.locals m->h'.Ns X.env.locals m) (hok:kH X.prog X.w H' h') (hg:AllBare g') :
  Inv X pins σ H' { s with heap:=h',gens:=g',drawn:=d',toks:=t' }:=by
 have neL:∀b o,X.s₀.heap.get? b=some o->b≠X.env.locals:=fun b o e=>Nat.ne_of_lt (Nat.lt_of_lt_of_le (Heap.lt_size e) I.ok.above)
 have neC:∀b o,X.s₀.heap.get? b=some o->b∉X.ex->b∉ch:=fun b o e hx hb=>by
  rcases(hch b hb).1 with z|z
  ·exact hx z
  ·exact absurd (Nat.lt_of_lt_of_le (Heap.lt_size e) z) (Nat.lt_irrefl _)
 have cellK:∀x c,X.env.cells.lookup x=some c->∀v,s.heap.IsCell c v->h'.IsCell c v:=fun x c e v ⟨o,ho,hd⟩=>by
  have nch:c∉ch:=fun z=>(hch c z).2.2.1 x c e rfl
  by_cases hc:c∈X.fs
  ·obtain⟨sl,q⟩:=slot c o (I.cne x c e) hc nch ho (I.freeC x c e)
   exact⟨_,q,hd⟩
  ·exact⟨o,keep c o (I.cne x c e) hc nch ho (I.freeC x c e),hd⟩
 refine⟨I.ok,I.os,hg,⟨fun b o e n hb hx=>?_,fun b o e n hb hx=>?_,fun b o e n hx=>?_,fun b o e hx=>?_,fun b xs e=>tups b xs (I.base.tups b xs e),fun b o xs e=>frzs b o xs (I.base.frzs b o xs e),fun b ps e=>?_⟩,?_,fun x c e=>?_,?_,fun x c e=>?_,fun p hp=>?_,hok,I.len⟩
 ·exact keep b o (neL b o e) hb (neC b o e hx) (I.base.keep b o e n hb hx) (I.base.free b o e n hx)
 ·obtain⟨sl,e1⟩:=I.base.slot b o e n hb hx
  obtain⟨sl',e2⟩:=slot b _ (neL b o e) hb (neC b o e hx) e1 (I.base.free b o e n hx)
  exact⟨sl',e2⟩
 ·obtain⟨o',e1⟩:=I.base.there b o e hx
  exact free b o' (neC b o e hx) e1 (I.base.free b o e n hx)
 ·obtain⟨o',e1⟩:=I.base.there b o e hx
  exact there b o' (neC b o e hx) e1
 ·obtain⟨m1,e1⟩:=I.base.tbls b ps e
  obtain⟨m2,e2⟩:=tbls b _ e1
  exact⟨m1++m2,by rw[e2,Array.append_assoc]⟩
 ·obtain⟨m,hn,hl⟩:=I.loc
  refine⟨m,ns m hn,fun i x v e1 e2 e3=>?_⟩
  obtain⟨u,r,l⟩:=hl i x v e1 e2 e3
  refine⟨u,r,?_⟩
  rcases l with l|⟨k,c,e,z⟩
  ·exact .inl l
  ·exact .inr ⟨k,c,e,cellK x c e _ z⟩
 ·obtain⟨v,z⟩:=I.cell x c e
  exact⟨v,cellK x c e v z⟩
 ·obtain⟨m,⟨o,_,_,ho,_⟩,_⟩:=I.loc
  exact free _ o (fun z=>(hch _ z).2.1 rfl) ho I.free
 ·obtain⟨v,o,ho,hd⟩:=I.cell x c e
  exact free c o (fun z=>(hch c z).2.2.1 x c e rfl) ho (I.freeC x c e)
 ·obtain⟨e,n,ne,nf,d⟩:=I.pin p hp
  have nch:p.1∉ch:=fun z=>(hch p.1 z).2.2.2 p hp rfl
  exact⟨keep p.1 p.2 ne nf nch e n,free p.1 p.2 nch e n,ne,nf,d⟩
theorem Inv.un {t':Nat}(I:Inv X pins σ H s) (u:Un X.fs [] H H' s.heap h') (hok:kH X.prog X.w H' h'):Inv X pins σ H' { s with heap:=h',toks:=t' }:=by
 obtain⟨m,⟨o,es,ep,ho,r⟩,_⟩:=id I.loc
 obtain⟨sl,hL⟩:=u.any ho I.free (by simp)
 exact I.step (g':=s.gens) (d':=s.drawn) (ch:=[]) (fun _ z=>nomatch z) (fun b o _ hb _ e n=>u.keep b o e n hb (by simp)) (fun b o _ hb _ e n=>u.slot b o e n hb (by simp)) (fun b o _ e n=>u.free b o e n (by simp)) (fun b o _ e=>u.there b o e (by simp)) u.tups u.frzs u.tbls (fun m' hm=>by
  obtain⟨o',es',ep',ho',r'⟩:=hm
  rw[ho]at ho';cases ho'
  exact⟨_,es',ep',hL,r'⟩) hok I.bare
theorem Inv.call {g':Array GenState}{t':Nat}{d':Drawn}{ch:List Addr}(I:Inv X pins σ H s) (u:Un (frs X.stack) ch H H' s.heap h') (hok:kH X.prog X.w H' h') (hg:AllBare g')
  (hch:∀b∈ch,(b∈X.ex\/X.s₀.heap.objs.size<=b)/\b≠X.env.locals/\(∀x c,X.env.cells.lookup x=some c->c≠b)/\∀p∈X.pn++pins,p.1≠b) :
  Inv X pins σ H' { s with heap:=h',gens:=g',drawn:=d',toks:=t' }:=by
 obtain⟨m,⟨o,es,ep,ho,r⟩,_⟩:=id I.loc
 obtain⟨sl,hL⟩:=u.any ho I.free fun z=>(hch _ z).2.1 rfl
 exact I.step (ch:=ch) hch (fun b o hL hb hc e n=>u.keep b o e n (fun z=>(List.mem_cons.mp (I.stkSub b z)).elim hL hb) hc) (fun b o _ _ hc e n=>u.any e n hc) (fun b o hc e n=>u.free b o e n hc) (fun b o hc e=>u.there b o e hc) u.tups u.frzs u.tbls (fun m' hm=>by
  obtain⟨o',es',ep',ho',r'⟩:=hm
  rw[ho]at ho';cases ho'
  exact⟨_,es',ep',hL,r'⟩) hok hg
theorem Inv.turned {t':Nat}{it:Addr}(I:Inv X pins σ H s) (k:∀b o,b≠it->s.heap.get? b=some o->h'.get? b=some o) (hn:H it=none) (hL:it≠X.env.locals)
  (h1:it∈X.ex\/X.s₀.heap.objs.size<=it) (h2:∀x c,X.env.cells.lookup x=some c->c≠it) (h3:∀p∈X.pn++pins,p.1≠it):Inv X pins σ H { s with heap:=h',toks:=t' }:=by
 have nit:∀b u,H b=some u->b≠it:=fun b u e z=>by rw[z,hn]at e;cases e
 refine I.step (g':=s.gens) (d':=s.drawn) (ch:=[it]) (fun b hb=>?_) (fun b o _ _ hc e _=>k b o (fun z=>hc (by simp[z])) e) (fun b o _ _ hc e _=>⟨o.slots,k b o (fun z=>hc (by simp[z])) e⟩) (fun _ _ _ _ n=>n)
  (fun b o hc e=>⟨o,k b o (fun z=>hc (by simp[z])) e⟩) (fun _ _ e=>e) (fun _ _ _ e=>e) (fun b ps e=>⟨#[],by rw[e];simp⟩) (fun m hm=>?_) (fun b u e=>?_) I.bare
 ·have e:b=it:=by simpa using hb
  subst e
  exact⟨h1,hL,h2,h3⟩
 ·obtain⟨o,es,ep,ho,r⟩:=hm
  exact⟨o,es,ep,k _ o (Ne.symm hL) ho,r⟩
 ·refine(I.hok b u e).stay (fun c v hc q=>k c v ?_ q) (fun _ q=>q) fun _ _ q=>q
  rcases hc with z|z
  ·rw[z];exact nit b u e
  ·exact nit c _ z
theorem Inv.tok (I:Inv X pins σ H s) (t:Nat):Inv X pins σ H { s with toks:=t }:=I.un (h':=s.heap) (t':=t) Un.refl I.hok
theorem Inv.kept {t':Nat}(I:Inv X pins σ H s) (k:∀b u,s.heap.get? b=some u->h'.get? b=some u):Inv X pins σ H { s with heap:=h',toks:=t' }:=I.un (Un.kept k) (I.hok.kept k)
theorem Inv.laid {a:Addr}{o:HO}{t':Nat}(I:Inv X pins σ H s) (k:∀b u,s.heap.get? b=some u->h'.get? b=some u) (hp:s.heap.objs.size<=a) (new:cH X.prog X.w (upd H a o) h' a o) :
  Inv X pins σ (upd H a o) { s with heap:=h',toks:=t' }:=I.un (Un.laid k hp (I.hok.fresh hp)) (I.hok.laid k hp new)
theorem Inv.write {x e:Addr}{o:HO}{t':Nat}(I:Inv X pins σ H s) (mu:O5 (H x)) (he:e=x\/H e=some (.own x)) (k:∀b u,b≠e->s.heap.get? b=some u->h'.get? b=some u) (heo:∃u,h'.get? e=some u)
  (new:cH X.prog X.w (upd H x o) h' x o):Inv X pins σ (upd H x o) { s with heap:=h',toks:=t' }:=I.un (Un.write mu he k heo) (I.hok.write mu he k heo new)
theorem Inv.pins_of {pins':List (Addr×Obj)}(I:Inv X pins σ H s) (h:∀p∈pins',s.heap.get? p.1=some p.2/\H p.1=none/\p.1≠X.env.locals/\p.1∉X.fs/\∀v,p.2.data ≠ .cell v):Inv X pins' σ H s :=
 ⟨I.ok,I.os,I.bare,I.base,I.loc,I.cell,I.free,I.freeC,fun p hp=>(List.mem_append.mp hp).elim (fun z=>I.pin p (List.mem_append_left _ z)) (h p),I.hok,I.len⟩
theorem rE {N:List Str}(hN:N.Nodup) {i j:Nat}{x:Str}(a:N[i]? = some x) (b:N[j]? = some x):i=j:=by
 obtain⟨h1,e1⟩:=List.getElem?_eq_some_iff.mp a
 obtain⟨h2,e2⟩:=List.getElem?_eq_some_iff.mp b
 exact(List.getElem_inj hN).mp (e1.trans e2.symm)
theorem uv {M:Model}{A:Around}{E:Value->Shared->Prop}{i:Nat}{x:Str}{v:V}{u:Value}{Q:Unit->Shared->Prop}(I:Inv X pins σ H s) (hN:X.N.Nodup) (hi:X.N[i]? = some x) (hx:Loc X.env.scope x) (r:RelV v u)
  (h:∀s',Inv X pins (σ.set i (some v)) H s'->(∃a,Heap.SameBut a s.heap s'.heap/\(a=X.env.locals\/X.env.cells.lookup x=some a))->Q () s') (hf:X.fn x=true\/X.env.scope.names.lookup x=some .local:=by first|exact .inl rfl|exact .inr rfl|assumption):wpAny M A (storeName X.env x u) Q E s:=by
 obtain⟨m,hn,hl⟩:=id I.loc
 have hcls:(X.env.scope.kind == .class || (X.env.scope.kind == .module && X.env.locals != X.env.globals))=false:=by rw[I.ok.kind];rfl
 have hiσ:i<σ.length:=by rw[I.len];exact(List.getElem?_eq_some_iff.mp hi).1
 have cne:=I.cne
 have tracked:∀{a:Addr}{h':Heap},(∃o,s.heap.get? a=some o/\H a=none)->Heap.SameBut a s.heap h'->kH X.prog X.w H h':=fun {a h'} ha hs b ob e=>by
  obtain⟨_,_,hfree⟩:=ha
  refine(I.hok b ob e).stay (fun c w' hc q=>(hs.2 c ?_).trans q) (fun _ q=>q) fun _ _ q=>q
  rintro rfl
  rcases hc with rfl|hc
  ·rw[hfree]at e;cases e
  ·rw[hfree]at hc;cases hc
 rcases hx with hk|hk
 ·refine wpAny_storeName_local hk hn (fun h' hn' hs=>?_) hcls
  obtain⟨oL,_,_,hoL,_⟩:=id hn
  refine h _ ⟨I.ok,I.os,I.bare,⟨fun b o e n hb hx=>?_,fun b o e n hb hx=>?_,I.base.free,fun b o e hx=>?_,I.base.tups,I.base.frzs,I.base.tbls⟩,⟨_,hn',fun j y v' e1 e2 e3=>?_⟩,fun y c e=>?_,I.free,I.freeC,fun p hp=>?_,tracked ⟨oL,hoL,I.free⟩ hs,by simpa using I.len⟩ ⟨_,hs,.inl rfl⟩
  ·exact(hs.2 b (Nat.ne_of_lt (Nat.lt_of_lt_of_le (Heap.lt_size e) I.ok.above))).trans (I.base.keep b o e n hb hx)
  ·obtain⟨sl,e1⟩:=I.base.slot b o e n hb hx
   exact⟨sl,(hs.2 b (Nat.ne_of_lt (Nat.lt_of_lt_of_le (Heap.lt_size e) I.ok.above))).trans e1⟩
  ·obtain⟨o',e1⟩:=I.base.there b o e hx
   exact⟨o',(hs.2 b (Nat.ne_of_lt (Nat.lt_of_lt_of_le (Heap.lt_size e) I.ok.above))).trans e1⟩
  ·by_cases hj:j=i
   ·subst hj
    rw[hi]at e1;cases e1
    rw[List.getElem?_set_self hiσ]at e2
    cases e2
    exact⟨u,r,.inl ⟨hk,by simp⟩⟩
   ·rw[List.getElem?_set_ne (Ne.symm hj)]at e2
    obtain⟨u',r',q⟩:=hl j y v' e1 e2 e3
    refine⟨u',r',?_⟩
    rcases q with⟨k,e⟩|⟨k,c,e,z⟩
    ·refine .inl ⟨k,?_⟩
     have:y≠x:=fun e=>hj (rE hN e1 (e ▸ hi))
     simp[this,e]
    ·exact .inr ⟨k,c,e,z.sameBut hs (cne y c e)⟩
  ·obtain⟨w',z⟩:=I.cell y c e
   exact⟨w',z.sameBut hs (cne y c e)⟩
  ·obtain⟨e,n,ne,nf,d⟩:=I.pin p hp
   exact⟨(hs.2 p.1 ne).trans e,n,ne,nf,d⟩
 ·have hfn:X.fn x=true:=by
   rcases hf with z|z
   ·exact z
   ·rw[z]at hk;cases hk
  obtain⟨c,hc⟩:=I.ok.has x (.inl hk)
  obtain⟨w',z⟩:=I.cell x c hc
  refine wpAny_storeName_cell I.ok.kind hk hc z (fun h' hc' hs=>?_)
  obtain⟨oc,hoc,hocd⟩:=id z
  refine h { s with heap:=h' } ⟨I.ok,I.os,I.bare,⟨fun b o e n hb hx=>?_,fun b o e n hb hx=>?_,I.base.free,fun b o e hx=>?_,I.base.tups,I.base.frzs,I.base.tbls⟩,⟨m,hn.sameBut hs (Ne.symm (cne x c hc)),fun j y v' e1 e2 e3=>?_⟩,fun y c' e=>?_,I.free,I.freeC,fun p hp=>?_,tracked ⟨oc,hoc,I.freeC x c hc⟩ hs,by simpa using I.len⟩ ⟨c,hs,.inr hc⟩
  ·exact(hs.2 b (Nat.ne_of_lt (Nat.lt_of_lt_of_le (Heap.lt_size e) (I.ok.cab x c hfn hc)))).trans (I.base.keep b o e n hb hx)
  ·obtain⟨sl,e1⟩:=I.base.slot b o e n hb hx
   exact⟨sl,(hs.2 b (Nat.ne_of_lt (Nat.lt_of_lt_of_le (Heap.lt_size e) (I.ok.cab x c hfn hc)))).trans e1⟩
  ·obtain⟨o',e1⟩:=I.base.there b o e hx
   exact⟨o',(hs.2 b (Nat.ne_of_lt (Nat.lt_of_lt_of_le (Heap.lt_size e) (I.ok.cab x c hfn hc)))).trans e1⟩
  ·by_cases hj:j=i
   ·subst hj
    rw[hi]at e1;cases e1
    rw[List.getElem?_set_self hiσ]at e2
    cases e2
    exact⟨u,r,.inr ⟨.inl hk,c,hc,hc'⟩⟩
   ·rw[List.getElem?_set_ne (Ne.symm hj)]at e2
    obtain⟨u',r',q⟩:=hl j y v' e1 e2 e3
    refine⟨u',r',?_⟩
    rcases q with q|⟨k,c',e,z'⟩
    ·exact .inl q
    ·refine .inr ⟨k,c',e,z'.sameBut hs ?_⟩
     rintro rfl
     exact hj (rE hN e1 (I.ok.inj _ _ _ e hc ▸ hi))
  ·by_cases hcc:c'=c
   ·subst hcc;exact⟨_,hc'⟩
   ·obtain⟨w2,z2⟩:=I.cell y c' e
    exact⟨w2,z2.sameBut hs hcc⟩
  ·obtain⟨e,n,ne,nf,d⟩:=I.pin p hp
   refine⟨(hs.2 p.1 ?_).trans e,n,ne,nf,d⟩
   intro q
   rw[q,hoc]at e
   have q':oc=p.2:=Option.some.inj e
   exact d w' (by rw[<- q'];exact hocd)
theorem mU {M:Model}{A:Around}{E:Value->Shared->Prop}{i:Nat}{x:Str}{v:V}{u:Value}{Q:Unit->Shared->Prop}(I:Inv X pins σ H s) (hN:X.N.Nodup) (hi:X.N[i]? = some x) (hx:Loc X.env.scope x) (r:RelV v u)
  (h:∀s',Inv X pins (σ.set i (some v)) H s'->Q () s') (hf:X.fn x=true\/X.env.scope.names.lookup x=some .local:=by first|exact .inl rfl|exact .inr rfl|assumption):wpAny M A (storeName X.env x u) Q E s :=
 uv I hN hi hx r (fun s' I' _=>h s' I') hf
theorem Inv.call' {s':Shared}{ch:List Addr}(I:Inv X pins σ H s) (ho:s'.os=s.os) (u:Un (frs X.stack) ch H H' s.heap s'.heap) (hok:kH X.prog X.w H' s'.heap) (hg:AllBare s'.gens)
  (hch:∀b∈ch,(b∈X.ex\/X.s₀.heap.objs.size<=b)/\b≠X.env.locals/\(∀x c,X.env.cells.lookup x=some c->c≠b)/\∀p∈X.pn++pins,p.1≠b):Inv X pins σ H' s':=by
 obtain⟨h',g',d',t',o'⟩:=s'
 have e:o'=s.os:=ho
 subst e
 exact I.call (g':=g') (t':=t') (d':=d') u hok hg hch
end
abbrev XK:=Value->Option Addr->Hp->Prop
abbrev St:=List (Option V)
abbrev VK:=V->Hp->Prop
abbrev TE:=St->Hp->VK->Prop
abbrev TT:=St->Hp->(Bool->Hp->Prop)->Prop
abbrev TA:=St->Hp->(List V->Hp->Prop)->Prop
structure Ends where
 nx:St->Hp->Prop
 rt:VK
 bk:St->Hp->Prop:=fun _ _=>False
 ct:St->Hp->Prop:=fun _ _=>False
abbrev TS:=Ends->St->Hp->Prop
def EP (X:Cx) (pins:List (Addr×Obj)) (σ:St) (Q:VK) (u:Value) (s':Shared):Prop:=∃v H',Inv X pins σ H' s'/\RelV v u/\Q v H'
def TP (X:Cx) (pins:List (Addr×Obj)) (σ:St) (Q:Bool->Hp->Prop) (b:Bool) (s':Shared):Prop:=∃H',Inv X pins σ H' s'/\Q b H'
def AP (X:Cx) (pins:List (Addr×Obj)) (σ:St) (Q:List V->Hp->Prop) (us:List Value) (s':Shared):Prop:=∃vs H',Inv X pins σ H' s'/\Vals vs us/\Q vs H'
def SP (X:Cx) (pins:List (Addr×Obj)) (D:Ends) (f:Flow) (s':Shared):Prop :=
 match f with
 | .next=>∃σ' H',Inv X pins σ' H' s'/\D.nx σ' H'
 | .brk=>∃σ' H',Inv X pins σ' H' s'/\D.bk σ' H'
 | .cont=>∃σ' H',Inv X pins σ' H' s'/\D.ct σ' H'
 | .ret u=>∃v σ' H',Inv X pins σ' H' s'/\RelV v u/\D.rt v H'
def PE (X:Cx) (e:Expr) (t:TE):Prop :=
 ∀(pins:List (Addr×Obj)) (s:Shared) (σ:St) (H:Hp) (Q:VK),Inv X pins σ H s->t σ H Q->wpAny (model X.prog X.w) X.A (eval e X.env) (EP X pins σ Q) X.xe s
def PT (X:Cx) (e:Expr) (t:TT):Prop :=
 ∀(pins:List (Addr×Obj)) (s:Shared) (σ:St) (H:Hp) (Q:Bool->Hp->Prop),Inv X pins σ H s->t σ H Q->wpAny (model X.prog X.w) X.A (isTrue e X.env (eval e X.env)) (TP X pins σ Q) X.xe s
def PW (X:Cx) (e:Expr) (t:TT):Prop :=
 ∀(whole:Sem Value) (pins:List (Addr×Obj)) (s:Shared) (σ:St) (H:Hp) (Q:Bool->Hp->Prop),Inv X pins σ H s->t σ H Q->wpAny (model X.prog X.w) X.A (isTrue e X.env whole) (TP X pins σ Q) X.xe s
theorem PW.pt {X:Cx}{e:Expr}{t:TT}(h:PW X e t):PT X e t:=h _
def PA (X:Cx) (es:List Expr) (t:TA):Prop :=
 ∀(pos:Pos) (pins:List (Addr×Obj)) (s:Shared) (σ:St) (H:Hp) (Q:List V->Hp->Prop),Inv X pins σ H s->t σ H Q->wpAny (model X.prog X.w) X.A (spliced (backTo pos (starEach es X.env))) (AP X pins σ Q) X.xe s
def PS (X:Cx) (st:Stmt) (t:TS):Prop :=
 ∀(pins:List (Addr×Obj)) (s:Shared) (σ:St) (H:Hp) (D:Ends),Inv X pins σ H s->t D σ H->wpAny (model X.prog X.w) X.A (exec st X.env) (SP X pins D) X.xe s
def o_ (X:Cx) (st:List Stmt) (t:TS):Prop :=
 ∀(pins:List (Addr×Obj)) (s:Shared) (σ:St) (H:Hp) (D:Ends),Inv X pins σ H s->t D σ H->wpAny (model X.prog X.w) X.A (execs st X.env) (SP X pins D) X.xe s
theorem bX {α:Type}{t:Sem α}{Q Q':α->Shared->Prop}{M:Model}{A:Around}{E:Value->Shared->Prop}{s:Shared}(h:wpAny M A t Q E s) (hQ:∀a s,Q a s->Q' a s):wpAny M A t Q' E s:=wpAny_mono h hQ fun _ _ x=>x
section
variable {X:Cx}
theorem bin {a b:Expr}{ta tb:TE}(ha:PE X a ta) (hb:PE X b tb) {pins:List (Addr×Obj)}{s:Shared}{σ:St}{H:Hp}{R:V->V->Hp->Prop}(I:Inv X pins σ H s) (h:ta σ H fun x H1=>tb σ H1 fun y H2=>R x y H2)
  {α:Type}{Q:α->Shared->Prop}{f:Value->Value->Sem α}
  (hf:∀v u s2 x y H2,Inv X pins σ H2 s2->RelV x v->RelV y u->R x y H2->wpAny (model X.prog X.w) X.A (f v u) Q X.xe s2) :
  wpAny (model X.prog X.w) X.A (eval a X.env) (fun v s₁=>wpAny (model X.prog X.w) X.A (eval b X.env) (fun u s₂=>wpAny (model X.prog X.w) X.A (f v u) Q X.xe s₂) X.xe s₁) X.xe s:=by
 refine bX (ha pins s σ H _ I h) fun v s1 ⟨x,H1,I1,r1,q1⟩=>?_
 refine bX (hb pins s1 σ H1 _ I1 q1) fun u s2 ⟨y,H2,I2,r2,q2⟩=>?_
 exact hf v u s2 x y H2 I2 r1 r2 q2
def MZ (i:Nat):TE:=fun σ H Q=>∃v,σ[i]? = some (some v)/\Q v H
def tC (v:V):TE:=fun _ H Q=>Q v H
theorem NZ {i:Nat}{x:Str}{pos:Pos}(hN:X.N[i]? = some x) (hv:O2 X.env.scope x) (hd:(x ==("__debug__" : Str))=false:=by decide) (hcd:(x ==("__classdict__" : Str))=false:=by decide):PE X (.Name x pos) (MZ i):=by
 intro pins s σ H Q I h
 obtain⟨v,e,h⟩:=h
 obtain⟨m,hn,hl⟩:=I.loc
 obtain⟨u,r,l⟩:=hl i x v hN e hv
 have fin:EP X pins σ Q u s:=⟨v,H,I,r,h⟩
 rcases l with⟨hk,hm⟩|⟨hk,c,hc,hcell⟩
 ·exact wpAny_Name (wpAny_loadName_local I.ok.kind hk hn hm fin) hd
 ·rcases hk with hk|hk
  ·exact wpAny_Name (wpAny_loadName_cell I.ok.kind hk hc hcell fin) hd
  ·exact wpAny_Name (wpAny_loadName_free I.ok.kind hk hc hcell fin hcd) hd
theorem au {i j pos}:PE X (.Constant (.int i) j pos) (tC (.int i)):=fun _ _ _ H _ I h=>wpAny_Constant_int ⟨.int i,H,I.tok _,⟨_,rfl⟩,h⟩
theorem fZ {b j pos}:PE X (.Constant (.bool b) j pos) (tC (.bl b)):=fun _ _ _ H _ I h=>Constant_bool ⟨.bl b,H,I,rfl,h⟩
theorem fq {j pos}:PE X (.Constant .none j pos) (tC .non):=fun _ _ _ H _ I h=>Constant_none ⟨.non,H,I,rfl,h⟩
theorem aW {x j pos}:PE X (.Constant (.str x) j pos) (tC (.str x)):=fun _ _ _ H _ I h=>Calls.Constant_str ⟨.str x,H,I.tok _,⟨_,rfl⟩,h⟩
def Gl (X:Cx) (x:Str):Prop:=X.env.kindOf x=some .globalImplicit
theorem pD {E:Value->Shared->Prop}{pins:List (Addr×Obj)}{s:Shared}{σ:St}{H:Hp}{x:Str}{u:Value}{pos:Pos}{Q:Value->Shared->Prop}(I:Inv X pins σ H s) (hg:Gl X x) (hm:X.mg x=some u) (h:Q u s)
  (hd:(x ==("__debug__" : Str))=false:=by decide):wpAny (model X.prog X.w) X.A (eval (.Name x pos) X.env) Q E s :=
 Calls.Name_function_global I.ok.kind hg (Calls.loadGlobal_global (by rw[I.ok.glob];exact I.mod.glob.keeps I.bk) hm h) hd
theorem vf {E:Value->Shared->Prop}{pins:List (Addr×Obj)}{s:Shared}{σ:St}{H:Hp}{x:Str}{u:Value}{pos:Pos}{Q:Value->Shared->Prop}(I:Inv X pins σ H s) (hg:Gl X x) (hm:X.mg x=none) (hv:bootBuiltins x=some u) (h:Q u s)
  (hn:x ≠ "__name__" := by decide) (hd:(x ==("__debug__" : Str))=false:=by decide):wpAny (model X.prog X.w) X.A (eval (.Name x pos) X.env) Q E s:=by
 obtain⟨mb,h1,h2⟩:=I.mod.blt
 exact Calls.Name_function_global I.ok.kind hg (Calls.loadGlobal_builtin (by rw[I.ok.glob];exact I.mod.glob.keeps I.bk) hm (by rw[I.ok.blt];exact h1.keeps I.bk) ((h2 x hn).trans hv) h) hd
theorem eS {x:Str}{v:V}{u:Value}{pos:Pos}(hg:Gl X x) (hm:X.mg x=some u) (r:RelV v u) (hd:(x ==("__debug__" : Str))=false:=by decide):PE X (.Name x pos) (tC v) :=
 fun _ _ _ H _ I h=>pD I hg hm ⟨v,H,I,r,h⟩ hd
theorem j9 {x:Str}{v:V}{u:Value}{pos:Pos}(hg:Gl X x) (hm:X.mg x=none) (hv:bootBuiltins x=some u) (r:RelV v u) (hn:x ≠ "__name__" := by decide) (hd:(x ==("__debug__" : Str))=false:=by decide):PE X (.Name x pos) (tC v) :=
 fun _ _ _ H _ I h=>vf I hg hm hv ⟨v,H,I,r,h⟩ hn hd
variable {a b:Expr}{ta tb:TE}{pos:Pos}
def PC (X:Cx) (op:CmpOp) (a b:Expr) (t:TE):Prop :=
 ∀(pins:List (Addr×Obj)) (s:Shared) (σ:St) (H:Hp) (Q:VK),Inv X pins σ H s->t σ H Q ->
  wpAny (model X.prog X.w) X.A (eval a X.env) (fun v s₁=>wpAny (model X.prog X.w) X.A (eval b X.env) (fun u s₂=>wpAny (model X.prog X.w) X.A (compareOp op v u) (EP X pins σ Q) X.xe s₂) X.xe s₁) X.xe s
def tB (t:TE):TT:=fun σ H Q=>t σ H fun x H1=>∃c,x = .bl c/\Q c H1
theorem rG {op:CmpOp}{t:TE}(h:PC X op a b t) (h1:behindInMarks op b=false:=by first|exact nobehind _ (by decide) (by decide)|rfl):PT X (.Compare a [op] [b] pos) (tB t):=by
 intro pins s σ H Q I hw
 refine wpAny_isTrue_Compare1 (bX (h pins s σ H _ I hw) fun v s1 h1=>bX h1 fun u s2 h2=>bX h2 fun c s3 ⟨x,H1,I1,r1,q1⟩=>?_) h1
 obtain⟨d,rfl,q⟩:=q1
 cases r1
 exact wpAny_truthy_bool ⟨H1,I1,q⟩
theorem iA {e:Expr}{t:TE}(h:PE X e t) (he:∀whole,isTrue e X.env whole =(do let v <- whole;standAt e.pos;holding [v] (truthy v)):=by intro _;rfl):PT X e (tB t):=by
 intro pins s σ H Q I hw
 refine isTrue_plain (bX (h pins s σ H _ I hw) fun v s1 ⟨x,H1,I1,r1,q1⟩=>?_) (he _)
 obtain⟨d,rfl,q⟩:=q1
 cases r1
 exact wpAny_truthy_bool ⟨H1,I1,q⟩
variable {tA tB':TT}{rest:List Expr}
def PZ (t u:TT):TT:=fun σ H Q=>t σ H fun c H1=>if c=true then u σ H1 Q else Q false H1
def QU (t u:TT):TT:=fun σ H Q=>t σ H fun c H1=>if c=true then Q true H1 else u σ H1 Q
def Qw (t:TT):TT:=fun σ H Q=>t σ H fun c H1=>Q (!c) H1
theorem pF (ha:PT X a tA):PW X (.BoolOp .And [a] pos) tA:=by
 intro wh pins s σ H Q I h
 refine isTrue_and (bX (ha pins s σ H Q I h) fun c s1 e=>?_)
 cases c with
 | true=>exact isTrue_and_nil e
 | false=>exact e
theorem lu (ha:PT X a tA):PW X (.BoolOp .Or [a] pos) tA:=by
 intro wh pins s σ H Q I h
 refine isTrue_or (bX (ha pins s σ H Q I h) fun c s1 e=>?_)
 cases c with
 | false=>exact isTrue_or_nil e
 | true=>exact e
theorem vP (ha:PT X a tA) (hb:PW X (.BoolOp .And (b::rest) pos) tB'):PW X (.BoolOp .And (a::b::rest) pos) (PZ tA tB'):=by
 intro wh pins s σ H Q I h
 refine isTrue_and (bX (ha pins s σ H _ I h) fun c s1 ⟨H1,I1,q1⟩=>?_)
 cases c with
 | true=>exact hb wh pins s1 σ H1 Q I1 q1
 | false=>exact⟨H1,I1,q1⟩
theorem rg (ha:PT X a tA) (hb:PW X (.BoolOp .Or (b::rest) pos) tB'):PW X (.BoolOp .Or (a::b::rest) pos) (QU tA tB'):=by
 intro wh pins s σ H Q I h
 refine isTrue_or (bX (ha pins s σ H _ I h) fun c s1 ⟨H1,I1,q1⟩=>?_)
 cases c with
 | true=>exact⟨H1,I1,q1⟩
 | false=>exact hb wh pins s1 σ H1 Q I1 q1
theorem gI (ha:PT X a tA):PT X (.UnaryOp .Not a pos) (Qw tA):=by
 intro pins s σ H Q I h
 exact isTrue_not (ha pins s σ H (fun c H1=>Q (!c) H1) I h)
def Lv (ta tb:TE):TE:=fun σ H Q=>ta σ H fun x H1=>∃c,x = .bl c/\if c=true then tb σ H1 Q else Q (.bl false) H1
def K8 (ta:TE):TE:=fun σ H Q=>ta σ H fun x H1=>∃c,x = .bl c/\Q (.bl (!c)) H1
theorem pU {op}{t:TE}(h:PE X a t):PE X (.BoolOp op [a] pos) t:=fun pins s σ H Q I hw=>BoolOp_one (h pins s σ H Q I hw)
theorem ni (ha:PE X a ta) (hb:PE X (.BoolOp .And (b::rest) pos) tb):PE X (.BoolOp .And (a::b::rest) pos) (Lv ta tb):=by
 intro pins s σ H Q I h
 refine BoolOp_and (bX (ha pins s σ H _ I h) fun v s1 ⟨x,H1,I1,r1,q1⟩=>?_)
 obtain⟨c,rfl,q1⟩:=q1
 cases r1
 refine wpAny_truthy_bool ?_
 cases c with
 | true=>exact hb pins s1 σ H1 Q I1 q1
 | false=>exact⟨.bl false,H1,I1,rfl,q1⟩
theorem Ny (ha:PE X a ta):PE X (.UnaryOp .Not a pos) (K8 ta):=by
 intro pins s σ H Q I h
 refine UnaryOp_ (bX (ha pins s σ H _ I h) fun v s1 ⟨x,H1,I1,r1,q1⟩=>?_)
 obtain⟨c,rfl,q1⟩:=q1
 cases r1
 exact not_of (wpAny_truthy_bool ⟨.bl (!c),H1,I1,rfl,q1⟩)
end
def bN (K:W.Frag) (H:Hp) (a:Addr) (xs:List V):Prop :=
 Rd H a (.lst xs) \/
  ∃(o:Obj) (its:Array Value) (n:Nat),K.lookup a=some o/\o.cls = .type "list"/\o.dict=none/\o.data = .seq its n/\its.size<=sizeLine/\Vals xs its.toList
def oS (K:W.Frag) (H:Hp) (a:Addr) (xs:List V):Prop :=
 Rd H a (.tup xs) \/
  ∃(o:Obj) (its:Array Value) (n:Nat),K.lookup a=some o/\o.cls = .type "tuple"/\o.data = .seq its n/\its.size<=sizeLine/\Vals xs its.toList
def QE:Value->Option V
 | .none=>some .non
 | .bool b=>some (.bl b)
 | .int i _=>some (.int i)
 | .str x _=>some (.str x)
 | .bytes b _=>some (.byt b)
 | .float b _=>some (.flt b)
 | .ref a=>some (.ref a)
 | .type n=>some (.ty n)
 | _=>none
theorem RelV.abs {x:V}{u:Value}(r:RelV x u):QE u=some x:=by
 cases x with
 | non=>cases r;rfl
 | bl _=>cases r;rfl
 | int _=>obtain⟨t,rfl⟩:=r;rfl
 | str _=>obtain⟨t,rfl⟩:=r;rfl
 | byt _=>obtain⟨t,rfl⟩:=r;rfl
 | flt _=>obtain⟨t,rfl⟩:=r;rfl
 | ref _=>cases r;rfl
 | ty _=>cases r;rfl
theorem RelV.inj {x y:V}{u:Value}(r:RelV x u) (q:RelV y u):x=y:=Option.some.inj (r.abs.symm.trans q.abs)
theorem Vals.inj:∀{xs ys:List V}{us:List Value},Vals xs us->Vals ys us->xs=ys
 | _,_,_,.nil,.nil=>rfl
 | _,_,_,.cons r t,.cons r' t'=>by rw[r.inj r',Vals.inj t t']
section
variable {X:Cx}{pins:List (Addr×Obj)}{σ:St}{H:Hp}{s:Shared}{a:Addr}{xs ys:List V}
theorem bN.of {K:W.Frag}(h:H a=some (.lst xs)):bN K H a xs:=.inl (.inl h)
theorem oS.of {K:W.Frag}(h:H a=some (.tup xs)):oS K H a xs:=.inl (.inl h)
theorem Inv.list (I:Inv X pins σ H s) (h:bN X.K H a xs):∃its:List Value,Vals xs its/\PlainL s.heap a its.toArray/\xs.length<=sizeLine:=by
 rcases h with h|⟨o,its,n,hk,hc,hd,hs,hz,r⟩
 ·obtain⟨z,its,n,r,e⟩:=h.ok I.hok
  exact⟨its,r,⟨_,n,e,rfl,rfl,rfl⟩,z⟩
 ·refine⟨its.toList,r,⟨o,n,I.kIn a o hk,hc,hd,by simpa using hs⟩,?_⟩
  have e:=r.length
  simp only[Array.length_toList]at e
  omega
theorem Inv.tuple (I:Inv X pins σ H s) (h:oS X.K H a xs):∃its:List Value,Vals xs its/\IsTup s.heap a its.toArray/\xs.length<=sizeLine:=by
 rcases h with h|⟨o,its,n,hk,hc,hs,hz,r⟩
 ·obtain⟨z,its,r,p⟩:=h.ok I.hok
  exact⟨its,r,p,z⟩
 ·refine⟨its.toList,r,⟨o,I.kIn a o hk,hc,n,by simpa using hs⟩,?_⟩
  have e:=r.length
  simp only[Array.length_toList]at e
  omega
theorem Inv.list_inj (I:Inv X pins σ H s) (h:bN X.K H a xs) (h':bN X.K H a ys):xs=ys:=by
 obtain⟨its,r,⟨o,n,e,_,_,d⟩,_⟩:=I.list h
 obtain⟨its',r',⟨o',n',e',_,_,d'⟩,_⟩:=I.list h'
 rw[e]at e';cases e'
 rw[d]at d'
 injection d' with d1 _
 have:its=its':=by simpa using congrArg Array.toList d1
 subst this
 exact r.inj r'
end
abbrev Cx.wish (X:Cx) (E:Value->Shared->Prop):Cx:={ X with xe:=E }
abbrev Cx.nox (X:Cx):Cx:=X.wish fun _ _=>False
theorem Cx.Ok.wish {X:Cx}(ok:X.Ok) (E:Value->Shared->Prop):(X.wish E).Ok :=
 ⟨ok.mod,ok.kind,ok.glob,ok.blt,ok.above,ok.inj,ok.has,ok.cab,ok.hd,ok.frames,ok.stk,ok.exf,ok.bs,ok.bsz,ok.noex,ok.exfs,ok.funs,ok.frf⟩
theorem Cx.Ok.unwish {X:Cx}{E:Value->Shared->Prop}(ok:(X.wish E).Ok):X.Ok :=
 ⟨ok.mod,ok.kind,ok.glob,ok.blt,ok.above,ok.inj,ok.has,ok.cab,ok.hd,ok.frames,ok.stk,ok.exf,ok.bs,ok.bsz,ok.noex,ok.exfs,ok.funs,ok.frf⟩
section
variable {X:Cx}{pins:List (Addr×Obj)}{σ:St}{H:Hp}{s:Shared}{E:Value->Shared->Prop}
theorem Inv.wish (I:Inv X pins σ H s) (E:Value->Shared->Prop):Inv (X.wish E) pins σ H s:=⟨I.ok.wish E,I.os,I.bare,I.base,I.loc,I.cell,I.free,I.freeC,I.pin,I.hok,I.len⟩
theorem Inv.unwish (I:Inv (X.wish E) pins σ H s):Inv X pins σ H s:=⟨I.ok.unwish,I.os,I.bare,I.base,I.loc,I.cell,I.free,I.freeC,I.pin,I.hok,I.len⟩
theorem SP.unwish {D:Ends}{f:Flow}{s':Shared}(h:SP (X.wish E) pins D f s'):SP X pins D f s':=by
 cases f with
 | next=>obtain⟨σ',H',I,q⟩:=h;exact⟨σ',H',I.unwish,q⟩
 | brk=>obtain⟨σ',H',I,q⟩:=h;exact⟨σ',H',I.unwish,q⟩
 | cont=>obtain⟨σ',H',I,q⟩:=h;exact⟨σ',H',I.unwish,q⟩
 | ret u=>obtain⟨v,σ',H',I,r,q⟩:=h;exact⟨v,σ',H',I.unwish,r,q⟩
theorem o_.nox {st:List Stmt}{t:TS}(h:o_ X.nox st t):o_ X st t:=fun pins s σ H D I hw =>
 wpAny_mono (h pins s σ H D (I.wish _) hw) (fun _ _ q=>q.unwish) fun _ _ z=>False.elim z
end
section
variable {X:Cx}{st:Stmt}{rest:List Stmt}{t u:TS}{e:Expr}{te:TE}{pos:Pos}
def Lk:TS:=fun D σ H=>D.nx σ H
def Pu (t u:TS):TS:=fun D σ H=>t { D with nx:=u D } σ H
theorem aY:o_ X [] Lk:=fun _ _ σ H _ I h=>wpAny_execs_nil ⟨σ,H,I,h⟩
theorem ao (h1:PS X st t) (h2:o_ X rest u):o_ X (st::rest) (Pu t u):=by
 intro pins s σ H D I h
 refine wpAny_execs_cons (bX (h1 pins s σ H { D with nx:=u D } I h) fun f s1 q=>?_)
 cases f with
 | next =>
  obtain⟨σ',H',I',q⟩:=q
  exact h2 pins s1 σ' H' D I' q
 | ret v=>exact q
 | brk=>exact q
 | cont=>exact q
theorem av (h1:PS X st t):o_ X [st] t:=by
 intro pins s σ H D I h
 refine wpAny_execs_cons (bX (h1 pins s σ H D I h) fun f s1 q=>?_)
 cases f with
 | next=>exact wpAny_execs_nil q
 | ret v=>exact q
 | brk=>exact q
 | cont=>exact q
theorem Inv.quiet {pins:List (Addr×Obj)}{σ:St}{H:Hp}{s:Shared}(I:Inv X pins σ H s):interactive X.env=false:=by simp[interactive,I.ok.kind]
def Lz (te:TE):TS:=fun D σ H=>te σ H fun _ H1=>D.nx σ H1
theorem cg (he:PE X e te) (hs:swapsWith e none pos.line X.env=pure false:=by rfl):PS X (.Expr e pos) (Lz te):=by
 intro pins s σ H D I h
 exact wpAny_Expr_any (bX (he pins s σ H _ I h) fun v s1 ⟨x,H1,I1,r1,q1⟩=>⟨σ,H1,I1,q1⟩) I.quiet hs
def Qi (te:TE):TS:=fun D σ H=>te σ H D.rt
theorem aF (he:PE X e te):PS X (.Return (some e) pos) (Qi te):=by
 intro pins s σ H D I h
 exact wpAny_Return_some (bX (he pins s σ H _ I h) fun v s1 ⟨x,H1,I1,r1,q1⟩=>⟨x,σ,H1,I1,r1,q1⟩)
def Pr (c:TT) (t u:TS):TS:=fun D σ H=>c σ H fun b H1=>if b=true then t D σ H1 else u D σ H1
theorem bU {c:Expr}{a b:List Stmt}{tc:TT}(hc:PT X c tc) (ha:o_ X a t) (hb:o_ X b u):PS X (.If c a b pos) (Pr tc t u):=by
 intro pins s σ H D I h
 refine wpAny_If (bX (hc pins s σ H _ I h) fun d s1 ⟨H1,I1,q1⟩=>?_)
 cases d with
 | true=>exact ha pins s1 σ H1 D I1 q1
 | false=>exact hb pins s1 σ H1 D I1 q1
end
abbrev TG:=V->St->Hp->(St->Hp->Prop)->Prop
abbrev LY:=List V->St->Hp->(St->Hp->Prop)->Prop
def PG (X:Cx) (target:Expr) (t:TG):Prop :=
 ∀(pins:List (Addr×Obj)) (s:Shared) (σ:St) (H:Hp) (v:V) (u:Value) (Q:St->Hp->Prop),Inv X pins σ H s->RelV v u->t v σ H Q ->
  wpAny (model X.prog X.w) X.A (assign target X.env u) (fun _ s'=>∃σ' H',Inv X pins σ' H' s'/\Q σ' H') X.xe s
def QS (X:Cx) (ts:List Expr) (t:LY):Prop :=
 ∀(pins:List (Addr×Obj)) (s:Shared) (σ:St) (H:Hp) (vs:List V) (us:List Value) (Q:St->Hp->Prop),Inv X pins σ H s->Vals vs us->t vs σ H Q ->
  wpAny (model X.prog X.w) X.A (assignInOrder ((assignEach ts X.env).map (·.2)) us) (fun _ s'=>∃σ' H',Inv X pins σ' H' s'/\Q σ' H') X.xe s
abbrev zJ:=V->V->V->Hp->(Hp->Prop)->Prop
def Mz (X:Cx) (t:zJ):Prop :=
 ∀(pins:List (Addr×Obj)) (s:Shared) (σ:St) (H:Hp) (o i v:V) (ov iv u:Value) (Q:Hp->Prop),Inv X pins σ H s->RelV o ov->RelV i iv->RelV v u->t o i v H Q ->
  wpAny (model X.prog X.w) X.A (setItem ov iv u) (fun _ s'=>∃H',Inv X pins σ H' s'/\Q H') X.xe s
abbrev Lj:=V->V->Hp->VK->Prop
def Tz (X:Cx) (op:Operator) (t:Lj):Prop :=
 ∀(pins:List (Addr×Obj)) (s:Shared) (σ:St) (H:Hp) (x y:V) (v u:Value) (Q:VK),Inv X pins σ H s->RelV x v->RelV y u->t x y H Q ->
  wpAny (model X.prog X.w) X.A (inplaceOp op v u) (EP X pins σ Q) X.xe s
section
variable {X:Cx}{pos:Pos}
def wB (i:Nat):TG:=fun v σ H Q=>Q (σ.set i (some v)) H
theorem bO {i:Nat}{x:Str}(hN:X.N.Nodup) (hi:X.N[i]? = some x) (hx:Loc X.env.scope x) (hf:X.fn x=true\/X.env.scope.names.lookup x=some .local:=by first|exact .inl rfl|exact .inr rfl|assumption):PG X (.Name x pos) (wB i):=by
 intro pins s σ H v u Q I r h
 exact wpAny_assign_Name (mU I hN hi hx r (fun s' I'=>⟨_,H,I',h⟩) hf)
def U':LY:=fun vs σ H Q=>vs=[]/\Q σ H
def QD (t:TG) (u:LY):LY:=fun vs σ H Q=>∃v r,vs=v::r/\t v σ H fun σ' H'=>u r σ' H' Q
theorem A8:QS X [] U':=by
 intro pins s σ H vs us Q I r h
 obtain⟨e,h⟩:=h
 subst e
 cases r
 exact assignInOrder_nil ⟨σ,H,I,h⟩
theorem mj {e:Expr}{es:List Expr}{t:TG}{u:LY}(h1:PG X e t) (h2:QS X es u)
  (hs:(assignEach (e::es) X.env).map (·.2)=assign e X.env::(assignEach es X.env).map (·.2):=by rfl):QS X (e::es) (QD t u):=by
 intro pins s σ H vs us Q I r h
 obtain⟨v,vr,e1,h⟩:=h
 subst e1
 cases r with
 | cons r rr =>
  rw[hs]
  refine assignInOrder_cons (bX (h1 pins s σ H _ _ _ I r h) fun _ s1 ⟨σ1,H1,I1,q1⟩=>?_)
  exact h2 pins s1 σ1 H1 _ _ Q I1 rr q1
def Ri (K:W.Frag) (n:Nat) (t:LY):TG:=fun v σ H Q=>∃a xs,v = .ref a/\oS K H a xs/\xs.length=n/\t xs σ H Q
theorem Fg {es:List Expr}{k:Nat}{t:LY}{n:Nat}(hc:X.calm=true) (h:QS X es t)
  (hn:(assignEach es X.env).length=n:=by rfl) (hst:(assignEach es X.env).findIdx? (·.1)=none:=by rfl):PG X (.Tuple es k pos) (Ri X.K n t):=by
 intro pins s σ H v u Q I r hw
 obtain⟨a,xs,e1,hq,hl,hw⟩:=hw
 subst e1
 cases r
 obtain⟨its,rv,ht,hz⟩:=I.tuple hq
 refine assign_Tuple_tuple (I.ok.hd hc) ht (by simp[hn,<- hl,rv.length]) hst fun h' hx=>?_
 have I1:Inv X pins σ H { s with heap:=h' }:=I.kept (t':=s.toks) fun b o e=>hx b o (Nat.ne_of_lt (Heap.lt_size e)) e
 exact h pins _ σ H xs _ Q I1 (by simpa using rv) hw
def Px (to ti:TE) (t:zJ):TG:=fun v σ H Q=>to σ H fun o H1=>ti σ H1 fun i H2=>t o i v H2 fun H3=>Q σ H3
theorem Oc {o i:Expr}{to ti:TE}{t:zJ}(ho:PE X o to) (hi:PE X i ti) (hs:Mz X t)
  (ha:∀v,assign (.Subscript o i pos) X.env v =(do
   let ov <- holding [v] (eval o X.env)
   let iv <- holding [v,ov] (eval i X.env)
   standAt pos
   holding [v,ov,iv] (setItem ov iv v)
   release [v,ov,iv] []):=by intro _;rfl):PG X (.Subscript o i pos) (Px to ti t):=by
 intro pins s σ H v u Q I r h
 rw[ha]
 refine wpAny_bind (wpAny_holding (bX (ho pins s σ H _ I h) fun ov s1 ⟨x,H1,I1,r1,q1⟩=>?_))
 refine wpAny_bind (wpAny_holding (bX (hi pins s1 σ H1 _ I1 q1) fun iv s2 ⟨y,H2,I2,r2,q2⟩=>?_))
 refine wpAny_bind (wpAny_standAt (wpAny_bind (wpAny_holding (bX (hs pins s2 σ H2 x y v ov iv u _ I2 r1 r2 r q2) fun _ s3 ⟨H3,I3,q3⟩=>?_))))
 exact wpAny_release ⟨σ,H3,I3,q3⟩
def IM (te:TE) (g:TG):TS:=fun D σ H=>te σ H fun x H1=>g x σ H1 D.nx
theorem zR {tg e:Expr}{te:TE}{g:TG}(he:PE X e te) (hg:PG X tg g) (hs:swapsWithSole [tg] e pos.line X.env=pure false:=by rfl) (hw:swappedStores [tg] e X.env=pure none:=by rfl)
  (h1:(assignEach [tg] X.env).map (·.2)=[assign tg X.env]:=by rfl):PS X (.Assign [tg] e pos) (IM te g):=by
 intro pins s σ H D I h
 refine wpAny_Assign_stores (bX (he pins s σ H _ I h) fun v s1 ⟨x,H1,I1,r1,q1⟩=>?_) hs hw
 rw[h1]
 exact bX (hg pins s1 σ H1 x v _ I1 r1 q1) fun _ s2 q=>q
theorem aJ {i:Nat}{x:Str}{e:Expr}{te:TE}{pos':Pos}(hN:X.N.Nodup) (hi:X.N[i]? = some x) (hx:Loc X.env.scope x) (he:PE X e te) (hs:swapsWith e (some (.Name x pos')) pos.line X.env=pure false:=by rfl) (hf:X.fn x=true\/X.env.scope.names.lookup x=some .local:=by first|exact .inl rfl|exact .inr rfl|assumption) :
  PS X (.Assign [.Name x pos'] e pos) (IM te (wB i)):=by
 intro pins s σ H D I h
 refine wpAny_Assign_Name (bX (he pins s σ H _ I h) fun v s1 ⟨y,H1,I1,r1,q1⟩=>?_) hs
 exact mU I1 hN hi hx r1 (fun s2 I2=>⟨_,H1,I2,q1⟩) hf
def PM (i:Nat) (te:TE) (ti:Lj):TS:=fun D σ H=>∃x,σ[i]? = some (some x)/\te σ H fun y H1=>ti x y H1 fun z H2=>D.nx (σ.set i (some z)) H2
theorem NB {i:Nat}{x:Str}{e:Expr}{te:TE}{op:Operator}{ti:Lj}{pos':Pos}(hN:X.N.Nodup) (hi:X.N[i]? = some x) (hx:Loc X.env.scope x) (he:PE X e te) (ho:Tz X op ti) (hf:X.fn x=true\/X.env.scope.names.lookup x=some .local:=by first|exact .inl rfl|exact .inr rfl|assumption) :
  PS X (.AugAssign (.Name x pos') op e pos) (PM i te ti):=by
 intro pins s σ H D I h
 obtain⟨v,e1,h⟩:=h
 obtain⟨m,hn,hl⟩:=I.loc
 have vis:O2 X.env.scope x:=by rcases hx with k|k;exact .inl k;exact .inr (.inl k)
 obtain⟨u,r,l⟩:=hl i x v hi e1 vis
 refine wpAny_AugAssign_Name ?_
 have go:wpAny (model X.prog X.w) X.A (eval e X.env) (fun w s₂=>wpAny (model X.prog X.w) X.A (inplaceOp op u w) (fun r s₃=>wpAny (model X.prog X.w) X.A (storeName X.env x r) (fun _=>SP X pins D .next) X.xe s₃) X.xe s₂) X.xe s:=by
  refine bX (he pins s σ H _ I h) fun w s1 ⟨y,H1,I1,r1,q1⟩=>?_
  refine bX (ho pins s1 σ H1 v y u w _ I1 r r1 q1) fun z s2 ⟨zv,H2,I2,r2,q2⟩=>?_
  exact mU I2 hN hi hx r2 (fun s3 I3=>⟨_,H2,I3,q2⟩) hf
 rcases l with⟨hk,hm⟩|⟨hk,c,hc,hcell⟩
 ·exact wpAny_loadName_local I.ok.kind hk hn hm go
 ·rcases hk with hk|hk
  ·exact wpAny_loadName_cell I.ok.kind hk hc hcell go
  ·rcases hx with k|k
   ·have:X.env.scope.names.lookup x=some .free:=hk
    rw[k]at this;cases this
   ·have:X.env.scope.names.lookup x=some .free:=hk
    rw[k]at this;cases this
def LM (to ti te:TE) (tget:V->V->Hp->VK->Prop) (tip:Lj) (tset:zJ):TS:=fun D σ H=>to σ H fun o H1=>ti σ H1 fun i H2=>tget o i H2 fun x H3=>te σ H3 fun y H4=>tip x y H4 fun z H5=>tset o i z H5 fun H6=>D.nx σ H6
def OS (X:Cx) (t:V->V->Hp->VK->Prop):Prop :=
 ∀(pins:List (Addr×Obj)) (s:Shared) (σ:St) (H:Hp) (o i:V) (ov iv:Value) (Q:VK),Inv X pins σ H s->RelV o ov->RelV i iv->t o i H Q ->
  wpAny (model X.prog X.w) X.A (getItem ov iv) (EP X pins σ Q) X.xe s
theorem JJ {o i e:Expr}{to ti te:TE}{tget:V->V->Hp->VK->Prop}{tip:Lj}{tset:zJ}{op:Operator}{tpos:Pos}(ho:PE X o to) (hi:PE X i ti) (hg:OS X tget) (he:PE X e te) (hp:Tz X op tip) (hs:Mz X tset)
  (ha:∀ov iv new,augStore i ov iv new =(do holding [new,ov,iv] (setItem ov iv new);release [new,ov,iv] [];pure .next):=by intros;rfl):PS X (.AugAssign (.Subscript o i tpos) op e pos) (LM to ti te tget tip tset):=by
 intro pins s σ H D I h
 refine wpAny_AugAssign_SubscriptAny (bX (ho pins s σ H _ I h) fun ov s1 ⟨x1,H1,I1,r1,q1⟩=>?_) ha
 refine bX (hi pins s1 σ H1 _ I1 q1) fun iv s2 ⟨x2,H2,I2,r2,q2⟩=>?_
 refine bX (hg pins s2 σ H2 x1 x2 ov iv _ I2 r1 r2 q2) fun old s3 ⟨x3,H3,I3,r3,q3⟩=>?_
 refine bX (he pins s3 σ H3 _ I3 q3) fun v s4 ⟨x4,H4,I4,r4,q4⟩=>?_
 refine bX (hp pins s4 σ H4 x3 x4 old v _ I4 r3 r4 q4) fun new s5 ⟨x5,H5,I5,r5,q5⟩=>?_
 exact bX (hs pins s5 σ H5 x1 x2 x5 ov iv new _ I5 r1 r2 r5 q5) fun _ s6 ⟨H6,I6,q6⟩=>⟨σ,H6,I6,q6⟩
def Wl (f:Int->Int->Int):Lj:=fun x y H Q=>∃i j,x = .int i/\y = .int j/\Q (.int (f i j)) H
theorem DS:Tz X .Add (Wl fun i j=>i+j):=by
 intro pins s σ H x y v u Q I r1 r2 h
 obtain⟨i,j,e1,e2,q⟩:=h
 subst e1;subst e2
 obtain⟨t,rfl⟩:=r1
 obtain⟨t',rfl⟩:=r2
 exact iadd_int ⟨.int _,H,I.tok _,⟨_,rfl⟩,q⟩
end
section
variable {X:Cx}{pos:Pos}
def N_ (c:TT) (tb:TS):TS:=fun D σ H=>∃W:Nat->St->Hp->Prop,(∃m,W m σ H)/\∀m σ H,W m σ H ->
 c σ H fun b H1=>if b=true then ∃N:St->Hp->Prop,(∀σ' H',N σ' H'->∃m',m'<m/\W m' σ' H')/\tb { D with nx:=N,ct:=N,bk:=D.nx } σ H1 else D.nx σ H1
theorem qt {c:Expr}{body:List Stmt}{tc:TT}{tb:TS}(hp:PassesOwn (model X.prog X.w) X.A X.env X.xe) (hc:PT X c tc) (hb:o_ X body tb):PS X (.While c body [] pos) (N_ tc tb):=by
 intro pins s σ H D I h
 obtain⟨W,⟨m0,w0⟩,turn⟩:=h
 refine wpAny_While (codeAny_whileLoop (fun n s'=>∃σ' H',Inv X pins σ' H' s'/\W n σ' H') ?_ m0 ⟨σ,H,I,w0⟩)
 rintro n s1 ⟨σ1,H1,I1,w1⟩
 refine wpAny_passesOwn hp (bX (hc pins s1 σ1 H1 _ I1 (turn n σ1 H1 w1)) fun b s2 ⟨H2,I2,q2⟩=>?_)
 cases b with
 | true =>
  obtain⟨N,hN,q2⟩:=q2
  rw[if_pos rfl]
  refine wpAny_passesOwn hp (bX (hb pins s2 σ1 H2 _ I2 q2) fun f s3 q3=>?_)
  cases f with
  | next =>
   obtain⟨σ3,H3,I3,n3⟩:=q3
   obtain⟨m',hm,w3⟩:=hN σ3 H3 n3
   exact⟨m',hm,σ3,H3,I3,w3⟩
  | cont =>
   obtain⟨σ3,H3,I3,n3⟩:=q3
   obtain⟨m',hm,w3⟩:=hN σ3 H3 n3
   exact⟨m',hm,σ3,H3,I3,w3⟩
  | brk=>exact q3
  | ret v=>exact q3
 | false =>
  rw[if_neg Bool.false_ne_true]
  exact wpAny_execs_nil ⟨σ1,H2,I2,q2⟩
end
structure It where
 go:Nat->Hp->Prop
 yld:Nat->Hp->V->Hp->Prop
 stop:Nat->Hp->Prop
def oZ (X:Cx) (pins:List (Addr×Obj)) (H:Hp) (b:Addr):Prop :=
 H b=none/\b≠X.env.locals/\b∉X.fs/\(b∈X.ex\/X.s₀.heap.objs.size<=b)/\(∀x c,X.env.cells.lookup x=some c->c≠b)/\∀p∈X.pn++pins,p.1≠b
theorem Inv.fpOk {X:Cx}{pins:List (Addr×Obj)}{σ:St}{H H':Hp}{s:Shared}{b:Addr}(I:Inv X pins σ H s) (hb:s.heap.objs.size<=b) (hn:H' b=none):oZ X pins H' b:=by
 refine⟨hn,Nat.ne_of_gt (Nat.lt_of_lt_of_le I.lt hb),I.nofs hb,.inr (Nat.le_trans I.sz hb),fun x c e z=>?_,fun p hp z=>?_⟩
 ·obtain⟨v,q⟩:=I.cell x c e
  exact absurd (Nat.lt_of_lt_of_le q.lt (by rw[z];exact hb)) (Nat.lt_irrefl _)
 ·exact absurd (Nat.lt_of_lt_of_le (Heap.lt_size (I.pin p hp).1) (by rw[z];exact hb)) (Nat.lt_irrefl _)
structure Turn (P:Program) (w:World) (K:W.Frag) (tg:Expr) (J:It) (fp:List Addr) (it:Addr) (tn:Nat->Heap->Prop):Prop where
 mem:it∈fp
 obj:∀i h,tn i h->∀b∈fp,∃o,h.get? b=some o/\∀v,o.data ≠ .cell v
 keep:∀i h h',tn i h->(∀b∈fp,∀o,h.get? b=some o->h'.get? b=some o)->tn i h'
 item:∀(X:Cx),X.prog=P->X.w=w->X.K=K->X.calm=true->∀(i:Nat) (pins:List (Addr×Obj)) (s:Shared) (σ:St) (H:Hp) (E:Value->Shared->Prop),Inv X pins σ H s->(∀b∈fp,oZ X pins H b)->tn i s.heap->J.go i H ->
  wpAny (model P w) X.A (pyNext (.ref it)) (fun r s1=>∃u,r=some u /\
   wpAny (model P w) X.A (letOwnedTupleGo tg (.ref it) u) (fun _ s2=>∃x H',Inv X pins σ H' s2/\RelV x u/\J.yld i H x H'/\tn (i+1) s2.heap/\∀b∈fp,H' b=none) E s1) E s
 done:∀(X:Cx),X.prog=P->X.w=w->X.K=K->X.calm=true->∀(i:Nat) (pins:List (Addr×Obj)) (s:Shared) (σ:St) (H:Hp) (E:Value->Shared->Prop),Inv X pins σ H s->(∀b∈fp,oZ X pins H b)->tn i s.heap->J.stop i H ->
  wpAny (model P w) X.A (pyNext (.ref it)) (fun r s1=>r=none/\Inv X pins σ H s1) E s
 self:∀(A:Around) (i:Nat) (s:Shared) (Q:Value->Shared->Prop) (E:Value->Shared->Prop),tn i s.heap->Q (.ref it) s->wpAny (model P w) A (pyIter (.ref it)) Q E s
abbrev TI:=St->Hp->(It->Hp->Prop)->Prop
def WG (X:Cx) (pins:List (Addr×Obj)) (σ:St) (tg:Expr) (R:It->Hp->Prop) (itv:Value) (s2:Shared):Prop :=
 ∃(it:Addr) (fp:List Addr) (tn:Nat->Heap->Prop) (J:It) (H':Hp),itv = .ref it/\Inv X pins σ H' s2/\Turn X.prog X.w X.K tg J fp it tn/\tn 0 s2.heap/\(∀b∈fp,oZ X pins H' b)/\R J H'
def PI (X:Cx) (tg iter:Expr) (wi:TI):Prop :=
 ∀(pins:List (Addr×Obj)) (s:Shared) (σ:St) (H:Hp) (R:It->Hp->Prop),Inv X pins σ H s->wi σ H R ->
  wpAny (model X.prog X.w) X.A (eval iter X.env) (fun v s1=>wpAny (model X.prog X.w) X.A (pyIter v) (WG X pins σ tg R) X.xe s1) X.xe s
theorem K1 {M:Model} {A:Around} {E:Value->Shared->Prop} {s:Shared} {tg:Expr} {it:Addr} {u:Value} {o:Obj} {n:String} {vs:Array Value} {Q:Unit->Shared->Prop} (ho:s.heap.get? it = some o) (hc:o.cls = .type n) (hd:o.data = .fields vs)
    (hn:["enumerate", "zip", "dict_itemiterator", "dict_reverseitemiterator", "odict_iterator", "itertools.zip_longest", "itertools.pairwise"].contains n = false) (hQ:Q () s) : wpAny M A (letOwnedTupleGo tg (.ref it) u) Q E s:=by
  unfold letOwnedTupleGo
  cases tg <;> first
    | exact wpAny_pure hQ
    | (cases u <;> first
        | exact wpAny_pure hQ
        | (refine wpAny_bind (wpAny_load ho ?_)
           rw [hc,hd]
           show wpAny M A (if (["enumerate", "zip", "dict_itemiterator", "dict_reverseitemiterator", "odict_iterator", "itertools.zip_longest", "itertools.pairwise"].contains n && vs[0]? == some (rawInt _)) = true then _ else _) Q E s
           rw [if_neg (by intro h; rw [hn,Bool.false_and] at h; cases h)]
           exact wpAny_pure hQ))
def GK (K:W.Frag) (a:Addr):It :=
 ⟨fun i H=>∃xs x,bN K H a xs/\xs[i]? = some x,fun i H x H'=>H'=H/\∀xs,bN K H a xs->xs[i]? = some x,fun i H=>∃xs,bN K H a xs/\xs.length<=i⟩
def Fx (lo:Int) (n:Nat):It:=⟨fun i _=>i<n,fun i H x H'=>H'=H/\x = .int (lo+i),fun i _=>n<=i⟩
theorem Bs {P:Program}{w:World}{K:W.Frag}{tg:Expr}(a it:Addr):Turn P w K tg (GK K a) [it] it (fun i h=>h.IsListIter it a i) where
 mem:=by simp
 obj:=fun i h st b hb=>by
  have e:b=it:=by simpa using hb
  subst e
  obtain⟨o,e,c,d⟩:=st
  exact⟨o,e,fun v z=>by rw[d]at z;cases z⟩
 keep:=fun i h h' st k=>st.at fun o e=>k it (by simp) o e
 item:=by
  intro X hP hw hK hc i pins s σ H E I hf st hg
  subst hP hw hK
  obtain⟨xs,x,hq,hx⟩:=hg
  obtain⟨its,rv,p,hz⟩:=I.list hq
  obtain⟨u,hu,ru⟩:=rv.get hx
  obtain⟨f0,f1,f2,f3,f4,f5⟩:=hf it (by simp)
  refine wpAny_pyNext_list_item st p.isList (x:=u) (by simpa using hu) fun h' st' sb=>?_
  have I1:Inv X pins σ H { s with heap:=h' }:=I.turned (t':=s.toks) (fun b o hb e=>(sb.2 b hb).trans e) f0 f1 f3 f4 f5
  obtain⟨o,e,c,d⟩:=id st'
  exact⟨u,rfl,K1 (s:={ s with heap:=h' }) e c d (by decide) ⟨x,H,I1,ru,⟨rfl,fun ys hy=>by rw[I.list_inj hy hq];exact hx⟩,st',fun b hb=>(hf b hb).1⟩⟩
 done:=by
  intro X hP hw hK hc i pins s σ H E I hf st hg
  subst hP hw hK
  obtain⟨xs,hq,hx⟩:=hg
  obtain⟨its,rv,p,hz⟩:=I.list hq
  obtain⟨f0,f1,f2,f3,f4,f5⟩:=hf it (by simp)
  have hl:=rv.length
  exact wpAny_pyNext_list_end (I.ok.hd hc) st p.isList (by simp;omega) fun h' eb=>⟨rfl,I.turned (t':=s.toks) (fun b o hb e=>eb b o hb e) f0 f1 f3 f4 f5⟩
 self:=fun _ _ _ _ _ st h=>wpAny_pyIter_listiter st h
theorem z9 {P:Program}{w:World}{K:W.Frag}{tg:Expr}(it:Addr) (lo:Int) (n:Nat):Turn P w K tg (Fx lo n) [it] it (fun i h=>IsRangeIter h it (lo+(i:Nat)*1) ((n:Int)-(i:Nat)) 1) where
 mem:=by simp
 obj:=fun i h st b hb=>by
  have e:b=it:=by simpa using hb
  subst e
  exact⟨_,st,fun v z=>by
   have z':Data.fields _=Data.cell v:=z
   cases z'⟩
 keep:=fun i h h' st k=>k it (by simp) _ st
 item:=by
  intro X hP hw hK hc i pins s σ H E I hf st hg
  subst hP hw hK
  obtain⟨f0,f1,f2,f3,f4,f5⟩:=hf it (by simp)
  have W:=Walks.range (prog:=X.prog) (w:=X.w) (I.ok.hd hc) it lo 1 n
  refine W.item i s _ _ hg st fun v h' tk hv st' kk=>?_
  obtain⟨t,rfl⟩:=hv
  have I1:Inv X pins σ H { s with heap:=h',toks:=tk }:=I.turned (fun b o hb e=>kk b o (by simpa using hb) e) f0 f1 f3 f4 f5
  refine⟨_,rfl,K1 (s:={ s with heap:=h',toks:=tk }) (n := "range_iterator") st' rfl rfl (by decide) ⟨.int (lo+i),H,I1,⟨t,?_⟩,⟨rfl,rfl⟩,st',fun b hb=>(hf b hb).1⟩⟩
  rw[Int.mul_one]
 done:=by
  intro X hP hw hK hc i pins s σ H E I hf st hg
  subst hP hw hK
  obtain⟨f0,f1,f2,f3,f4,f5⟩:=hf it (by simp)
  exact wpAny_pyNext_range_end (I.ok.hd hc) st (by have:n<=i:=hg;omega) fun h' eb=>⟨rfl,I.turned (t':=s.toks) (fun b o hb e=>eb b o hb e) f0 f1 f3 f4 f5⟩
 self:=fun _ _ _ _ _ st h=>wpAny_pyIter_rangeiter st h
section
variable {X:Cx}{tg:Expr}
def Lb (K:W.Frag) (tl:TE):TI:=fun σ H R=>tl σ H fun x H1=>∃a,x = .ref a/\(∃xs,bN K H1 a xs)/\R (GK K a) H1
theorem dH {l:Expr}{tl:TE}(hl:PE X l tl):PI X tg l (Lb X.K tl):=by
 intro pins s σ H R I h
 refine bX (hl pins s σ H _ I h) fun v s1 ⟨x,H1,I1,r1,q1⟩=>?_
 obtain⟨a,e,⟨xs,hq⟩,q⟩:=q1
 subst e
 cases r1
 obtain⟨its,rv,p,hz⟩:=I1.list hq
 refine wpAny_pyIter_list p.isList ?_
 refine⟨s1.heap.objs.size,[s1.heap.objs.size],_,_,H1,rfl,I1.kept (t':=s1.toks) fun b o e=>Heap.get?_push_of_some _ e,Bs a _,⟨_,Heap.get?_push_size _ rfl,rfl,rfl⟩,fun b hb=>?_,q⟩
 have e:b=s1.heap.objs.size:=by simpa using hb
 subst e
 exact I1.fpOk (Nat.le_refl _) (I1.hok.fresh (Nat.le_refl _))
theorem FG {pins:List (Addr×Obj)}{σ:St}{H:Hp}{s:Shared}{R:It->Hp->Prop}{E:Value->Shared->Prop}{lo hi:Int}{t u v:Tok}{tk:Nat}(I:Inv X pins σ H s) (h1:-(2^62)<=lo) (h2:lo<2^62) (h3:-(2^62)<=hi) (h4:hi<2^62)
  (q:R (Fx lo (hi-lo).toNat) H):wpAny (model X.prog X.w) X.A (pyIter (.ref s.heap.objs.size)) (WG X pins σ tg R) E { s with heap:=s.heap.push { cls:=.type "range",data:=.fields #[.int lo t,.int hi u,.int 1 v] },toks:=tk }:=by
 refine wpAny_pyIter_range (IsRange.new ..) (small_one h1 h2 h3 h4) ?_
 have I1:Inv X pins σ H { s with heap:=s.heap.push { cls:=.type "range",data:=.fields #[.int lo t,.int hi u,.int 1 v] },toks:=tk }:=I.kept fun b o e=>Heap.get?_push_of_some _ e
 refine⟨(s.heap.push { cls:=.type "range",data:=.fields #[.int lo t,.int hi u,.int 1 v] }).objs.size,[(s.heap.push { cls:=.type "range",data:=.fields #[.int lo t,.int hi u,.int 1 v] }).objs.size],_,_,H,rfl,
  I1.kept (t':=tk) fun b o e=>Heap.get?_push_of_some _ e,z9 _ lo (hi-lo).toNat,?_,fun b hb=>?_,q⟩
 ·have e1:lo+((0:Nat):Int)*1=lo:=by simp
  have e2:(((hi-lo).toNat:Nat):Int)-((0:Nat):Int)=Builtin.Range.rangeSize lo hi 1:=by rw[rangeSize_one];split <;> omega
  show IsRangeIter _ _ (lo+((0:Nat):Int)*1) ((((hi-lo).toNat:Nat):Int)-((0:Nat):Int)) 1
  rw[e1,e2]
  exact Heap.get?_push_size _ rfl
 ·have e:b =(s.heap.push { cls:=.type "range",data:=.fields #[.int lo t,.int hi u,.int 1 v] }).objs.size:=by simpa using hb
  subst e
  exact I1.fpOk (Nat.le_refl _) (I1.hok.fresh (Nat.le_refl _))
def Lg (ta:TA):TI:=fun σ H R=>ta σ H fun vs H1=>∃j:Int,vs=[.int j]/\-(2^62)<=j/\j<2^62/\R (Fx 0 j.toNat) H1
theorem fM {a:Expr}{ta:TA}{p pos:Pos}(hg:Gl X "range") (hm:X.mg "range" = none) (ha:PA X [a] ta) (hs:starEach [a] X.env=[(false,eval a X.env)]:=by rfl):PI X tg (.Call (.Name "range" p) [a] [] pos) (Lg ta):=by
 intro pins s σ H R I h
 refine Call_ (vf I hg hm boot_range (PyProof.Rows.callWith_type1 (bX (ha pos pins s σ H _ I h) fun us s1 ⟨vs,H1,I1,r1,q1⟩=>?_) hs rfl))
 obtain⟨j,e,q1,q2,q⟩:=q1
 subst e
 cases r1 with
 | cons r rr =>
  cases rr
  obtain⟨t,rfl⟩:=r
  exact call_range_1 (FG I1 (by omega) (by omega) q1 q2 (by simpa using q))
def QF (wi:TI) (g:TG) (tb:TS):TS:=fun D σ H=>wi σ H fun J H1=>∃W:Nat->Nat->St->Hp->Prop,(∃m,W 0 m σ H1)/\∀i m σ H,W i m σ H ->
 (J.stop i H/\D.nx σ H) \/(J.go i H/\∃N:St->Hp->Prop,(∀σ' H',N σ' H'->∃m',m'<m/\W (i+1) m' σ' H')/\∀x H',J.yld i H x H'->g x σ H' fun σ2 H2=>tb { D with nx:=N,ct:=N,bk:=D.nx } σ2 H2)
def qZ (fp:List Addr) (h:Heap):List (Addr×Obj):=fp.filterMap fun b=>(h.get? b).map fun o=>(b,o)
theorem iF {fp:List Addr}{h:Heap}{b:Addr}{o:Obj}(hb:b∈fp) (e:h.get? b=some o):(b,o)∈qZ fp h:=List.mem_filterMap.mpr ⟨b,hb,by rw[e];rfl⟩
theorem Co {fp:List Addr}{h:Heap}{p:Addr×Obj}(hp:p∈qZ fp h):p.1∈fp/\h.get? p.1=some p.2:=by
 obtain⟨b,hb,e⟩:=List.mem_filterMap.mp hp
 cases q:h.get? b with
 | none=>rw[q]at e;cases e
 | some o =>
  rw[q]at e
  have e':(b,o)=p:=Option.some.inj e
  subst e'
  exact⟨hb,q⟩
theorem Inv.pinned {pins:List (Addr×Obj)}{σ:St}{H:Hp}{s:Shared}{fp:List Addr}(I:Inv X pins σ H s) (hf:∀b∈fp,oZ X pins H b) (ho:∀b∈fp,∃o,s.heap.get? b=some o/\∀v,o.data ≠ .cell v):Inv X (pins++qZ fp s.heap) σ H s :=
 I.pins_of fun p hp=>(List.mem_append.mp hp).elim (fun z=>I.pin p (List.mem_append_right _ z)) fun z=>by
  obtain⟨hb,e⟩:=Co z
  obtain⟨f0,f1,f2,_⟩:=hf p.1 hb
  obtain⟨o,e',d⟩:=ho p.1 hb
  rw[e]at e';cases e'
  exact⟨e,f0,f1,f2,d⟩
theorem Inv.unpinned {pins pl:List (Addr×Obj)}{σ:St}{H:Hp}{s:Shared}(I:Inv X (pins++pl) σ H s):Inv X pins σ H s:=I.pins_of fun p hp=>I.pin p (List.mem_append_right _ (List.mem_append_left _ hp))
theorem gv {iter:Expr}{body:List Stmt}{wi:TI}{g:TG}{tb:TS}{pos:Pos}(hp:PassesOwn (model X.prog X.w) X.A X.env X.xe) (hc:X.calm=true) (hi:PI X tg iter wi) (hg:PG X tg g) (hb:o_ X body tb)
  (hs:∀x,foldedSetIterable iter X.env x=pure x:=by intro _;rfl):PS X (.For tg iter body [] pos) (QF wi g tb):=by
 intro pins s σ H D I h
 refine wpAny_For (bX (hi pins s σ H _ I h) fun v s1 h1=>bX h1 fun itv s2 h2=>?_) hs
 obtain⟨it,fp,tn,J,H2,e,I2,T,st2,f2,W,⟨m0,w0⟩,turn⟩:=h2
 subst e
 have stat:∀{H':Hp},(∀b∈fp,H' b=none)->∀b∈fp,oZ X pins H' b:=fun hn b hb=>⟨hn b hb,(f2 b hb).2⟩
 refine codeAny_forLoop_any (fun n s'=>∃i σ' H',Inv X pins σ' H' s'/\tn i s'.heap/\(∀b∈fp,H' b=none)/\W i n σ' H') ?_ m0 ⟨0,σ,H2,I2,st2,fun b hb=>(f2 b hb).1,w0⟩
 rintro n s3 ⟨i,σ3,H3,I3,st3,fr3,w3⟩
 rcases turn i n σ3 H3 w3 with⟨stop,qn⟩|⟨go,N,hN,step⟩
 ·refine wpAny_passesOwn hp (bX (T.done X rfl rfl rfl hc i pins s3 σ3 H3 X.xe I3 (stat fr3) st3 stop) fun r s4 ⟨hr,I4⟩=>?_)
  subst hr
  exact wpAny_execs_nil ⟨σ3,H3,I4,qn⟩
 ·refine wpAny_passesOwn hp (bX (T.item X rfl rfl rfl hc i pins s3 σ3 H3 X.xe I3 (stat fr3) st3 go) fun r s4 ⟨u,hr,h4⟩=>?_)
  subst hr
  refine wpAny_passesOwn hp (bX h4 fun _ s5 ⟨x,H5,I5,r5,y5,st5,fr5⟩=>?_)
  have I5':=I5.pinned (stat fr5) (T.obj _ _ st5)
  refine wpAny_passesOwn hp (bX (hg _ s5 σ3 H5 x u _ I5' r5 (step x H5 y5)) fun _ s6 ⟨σ6,H6,I6,q6⟩=>?_)
  refine wpAny_passesOwn hp (bX (hb _ s6 σ6 H6 _ I6 q6) fun f s7 q7=>?_)
  have again:∀{σ7:St}{H7:Hp},Inv X (pins++qZ fp s5.heap) σ7 H7 s7->N σ7 H7->∃m,m<n/\∃i σ' H',Inv X pins σ' H' s7/\tn i s7.heap/\(∀b∈fp,H' b=none)/\W i m σ' H':=fun {σ7 H7} I7 n7=>by
   obtain⟨m',hm,w7⟩:=hN σ7 H7 n7
   refine⟨m',hm,i+1,σ7,H7,I7.unpinned,T.keep _ _ _ st5 fun b hb o e=>(I7.pin (b,o) (List.mem_append_right _ (List.mem_append_right _ (iF hb e)))).1,fun b hb=>?_,w7⟩
   obtain⟨o,e,d⟩:=T.obj _ _ st5 b hb
   exact(I7.pin (b,o) (List.mem_append_right _ (List.mem_append_right _ (iF hb e)))).2.1
  cases f with
  | next=>obtain⟨σ7,H7,I7,n7⟩:=q7;exact again I7 n7
  | cont=>obtain⟨σ7,H7,I7,n7⟩:=q7;exact again I7 n7
  | brk=>obtain⟨σ7,H7,I7,q7⟩:=q7;exact⟨σ7,H7,I7.unpinned,q7⟩
  | ret v=>obtain⟨x7,σ7,H7,I7,r7,q7⟩:=q7;exact⟨x7,σ7,H7,I7.unpinned,r7,q7⟩
end
theorem Fj {K:W.Frag}{a:Addr}{xs:List V}{g:TG}{tb:TS}{D:Ends}{σ:St}{H:Hp}(Pv:Nat->St->Hp->Prop) (h0:Pv 0 σ H) (hl:∀i σ H,i<=xs.length->Pv i σ H->bN K H a xs)
  (hs:∀i x σ H,xs[i]? = some x->Pv i σ H->g x σ H fun σ2 H2=>tb { D with nx:=Pv (i+1),ct:=Pv (i+1),bk:=D.nx } σ2 H2) (hd:∀σ H,Pv xs.length σ H->D.nx σ H) :
  ∃W:Nat->Nat->St->Hp->Prop,(∃m,W 0 m σ H)/\∀i m σ H,W i m σ H ->
   ((GK K a).stop i H/\D.nx σ H) \/((GK K a).go i H/\∃N:St->Hp->Prop,(∀σ' H',N σ' H'->∃m',m'<m/\W (i+1) m' σ' H')/\∀x H',(GK K a).yld i H x H'->g x σ H' fun σ2 H2=>tb { D with nx:=N,ct:=N,bk:=D.nx } σ2 H2):=by
 refine⟨fun i m σ H=>m=xs.length-i/\i<=xs.length/\Pv i σ H,⟨xs.length,by simp,Nat.zero_le _,h0⟩,?_⟩
 rintro i m σ H ⟨rfl,hi,p⟩
 have q:=hl i σ H hi p
 by_cases hlt:i<xs.length
 ·refine .inr ⟨⟨xs,xs[i],q,by simp[hlt]⟩,Pv (i+1),fun σ' H' p'=>⟨xs.length-(i+1),by omega,rfl,hlt,p'⟩,fun x H' y=>?_⟩
  obtain⟨e,y⟩:=y
  subst e
  exact hs i x σ _ (y xs q) p
 ·have e:i=xs.length:=by omega
  subst e
  exact .inl ⟨⟨xs,q,Nat.le_refl _⟩,hd σ H p⟩
theorem Cs {lo:Int}{n:Nat}{g:TG}{tb:TS}{D:Ends}{σ:St}{H:Hp}(Pv:Nat->St->Hp->Prop) (h0:Pv 0 σ H)
  (hs:∀i σ H,i<n->Pv i σ H->g (.int (lo+i)) σ H fun σ2 H2=>tb { D with nx:=Pv (i+1),ct:=Pv (i+1),bk:=D.nx } σ2 H2) (hd:∀σ H,Pv n σ H->D.nx σ H) :
  ∃W:Nat->Nat->St->Hp->Prop,(∃m,W 0 m σ H)/\∀i m σ H,W i m σ H ->
   ((Fx lo n).stop i H/\D.nx σ H) \/((Fx lo n).go i H/\∃N:St->Hp->Prop,(∀σ' H',N σ' H'->∃m',m'<m/\W (i+1) m' σ' H')/\∀x H',(Fx lo n).yld i H x H'->g x σ H' fun σ2 H2=>tb { D with nx:=N,ct:=N,bk:=D.nx } σ2 H2):=by
 refine⟨fun i m σ H=>m=n-i/\i<=n/\Pv i σ H,⟨n,by simp,Nat.zero_le _,h0⟩,?_⟩
 rintro i m σ H ⟨rfl,hi,p⟩
 by_cases hlt:i<n
 ·refine .inr ⟨hlt,Pv (i+1),fun σ' H' p'=>⟨n-(i+1),by omega,rfl,hlt,p'⟩,fun x H' y=>?_⟩
  obtain⟨e,y⟩:=y
  subst e y
  exact hs i σ _ hlt p
 ·have e:i=n:=by omega
  subst e
  exact .inl ⟨Nat.le_refl _,hd σ H p⟩
abbrev R2:=V->V->Hp->VK->Prop
def lE (X:Cx) (f:Value->Value->Sem Value) (r:R2):Prop :=
 ∀(pins:List (Addr×Obj)) (s:Shared) (σ:St) (H:Hp) (x y:V) (v u:Value) (Q:VK),Inv X pins σ H s->RelV x v->RelV y u->r x y H Q ->
  wpAny (model X.prog X.w) X.A (f v u) (EP X pins σ Q) X.xe s
def Ux (X:Cx) (f:Value->Sem Value) (r:V->Hp->VK->Prop):Prop :=
 ∀(pins:List (Addr×Obj)) (s:Shared) (σ:St) (H:Hp) (x:V) (v:Value) (Q:VK),Inv X pins σ H s->RelV x v->r x H Q ->
  wpAny (model X.prog X.w) X.A (f v) (EP X pins σ Q) X.xe s
def cG (X:Cx) (f:Value) (r:List V->Hp->VK->Prop):Prop :=
 ∀(pins:List (Addr×Obj)) (s:Shared) (σ:St) (H:Hp) (xs:List V) (us:List Value) (Q:VK),Inv X pins σ H s->Vals xs us->r xs H Q ->
  wpAny (model X.prog X.w) X.A (call f us) (EP X pins σ Q) X.xe s
def Rm (X:Cx) (r:V->Hp->(Bool->Hp->Prop)->Prop):Prop :=
 ∀(pins:List (Addr×Obj)) (s:Shared) (σ:St) (H:Hp) (x:V) (v:Value) (Q:Bool->Hp->Prop),Inv X pins σ H s->RelV x v->r x H Q ->
  wpAny (model X.prog X.w) X.A (truthy v) (TP X pins σ Q) X.xe s
def Qq (r:R2) (ta tb:TE):TE:=fun σ H Q=>ta σ H fun x H1=>tb σ H1 fun y H2=>r x y H2 Q
def Wm (r:V->Hp->VK->Prop) (ta:TE):TE:=fun σ H Q=>ta σ H fun x H1=>r x H1 Q
def rI (C:Int->Int->Prop) (g:Int->Int->V):R2:=fun x y H Q=>∃i j,x = .int i/\y = .int j/\C i j/\Q (g i j) H
def JI (g:Int->Int->V):R2:=fun x y H Q=>∃i j,x = .int i/\y = .int j/\Q (g i j) H
def rU (g:Int->V):V->Hp->VK->Prop:=fun x H Q=>∃i,x = .int i/\Q (g i) H
section
variable {X:Cx}{a b c:Expr}{ta tb tc:TE}{pos:Pos}
theorem N2 (ha:PE X a ta) (hb:PE X b tb) {pins:List (Addr×Obj)}{s:Shared}{σ:St}{H:Hp}{R:V->V->Hp->Prop}(I:Inv X pins σ H s)
  (h:ta σ H fun x H1=>tb σ H1 fun y H2=>R x y H2) {Q:Value->Shared->Prop}{f:Value->Value->Sem Value}
  (hf:∀v u s2 x y H2,Inv X pins σ H2 s2->RelV x v->RelV y u->R x y H2->wpAny (model X.prog X.w) X.A (f v u) Q X.xe s2) :
  wpAny (model X.prog X.w) X.A (eval a X.env) (fun v s₁=>wpAny (model X.prog X.w) X.A (eval b X.env) (fun u s₂=>wpAny (model X.prog X.w) X.A (f v u) Q X.xe s₂) X.xe s₁) X.xe s:=by
 refine bX (ha pins s σ H _ I h) fun v s1 ⟨x,H1,I1,r1,q1⟩=>?_
 refine bX (hb pins s1 σ H1 _ I1 q1) fun u s2 ⟨y,H2,I2,r2,q2⟩=>?_
 exact hf v u s2 x y H2 I2 r1 r2 q2
theorem aK {op:Operator}{r:R2}(ho:lE X (binaryOp op) r) (ha:PE X a ta) (hb:PE X b tb):PE X (.BinOp a op b pos) (Qq r ta tb):=by
 intro pins s σ H Q I h
 exact wpAny_BinOp (N2 ha hb I h fun v u s2 x y H2 I2 rx ry q=>ho pins s2 σ H2 x y v u Q I2 rx ry q)
theorem Dc {op:UnaryOp}{r:V->Hp->VK->Prop}(ho:Ux X (unaryOp op) r) (ha:PE X a ta):PE X (.UnaryOp op a pos) (Wm r ta):=by
 intro pins s σ H Q I h
 exact UnaryOp_ (bX (ha pins s σ H _ I h) fun v s1 ⟨x,H1,I1,r1,q1⟩=>ho pins s1 σ H1 x v Q I1 r1 q1)
theorem QJ {f:Value->Value->Sem Value}{C:Int->Int->Prop}{g:Int->Int->Int}
  (rule:∀(i j:Int) (t u:Tok) (s:Shared) (Q:Value->Shared->Prop) (E:Value->Shared->Prop),C i j->Q (.int (g i j) s.toks) { s with toks:=s.toks+1 }->wpAny (model X.prog X.w) X.A (f (.int i t) (.int j u)) Q E s) :
  lE X f (rI C fun i j=>.int (g i j)):=by
 intro pins s σ H x y v u Q I rx ry h
 obtain⟨i,j,rfl,rfl,hc,q⟩:=h
 obtain⟨t,rfl⟩:=rx
 obtain⟨t',rfl⟩:=ry
 exact rule i j t t' s _ _ hc ⟨.int (g i j),H,I.tok _,⟨_,rfl⟩,q⟩
theorem PB {f:Value->Value->Sem Value}{g:Int->Int->Int}
  (rule:∀(i j:Int) (t u:Tok) (s:Shared) (Q:Value->Shared->Prop) (E:Value->Shared->Prop),Q (.int (g i j) s.toks) { s with toks:=s.toks+1 }->wpAny (model X.prog X.w) X.A (f (.int i t) (.int j u)) Q E s) :
  lE X f (JI fun i j=>.int (g i j)):=by
 intro pins s σ H x y v u Q I rx ry h
 obtain⟨i,j,rfl,rfl,q⟩:=h
 obtain⟨t,rfl⟩:=rx
 obtain⟨t',rfl⟩:=ry
 exact rule i j t t' s _ _ ⟨.int (g i j),H,I.tok _,⟨_,rfl⟩,q⟩
theorem HU {f:Value->Value->Sem Value}{g:Int->Int->Bool}
  (rule:∀(i j:Int) (t u:Tok) (s:Shared) (Q:Value->Shared->Prop) (E:Value->Shared->Prop),Q (.bool (g i j)) s->wpAny (model X.prog X.w) X.A (f (.int i t) (.int j u)) Q E s) :
  lE X f (JI fun i j=>.bl (g i j)):=by
 intro pins s σ H x y v u Q I rx ry h
 obtain⟨i,j,rfl,rfl,q⟩:=h
 obtain⟨t,rfl⟩:=rx
 obtain⟨t',rfl⟩:=ry
 exact rule i j t t' s _ _ ⟨.bl (g i j),H,I,rfl,q⟩
def LQ (i j:Int):Prop:=0<=j/\j<=1000000/\i.natAbs<2^64
def NR (i j:Int):Prop:=(-(2^64)<i/\i<2^64) \/(-(2^64)<j/\j<2^64)
theorem NR.ok {i j:Int}(h:NR i j):IntMulOk i j:=by
 rcases h with⟨h1,h2⟩|⟨h1,h2⟩
 ·exact .of_left (intBits_le_64 h1 h2)
 ·exact .of_right (intBits_le_64 h1 h2)
theorem b9:lE X (binaryOp .Add) (JI fun i j=>.int (i+j)):=PB fun _ _ _ _ _ _ _ q=>add_int q
theorem d_:lE X (binaryOp .Sub) (JI fun i j=>.int (i-j)):=PB fun _ _ _ _ _ _ _ q=>sub_int q
theorem fk:lE X (binaryOp .Mult) (rI NR fun i j=>.int (i*j)):=QJ fun _ _ _ _ _ _ _ hc q=>mul_int q hc.ok
theorem cW:lE X (binaryOp .Mod) (rI (fun _ j=>0<j) fun i j=>.int (i%j)):=QJ fun i j _ _ _ _ _ hc q=>by
 have h1:(0:Int)<j:=hc
 exact mod_int' (by omega) (by rw[Int.fmod_eq_emod_of_nonneg i (by omega)];exact q)
theorem Ax:lE X (binaryOp .Pow) (rI LQ fun i j=>.int (i^j.toNat)):=QJ fun _ _ _ _ _ _ _ hc q=>pow_int_small hc.1 hc.2.1 hc.2.2 q
theorem yx:lE X (binaryOp .LShift) (rI LQ fun i j=>.int (i*2^j.toNat)):=QJ fun _ _ _ _ _ _ _ hc q=>lshift_int_small hc.1 hc.2.1 hc.2.2 q
theorem XJ {f:Value->Sem Value}{g:Int->Int}
  (rule:∀(i:Int) (t:Tok) (s:Shared) (Q:Value->Shared->Prop) (E:Value->Shared->Prop),Q (.int (g i) s.toks) { s with toks:=s.toks+1 }->wpAny (model X.prog X.w) X.A (f (.int i t)) Q E s) :
  Ux X f (rU fun i=>.int (g i)):=by
 intro pins s σ H x v Q I rx h
 obtain⟨i,rfl,q⟩:=h
 obtain⟨t,rfl⟩:=rx
 exact rule i t s _ _ ⟨.int (g i),H,I.tok _,⟨_,rfl⟩,q⟩
theorem yT:Ux X (unaryOp .USub) (rU fun i=>.int (-i)):=XJ fun _ _ _ _ _ q=>neg_int q
end
def Pa:V->V->Bool
 | .non,.non=>true | .non,.int _=>true | .int _,.non=>true | .non,.bl _=>true | .bl _,.non=>true | .non,.str _=>true | .str _,.non=>true
 | .int _,.int _=>true | .bl _,.bl _=>true | .str _,.str _=>true | .byt _,.byt _=>true
 | .int _,.str _=>true | .str _,.int _=>true | .bl _,.str _=>true | .str _,.bl _=>true
 | _,_=>false
def VN:R2:=fun x y H Q=>Pa x y=true/\Q (.bl (decide (x=y))) H
def Wj:R2:=fun x y H Q=>Pa x y=true/\Q (.bl (!decide (x=y))) H
theorem AQ {i j:Int}:decide (V.int i=V.int j) =(i == j):=by
 rw[Bool.eq_iff_iff]
 simp
theorem Dt {i j:Bool}:decide (V.bl i=V.bl j) =(i == j):=by
 rw[Bool.eq_iff_iff]
 simp
theorem AS {i j:Str}:decide (V.str i=V.str j) =(i == j):=by
 rw[Bool.eq_iff_iff]
 simp
theorem AY {i j:Array UInt8}:decide (V.byt i=V.byt j) =(i.toList == j.toList):=by
 rw[Bool.eq_iff_iff]
 cases i
 cases j
 simp
section
variable {X:Cx}{a b c:Expr}{ta tb tc:TE}{pos:Pos}
theorem bI {pins:List (Addr×Obj)}{σ:St}{H:Hp}{s:Shared}{Q:VK}{k k':Bool}(I:Inv X pins σ H s) (q:Q (.bl k) H) (e:k=k'):EP X pins σ Q (.bool k') s:=by
 subst e
 exact⟨.bl k,H,I,rfl,q⟩
theorem gP:lE X (compareOp .Eq) VN:=by
 intro pins s σ H x y v u Q I rx ry h
 obtain⟨hs,q⟩:=h
 cases x with
 | non =>
  cases rx
  cases y with
  | non=>cases ry;exact PySem.EqNone.eq_none_none (bI I q (by simp))
  | bl j=>cases ry;exact PySem.EqNone.eq_none_bool (bI I q (by simp))
  | int j=>obtain⟨t',rfl⟩:=ry;exact PySem.EqNone.eq_none_int (bI I q (by simp))
  | str j=>obtain⟨t',rfl⟩:=ry;exact PySem.EqNone.eq_none_str (bI I q (by simp))
  | _=>exact absurd (show false=true from hs) Bool.false_ne_true
 | bl i =>
  cases rx
  cases y with
  | non=>cases ry;exact PySem.EqNone.eq_bool_none (bI I q (by simp))
  | bl j=>cases ry;exact eq_bool (bI I q Dt)
  | str j=>obtain⟨t',rfl⟩:=ry;exact PySem.EqMixed.eq_bool_str (bI I q (by simp))
  | _=>exact absurd (show false=true from hs) Bool.false_ne_true
 | int i =>
  obtain⟨t,rfl⟩:=rx
  cases y with
  | non=>cases ry;exact PySem.EqNone.eq_int_none (bI I q (by simp))
  | int j=>obtain⟨t',rfl⟩:=ry;exact eq_int (bI I q AQ)
  | str j=>obtain⟨t',rfl⟩:=ry;exact PySem.EqMixed.eq_int_str (bI I q (by simp))
  | _=>exact absurd (show false=true from hs) Bool.false_ne_true
 | str i =>
  obtain⟨t,rfl⟩:=rx
  cases y with
  | non=>cases ry;exact PySem.EqNone.eq_str_none (bI I q (by simp))
  | bl j=>cases ry;exact PySem.EqMixed.eq_str_bool (bI I q (by simp))
  | int j=>obtain⟨t',rfl⟩:=ry;exact PySem.EqMixed.eq_str_int (bI I q (by simp))
  | str j=>obtain⟨t',rfl⟩:=ry;exact eq_str (bI I q AS)
  | _=>exact absurd (show false=true from hs) Bool.false_ne_true
 | byt i =>
  obtain⟨t,rfl⟩:=rx
  cases y with
  | byt j=>obtain⟨t',rfl⟩:=ry;exact PySem.W.eq_bytes (bI I q AY)
  | _=>exact absurd (show false=true from hs) Bool.false_ne_true
 | _=>cases y <;> exact absurd (show false=true from hs) Bool.false_ne_true
theorem Lh:lE X (compareOp .NotEq) Wj:=by
 intro pins s σ H x y v u Q I rx ry h
 obtain⟨hs,q⟩:=h
 cases x with
 | non =>
  cases rx
  cases y with
  | non=>cases ry;exact PySem.EqNone.ne_none_none (bI I q (by simp))
  | bl j=>cases ry;exact PySem.EqNone.ne_none_bool (bI I q (by simp))
  | int j=>obtain⟨t',rfl⟩:=ry;exact PySem.EqNone.ne_none_int (bI I q (by simp))
  | str j=>obtain⟨t',rfl⟩:=ry;exact PySem.EqNone.ne_none_str (bI I q (by simp))
  | _=>exact absurd (show false=true from hs) Bool.false_ne_true
 | bl i =>
  cases rx
  cases y with
  | non=>cases ry;exact PySem.EqNone.ne_bool_none (bI I q (by simp))
  | bl j=>cases ry;exact ne_bool (bI I q (congrArg not Dt))
  | str j=>obtain⟨t',rfl⟩:=ry;exact PySem.EqMixed.ne_bool_str (bI I q (by simp))
  | _=>exact absurd (show false=true from hs) Bool.false_ne_true
 | int i =>
  obtain⟨t,rfl⟩:=rx
  cases y with
  | non=>cases ry;exact PySem.EqNone.ne_int_none (bI I q (by simp))
  | int j=>obtain⟨t',rfl⟩:=ry;exact ne_int (bI I q (congrArg not AQ))
  | str j=>obtain⟨t',rfl⟩:=ry;exact PySem.EqMixed.ne_int_str (bI I q (by simp))
  | _=>exact absurd (show false=true from hs) Bool.false_ne_true
 | str i =>
  obtain⟨t,rfl⟩:=rx
  cases y with
  | non=>cases ry;exact PySem.EqNone.ne_str_none (bI I q (by simp))
  | bl j=>cases ry;exact PySem.EqMixed.ne_str_bool (bI I q (by simp))
  | int j=>obtain⟨t',rfl⟩:=ry;exact PySem.EqMixed.ne_str_int (bI I q (by simp))
  | str j=>obtain⟨t',rfl⟩:=ry;exact ne_str (bI I q (congrArg not AS))
  | _=>exact absurd (show false=true from hs) Bool.false_ne_true
 | byt i =>
  obtain⟨t,rfl⟩:=rx
  cases y with
  | byt j=>obtain⟨t',rfl⟩:=ry;exact PySem.W.ne_bytes (bI I q (congrArg not AY))
  | _=>exact absurd (show false=true from hs) Bool.false_ne_true
 | _=>cases y <;> exact absurd (show false=true from hs) Bool.false_ne_true
theorem oj:lE X (compareOp .Lt) (JI fun i j=>.bl (decide (i<j))):=HU fun _ _ _ _ _ _ _ q=>lt_int q
theorem pM:lE X (compareOp .LtE) (JI fun i j=>.bl (decide (i<=j))):=HU fun _ _ _ _ _ _ _ q=>le_int q
theorem LB:lE X (compareOp .Gt) (JI fun i j=>.bl (decide (j<i))):=HU fun _ _ _ _ _ _ _ q=>gt_int q
theorem EF:lE X (compareOp .GtE) (JI fun i j=>.bl (decide (j<=i))):=HU fun _ _ _ _ _ _ _ q=>ge_int q
theorem bh (b:Expr) {op:CmpOp}(h:op ≠ .In:=by decide) (h2:op ≠ .NotIn:=by decide):behindInMarks op b=false:=by
 have e1:(op == CmpOp.In)=false:=by cases op <;> first|rfl|exact absurd rfl h
 have e2:(op == CmpOp.NotIn)=false:=by cases op <;> first|rfl|exact absurd rfl h2
 cases b <;> simp[behindInMarks,e1,e2]
theorem j3 {op:CmpOp}{r:R2}(ho:lE X (compareOp op) r) (ha:PE X a ta) (hb:PE X b tb) (hm:behindInMarks op b=false):PE X (.Compare a [op] [b] pos) (Qq r ta tb):=by
 intro pins s σ H Q I h
 exact wpAny_Compare1 (N2 ha hb I h fun v u s2 x y H2 I2 rx ry q=>ho pins s2 σ H2 x y v u Q I2 rx ry q) hm
def Dh (t:TE):TT:=fun σ H Q=>t σ H fun x H'=>∃k,x = .bl k/\Q k H'
theorem aX {op:CmpOp}{r:R2}(ho:lE X (compareOp op) r) (ha:PE X a ta) (hb:PE X b tb) (hm:behindInMarks op b=false):PT X (.Compare a [op] [b] pos) (Dh (Qq r ta tb)):=by
 intro pins s σ H Q I h
 refine wpAny_isTrue_Compare1 (bX (ha pins s σ H _ I h) fun v s1 ⟨x,H1,I1,r1,q1⟩=>bX (hb pins s1 σ H1 _ I1 q1) fun u s2 ⟨y,H2,I2,r2,q2⟩ =>
  bX (ho pins s2 σ H2 x y v u _ I2 r1 r2 q2) fun c s3 ⟨z,H3,I3,r3,k,e,q3⟩=>?_) hm
 subst e
 cases r3
 exact wpAny_truthy_bool ⟨H3,I3,q3⟩
def yi (r r':R2) (ta tb tc:TE):TE:=fun σ H Q=>ta σ H fun x H1=>tb σ H1 fun y H2=>r x y H2 fun z H3=>∃k,z = .bl k /\
 (if k=true then tc σ H3 fun w' H4=>r' y w' H4 Q else Q (.bl false) H3)
theorem mP {op op':CmpOp}{r r':R2}(ho:lE X (compareOp op) r) (ho':lE X (compareOp op') r') (ha:PE X a ta) (hb:PE X b tb) (hc:PE X c tc)
  (hm:lastMarks [op,op'] [b,c]=false:=by with_unfolding_all rfl):PE X (.Compare a [op,op'] [b,c] pos) (yi r r' ta tb tc):=by
 intro pins s σ H Q I h
 refine Compare_chain (bX (ha pins s σ H _ I h) fun v s1 ⟨x,H1,I1,r1,q1⟩=>chain_link (bX (hb pins s1 σ H1 _ I1 q1) fun u s2 ⟨y,H2,I2,r2,q2⟩ =>
  bX (ho pins s2 σ H2 x y v u _ I2 r1 r2 q2) fun d s3 ⟨z,H3,I3,r3,k,e,q3⟩=>?_)) hm
 subst e
 cases r3
 refine wpAny_truthy_bool ?_
 cases k with
 | false=>exact ite_ff ⟨.bl false,H3,I3,rfl,q3⟩
 | true=>exact ite_tt (chain_last (bX (hc pins s3 σ H3 _ I3 q3) fun w' s4 ⟨z',H4,I4,r4,q4⟩=>ho' pins s4 σ H4 y z' u w' Q I4 r2 r4 q4))
theorem xH {op op':CmpOp}{r r':R2}(ho:lE X (compareOp op) r) (ho':lE X (compareOp op') r') (ha:PE X a ta) (hb:PE X b tb) (hc:PE X c tc)
  (hm:lastMarks [op,op'] [b,c]=false:=by with_unfolding_all rfl):PT X (.Compare a [op,op'] [b,c] pos) (Dh (yi r r' ta tb tc)):=by
 intro pins s σ H Q I h
 refine isTrue_chain (bX (ha pins s σ H _ I h) fun v s1 ⟨x,H1,I1,r1,q1⟩=>test_link (bX (hb pins s1 σ H1 _ I1 q1) fun u s2 ⟨y,H2,I2,r2,q2⟩ =>
  bX (ho pins s2 σ H2 x y v u _ I2 r1 r2 q2) fun d s3 ⟨z,H3,I3,r3,k,e,q3⟩=>?_)) hm
 subst e
 cases r3
 refine wpAny_truthy_bool ?_
 cases k with
 | false =>
  obtain⟨k',e',q'⟩:=q3
  cases e'
  exact ite_ff ⟨H3,I3,q'⟩
 | true =>
  refine ite_tt (test_last (bX (hc pins s3 σ H3 _ I3 q3) fun w' s4 ⟨z',H4,I4,r4,q4⟩=>bX (ho' pins s4 σ H4 y z' u w' _ I4 r2 r4 q4) fun d' s5 ⟨z2,H5,I5,r5,k2,e2,q5⟩=>?_))
  subst e2
  cases r5
  exact wpAny_truthy_bool ⟨H5,I5,q5⟩
def OI (K:W.Frag) (x:V) (H:Hp) (k:Bool):Prop :=
 match x with
 | .non=>k=false
 | .bl b=>k=b
 | .int i=>k =(i != 0)
 | .str y=>y.length<=sizeLine/\k =((y.length:Int) != 0)
 | .byt y=>y.size<=sizeLine/\k =((y.size:Int) != 0)
 | .ref p=>(∃xs,bN K H p xs/\k = !xs.isEmpty) \/(∃xs,oS K H p xs/\k = !xs.isEmpty) \/ ∃kvs,H p=some (.dK kvs)/\k = !kvs.isEmpty
 | _=>False
theorem zo {κ:Type}{kvs:List (κ×V)}{vs:List (κ×Value)}(r:KV kvs vs):(!vs.isEmpty) = !kvs.isEmpty:=by
 cases r <;> rfl
theorem pZ {xs:List V}{its:List Value}(r:Vals xs its):(!its.toArray.isEmpty) = !xs.isEmpty:=by
 cases r <;> simp
theorem jh:(sizeLine:Nat)<2^63:=by rw[sizeLine_eq];decide
theorem M0:Rm X (fun x H Q=>∃k,OI X.K x H k/\Q k H):=by
 intro pins s σ H x v Q I rx h
 obtain⟨k,e,q⟩:=h
 have hl:=jh
 have hs:sizeLine=16777216:=sizeLine_eq
 cases x with
 | non =>
  cases rx
  have e':k=false:=e
  subst e'
  exact truthy_none ⟨H,I,q⟩
 | bl b =>
  cases rx
  have e':k=b:=e
  subst e'
  exact wpAny_truthy_bool ⟨H,I,q⟩
 | int i =>
  obtain⟨t,rfl⟩:=rx
  have e':k =(i != 0):=e
  subst e'
  exact PySem.P.truthy_int ⟨H,I,q⟩
 | str y =>
  obtain⟨t,rfl⟩:=rx
  obtain⟨hy,e'⟩ : y.length<=sizeLine/\k =((y.length:Int) != 0):=e
  subst e'
  exact PySem.P.truthy_str (by omega) ⟨H,I.tok _,q⟩
 | byt y =>
  obtain⟨t,rfl⟩:=rx
  obtain⟨hy,e'⟩ : y.size<=sizeLine/\k =((y.size:Int) != 0):=e
  subst e'
  exact PySem.W.truthy_bytes (by omega) ⟨H,I.tok _,q⟩
 | ref p =>
  cases rx
  have e':(∃xs,bN X.K H p xs/\k = !xs.isEmpty) \/(∃xs,oS X.K H p xs/\k = !xs.isEmpty) \/ ∃kvs,H p=some (.dK kvs)/\k = !kvs.isEmpty:=e
  rcases e' with⟨xs,hx,e'⟩|⟨xs,hx,e'⟩|⟨kvs,hx,e'⟩
  ·subst e'
   obtain⟨its,r,pl,hz⟩:=I.list hx
   have hlen:=r.length
   exact wpAny_truthy_list pl.isList (by simp only[List.size_toArray];omega) ⟨H,I.tok _,by rw[pZ r];exact q⟩
  ·subst e'
   obtain⟨its,r,pl,hz⟩:=I.tuple hx
   have hlen:=r.length
   exact truthy_tuple pl (by simp only[List.size_toArray];omega) ⟨H,I.tok _,by rw[pZ r];exact q⟩
  ·subst e'
   obtain⟨hz,hS,vs,r,m⟩ : kvs.length<=sizeLine/\(p == sysModules)=false/\∃vs,KV kvs vs/\s.heap.DictOf (bE X.prog X.w) p vs:=I.hok p _ hx
   have hlen:kvs.length=vs.length:=Paired.length r
   exact wpAny_truthy_dict hS m (by omega) ⟨H,I.tok _,by rw[zo r];exact q⟩
 | _=>exact(show False from e).elim
theorem Ex (ha:PE X a ta) (he:∀whole,isTrue a X.env whole =(do let v <- whole;standAt a.pos;holding [v] (truthy v))) :
  PT X a (fun σ H Q=>ta σ H fun x H'=>∃k,OI X.K x H' k/\Q k H'):=by
 intro pins s σ H Q I h
 exact isTrue_plain (bX (ha pins s σ H _ I h) fun v s1 ⟨x,H1,I1,r1,q1⟩=>M0 pins s1 σ H1 x v Q I1 r1 q1) (he _)
theorem yp:lE X (binaryOp .Add) (fun x y H Q=>∃i j,x = .str i/\y = .str j/\i.length+j.length<=sizeLine/\Q (.str (i++j)) H):=by
 intro pins s σ H x y v u Q I rx ry h
 obtain⟨i,j,rfl,rfl,hz,q⟩:=h
 obtain⟨t,rfl⟩:=rx
 obtain⟨t',rfl⟩:=ry
 exact add_str (fun t' tk=>⟨.str (i++j),H,I.tok _,⟨_,rfl⟩,q⟩) hz
theorem vals1 {x:V}{us:List Value}(r:Vals [x] us):∃u,us=[u]/\RelV x u:=by
 cases r with
 | cons r1 r2=>cases r2;exact⟨_,rfl,r1⟩
theorem vals2 {x y:V}{us:List Value}(r:Vals [x,y] us):∃u w',us=[u,w']/\RelV x u/\RelV y w':=by
 cases r with
 | cons r1 r2 =>
  cases r2 with
  | cons r3 r4=>cases r4;exact⟨_,_,rfl,r1,r3⟩
theorem Dv:cG X (.builtin "abs") (fun xs H Q=>∃i,xs=[.int i]/\Q (.int (if i<0 then -i else i)) H):=by
 intro pins s σ H xs us Q I r h
 obtain⟨i,rfl,q⟩:=h
 obtain⟨u,rfl,t,rfl⟩:=vals1 r
 exact call_abs_int fun u tk=>⟨.int (if i<0 then -i else i),H,I.tok _,⟨_,rfl⟩,q⟩
theorem B5 (hc:X.calm=true):cG X (.builtin "max") (fun xs H Q=>∃i j,xs=[.int i,.int j]/\Q (.int (if j > i then j else i)) H):=by
 intro pins s σ H xs us Q I r h
 obtain⟨i,j,rfl,q⟩:=h
 obtain⟨u,w',rfl,⟨t,rfl⟩,⟨t',rfl⟩⟩:=vals2 r
 refine max_two_ints (I.ok.hd hc) fun h' tk k=>⟨_,H,I.kept k,?_,q⟩
 by_cases hj:j > i
 ·rw[if_pos hj,if_pos hj];exact⟨_,rfl⟩
 ·rw[if_neg hj,if_neg hj];exact⟨_,rfl⟩
theorem BW (hc:X.calm=true):cG X (.builtin "min") (fun xs H Q=>∃i j,xs=[.int i,.int j]/\Q (.int (if j<i then j else i)) H):=by
 intro pins s σ H xs us Q I r h
 obtain⟨i,j,rfl,q⟩:=h
 obtain⟨u,w',rfl,⟨t,rfl⟩,⟨t',rfl⟩⟩:=vals2 r
 refine min_two_ints (I.ok.hd hc) fun h' tk k=>⟨_,H,I.kept k,?_,q⟩
 by_cases hj:j<i
 ·rw[if_pos hj,if_pos hj];exact⟨_,rfl⟩
 ·rw[if_neg hj,if_neg hj];exact⟨_,rfl⟩
theorem CY:cG X (.type "int") (fun xs H Q=>(∃i,xs=[.int i]/\Q (.int i) H) \/ ∃k,xs=[.bl k]/\Q (.int (if k then 1 else 0)) H):=by
 intro pins s σ H xs us Q I r h
 rcases h with⟨i,rfl,q⟩|⟨k,rfl,q⟩
 ·obtain⟨u,rfl,t,rfl⟩:=vals1 r
  exact call_int_int ⟨.int i,H,I,⟨_,rfl⟩,q⟩
 ·obtain⟨u,rfl,r1⟩:=vals1 r
  cases r1
  exact call_int_bool ⟨.int (if k then 1 else 0),H,I.tok _,⟨_,rfl⟩,q⟩
end
structure yQ (h:Heap) (x dx C:Addr) (mA:Str->Option Value):Prop where
 obj:h.get? x=some (PySem.W.instObj C dx)
 ns:h.Ns1 dx mA
 ne:dx≠x
theorem nH {h:Heap}{dx:Addr}{mA:Str->Option Value}(n:h.Ns1 dx mA):∃od,h.get? dx=some od/\∀name,PySem.W.lookIn name od=some (mA name):=by
 obtain⟨o,es,ep,ho,hd,hk,_,hm⟩:=n
 refine⟨o,ho,fun name=>?_⟩
 have e:=hm name
 unfold nsFind findBy at e
 rw[<- Array.find?_toList]at e
 unfold PySem.W.lookIn
 rw[hd]
 dsimp only
 split
 ·rename_i y q
  rw[q]at e
  exact congrArg some e
 ·rename_i q
  rw[q]at e
  have a:es.toList.any (·.refKey)=false:=by
   rw[List.any_eq_false]
   intro y hy
   obtain⟨z,t,hkey⟩:=hk y (Array.mem_toList_iff.mp hy)
   simp[DictEntry.refKey,hkey]
  have a':¬ es.toList.any (·.refKey)=true:=by rw[a];exact Bool.false_ne_true
  rw[if_neg a']
  exact congrArg some e
theorem yQ.look {h:Heap}{x dx C:Addr}{mA:Str->Option Value}(I:yQ h x dx C mA):∃od,PySem.W.InstAt h x (PySem.W.instObj C dx) C (some od)/\∀name,PySem.W.lookIn name od=some (mA name) :=
 let ⟨od,ho,hl⟩:=nH I.ns
 ⟨od,⟨I.obj,rfl,rfl,ho⟩,hl⟩
section
variable {prog:Program}{w:World}{A:Around}{E:Value->Shared->Prop}{s:Shared}{K:W.Frag}{x dx C f:Addr}{mA:Str->Option Value}{name:Str}{v:Value}
theorem get_map {expr:Bool}{Q:Value->Shared->Prop}(X:K.In s.heap) (I:yQ s.heap x dx C mA) (hg:PySem.W.plainGet K C name=true) (hh:PySem.W.hasDictIn K C=true)
  (ha:W.findIn K (.ref C) name=some none) (hv:mA name=some v) (hv':PySem.W.handedIn v=true) (h:Q v { s with toks:=s.toks+1 }) :
  wpAny (model prog w) A (getAttr (.ref x) name expr) Q E s:=by
 obtain⟨od,J,hl⟩:=I.look
 exact PySem.W.get_value X J (PySem.W.plainGet_of hg).1 (PySem.W.findObj_own hh ha rfl (by rw[hl,hv])) hv' h
theorem C_ {pl:Sem Bool}{Q:Value×List Value->Shared->Prop}(X:K.In s.heap) (I:yQ s.heap x dx C mA) (hg:PySem.W.plainGet K C name=true)
  (hf:W.findIn K (.ref C) name=some (some (.ref f))) (ht:W.isFn K (.ref f)=true) (hv:mA name=none) (h:Q (.ref f,[.ref x]) s) :
  wpAny (model prog w) A (getMethod (.ref x) name pl) Q E s:=by
 obtain⟨od,J,hl⟩:=I.look
 exact PySem.W.method_fn X J (PySem.W.plainGet_of hg).1 (PySem.W.plainGet_of hg).2 hf (beq_iff_eq.mp ht) (by show(PySem.W.lookIn name od).map (·.isSome)=some false;rw[hl,hv];rfl) h
theorem Jz {ns:List Str}{Q:Unit->Shared->Prop}(X:K.In s.heap) (I:yQ s.heap x dx C mA)
  (hs:W.findIn K (.ref C) "__setattr__" = some (some (.builtin "object.__setattr__"))) (hp:PySem.W.plainOver K C=true) (ht:PySem.W.takerIn K C name=some none) (hh:PySem.W.hasDictIn K C=true)
  (hw:PySem.Within mA ns) (hsz:ns.length<=sizeLine)
  (h:∀h',yQ h' x dx C (fun y=>if y=name then some v else mA y)->Heap.SameBut dx s.heap h'->Q () { s with heap:=h',toks:=s.toks+2 }) :
  wpAny (model prog w) A (setAttr (.ref x) name v) Q E s:=by
 obtain⟨od,J,hl⟩:=I.look
 refine PySem.W.set_plain X J hs (PySem.W.osa_open (s:={ s with toks:=s.toks+1 }) (r:=none) X J hp ht fun b=>?_)
 obtain⟨cd,hc,hd'⟩:=PySem.W.any_some hh
 have hx:s.heap.get? x=some ⟨.ref C,some dx,.plain,#[]⟩:=I.obj
 refine wpAny_bind (wpAny_pure (wpAny_bind (wpAny_bind (wpAny_loadPart hx (wpAny_bind (PySem.W.Looks.here (s:={ s with toks:=s.toks+1 }) (PySem.W.looks_clsIn X hc) ?_))))))
 rw[hd']
 refine wpAny_pure (a:=some dx) (wpAny_bind (wpAny_pure (wpAny_bind ?_)))
 refine wpAny_nsSet1 (s:={ s with toks:=s.toks+1 }) I.ns fun h' hn2 hs2=>?_
 obtain⟨oD,esD,epD,hoD,hdD,hcD⟩:=hn2.count (PySem.Within.cons name v hw)
 refine wpAny_bind (wpAny_lookBehind hoD (by rw[hdD];exact pastItsLine_dict (Nat.le_trans hcD (by rw[List.length_cons];omega))) ?_)
 exact wpAny_pure (h _ ⟨(hs2.2 _ (Ne.symm I.ne)).trans I.obj,hn2,I.ne⟩ hs2)
theorem DT {R:Result->Shared->Prop}{vs:List Value}{kw:List (Str×Value)}(X:K.In s.heap) (hm:PySem.W.makesIn K C=true)
  (hi:W.findIn K (.ref C) "__init__" = some (some (.ref f))) (hf:PySem.W.typeIn K (.ref f)=some (.type "function"))
  (h:codeAny (model prog w) (A.under (.builtin "type.__call__" ⟨.ref C::vs,kw⟩)) (.call (.ref f) ⟨.ref (s.heap.objs.size+1)::vs,kw⟩) (PySem.W.InitBack (s.heap.objs.size+1) R)
   { s with heap:=(s.heap.push PySem.W.emptyDict).push (PySem.W.instObj C s.heap.objs.size) }) :
  codeAny (model prog w) A (.call (.ref C) ⟨vs,kw⟩) R s:=by
 obtain⟨hh,g,d,t,os⟩:=s
 exact PySem.W.make_core (PySem.W.makes_of X hm) (PySem.W.looks_findIn X hi) (fun self=>PySem.W.bind_fn X self hf) (.inl rfl) h
end
def gx (f:Str) (v:V):List (Str×V)->List (Str×V)
 | []=>[(f,v)]
 | (g,x)::r=>if g=f then(g,v)::r else(g,x)::gx f v r
theorem bY (f g:Str) (v:V):∀fs:List (Str×V),(gx f v fs).lookup g=if g=f then some v else fs.lookup g
 | []=>by
  show List.lookup g [(f,v)]=_
  by_cases h:g=f
  ·have hb:(g == f)=true:=beq_iff_eq.mpr h
   simp only[List.lookup,hb,if_pos h]
  ·have hb:(g == f)=false:=beq_eq_false_iff_ne.mpr h
   simp only[List.lookup,hb,if_neg h]
 | (k,x)::r=>by
  have ih:=bY f g v r
  rw[show gx f v ((k,x)::r) =(if k=f then(k,v)::r else(k,x)::gx f v r) from rfl]
  by_cases hk:k=f
  ·rw[if_pos hk]
   by_cases h:g=k
   ·have hb:(g == k)=true:=beq_iff_eq.mpr h
    simp only[List.lookup,hb,if_pos (h.trans hk)]
   ·have hb:(g == k)=false:=beq_eq_false_iff_ne.mpr h
    simp only[List.lookup,hb,if_neg (fun e:g=f=>h (e.trans hk.symm))]
  ·rw[if_neg hk]
   by_cases h:g=k
   ·have hb:(g == k)=true:=beq_iff_eq.mpr h
    simp only[List.lookup,hb,if_neg (fun e:g=f=>hk (h.symm.trans e))]
   ·have hb:(g == k)=false:=beq_eq_false_iff_ne.mpr h
    simp only[List.lookup,hb]
    exact ih
theorem nq (f:Str) (v:V):∀fs:List (Str×V),f∈(gx f v fs).map (·.1)/\∀g,g∈fs.map (·.1)->g∈(gx f v fs).map (·.1)
 | []=>⟨by simp[gx],fun g h=>by simp at h⟩
 | (k,x)::r=>by
  obtain⟨i1,i2⟩:=nq f v r
  rw[show gx f v ((k,x)::r) =(if k=f then(k,v)::r else(k,x)::gx f v r) from rfl]
  by_cases hk:k=f
  ·rw[if_pos hk]
   subst hk
   exact⟨by simp,fun g h=>by simpa using h⟩
  ·rw[if_neg hk]
   refine⟨?_,fun g h=>?_⟩
   ·rw[List.map_cons]
    exact List.mem_cons_of_mem _ i1
   ·rw[List.map_cons]at h ⊢
    rcases List.mem_cons.mp h with e|e
    ·exact List.mem_cons.mpr (.inl e)
    ·exact List.mem_cons_of_mem _ (i2 g e)
theorem gp (f:Str) (v:V):∀fs:List (Str×V),(gx f v fs).length<=fs.length+1
 | []=>by simp[gx]
 | (k,x)::r=>by
  have ih:=gp f v r
  rw[show gx f v ((k,x)::r) =(if k=f then(k,v)::r else(k,x)::gx f v r) from rfl]
  by_cases hk:k=f
  ·rw[if_pos hk,List.length_cons,List.length_cons];omega
  ·rw[if_neg hk,List.length_cons,List.length_cons];omega
theorem iC.some_of {v:V}{o:Option Value}(r:iC (some v) o):∃u,o=some u/\RelV v u:=by
 cases o with
 | none=>exact(show False from r).elim
 | some u=>exact⟨u,rfl,r⟩
theorem iC.none_of {o:Option Value}(r:iC none o):o=none:=by
 cases o with
 | none=>rfl
 | some u=>exact(show False from r).elim
theorem tV {v:V}{u:Value}(r:RelV v u):PySem.W.handedIn u=true:=by
 cases v with
 | non=>cases (show u=Value.none from r);rfl
 | bl b=>cases (show u=Value.bool b from r);rfl
 | int i=>obtain⟨t,e⟩:=(show ∃t,u=Value.int i t from r);cases e;rfl
 | str x=>obtain⟨t,e⟩:=(show ∃t,u=Value.str x t from r);cases e;rfl
 | byt b=>obtain⟨t,e⟩:=(show ∃t,u=Value.bytes b t from r);cases e;rfl
 | flt b=>obtain⟨t,e⟩:=(show ∃t,u=Value.float b t from r);cases e;rfl
 | ref a=>cases (show u=Value.ref a from r);rfl
 | ty n=>cases (show u=Value.type n from r);rfl
section
variable {P:Program}{w:World}{H H':Hp}{h h':Heap}{a C dx:Addr}{fs fs':List (Str×V)}
theorem pJ (hok:kH P w H h) (e:H a=some (.ins C dx fs)):∃mA,yQ h a dx C mA/\(∀f,iC (fs.lookup f) (mA f))/\PySem.Within mA (fs.map (·.1))/\fs.length<=1000/\H dx=some (.own a):=by
 obtain⟨d,z,ne,ob,mA,n,r,q⟩:=(show cH P w H h a (.ins C dx fs) from hok a _ e)
 exact⟨mA,⟨ob,n,ne⟩,r,q,z,d⟩
end
structure xy (K:W.Frag) (C:Addr):Prop where
 pg:PySem.W.plainGet K C Str.empty=true
 hd:PySem.W.hasDictIn K C=true
 po:PySem.W.plainOver K C=true
 sa:W.findIn K (.ref C) "__setattr__" = some (some (.builtin "object.__setattr__"))
theorem xy.get {K:W.Frag}{C:Addr}(c:xy K C) (f:Str):PySem.W.plainGet K C f=true:=c.pg
def fS (K:W.Frag) (C:Addr) (f:Str):Prop:=W.findIn K (.ref C) f=some none
theorem fS.taker {K:W.Frag}{C:Addr}{f:Str}(n:fS K C f):PySem.W.takerIn K C f=some none:=by
 unfold PySem.W.takerIn
 rw[show W.findIn K (.ref C) f=some none from n]
 rfl
structure Meth (K:W.Frag) (C:Addr) (m:Str) (f:Addr):Prop where
 at_:W.findIn K (.ref C) m=some (some (.ref f))
 fn:W.isFn K (.ref f)=true
 kp:W.keepIn K (.ref f)=true
section
variable {X:Cx}{pins:List (Addr×Obj)}{σ:St}{H:Hp}{s:Shared}{a C dx:Addr}{fs:List (Str×V)}{f:Str}{v:V}{A:Around}{E:Value->Shared->Prop}
theorem yH {b:Bool}{Q:Value->Shared->Prop}(I:Inv X pins σ H s) (e:H a=some (.ins C dx fs)) (c:xy X.K C) (n:fS X.K C f) (l:fs.lookup f=some v)
  (h:∀u s',Inv X pins σ H s'->RelV v u->Q u s'):wpAny (model X.prog X.w) A (getAttr (.ref a) f b) Q E s:=by
 obtain⟨mA,O,r,_,_,_⟩:=pJ I.hok e
 obtain⟨u,hu,ru⟩:=iC.some_of (v:=v) (o:=mA f) (by rw[<- l];exact r f)
 exact get_map I.kIn O (c.get f) c.hd n hu (tV ru) (h u _ (I.tok _) ru)
theorem kZ {m:Str}{g:Addr}{pl:Sem Bool}{Q:Value×List Value->Shared->Prop}(I:Inv X pins σ H s) (e:H a=some (.ins C dx fs)) (c:xy X.K C) (k:Meth X.K C m g) (l:fs.lookup m=none)
  (h:Q (.ref g,[.ref a]) s):wpAny (model X.prog X.w) A (getMethod (.ref a) m pl) Q E s:=by
 obtain⟨mA,O,r,_,_,_⟩:=pJ I.hok e
 have hn:mA m=none:=iC.none_of (by rw[<- l];exact r m)
 exact C_ I.kIn O (c.get m) k.at_ k.fn hn h
theorem zM {y:V}{u:Value}{Q:Unit->Shared->Prop}(I:Inv X pins σ H s) (e:H a=some (.ins C dx fs)) (c:xy X.K C) (n:fS X.K C f) (hl:fs.length<1000) (ry:RelV y u)
  (h:∀s',Inv X pins σ (upd H a (.ins C dx (gx f y fs))) s'->Q () s'):wpAny (model X.prog X.w) A (setAttr (.ref a) f u) Q E s:=by
 obtain⟨mA,O,r,wi,_,ho⟩:=pJ I.hok e
 have hz:(fs.map (·.1)).length<=sizeLine:=by rw[List.length_map,sizeLine_eq];omega
 refine Jz I.kIn O c.sa c.po n.taker c.hd wi hz fun h' O' sb=>h _ ?_
 have hd:∃o,h'.get? dx=some o:=let ⟨o,_,_,e',_⟩:=O'.ns;⟨o,e'⟩
 refine I.write (x:=a) (e:=dx) (by rw[e];exact True.intro) (.inr ho) (fun b q hb z=>(sb.2 b hb).trans z) hd ?_
 refine⟨by rw[az O.ne];exact ho,?_,O.ne,O'.obj,_,O'.ns,fun g=>?_,fun g hg=>?_⟩
 ·have:=gp f y fs;omega
 ·show iC ((gx f y fs).lookup g) (if g=f then some u else mA g)
  rw[bY]
  by_cases q:g=f
  ·rw[if_pos q,if_pos q];exact ry
  ·rw[if_neg q,if_neg q];exact r g
 ·by_cases q:g=f
  ·rw[q];exact(nq f y fs).1
  ·refine(nq f y fs).2 g (wi g fun z=>hg ?_)
   show(if g=f then some u else mA g)=none
   rw[if_neg q];exact z
theorem Inv.made (I:Inv X pins σ H s):Inv X pins σ (upd (upd H s.heap.objs.size (.own (s.heap.objs.size+1))) (s.heap.objs.size+1) (.ins C s.heap.objs.size []))
  { s with heap:=(s.heap.push PySem.W.emptyDict).push (PySem.W.instObj C s.heap.objs.size) }:=by
 have e1:(s.heap.push PySem.W.emptyDict).get? s.heap.objs.size=some PySem.W.emptyDict:=Heap.get?_push_size s.heap rfl
 have e2:((s.heap.push PySem.W.emptyDict).push (PySem.W.instObj C s.heap.objs.size)).get? (s.heap.objs.size+1)=some (PySem.W.instObj C s.heap.objs.size):=by
  have:=Heap.get?_push_size (s.heap.push PySem.W.emptyDict) (o:=PySem.W.instObj C s.heap.objs.size) rfl
  rwa [Heap.size_push]at this
 have e3:(s.heap.push PySem.W.emptyDict).Ns s.heap.objs.size (fun _=>none):=⟨PySem.W.emptyDict,#[],_,e1,rfl,(fun e he=>absurd he (by simp)),fun _=>rfl⟩
 have I1:=I.laid (a:=s.heap.objs.size) (o:=.own (s.heap.objs.size+1)) (h':=s.heap.push PySem.W.emptyDict) (t':=s.toks) (fun b u q=>Heap.get?_push_of_some _ q) (Nat.le_refl _) ⟨_,e1⟩
 refine I1.laid (a:=s.heap.objs.size+1) (o:=.ins C s.heap.objs.size []) (t':=s.toks) (fun b u q=>Heap.get?_push_of_some _ q) (Nat.le_of_eq (Heap.size_push _ _)) ?_
 have ne:s.heap.objs.size≠s.heap.objs.size+1:=Nat.ne_of_lt (Nat.lt_succ_self _)
 refine⟨by rw[az ne,aA],Nat.zero_le _,ne,e2,fun _=>none,(Heap.Ns1.of_empty e3).at fun o q=>Heap.get?_push_of_some _ q,fun _=>True.intro,fun y hy=>absurd rfl hy⟩
theorem A1 {prog:Program}{w:World}{env:Env}{e:Expr}{f:Str}{pos:Pos}{s:Shared}{Q:Value->Shared->Prop}(hb:attributeBase e f env (eval e env)=eval e env)
  (h:wpAny (model prog w) A (eval e env) (fun o s₁=>wpAny (model prog w) A (getAttr o f true) Q E s₁) E s):wpAny (model prog w) A (eval (.Attribute e f pos) env) Q E s :=
 Attribute_any_ h (by rw[arm_eval_Attribute,hb])
end
def L_ (K:W.Frag) (ta:TE) (f:Str):TE:=fun σ H Q=>ta σ H fun x H1=>∃a C dx fs v,x = .ref a/\H1 a=some (.ins C dx fs)/\xy K C/\fS K C f/\fs.lookup f=some v/\Q v H1
def Pg (K:W.Frag) (ta tv:TE) (f:Str):TS:=fun D σ H=>tv σ H fun y H1=>ta σ H1 fun x H2=>∃a C dx fs,x = .ref a/\H2 a=some (.ins C dx fs)/\xy K C/\fS K C f/\fs.length<1000 /\
 D.nx σ (upd H2 a (.ins C dx (gx f y fs)))
section
variable {X:Cx}{o e value:Expr}{f:Str}{pos pos' tpos:Pos}{ta tv:TE}
theorem dM (he:PE X e ta) (hb:attributeBase e f X.env (eval e X.env)=eval e X.env):PE X (.Attribute e f pos) (L_ X.K ta f):=by
 intro pins s σ H Q I h
 refine A1 hb (bX (he pins s σ H _ I h) fun u s1 ⟨x,H1,I1,rx,a,C,dx,fs,v,ex,ea,c,n,l,q⟩=>?_)
 subst ex
 obtain rfl:u=Value.ref a:=rx
 exact yH I1 ea c n l fun u' s2 I2 ru=>⟨v,H1,I2,ru,q⟩
theorem yk (ha:PE X o ta) (hv:PE X value tv) (hs:swapsWith value (some (.Attribute o f pos')) pos.line X.env=pure false):PS X (.Assign [.Attribute o f pos'] value pos) (Pg X.K ta tv f):=by
 intro pins s σ H D I h
 refine plainObj_wpAny_Assign_Attribute (bX (hv pins s σ H _ I h) fun u s1 ⟨y,H1,I1,ry,q⟩=>bX (ha pins s1 σ H1 _ I1 q) fun ov s2 ⟨x,H2,I2,rx,a,C,dx,fs,ex,ea,c,n,l,q2⟩=>?_) hs
 subst ex
 obtain rfl:ov=Value.ref a:=rx
 exact zM I2 ea c n l ry fun s3 I3=>⟨σ,_,I3,q2⟩
theorem Lp {pl:Sem Bool}{m:Str}{apos:Pos}{args:List Expr}{pins:List (Addr×Obj)}{s:Shared}{σ:St}{H:Hp}{Q:Value->Shared->Prop}{te:TE}(he:PE X e te) (I:Inv X pins σ H s)
  (h:te σ H fun x H1=>∃a C dx fs g,x = .ref a/\H1 a=some (.ins C dx fs)/\xy X.K C/\Meth X.K C m g/\fs.lookup m=none /\
   ∀s1,Inv X pins σ H1 s1->wpAny (model X.prog X.w) X.A (callWith pos (.ref g) [.ref a] (backTo pos (starEach args X.env)) (backToKw pos (keywordEach [] X.env))) Q X.xe s1)
  (ht:eval (.Call (.Attribute e m apos) args [] pos) X.env =(do
   let ov <- eval e X.env
   standAt apos.atName
   let (f,first) <- holding [ov] (getMethod ov m pl)
   callWith pos f first (backTo pos (starEach args X.env)) (backToKw pos (keywordEach [] X.env)))) :
  wpAny (model X.prog X.w) X.A (eval (.Call (.Attribute e m apos) args [] pos) X.env) Q X.xe s:=by
 refine PySem.W.methodCall_KW (pl:=pl) (bX (he pins s σ H _ I h) fun u s1 ⟨x,H1,I1,rx,a,C,dx,fs,g,ex,ea,c,k,l,q⟩=>?_) ht
 subst ex
 obtain rfl:u=Value.ref a:=rx
 exact kZ I1 ea c k l (q s1 I1)
end
section
variable {X:Cx}{pins:List (Addr×Obj)}{σ:St}{H:Hp}{s:Shared}{A:Around}{E:Value->Shared->Prop}{Q:Value->Shared->Prop}{c:Value}{b:Bool}
inductive je (K:W.Frag) (H:Hp):V->Value->Prop where
 | non:je K H .non (.type "NoneType")
 | bl (x:Bool):je K H (.bl x) (.type "bool")
 | int (i:Int):je K H (.int i) (.type "int")
 | str (x:Str):je K H (.str x) (.type "str")
 | flt (x:UInt64):je K H (.flt x) (.type "float")
 | lst {a:Addr}{xs:List V}(e:H a=some (.lst xs)):je K H (.ref a) (.type "list")
 | frz {a:Addr}{o:Obj}{xs:List V}(e:H a=some (.frz o (.lst xs))):je K H (.ref a) (.type "list")
 | tup {a:Addr}{xs:List V}(e:H a=some (.tup xs)):je K H (.ref a) (.type "tuple")
 | dK {a:Addr}{kvs:List (Key×V)}(e:H a=some (.dK kvs)):je K H (.ref a) (.type "dict")
 | dT {a:Addr}{kvs:List (List Key×V)}(e:H a=some (.dT kvs)):je K H (.ref a) (.type "dict")
 | ins {a C dx:Addr}{fs:List (Str×V)}(e:H a=some (.ins C dx fs)) (cl:xy K C) (ha:W.findIn K (.ref C) "__class__" = some (some (.builtin "object.__class__")))
   (hn:PySem.W.specialIn K (.builtin "object.__class__") "__get__" = some (some (.builtin "getset_descriptor.__get__"))) (htk:PySem.W.takesIn K (.builtin "object.__class__")=some true)
   (hm:W.mroIn K C (.type "object")=some true):je K H (.ref a) (.ref C)
theorem CP {x:V}{u t:Value}(I:Inv X pins σ H s) (rx:RelV x u) (ty:je X.K H x t) (e:W.kitOne X.K t c=some b) (h:∀tk,Q (.bool b) { s with toks:=tk }) :
  wpAny (model X.prog X.w) A (call (.builtin "isinstance") [u,c]) Q E s:=by
 cases ty with
 | non=>cases (show u=Value.none from rx);exact PySem.W.kia_one PySem.W.kitx_none I.kIn True.intro e (fun z=>nomatch z) h
 | bl y=>cases (show u=Value.bool y from rx);exact PySem.W.kia_one PySem.W.kitx_bool I.kIn True.intro e (fun z=>nomatch z) h
 | int i=>obtain⟨t,q⟩:=(show ∃t,u=Value.int i t from rx);cases q;exact PySem.W.kia_one PySem.W.kitx_int I.kIn True.intro e (fun z=>nomatch z) h
 | str y=>obtain⟨t,q⟩:=(show ∃t,u=Value.str y t from rx);cases q;exact PySem.W.kia_one PySem.W.kitx_str I.kIn True.intro e (fun z=>nomatch z) h
 | flt y=>obtain⟨t,q⟩:=(show ∃t,u=Value.float y t from rx);cases q;exact PySem.W.kia_one PySem.W.kitx_float I.kIn True.intro e (fun z=>nomatch z) h
 | @lst a xs ea =>
  cases (show u=Value.ref a from rx)
  obtain⟨_,_,n,_,h1⟩:=(show cH X.prog X.w H s.heap a (.lst xs) from I.hok a _ ea)
  exact PySem.W.kia_one PySem.W.kitx_list I.kIn ⟨_,h1,rfl⟩ e (fun z=>nomatch z) h
 | @frz a ob xs ea =>
  cases (show u=Value.ref a from rx)
  obtain⟨_,_,_,n,_,h1⟩:=(show cH X.prog X.w H s.heap a (.frz ob (.lst xs)) from I.hok a _ ea)
  exact PySem.W.kia_one PySem.W.kitx_list I.kIn ⟨_,h1,rfl⟩ e (fun z=>nomatch z) h
 | @tup a xs ea =>
  cases (show u=Value.ref a from rx)
  obtain⟨_,_,_,p⟩:=(show cH X.prog X.w H s.heap a (.tup xs) from I.hok a _ ea)
  obtain⟨o,h1,h2,_⟩:=p
  exact PySem.W.kia_one PySem.W.kitx_tuple I.kIn ⟨o,h1,h2⟩ e (fun z=>nomatch z) h
 | @dK a kvs ea =>
  cases (show u=Value.ref a from rx)
  obtain⟨_,_,vs,_,p⟩:=(show cH X.prog X.w H s.heap a (.dK kvs) from I.hok a _ ea)
  obtain⟨o,es,ep,h1,h2,_⟩:=p
  exact PySem.W.kia_one PySem.W.kitx_dict I.kIn ⟨o,h1,h2.1⟩ e (fun z=>nomatch z) h
 | @dT a kvs ea =>
  cases (show u=Value.ref a from rx)
  obtain⟨_,_,xs,_,o,es,ep,h1,h2,_⟩:=(show cH X.prog X.w H s.heap a (.dT kvs) from I.hok a _ ea)
  exact PySem.W.kia_one PySem.W.kitx_dict I.kIn ⟨o,h1,h2.1⟩ e (fun z=>nomatch z) h
 | @ins a C dx fs ea cl ha hn htk hm =>
  cases (show u=Value.ref a from rx)
  obtain⟨mA,O,_⟩:=pJ I.hok ea
  obtain⟨od,J,_⟩:=O.look
  exact PySem.W.kia_one (PySem.W.kitx_own (cl.get _) cl.hd ha hn htk hm) I.kIn J e (fun z=>nomatch z) h
end
structure cA (k:Nat) (A:Around):Prop where
 hd:A.handled=none
 dp:A.depth+3*k+5<recursionLimit
 un:A.units+16*k+200<cLine
 gd:A.guards=some []
theorem cA.mono {j k:Nat}{A:Around}(r:cA k A) (h:j<=k):cA j A:=⟨r.hd,by have:=r.dp;omega,by have:=r.un;omega,r.gd⟩
theorem cA.mo{j k:Nat}{A:Around}(h:cA k A)(l:j<=k:=by decide):cA j A:=h.mono l
theorem kF {A:Around}{env:Env}(h:A.guards=some []):(A.deeper env).guards=some []:=by
 first|exact h|simp[Around.deeper,Around.under,Code.guards,Code.isGuard,pushGuards,h]
theorem cA.deeper {k:Nat}{A:Around}(r:cA (k+1) A) (env:Env):cA k (A.deeper env) :=
 ⟨r.hd,by have:=r.dp;show A.depth+1+3*k+5<_;omega,by have:=r.un;show A.units+3+16*k+200<_;omega,kF r.gd⟩
theorem zU {A:Around}{C:Addr}{us:List Value}{kw:List (Str×Value)}:(A.under (.builtin "type.__call__" ⟨.ref C::us,kw⟩)).depth=A.depth+1:=by
 first|rfl|simp[Around.under,Code.weight,Code.isCreation,Code.isGuard,Code.isCaller,Code.frames,Code.isFrame,guardIds]
theorem zK {A:Around}{C:Addr}{us:List Value}{kw:List (Str×Value)}:(A.under (.builtin "type.__call__" ⟨.ref C::us,kw⟩)).units=A.units+1:=by
 first|rfl|simp[Around.under,Code.cUnits,Code.frames,Code.isFrame]
theorem xx {A:Around}{C:Addr}{us:List Value}{kw:List (Str×Value)}(h:A.guards=some []):(A.under (.builtin "type.__call__" ⟨.ref C::us,kw⟩)).guards=some []:=by
 first|exact h|(show pushGuards _ A.guards=_;rw[h];rfl)
theorem cA.make {k:Nat}{A:Around}(r:cA (k+1) A) (C:Addr) (us:List Value) (kw:List (Str×Value)):cA k (A.under (.builtin "type.__call__" ⟨.ref C::us,kw⟩)) :=
 ⟨r.hd,by have:=r.dp;rw[zU];omega,by have:=r.un;rw[zK];omega,xx r.gd⟩
theorem cA.depth {k:Nat}{A:Around}(r:cA k A):A.depth<recursionLimit:=by have:=r.dp;omega
theorem cA.units {k:Nat}{A:Around}(r:cA k A):A.units+64<cLine:=by have:=r.un;omega
def EJ:TA:=fun _ H Q=>Q [] H
def Fp (ta:TE) (tr:TA):TA:=fun σ H Q=>ta σ H fun x H1=>tr σ H1 fun xs H2=>Q (x::xs) H2
section
variable {X:Cx}{e:Expr}{es:List Expr}{te:TE}{t:TA}{pos:Pos}
theorem aj:PA X [] EJ:=fun _ _ _ _ H Q I h=>Calls.spliced_nil ⟨[],H,I,.nil,h⟩
theorem af (ha:PE X e te) (hr:PA X es t) (hs:starEach (e::es) X.env =(false,eval e X.env)::starEach es X.env:=by rfl):PA X (e::es) (Fp te t):=by
 intro pos pins s σ H Q I h
 rw[hs]
 show wpAny _ _ (spliced ((false,eval e X.env)::backTo pos (starEach es X.env))) _ _ s
 refine Calls.spliced_cons (bX (ha pins s σ H _ I h) fun u s1 ⟨x,H1,I1,r1,q1⟩=>?_)
 exact bX (hr pos pins s1 σ H1 _ I1 q1) fun us s2 ⟨xs,H2,I2,r2,q2⟩=>⟨x::xs,H2,I2,.cons r1 r2,q2⟩
def Ql (t:TA):TE:=fun σ H Q=>t σ H fun xs H1=>xs.length<=sizeLine/\∀p,H1 p=none->Q (.ref p) (upd H1 p (.tup xs))
def Mw (t:TA):TE:=fun σ H Q=>t σ H fun xs H1=>xs.length<=sizeLine/\∀p,H1 p=none->Q (.ref p) (upd H1 p (.lst xs))
theorem aQ {x1}(h:PA X es t):PE X (.Tuple es x1 pos) (Ql t):=by
 intro pins s σ H Q I hq
 refine wpAny_Tuple_spliced (bX (h pos pins s σ H _ I hq) fun us s1 ⟨xs,H1,I1,r,z,q⟩=>⟨by rw[<- r.length];exact z,?_⟩)
 have hf:H1 s1.heap.objs.size=none:=I1.hok.fresh (Nat.le_refl _)
 refine⟨.ref s1.heap.objs.size,upd H1 s1.heap.objs.size (.tup xs),I1.laid (t':=s1.toks) (fun b u e=>Heap.get?_push_of_some _ e) (Nat.le_refl _) ?_,rfl,q _ hf⟩
 exact⟨z,us,r,⟨_,Heap.get?_push_size _ rfl,rfl,_,rfl⟩⟩
theorem dB (h:PA X es t):PE X (.List es pos) (Mw t):=by
 intro pins s σ H Q I hq
 refine wpAny_List_spliced (bX (h pos pins s σ H _ I hq) fun us s1 ⟨xs,H1,I1,r,z,q⟩=>⟨by rw[<- r.length];exact z,?_⟩)
 have hf:H1 s1.heap.objs.size=none:=I1.hok.fresh (Nat.le_refl _)
 refine⟨.ref s1.heap.objs.size,upd H1 s1.heap.objs.size (.lst xs),I1.laid (t':=s1.toks) (fun b u e=>Heap.get?_push_of_some _ e) (Nat.le_refl _) ?_,rfl,q _ hf⟩
 exact⟨z,us,0,r,Heap.get?_push_size _ rfl⟩
end
abbrev Sp:=List V->Hp->VK->XK->Prop
abbrev zg:=List Env->Hp->Shared->XK->Value->Shared->Prop
structure v7 (P:Program) (w:World) (K:W.Frag) (mg:Str->Option Value) (base:Heap) (A:Around) (outer:List Env) (s:Shared) (H:Hp):Prop where
 frames:A.frames=some outer
 mod:Mod K mg base
 bs:∀b o,base.get? b=some o->s.heap.get? b=some o/\H b=none
 bsz:base.objs.size<=s.heap.objs.size
 funs:s.heap.FunFrames base outer
 frf:∀b∈frs outer,H b=none
 hok:kH P w H s.heap
 bare:AllBare s.gens
def CE (outer:List Env) (P:Program) (w:World) (H:Hp) (s:Shared) (Q:VK) (u:Value) (s':Shared):Prop :=
 ∃v H',s'.os=s.os/\AllBare s'.gens/\Un (frs outer) [] H H' s.heap s'.heap/\kH P w H' s'.heap/\RelV v u/\Q v H'
def CR (CX:zg) (outer:List Env) (P:Program) (w:World) (H:Hp) (s:Shared) (Q:VK) (E:XK) (r:Result) (s':Shared):Prop :=
 match r with
 | .ok (.ret u)=>CE outer P w H s Q u s'
 | .ok _=>False
 | .error e=>CX outer H s E e s'
structure iw (P:Program) (w:World) (K:W.Frag) (mg:Str->Option Value) (base:Heap) (CX:zg) (k:Nat) (f:Addr) (fd:FuncData) (ps:List Str) (sp:Sp):Prop where
 len:∀vs H Q E,sp vs H Q E->vs.length=ps.length
 run:∀(A:Around) (outer:List Env) (s:Shared) (H:Hp) (args:Args) (us:List Value) (vs:List V) (Q:VK) (E:XK),cA k A->v7 P w K mg base A outer s H->BindsTo s fd args (ps.zip us)->Vals vs us->sp vs H Q E ->
  codeAny (model P w) A (.call (.ref f) args) (CR CX outer P w H s Q E) s
theorem v7.make {P:Program}{w:World}{K:W.Frag}{mg:Str->Option Value}{base:Heap}{A:Around}{outer:List Env}{s:Shared}{H:Hp}(e:v7 P w K mg base A outer s H) (C:Addr) (us:List Value) (kw:List (Str×Value)) :
  v7 P w K mg base (A.under (.builtin "type.__call__" ⟨.ref C::us,kw⟩)) outer s H:=⟨by first|exact e.frames|(simpa [Around.under,Code.envs,Code.isFrame,pushEnvs] using e.frames),e.mod,e.bs,e.bsz,e.funs,e.frf,e.hok,e.bare⟩
section
variable {X:Cx}{pins:List (Addr×Obj)}{σ:St}{H:Hp}{s s':Shared}
theorem Inv.env0 (I:Inv X pins σ H s):v7 X.prog X.w X.K X.mg X.base X.A X.stack s H :=
 ⟨I.ok.frames,I.ok.mod,I.bs,Nat.le_trans I.ok.bsz I.sz,I.stack,I.stkFree,I.hok,I.bare⟩
theorem Inv.after {Q:VK}{u:Value}(I:Inv X pins σ H s) (h:CE X.stack X.prog X.w H s Q u s'):EP X pins σ Q u s':=by
 obtain⟨v,H',os,bare,un,hok,r,q⟩:=h
 obtain⟨hh,g,d,t,os'⟩:=s'
 obtain rfl:os'=s.os:=os
 exact⟨v,H',I.call (h':=hh) (g':=g) (d':=d) (t':=t) (ch:=[]) un hok bare (fun b z=>absurd z (by simp)),r,q⟩
end
def yc (sp:Sp) (dvs:List V) (E:XK) (t:TA):TE:=fun σ H Q=>t σ H fun vs H1=>sp (vs++dvs) H1 Q E
def t9 (C:Addr) (m:Str) (sp:Sp) (dvs:List V) (E:XK) (ta:TE) (t:TA):TE:=fun σ H Q=>ta σ H fun x H1=>∃a dx fs,x = .ref a/\H1 a=some (.ins C dx fs)/\fs.lookup m=none /\
 t σ H1 fun vs H2=>sp (x::(vs++dvs)) H2 Q E
def Fv (C:Addr) (sp:Sp) (dvs:List V) (E:XK) (t:TA):TE:=fun σ H Q=>t σ H fun vs H1=>∀x dx,H1 x=none->H1 dx=none->dx≠x ->
 sp (.ref x::(vs++dvs)) (upd (upd H1 dx (.own x)) x (.ins C dx [])) (fun v H2=>v = .non/\Q (.ref x) H2) E
def Binds (K:W.Frag) (fd:FuncData) (ps:List Str) (ds:List Value):Prop :=
 ∀(s:Shared) (us:List Value),K.In s.heap->(us++ds).length=ps.length->BindsTo s fd ⟨us,[]⟩ (ps.zip (us++ds))
theorem Binds.all {K:W.Frag}{fd:FuncData}{ps:List Str}(h:∀us:List Value,us.length=ps.length->bindArgs fd ⟨us,[]⟩=pure (ps.zip us)):Binds K fd ps []:=fun s us _ hl=>by
 rw[List.append_nil]at hl ⊢
 exact .of_eq (h us hl)
def Passes (CX:zg) (X:Cx) (E:XK):Prop:=∀(pins:List (Addr×Obj)) (σ:St) (H:Hp) (s:Shared) (e:Value) (s':Shared),Inv X pins σ H s->CX X.stack H s E e s'->X.xe e s'
section
variable {X:Cx}{CX:zg}{k:Nat}{f C:Addr}{fd:FuncData}{ps:List Str}{sp:Sp}{dvs:List V}{ds:List Value}{E:XK}{x m:Str}{p pos apos:Pos}{e o:Expr}{es:List Expr}{ta:TE}{t:TA}
theorem zw {pins:List (Addr×Obj)}{σ:St}{H:Hp}{s:Shared}{Q:VK}{us:List Value}{vs:List V}(F:iw X.prog X.w X.K X.mg X.base CX k f fd ps sp) (hr:cA k X.A) (hb:Binds X.K fd ps ds) (hd:Vals dvs ds) (hx:Passes CX X E)
  (I:Inv X pins σ H s) (r:Vals vs us) (h:sp (vs++dvs) H Q E):wpAny (model X.prog X.w) X.A (call (.ref f) us) (EP X pins σ Q) X.xe s:=by
 have r2:Vals (vs++dvs) (us++ds):=r.append hd
 have hl:(us++ds).length=ps.length:=by rw[<- r2.length];exact F.len _ _ _ _ h
 refine wpAny_call (codeAny_mono (F.run X.A X.stack s H ⟨us,[]⟩ (us++ds) (vs++dvs) Q E hr I.env0 (hb s us I.kIn hl) r2 h) fun r s' hq=>?_)
 cases r with
 | error e=>exact hx pins σ H s e s' I hq
 | ok fl =>
  cases fl with
  | ret u=>exact I.after hq
  | next=>exact False.elim hq
  | brk=>exact False.elim hq
  | cont=>exact False.elim hq
theorem Bg (F:iw X.prog X.w X.K X.mg X.base CX k f fd ps sp) (hr:cA k X.A) (hg:Gl X x) (hm:X.mg x=some (.ref f)) (hk:W.keepIn X.K (.ref f)=true) (hb:Binds X.K fd ps ds) (hd:Vals dvs ds) (hx:Passes CX X E)
  (ha:PA X (e::es) t) (hdb:(x ==("__debug__" : Str))=false:=by decide) (he:starEach (e::es) X.env =(false,eval e X.env)::starEach es X.env:=by rfl) (hpl:(backTo pos (starEach es X.env)).any (·.1)=false:=by rfl) :
  PE X (.Call (.Name x p) (e::es) [] pos) (yc sp dvs E t):=by
 intro pins s σ H Q I h
 refine wpAny_Call_Name_kw (pD I hg hm ?_ hdb)
 refine PySem.W.callWith_K (h₀:=X.base) I.ok.mod.kin hk (bX (ha pos pins s σ H _ I h) fun us s1 ⟨vs,H1,I1,r,q⟩=>⟨I1.kIn,?_⟩) he hpl
 exact zw F hr hb hd hx I1 r q
theorem A5 {pl:Sem Bool}(he:PE X o ta) (c:xy X.K C) (hm:Meth X.K C m f) (F:iw X.prog X.w X.K X.mg X.base CX k f fd ps sp) (hr:cA k X.A) (hb:Binds X.K fd ps ds) (hd:Vals dvs ds) (hx:Passes CX X E) (ha:PA X (e::es) t)
  (hst:starEach (e::es) X.env =(false,eval e X.env)::starEach es X.env:=by rfl) (hpl:(backTo pos (starEach es X.env)).any (·.1)=false:=by rfl)
  (ht:eval (.Call (.Attribute o m apos) (e::es) [] pos) X.env =(do
   let ov <- eval o X.env
   standAt apos.atName
   let (f,first) <- holding [ov] (getMethod ov m pl)
   callWith pos f first (backTo pos (starEach (e::es) X.env)) (backToKw pos (keywordEach [] X.env))):=by rfl) :
  PE X (.Call (.Attribute o m apos) (e::es) [] pos) (t9 C m sp dvs E ta t):=by
 intro pins s σ H Q I h
 refine PySem.W.methodCall_KW (pl:=pl) (bX (he pins s σ H _ I h) fun u s1 ⟨x,H1,I1,rx,a,dx,fs,ex,ea,l,q⟩=>?_) ht
 subst ex
 obtain rfl:u=Value.ref a:=rx
 refine kZ I1 ea c hm l ?_
 refine PySem.W.callWith_K (first:=[.ref a]) (h₀:=X.base) I.ok.mod.kin hm.kp (bX (ha pos pins s1 σ H1 _ I1 q) fun us s2 ⟨vs,H2,I2,r,q2⟩=>⟨I2.kIn,?_⟩) hst hpl
 exact zw (us:=.ref a::us) (vs:=.ref a::vs) F hr hb hd hx I2 (.cons rfl r) q2
theorem De {pl:Sem Bool}(he:PE X o ta) (c:xy X.K C) (hm:Meth X.K C m f) (F:iw X.prog X.w X.K X.mg X.base CX k f fd ps sp) (hr:cA k X.A) (hb:Binds X.K fd ps ds) (hd:Vals dvs ds) (hx:Passes CX X E)
  (ht:eval (.Call (.Attribute o m apos) [] [] pos) X.env =(do
   let ov <- eval o X.env
   standAt apos.atName
   let (f,first) <- holding [ov] (getMethod ov m pl)
   callWith pos f first (backTo pos (starEach [] X.env)) (backToKw pos (keywordEach [] X.env))):=by rfl) :
  PE X (.Call (.Attribute o m apos) [] [] pos) (t9 C m sp dvs E ta EJ):=by
 intro pins s σ H Q I h
 refine PySem.W.methodCall_KW (pl:=pl) (bX (he pins s σ H _ I h) fun u s1 ⟨x,H1,I1,rx,a,dx,fs,ex,ea,l,q⟩=>?_) ht
 subst ex
 obtain rfl:u=Value.ref a:=rx
 refine kZ I1 ea c hm l ?_
 exact PySem.W.callWith_K0 (first:=[.ref a]) I1.kIn hm.kp (zw (us:=[.ref a]) (vs:=[.ref a]) F hr hb hd hx I1 (.cons rfl .nil) q)
structure Mk (K:W.Frag) (C f:Addr):Prop where
 makes:PySem.W.makesIn K C=true
 init:W.findIn K (.ref C) "__init__" = some (some (.ref f))
 fn:W.isFn K (.ref f)=true
 kp:W.keepIn K (.ref C)=true
theorem EW {pins:List (Addr×Obj)}{σ:St}{H:Hp}{s:Shared}{Q:VK}{us:List Value}{vs:List V}(M:Mk X.K C f) (F:iw X.prog X.w X.K X.mg X.base CX k f fd ps sp) (hr:cA (k+1) X.A) (hb:Binds X.K fd ps ds) (hd:Vals dvs ds)
  (hx:Passes CX X E) (I:Inv X pins σ H s) (r:Vals vs us)
  (h:∀x dx,H x=none->H dx=none->dx≠x->sp (.ref x::(vs++dvs)) (upd (upd H dx (.own x)) x (.ins C dx [])) (fun v H2=>v = .non/\Q (.ref x) H2) E) :
  wpAny (model X.prog X.w) X.A (call (.ref C) us) (EP X pins σ Q) X.xe s:=by
 have hq:=h (s.heap.objs.size+1) s.heap.objs.size (I.hok.fresh (Nat.le_succ _)) (I.hok.fresh (Nat.le_refl _)) (Nat.ne_of_lt (Nat.lt_succ_self _))
 have I2:=Inv.made (C:=C) I
 have r2:Vals (V.ref (s.heap.objs.size+1)::(vs++dvs)) (Value.ref (s.heap.objs.size+1)::(us++ds)):=.cons rfl (r.append hd)
 have hl:(Value.ref (s.heap.objs.size+1)::us++ds).length=ps.length:=by
  have e:=r2.length
  rw[F.len _ _ _ _ hq]at e
  exact e.symm
 refine wpAny_call (DT (f:=f) I.kIn M.makes M.init (beq_iff_eq.mp M.fn) (codeAny_mono (F.run _ X.stack _ _ ⟨Value.ref (s.heap.objs.size+1)::us,[]⟩ (Value.ref (s.heap.objs.size+1)::(us++ds)) _ _ E (hr.make C us [])
  (I2.env0.make C us []) (hb _ (Value.ref (s.heap.objs.size+1)::us) I2.kIn hl) r2 hq) fun r s' hq'=>?_))
 cases r with
 | error e=>exact hx pins σ _ _ e s' I2 hq'
 | ok fl =>
  cases fl with
  | ret u =>
   obtain⟨v,H',I3,rv,ev,q3⟩:=I2.after hq'
   subst ev
   exact⟨rv,⟨V.ref (s.heap.objs.size+1),H',I3,rfl,q3⟩⟩
  | next=>exact False.elim hq'
  | brk=>exact False.elim hq'
  | cont=>exact False.elim hq'
theorem Jw (M:Mk X.K C f) (F:iw X.prog X.w X.K X.mg X.base CX k f fd ps sp) (hr:cA (k+1) X.A) (hg:Gl X x) (hm:X.mg x=some (.ref C)) (hb:Binds X.K fd ps ds) (hd:Vals dvs ds) (hx:Passes CX X E)
  (ha:PA X (e::es) t) (hdb:(x ==("__debug__" : Str))=false:=by decide) (he:starEach (e::es) X.env =(false,eval e X.env)::starEach es X.env:=by rfl) (hpl:(backTo pos (starEach es X.env)).any (·.1)=false:=by rfl) :
  PE X (.Call (.Name x p) (e::es) [] pos) (Fv C sp dvs E t):=by
 intro pins s σ H Q I h
 refine wpAny_Call_Name_kw (pD I hg hm ?_ hdb)
 refine PySem.W.callWith_K (h₀:=X.base) I.ok.mod.kin M.kp (bX (ha pos pins s σ H _ I h) fun us s1 ⟨vs,H1,I1,r,q⟩=>⟨I1.kIn,?_⟩) he hpl
 exact EW M F hr hb hd hx I1 r q
end
structure aB (N P:List Str) (sc:Scope):Prop where
 kind:sc.kind = .function
 co:sc.isCoroutine=false
 gen:sc.isGenerator=false
 nd:N.Nodup
 pre:N.take P.length=P
 par:∀x∈P,sc.names.lookup x=some .local\/sc.names.lookup x=some .cell
 nofree:∀y∈sc.names,y.2 ≠ .free
theorem uc {kindOf:Str->Option NameKind}{x:Str}:∀{binds:List (Str×Value)}{m:Str->Option Value},(∀v,(x,v)∉binds)->bindL kindOf binds m x=m x
 | [],_,_=>rfl
 | (n,v)::r,m,h=>by
  unfold bindL
  rw[uc fun w hw=>h w (List.mem_cons_of_mem _ hw)]
  split
  ·have:x≠n:=by rintro rfl;exact h v List.mem_cons_self
   simp[this]
  ·rfl
theorem uo {kindOf:Str->Option NameKind}{x:Str}:∀{binds:List (Str×Value)}{m:Str->Option Value},(∀v,(x,v)∉binds)->bindC kindOf binds m x=m x
 | [],_,_=>rfl
 | (n,v)::r,m,h=>by
  unfold bindC
  rw[uo fun w hw=>h w (List.mem_cons_of_mem _ hw)]
  split
  ·rfl
  ·have:x≠n:=by rintro rfl;exact h v List.mem_cons_self
   simp[this]
theorem gZ {kindOf:Str->Option NameKind}{x:Str}{v:Value}:∀{P:List Str}{vs:List Value}{i:Nat}{m:Str->Option Value},P.Nodup->P[i]? = some x->vs[i]? = some v->kindOf x=some .local ->
  bindL kindOf (P.zip vs) m x=some v
 | [],_,_,_,_,h,_,_=>by simp at h
 | _::_,[],_,_,_,_,h,_=>by simp at h
 | p::P,w::vs,0,m,nd,h1,h2,hk=>by
  simp at h1 h2;subst h1;subst h2
  show bindL kindOf ((p,w)::P.zip vs) m p=_
  unfold bindL
  rw[uc fun v hv=>(List.nodup_cons.mp nd).1 (List.of_mem_zip hv).1,if_pos hk]
  simp
 | p::P,w::vs,i+1,m,nd,h1,h2,hk=>by
  show bindL kindOf ((p,w)::P.zip vs) m x=_
  unfold bindL
  exact gZ (i:=i) (List.nodup_cons.mp nd).2 (by simpa using h1) (by simpa using h2) hk
theorem nP {kindOf:Str->Option NameKind}{x:Str}{v:Value}:∀{P:List Str}{vs:List Value}{i:Nat}{m:Str->Option Value},P.Nodup->P[i]? = some x->vs[i]? = some v->kindOf x≠some .local ->
  bindC kindOf (P.zip vs) m x=some v
 | [],_,_,_,_,h,_,_=>by simp at h
 | _::_,[],_,_,_,_,h,_=>by simp at h
 | p::P,w::vs,0,m,nd,h1,h2,hk=>by
  simp at h1 h2;subst h1;subst h2
  show bindC kindOf ((p,w)::P.zip vs) m p=_
  unfold bindC
  rw[uo fun v hv=>(List.nodup_cons.mp nd).1 (List.of_mem_zip hv).1,if_neg hk]
  simp
 | p::P,w::vs,i+1,m,nd,h1,h2,hk=>by
  show bindC kindOf ((p,w)::P.zip vs) m x=_
  unfold bindC
  exact nP (i:=i) (List.nodup_cons.mp nd).2 (by simpa using h1) (by simpa using h2) hk
def start (N:List Str) (vs:List V):St:=vs.map some++List.replicate (N.length-vs.length) none
def mQ (CX:zg) (P:Program) (w:World) (K:W.Frag) (mg:Str->Option Value) (base:Heap) (N:List Str) (qual:Str) (scope:Scope) (f:Addr) (cd:Value) (A:Around) (outer:List Env) (s:Shared) (H:Hp) (E:XK):Cx where
 prog:=P
 w:=w
 K:=K
 mg:=mg
 base:=base
 A:=A.deeper (envOfC qual scope s.heap.objs.size f cd)
 N:=N
 s₀:=s
 H₀:=H
 env:=envOfC qual scope s.heap.objs.size f cd
 outer:=outer
 stack:=envOfC qual scope s.heap.objs.size f cd::outer
 ex:=[]
 calm:=true
 fn:=fun _=>true
 pn:=[]
 xe:=fun e s'=>wpAny (model P w) (A.deeper (envOfC qual scope s.heap.objs.size f cd)) (leaving (envOfC qual scope s.heap.objs.size f cd) e) (fun _ s''=>CX outer H s E e s'') (fun e' s''=>CX outer H s E e' s'') s'
theorem lV {sc:Scope}{n:Nat}{x:Str}(h:sc.names.lookup x=some .cell):∃c,(cellsFrom n sc.names []).lookup x=some c:=by
 have q:=PySem.W.cellsFrom_some sc.names n [] (.inl h)
 exact Option.isSome_iff_exists.mp q
theorem C5 {CX:zg}{P:Program}{w:World}{K:W.Frag}{mg:Str->Option Value}{base:Heap}{N ps:List Str}{qual:Str}{scope:Scope}{f:Addr}{cd:Value}{A:Around}{outer:List Env}{s s1:Shared}{H:Hp}{E:XK}{us:List Value}{vs:List V}
  (S:aB N ps scope) (hd:A.handled=none) (e0:v7 P w K mg base A outer s H) (hl:vs.length=ps.length) (r:Vals vs us)
  (x:InCallC s s.heap.objs.size (bindL (envOfC qual scope s.heap.objs.size f cd).kindOf (ps.zip us) fun _=>none) (cellsFrom (s.heap.objs.size+1) scope.names []) (bindC (envOfC qual scope s.heap.objs.size f cd).kindOf (ps.zip us) fun _=>none) s1) :
  Inv (mQ CX P w K mg base N qual scope f cd A outer s H E) [] (start N vs) H s1:=by
 have hpl:ps.length<=N.length:=by have:=congrArg List.length S.pre;rw[List.length_take]at this;omega
 obtain⟨h1,tk,rfl,hk⟩:=x.done
 have noA:∀b:Addr,b∉(mQ CX P w K mg base N qual scope f cd A outer s H E).ex:=fun b z=>absurd (show b∈([]:List Addr) from z) (by simp)
 refine⟨⟨e0.mod,S.kind,rfl,rfl,Nat.le_refl _,fun y z c h1 h2=>?_,fun y hy=>?_,fun y c _ h=>?_,fun _=>hd,Around.frames_deeper e0.frames,.inr ⟨rfl,rfl⟩,fun b z=>absurd z (noA b),e0.bs,e0.bsz,fun b _ _=>noA b,fun b z=>absurd z (noA b),e0.funs,e0.frf⟩,
  rfl,e0.bare,Un.kept hk,⟨_,x.toInCall.ns,fun i y v h1 h2 h3=>?_⟩,fun y c h=>⟨_,x.cell y c h⟩,e0.hok.fresh (Nat.le_refl _),fun y c h=>?_,fun p hp=>absurd (show p∈([]:List (Addr×Obj)) from hp) (by simp),e0.hok.kept hk,?_⟩
 ·exact name_of_addr x.apart (PySem.mem_of_lookup h1) (PySem.mem_of_lookup h2)
 ·have hy:scope.names.lookup y=some .cell\/scope.names.lookup y=some .free:=hy
  rcases hy with hy|hy
  ·exact lV hy
  ·exact absurd rfl (S.nofree _ (PySem.mem_of_lookup hy))
 ·exact Nat.le_of_lt (x.above y c (PySem.mem_of_lookup h))
 ·have hi:i<vs.length:=by
   unfold start at h2
   by_cases hi:i<vs.length
   ·exact hi
   ·rw[List.getElem?_append_right (by simpa using hi)]at h2
    rw[List.getElem?_replicate]at h2
    split at h2 <;> cases h2
  have ha:vs[i]? = some v:=by
   unfold start at h2
   rw[List.getElem?_append_left (by simpa using hi),List.getElem?_map]at h2
   cases e:vs[i]? with
   | none=>rw[e]at h2;cases h2
   | some a=>rw[e]at h2;cases h2;rfl
  obtain⟨u,hu,rv⟩:=r.get ha
  have hp:ps[i]? = some y:=by
   rw[<- S.pre,List.getElem?_take_of_lt (by omega)];exact h1
  have ndP:ps.Nodup:=by rw[<- S.pre];exact S.nd.sublist (List.take_sublist _ _)
  refine⟨u,rv,?_⟩
  rcases S.par y (List.mem_of_getElem? hp) with k|k
  ·exact .inl ⟨k,gZ ndP hp hu k⟩
  ·obtain⟨c,e⟩:=lV (n:=s.heap.objs.size+1) k
   refine .inr ⟨.inl k,c,e,?_⟩
   have q:=x.cell y c e
   rw[nP ndP hp hu (by show scope.names.lookup y≠_;rw[k];decide)]at q
   exact q
 ·exact e0.hok.fresh (Nat.le_of_lt (x.above y c (PySem.mem_of_lookup h)))
 ·unfold start
  show _=N.length
  rw[List.length_append,List.length_map,List.length_replicate]
  omega
theorem K_ {CX:zg}{P:Program}{w:World}{K:W.Frag}{mg:Str->Option Value}{base:Heap}{k:Nat}{f:Addr}{name qual:Str}{params:Arguments}{body:List Stmt}{scope:Scope}{dV kV doc pm cdv ct oc:Value}{an od:Option Addr}
  {osl:Array (Option Value)}{N ps:List Str}{sp:Sp}(lk:K.lookup f=some ⟨oc,od,.func (W.fnOf name qual params body scope dV kV doc pm an cdv ct),osl⟩) (hcd:W.codeIn K cdv qual=true) (S:aB N ps scope)
  (len:∀vs H Q E,sp vs H Q E->vs.length=ps.length)
  (hbody:∀(A:Around) (outer:List Env) (s:Shared) (H:Hp) (vs:List V) (Q:VK) (E:XK),cA k (A.deeper (envOfC qual scope s.heap.objs.size f cdv))->sp vs H Q E ->
   ∃t,o_ (mQ CX P w K mg base N qual scope f cdv A outer s H E) body t/\t { nx:=fun _ H'=>Q .non H',rt:=Q } (start N vs) H) :
  iw P w K mg base CX (k+1) f (W.fnOf name qual params body scope dV kV doc pm an cdv ct) ps sp:=by
 refine⟨len,fun A outer s H args us vs Q E hr e0 hb r hsp=>?_⟩
 have hl:=len _ _ _ _ hsp
 have KX:K.In s.heap:=e0.mod.kin.keeps fun b o e=>(e0.bs b o e).1
 have lim:s.heap.NoLimit:=e0.mod.nolimit.keeps fun b o e=>(e0.bs b o e).1
 have hkind:∀y∈ps.zip us,scope.names.lookup y.1=some .local \/(scope.names.lookup y.1=some .cell/\((cellsFrom (s.heap.objs.size+1) scope.names []).lookup y.1).isSome=true):=fun⟨n,v⟩ hy=>by
  rcases S.par n (List.of_mem_zip hy).1 with q|q
  ·exact .inl q
  ·exact .inr ⟨q,PySem.W.cellsFrom_some _ _ _ (.inl q)⟩
 refine codeAny_call_function hr.depth (KX _ _ lk) rfl S.co S.gen rfl (PySem.W.codeRec_of KX hcd) (hb _ _ _ _ ?_)
 refine wpAny_newFunctionEnv_cells S.kind hkind fun env he s1 x=>?_
 subst he
 refine⟨lim.keeps x.toInCall.keep,codeAny_func ?_⟩
 obtain⟨t,ht,hq⟩:=hbody A outer s H vs Q E (hr.deeper _) hsp
 have I:Inv (mQ CX P w K mg base N qual scope f cdv A outer s H E) [] (start N vs) H s1:=C5 S hr.hd e0 hl r x
 refine wpAny_mono (ht [] s1 (start N vs) H _ I hq) (fun fl s' hs=>?_) fun e s' hs=>hs
 have fin:∀{σ':St}{H':Hp}{v:V}{u:Value},Inv (mQ CX P w K mg base N qual scope f cdv A outer s H E) [] σ' H' s'->RelV v u->Q v H'->CE outer P w H s Q u s' :=
  fun {σ' H' v u} J rv q=>⟨v,H',J.os,J.bare,J.base,J.hok,rv,q⟩
 cases fl with
 | ret u =>
  obtain⟨v,σ',H',J,rv,q⟩:=hs
  exact fin J rv q
 | next =>
  obtain⟨σ',H',J,q⟩:=hs
  exact fin (v:=V.non) (u:=Value.none) J rfl q
 | brk =>
  obtain⟨_,_,_,q⟩:=hs
  exact False.elim q
 | cont =>
  obtain⟨_,_,_,q⟩:=hs
  exact False.elim q
section
variable {X:Cx}{x:Str}{p pos:Pos}{e:Expr}{es:List Expr}{t:TA}{id T:String}{r:List V->Hp->VK->Prop}
def Wi (r:List V->Hp->VK->Prop) (t:TA):TE:=fun σ H Q=>t σ H fun vs H1=>r vs H1 Q
theorem aL (hc:cG X (.builtin id) r) (hg:Gl X x) (hm:X.mg x=none) (hv:bootBuiltins x=some (.builtin id)) (ha:PA X (e::es) t) (hn:x ≠ "__name__" := by decide) (hdb:(x ==("__debug__" : Str))=false:=by decide)
  (he:starEach (e::es) X.env =(false,eval e X.env)::starEach es X.env:=by rfl) (hpl:(backTo pos (starEach es X.env)).any (·.1)=false:=by rfl):PE X (.Call (.Name x p) (e::es) [] pos) (Wi r t):=by
 intro pins s σ H Q I h
 refine wpAny_Call_Name_kw (vf I hg hm hv ?_ hn hdb)
 exact PyProof.Rows.callWith_builtin1 (bX (ha pos pins s σ H _ I h) fun us s1 ⟨vs,H1,I1,r1,q1⟩=>hc pins s1 σ H1 vs us Q I1 r1 q1) he hpl
theorem fO (hc:cG X (.type T) r) (hg:Gl X x) (hm:X.mg x=none) (hv:bootBuiltins x=some (.type T)) (ha:PA X (e::es) t) (hn:x ≠ "__name__" := by decide) (hdb:(x ==("__debug__" : Str))=false:=by decide)
  (he:starEach (e::es) X.env =(false,eval e X.env)::starEach es X.env:=by rfl) (hpl:(backTo pos (starEach es X.env)).any (·.1)=false:=by rfl):PE X (.Call (.Name x p) (e::es) [] pos) (Wi r t):=by
 intro pins s σ H Q I h
 refine wpAny_Call_Name_kw (vf I hg hm hv ?_ hn hdb)
 exact PyProof.Rows.callWith_type1 (bX (ha pos pins s σ H _ I h) fun us s1 ⟨vs,H1,I1,r1,q1⟩=>hc pins s1 σ H1 vs us Q I1 r1 q1) he hpl
end
end L2
namespace HT
open PySem PyProof.Rows
section
open PySem.SeqAt
open PySem.AutoSeq1 (wpAny_loadPart')
open PySem.MeetsSeq PySem.MeetsSeq2 PySem.MeetsSeq3
end
section
variable {prog:Program}{w:World}{A:Around}{E:Value->Shared->Prop}{s:Shared}
def sIx (n d:Nat):Option Int->Nat
 | none=>d
 | some v=>if v<0 then(v+(n:Int)).toNat else min v.toNat n
theorem sIx_none (n d:Nat):sIx n d none=d:=rfl
theorem sIx_nat (n d k:Nat):sIx n d (some (k:Int))=min k n:=by
 show(if (k:Int)<0 then((k:Int)+(n:Int)).toNat else min (k:Int).toNat n)=min k n
 rw[if_neg (by omega),Int.toNat_natCast]
end
end HT
namespace L2
open PySem PySem.Spec PyProof.Rows
abbrev TO:=St->Hp->(Option Int->Hp->Prop)->Prop
def PO (X:Cx) (e:Option Expr) (t:TO):Prop :=
 ∀(pins:List (Addr×Obj)) (s:Shared) (σ:St) (H:Hp) (Q:Option Int->Hp->Prop),Inv X pins σ H s->t σ H Q ->
  wpAny (model X.prog X.w) X.A (evalPart e X.env) (fun u s'=>∃o H',Inv X pins σ H' s'/\IsPart u o/\Q o H') X.xe s
def Bc:TO:=fun _ H Q=>Q none H
def Lw (t:TE):TO:=fun σ H Q=>t σ H fun x H1=>∃i,x = .int i/\Q (some i) H1
theorem intsAre_of {ns:List Int}:∀{us:List Value},Vals (ns.map V.int) us->IntsAre us ns:=by
 induction ns with
 | nil=>intro us r;rw[List.map_nil]at r;cases r;exact .nil
 | cons n ns ih =>
  intro us r
  rw[List.map_cons]at r
  cases r with
  | cons r1 r2 =>
   obtain⟨t,e⟩:=r1
   subst e
   exact .cons n t (ih r2)
section
variable {X:Cx}{e:Expr}{te:TE}{lo hi:Option Expr}{tl th:TO}{pos p2:Pos}
theorem j6:PO X none Bc:=by
 intro pins s σ H Q I h
 rw[evalPart_none]
 exact wpAny_pure ⟨none,H,I,.none,h⟩
theorem gm (h:PE X e te):PO X (some e) (Lw te):=by
 intro pins s σ H Q I hw
 rw[evalPart_some]
 refine bX (h pins s σ H _ I hw) fun u s1 ⟨x,H1,I1,r1,q1⟩=>?_
 obtain⟨i,rfl,q⟩:=q1
 obtain⟨t,rfl⟩:=r1
 exact⟨some i,H1,I1,.int i t,q⟩
def Q4 (X:Cx) (r:V->Option Int->Option Int->Hp->VK->Prop):Prop :=
 ∀(pins:List (Addr×Obj)) (s:Shared) (σ:St) (H:Hp) (x:V) (v vl vu:Value) (lo hi:Option Int) (sl:Addr) (Q:VK),Inv X pins σ H s->RelV x v->s.heap.IsSliceOf sl vl vu .none->IsPart vl lo->IsPart vu hi->r x lo hi H Q ->
  ∃T id,typeLookup (.type T) "__getitem__" = pure (some (.builtin id))/\s.TypeIs v T/\wpAny (model X.prog X.w) X.A (getItem v (.ref sl)) (EP X pins σ Q) X.xe s
def Wr (r:V->Option Int->Option Int->Hp->VK->Prop) (te:TE) (tl th:TO):TE:=fun σ H Q=>te σ H fun x H1=>tl σ H1 fun l H2=>th σ H2 fun u H3=>r x l u H3 Q
theorem fV {r:V->Option Int->Option Int->Hp->VK->Prop}(hr:Q4 X r) (he:PE X e te) (hl:PO X lo tl) (hu:PO X hi th):PE X (.Subscript e (.Slice lo hi none p2) pos) (Wr r te tl th):=by
 intro pins s σ H Q I h
 refine Subscript_ (bX (he pins s σ H _ I h) fun v s1 ⟨x,H1,I1,r1,q1⟩=>?_)
 refine wpAny_Slice (bX (hl pins s1 σ H1 _ I1 q1) fun vl s2 ⟨l,H2,I2,pl,q2⟩=>bX (hu pins s2 σ H2 _ I2 q2) fun vu s3 ⟨u,H3,I3,pu,q3⟩=>?_)
 rw[evalPart_none]
 refine wpAny_pure ?_
 have I4:Inv X pins σ H3 { s3 with heap:=s3.heap.push { cls:=.type "slice",data:=.fields #[vl,vu,.none] } }:=I3.kept (t':=s3.toks) fun b ob q=>Heap.get?_push_of_some _ q
 obtain⟨T,id,hT,ht,hg⟩:=hr pins { s3 with heap:=s3.heap.push { cls:=.type "slice",data:=.fields #[vl,vu,.none] } } σ H3 x v vl vu l u s3.heap.objs.size Q I4 r1 (Heap.IsSliceOf.new ..) pl pu q3
 show wpAny (model X.prog X.w) X.A (subscriptTail e (.Slice lo hi none p2) v (.ref s3.heap.objs.size)) (EP X pins σ Q) X.xe { s3 with heap:=s3.heap.push { cls:=.type "slice",data:=.fields #[vl,vu,.none] } }
 exact tail_any (ops:=[.ref s3.heap.objs.size,v]) ht hT hg (by with_unfolding_all rfl)
def lQ (xs:List V) (lo hi:Option Int):List V:=(xs.drop (HT.sIx xs.length 0 lo)).take (HT.sIx xs.length xs.length hi-HT.sIx xs.length 0 lo)
theorem x_ (xs:List V) (lo hi:Option Int):(lQ xs lo hi).length<=xs.length:=by
 unfold lQ
 rw[List.length_take,List.length_drop]
 omega
end
def Fc (n:Nat) (i:Int):Option Nat:=if 0<=i then(if i<n then some i.toNat else none) else if -(n:Int)<=i then some (i+n).toNat else none
def sZ {α:Type}(xs:List α) (i:Int):Option α:=(Fc xs.length i).bind fun j=>xs[j]?
theorem AG {n:Nat}{i:Int}{j:Nat}(h:Fc n i=some j):seqIndex? i n=some j/\j<n/\-(n:Int)<=i/\i<n:=by
 unfold Fc at h
 by_cases h0:0<=i
 ·rw[if_pos h0]at h
  by_cases h1:i<n
  ·rw[if_pos h1]at h
   have e:i.toNat=j:=Option.some.inj h
   exact⟨by rw[seqIndex_of h0 h1,e],by omega,by omega,h1⟩
  ·rw[if_neg h1]at h;cases h
 ·rw[if_neg h0]at h
  by_cases h1:-(n:Int)<=i
  ·rw[if_pos h1]at h
   have e:(i+n).toNat=j:=Option.some.inj h
   exact⟨by rw[seqIndex_neg (by omega) h1,e],by omega,h1,by omega⟩
  ·rw[if_neg h1]at h;cases h
theorem pK {α:Type}{xs:List α}{i:Int}{v:α}(h:sZ xs i=some v):∃j,seqIndex? i xs.length=some j/\xs[j]? = some v/\j<xs.length/\-(xs.length:Int)<=i/\i<xs.length:=by
 unfold sZ at h
 cases e:Fc xs.length i with
 | none=>rw[e]at h;cases h
 | some j =>
  rw[e]at h
  obtain⟨h1,h2,h3,h4⟩:=AG e
  exact⟨j,h1,h,h2,h3,h4⟩
theorem fE {α:Type}{xs:List α}{j:Nat}{v:α}(h:xs[j]? = some v):sZ xs (j:Int)=some v:=by
 have hj:j<xs.length:=(List.getElem?_eq_some_iff.mp h).1
 have e:Fc xs.length (j:Int)=some j:=by
  unfold Fc
  rw[if_pos (by omega),if_pos (by omega)];simp
 unfold sZ;rw[e];exact h
def G9 (b:Expr):Prop:=∀o i,subscripted b false o i=operate [o,i] (getItem o i)
def QM (X:Cx) (r:R2):Prop :=
 ∀(value slice:Expr) (pins:List (Addr×Obj)) (s:Shared) (σ:St) (H:Hp) (x y:V) (v u:Value) (Q:VK),Inv X pins σ H s->RelV x v->RelV y u->r x y H Q ->
  subscripted slice false v u=operate [v,u] (getItem v u)->wpAny (model X.prog X.w) X.A (subscriptTail value slice v u) (EP X pins σ Q) X.xe s
def Lc (X:Cx) (id:String) (r:V->List V->Hp->VK->Prop):Prop :=
 ∀(pins:List (Addr×Obj)) (s:Shared) (σ:St) (H:Hp) (x:V) (xs:List V) (v:Value) (us:List Value) (Q:VK),Inv X pins σ H s->RelV x v->Vals xs us->r x xs H Q ->
  wpAny (model X.prog X.w) X.A (call (.builtin id) (v::us)) (EP X pins σ Q) X.xe s
section
variable {X:Cx}{a b:Expr}{ta tb:TE}{pos:Pos}
theorem bV {r:R2}(hr:QM X r) (ha:PE X a ta) (hb:PE X b tb) (hs:G9 b):PE X (.Subscript a b pos) (Qq r ta tb):=by
 intro pins s σ H Q I h
 exact Subscript_ (N2 ha hb I h fun v u s2 x y H2 I2 rx ry q=>hr a b pins s2 σ H2 x y v u Q I2 rx ry q (hs _ _))
def Nr (K:W.Frag):R2:=fun x y H Q=>∃p xs i v,x = .ref p/\y = .int i/\bN K H p xs/\sZ xs i=some v/\Q v H
def O_ (K:W.Frag):R2:=fun x y H Q=>∃p xs i v,x = .ref p/\y = .int i/\oS K H p xs/\sZ xs i=some v/\Q v H
def Pe:R2:=fun x y H Q=>∃z i c,x = .str z/\y = .int i/\z.length<=sizeLine/\sZ z.cps.toList i=some c/\Q (.str ⟨#[c]⟩) H
theorem bG:QM X (Nr X.K):=by
 intro value slice pins s σ H x y v u Q I rx ry h hs
 obtain⟨p,xs,i,z,rfl,rfl,hq,he,q⟩:=h
 cases rx
 obtain⟨t,rfl⟩:=ry
 obtain⟨its,r,pl,hz⟩:=I.list hq
 obtain⟨j,h1,h2,h3,h4,h5⟩:=pK he
 obtain⟨w,ew,rw'⟩:=r.get h2
 have hl:=r.length
 have hn:=jh
 have fin:EP X pins σ Q w s:=⟨z,H,I,rw',q⟩
 by_cases h0:0<=i
 ·have hj:i.toNat=j:=by
   rw[seqIndex_of h0 h5]at h1
   exact Option.some.inj h1
  exact item_listR pl.isList h0 (by omega) (by rw[hj];simpa using ew) fin hs
 ·have hj:(i+(its.toArray.size:Int)).toNat=j:=by
   rw[seqIndex_neg (by omega) h4]at h1
   rw[List.size_toArray,<- hl]
   exact Option.some.inj h1
  exact subscriptTail_builtinR (x:=w) pl.isList.typeIs slot_list_getitem.lookup
   (wpAny_getItem_list_neg (Q:=fun r s'=>r=w/\EP X pins σ Q r s') pl.isList (by omega) (by rw[List.size_toArray] <;> omega) (by omega) (by rw[hj];simpa using ew) ⟨rfl,fin⟩) hs
theorem jq:QM X (O_ X.K):=by
 intro value slice pins s σ H x y v u Q I rx ry h hs
 obtain⟨p,xs,i,z,rfl,rfl,hq,he,q⟩:=h
 cases rx
 obtain⟨t,rfl⟩:=ry
 obtain⟨its,r,pl,hz⟩:=I.tuple hq
 obtain⟨j,h1,h2,h3,h4,h5⟩:=pK he
 obtain⟨w,ew,rw'⟩:=r.get h2
 have hl:=r.length
 have hn:=jh
 have fin:EP X pins σ Q w s:=⟨z,H,I,rw',q⟩
 exact subscriptTail_builtinR (x:=w) pl.typeIs slot_tuple_getitem.lookup
  (getItem_tuple (j:=j) (Q:=fun r s'=>r=w/\EP X pins σ Q r s') pl (by omega) (by omega) (by rw[List.size_toArray,<- hl];exact h1) (by simpa using ew) ⟨rfl,fin⟩) hs
theorem Eo:QM X Pe:=by
 intro value slice pins s σ H x y v u Q I rx ry h hs
 obtain⟨z,i,c,rfl,rfl,hz,he,q⟩:=h
 obtain⟨t,rfl⟩:=rx
 obtain⟨t',rfl⟩:=ry
 obtain⟨j,h1,h2,h3,h4,h5⟩:=pK he
 have hl:z.cps.toList.length=z.length:=by simp[Str.length]
 rw[hl]at h1 h4 h5
 have hn:=jh
 exact tail_any (typeIs_str s z t) slot_str_getitem.lookup (getItem_str (c:=c) (by
  have e1:decide (i < -(2^63:Int))=false:=decide_eq_false (by omega)
  have e2:decide (i ≥ 2^63)=false:=decide_eq_false (by omega)
  rw[e1,e2,Bool.or_false]) (by rw[h1];simpa using h2) ⟨.str ⟨#[c]⟩,H,I.tok _,⟨_,rfl⟩,q⟩) hs
theorem zk (its:List Value) (n j:Nat) (u:Value):Obj.mapSeq (·.setIfInBounds j u) { cls:=.type "list",data:=.seq its.toArray n } = { cls:=.type "list",data:=.seq (its.set j u).toArray n }:=by
 simp[Obj.mapSeq]
theorem Inv.lst {pins:List (Addr×Obj)}{σ:St}{H:Hp}{s:Shared}{p:Addr}{xs:List V}(I:Inv X pins σ H s) (h:H p=some (.lst xs)) :
  ∃(its:List Value) (n:Nat),Vals xs its/\s.heap.get? p=some { cls:=.type "list",data:=.seq its.toArray n }/\xs.length<=sizeLine:=by
 obtain⟨z,its,n,r,e⟩:=I.hok p _ h
 exact⟨its,n,r,e,z⟩
theorem Inv.lstUpd {pins:List (Addr×Obj)}{σ:St}{H:Hp}{s:Shared}{p:Addr}{xs ys:List V}{its its':List Value}{n n':Nat}{f:Obj->Obj}(I:Inv X pins σ H s) (h:H p=some (.lst xs))
  (ho:s.heap.get? p=some { cls:=.type "list",data:=.seq its.toArray n }) (hf:f { cls:=.type "list",data:=.seq its.toArray n } = { cls:=.type "list",data:=.seq its'.toArray n' }) (r:Vals ys its') (hz:ys.length<=sizeLine) (t:Nat) :
  Inv X pins σ (upd H p (.lst ys)) { s with heap:=s.heap.update p f,toks:=t }:=by
 have e:(s.heap.update p f).get? p=some { cls:=.type "list",data:=.seq its'.toArray n' }:=by
  rw[Heap.get?_update_self f ho (by rw[hf] <;> rfl),hf]
 refine I.write (x:=p) (e:=p) (by rw[h];trivial) (.inl rfl) (fun b u hb q=>(Heap.get?_update_other _ _ (Ne.symm hb)).trans q) ⟨_,e⟩ ?_
 exact⟨hz,its',n',r,e⟩
def Fb:V->V->V->Hp->(Hp->Prop)->Prop:=fun o i v H Q=>∃p xs k j,o = .ref p/\i = .int k/\H p=some (.lst xs)/\Fc xs.length k=some j/\Q (upd H p (.lst (xs.set j v)))
theorem set_list:Mz X Fb:=by
 intro pins s σ H o i v ov iv u Q I ro ri rv h
 obtain⟨p,xs,k,j,rfl,rfl,hp,hj,q⟩:=h
 cases ro
 obtain⟨t,rfl⟩:=ri
 obtain⟨its,n,r,ho,hz⟩:=I.lst hp
 obtain⟨h1,h2,h3,h4⟩:=AG hj
 have hl:=r.length
 have hn:=jh
 have I':Inv X pins σ (upd H p (.lst (xs.set j v))) { s with heap:=s.heap.update p (Obj.mapSeq (·.setIfInBounds j u)) } :=
  I.lstUpd hp ho (zk its n j u) (r.set rv j) (by rw[List.length_set];exact hz) s.toks
 by_cases h0:0<=k
 ·have hk:k.toNat=j:=by
   rw[seqIndex_of h0 h4]at h1
   exact Option.some.inj h1
  exact PySem.W.ki_setAt ho h0 (by omega) (by rw[List.size_toArray,<- hl];exact h4) (by rw[hk];exact⟨_,I',q⟩)
 ·have hk:(k+(its.toArray.size:Int)).toNat=j:=by
   rw[seqIndex_neg (by omega) h3]at h1
   rw[List.size_toArray,<- hl]
   exact Option.some.inj h1
  exact PySem.W.ki_setBack ho (by omega) (by rw[List.size_toArray,<- hl];exact h3) (by omega) (by rw[hk];exact⟨_,I',q⟩)
theorem uX (lo hi:Option Int) (n:Nat):(sliceBounds lo hi none n).1 =((HT.sIx n 0 lo:Nat):Int)/\(sliceBounds lo hi none n).2.1 =((HT.sIx n n hi:Nat):Int)/\(sliceBounds lo hi none n).2.2=1:=by
 refine⟨?_,?_,rfl⟩
 ·cases lo with
  | none=>simp[sliceBounds,HT.sIx]
  | some i =>
   simp only[sliceBounds,HT.sIx,Option.getD_none,show(1:Int) > 0 by decide,if_true]
   by_cases h:i<0
   ·simp only[h,if_true] <;> omega
   ·simp only[h,if_false] <;> omega
 ·cases hi with
  | none=>simp[sliceBounds,HT.sIx]
  | some i =>
   simp only[sliceBounds,HT.sIx,Option.getD_none,show(1:Int) > 0 by decide,if_true]
   by_cases h:i<0
   ·simp only[h,if_true] <;> omega
   ·simp only[h,if_false] <;> omega
theorem sY (its:List Value) (lo hi:Option Int):slicePick its.toArray lo hi none =((its.drop (HT.sIx its.length 0 lo)).take (HT.sIx its.length its.length hi-HT.sIx its.length 0 lo)).toArray:=by
 obtain⟨h1,h2,h3⟩:=uX lo hi its.toArray.size
 unfold slicePick
 rw[h1,h2,h3]
 simp only[sliceRange_one,pick_run,List.size_toArray] <;> rfl
def Ov (K:W.Frag):V->Option Int->Option Int->Hp->VK->Prop:=fun x lo hi H Q=>∃a xs,x = .ref a/\bN K H a xs/\∀p,H p=none->Q (.ref p) (upd H p (.lst (lQ xs lo hi)))
theorem mS:Q4 X (Ov X.K):=by
 intro pins s σ H x v vl vu lo hi sl Q I rx hs pl pu h
 obtain⟨a,xs,rfl,hx,q⟩:=h
 cases rx
 obtain⟨its,r,ht,hz⟩:=I.list hx
 have hlen:=r.length
 refine⟨"list",_,slot_list_getitem.lookup,ht.isList.typeIs,?_⟩
 refine wpAny_getItem_list_slice ht.isList hs pl pu .none (by simp) ?_ (by rw[List.size_toArray] <;> omega)
 rw[sY,<- hlen]
 refine⟨.ref s.heap.objs.size,_,I.laid (t':=s.toks) (o:=.lst (lQ xs lo hi)) (fun b ob q=>Heap.get?_push_of_some _ q) (Nat.le_refl _) ?_,rfl,q _ (I.hok.fresh (Nat.le_refl _))⟩
 exact⟨Nat.le_trans (x_ xs lo hi) hz,_,0,(r.drop (HT.sIx xs.length 0 lo)).take (HT.sIx xs.length xs.length hi-HT.sIx xs.length 0 lo),Heap.get?_push_size _ rfl⟩
def l6:V->Bool
 | .non=>true
 | .bl _=>true
 | .int _=>true
 | .str _=>true
 | _=>false
def Ef:V->V->Bool
 | .non,.non=>true
 | .bl a,.bl b=>a == b
 | .bl a,.int b=>(if a then 1 else 0) == b
 | .int a,.bl b=>a ==(if b then 1 else 0)
 | .int a,.int b=>a == b
 | .str a,.str b=>a == b
 | _,_=>false
theorem Mp {A:Around}{s:Shared}{y x:V}{u v:Value}(ry:RelV y u) (rx:RelV x v) (fy:l6 y=true) (fx:l6 x=true):SeqAt.EqAt A s u v (Ef y x):=by
 cases y with
 | non =>
  cases ry
  cases x with
  | non=>cases rx;exact SeqAt.EqAt.same _
  | bl b=>cases rx;exact SeqAt.EqAt.none_bool b
  | int b=>obtain⟨t,rfl⟩:=rx;exact SeqAt.EqAt.none_int b t
  | str b=>obtain⟨t,rfl⟩:=rx;exact SeqAt.EqAt.none_str b t
  | _=>exact absurd (show false=true from fx) Bool.false_ne_true
 | bl a =>
  cases ry
  cases x with
  | non=>cases rx;exact SeqAt.EqAt.bool_none a
  | bl b=>cases rx;exact SeqAt.EqAt.bool_bool a b
  | int b=>obtain⟨t,rfl⟩:=rx;exact SeqAt.EqAt.bool_int a b t
  | str b=>obtain⟨t,rfl⟩:=rx;exact SeqAt.EqAt.bool_str a b t
  | _=>exact absurd (show false=true from fx) Bool.false_ne_true
 | int a =>
  obtain⟨t',rfl⟩:=ry
  cases x with
  | non=>cases rx;exact SeqAt.EqAt.int_none a t'
  | bl b=>cases rx;exact SeqAt.EqAt.int_bool a t' b
  | int b=>obtain⟨t,rfl⟩:=rx;exact SeqAt.EqAt.int_int a t' b t
  | str b=>obtain⟨t,rfl⟩:=rx;exact SeqAt.EqAt.int_str a t' b t
  | _=>exact absurd (show false=true from fx) Bool.false_ne_true
 | str a =>
  obtain⟨t',rfl⟩:=ry
  cases x with
  | non=>cases rx;exact SeqAt.EqAt.str_none a t'
  | bl b=>cases rx;exact SeqAt.EqAt.str_bool a t' b
  | int b=>obtain⟨t,rfl⟩:=rx;exact SeqAt.EqAt.str_int a t' b t
  | str b=>obtain⟨t,rfl⟩:=rx;exact SeqAt.EqAt.str_str a t' b t
  | _=>exact absurd (show false=true from fx) Bool.false_ne_true
 | _=>exact absurd (show false=true from fy) Bool.false_ne_true
def J0 (x:V) (u:Value):Bool:=match u with
 | .none=>Ef .non x
 | .bool b=>Ef (.bl b) x
 | .int i _=>Ef (.int i) x
 | .str z _=>Ef (.str z) x
 | _=>false
theorem DH {x y:V}{u:Value}(r:RelV y u) (f:l6 y=true):J0 x u=Ef y x:=by
 cases y with
 | non=>cases r;rfl
 | bl b=>cases r;rfl
 | int i=>obtain⟨t,rfl⟩:=r;rfl
 | str z=>obtain⟨t,rfl⟩:=r;rfl
 | _=>exact absurd (show false=true from f) Bool.false_ne_true
theorem vJ {x:V}:∀{xs:List V}{us:List Value},Vals xs us->xs.all l6=true->us.any (J0 x)=xs.any fun y=>Ef y x
 | _,_,.nil,_=>rfl
 | y::xs,u::us,.cons r t,f=>by
  rw[List.all_cons,Bool.and_eq_true]at f
  rw[List.any_cons,List.any_cons,DH r f.1,vJ t f.2]
theorem pV {A:Around}{s:Shared}{x:V}{v:Value}(rx:RelV x v) (fx:l6 x=true):∀{xs:List V}{us:List Value},Vals xs us->xs.all l6=true->∀u∈us,SeqAt.EqAt A s u v (J0 x u)
 | _,_,.nil,_=>fun u hu=>by cases hu
 | y::xs,u::us,.cons r t,f=>fun u' hu=>by
  rw[List.all_cons,Bool.and_eq_true]at f
  rcases List.mem_cons.mp hu with rfl|hu
  ·rw[DH r f.1];exact Mp r rx f.1 fx
  ·exact pV rx fx t f.2 u' hu
def PR (x:V) (xs:List V):Bool:=xs.any fun y=>Ef y x
def Wu (K:W.Frag) (neg:Bool):R2:=fun x y H Q=>∃p xs,y = .ref p/\(bN K H p xs\/oS K H p xs)/\l6 x=true/\xs.all l6=true/\Q (.bl (if neg then !PR x xs else PR x xs)) H
theorem uA:lE X (compareOp .In) (Wu X.K false):=by
 intro pins s σ H x y v u Q I rx ry h
 obtain⟨p,xs,rfl,hq,fx,fs,q⟩:=h
 cases ry
 rcases hq with hq|hq
 ·obtain⟨its,r,pl,hz⟩:=I.list hq
  refine SeqAt.in_listAt (J0 x) pl.isList (fun w hw=>pV rx fx r fs w (by simpa using hw)) ⟨.bl _,H,I,rfl,?_⟩
  rw[show its.toArray.any (J0 x)=its.any (J0 x) by simp,vJ r fs]
  exact q
 ·obtain⟨its,r,pl,hz⟩:=I.tuple hq
  refine SeqAt.in_tupleAt (J0 x) pl (fun w hw=>pV rx fx r fs w (by simpa using hw)) ⟨.bl _,H,I,rfl,?_⟩
  rw[show its.toArray.any (J0 x)=its.any (J0 x) by simp,vJ r fs]
  exact q
theorem vq:cG X (.builtin "len") (fun xs H Q=>∃p ys,xs=[.ref p]/\(bN X.K H p ys\/oS X.K H p ys)/\Q (.int ys.length) H):=by
 intro pins s σ H xs us Q I r h
 obtain⟨p,ys,rfl,hq,q⟩:=h
 obtain⟨u,rfl,rx⟩:=vals1 r
 cases rx
 have hn:=jh
 rcases hq with hq|hq
 ·obtain⟨its,r',pl,hz⟩:=I.list hq
  have hlen:=r'.length
  exact Calls.call_len_list pl.isList (by simp only[List.size_toArray] <;> omega) ⟨.int ys.length,H,I.tok _,⟨s.toks+1,by rw[List.size_toArray,hlen]⟩,q⟩
 ·obtain⟨its,r',pl,hz⟩:=I.tuple hq
  have hlen:=r'.length
  exact len_tuple pl (by simp only[List.size_toArray] <;> omega) ⟨.int ys.length,H,I.tok _,⟨s.toks+1,by rw[List.size_toArray,hlen]⟩,q⟩
theorem vQ:cG X (.builtin "len") (fun xs H Q=>∃z,xs=[.str z]/\z.length<=sizeLine/\Q (.int z.length) H):=by
 intro pins s σ H xs us Q I r h
 obtain⟨z,rfl,hz,q⟩:=h
 obtain⟨u,rfl,t,rfl⟩:=vals1 r
 have hn:=jh
 exact len_str (by omega) ⟨.int z.length,H,I.tok _,⟨_,rfl⟩,q⟩
def QK (K:W.Frag) (T:String) (x:V) (H:Hp):Prop:=match x with
 | .str _=>T = "str"
 | .int _=>T = "int"
 | .ref p=>(T = "list"/\∃xs,bN K H p xs) \/(T = "tuple"/\∃o,K.lookup p=some o/\o.cls = .type "tuple"/\o.dict=none) \/
   (T = "dict"/\((∃kvs,H p=some (.dK kvs)) \/ ∃kvs,H p=some (.dT kvs))) \/(T = "set"/\∃S n,H p=some (.set S n))
 | _=>False
theorem ED {pins:List (Addr×Obj)}{σ:St}{H:Hp}{s:Shared}{T:String}{x:V}{v:Value}(I:Inv X pins σ H s) (r:RelV x v) (ty:QK X.K T x H) :
  s.TypeIs v T/\∀a,v = .ref a->∃ob,s.heap.get? a=some ob/\ob.dict=none:=by
 cases x with
 | str z =>
  obtain⟨t,rfl⟩:=r
  cases (show T = "str" from ty)
  exact⟨typeIs_str s z t,fun _ e=>nomatch e⟩
 | int i =>
  obtain⟨t,rfl⟩:=r
  cases (show T = "int" from ty)
  exact⟨typeIs_int s i t,fun _ e=>nomatch e⟩
 | ref p =>
  cases r
  rcases ty with⟨rfl,xs,hq⟩|⟨rfl,o,hk,hc,hd⟩|⟨rfl,hk⟩|⟨rfl,S,n,hk⟩
  ·obtain⟨its,_,pl,_⟩:=I.list hq
   refine⟨pl.isList.typeIs,fun a e=>?_⟩
   cases e
   obtain⟨o,n,e,c,hd,_⟩:=pl
   exact⟨o,e,hd⟩
  ·refine⟨⟨o,I.kIn p o hk,hc⟩,fun a e=>?_⟩
   cases e
   exact⟨o,I.kIn _ o hk,hd⟩
  ·have z:∃o,s.heap.get? p=some o/\o.ExactDict:=by
    rcases hk with⟨kvs,hk⟩|⟨kvs,hk⟩
    ·obtain⟨_,_,_,_,o,_,_,e,ex,_⟩:=I.hok p _ hk
     exact⟨o,e,ex⟩
    ·obtain⟨_,_,_,_,o,_,_,e,ex,_⟩:=I.hok p _ hk
     exact⟨o,e,ex⟩
   obtain⟨o,e,ex⟩:=z
   refine⟨⟨o,e,ex.1⟩,fun a e2=>?_⟩
   cases e2
   exact⟨o,e,ex.2.1⟩
  ·obtain⟨o,_,_,_,e,ex,_⟩:=I.hok p _ hk
   refine⟨⟨o,e,ex.1⟩,fun a e2=>?_⟩
   cases e2
   exact⟨o,e,ex.2.1⟩
 | _=>exact False.elim ty
def Qa (K:W.Frag) (T:String) (r:V->List V->Hp->VK->Prop) (to:TE):TE:=fun σ H Q=>to σ H fun x H1=>QK K T x H1/\r x [] H1 Q
def WE (K:W.Frag) (T:String) (r:V->List V->Hp->VK->Prop) (to:TE) (t:TA):TE:=fun σ H Q=>to σ H fun x H1=>QK K T x H1/\t σ H1 fun xs H2=>r x xs H2 Q
variable {o e:Expr}{es:List Expr}{to:TE}{t:TA}{name:Str}{apos cpos:Pos}{T id:String}{r:V->List V->Hp->VK->Prop}
theorem Ac (pa:PlainAttrs T) (slot:Slot T name id) (hty:typeOf (.builtin id)=pure (.type "method_descriptor")) (hm:Lc X id r) (ho:PE X o to)
  (hbase:attributeBase o name X.env (eval o X.env)=eval o X.env:=by rfl) (hline:(apos.endLine == cpos.line)=true:=by rfl):PE X (.Call (.Attribute o name apos) [] [] cpos) (Qa X.K T r to):=by
 intro pins s σ H Q I h
 refine wpAny_Call_method0_late hbase hline (bX (ho pins s σ H _ I h) fun v s1 ⟨x,H1,I1,r1,ty,q1⟩=>?_)
 obtain⟨h1,h2⟩:=ED I1 r1 ty
 exact⟨T,id,pa,slot,hty,h1,h2,Calls.callWith_builtin rfl (PySem.evalArgs_none (hm pins s1 σ H1 x [] v [] Q I1 r1 .nil q1))⟩
theorem oF (pa:PlainAttrs T) (slot:Slot T name id) (hty:typeOf (.builtin id)=pure (.type "method_descriptor")) (hm:Lc X id r) (ho:PE X o to) (ha:PA X (e::es) t)
  (hbase:attributeBase o name X.env (eval o X.env)=eval o X.env:=by rfl)
  (hfew:((backTo cpos (starEach (e::es) X.env)).all (fun x=>!x.1) && (backToKw cpos (keywordEach [] X.env)).all (fun x=>x.1.isSome)
   && decide ((e::es).length+([]:List Keyword).length+(if ([]:List Keyword).isEmpty then 0 else 1)<30))=true:=by rfl)
  (hline:(apos.endLine == cpos.line)=true:=by rfl) (hs:starEach (e::es) X.env =(false,eval e X.env)::starEach es X.env:=by rfl) (hplain:(backTo cpos (starEach es X.env)).any (·.1)=false:=by rfl) :
  PE X (.Call (.Attribute o name apos) (e::es) [] cpos) (WE X.K T r to t):=by
 intro pins s σ H Q I h
 refine wpAny_Call_method_late hbase hfew hline rfl (bX (ho pins s σ H _ I h) fun v s1 ⟨x,H1,I1,r1,ty,q1⟩=>?_)
 obtain⟨h1,h2⟩:=ED I1 r1 ty
 refine⟨T,id,pa,slot,hty,h1,h2,?_⟩
 have hA:=ha cpos pins s1 σ H1 _ I1 q1
 rw[hs]at hA ⊢
 refine Calls.callWith_builtin (by show(false || (backTo cpos (starEach es X.env)).any (·.1))=false;rw[hplain] <;> rfl) (Calls.evalArgs_plain ?_)
 exact bX hA fun us s2 ⟨vs,H2,I2,r2,q2⟩=>hm pins s2 σ H2 x vs v us Q I2 r1 r2 q2
end
def Wy (X:Cx) (id:String) (r:V->List V->Hp->VK->Prop):Prop :=
 ∀(pins:List (Addr×Obj)) (s:Shared) (σ:St) (H:Hp) (x:V) (xs:List V) (v:Value) (us:List Value) (Q:VK),Inv X pins σ H s->RelV x v->Vals xs us->r x xs H Q ->
  wpAny (model X.prog X.w) X.A (call (.builtin id) (v::us)) (EP X pins σ Q) X.xe s
theorem Vals.one:∀{x:V}{us:List Value},Vals [x] us->∃u,us=[u]/\RelV x u
 | _,_,.cons r .nil=>⟨_,rfl,r⟩
theorem Vals.dropLast {xs:List V}{us:List Value}(h:Vals xs us):Vals xs.dropLast us.dropLast:=by
 induction h with
 | nil=>exact .nil
 | cons r t ih =>
  cases t with
  | nil=>exact .nil
  | cons q t'=>exact .cons r ih
theorem Ol {α:Type}(l:List α):l.eraseIdx (l.length-1)=l.dropLast:=by
 induction l with
 | nil=>rfl
 | cons a r ih =>
  cases r with
  | nil=>rfl
  | cons b r =>
   have e:(a::b::r).length-1 =((b::r).length-1)+1:=by
    have h1:(a::b::r).length=r.length+2:=rfl
    have h2:(b::r).length=r.length+1:=rfl
    omega
   rw[e,List.eraseIdx_cons_succ,ih]
   all_goals rfl
section
variable {X:Cx}{pins:List (Addr×Obj)}{σ:St}{H:Hp}{s:Shared}{l b:Addr}{xs ys zs:List V}
theorem Inv.lset {its its':List Value}{n:Nat}{f:Array Value->Array Value}{t':Nat}(I:Inv X pins σ H s) (hH:H l=some (.lst xs))
  (e:s.heap.get? l=some { cls:=.type "list",data:=.seq its.toArray n }) (hf:f its.toArray=its'.toArray) (hv:Vals ys its') (hz:ys.length<=sizeLine) :
  Inv X pins σ (upd H l (.lst ys)) { s with heap:=s.heap.update l (Obj.mapSeq f),toks:=t' }:=by
 have q:=PySem.IsL.update e f
 rw[hf]at q
 refine I.write (x:=l) (e:=l) (by rw[hH];exact trivial) (.inl rfl) (fun b' u hb hu=>(Heap.get?_update_other s.heap (Obj.mapSeq f) (Ne.symm hb)).trans hu) ⟨_,q⟩ ?_
 exact⟨hz,its',_,hv,q⟩
theorem Inv.lnew {its:List Value}{t':Nat}(I:Inv X pins σ H s) (hv:Vals ys its) (hz:ys.length<=sizeLine) :
  Inv X pins σ (upd H s.heap.objs.size (.lst ys)) { s with heap:=s.heap.push { cls:=.type "list",data:=.seq its.toArray },toks:=t' } :=
 I.laid (fun _ _ q=>Heap.get?_push_of_some _ q) (Nat.le_refl _) ⟨hz,its,0,hv,Heap.get?_push_size _ rfl⟩
theorem Inv.fresh (I:Inv X pins σ H s):H s.heap.objs.size=none:=I.hok.fresh (Nat.le_refl _)
theorem Inv.lstM (I:Inv X pins σ H s) (hH:H l=some (.lst xs)):xs.length<=sizeLine/\∃(its:List Value) (n:Nat),Vals xs its/\xs.length=its.length/\s.heap.get? l=some { cls:=.type "list",data:=.seq its.toArray n }:=by
 obtain⟨z,its,n,r,e⟩:=I.hok l _ hH
 exact⟨z,its,n,r,r.length,e⟩
theorem EU {n:Nat}(h:n<=sizeLine):Builtin.List.listTooLong n=false:=by
 unfold Builtin.List.listTooLong
 exact decide_eq_false (by omega)
end
section
variable {X:Cx}
def HX:V->List V->Hp->VK->Prop:=fun x vs H Q=>∃l xs y,x = .ref l/\vs=[y]/\H l=some (.lst xs)/\xs.length<sizeLine/\Q .non (upd H l (.lst (xs ++ [y])))
theorem gX:Wy X "list.append" HX:=by
 intro pins s σ H x vs v us Q I rx rv h
 obtain⟨l,xs,y,rfl,rfl,hH,hz,q⟩:=h
 cases rx
 obtain⟨u,rfl,ru⟩:=rv.one
 obtain⟨z,its,n,r,hl,e⟩:=I.lstM hH
 refine call_meets F.slot_list_append ⟨_,e,rfl⟩ F.entry_list_append (F.args_list_append_2 _ _) (PySem.list_append l its.toArray n u (by rw[List.size_toArray];omega)) ⟨e,?_⟩
 refine⟨.non,_,I.lset (its':=its ++ [u]) hH e (by simp) (r.append (.cons ru .nil)) ?_,rfl,q⟩
 rw[List.length_append,List.length_singleton]
 omega
def Im:V->List V->Hp->VK->Prop:=fun x vs H Q=>∃l b xs zs,x = .ref l/\vs=[.ref b]/\H l=some (.lst xs)/\H b=some (.lst zs)/\xs.length+zs.length<=sizeLine/\Q .non (upd H l (.lst (xs++zs)))
theorem OF:Wy X "list.extend" Im:=by
 intro pins s σ H x vs v us Q I rx rv h
 obtain⟨l,b,xs,zs,rfl,rfl,hH,hB,hz,q⟩:=h
 cases rx
 obtain⟨u,rfl,ru⟩:=rv.one
 cases ru
 obtain⟨z,its,n,r,hl,e⟩:=I.lstM hH
 obtain⟨z2,its2,n2,r2,hl2,e2⟩:=I.lstM hB
 have hsz:its.toArray.size+its2.toArray.size<=sizeLine:=by rw[List.size_toArray,List.size_toArray];omega
 have hlong:¬(!its.toArray.isEmpty && Builtin.List.listTooLong (its.toArray.size+its2.toArray.size))=true:=by
  rw[EU hsz,Bool.and_false]
  exact Bool.false_ne_true
 refine call_meets F.slot_list_extend ⟨_,e,rfl⟩ F.entry_list_extend (F.args_list_extend_2 _ _)
  (AutoSeq1.list_extend_list_list_0 l its.toArray n b its2.toArray n2 hlong (by rw[List.size_toArray];omega) (by omega)) ⟨e,e2,?_⟩
 refine⟨.non,_,I.lset (its':=its++its2) hH e (by simp) (r.append r2) ?_,rfl,q⟩
 rw[List.length_append]
 omega
def RC:R2:=fun x y H Q=>∃l b xs zs,x = .ref l/\y = .ref b/\H l=some (.lst xs)/\H b=some (.lst zs)/\xs.length+zs.length<=sizeLine/\∀p,H p=none->Q (.ref p) (upd H p (.lst (xs++zs)))
theorem vn:lE X (binaryOp .Add) RC:=by
 intro pins s σ H x y v u Q I rx ry h
 obtain⟨l,b,xs,zs,rfl,rfl,hH,hB,hz,q⟩:=h
 cases rx
 cases ry
 obtain⟨z,its,n,r,hl,e⟩:=I.lstM hH
 obtain⟨z2,its2,n2,r2,hl2,e2⟩:=I.lstM hB
 refine PySem.P.add_list e e2 ?_ (by rw[List.size_toArray,List.size_toArray];omega)
 have ea:its.toArray++its2.toArray =(its++its2).toArray:=by simp
 rw[ea]
 exact⟨.ref _,_,I.lnew (t':=s.toks) (r.append r2) (by rw[List.length_append];omega),rfl,q _ I.fresh⟩
end
end L2
namespace Att
open PySem PySem.W PySem.Calls PyProof.Rows
theorem oU {P:Params}{h:Heap}:∀(ns:List Int) (vs:List Value),WellAll P h vs (ns.map WData.int)->IntsAre vs ns:=by
 intro ns
 induction ns with
 | nil =>
  intro vs w
  rw[List.map_nil]at w
  cases w
  exact .nil
 | cons n ns ih =>
  intro vs w
  rw[List.map_cons]at w
  cases w with
  | cons a b =>
   cases a
   exact .cons _ _ (ih _ b)
theorem Ck {l:OpenLaw}{n:Nat}(hn:l.most=some n) {P:Params}{h:Heap}{args:List WData}{vals:List Value}
  (hpre:l.row.toRowW.claim.pre args=true) (hwl:WellAll P h vals args) :
  ∃a vs ns,vals=[Value.ref a]/\args=[WData.list (ns.map WData.int)]/\h.get? a=some { cls:=.type "list",data:=.seq vs.toArray }/\IntsAre vs ns/\ns.length<=n:=by
 have hsh:WShape.hasAll [] args [.list .int]=true:=(pre_splitW hpre).1
 have hc:l.pre.holds [] { args:=args } = true:=(pre_splitW hpre).2
 obtain⟨d,r,rfl,h1,h2⟩:=hasAllW_cons hsh
 obtain rfl:=hasAllW_nil h2
 obtain⟨xs,rfl,h3⟩:=hasW_list h1
 obtain⟨ns,rfl⟩:=items_int h3
 have hlen:ns.length<=n:=by
  unfold OpenLaw.pre at hc
  have h4:(WTm.not (.lt (.lit (.int (n:Int))) (.len (.arg 0)))).holds [] { args:=[.list (ns.map .int)] } = true:=by
   have h4:=(holds_andW hc).1
   rw[hn]at h4
   exact h4
  have h5:=condW_of h4 (w_not (w_lt w_lit (w_len_list (w_arg rfl))))
  rw[List.length_map]at h5
  refine Nat.le_of_not_lt fun q=>?_
  have q':(n:Int) <((ns.length:Nat):Int):=by omega
  first
   | (rw[decide_eq_true q']at h5;exact absurd h5 (by decide))
   | (simp at h5;omega)
 cases hwl with
 | cons w1 w2 =>
  cases w2
  cases w1 with
  | list ho hall=>exact⟨_,_,ns,rfl,rfl,ho,oU ns _ hall,hlen⟩
theorem Cj (l:OpenLaw) (args:List WData):l.row.toRowW.claim.post args (.bool true) args=true :=
 postW_of (r:=l.row.toRowW) (X:=(true == true))
  (show WShape.has [] (.bool true) .bool=true by first|rfl|decide|simp[WShape.has,WShape.arms,WShape.armsAll])
  (show(WTm.eq .res (.lit (.bool true))).value [] { args:=args,res:=some (.bool true),after:=args } = some (.bool (true == true)) from w_eq_bool (w_res rfl) w_lit) rfl
theorem attach_call {l:OpenLaw}{n:Nat}{q:Program}{loose:List Str}{XP:(Str->Option Value)->Heap->Prop}{YP:World->Heap->Prop}{d:DefRec}
  (hn:l.most=some n) (hdf:d.params.defaults=[])
  (call:∀(w:World) (s₀ s₁:Shared) (mg mb:Str->Option Value) (fa:Addr) (o:Obj) (pm cd doc:Value) (a:Addr) (vs:List Value) (ns:List Int),
   Ground q loose [] XP w s₀ mg mb s₁.heap->YP w s₁.heap ->
   s₁.heap.get? fa=some o->o.data = .func (docDef d.name d.params d.body d.scope pm cd doc)->s₁.heap.CodeRec cd d.name->mg d.name=some (.ref fa) ->
   s₁.heap.get? a=some { cls:=.type "list",data:=.seq vs.toArray }->IntsAre vs ns->ns.length<=n->s₁.gens = #[] ->
   codeAny (model l.prog w) callerA (.call (.ref fa) ⟨[.ref a],[]⟩) (fun r s'=>r = .ok (.ret (.bool true))/\OldK s₁.heap s'.heap/\s'.os=s₁.os/\AllBare s'.gens) s₁) :
  WalkO q loose XP YP l.row.toRowW d [] (fun f vs=>PySem.call f vs):=by
 intro w s₀ s₁ mg mb G Y fa o pm cd doc dV kV ho hd hcd hD hmg hg args vals as hpre hlay hrd hwl hlo
 obtain rfl:dV = .none:=Dflts.none hD hdf
 obtain rfl:kV = .none:=Dflts.noKw hD
 obtain⟨a,vs,ns,rfl,rfl,hobj,hints,hlen⟩:=Ck hn hpre hwl
 refine enter_call (codeAny_mono (call w s₀ s₁ mg mb fa o pm cd doc a vs ns G Y ho (fd_plain hd) hcd hmg hobj hints hlen hg) fun r s' hq=>?_)
 obtain⟨rfl,h2,h3,h4⟩:=hq
 exact⟨.inl ⟨.bool true,.bool true,[],rfl,fun _=>rfl,.bool true,Cj l _,fun _=>⟨List.Pairwise.nil,fun _ hm=>(nomatch hm)⟩⟩,h2,h3,h4⟩
end Att
namespace L2
open PySem PySem.Spec PyProof.Rows
theorem jZ:∀{vs:List Value}{ns:List Int},IntsAre vs ns->Vals (ns.map V.int) vs
 | _,_,.nil=>.nil
 | _,_,.cons n t h=>.cons ⟨t,rfl⟩ (jZ h)
def Nt (H:Hp):Prop:=∀b,H b=none \/ ∃o xs,H b=some (.frz o (.lst xs))
theorem EY {P:Program}{w:World}{K:W.Frag}{mg mb:Str->Option Value}{CX:zg}{k:Nat}{fa a:Addr}{fd:FuncData}{x:Str}{sp:Sp}{s₁:Shared}{vs:List Value}{ns:List Int}
  (KX:K.In s₁.heap) (hns:s₁.heap.Ns mainGlobals mg) (hb:s₁.heap.Ns builtinsNs mb) (hbb:∀x:Str,x ≠ "__name__"->mb x=bootBuiltins x) (hlim:s₁.heap.NoLimit) (hg:s₁.gens = #[])
  (ha:s₁.heap.get? a=some { cls:=.type "list",data:=.seq vs.toArray }) (hi:IntsAre vs ns) (hl:ns.length<=sizeLine) (hr:cA k callerA)
  (F:∀base:Heap,K.In base->base.Ns mainGlobals mg->iw P w K mg base CX k fa fd [x] sp) (hbind:∀(s:Shared) (u:Value),BindsTo s fd ⟨[u],[]⟩ [(x,u)])
  (hsp:∀H:Hp,Nt H->bN K H a (ns.map V.int)->sp [.ref a] H (fun v _=>v = .bl true) fun _ _ _=>False)
  (hCX:∀H e s',CX [] H s₁ (fun _ _ _=>False) e s'->False) :
  codeAny (model P w) callerA (.call (.ref fa) ⟨[.ref a],[]⟩) (fun r s'=>r = .ok (.ret (.bool true))/\OldK s₁.heap s'.heap/\s'.os=s₁.os/\AllBare s'.gens) s₁:=by
 have rv:=jZ hi
 have lenV:=hi.length
 have core:∀H:Hp,Nt H->bN K H a (ns.map V.int)->kH P w H s₁.heap->(∀b,H b≠none->b=a)->(H a≠none->K.lookup a=none) ->
   codeAny (model P w) callerA (.call (.ref fa) ⟨[.ref a],[]⟩) (fun r s'=>r = .ok (.ret (.bool true))/\OldK s₁.heap s'.heap/\s'.os=s₁.os/\AllBare s'.gens) s₁:=by
  intro H hO hS hok hA hK
  have base_of:∀{b:Addr}{o:Obj},s₁.heap.get? b=some o->H b=none->(uQ s₁.heap H).get? b=some o:=fun e n=>Di e n
  have noA:∀{b:Addr}{o:Obj}{es:Array DictEntry}{ep:Nat},s₁.heap.get? b=some o->o.data = .dict es ep->H b=none:=fun {b o es ep} e d=>by
   cases q:H b with
   | none=>rfl
   | some u =>
    have e':b=a:=hA b (by rw[q];simp)
    subst e'
    rw[ha]at e;cases e
    have d':Data.seq vs.toArray _=Data.dict es ep:=d
    cases d'
  have yD:∀{b:Addr}{m:Str->Option Value},s₁.heap.Ns b m->(uQ s₁.heap H).Ns b m:=fun {b m} ⟨o,es,ep,e,d,r⟩=>⟨o,es,ep,base_of e (noA e d),d,r⟩
  have hKb:K.In (uQ s₁.heap H):=fun b o e=>base_of (KX b o e) (by
   cases q:H b with
   | none=>rfl
   | some u =>
    have e':b=a:=hA b (by rw[q];simp)
    subst e'
    rw[hK (by rw[q];simp)]at e;cases e)
  have hM:Mod K mg (uQ s₁.heap H):=⟨hKb,yD hns,⟨mb,yD hb,hbb⟩,let ⟨mc,h1,h2⟩:=hlim;⟨mc,yD h1,h2⟩⟩
  have e0:v7 P w K mg (uQ s₁.heap H) callerA [] s₁ H:=⟨rfl,hM,fun b o e=>Hs e,Nat.le_of_eq (BN _ _),trivial,fun b hb=>absurd (show b∈([]:List Addr) from hb) (by simp),hok,.of_eq hg⟩
  refine codeAny_mono ((F _ hKb (yD hns)).run callerA [] s₁ H ⟨[.ref a],[]⟩ [.ref a] [.ref a] _ _ hr e0 (hbind s₁ (.ref a)) (.cons rfl .nil) (hsp H hO hS)) fun r s' h=>?_
  cases r with
  | error e=>exact(hCX H e s' h).elim
  | ok fl =>
   cases fl with
   | next=>exact False.elim h
   | brk=>exact False.elim h
   | cont=>exact False.elim h
   | ret u =>
    obtain⟨v,H',os,bare,un,hok',r',q⟩:=h
    have q':v = .bl true:=q
    subst q'
    obtain rfl:u=Value.bool true:=r'
    refine⟨rfl,OldK.of_keep fun b o e=>?_,os,bare⟩
    cases q:H b with
    | none=>exact un.keep b o e q (by intro z;exact absurd (show b∈([]:List Addr) from z) (by simp)) (by simp)
    | some u =>
     rcases hO b with z|⟨ob,xs,z⟩
     ·rw[q]at z;cases z
     ·have z2:=un.frzs b ob _ z
      obtain⟨e1,_⟩:=hok b _ z
      obtain⟨e2,_⟩:=hok' b _ z2
      rw[e]at e1;cases e1
      exact e2
 cases hk:K.lookup a with
 | some o =>
  have e:=KX a o hk
  rw[ha]at e
  cases e
  refine core (fun _=>none) (fun _=>.inl rfl) (.inr ⟨_,vs.toArray,_,hk,rfl,rfl,rfl,by rw[List.size_toArray,lenV];exact hl,by simpa using rv⟩) (fun b u z=>by have z':(none:Option HO)=some u:=z;cases z') (fun b z=>absurd rfl z) fun z=>absurd rfl z
 | none =>
  refine core (fun b=>if b=a then some (.frz { cls:=.type "list",data:=.seq vs.toArray } (.lst (ns.map V.int))) else none) (fun b=>?_) (.inl (.inr ⟨{ cls:=.type "list",data:=.seq vs.toArray },if_pos rfl⟩)) (fun b u z=>?_) (fun b z=>?_) fun _=>hk
  ·by_cases hb:b=a
   ·exact .inr ⟨_,_,if_pos hb⟩
   ·exact .inl (if_neg hb)
  ·by_cases hb:b=a
   ·have z':=(if_pos hb).symm.trans z
    cases z'
    subst hb
    exact⟨ha,by rw[List.length_map];exact hl,vs,_,rv,ha⟩
   ·have z':=(if_neg hb).symm.trans z
    cases z'
  ·by_cases hb:b=a
   ·exact hb
   ·exact absurd (if_neg hb) z
theorem IF {l:PySem.W.OpenLaw}{n k:Nat}{q:Program}{loose:List Str}{XP:(Str->Option Value)->Heap->Prop}{YP:World->Heap->Prop}{d:DefRec}{K:Params->W.Frag}{CX:World->zg}{sp:World->Sp}{x:Str}
  (hn:l.most=some n) (hn2:n<=sizeLine) (hdf:d.params.defaults=[]) (hr:cA k callerA)
  (hY:∀(w:World) (h:Heap),YP w h->(K w.params).In h)
  (F:∀(w:World) (mg:Str->Option Value) (fa:Addr) (h:Heap),(K w.params).In h->h.Ns mainGlobals mg->mg d.name=some (.ref fa) ->
   ∃fd:FuncData,(∀(s:Shared) (u:Value),BindsTo s fd ⟨[u],[]⟩ [(x,u)]) /\
    ∀base:Heap,(K w.params).In base->base.Ns mainGlobals mg->iw l.prog w (K w.params) mg base (CX w) k fa fd [x] (sp w))
  (hsp:∀(w:World) (H:Hp) (a:Addr) (ns:List Int),ns.length<=n->Nt H->bN (K w.params) H a (ns.map V.int)->sp w [.ref a] H (fun v _=>v = .bl true) fun _ _ _=>False)
  (hCX:∀(w:World) (H:Hp) (s:Shared) (e:Value) (s':Shared),CX w [] H s (fun _ _ _=>False) e s'->False) :
  PySem.W.WalkO q loose XP YP l.row.toRowW d [] (fun f vs=>PySem.call f vs):=by
 refine Att.attach_call hn hdf fun w s₀ s₁ mg mb fa o pm cd doc a vs ns G Y ho hd hcd hmg hobj hints hlen hg=>?_
 have KX:=hY w _ Y
 obtain⟨fd,hb,hF⟩:=F w mg fa _ KX G.T.g hmg
 exact EY KX G.T.g G.T.b G.T.builtins G.T.nolimit hg hobj hints (Nat.le_trans hlen hn2) hr hF hb (fun H hO hS=>hsp w H a ns hlen hO hS) fun H e s'=>hCX w H s₁ e s'
def inClass (s:Stmt) (j:Nat):Stmt:=match s with
 | .ClassDef _ _ _ body _ _ _ _ _ _ _=>body.getD j (.Pass ⟨0,0,0,0⟩)
 | _=>.Pass ⟨0,0,0,0⟩
def cK (s:Stmt):Arguments:=match s with
 | .FunctionDef _ a _ _ _ _ _ _ _ _=>a
 | _=>{ posonlyargs:=[],args:=[],vararg:=none,kwonlyargs:=[],kw_defaults:=[],kwarg:=none,defaults:=[] }
def bP (s:Stmt):List Stmt:=match s with
 | .FunctionDef _ _ b _ _ _ _ _ _ _=>b
 | _=>[]
def aq (s:Stmt):Scope:=match s with
 | .FunctionDef _ _ _ _ _ _ sc _ _ _=>sc
 | _=>{ kind:=.function,names:=[],isGenerator:=false,isCoroutine:=false }
abbrev Ar:zg:=fun _ _ _ _ _ _=>False
abbrev E0:XK:=fun _ _ _=>False
theorem AN {X:Cx}:Passes Ar X E0:=fun _ _ _ _ _ _ _ h=>h.elim
structure cR (K:W.Frag) (x qual:Str) (st:Stmt) (f:Addr) (fd:FuncData):Prop where
 ex:∃(oc:Value) (od:Option Addr) (kV doc pm:Value) (an:Option Addr) (cdv ct:Value) (osl:Array (Option Value)),
  fd=W.fnOf x qual (cK st) (bP st) (aq st) .none kV doc pm an cdv ct/\K.lookup f=some ⟨oc,od,.func fd,osl⟩/\W.codeIn K cdv qual=true
 kp:W.keepIn K (.ref f)=true
section
variable {P:Program}{w:World}{K:W.Frag}{mg:Str->Option Value}{base:Heap}
theorem cR.ok {x qual:Str}{st:Stmt}{f:Addr}{fd:FuncData}{N ps:List Str}{k:Nat}{sp:Sp}(F:cR K x qual st f fd) (S:aB N ps (aq st)) (len:∀vs H Q E,sp vs H Q E->vs.length=ps.length)
  (hbody:∀(cdv:Value) (A:Around) (outer:List Env) (s:Shared) (H:Hp) (vs:List V) (Q:VK) (E:XK),cA k (A.deeper (envOfC qual (aq st) s.heap.objs.size f cdv))->sp vs H Q E ->
   ∃t,o_ (mQ Ar P w K mg base N qual (aq st) f cdv A outer s H E).nox (bP st) t/\t { nx:=fun _ H'=>Q .non H',rt:=Q } (start N vs) H):iw P w K mg base Ar (k+1) f fd ps sp:=by
 obtain⟨oc,od,kV,doc,pm,an,cdv,ct,osl,rfl,lk,hcd⟩:=F.ex
 refine K_ lk hcd S len fun A outer s H vs Q E hr hsp=>?_
 obtain⟨t,h,q⟩:=hbody cdv A outer s H vs Q E hr hsp
 exact⟨t,h.nox,q⟩
theorem cR.binds {x qual:Str}{st:Stmt}{f:Addr}{fd:FuncData}{ps:List Str}(F:cR K x qual st f fd)
  (h:∀(kV doc pm:Value) (an:Option Addr) (cdv ct:Value) (us:List Value),us.length=ps.length->bindArgs (W.fnOf x qual (cK st) (bP st) (aq st) .none kV doc pm an cdv ct) ⟨us,[]⟩=pure (ps.zip us)):Binds K fd ps []:=by
 obtain⟨oc,od,kV,doc,pm,an,cdv,ct,osl,rfl,lk,hcd⟩:=F.ex
 exact .all (h kV doc pm an cdv ct)
theorem u7 {x qual:Str}{st:Stmt}{f:Addr}{oc:Value}{od an:Option Addr}{osl:Array (Option Value)}{kV doc pm cdv ct:Value}(l:K.lookup f=some ⟨oc,od,.func (W.fnOf x qual (cK st) (bP st) (aq st) .none kV doc pm an cdv ct),osl⟩)
  (c:W.codeIn K cdv qual=true) (k:W.keepIn K (.ref f)=true):cR K x qual st f (W.fnOf x qual (cK st) (bP st) (aq st) .none kV doc pm an cdv ct):=⟨⟨oc,od,kV,doc,pm,an,cdv,ct,osl,rfl,l,c⟩,k⟩
end
theorem rM {A:Around}{k:Nat}(hr:cA k A):A.units+1<cLine:=Nat.lt_of_le_of_lt (Nat.add_le_add_left (by decide:1<=64) _) hr.units
theorem bf {n:Nat}(h:n<=1000):n<sizeLine:=Nat.lt_of_le_of_lt h (by decide)
section
variable {X:Cx}
theorem pv (i:Nat) {x:Str}{pos:Pos}(hN:X.N[i]? = some x:=by rfl) (hv:O2 X.env.scope x:=by first|exact Or.inl rfl|exact Or.inr (Or.inl rfl)|exact Or.inr (Or.inr rfl)) (hd:(x ==("__debug__" : Str))=false:=by decide)
  (hcd:(x ==("__classdict__" : Str))=false:=by decide):PE X (.Name x pos) (MZ i):=NZ hN hv hd hcd
end
theorem OY {A B:Prop}(h:B):if false=true then A else B:=by
 rw[if_neg Bool.false_ne_true]
 exact h
theorem PY {A B:Prop}(h:A):if true=true then A else B:=by
 rw[if_pos rfl]
 exact h
def aM (H H':Hp):Prop:=∀b o,H b=some o->H' b=some o
theorem aM.refl (H:Hp):aM H H:=fun _ _ h=>h
theorem aM.trans {H H1 H2:Hp}(a:aM H H1) (b:aM H1 H2):aM H H2:=fun c o h=>b c o (a c o h)
theorem aM.free {H H':Hp}(e:aM H H') {l:Addr}(h:H' l=Option.none):H l=Option.none:=by
 cases q:H l with
 | none=>rfl
 | some o =>
  rw[e l o q]at h
  cases h
theorem aM.seq {K:W.Frag}{H H':Hp}{a:Addr}{xs:List V}(e:aM H H') (h:bN K H a xs):bN K H' a xs:=by
 rcases h with(h|⟨o,h⟩)|h
 ·exact .inl (.inl (e _ _ h))
 ·exact .inl (.inr ⟨o,e _ _ h⟩)
 ·exact .inr h
def jR (env:Env):List (Str×NameKind)->List (Str×Addr)->List (Str×Addr)
 | [],cs=>cs
 | (n,k)::r,cs=>jR env r (if k == .free then(n,(env.cells.lookup n).getD 0)::cs else cs)
def jm (env:Env) (x:Str×NameKind) (s:List (Str×Addr)):Sem (ForInStep (List (Str×Addr))):=if (x.2 == NameKind.free)=true then cellOf env x.1 >>= fun c=>pure (ForInStep.yield ((x.1,c)::s)) else pure (ForInStep.yield s)
theorem lz {env:Env}:∀{ns:List (Str×NameKind)}(cs:List (Str×Addr)),(∀y∈ns,y.2 = .free->∃c,env.cells.lookup y.1=some c)->(forIn ns cs (jm env):Sem (List (Str×Addr)))=pure (jR env ns cs)
 | [],cs,_=>rfl
 | (n,k)::r,cs,h=>by
  rw[List.forIn_cons]
  have hr:∀y∈r,y.2 = .free->∃c,env.cells.lookup y.1=some c:=fun z hz=>h z (List.mem_cons_of_mem _ hz)
  cases hk:(k == NameKind.free) with
  | false =>
   have e1:jm env (n,k) cs=pure (ForInStep.yield cs):=by
    unfold jm
    exact if_neg (by rw[show(n,k).2=k from rfl,hk];decide)
   rw[e1,pure_bind]
   show forIn r cs (jm env)=_
   rw[lz cs hr]
   show pure (jR env r cs)=pure (jR env r (if (k == NameKind.free)=true then(n,(List.lookup n env.cells).getD 0)::cs else cs))
   rw[hk]
   rfl
  | true =>
   have hk':k = .free:=by simpa using hk
   obtain⟨c,hc⟩:=h (n,k) List.mem_cons_self hk'
   have hc':env.cells.lookup n=some c:=hc
   have q:cellOf env n=pure c:=by unfold cellOf;rw[hc']
   have e1:jm env (n,k) cs=pure (ForInStep.yield ((n,c)::cs)):=by
    unfold jm
    rw[if_pos (by rw[show(n,k).2=k from rfl,hk]),show(n,k).1=n from rfl,q,pure_bind]
   rw[e1,pure_bind]
   show forIn r ((n,c)::cs) (jm env)=_
   rw[lz _ hr]
   show pure (jR env r ((n,c)::cs))=pure (jR env r (if (k == NameKind.free)=true then(n,(List.lookup n env.cells).getD 0)::cs else cs))
   rw[hk,hc']
   rfl
theorem qP {scope:Scope}{env:Env}(h:∀y∈scope.names,y.2 = .free->∃c,env.cells.lookup y.1=some c):closureFor scope env=pure (jR env scope.names []):=by
 show(forIn scope.names ([]:List (Str×Addr)) (jm env) >>= fun s=>(pure s:Sem (List (Str×Addr))))=_
 rw[lz [] h,pure_bind]
theorem rQ {env:Env}{n:Str}{c:Addr}:∀{ns:List (Str×NameKind)}{cs:List (Str×Addr)},(∀y∈ns,y.2 = .free->∃c,env.cells.lookup y.1=some c)->(∀p∈cs,env.cells.lookup p.1=some p.2)->(jR env ns cs).lookup n=some c->env.cells.lookup n=some c
 | [],cs,_,hc,h=>hc _ (PySem.mem_of_lookup h)
 | (m,k)::r,cs,hn,hc,h=>by
  unfold jR at h
  refine rQ (fun y hy=>hn y (List.mem_cons_of_mem _ hy)) ?_ h
  intro p hp
  split at hp
  ·rename_i hk
   have hk':k = .free:=by simpa using hk
   obtain⟨c',hc'⟩:=hn (m,k) List.mem_cons_self hk'
   have hc2:env.cells.lookup m=some c':=hc'
   rw[hc2]at hp
   rcases List.mem_cons.mp hp with rfl|hp
   ·exact hc2
   ·exact hc p hp
  ·exact hc p hp
theorem dO {n:Str}:∀{cs:List (Str×Addr)},(∃c,(n,c)∈cs)->∃c,cs.lookup n=some c
 | [],⟨_,h⟩=>absurd h (by simp)
 | (m,d)::r,⟨c,h⟩=>by
  rw[List.lookup_cons]
  by_cases e:n=m
  ·subst e;exact⟨d,by simp⟩
  ·have:(n == m)=false:=beq_eq_false_iff_ne.mpr e
   rw[this]
   rcases List.mem_cons.mp h with z|z
   ·cases z;exact absurd rfl e
   ·exact dO ⟨c,z⟩
theorem qm {env:Env}{p:Str×Addr}:∀{ns:List (Str×NameKind)}{cs:List (Str×Addr)},p∈cs->p∈jR env ns cs
 | [],_,h=>h
 | (m,k)::r,cs,h=>by
  unfold jR
  refine qm ?_
  split
  ·exact List.mem_cons_of_mem _ h
  ·exact h
theorem qY {env:Env}{n:Str}:∀{ns:List (Str×NameKind)}{cs:List (Str×Addr)},(n,NameKind.free)∈ns->∃c,(n,c)∈jR env ns cs
 | [],_,h=>absurd h (by simp)
 | (m,k)::r,cs,h=>by
  unfold jR
  rcases List.mem_cons.mp h with z|z
  ·cases z
   exact⟨(env.cells.lookup n).getD 0,qm (by simp)⟩
  ·exact qY z
def dQ (X:Cx) (scope:Scope) (N:List Str) (C:Addr) (s:Shared) (H:Hp) (ex:List Addr):Cx :=
 { X with N:=N,s₀:=s,H₀:=H,env:=compEnvC scope (jR X.env scope.names []) C X.env,outer:=X.stack,ex:=ex,fn:=fun _=>false,pn:=[],xe:=fun _ _=>False }
structure xr (X:Cx) (scope:Scope) (vs fs:List Str) (js:List Nat):Prop where
 kind:scope.kind = .function
 cell:∀y∈scope.names,y.2 ≠ .cell
 names:∀y∈scope.names,y.2 = .local->scope.names.lookup y.1=some .local
 free:∀y∈scope.names,y.2 = .free->X.env.kindOf y.1=some .cell\/X.env.kindOf y.1=some .free
 own:∀y∈vs,scope.names.lookup y=some .local
 cap:∀y∈fs,scope.names.lookup y=some .free
 ix:js.map (fun j=>X.N[j]?)=fs.map some
def oG (vs:List Str) (js:List Nat) (σ:St):St:=vs.map (fun _=>none)++js.map (fun j=>(σ[j]?).join)
theorem ki {env:Env}{names:List (Str×NameKind)}{x:Str}(h:names.lookup x=some .free) :
  (names.map fun(n,k)=>if (k == NameKind.free && env.scope.kind == .function && env.kindOf n == some .cell) then(n,NameKind.cell) else(n,k)).lookup x=some .cell \/
  (names.map fun(n,k)=>if (k == NameKind.free && env.scope.kind == .function && env.kindOf n == some .cell) then(n,NameKind.cell) else(n,k)).lookup x=some .free:=by
 induction names with
 | nil=>cases h
 | cons y r ih =>
  obtain⟨n,k⟩:=y
  rw[List.map_cons]
  show List.lookup x ((if (k == NameKind.free && env.scope.kind == .function && env.kindOf n == some .cell)=true then(n,NameKind.cell) else(n,k))::_)=_\/List.lookup x ((if (k == NameKind.free && env.scope.kind == .function && env.kindOf n == some .cell)=true then(n,NameKind.cell) else(n,k))::_)=_
  rw[List.lookup_cons]at h
  cases e:x == n with
  | true =>
   rw[e]at h
   have h':k = .free:=by simpa using h
   subst h'
   split
   ·left;rw[List.lookup_cons,e]
   ·right;rw[List.lookup_cons,e]
  | false =>
   rw[e]at h
   have h':=ih h
   split
   ·rw[List.lookup_cons,e];exact h'
   ·rw[List.lookup_cons,e];exact h'
theorem mL {env:Env}{names:List (Str×NameKind)}{x:Str}{kk:NameKind}
  (h:(names.map fun(n,k)=>if (k == NameKind.free && env.scope.kind == .function && env.kindOf n == some .cell) then(n,NameKind.cell) else(n,k)).lookup x=some kk) :
  (kk = .cell/\(x,NameKind.free)∈names) \/(x,kk)∈names:=by
 induction names with
 | nil=>cases h
 | cons y r ih =>
  obtain⟨n,k⟩:=y
  rw[List.map_cons]at h
  have h2:List.lookup x ((if (k == NameKind.free && env.scope.kind == .function && env.kindOf n == some .cell)=true then(n,NameKind.cell) else(n,k))::(r.map fun(n,k)=>if (k == NameKind.free && env.scope.kind == .function && env.kindOf n == some .cell) then(n,NameKind.cell) else(n,k)))=some kk:=h
  cases e:x == n with
  | true =>
   have e':x=n:=by simpa using e
   subst e'
   split at h2
   ·rename_i hc
    rw[List.lookup_cons,e]at h2
    have h3:kk = .cell:=by simpa using h2.symm
    have hk:k = .free:=by
     have:=(Bool.and_eq_true _ _ ▸ hc).1
     have:=(Bool.and_eq_true _ _ ▸ this).1
     simpa using this
    subst hk
    exact .inl ⟨h3,List.mem_cons_self⟩
   ·rw[List.lookup_cons,e]at h2
    have h3:kk=k:=by simpa using h2.symm
    subst h3
    exact .inr List.mem_cons_self
  | false =>
   have h3:(r.map fun(n,k)=>if (k == NameKind.free && env.scope.kind == .function && env.kindOf n == some .cell) then(n,NameKind.cell) else(n,k)).lookup x=some kk:=by
    split at h2
    ·rw[List.lookup_cons,e]at h2;exact h2
    ·rw[List.lookup_cons,e]at h2;exact h2
   rcases ih h3 with⟨a,b⟩|b
   ·exact .inl ⟨a,List.mem_cons_of_mem _ b⟩
   ·exact .inr (List.mem_cons_of_mem _ b)
section
variable {prog:Program}{w:World}{A:Around}{R:Result->Shared->Prop}{s:Shared}
theorem jc {elt target iter:Expr}{ifs:List Expr}{scope:Scope}{pos:Pos}{it acc:Value}{env:Env}(I:Nat->Shared->Prop)
  (turn:∀n s,I n s->wpAny (model prog w) A (pyNext it) (fun r s₁=>match r with
   | none=>R (.ok .next) s₁
   | some v=>wpAny (model prog w) A (letOwnedTupleGo target it v) (fun _ s₁'=>wpAny (model prog w) A (assign target env v) (fun _ s₂ =>
     wpAny (model prog w) A (forIn ifs true fun c r=>if r=true then do let ok <- isTrue c env (eval c env);pure (ForInStep.yield ok) else pure (ForInStep.yield r)) (fun ok s₃ =>
      if ok=true then wpAny (model prog w) A (eval elt env) (fun x s₄ =>
       wpAny (model prog w) A (call (.builtin "list.append") [acc,x]) (fun _ s₅=>∃m,m<n/\I m s₅) (fun _ _=>False) s₄) (fun _ _=>False) s₃
      else ∃m,m<n/\I m s₃) (fun _ _=>False) s₂) (fun _ _=>False) s₁') (fun _ _=>False) s₁) (fun _ _=>False) s)
  (n:Nat) (h:I n s) :
  codeAny (model prog w) A (.compLoop (.ListComp elt [⟨target,iter,ifs,0⟩] scope pos) 0 it acc env) R s:=by
 refine codeAny_loop rfl I (fun n s hI=>?_) n h
 show wpAny _ A ((compTurn (.ListComp elt [⟨target,iter,ifs,0⟩] scope pos) 0 it acc env).onRaise (fun x=>do noteFrame x env;theTreesLotGoes x)) _ _ s
 refine wpAny_noted ?_
 rw[compTurn_list]
 refine wpAny_bind (wpAny_standAt (wpAny_bind (wpAny_mono (turn n s hI) (fun r s₁ h₁=>?_) fun _ _ h'=>h'.elim)))
 cases r with
 | none=>exact wpAny_pure h₁
 | some v =>
  refine wpAny_bind (wpAny_mono h₁ (fun _ s₁' h₁'=>?_) fun _ _ h'=>h'.elim)
  refine wpAny_bind (wpAny_mono h₁' (fun _ s₂ h₂=>wpAny_bind (wpAny_mono h₂ (fun ok s₃ h₃=>?_) fun _ _ h'=>h'.elim)) fun _ _ h'=>h'.elim)
  cases ok with
  | false=>exact wpAny_pure ⟨rfl,h₃⟩
  | true =>
   exact wpAny_bind (wpAny_bind (wpAny_mono h₃ (fun x s₄ h₄=>wpAny_bind (wpAny_mono h₄ (fun _ s₅ h₅=>wpAny_pure (wpAny_pure ⟨rfl,h₅⟩)) fun _ _ h'=>h'.elim)) fun _ _ h'=>h'.elim))
end
def Kc (X:Cx) (ifs:List Expr) (t:TT):Prop :=
 ∀(pins:List (Addr×Obj)) (s:Shared) (σ:St) (H:Hp) (Q:Bool->Hp->Prop),Inv X pins σ H s->t σ H Q ->
  wpAny (model X.prog X.w) X.A (forIn ifs true fun c r=>if r=true then do let ok <- isTrue c X.env (eval c X.env);pure (ForInStep.yield ok) else pure (ForInStep.yield r)) (TP X pins σ Q) X.xe s
def PV:TT:=fun _ H Q=>Q true H
theorem vt {X:Cx}:Kc X [] PV:=fun _ _ _ H _ I h=>wpAny_tests_nil ⟨H,I,h⟩
def uz (J:It) (vs:List Str) (js:List Nat) (σ:St) (g:TG) (tt:TT) (te:TE) (Q:VK) (D:Addr) (H1:Hp):Prop :=
 ∃W:Nat->Nat->St->List V->Hp->Prop,(∃m,W 0 m (oG vs js σ) [] (upd H1 D (.lst [])))/\∀i m σ' ys H',W i m σ' ys H' ->
  (J.stop i H'/\Q (.ref D) H') \/(J.go i H'/\∃N:St->List V->Hp->Prop,(∀σ2 zs H2,N σ2 zs H2->∃m',m'<m/\W (i+1) m' σ2 zs H2) /\
   ∀x H2,J.yld i H' x H2->g x σ' H2 fun σ3 H3=>tt σ3 H3 fun b H4=>if b=true then te σ3 H4 fun y H5=>H5 D=some (.lst ys)/\ys.length<sizeLine/\N σ3 (ys ++ [y]) (upd H5 D (.lst (ys ++ [y]))) else N σ3 ys H4)
def E7 (vs:List Str) (js:List Nat) (wi:TI) (g:TG) (tt:TT) (te:TE):TE:=fun σ H Q=>wi σ H fun J H1=>∀D,H1 D=none->uz J vs js σ g tt te Q D H1
section
variable {X:Cx}{pins:List (Addr×Obj)}{σ:St}{H:Hp}{s:Shared}{scope:Scope}{vs fs:List Str}{js:List Nat}
theorem Bk {fp:List Addr}{C D:Addr}{h₁:Heap}{tk:Nat}{m:Str->Option Value}(I:Inv X pins σ H s) (B:xr X scope vs fs js) (hf:∀b∈fp,oZ X pins H b) (hfp:∀b∈fp,b<s.heap.objs.size)
  (hn:h₁.Ns C m) (hk:∀b o,s.heap.get? b=some o->h₁.get? b=some o) (hD:D=s.heap.objs.size) (hC:s.heap.objs.size<C)
  (hl:h₁.get? D=some { cls:=.type "list",data:=.seq ([]:List Value).toArray }) :
  Inv (dQ X scope (vs++fs) C s H fp) [] (oG vs js σ) (upd H D (.lst [])) { s with heap:=h₁,toks:=tk }:=by
 have hasX:∀y∈scope.names,y.2 = .free->∃c,X.env.cells.lookup y.1=some c:=fun y hy hf=>I.ok.has y.1 (B.free y hy hf)
 have snd:∀{y:Str}{c:Addr},(jR X.env scope.names []).lookup y=some c->X.env.cells.lookup y=some c:=fun h=>rQ hasX (fun p hp=>absurd hp (by simp)) h
 have clt:∀{y:Str}{c:Addr},X.env.cells.lookup y=some c->c<s.heap.objs.size:=fun {y c} h=>by
  obtain⟨v,o,ho,_⟩:=I.cell y c h
  exact Heap.lt_size ho
 have hfr:H D=none:=by rw[hD];exact I.hok.fresh (Nat.le_refl _)
 have hfC:H C=none:=I.hok.fresh (Nat.le_of_lt hC)
 have nCD:C≠D:=by rw[hD];exact Nat.ne_of_gt hC
 refine⟨⟨I.ok.mod,B.kind,I.ok.glob,I.ok.blt,Nat.le_of_lt hC,fun y z c h1 h2=>I.ok.inj y z c (snd h1) (snd h2),fun y hy=>?_,fun y c z _=>absurd (show false=true from z) Bool.false_ne_true,I.ok.hd,I.ok.frames,.inl rfl,fun b hb=>⟨?_,fun y c h=>(hf b hb).2.2.2.2.1 y c (snd h)⟩,I.bs,Nat.le_trans I.ok.bsz I.sz,fun b o e hb=>?_,fun b hb z=>?_,I.stack,I.stkFree⟩,
  rfl,I.bare,Un.laid hk (Nat.le_of_eq hD.symm) hfr,⟨m,hn,fun i y v h1 h2 h3=>?_⟩,fun y c h=>?_,?_,fun y c h=>?_,fun p hp=>absurd (show p∈([]:List (Addr×Obj)) from hp) (by simp),I.hok.laid hk (Nat.le_of_eq hD.symm) ⟨by simp,[],0,.nil,hl⟩,?_⟩
 ·-- has
  have key:(y,NameKind.free)∈scope.names:=by
   rcases hy with hy|hy
   ·rcases mL hy with⟨_,z⟩|z
    ·exact z
    ·exact absurd rfl (B.cell _ z)
   ·rcases mL hy with⟨z,_⟩|z
    ·cases z
    ·exact z
  exact dO (qY key)
 ·exact Nat.ne_of_lt (Nat.lt_trans (hfp b hb) hC)
 ·rcases(hf b hb).2.2.2.1 with z|z
  ·exact I.ok.noex b o e z
  ·exact absurd (Nat.lt_of_lt_of_le (Heap.lt_size e) (Nat.le_trans I.ok.bsz z)) (Nat.lt_irrefl _)
 ·rcases List.mem_cons.mp (I.stkSub b z) with e|e
  ·exact(hf b hb).2.1 e
  ·exact(hf b hb).2.2.1 e
 ·-- loc
  have hlen:js.length=fs.length:=by have:=congrArg List.length B.ix;simpa using this
  have hi:¬ i<vs.length:=fun hi=>by
   unfold oG at h2
   rw[List.getElem?_append_left (by simpa using hi),List.getElem?_map]at h2
   cases e:vs[i]? with
   | none=>rw[e]at h2;cases h2
   | some a=>rw[e]at h2;cases h2
  have hi':vs.length<=i:=Nat.le_of_not_lt hi
  have h1':fs[i-vs.length]? = some y:=by
   have:=h1
   rw[show(dQ X scope (vs++fs) C s H fp).N=vs++fs from rfl,List.getElem?_append_right hi']at this
   exact this
  have h2':(js[i-vs.length]?).map (fun j=>(σ[j]?).join)=some (some v):=by
   unfold oG at h2
   rw[List.getElem?_append_right (by simpa using hi'),List.length_map,List.getElem?_map]at h2
   exact h2
  cases ej:js[i-vs.length]? with
  | none=>rw[ej]at h2';cases h2'
  | some j =>
   rw[ej]at h2'
   have hσ:σ[j]? = some (some v):=by
    have z:(σ[j]?).join=some v:=Option.some.inj h2'
    cases q:σ[j]? with
    | none=>rw[q]at z;cases z
    | some o=>rw[q]at z;have z':o=some v:=z;rw[z']
   have hNj:X.N[j]? = some y:=by
    have q:=congrArg (fun l=>l[i-vs.length]?) B.ix
    simp only[List.getElem?_map,ej,h1',Option.map_some]at q
    exact Option.some.inj q
   have hcap:=B.cap y (List.mem_of_getElem? h1')
   have hmem:(y,NameKind.free)∈scope.names:=PySem.mem_of_lookup hcap
   have hkX:=B.free _ hmem rfl
   have vis:O2 X.env.scope y:=by
    rcases hkX with z|z
    ·exact .inr (.inl z)
    ·exact .inr (.inr z)
   obtain⟨m0,hn0,hl0⟩:=I.loc
   obtain⟨u,r,l⟩:=hl0 j y v hNj hσ vis
   refine⟨u,r,.inr ⟨ki hcap,?_⟩⟩
   rcases l with⟨z,_⟩|⟨_,c,hc,hcell⟩
   ·rcases hkX with q|q <;> (rw[q]at z;cases z)
   ·obtain⟨c',hc'⟩:=dO (qY (env:=X.env) (cs:=[]) hmem)
    have e:=snd hc'
    rw[hc]at e
    cases e
    exact⟨c,hc',hcell.keeps hk⟩
 ·obtain⟨v,z⟩:=I.cell y c (snd h)
  exact⟨v,z.keeps hk⟩
 ·rw[show(dQ X scope (vs++fs) C s H fp).env.locals=C from rfl,az nCD]
  exact hfC
 ·have q:=snd h
  have ne:c≠D:=by rw[hD];exact Nat.ne_of_lt (clt q)
  rw[az ne]
  exact I.freeC y c q
 ·have hlen:js.length=fs.length:=by have:=congrArg List.length B.ix;simpa using this
  show(vs.map _++js.map _).length =(vs++fs).length
  rw[List.length_append,List.length_append,List.length_map,List.length_map,hlen]
theorem Inv.goneC {H':Hp}{s':Shared}{C:Addr}{h'':Heap}(I2:Inv X pins σ H s) {σ':St}(I':Inv X pins σ' H' s') (hC:H' C=none) (hle:s.heap.objs.size<=C) (hs:Heap.SameBut C s'.heap h''):Inv X pins σ' H' { s' with heap:=h'' }:=by
 refine I'.turned (t':=s'.toks) (fun b o hb e=>(hs.2 b hb).trans e) hC (Nat.ne_of_gt (Nat.lt_of_lt_of_le I2.lt hle)) (.inr (Nat.le_trans I2.sz hle)) (fun y c e z=>?_) fun p hp z=>?_
 ·obtain⟨v,o,ho,_⟩:=I2.cell y c e
  have:=Heap.lt_size ho
  rw[z]at this
  exact absurd (Nat.lt_of_lt_of_le this hle) (Nat.lt_irrefl _)
 ·have:=Heap.lt_size (I2.pin p hp).1
  rw[z]at this
  exact absurd (Nat.lt_of_lt_of_le this hle) (Nat.lt_irrefl _)
theorem A_ {tg iter elt:Expr}{ifs:List Expr}{pos:Pos}{g:TG}{tt:TT}{te:TE}(hc:X.calm=true) (B:xr X scope vs fs js)
  (hg:∀C s H ex,PG (dQ X scope (vs++fs) C s H ex) tg g) (ht:∀C s H ex,Kc (dQ X scope (vs++fs) C s H ex) ifs tt) (he:∀C s H ex,PE (dQ X scope (vs++fs) C s H ex) elt te)
  {it:Addr}{fp:List Addr}{tn:Nat->Heap->Prop}{J:It}{Q:VK}{E:Value->Shared->Prop}(I2:Inv X pins σ H s) (T:Turn X.prog X.w X.K tg J fp it tn) (st2:tn 0 s.heap) (f2:∀b∈fp,oZ X pins H b)
  (hW:∀D,H D=none->uz J vs js σ g tt te Q D H)
  {RR:Value->Addr->Result->Shared->Prop}
  (hR:∀D C H' s',Inv X pins σ H' s'->(∃m,s'.heap.Ns C m)->H' C=none->s.heap.objs.size<=C->Q (.ref D) H'->RR (.ref D) C (.ok .next) s') :
  wpAny (model X.prog X.w) X.A (newList []) (fun acc s₃=>wpAny (model X.prog X.w) X.A (newFunctionEnv scope X.env.globals (jR X.env scope.names []) [] X.env.qual none .none (some X.env)) (fun cenv s₄ =>
   codeAny (model X.prog X.w) X.A (.compStart (.ListComp elt [⟨tg,iter,ifs,0⟩] scope pos) 0 (.ref it) acc { cenv with scope:=relabel scope X.env }) (RR acc cenv.locals) s₄) E s₃) E s:=by
 have hfp:∀b∈fp,b<s.heap.objs.size:=fun b hb=>by
  obtain⟨o,e,_⟩:=T.obj _ _ st2 b hb
  exact Heap.lt_size e
 refine wpAny_newObj_type (wpAny_newFunctionEnv B.cell (by intro y hy;simp at hy) (fun h₁ hns₁ hsb₁=>?_) B.kind)
 dsimp only at hns₁ hsb₁ ⊢
 generalize hH2:s.heap.push { cls:=.type "list",dict:=none,data:=.seq ([]:List Value).toArray } = HH at hns₁ hsb₁ ⊢
 have hC:HH.objs.size=s.heap.objs.size+1:=by rw[<- hH2,Heap.size_push]
 have hlt:s.heap.objs.size<HH.objs.size:=by rw[hC];exact Nat.lt_succ_self _
 have old:∀b o,s.heap.get? b=some o->h₁.get? b=some o:=fun b o e=>hsb₁.extBut b o (Nat.ne_of_lt (Nat.lt_trans (Heap.lt_size e) hlt)) (Heap.get?_push_of_some _ (hH2 ▸ Heap.get?_push_of_some _ e))
 have hacc:h₁.get? s.heap.objs.size=some { cls:=.type "list",data:=.seq ([]:List Value).toArray }:=hsb₁.extBut _ _ (Nat.ne_of_lt hlt) (Heap.get?_push_of_some _ (hH2 ▸ Heap.get?_push_size _ rfl))
 have I0:Inv (dQ X scope (vs++fs) HH.objs.size s H fp) [] (oG vs js σ) (upd H s.heap.objs.size (.lst [])) { s with heap:=h₁,toks:=s.toks+([]:List (Str×Value)).length }:=Bk I2 B f2 hfp hns₁ old rfl hlt hacc
 obtain⟨W,⟨m0,w0⟩,turn⟩:=hW s.heap.objs.size (I2.hok.fresh (Nat.le_refl _))
 have st1:tn 0 h₁:=T.keep _ _ _ st2 fun b hb o e=>old b o e
 have hch:∀b∈fp,(b∈X.ex\/X.s₀.heap.objs.size<=b)/\b≠X.env.locals/\(∀x c,X.env.cells.lookup x=some c->c≠b)/\∀p∈X.pn++pins,p.1≠b:=fun b hb=>by
  obtain⟨_,a2,_,a4,a5,a6⟩:=f2 b hb
  exact⟨a4,a2,a5,a6⟩
 have back:∀{pl:List (Addr×Obj)}{σ':St}{H':Hp}{s':Shared},Inv (dQ X scope (vs++fs) HH.objs.size s H fp) pl σ' H' s'->Inv X pins σ H' s':=fun {pl σ' H' s'} J'=>I2.call' (ch:=fp) J'.os J'.base J'.hok J'.bare hch
 have nD:∀b∈fp,b≠s.heap.objs.size:=fun b hb=>Nat.ne_of_lt (hfp b hb)
 have stat:∀{H':Hp},(∀b∈fp,H' b=none)->∀b∈fp,oZ (dQ X scope (vs++fs) HH.objs.size s H fp) [] H' b:=fun {H'} hn b hb=>by
  have z:=I0.ok
  refine⟨hn b hb,(z.exf b hb).1,z.exfs b hb,.inl hb,(z.exf b hb).2,fun p hp=>absurd (show p∈([]:List (Addr×Obj)) from hp) (by simp)⟩
 have loop:∀s₃:Shared,s₃ = { s with heap:=h₁,toks:=s.toks+([]:List (Str×Value)).length } ->
   codeAny (model X.prog X.w) X.A (.compLoop (.ListComp elt [⟨tg,iter,ifs,0⟩] scope pos) 0 (.ref it) (.ref s.heap.objs.size) (compEnvC scope (jR X.env scope.names []) HH.objs.size X.env)) (RR (.ref s.heap.objs.size) HH.objs.size) s₃:=by
  rintro s₃ rfl
  refine jc (fun n s'=>∃i σ' ys H',Inv (dQ X scope (vs++fs) HH.objs.size s H fp) [] σ' H' s'/\tn i s'.heap/\(∀b∈fp,H' b=none)/\W i n σ' ys H') ?_ m0
   ⟨0,_,_,_,I0,st1,fun b hb=>by rw[az (nD b hb)];exact(f2 b hb).1,w0⟩
  rintro n s3 ⟨i,σ3,ys,H3,I3,st3,fr3,w3⟩
  rcases turn i n σ3 ys H3 w3 with⟨stop,q⟩|⟨go,N,hN,step⟩
  ·refine bX (T.done (dQ X scope (vs++fs) HH.objs.size s H fp) rfl rfl rfl hc i [] s3 σ3 H3 _ I3 (stat fr3) st3 stop) fun r s4 ⟨hr,I4⟩=>?_
   subst hr
   obtain⟨m,hm,_⟩:=I4.loc
   exact hR _ _ H3 s4 (back I4) ⟨m,hm⟩ I4.free (Nat.le_of_lt hlt) q
  ·refine bX (T.item (dQ X scope (vs++fs) HH.objs.size s H fp) rfl rfl rfl hc i [] s3 σ3 H3 _ I3 (stat fr3) st3 go) fun r s4 ⟨u,hr,h4⟩=>?_
   subst hr
   refine bX h4 fun _ s5 ⟨x,H5,I5,r5,y5,st5,fr5⟩=>?_
   have I5':=I5.pinned (stat fr5) (T.obj _ _ st5)
   have again:∀{σ7:St}{H7:Hp}{s7:Shared}{zs:List V},Inv (dQ X scope (vs++fs) HH.objs.size s H fp) ([]++qZ fp s5.heap) σ7 H7 s7->N σ7 zs H7->∃m,m<n/\∃i σ' ys H',Inv (dQ X scope (vs++fs) HH.objs.size s H fp) [] σ' H' s7/\tn i s7.heap/\(∀b∈fp,H' b=none)/\W i m σ' ys H':=fun {σ7 H7 s7 zs} I7 n7=>by
    obtain⟨m',hm,w7⟩:=hN σ7 zs H7 n7
    refine⟨m',hm,i+1,σ7,zs,H7,I7.unpinned,T.keep _ _ _ st5 fun b hb o e=>(I7.pin (b,o) (List.mem_append_right _ (List.mem_append_right _ (iF hb e)))).1,fun b hb=>?_,w7⟩
    obtain⟨o,e,d⟩:=T.obj _ _ st5 b hb
    exact(I7.pin (b,o) (List.mem_append_right _ (List.mem_append_right _ (iF hb e)))).2.1
   refine bX (hg _ _ _ _ _ s5 σ3 H5 x u _ I5' r5 (step x H5 y5)) fun _ s6 ⟨σ6,H6,I6,q6⟩=>?_
   refine bX (ht _ _ _ _ _ s6 σ6 H6 _ I6 q6) fun ok s7 ⟨H7,I7,q7⟩=>?_
   cases ok with
   | false =>
    rw[if_neg Bool.false_ne_true]at q7 ⊢
    exact again I7 q7
   | true =>
    rw[if_pos rfl]at q7 ⊢
    refine bX (he _ _ _ _ _ s7 σ6 H7 _ I7 q7) fun y s8 ⟨yv,H8,I8,r8,hD8,hz,n8⟩=>?_
    refine bX (gX _ s8 σ6 H8 (.ref s.heap.objs.size) [yv] (.ref s.heap.objs.size) [y] (fun _ H9=>N σ6 (ys ++ [yv]) H9) I8 rfl (.cons r8 .nil) ⟨_,ys,yv,rfl,rfl,hD8,hz,n8⟩) fun _ s9 ⟨_,H9,I9,_,n9⟩=>?_
    exact again I9 n9
 exact codeAny_compStart_list (loop _ rfl) (T.self X.A 0 _ _ _ st1 (loop _ rfl))
theorem j_ {tg iter elt:Expr}{ifs:List Expr}{pos:Pos}{wi:TI}{g:TG}{tt:TT}{te:TE}(hc:X.calm=true) (B:xr X scope vs fs js) (hi:PI X tg iter wi)
  (hg:∀C s H ex,PG (dQ X scope (vs++fs) C s H ex) tg g) (ht:∀C s H ex,Kc (dQ X scope (vs++fs) C s H ex) ifs tt) (he:∀C s H ex,PE (dQ X scope (vs++fs) C s H ex) elt te)
  (hs:∀x,foldedSetIterable iter X.env x=pure x:=by intro _;rfl):PE X (.ListComp elt [⟨tg,iter,ifs,0⟩] scope pos) (E7 vs js wi g tt te):=by
 intro pins s σ H Q I h
 rw[eval_ListComp]
 refine wpAny_comprehension_free (use:=none) rfl hs (qP fun y hy hf=>I.ok.has y.1 (B.free y hy hf)) B.kind B.names (bX (hi pins s σ H _ I h) fun v s1 h1=>bX h1 fun itv s2 h2=>?_)
 obtain⟨it,fp,tn,J,H2,e,I2,T,st2,f2,hW⟩:=h2
 subst e
 refine A_ (RR:=fun acc C=>compPost (model X.prog X.w) X.A X.xe none (EP X pins σ Q) acc C) hc B hg ht he I2 T st2 f2 hW ?_
 intro D C H' s' I' hn hC hle q
 obtain⟨m,hn⟩:=hn
 exact⟨m,hn,fun h'' hs''=>⟨.ref D,H',I2.goneC I' hC hle hs'',rfl,q⟩⟩
theorem vz {i:Nat}{y:Str}{py spos:Pos}{tg iter elt:Expr}{ifs:List Expr}{pos:Pos}{wi:TI}{g:TG}{tt:TT}{te:TE}(hN:X.N.Nodup) (hi':X.N[i]? = some y) (hy:X.env.scope.names.lookup y=some .local) (hc:X.calm=true) (B:xr X scope vs fs js) (hi:PI X tg iter wi)
  (hg:∀C s H ex,PG (dQ X scope (vs++fs) C s H ex) tg g) (ht:∀C s H ex,Kc (dQ X scope (vs++fs) C s H ex) ifs tt) (he:∀C s H ex,PE (dQ X scope (vs++fs) C s H ex) elt te)
  (hsw:swapsWith (.ListComp elt [⟨tg,iter,ifs,0⟩] scope pos) (some (.Name y py)) spos.line X.env=pure true:=by rfl)
  (hs:∀x,foldedSetIterable iter X.env x=pure x:=by intro _;rfl):PS X (.Assign [.Name y py] (.ListComp elt [⟨tg,iter,ifs,0⟩] scope pos) spos) (IM (E7 vs js wi g tt te) (wB i)):=by
 intro pins s σ H D I h
 rw[exec_Assign_Name_used _ _ _ _ hsw]
 refine wpAny_bind (wpAny_standAt (wpAny_bind ?_))
 show wpAny _ X.A (do let _ <- comprehension (.ListComp elt [⟨tg,iter,ifs,0⟩] scope pos) scope X.env _ (newList []) false (eval iter X.env) (some (assign (.Name y py) X.env))) _ _ s
 refine wpAny_bind (wpAny_mono (wpAny_comprehension_free (use:=some (assign (.Name y py) X.env)) (Q:=fun _ s'=>SP X pins D .next s') rfl hs (qP fun y hy hf=>I.ok.has y.1 (B.free y hy hf)) B.kind B.names
  (bX (hi pins s σ H _ I h) fun v s1 h1=>bX h1 fun itv s2 h2=>?_)) (fun _ s' hq=>wpAny_pure (wpAny_pure hq)) fun _ _ e=>e)
 obtain⟨it,fp,tn,J,H2,e,I2,T,st2,f2,hW⟩:=h2
 subst e
 refine A_ (Q:=fun x H1=>wB i x σ H1 D.nx) (RR:=fun acc C=>compPost (model X.prog X.w) X.A X.xe (some (assign (.Name y py) X.env)) (fun _ s'=>SP X pins D .next s') acc C) hc B hg ht he I2 T st2 f2 hW ?_
 intro D' C H' s' I' hn hC hle q
 obtain⟨m,hn⟩:=hn
 show wpAny _ X.A (assign (.Name y py) X.env (.ref D')) _ _ _
 refine wpAny_assign_Name (uv I' hN hi' (.inl hy) (v:=.ref D') rfl (fun s'' I'' hsb=>?_) (.inr hy))
 obtain⟨a,hsb,ha⟩:=hsb
 have nCa:C≠a:=by
  rcases ha with z|z
  ·rw[z];exact Nat.ne_of_gt (Nat.lt_of_lt_of_le I2.lt hle)
  ·obtain⟨v,o,ho,_⟩:=I2.cell y a z
   exact Nat.ne_of_gt (Nat.lt_of_lt_of_le (Heap.lt_size ho) hle)
 exact⟨m,hn.sameBut hsb nCa,fun h'' hs''=>⟨_,H',I2.goneC I'' hC hle hs'',q⟩⟩
end
section
variable {vs:List Str}{js:List Nat}{σ:St}{g:TG}{tt:TT}{te:TE}{Q:VK}
theorem kX {lo:Int}{n:Nat}{H:Hp}(Pv:Nat->St->List V->Hp->Prop) (D:Addr) (h0:Pv 0 (oG vs js σ) [] (upd H D (.lst [])))
  (hs:∀i σ' ys H',i<n->Pv i σ' ys H'->g (.int (lo+i)) σ' H' fun σ3 H3=>tt σ3 H3 fun b H4=>if b=true then te σ3 H4 fun y H5=>H5 D=some (.lst ys)/\ys.length<sizeLine/\Pv (i+1) σ3 (ys ++ [y]) (upd H5 D (.lst (ys ++ [y]))) else Pv (i+1) σ3 ys H4)
  (hd:∀σ' ys H',Pv n σ' ys H'->Q (.ref D) H') :
  uz (Fx lo n) vs js σ g tt te Q D H:=by
 refine⟨fun i m σ' ys H'=>m=n-i/\i<=n/\Pv i σ' ys H',⟨n,by simp,Nat.zero_le _,h0⟩,?_⟩
 rintro i m σ' ys H' ⟨rfl,hi,p⟩
 by_cases hlt:i<n
 ·refine .inr ⟨hlt,Pv (i+1),fun σ2 zs H2 p'=>⟨n-(i+1),by omega,rfl,hlt,p'⟩,fun x H2 y=>?_⟩
  obtain⟨e,y⟩:=y
  subst e y
  exact hs i σ' ys _ hlt p
 ·have e:i=n:=by omega
  subst e
  exact .inl ⟨Nat.le_refl _,hd σ' ys H' p⟩
theorem gU {K:W.Frag}{a:Addr}{xs:List V}{H:Hp}(Pv:Nat->St->List V->Hp->Prop) (D:Addr) (h0:Pv 0 (oG vs js σ) [] (upd H D (.lst []))) (hl:∀i σ' ys H',i<=xs.length->Pv i σ' ys H'->bN K H' a xs)
  (hs:∀i x σ' ys H',xs[i]? = some x->Pv i σ' ys H'->g x σ' H' fun σ3 H3=>tt σ3 H3 fun b H4=>if b=true then te σ3 H4 fun y H5=>H5 D=some (.lst ys)/\ys.length<sizeLine/\Pv (i+1) σ3 (ys ++ [y]) (upd H5 D (.lst (ys ++ [y]))) else Pv (i+1) σ3 ys H4)
  (hd:∀σ' ys H',Pv xs.length σ' ys H'->Q (.ref D) H') :
  uz (GK K a) vs js σ g tt te Q D H:=by
 refine⟨fun i m σ' ys H'=>m=xs.length-i/\i<=xs.length/\Pv i σ' ys H',⟨xs.length,by simp,Nat.zero_le _,h0⟩,?_⟩
 rintro i m σ' ys H' ⟨rfl,hi,p⟩
 have q:=hl i σ' ys H' hi p
 by_cases hlt:i<xs.length
 ·refine .inr ⟨⟨xs,xs[i],q,by simp[hlt]⟩,Pv (i+1),fun σ2 zs H2 p'=>⟨xs.length-(i+1),by omega,rfl,hlt,p'⟩,fun x H2 y=>?_⟩
  obtain⟨e,y⟩:=y
  subst e
  exact hs i x σ' ys _ (y xs q) p
 ·have e:i=xs.length:=by omega
  subst e
  exact .inl ⟨⟨xs,q,Nat.le_refl _⟩,hd σ' ys H' p⟩
end
theorem dW:bootBuiltins "len" = some (.builtin "len"):=by z_go
theorem L4:bootBuiltins "abs" = some (.builtin "abs"):=by z_go
theorem vj:bootBuiltins "max" = some (.builtin "max"):=by z_go
theorem Nd:bootBuiltins "min" = some (.builtin "min"):=by z_go
theorem NU:bootBuiltins "sum" = some (.builtin "sum"):=by z_go
theorem Nf:bootBuiltins "all" = some (.builtin "all"):=by z_go
theorem bA:bootBuiltins "isinstance" = some (.builtin "isinstance"):=by z_go
theorem er:bootBuiltins "sorted" = some (.builtin "sorted"):=by z_go
theorem As:bootBuiltins "int" = some (.type "int"):=by z_go
theorem ve:bootBuiltins "bool" = some (.type "bool"):=by z_go
theorem MQ:bootBuiltins "str" = some (.type "str"):=by z_go
theorem vc:bootBuiltins "list" = some (.type "list"):=by z_go
theorem D9:bootBuiltins "range" = some (.type "range"):=by z_go
structure bT (P:Program) (w:World) (K:W.Frag) (mg:Str->Option Value) (base:Heap) (x:Str) (ps:List Str) (k:Nat) (sp:Sp):Prop where
 ex:∃(f:Addr) (fd:FuncData),iw P w K mg base Ar k f fd ps sp/\Binds K fd ps []/\mg x=some (.ref f)/\W.keepIn K (.ref f)=true
section
variable {X:Cx}{x:Str}{ps:List Str}{k:Nat}{sp:Sp}{e:Expr}{es:List Expr}{t:TA}{p pos:Pos}
theorem cI (C:bT X.prog X.w X.K X.mg X.base x ps k sp) (hr:cA k X.A) (ha:PA X (e::es) t) (hg:Gl X x:=by rfl) (hdb:(x ==("__debug__" : Str))=false:=by decide) (he:starEach (e::es) X.env =(false,eval e X.env)::starEach es X.env:=by rfl) (hpl:(backTo pos (starEach es X.env)).any (·.1)=false:=by rfl) :
  PE X (.Call (.Name x p) (e::es) [] pos) (yc sp [] E0 t):=by
 obtain⟨f,fd,F,hb,hm,hk⟩:=C.ex
 exact Bg F hr hg hm hk hb .nil AN ha hdb he hpl
end
theorem bT.of {P:Program}{w:World}{K:W.Frag}{mg:Str->Option Value}{base:Heap}{x:Str}{st:Stmt}{f:Addr}{fd:FuncData}{N ps:List Str}{k:Nat}{sp:Sp}(F:cR K x x st f fd) (mF:mg x=some (.ref f)) (bF:Binds K fd ps []) (S:aB N ps (aq st)) (len:∀vs H Q E,sp vs H Q E->vs.length=ps.length)
  (hbody:∀(cdv:Value) (A:Around) (outer:List Env) (s:Shared) (H:Hp) (vs:List V) (Q:VK) (E:XK),cA k (A.deeper (envOfC x (aq st) s.heap.objs.size f cdv))->sp vs H Q E ->
   ∃t,o_ (mQ Ar P w K mg base N x (aq st) f cdv A outer s H E).nox (bP st) t/\t { nx:=fun _ H'=>Q .non H',rt:=Q } (start N vs) H):bT P w K mg base x ps (k+1) sp :=
 ⟨f,fd,F.ok S len hbody,bF,mF,F.kp⟩
def Pj (sc scope:Scope) (N vs fs:List Str) (js:List Nat):Bool :=
 (scope.kind == .function) && scope.names.all (fun y=>y.2 != .cell) && scope.names.all (fun y=>y.2 != .local || scope.names.lookup y.1 == some .local) &&
 scope.names.all (fun y=>y.2 != .free || sc.names.lookup y.1 == some .cell || sc.names.lookup y.1 == some .free) && vs.all (fun y=>scope.names.lookup y == some .local) && fs.all (fun y=>scope.names.lookup y == some .free) &&
 (js.map (fun j=>N[j]?) == fs.map some)
theorem mO {X:Cx}{sc scope:Scope}{N vs fs:List Str}{js:List Nat}(h:Pj sc scope N vs fs js=true) (hs:X.env.scope=sc) (hN:X.N=N):xr X scope vs fs js:=by
 unfold Pj at h
 simp only[Bool.and_eq_true,List.all_eq_true,beq_iff_eq,bne_iff_ne,Bool.or_eq_true]at h
 obtain⟨⟨⟨⟨⟨⟨h1,h2⟩,h3⟩,h4⟩,h5⟩,h6⟩,h7⟩:=h
 refine⟨h1,h2,fun y hy hl=>?_,fun y hy hf=>?_,h5,h6,?_⟩
 ·rcases h3 y hy with z|z
  ·exact absurd hl z
  ·exact z
 ·unfold Env.kindOf
  rw[hs]
  rcases h4 y hy with(z|z)|z
  ·exact absurd hf z
  ·exact .inl z
  ·exact .inr z
 ·rw[hN];exact h7
def O9 (t:TS):TS:=fun D σ H=>∃R:St->Hp->Prop,t { D with nx:=R } σ H/\∀σ' H',R σ' H'->D.nx σ' H'
theorem jt {X:Cx}{st:Stmt}{t:TS}(h:PS X st t):PS X st (O9 t):=by
 intro pins s σ H D I hw
 obtain⟨R,h1,h2⟩:=hw
 refine bX (h pins s σ H _ I h1) fun f s' q=>?_
 cases f with
 | next =>
  obtain⟨σ',H',I',q⟩:=q
  exact⟨σ',H',I',h2 _ _ q⟩
 | brk=>exact q
 | cont=>exact q
 | ret u=>exact q
section
variable {X:Cx}
def Pp (i j:Int):Prop:=0<j/\j<2^100
theorem jj:lE X (binaryOp .FloorDiv) (rI Pp fun i j=>.int (i / j)):=QJ fun i j _ _ _ _ _ hc q=>by
 have h1:(0:Int)<j:=hc.1
 have h2:j<2^100:=hc.2
 refine floordiv_int (by omega) (by rw[Int.fdiv_eq_ediv_of_nonneg i (by omega)];exact q) (.inl (PyProof.noPylong_of_log2 ?_))
 have h0:j.natAbs≠0:=by omega
 have h3:j.natAbs.log2<100:=(Nat.log2_lt h0).mpr (by omega)
 omega
theorem di {a b c:Int}{j1 j2:Nat}{p1 p2 pos:Pos}(h:a^b.toNat=c) (h1:LQ a b):PE X (.BinOp (.Constant (.int a) j1 p1) .Pow (.Constant (.int b) j2 p2) pos) (tC (.int c)):=by
 intro pins s σ H Q I q
 subst h
 exact aK Ax au au pins s σ H Q I ⟨a,b,rfl,rfl,h1,q⟩
theorem Ew:OS X (Nr X.K):=by
 intro pins s σ H x y v u Q I rx ry h
 obtain⟨p,xs,i,z,rfl,rfl,hq,he,q⟩:=h
 cases rx
 obtain⟨t,rfl⟩:=ry
 obtain⟨its,r,pl,hz⟩:=I.list hq
 obtain⟨j,h1,h2,h3,h4,h5⟩:=pK he
 obtain⟨w,ew,rw'⟩:=r.get h2
 have hl:=r.length
 have hn:=jh
 have fin:EP X pins σ Q w s:=⟨z,H,I,rw',q⟩
 by_cases h0:0<=i
 ·have hj:i.toNat=j:=by
   rw[seqIndex_of h0 h5]at h1
   exact Option.some.inj h1
  exact wpAny_getItem_list pl.isList h0 (by omega) (by rw[hj];simpa using ew) fin
 ·have hj:(i+(its.toArray.size:Int)).toNat=j:=by
   rw[seqIndex_neg (by omega) h4]at h1
   rw[List.size_toArray,<- hl]
   exact Option.some.inj h1
  exact wpAny_getItem_list_neg pl.isList (by omega) (by rw[List.size_toArray] <;> omega) (by omega) (by rw[hj];simpa using ew) fin
def AH:V->List V->Hp->VK->Prop:=fun x vs H Q=>∃i,x = .int i/\vs=[]/\Q (.int (Builtin.Int.intBits i:Nat)) H
theorem CG:Lc X "int.bit_length" AH:=by
 intro pins s σ H x xs v us Q I rx rs h
 obtain⟨i,rfl,rfl,q⟩:=h
 obtain⟨t,rfl⟩:=rx
 cases rs
 exact call_int_bit_length ⟨.int _,H,I.tok _,⟨_,rfl⟩,q⟩
def DQ (K:W.Frag):List V->Hp->VK->Prop:=fun xs H Q=>∃p ys,xs=[.ref p]/\(bN K H p ys\/oS K H p ys)/\Q (.int ys.length) H
theorem dR:cG X (.builtin "len") (DQ X.K):=vq
def Ld:List V->Hp->VK->Prop:=fun xs H Q=>∃i,xs=[.int i]/\Q (.int (if i<0 then -i else i)) H
theorem Bj:cG X (.builtin "abs") Ld:=Dv
def LH:List V->Hp->VK->Prop:=fun xs H Q=>∃i j,xs=[.int i,.int j]/\Q (.int (if j > i then j else i)) H
theorem nV (hc:X.calm=true):cG X (.builtin "max") LH:=B5 hc
def Lo:List V->Hp->VK->Prop:=fun xs H Q=>∃i j,xs=[.int i,.int j]/\Q (.int (if j<i then j else i)) H
theorem Bu (hc:X.calm=true):cG X (.builtin "min") Lo:=BW hc
def P0 (K:W.Frag):List V->Hp->VK->Prop:=fun xs H Q=>∃x t T b,xs=[x,.ty T]/\je K H x t/\W.kitOne K t (.type T)=some b/\Q (.bl b) H
theorem e8:cG X (.builtin "isinstance") (P0 X.K):=by
 intro pins s σ H xs us Q I r h
 obtain⟨x,t,T,b,rfl,ty,e,q⟩:=h
 obtain⟨u,w',rfl,r1,r2⟩:=vals2 r
 cases (show w'=Value.type T from r2)
 exact CP I r1 ty e fun tk=>⟨.bl b,H,I.tok _,rfl,q⟩
end
section
variable {σ:St}{H:Hp}{Q:VK}{D:Ends}
theorem Nk {i:Nat}{v:V}(h:σ[i]? = some (some v)) (q:Q v H):MZ i σ H Q:=⟨v,h,q⟩
theorem U3 {v:V}(q:Q v H):tC v σ H Q:=q
theorem Qo {r:R2}{ta tb:TE}(h:ta σ H fun x H1=>tb σ H1 fun y H2=>r x y H2 Q):Qq r ta tb σ H Q:=h
theorem P4 {r:V->Hp->VK->Prop}{ta:TE}(h:ta σ H fun x H1=>r x H1 Q):Wm r ta σ H Q:=h
theorem QH {g:Int->Int->V}{i j:Int}(q:Q (g i j) H):JI g (.int i) (.int j) H Q:=⟨i,j,rfl,rfl,q⟩
theorem S1 {C:Int->Int->Prop}{g:Int->Int->V}{i j:Int}(c:C i j) (q:Q (g i j) H):rI C g (.int i) (.int j) H Q:=⟨i,j,rfl,rfl,c,q⟩
theorem Vo {g:Int->V}{i:Int}(q:Q (g i) H):rU g (.int i) H Q:=⟨i,rfl,q⟩
theorem wA {i j:Int}:decide (V.int i=V.int j)=decide (i=j):=by
 rw[Bool.eq_iff_iff];simp
theorem ML {i j:Int}(q:Q (.bl (decide (i=j))) H):VN (.int i) (.int j) H Q:=⟨rfl,by rw[wA];exact q⟩
theorem Mt {i j:Int}(q:Q (.bl (!decide (i=j))) H):Wj (.int i) (.int j) H Q:=⟨rfl,by rw[wA];exact q⟩
theorem Nl {i j:Bool}(q:Q (.bl (decide (i=j))) H):VN (.bl i) (.bl j) H Q:=⟨rfl,by
 have e:decide (V.bl i=V.bl j)=decide (i=j):=by rw[Bool.eq_iff_iff];simp
 rw[e];exact q⟩
theorem OU {c:Bool}{P:Bool->Prop}(h:P c):∃k,V.bl c=V.bl k/\P k:=⟨c,rfl,h⟩
theorem Kl {t:TE}{R:Bool->Hp->Prop}(h:t σ H fun x H'=>∃k,x = .bl k/\R k H'):Dh t σ H R:=h
theorem Ph {t:TE}{R:Bool->Hp->Prop}(h:t σ H fun x H'=>∃k,x = .bl k/\R k H'):tB t σ H R:=h
theorem NJ {t u:TT}{R:Bool->Hp->Prop}(h:t σ H fun c H1=>if c=true then u σ H1 R else R false H1):PZ t u σ H R:=h
theorem Qz {t u:TT}{R:Bool->Hp->Prop}(h:t σ H fun c H1=>if c=true then R true H1 else u σ H1 R):QU t u σ H R:=h
theorem Mc {t:TT}{R:Bool->Hp->Prop}(h:t σ H fun c H1=>R (!c) H1):Qw t σ H R:=h
theorem Jl {ta tb:TE}(h:ta σ H fun x H1=>∃c,x = .bl c/\if c=true then tb σ H1 Q else Q (.bl false) H1):Lv ta tb σ H Q:=h
theorem KC {ta:TE}(h:ta σ H fun x H1=>∃c,x = .bl c/\Q (.bl (!c)) H1):K8 ta σ H Q:=h
theorem DY {r r':R2}{ta tb tc:TE}(h:ta σ H fun x H1=>tb σ H1 fun y H2=>r x y H2 fun z H3=>∃k,z = .bl k/\(if k=true then tc σ H3 fun w' H4=>r' y w' H4 Q else Q (.bl false) H3)):yi r r' ta tb tc σ H Q:=h
theorem Nz {R:List V->Hp->Prop}(h:R [] H):EJ σ H R:=h
theorem Kn {ta:TE}{tr:TA}{R:List V->Hp->Prop}(h:ta σ H fun x H1=>tr σ H1 fun xs H2=>R (x::xs) H2):Fp ta tr σ H R:=h
theorem Iw {sp:Sp}{dvs:List V}{E:XK}{t:TA}(h:t σ H fun vs H1=>sp (vs++dvs) H1 Q E):yc sp dvs E t σ H Q:=h
theorem Qx {r:List V->Hp->VK->Prop}{t:TA}(h:t σ H fun vs H1=>r vs H1 Q):Wi r t σ H Q:=h
theorem Nn {t:TA}(h:t σ H fun xs H1=>xs.length<=sizeLine/\∀p,H1 p=none->Q (.ref p) (upd H1 p (.lst xs))):Mw t σ H Q:=h
theorem Mi {t:TA}(h:t σ H fun xs H1=>xs.length<=sizeLine/\∀p,H1 p=none->Q (.ref p) (upd H1 p (.tup xs))):Ql t σ H Q:=h
theorem NQ {te:TE}{g:TG}(h:te σ H fun x H1=>g x σ H1 D.nx):IM te g D σ H:=h
theorem ER {i:Nat}{v:V}{R:St->Hp->Prop}(h:R (σ.set i (some v)) H):wB i v σ H R:=h
theorem MO {te:TE}(h:te σ H D.rt):Qi te D σ H:=h
theorem Kq (h:D.nx σ H):Lk D σ H:=h
theorem Ka {te:TE}(h:te σ H fun _ H1=>D.nx σ H1):Lz te D σ H:=h
theorem cL {K:W.Frag}{p:Addr}{xs:List V}{i:Int}{v:V}(h:bN K H p xs) (e:sZ xs i=some v) (q:Q v H):Nr K (.ref p) (.int i) H Q:=⟨p,xs,i,v,rfl,rfl,h,e,q⟩
theorem L1 {K:W.Frag}{T:String}{r:V->List V->Hp->VK->Prop}{to:TE}(h:to σ H fun x H1=>QK K T x H1/\r x [] H1 Q):Qa K T r to σ H Q:=h
theorem OP {K:W.Frag}{T:String}{r:V->List V->Hp->VK->Prop}{to:TE}{t:TA}(h:to σ H fun x H1=>QK K T x H1/\t σ H1 fun xs H2=>r x xs H2 Q):WE K T r to t σ H Q:=h
theorem IQ {to ti te:TE}{tget:V->V->Hp->VK->Prop}{tip:Lj}{tset:zJ}(h:to σ H fun o H1=>ti σ H1 fun i H2=>tget o i H2 fun x H3=>te σ H3 fun y H4=>tip x y H4 fun z H5=>tset o i z H5 fun H6=>D.nx σ H6):LM to ti te tget tip tset D σ H:=h
theorem OW {f:Int->Int->Int}{i j:Int}(q:Q (.int (f i j)) H):Wl f (.int i) (.int j) H Q:=⟨i,j,rfl,rfl,q⟩
theorem JQ {p:Addr}{a:V}{r:List V}{v:V}{R:Hp->Prop}(h:H p=some (.lst (a::r))) (q:R (upd H p (.lst (v::r)))):Fb (.ref p) (.int 0) v H R :=
 ⟨p,_,0,0,rfl,rfl,h,by unfold Fc;rw[if_pos (by decide),if_pos (by rw[List.length_cons];omega)];rfl,q⟩
theorem IC {p:Addr}{a b:V}{r:List V}{v:V}{R:Hp->Prop}(h:H p=some (.lst (a::b::r))) (q:R (upd H p (.lst (a::v::r)))):Fb (.ref p) (.int 1) v H R :=
 ⟨p,_,1,1,rfl,rfl,h,by unfold Fc;rw[if_pos (by decide),if_pos (by rw[List.length_cons,List.length_cons];omega)];rfl,q⟩
theorem KN {to ti:TE}{t:zJ}{v:V}{R:St->Hp->Prop}(h:to σ H fun o H1=>ti σ H1 fun i H2=>t o i v H2 fun H3=>R σ H3):Px to ti t v σ H R:=h
theorem ON {r:V->Option Int->Option Int->Hp->VK->Prop}{te:TE}{tl th:TO}(h:te σ H fun x H1=>tl σ H1 fun l H2=>th σ H2 fun u H3=>r x l u H3 Q):Wr r te tl th σ H Q:=h
theorem Ob {R:Option Int->Hp->Prop}(h:R none H):Bc σ H R:=h
theorem JK {t:TE}{R:Option Int->Hp->Prop}(h:t σ H fun x H1=>∃i,x = .int i/\R (some i) H1):Lw t σ H R:=h
theorem M6 {i:Int}{P:Int->Prop}(h:P i):∃k,V.int i=V.int k/\P k:=⟨i,rfl,h⟩
theorem rm {K:W.Frag}{a:Addr}{xs:List V}{lo hi:Option Int}(h:bN K H a xs) (q:∀p,H p=none->Q (.ref p) (upd H p (.lst (lQ xs lo hi)))):Ov K (.ref a) lo hi H Q:=⟨a,xs,rfl,h,q⟩
theorem JY {K:W.Frag}{a:Addr}{ys:List V}(h:bN K H a ys) (q:Q (.int ys.length) H):DQ K [.ref a] H Q:=⟨a,ys,rfl,.inl h,q⟩
theorem MR {i:Int}(q:Q (.int (if i<0 then -i else i)) H):Ld [.int i] H Q:=⟨i,rfl,q⟩
theorem Ow {i j:Int}(q:Q (.int (max i j)) H):LH [.int i,.int j] H Q:=⟨i,j,rfl,by
 have e:(if j > i then j else i)=max i j:=by omega
 rw[e];exact q⟩
theorem N6 {i j:Int}(q:Q (.int (min i j)) H):Lo [.int i,.int j] H Q:=⟨i,j,rfl,by
 have e:(if j<i then j else i)=min i j:=by omega
 rw[e];exact q⟩
theorem qz {K:W.Frag}{x:V}{t:Value}{T:String}{b:Bool}(h:je K H x t) (e:W.kitOne K t (.type T)=some b) (q:Q (.bl b) H):P0 K [x,.ty T] H Q:=⟨x,t,T,b,rfl,h,e,q⟩
theorem CW {i:Int}(q:Q (.int (Builtin.Int.intBits i:Nat)) H):AH (.int i) [] H Q:=⟨i,rfl,rfl,q⟩
theorem cN {c:Prop} [Decidable c] {A B:Prop}(h1:c->A) (h2:¬ c->B):if decide c=true then A else B:=by
 by_cases h:c
 ·rw[decide_eq_true h,if_pos rfl];exact h1 h
 ·rw[decide_eq_false h,if_neg Bool.false_ne_true];exact h2 h
theorem Em {c:Prop} [Decidable c] {A B:Prop}(h1:¬ c->A) (h2:c->B):if (!decide c)=true then A else B:=by
 by_cases h:c
 ·rw[decide_eq_true h];exact(if_neg (by decide)).mpr (h2 h)
 ·rw[decide_eq_false h];exact(if_pos rfl).mpr (h1 h)
theorem Ih {ta:TA}{R:It->Hp->Prop}(h:ta σ H fun vs H1=>∃j:Int,vs=[.int j]/\-(2^62)<=j/\j<2^62/\R (Fx 0 j.toNat) H1):Lg ta σ H R:=h
theorem DM {K:W.Frag}{tl:TE}{R:It->Hp->Prop}(h:tl σ H fun x H1=>∃a,x = .ref a/\(∃xs,bN K H1 a xs)/\R (GK K a) H1):Lb K tl σ H R:=h
theorem Hx {vs:List Str}{js:List Nat}{wi:TI}{g:TG}{tt:TT}{te:TE}(h:wi σ H fun J H1=>∀D,H1 D=none->uz J vs js σ g tt te Q D H1):E7 vs js wi g tt te σ H Q:=h
theorem MK {R:Bool->Hp->Prop}(h:R true H):PV σ H R:=h
theorem IK {A B:Prop}(h:A):if true=true then A else B:=PY h
theorem G_ {A B:Prop}(h:B):if false=true then A else B:=OY h
theorem FW {A B:Prop}(h:A):if (!false)=true then A else B:=PY h
theorem Er {A B:Prop}(h:B):if (!true)=true then A else B:=OY h
theorem ES {ms:List Int}{k:Nat}:lQ (ms.map V.int) (some (k:Int)) none =(ms.drop k).map V.int:=by
 unfold lQ
 rw[HT.sIx_nat,HT.sIx_none,List.length_map,<- List.map_drop]
 by_cases h:k<=ms.length
 ·rw[Nat.min_eq_left h,List.take_of_length_le (by rw[List.length_map,List.length_drop];omega)]
 ·rw[List.drop_eq_nil_of_le (by omega:ms.length<=min k ms.length),List.drop_eq_nil_of_le (by omega:ms.length<=k)]
  simp
theorem Fo {ms:List Int}{k:Nat}:lQ (ms.map V.int) none (some (k:Int)) =(ms.take k).map V.int:=by
 unfold lQ
 rw[HT.sIx_nat,HT.sIx_none,List.length_map,List.drop_zero,Nat.sub_zero,<- List.map_take]
 by_cases h:k<=ms.length
 ·rw[Nat.min_eq_left h]
 ·rw[Nat.min_eq_right (by omega),List.take_of_length_le (Nat.le_refl _),List.take_of_length_le (by omega)]
theorem aT {H:Hp}{p:Addr}(h:H p=none) (o:HO):aM H (upd H p o):=fun b u q=>by rw[az (ay q h)];exact q
end
mutual
inductive DV (K:W.Frag) (H:Hp):V->PyData->Prop
 | non:DV K H .non .none
 | bl (b:Bool):DV K H (.bl b) (.bool b)
 | int (i:Int):DV K H (.int i) (.int i)
 | str (x:Str):DV K H (.str x) (.str x)
 | lst {a:Addr}{xs:List V}{ds:List PyData}:bN K H a xs->rW K H xs ds->DV K H (.ref a) (.list ds)
 | tup {a:Addr}{xs:List V}{ds:List PyData}:oS K H a xs->rW K H xs ds->DV K H (.ref a) (.tuple ds)
inductive rW (K:W.Frag) (H:Hp):List V->List PyData->Prop
 | nil:rW K H [] []
 | cons {x:V}{d:PyData}{xs:List V}{ds:List PyData}:DV K H x d->rW K H xs ds->rW K H (x::xs) (d::ds)
end
section
variable {X:Cx}{pins:List (Addr×Obj)}{σ:St}{H:Hp}{s:Shared}
mutual
theorem DV.reads (I:Inv X pins σ H s):∀{x:V}{d:PyData}{v:Value},DV X.K H x d->RelV x v->∃as,Reads s.heap v d as
 | _,_,_,.non,r=>by cases r;exact⟨_,.none⟩
 | _,_,_,.bl b,r=>by cases r;exact⟨_,.bool b⟩
 | _,_,_,.int i,r=>by obtain⟨t,rfl⟩:=r;exact⟨_,.int i t⟩
 | _,_,_,.str x,r=>by obtain⟨t,rfl⟩:=r;exact⟨_,.str x t⟩
 | _,_,_,.lst (a:=a) h ds,r=>by
  cases r
  obtain⟨its,rv,⟨o,n,e,c,_,d⟩,_⟩:=I.list h
  obtain⟨as,q⟩:=rW.reads I ds rv
  exact⟨_,.list e c d (by simpa using q)⟩
 | _,_,_,.tup (a:=a) h ds,r=>by
  cases r
  obtain⟨its,rv,⟨o,e,c,n,d⟩,_⟩:=I.tuple h
  obtain⟨as,q⟩:=rW.reads I ds rv
  exact⟨_,.tuple e c d (by simpa using q)⟩
theorem rW.reads (I:Inv X pins σ H s):∀{xs:List V}{ds:List PyData}{vs:List Value},rW X.K H xs ds->Vals xs vs->∃as,ReadsAll s.heap vs ds as
 | _,_,_,.nil,r=>by cases r;exact⟨_,.nil⟩
 | _,_,_,.cons h t,r=>by
  cases r with
  | cons r1 r2 =>
   obtain⟨as,q⟩:=DV.reads I h r1
   obtain⟨bs,p⟩:=rW.reads I t r2
   exact⟨_,.cons q p⟩
end
end
theorem rW.ints {K:W.Frag}{H:Hp}:∀ns:List Int,rW K H (ns.map V.int) (ns.map PyData.int)
 | []=>.nil
 | n::r=>.cons (.int n) (rW.ints r)
theorem lay_ints:∀ns:List Int,PyData.canLayAll0 (ns.map PyData.int)=true/\PyData.depthAll (ns.map PyData.int)=0
 | []=>⟨rfl,rfl⟩
 | n::r=>by
  obtain⟨h1,h2⟩:=lay_ints r
  simp[PyData.canLayAll0,PyData.canLay0,PyData.depthAll,PyData.depth,h1,h2]
theorem shaped_ints (ns:List Int):SeqAt.shaped (.list (ns.map PyData.int))=true:=by
 obtain⟨h1,h2⟩:=lay_ints ns
 simp[SeqAt.shaped,PyData.canLay0,PyData.depth,h1,h2]
theorem pS:∀ns ms:List Int,PyData.eqvAll (ns.map PyData.int) (ms.map PyData.int)=decide (ns=ms)
 | [],[]=>rfl
 | [],_::_=>rfl
 | _::_,[]=>rfl
 | n::ns,m::ms=>by
  rw[List.map_cons,List.map_cons,PyData.eqvAll,PyData.eqv,pS ns ms,Bool.eq_iff_iff]
  simp
section
variable {X:Cx}
def Vz (K:W.Frag):R2:=fun x y H Q=>∃d e,DV K H x d/\DV K H y e/\SeqAt.shaped d=true/\SeqAt.shaped e=true/\Q (.bl (PyData.eqv d e)) H
def Rq (K:W.Frag):R2:=fun x y H Q=>∃d e,DV K H x d/\DV K H y e/\SeqAt.shaped d=true/\SeqAt.shaped e=true/\Q (.bl (!PyData.eqv d e)) H
theorem vo (hu:X.A.units+64<cLine):lE X (compareOp .Eq) (Vz X.K):=by
 intro pins s σ H x y v u Q I rx ry h
 obtain⟨d,e,h1,h2,h3,h4,q⟩:=h
 obtain⟨as,r1⟩:=h1.reads I rx
 obtain⟨bs,r2⟩:=h2.reads I ry
 exact eq_dataH r1 r2 h3 h4 hu ⟨.bl _,H,I,rfl,q⟩
theorem jr (hu:X.A.units+64<cLine):lE X (compareOp .NotEq) (Rq X.K):=by
 intro pins s σ H x y v u Q I rx ry h
 obtain⟨d,e,h1,h2,h3,h4,q⟩:=h
 obtain⟨as,r1⟩:=h1.reads I rx
 obtain⟨bs,r2⟩:=h2.reads I ry
 exact ne_dataH r1 r2 h3 h4 hu ⟨.bl _,H,I,rfl,q⟩
end
end L2
namespace L2
open PySem PySem.Spec PyProof.Rows
section
variable {X:Cx}
theorem Be {x:Str}{i:Int}{pos:Pos}(hg:Gl X x) (hm:∃t,X.mg x=some (.int i t)) (hd:(x ==("__debug__" : Str))=false:=by decide):PE X (.Name x pos) (tC (.int i)):=by
 obtain⟨t,hm⟩:=hm
 exact eS hg hm ⟨_,rfl⟩ hd
def LG (K:W.Frag):List V->Hp->VK->Prop:=fun xs H Q=>∃a ns,xs=[.ref a]/\bN K H a (List.map V.int ns)/\Q (.int (List.sum ns)) H
theorem CI (hc:X.calm=true):cG X (.builtin "sum") (LG X.K):=by
 intro pins s σ H xs us Q I r h
 obtain⟨a,ns,rfl,hq,q⟩:=h
 obtain⟨u,rfl,r1⟩:=vals1 r
 cases (show u=Value.ref a from r1)
 obtain⟨its,rv,pl,hz⟩:=I.list hq
 have hi:IntsAre its ns:=intsAre_of rv
 obtain⟨zs,hx⟩:=hi.allInts.items
 have e1:numsOf its=ns:=hi.numsOf
 have e2:numsOf its=zs.toList.map (·.1):=by
  have:=nums_intItems zs
  rw[<- hx]at this
  simpa using this
 have hl:s.heap.IsList a (intItems zs):=by rw[<- hx];exact pl.isList
 refine sum_intListG (I.ok.hd hc) hl fun h' tk t' hk=>?_
 refine⟨.int ns.sum,H,I.kept hk,⟨t',?_⟩,q⟩
 rw[preSum_eq,List.take_of_length_le (by simp),<- e2,e1]
theorem tY:∀{bs:List Bool}{its:List Value}{i:Nat}{v:Value},Vals (bs.map V.bl) its->its[i]? = some v->∃b,bs[i]? = some b/\v = .bool b
 | [],_,i,v,.nil,e=>by simp at e
 | b::bs,_,0,v,.cons r t,e=>by
  simp at e;subst e
  exact⟨b,rfl,r⟩
 | b::bs,_,i+1,v,.cons r t,e=>by
  obtain⟨c,h1,h2⟩:=tY (i:=i) (v:=v) t (by simpa using e)
  exact⟨c,by simpa using h1,h2⟩
theorem all_range (bs:List Bool):(List.range bs.length).all (fun i=>bs.getD i true)=bs.all id:=by
 rw[Bool.eq_iff_iff,List.all_eq_true,List.all_eq_true]
 constructor
 ·intro h b hb
  obtain⟨i,hi,rfl⟩:=List.mem_iff_getElem.mp hb
  have:=h i (List.mem_range.mpr hi)
  simpa [List.getD,hi] using this
 ·intro h i hi
  have hi':=List.mem_range.mp hi
  have:=h bs[i] (List.getElem_mem hi')
  simpa [List.getD,hi'] using this
theorem Io {s:Shared}{l:Addr}{items:Array Value}{A:Around}{E:Value->Shared->Prop}{Q:Value->Shared->Prop}{prog:Program}{w:World}(hl:s.heap.IsList l items)
  (h:∀s₂:Shared,s₂ = { s with heap:=s.heap.push { cls:=.type "list_iterator",data:=.fields #[.ref l,.int 0 0] } }->(s₂.heap.IsListIter s.heap.objs.size l 0/\s₂.heap.IsList l items)->l≠s.heap.objs.size->Q (.ref s.heap.objs.size) s₂) :
  wpAny (model prog w) A (pyIter (.ref l)) Q E s:=by
 have hlt:l<s.heap.objs.size:=by obtain⟨_,e,_⟩:=hl;exact Heap.lt_size e
 exact wpAny_pyIter_list hl (h _ rfl ⟨⟨_,Heap.get?_push_size _ rfl,rfl,rfl⟩,hl.push _⟩ (Nat.ne_of_lt hlt))
def Lf (K:W.Frag):List V->Hp->VK->Prop:=fun xs H Q=>∃a bs,xs=[.ref a]/\bN K H a (List.map V.bl bs)/\Q (.bl (bs.all id)) H
theorem BE (hc:X.calm=true):cG X (.builtin "all") (Lf X.K):=by
 intro pins s σ H xs us Q I r h
 obtain⟨a,bs,rfl,hq,q⟩:=h
 obtain⟨u,rfl,r1⟩:=vals1 r
 cases (show u=Value.ref a from r1)
 obtain⟨its,rv,pl,hz⟩:=I.list hq
 have hlen:bs.length=its.length:=by simpa using rv.length
 refine call_all_walk (Io pl.isList fun s₂ e st hne=>?_)
 subst e
 refine⟨_,_,_,_,_,_,fun i=>bs.getD i true,rfl,Walks.list (A:=X.A.in1) (I.ok.hd hc) _ a hne its.toArray,st,fun i v s' Q' E' hP hQ=>?_,fun h' tk hk=>?_⟩
 ·obtain⟨b,h1,rfl⟩:=tY rv (by simpa using hP)
  have e:bs.getD i true=b:=by simp[List.getD,h1]
  exact wpAny_truthy_bool (by have hQ2:=hQ;dsimp only at hQ2;rw[e]at hQ2;exact hQ2)
 ·refine⟨.bl (bs.all id),H,I.kept (fun b o e=>hk b o (fun z=>?_) (Heap.get?_push_of_some _ e)),?_,q⟩
  ·have z':b=s.heap.objs.size:=by simpa using z
   rw[z']at e
   exact absurd (Heap.lt_size e) (Nat.lt_irrefl _)
  ·show Value.bool _=Value.bool _
   rw[List.size_toArray,<- hlen,all_range]
end
section
variable {X:Cx}{K:W.Frag}
theorem zG (h:X.K=K):cG X (.builtin "len") (DQ K):=by subst h;exact dR
theorem Dr (h:X.K=K):Q4 X (Ov K):=by subst h;exact mS
end
section
variable {σ:St}{H:Hp}{Q:VK}{D:Ends}
theorem JN {K:W.Frag}{a:Addr}{ns:List Int}(h:bN K H a (ns.map V.int)) (q:Q (.int ns.sum) H):LG K [.ref a] H Q:=⟨a,ns,rfl,h,q⟩
theorem Jg {K:W.Frag}{a:Addr}{bs:List Bool}(h:bN K H a (bs.map V.bl)) (q:Q (.bl (bs.all id)) H):Lf K [.ref a] H Q:=⟨a,bs,rfl,h,q⟩
theorem NO {K:W.Frag}{p:Addr}{xs:List V}{i:Int}{v:V}(h:oS K H p xs) (e:sZ xs i=some v) (q:Q v H):O_ K (.ref p) (.int i) H Q:=⟨p,xs,i,v,rfl,rfl,h,e,q⟩
end
section
variable {κ:Type} [DecidableEq κ]
def iV (kvs:List (κ×V)) (k:κ):Option V:=(kvs.find? fun kv=>decide (kv.1=k)).map (·.2)
def putK (kvs:List (κ×V)) (k:κ) (v:V):List (κ×V) :=
 if (kvs.any fun kv=>decide (kv.1=k))=true then kvs.map (fun kv=>if kv.1=k then(kv.1,v) else kv) else kvs ++ [(k,v)]
def oH (kvs:List (κ×V)) (k:κ):List (κ×V):=kvs.filter fun kv=>decide (kv.1≠k)
theorem mw {p:κ×V}{r:List (κ×V)}{k:κ}(e:p.1=k):iV (p::r) k=some p.2:=by simp[iV,List.find?_cons,e]
theorem mD {p:κ×V}{r:List (κ×V)}{k:κ}(e:¬ p.1=k):iV (p::r) k=iV r k:=by simp[iV,List.find?_cons,e]
theorem xS (k:κ):∀kvs:List (κ×V),(kvs.any fun kv=>decide (kv.1=k)) =(iV kvs k).isSome
 | []=>rfl
 | p::r=>by
  rw[List.any_cons]
  by_cases e:p.1=k
  ·simp only[mw e,decide_eq_true e,Bool.true_or,Option.isSome_some]
  ·rw[mD e,decide_eq_false e,Bool.false_or];exact xS k r
theorem oK (kvs:List (κ×V)) (k:κ) (v:V):(putK kvs k v).length<=kvs.length+1:=by
 unfold putK
 split
 ·rw[List.length_map];omega
 ·rw[List.length_append,List.length_cons,List.length_nil];omega
theorem iC.isSome_eq {o:Option V}{u:Option Value}(r:iC o u):o.isSome=u.isSome:=by
 cases o with
 | none=>cases u with
  | none=>rfl
  | some _=>exact(show False from r).elim
 | some _=>cases u with
  | none=>exact(show False from r).elim
  | some _=>rfl
theorem KV.val {kvs:List (κ×V)}{vs:List (κ×Value)}(r:KV kvs vs) (k:κ):iC (iV kvs k) (valueAt vs k):=by
 unfold KV at r
 induction r with
 | nil=>exact True.intro
 | @cons p q ps qs h t ih =>
  obtain⟨h1,h2⟩:=h
  by_cases e:p.1=k
  ·have e':q.1=k:=h1.symm.trans e
   have b:valueAt (q::qs) k=some q.2:=by simp[valueAt,List.find?_cons,e']
   rw[mw e,b];exact h2
  ·have e':¬ q.1=k:=fun z=>e (h1.trans z)
   have b:valueAt (q::qs) k=valueAt qs k:=by simp[valueAt,List.find?_cons,e']
   rw[mD e,b];exact ih
theorem KV.any {kvs:List (κ×V)}{vs:List (κ×Value)}(r:KV kvs vs) (k:κ):(kvs.any fun kv=>decide (kv.1=k))=vs.any fun kv=>decide (kv.1=k):=by
 unfold KV at r
 induction r with
 | nil=>rfl
 | cons h t ih=>rw[List.any_cons,List.any_cons,ih,h.1]
theorem KV.repl {kvs:List (κ×V)}{vs:List (κ×Value)}(r:KV kvs vs) (k:κ) {y:V}{u:Value}(ry:RelV y u) :
  KV (kvs.map fun kv=>if kv.1=k then(kv.1,y) else kv) (vs.map fun kv=>if kv.1=k then(kv.1,u) else kv):=by
 unfold KV at r ⊢
 induction r with
 | nil=>exact .nil
 | @cons p q ps qs h t ih =>
  rw[List.map_cons,List.map_cons]
  refine .cons ?_ ih
  obtain⟨h1,h2⟩:=h
  by_cases e:p.1=k
  ·rw[if_pos e,if_pos (h1.symm.trans e)];exact⟨h1,ry⟩
  ·rw[if_neg e,if_neg (fun z=>e (h1.trans z))];exact⟨h1,h2⟩
theorem KV.put {kvs:List (κ×V)}{vs:List (κ×Value)}(r:KV kvs vs) (k:κ) {y:V}{u:Value}(ry:RelV y u):KV (putK kvs k y) (stored vs k u):=by
 unfold putK stored
 rw[r.any k]
 by_cases e:(vs.any fun kv=>decide (kv.1=k))=true
 ·rw[if_pos e,if_pos e];exact r.repl k ry
 ·rw[if_neg e,if_neg e];exact Paired.snoc r ⟨rfl,ry⟩
theorem KV.drop {kvs:List (κ×V)}{vs:List (κ×Value)}(r:KV kvs vs) (k:κ):KV (oH kvs k) (without vs k):=by
 unfold KV at r ⊢
 unfold oH without
 induction r with
 | nil=>exact .nil
 | @cons p q ps qs h t ih =>
  obtain⟨h1,h2⟩:=h
  rw[List.filter_cons,List.filter_cons]
  by_cases e:p.1=k
  ·have a:¬ decide (p.1≠k)=true:=by simp[e]
   have b:¬ decide (q.1≠k)=true:=by simp[h1.symm.trans e]
   rw[if_neg a,if_neg b];exact ih
  ·have e':¬ q.1=k:=fun z=>e (h1.trans z)
   have a:decide (p.1≠k)=true:=by simp[e]
   have b:decide (q.1≠k)=true:=by simp[e']
   rw[if_pos a,if_pos b];exact .cons ⟨h1,h2⟩ ih
theorem KV.length {kvs:List (κ×V)}{vs:List (κ×Value)}(r:KV kvs vs):kvs.length=vs.length:=Paired.length r
theorem Ea (kvs:List (κ×V)) (k:κ):(oH kvs k).length<=kvs.length:=List.length_filter_le _ _
end
theorem tZ {P:Program}{w:World}{k:Key}{u:Value}(r:RelV (kV k) u):(bE P w).is k u=true:=by
 cases k with
 | inl i=>obtain⟨t,e⟩:=(show ∃t,u=Value.int i t from r);subst e;exact xD P w i t
 | inr x=>obtain⟨t,e⟩:=(show ∃t,u=Value.str x t from r);subst e;exact yd P w x t
theorem ua {P:Program}{w:World}:∀{ks:List Key}{us:List Value},Vals (ks.map kV) us->ItemsAre (bE P w) ks us
 | [],_,r=>by rw[List.map_nil]at r;cases r;exact .nil
 | k::ks,_,r=>by
  rw[List.map_cons]at r
  cases r with
  | cons h t=>exact .cons (tZ h) (ua t)
abbrev KT (H:Hp):List (List Key×V)->List (List Key×Addr×Value)->Prop:=Paired fun p q=>p.1=q.1/\H q.2.1=some (.tup (p.1.map kV))/\RelV p.2 q.2.2
theorem KT.val {H:Hp}{kvs:List (List Key×V)}{xs:List (List Key×Addr×Value)}(r:KT H kvs xs) (k:List Key):iC (iV kvs k) ((atKey xs k).map (·.2)):=by
 induction r with
 | nil=>exact True.intro
 | @cons p q ps qs h t ih =>
  obtain⟨h1,_,h2⟩:=h
  by_cases e:p.1=k
  ·have e':q.1=k:=h1.symm.trans e
   have b:atKey (q::qs) k=some q.2:=by simp[atKey,List.find?_cons,e']
   rw[mw e,b];exact h2
  ·have e':¬ q.1=k:=fun z=>e (h1.trans z)
   have b:atKey (q::qs) k=atKey qs k:=by simp[atKey,List.find?_cons,e']
   rw[mD e,b];exact ih
theorem KT.repl {H:Hp}{kvs:List (List Key×V)}{xs:List (List Key×Addr×Value)}(r:KT H kvs xs) (k:List Key) {y:V}{u:Value}(ry:RelV y u) :
  KT H (kvs.map fun kv=>if kv.1=k then(kv.1,y) else kv) (xs.map (putAt k u)):=by
 induction r with
 | nil=>exact .nil
 | @cons p q ps qs h t ih =>
  rw[List.map_cons,List.map_cons]
  refine .cons ?_ ih
  obtain⟨h1,h2,h3⟩:=h
  unfold putAt
  by_cases e:p.1=k
  ·rw[if_pos e,if_pos (h1.symm.trans e)];exact⟨h1,h2,ry⟩
  ·rw[if_neg e,if_neg (fun z=>e (h1.trans z))];exact⟨h1,h2,h3⟩
theorem KT.put {H:Hp}{kvs:List (List Key×V)}{xs:List (List Key×Addr×Value)}(r:KT H kvs xs) (k:List Key) {b:Addr}{y:V}{u:Value}(hb:H b=some (.tup (k.map kV))) (ry:RelV y u) :
  KT H (putK kvs k y) (storedH xs k b u):=by
 have e:(kvs.any fun kv=>decide (kv.1=k)) =(atKey xs k).isSome:=by
  rw[xS,(r.val k).isSome_eq,Option.isSome_map]
 unfold putK storedH
 rw[e]
 by_cases q:(atKey xs k).isSome=true
 ·rw[if_pos q,if_pos q];exact r.repl k ry
 ·rw[if_neg q,if_neg q];exact Paired.snoc r ⟨rfl,hb,ry⟩
theorem KT.keeps {H H':Hp}{kvs:List (List Key×V)}{xs:List (List Key×Addr×Value)}(r:KT H kvs xs) (ht:∀b ys,H b=some (.tup ys)->H' b=some (.tup ys)):KT H' kvs xs :=
 Paired.mapP r fun _ _ z=>⟨z.1,ht _ _ z.2.1,z.2.2⟩
section
variable {P:Program}{w:World}{H:Hp}{h:Heap}{a:Addr}
theorem KY {u:HO}(ok:kH P w H h) (e:Rd H a u):cH P w H h a u:=e.ok ok
theorem qN {kvs:List (Key×V)}(ok:kH P w H h) (e:Rd H a (.dK kvs)):kvs.length<=sizeLine/\(a == sysModules)=false/\∃vs,KV kvs vs/\h.DictOf (bE P w) a vs :=
 show cH P w H h a (.dK kvs) from KY ok e
theorem Lu {kvs:List (Key×V)}(ok:kH P w H h) (e:H a=some (.dK kvs)):kvs.length<=sizeLine/\(a == sysModules)=false/\∃vs,KV kvs vs/\h.DictOf (bE P w) a vs:=qN ok (.inl e)
theorem p_ {ks:List Key}(ok:kH P w H h) (e:H a=some (.tup (ks.map kV))):(tupleKind (bE P w)).is h ks a:=by
 obtain⟨_,its,r,o,h1,h2,n,h3⟩:=(show cH P w H h a (.tup (ks.map kV)) from ok a _ e)
 exact⟨o,its.toArray,n,h1,h2,h3,by simpa using ua r⟩
theorem t7 {kvs:List (List Key×V)}(ok:kH P w H h) (e:Rd H a (.dT kvs)):kvs.length<=sizeLine/\(a == sysModules)=false /\
  ∃xs,KT H kvs xs/\h.DictOfH (tupleKind (bE P w)) a xs:=by
 obtain⟨z,y,xs,r,o,es,ep,h1,h2,h3,h4,h5⟩:=(show cH P w H h a (.dT kvs) from KY ok e)
 refine⟨z,y,xs,r,o,es,ep,h1,h2,h3,h4,fun x hx=>?_,h5⟩
 have all:∀{l:List (List Key×V)}{m:List (List Key×Addr×Value)},KT H l m->∀x∈m,(tupleKind (bE P w)).is h x.1 x.2.1:=by
  intro l m q
  induction q with
  | nil=>intro x hx;exact nomatch hx
  | @cons p q ps qs hq t ih =>
   intro x hx
   rcases List.mem_cons.mp hx with e|hx
   ·subst e
    exact p_ ok (by rw[<- hq.1];exact hq.2.1)
   ·exact ih x hx
 exact all r x hx
theorem Qh {kvs:List (List Key×V)}(ok:kH P w H h) (e:H a=some (.dT kvs)):kvs.length<=sizeLine/\(a == sysModules)=false /\
  ∃xs,KT H kvs xs/\h.DictOfH (tupleKind (bE P w)) a xs:=t7 ok (.inl e)
end
def f9 (H:Hp) (a:Addr) (y:V) (r:Option V):Prop :=
 (∃kvs k,Rd H a (.dK kvs)/\y=kV k/\r=iV kvs k) \/ ∃kvs k b,Rd H a (.dT kvs)/\y = .ref b/\H b=some (.tup (k.map kV))/\r=iV kvs k
def sd (H:Hp) (a:Addr) (y v:V) (H':Hp):Prop :=
 (∃kvs k,H a=some (.dK kvs)/\y=kV k/\kvs.length<sizeLine/\H'=upd H a (.dK (putK kvs k v))) \/
 ∃kvs k b,H a=some (.dT kvs)/\y = .ref b/\H b=some (.tup (k.map kV))/\kvs.length<sizeLine/\H'=upd H a (.dT (putK kvs k v))
theorem f9.k {H:Hp}{a:Addr}{kvs:List (Key×V)}{k:Key}(e:H a=some (.dK kvs)):f9 H a (kV k) (iV kvs k):=.inl ⟨kvs,k,.inl e,rfl,rfl⟩
theorem sd.k {H:Hp}{a:Addr}{kvs:List (Key×V)}{k:Key}{v:V}(e:H a=some (.dK kvs)) (hl:kvs.length<sizeLine):sd H a (kV k) v (upd H a (.dK (putK kvs k v))):=.inl ⟨kvs,k,e,rfl,hl,rfl⟩
section
variable {X:Cx}{pins:List (Addr×Obj)}{σ:St}{H:Hp}{s:Shared}{a:Addr}{y v:V}{u r:Value}{o:Option V}{A:Around}{E:Value->Shared->Prop}
theorem Inv.big (I:Inv X pins σ H s):sysModules<s.heap.objs.size:=by
 have h:mainGlobals<s.heap.objs.size:=(I.mod.glob.keeps I.bk).lt
 exact Nat.lt_trans (by decide) h
theorem Bp {Q:Value->Shared->Prop}(hu:A.units+1<cLine) (I:Inv X pins σ H s) (g:f9 H a y (some v)) (ry:RelV y u) (h:∀w' s',Inv X pins σ H s'->RelV v w'->Q w' s') :
  wpAny (model X.prog X.w) A (getItem (.ref a) u) Q E s:=by
 rcases g with⟨kvs,k,e,ey,l⟩|⟨kvs,k,b,e,ey,eb,l⟩
 ·subst ey
  obtain⟨z,hd,vs,rel,dd⟩:=qN I.hok e
  obtain⟨w',hw,rw'⟩:=iC.some_of (v:=v) (o:=valueAt vs k) (by rw[l];exact rel.val k)
  exact wpAny_getItem_of (tZ ry) dd.mapOf hw (h w' _ (I.tok _) rw')
 ·subst ey
  cases (show u=Value.ref b from ry)
  obtain⟨z,hd,xs,rel,dd⟩:=t7 I.hok e
  obtain⟨w',hw,rw'⟩:=iC.some_of (v:=v) (o:=(atKey xs k).map (·.2)) (by rw[l];exact rel.val k)
  obtain⟨p,hp,hp2⟩:=Option.map_eq_some_iff.mp hw
  refine wpAny_getItem_heap (tupleKind_room_in1 hu) (p_ I.hok eb) dd hp ?_
  rw[hp2]
  exact h w' _ (I.tok _) rw'
theorem Tc {Q:Value->Shared->Prop}(hu:A.units+1<cLine) (I:Inv X pins σ H s) (g:f9 H a y o) (ry:RelV y u) (h:∀s',Inv X pins σ H s'->Q (.bool o.isSome) s') :
  wpAny (model X.prog X.w) A (compareOp .In u (.ref a)) Q E s:=by
 rcases g with⟨kvs,k,e,ey,l⟩|⟨kvs,k,b,e,ey,eb,l⟩
 ·subst ey
  obtain⟨z,hd,vs,rel,dd⟩:=qN I.hok e
  refine wpAny_in_of (tZ ry) hd dd.mapOf ?_
  rw[<-(rel.val k).isSome_eq,<- l]
  exact h _ (I.tok _)
 ·subst ey
  cases (show u=Value.ref b from ry)
  obtain⟨z,hd,xs,rel,dd⟩:=t7 I.hok e
  refine wpAny_in_heap (tupleKind_room_in1 hu) (p_ I.hok eb) hd dd ?_
  have q:=(rel.val k).isSome_eq
  rw[Option.isSome_map]at q
  rw[<- q,<- l]
  exact h _ (I.tok _)
theorem HV {Q:Value->Shared->Prop}(hu:A.units+1<cLine) (I:Inv X pins σ H s) (g:f9 H a y o) (ry:RelV y u) (h:∀s',Inv X pins σ H s'->Q (.bool (!o.isSome)) s') :
  wpAny (model X.prog X.w) A (compareOp .NotIn u (.ref a)) Q E s:=by
 rcases g with⟨kvs,k,e,ey,l⟩|⟨kvs,k,b,e,ey,eb,l⟩
 ·subst ey
  obtain⟨z,hd,vs,rel,dd⟩:=qN I.hok e
  refine wpAny_notIn_of (tZ ry) hd dd.mapOf ?_
  rw[<-(rel.val k).isSome_eq,<- l]
  exact h _ (I.tok _)
 ·subst ey
  cases (show u=Value.ref b from ry)
  obtain⟨z,hd,xs,rel,dd⟩:=t7 I.hok e
  refine wpAny_notIn_heap (tupleKind_room_in1 hu) (p_ I.hok eb) hd dd ?_
  have q:=(rel.val k).isSome_eq
  rw[Option.isSome_map]at q
  rw[<- q,<- l]
  exact h _ (I.tok _)
theorem vC {h':Heap}{t':Nat}{ob:HO}(I:Inv X pins σ H s) (mu:O5 (H a)) (hs:Heap.SameBut a s.heap h') (he:∃q,h'.get? a=some q) (new:cH X.prog X.w (upd H a ob) h' a ob) :
  Inv X pins σ (upd H a ob) { s with heap:=h',toks:=t' } :=
 I.write (x:=a) (e:=a) mu (.inl rfl) (fun b q hb z=>(hs.2 b hb).trans z) he new
theorem FN {P:Program}{w:World}{H':Hp}{h':Heap}{kvs:List (Key×V)}{vs:List (Key×Value)}(z:kvs.length<=sizeLine) (hd:(a == sysModules)=false) (rel:KV kvs vs) (dd:h'.DictOf (bE P w) a vs) :
  cH P w H' h' a (.dK kvs):=⟨z,hd,vs,rel,dd⟩
theorem Bv {H':Hp}{Q:Unit->Shared->Prop}(hu:A.units+1<cLine) (I:Inv X pins σ H s) (g:sd H a y v H') (ry:RelV y u) (rv:RelV v r) (h:∀s',Inv X pins σ H' s'->Q () s') :
  wpAny (model X.prog X.w) A (setItem (.ref a) u r) Q E s:=by
 rcases g with⟨kvs,k,e,ey,l,eH⟩|⟨kvs,k,b,e,ey,eb,l,eH⟩
 ·subst ey eH
  obtain⟨z,hd,vs,rel,dd⟩:=Lu I.hok e
  have hz:vs.length<=sizeLine:=by rw[<- rel.length];exact z
  have hl:(putK kvs k v).length<=sizeLine:=by have:=oK kvs k v;omega
  refine wpAny_setItem_pairs (hsz:=hz) (tZ ry) dd fun h' dd' hs=>h _ ?_
  have he:∃q,h'.get? a=some q:=let ⟨q,_,_,hq,_⟩:=dd';⟨q,hq⟩
  exact vC I (by rw[e];exact True.intro) hs he (FN hl hd (rel.put k rv) dd')
 ·subst ey eH
  cases (show u=Value.ref b from ry)
  obtain⟨z,hd,xs,rel,dd⟩:=Qh I.hok e
  have hz:xs.length<=sizeLine:=by rw[<- Paired.length rel];exact z
  have hl:(putK kvs k v).length<=sizeLine:=by have:=oK kvs k v;omega
  refine wpAny_setItem_heap (hsz:=hz) (tupleKind_room_in1 hu) (p_ I.hok eb) dd fun h' dd' hs=>h _ ?_
  obtain⟨q,es,ep,hq,h2,h3,h4,_,h5⟩:=dd'
  refine vC I (by rw[e];exact True.intro) hs ⟨q,hq⟩ ⟨hl,hd,_,(rel.put k eb rv).keeps fun c ys ec=>?_,q,es,ep,hq,h2,h3,h4,h5⟩
  rw[az (cX ec e (fun z=>nomatch z))]
  exact ec
end
section
variable {X:Cx}{pins:List (Addr×Obj)}{σ:St}{H:Hp}{s:Shared}{a:Addr}{kvs:List (Key×V)}{k:Key}{u:Value}{A:Around}{E:Value->Shared->Prop}
theorem QL {v:V}{more:List Value}{Q:Value->Shared->Prop}(I:Inv X pins σ H s) (e:H a=some (.dK kvs)) (ry:RelV (kV k) u) (l:iV kvs k=some v) (hm:more=[] \/ ∃x,more=[x])
  (h:∀w' s',Inv X pins σ (upd H a (.dK (oH kvs k))) s'->RelV v w'->Q w' s'):wpAny (model X.prog X.w) A (call (.builtin "dict.pop") (.ref a::u::more)) Q E s:=by
 obtain⟨z,hd,vs,rel,dd⟩:=Lu I.hok e
 obtain⟨w',hw,rw'⟩:=iC.some_of (v:=v) (o:=valueAt vs k) (by rw[<- l];exact rel.val k)
 have hp:(keyPart u).isSome=true:=by
  cases k with
  | inl i=>obtain⟨t,q⟩:=(show ∃t,u=Value.int i t from ry);subst q;rfl
  | inr x=>obtain⟨t,q⟩:=(show ∃t,u=Value.str x t from ry);subst q;rfl
 have ha:argsOk "dict.pop" ⟨.ref a::u::more,[]⟩:=by
  rcases hm with q|⟨x,q⟩
  ·subst q;exact PySem.F.args_dict_pop_2 _ _
  ·subst q;exact PySem.F.args_dict_pop_3 _ _ _
 refine call_meetsIn PySem.F.slot_dict_pop dd.typeIs PySem.F.entry_dict_pop ha (meets_dict_pop_there (bE X.prog X.w) a (tZ ry) more hm hp)
  ⟨vs,w',dd,by rw[<- rel.length];exact z,hw,fun h' dd' hs=>h w' _ ?_ rw'⟩
 have he:∃q,h'.get? a=some q:=let ⟨q,_,_,hq,_⟩:=dd';⟨q,hq⟩
 exact vC I (by rw[e];exact True.intro) hs he (FN (Nat.le_trans (Ea kvs k) z) hd (rel.drop k) dd')
theorem Pk {Q:Value->Shared->Prop}(I:Inv X pins σ H s) (e:Rd H a (.dK kvs)) (h:∀t s',Inv X pins σ H s'->Q (.int kvs.length t) s'):wpAny (model X.prog X.w) A (call (.builtin "len") [.ref a]) Q E s:=by
 obtain⟨z,hd,vs,rel,dd⟩:=qN I.hok e
 refine call_len_dict hd dd (by rw[<- rel.length];rw[sizeLine_eq]at z;omega) ?_
 rw[<- rel.length]
 exact h _ _ (I.tok _)
end
def OM (i:Expr):Prop:=∀ov iv,subscripted i false ov iv=operate [ov,iv] (getItem ov iv)
theorem IJ {prog:Program}{w:World}{A:Around}{E:Value->Shared->Prop}{s:Shared}{env:Env}{value slice:Expr}{pos:Pos}{T id:String}{Q:Value->Shared->Prop}
  (hl:typeLookup (.type T) "__getitem__" = pure (some (.builtin id))) (hs:OM slice)
  (h:wpAny (model prog w) A (eval value env) (fun o s₁=>wpAny (model prog w) A (eval slice env) (fun i s₂=>s₂.TypeIs o T/\wpAny (model prog w) A (getItem o i) Q E s₂) E s₁) E s) :
  wpAny (model prog w) A (eval (.Subscript value slice pos) env) Q E s:=by
 refine Subscript_ (wpAny_mono h (fun o s₁ h₁=>wpAny_mono h₁ (fun i s₂ h₂=>?_) fun _ _ x=>x) fun _ _ x=>x)
 obtain⟨hT,h₂⟩:=h₂
 unfold subscriptTail
 refine wpAny_bind ?_
 rw[getitemInPython_of_ne hT.not_modules]
 refine wpAny_bind (wpAny_specialOf hT hl ?_)
 have fin:wpAny (model prog w) A (subscripted slice false o i) (fun r s₃=>wpAny (model prog w) A (letTemporaryGo value o r >>= fun _=>pure r) Q E s₃) E s₂:=by
  rw[hs o i]
  exact wpAny_operating (wpAny_mono h₂ (fun r s₃ h₃=>wpAny_bind (wpAny_letTemporaryGo (wpAny_pure h₃))) fun _ _ x=>x)
 first
  | exact wpAny_pure (wpAny_bind fin)
  | exact wpAny_bind (wpAny_pure (wpAny_bind fin))
  | exact wpAny_bind fin
theorem xg {X:Cx}{pins:List (Addr×Obj)}{σ:St}{H:Hp}{s:Shared}{a:Addr}{y:V}{o:Option V}(I:Inv X pins σ H s) (g:f9 H a y o):s.TypeIs (.ref a) "dict" := by
 rcases g with⟨kvs,k,e,_,_⟩|⟨kvs,k,b,e,_,_,_⟩
 ·obtain⟨_,_,vs,_,dd⟩:=qN I.hok e
  exact dd.typeIs
 ·obtain⟨_,_,xs,_,dd⟩:=t7 I.hok e
  exact dd.typeIs
def Ll (td ty:TE):TE:=fun σ H Q=>td σ H fun x H1=>ty σ H1 fun y H2=>∃a v,x = .ref a/\f9 H2 a y (some v)/\Q v H2
def QA (ty td:TE):TE:=fun σ H Q=>ty σ H fun y H1=>td σ H1 fun x H2=>∃a o,x = .ref a/\f9 H2 a y o/\Q (.bl o.isSome) H2
def A4 (ty td:TE):TE:=fun σ H Q=>ty σ H fun y H1=>td σ H1 fun x H2=>∃a o,x = .ref a/\f9 H2 a y o/\Q (.bl (!o.isSome)) H2
def LK (td ty tv:TE):TS:=fun D σ H=>tv σ H fun v H1=>td σ H1 fun x H2=>ty σ H2 fun y H3=>∃a H4,x = .ref a/\sd H3 a y v H4/\D.nx σ H4
section
variable {X:Cx}{o i e value:Expr}{pos pos' tpos:Pos}{td ty tv:TE}
theorem v_ (hu:X.A.units+1<cLine) (ho:PE X o td) (hi:PE X i ty) (hs:OM i):PE X (.Subscript o i pos) (Ll td ty):=by
 intro pins s σ H Q I h
 refine IJ PySem.F.slot_dict_getitem.lookup hs (bX (ho pins s σ H _ I h) fun u s1 ⟨x,H1,I1,rx,q1⟩=>bX (hi pins s1 σ H1 _ I1 q1) fun iv s2 ⟨y,H2,I2,ry,a,v,ex,g,q2⟩=>?_)
 subst ex
 obtain rfl:u=Value.ref a:=rx
 exact⟨xg I2 g,Bp hu I2 g ry fun w' s3 I3 rw'=>⟨v,H2,I3,rw',q2⟩⟩
theorem Aw (hu:X.A.units+1<cLine) (hi:PE X i ty) (ho:PE X o td):PC X .In i o (QA ty td):=by
 intro pins s σ H Q I h
 refine bX (hi pins s σ H _ I h) fun iv s1 ⟨y,H1,I1,ry,q1⟩=>bX (ho pins s1 σ H1 _ I1 q1) fun u s2 ⟨x,H2,I2,rx,a,ov,ex,g,q2⟩=>?_
 subst ex
 obtain rfl:u=Value.ref a:=rx
 exact Tc hu I2 g ry fun s3 I3=>⟨.bl ov.isSome,H2,I3,rfl,q2⟩
theorem ux (hu:X.A.units+1<cLine) (hi:PE X i ty) (ho:PE X o td):PC X .NotIn i o (A4 ty td):=by
 intro pins s σ H Q I h
 refine bX (hi pins s σ H _ I h) fun iv s1 ⟨y,H1,I1,ry,q1⟩=>bX (ho pins s1 σ H1 _ I1 q1) fun u s2 ⟨x,H2,I2,rx,a,ov,ex,g,q2⟩=>?_
 subst ex
 obtain rfl:u=Value.ref a:=rx
 exact HV hu I2 g ry fun s3 I3=>⟨.bl (!ov.isSome),H2,I3,rfl,q2⟩
theorem l7 (hu:X.A.units+1<cLine) (ho:PE X o td) (hi:PE X i ty) (hv:PE X value tv) (hs:swapsWith value (some (.Subscript o i pos')) pos.line X.env=pure false) :
  PS X (.Assign [.Subscript o i pos'] value pos) (LK td ty tv):=by
 intro pins s σ H D I h
 refine wpAny_Assign_Subscript (bX (hv pins s σ H _ I h) fun r s1 ⟨v,H1,I1,rv,q1⟩=>bX (ho pins s1 σ H1 _ I1 q1) fun u s2 ⟨x,H2,I2,rx,q2⟩=>bX (hi pins s2 σ H2 _ I2 q2) fun iv s3 ⟨y,H3,I3,ry,a,H4,ex,g,q3⟩=>?_) hs
 subst ex
 obtain rfl:u=Value.ref a:=rx
 exact Bv hu I3 g ry rv fun s4 I4=>⟨σ,H4,I4,q3⟩
end
theorem E4 {P:Program}{w:World}{H:Hp}(h:Heap) (hb:sysModules<h.objs.size):cH P w H (h.push { cls:=.type "dict",data:=.dict #[] }) h.objs.size (.dK []) :=
 ⟨Nat.zero_le _,beq_eq_false_iff_ne.mpr (Ne.symm (Nat.ne_of_lt hb)),[],.nil,Heap.DictOf.new h⟩
def Ep:TE:=fun _ H Q=>∀p,H p=none->Q (.ref p) (upd H p (.dK []))
section
variable {X:Cx}{pos:Pos}
theorem qK:PE X (.Dict [] [] pos) Ep:=fun pins s σ H Q I h =>
 wpAny_Dict_empty ⟨.ref s.heap.objs.size,_,I.laid (a:=s.heap.objs.size) (o:=.dK []) (t':=s.toks) (fun _ _ q=>Heap.get?_push_of_some _ q) (Nat.le_refl _) (E4 s.heap I.big),rfl,h _ (I.hok.fresh (Nat.le_refl _))⟩
end
structure M1 (X:Cx) (o:Expr) (m:Str) (apos:Pos) (e:Expr) (cpos:Pos):Prop where
 base:attributeBase o m X.env (eval o X.env)=eval o X.env
 few:((backTo cpos (starEach [e] X.env)).all (fun x=>!x.1) && (backToKw cpos (keywordEach [] X.env)).all (fun x=>x.1.isSome)
  && decide (([e]:List Expr).length+([]:List Keyword).length+(if ([]:List Keyword).isEmpty then 0 else 1)<30))=true
 line:(apos.endLine == cpos.line)=true
 trees:backTo cpos (starEach [e] X.env)=[(false,eval e X.env)]
def Vs (H:Hp) (a:Addr):Prop:=(∃kvs,Rd H a (.dK kvs)) \/ ∃kvs,Rd H a (.dT kvs)
theorem LZ {X:Cx}{pins:List (Addr×Obj)}{σ:St}{H:Hp}{s:Shared}{a:Addr}(I:Inv X pins σ H s) (d:Vs H a) :
  s.TypeIs (.ref a) "dict"/\(∀b,Value.ref a = .ref b->∃ob,s.heap.get? b=some ob/\ob.dict=none)/\(a == sysModules)=false:=by
 rcases d with⟨kvs,e⟩|⟨kvs,e⟩
 ·obtain⟨_,hd,vs,_,dd⟩:=qN I.hok e
  refine⟨dd.typeIs,fun b q=>?_,hd⟩
  cases q
  obtain⟨ob,_,_,h1,h2,_⟩:=dd
  exact⟨ob,h1,h2.2.1⟩
 ·obtain⟨_,hd,xs,_,dd⟩:=t7 I.hok e
  refine⟨dd.typeIs,fun b q=>?_,hd⟩
  cases q
  obtain⟨ob,_,_,h1,h2,_⟩:=dd
  exact⟨ob,h1,h2.2.1⟩
def Ek (td ty:TE):TE:=fun σ H Q=>td σ H fun x H1=>∃a,x = .ref a/\Vs H1 a/\ty σ H1 fun y H2=>∃kvs k v,H2 a=some (.dK kvs)/\y=kV k/\iV kvs k=some v/\Q v (upd H2 a (.dK (oH kvs k)))
section
variable {X:Cx}{o e f:Expr}{apos cpos:Pos}{td ty tx:TE}
theorem xM (ho:PE X o td) (he:PE X e ty) (m:M1 X o "pop" apos e cpos):PE X (.Call (.Attribute o "pop" apos) [e] [] cpos) (Ek td ty):=by
 intro pins s σ H Q I h
 refine wpAny_Call_method m.base m.few m.line PySem.F.plainAttrs_dict PySem.F.slot_dict_pop PySem.F.type_dict_pop (bX (ho pins s σ H _ I h) fun u s1 ⟨x,H1,I1,rx,a,ex,d,q1⟩=>?_)
 subst ex
 obtain rfl:u=Value.ref a:=rx
 obtain⟨t1,t2,_⟩:=LZ I1 d
 refine⟨t1,t2,?_⟩
 rw[m.trees]
 refine Calls.callWith_builtin rfl (Calls.evalArgs_plain (Calls.spliced_cons (bX (he pins s1 σ H1 _ I1 q1) fun iv s2 ⟨y,H2,I2,ry,kvs,k,v,ea,ey,l,q2⟩=>Calls.spliced_nil ?_)))
 subst ey
 exact QL I2 ea ry l (.inl rfl) fun w' s3 I3 rw'=>⟨v,_,I3,rw',q2⟩
end
section
variable {X:Cx}
def PF:R2:=fun x y H Q=>∃i j,x = .str i/\y = .str j/\Q (.bl (!decide (j.cps.toList<i.cps.toList))) H
def K6:List V->Hp->VK->Prop:=fun xs H Q=>∃z,xs=[.str z]/\z.length<=sizeLine/\Q (.int z.length) H
theorem nB:cG X (.builtin "len") K6:=vQ
def Le:R2:=fun x y H Q=>∃i j,x = .str i/\y = .str j/\i.length+j.length<=sizeLine/\Q (.str (i++j)) H
theorem Bd:lE X (binaryOp .Add) Le:=yp
theorem tT:lE X (compareOp .LtE) PF:=by
 intro pins s σ H x y v u Q I rx ry h
 obtain⟨i,j,rfl,rfl,q⟩:=h
 obtain⟨t,rfl⟩:=rx
 obtain⟨t',rfl⟩:=ry
 exact PySem.P.le_str (bI I q rfl)
theorem Ab {ns:List Str}:∀{us:List Value},Vals (ns.map V.str) us->StrsAre us ns:=by
 induction ns with
 | nil=>intro us r;cases r;exact .nil
 | cons n ns ih =>
  intro us r
  cases r with
  | cons r t =>
   obtain⟨tk,rfl⟩:=r
   exact .cons n tk (ih t)
def rJoin (K:W.Frag):V->List V->Hp->VK->Prop:=fun x vs H Q=>∃z a ys,x = .str z/\vs=[.ref a]/\bN K H a (List.map V.str ys)/\(ys.map (·.length)).sum+ys.length*z.length<=16777216/\Q (.str (Txt.join z ys)) H
theorem IY:Lc X "str.join" (rJoin X.K):=by
 intro pins s σ H x xs v us Q I rx rs h
 obtain⟨z,a,ys,rfl,rfl,hq,hz,q⟩:=h
 obtain⟨t,rfl⟩:=rx
 obtain⟨u,rfl,ru⟩:=vals1 rs
 cases (show u=Value.ref a from ru)
 obtain⟨its,rv,pl,_⟩:=I.list hq
 exact join_list pl.isList (by simpa using Ab rv) hz fun t' k=>⟨.str _,H,I.tok _,⟨_,rfl⟩,q⟩
def O8:V->Option Int->Option Int->Hp->VK->Prop:=fun x lo hi H Q=>∃z,x = .str z/\z.length<=sizeLine/\Q (.str (Txt.slice z lo hi)) H
theorem Dl:Q4 X O8:=by
 intro pins s σ H x v vl vu lo hi sl Q I rx hs pl pu h
 obtain⟨z,rfl,hz,q⟩:=h
 obtain⟨t,rfl⟩:=rx
 refine⟨"str",_,F.slot_str_getitem.lookup,typeIs_str _ _ _,?_⟩
 cases pl with
 | none =>
  cases pu with
  | none=>exact wpAny_getItem_str_slice (l:=none) (u:=none) (st:=none) hs rfl (post_val_or_str ⟨Nat.le_trans (Txt.slice_le z _ _) hz,fun t' k=>⟨.str (Txt.slice z none none),H,I.tok _,⟨t',rfl⟩,q⟩⟩)
  | int j uj=>exact wpAny_getItem_str_slice (l:=none) (u:=some (j,uj)) (st:=none) hs rfl (post_val_or_str ⟨Nat.le_trans (Txt.slice_le z _ _) hz,fun t' k=>⟨.str (Txt.slice z none (some j)),H,I.tok _,⟨t',rfl⟩,q⟩⟩)
 | int i ui =>
  cases pu with
  | none=>exact wpAny_getItem_str_slice (l:=some (i,ui)) (u:=none) (st:=none) hs rfl (post_val_or_str ⟨Nat.le_trans (Txt.slice_le z _ _) hz,fun t' k=>⟨.str (Txt.slice z (some i) none),H,I.tok _,⟨t',rfl⟩,q⟩⟩)
  | int j uj=>exact wpAny_getItem_str_slice (l:=some (i,ui)) (u:=some (j,uj)) (st:=none) hs rfl (post_val_or_str ⟨Nat.le_trans (Txt.slice_le z _ _) hz,fun t' k=>⟨.str (Txt.slice z (some i) (some j)),H,I.tok _,⟨t',rfl⟩,q⟩⟩)
end
def QO (x:Str):It:=⟨fun i _=>i<x.cps.size,fun i H v H'=>H'=H/\∃c,x.cps[i]? = some c/\v = .str ⟨#[c]⟩,fun i _=>x.cps.size<=i⟩
theorem Oq (tg:Expr) (it:Addr) (x:Str) (t:Tok):letOwnedTupleGo tg (.ref it) (.str x t)=pure ():=by
 cases tg <;> rfl
theorem uB {P:Program}{w:World}{K:W.Frag}{tg:Expr}(it:Addr) (ty:String) (x:Str) (t:Tok)
  (W:∀A':Around,A'.handled=none->Walks P w A' it [it] [it] x.cps.size (SignAt x) (fun i h=>h.IsStrIter it ty x t i))
  (S:∀(A':Around) (i:Nat) (s:Shared) (Q:Value->Shared->Prop) (E:Value->Shared->Prop),s.heap.IsStrIter it ty x t i->Q (.ref it) s->wpAny (model P w) A' (pyIter (.ref it)) Q E s):Turn P w K tg (QO x) [it] it (fun i h=>h.IsStrIter it ty x t i/\i<=x.cps.size) where
 mem:=by simp
 obj:=fun i h st b hb=>by
  have e:b=it:=by simpa using hb
  subst e
  obtain⟨o,e,c,d⟩:=st.1
  exact⟨o,e,fun v z=>by rw[d]at z;cases z⟩
 keep:=fun i h h' st k=>⟨let ⟨o,ho,r⟩:=st.1;⟨o,k it (by simp) o ho,r⟩,st.2⟩
 item:=by
  intro X hP hw hK hc i pins s σ H E I hf st hg
  subst hP hw hK
  obtain⟨f0,f1,f2,f3,f4,f5⟩:=hf it (by simp)
  refine(W X.A (I.ok.hd hc)).item i s _ _ hg st.1 fun v h' tk hv st' kk=>?_
  obtain⟨c,u,hcx,rfl⟩:=hv
  have I1:Inv X pins σ H { s with heap:=h',toks:=tk }:=I.turned (fun b o hb e=>kk b o (by simpa using hb) e) f0 f1 f3 f4 f5
  refine⟨_,rfl,?_⟩
  rw[Oq tg]
  have hg':i<x.cps.size:=hg
  exact wpAny_pure ⟨.str ⟨#[c]⟩,H,I1,⟨u,rfl⟩,⟨rfl,c,hcx,rfl⟩,⟨st',hg'⟩,fun b hb=>(hf b hb).1⟩
 done:=by
  intro X hP hw hK hc i pins s σ H E I hf st hg
  subst hP hw hK
  obtain⟨f0,f1,f2,f3,f4,f5⟩:=hf it (by simp)
  have e:i=x.cps.size:=Nat.le_antisymm st.2 hg
  subst e
  exact(W X.A (I.ok.hd hc)).done s _ _ st.1 fun h' tk kk=>⟨rfl,I.turned (fun b o hb e=>kk b o (by simpa using hb) e) f0 f1 f3 f4 f5⟩
 self:=fun A' i s Q E st h=>S A' i s Q E st.1 h
section
variable {X:Cx}{tg:Expr}
def Qj (tl:TE):TI:=fun σ H R=>tl σ H fun x H1=>∃z,x = .str z/\R (QO z) H1
theorem Nc {l:Expr}{tl:TE}(hl:PE X l tl):PI X tg l (Qj tl):=by
 intro pins s σ H R I h
 refine bX (hl pins s σ H _ I h) fun v s1 ⟨x,H1,I1,r1,q1⟩=>?_
 obtain⟨z,rfl,q⟩:=q1
 obtain⟨t,rfl⟩:=r1
 have fp:∀(o:Obj),∀b ∈ [s1.heap.objs.size],oZ X pins H1 b:=fun o b hb=>by
  have e:b=s1.heap.objs.size:=by simpa using hb
  subst e
  exact I1.fpOk (Nat.le_refl _) (I1.hok.fresh (Nat.le_refl _))
 cases ha:z.cps.all (· < 128)
 ·refine wpAny_pyIter_wide ha ?_
  exact⟨s1.heap.objs.size,[s1.heap.objs.size],_,_,H1,rfl,I1.kept (t':=s1.toks) fun b o e=>Heap.get?_push_of_some _ e,
   uB s1.heap.objs.size "str_iterator" z t (fun A' hA=>Walks.strWide hA _ z t) (fun _ _ _ _ _ st h=>wpAny_pyIter_striter_wide st h),⟨⟨_,Heap.get?_push_size _ rfl,rfl,rfl⟩,Nat.zero_le _⟩,fp default,q⟩
 ·refine wpAny_pyIter_ascii ha ?_
  exact⟨s1.heap.objs.size,[s1.heap.objs.size],_,_,H1,rfl,I1.kept (t':=s1.toks) fun b o e=>Heap.get?_push_of_some _ e,
   uB s1.heap.objs.size "str_ascii_iterator" z t (fun A' hA=>Walks.strAscii hA _ z t) (fun _ _ _ _ _ st h=>wpAny_pyIter_striter_ascii st h),⟨⟨_,Heap.get?_push_size _ rfl,rfl,rfl⟩,Nat.zero_le _⟩,fp default,q⟩
end
section
variable {σ:St}{H:Hp}{Q:VK}{D:Ends}
theorem LV {i j:Str}(q:Q (.bl (!decide (j.cps.toList<i.cps.toList))) H):PF (.str i) (.str j) H Q:=⟨i,j,rfl,rfl,q⟩
theorem vX {z:Str}(h:z.length<=sizeLine) (q:Q (.int z.length) H):K6 [.str z] H Q:=⟨z,rfl,h,q⟩
theorem A7 {i j:Str}(h:i.length+j.length<=sizeLine) (q:Q (.str (i++j)) H):Le (.str i) (.str j) H Q:=⟨i,j,rfl,rfl,h,q⟩
theorem DN {z:Str}{lo hi:Option Int}(h:z.length<=sizeLine) (q:Q (.str (Txt.slice z lo hi)) H):O8 (.str z) lo hi H Q:=⟨z,rfl,h,q⟩
theorem DL {z:Str}{i:Int}{c:Nat}(h:z.length<=sizeLine) (e:sZ z.cps.toList i=some c) (q:Q (.str ⟨#[c]⟩) H):Pe (.str z) (.int i) H Q:=⟨z,i,c,rfl,rfl,h,e,q⟩
theorem tR {z:Str}{lo hi:Option Int}:∀c∈(Txt.slice z lo hi).cps,c∈z.cps:=by
 intro c hc
 unfold Txt.slice at hc
 split at hc
 ·exact hc
 ·have hc':c∈((Builtin.Str.strSliceIndices lo hi 1 z.length).filterMap (z.cps[·]?)):=by simpa using hc
  obtain⟨i,_,e⟩:=List.mem_filterMap.mp hc'
  exact Array.mem_of_getElem? e
theorem Ks {tl:TE}{R:It->Hp->Prop}(h:tl σ H fun x H1=>∃z,x = .str z/\R (QO z) H1):Qj tl σ H R:=h
theorem Fl {vs:List Str}{js:List Nat}{g:TG}{tt:TT}{te:TE}{z:Str}(Pv:Nat->St->List V->Hp->Prop) (D:Addr) (h0:Pv 0 (oG vs js σ) [] (upd H D (.lst [])))
  (hs:∀i c σ' ys H',z.cps[i]? = some c->Pv i σ' ys H'->g (.str ⟨#[c]⟩) σ' H' fun σ3 H3=>tt σ3 H3 fun b H4=>if b=true then te σ3 H4 fun y H5=>H5 D=some (.lst ys)/\ys.length<sizeLine/\Pv (i+1) σ3 (ys ++ [y]) (upd H5 D (.lst (ys ++ [y]))) else Pv (i+1) σ3 ys H4)
  (hd:∀σ' ys H',Pv z.cps.size σ' ys H'->Q (.ref D) H'):uz (QO z) vs js σ g tt te Q D H:=by
 refine⟨fun i m σ' ys H'=>m=z.cps.size-i/\i<=z.cps.size/\Pv i σ' ys H',⟨z.cps.size,by simp,Nat.zero_le _,h0⟩,?_⟩
 rintro i m σ' ys H' ⟨rfl,hi,p⟩
 by_cases hlt:i<z.cps.size
 ·refine .inr ⟨hlt,Pv (i+1),fun σ2 zs H2 p'=>⟨z.cps.size-(i+1),by omega,rfl,hlt,p'⟩,fun x H2 y=>?_⟩
  obtain⟨e,c,hc,y⟩:=y
  subst e y
  exact hs i c σ' ys _ hc p
 ·have e:i=z.cps.size:=by omega
  subst e
  exact .inl ⟨Nat.le_refl _,hd σ' ys H' p⟩
end
section
variable {es:List Expr}{env:Env}
theorem ai {c j p}:starEach (.Constant c j p::es) env =(false,eval (.Constant c j p) env)::starEach es env:=rfl
theorem ah {x p}:starEach (.Name x p::es) env =(false,eval (.Name x p) env)::starEach es env:=rfl
theorem bz {a o b p}:starEach (.BinOp a o b p::es) env =(false,eval (.BinOp a o b p) env)::starEach es env:=rfl
theorem oJ {o b p}:starEach (.UnaryOp o b p::es) env =(false,eval (.UnaryOp o b p) env)::starEach es env:=rfl
theorem ye {a o b p}:starEach (.Compare a o b p::es) env =(false,eval (.Compare a o b p) env)::starEach es env:=rfl
theorem aH {a o b p}:starEach (.Call a o b p::es) env =(false,eval (.Call a o b p) env)::starEach es env:=rfl
theorem bq {a o p}:starEach (.Attribute a o p::es) env =(false,eval (.Attribute a o p) env)::starEach es env:=rfl
theorem aO {a o p}:starEach (.Subscript a o p::es) env =(false,eval (.Subscript a o p) env)::starEach es env:=rfl
theorem xF {a p}:starEach (.List a p::es) env =(false,eval (.List a p) env)::starEach es env:=rfl
theorem aR {a k p}:starEach (.Tuple a k p::es) env =(false,eval (.Tuple a k p) env)::starEach es env:=rfl
theorem FU {a k p}:starEach (.Dict a k p::es) env =(false,eval (.Dict a k p) env)::starEach es env:=rfl
theorem fB {a b c p}:starEach (.ListComp a b c p::es) env =(false,eval (.ListComp a b c p) env)::starEach es env:=rfl
end
section
variable {X:Cx}
def AU (K:W.Frag):V->List V->Hp->VK->Prop:=fun x vs H Q=>∃a ns k,x = .ref a/\vs=[.int k]/\bN K H a (List.map V.int ns)/\k∈ns/\Q (.int (ns.idxOf k:Nat)) H
theorem Cw:Lc X "list.index" (AU X.K):=by
 intro pins s σ H x xs v us Q I rx rs h
 obtain⟨a,ns,k,rfl,rfl,hq,hk,q⟩:=h
 cases rx
 obtain⟨u,rfl,ru⟩:=vals1 rs
 obtain⟨t,rfl⟩:=ru
 obtain⟨its,rv,pl,hz⟩:=I.list hq
 have hi:IntsAre its ns:=intsAre_of rv
 have hlen:=hi.length
 have hlt:ns.idxOf k<ns.length:=List.idxOf_lt_length_iff.mpr hk
 have hline:sizeLine<2^62:=by decide
 rw[List.length_map]at hz
 obtain⟨⟨c1,d1,e1,f1⟩,ho,hc,n,hd⟩:=pl.isList
 simp only at hc hd
 subst hc hd
 have hM:=SeqAt.list_indexAt a its.toArray n d1 f1 (.int k t) (isInt k) (ns.idxOf k) (by rw[List.size_toArray,hlen];exact hlt) (by omega)
  (by
   have e:=isInt_at k hi (ns.idxOf k) (by omega) hlt
   have e2:isInt k its[ns.idxOf k]=true:=by rw[e];simpa using List.getElem_idxOf hlt
   simpa using e2)
  (by
   intro j h1 h2
   have h3:j<its.length:=by simpa using h1
   have e:=isInt_at k hi j h3 (by omega)
   have e2:isInt k its[j]=false:=by rw[e];exact ne_of_lt_idxOf h2 _
   simpa using e2)
 exact call_meets PySem.F.slot_list_index ⟨_,ho,rfl⟩ PySem.F.entry_list_index (PySem.F.args_list_index_2 _ _) hM
  ⟨ho,fun y hy=>(eq_isInt k t hi y (by simpa using hy)).at _ _,⟨.int _,H,I.tok _,⟨_,rfl⟩,q⟩⟩
def Lm (K:W.Frag):List V->Hp->VK->Prop:=fun xs H Q=>∃a ns,xs=[.ref a]/\bN K H a (List.map V.int ns)/\ns ≠ []/\∀M,M∈ns->(∀z,z∈ns->z<=M)->Q (.int M) H
theorem BA (hc:X.calm=true):cG X (.builtin "max") (Lm X.K):=by
 intro pins s σ H xs us Q I r h
 obtain⟨a,ns,rfl,hq,hne,q⟩:=h
 obtain⟨u,rfl,r1⟩:=vals1 r
 cases (show u=Value.ref a from r1)
 obtain⟨its,rv,pl,hz⟩:=I.list hq
 have hi:IntsAre its ns:=intsAre_of rv
 obtain⟨zs,hx⟩:=hi.allInts.items
 have e1:numsOf its=ns:=hi.numsOf
 have e2:numsOf its=zs.toList.map (·.1):=by
  have:=nums_intItems zs
  rw[<- hx]at this
  simpa using this
 have hns:ns=zs.toList.map (·.1):=e1.symm.trans e2
 have hl:s.heap.IsList a (intItems zs):=by rw[<- hx];exact pl.isList
 have hpos:0<zs.size:=by
  have:=List.length_pos_iff.mpr hne
  rw[hns,List.length_map,Array.length_toList]at this
  exact this
 refine max_intList (I.ok.hd hc) hl hpos fun v h' tk hv hk=>?_
 obtain⟨t,rfl⟩:=intItems_at hv
 obtain⟨b1,b2⟩:=argBest_gt (numAt zs) (zs.size-1)
 refine⟨.int _,H,I.kept hk,⟨t,rfl⟩,q _ ?_ fun z hz=>?_⟩
 ·rw[hns,numAt_eq]
  exact getD_mem (by rw[List.length_map,Array.length_toList];omega)
 ·rw[hns]at hz
  obtain⟨j,hj,rfl⟩:=mem_getD hz
  rw[List.length_map,Array.length_toList]at hj
  rw[<- numAt_eq]
  exact b2 j (by omega)
def LD:List V->Hp->VK->Prop:=fun xs H Q=>∃k,xs=[.bl k]/\Q (.int (if k then 1 else 0)) H
theorem tU:cG X (.type "int") LD:=by
 intro pins s σ H xs us Q I r h
 exact CY pins s σ H xs us Q I r (.inr h)
end
section
variable {K:W.Frag}{H:Hp}{Q:VK}{σ:St}
theorem Km {a:Addr}{ns:List Int}(h:bN K H a (ns.map V.int)) (n:ns ≠ []) (q:∀M,M∈ns->(∀z,z∈ns->z<=M)->Q (.int M) H):Lm K [.ref a] H Q:=⟨a,ns,rfl,h,n,q⟩
theorem CL {a:Addr}{ns:List Int}{k:Int}(h:bN K H a (ns.map V.int)) (n:k∈ns) (q:Q (.int (ns.idxOf k:Nat)) H):AU K (.ref a) [.int k] H Q:=⟨a,ns,k,rfl,rfl,h,n,q⟩
theorem JX {k:Bool}(q:Q (.int (if k then 1 else 0)) H):LD [.bl k] H Q:=⟨k,rfl,q⟩
theorem uH:∀ns:List Int,(ns.map V.int).all l6=true
 | []=>rfl
 | n::r=>by rw[List.map_cons,List.all_cons,uH r];rfl
theorem xP (k:Int):∀ns:List Int,PR (.int k) (ns.map V.int)=decide (k∈ns)
 | []=>by simp[PR]
 | n::r=>by
  have ih:=xP k r
  unfold PR at ih ⊢
  rw[List.map_cons,List.any_cons,ih]
  have e:Ef (V.int n) (V.int k)=decide (k=n):=by
   by_cases h:k=n
   ·subst h;simp[Ef]
   ·rw[decide_eq_false h]
    have h2:¬ n=k:=fun z=>h z.symm
    simp[Ef,h2]
  rw[e]
  simp[List.mem_cons]
theorem Dg {a:Addr}{ns:List Int}{k:Int}(h:bN K H a (ns.map V.int)) (q:Q (.bl (decide (k∈ns))) H):Wu K false (.int k) (.ref a) H Q :=
 ⟨a,_,rfl,.inl h,rfl,uH ns,by rw[xP];exact q⟩
end
def sL:Bool->Keyed->Array Keyed->Nat->Nat->Nat->StateT SortSt Sem (Option Nat):=sortPriv% PySem.Builtin.gallop
def yO (lf:Bool) (ky:Keyed) (ar:Array Keyed) (bs j:Nat):StateT SortSt Sem (Option Bool):=do
 let z <- elem' ar (bs+j)
 if lf then lt' z ky else return (<- lt' ky z).map (!·)
theorem KD (lf:Bool) (ky:Keyed) (ar:Array Keyed) (bs nn ht:Nat):sL lf ky ar bs nn ht =(do
 let mut la:=0
 let mut of:=1
 let mut lx:=0
 let mut hx:=0
 let some rt <- yO lf ky ar bs ht|return none
 if rt then
  let mx:=nn-ht
  for _ in [0:nn] do
   if of ≥ mx then break
   let some mo <- yO lf ky ar bs (ht+of)|return none
   if !mo then break
   la:=of
   of:=2*of+1
  lx:=ht+la+1
  hx:=ht+min of mx
 else
  let mx:=ht+1
  for _ in [0:nn] do
   if of ≥ mx then break
   let some fo <- yO lf ky ar bs (ht-of)|return none
   if fo then break
   la:=of
   of:=2*of+1
  lx:=ht+1-min of mx
  hx:=ht-la
 for _ in [0:nn] do
  if lx ≥ hx then break
  let mi:=lx+(hx-lx) / 2
  let some mo <- yO lf ky ar bs mi|return none
  if mo then lx:=mi+1 else hx:=mi
 return some hx):=rfl
section
variable {prog:Program}{w:World}{A:Around}{E:Value->Shared->Prop}{s:Shared}
def lJ (prog:Program) (w:World) (A:Around) (E:Value->Shared->Prop) (s:Shared) (ltb:Keyed->Keyed->Bool) (S:Keyed->Prop) (κ:SortKind):Prop :=
 ∀(x y:Keyed) (st:SortSt) (Q:Option Bool->SortSt->Prop),S x->S y->kindOf st=κ->Q (some (ltb x y)) st->wpS (model prog w) A E s (lt' x y) Q st
def Bf (ltb:Keyed->Keyed->Bool) (lf:Bool) (ky x:Keyed):Bool:=if lf then ltb x ky else !ltb ky x
variable {ltb:Keyed->Keyed->Bool}{S:Keyed->Prop}{κ:SortKind}
theorem aG {ar:Array Keyed}{i:Nat}{x:Keyed}{st:SortSt}{Q:Keyed->SortSt->Prop}(h:ar[i]? = some x) (q:Q x st):wpS (model prog w) A E s (elem' ar i) Q st:=by
 rw[elem'_eq,h];exact wpS_pure q
theorem Iz {lf:Bool}{ky:Keyed}{ar:Array Keyed}{bs j:Nat}{x:Keyed}{st:SortSt}{Q:Option Bool->SortSt->Prop}(hO:lJ prog w A E s ltb S κ) (hk:kindOf st=κ) (hky:S ky)
  (hx:ar[bs+j]? = some x) (hS:S x) (q:Q (some (Bf ltb lf ky x)) st):wpS (model prog w) A E s (yO lf ky ar bs j) Q st:=by
 unfold yO
 refine wpS_bind (aG hx ?_)
 cases lf with
 | true=>exact hO x ky st Q hS hky hk q
 | false =>
  refine wpS_bind (hO ky x st _ hky hS hk ?_)
  exact wpS_pure q
theorem AM {lf:Bool}{ky:Keyed}{ar:Array Keyed}{bs nn ht:Nat}{st:SortSt}{Q:Option Nat->SortSt->Prop}(hO:lJ prog w A E s ltb S κ) (hk:kindOf st=κ) (hky:S ky) (B:Nat->Bool)
  (hB:∀j,j<nn->∃x,ar[bs+j]? = some x/\S x/\Bf ltb lf ky x=B j) (anti:∀i j,i<=j->j<nn->B j=true->B i=true) (hht:ht<nn)
  (h:∀k,k<=nn->(∀i,i<k->B i=true)->(∀i,k<=i->i<nn->B i=false)->Q (some k) st):wpS (model prog w) A E s (sL lf ky ar bs nn ht) Q st:=by
 have ask:∀(j:Nat) (Q:Option Bool->SortSt->Prop),j<nn->Q (some (B j)) st->wpS (model prog w) A E s (yO lf ky ar bs j) Q st:=fun j Q hj q=>by
  obtain⟨x,hx,hS,e⟩:=hB j hj
  exact Iz hO hk hky hx hS (by rw[e];exact q)
 have antiF:∀i j,i<=j->j<nn->B i=false->B j=false:=fun i j hij hj e=>by
  cases e2:B j with
  | false=>rfl
  | true=>rw[anti i j hij hj e2]at e;cases e
 rw[KD]
 refine wpS_bind (ask ht _ hht ?_)
 dsimp only
 cases hr:B ht with
 | true =>
  simp only[if_true]
  refine wpS_bind (wpS_mono (wpS_forRange (I:=fun x c st'=>st'=st/\∃l o,c =(none,l,o)/\l<o/\x+1<=o/\(l<nn-ht)/\B (ht+l)=true)
   (Q:=fun c st'=>st'=st/\∃l o,c =(none,l,o)/\l<o/\l<nn-ht/\B (ht+l)=true/\(nn-ht<=o \/(o<nn-ht/\B (ht+o)=false))) ?stp ?fin ⟨rfl,0,1,rfl,by omega,by omega,by omega,hr⟩) ?post)
  case fin =>
   rintro c st' ⟨rfl,l,o,rfl,a1,a2,a3,a4⟩
   exact⟨rfl,l,o,rfl,a1,a3,a4,.inl (by omega)⟩
  case stp =>
   rintro x c st' _ hx ⟨rfl,l,o,rfl,a1,a2,a3,a4⟩
   dsimp only
   by_cases hge:o ≥ nn-ht
   ·rw[if_pos hge]
    exact wpS_pure ⟨rfl,l,o,rfl,a1,a3,a4,.inl hge⟩
   ·rw[if_neg hge]
    refine wpS_bind (ask _ _ (by omega) ?_)
    dsimp only
    cases hm:B (ht+o) with
    | true =>
     simp only[Bool.not_true,Bool.false_eq_true,if_false]
     exact wpS_pure ⟨rfl,o,_,rfl,by omega,by omega,by omega,hm⟩
    | false =>
     simp only[Bool.not_false,if_true]
     exact wpS_pure ⟨rfl,l,o,rfl,a1,a3,a4,.inr ⟨by omega,hm⟩⟩
  case post =>
   rintro c st' ⟨est,l,o,rfl,a1,a2,a3,a4⟩
   rw[est]
   dsimp only
   have P1:∀i,i<ht+l+1->B i=true:=fun i hi=>anti i (ht+l) (by omega) (by omega) a3
   have P2:∀i,ht+min o (nn-ht)<=i->i<nn->B i=false:=fun i hi hi2=>by
    rcases a4 with z|⟨z1,z2⟩
    ·omega
    ·exact antiF (ht+o) i (by omega) hi2 z2
   refine wpS_bind (wpS_mono (wpS_forRange (I:=fun x c st'=>st'=st/\∃l r,c =(none,l,r)/\l<=r/\r<=nn/\r-l<=nn-x/\(∀i,i<l->B i=true)/\(∀i,r<=i->i<nn->B i=false))
    (Q:=fun c st'=>st'=st/\∃l,c =(none,l,l)/\l<=nn/\(∀i,i<l->B i=true)/\(∀i,l<=i->i<nn->B i=false)) ?stp2 ?fin2 ⟨rfl,ht+l+1,ht+min o (nn-ht),rfl,by omega,by omega,by omega,P1,P2⟩) ?post2)
   case fin2 =>
    rintro c st' ⟨rfl,l,r,rfl,a1,a2,a3,a4,a5⟩
    have:l=r:=by omega
    subst this
    exact⟨rfl,l,rfl,a2,a4,a5⟩
   case post2 =>
    rintro c st' ⟨rfl,l,rfl,a2,a4,a5⟩
    exact wpS_pure (h l a2 a4 a5)
   case stp2 =>
    rintro x c st' _ hx ⟨rfl,l,r,rfl,a1,a2,a3,a4,a5⟩
    dsimp only
    by_cases hge:l ≥ r
    ·rw[if_pos hge]
     have:l=r:=by omega
     subst this
     exact wpS_pure ⟨rfl,l,rfl,a2,a4,a5⟩
    ·rw[if_neg hge]
     refine wpS_bind (ask _ _ (by omega) ?_)
     dsimp only
     cases hm:B (l+(r-l) / 2) with
     | true =>
      simp only[if_true]
      exact wpS_pure ⟨rfl,_,r,rfl,by omega,a2,by omega,fun i hi=>anti i _ (by omega) (by omega) hm,a5⟩
     | false =>
      simp only[Bool.false_eq_true,if_false]
      exact wpS_pure ⟨rfl,l,_,rfl,by omega,by omega,by omega,a4,fun i hi hi2=>antiF _ i hi hi2 hm⟩
 | false =>
  simp only[Bool.false_eq_true,if_false]
  refine wpS_bind (wpS_mono (wpS_forRange (I:=fun x c st'=>st'=st/\∃l o,c =(none,l,o)/\l<o/\x+1<=o/\l<ht+1/\B (ht-l)=false)
   (Q:=fun c st'=>st'=st/\∃l o,c =(none,l,o)/\l<o/\l<ht+1/\B (ht-l)=false/\(ht+1<=o \/(o<ht+1/\B (ht-o)=true))) ?stp ?fin ⟨rfl,0,1,rfl,by omega,by omega,by omega,hr⟩) ?post)
  case fin =>
   rintro c st' ⟨rfl,l,o,rfl,a1,a2,a3,a4⟩
   exact⟨rfl,l,o,rfl,a1,a3,a4,.inl (by omega)⟩
  case stp =>
   rintro x c st' _ hx ⟨rfl,l,o,rfl,a1,a2,a3,a4⟩
   dsimp only
   by_cases hge:o ≥ ht+1
   ·rw[if_pos hge]
    exact wpS_pure ⟨rfl,l,o,rfl,a1,a3,a4,.inl hge⟩
   ·rw[if_neg hge]
    refine wpS_bind (ask _ _ (by omega) ?_)
    dsimp only
    cases hm:B (ht-o) with
    | true =>
     simp only[if_true]
     exact wpS_pure ⟨rfl,l,o,rfl,a1,a3,a4,.inr ⟨by omega,hm⟩⟩
    | false =>
     simp only[Bool.false_eq_true,if_false]
     exact wpS_pure ⟨rfl,o,_,rfl,by omega,by omega,by omega,hm⟩
  case post =>
   rintro c st' ⟨est,l,o,rfl,a1,a2,a3,a4⟩
   rw[est]
   dsimp only
   have P1:∀i,i<ht+1-min o (ht+1)->B i=true:=fun i hi=>by
    rcases a4 with z|⟨z1,z2⟩
    ·omega
    ·exact anti i (ht-o) (by omega) (by omega) z2
   have P2:∀i,ht-l<=i->i<nn->B i=false:=fun i hi hi2=>antiF (ht-l) i (by omega) hi2 a3
   refine wpS_bind (wpS_mono (wpS_forRange (I:=fun x c st'=>st'=st/\∃l r,c =(none,l,r)/\l<=r/\r<=nn/\r-l<=nn-x/\(∀i,i<l->B i=true)/\(∀i,r<=i->i<nn->B i=false))
    (Q:=fun c st'=>st'=st/\∃l,c =(none,l,l)/\l<=nn/\(∀i,i<l->B i=true)/\(∀i,l<=i->i<nn->B i=false)) ?stp2 ?fin2 ⟨rfl,ht+1-min o (ht+1),ht-l,rfl,by omega,by omega,by omega,P1,P2⟩) ?post2)
   case fin2 =>
    rintro c st' ⟨rfl,l,r,rfl,a1,a2,a3,a4,a5⟩
    have:l=r:=by omega
    subst this
    exact⟨rfl,l,rfl,a2,a4,a5⟩
   case post2 =>
    rintro c st' ⟨rfl,l,rfl,a2,a4,a5⟩
    exact wpS_pure (h l a2 a4 a5)
   case stp2 =>
    rintro x c st' _ hx ⟨rfl,l,r,rfl,a1,a2,a3,a4,a5⟩
    dsimp only
    by_cases hge:l ≥ r
    ·rw[if_pos hge]
     have:l=r:=by omega
     subst this
     exact wpS_pure ⟨rfl,l,rfl,a2,a4,a5⟩
    ·rw[if_neg hge]
     refine wpS_bind (ask _ _ (by omega) ?_)
     dsimp only
     cases hm:B (l+(r-l) / 2) with
     | true =>
      simp only[if_true]
      exact wpS_pure ⟨rfl,_,r,rfl,by omega,a2,by omega,fun i hi=>anti i _ (by omega) (by omega) hm,a5⟩
     | false =>
      simp only[Bool.false_eq_true,if_false]
      exact wpS_pure ⟨rfl,l,_,rfl,by omega,by omega,by omega,a4,fun i hi hi2=>antiF _ i hi hi2 hm⟩
end
structure eY (ltb:Keyed->Keyed->Bool):Prop where
 asym:∀{x y},ltb x y=true->ltb y x=false
 tr:∀{x y z},ltb y x=false->ltb z y=false->ltb z x=false
def leB (ltb:Keyed->Keyed->Bool) (x y:Keyed):Prop:=ltb y x=false
section
variable {ltb:Keyed->Keyed->Bool}{xa xb ou:List Keyed}{ja jb k:Nat}
theorem cu {α:Type}(l:List α) (j k:Nat):l.drop j =(l.drop j).take k++l.drop (j+k):=by
 rw[<- List.drop_drop];exact(List.take_append_drop k (l.drop j)).symm
theorem iG {l:List Keyed}(h:l.Pairwise (leB ltb)) {i j:Nat}(hi:i<j) {x y:Keyed}(hx:l[i]? = some x) (hy:l[j]? = some y):leB ltb x y:=by
 obtain⟨h1,rfl⟩:=List.getElem?_eq_some_iff.mp hx
 obtain⟨h2,rfl⟩:=List.getElem?_eq_some_iff.mp hy
 exact List.pairwise_iff_getElem.mp h i j h1 h2 hi
theorem iK {l:List Keyed}(h:l.Pairwise (leB ltb)) (j k:Nat):((l.drop j).take k).Pairwise (leB ltb)/\∀x∈(l.drop j).take k,∀y∈l.drop (j+k),leB ltb x y:=by
 have hd:(l.drop j).Pairwise (leB ltb):=h.drop
 rw[cu l j k,List.pairwise_append]at hd
 exact⟨hd.1,hd.2.2⟩
structure MI (ltb:Keyed->Keyed->Bool) (xa xb ou:List Keyed) (ja jb:Nat):Prop where
 srt:ou.Pairwise (leB ltb)
 la:∀x∈ou,∀y∈xa.drop ja,leB ltb x y
 lb:∀x∈ou,∀y∈xb.drop jb,leB ltb x y
 pm:(ou++(xa.drop ja++xb.drop jb)).Perm (xa++xb)
 sz:ou.length=ja+jb
theorem MI.stepA (O:eY ltb) (sa:xa.Pairwise (leB ltb)) (sb:xb.Pairwise (leB ltb)) (m:MI ltb xa xb ou ja jb) (hk:ja+k<=xa.length) {z:Keyed}(hz:xb[jb]? = some z) (c:∀y∈(xa.drop ja).take k,leB ltb y z) :
  MI ltb xa xb (ou++(xa.drop ja).take k) (ja+k) jb:=by
 obtain⟨p1,p2⟩:=iK sa ja k
 have sub:∀y∈(xa.drop ja).take k,y∈xa.drop ja:=fun y hy=>List.mem_of_mem_take hy
 have zb:∀y∈xb.drop jb,leB ltb z y\/y=z:=fun y hy=>by
  obtain⟨i,hi,e⟩:=List.getElem_of_mem hy
  have e2:xb[jb+i]? = some y:=by rw[<- List.getElem?_drop,List.getElem?_eq_getElem hi,e]
  by_cases h0:i=0
  ·subst h0;rw[Nat.add_zero,hz]at e2;exact .inr (Option.some.inj e2).symm
  ·exact .inl (iG sb (by omega) hz e2)
 refine⟨?_,?_,?_,?_,?_⟩
 ·rw[List.pairwise_append]
  exact⟨m.srt,p1,fun x hx y hy=>m.la x hx y (sub y hy)⟩
 ·intro x hx y hy
  rcases List.mem_append.mp hx with h|h
  ·exact m.la x h y (by rw[cu xa ja k];exact List.mem_append_right _ hy)
  ·exact p2 x h y hy
 ·intro x hx y hy
  rcases List.mem_append.mp hx with h|h
  ·exact m.lb x h y hy
  ·rcases zb y hy with z1|z1
   ·exact O.tr (c x h) z1
   ·rw[z1];exact c x h
 ·have e:=cu xa ja k
  have:=m.pm
  rw[e]at this
  simpa [List.append_assoc] using this
 ·rw[List.length_append,m.sz,List.length_take,List.length_drop];omega
theorem MI.stepB (O:eY ltb) (sa:xa.Pairwise (leB ltb)) (sb:xb.Pairwise (leB ltb)) (m:MI ltb xa xb ou ja jb) (hk:jb+k<=xb.length) {z:Keyed}(hz:xa[ja]? = some z) (c:∀y∈(xb.drop jb).take k,leB ltb y z) :
  MI ltb xa xb (ou++(xb.drop jb).take k) ja (jb+k):=by
 obtain⟨p1,p2⟩:=iK sb jb k
 have sub:∀y∈(xb.drop jb).take k,y∈xb.drop jb:=fun y hy=>List.mem_of_mem_take hy
 have za:∀y∈xa.drop ja,leB ltb z y\/y=z:=fun y hy=>by
  obtain⟨i,hi,e⟩:=List.getElem_of_mem hy
  have e2:xa[ja+i]? = some y:=by rw[<- List.getElem?_drop,List.getElem?_eq_getElem hi,e]
  by_cases h0:i=0
  ·subst h0;rw[Nat.add_zero,hz]at e2;exact .inr (Option.some.inj e2).symm
  ·exact .inl (iG sa (by omega) hz e2)
 refine⟨?_,?_,?_,?_,?_⟩
 ·rw[List.pairwise_append]
  exact⟨m.srt,p1,fun x hx y hy=>m.lb x hx y (sub y hy)⟩
 ·intro x hx y hy
  rcases List.mem_append.mp hx with h|h
  ·exact m.la x h y hy
  ·rcases za y hy with z1|z1
   ·exact O.tr (c x h) z1
   ·rw[z1];exact c x h
 ·intro x hx y hy
  rcases List.mem_append.mp hx with h|h
  ·exact m.lb x h y (by rw[cu xb jb k];exact List.mem_append_right _ hy)
  ·exact p2 x h y hy
 ·have e:=cu xb jb k
  have:=m.pm
  rw[e]at this
  refine List.Perm.trans ?_ this
  rw[List.append_assoc]
  refine List.Perm.append_left _ ?_
  rw[<- List.append_assoc,<- List.append_assoc]
  refine List.Perm.append_right _ ?_
  exact List.perm_append_comm
 ·rw[List.length_append,m.sz,List.length_take,List.length_drop];omega
theorem MI.start (sb:xb.Pairwise (leB ltb)) {z y0:Keyed}(hz:xb[0]? = some z) (c:∀y∈xa,leB ltb z y):MI ltb xa xb [z] 0 1:=by
 have hx:xb=z::xb.drop 1:=by
  cases xb with
  | nil=>cases hz
  | cons b r=>obtain rfl:=Option.some.inj hz;rfl
 refine⟨by simp,fun x hx y hy=>?_,fun x hx2 y hy=>?_,?_,rfl⟩
 ·simp at hx hy;rw[hx];exact c y hy
 ·simp at hx2
  rw[hx2]
  rw[hx,List.pairwise_cons]at sb
  exact sb.1 y hy
 ·rw[List.drop_zero]
  refine List.Perm.trans ?_ (List.Perm.append_left xa (List.Perm.of_eq hx.symm))
  show(z::(xa++xb.drop 1)).Perm _
  exact List.perm_middle.symm
theorem MI.done (sa:xa.Pairwise (leB ltb)) (m:MI ltb xa xb ou ja jb) (h:jb=xb.length):(ou++xa.drop ja++xb.drop jb).Pairwise (leB ltb)/\(ou++xa.drop ja++xb.drop jb).Perm (xa++xb):=by
 have e:xb.drop jb=[]:=by rw[h];exact List.drop_length
 have pm:=m.pm
 rw[e,List.append_nil]at pm ⊢
 refine⟨?_,pm⟩
 rw[List.pairwise_append]
 exact⟨m.srt,sa.drop,m.la⟩
theorem MI.last (sa:xa.Pairwise (leB ltb)) (sb:xb.Pairwise (leB ltb)) (m:MI ltb xa xb ou ja jb) (h:∀x∈xb,∀y∈xa.drop ja,leB ltb x y) :
  (ou++xb.drop jb++xa.drop ja).Pairwise (leB ltb)/\(ou++xb.drop jb++xa.drop ja).Perm (xa++xb):=by
 constructor
 ·rw[List.pairwise_append,List.pairwise_append]
  refine⟨⟨m.srt,sb.drop,m.lb⟩,sa.drop,fun x hx y hy=>?_⟩
  rcases List.mem_append.mp hx with z|z
  ·exact m.la x z y hy
  ·exact h x (List.mem_of_mem_drop z) y hy
 ·refine List.Perm.trans ?_ m.pm
  rw[List.append_assoc]
  exact List.Perm.append_left _ List.perm_append_comm
end
def N9:Array Keyed->Array Keyed->StateT SortSt Sem (Array Keyed):=sortPriv% PySem.Builtin.mergeLo
def FO (xa xb ou:Array Keyed) (ja jb:Nat):Array Keyed:=ou++xa.extract ja xa.size++xb.extract jb xb.size
def L6 (xa xb ou:Array Keyed) (ja jb:Nat):Array Keyed:=ou++xb.extract jb xb.size++xa.extract ja xa.size
def IP (g:Nat):StateT SortSt Sem Unit:=modify fun z=>SortSt.mk' (kindOf z) (arrOf z) (pendingOf z) g (failedOf z)
theorem J1 (xa xb:Array Keyed):N9 xa xb =(do
 rule "list.sort.merge-lo"
 let mut ou:Array Keyed:=#[<- elem' xb 0]
 let mut ja:=0
 let mut jb:=1
 if jb == xb.size then return FO xa xb ou ja jb
 if ja+1 == xa.size then return L6 xa xb ou ja jb
 let mut mg:=gallopOf (<- get)
 for _ in [0:xa.size+xb.size] do
  let mut ca:=0
  let mut cb:=0
  for _ in [0:xa.size+xb.size] do
   let some bw <- lt' (<- elem' xb jb) (<- elem' xa ja)|return FO xa xb ou ja jb
   if bw then
    ou:=ou.push (<- elem' xb jb);jb:=jb+1;cb:=cb+1;ca:=0
    if jb == xb.size then return FO xa xb ou ja jb
    if cb ≥ mg then break
   else
    ou:=ou.push (<- elem' xa ja);ja:=ja+1;ca:=ca+1;cb:=0
    if ja+1 == xa.size then return L6 xa xb ou ja jb
    if ca ≥ mg then break
  rule "list.sort.gallop"
  mg:=mg+1
  for _ in [0:xa.size+xb.size] do
   if mg > 1 then mg:=mg-1
   IP mg
   let some kk <- sL false (<- elem' xb jb) xa ja (xa.size-ja) 0|return FO xa xb ou ja jb
   ca:=kk
   if kk > 0 then
    ou:=ou++xa.extract ja (ja+kk);ja:=ja+kk
    if ja+1 == xa.size then return L6 xa xb ou ja jb
    if ja == xa.size then return FO xa xb ou ja jb
   ou:=ou.push (<- elem' xb jb);jb:=jb+1
   if jb == xb.size then return FO xa xb ou ja jb
   let some kk <- sL true (<- elem' xa ja) xb jb (xb.size-jb) 0|return FO xa xb ou ja jb
   cb:=kk
   if kk > 0 then
    ou:=ou++xb.extract jb (jb+kk);jb:=jb+kk
    if jb == xb.size then return FO xa xb ou ja jb
   ou:=ou.push (<- elem' xa ja);ja:=ja+1
   if ja+1 == xa.size then return L6 xa xb ou ja jb
   if ca<7 && cb<7 then break
  mg:=mg+1
  IP mg
 unsupported "internal:list.sort.merge-bound"):=rfl
theorem mJ (x:Array Keyed) (j:Nat):(x.extract j x.size).toList=x.toList.drop j:=by
 rw[Array.toList_extract]
 exact List.take_of_length_le (by simp)
theorem lY (x:Array Keyed) (j k:Nat):(x.extract j (j+k)).toList =(x.toList.drop j).take k:=by
 rw[Array.toList_extract]
 show List.take (j+k-j) (List.drop j x.toList)=_
 rw[show j+k-j=k by omega]
section
variable {ltb:Keyed->Keyed->Bool}{xa xb ou:Array Keyed}{ja jb k:Nat}
theorem qh {x:Array Keyed}{j:Nat}{b:Keyed}(h:x[j]? = some b):(x.toList.drop j).take 1=[b]:=by
 have hj:=(Array.getElem?_eq_some_iff.mp h).1
 have e:=(Array.getElem?_eq_some_iff.mp h).2
 rw[List.drop_eq_getElem_cons (by simpa using hj)]
 simp[e]
theorem MI.pB (O:eY ltb) (sa:xa.toList.Pairwise (leB ltb)) (sb:xb.toList.Pairwise (leB ltb)) (m:MI ltb xa.toList xb.toList ou.toList ja jb) {b y:Keyed}(hb:xb[jb]? = some b) (hy:xa[ja]? = some y) (c:leB ltb b y):MI ltb xa.toList xb.toList (ou.push b).toList ja (jb+1):=by
 have hj:=(Array.getElem?_eq_some_iff.mp hb).1
 have:=m.stepB O sa sb (k:=1) (by rw[Array.length_toList];omega) (z:=y) (by simpa using hy) (by rw[qh hb];intro x hx;simp at hx;rw[hx];exact c)
 rw[qh hb]at this
 simpa using this
theorem MI.pA (O:eY ltb) (sa:xa.toList.Pairwise (leB ltb)) (sb:xb.toList.Pairwise (leB ltb)) (m:MI ltb xa.toList xb.toList ou.toList ja jb) {b y:Keyed}(hb:xb[jb]? = some b) (hy:xa[ja]? = some y) (c:leB ltb y b):MI ltb xa.toList xb.toList (ou.push y).toList (ja+1) jb:=by
 have hj:=(Array.getElem?_eq_some_iff.mp hy).1
 have:=m.stepA O sa sb (k:=1) (by rw[Array.length_toList];omega) (z:=b) (by simpa using hb) (by rw[qh hy];intro x hx;simp at hx;rw[hx];exact c)
 rw[qh hy]at this
 simpa using this
theorem A2 {x:Array Keyed}{j k:Nat}{y:Keyed}(h:y∈(x.toList.drop j).take k):∃i,i<k/\x[j+i]? = some y:=by
 obtain⟨i,hi,e⟩:=List.getElem_of_mem h
 rw[List.length_take]at hi
 refine⟨i,by omega,?_⟩
 rw[List.getElem_take,List.getElem_drop]at e
 have hl:j+i<x.size:=by rw[List.length_drop]at hi;simp at hi;omega
 rw[Array.getElem?_eq_getElem hl]
 simpa using e
theorem MI.eA (O:eY ltb) (sa:xa.toList.Pairwise (leB ltb)) (sb:xb.toList.Pairwise (leB ltb)) (m:MI ltb xa.toList xb.toList ou.toList ja jb) (hk:ja+k<=xa.size) {b:Keyed}(hb:xb[jb]? = some b) (c:∀i,i<k->∀x,xa[ja+i]? = some x->leB ltb x b) :
  MI ltb xa.toList xb.toList (ou++xa.extract ja (ja+k)).toList (ja+k) jb:=by
 have:=m.stepA O sa sb (k:=k) (by simpa using hk) (z:=b) (by simpa using hb) (fun y hy=>by obtain⟨i,h1,h2⟩:=A2 hy;exact c i h1 y h2)
 rw[Array.toList_append,lY];exact this
theorem MI.eB (O:eY ltb) (sa:xa.toList.Pairwise (leB ltb)) (sb:xb.toList.Pairwise (leB ltb)) (m:MI ltb xa.toList xb.toList ou.toList ja jb) (hk:jb+k<=xb.size) {y:Keyed}(hy:xa[ja]? = some y) (c:∀i,i<k->∀x,xb[jb+i]? = some x->leB ltb x y) :
  MI ltb xa.toList xb.toList (ou++xb.extract jb (jb+k)).toList ja (jb+k):=by
 have:=m.stepB O sa sb (k:=k) (by simpa using hk) (z:=y) (by simpa using hy) (fun y hy=>by obtain⟨i,h1,h2⟩:=A2 hy;exact c i h1 y h2)
 rw[Array.toList_append,lY];exact this
theorem v8 {x:Array Keyed}(h:x.toList.Pairwise (leB ltb)) {i j:Nat}(hij:i<j) {u v:Keyed}(hu:x[i]? = some u) (hv:x[j]? = some v):leB ltb u v :=
 iG h hij (by simpa using hu) (by simpa using hv)
theorem bH {x:Array Keyed}{i:Nat}{u:Keyed}(hu:x[i]? = some u):u∈x.toList:=by
 have:=Array.mem_of_getElem? hu
 simpa using this
end
section
variable {prog:Program}{w:World}{A:Around}{E:Value->Shared->Prop}{s:Shared}{ltb:Keyed->Keyed->Bool}{S:Keyed->Prop}{κ:SortKind}
theorem ji (O:eY ltb) (hO:lJ prog w A E s ltb S κ) {x:Array Keyed}{bs nn ht:Nat}{ky:Keyed}{st:SortSt}{Q:Option Nat->SortSt->Prop}(hk:kindOf st=κ) (hky:S ky) (Sx:∀u∈x.toList,S u) (sx:∀i j u v,i<j->j<nn->x[bs+i]? = some u->x[bs+j]? = some v->leB ltb u v)
  (hn:bs+nn<=x.size) (hht:ht<nn) (h:∀k,k<=nn->(∀i,i<k->∀u,x[bs+i]? = some u->leB ltb u ky)->(∀i,k<=i->i<nn->∀u,x[bs+i]? = some u->ltb ky u=true)->Q (some k) st):wpS (model prog w) A E s (sL false ky x bs nn ht) Q st:=by
 have ex:∀j,j<nn->∃u,x[bs+j]? = some u:=fun j hj=>⟨_,Array.getElem?_eq_getElem (by omega)⟩
 refine AM hO hk hky (fun j=>match x[bs+j]? with|some u=>Bf ltb false ky u|none=>false) (fun j hj=>?_) (fun i j hij hj hb=>?_) hht fun k h1 h2 h3=>h k h1 (fun i hi u hu=>?_) fun i hi hi2 u hu=>?_
 ·obtain⟨u,hu⟩:=ex j hj
  exact⟨u,hu,Sx u (bH hu),by simp only[hu]⟩
 ·obtain⟨u,hu⟩:=ex i (by omega)
  obtain⟨v,hv⟩:=ex j hj
  simp only[hu,hv,Bf,Bool.false_eq_true,if_false,Bool.not_eq_true']at hb ⊢
  by_cases e:i=j
  ·subst e;rw[hu]at hv;cases hv;exact hb
  ·exact O.tr (sx i j u v (by omega) hj hu hv) hb
 ·have:=h2 i hi
  simp only[hu,Bf,Bool.false_eq_true,if_false,Bool.not_eq_true']at this
  exact this
 ·have:=h3 i hi hi2
  simp only[hu,Bf,Bool.false_eq_true,if_false,Bool.not_eq_false']at this
  exact this
theorem dY (O:eY ltb) (hO:lJ prog w A E s ltb S κ) {x:Array Keyed}{bs nn ht:Nat}{ky:Keyed}{st:SortSt}{Q:Option Nat->SortSt->Prop}(hk:kindOf st=κ) (hky:S ky) (Sx:∀u∈x.toList,S u) (sx:∀i j u v,i<j->j<nn->x[bs+i]? = some u->x[bs+j]? = some v->leB ltb u v)
  (hn:bs+nn<=x.size) (hht:ht<nn) (h:∀k,k<=nn->(∀i,i<k->∀u,x[bs+i]? = some u->ltb u ky=true)->(∀i,k<=i->i<nn->∀u,x[bs+i]? = some u->leB ltb ky u)->Q (some k) st):wpS (model prog w) A E s (sL true ky x bs nn ht) Q st:=by
 have ex:∀j,j<nn->∃u,x[bs+j]? = some u:=fun j hj=>⟨_,Array.getElem?_eq_getElem (by omega)⟩
 refine AM hO hk hky (fun j=>match x[bs+j]? with|some u=>Bf ltb true ky u|none=>false) (fun j hj=>?_) (fun i j hij hj hb=>?_) hht fun k h1 h2 h3=>h k h1 (fun i hi u hu=>?_) fun i hi hi2 u hu=>?_
 ·obtain⟨u,hu⟩:=ex j hj
  exact⟨u,hu,Sx u (bH hu),by simp only[hu]⟩
 ·obtain⟨u,hu⟩:=ex i (by omega)
  obtain⟨v,hv⟩:=ex j hj
  simp only[hu,hv,Bf,if_true]at hb ⊢
  by_cases e:i=j
  ·subst e;rw[hu]at hv;cases hv;exact hb
  ·have l1:=sx i j u v (by omega) hj hu hv
   cases q:ltb u ky with
   | true=>rfl
   | false=>have:=O.tr q l1;rw[this]at hb;cases hb
 ·have:=h2 i hi
  simp only[hu,Bf,if_true]at this
  exact this
 ·have:=h3 i hi hi2
  simp only[hu,Bf,if_true]at this
  exact this
end
section
variable {prog:Program}{w:World}{A:Around}{E:Value->Shared->Prop}{s:Shared}{ltb:Keyed->Keyed->Bool}{S:Keyed->Prop}{κ:SortKind}
structure SS (κ:SortKind) (st st':SortSt):Prop where
 kind:kindOf st'=κ
 fail:failedOf st'=none
 arr:arrOf st'=arrOf st
 pend:pendingOf st'=pendingOf st
theorem SS.smg {st st':SortSt}(h:SS κ st st') (g:Nat):SS κ st (SortSt.mk' (kindOf st') (arrOf st') (pendingOf st') g (failedOf st')):=⟨h.kind,h.fail,h.arr,h.pend⟩
theorem Kh (O:eY ltb) (hO:lJ prog w A E s ltb S κ) {xa xb:Array Keyed}{st:SortSt}{Q:Array Keyed->SortSt->Prop}(Sa:∀x∈xa.toList,S x) (Sb:∀x∈xb.toList,S x) (sa:xa.toList.Pairwise (leB ltb)) (sb:xb.toList.Pairwise (leB ltb))
  {z:Keyed}(hz:xb[0]? = some z) (hfst:∀y∈xa.toList,leB ltb z y) (ha0:0<xa.size) (hlst:∀x∈xb.toList,∀y,xa[xa.size-1]? = some y->ltb x y=true) (hS:SS κ st st)
  (h:∀r st',r.toList.Pairwise (leB ltb)->r.toList.Perm (xa.toList++xb.toList)->SS κ st st'->Q r st'):wpS (model prog w) A E s (N9 xa xb) Q st:=by
 have hb0:0<xb.size:=by
  have:=(Array.getElem?_eq_some_iff.mp hz).1;exact this
 have mdone:∀(ou:Array Keyed) (ja jb:Nat) (st':SortSt),MI ltb xa.toList xb.toList ou.toList ja jb->jb=xb.size->SS κ st st'->Q (FO xa xb ou ja jb) st':=fun ou ja jb st' m e ss=>by
  obtain⟨p1,p2⟩:=m.done sa (by rw[e];simp)
  have el:(FO xa xb ou ja jb).toList=ou.toList++xa.toList.drop ja++xb.toList.drop jb:=by unfold FO;rw[Array.toList_append,Array.toList_append,mJ,mJ]
  exact h _ _ (by rw[el];exact p1) (by rw[el];exact p2) ss
 have mlast:∀(ou:Array Keyed) (ja jb:Nat) (st':SortSt),MI ltb xa.toList xb.toList ou.toList ja jb->ja+1=xa.size->SS κ st st'->Q (L6 xa xb ou ja jb) st':=fun ou ja jb st' m e ss=>by
  obtain⟨p1,p2⟩:=m.last sa sb (fun x hx y hy=>by
   obtain⟨i,hi,e2⟩:=List.getElem_of_mem hy
   have hi0:i=0:=by rw[List.length_drop]at hi;simp at hi;omega
   subst hi0
   have e3:xa[xa.size-1]? = some y:=by
    rw[List.getElem_drop]at e2
    rw[show xa.size-1=ja by omega]
    rw[<- e2];simp
   exact O.asym (hlst x hx y e3))
  have el:(L6 xa xb ou ja jb).toList=ou.toList++xb.toList.drop jb++xa.toList.drop ja:=by unfold L6;rw[Array.toList_append,Array.toList_append,mJ,mJ]
  exact h _ _ (by rw[el];exact p1) (by rw[el];exact p2) ss
 have mi0:MI ltb xa.toList xb.toList [z] 0 1:=MI.start (y0:=z) sb (by simpa using hz) hfst
 rw[J1]
 refine wpS_bind (wpS_lift (wpAny_rule ⟨rfl,?_⟩))
 refine wpS_bind (aG hz ?_)
 dsimp only
 by_cases c1:1=xb.size
 ·rw[if_pos (by simpa using c1)]
  exact wpS_pure (mdone #[z] 0 1 st mi0 c1 hS)
 rw[if_neg (by simpa using c1)]
 by_cases c2:0+1=xa.size
 ·rw[if_pos (by simpa using c2)]
  exact wpS_pure (mlast #[z] 0 1 st mi0 c2 hS)
 rw[if_neg (by simpa using c2)]
 refine wpS_bind (wpS_get ?_)
 have at1:∀{x:Array Keyed}{j:Nat},j<x.size->∃u,x[j]? = some u:=fun {x j} hj=>⟨_,Array.getElem?_eq_getElem hj⟩
 refine wpS_bind (wpS_mono (wpS_forRange
  (I:=fun x c st'=>SS κ st st'/\∃ou ja jb mg,c =(none,ou,ja,jb,mg)/\MI ltb xa.toList xb.toList ou.toList ja jb/\ja+1<xa.size/\jb<xb.size/\x+1<=ja+jb)
  (Q:=fun c st'=>∃r ou ja jb mg,c =(some r,ou,ja,jb,mg)/\Q r st') ?stp ?fin ⟨hS,#[z],0,1,_,rfl,mi0,by omega,by omega,by omega⟩) ?post)
 case fin =>
  rintro c st' ⟨ss,ou,ja,jb,mg,rfl,m,b1,b2,b3⟩
  omega
 case post =>
  rintro c st' ⟨r,ou,ja,jb,mg,rfl,hq⟩
  exact wpS_pure hq
 case stp =>
  rintro x c st1 _ hx ⟨ss,ou,ja,jb,mg,rfl,m,b1,b2,b3⟩
  dsimp only
  refine wpS_bind (wpS_mono (wpS_forRange
   (I:=fun y c st'=>SS κ st st'/\∃ou' ja' jb' ca cb,c =(none,ou',ja',jb',ca,cb)/\MI ltb xa.toList xb.toList ou'.toList ja' jb'/\ja'+1<xa.size/\jb'<xb.size/\ja+jb+y<=ja'+jb')
   (Q:=fun c st'=>(∃r ou' ja' jb' ca cb,c =(some r,ou',ja',jb',ca,cb)/\Q r st') \/(SS κ st st'/\∃ou' ja' jb' ca cb,c =(none,ou',ja',jb',ca,cb)/\MI ltb xa.toList xb.toList ou'.toList ja' jb'/\ja'+1<xa.size/\jb'<xb.size/\ja+jb+1<=ja'+jb')) ?stp1 ?fin1 ⟨ss,ou,ja,jb,0,0,rfl,m,b1,b2,by omega⟩) ?post1)
  case fin1 =>
   rintro c st' ⟨ss,ou',ja',jb',ca,cb,rfl,m,d1,d2,d3⟩
   exact .inr ⟨ss,ou',ja',jb',ca,cb,rfl,m,d1,d2,by omega⟩
  case stp1 =>
   rintro y c st2 _ hy ⟨ss,ou',ja',jb',ca,cb,rfl,m,d1,d2,d3⟩
   dsimp only
   obtain⟨vb,hvb⟩:=at1 (x:=xb) d2
   obtain⟨va,hva⟩:=at1 (x:=xa) (j:=ja') (by omega)
   refine wpS_bind (aG hvb (wpS_bind (aG hva (wpS_bind (hO vb va _ _ (Sb _ (bH hvb)) (Sa _ (bH hva)) ss.kind ?_)))))
   dsimp only
   cases hw:ltb vb va with
   | true =>
    simp only[if_true]
    have m2:=m.pB O sa sb hvb hva (O.asym hw)
    refine wpS_bind (aG hvb ?_)
    by_cases e1:jb'+1=xb.size
    ·rw[if_pos (by simpa using e1)]
     exact wpS_pure (.inl ⟨_,_,_,_,_,_,rfl,mdone _ _ _ _ m2 e1 ss⟩)
    ·rw[if_neg (by simpa using e1)]
     split
     ·exact wpS_pure (.inr ⟨ss,_,_,_,_,_,rfl,m2,d1,by omega,by omega⟩)
     ·exact wpS_pure ⟨ss,_,_,_,_,_,rfl,m2,d1,by omega,by omega⟩
   | false =>
    simp only[Bool.false_eq_true,if_false]
    have m2:=m.pA O sa sb hvb hva hw
    refine wpS_bind (aG hva ?_)
    by_cases e1:ja'+1+1=xa.size
    ·rw[if_pos (by simpa using e1)]
     exact wpS_pure (.inl ⟨_,_,_,_,_,_,rfl,mlast _ _ _ _ m2 e1 ss⟩)
    ·rw[if_neg (by simpa using e1)]
     split
     ·exact wpS_pure (.inr ⟨ss,_,_,_,_,_,rfl,m2,by omega,d2,by omega⟩)
     ·exact wpS_pure ⟨ss,_,_,_,_,_,rfl,m2,by omega,d2,by omega⟩
  case post1 =>
   rintro c st2 (⟨r,ou',ja',jb',ca,cb,rfl,hq⟩|⟨ss,ou',ja',jb',ca,cb,rfl,m,d1,d2,d3⟩)
   ·exact wpS_pure ⟨r,_,_,_,_,rfl,hq⟩
   dsimp only
   refine wpS_bind (wpS_lift (wpAny_rule ⟨rfl,?_⟩))
   refine wpS_bind (wpS_mono (wpS_forRange
    (I:=fun y c st'=>SS κ st st'/\∃ou' ja' jb' mg ca cb,c =(none,ou',ja',jb',mg,ca,cb)/\MI ltb xa.toList xb.toList ou'.toList ja' jb'/\ja'+1<xa.size/\jb'<xb.size/\ja+jb+1<=ja'+jb')
    (Q:=fun c st'=>(∃r ou' ja' jb' mg ca cb,c =(some r,ou',ja',jb',mg,ca,cb)/\Q r st') \/(SS κ st st'/\∃ou' ja' jb' mg ca cb,c =(none,ou',ja',jb',mg,ca,cb)/\MI ltb xa.toList xb.toList ou'.toList ja' jb'/\ja'+1<xa.size/\jb'<xb.size/\ja+jb+1<=ja'+jb')) ?stp2 ?fin2 ⟨ss,ou',ja',jb',_,ca,cb,rfl,m,d1,d2,d3⟩) ?post2)
   case fin2 =>
    rintro c st' hh
    exact .inr hh
   case post2 =>
    rintro c st3 (⟨r,ou2,ja2,jb2,mg2,ca2,cb2,rfl,hq⟩|⟨ss,ou2,ja2,jb2,mg2,ca2,cb2,rfl,m,f1,f2,f3⟩)
    ·exact wpS_pure ⟨r,_,_,_,_,rfl,hq⟩
    ·dsimp only
     refine wpS_bind (wpS_modify ?_)
     exact wpS_pure ⟨ss.smg _,_,_,_,_,rfl,m,f1,f2,by omega⟩
   case stp2 =>
    rintro y c st3 _ hy ⟨ss,ou2,ja2,jb2,mg2,ca2,cb2,rfl,m,f1,f2,f3⟩
    dsimp only
    obtain⟨vb,hvb⟩:=at1 (x:=xb) f2
    have sxa:∀(q:Nat) i j u v,i<j->j<xa.size-q->xa[q+i]? = some u->xa[q+j]? = some v->leB ltb u v:=fun q i j u v hij _ hu hv=>v8 sa (by omega) hu hv
    have sxb:∀(q:Nat) i j u v,i<j->j<xb.size-q->xb[q+i]? = some u->xb[q+j]? = some v->leB ltb u v:=fun q i j u v hij _ hu hv=>v8 sb (by omega) hu hv
    obtain⟨vl,hvl⟩:=at1 (x:=xa) (j:=xa.size-1) (by omega)
    have hbl:=hlst vb (bH hvb) vl hvl
    by_cases hg:mg2 > 1
    ·rw[if_pos hg]
     refine wpS_bind (wpS_modify ?_)
     have ss2:=ss.smg (mg2-1)
     refine wpS_bind (aG hvb (wpS_bind (ji O hO ss2.kind (Sb _ (bH hvb)) Sa (sxa ja2) (by omega) (by omega) fun k hk1 hk2 hk3=>?_)))
     have hkl:k<xa.size-ja2:=by
      by_cases q:k<xa.size-ja2
      ·exact q
      ·have:=hk2 (xa.size-ja2-1) (by omega) vl (by rw[show ja2+(xa.size-ja2-1)=xa.size-1 by omega];exact hvl)
       unfold leB at this
       rw[hbl]at this;cases this
     dsimp only
     by_cases kp:k > 0
     ·rw[if_pos kp]
      have M3:=m.eA O sa sb (k:=k) (by omega) hvb hk2
      by_cases e0:ja2+k+1=xa.size
      ·rw[if_pos (by simpa using e0)]
       exact wpS_pure (.inl ⟨_,_,_,_,_,_,_,rfl,mlast _ _ _ _ M3 e0 ss2⟩)
      rw[if_neg (by simpa using e0),if_neg (by simp;omega)]
      obtain⟨va,hva⟩:=at1 (x:=xa) (j:=ja2+k) (by omega)
      have hw:=hk3 k (Nat.le_refl _) hkl va hva
      refine wpS_bind (aG hvb ?_)
      have m4:=M3.pB O sa sb hvb hva (O.asym hw)
      by_cases e1:jb2+1=xb.size
      ·rw[if_pos (by simpa using e1)]
       exact wpS_pure (.inl ⟨_,_,_,_,_,_,_,rfl,mdone _ _ _ _ m4 e1 ss2⟩)
      rw[if_neg (by simpa using e1)]
      refine wpS_bind (aG hva (wpS_bind (dY O hO ss2.kind (Sa _ (bH hva)) Sb (sxb (jb2+1)) (by omega) (by omega) fun k2 g1 g2 g3=>?_)))
      dsimp only
      by_cases k2p:k2 > 0
      ·rw[if_pos k2p]
       have m5:=m4.eB O sa sb (k:=k2) (by omega) hva (fun i hi u hu=>O.asym (g2 i hi u hu))
       by_cases e2:jb2+1+k2=xb.size
       ·rw[if_pos (by simpa using e2)]
        exact wpS_pure (.inl ⟨_,_,_,_,_,_,_,rfl,mdone _ _ _ _ m5 e2 ss2⟩)
       rw[if_neg (by simpa using e2)]
       obtain⟨vb2,hvb2⟩:=at1 (x:=xb) (j:=jb2+1+k2) (by omega)
       have m6:=m5.pA O sa sb hvb2 hva (g3 k2 (Nat.le_refl _) (by omega) vb2 hvb2)
       refine wpS_bind (aG hva ?_)
       by_cases e3:ja2+k+1+1=xa.size
       ·rw[if_pos (by simpa using e3)]
        exact wpS_pure (.inl ⟨_,_,_,_,_,_,_,rfl,mlast _ _ _ _ m6 e3 ss2⟩)
       rw[if_neg (by simpa using e3)]
       split
       ·exact wpS_pure (.inr ⟨ss2,_,_,_,_,_,_,rfl,m6,by omega,by omega,by omega⟩)
       ·exact wpS_pure ⟨ss2,_,_,_,_,_,_,rfl,m6,by omega,by omega,by omega⟩
      ·rw[if_neg k2p]
       obtain⟨vb2,hvb2⟩:=at1 (x:=xb) (j:=jb2+1) (by omega)
       have m6:=m4.pA O sa sb hvb2 hva (g3 0 (by omega) (by omega) vb2 hvb2)
       refine wpS_bind (aG hva ?_)
       by_cases e3:ja2+k+1+1=xa.size
       ·rw[if_pos (by simpa using e3)]
        exact wpS_pure (.inl ⟨_,_,_,_,_,_,_,rfl,mlast _ _ _ _ m6 e3 ss2⟩)
       rw[if_neg (by simpa using e3)]
       split
       ·exact wpS_pure (.inr ⟨ss2,_,_,_,_,_,_,rfl,m6,by omega,by omega,by omega⟩)
       ·exact wpS_pure ⟨ss2,_,_,_,_,_,_,rfl,m6,by omega,by omega,by omega⟩
     ·rw[if_neg kp]
      have M3:=m
      obtain⟨va,hva⟩:=at1 (x:=xa) (j:=ja2) (by omega)
      have hw:=hk3 0 (by omega) (by omega) va hva
      refine wpS_bind (aG hvb ?_)
      have m4:=M3.pB O sa sb hvb hva (O.asym hw)
      by_cases e1:jb2+1=xb.size
      ·rw[if_pos (by simpa using e1)]
       exact wpS_pure (.inl ⟨_,_,_,_,_,_,_,rfl,mdone _ _ _ _ m4 e1 ss2⟩)
      rw[if_neg (by simpa using e1)]
      refine wpS_bind (aG hva (wpS_bind (dY O hO ss2.kind (Sa _ (bH hva)) Sb (sxb (jb2+1)) (by omega) (by omega) fun k2 g1 g2 g3=>?_)))
      dsimp only
      by_cases k2p:k2 > 0
      ·rw[if_pos k2p]
       have m5:=m4.eB O sa sb (k:=k2) (by omega) hva (fun i hi u hu=>O.asym (g2 i hi u hu))
       by_cases e2:jb2+1+k2=xb.size
       ·rw[if_pos (by simpa using e2)]
        exact wpS_pure (.inl ⟨_,_,_,_,_,_,_,rfl,mdone _ _ _ _ m5 e2 ss2⟩)
       rw[if_neg (by simpa using e2)]
       obtain⟨vb2,hvb2⟩:=at1 (x:=xb) (j:=jb2+1+k2) (by omega)
       have m6:=m5.pA O sa sb hvb2 hva (g3 k2 (Nat.le_refl _) (by omega) vb2 hvb2)
       refine wpS_bind (aG hva ?_)
       by_cases e3:ja2+1+1=xa.size
       ·rw[if_pos (by simpa using e3)]
        exact wpS_pure (.inl ⟨_,_,_,_,_,_,_,rfl,mlast _ _ _ _ m6 e3 ss2⟩)
       rw[if_neg (by simpa using e3)]
       split
       ·exact wpS_pure (.inr ⟨ss2,_,_,_,_,_,_,rfl,m6,by omega,by omega,by omega⟩)
       ·exact wpS_pure ⟨ss2,_,_,_,_,_,_,rfl,m6,by omega,by omega,by omega⟩
      ·rw[if_neg k2p]
       obtain⟨vb2,hvb2⟩:=at1 (x:=xb) (j:=jb2+1) (by omega)
       have m6:=m4.pA O sa sb hvb2 hva (g3 0 (by omega) (by omega) vb2 hvb2)
       refine wpS_bind (aG hva ?_)
       by_cases e3:ja2+1+1=xa.size
       ·rw[if_pos (by simpa using e3)]
        exact wpS_pure (.inl ⟨_,_,_,_,_,_,_,rfl,mlast _ _ _ _ m6 e3 ss2⟩)
       rw[if_neg (by simpa using e3)]
       split
       ·exact wpS_pure (.inr ⟨ss2,_,_,_,_,_,_,rfl,m6,by omega,by omega,by omega⟩)
       ·exact wpS_pure ⟨ss2,_,_,_,_,_,_,rfl,m6,by omega,by omega,by omega⟩
    ·rw[if_neg hg]
     refine wpS_bind (wpS_modify ?_)
     have ss2:=ss.smg mg2
     refine wpS_bind (aG hvb (wpS_bind (ji O hO ss2.kind (Sb _ (bH hvb)) Sa (sxa ja2) (by omega) (by omega) fun k hk1 hk2 hk3=>?_)))
     have hkl:k<xa.size-ja2:=by
      by_cases q:k<xa.size-ja2
      ·exact q
      ·have:=hk2 (xa.size-ja2-1) (by omega) vl (by rw[show ja2+(xa.size-ja2-1)=xa.size-1 by omega];exact hvl)
       unfold leB at this
       rw[hbl]at this;cases this
     dsimp only
     by_cases kp:k > 0
     ·rw[if_pos kp]
      have M3:=m.eA O sa sb (k:=k) (by omega) hvb hk2
      by_cases e0:ja2+k+1=xa.size
      ·rw[if_pos (by simpa using e0)]
       exact wpS_pure (.inl ⟨_,_,_,_,_,_,_,rfl,mlast _ _ _ _ M3 e0 ss2⟩)
      rw[if_neg (by simpa using e0),if_neg (by simp;omega)]
      obtain⟨va,hva⟩:=at1 (x:=xa) (j:=ja2+k) (by omega)
      have hw:=hk3 k (Nat.le_refl _) hkl va hva
      refine wpS_bind (aG hvb ?_)
      have m4:=M3.pB O sa sb hvb hva (O.asym hw)
      by_cases e1:jb2+1=xb.size
      ·rw[if_pos (by simpa using e1)]
       exact wpS_pure (.inl ⟨_,_,_,_,_,_,_,rfl,mdone _ _ _ _ m4 e1 ss2⟩)
      rw[if_neg (by simpa using e1)]
      refine wpS_bind (aG hva (wpS_bind (dY O hO ss2.kind (Sa _ (bH hva)) Sb (sxb (jb2+1)) (by omega) (by omega) fun k2 g1 g2 g3=>?_)))
      dsimp only
      by_cases k2p:k2 > 0
      ·rw[if_pos k2p]
       have m5:=m4.eB O sa sb (k:=k2) (by omega) hva (fun i hi u hu=>O.asym (g2 i hi u hu))
       by_cases e2:jb2+1+k2=xb.size
       ·rw[if_pos (by simpa using e2)]
        exact wpS_pure (.inl ⟨_,_,_,_,_,_,_,rfl,mdone _ _ _ _ m5 e2 ss2⟩)
       rw[if_neg (by simpa using e2)]
       obtain⟨vb2,hvb2⟩:=at1 (x:=xb) (j:=jb2+1+k2) (by omega)
       have m6:=m5.pA O sa sb hvb2 hva (g3 k2 (Nat.le_refl _) (by omega) vb2 hvb2)
       refine wpS_bind (aG hva ?_)
       by_cases e3:ja2+k+1+1=xa.size
       ·rw[if_pos (by simpa using e3)]
        exact wpS_pure (.inl ⟨_,_,_,_,_,_,_,rfl,mlast _ _ _ _ m6 e3 ss2⟩)
       rw[if_neg (by simpa using e3)]
       split
       ·exact wpS_pure (.inr ⟨ss2,_,_,_,_,_,_,rfl,m6,by omega,by omega,by omega⟩)
       ·exact wpS_pure ⟨ss2,_,_,_,_,_,_,rfl,m6,by omega,by omega,by omega⟩
      ·rw[if_neg k2p]
       obtain⟨vb2,hvb2⟩:=at1 (x:=xb) (j:=jb2+1) (by omega)
       have m6:=m4.pA O sa sb hvb2 hva (g3 0 (by omega) (by omega) vb2 hvb2)
       refine wpS_bind (aG hva ?_)
       by_cases e3:ja2+k+1+1=xa.size
       ·rw[if_pos (by simpa using e3)]
        exact wpS_pure (.inl ⟨_,_,_,_,_,_,_,rfl,mlast _ _ _ _ m6 e3 ss2⟩)
       rw[if_neg (by simpa using e3)]
       split
       ·exact wpS_pure (.inr ⟨ss2,_,_,_,_,_,_,rfl,m6,by omega,by omega,by omega⟩)
       ·exact wpS_pure ⟨ss2,_,_,_,_,_,_,rfl,m6,by omega,by omega,by omega⟩
     ·rw[if_neg kp]
      have M3:=m
      obtain⟨va,hva⟩:=at1 (x:=xa) (j:=ja2) (by omega)
      have hw:=hk3 0 (by omega) (by omega) va hva
      refine wpS_bind (aG hvb ?_)
      have m4:=M3.pB O sa sb hvb hva (O.asym hw)
      by_cases e1:jb2+1=xb.size
      ·rw[if_pos (by simpa using e1)]
       exact wpS_pure (.inl ⟨_,_,_,_,_,_,_,rfl,mdone _ _ _ _ m4 e1 ss2⟩)
      rw[if_neg (by simpa using e1)]
      refine wpS_bind (aG hva (wpS_bind (dY O hO ss2.kind (Sa _ (bH hva)) Sb (sxb (jb2+1)) (by omega) (by omega) fun k2 g1 g2 g3=>?_)))
      dsimp only
      by_cases k2p:k2 > 0
      ·rw[if_pos k2p]
       have m5:=m4.eB O sa sb (k:=k2) (by omega) hva (fun i hi u hu=>O.asym (g2 i hi u hu))
       by_cases e2:jb2+1+k2=xb.size
       ·rw[if_pos (by simpa using e2)]
        exact wpS_pure (.inl ⟨_,_,_,_,_,_,_,rfl,mdone _ _ _ _ m5 e2 ss2⟩)
       rw[if_neg (by simpa using e2)]
       obtain⟨vb2,hvb2⟩:=at1 (x:=xb) (j:=jb2+1+k2) (by omega)
       have m6:=m5.pA O sa sb hvb2 hva (g3 k2 (Nat.le_refl _) (by omega) vb2 hvb2)
       refine wpS_bind (aG hva ?_)
       by_cases e3:ja2+1+1=xa.size
       ·rw[if_pos (by simpa using e3)]
        exact wpS_pure (.inl ⟨_,_,_,_,_,_,_,rfl,mlast _ _ _ _ m6 e3 ss2⟩)
       rw[if_neg (by simpa using e3)]
       split
       ·exact wpS_pure (.inr ⟨ss2,_,_,_,_,_,_,rfl,m6,by omega,by omega,by omega⟩)
       ·exact wpS_pure ⟨ss2,_,_,_,_,_,_,rfl,m6,by omega,by omega,by omega⟩
      ·rw[if_neg k2p]
       obtain⟨vb2,hvb2⟩:=at1 (x:=xb) (j:=jb2+1) (by omega)
       have m6:=m4.pA O sa sb hvb2 hva (g3 0 (by omega) (by omega) vb2 hvb2)
       refine wpS_bind (aG hva ?_)
       by_cases e3:ja2+1+1=xa.size
       ·rw[if_pos (by simpa using e3)]
        exact wpS_pure (.inl ⟨_,_,_,_,_,_,_,rfl,mlast _ _ _ _ m6 e3 ss2⟩)
       rw[if_neg (by simpa using e3)]
       split
       ·exact wpS_pure (.inr ⟨ss2,_,_,_,_,_,_,rfl,m6,by omega,by omega,by omega⟩)
       ·exact wpS_pure ⟨ss2,_,_,_,_,_,_,rfl,m6,by omega,by omega,by omega⟩
end
def Mj:Array Keyed->Array Keyed->StateT SortSt Sem (Array Keyed):=sortPriv% PySem.Builtin.mergeHi
def CD (xa xb ou:Array Keyed) (na nb:Nat):Array Keyed:=xa.extract 0 na++xb.extract 0 nb++ou.reverse
def JR (xa xb ou:Array Keyed) (na nb:Nat):Array Keyed:=xb.extract 0 nb++xa.extract 0 na++ou.reverse
theorem JH (xa xb:Array Keyed):Mj xa xb =(do
 rule "list.sort.merge-hi"
 let mut qa:=xa.size-1
 let mut qb:=xb.size
 let mut ou:Array Keyed:=#[<- elem' xa qa]
 if qa == 0 then return CD xa xb ou qa qb
 if qb == 1 then return JR xa xb ou qa qb
 let mut mg:=gallopOf (<- get)
 for _ in [0:xa.size+xb.size] do
  let mut ca:=0
  let mut cb:=0
  for _ in [0:xa.size+xb.size] do
   let some aw <- lt' (<- elem' xb (qb-1)) (<- elem' xa (qa-1))|return CD xa xb ou qa qb
   if aw then
    qa:=qa-1;ou:=ou.push (<- elem' xa qa);ca:=ca+1;cb:=0
    if qa == 0 then return CD xa xb ou qa qb
    if ca ≥ mg then break
   else
    qb:=qb-1;ou:=ou.push (<- elem' xb qb);cb:=cb+1;ca:=0
    if qb == 1 then return JR xa xb ou qa qb
    if cb ≥ mg then break
  rule "list.sort.gallop"
  mg:=mg+1
  for _ in [0:xa.size+xb.size] do
   if mg > 1 then mg:=mg-1
   IP mg
   let some tt <- sL false (<- elem' xb (qb-1)) xa 0 qa (qa-1)|return CD xa xb ou qa qb
   let kk:=qa-tt
   ca:=kk
   if kk > 0 then
    ou:=ou++(xa.extract tt qa).reverse;qa:=tt
    if qa == 0 then return CD xa xb ou qa qb
   qb:=qb-1;ou:=ou.push (<- elem' xb qb)
   if qb == 1 then return JR xa xb ou qa qb
   let some tt <- sL true (<- elem' xa (qa-1)) xb 0 qb (qb-1)|return CD xa xb ou qa qb
   let kk:=qb-tt
   cb:=kk
   if kk > 0 then
    ou:=ou++(xb.extract tt qb).reverse;qb:=tt
    if qb == 1 then return JR xa xb ou qa qb
    if qb == 0 then return CD xa xb ou qa qb
   qa:=qa-1;ou:=ou.push (<- elem' xa qa)
   if qa == 0 then return CD xa xb ou qa qb
   if ca<7 && cb<7 then break
  mg:=mg+1
  IP mg
 unsupported "internal:list.sort.merge-bound"):=rfl
def AX (ltb:Keyed->Keyed->Bool):Keyed->Keyed->Bool:=fun x y=>ltb y x
theorem eY.flip {ltb:Keyed->Keyed->Bool}(O:eY ltb):eY (AX ltb):=⟨fun h=>O.asym h,fun h1 h2=>O.tr h2 h1⟩
section
variable {ltb:Keyed->Keyed->Bool}{xa xb ou:Array Keyed}{na nb k:Nat}
theorem eZ {l:List Keyed}(h:l.Pairwise (leB ltb)):l.reverse.Pairwise (leB (AX ltb)):=by
 rw[List.pairwise_reverse]
 exact h
theorem wG {l:List Keyed}(h:l.Pairwise (leB (AX ltb))):l.reverse.Pairwise (leB ltb):=by
 rw[List.pairwise_reverse]
 exact h
def HI (ltb:Keyed->Keyed->Bool) (xa xb ou:Array Keyed) (na nb:Nat):Prop:=MI (AX ltb) xb.toList.reverse xa.toList.reverse ou.toList (xb.size-nb) (xa.size-na)
theorem ie (x:Array Keyed) {n:Nat}(h:n<=x.size):x.toList.reverse.drop (x.size-n) =(x.toList.take n).reverse:=by
 rw[List.drop_reverse,Array.length_toList,show x.size-(x.size-n)=n by omega]
theorem mX (x:Array Keyed) {n t:Nat}(h:n<=x.size) (ht:t<=n):(x.toList.reverse.drop (x.size-n)).take (n-t) =((x.toList.take n).drop t).reverse:=by
 rw[ie x h,List.take_reverse,List.length_take,Array.length_toList,show min n x.size-(n-t)=t by omega]
theorem u_ (x:Array Keyed) {n:Nat}(h1:1<=n) (h:n<=x.size):x.toList.reverse[x.size-n]? = x[n-1]?:=by
 rw[List.getElem?_reverse (by rw[Array.length_toList];omega),Array.length_toList]
 rw[show x.size-1-(x.size-n)=n-1 by omega]
 simp
theorem HI.chA (O:eY ltb) (sa:xa.toList.Pairwise (leB ltb)) (sb:xb.toList.Pairwise (leB ltb)) (m:HI ltb xa xb ou na nb) {t:Nat}(ha:na<=xa.size) (ht:t<=na) (hb1:1<=nb) (hb:nb<=xb.size) {b:Keyed}(hvb:xb[nb-1]? = some b)
  (c:∀i,t<=i->i<na->∀x,xa[i]? = some x->leB ltb b x) {ou2:Array Keyed}(eo:ou2.toList=ou.toList++((xa.toList.take na).drop t).reverse):HI ltb xa xb ou2 t nb:=by
 have q:=MI.stepB O.flip (eZ sb) (eZ sa) m (k:=na-t) (by rw[List.length_reverse,Array.length_toList];omega) (z:=b) (by rw[u_ xb hb1 hb];exact hvb) (fun y hy=>by
  rw[mX xa ha ht,List.mem_reverse]at hy
  obtain⟨i,hi,e⟩:=List.getElem_of_mem hy
  rw[List.length_drop,List.length_take,Array.length_toList]at hi
  rw[List.getElem_drop,List.getElem_take]at e
  exact c (t+i) (by omega) (by omega) y (by rw[Array.getElem?_eq_getElem (by omega)];simpa using e))
 rw[mX xa ha ht,<- eo]at q
 unfold HI
 rw[show xa.size-t=xa.size-na+(na-t) by omega]
 exact q
theorem HI.chB (O:eY ltb) (sa:xa.toList.Pairwise (leB ltb)) (sb:xb.toList.Pairwise (leB ltb)) (m:HI ltb xa xb ou na nb) {t:Nat}(hb:nb<=xb.size) (ht:t<=nb) (ha1:1<=na) (ha:na<=xa.size) {a:Keyed}(hva:xa[na-1]? = some a)
  (c:∀i,t<=i->i<nb->∀x,xb[i]? = some x->leB ltb a x) {ou2:Array Keyed}(eo:ou2.toList=ou.toList++((xb.toList.take nb).drop t).reverse):HI ltb xa xb ou2 na t:=by
 have q:=MI.stepA O.flip (eZ sb) (eZ sa) m (k:=nb-t) (by rw[List.length_reverse,Array.length_toList];omega) (z:=a) (by rw[u_ xa ha1 ha];exact hva) (fun y hy=>by
  rw[mX xb hb ht,List.mem_reverse]at hy
  obtain⟨i,hi,e⟩:=List.getElem_of_mem hy
  rw[List.length_drop,List.length_take,Array.length_toList]at hi
  rw[List.getElem_drop,List.getElem_take]at e
  exact c (t+i) (by omega) (by omega) y (by rw[Array.getElem?_eq_getElem (by omega)];simpa using e))
 rw[mX xb hb ht,<- eo]at q
 unfold HI
 rw[show xb.size-t=xb.size-nb+(nb-t) by omega]
 exact q
theorem Js {x:Array Keyed}{n:Nat}(h1:1<=n) (h:n<=x.size) {v:Keyed}(hv:x[n-1]? = some v):((x.toList.take n).drop (n-1)).reverse=[v]:=by
 have e:=(Array.getElem?_eq_some_iff.mp hv).2
 rw[List.drop_eq_getElem_cons (by rw[List.length_take,Array.length_toList];omega)]
 rw[List.drop_eq_nil_of_le (by rw[List.length_take,Array.length_toList];omega)]
 rw[List.getElem_take]
 simp[e]
theorem HI.done (sb:xb.toList.Pairwise (leB ltb)) (m:HI ltb xa xb ou 0 nb) (hb:nb<=xb.size):(CD xa xb ou 0 nb).toList.Pairwise (leB ltb)/\(CD xa xb ou 0 nb).toList.Perm (xa.toList++xb.toList):=by
 obtain⟨p1,p2⟩:=MI.done (eZ sb) m (by rw[List.length_reverse,Array.length_toList];omega)
 have el:(CD xa xb ou 0 nb).toList =(ou.toList++xb.toList.reverse.drop (xb.size-nb)++xa.toList.reverse.drop (xa.size-0)).reverse:=by
  unfold CD
  rw[ie xb hb,ie xa (Nat.zero_le _)]
  simp
 rw[el]
 refine⟨wG p1,((List.reverse_perm _).trans p2).trans ?_⟩
 refine List.perm_append_comm.trans ?_
 exact List.Perm.append (List.reverse_perm _) (List.reverse_perm _)
theorem HI.first (sa:xa.toList.Pairwise (leB ltb)) (sb:xb.toList.Pairwise (leB ltb)) (m:HI ltb xa xb ou na nb) (ha:na<=xa.size) (hb:nb<=xb.size) (h:∀x∈xa.toList,∀y∈xb.toList.take nb,leB ltb y x) :
  (JR xa xb ou na nb).toList.Pairwise (leB ltb)/\(JR xa xb ou na nb).toList.Perm (xa.toList++xb.toList):=by
 obtain⟨p1,p2⟩:=MI.last (eZ sb) (eZ sa) m (fun x hx y hy=>by
  rw[ie xb hb,List.mem_reverse]at hy
  exact h x (List.mem_reverse.mp hx) y hy)
 have el:(JR xa xb ou na nb).toList =(ou.toList++xa.toList.reverse.drop (xa.size-na)++xb.toList.reverse.drop (xb.size-nb)).reverse:=by
  unfold JR
  rw[ie xb hb,ie xa ha]
  simp
 rw[el]
 refine⟨wG p1,((List.reverse_perm _).trans p2).trans ?_⟩
 refine List.perm_append_comm.trans ?_
 exact List.Perm.append (List.reverse_perm _) (List.reverse_perm _)
end
section
variable {prog:Program}{w:World}{A:Around}{E:Value->Shared->Prop}{s:Shared}{ltb:Keyed->Keyed->Bool}{S:Keyed->Prop}{κ:SortKind}
local macro_rules | `(tactic| omega)=>`(tactic| omega (config:={}))
theorem JM (O:eY ltb) (hO:lJ prog w A E s ltb S κ) {xa xb:Array Keyed}{st:SortSt}{Q:Array Keyed->SortSt->Prop}(Sa:∀x∈xa.toList,S x) (Sb:∀x∈xb.toList,S x) (sa:xa.toList.Pairwise (leB ltb)) (sb:xb.toList.Pairwise (leB ltb))
  {z zl:Keyed}(hz:xb[0]? = some z) (hfst:∀y∈xa.toList,ltb z y=true) (hzl:xa[xa.size-1]? = some zl) (hlst:∀x∈xb.toList,ltb x zl=true) (hS:SS κ st st)
  (h:∀r st',r.toList.Pairwise (leB ltb)->r.toList.Perm (xa.toList++xb.toList)->SS κ st st'->Q r st'):wpS (model prog w) A E s (Mj xa xb) Q st:=by
 have hb0:0<xb.size:=(Array.getElem?_eq_some_iff.mp hz).1
 have ha0:0<xa.size:=by have:=(Array.getElem?_eq_some_iff.mp hzl).1;omega
 have mdone:∀(ou:Array Keyed) (na nb:Nat) (st':SortSt),HI ltb xa xb ou na nb->na=0->nb<=xb.size->SS κ st st'->Q (CD xa xb ou na nb) st':=fun ou na nb st' m e hb ss=>by
  subst e
  obtain⟨p1,p2⟩:=m.done sb hb
  exact h _ _ p1 p2 ss
 have mfirst:∀(ou:Array Keyed) (na nb:Nat) (st':SortSt),HI ltb xa xb ou na nb->nb=1->na<=xa.size->SS κ st st'->Q (JR xa xb ou na nb) st':=fun ou na nb st' m e ha ss=>by
  subst e
  obtain⟨p1,p2⟩:=m.first sa sb ha (by omega) (fun x hx y hy=>by
   have e1:xb.toList.take 1=[z]:=by have:=qh hz;simpa using this
   rw[e1]at hy
   simp at hy
   rw[hy]
   exact O.asym (hfst x hx))
  exact h _ _ p1 p2 ss
 have mi0:HI ltb xa xb #[zl] (xa.size-1) xb.size:=by
  unfold HI
  rw[Nat.sub_self,show xa.size-(xa.size-1)=1 by omega]
  refine MI.start (y0:=zl) (eZ sa) ?_ (fun y hy=>O.asym (hlst y (List.mem_reverse.mp hy)))
  have:=u_ xa (n:=xa.size) (by omega) (Nat.le_refl _)
  rw[Nat.sub_self]at this
  rw[this];exact hzl
 have at1:∀{x:Array Keyed}{j:Nat},j<x.size->∃u,x[j]? = some u:=fun {x j} hj=>⟨_,Array.getElem?_eq_getElem hj⟩
 have push1:∀(ou:Array Keyed) {x:Array Keyed}{n:Nat}{v:Keyed},1<=n->n<=x.size->x[n-1]? = some v->(ou.push v).toList=ou.toList++((x.toList.take n).drop (n-1)).reverse:=fun ou x n v h1 h2 h3=>by
  rw[Js h1 h2 h3];simp
 have ext1:∀(ou x:Array Keyed) (t n:Nat),(ou++(x.extract t n).reverse).toList=ou.toList++((x.toList.take n).drop t).reverse:=fun ou x t n=>by
  rw[Array.toList_append,Array.toList_reverse,Array.toList_extract]
  show ou.toList++(List.take (n-t) (List.drop t x.toList)).reverse=_
  rw[List.drop_take]
 rw[JH]
 refine wpS_bind (wpS_lift (wpAny_rule ⟨rfl,?_⟩))
 refine wpS_bind (aG hzl ?_)
 by_cases c1:xa.size-1=0
 ·rw[if_pos (by simpa using c1)]
  exact wpS_pure (mdone #[zl] _ _ st mi0 c1 (Nat.le_refl _) hS)
 rw[if_neg (by simpa using c1)]
 by_cases c2:xb.size=1
 ·rw[if_pos (by simpa using c2)]
  exact wpS_pure (mfirst #[zl] _ _ st mi0 c2 (by omega) hS)
 rw[if_neg (by simpa using c2)]
 refine wpS_bind (wpS_get ?_)
 refine wpS_bind (wpS_mono (wpS_forRange
  (I:=fun x c st'=>SS κ st st'/\∃qa qb ou mg,c =(none,qa,qb,ou,mg)/\HI ltb xa xb ou qa qb/\1<=qa/\qa<=xa.size/\2<=qb/\qb<=xb.size/\x+1+qa+qb<=xa.size+xb.size)
  (Q:=fun c st'=>∃r qa qb ou mg,c =(some r,qa,qb,ou,mg)/\Q r st') ?stp ?fin ⟨hS,_,_,#[zl],_,rfl,mi0,by omega,by omega,by omega,by omega,by omega⟩) ?post)
 case fin =>
  rintro c st' ⟨ss,qa,qb,ou,mg,rfl,m,b1,b2,b3,b4,b5⟩
  omega
 case post =>
  rintro c st' ⟨r,qa,qb,ou,mg,rfl,hq⟩
  exact wpS_pure hq
 case stp =>
  rintro x c st1 _ hx ⟨ss,qa0,qb0,ou,mg,rfl,m,b1,b2,b3,b4,b5⟩
  dsimp only
  refine wpS_bind (wpS_mono (wpS_forRange
   (I:=fun y c st'=>SS κ st st'/\∃qa qb ou ca cb,c =(none,qa,qb,ou,ca,cb)/\HI ltb xa xb ou qa qb/\1<=qa/\qa<=xa.size/\2<=qb/\qb<=xb.size/\y+qa+qb<=qa0+qb0)
   (Q:=fun c st'=>(∃r qa qb ou ca cb,c =(some r,qa,qb,ou,ca,cb)/\Q r st') \/(SS κ st st'/\∃qa qb ou ca cb,c =(none,qa,qb,ou,ca,cb)/\HI ltb xa xb ou qa qb/\1<=qa/\qa<=xa.size/\2<=qb/\qb<=xb.size/\1+qa+qb<=qa0+qb0)) ?stp1 ?fin1 ⟨ss,_,_,ou,0,0,rfl,m,b1,b2,b3,b4,by omega⟩) ?post1)
  case fin1 =>
   rintro c st' ⟨ss,qa,qb,ou,ca,cb,rfl,m,d1,d2,d3,d4,d5⟩
   exact .inr ⟨ss,_,_,_,_,_,rfl,m,d1,d2,d3,d4,by omega⟩
  case stp1 =>
   rintro y c st2 _ hy ⟨ss,qa,qb,ou,ca,cb,rfl,m,d1,d2,d3,d4,d5⟩
   dsimp only
   obtain⟨vb,hvb⟩:=at1 (x:=xb) (j:=qb-1) (by omega)
   obtain⟨va,hva⟩:=at1 (x:=xa) (j:=qa-1) (by omega)
   refine wpS_bind (aG hvb (wpS_bind (aG hva (wpS_bind (hO vb va _ _ (Sb _ (bH hvb)) (Sa _ (bH hva)) ss.kind ?_)))))
   dsimp only
   cases hw:ltb vb va with
   | true =>
    simp only[if_true]
    have m2:HI ltb xa xb (ou.push va) (qa-1) qb:=m.chA O sa sb d2 (by omega) (by omega) d4 hvb (fun i h1 h2 u hu=>by
     obtain rfl:i=qa-1:=by omega
     rw[hva]at hu;cases hu;exact O.asym hw) (push1 ou d1 d2 hva)
    refine wpS_bind (aG hva ?_)
    by_cases e1:qa-1=0
    ·rw[if_pos (by simpa using e1)]
     exact wpS_pure (.inl ⟨_,_,_,_,_,_,rfl,mdone _ _ _ _ m2 e1 d4 ss⟩)
    ·rw[if_neg (by simpa using e1)]
     split
     ·exact wpS_pure (.inr ⟨ss,_,_,_,_,_,rfl,m2,by omega,by omega,d3,d4,by omega⟩)
     ·exact wpS_pure ⟨ss,_,_,_,_,_,rfl,m2,by omega,by omega,d3,d4,by omega⟩
   | false =>
    simp only[Bool.false_eq_true,if_false]
    have m2:HI ltb xa xb (ou.push vb) qa (qb-1):=m.chB O sa sb d4 (by omega) d1 d2 hva (fun i h1 h2 u hu=>by
     obtain rfl:i=qb-1:=by omega
     rw[hvb]at hu;cases hu;exact hw) (push1 ou (by omega) d4 hvb)
    refine wpS_bind (aG hvb ?_)
    by_cases e1:qb-1=1
    ·rw[if_pos (by simpa using e1)]
     exact wpS_pure (.inl ⟨_,_,_,_,_,_,rfl,mfirst _ _ _ _ m2 e1 d2 ss⟩)
    ·rw[if_neg (by simpa using e1)]
     split
     ·exact wpS_pure (.inr ⟨ss,_,_,_,_,_,rfl,m2,d1,d2,by omega,by omega,by omega⟩)
     ·exact wpS_pure ⟨ss,_,_,_,_,_,rfl,m2,d1,d2,by omega,by omega,by omega⟩
  case post1 =>
   rintro c st2 (⟨r,qa,qb,ou,ca,cb,rfl,hq⟩|⟨ss,qa1,qb1,ou,ca,cb,rfl,m,d1,d2,d3,d4,d5⟩)
   ·exact wpS_pure ⟨r,_,_,_,_,rfl,hq⟩
   dsimp only
   refine wpS_bind (wpS_lift (wpAny_rule ⟨rfl,?_⟩))
   refine wpS_bind (wpS_mono (wpS_forRange
    (I:=fun y c st'=>SS κ st st'/\∃qa qb ou mg ca cb,c =(none,qa,qb,ou,mg,ca,cb)/\HI ltb xa xb ou qa qb/\1<=qa/\qa<=xa.size/\2<=qb/\qb<=xb.size/\1+qa+qb<=qa0+qb0)
    (Q:=fun c st'=>(∃r qa qb ou mg ca cb,c =(some r,qa,qb,ou,mg,ca,cb)/\Q r st') \/(SS κ st st'/\∃qa qb ou mg ca cb,c =(none,qa,qb,ou,mg,ca,cb)/\HI ltb xa xb ou qa qb/\1<=qa/\qa<=xa.size/\2<=qb/\qb<=xb.size/\1+qa+qb<=qa0+qb0)) ?stp2 ?fin2 ⟨ss,_,_,_,_,ca,cb,rfl,m,d1,d2,d3,d4,d5⟩) ?post2)
   case fin2 =>
    rintro c st' hh
    exact .inr hh
   case post2 =>
    rintro c st3 (⟨r,qa,qb,ou2,mg2,ca2,cb2,rfl,hq⟩|⟨ss,qa,qb,ou2,mg2,ca2,cb2,rfl,m,f1,f2,f3,f4,f5⟩)
    ·exact wpS_pure ⟨r,_,_,_,_,rfl,hq⟩
    ·dsimp only
     refine wpS_bind (wpS_modify ?_)
     exact wpS_pure ⟨ss.smg _,_,_,_,_,rfl,m,f1,f2,f3,f4,by omega⟩
   case stp2 =>
    rintro y c st3 _ hy ⟨ss,qa,qb,ou2,mg2,ca2,cb2,rfl,m,f1,f2,f3,f4,f5⟩
    dsimp only
    obtain⟨vb,hvb⟩:=at1 (x:=xb) (j:=qb-1) (by omega)
    have sxa:∀(q:Nat) i j u v,i<j->j<q->xa[0+i]? = some u->xa[0+j]? = some v->leB ltb u v:=fun q i j u v hij _ hu hv=>v8 sa (by omega) hu hv
    have sxb:∀(q:Nat) i j u v,i<j->j<q->xb[0+i]? = some u->xb[0+j]? = some v->leB ltb u v:=fun q i j u v hij _ hu hv=>v8 sb (by omega) hu hv
    by_cases hg:mg2 > 1
    ·rw[if_pos hg]
     refine wpS_bind (wpS_modify ?_)
     have ss2:=ss.smg (mg2-1)
     refine wpS_bind (aG hvb (wpS_bind (ji O hO ss2.kind (Sb _ (bH hvb)) Sa (sxa qa) (by omega) (by omega) fun tt hk1 hk2 hk3=>?_)))
     dsimp only
     by_cases kp:qa-tt > 0
     ·rw[if_pos kp]
      have M3:=m.chA O sa sb f2 (t:=tt) (by omega) (by omega) f4 hvb (fun i h1 h2 u hu=>O.asym (hk3 i h1 h2 u (by rw[Nat.zero_add];exact hu))) (ext1 _ xa tt qa)
      by_cases e0:tt=0
      ·rw[if_pos (by simpa using e0)]
       exact wpS_pure (.inl ⟨_,_,_,_,_,_,_,rfl,mdone _ _ _ _ M3 e0 f4 ss2⟩)
      rw[if_neg (by simpa using e0)]
      have QA1:1<=tt:=by omega
      obtain⟨va,hva⟩:=at1 (x:=xa) (j:=tt-1) (by omega)
      have hle:leB ltb va vb:=hk2 (tt-1) (by omega) va (by rw[Nat.zero_add];exact hva)
      have m4:=M3.chB O sa sb f4 (t:=qb-1) (by omega) QA1 (by omega) hva (fun i h1 h2 u hu=>by
       obtain rfl:i=qb-1:=by omega
       rw[hvb]at hu;cases hu;exact hle) (push1 _ (by omega) f4 hvb)
      refine wpS_bind (aG hvb ?_)
      by_cases e1:qb-1=1
      ·rw[if_pos (by simpa using e1)]
       exact wpS_pure (.inl ⟨_,_,_,_,_,_,_,rfl,mfirst _ _ _ _ m4 e1 (by omega) ss2⟩)
      rw[if_neg (by simpa using e1)]
      refine wpS_bind (aG hva (wpS_bind (dY O hO ss2.kind (Sa _ (bH hva)) Sb (sxb (qb-1)) (by omega) (by omega) fun t2 g1 g2 g3=>?_)))
      have ht2:0<t2:=by
       rcases Nat.eq_zero_or_pos t2 with q|q
       ·have:=g3 0 (by omega) (by omega) z (by rw[Nat.zero_add];exact hz)
        unfold leB at this
        rw[hfst va (bH hva)]at this;cases this
       ·exact q
      dsimp only
      by_cases k2p:qb-1-t2 > 0
      ·rw[if_pos k2p]
       have m5:=m4.chB O sa sb (by omega) (t:=t2) (by omega) QA1 (by omega) hva (fun i h1 h2 u hu=>g3 i h1 (by omega) u (by rw[Nat.zero_add];exact hu)) (ext1 _ xb t2 (qb-1))
       by_cases e2:t2=1
       ·rw[if_pos (by simpa using e2)]
        exact wpS_pure (.inl ⟨_,_,_,_,_,_,_,rfl,mfirst _ _ _ _ m5 e2 (by omega) ss2⟩)
       rw[if_neg (by simpa using e2),if_neg (by simp;omega)]
       obtain⟨vb2,hvb2⟩:=at1 (x:=xb) (j:=t2-1) (by omega)
       have m6:=m5.chA O sa sb (by omega) (t:=tt-1) (by omega) (by omega) (by omega) hvb2 (fun i h1 h2 u hu=>by
        obtain rfl:i=tt-1:=by omega
        rw[hva]at hu;cases hu;exact O.asym (g2 (t2-1) (by omega) vb2 (by rw[Nat.zero_add];exact hvb2))) (push1 _ QA1 (by omega) hva)
       refine wpS_bind (aG hva ?_)
       by_cases e3:tt-1=0
       ·rw[if_pos (by simpa using e3)]
        exact wpS_pure (.inl ⟨_,_,_,_,_,_,_,rfl,mdone _ _ _ _ m6 e3 (by omega) ss2⟩)
       rw[if_neg (by simpa using e3)]
       split
       ·exact wpS_pure (.inr ⟨ss2,_,_,_,_,_,_,rfl,m6,by omega,by omega,by omega,by omega,by omega⟩)
       ·exact wpS_pure ⟨ss2,_,_,_,_,_,_,rfl,m6,by omega,by omega,by omega,by omega,by omega⟩
      ·rw[if_neg k2p]
       have et:t2=qb-1:=by omega
       obtain⟨vb2,hvb2⟩:=at1 (x:=xb) (j:=qb-1-1) (by omega)
       have m6:=m4.chA O sa sb (by omega) (t:=tt-1) (by omega) (by omega) (by omega) hvb2 (fun i h1 h2 u hu=>by
        obtain rfl:i=tt-1:=by omega
        rw[hva]at hu;cases hu;exact O.asym (g2 (qb-1-1) (by omega) vb2 (by rw[Nat.zero_add];exact hvb2))) (push1 _ QA1 (by omega) hva)
       refine wpS_bind (aG hva ?_)
       by_cases e3:tt-1=0
       ·rw[if_pos (by simpa using e3)]
        exact wpS_pure (.inl ⟨_,_,_,_,_,_,_,rfl,mdone _ _ _ _ m6 e3 (by omega) ss2⟩)
       rw[if_neg (by simpa using e3)]
       split
       ·exact wpS_pure (.inr ⟨ss2,_,_,_,_,_,_,rfl,m6,by omega,by omega,by omega,by omega,by omega⟩)
       ·exact wpS_pure ⟨ss2,_,_,_,_,_,_,rfl,m6,by omega,by omega,by omega,by omega,by omega⟩
     ·rw[if_neg kp]
      have et0:tt=qa:=by omega
      have M3:=m
      have QA1:1<=qa:=f1
      obtain⟨va,hva⟩:=at1 (x:=xa) (j:=qa-1) (by omega)
      have hle:leB ltb va vb:=hk2 (qa-1) (by omega) va (by rw[Nat.zero_add];exact hva)
      have m4:=M3.chB O sa sb f4 (t:=qb-1) (by omega) QA1 (by omega) hva (fun i h1 h2 u hu=>by
       obtain rfl:i=qb-1:=by omega
       rw[hvb]at hu;cases hu;exact hle) (push1 _ (by omega) f4 hvb)
      refine wpS_bind (aG hvb ?_)
      by_cases e1:qb-1=1
      ·rw[if_pos (by simpa using e1)]
       exact wpS_pure (.inl ⟨_,_,_,_,_,_,_,rfl,mfirst _ _ _ _ m4 e1 (by omega) ss2⟩)
      rw[if_neg (by simpa using e1)]
      refine wpS_bind (aG hva (wpS_bind (dY O hO ss2.kind (Sa _ (bH hva)) Sb (sxb (qb-1)) (by omega) (by omega) fun t2 g1 g2 g3=>?_)))
      have ht2:0<t2:=by
       rcases Nat.eq_zero_or_pos t2 with q|q
       ·have:=g3 0 (by omega) (by omega) z (by rw[Nat.zero_add];exact hz)
        unfold leB at this
        rw[hfst va (bH hva)]at this;cases this
       ·exact q
      dsimp only
      by_cases k2p:qb-1-t2 > 0
      ·rw[if_pos k2p]
       have m5:=m4.chB O sa sb (by omega) (t:=t2) (by omega) QA1 (by omega) hva (fun i h1 h2 u hu=>g3 i h1 (by omega) u (by rw[Nat.zero_add];exact hu)) (ext1 _ xb t2 (qb-1))
       by_cases e2:t2=1
       ·rw[if_pos (by simpa using e2)]
        exact wpS_pure (.inl ⟨_,_,_,_,_,_,_,rfl,mfirst _ _ _ _ m5 e2 (by omega) ss2⟩)
       rw[if_neg (by simpa using e2),if_neg (by simp;omega)]
       obtain⟨vb2,hvb2⟩:=at1 (x:=xb) (j:=t2-1) (by omega)
       have m6:=m5.chA O sa sb (by omega) (t:=qa-1) (by omega) (by omega) (by omega) hvb2 (fun i h1 h2 u hu=>by
        obtain rfl:i=qa-1:=by omega
        rw[hva]at hu;cases hu;exact O.asym (g2 (t2-1) (by omega) vb2 (by rw[Nat.zero_add];exact hvb2))) (push1 _ QA1 (by omega) hva)
       refine wpS_bind (aG hva ?_)
       by_cases e3:qa-1=0
       ·rw[if_pos (by simpa using e3)]
        exact wpS_pure (.inl ⟨_,_,_,_,_,_,_,rfl,mdone _ _ _ _ m6 e3 (by omega) ss2⟩)
       rw[if_neg (by simpa using e3)]
       split
       ·exact wpS_pure (.inr ⟨ss2,_,_,_,_,_,_,rfl,m6,by omega,by omega,by omega,by omega,by omega⟩)
       ·exact wpS_pure ⟨ss2,_,_,_,_,_,_,rfl,m6,by omega,by omega,by omega,by omega,by omega⟩
      ·rw[if_neg k2p]
       have et:t2=qb-1:=by omega
       obtain⟨vb2,hvb2⟩:=at1 (x:=xb) (j:=qb-1-1) (by omega)
       have m6:=m4.chA O sa sb (by omega) (t:=qa-1) (by omega) (by omega) (by omega) hvb2 (fun i h1 h2 u hu=>by
        obtain rfl:i=qa-1:=by omega
        rw[hva]at hu;cases hu;exact O.asym (g2 (qb-1-1) (by omega) vb2 (by rw[Nat.zero_add];exact hvb2))) (push1 _ QA1 (by omega) hva)
       refine wpS_bind (aG hva ?_)
       by_cases e3:qa-1=0
       ·rw[if_pos (by simpa using e3)]
        exact wpS_pure (.inl ⟨_,_,_,_,_,_,_,rfl,mdone _ _ _ _ m6 e3 (by omega) ss2⟩)
       rw[if_neg (by simpa using e3)]
       split
       ·exact wpS_pure (.inr ⟨ss2,_,_,_,_,_,_,rfl,m6,by omega,by omega,by omega,by omega,by omega⟩)
       ·exact wpS_pure ⟨ss2,_,_,_,_,_,_,rfl,m6,by omega,by omega,by omega,by omega,by omega⟩
    ·rw[if_neg hg]
     refine wpS_bind (wpS_modify ?_)
     have ss2:=ss.smg mg2
     refine wpS_bind (aG hvb (wpS_bind (ji O hO ss2.kind (Sb _ (bH hvb)) Sa (sxa qa) (by omega) (by omega) fun tt hk1 hk2 hk3=>?_)))
     dsimp only
     by_cases kp:qa-tt > 0
     ·rw[if_pos kp]
      have M3:=m.chA O sa sb f2 (t:=tt) (by omega) (by omega) f4 hvb (fun i h1 h2 u hu=>O.asym (hk3 i h1 h2 u (by rw[Nat.zero_add];exact hu))) (ext1 _ xa tt qa)
      by_cases e0:tt=0
      ·rw[if_pos (by simpa using e0)]
       exact wpS_pure (.inl ⟨_,_,_,_,_,_,_,rfl,mdone _ _ _ _ M3 e0 f4 ss2⟩)
      rw[if_neg (by simpa using e0)]
      have QA1:1<=tt:=by omega
      obtain⟨va,hva⟩:=at1 (x:=xa) (j:=tt-1) (by omega)
      have hle:leB ltb va vb:=hk2 (tt-1) (by omega) va (by rw[Nat.zero_add];exact hva)
      have m4:=M3.chB O sa sb f4 (t:=qb-1) (by omega) QA1 (by omega) hva (fun i h1 h2 u hu=>by
       obtain rfl:i=qb-1:=by omega
       rw[hvb]at hu;cases hu;exact hle) (push1 _ (by omega) f4 hvb)
      refine wpS_bind (aG hvb ?_)
      by_cases e1:qb-1=1
      ·rw[if_pos (by simpa using e1)]
       exact wpS_pure (.inl ⟨_,_,_,_,_,_,_,rfl,mfirst _ _ _ _ m4 e1 (by omega) ss2⟩)
      rw[if_neg (by simpa using e1)]
      refine wpS_bind (aG hva (wpS_bind (dY O hO ss2.kind (Sa _ (bH hva)) Sb (sxb (qb-1)) (by omega) (by omega) fun t2 g1 g2 g3=>?_)))
      have ht2:0<t2:=by
       rcases Nat.eq_zero_or_pos t2 with q|q
       ·have:=g3 0 (by omega) (by omega) z (by rw[Nat.zero_add];exact hz)
        unfold leB at this
        rw[hfst va (bH hva)]at this;cases this
       ·exact q
      dsimp only
      by_cases k2p:qb-1-t2 > 0
      ·rw[if_pos k2p]
       have m5:=m4.chB O sa sb (by omega) (t:=t2) (by omega) QA1 (by omega) hva (fun i h1 h2 u hu=>g3 i h1 (by omega) u (by rw[Nat.zero_add];exact hu)) (ext1 _ xb t2 (qb-1))
       by_cases e2:t2=1
       ·rw[if_pos (by simpa using e2)]
        exact wpS_pure (.inl ⟨_,_,_,_,_,_,_,rfl,mfirst _ _ _ _ m5 e2 (by omega) ss2⟩)
       rw[if_neg (by simpa using e2),if_neg (by simp;omega)]
       obtain⟨vb2,hvb2⟩:=at1 (x:=xb) (j:=t2-1) (by omega)
       have m6:=m5.chA O sa sb (by omega) (t:=tt-1) (by omega) (by omega) (by omega) hvb2 (fun i h1 h2 u hu=>by
        obtain rfl:i=tt-1:=by omega
        rw[hva]at hu;cases hu;exact O.asym (g2 (t2-1) (by omega) vb2 (by rw[Nat.zero_add];exact hvb2))) (push1 _ QA1 (by omega) hva)
       refine wpS_bind (aG hva ?_)
       by_cases e3:tt-1=0
       ·rw[if_pos (by simpa using e3)]
        exact wpS_pure (.inl ⟨_,_,_,_,_,_,_,rfl,mdone _ _ _ _ m6 e3 (by omega) ss2⟩)
       rw[if_neg (by simpa using e3)]
       split
       ·exact wpS_pure (.inr ⟨ss2,_,_,_,_,_,_,rfl,m6,by omega,by omega,by omega,by omega,by omega⟩)
       ·exact wpS_pure ⟨ss2,_,_,_,_,_,_,rfl,m6,by omega,by omega,by omega,by omega,by omega⟩
      ·rw[if_neg k2p]
       have et:t2=qb-1:=by omega
       obtain⟨vb2,hvb2⟩:=at1 (x:=xb) (j:=qb-1-1) (by omega)
       have m6:=m4.chA O sa sb (by omega) (t:=tt-1) (by omega) (by omega) (by omega) hvb2 (fun i h1 h2 u hu=>by
        obtain rfl:i=tt-1:=by omega
        rw[hva]at hu;cases hu;exact O.asym (g2 (qb-1-1) (by omega) vb2 (by rw[Nat.zero_add];exact hvb2))) (push1 _ QA1 (by omega) hva)
       refine wpS_bind (aG hva ?_)
       by_cases e3:tt-1=0
       ·rw[if_pos (by simpa using e3)]
        exact wpS_pure (.inl ⟨_,_,_,_,_,_,_,rfl,mdone _ _ _ _ m6 e3 (by omega) ss2⟩)
       rw[if_neg (by simpa using e3)]
       split
       ·exact wpS_pure (.inr ⟨ss2,_,_,_,_,_,_,rfl,m6,by omega,by omega,by omega,by omega,by omega⟩)
       ·exact wpS_pure ⟨ss2,_,_,_,_,_,_,rfl,m6,by omega,by omega,by omega,by omega,by omega⟩
     ·rw[if_neg kp]
      have et0:tt=qa:=by omega
      have M3:=m
      have QA1:1<=qa:=f1
      obtain⟨va,hva⟩:=at1 (x:=xa) (j:=qa-1) (by omega)
      have hle:leB ltb va vb:=hk2 (qa-1) (by omega) va (by rw[Nat.zero_add];exact hva)
      have m4:=M3.chB O sa sb f4 (t:=qb-1) (by omega) QA1 (by omega) hva (fun i h1 h2 u hu=>by
       obtain rfl:i=qb-1:=by omega
       rw[hvb]at hu;cases hu;exact hle) (push1 _ (by omega) f4 hvb)
      refine wpS_bind (aG hvb ?_)
      by_cases e1:qb-1=1
      ·rw[if_pos (by simpa using e1)]
       exact wpS_pure (.inl ⟨_,_,_,_,_,_,_,rfl,mfirst _ _ _ _ m4 e1 (by omega) ss2⟩)
      rw[if_neg (by simpa using e1)]
      refine wpS_bind (aG hva (wpS_bind (dY O hO ss2.kind (Sa _ (bH hva)) Sb (sxb (qb-1)) (by omega) (by omega) fun t2 g1 g2 g3=>?_)))
      have ht2:0<t2:=by
       rcases Nat.eq_zero_or_pos t2 with q|q
       ·have:=g3 0 (by omega) (by omega) z (by rw[Nat.zero_add];exact hz)
        unfold leB at this
        rw[hfst va (bH hva)]at this;cases this
       ·exact q
      dsimp only
      by_cases k2p:qb-1-t2 > 0
      ·rw[if_pos k2p]
       have m5:=m4.chB O sa sb (by omega) (t:=t2) (by omega) QA1 (by omega) hva (fun i h1 h2 u hu=>g3 i h1 (by omega) u (by rw[Nat.zero_add];exact hu)) (ext1 _ xb t2 (qb-1))
       by_cases e2:t2=1
       ·rw[if_pos (by simpa using e2)]
        exact wpS_pure (.inl ⟨_,_,_,_,_,_,_,rfl,mfirst _ _ _ _ m5 e2 (by omega) ss2⟩)
       rw[if_neg (by simpa using e2),if_neg (by simp;omega)]
       obtain⟨vb2,hvb2⟩:=at1 (x:=xb) (j:=t2-1) (by omega)
       have m6:=m5.chA O sa sb (by omega) (t:=qa-1) (by omega) (by omega) (by omega) hvb2 (fun i h1 h2 u hu=>by
        obtain rfl:i=qa-1:=by omega
        rw[hva]at hu;cases hu;exact O.asym (g2 (t2-1) (by omega) vb2 (by rw[Nat.zero_add];exact hvb2))) (push1 _ QA1 (by omega) hva)
       refine wpS_bind (aG hva ?_)
       by_cases e3:qa-1=0
       ·rw[if_pos (by simpa using e3)]
        exact wpS_pure (.inl ⟨_,_,_,_,_,_,_,rfl,mdone _ _ _ _ m6 e3 (by omega) ss2⟩)
       rw[if_neg (by simpa using e3)]
       split
       ·exact wpS_pure (.inr ⟨ss2,_,_,_,_,_,_,rfl,m6,by omega,by omega,by omega,by omega,by omega⟩)
       ·exact wpS_pure ⟨ss2,_,_,_,_,_,_,rfl,m6,by omega,by omega,by omega,by omega,by omega⟩
      ·rw[if_neg k2p]
       have et:t2=qb-1:=by omega
       obtain⟨vb2,hvb2⟩:=at1 (x:=xb) (j:=qb-1-1) (by omega)
       have m6:=m4.chA O sa sb (by omega) (t:=qa-1) (by omega) (by omega) (by omega) hvb2 (fun i h1 h2 u hu=>by
        obtain rfl:i=qa-1:=by omega
        rw[hva]at hu;cases hu;exact O.asym (g2 (qb-1-1) (by omega) vb2 (by rw[Nat.zero_add];exact hvb2))) (push1 _ QA1 (by omega) hva)
       refine wpS_bind (aG hva ?_)
       by_cases e3:qa-1=0
       ·rw[if_pos (by simpa using e3)]
        exact wpS_pure (.inl ⟨_,_,_,_,_,_,_,rfl,mdone _ _ _ _ m6 e3 (by omega) ss2⟩)
       rw[if_neg (by simpa using e3)]
       split
       ·exact wpS_pure (.inr ⟨ss2,_,_,_,_,_,_,rfl,m6,by omega,by omega,by omega,by omega,by omega⟩)
       ·exact wpS_pure ⟨ss2,_,_,_,_,_,_,rfl,m6,by omega,by omega,by omega,by omega,by omega⟩
end
def zH (M:Array Keyed) (o:Nat) (ar:Array Keyed):Array Keyed:=M.toList.zipIdx.foldl (fun z q=>z.setIfInBounds (o+q.2) q.1) ar
theorem wY:∀(M:List Keyed) (n o:Nat) (ar:Array Keyed),o+n+M.length<=ar.size->((M.zipIdx n).foldl (fun z q=>z.setIfInBounds (o+q.2) q.1) ar).toList=ar.toList.take (o+n)++M++ar.toList.drop (o+n+M.length)
 | [],n,o,ar,h=>by simp
 | p::M,n,o,ar,h=>by
  rw[List.length_cons]at h
  have hs:(ar.setIfInBounds (o+n) p).size=ar.size:=by simp
  have ih:=wY M (n+1) o (ar.setIfInBounds (o+n) p) (by rw[hs];omega)
  rw[List.zipIdx_cons,List.foldl_cons,ih,Array.toList_setIfInBounds]
  have hl:o+n<ar.toList.length:=by rw[Array.length_toList];omega
  rw[show o+(n+1)=o+n+1 by omega,List.take_succ_eq_append_getElem (by rw[List.length_set];exact hl),List.getElem_set_self,List.take_set_of_le (by omega),List.drop_set_of_lt (by omega),List.length_cons]
  rw[show o+n+1+M.length=o+n+(M.length+1) by omega]
  simp
theorem Oh (M ar:Array Keyed) (o:Nat) (h:o+M.size<=ar.size):(zH M o ar).toList=ar.toList.take o++M.toList++ar.toList.drop (o+M.size):=by
 have:=wY M.toList 0 o ar (by rw[Array.length_toList];omega)
 rw[Nat.add_zero,Array.length_toList]at this
 exact this
theorem z6 (ii:Nat):mergeAt' ii =(do
 let z <- get
 let (some (ba,ka,pw),some (bb,kb,_)):=((pendingOf z)[ii]?,(pendingOf z)[ii+1]?)|unsupported "internal:list.sort.pending"
 set (setPending z (((pendingOf z).setIfInBounds ii (ba,ka+kb,pw)).eraseIdxIfInBounds (ii+1)))
 let some kk <- sL false (<- elem' (arrOf z) bb) (arrOf z) ba ka 0|return false
 let (ba,ka):=(ba+kk,ka-kk)
 if ka == 0 then return true
 let some kb <- sL true (<- elem' (arrOf z) (ba+ka-1)) (arrOf z) bb kb (kb-1)|return false
 if kb == 0 then return true
 let mm <- if ka<=kb then N9 ((arrOf z).extract ba bb) ((arrOf z).extract bb (bb+kb)) else Mj ((arrOf z).extract ba bb) ((arrOf z).extract bb (bb+kb))
 modify fun z=>setArr z (zH mm ba (arrOf z))
 return (failedOf (<- get)).isNone):=rfl
theorem RJ {α:Type}(a b c d:List α):a++(b++c)++d =(a++b)++(c++d):=by simp
section
variable {prog:Program}{w:World}{A:Around}{E:Value->Shared->Prop}{s:Shared}{ltb:Keyed->Keyed->Bool}{S:Keyed->Prop}{κ:SortKind}
theorem uM {ar:Array Keyed}{P R T:List Keyed}(h:ar.toList=P++R++T) (i:Nat) (hi:i<R.length):ar[P.length+i]? = R[i]?:=by
 have:ar.toList[P.length+i]? = R[i]?:=by
  rw[h,List.append_assoc,List.getElem?_append_right (by omega),Nat.add_sub_cancel_left,List.getElem?_append_left hi]
 simpa using this
theorem JG {α:Type}{st st2:α}{Q:PUnit->α->Prop}(q:Q ⟨⟩ st2):wpS (model prog w) A E s (set st2:StateT α Sem PUnit) Q st:=by
 unfold wpS
 show wpAny _ _ ((StateT.set st2:StateT α Sem PUnit).run st) _ _ _
 exact wpAny_pure ⟨rfl,q⟩
theorem wM (O:eY ltb) (hO:lJ prog w A E s ltb S κ) {st:SortSt}{Q:Bool->SortSt->Prop}{ii ba ka bb kb pw pv:Nat}{P R1 R2 T:List Keyed}(hk:kindOf st=κ) (hf:failedOf st=none)
  (hp1:(pendingOf st)[ii]? = some (ba,ka,pw)) (hp2:(pendingOf st)[ii+1]? = some (bb,kb,pv)) (harr:(arrOf st).toList=P++R1++R2++T) (eba:ba=P.length) (eka:ka=R1.length) (ebb:bb=P.length+R1.length) (ekb:kb=R2.length)
  (h1:R1 ≠ []) (h2:R2 ≠ []) (s1:R1.Pairwise (leB ltb)) (s2:R2.Pairwise (leB ltb)) (hSa:∀x∈(arrOf st).toList,S x)
  (h:∀(st':SortSt) (R:List Keyed),R.Pairwise (leB ltb)->R.Perm (R1++R2)->(arrOf st').toList=P++R++T->kindOf st'=κ->failedOf st'=none->pendingOf st' =((pendingOf st).setIfInBounds ii (ba,ka+kb,pw)).eraseIdxIfInBounds (ii+1)->Q true st') :
  wpS (model prog w) A E s (mergeAt' ii) Q st:=by
 have l1:0<R1.length:=List.length_pos_iff.mpr h1
 have l2:0<R2.length:=List.length_pos_iff.mpr h2
 have hA1:(arrOf st).toList=P++R1++(R2++T):=by rw[harr];simp
 have hA2:(arrOf st).toList =(P++R1)++R2++T:=by rw[harr]
 have hsz:(arrOf st).size=P.length+R1.length+R2.length+T.length:=by
  have:=congrArg List.length harr
  rw[Array.length_toList]at this
  simp at this;omega
 have g1:∀i,i<R1.length->(arrOf st)[ba+i]? = R1[i]?:=fun i hi=>by rw[eba];exact uM hA1 i hi
 have g2:∀i,i<R2.length->(arrOf st)[bb+i]? = R2[i]?:=fun i hi=>by
  have:=uM hA2 i hi
  rw[List.length_append]at this
  rw[ebb];exact this
 obtain⟨b0,hb0⟩ : ∃b,R2[0]? = some b:=⟨_,List.getElem?_eq_getElem l2⟩
 have hb0':(arrOf st)[bb]? = some b0:=by have:=g2 0 l2;rw[Nat.add_zero]at this;rw[this];exact hb0
 have b0le:∀y∈R2,leB ltb b0 y\/y=b0:=fun y hy=>by
  obtain⟨i,hi,e⟩:=List.getElem_of_mem hy
  by_cases h0:i=0
  ·subst h0;rw[List.getElem?_eq_getElem l2]at hb0;right;rw[<- e];exact Option.some.inj hb0
  ·left;exact iG s2 (i:=0) (j:=i) (by omega) hb0 (by rw[List.getElem?_eq_getElem hi,e])
 rw[z6]
 refine wpS_bind (wpS_get ?_)
 rw[hp1,hp2]
 dsimp only
 refine wpS_bind (JG ?_)
 refine wpS_bind (aG hb0' (wpS_bind (ji O hO (st:=setPending st _) hk (hSa _ (bH hb0')) hSa (fun i j u v hij hj hu hv=>?_) (by omega) (by omega) fun k k1 k2 k3=>?_)))
 ·rw[g1 i (by omega)]at hu
  rw[g1 j (by omega)]at hv
  exact iG s1 hij hu hv
 dsimp only
 have k2':∀i,i<k->∀u,R1[i]? = some u->leB ltb u b0:=fun i hi u hu=>k2 i hi u (by rw[g1 i (by omega)];exact hu)
 by_cases c1:ka-k=0
 ·rw[if_pos (by simpa using c1)]
  refine wpS_pure (h (setPending st _) (R1++R2) ?_ (List.Perm.refl _) (by show(arrOf st).toList=_;rw[harr];simp) hk hf rfl)
  rw[List.pairwise_append]
  refine⟨s1,s2,fun x hx y hy=>?_⟩
  obtain⟨i,hi,e⟩:=List.getElem_of_mem hx
  have hxb:=k2' i (by omega) x (by rw[List.getElem?_eq_getElem hi,e])
  rcases b0le y hy with q|q
  ·exact O.tr hxb q
  ·rw[q];exact hxb
 rw[if_neg (by simpa using c1)]
 have hk:kindOf st=κ:=hk
 obtain⟨al,hal⟩ : ∃a,R1[ka-1]? = some a:=⟨_,List.getElem?_eq_getElem (by omega)⟩
 have hal':(arrOf st)[ba+k+(ka-k)-1]? = some al:=by
  rw[show ba+k+(ka-k)-1=ba+(ka-1) by omega,g1 (ka-1) (by omega)];exact hal
 have alge:∀x∈R1,leB ltb x al\/x=al:=fun x hx=>by
  obtain⟨i,hi,e⟩:=List.getElem_of_mem hx
  by_cases h0:i=ka-1
  ·subst h0;rw[List.getElem?_eq_getElem hi]at hal;right;rw[<- e];exact Option.some.inj hal
  ·left;exact iG s1 (i:=i) (j:=ka-1) (by omega) (by rw[List.getElem?_eq_getElem hi,e]) hal
 refine wpS_bind (aG hal' (wpS_bind (dY O hO (st:=setPending st _) hk (hSa _ (bH hal')) hSa (fun i j u v hij hj hu hv=>?_) (by omega) (by omega) fun n n1 n2 n3=>?_)))
 ·rw[g2 i (by omega)]at hu
  rw[g2 j (by omega)]at hv
  exact iG s2 hij hu hv
 dsimp only
 have n3':∀y∈R2.drop n,leB ltb al y:=fun y hy=>by
  obtain⟨i,hi,e⟩:=List.getElem_of_mem hy
  rw[List.length_drop]at hi
  rw[List.getElem_drop]at e
  exact n3 (n+i) (by omega) (by omega) y (by rw[g2 (n+i) (by omega),List.getElem?_eq_getElem (by omega),e])
 by_cases c2:n=0
 ·rw[if_pos (by simpa using c2)]
  refine wpS_pure (h (setPending st _) (R1++R2) ?_ (List.Perm.refl _) (by show(arrOf st).toList=_;rw[harr];simp) hk hf rfl)
  rw[List.pairwise_append]
  refine⟨s1,s2,fun x hx y hy=>?_⟩
  have hy2:=n3' y (by rw[c2];exact hy)
  rcases alge x hx with q|q
  ·exact O.tr q hy2
  ·rw[q];exact hy2
 rw[if_neg (by simpa using c2)]
 have exA:((arrOf st).extract (ba+k) bb).toList=R1.drop k:=by
  rw[show bb=ba+k+(ka-k) by omega,lY,hA1]
  rw[show ba+k=P.length+k by omega,List.append_assoc,<- List.drop_drop,List.drop_left,List.drop_append_of_le_length (by omega),List.take_append_of_le_length (by rw[List.length_drop];omega),List.take_of_length_le (by rw[List.length_drop];omega)]
 have exB:((arrOf st).extract bb (bb+n)).toList=R2.take n:=by
  rw[lY,hA2,show bb =(P++R1).length by rw[List.length_append];omega,List.append_assoc,List.drop_left,List.take_append_of_le_length (by omega)]
 have szA:((arrOf st).extract (ba+k) bb).size=ka-k:=by
  have:=congrArg List.length exA
  rw[Array.length_toList,List.length_drop]at this;omega
 have szB:((arrOf st).extract bb (bb+n)).size=n:=by
  have:=congrArg List.length exB
  rw[Array.length_toList,List.length_take]at this;omega
 have hSA:∀x∈((arrOf st).extract (ba+k) bb).toList,S x:=fun x hx=>by
  rw[exA]at hx
  exact hSa x (by rw[hA1];exact List.mem_append_left _ (List.mem_append_right _ (List.mem_of_mem_drop hx)))
 have hSB:∀x∈((arrOf st).extract bb (bb+n)).toList,S x:=fun x hx=>by
  rw[exB]at hx
  exact hSa x (by rw[hA2];exact List.mem_append_left _ (List.mem_append_right _ (List.mem_of_mem_take hx)))
 have rA:((arrOf st).extract (ba+k) bb).toList.Pairwise (leB ltb):=by rw[exA];exact s1.drop
 have rB:((arrOf st).extract bb (bb+n)).toList.Pairwise (leB ltb):=by rw[exB];exact s2.take
 have zB:((arrOf st).extract bb (bb+n))[0]? = some b0:=by
  have e:((arrOf st).extract bb (bb+n)).toList[0]? = some b0:=by rw[exB,List.getElem?_take,if_pos (by omega)];exact hb0
  rw[<- Array.getElem?_toList];exact e
 have zA:((arrOf st).extract (ba+k) bb)[((arrOf st).extract (ba+k) bb).size-1]? = some al:=by
  have e:((arrOf st).extract (ba+k) bb).toList[((arrOf st).extract (ba+k) bb).size-1]? = some al:=by
   rw[exA,szA,List.getElem?_drop,show k+(ka-k-1)=ka-1 by omega];exact hal
  rw[<- Array.getElem?_toList];exact e
 have fst:∀y∈((arrOf st).extract (ba+k) bb).toList,ltb b0 y=true:=fun y hy=>by
  rw[exA]at hy
  obtain⟨i,hi,e⟩:=List.getElem_of_mem hy
  rw[List.length_drop]at hi
  rw[List.getElem_drop]at e
  exact k3 (k+i) (by omega) (by omega) y (by rw[g1 (k+i) (by omega),List.getElem?_eq_getElem (by omega),e])
 have lst:∀x∈((arrOf st).extract bb (bb+n)).toList,ltb x al=true:=fun x hx=>by
  rw[exB]at hx
  obtain⟨i,hi,e⟩:=List.getElem_of_mem hx
  rw[List.length_take]at hi
  rw[List.getElem_take]at e
  exact n2 i (by omega) x (by rw[g2 i (by omega),List.getElem?_eq_getElem (by omega),e])
 have fin:∀(r:Array Keyed) (st':SortSt),r.toList.Pairwise (leB ltb)->r.toList.Perm (((arrOf st).extract (ba+k) bb).toList++((arrOf st).extract bb (bb+n)).toList)->SS κ (setPending st (((pendingOf st).setIfInBounds ii (ba,ka+kb,pw)).eraseIdxIfInBounds (ii+1))) st' ->
   Q true (setArr st' (zH r (ba+k) (arrOf st'))):=fun r st' rs rp ss=>by
  rw[exA,exB]at rp
  have rsz:r.size=ka-k+n:=by
   have:=rp.length_eq
   rw[Array.length_toList,List.length_append,List.length_drop,List.length_take]at this;omega
  have earr:arrOf st'=arrOf st:=ss.arr
  refine h _ (R1.take k++r.toList++R2.drop n) ?_ ?_ ?_ ss.kind ss.fail ss.pend
  ·have m1:∀x∈R1.take k,leB ltb x b0:=fun x hx=>by
    obtain⟨i,hi,e⟩:=List.getElem_of_mem hx
    rw[List.length_take]at hi
    rw[List.getElem_take]at e
    exact k2' i (by omega) x (by rw[List.getElem?_eq_getElem (by omega),e])
   have m2:∀x∈R1.take k,∀y∈R2,leB ltb x y:=fun x hx y hy=>by
    rcases b0le y hy with q|q
    ·exact O.tr (m1 x hx) q
    ·rw[q];exact m1 x hx
   have m3:∀x∈R1,∀y∈R2.drop n,leB ltb x y:=fun x hx y hy=>by
    rcases alge x hx with q|q
    ·exact O.tr q (n3' y hy)
    ·rw[q];exact n3' y hy
   have d1:=(iK s1 0 k).2
   rw[List.drop_zero,Nat.zero_add]at d1
   have d2:=(iK s2 0 n).2
   rw[List.drop_zero,Nat.zero_add]at d2
   rw[List.pairwise_append,List.pairwise_append]
   refine⟨⟨s1.take,rs,fun x hx y hy=>?_⟩,s2.drop,fun x hx y hy=>?_⟩
   ·rcases List.mem_append.mp (rp.mem_iff.mp hy) with q|q
    ·exact d1 x hx y q
    ·exact m2 x hx y (List.mem_of_mem_take q)
   ·rcases List.mem_append.mp hx with q|q
    ·exact m3 x (List.mem_of_mem_take q) y hy
    ·rcases List.mem_append.mp (rp.mem_iff.mp q) with q|q
     ·exact m3 x (List.mem_of_mem_drop q) y hy
     ·exact d2 x q y hy
  ·have e1:=List.take_append_drop k R1
   have e2:=List.take_append_drop n R2
   have:(R1.take k++r.toList++R2.drop n).Perm (R1.take k++(R1.drop k++R2.take n)++R2.drop n):=List.Perm.append_right _ (List.Perm.append_left _ rp)
   refine this.trans (List.Perm.of_eq ?_)
   rw[RJ,e1,e2]
  ·show(zH r (ba+k) (arrOf st')).toList=_
   rw[earr,Oh r _ _ (by rw[rsz];omega),rsz,show ba+k+(ka-k+n)=bb+n by omega]
   have t1:(arrOf st).toList.take (ba+k)=P++R1.take k:=by
    rw[hA1,eba,List.append_assoc,List.take_length_add_append,List.take_append_of_le_length (by omega)]
   have t2:(arrOf st).toList.drop (bb+n)=R2.drop n++T:=by
    rw[hA2,show bb =(P++R1).length by rw[List.length_append];omega,List.append_assoc,<- List.drop_drop,List.drop_left,List.drop_append_of_le_length (by omega)]
   rw[t1,t2];simp
 have hSS:SS κ (setPending st (((pendingOf st).setIfInBounds ii (ba,ka+kb,pw)).eraseIdxIfInBounds (ii+1))) (setPending st (((pendingOf st).setIfInBounds ii (ba,ka+kb,pw)).eraseIdxIfInBounds (ii+1))):=⟨hk,hf,rfl,rfl⟩
 have after:∀(r:Array Keyed) (st':SortSt),Q true (setArr st' (zH r (ba+k) (arrOf st')))->failedOf st'=none->wpS (model prog w) A E s (do
   modify fun z=>setArr z (zH r (ba+k) (arrOf z))
   return (failedOf (<- get)).isNone) Q st':=fun r st' q hfl=>by
  refine wpS_bind (wpS_modify ?_)
  refine wpS_bind (wpS_get ?_)
  refine wpS_pure ?_
  have:(failedOf (setArr st' (zH r (ba+k) (arrOf st')))).isNone=true:=by
   show(failedOf st').isNone=true
   rw[hfl];rfl
  rw[this];exact q
 by_cases c3:ka-k<=n
 ·rw[if_pos c3]
  refine wpS_bind (Kh O hO hSA hSB rA rB zB (fun y hy=>O.asym (fst y hy)) (by rw[szA];omega) (fun x hx y hy=>by rw[zA]at hy;cases hy;exact lst x hx) hSS fun r st' q1 q2 q3=>?_)
  exact after r st' (fin r st' q1 q2 q3) q3.fail
 ·rw[if_neg c3]
  refine wpS_bind (JM O hO hSA hSB rA rB zB fst zA lst hSS fun r st' q1 q2 q3=>?_)
  exact after r st' (fin r st' q1 q2 q3) q3.fail
end
def vW (R:List Keyed) (k l:Nat):List Keyed:=R.take l++((R.drop k).take 1++((R.take k).drop l++R.drop (k+1)))
theorem uF (R:List Keyed) {k l:Nat}(h:l<=k):(vW R k l).Perm R:=by
 unfold vW
 have e1:R.take k=R.take l++(R.take k).drop l:=by
  conv=>lhs;rw[<- List.take_append_drop l (R.take k)]
  rw[List.take_take,Nat.min_eq_left h]
 have e2:R=R.take k++((R.drop k).take 1++R.drop (k+1)):=by
  conv=>lhs;rw[<- List.take_append_drop k R,cu R k 1]
 conv=>rhs;rw[e2]
 rw[e1,List.append_assoc]
 refine List.Perm.append_left _ ?_
 have e3:List.drop l (R.take l++(R.take k).drop l) =(R.take k).drop l:=by rw[<- e1]
 rw[e3]
 rw[<- List.append_assoc,<- List.append_assoc]
 exact List.Perm.append_right _ List.perm_append_comm
theorem xG (R:List Keyed) {k l:Nat}(hk:k<R.length) (hl:l<=k) (p:Nat):(vW R k l)[p]? = if p=l then R[k]? else if l<p/\p<=k then R[p-1]? else R[p]?:=by
 unfold vW
 have len1:(R.take l).length=l:=by rw[List.length_take];omega
 have len2:((R.drop k).take 1).length=1:=by rw[List.length_take,List.length_drop];omega
 have len3:((R.take k).drop l).length=k-l:=by rw[List.length_drop,List.length_take];omega
 by_cases c1:p<l
 ·rw[List.getElem?_append_left (by omega),if_neg (by omega),if_neg (by omega),List.getElem?_take,if_pos c1]
 rw[List.getElem?_append_right (by omega),len1]
 by_cases c2:p=l
 ·rw[if_pos c2,List.getElem?_append_left (by omega),List.getElem?_take,if_pos (by omega),List.getElem?_drop]
  congr 1;omega
 rw[if_neg c2,List.getElem?_append_right (by omega),len2]
 by_cases c3:p<=k
 ·rw[if_pos ⟨by omega,c3⟩,List.getElem?_append_left (by omega),List.getElem?_drop,List.getElem?_take,if_pos (by omega)]
  congr 1;omega
 ·rw[if_neg (by omega),List.getElem?_append_right (by omega),len3,List.getElem?_drop]
  congr 1;omega
theorem xC {ar:Array Keyed}{P R T:List Keyed}(h:ar.toList=P++R++T) {k l:Nat}(hk:k<R.length) (hl:l<=k):(bubble ar (P.length+k) (k-l)).toList=P++vW R k l++T:=by
 have hsz:ar.size=P.length+R.length+T.length:=by
  have:=congrArg List.length h
  rw[Array.length_toList]at this
  simp at this;omega
 have hil:(vW R k l).length=R.length:=(uF R hl).length_eq
 apply List.ext_getElem?
 intro p
 rw[Array.getElem?_toList,getElem?_bubble (by omega) _ (by omega) p,show P.length+k-(k-l)=P.length+l by omega]
 have get:∀q,ar[q]? =(P++R++T)[q]?:=fun q=>by rw[<- h,Array.getElem?_toList]
 by_cases c1:p<P.length
 ·rw[if_neg (by omega),if_neg (by omega),get,List.append_assoc,List.append_assoc,List.getElem?_append_left c1,List.getElem?_append_left c1]
 ·by_cases c2:p<P.length+R.length
  ·have eR:(P++vW R k l++T)[p]? =(vW R k l)[p-P.length]?:=by
    rw[List.append_assoc,List.getElem?_append_right (by omega),List.getElem?_append_left (by omega)]
   have eg:∀q,P.length<=q->q<P.length+R.length->ar[q]? = R[q-P.length]?:=fun q h1 h2=>by
    rw[get,List.append_assoc,List.getElem?_append_right h1,List.getElem?_append_left (by omega)]
   rw[eR,xG R hk hl]
   by_cases c3:p=P.length+l
   ·rw[if_pos c3,if_pos (show p-P.length=l by omega),eg _ (by omega) (by omega)];congr 1;omega
   ·rw[if_neg c3,if_neg (show ¬ p-P.length=l by omega)]
    by_cases c4:P.length+l<p/\p<=P.length+k
    ·rw[if_pos c4,if_pos (show l<p-P.length/\p-P.length<=k by omega),eg _ (by omega) (by omega)];congr 1;omega
    ·rw[if_neg c4,if_neg (show ¬(l<p-P.length/\p-P.length<=k) by omega),eg _ (by omega) (by omega)]
  ·rw[if_neg (by omega),if_neg (by omega),get,List.append_assoc,List.append_assoc,List.getElem?_append_right (by omega),List.getElem?_append_right (by omega),List.getElem?_append_right (by omega),List.getElem?_append_right (by omega),hil]
section
variable {prog:Program}{w:World}{A:Around}{E:Value->Shared->Prop}{s:Shared}{ltb:Keyed->Keyed->Bool}{S:Keyed->Prop}{κ:SortKind}
theorem um (hO:lJ prog w A E s ltb S κ) {st:SortSt}{i j:Nat}{x y:Keyed}{Q:Option Bool->SortSt->Prop}(hk:kindOf st=κ) (hi:(arrOf st)[i]? = some x) (hj:(arrOf st)[j]? = some y) (Sx:S x) (Sy:S y) (q:Q (some (ltb x y)) st):wpS (model prog w) A E s (ltAt' i j) Q st:=by
 rw[ltAt'_eq]
 refine wpS_bind (wpS_get ?_)
 exact wpS_bind (aG hi (wpS_bind (aG hj (hO x y st Q Sx Sy hk q))))
def cF (ltb:Keyed->Keyed->Bool) (R:List Keyed) (k:Nat):Prop:=∀i j x y,i<j->j<k->R[i]? = some x->R[j]? = some y->leB ltb x y
theorem FI (O:eY ltb) (hO:lJ prog w A E s ltb S κ) {st:SortSt}{Q:Bool->SortSt->Prop}{P R T:List Keyed}{ok:Nat}(hk:kindOf st=κ) (hf:failedOf st=none) (harr:(arrOf st).toList=P++R++T) (hok:ok<=R.length) (hr:cF ltb R ok) (hSa:∀x∈R,S x)
  (h:∀(st':SortSt) (R':List Keyed),(arrOf st').toList=P++R'++T->R'.Perm R->cF ltb R' R'.length->kindOf st'=κ->failedOf st'=none->pendingOf st'=pendingOf st->Q true st'):wpS (model prog w) A E s (binarySort' P.length R.length ok) Q st:=by
 rw[binarySort'_eq]
 refine wpS_bind (wpS_mono (wpS_forRange (I:=fun k c st'=>c =(none,())/\kindOf st'=κ/\failedOf st'=none/\pendingOf st'=pendingOf st/\∃R',(arrOf st').toList=P++R'++T/\R'.Perm R/\cF ltb R' (min k R.length))
  (Q:=fun c st'=>c =(none,())/\kindOf st'=κ/\failedOf st'=none/\pendingOf st'=pendingOf st/\∃R',(arrOf st').toList=P++R'++T/\R'.Perm R/\cF ltb R' R.length) ?step ?fin ⟨rfl,hk,hf,rfl,R,harr,List.Perm.refl _,?init⟩) ?post)
 case init =>
  intro i j x y hij hj hx hy
  exact hr i j x y hij (by omega) hx hy
 case fin =>
  rintro c st' ⟨hc,k1,k2,k3,R',a1,a2,a3⟩
  exact⟨hc,k1,k2,k3,R',a1,a2,fun i j x y hij hj=>a3 i j x y hij (by omega)⟩
 case post =>
  rintro c st' ⟨rfl,k1,k2,k3,R',a1,a2,a3⟩
  exact wpS_pure (h st' R' a1 a2 (by rw[a2.length_eq];exact a3) k1 k2 k3)
 case step =>
  rintro k c st' h1 hkn ⟨rfl,k1,k2,k3,R',a1,a2,a3⟩
  rw[show min k R.length=k by omega]at a3
  have hlen:=a2.length_eq
  have hS':∀x∈R',S x:=fun x hx=>hSa x (a2.mem_iff.mp hx)
  have gt:∀i,i<R'.length->(arrOf st')[P.length+i]? = R'[i]?:=fun i hi=>uM a1 i hi
  obtain⟨v,hv⟩ : ∃v,R'[k]? = some v:=⟨_,List.getElem?_eq_getElem (by omega)⟩
  have Sv:=hS' v (List.mem_of_getElem? hv)
  refine wpS_bind (wpS_mono (wpS_forRange (I:=fun x c st''=>st''=st'/\∃l r,c =(none,l,r)/\l<=r/\r<=k/\r-l<=k-x/\(∀i x,i<l->R'[i]? = some x->leB ltb x v)/\(∀i x,r<=i->i<k->R'[i]? = some x->ltb v x=true))
   (Q:=fun c st''=>st''=st'/\∃l r,c =(none,l,r)/\l<=k/\(∀i x,i<l->R'[i]? = some x->leB ltb x v)/\(∀i x,l<=i->i<k->R'[i]? = some x->ltb v x=true)) ?istep ?ifin ⟨rfl,0,k,rfl,by omega,by omega,by omega,fun i x hi=>by omega,fun i x h1 h2=>by omega⟩) ?ipost)
  case ifin =>
   rintro c st'' ⟨rfl,l,r,rfl,b1,b2,b3,b4,b5⟩
   have:l=r:=by omega
   subst this
   exact⟨rfl,l,l,rfl,b2,b4,b5⟩
  case istep =>
   rintro x c st'' _ hxk ⟨e,l,r,rfl,b1,b2,b3,b4,b5⟩
   rw[e]
   dsimp only
   by_cases hge:l ≥ r
   ·rw[if_pos hge]
    have:l=r:=by omega
    subst this
    exact wpS_pure ⟨rfl,l,l,rfl,b2,b4,b5⟩
   ·rw[if_neg hge]
    obtain⟨u,hu⟩ : ∃u,R'[(l+r) / 2]? = some u:=⟨_,List.getElem?_eq_getElem (by omega)⟩
    refine wpS_bind (um hO k1 (by rw[gt k (by omega)];exact hv) (by rw[gt _ (by omega)];exact hu) Sv (hS' u (List.mem_of_getElem? hu)) ?_)
    dsimp only
    cases hw:ltb v u with
    | true =>
     simp only[if_true]
     refine wpS_pure ⟨rfl,l,(l+r) / 2,rfl,by omega,by omega,by omega,b4,fun i y q1 q2 hy=>?_⟩
     by_cases ei:i =(l+r) / 2
     ·subst ei;rw[hu]at hy;cases hy;exact hw
     ·have le1:=a3 ((l+r) / 2) i u y (by omega) q2 hu hy
      cases q:ltb v y with
      | true=>rfl
      | false=>have:=O.tr le1 q;rw[hw]at this;cases this
    | false =>
     simp only[Bool.false_eq_true,if_false]
     refine wpS_pure ⟨rfl,(l+r) / 2+1,r,rfl,by omega,by omega,by omega,fun i y q1 hy=>?_,b5⟩
     by_cases ei:i =(l+r) / 2
     ·subst ei;rw[hu]at hy;cases hy;exact hw
     ·exact O.tr (a3 i ((l+r) / 2) y u (by omega) (by omega) hy hu) hw
  case ipost =>
   rintro c st'' ⟨e,l,r,rfl,b1,b4,b5⟩
   rw[e]
   show wpS _ _ _ _ (do moveDown' (P.length+k) (P.length+l);pure (ForInStep.yield (none,()))) _ _
   rw[moveDown'_eq]
   refine wpS_bind (wpS_modify (wpS_pure ⟨rfl,k1,k2,k3,vW R' k l,?_,(uF R' b1).trans a2,?_⟩))
   ·show(bubble (arrOf st') (P.length+k) (P.length+k-(P.length+l))).toList=_
    rw[show P.length+k-(P.length+l)=k-l by omega]
    exact xC a1 (by omega) b1
   ·rw[show min (k+1) R.length=k+1 by omega]
    intro i j x y hij hj hx hy
    rw[xG R' (by omega) b1]at hx hy
    by_cases i1:i=l
    ·rw[if_pos i1,hv]at hx
     cases hx
     rw[if_neg (by omega),if_pos (by omega)]at hy
     exact O.asym (b5 (j-1) y (by omega) (by omega) hy)
    rw[if_neg i1]at hx
    by_cases i2:l<i/\i<=k
    ·rw[if_pos i2]at hx
     rw[if_neg (by omega),if_pos (by omega)]at hy
     exact a3 (i-1) (j-1) x y (by omega) (by omega) hx hy
    rw[if_neg i2]at hx
    by_cases j1:j=l
    ·rw[if_pos j1,hv]at hy
     cases hy
     exact b4 i x (by omega) hx
    rw[if_neg j1]at hy
    by_cases j2:l<j/\j<=k
    ·rw[if_pos j2]at hy
     exact a3 i (j-1) x y (by omega) (by omega) hx hy
    ·rw[if_neg j2]at hy
     exact a3 i j x y hij (by omega) hx hy
end
def fh (R:List Keyed) (i j:Nat):List Keyed:=R.take i++(((R.take j).drop i).reverse++R.drop j)
theorem jW (R:List Keyed) {i j:Nat}(h:i<=j):(fh R i j).Perm R:=by
 unfold fh
 have e1:R.take j=R.take i++(R.take j).drop i:=by
  conv=>lhs;rw[<- List.take_append_drop i (R.take j)]
  rw[List.take_take,Nat.min_eq_left h]
 have:(R.take i++(((R.take j).drop i).reverse++R.drop j)).Perm (R.take i++((R.take j).drop i++R.drop j)):=List.Perm.append_left _ (List.Perm.append_right _ (List.reverse_perm _))
 refine this.trans (List.Perm.of_eq ?_)
 rw[<- List.append_assoc,<- e1,List.take_append_drop]
theorem dG (R:List Keyed) {i j:Nat}(hj:j<=R.length) (h:i<=j) (p:Nat):(fh R i j)[p]? = if i<=p/\p<j then R[i+j-1-p]? else R[p]?:=by
 unfold fh
 have len1:(R.take i).length=i:=by rw[List.length_take];omega
 have len2:((R.take j).drop i).length=j-i:=by rw[List.length_drop,List.length_take];omega
 by_cases c1:p<i
 ·rw[List.getElem?_append_left (by omega),if_neg (by omega),List.getElem?_take,if_pos c1]
 rw[List.getElem?_append_right (by omega),len1]
 by_cases c2:p<j
 ·rw[if_pos ⟨by omega,c2⟩,List.getElem?_append_left (by rw[List.length_reverse];omega),List.getElem?_reverse (by omega),len2,List.getElem?_drop,List.getElem?_take,if_pos (by omega)]
  congr 1;omega
 ·rw[if_neg (by omega),List.getElem?_append_right (by rw[List.length_reverse];omega),List.length_reverse,len2,List.getElem?_drop]
  congr 1;omega
theorem wC {ar:Array Keyed}{P R:List Keyed}(h:ar.toList=P++R) {i j:Nat}(hj:j<=R.length) (hi:i<=j):(mirror ar (P.length+i) (P.length+j) ((P.length+j-(P.length+i)) / 2)).toList=P++fh R i j:=by
 have hsz:ar.size=P.length+R.length:=by
  have:=congrArg List.length h
  rw[Array.length_toList]at this
  simp at this;omega
 apply List.ext_getElem?
 intro p
 rw[Array.getElem?_toList,getElem?_mirror_all (by omega) p]
 have get:∀q,ar[q]? =(P++R)[q]?:=fun q=>by rw[<- h,Array.getElem?_toList]
 by_cases c1:p<P.length
 ·rw[if_neg (by omega),get,List.getElem?_append_left c1,List.getElem?_append_left c1]
 ·rw[List.getElem?_append_right (by omega),dG R hj hi]
  by_cases c2:P.length+i<=p/\p<P.length+j
  ·rw[if_pos c2,if_pos (show i<=p-P.length/\p-P.length<j by omega),get,List.getElem?_append_right (by omega)]
   congr 1;omega
  ·rw[if_neg c2,if_neg (show ¬(i<=p-P.length/\p-P.length<j) by omega),get,List.getElem?_append_right (by omega)]
theorem eY.refl {ltb:Keyed->Keyed->Bool}(O:eY ltb) (x:Keyed):leB ltb x x:=by
 unfold leB
 cases q:ltb x x with
 | false=>rfl
 | true=>have:=O.asym q;rw[q]at this;cases this
def dF (ltb:Keyed->Keyed->Bool) (R:List Keyed) (k:Nat):Prop:=∀i j x y,i<j->j<k->R[i]? = some x->R[j]? = some y->leB ltb y x
def uC (ltb:Keyed->Keyed->Bool) (R:List Keyed) (a b:Nat):Prop:=∀i j x y,a<=i->i<b->a<=j->j<b->R[i]? = some x->R[j]? = some y->leB ltb x y
section
variable {ltb:Keyed->Keyed->Bool}{R:List Keyed}
theorem cF.more (O:eY ltb) {n:Nat}(h:cF ltb R n) (hn:1<=n) {u v:Keyed}(hu:R[n-1]? = some u) (hv:R[n]? = some v) (c:leB ltb u v):cF ltb R (n+1):=by
 intro i j x y hij hj hx hy
 by_cases e:j=n
 ·subst e
  rw[hv]at hy;cases hy
  by_cases e2:i=j-1
  ·subst e2;rw[hu]at hx;cases hx;exact c
  ·exact O.tr (h i (j-1) x u (by omega) (by omega) hx hu) c
 ·exact h i j x y hij (by omega) hx hy
theorem dF.more (O:eY ltb) {n:Nat}(h:dF ltb R n) (hn:1<=n) {u v:Keyed}(hu:R[n-1]? = some u) (hv:R[n]? = some v) (c:leB ltb v u):dF ltb R (n+1):=by
 intro i j x y hij hj hx hy
 by_cases e:j=n
 ·subst e
  rw[hv]at hy;cases hy
  by_cases e2:i=j-1
  ·subst e2;rw[hu]at hx;cases hx;exact c
  ·exact O.tr c (h i (j-1) x u (by omega) (by omega) hx hu)
 ·exact h i j x y hij (by omega) hx hy
theorem dF.seg {n a:Nat}(h:dF ltb R n) (ha:a<=n) (hn:n<=R.length) (e:uC ltb R a n):dF ltb (fh R a n) n:=by
 intro i j x y hij hj hx hy
 rw[dG R hn ha]at hx hy
 by_cases c1:a<=i
 ·rw[if_pos ⟨c1,by omega⟩]at hx
  rw[if_pos ⟨by omega,hj⟩]at hy
  exact e _ _ y x (by omega) (by omega) (by omega) (by omega) hy hx
 ·rw[if_neg (by omega)]at hx
  by_cases c2:a<=j
  ·rw[if_pos ⟨c2,hj⟩]at hy
   exact h i _ x y (by omega) (by omega) hx hy
  ·rw[if_neg (by omega)]at hy
   exact h i j x y hij hj hx hy
theorem dF.turn {n:Nat}(h:dF ltb R n) (hn:n<=R.length):cF ltb (fh R 0 n) n:=by
 intro i j x y hij hj hx hy
 rw[dG R hn (Nat.zero_le _),if_pos ⟨Nat.zero_le _,by omega⟩]at hx
 rw[dG R hn (Nat.zero_le _),if_pos ⟨Nat.zero_le _,hj⟩]at hy
 exact h _ _ y x (by omega) (by omega) hy hx
end
section
variable {prog:Program}{w:World}{A:Around}{E:Value->Shared->Prop}{s:Shared}{ltb:Keyed->Keyed->Bool}{S:Keyed->Prop}{κ:SortKind}
structure ZS (κ:SortKind) (st:SortSt) (P R:List Keyed) (st':SortSt) (R':List Keyed):Prop where
 kind:kindOf st'=κ
 fail:failedOf st'=none
 pend:pendingOf st'=pendingOf st
 arr:(arrOf st').toList=P++R'
 perm:R'.Perm R
theorem ZS.rev {st st':SortSt}{P R R':List Keyed}(z:ZS κ st P R st' R') {i j:Nat}(hj:j<=R'.length) (hi:i<=j):ZS κ st P R (setArr st' (mirror (arrOf st') (P.length+i) (P.length+j) ((P.length+j-(P.length+i)) / 2))) (fh R' i j) :=
 ⟨z.kind,z.fail,z.pend,wC z.arr hj hi,(jW R' hi).trans z.perm⟩
theorem ZS.at {st st':SortSt}{P R R':List Keyed}(z:ZS κ st P R st' R') (i:Nat) (hi:i<R'.length):(arrOf st')[P.length+i]? = R'[i]?:=uM (T:=[]) (by rw[List.append_nil];exact z.arr) i hi
theorem ZS.ask (hO:lJ prog w A E s ltb S κ) {st st':SortSt}{P R R':List Keyed}(z:ZS κ st P R st' R') (hS:∀x∈R,S x) {a b i j:Nat}(ea:a=P.length+i) (eb:b=P.length+j) (hi:i<R'.length) (hj:j<R'.length) {Q:Option Bool->SortSt->Prop}(q:∀x y,R'[i]? = some x->R'[j]? = some y->Q (some (ltb x y)) st') :
  wpS (model prog w) A E s (ltAt' a b) Q st':=by
 have m:∀x,x∈R'->S x:=fun x hx=>hS x (z.perm.mem_iff.mp hx)
 obtain⟨x,hx⟩ : ∃x,R'[i]? = some x:=⟨_,List.getElem?_eq_getElem hi⟩
 obtain⟨y,hy⟩ : ∃y,R'[j]? = some y:=⟨_,List.getElem?_eq_getElem hj⟩
 exact um hO z.kind (by rw[ea,z.at i hi];exact hx) (by rw[eb,z.at j hj];exact hy) (m x (List.mem_of_getElem? hx)) (m y (List.mem_of_getElem? hy)) (q x y hx hy)
theorem Dd (O:eY ltb) (hO:lJ prog w A E s ltb S κ) {st:SortSt}{Q:Option Nat->SortSt->Prop}{P R:List Keyed}(hk:kindOf st=κ) (hf:failedOf st=none) (harr:(arrOf st).toList=P++R) (hR:1<=R.length) (hS:∀x∈R,S x)
  (h:∀(st':SortSt) (R':List Keyed) (n:Nat),ZS κ st P R st' R'->1<=n->n<=R.length->cF ltb R' n->Q (some n) st'):wpS (model prog w) A E s (countRun' P.length R.length) Q st:=by
 have z0:ZS κ st P R st R:=⟨hk,hf,rfl,harr,List.Perm.refl _⟩
 rw[countRun'_eq]
 refine wpS_bind (wpS_mono (wpS_forRange (I:=fun x c st'=>st'=st/\c =(none,x)/\cF ltb R x/\x<=R.length)
  (Q:=fun c st'=>st'=st/\∃n,c =(none,n)/\1<=n/\n<=R.length/\cF ltb R n/\(n<R.length->∀u v,R[n-1]? = some u->R[n]? = some v->ltb v u=true)) ?stp ?fin ⟨rfl,rfl,fun i j x y hij hj=>by omega,hR⟩) ?post)
 case fin =>
  rintro c st' ⟨rfl,rfl,a1,a2⟩
  exact⟨rfl,_,rfl,by omega,a2,a1,fun q=>by omega⟩
 case stp =>
  rintro x c st' hx1 hx2 ⟨est,rfl,a1,a2⟩
  rw[est]
  dsimp only
  refine wpS_bind (z0.ask hO hS (i:=x) (j:=x-1) rfl (by omega) hx2 (by omega) fun v u hv hu=>?_)
  dsimp only
  cases hw:ltb v u with
  | true =>
   simp only[if_true]
   exact wpS_pure ⟨rfl,x,rfl,hx1,a2,a1,fun _ u' v' hu' hv'=>by rw[hu]at hu';rw[hv]at hv';cases hu';cases hv';exact hw⟩
  | false =>
   simp only[Bool.false_eq_true,if_false]
   exact wpS_pure ⟨rfl,rfl,a1.more O hx1 hu hv hw,by omega⟩
 case post =>
  rintro c st' ⟨est,n,rfl,a1,a2,a3,a4⟩
  rw[est]
  dsimp only
  by_cases c1:n=R.length
  ·rw[if_pos (by simpa using c1)]
   exact wpS_pure (h st R n z0 a1 a2 a3)
  rw[if_neg (by simpa using c1)]
  have a4:=a4 (by omega)
  obtain⟨u0,hu0⟩ : ∃u,R[n-1]? = some u:=⟨_,List.getElem?_eq_getElem (by omega)⟩
  obtain⟨v0,hv0⟩ : ∃v,R[n]? = some v:=⟨_,List.getElem?_eq_getElem (by omega)⟩
  have hw0:=a4 u0 v0 hu0 hv0
  by_cases c2:n > 1
  ·rw[if_pos c2]
   refine wpS_bind (z0.ask hO hS (i:=0) (j:=n-1) rfl (by omega) (by omega) (by omega) fun f l hf0 hl0=>?_)
   rw[hu0]at hl0;cases hl0
   dsimp only
   cases hw1:ltb f u0 with
   | true =>
    simp only[if_true]
    exact wpS_pure (h st R n z0 a1 a2 a3)
   | false =>
    simp only[Bool.false_eq_true,if_false]
    rw[reverseSlice'_eq]
    refine wpS_bind (wpS_modify ?_)
    have z1:=z0.rev (i:=0) (j:=n) (by omega) (Nat.zero_le _)
    rw[Nat.add_zero]at z1
    have eq0:uC ltb R 0 n:=fun i j x y _ i2 _ j2 hx hy=>by
     have t1:leB ltb x u0:=by
      by_cases e:i=n-1
      ·subst e;rw[hu0]at hx;cases hx;exact O.refl _
      ·exact a3 i (n-1) x u0 (by omega) (by omega) hx hu0
     have t2:leB ltb f y:=by
      by_cases e:j=0
      ·subst e;rw[hf0]at hy;cases hy;exact O.refl _
      ·exact a3 0 j f y (by omega) j2 hf0 hy
     exact O.tr (O.tr t1 hw1) t2
    have f1:dF ltb (fh R 0 n) (n+1):=by
     have ff:dF ltb R n:=fun i j x y hij hj hx hy=>eq0 j i y x (by omega) hj (by omega) (by omega) hy hx
     have fr:=ff.seg (a:=0) (by omega) (by omega) eq0
     obtain⟨u2,hu2⟩ : ∃u2,(fh R 0 n)[n-1]? = some u2:=⟨_,List.getElem?_eq_getElem (by rw[(jW R (by omega)).length_eq];omega)⟩
     have hu3:=hu2
     rw[dG R (by omega) (by omega),if_pos (by omega)]at hu3
     refine fr.more O (by omega) hu2 (by rw[dG R (by omega) (by omega),if_neg (by omega)];exact hv0) (O.tr (O.asym hw0) (eq0 (n-1) _ u0 u2 (by omega) (by omega) (by omega) (by omega) hu0 hu3))
    generalize setArr st (mirror (arrOf st) P.length (P.length+n) ((P.length+n-P.length) / 2))=st1 at z1 ⊢
    generalize hR1:fh R 0 n=R1 at z1 f1
    refine wpS_bind (wpS_lift (wpAny_rule ⟨rfl,?_⟩))
    refine wpS_bind (wpS_mono (wpS_forRange (I:=fun x c st'=>∃R' q,c =(none,x,q)/\ZS κ st P R st' R'/\q+1<=x/\x<=R.length/\dF ltb R' x/\uC ltb R' (x-(q+1)) x)
     (Q:=fun c st'=>∃R' m q,c =(none,m,q)/\ZS κ st P R st' R'/\q+1<=m/\m<=R.length/\dF ltb R' m/\uC ltb R' (m-(q+1)) m) ?stp3 ?fin3 ⟨R1,0,rfl,z1,by omega,by omega,f1,fun i j x y i1 i2 j1 j2 hx hy=>by
      have e1:i=j:=by omega
      subst e1;rw[hx]at hy;cases hy;exact O.refl x⟩) ?post3)
    case fin3 =>
     rintro c st' ⟨R',q,rfl,b1,b2,b3,b4,b5⟩
     exact⟨R',_,q,rfl,b1,b2,b3,b4,b5⟩
    case stp3 =>
     rintro x c st' hx1 hx2 ⟨R',q,rfl,b1,b2,b3,b4,b5⟩
     have hl:=b1.perm.length_eq
     dsimp only
     refine wpS_bind (b1.ask hO hS (i:=x) (j:=x-1) rfl (by omega) (by omega) (by omega) fun v u hv hu=>?_)
     dsimp only
     cases hw:ltb v u with
     | true =>
      simp only[if_true]
      by_cases c6:q > 0
      ·rw[if_pos c6,reverseSlice'_eq]
       refine wpS_bind (wpS_modify ?_)
       have zr:=b1.rev (i:=x-(q+1)) (j:=x) (by omega) (by omega)
       have fr:=b4.seg (a:=x-(q+1)) (by omega) (by omega) b5
       have hv2:(fh R' (x-(q+1)) x)[x]? = some v:=by rw[dG R' (by omega) (by omega),if_neg (by omega)];exact hv
       obtain⟨u2,hu2⟩ : ∃u2,(fh R' (x-(q+1)) x)[x-1]? = some u2:=⟨_,List.getElem?_eq_getElem (by rw[(jW R' (by omega)).length_eq];omega)⟩
       have hu3:=hu2
       rw[dG R' (by omega) (by omega),if_pos (by omega)]at hu3
       have cc:leB ltb v u2:=O.tr (O.asym hw) (b5 (x-1) _ u u2 (by omega) (by omega) (by omega) (by omega) hu hu3)
       refine wpS_pure ⟨_,0,rfl,?_,by omega,by omega,fr.more O (by omega) hu2 hv2 cc,fun i j x y i1 i2 j1 j2 hx hy=>by
        have e1:i=j:=by omega
        subst e1;rw[hx]at hy;cases hy;exact O.refl x⟩
       rw[show P.length+x-(q+1)=P.length+(x-(q+1)) by omega]
       exact zr
      ·rw[if_neg c6]
       exact wpS_pure ⟨R',0,rfl,b1,by omega,by omega,b4.more O (by omega) hu hv (O.asym hw),fun i j x y i1 i2 j1 j2 hx hy=>by
        have e1:i=j:=by omega
        subst e1;rw[hx]at hy;cases hy;exact O.refl x⟩
     | false =>
      simp only[Bool.false_eq_true,if_false]
      refine wpS_bind (b1.ask hO hS (i:=x-1) (j:=x) (by omega) rfl (by omega) (by omega) fun u' v' hu' hv'=>?_)
      rw[hu]at hu';cases hu'
      rw[hv]at hv';cases hv'
      dsimp only
      cases hw2:ltb u v with
      | true =>
       simp only[if_true]
       exact wpS_pure ⟨R',x,q,rfl,b1,b2,b3,b4,b5⟩
      | false =>
       simp only[Bool.false_eq_true,if_false]
       refine wpS_pure ⟨R',q+1,rfl,b1,by omega,by omega,b4.more O (by omega) hu hv hw2,fun i j p r i1 i2 j1 j2 hp hr=>?_⟩
       have toU:∀i p,x+1-(q+1+1)<=i->i<x+1->R'[i]? = some p->leB ltb p u/\leB ltb u p:=fun i p g1 g2 hp=>by
        by_cases e:i=x
        ·subst e;rw[hv]at hp;cases hp;exact⟨hw2,hw⟩
        ·exact⟨b5 i (x-1) p u (by omega) (by omega) (by omega) (by omega) hp hu,b5 (x-1) i u p (by omega) (by omega) (by omega) (by omega) hu hp⟩
       exact O.tr (toU i p (by omega) i2 hp).1 (toU j r (by omega) j2 hr).2
    case post3 =>
     rintro c st3 ⟨R',m,q,rfl,b1,b2,b3,b4,b5⟩
     have hl:=b1.perm.length_eq
     dsimp only
     by_cases c7:q > 0
     ·rw[if_pos c7,reverseSlice'_eq]
      refine wpS_bind (wpS_modify ?_)
      have zr:=b1.rev (i:=m-(q+1)) (j:=m) (by omega) (by omega)
      rw[show P.length+(m-(q+1))=P.length+m-(q+1) by omega]at zr
      have fr:=b4.seg (a:=m-(q+1)) (by omega) (by omega) b5
      have hl2:=zr.perm.length_eq
      generalize setArr st3 (mirror (arrOf st3) (P.length+m-(q+1)) (P.length+m) ((P.length+m-(P.length+m-(q+1))) / 2))=st4 at zr ⊢
      generalize fh R' (m-(q+1)) m=R4 at zr fr hl2
      rw[reverseSlice'_eq]
      refine wpS_bind (wpS_modify ?_)
      have z5:=zr.rev (i:=0) (j:=m) (by omega) (Nat.zero_le _)
      rw[Nat.add_zero]at z5
      have r5:=fr.turn (by omega)
      generalize setArr st4 (mirror (arrOf st4) P.length (P.length+m) ((P.length+m-P.length) / 2))=st5 at z5 ⊢
      refine wpS_bind (wpS_mono (wpS_forRange (I:=fun x c st'=>st'=st5/\c =(none,x)/\cF ltb (fh R4 0 m) x/\x<=R.length)
       (Q:=fun c st'=>st'=st5/\∃n,c =(none,n)/\1<=n/\n<=R.length/\cF ltb (fh R4 0 m) n) ?stp5 ?fin5 ⟨rfl,rfl,r5,by omega⟩) ?post5)
      case fin5 =>
       rintro c st' ⟨est,rfl,b1,b2⟩
       exact⟨est,_,rfl,by omega,b2,b1⟩
      case post5 =>
       rintro c st' ⟨est,n5,rfl,b1,b2,b3⟩
       rw[est]
       exact wpS_pure (h _ _ n5 z5 b1 b2 b3)
      case stp5 =>
       rintro x c st' hx1 hx2 ⟨est,rfl,b1,b2⟩
       rw[est]
       dsimp only
       refine wpS_bind (z5.ask hO hS (i:=x) (j:=x-1) rfl (by omega) (by rw[z5.perm.length_eq];exact hx2) (by rw[z5.perm.length_eq];omega) fun v u hv hu=>?_)
       dsimp only
       cases hw:ltb v u with
       | true =>
        simp only[if_true]
        exact wpS_pure ⟨rfl,x,rfl,by omega,b2,b1⟩
       | false =>
        simp only[Bool.false_eq_true,if_false]
        exact wpS_pure ⟨rfl,rfl,b1.more O (by omega) hu hv hw,by omega⟩
     ·rw[if_neg c7,reverseSlice'_eq]
      refine wpS_bind (wpS_modify ?_)
      have z5:=b1.rev (i:=0) (j:=m) (by omega) (Nat.zero_le _)
      rw[Nat.add_zero]at z5
      have r5:=b4.turn (by omega)
      generalize setArr st3 (mirror (arrOf st3) P.length (P.length+m) ((P.length+m-P.length) / 2))=st5 at z5 ⊢
      refine wpS_bind (wpS_mono (wpS_forRange (I:=fun x c st'=>st'=st5/\c =(none,x)/\cF ltb (fh R' 0 m) x/\x<=R.length)
       (Q:=fun c st'=>st'=st5/\∃n,c =(none,n)/\1<=n/\n<=R.length/\cF ltb (fh R' 0 m) n) ?stp5 ?fin5 ⟨rfl,rfl,r5,by omega⟩) ?post5)
      case fin5 =>
       rintro c st' ⟨est,rfl,b1,b2⟩
       exact⟨est,_,rfl,by omega,b2,b1⟩
      case post5 =>
       rintro c st' ⟨est,n5,rfl,b1,b2,b3⟩
       rw[est]
       exact wpS_pure (h _ _ n5 z5 b1 b2 b3)
      case stp5 =>
       rintro x c st' hx1 hx2 ⟨est,rfl,b1,b2⟩
       rw[est]
       dsimp only
       refine wpS_bind (z5.ask hO hS (i:=x) (j:=x-1) rfl (by omega) (by rw[z5.perm.length_eq];exact hx2) (by rw[z5.perm.length_eq];omega) fun v u hv hu=>?_)
       dsimp only
       cases hw:ltb v u with
       | true =>
        simp only[if_true]
        exact wpS_pure ⟨rfl,x,rfl,by omega,b2,b1⟩
       | false =>
        simp only[Bool.false_eq_true,if_false]
        exact wpS_pure ⟨rfl,rfl,b1.more O (by omega) hu hv hw,by omega⟩
  ·rw[if_neg c2]
   have e1:n=1:=by omega
   have f1:dF ltb R (n+1):=by
    have ff:dF ltb R n:=fun i j x y hij hj hx hy=>by omega
    exact ff.more O a1 hu0 hv0 (O.asym hw0)
   have z1:=z0
   have hR1:∃R1,R1=R:=⟨_,rfl⟩
   refine wpS_bind (wpS_lift (wpAny_rule ⟨rfl,?_⟩))
   refine wpS_bind (wpS_mono (wpS_forRange (I:=fun x c st'=>∃R' q,c =(none,x,q)/\ZS κ st P R st' R'/\q+1<=x/\x<=R.length/\dF ltb R' x/\uC ltb R' (x-(q+1)) x)
    (Q:=fun c st'=>∃R' m q,c =(none,m,q)/\ZS κ st P R st' R'/\q+1<=m/\m<=R.length/\dF ltb R' m/\uC ltb R' (m-(q+1)) m) ?stp3 ?fin3 ⟨R,0,rfl,z1,by omega,by omega,f1,fun i j x y i1 i2 j1 j2 hx hy=>by
     have e1:i=j:=by omega
     subst e1;rw[hx]at hy;cases hy;exact O.refl x⟩) ?post3)
   case fin3 =>
    rintro c st' ⟨R',q,rfl,b1,b2,b3,b4,b5⟩
    exact⟨R',_,q,rfl,b1,b2,b3,b4,b5⟩
   case stp3 =>
    rintro x c st' hx1 hx2 ⟨R',q,rfl,b1,b2,b3,b4,b5⟩
    have hl:=b1.perm.length_eq
    dsimp only
    refine wpS_bind (b1.ask hO hS (i:=x) (j:=x-1) rfl (by omega) (by omega) (by omega) fun v u hv hu=>?_)
    dsimp only
    cases hw:ltb v u with
    | true =>
     simp only[if_true]
     by_cases c6:q > 0
     ·rw[if_pos c6,reverseSlice'_eq]
      refine wpS_bind (wpS_modify ?_)
      have zr:=b1.rev (i:=x-(q+1)) (j:=x) (by omega) (by omega)
      have fr:=b4.seg (a:=x-(q+1)) (by omega) (by omega) b5
      have hv2:(fh R' (x-(q+1)) x)[x]? = some v:=by rw[dG R' (by omega) (by omega),if_neg (by omega)];exact hv
      obtain⟨u2,hu2⟩ : ∃u2,(fh R' (x-(q+1)) x)[x-1]? = some u2:=⟨_,List.getElem?_eq_getElem (by rw[(jW R' (by omega)).length_eq];omega)⟩
      have hu3:=hu2
      rw[dG R' (by omega) (by omega),if_pos (by omega)]at hu3
      have cc:leB ltb v u2:=O.tr (O.asym hw) (b5 (x-1) _ u u2 (by omega) (by omega) (by omega) (by omega) hu hu3)
      refine wpS_pure ⟨_,0,rfl,?_,by omega,by omega,fr.more O (by omega) hu2 hv2 cc,fun i j x y i1 i2 j1 j2 hx hy=>by
       have e1:i=j:=by omega
       subst e1;rw[hx]at hy;cases hy;exact O.refl x⟩
      rw[show P.length+x-(q+1)=P.length+(x-(q+1)) by omega]
      exact zr
     ·rw[if_neg c6]
      exact wpS_pure ⟨R',0,rfl,b1,by omega,by omega,b4.more O (by omega) hu hv (O.asym hw),fun i j x y i1 i2 j1 j2 hx hy=>by
       have e1:i=j:=by omega
       subst e1;rw[hx]at hy;cases hy;exact O.refl x⟩
    | false =>
     simp only[Bool.false_eq_true,if_false]
     refine wpS_bind (b1.ask hO hS (i:=x-1) (j:=x) (by omega) rfl (by omega) (by omega) fun u' v' hu' hv'=>?_)
     rw[hu]at hu';cases hu'
     rw[hv]at hv';cases hv'
     dsimp only
     cases hw2:ltb u v with
     | true =>
      simp only[if_true]
      exact wpS_pure ⟨R',x,q,rfl,b1,b2,b3,b4,b5⟩
     | false =>
      simp only[Bool.false_eq_true,if_false]
      refine wpS_pure ⟨R',q+1,rfl,b1,by omega,by omega,b4.more O (by omega) hu hv hw2,fun i j p r i1 i2 j1 j2 hp hr=>?_⟩
      have toU:∀i p,x+1-(q+1+1)<=i->i<x+1->R'[i]? = some p->leB ltb p u/\leB ltb u p:=fun i p g1 g2 hp=>by
       by_cases e:i=x
       ·subst e;rw[hv]at hp;cases hp;exact⟨hw2,hw⟩
       ·exact⟨b5 i (x-1) p u (by omega) (by omega) (by omega) (by omega) hp hu,b5 (x-1) i u p (by omega) (by omega) (by omega) (by omega) hu hp⟩
      exact O.tr (toU i p (by omega) i2 hp).1 (toU j r (by omega) j2 hr).2
   case post3 =>
    rintro c st3 ⟨R',m,q,rfl,b1,b2,b3,b4,b5⟩
    have hl:=b1.perm.length_eq
    dsimp only
    by_cases c7:q > 0
    ·rw[if_pos c7,reverseSlice'_eq]
     refine wpS_bind (wpS_modify ?_)
     have zr:=b1.rev (i:=m-(q+1)) (j:=m) (by omega) (by omega)
     rw[show P.length+(m-(q+1))=P.length+m-(q+1) by omega]at zr
     have fr:=b4.seg (a:=m-(q+1)) (by omega) (by omega) b5
     have hl2:=zr.perm.length_eq
     generalize setArr st3 (mirror (arrOf st3) (P.length+m-(q+1)) (P.length+m) ((P.length+m-(P.length+m-(q+1))) / 2))=st4 at zr ⊢
     generalize fh R' (m-(q+1)) m=R4 at zr fr hl2
     rw[reverseSlice'_eq]
     refine wpS_bind (wpS_modify ?_)
     have z5:=zr.rev (i:=0) (j:=m) (by omega) (Nat.zero_le _)
     rw[Nat.add_zero]at z5
     have r5:=fr.turn (by omega)
     generalize setArr st4 (mirror (arrOf st4) P.length (P.length+m) ((P.length+m-P.length) / 2))=st5 at z5 ⊢
     refine wpS_bind (wpS_mono (wpS_forRange (I:=fun x c st'=>st'=st5/\c =(none,x)/\cF ltb (fh R4 0 m) x/\x<=R.length)
      (Q:=fun c st'=>st'=st5/\∃n,c =(none,n)/\1<=n/\n<=R.length/\cF ltb (fh R4 0 m) n) ?stp5 ?fin5 ⟨rfl,rfl,r5,by omega⟩) ?post5)
     case fin5 =>
      rintro c st' ⟨est,rfl,b1,b2⟩
      exact⟨est,_,rfl,by omega,b2,b1⟩
     case post5 =>
      rintro c st' ⟨est,n5,rfl,b1,b2,b3⟩
      rw[est]
      exact wpS_pure (h _ _ n5 z5 b1 b2 b3)
     case stp5 =>
      rintro x c st' hx1 hx2 ⟨est,rfl,b1,b2⟩
      rw[est]
      dsimp only
      refine wpS_bind (z5.ask hO hS (i:=x) (j:=x-1) rfl (by omega) (by rw[z5.perm.length_eq];exact hx2) (by rw[z5.perm.length_eq];omega) fun v u hv hu=>?_)
      dsimp only
      cases hw:ltb v u with
      | true =>
       simp only[if_true]
       exact wpS_pure ⟨rfl,x,rfl,by omega,b2,b1⟩
      | false =>
       simp only[Bool.false_eq_true,if_false]
       exact wpS_pure ⟨rfl,rfl,b1.more O (by omega) hu hv hw,by omega⟩
    ·rw[if_neg c7,reverseSlice'_eq]
     refine wpS_bind (wpS_modify ?_)
     have z5:=b1.rev (i:=0) (j:=m) (by omega) (Nat.zero_le _)
     rw[Nat.add_zero]at z5
     have r5:=b4.turn (by omega)
     generalize setArr st3 (mirror (arrOf st3) P.length (P.length+m) ((P.length+m-P.length) / 2))=st5 at z5 ⊢
     refine wpS_bind (wpS_mono (wpS_forRange (I:=fun x c st'=>st'=st5/\c =(none,x)/\cF ltb (fh R' 0 m) x/\x<=R.length)
      (Q:=fun c st'=>st'=st5/\∃n,c =(none,n)/\1<=n/\n<=R.length/\cF ltb (fh R' 0 m) n) ?stp5 ?fin5 ⟨rfl,rfl,r5,by omega⟩) ?post5)
     case fin5 =>
      rintro c st' ⟨est,rfl,b1,b2⟩
      exact⟨est,_,rfl,by omega,b2,b1⟩
     case post5 =>
      rintro c st' ⟨est,n5,rfl,b1,b2,b3⟩
      rw[est]
      exact wpS_pure (h _ _ n5 z5 b1 b2 b3)
     case stp5 =>
      rintro x c st' hx1 hx2 ⟨est,rfl,b1,b2⟩
      rw[est]
      dsimp only
      refine wpS_bind (z5.ask hO hS (i:=x) (j:=x-1) rfl (by omega) (by rw[z5.perm.length_eq];exact hx2) (by rw[z5.perm.length_eq];omega) fun v u hv hu=>?_)
      dsimp only
      cases hw:ltb v u with
      | true =>
       simp only[if_true]
       exact wpS_pure ⟨rfl,x,rfl,by omega,b2,b1⟩
      | false =>
       simp only[Bool.false_eq_true,if_false]
       exact wpS_pure ⟨rfl,rfl,b1.more O (by omega) hu hv hw,by omega⟩
end
def fJ:Nat->List (List Keyed)->List (Nat×Nat×Nat)->Prop
 | _,[],[]=>True
 | o,r::rs,p::ps=>p.1=o/\p.2.1=r.length/\fJ (o+r.length) rs ps
 | _,_,_=>False
theorem fJ.len:∀{o:Nat}{rs:List (List Keyed)}{ps:List (Nat×Nat×Nat)},fJ o rs ps->rs.length=ps.length
 | _,[],[],_=>rfl
 | _,_::_,_::_,⟨_,_,t⟩=>congrArg (· + 1) (fJ.len t)
theorem fJ.app:∀{o:Nat}{rs ts:List (List Keyed)}{ps qs:List (Nat×Nat×Nat)},fJ o rs ps->fJ (o+rs.flatten.length) ts qs->fJ o (rs++ts) (ps++qs)
 | o,[],ts,[],qs,_,h=>by simpa using h
 | o,r::rs,ts,p::ps,qs,⟨a,b,t⟩,h=>⟨a,b,fJ.app t (by rw[List.flatten_cons,List.length_append]at h;rw[Nat.add_assoc];exact h)⟩
theorem fJ.split:∀{o:Nat}{rs ts:List (List Keyed)}{ps:List (Nat×Nat×Nat)},fJ o (rs++ts) ps->∃p1 p2,ps=p1++p2/\p1.length=rs.length/\fJ o rs p1/\fJ (o+rs.flatten.length) ts p2
 | o,[],ts,ps,h=>⟨[],ps,rfl,rfl,trivial,by simpa using h⟩
 | o,r::rs,ts,[],h=>h.elim
 | o,r::rs,ts,p::ps,⟨a,b,t⟩=>by
  obtain⟨p1,p2,rfl,e,f,g⟩:=fJ.split t
  exact⟨p::p1,p2,rfl,congrArg (· + 1) e,⟨a,b,f⟩,by rw[List.flatten_cons,List.length_append,<- Nat.add_assoc];exact g⟩
section
variable {ltb:Keyed->Keyed->Bool}{κ:SortKind}
structure RI (ltb:Keyed->Keyed->Bool) (κ:SortKind) (a0:List Keyed) (st:SortSt) (rs:List (List Keyed)) (U:List Keyed):Prop where
 kind:kindOf st=κ
 fail:failedOf st=none
 arr:(arrOf st).toList=rs.flatten++U
 perm:(arrOf st).toList.Perm a0
 offs:fJ 0 rs (pendingOf st).toList
 rise:∀r∈rs,r.Pairwise (leB ltb)/\r ≠ []
theorem x9:∀{rs:List (List Keyed)},(∀r∈rs,r ≠ [])->rs.length<=rs.flatten.length
 | [],_=>Nat.le_refl _
 | r::rs,h=>by
  have:=x9 (rs:=rs) fun x hx=>h x (List.mem_cons_of_mem _ hx)
  have l:=List.length_pos_iff.mpr (h r List.mem_cons_self)
  rw[List.flatten_cons,List.length_append,List.length_cons];omega
end
section
variable {prog:Program}{w:World}{A:Around}{E:Value->Shared->Prop}{s:Shared}{ltb:Keyed->Keyed->Bool}{S:Keyed->Prop}{κ:SortKind}
theorem Ou {α:Type}{l:List α}{i:Nat}(h:i+1<l.length):∃pre x y post,l=pre ++ [x,y]++post/\pre.length=i:=by
 refine⟨l.take i,l[i],l[i+1],l.drop (i+2),?_,by rw[List.length_take];omega⟩
 have e1:=List.drop_eq_getElem_cons (show i<l.length by omega)
 have e2:=List.drop_eq_getElem_cons h
 conv=>lhs;rw[<- List.take_append_drop i l,e1,e2]
 simp
theorem kU (O:eY ltb) (hO:lJ prog w A E s ltb S κ) {st:SortSt}{Q:Bool->SortSt->Prop}{a0:List Keyed}{rs:List (List Keyed)}{U:List Keyed}{i:Nat}(hS:∀x∈a0,S x) (ri:RI ltb κ a0 st rs U) (hi:i+1<rs.length)
  (h:∀st' rs',RI ltb κ a0 st' rs' U->rs'.length+1=rs.length->rs'.flatten.length=rs.flatten.length->Q true st'):wpS (model prog w) A E s (mergeAt' i) Q st:=by
 obtain⟨pre,r1,r2,post,rfl,hpre⟩:=Ou hi
 have off:=ri.offs
 rw[List.append_assoc]at off
 obtain⟨p1,p2,ep,lp,o1,o2⟩:=off.split
 cases p2 with
 | nil=>exact o2.elim
 | cons x p2 =>
  cases p2 with
  | nil=>exact o2.2.2.elim
  | cons y p3 =>
   obtain⟨x1,x2,y1,y2,o3⟩:=o2
   obtain⟨ba,ka,pw⟩:=x
   obtain⟨bb,kb,pv⟩:=y
   dsimp only at x1 x2 y1 y2
   have lp':p1.length=i:=by omega
   have g1:(pendingOf st)[i]? = some (ba,ka,pw):=by
    rw[<- Array.getElem?_toList,ep,List.getElem?_append_right (by omega),lp',Nat.sub_self];rfl
   have g2:(pendingOf st)[i+1]? = some (bb,kb,pv):=by
    rw[<- Array.getElem?_toList,ep,List.getElem?_append_right (by omega),lp',Nat.add_sub_cancel_left];rfl
   have q1:=ri.rise r1 (by simp)
   have q2:=ri.rise r2 (by simp)
   refine wM O hO (P:=pre.flatten) (R1:=r1) (R2:=r2) (T:=post.flatten++U) ri.kind ri.fail g1 g2 (by rw[ri.arr];simp) (by omega) x2 (by omega) y2 q1.2 q2.2 q1.1 q2.1 (fun x hx=>hS x (ri.perm.mem_iff.mp hx)) fun st' R s1 s2 s3 s4 s5 s6=>?_
   have lR:R.length=r1.length+r2.length:=by rw[s2.length_eq,List.length_append]
   refine h st' (pre ++ [R]++post) ⟨s4,s5,by rw[s3];simp,?_,?_,?_⟩ (by simp;omega) (by simp[lR];omega)
   ·rw[s3]
    refine List.Perm.trans ?_ ri.perm
    rw[ri.arr]
    have:(pre.flatten++R++(post.flatten++U)).Perm (pre.flatten++(r1++r2)++(post.flatten++U)):=List.Perm.append_right _ (List.Perm.append_left _ s2)
    refine this.trans (List.Perm.of_eq (by simp))
   ·have e6:(pendingOf st').toList=p1++((ba,ka+kb,pw)::p3):=by
     rw[s6,Array.toList_eraseIdxIfInBounds,Array.toList_setIfInBounds,ep]
     rw[List.set_append_right _ _ (by omega),lp',Nat.sub_self]
     rw[List.eraseIdx_append_of_length_le (by omega),lp',Nat.add_sub_cancel_left]
     rfl
    rw[e6,List.append_assoc]
    refine fJ.app o1 ⟨x1,by show ka+kb=R.length;omega,?_⟩
    have e7:0+pre.flatten.length+R.length=0+pre.flatten.length+r1.length+r2.length:=by omega
    rw[e7];exact o3
   ·intro r hr
    rcases List.mem_append.mp hr with z|z
    ·rcases List.mem_append.mp z with z|z
     ·exact ri.rise r (by simp[z])
     ·simp at z
      rw[z]
      refine⟨s1,fun e=>?_⟩
      rw[e]at lR
      have:=List.length_pos_iff.mpr q1.2
      simp at lR;omega
    ·exact ri.rise r (by simp[z])
end
theorem fJ.mod {f:Nat×Nat×Nat->Nat×Nat×Nat}(hf:∀p,(f p).1=p.1/\(f p).2.1=p.2.1):∀{o:Nat}{rs:List (List Keyed)}{ps:List (Nat×Nat×Nat)}(k:Nat),fJ o rs ps->fJ o rs (ps.modify k f)
 | _,[],[],k,_=>by cases k <;> exact trivial
 | o,r::rs,p::ps,0,⟨a,b,t⟩=>⟨(hf p).1.trans a,(hf p).2.trans b,t⟩
 | o,r::rs,p::ps,k+1,⟨a,b,t⟩=>⟨a,b,fJ.mod hf k t⟩
section
variable {ltb:Keyed->Keyed->Bool}{κ:SortKind}{a0:List Keyed}{st:SortSt}{rs:List (List Keyed)}
theorem RI.push {run U2:List Keyed}{lo n:Nat}(ri:RI ltb κ a0 st rs (run++U2)) (h1:run.Pairwise (leB ltb)) (h2:run ≠ []) (el:lo=rs.flatten.length) (en:n=run.length):RI ltb κ a0 (setPending st ((pendingOf st).push (lo,n,0))) (rs ++ [run]) U2:=by
 refine⟨ri.kind,ri.fail,by show(arrOf st).toList=_;rw[ri.arr];simp,ri.perm,?_,fun r hr=>?_⟩
 ·show fJ 0 _ ((pendingOf st).push _).toList
  rw[Array.toList_push]
  exact fJ.app ri.offs ⟨by show lo=0+_;omega,en,trivial⟩
 ·rcases List.mem_append.mp hr with z|z
  ·exact ri.rise r z
  ·simp at z;rw[z];exact⟨h1,h2⟩
theorem RI.mod {U:List Keyed}(ri:RI ltb κ a0 st rs U) (pw k:Nat):RI ltb κ a0 (setPending st ((pendingOf st).modify k fun q=>(q.1,q.2.1,pw))) rs U :=
 ⟨ri.kind,ri.fail,ri.arr,ri.perm,by
  show fJ 0 rs ((pendingOf st).modify k _).toList
  rw[Array.toList_modify]
  exact fJ.mod (f:=fun q=>(q.1,q.2.1,pw)) (fun p=>⟨rfl,rfl⟩) k ri.offs,ri.rise⟩
end
theorem j5 (rs:List (List Keyed)) (r:List Keyed):(rs ++ [r]).flatten.length=rs.flatten.length+r.length:=by simp
theorem xY {ltb:Keyed->Keyed->Bool}{R:List Keyed}(h:cF ltb R R.length):R.Pairwise (leB ltb):=by
 rw[List.pairwise_iff_getElem]
 intro i j hi hj hij
 exact h i j _ _ hij hj (List.getElem?_eq_getElem hi) (List.getElem?_eq_getElem hj)
theorem BZ {ltb:Keyed->Keyed->Bool}{R:List Keyed}{n:Nat}(h:cF ltb R n) (hn:n<=R.length):(R.take n).Pairwise (leB ltb):=by
 apply xY
 intro i j x y hij hj hx hy
 rw[List.length_take]at hj
 rw[List.getElem?_take,if_pos (by omega)]at hx hy
 exact h i j x y hij (by omega) hx hy
theorem pX:∀(f n r:Nat),1<=n->1<=minRun' f n r
 | 0,n,r,h=>by show 1<=n+r;omega
 | f+1,n,r,h=>by
  rw[minRun'_succ]
  split
  ·omega
  ·exact pX f (n / 2) _ (by omega)
section
variable {prog:Program}{w:World}{A:Around}{E:Value->Shared->Prop}{s:Shared}{ltb:Keyed->Keyed->Bool}{S:Keyed->Prop}{κ:SortKind}
theorem uq (O:eY ltb) (hO:lJ prog w A E s ltb S κ) {st:SortSt}{Q:Unit->SortSt->Prop}{a0:List Keyed}(hk:kindOf st=κ) (hf:failedOf st=none) (harr:(arrOf st).toList=a0) (hp:pendingOf st = #[]) (hS:∀x∈a0,S x)
  (h:∀st',(arrOf st').toList.Perm a0->(arrOf st').toList.Pairwise (leB ltb)->failedOf st'=none->Q () st'):wpS (model prog w) A E s sortRuns' Q st:=by
 have hN:(arrOf st).size=a0.length:=by rw[<- harr,Array.length_toList]
 rw[sortRuns'_eq]
 refine wpS_bind (wpS_get ?_)
 dsimp only
 rw[hN]
 have ri0:RI ltb κ a0 st [] a0:=⟨hk,hf,by rw[harr];rfl,by rw[harr],by rw[hp];exact trivial,fun r hr=>by cases hr⟩
 have split:∀{st' rs U},RI ltb κ a0 st' rs U->rs.flatten.length+U.length=a0.length:=fun {st' rs U} ri=>by
  have:=ri.perm.length_eq
  rw[ri.arr,List.length_append]at this;exact this
 refine wpS_bind (wpS_mono (wpS_forRange (I:=fun x c st'=>∃rs U,c =(none,rs.flatten.length)/\RI ltb κ a0 st' rs U/\x<=rs.flatten.length)
  (Q:=fun c st'=>∃rs,c =(none,a0.length)/\RI ltb κ a0 st' rs []/\rs.flatten.length=a0.length) ?stp ?fin ⟨[],a0,rfl,ri0,Nat.zero_le _⟩) ?post)
 case fin =>
  rintro c st' ⟨rs,U,rfl,ri,hx⟩
  have:=split ri
  have hU:U=[]:=List.length_eq_zero_iff.mp (by omega)
  subst hU
  refine⟨rs,?_,ri,by omega⟩
  rw[show rs.flatten.length=a0.length by omega]
 case post =>
  rintro c st1 ⟨rs,rfl,ri,hfl⟩
  dsimp only
  have hrl:=x9 (rs:=rs) fun r hr=>(ri.rise r hr).2
  refine wpS_bind (wpS_mono (wpS_forRange (I:=fun x c st'=>∃rs,c =(none,())/\RI ltb κ a0 st' rs []/\rs.length+x<=a0.length)
   (Q:=fun c st'=>∃rs,c =(none,())/\RI ltb κ a0 st' rs []/\rs.length<=1) ?stp9 ?fin9 ⟨rs,rfl,ri,by omega⟩) ?post9)
  case fin9 =>
   rintro c st' ⟨rs,rfl,ri,hx⟩
   exact⟨rs,rfl,ri,by omega⟩
  case post9 =>
   rintro c st' ⟨rs,rfl,ri,hl⟩
   refine wpS_pure (h st' ri.perm ?_ ri.fail)
   rw[ri.arr,List.append_nil]
   cases rs with
   | nil=>exact List.Pairwise.nil
   | cons r rs =>
    have:rs=[]:=by simp at hl;exact hl
    subst this
    simp
    exact(ri.rise r (by simp)).1
  case stp9 =>
   rintro x c st' _ hx ⟨rs,rfl,ri,hl⟩
   have hpl:(pendingOf st').size=rs.length:=by rw[<- Array.length_toList,<- ri.offs.len]
   refine wpS_bind (wpS_get ?_)
   try dsimp only
   by_cases c1:(pendingOf st').size<=1
   ·rw[if_pos c1]
    exact wpS_pure ⟨rs,rfl,ri,by omega⟩
   rw[if_neg c1]
   refine wpS_bind (kU O hO hS ri ?_ fun st2 rs2 ri2 e1 e2=>?_)
   ·(repeat' split) <;> omega
   ·simp only[Bool.not_true,Bool.false_eq_true,if_false]
    exact wpS_pure ⟨rs2,rfl,ri2,by omega⟩
 case stp =>
  rintro x c st1 _ hx ⟨rs,U,rfl,ri,hxl⟩
  have hsp:=split ri
  dsimp only
  by_cases c1:rs.flatten.length ≥ a0.length
  ·rw[if_pos c1]
   have hU:U=[]:=List.length_eq_zero_iff.mp (by omega)
   subst hU
   refine wpS_pure ⟨rs,?_,ri,by omega⟩
   rw[show rs.flatten.length=a0.length by omega]
  rw[if_neg c1,show a0.length-rs.flatten.length=U.length by omega]
  have hSU:∀x∈U,S x:=fun x hx=>hS x (ri.perm.mem_iff.mp (by rw[ri.arr];exact List.mem_append_right _ hx))
  refine wpS_bind (Dd O hO (P:=rs.flatten) (R:=U) ri.kind ri.fail ri.arr (by omega) hSU fun st2 R' n z n1 n2 rise=>?_)
  have lR':=z.perm.length_eq
  dsimp only
  by_cases c2:n<minRun' a0.length a0.length 0
  ·rw[if_pos c2]
   refine wpS_bind (wpS_lift (wpAny_rule ⟨rfl,?_⟩))
   have mp:=pX a0.length a0.length 0 (by omega)
   generalize minRun' a0.length a0.length 0=mr at c2 mp
   obtain⟨fo,efo⟩ : ∃fo,min U.length mr=fo:=⟨_,rfl⟩
   rw[efo]
   have lT:(R'.take fo).length=fo:=by rw[List.length_take];omega
   rw[show binarySort' rs.flatten.length fo n=binarySort' rs.flatten.length (R'.take fo).length n by rw[lT]]
   refine wpS_bind (FI O hO (P:=rs.flatten) (R:=R'.take fo) (T:=R'.drop fo) z.kind z.fail (by rw[z.arr,List.append_assoc,List.take_append_drop]) (by omega) (fun i j x y hij hj hx hy=>by
     rw[List.getElem?_take,if_pos (by omega)]at hx hy
     exact rise i j x y hij hj hx hy) (fun x hx=>hSU x (z.perm.mem_iff.mp (List.mem_of_mem_take hx))) fun st3 R3 a1 a2 a3 a4 a5 a6=>?_)
   simp only[Bool.not_true,Bool.false_eq_true,if_false]
   have l3:R3.length=fo:=by rw[a2.length_eq,lT]
   have r1:=xY a3
   have r2:R3 ≠ []:=fun e=>by rw[e]at l3;simp at l3;omega
   have rj:RI ltb κ a0 st3 rs (R3++R'.drop fo):=⟨a4,a5,by rw[a1,List.append_assoc],by
    rw[a1]
    refine List.Perm.trans ?_ ri.perm
    rw[ri.arr,List.append_assoc]
    refine List.Perm.append_left _ ((List.Perm.append_right _ a2).trans ?_)
    rw[List.take_append_drop];exact z.perm,by rw[a6,z.pend];exact ri.offs,ri.rise⟩
   refine wpS_bind (wpS_get ?_)
   cases hb:(pendingOf st3).back? with
   | none =>
    dsimp only
    refine wpS_bind (wpS_modify (wpS_pure ⟨rs ++ [R3],R'.drop fo,?_,rj.push r1 r2 rfl l3.symm,?_⟩))
    ·simp[l3]
    ·have:=List.length_pos_iff.mpr r2
     rw[j5];omega
   | some t =>
    obtain⟨s1,k1,p1⟩:=t
    dsimp only
    refine wpS_bind (wpS_mono (wpS_forRange (I:=fun x c st'=>∃rs',c =(none,())/\RI ltb κ a0 st' rs' (R3++R'.drop fo)/\rs'.flatten.length=rs.flatten.length)
     (Q:=fun c st'=>∃rs',c =(none,())/\RI ltb κ a0 st' rs' (R3++R'.drop fo)/\rs'.flatten.length=rs.flatten.length) ?stp7 ?fin7 ⟨rs,rfl,rj,rfl⟩) ?post7)
    case fin7 =>
     rintro c st' hh
     exact hh
    case post7 =>
     rintro c st4 ⟨rs',rfl,rk,ef⟩
     dsimp only
     refine wpS_bind (wpS_modify (wpS_bind (wpS_modify (wpS_pure ⟨rs' ++ [R3],R'.drop fo,?_,(rk.mod _ _).push r1 r2 ef.symm l3.symm,?_⟩))))
     ·simp[l3,ef]
     ·have:=List.length_pos_iff.mpr r2
      rw[j5];omega
    case stp7 =>
     rintro x c st4 _ hx ⟨rs',rfl,rk,ef⟩
     have hpl:(pendingOf st4).size=rs'.length:=by rw[<- Array.length_toList,<- rk.offs.len]
     refine wpS_bind (wpS_get ?_)
     try dsimp only
     by_cases c5:(pendingOf st4).size > 1
     ·rw[if_pos c5]
      cases hq:(pendingOf st4)[(pendingOf st4).size-2]? with
      | none=>exact wpS_pure ⟨rs',rfl,rk,ef⟩
      | some t =>
       obtain⟨t1,t2,t3⟩:=t
       dsimp only
       split
       ·exact wpS_pure ⟨rs',rfl,rk,ef⟩
       ·refine wpS_bind (kU O hO hS rk (by omega) fun st5 rs5 r5 e1 e2=>?_)
        simp only[Bool.not_true,Bool.false_eq_true,if_false]
        exact wpS_pure ⟨rs5,rfl,r5,by omega⟩
     ·rw[if_neg c5]
      exact wpS_pure ⟨rs',rfl,rk,ef⟩
  ·rw[if_neg c2]
   have lT:(R'.take n).length=n:=by rw[List.length_take];omega
   have r1:=BZ rise (by omega)
   have r2:R'.take n ≠ []:=fun e=>by rw[e]at lT;simp at lT;omega
   have rj:RI ltb κ a0 st2 rs (R'.take n++R'.drop n):=⟨z.kind,z.fail,by rw[z.arr,List.take_append_drop],by
    rw[z.arr]
    refine List.Perm.trans ?_ ri.perm
    rw[ri.arr]
    exact List.Perm.append_left _ z.perm,by rw[z.pend];exact ri.offs,ri.rise⟩
   refine wpS_bind (wpS_get ?_)
   cases hb:(pendingOf st2).back? with
   | none =>
    dsimp only
    refine wpS_bind (wpS_modify (wpS_pure ⟨rs ++ [R'.take n],R'.drop n,?_,rj.push r1 r2 rfl lT.symm,?_⟩))
    ·simp[lT]
    ·have:=List.length_pos_iff.mpr r2
     rw[j5];omega
   | some t =>
    obtain⟨s1,k1,p1⟩:=t
    dsimp only
    refine wpS_bind (wpS_mono (wpS_forRange (I:=fun x c st'=>∃rs',c =(none,())/\RI ltb κ a0 st' rs' (R'.take n++R'.drop n)/\rs'.flatten.length=rs.flatten.length)
     (Q:=fun c st'=>∃rs',c =(none,())/\RI ltb κ a0 st' rs' (R'.take n++R'.drop n)/\rs'.flatten.length=rs.flatten.length) ?stp7 ?fin7 ⟨rs,rfl,rj,rfl⟩) ?post7)
    case fin7 =>
     rintro c st' hh
     exact hh
    case post7 =>
     rintro c st4 ⟨rs',rfl,rk,ef⟩
     dsimp only
     refine wpS_bind (wpS_modify (wpS_bind (wpS_modify (wpS_pure ⟨rs' ++ [R'.take n],R'.drop n,?_,(rk.mod _ _).push r1 r2 ef.symm lT.symm,?_⟩))))
     ·simp[lT,ef]
     ·have:=List.length_pos_iff.mpr r2
      rw[j5];omega
    case stp7 =>
     rintro x c st4 _ hx ⟨rs',rfl,rk,ef⟩
     have hpl:(pendingOf st4).size=rs'.length:=by rw[<- Array.length_toList,<- rk.offs.len]
     refine wpS_bind (wpS_get ?_)
     try dsimp only
     by_cases c5:(pendingOf st4).size > 1
     ·rw[if_pos c5]
      cases hq:(pendingOf st4)[(pendingOf st4).size-2]? with
      | none=>exact wpS_pure ⟨rs',rfl,rk,ef⟩
      | some t =>
       obtain⟨t1,t2,t3⟩:=t
       dsimp only
       split
       ·exact wpS_pure ⟨rs',rfl,rk,ef⟩
       ·refine wpS_bind (kU O hO hS rk (by omega) fun st5 rs5 r5 e1 e2=>?_)
        simp only[Bool.not_true,Bool.false_eq_true,if_false]
        exact wpS_pure ⟨rs5,rfl,r5,by omega⟩
     ·rw[if_neg c5]
      exact wpS_pure ⟨rs',rfl,rk,ef⟩
end
def ltI (x y:Keyed):Bool:=decide (numOf x.1<numOf y.1)
def Wn (x:Keyed):Prop:=∃n t,x.1=Value.int n t
theorem VD:eY ltI:=⟨fun {x y} h=>by
 have:numOf x.1<numOf y.1:=of_decide_eq_true h
 exact decide_eq_false (by omega),fun {x y z} h1 h2=>by
 have a1:¬ numOf y.1<numOf x.1:=of_decide_eq_false h1
 have a2:¬ numOf z.1<numOf y.1:=of_decide_eq_false h2
 exact decide_eq_false (by omega)⟩
section
variable {prog:Program}{w:World}{A:Around}{E:Value->Shared->Prop}{s:Shared}
theorem Pc:lJ prog w A E s ltI Wn oneType':=by
 intro x y st Q hx hy hk q
 obtain⟨n,t,e1⟩:=hx
 obtain⟨m,u,e2⟩:=hy
 rw[lt'_eq]
 refine wpS_bind (wpS_get ?_)
 rw[hk,keyLt'_oneType,e1,e2]
 refine wpS_bind (wpS_lift (wpAny_attempt (oneLt_int ⟨rfl,wpS_pure ?_⟩)))
 have:ltI x y=decide (n<m):=by unfold ltI;rw[e1,e2];rfl
 rw[<- this];exact q
theorem QG {xs:Array Keyed}(h:xs.toList.Pairwise (leB ltI)) (k:Nat) (hk:k=xs.size):SortedTo xs k:=by
 intro i j hij hj
 subst hk
 rw[K_eq (by omega),K_eq hj]
 by_cases e:i=j
 ·subst e;exact Int.le_refl _
 ·have:=List.pairwise_iff_getElem.mp h i j (by simp;omega) (by simpa using hj) (by omega)
  have q:¬ numOf xs[j].1<numOf xs[i].1:=by
   have:=of_decide_eq_false this
   simpa using this
  omega
theorem tN {a:Addr}{vs:List Value}{ns:List Int}{n:Nat}{Z:Fin->Shared->Prop}(ho:s.heap.get? a=some (seqObj "list" vs.toArray n)) (hI:IntsAre vs ns) (hv:vs.length<=100000)
  (hZ:∀(out:Array Value) (ms:List Int),IntsAre out.toList ms->ms.Perm ns->ms.Pairwise (· <= ·)->Z (.done (.ret .none)) { s with heap:=sortedHeap s.heap a vs out }) :
  wpAny (model prog w) A (Builtin.«list.sort» ⟨[.ref a],[]⟩) Z E s:=by
 by_cases h64:vs.length<64
 ·exact list_sort_tree ho hI h64 hZ
 have hline:(100000:Nat)<sizeLine:=by decide
 have lt0:=Heap.lt_size ho
 rw[list_sort_plain]
 refine(wpAny_bind (listItems_at ho rfl ?_))
 refine(wpAny_bind (listUpdate_at ho rfl ?_ (by simp;omega)))
 obtain⟨k1,hk1⟩ : ∃k1,(s.heap.update a (Obj.mapSeq fun _=>#[])).get? a=some (seqObj "list" #[] k1):=⟨_,(get?_update_seq ho (fun _=>#[]))⟩
 refine(wpAny_bind (seqEpoch_at hk1 rfl ?_))
 refine(wpAny_bind (wpAny_newTuple ?_ (by simp;omega)))
 refine(wpAny_bind (wpAny_newList ?_))
 refine(wpAny_holding ?_)
 have hk6:(((s.heap.update a (Obj.mapSeq fun _=>#[])).push (seqObj "tuple" vs.toArray 0)).push (seqObj "list" #[] 0)).get? a=some (seqObj "list" #[] k1):=(by
  rw[Heap.get?_push_ne _ _ _ (by rw[size_push',Heap.size_update];exact Nat.ne_of_lt (Nat.lt_succ_of_lt lt0)),Heap.get?_push_ne _ _ _ (by rw[Heap.size_update];exact Nat.ne_of_lt lt0)]
  exact hk1)
 show wpAny (model prog w) A _ Z E { s with heap:=((s.heap.update a (Obj.mapSeq fun _=>#[])).push (seqObj "tuple" vs.toArray 0)).push (seqObj "list" #[] 0) }
 dsimp only
 have two:¬ vs.toArray.size<2:=by simp;omega
 rw[if_neg two,if_neg two]
 obtain⟨v,u,r,rfl⟩ : ∃v u r,vs=v::u::r:=by
  cases vs with
  | nil=>simp at h64
  | cons v vs=>cases vs with
   | nil=>simp at h64
   | cons u r=>exact⟨v,u,r,rfl⟩
 rw[keyKind_ints hI]
 refine(wpAny_bind (wpAny_pure ?_))
 have a0S:∀x∈(pairsOf (v::u::r)).toList,Wn x:=hI.intKeys
 refine wpAny_bind (wpAny_mono (uq VD Pc (st:=SortSt.mk' oneType' ((v::u::r).toArray.zip (v::u::r).toArray) #[] 7 none) (a0:=(pairsOf (v::u::r)).toList) (Q:=fun _ st'=>(arrOf st').toList.Perm (pairsOf (v::u::r)).toList/\(arrOf st').toList.Pairwise (leB ltI)/\failedOf st'=none) rfl rfl rfl rfl a0S fun st' b1 b2 b3=>⟨b1,b2,b3⟩) ?_ fun _ _ e=>e)
 rintro⟨⟨⟩,st'⟩ s' ⟨rfl,b1,b2,b3⟩
 dsimp only
 have hp:(arrOf st').Perm (pairsOf (v::u::r)):=Array.perm_iff_toList_perm.mpr b1
 have hsz:=hp.size_eq
 refine(wpAny_bind (seqEpoch_at hk6 rfl ?_))
 refine wpAny_bind (listUpdate_at hk6 rfl ?_ (hsz2:=by
  rw[Array.size_map,hsz,pairsOf_size];omega))
 rw[b3]
 simp only[bne_self_eq_false,Bool.false_eq_true,if_false]
 obtain⟨ms,c1,c2,c3⟩:=sorted_out hI hp (QG b2 _ hsz.symm)
 exact wpAny_pure (hZ _ ms c1 c2 c3)
theorem yK {l:Addr}{vs:List Value}{ns:List Int}{Q:Value->Shared->Prop}(hl:s.heap.IsList l vs.toArray) (hI:IntsAre vs ns) (hv:vs.length<=100000)
  (hQ:∀(out:Array Value) (ms:List Int),IntsAre out.toList ms->ms.Perm ns->ms.Pairwise (· <= ·)->Q (.ref (s.heap.objs.size+1)) { s with heap:=sortedAll s.heap vs out }) :
  wpAny (model prog w) A (call (.builtin "sorted") [.ref l]) Q E s:=by
 have hline:(100000:Nat)<sizeLine:=by decide
 refine(Calls.call_function_entry kind_sorted plain_sorted entry_sorted (args_sorted1 _) ?_)
 unfold Builtin.«sorted»
 refine(wpAny_bind (m:=checkCount "sorted" 1 1 _) (wpAny_pure ?_))
 refine(wpAny_bind (collect_list hl ?_ (by omega)))
 refine(wpAny_bind (wpAny_newList ?_ (by first|omega|(simp;omega))))
 have sz1:((s.heap.push (seqObj "list" #[] 0)).update s.heap.objs.size (Obj.mapSeq (· ++ vs.toArray))).objs.size=s.heap.objs.size+1:=(by rw[Heap.size_update,size_push'])
 have at1:(((s.heap.push (seqObj "list" #[] 0)).update s.heap.objs.size (Obj.mapSeq (· ++ vs.toArray))).push (seqObj "list" vs.toArray 0)).get? (s.heap.objs.size+1)=some (seqObj "list" vs.toArray 0):=(by
  rw[<- sz1];exact Heap.get?_push_size _ rfl)
 show wpAny _ _ _ _ E { s with heap:=((s.heap.push (seqObj "list" #[] 0)).update s.heap.objs.size (Obj.mapSeq (· ++ vs.toArray))).push (seqObj "list" vs.toArray 0) }
 rw[sz1]
 refine wpAny_bind (wpAny_holding (wpAny_call_entry slot_list_sort ⟨_,at1,rfl⟩ entry_list_sort (tN at1 hI hv fun out ms c1 c2 c3=>⟨_,rfl,?_⟩) (args_list_sort _)))
 exact wpAny_pure ⟨_,rfl,hQ out ms c1 c2 c3⟩
end
section
variable {X:Cx}
def D7 (K:W.Frag):List V->Hp->VK->Prop:=fun xs H Q=>∃a ns,xs=[.ref a]/\bN K H a (List.map V.int ns)/\ns.length<=100000/\∀ms l,ms.Perm ns->ms.Pairwise (· <= ·)->H l=none->Q (.ref l) (upd H l (.lst (List.map V.int ms)))
theorem pW:cG X (.builtin "sorted") (D7 X.K):=by
 intro pins s σ H xs us Q I r h
 obtain⟨a,ns,rfl,hq,hn,q⟩:=h
 obtain⟨u,rfl,r1⟩:=vals1 r
 cases (show u=Value.ref a from r1)
 obtain⟨its,rv,pl,hz⟩:=I.list hq
 have hi:IntsAre its ns:=intsAre_of rv
 refine yK pl.isList hi (by rw[hi.length];exact hn) fun out ms c1 c2 c3=>?_
 obtain⟨e,he⟩:=sortedAll_at s.heap its out
 have hz2:(List.map V.int ms).length<=sizeLine:=by
  have hline:(100000:Nat)<sizeLine:=by decide
  rw[List.length_map,c2.length_eq];omega
 exact⟨.ref (s.heap.objs.size+1),_,I.laid (t':=s.toks) (fun b o hb=>sortedAll_old hb) (Nat.le_succ _) (o:=.lst (List.map V.int ms)) ⟨hz2,out.toList,e,jZ c1,by simpa using he⟩,rfl,q ms _ c2 c3 (I.hok.fresh (Nat.le_succ _))⟩
theorem wD {K:W.Frag}{H:Hp}{Q:VK}{a:Addr}{ns:List Int}(h:bN K H a (ns.map V.int)) (n:ns.length<=100000) (q:∀(ms:List Int) (l:Addr),ms.Perm ns->ms.Pairwise (· <= ·)->H l=none->Q (.ref l) (upd H l (.lst (ms.map V.int)))):D7 K [.ref a] H Q:=⟨a,ns,rfl,h,n,q⟩
end
def P5:TS:=fun _ _ _=>False
theorem AZ {X:Cx}{st:Stmt}:PS X st P5:=fun _ _ _ _ _ _ h=>h.elim
theorem N3 {i:Nat}{te:TE}{ti:Lj}{D:Ends}{σ:St}{H:Hp}{x:V}(h:σ[i]? = some (some x)) (q:te σ H fun y H1=>ti x y H1 fun z H2=>D.nx (σ.set i (some z)) H2):PM i te ti D σ H:=⟨x,h,q⟩
section
variable {σ:St}{H:Hp}{Q:VK}{D:Ends}
theorem IW {td ty tv:TE}(h:tv σ H fun v H1=>td σ H1 fun x H2=>ty σ H2 fun y H3=>∃a H4,x = .ref a/\sd H3 a y v H4/\D.nx σ H4):LK td ty tv D σ H:=h
theorem E8 (h:∀p,H p=none->Q (.ref p) (upd H p (.dK []))):Ep σ H Q:=h
end
section
variable {X:Cx}{pins:List (Addr×Obj)}{σ:St}{H:Hp}{s:Shared}{h':Heap}
theorem Inv.adopt {t':Nat}{ch:List Addr}{a:Addr}{o:HO}(I:Inv X pins σ H s) (k:∀b o,b∉ch->s.heap.get? b=some o->h'.get? b=some o) (f:∀b∈ch,oZ X pins H b)
  (ha:a∈ch) (new:cH X.prog X.w (upd H a o) h' a o):Inv X pins σ (upd H a o) { s with heap:=h',toks:=t' }:=by
 have nit:∀b u,H b=some u->b∉ch:=fun b u e z=>by rw[(f b z).1]at e;cases e
 have hn:=(f a ha).1
 have up:∀b u,H b=some u->upd H a o b=some u:=fun b u q=>by rw[az (ay q hn)];exact q
 refine I.step (g':=s.gens) (d':=s.drawn) (ch:=ch) (fun b hb=>?_) (fun b o _ _ hc e _=>k b o hc e) (fun b o _ _ hc e _=>⟨o.slots,k b o hc e⟩) (fun b ob hc e n=>by rw[az (show b≠a from fun z=>hc (by rw[z];exact ha))];exact n) (fun b o hc e=>⟨o,k b o hc e⟩) (fun b xs e=>up _ _ e) (fun b ob u e=>up _ _ e)
  (fun b ps e=>⟨#[],by rw[up _ _ e];simp⟩) (fun m hm=>?_) (fun b u e=>?_) I.bare
 ·obtain⟨f0,f1,f2,f3,f4,f5⟩:=f b hb
  exact⟨f3,f1,f4,f5⟩
 ·obtain⟨o,es,ep,ho,r⟩:=hm
  exact⟨o,es,ep,k _ o (fun z=>(f _ z).2.1 rfl) ho,r⟩
 ·by_cases hb:b=a
  ·subst hb;rw[aA]at e;cases e;exact new
  ·rw[az hb]at e
   refine(I.hok b u e).stay (fun c v hc q=>k c v ?_ q) (fun c q=>up _ _ q) fun c xs q=>up _ _ q
   rcases hc with z|z
   ·rw[z];exact nit b u e
   ·exact nit c _ z
variable {A:Around}{E:Value->Shared->Prop}
end
def WC (K:W.Frag) (x:Str):Addr:=match PySem.W.tabIn K x with
 | some (_,P)=>P
 | none=>0
theorem KV.get {κ:Type}:∀{kvs:List (κ×V)}{vs:List (κ×Value)}{i:Nat}{p:κ×V},KV kvs vs->kvs[i]? = some p->∃u,vs[i]? = some (p.1,u)/\RelV p.2 u
 | _,_,_,_,.nil,e=>by simp at e
 | _,_,0,_,.cons (b:=b) r _,e=>by
  simp at e;subst e
  exact⟨b.2,by rw[r.1];rfl,r.2⟩
 | _,_,i+1,p,.cons _ t,e=>by
  obtain⟨u,h1,h2⟩:=KV.get (i:=i) (p:=p) t (by simpa using e)
  exact⟨u,by simpa using h1,h2⟩
section
variable {X:Cx}
def P8:List V->Hp->VK->Prop:=fun xs H Q=>∃i j,xs=[.int i,.int j]/\∀r,H r=none->Q (.ref r) (upd H r (.rng i j))
theorem CC:cG X (.type "range") P8:=by
 intro pins s σ H xs us Q I r h
 obtain⟨i,j,rfl,q⟩:=h
 obtain⟨u,v,rfl,rx,ry⟩:=vals2 r
 obtain⟨t,rfl⟩:=rx
 obtain⟨t',rfl⟩:=ry
 refine call_range_2 ⟨.ref s.heap.objs.size,_,I.laid (fun b u e=>Heap.get?_push_of_some _ e) (Nat.le_refl _) (o:=.rng i j) ?_,rfl,q _ (I.hok.fresh (Nat.le_refl _))⟩
 exact⟨_,_,_,Heap.get?_push_size _ rfl⟩
def gq (lo:Int) (n:Nat):List Int:=(List.range n).map fun(i:Nat)=>lo+(i:Int)
def IB:List V->Hp->VK->Prop:=fun xs H Q=>∃r i j,xs=[.ref r]/\H r=some (.rng i j)/\0<=i/\i<=100000/\i<=j/\j<=100000/\∀l,H l=none->Q (.ref l) (upd H l (.lst ((gq i (j-i).toNat).map V.int)))
theorem qV {lo:Int}{n:Nat}{acc:Array Value}(h:ItemsOf (fun i v=>∃t,v=Value.int (lo+i*1) t) acc n):Vals ((gq lo n).map V.int) acc.toList:=by
 obtain⟨hs,hi⟩:=h
 have key:∀(m:Nat) (l:List Value),l.length=m->(∀(i:Nat) v,l[i]? = some v->∃t,v=Value.int (lo+(i:Int)*1) t)->Vals ((gq lo m).map V.int) l:=by
  intro m
  induction m with
  | zero=>intro l hl _;cases l with
   | nil=>exact .nil
   | cons a b=>cases hl
  | succ m ih =>
   intro l hl hv
   have hne:l ≠ []:=by intro z;rw[z]at hl;cases hl
   have hd:l=l.dropLast ++ [l.getLast hne]:=(List.dropLast_concat_getLast hne).symm
   have e:(gq lo (m+1)).map V.int =(gq lo m).map V.int ++ [V.int (lo+(m:Int))]:=by
    unfold gq
    rw[List.range_succ,List.map_append,List.map_append];rfl
   rw[e,hd]
   refine Vals.append (ih _ (by rw[List.length_dropLast,hl];rfl) fun i v hh=>hv i v ?_) (.cons ?_ .nil)
   ·have:i<l.dropLast.length:=(List.getElem?_eq_some_iff.mp hh).1
    rw[hd,List.getElem?_append_left this];exact hh
   ·obtain⟨t,ht⟩:=hv m (l.getLast hne) (by
     rw[List.getLast_eq_getElem,<- List.getElem?_eq_getElem]
     congr 1
     omega)
    exact⟨t,by rw[ht];congr 1;omega⟩
 refine key n acc.toList (by rw[<- hs];simp) fun i v hh=>?_
 exact hi i v (by simpa using hh)
theorem xo (hc:X.calm=true):cG X (.type "list") IB:=by
 intro pins s σ H xs us Q I r h
 obtain⟨a,i,j,rfl,ha,hi0,hi1,hij,hj,q⟩:=h
 obtain⟨u,rfl,rx⟩:=vals1 r
 cases rx
 obtain⟨t,u,v,e⟩:=I.hok _ _ ha
 have hn:Builtin.Range.rangeSize i j 1 =((j-i).toNat:Nat):=by rw[rangeSize_one];split <;> omega
 ·refine call_list_range (n:=(j-i).toNat) (I.ok.hd hc) e (small_one (by omega) (by omega) (by omega) (by omega)) hn (by omega) fun h' tk acc c hk hD hI=>?_
  have hv:=qV hI
  have hz:((gq i (j-i).toNat).map V.int).length<=sizeLine:=by
   rw[List.length_map];unfold gq;rw[List.length_map,List.length_range]
   have:(100000:Nat)<=sizeLine:=by decide
   omega
  refine⟨.ref s.heap.objs.size,_,I.laid (t':=tk) hk (Nat.le_refl _) (o:=.lst ((gq i (j-i).toNat).map V.int)) ⟨hz,acc.toList,c,hv,by simpa using hD⟩,rfl,q _ (I.hok.fresh (Nat.le_refl _))⟩
end
def tE (h:Heap) (v:Value) (k:Int):Prop:=∃(a:Addr) (o:Obj) (n:Nat) (t:Tok) (rest:List Value),v = .ref a/\h.get? a=some o/\o.cls = .type "tuple"/\o.data = .seq (Value.int k t::rest).toArray n
def Qf (kf:Value->Int) (x y:Keyed):Bool:=decide (kf x.1<kf y.1)
theorem SI (kf:Value->Int):eY (Qf kf):=⟨fun {x y} h=>by
 have:kf x.1<kf y.1:=of_decide_eq_true h
 exact decide_eq_false (by omega),fun {x y z} h1 h2=>by
 have a1:¬ kf y.1<kf x.1:=of_decide_eq_false h1
 have a2:¬ kf z.1<kf y.1:=of_decide_eq_false h2
 exact decide_eq_false (by omega)⟩
theorem sN (b:Bool) (x y:Value):keyLt' (tuples' b) x y =(do
  let xs <- Builtin.List.listItems x;let ys <- Builtin.List.listItems y
  for ((p,q),i) in(xs.toList.zip ys.toList).zipIdx do
   if !(<- eqBool p q) then return <- oneLt' (b && i == 0) p q
  return decide (xs.size<ys.size)):=rfl
section
variable {prog:Program}{w:World}{A:Around}{E:Value->Shared->Prop}{s:Shared}
theorem oB {v:Value}{Q:Bool->Shared->Prop}(q:Q true s):wpAny (model prog w) A (eqBool v v) Q E s:=by
 unfold eqBool
 refine wpAny_holding ?_
 rw[if_pos (by simp)]
 refine wpAny_bind (wpAny_rule ?_)
 exact wpAny_pure q
theorem tQ {b:Bool}{E':Value->Shared->Prop}:∀(l:List Value) (i:Nat) (Q:Option Bool×Unit->Shared->Prop),Q (none,()) s->wpAny (model prog w) A (forIn ((l.zip l).zipIdx i) ((none,()):Option Bool×Unit) fun x __s=>do
   let __do_lift <- eqBool x.1.fst x.1.snd
   if (!__do_lift)=true then do
     let __do_lift <- oneLt' (b && x.snd == 0) x.1.fst x.1.snd
     pure (ForInStep.done (some __do_lift,()))
    else pure (ForInStep.yield (none,()))) Q E' s
 | [],i,Q,q=>by
  show wpAny (model prog w) A (pure (none,())) Q E' s
  exact wpAny_pure q
 | v::l,i,Q,q=>by
  simp only[List.zip_cons_cons,List.zipIdx_cons,List.forIn_cons]
  refine wpAny_bind (wpAny_bind (oB ?_))
  rw[if_neg (by simp)]
  refine wpAny_pure ?_
  exact tQ l (i+1) Q q
theorem O0 {kf:Value->Int}{a0:List Keyed}(hT:∀x∈a0,tE s.heap x.1 (kf x.1)) (hN:∀x∈a0,∀y∈a0,kf x.1=kf y.1->x.1=y.1):lJ prog w A E s (Qf kf) (fun x=>x∈a0) (tuples' true):=by
 intro x y st Q hx hy hk q
 obtain⟨a,o,n,t,rest,e1,g1,c1,d1⟩:=hT x hx
 obtain⟨a',o',n',t',rest',e2,g2,c2,d2⟩:=hT y hy
 have hxy:=hN x hx y hy
 rw[lt'_eq]
 refine wpS_bind (wpS_get ?_)
 rw[hk,sN]
 have hq:Qf kf x y=decide (kf x.1<kf y.1):=rfl
 generalize kf x.1=k1 at *
 generalize kf y.1=k2 at *
 rw[e1,e2]
 refine wpS_bind (wpS_lift (wpAny_attempt (wpAny_bind (listItems_at g1 d1 (wpAny_bind (listItems_at g2 d2 ?_))))))
 simp only[List.zip_cons_cons,List.zipIdx_cons,List.forIn_cons]
 by_cases c:k1=k2
 ·have exy:=hxy c
  rw[e1,e2]at exy
  cases exy
  rw[g1]at g2
  cases g2
  rw[d1]at d2
  cases d2
  refine wpAny_bind (wpAny_bind (wpAny_bind (oB ?_)))
  rw[if_neg (by simp)]
  refine wpAny_pure (tQ rest _ _ ?_)
  refine wpAny_pure ⟨rfl,wpS_pure ?_⟩
  have e:decide ((Value.int k1 t::rest).toArray.size <(Value.int k1 t::rest).toArray.size)=Qf kf x y:=by rw[hq];simp
  rw[e];exact q
 ·refine wpAny_bind (wpAny_bind (wpAny_bind (wpAny_eqBool_int ?_)))
  rw[if_pos (by simp[c])]
  refine wpAny_bind (oneLt_int (wpAny_pure ?_))
  refine wpAny_pure (wpAny_pure ⟨rfl,wpS_pure ?_⟩)
  rw[<- hq];exact q
theorem Cm {v:Value}{k:Int}{Q:Option Value->Shared->Prop}(h:tE s.heap v k) (q:∀t,Q (some (.int k t)) s):wpAny (model prog w) A (firstOfTuple' v) Q E s:=by
 obtain⟨a,o,n,t,rest,rfl,g1,c1,d1⟩:=h
 show wpAny (model prog w) A (do
  if (<- typeOf (.ref a)) != .type "tuple" then return none
  return (<- Builtin.List.listItems (.ref a))[0]?) Q E s
 refine wpAny_bind (wpAny_typeOf_ref g1 ?_)
 rw[c1,if_neg (by simp)]
 refine wpAny_bind (listItems_at g1 d1 (wpAny_pure ?_))
 exact q t
theorem qJ:∀{vs:List Value}{ks:List Int}{Q:List (Option Value)->Shared->Prop},(∀p∈vs.zip ks,tE s.heap p.1 p.2)->vs.length=ks.length->(∀us:List Value,IntsAre us ks->Q (us.map some) s)->wpAny (model prog w) A (vs.mapM firstOfTuple') Q E s
 | [],[],Q,_,_,q=>by
  rw[List.mapM_nil]
  exact wpAny_pure (q [] .nil)
 | [],_::_,_,_,l,_=>by cases l
 | _::_,[],_,_,l,_=>by cases l
 | v::vs,k::ks,Q,h,l,q=>by
  rw[List.mapM_cons]
  refine wpAny_bind (Cm (h (v,k) (by simp)) fun t=>?_)
  refine wpAny_bind (qJ (ks:=ks) (fun p hp=>h p (by simp[hp])) (by simpa using l) fun us hu=>?_)
  exact wpAny_pure (q (.int k t::us) (.cons k t hu))
theorem HY {us:List Value}{k:Int}{ks:List Int}(h:IntsAre us (k::ks)):oneTypeOnly' us.toArray=pure (some (.type "int")):=by
 rw[oneTypeOnly'_eq,List.mapM_toArray,mapM_typeOf_ints h]
 simp only[map_pure,pure_bind]
 cases h with
 | cons n t h =>
  have hall:∀l:List Value,((List.map (fun _=>Value.type "int") l).toArray.all fun x=>x == Value.type "int")=true:=fun l=>by
   simp only[List.all_toArray,List.all_map,List.all_eq_true]
   intro _ _
   rfl
  have h0:∀(u:Value) (l:List Value),(List.map (fun _=>Value.type "int") (u::l)).toArray[0]? = some (Value.type "int"):=fun _ _=>by simp
  rw[h0]
  simp only[hall,if_true]
theorem vM {vs:List Value}{k:Int}{ks:List Int}{Q:SortKind->Shared->Prop}(h:∀p∈vs.zip (k::ks),tE s.heap p.1 p.2) (l:vs.length =(k::ks).length) (q:Q (tuples' true) s):wpAny (model prog w) A (keyKind' vs.toArray) Q E s:=by
 rw[keyKind'_eq,List.mapM_toArray]
 refine wpAny_bind ?_
 refine wpAny_map ?_
 refine qJ h l fun us hu=>?_
 rw[if_pos (by simp)]
 refine wpAny_bind (wpAny_rule ?_)
 have e:(us.map some).toArray.filterMap id=us.toArray:=by simp
 rw[e,HY hu]
 refine wpAny_bind (wpAny_pure ?_)
 exact wpAny_pure q
theorem tE.keep {h h':Heap}{v:Value}{k:Int}(t:tE h v k) (f:∀a o,o.cls = .type "tuple"->h.get? a=some o->h'.get? a=some o):tE h' v k:=by
 obtain⟨a,o,n,t,rest,e,g,c,d⟩:=t
 exact⟨a,o,n,t,rest,e,f a o c g,c,d⟩
theorem jg {vs:List Value}:∀{p:Value×Value},p∈vs.zip vs->p.1=p.2/\p.1∈vs:=fun h=>mem_zip_self h
theorem OT {kf:Value->Int}:∀{l:List Value}{p:Value×Int},p∈l.zip (l.map kf)->p.1∈l/\p.2=kf p.1
 | [],_,h=>by simp at h
 | v::l,p,h=>by
  rw[List.map_cons,List.zip_cons_cons]at h
  rcases List.mem_cons.mp h with z|z
  ·rw[z];exact⟨List.mem_cons_self,rfl⟩
  ·obtain⟨a,b⟩:=OT z
   exact⟨List.mem_cons_of_mem _ a,b⟩
theorem zV {kf:Value->Int}{a:Addr}{vs:List Value}{n:Nat}{Z:Fin->Shared->Prop}(ho:s.heap.get? a=some (seqObj "list" vs.toArray n)) (hT:∀v∈vs,tE s.heap v (kf v)) (hN:∀v∈vs,∀u∈vs,kf v=kf u->v=u) (hv:vs.length<=100000)
  (hZ:∀out:Array Value,out.toList.Perm vs->out.toList.Pairwise (fun u v=>kf u<=kf v)->Z (.done (.ret .none)) { s with heap:=sortedHeap s.heap a vs out }) :
  wpAny (model prog w) A (Builtin.«list.sort» ⟨[.ref a],[]⟩) Z E s:=by
 have hline:(100000:Nat)<sizeLine:=by decide
 have lt0:=Heap.lt_size ho
 rw[list_sort_plain]
 refine(wpAny_bind (listItems_at ho rfl ?_))
 refine(wpAny_bind (listUpdate_at ho rfl ?_ (by simp;omega)))
 obtain⟨k1,hk1⟩ : ∃k1,(s.heap.update a (Obj.mapSeq fun _=>#[])).get? a=some (seqObj "list" #[] k1):=⟨_,(get?_update_seq ho (fun _=>#[]))⟩
 refine(wpAny_bind (seqEpoch_at hk1 rfl ?_))
 refine(wpAny_bind (wpAny_newTuple ?_ (by simp;omega)))
 refine(wpAny_bind (wpAny_newList ?_))
 refine(wpAny_holding ?_)
 have hk6:(((s.heap.update a (Obj.mapSeq fun _=>#[])).push (seqObj "tuple" vs.toArray 0)).push (seqObj "list" #[] 0)).get? a=some (seqObj "list" #[] k1):=(by
  rw[Heap.get?_push_ne _ _ _ (by rw[size_push',Heap.size_update];exact Nat.ne_of_lt (Nat.lt_succ_of_lt lt0)),Heap.get?_push_ne _ _ _ (by rw[Heap.size_update];exact Nat.ne_of_lt lt0)]
  exact hk1)
 have keep:∀b o,o.cls = .type "tuple"->s.heap.get? b=some o->(((s.heap.update a (Obj.mapSeq fun _=>#[])).push (seqObj "tuple" vs.toArray 0)).push (seqObj "list" #[] 0)).get? b=some o:=fun b o hc hb=>by
  have hlt:=Heap.lt_size hb
  have nb:b≠a:=fun z=>by
   subst z
   rw[ho]at hb
   cases hb
   exact absurd (show Value.type "list" = Value.type "tuple" from hc) (by decide)
  rw[Heap.get?_push_ne _ _ _ (by rw[size_push',Heap.size_update];exact Nat.ne_of_lt (Nat.lt_succ_of_lt hlt)),Heap.get?_push_ne _ _ _ (by rw[Heap.size_update];exact Nat.ne_of_lt hlt),Heap.get?_update_ne _ _ _ _ nb]
  exact hb
 show wpAny (model prog w) A _ Z E { s with heap:=((s.heap.update a (Obj.mapSeq fun _=>#[])).push (seqObj "tuple" vs.toArray 0)).push (seqObj "list" #[] 0) }
 dsimp only
 by_cases two:vs.toArray.size<2
 ·rw[if_pos two,if_pos two]
  refine(wpAny_bind (wpAny_pure ?_))
  refine wpAny_bind ?_
  show wpAny (model prog w) A (pure ((),SortSt.mk' general' (vs.toArray.zip vs.toArray) #[] 7 none)) _ _ _
  refine wpAny_pure ?_
  refine(wpAny_bind (seqEpoch_at hk6 rfl ?_))
  have ev:(vs.toArray.zip vs.toArray).map (·.2)=vs.toArray:=by
   apply Array.ext'
   rw[Array.toList_map,Array.toList_zip,List.map_snd_zip (by simp)]
  refine wpAny_bind (listUpdate_at hk6 rfl ?_ (hsz2:=by
   rw[show arrOf (SortSt.mk' general' (vs.toArray.zip vs.toArray) #[] 7 none)=vs.toArray.zip vs.toArray from rfl,ev];simp;omega))
  dsimp only
  rw[show arrOf (SortSt.mk' general' (vs.toArray.zip vs.toArray) #[] 7 none)=vs.toArray.zip vs.toArray from rfl,ev]
  simp only[bne_self_eq_false,Bool.false_eq_true,if_false]
  refine wpAny_pure (hZ _ (by simp) ?_)
  match vs,two with
  | [],_=>simp
  | [_],_=>simp
  | _::_::_,h=>simp at h;omega
 ·rw[if_neg two,if_neg two]
  obtain⟨v,r,rfl⟩ : ∃v r,vs=v::r:=by
   cases vs with
   | nil=>simp at two
   | cons v r=>exact⟨v,r,rfl⟩
  refine wpAny_bind (vM (k:=kf v) (ks:=r.map kf) (fun p hp=>?_) (by simp) ?_)
  ·obtain⟨m1,m2⟩:=OT (l:=v::r) (p:=p) (by simpa using hp)
   rw[m2]
   exact(hT _ m1).keep keep
  have a0T:∀x∈(pairsOf (v::r)).toList,tE (((s.heap.update a (Obj.mapSeq fun _=>#[])).push (seqObj "tuple" (v::r).toArray 0)).push (seqObj "list" #[] 0)) x.1 (kf x.1):=fun x hx=>by
   rw[pairsOf_toList]at hx
   exact(hT _ (jg hx).2).keep keep
  have a0N:∀x∈(pairsOf (v::r)).toList,∀y∈(pairsOf (v::r)).toList,kf x.1=kf y.1->x.1=y.1:=fun x hx y hy=>by
   rw[pairsOf_toList]at hx hy
   exact hN _ (jg hx).2 _ (jg hy).2
  refine wpAny_bind (wpAny_mono (uq (SI kf) (O0 a0T a0N) (st:=SortSt.mk' (tuples' true) ((v::r).toArray.zip (v::r).toArray) #[] 7 none) (a0:=(pairsOf (v::r)).toList) (Q:=fun _ st'=>(arrOf st').toList.Perm (pairsOf (v::r)).toList/\(arrOf st').toList.Pairwise (leB (Qf kf))/\failedOf st'=none) rfl rfl rfl rfl (fun x hx=>hx) fun st' b1 b2 b3=>⟨b1,b2,b3⟩) ?_ fun _ _ e=>e)
  rintro⟨⟨⟩,st'⟩ s' ⟨rfl,b1,b2,b3⟩
  dsimp only
  have hp:(arrOf st').Perm (pairsOf (v::r)):=Array.perm_iff_toList_perm.mpr b1
  have hsz:=hp.size_eq
  refine(wpAny_bind (seqEpoch_at hk6 rfl ?_))
  refine wpAny_bind (listUpdate_at hk6 rfl ?_ (hsz2:=by
   rw[Array.size_map,hsz,pairsOf_size];omega))
  rw[b3]
  simp only[bne_self_eq_false,Bool.false_eq_true,if_false]
  refine wpAny_pure (hZ _ ?_ ?_)
  ·rw[Array.toList_map]
   have:=b1.map (·.2)
   rw[pairsOf_toList]at this
   refine this.trans ?_
   rw[List.map_snd_zip (by simp)]
  ·rw[Array.toList_map,List.pairwise_map]
   refine b2.imp_of_mem fun {x y} hx hy h=>?_
   have ex:=jg (by rw[<- pairsOf_toList];exact b1.mem_iff.mp hx)
   have ey:=jg (by rw[<- pairsOf_toList];exact b1.mem_iff.mp hy)
   rw[<- ex.1,<- ey.1]
   have:=of_decide_eq_false h
   omega
end
section
variable {X:Cx}
theorem uG:∀(ts:List Addr),Vals (ts.map V.ref) (ts.map Value.ref)
 | []=>.nil
 | t::ts=>.cons rfl (uG ts)
end
end L2
namespace PySem
namespace F
end F
end PySem
namespace L2
open PySem PySem.Spec PyProof.Rows
section
variable {prog:Program}{w:World}{κ:Type} [DecidableEq κ] {knd:KeyKind prog w κ}{A:Around}{E:Value->Shared->Prop}{s:Shared}
inductive v5 (knd:KeyKind prog w κ) (h:Heap):List Value->List (κ×Value)->Prop
 | nil:v5 knd h [] []
 | cons {a:Addr}{o:Obj}{n:Nat}{key val:Value}{k:κ}{vs:List Value}{rs:List (κ×Value)}:h.get? a=some o->o.cls = .type "tuple"->o.data = .seq #[key,val] n->knd.is k key=true->v5 knd h vs rs->v5 knd h (.ref a::vs) ((k,val)::rs)
end
theorem Hw {td ty:TE}{σ:St}{H:Hp}{Q:VK}(h:td σ H fun x H1=>ty σ H1 fun y H2=>∃a v,x = .ref a/\f9 H2 a y (some v)/\Q v H2):Ll td ty σ H Q:=h
theorem LL {P:Program}{w:World}{k:Key}{u:Value}(h:(bE P w).is k u=true):RelV (kV k) u:=by
 rw[zC]at h
 rcases cj h with⟨i,t,rfl,rfl⟩|⟨x,t,rfl,rfl⟩
 ·exact⟨t,rfl⟩
 ·exact⟨t,rfl⟩
section
variable {prog:Program}{w:World}{κ:Type} [DecidableEq κ] {knd:KeyKind prog w κ}{A:Around}{E:Value->Shared->Prop}{s:Shared}
theorem CO {d:Addr}{kvs:List (κ×Value)}{Q:Bool->Shared->Prop}(hm:s.heap.DictOf knd d kvs) (h:Q false s):wpAny (model prog w) A (Builtin.List.listLengthHint (.ref d)) Q E s:=by
 unfold Builtin.List.listLengthHint
 refine wpAny_bind (wpAny_specialOf hm.typeIs F.slot_dict_len.lookup ?_)
 generalize hid:("dict.__len__" : String)=id0
 wp_delta
 rw[show splitId id0=some ("dict", "__len__") from by subst hid;z_go]
 subst hid
 refine wpAny_bind (wpAny_isInstance (T := "dict") (b:=true) hm.typeIs (by rw[isSubtype_type];kernel_rfl) ?_)
 refine wpAny_ite_split (fun hab=>absurd hab (by decide)) (fun _=>?_)
 refine wpAny_ite_split (fun _=>?_) (fun hab=>absurd (by z_go) hab)
 refine wpAny_bind (wpAny_typeOf hm.typeIs ?_)
 exact wpAny_pure h
theorem oh {R:Result->Shared->Prop}{d:Addr}{kvs:List (κ×Value)}(hh:A.handled=none) (hd:(d == sysModules)=false) (hm:s.heap.DictOf knd d kvs) (hlen:kvs.length<=2^24) (S:Addr) (res:Value) (c₀:Nat) (hS:s.heap.get? S=some { cls:=.type "list",data:=.seq #[] c₀ })
  (hR:∀h' tk acc' c',(∀b o,b≠S->s.heap.get? b=some o->h'.get? b=some o)->h'.get? S=some { cls:=.type "list",dict:=none,data:=.seq acc' c',slots:=#[] } ->
   ItemsOf (fun i v=>∃k x,kvs[i]? = some (k,x)/\knd.is k v=true) acc' kvs.length->R (.ok (.ret res)) { s with heap:=h',toks:=tk }) :
  wpAny (model prog w) A.in1 (Builtin.List.listExtendWith (.ref S) (.ref d) res)
   (fun fin s'=>match fin with | .done f=>R (.ok f) s' | .again c'=>c'.quiet=true/\codeAny (model prog w) A c' R s') (fun e s'=>R (.error e) s') s:=by
 obtain⟨ep,hA⟩:=hm.dictAt
 obtain⟨od,es,god,_⟩:=id hA
 have hSd:S≠d:=fun e=>by
  have h1:=hm.typeIs
  rw[<- e]at h1
  obtain⟨o',g',c'⟩:=h1
  rw[hS]at g'
  cases g'
  exact absurd (show Value.type "list" = Value.type "dict" from c') (by decide)
 have hSlt:S<s.heap.objs.size:=Heap.lt_size hS
 have hSI:S≠s.heap.objs.size:=Nat.ne_of_lt hSlt
 have hdI:d≠s.heap.objs.size:=Nat.ne_of_lt (Heap.lt_size god)
 have hSf:S ∉ [s.heap.objs.size,d]:=fun hm=>by
  rcases List.mem_cons.mp hm with z|z
  ·exact hSI z
  ·exact hSd (by simpa using z)
 have W:=(Walks.dictKeys (prog:=prog) (w:=w) (A:=A.in1) (knd:=knd) hh s.heap.objs.size d hdI kvs ep).toS
 have key:∀(h:Heap) (c₁ tk:Nat),(h.IsKeyIter s.heap.objs.size d 0 kvs.length ep/\h.DictAt knd d kvs ep)->(∀b o,b≠S->s.heap.get? b=some o->h.get? b=some o) ->
   h.get? S=some { cls:=.type "list",data:=.seq #[] c₁ }->codeAny (model prog w) A (.builtin "list.extend.loop" ⟨[.ref S,.ref s.heap.objs.size,res],[]⟩) R { s with heap:=h,toks:=tk }:=by
  intro h c₁ tk hit hk hS₁
  refine codeAny_extend_loopS W (by rw[sizeLine_eq];omega) S hSf res kvs.length 0 _ #[] c₁ rfl (Nat.zero_le _) hit hS₁ (ItemsOf.nil _) fun s' acc' c' hm hS' hacc=>?_
  rw[Moved.eq_with hm]
  refine hR s'.heap s'.toks acc' c' (fun b o hb e=>hm.heap b o (fun hmem=>?_) (hk b o hb e)) hS' hacc
  rcases List.mem_cons.mp hmem with e'|hmem
  ·exact hb e'
  ·exact absurd (Heap.lt_size e) (by rw[List.mem_singleton.mp hmem];exact Nat.lt_irrefl _)
 unfold Builtin.List.listExtendWith
 refine wpAny_bind (wpAny_typeOf hm.typeIs ?_)
 have h1:Builtin.List.listSameRef (.ref S) (.ref d)=false:=by simp[Builtin.List.listSameRef,hSd]
 have h2:(Value.type "dict" == Value.type "list")=false:=by decide
 have h3:(Value.type "dict" == Value.type "tuple")=false:=by decide
 simp only[h1,h2,h3,Bool.or_false,Bool.false_eq_true,if_false]
 refine wpAny_bind (wpAny_pyIter_dict hd hA ?_)
 refine wpAny_bind (wpAny_holding (CO (hm.push _) ?_))
 have hit₁:(s.heap.push { cls:=.type "dict_keyiterator",data:=.fields #[.ref d,.int 0 0,.int kvs.length 0,.int ep 0] }).IsKeyIter s.heap.objs.size d 0 kvs.length ep:=⟨_,Heap.get?_push_size _ rfl,rfl,rfl⟩
 have hA₁:(s.heap.push { cls:=.type "dict_keyiterator",data:=.fields #[.ref d,.int 0 0,.int kvs.length 0,.int ep 0] }).DictAt knd d kvs ep:=hA.at' fun o e=>Heap.get?_push_of_some _ e
 have hS₁:=Heap.get?_push_of_some { cls:=.type "dict_keyiterator",data:=.fields #[.ref d,.int 0 0,.int kvs.length 0,.int ep 0] } hS
 refine wpAny_ite_split (fun _=>?_) (fun _=>wpAny_pure ⟨plainId_quiet F.plain_extend_loop _,key _ c₀ _ ⟨hit₁,hA₁⟩ (fun b o _ e=>Heap.get?_push_of_some _ e) hS₁⟩)
 refine wpAny_bind (wpAny_rule ?_)
 refine wpAny_bind ?_
 show wpAny _ _ (updateSeq S (·.push .none) >>= fun _=>updateSeq S (·.pop)) _ _ _
 refine wpAny_bind (wpAny_updateSeq hS₁ rfl ?_)
 have hS₂:=Heap.get?_update_self (Obj.mapSeq (·.push Value.none)) hS₁ rfl
 refine wpAny_updateSeq (hz:=by seq_fits) hS₂ rfl ?_
 have hS₃:=Heap.get?_update_self (Obj.mapSeq (·.pop)) hS₂ rfl
 have oth:∀b o,b≠S->(s.heap.push { cls:=.type "dict_keyiterator",data:=.fields #[.ref d,.int 0 0,.int kvs.length 0,.int ep 0] }).get? b=some o->(((s.heap.push { cls:=.type "dict_keyiterator",data:=.fields #[.ref d,.int 0 0,.int kvs.length 0,.int ep 0] }).update S (Obj.mapSeq (·.push Value.none))).update S (Obj.mapSeq (·.pop))).get? b=some o:=fun b o hb e=>(Heap.get?_update_other _ _ (Ne.symm hb)).trans ((Heap.get?_update_other _ _ (Ne.symm hb)).trans e)
 refine wpAny_pure ⟨plainId_quiet F.plain_extend_loop _,key _ _ _ ⟨hit₁.at fun o e=>oth _ o (Ne.symm hSI) e,hA₁.at' fun o e=>oth _ o (Ne.symm hSd) e⟩ (fun b o hb e=>oth b o hb (Heap.get?_push_of_some _ e)) hS₃⟩
theorem BF {R:Result->Shared->Prop}{d:Addr}{kvs:List (κ×Value)}(hh:A.handled=none) (hd:(d == sysModules)=false) (hm:s.heap.DictOf knd d kvs) (hlen:kvs.length<=2^24) (S:Addr) (hS:s.heap.get? S=some { cls:=.type "list",data:=.seq #[] })
  (hR:∀h' tk acc' c',(∀b o,b≠S->s.heap.get? b=some o->h'.get? b=some o)->h'.get? S=some { cls:=.type "list",dict:=none,data:=.seq acc' c',slots:=#[] } ->
   ItemsOf (fun i v=>∃k x,kvs[i]? = some (k,x)/\knd.is k v=true) acc' kvs.length->R (.ok (.ret .none)) { s with heap:=h',toks:=tk }) :
  wpAny (model prog w) A.in1 (Builtin.«list.__init__» ⟨[.ref S,.ref d],[]⟩)
   (fun fin s'=>match fin with | .done f=>R (.ok f) s' | .again c'=>c'.quiet=true/\codeAny (model prog w) A c' R s') (fun e s'=>R (.error e) s') s:=by
 have hSd:S≠d:=fun e=>by
  have h1:=hm.typeIs
  rw[<- e]at h1
  obtain⟨o',g',c'⟩:=h1
  rw[hS]at g'
  cases g'
  exact absurd (show Value.type "list" = Value.type "dict" from c') (by decide)
 show wpAny _ _ (do let old <- Builtin.List.listItems (.ref S);Builtin.List.listUpdate (.ref S) (fun _=>#[]);letGo old.toList.reverse;Builtin.List.listExtendWith (.ref S) (.ref d) .none) _ _ s
 refine wpAny_bind ?_
 unfold Builtin.List.listItems
 refine wpAny_bind (wpAny_seqItems hS rfl (wpAny_pure ?_))
 show wpAny _ _ (updateSeq S (fun _=>#[]) >>= fun _=>letGo (#[]:Array Value).toList.reverse >>= fun _=>Builtin.List.listExtendWith (.ref S) (.ref d) .none) _ _ s
 refine wpAny_bind (wpAny_updateSeq hS rfl ?_)
 have hS₂:=Heap.get?_update_self (Obj.mapSeq (fun _=>(#[]:Array Value))) hS rfl
 have oth:∀b o,b≠S->s.heap.get? b=some o->(s.heap.update S (Obj.mapSeq (fun _=>(#[]:Array Value)))).get? b=some o :=
  fun b o hb e=>(Heap.get?_update_other _ _ (Ne.symm hb)).trans e
 refine wpAny_bind (wpAny_letGo ?_)
 obtain⟨od,es,ep,god,r⟩:=id hm
 refine oh (knd:=knd) (kvs:=kvs) hh hd ⟨od,es,ep,oth d _ (Ne.symm hSd) god,r⟩ hlen S .none _ hS₂ fun h' tk acc' c' hk hS' hacc=>?_
 exact hR h' tk acc' c' (fun b o hb e=>hk b o hb (oth b o hb e)) hS' hacc
theorem qH {Q:Value->Shared->Prop}{d:Addr}{kvs:List (κ×Value)}(hh:A.handled=none) (hd:(d == sysModules)=false) (hm:s.heap.DictOf knd d kvs) (hlen:kvs.length<=2^24)
  (hQ:∀h' tk acc' c',(∀b o,s.heap.get? b=some o->h'.get? b=some o) ->
   h'.get? s.heap.objs.size=some { cls:=.type "list",dict:=none,data:=.seq acc' c',slots:=#[] }->ItemsOf (fun i v=>∃k x,kvs[i]? = some (k,x)/\knd.is k v=true) acc' kvs.length->Q (.ref s.heap.objs.size) { s with heap:=h',toks:=tk }) :
  wpAny (model prog w) A (call (.type "list") [.ref d]) Q E s:=by
 refine callType_codes (Q₁:=fun obj s₁=>obj = .ref s.heap.objs.size/\s₁ = { s with heap:=s.heap.push { cls:=.type "list",data:=.seq #[] } }) F.called_list (F.typeCall_list_1 _) F.entry_list_init
  (code_list_new _ ⟨rfl,rfl⟩) fun obj s₁ h₁=>?_
 obtain⟨rfl,rfl⟩:=h₁
 have hS:(s.heap.push { cls:=.type "list",data:=.seq #[] }).get? s.heap.objs.size=some { cls:=.type "list",data:=.seq #[] }:=Heap.get?_push_size _ rfl
 refine⟨⟨_,hS,rfl⟩,F.args_list_init_2 _ _,BF (A:=A.in1) (knd:=knd) (kvs:=kvs) hh hd (hm.push _) hlen _ hS fun h' tk acc' c' hk hS' hacc=>?_⟩
 exact⟨rfl,hQ h' tk acc' c' (fun b o e=>hk b o (Nat.ne_of_lt (Heap.lt_size e)) (Heap.get?_push_of_some _ e)) hS' hacc⟩
end
section
variable {X:Cx}
def Nq:List V->Hp->VK->Prop:=fun xs H Q=>∃(d:Addr) (kvs:List (Key×V)),xs=[.ref d]/\H d=some (.dK kvs)/\∀l,H l=none->Q (.ref l) (upd H l (.lst (kvs.map fun kv=>kV kv.1)))
theorem nU {P:Program}{w:World}:∀{kvs:List (Key×V)}{vs:List (Key×Value)}{us:List Value},KV kvs vs->us.length=vs.length->(∀(i:Nat) v,us[i]? = some v->∃k x,vs[i]? = some (k,x)/\(bE P w).is k v=true)->Vals (kvs.map fun kv=>kV kv.1) us
 | _,_,[],.nil,_,_=>.nil
 | _,_,_::_,.nil,l,_=>by cases l
 | _,_,[],.cons _ _,l,_=>by cases l
 | _,_,u::us,.cons (a:=p) (b:=b) r t,l,h=>by
  obtain⟨k,x,h1,h2⟩:=h 0 u rfl
  have e:b =(k,x):=by simpa using h1
  refine .cons ?_ (nU (P:=P) (w:=w) t (by simpa using l) fun i v hv=>?_)
  ·have:=LL h2
   show RelV (kV p.1) u
   rw[r.1,e];exact this
  ·obtain⟨k',x',h3,h4⟩:=h (i+1) v (by simpa using hv)
   exact⟨k',x',by simpa using h3,h4⟩
theorem qG (hc:X.calm=true):cG X (.type "list") Nq:=by
 intro pins s σ H xs us Q I r h
 obtain⟨d,kvs,rfl,hd,q⟩:=h
 obtain⟨u,rfl,r1⟩:=vals1 r
 cases (show u=Value.ref d from r1)
 obtain⟨hz,lo,vs,rk,hD⟩ : kvs.length<=sizeLine/\(d == sysModules)=false/\∃vs,KV kvs vs/\s.heap.DictOf (bE X.prog X.w) d vs:=I.hok d _ hd
 have hl:kvs.length=vs.length:=Paired.length rk
 refine qH (I.ok.hd hc) lo hD (by rw[<- hl];exact hz) fun h' tk acc c kp hS hacc=>?_
 have hv:Vals (kvs.map fun kv=>kV kv.1) acc.toList:=nU (P:=X.prog) (w:=X.w) rk (by rw[<- hacc.1];simp) fun i v e=>hacc.2 i v (by simpa using e)
 have hz2:(kvs.map fun kv=>kV kv.1).length<=sizeLine:=by rw[List.length_map];exact hz
 exact⟨.ref s.heap.objs.size,_,I.laid (t':=tk) kp (Nat.le_refl _) (o:=.lst (kvs.map fun kv=>kV kv.1)) ⟨hz2,acc.toList,c,hv,by simpa using hS⟩,rfl,q _ (I.hok.fresh (Nat.le_refl _))⟩
end
inductive Qc:Value->Int->Prop
 | int (i:Int) (t:Tok):Qc (.int i t) i
 | bl (b:Bool):Qc (.bool b) (if b=true then(1:Int) else 0)
inductive Num:V->Int->Prop
 | int (i:Int):Num (.int i) i
 | bl (b:Bool):Num (.bl b) (if b=true then(1:Int) else 0)
section
variable {X:Cx}
def vL:V->Bool
 | .non=>true | .int _=>true | .bl _=>true | .str _=>true | .ref _=>true|_=>false
theorem DU {A:Around}{s:Shared}{x:V}{u v:Value}(hx:vL x=true) (r1:RelV x u) (r2:RelV x v):SeqAt.EqAt A s u v true:=by
 cases x with
 | non=>cases r1;cases r2;exact SeqAt.EqAt.same _
 | bl b=>cases r1;cases r2;exact SeqAt.EqAt.same _
 | int i =>
  obtain⟨t,rfl⟩:=r1
  obtain⟨t',rfl⟩:=r2
  have:=SeqAt.EqAt.int_int (A:=A) (s:=s) i t i t'
  simpa using this
 | str z =>
  obtain⟨t,rfl⟩:=r1
  obtain⟨t',rfl⟩:=r2
  have:=SeqAt.EqAt.str_str (A:=A) (s:=s) z t z t'
  simpa using this
 | ref p=>cases r1;cases r2;exact SeqAt.EqAt.same _
 | _=>cases hx
end
structure gW (P:Program) (w:World) (K:W.Frag) (mg:Str->Option Value) (base:Heap) (C:Addr) (m:Str) (ps:List Str) (k:Nat) (sp:Sp):Prop where
 ex:∃(f:Addr) (fd:FuncData),iw P w K mg base Ar k f fd ps sp/\Binds K fd ps []/\Meth K C m f
structure Ci (P:Program) (w:World) (K:W.Frag) (mg:Str->Option Value) (base:Heap) (x:Str) (C:Addr) (ps:List Str) (k:Nat) (sp:Sp):Prop where
 ex:∃(f:Addr) (fd:FuncData),iw P w K mg base Ar k f fd ps sp/\Binds K fd ps []/\Mk K C f/\mg x=some (.ref C)
section
variable {X:Cx}{x m:Str}{C:Addr}{ps:List Str}{k:Nat}{sp:Sp}{e o:Expr}{es:List Expr}{t:TA}{ta:TE}{p pos apos:Pos}
theorem Q7 {pl:Sem Bool}(M:gW X.prog X.w X.K X.mg X.base C m ps k sp) (c:xy X.K C) (hr:cA k X.A) (he:PE X o ta) (ha:PA X (e::es) t)
  (hst:starEach (e::es) X.env =(false,eval e X.env)::starEach es X.env:=by rfl) (hpl:(backTo pos (starEach es X.env)).any (·.1)=false:=by rfl)
  (ht:eval (.Call (.Attribute o m apos) (e::es) [] pos) X.env =(do
   let ov <- eval o X.env
   standAt apos.atName
   let (f,first) <- holding [ov] (getMethod ov m pl)
   callWith pos f first (backTo pos (starEach (e::es) X.env)) (backToKw pos (keywordEach [] X.env))):=by rfl) :
  PE X (.Call (.Attribute o m apos) (e::es) [] pos) (t9 C m sp [] E0 ta t):=by
 obtain⟨f,fd,F,hb,hm⟩:=M.ex
 exact A5 (pl:=pl) he c hm F hr hb .nil AN ha hst hpl ht
theorem fU {pl:Sem Bool}(M:gW X.prog X.w X.K X.mg X.base C m ps k sp) (c:xy X.K C) (hr:cA k X.A) (he:PE X o ta)
  (ht:eval (.Call (.Attribute o m apos) [] [] pos) X.env =(do
   let ov <- eval o X.env
   standAt apos.atName
   let (f,first) <- holding [ov] (getMethod ov m pl)
   callWith pos f first (backTo pos (starEach [] X.env)) (backToKw pos (keywordEach [] X.env))):=by rfl) :
  PE X (.Call (.Attribute o m apos) [] [] pos) (t9 C m sp [] E0 ta EJ):=by
 obtain⟨f,fd,F,hb,hm⟩:=M.ex
 exact De (pl:=pl) he c hm F hr hb .nil AN ht
theorem Xd (M:Ci X.prog X.w X.K X.mg X.base x C ps k sp) (hr:cA (k+1) X.A) (ha:PA X (e::es) t) (hg:Gl X x:=by rfl) (hdb:(x ==("__debug__" : Str))=false:=by decide) (he:starEach (e::es) X.env =(false,eval e X.env)::starEach es X.env:=by rfl) (hpl:(backTo pos (starEach es X.env)).any (·.1)=false:=by rfl) :
  PE X (.Call (.Name x p) (e::es) [] pos) (Fv C sp [] E0 t):=by
 obtain⟨f,fd,F,hb,hM,hm⟩:=M.ex
 exact Jw hM F hr hg hm hb .nil AN ha hdb he hpl
end
theorem gW.of {P:Program}{w:World}{K:W.Frag}{mg:Str->Option Value}{base:Heap}{C:Addr}{x qual:Str}{st:Stmt}{f:Addr}{fd:FuncData}{N ps:List Str}{k:Nat}{sp:Sp}(F:cR K x qual st f fd) (mF:Meth K C x f) (bF:Binds K fd ps []) (S:aB N ps (aq st)) (len:∀vs H Q E,sp vs H Q E->vs.length=ps.length)
  (hbody:∀(cdv:Value) (A:Around) (outer:List Env) (s:Shared) (H:Hp) (vs:List V) (Q:VK) (E:XK),cA k (A.deeper (envOfC qual (aq st) s.heap.objs.size f cdv))->sp vs H Q E ->
   ∃t,o_ (mQ Ar P w K mg base N qual (aq st) f cdv A outer s H E).nox (bP st) t/\t { nx:=fun _ H'=>Q .non H',rt:=Q } (start N vs) H):gW P w K mg base C x ps (k+1) sp :=
 ⟨f,fd,F.ok S len hbody,bF,mF⟩
theorem Ci.of {P:Program}{w:World}{K:W.Frag}{mg:Str->Option Value}{base:Heap}{C:Addr}{x y qual:Str}{st:Stmt}{f:Addr}{fd:FuncData}{N ps:List Str}{k:Nat}{sp:Sp}(F:cR K y qual st f fd) (mF:Mk K C f) (mC:mg x=some (.ref C)) (bF:Binds K fd ps []) (S:aB N ps (aq st)) (len:∀vs H Q E,sp vs H Q E->vs.length=ps.length)
  (hbody:∀(cdv:Value) (A:Around) (outer:List Env) (s:Shared) (H:Hp) (vs:List V) (Q:VK) (E:XK),cA k (A.deeper (envOfC qual (aq st) s.heap.objs.size f cdv))->sp vs H Q E ->
   ∃t,o_ (mQ Ar P w K mg base N qual (aq st) f cdv A outer s H E).nox (bP st) t/\t { nx:=fun _ H'=>Q .non H',rt:=Q } (start N vs) H):Ci P w K mg base x C ps (k+1) sp :=
 ⟨f,fd,F.ok S len hbody,bF,mF,mC⟩
theorem bT.alias {P:Program}{w:World}{K:W.Frag}{mg:Str->Option Value}{base:Heap}{x y:Str}{ps:List Str}{k:Nat}{sp:Sp}(C:bT P w K mg base x ps k sp) (h:mg y=mg x):bT P w K mg base y ps k sp:=by
 obtain⟨f,fd,F,hb,hm,hk⟩:=C.ex
 exact⟨f,fd,F,hb,h.trans hm,hk⟩
section
variable {σ:St}{H:Hp}{Q:VK}
theorem Ik {C:Addr}{m:Str}{sp:Sp}{dvs:List V}{E:XK}{ta:TE}{t:TA}(h:ta σ H fun x H1=>∃a dx fs,x = .ref a/\H1 a=some (.ins C dx fs)/\fs.lookup m=none/\t σ H1 fun vs H2=>sp (x::(vs++dvs)) H2 Q E):t9 C m sp dvs E ta t σ H Q:=h
theorem IV {C:Addr}{sp:Sp}{dvs:List V}{E:XK}{t:TA}(h:t σ H fun vs H1=>∀x dx,H1 x=none->H1 dx=none->dx≠x->sp (.ref x::(vs++dvs)) (upd (upd H1 dx (.own x)) x (.ins C dx [])) (fun v H2=>v = .non/\Q (.ref x) H2) E):Fv C sp dvs E t σ H Q:=h
theorem MG {K:W.Frag}{ta:TE}{f:Str}(h:ta σ H fun x H1=>∃a C dx fs v,x = .ref a/\H1 a=some (.ins C dx fs)/\xy K C/\fS K C f/\fs.lookup f=some v/\Q v H1):L_ K ta f σ H Q:=h
theorem Kg {K:W.Frag}{ta tv:TE}{f:Str}{D:Ends}(h:tv σ H fun y H1=>ta σ H1 fun x H2=>∃a C dx fs,x = .ref a/\H2 a=some (.ins C dx fs)/\xy K C/\fS K C f/\fs.length<1000/\D.nx σ (upd H2 a (.ins C dx (gx f y fs)))):Pg K ta tv f D σ H:=h
theorem LP {ty td:TE}(h:ty σ H fun y H1=>td σ H1 fun x H2=>∃a o,x = .ref a/\f9 H2 a y o/\Q (.bl o.isSome) H2):QA ty td σ H Q:=h
theorem Hz {ty td:TE}(h:ty σ H fun y H1=>td σ H1 fun x H2=>∃a o,x = .ref a/\f9 H2 a y o/\Q (.bl (!o.isSome)) H2):A4 ty td σ H Q:=h
end
section
variable {X:Cx}
def Qk:List V->Hp->VK->Prop:=fun xs H Q=>∃a kvs,xs=[V.ref a]/\H a=some (.dK kvs)/\Q (.int kvs.length) H
theorem nX:cG X (.builtin "len") Qk:=by
 intro pins s σ H xs us Q I r h
 obtain⟨a,kvs,rfl,ha,q⟩:=h
 obtain⟨u,rfl,ru⟩:=vals1 r
 cases ru
 exact Pk I (.inl ha) fun t s' I'=>⟨.int kvs.length,H,I',⟨t,rfl⟩,q⟩
end
section
variable {prog:Program}{w:World}{A:Around}{E:Value->Shared->Prop}{s:Shared}{κ:Type} [DecidableEq κ] {knd:KeyKind prog w κ}
theorem uS {Q:List Value->Shared->Prop}{d:Addr}{kvs:List (κ×Value)}(hh:A.handled=none) (hd:(d == sysModules)=false) (hm:s.heap.DictOf knd d kvs) (hlen:kvs.length<=2^24)
  (hQ:∀h' tk acc,(∀b o,s.heap.get? b=some o->h'.get? b=some o)->ItemsOf (fun i v=>∃k x,kvs[i]? = some (k,x)/\knd.is k v=true) acc kvs.length->Q acc.toList { s with heap:=h',toks:=tk }) :
  wpAny (model prog w) A (collect (.ref d)) Q E s:=by
 unfold collect
 refine wpAny_bind (wpAny_runValue (codeAny_builtin PySem.F.entry_proto_collect ?_))
 rw[Around.under_plainId PySem.F.plain_proto_collect _]
 show wpAny _ A.in1 (newList [] >>= fun l=>again (.builtin "list.__iadd__" ⟨[l,.ref d],[]⟩)) _ _ s
 refine wpAny_bind (wpAny_newObj_type ?_)
 refine wpAny_pure ⟨plainId_quiet PySem.F.plain_list_iadd _,codeAny_builtin PySem.F.entry_list_iadd ?_⟩
 rw[Around.under_plainId PySem.F.plain_list_iadd _]
 have hS:(s.heap.push { cls:=.type "list",data:=.seq ([]:List Value).toArray }).get? s.heap.objs.size=some { cls:=.type "list",data:=.seq ([]:List Value).toArray }:=Heap.get?_push_size _ rfl
 show wpAny _ A.in1 (Builtin.List.listExtendWith (.ref s.heap.objs.size) (.ref d) (.ref s.heap.objs.size)) _ _ _
 refine oh (knd:=knd) (kvs:=kvs) (R:=fun r s'=>match r with
   | .ok (.ret v)=>wpAny (model prog w) A (match v with
     | .ref a=>do
      let o <- load a
      match o.data with
      | .seq xs _=>pure xs.toList
      | _=>unsupported "internal:collect"
     | _=>unsupported "internal:collect") Q E s'
   | .ok _=>False
   | .error e=>E e s') (s:={ s with heap:=s.heap.push { cls:=.type "list",data:=.seq ([]:List Value).toArray } }) hh hd (hm.push _) hlen s.heap.objs.size _ _ hS fun h' tk acc' c' hk hS' hacc=>?_
 show wpAny _ A (load s.heap.objs.size >>= _) _ _ _
 refine wpAny_bind (wpAny_load hS' ?_)
 exact wpAny_pure (hQ h' tk acc' (fun b o e=>hk b o (Nat.ne_of_lt (Heap.lt_size e)) (Heap.get?_push_of_some _ e)) hacc)
theorem sorted_ints {x:Value}{Q:Value->Shared->Prop}{ns:List Int}(hv:ns.length<=100000) (P:Heap->Prop)
  (hC:∀(A':Around) (R:List Value->Shared->Prop) (E':Value->Shared->Prop),A'.handled=A.handled->(∀h' tk vs,P h'->IntsAre vs ns->R vs { s with heap:=h',toks:=tk })->wpAny (model prog w) A' (collect x) R E' s)
  (hQ:∀(h':Heap) (tk:Nat) (out:Array Value) (ms:List Int) (hF:Heap) (e:Nat),P h'->IntsAre out.toList ms->ms.Perm ns->ms.Pairwise (· <= ·)->(∀b o,h'.get? b=some o->hF.get? b=some o)->hF.get? h'.objs.size=some (seqObj "list" out e)->Q (.ref h'.objs.size) { s with heap:=hF,toks:=tk }) :
  wpAny (model prog w) A (call (.builtin "sorted") [x]) Q E s:=by
 have hline:(100000:Nat)<sizeLine:=by decide
 refine(Calls.call_function_entry kind_sorted plain_sorted entry_sorted (args_sorted1 _) ?_)
 unfold Builtin.«sorted»
 refine(wpAny_bind (m:=checkCount "sorted" 1 1 _) (wpAny_pure ?_))
 refine(wpAny_bind (hC _ _ _ rfl fun h' tk vs hP hI=>?_))
 have hvl:vs.length<=100000:=by rw[hI.length];exact hv
 refine(wpAny_bind (wpAny_newList ?_ (by first|omega|(simp;omega))))
 have at1:(h'.push (seqObj "list" vs.toArray 0)).get? h'.objs.size=some (seqObj "list" vs.toArray 0):=Heap.get?_push_size _ rfl
 show wpAny _ _ _ _ E { s with heap:=h'.push (seqObj "list" vs.toArray 0),toks:=tk }
 refine wpAny_bind (wpAny_holding (wpAny_call_entry slot_list_sort ⟨_,at1,rfl⟩ entry_list_sort (tN at1 hI hvl fun out ms c1 c2 c3=>⟨_,rfl,?_⟩) (args_list_sort _)))
 obtain⟨e,he⟩:=sortedHeap_at (vs:=vs) (out:=out) at1
 exact wpAny_pure ⟨_,rfl,hQ h' tk out ms _ e hP c1 c2 c3 (fun b o hb=>by
  have hlt:=Heap.lt_size hb
  refine(sortedHeap_old (Nat.ne_of_lt hlt) (by rw[size_push'];exact Nat.lt_succ_of_lt hlt)).trans ?_
  rw[Heap.get?_push_ne _ _ _ (Nat.ne_of_lt hlt)];exact hb) he⟩
theorem vZ {x:Value}{Q:Value->Shared->Prop}{n:Nat}(hv:n<=100000) (P:Heap->List Value->(Value->Int)->Prop)
  (hC:∀(A':Around) (R:List Value->Shared->Prop) (E':Value->Shared->Prop),A'.handled=A.handled->(∀h' tk vs kf,P h' vs kf->vs.length=n->(∀v∈vs,tE h' v (kf v))->(∀v∈vs,∀u∈vs,kf v=kf u->v=u)->R vs { s with heap:=h',toks:=tk })->wpAny (model prog w) A' (collect x) R E' s)
  (hQ:∀(h':Heap) (tk:Nat) (vs:List Value) (kf:Value->Int) (out:Array Value) (hF:Heap) (e:Nat),P h' vs kf->out.toList.Perm vs->out.toList.Pairwise (fun u v=>kf u<=kf v)->(∀b o,h'.get? b=some o->hF.get? b=some o)->hF.get? h'.objs.size=some (seqObj "list" out e)->Q (.ref h'.objs.size) { s with heap:=hF,toks:=tk }) :
  wpAny (model prog w) A (call (.builtin "sorted") [x]) Q E s:=by
 have hline:(100000:Nat)<sizeLine:=by decide
 refine(Calls.call_function_entry kind_sorted plain_sorted entry_sorted (args_sorted1 _) ?_)
 unfold Builtin.«sorted»
 refine(wpAny_bind (m:=checkCount "sorted" 1 1 _) (wpAny_pure ?_))
 refine(wpAny_bind (hC _ _ _ rfl fun h' tk vs kf hP hl hT hN=>?_))
 have hvl:vs.length<=100000:=by rw[hl];exact hv
 refine(wpAny_bind (wpAny_newList ?_ (by first|omega|(simp;omega))))
 have at1:(h'.push (seqObj "list" vs.toArray 0)).get? h'.objs.size=some (seqObj "list" vs.toArray 0):=Heap.get?_push_size _ rfl
 show wpAny _ _ _ _ E { s with heap:=h'.push (seqObj "list" vs.toArray 0),toks:=tk }
 refine wpAny_bind (wpAny_holding (wpAny_call_entry slot_list_sort ⟨_,at1,rfl⟩ entry_list_sort (zV (kf:=kf) at1 (fun v hv=>(hT v hv).keep fun b o _ hb=>Heap.get?_push_of_some _ hb) hN hvl fun out c1 c2=>⟨_,rfl,?_⟩) (args_list_sort _)))
 obtain⟨e,he⟩:=sortedHeap_at (vs:=vs) (out:=out) at1
 exact wpAny_pure ⟨_,rfl,hQ h' tk vs kf out _ e hP c1 c2 (fun b o hb=>by
  have hlt:=Heap.lt_size hb
  refine(sortedHeap_old (Nat.ne_of_lt hlt) (by rw[size_push'];exact Nat.lt_succ_of_lt hlt)).trans ?_
  rw[Heap.get?_push_ne _ _ _ (Nat.ne_of_lt hlt)];exact hb) he⟩
end
def Dn (e:Int×V):Key×V:=((Sum.inl e.1:Key),e.2)
section
variable {X:Cx}
theorem BK {P:Program}{w:World}:∀{kvs:List (Int×V)}{vs:List (Key×Value)}{us:List Value},KV (kvs.map Dn) vs->us.length=vs.length->(∀(i:Nat) v,us[i]? = some v->∃k x,vs[i]? = some (k,x)/\(bE P w).is k v=true)->Vals ((kvs.map (·.1)).map V.int) us:=fun {kvs vs us} r l h=>by
 have:=nU (P:=P) (w:=w) r l h
 rw[List.map_map]at this
 rw[List.map_map]
 exact this
def Np:List V->Hp->VK->Prop:=fun xs H Q=>∃(d:Addr) (kvs:List (Int×V)),xs=[.ref d]/\H d=some (.dK (kvs.map Dn))/\kvs.length<=100000 /\
 ∀(ms:List Int) (l:Addr),ms.Perm (kvs.map (·.1))->ms.Pairwise (· <= ·)->H l=none->Q (.ref l) (upd H l (.lst (ms.map V.int)))
theorem lO (hc:X.calm=true):cG X (.builtin "sorted") Np:=by
 intro pins s σ H xs us Q I r h
 obtain⟨d,kvs,rfl,hd,hn,q⟩:=h
 obtain⟨u,rfl,r1⟩:=vals1 r
 cases (show u=Value.ref d from r1)
 obtain⟨hz,lo,vs,rk,hD⟩ : (kvs.map Dn).length<=sizeLine/\(d == sysModules)=false/\∃vs,KV (kvs.map Dn) vs/\s.heap.DictOf (bE X.prog X.w) d vs:=I.hok d _ hd
 have hl:(kvs.map Dn).length=vs.length:=Paired.length rk
 rw[List.length_map]at hl
 refine sorted_ints (ns:=kvs.map (·.1)) (by rw[List.length_map];exact hn) (fun h'=>∀b o,s.heap.get? b=some o->h'.get? b=some o) (fun A' R E' hA hR=>?_) fun h' tk out ms hF e hP c1 c2 c3 keep he=>?_
 ·refine uS (knd:=bE X.prog X.w) (kvs:=vs) (hA.trans (I.ok.hd hc)) lo hD (by omega) fun h' tk acc kp hacc=>hR h' tk acc.toList kp ?_
  exact intsAre_of (BK (P:=X.prog) (w:=X.w) rk (by rw[<- hacc.1];simp) fun i v e=>hacc.2 i v (by simpa using e))
 ·have I1:Inv X pins σ H { s with heap:=h',toks:=tk }:=I.kept hP
  have hz2:(ms.map V.int).length<=sizeLine:=by
   have hline:(100000:Nat)<sizeLine:=by decide
   rw[List.length_map,c2.length_eq,List.length_map];omega
  exact⟨.ref h'.objs.size,_,I1.laid (t':=tk) (h':=hF) keep (Nat.le_refl _) (o:=.lst (ms.map V.int)) ⟨hz2,out.toList,e,jZ c1,by simpa using he⟩,rfl,q ms _ c2 c3 (I1.hok.fresh (Nat.le_refl _))⟩
def Fw (v d:Addr):HO:=.ext fun h=>h.IsItemsView v d
def N8:V->List V->Hp->VK->Prop:=fun x vs H Q=>∃d kvs,x = .ref d/\vs=[]/\H d=some (.dK kvs)/\∀v,H v=none->Q (.ref v) (upd H v (Fw v d))
theorem yf:Lc X "dict.items" N8:=by
 intro pins s σ H x xs v us Q I rx rs h
 obtain⟨d,kvs,rfl,rfl,hd,q⟩:=h
 cases rx
 cases rs
 obtain⟨hz,lo,vs,r,hD⟩ : kvs.length<=sizeLine/\(d == sysModules)=false/\∃vs,KV kvs vs/\s.heap.DictOf (bE X.prog X.w) d vs:=I.hok d _ hd
 refine call_meetsIn PySem.F.slot_dict_items hD.typeIs PySem.F.entry_dict_items (PySem.F.args_dict_items_1 _) (meets_dict_items (bE X.prog X.w) d lo) ⟨⟨vs,hD⟩,?_⟩
 exact⟨.ref s.heap.objs.size,_,I.laid (t':=s.toks) (a:=s.heap.objs.size) (o:=Fw s.heap.objs.size d) (fun b u q=>Heap.get?_push_of_some _ q) (Nat.le_refl _) ⟨⟨_,Heap.get?_push_size _ rfl,rfl,rfl⟩,⟨_,Heap.get?_push_size _ rfl⟩,fun h1 h2 ⟨o,ho,r⟩ k=>⟨o,k _ ho,r⟩⟩,rfl,q _ (I.hok.fresh (Nat.le_refl _))⟩
theorem qW:∀{ps:List (Int×V)}{ts:List Addr}{pins:List (Addr×Obj)}{σ:St}{H:Hp}{s:Shared},Inv X pins σ H s->ts.Nodup->ts.length=ps.length->(∀t∈ts,oZ X pins H t)->(∀(i:Nat) (t:Addr) (p:Int×V),ts[i]? = some t->ps[i]? = some p->∃its:List Value,Vals [.int p.1,p.2] its/\IsTup s.heap t its.toArray) ->
  ∃H',Inv X pins σ H' s/\aM H H'/\(∀b,b∉ts->H' b=H b)/\∀(i:Nat) (t:Addr) (p:Int×V),ts[i]? = some t->ps[i]? = some p->H' t=some (.tup [.int p.1,p.2])
 | [],[],pins,σ,H,s,I,_,_,_,_=>⟨H,I,fun _ _ e=>e,fun _ _=>rfl,fun i t p e=>by simp at e⟩
 | [],_::_,_,_,_,_,_,_,l,_,_=>by cases l
 | _::_,[],_,_,_,_,_,_,l,_,_=>by cases l
 | p::ps,t::ts,pins,σ,H,s,I,nd,l,f,h=>by
  obtain⟨n1,n2⟩:=List.nodup_cons.mp nd
  obtain⟨its,rv,tu⟩:=h 0 t p rfl rfl
  have ft:=f t List.mem_cons_self
  have I1:Inv X pins σ (upd H t (.tup [.int p.1,p.2])) { s with heap:=s.heap,toks:=s.toks }:=I.adopt (t':=s.toks) (ch:=[t]) (fun b o _ e=>e) (fun b hb=>by rw[List.mem_singleton.mp hb];exact ft) (by simp) ⟨(by show 2<=sizeLine;decide),its,rv,tu⟩
  obtain⟨H',I',s',k',h'⟩:=qW (ps:=ps) (ts:=ts) I1 n2 (by simpa using l) (fun u hu=>by
   obtain⟨f0,f1⟩:=f u (List.mem_cons_of_mem _ hu)
   exact⟨by rw[az (show u≠t from fun z=>n1 (z ▸ hu))];exact f0,f1⟩) fun i u q e1 e2=>h (i+1) u q (by simpa using e1) (by simpa using e2)
  refine⟨H',I',fun b o e=>s' b o (by rw[az (ay e ft.1)];exact e),fun b hb=>?_,fun i u q e1 e2=>?_⟩
  ·rw[k' b (fun z=>hb (List.mem_cons_of_mem _ z)),az (show b≠t from fun z=>hb (z ▸ List.mem_cons_self))]
  ·cases i with
   | zero =>
    cases e1;cases e2
    exact s' _ _ aA
   | succ i=>exact h' i u q (by simpa using e1) (by simpa using e2)
def Mf:List V->Hp->VK->Prop:=fun xs H Q=>∃(v d:Addr) (kvs:List (Int×V)),xs=[.ref v]/\H v=some (Fw v d)/\H d=some (.dK (kvs.map Dn))/\(kvs.map (·.1)).Nodup/\kvs.length<=100000 /\
 ∀(ps:List (Int×V)) (ts:List Addr) (l:Addr) (H':Hp),ps.Perm kvs->ps.Pairwise (fun a b=>a.1<=b.1)->aM H H'->H l=none->H' l=some (.lst (ts.map V.ref))->ts.length=ps.length->(∀(i:Nat) (t:Addr) (p:Int×V),ts[i]? = some t->ps[i]? = some p->H' t=some (.tup [.int p.1,p.2]))->Q (.ref l) H'
theorem rF (hc:X.calm=true):cG X (.builtin "sorted") Mf:=by
 intro pins s σ H xs us Q I r h
 obtain⟨v,d,kvs,rfl,hv,hd,nd,hn,q⟩:=h
 obtain⟨u,rfl,r1⟩:=vals1 r
 cases (show u=Value.ref v from r1)
 obtain⟨hz,lo,vs,rk,hD⟩ : (kvs.map Dn).length<=sizeLine/\(d == sysModules)=false/\∃vs,KV (kvs.map Dn) vs/\s.heap.DictOf (bE X.prog X.w) d vs:=I.hok d _ hd
 have hl:(kvs.map Dn).length=vs.length:=Paired.length rk
 rw[List.length_map]at hl
 have view:s.heap.IsItemsView v d:=(I.hok _ _ hv).1
 obtain⟨ep,hA⟩:=hD.dictAt
 refine vZ (n:=kvs.length) hn (fun h' ws kf=>(∀b o,s.heap.get? b=some o->h'.get? b=some o)/\∃as:List Addr,ws=as.map Value.ref/\as.length=kvs.length/\as.Nodup/\(∀a∈as,s.heap.objs.size<=a)/\∀(i:Nat) (a:Addr) (p:Int×V),as[i]? = some a->kvs[i]? = some p->kf (.ref a)=p.1/\∃its:List Value,Vals [.int p.1,p.2] its/\IsTup h' a its.toArray) (fun A' R E' hA' hR=>?_) fun h' tk ws kf out hF e hP c1 c2 keep he=>?_
 ·refine PySem.W.kdx_collect (knd:=bE X.prog X.w) (kvs:=vs) (ep:=ep) (hA'.trans (I.ok.hd hc)) view hA (Nat.le_trans (Nat.le_of_eq hl.symm) (Nat.le_trans hn (Nat.le_of_lt (show(100000:Nat)<sizeLine by decide)))) fun h' tk as kp al G=>?_
  have pr:∀(i:Nat) (a:Addr) (p:Int×V),as[i]? = some a->kvs[i]? = some p->∃(t:Tok) (y:Value),RelV p.2 y/\h'.get? a=some { cls:=.type "tuple",data:=.seq #[.int p.1 t,y] }:=fun i a p e1 e2=>by
   obtain⟨key,k,x,g1,g2,g3⟩:=G.pairs i a e1
   have e3:(kvs.map Dn)[i]? = some (Dn p):=by rw[List.getElem?_map,e2];rfl
   obtain⟨u,hu,ru⟩:=KV.get rk e3
   rw[hu]at g1
   cases g1
   obtain⟨t,rfl⟩ : ∃t,key=Value.int p.1 t:=LL g2
   exact⟨t,_,ru,g3⟩
  have nda:as.Nodup:=G.rise.imp fun h=>Nat.ne_of_lt h
  let kf:Value->Int:=fun v=>match v with
   | .ref a=>(match as.findIdx? (· == a) with
    | some i=>(match kvs[i]? with
     | some p=>p.1
     | none=>0)
    | none=>0)
   | _=>0
  have kfe:∀(i:Nat) (a:Addr) (p:Int×V),as[i]? = some a->kvs[i]? = some p->kf (.ref a)=p.1:=fun i a p e1 e2=>by
   have il:=(List.getElem?_eq_some_iff.mp e1).1
   have hf:as.findIdx? (· == a)=some i:=by
    rw[List.findIdx?_eq_some_iff_getElem]
    refine⟨il,by rw[(List.getElem?_eq_some_iff.mp e1).2];simp,fun j hj=>?_⟩
    have:as[j]≠as[i]:=fun z=>by
     have:=(List.getElem_inj nda).mp z
     omega
    rw[(List.getElem?_eq_some_iff.mp e1).2]at this
    simpa using this
   show(match as.findIdx? (· == a) with
    | some i=>(match kvs[i]? with
     | some p=>p.1
     | none=>0)
    | none=>0)=p.1
   rw[hf]
   show(match kvs[i]? with|some p=>p.1|none=>0)=p.1
   rw[e2]
  have al':as.length=kvs.length:=by omega
  refine hR h' tk (as.map Value.ref) kf ⟨kp,as,rfl,al',nda,fun a ha=>Nat.le_of_lt (G.above a ha),fun i a p e1 e2=>⟨kfe i a p e1 e2,?_⟩⟩ (by rw[List.length_map];exact al') (fun v hv=>?_) fun v hv u hu e=>?_
  ·obtain⟨t,y,ry,g⟩:=pr i a p e1 e2
   exact⟨[.int p.1 t,y],.cons ⟨t,rfl⟩ (.cons ry .nil),⟨_,g,rfl,_,rfl⟩⟩
  ·obtain⟨a,ha,rfl⟩:=List.mem_map.mp hv
   obtain⟨i,hi⟩:=List.getElem?_of_mem ha
   have il:=(List.getElem?_eq_some_iff.mp hi).1
   have e2:=List.getElem?_eq_getElem (l:=kvs) (i:=i) (by omega)
   obtain⟨t,y,ry,g⟩:=pr i a _ hi e2
   rw[kfe i a _ hi e2]
   exact⟨a,_,0,t,[y],rfl,g,rfl,rfl⟩
  ·obtain⟨a,ha,rfl⟩:=List.mem_map.mp hv
   obtain⟨a',ha',rfl⟩:=List.mem_map.mp hu
   obtain⟨i,hi⟩:=List.getElem?_of_mem ha
   obtain⟨i',hi'⟩:=List.getElem?_of_mem ha'
   have il:=(List.getElem?_eq_some_iff.mp hi).1
   have il':=(List.getElem?_eq_some_iff.mp hi').1
   rw[kfe i a _ hi (List.getElem?_eq_getElem (by omega)),kfe i' a' _ hi' (List.getElem?_eq_getElem (by omega))]at e
   have e1:(kvs.map (·.1))[i]'(by rw[List.length_map];omega) =(kvs.map (·.1))[i']'(by rw[List.length_map];omega):=by simpa using e
   have ii:=(List.getElem_inj nd).mp e1
   subst ii
   rw[hi]at hi'
   rw[Option.some.inj hi']
 ·obtain⟨kp,as,rfl,al,nda,ab,hp⟩:=hP
  have I1:Inv X pins σ H { s with heap:=h',toks:=tk }:=I.kept kp
  obtain⟨H1,I2,s2,k2,h2⟩:=qW (ps:=kvs) (ts:=as) I1 nda al (fun t ht=>I.fpOk (ab t ht) (I.hok.fresh (ab t ht))) fun i t p e1 e2=>(hp i t p e1 e2).2
  have out':∃us2:List Addr,us2.Perm as/\out.toList=us2.map Value.ref:=by
   refine⟨out.toList.map fun v=>match v with | .ref a=>a|_=>0,?_,?_⟩
   ·have:=c1.map (fun v=>match v with|Value.ref a=>a|_=>0)
    refine this.trans ?_
    rw[List.map_map]
    exact List.Perm.of_eq (by simp[Function.comp_def])
   ·rw[List.map_map]
    refine(List.map_id _).symm.trans (List.map_congr_left fun v hv=>?_)
    obtain⟨t,_,rfl⟩:=List.mem_map.mp (c1.mem_iff.mp hv)
    rfl
  obtain⟨us2,p1,p2⟩:=out'
  have hz2:(us2.map V.ref).length<=sizeLine:=by
   have hline:(100000:Nat)<sizeLine:=by decide
   rw[List.length_map,p1.length_eq];omega
  have nl:H1 h'.objs.size=none:=I2.hok.fresh (Nat.le_refl _)
  have I3:=I2.laid (t':=tk) (h':=hF) keep (Nat.le_refl _) (o:=.lst (us2.map V.ref)) ⟨hz2,out.toList,e,by rw[p2];exact uG us2,by simpa using he⟩
  let g:Addr->Int×V:=fun a=>match as.findIdx? (· == a) with
   | some i=>(kvs[i]?).getD (0,.non)
   | none=>(0,.non)
  have ge:∀(i:Nat) (a:Addr) (p:Int×V),as[i]? = some a->kvs[i]? = some p->g a=p:=fun i a p e1 e2=>by
   have hf:as.findIdx? (· == a)=some i:=by
    rw[List.findIdx?_eq_some_iff_getElem]
    refine⟨(List.getElem?_eq_some_iff.mp e1).1,by rw[(List.getElem?_eq_some_iff.mp e1).2];simp,fun j hj=>?_⟩
    have il:=(List.getElem?_eq_some_iff.mp e1).1
    have:as[j]≠as[i]:=fun z=>by
     have:=(List.getElem_inj nda).mp z
     omega
    rw[(List.getElem?_eq_some_iff.mp e1).2]at this
    simpa using this
   show(match as.findIdx? (· == a) with
    | some i=>(kvs[i]?).getD (0,V.non)
    | none=>(0,V.non))=p
   rw[hf]
   show(kvs[i]?).getD (0,.non)=p
   rw[e2];rfl
  have gk:as.map g=kvs:=by
   refine List.ext_getElem? fun i=>?_
   rw[List.getElem?_map]
   cases c:as[i]? with
   | none=>rw[List.getElem?_eq_none (by have:=List.getElem?_eq_none_iff.mp c;omega)];rfl
   | some a =>
    have il:=(List.getElem?_eq_some_iff.mp c).1
    have e2:=List.getElem?_eq_getElem (l:=kvs) (i:=i) (by omega)
    rw[e2]
    show some (g a)=_
    rw[ge i a _ c e2]
  have at':∀a∈as,∃i p,as[i]? = some a/\kvs[i]? = some p:=fun a ha=>by
   obtain⟨i,hi⟩:=List.getElem?_of_mem ha
   have il:=(List.getElem?_eq_some_iff.mp hi).1
   exact⟨i,_,hi,List.getElem?_eq_getElem (by omega)⟩
  refine⟨.ref h'.objs.size,_,I3,rfl,q (us2.map g) us2 _ _ ?_ ?_ ?_ (I1.hok.fresh (Nat.le_refl _)) aA (by rw[List.length_map]) fun i t p e1 e2=>?_⟩
  ·rw[<- gk];exact p1.map g
  ·rw[p2,List.pairwise_map]at c2
   rw[List.pairwise_map]
   refine c2.imp_of_mem fun {a b} ha hb h=>?_
   obtain⟨i,p,i1,i2⟩:=at' a (p1.mem_iff.mp ha)
   obtain⟨j,r,j1,j2⟩:=at' b (p1.mem_iff.mp hb)
   rw[(hp i a p i1 i2).1,(hp j b r j1 j2).1]at h
   rw[ge i a p i1 i2,ge j b r j1 j2]
   exact h
  ·intro b o e
   have n:b≠h'.objs.size:=ay (s2 _ _ e) nl
   rw[az n];exact s2 _ _ e
  ·rw[List.getElem?_map,e1]at e2
   have e3:g t=p:=Option.some.inj e2
   obtain⟨j,r,j1,j2⟩:=at' t (p1.mem_iff.mp (List.mem_of_getElem? e1))
   have ht:=h2 j t r j1 j2
   rw[ge j t r j1 j2]at e3
   rw[az (ay ht nl),ht,e3]
end
theorem Kw {X:Cx}{K:W.Frag}{e:Expr}{f:Str}{pos:Pos}{ta:TE}(h:X.K=K) (he:PE X e ta) (hb:attributeBase e f X.env (eval e X.env)=eval e X.env):PE X (.Attribute e f pos) (L_ K ta f):=by
 subst h;exact dM he hb
section
variable {σ:St}{H:Hp}{Q:VK}{D:Ends}
def IsT (R t:TS):Prop:=R=t
theorem Jb {t u:TS}(h:∀R,IsT R u->t { D with nx:=R D } σ H):Pu t u D σ H:=h u rfl
theorem AK {c:TT}{t u:TS}(h:∀R S,IsT R t->IsT S u->c σ H fun b H1=>if b=true then R D σ H1 else S D σ H1):Pr c t u D σ H:=h t u rfl rfl
theorem Ju {wi:TI}{g:TG}{tb:TS}(h:∀R,IsT R tb->wi σ H fun J H1=>∃W:Nat->Nat->St->Hp->Prop,(∃m,W 0 m σ H1)/\∀i m σ H,W i m σ H ->
 (J.stop i H/\D.nx σ H) \/(J.go i H/\∃N:St->Hp->Prop,(∀σ' H',N σ' H'->∃m',m'<m/\W (i+1) m' σ' H')/\∀x H',J.yld i H x H'->g x σ H' fun σ2 H2=>R { D with nx:=N,ct:=N,bk:=D.nx } σ2 H2)):QF wi g tb D σ H:=h tb rfl
theorem KP {R t:TS}(e:IsT R t) (h:t D σ H):R D σ H:=by cases e;exact h
def Vr (N I:St->Hp->Prop):Prop:=∀σ H,I σ H->N σ H
def IE (I:St->Hp->Prop) (t:(St->Hp->Prop)->Prop):Prop:=∀N,Vr N I->t N
theorem Jh {I:St->Hp->Prop}{t:(St->Hp->Prop)->Prop}(h:∀N,Vr N I->t N):IE I t:=h
theorem Ft {N I:St->Hp->Prop}(e:Vr N I) (h:I σ H):N σ H:=e σ H h
theorem Fi {t:TS}(R:St->Hp->Prop) (h:IE R fun N=>t { D with nx:=N } σ H) (k:∀σ' H',R σ' H'->D.nx σ' H'):O9 t D σ H:=⟨R,h _ fun _ _ z=>z,k⟩
theorem k8 {lo:Int}{n:Nat}{g:TG}{tb:TS}(Pv:Nat->St->Hp->Prop) (h0:Pv 0 σ H)
  (hs:∀i σ H,i<n->Pv i σ H->IE (Pv (i+1)) fun N=>g (.int (lo+i)) σ H fun σ2 H2=>tb { D with nx:=N,ct:=N,bk:=D.nx } σ2 H2) (hd:∀σ H,Pv n σ H->D.nx σ H) :
  ∃W:Nat->Nat->St->Hp->Prop,(∃m,W 0 m σ H)/\∀i m σ H,W i m σ H ->
   ((Fx lo n).stop i H/\D.nx σ H) \/((Fx lo n).go i H/\∃N:St->Hp->Prop,(∀σ' H',N σ' H'->∃m',m'<m/\W (i+1) m' σ' H')/\∀x H',(Fx lo n).yld i H x H'->g x σ H' fun σ2 H2=>tb { D with nx:=N,ct:=N,bk:=D.nx } σ2 H2) :=
 Cs Pv h0 (fun i σ H a b=>hs i σ H a b _ fun _ _ z=>z) hd
theorem d9 {K:W.Frag}{a:Addr}{xs:List V}{g:TG}{tb:TS}(Pv:Nat->St->Hp->Prop) (h0:Pv 0 σ H) (hl:∀i σ H,i<=xs.length->Pv i σ H->bN K H a xs)
  (hs:∀i x σ H,xs[i]? = some x->Pv i σ H->IE (Pv (i+1)) fun N=>g x σ H fun σ2 H2=>tb { D with nx:=N,ct:=N,bk:=D.nx } σ2 H2) (hd:∀σ H,Pv xs.length σ H->D.nx σ H) :
  ∃W:Nat->Nat->St->Hp->Prop,(∃m,W 0 m σ H)/\∀i m σ H,W i m σ H ->
   ((GK K a).stop i H/\D.nx σ H) \/((GK K a).go i H/\∃N:St->Hp->Prop,(∀σ' H',N σ' H'->∃m',m'<m/\W (i+1) m' σ' H')/\∀x H',(GK K a).yld i H x H'->g x σ H' fun σ2 H2=>tb { D with nx:=N,ct:=N,bk:=D.nx } σ2 H2) :=
 Fj Pv h0 hl (fun i x σ H a b=>hs i x σ H a b _ fun _ _ z=>z) hd
end
section
variable {X:Cx}{σ:St}{H:Hp}{Q:VK}{D:DK}
theorem KO {td ty:TE}(h:td σ H fun x H1=>∃a,x = .ref a/\Vs H1 a/\ty σ H1 fun y H2=>∃kvs k v,H2 a=some (.dK kvs)/\y=kV k/\iV kvs k=some v/\Q v (upd H2 a (.dK (oH kvs k)))):Ek td ty σ H Q:=h
end
section
variable {K:W.Frag}
def Ga (K:W.Frag) (x:Str) (st:Stmt):Prop:=∃f:Addr,W.nsIn K mainGlobals x=some (some (.ref f))/\∃fd:FuncData,cR K x x st f fd
def NI (K:W.Frag) (x y:Str) (st:Stmt):Prop:=∃f:Addr,W.nsIn K mainGlobals x=some (some (.ref f))/\W.nsIn K mainGlobals y=some (some (.ref f))/\∃fd:FuncData,cR K x x st f fd
def Me (K:W.Frag) (C:Addr) (m q:Str) (st:Stmt):Prop:=∃f:Addr,W.findIn K (.ref C) m=some (some (.ref f))/\W.isFn K (.ref f)=true/\W.keepIn K (.ref f)=true/\∃fd:FuncData,cR K m q st f fd
theorem Ga.elim {x:Str}{st:Stmt}{R:Prop}(g:Ga K x st) (k:∀f,W.nsIn K mainGlobals x=some (some (.ref f))->∀fd,cR K x x st f fd->R):R:=by
 obtain⟨f,a,fd,F⟩:=g
 exact k f a fd F
theorem NI.elim {x y:Str}{st:Stmt}{R:Prop}(g:NI K x y st) (k:∀f,W.nsIn K mainGlobals x=some (some (.ref f))->W.nsIn K mainGlobals y=some (some (.ref f))->∀fd,cR K x x st f fd->R):R:=by
 obtain⟨f,a,b,fd,F⟩:=g
 exact k f a b fd F
theorem Me.elim {C:Addr}{m q:Str}{st:Stmt}{R:Prop}(g:Me K C m q st) (k:∀f,W.findIn K (.ref C) m=some (some (.ref f))->W.isFn K (.ref f)=true->W.keepIn K (.ref f)=true->∀fd,cR K m q st f fd->R):R:=by
 obtain⟨f,a,b,c,fd,F⟩:=g
 exact k f a b c fd F
theorem Ga.mk {x:Str}{st:Stmt}{f:Addr}{oc:Value}{od an:Option Addr}{osl:Array (Option Value)}{kV doc pm cdv ct:Value}(a:W.nsIn K mainGlobals x=some (some (.ref f))) (l:K.lookup f=some ⟨oc,od,.func (W.fnOf x x (cK st) (bP st) (aq st) .none kV doc pm an cdv ct),osl⟩) (c:W.codeIn K cdv x=true) (k:W.keepIn K (.ref f)=true):Ga K x st:=⟨f,a,_,u7 l c k⟩
theorem NI.mk {x y:Str}{st:Stmt}{f:Addr}{oc:Value}{od an:Option Addr}{osl:Array (Option Value)}{kV doc pm cdv ct:Value}(a:W.nsIn K mainGlobals x=some (some (.ref f))) (b:W.nsIn K mainGlobals y=some (some (.ref f))) (l:K.lookup f=some ⟨oc,od,.func (W.fnOf x x (cK st) (bP st) (aq st) .none kV doc pm an cdv ct),osl⟩) (c:W.codeIn K cdv x=true) (k:W.keepIn K (.ref f)=true):NI K x y st:=⟨f,a,b,_,u7 l c k⟩
theorem Me.mk {C:Addr}{m q:Str}{st:Stmt}{f:Addr}{oc:Value}{od an:Option Addr}{osl:Array (Option Value)}{kV doc pm cdv ct:Value}(a:W.findIn K (.ref C) m=some (some (.ref f))) (b:W.isFn K (.ref f)=true) (l:K.lookup f=some ⟨oc,od,.func (W.fnOf m q (cK st) (bP st) (aq st) .none kV doc pm an cdv ct),osl⟩) (c:W.codeIn K cdv q=true) (k:W.keepIn K (.ref f)=true):Me K C m q st:=⟨f,a,b,k,_,u7 l c k⟩
end
mutual
inductive DW (H:Hp):V->PyData->Prop
 | non:DW H .non .none
 | bl (b:Bool):DW H (.bl b) (.bool b)
 | int (i:Int):DW H (.int i) (.int i)
 | str (x:Str):DW H (.str x) (.str x)
 | lst {a:Addr}{xs:List V}{ds:List PyData}:H a=some (.lst xs)->QB H xs ds->DW H (.ref a) (.list ds)
 | tup {a:Addr}{xs:List V}{ds:List PyData}:H a=some (.tup xs)->QB H xs ds->DW H (.ref a) (.tuple ds)
 | dic {a:Addr}:H a=some (.dK [])->DW H (.ref a) (.dict [])
inductive QB (H:Hp):List V->List PyData->Prop
 | nil:QB H [] []
 | cons {x:V}{d:PyData}{xs:List V}{ds:List PyData}:DW H x d->QB H xs ds->QB H (x::xs) (d::ds)
end
mutual
def WZ:PyData->Bool
 | .list _=>false
 | .tuple xs=>Pf xs
 | _=>true
def Pf:List PyData->Bool
 | []=>true
 | x::xs=>WZ x && Pf xs
end
def Sub (M:Addr->Bool) (H H':Hp):Prop:=∀a o,M a=false->H a=some o->H' a=some o
end L2
namespace PySem
open Sem (wp)
section
variable {prog:Program}{w:World}{A:Around}{E:Value->Shared->Prop}{h:Heap}{g:Array GenState}{d:Drawn}{t:Nat}{os:OsState}
variable {nm q:Str}{C N:Addr}{bs bm bmB:List Value}{hdct:Bool}{sn:List Str}{sub:List Value}{ab:Bool}{col:Option Bool}{dd:Option Addr}{k0 k1 k2 k3 k5:Option Value}{B newId initId:String}
theorem wH (F:ExcBaseFacts B newId initId bmB) (T:OwnTail h bmB bm) {mN:Str->Option Value}{rest:List Value}{fI:Addr}{oI:Obj}{Q:Fin->Shared->Prop}
  (hC:h.get? C=some (excClassObj nm q C N bs bm hdct sn sub ab col dd k0 k1 k2 k3 k5 newId)) (hn:h.Ns N mN) (hi:mN "__init__" = some (.ref fI))
  (hfI:h.get? fI=some oI) (hfc:oI.cls = .type "function")
  (hq:∀h' e,Heap.MadeExcOf h h' e (.ref C) rest->h.objs.size<=e ->
   wpAny (model prog w) A (call (.ref fI) (.ref e::rest)) (fun r s'=>r = .none/\Q (.done (.ret (.ref e))) s') E ⟨h',g,d,t,os⟩) (hrest:rest.length<=sizeLine:=by size_fits) :
  wpAny (model prog w) A (Builtin.«type.__call__» ⟨.ref C::rest,[]⟩) Q E ⟨h,g,d,t,os⟩:=by
 repeat (first|with_reducible refine wpAny_loadPart_at hC ?_|with_reducible refine wpAny_madeBy_exc hC ?_|wp_step)
 refine codeAny_call_builtin_code (Code.quiet_builtin _ F.quiet) (wpAny_check_new_subT F T hC ?_)
 refine codeAny_exc_new_subT F T hC ?_ hrest
 show wpAny _ _ _ _ _ _
 let o1:Obj:={ cls:=.type "tuple",data:=.seq rest.toArray }
 let o2:Obj:={ cls:=.ref C,data:=.fields #[.ref h.objs.size,.none,.none,.none,.bool false,.none] }
 have kp:∀b o,h.get? b=some o->((h.push o1).push o2).get? b=some o:=fun b o e=>Heap.get?_push_of_some o2 (Heap.get?_push_of_some o1 e)
 have hget:((h.push o1).push o2).get? (h.objs.size+1)=some o2:=by heap_get
 have hcC:(Value.ref C::bm).contains (.ref C)=true:=by simp
 have hC1:=kp _ _ hC
 unfold isInstance
 repeat (first|with_reducible refine wpAny_loadPart_at hget ?_|(with_reducible refine wpAny_isSubtype_exc hC1 ?_;rw[hcC])|wp_step)
 show wpAny _ _ (typeLookup (.ref C) _) _ _ _
 refine wpAny_typeLookup_tail hC1 (hn.keeps kp) (T.keeps kp) F.mroIs F.init.lookup ?_
 rw[hi]
 refine wpAny_holding (wpAny_bind ?_)
 unfold bindSpecial
 refine wpAny_bind (wpAny_typeOf (T := "function") ⟨_,kp _ _ hfI,hfc⟩ ?_)
 rw[if_pos (by decide)]
 refine wpAny_pure (wpAny_bind (wpAny_mono (hq _ (h.objs.size+1) ⟨kp,Heap.get?_none_of_le (Nat.le_succ _),h.objs.size,hget,Heap.get?_none_of_le (Nat.le_refl _),?_⟩ (Nat.le_succ _)) (fun r s' hr=>?_) fun _ _ x=>x))
 ·exact Heap.get?_push_of_some _ (Heap.get?_push_at rfl rfl)
 ·obtain⟨rfl,hQ⟩:=hr
  wp_walk
  exact hQ
theorem zu (F:ExcBaseFacts B newId initId bmB) (T:OwnTail h bmB bm) {mN:Str->Option Value}{rest:List Value}{fI:Addr}{oI:Obj}{Q:Value->Shared->Prop}
  (hC:h.get? C=some (excClassObj nm q C N bs bm hdct sn sub ab col dd k0 k1 k2 k3 k5 newId)) (hn:h.Ns N mN) (hi:mN "__init__" = some (.ref fI))
  (hfI:h.get? fI=some oI) (hfc:oI.cls = .type "function")
  (hq:∀h' e,Heap.MadeExcOf h h' e (.ref C) rest->h.objs.size<=e ->
   wpAny (model prog w) (A.under (.builtin "type.__call__" ⟨.ref C::rest,[]⟩)) (call (.ref fI) (.ref e::rest)) (fun r s'=>r = .none/\Q (.ref e) s') E ⟨h',g,d,t,os⟩) (hrest:rest.length<=sizeLine:=by size_fits) :
  wpAny (model prog w) A (call (.ref C) rest) Q E ⟨h,g,d,t,os⟩:=by
 have f1:=tc_lookup
 have f2:=tc_bind (.ref C)
 have hT:(⟨h,g,d,t,os⟩ : Shared).TypeIs (.ref C) "type" :=⟨_,hC,rfl⟩
 refine wpAny_call (codeAny_of_tree ?_)
 show wpAny _ _ (callAny (.ref C) _) _ _ _
 repeat (any_goals (first|assumption|with_reducible refine wpAny_loadPart_at hC ?_|wp_step))
 refine⟨rfl,?_⟩
 refine codeAny_call_builtin_at (Code.quiet_builtin _ (by z_go)) entry_typeCall (wpAny_check_type_call_sub hC (wH (hrest:=hrest) F T hC hn hi hfI hfc fun h' e hm hz=>?_))
 exact hq h' e hm hz
end
end PySem
namespace PySem
open Sem (wp)
open Builtin Builtin.ObjectAttr
inductive oO (h:Heap) (bmB:List Value) (P:Str->Prop):List Value->Prop
 | base:oO h bmB P bmB
 | own {A:Addr}{c0:Value}{dd:Option Addr}{cd:ClassData}{sl:Array (Option Value)}{mA:Str->Option Value}{tl:List Value} :
   h.get? A=some { cls:=c0,dict:=dd,data:=.cls cd,slots:=sl }->h.Ns cd.ns mA->(∀n,P n->mA n=none)->oO h bmB P tl->oO h bmB P (.ref A::tl)
theorem oO.keeps {h h':Heap}{bmB tl:List Value}{P:Str->Prop}(T:oO h bmB P tl) (hk:∀b o,h.get? b=some o->h'.get? b=some o):oO h' bmB P tl:=by
 induction T with
 | base=>exact .base
 | own hA hN hni _ ih=>exact .own (hk _ _ hA) (hN.keeps hk) hni ih
theorem oO.has {h:Heap}{bmB tl:List Value}{P:Str->Prop}(T:oO h bmB P tl) {X:String}(hb:bmB.contains (.type X)=true):tl.contains (.type X)=true:=by
 induction T with
 | base=>exact hb
 | own _ _ _ _ ih=>rw[List.contains_cons,ih,Bool.or_true]
theorem oO.tail {h:Heap}{bmB tl:List Value}{P:Str->Prop}(T:oO h bmB P tl) (hp:P "__init__"):OwnTail h bmB tl:=by
 induction T with
 | base=>exact .base
 | own hA hN hni _ ih=>exact .own hA hN (hni _ hp) ih
theorem oO.passes {h:Heap}{bmB tl:List Value}{P:Str->Prop}(T:oO h bmB P tl) {self:Value}{what:Str}(hb:refuseLoop self what bmB=pure ()):refuseLoop self what tl=pure ():=by
 induction T with
 | base=>exact hb
 | own _ _ _ _ ih=>rw[refuseLoop_ref];exact ih
section
variable {M:Model}{prog:Program}{w:World}{A:Around}{E:Value->Shared->Prop}{h:Heap}{g:Array GenState}{d:Drawn}{t:Nat}{os:OsState}{P:Str->Prop}
theorem OZ {bmB tl:List Value}{name:Str}{y:Option Value}{Q:Option Value->Shared->Prop}(T:oO h bmB P tl) (hp:P name) (hrest:lookupAlong bmB name=pure y) (hq:Q y ⟨h,g,d,t,os⟩) :
  wpAny M A (lookupAlong tl name) Q E ⟨h,g,d,t,os⟩:=by
 induction T with
 | base=>rw[hrest];exact wpAny_pure hq
 | own hA hN hni _ ih =>
  rw[lookupAlong_cons]
  refine wpAny_bind (wpAny_classOwn_cls hA hN ?_)
  rw[hni _ hp]
  exact ih
variable {nm q:Str}{C N x:Addr}{bs bm bmB:List Value}{hdct:Bool}{sn:List Str}{sub:List Value}{ab:Bool}{col:Option Bool}{dd:Option Addr}{k0 k1 k2 k3 k5:Option Value}{B newId sa owner:String}{mN:Str->Option Value}{name:Str}{v:Value}
theorem dP {y:Option Value}{Q:Option Value->Shared->Prop}
  (hC:h.get? C=some (excClassObj nm q C N bs bm hdct sn sub ab col dd k0 k1 k2 k3 k5 newId)) (hn:h.Ns N mN) (T:oO h bmB P bm) (hp:P name) (hbm:mroOf (.type B)=pure bmB) (hB:typeLookup (.type B) name=pure y)
  (hq:Q (match mN name with|some v=>some v|none=>y) ⟨h,g,d,t,os⟩):wpAny M A (typeLookup (.ref C) name) Q E ⟨h,g,d,t,os⟩:=by
 have hrest:lookupAlong bmB name=pure y:=by rw[typeLookup_eq,hbm]at hB;exact hB
 rw[typeLookup_eq]
 refine wpAny_bind (wpAny_mroOf_exc hC ?_)
 rw[lookupAlong_cons]
 refine wpAny_bind (wpAny_classOwn_exc hC hn ?_)
 cases hv:mN name with
 | some v=>rw[hv]at hq;exact wpAny_pure hq
 | none=>rw[hv]at hq;exact OZ T hp hrest hq
theorem Bm {o:Obj}{nameV:Value}{Q:Unit->Shared->Prop}(SF:StoreFacts B bmB sa owner) (T:oO h bmB P bm)
  (hC:h.get? C=some (excClassObj nm q C N bs bm true sn sub ab col dd k0 k1 k2 k3 k5 newId)) (hx:h.get? x=some o) (hc:o.cls = .ref C) (hq:Q () ⟨h,g,d,t,os⟩) :
  wpAny M A (checkBuiltinCall sa ⟨[.ref x,nameV,v],[]⟩) Q E ⟨h,g,d,t,os⟩:=by
 have hcB:(Value.ref C::bm).contains (.type owner)=true:=by rw[List.contains_cons,T.has SF.hasOwner,Bool.or_true]
 have ha:=SF.args (.ref x) nameV v
 simp only[checkBuiltinCall,SF.kind,SF.split]
 refine wpAny_bind ?_
 ·unfold isInstance
  repeat (first|(with_reducible refine wpAny_loadPart_at hx ?_;rw[hc])|(with_reducible refine wpAny_isSubtype_exc hC ?_;rw[hcB])|wp_step)
  cases hsig:Manifest.signature? sa with
  | none=>exact wpAny_pure hq
  | some sig =>
   simp only[argsOk,hsig]at ha
   have h2:Bind.checkArgs sa sig ⟨[.ref x,nameV,v],[]⟩=pure ():=ha
   show wpAny M A (Bind.checkArgs sa sig ⟨[.ref x,nameV,v],[]⟩) Q E _
   rw[h2];exact wpAny_pure hq
theorem Oe {o:Obj}{tk:Tok}{Q:Fin->Shared->Prop}(SF:StoreFacts B bmB sa owner) (T:oO h bmB P bm) (hp:P name)
  (hC:h.get? C=some (excClassObj nm q C N bs bm true sn sub ab col dd k0 k1 k2 k3 k5 newId)) (hn:h.Ns N mN) (hna:mN name=none)
  (hB:typeLookup (.type B) name=pure none) (hx:h.get? x=some o) (hc:o.cls = .ref C) (hnc:∀c,o.data ≠ .cls c) (hdn:o.dict=none)
  (hq:∀h' tk',h'.get? x=some { o with dict:=some h.objs.size }->h'.Ns1 h.objs.size (fun y=>if y=name then some v else none) ->
   (∀b ob,b≠x->h.get? b=some ob->h'.get? b=some ob)->Q (.done (.ret .none)) ⟨h',g,d,tk',os⟩) :
  wpAny (model prog w) A (Builtin.«object.__setattr__» ⟨[.ref x,.str name tk,v],[]⟩) Q E ⟨h,g,d,t,os⟩:=by
 have hpass:=T.passes (SF.passes (.ref x))
 unfold Builtin.«object.__setattr__»
 repeat (first|rw[refuse_eq] | (rw[refuseLoop_ref,hpass])|(with_reducible refine wpAny_loadPart_at hx ?_;rw[hc])|with_reducible refine wpAny_mroOf_exc hC ?_|(with_reducible refine dP hC hn T hp SF.mro hB ?_;rw[hna])|wp_step)
 rw[hdn,if_neg (by simp[typeHasDict])]
 split
 ·rename_i hcd
  cases hcd
 split
 ·rename_i c hcd
  exact absurd hcd (hnc c)
 ·have hx1:(h.push { cls:=.type "dict",data:=.dict #[] }).get? x=some o:=Heap.get?_push_of_some _ hx
  have hxs:x≠h.objs.size:=Nat.ne_of_lt (Heap.lt_size hx)
  refine wpAny_bind (wpAny_alloc' ?_)
  refine wpAny_bind (wpAny_update' hx1 ?_)
  refine wpAny_pure ?_
  have hgd:((h.push { cls:=.type "dict",data:=.dict #[] }).update x fun o=>{ cls:=o.cls,dict:=some h.objs.size,data:=o.data,slots:=o.slots }).get? h.objs.size
    = some { cls:=.type "dict",data:=.dict #[] } :=
   (Heap.get?_update_ne _ _ _ _ hxs.symm).trans (Heap.get?_push_at rfl rfl)
  have hnd:((h.push { cls:=.type "dict",data:=.dict #[] }).update x fun o=>{ cls:=o.cls,dict:=some h.objs.size,data:=o.data,slots:=o.slots }).Ns h.objs.size (fun _=>none) :=
   ⟨_,#[],_,hgd,rfl,fun e he=>absurd he (by simp),fun _=>rfl⟩
  show wpAny _ _ (storeInDict h.objs.size (.str name tk) name v) _ _ _
  unfold storeInDict newKeyGuard
  refine wpAny_bind (wpAny_pure (wpAny_bind (wpAny_nsSet1 (Heap.Ns1.of_empty hnd) fun h' hn' hs=>?_)))
  obtain⟨oD,esD,epD,hoD,hdD,hcD⟩:=hn'.count (Within.cons name v Within.nil)
  refine wpAny_bind (wpAny_lookBehind hoD (by rw[hdD];exact pastItsLine_dict (Nat.le_trans hcD (by rw[List.length_cons,List.length_nil,sizeLine_eq];omega))) ?_)
  wp_walk
  refine hq h' _ ?_ hn' fun b ob hbx hb=>?_
  ·refine(hs.2 x hxs).trans (Heap.get?_update_self _ hx1 ?_)
   have hfr:=(Heap.get?_some_iff.mp hx).2
   obtain⟨oc,od,odt,osl⟩:=o
   cases odt <;> first|rfl|exact hfr
  ·exact(hs.2 b (Nat.ne_of_lt (Heap.lt_size hb))).trans ((Heap.get?_update_ne _ _ _ _ hbx).trans (Heap.get?_push_of_some _ hb))
theorem Dp {o:Obj}{Q:Unit->Shared->Prop}(SF:StoreFacts B bmB sa owner) (T:oO h bmB P bm) (hp:P name) (hps:P "__setattr__")
  (hC:h.get? C=some (excClassObj nm q C N bs bm true sn sub ab col dd k0 k1 k2 k3 k5 newId)) (hn:h.Ns N mN) (hns:mN "__setattr__" = none) (hna:mN name=none)
  (hB:typeLookup (.type B) name=pure none) (hx:h.get? x=some o) (hc:o.cls = .ref C) (hnc:∀c,o.data ≠ .cls c) (hdn:o.dict=none)
  (hq:∀h' tk',h'.get? x=some { o with dict:=some h.objs.size }->h'.Ns1 h.objs.size (fun y=>if y=name then some v else none) ->
   (∀b ob,b≠x->h.get? b=some ob->h'.get? b=some ob)->Q () ⟨h',g,d,tk',os⟩) :
  wpAny (model prog w) A (setAttr (.ref x) name v) Q E ⟨h,g,d,t,os⟩:=by
 have f3:=SF.slot.bind (.ref x)
 unfold setAttr callSpecial? specialOf
 repeat (any_goals (first|assumption|(with_reducible refine wpAny_loadPart_at hx ?_;rw[hc])|(with_reducible refine dP hC hn T hps SF.mro SF.slot.lookup ?_;rw[hns])|wp_step))
 refine codeAny_call_builtin SF.slot.plain SF.entry (Bm SF T hC hx hc (Oe SF T hp hC hn hna hB hx hc hnc hdn fun h' tk' h1 h2 h3=>?_))
 repeat (any_goals (first|assumption|wp_step))
 exact hq h' tk' h1 h2 h3
end
end PySem
namespace L2
open PySem PySem.Spec PyProof.Rows
section
variable {P:Program}{w:World}{K:W.Frag}{A:Around}{s:Shared}{k:Nat}{f e C N:Addr}{name qual at_:Str}{params:Arguments}{scope:Scope}{dV kV doc pm cdv ct oc u:Value}{an od:Option Addr}
 {osl:Array (Option Value)}{nm q:Str}{bs bm bmB:List Value}{sn:List Str}{sub:List Value}{ab:Bool}{col:Option Bool}{dd:Option Addr}{k0 k1 k2 k3 k5:Option Value}{B newId sa owner:String}{mN:Str->Option Value}{oe:Obj}{Pn:Str->Prop}{p1 p2 p3 p4:Pos}
theorem J_ (lk:K.lookup f=some ⟨oc,od,.func (W.fnOf name qual params [.Assign [.Attribute (.Name "self" p1) at_ p2] (.Name at_ p3) p4] scope dV kV doc pm an cdv ct),osl⟩) (hcd:W.codeIn K cdv qual=true)
  (S:aB ["self",at_] ["self",at_] scope) (KX:K.In s.heap) (lim:s.heap.NoLimit) (hr:cA (k+1) A)
  (hs:∀env,swapsWith (.Name at_ p3) (some (.Attribute (.Name "self" p1) at_ p2)) p4.line env=pure false)
  (h1:scope.names.lookup ("self" : Str)=some .local) (h2:scope.names.lookup at_=some .local) (hne:at_ ≠ "self") (hd:(at_ ==("__debug__" : Str))=false)
  (hb:BindsTo s (W.fnOf name qual params [.Assign [.Attribute (.Name "self" p1) at_ p2] (.Name at_ p3) p4] scope dV kV doc pm an cdv ct) ⟨[.ref e,u],[]⟩ [("self",.ref e),(at_,u)])
  (SF:StoreFacts B bmB sa owner) (T:oO s.heap bmB Pn bm) (hp:Pn at_) (hps:Pn "__setattr__")
  (hC:s.heap.get? C=some (excClassObj nm q C N bs bm true sn sub ab col dd k0 k1 k2 k3 k5 newId)) (hn:s.heap.Ns N mN) (hns:mN "__setattr__" = none) (hna:mN at_=none)
  (hB:typeLookup (.type B) at_=pure none) (hx:s.heap.get? e=some oe) (hc:oe.cls = .ref C) (hnc:∀c,oe.data ≠ .cls c) (hdn:oe.dict=none)
  {R:Result->Shared->Prop}
  (hq:∀h' tk' D,s.heap.objs.size<=D->D≠e->h'.get? e=some { oe with dict:=some D }->h'.Ns1 D (fun y=>if y=at_ then some u else none) ->
   (∀b ob,b≠e->s.heap.get? b=some ob->h'.get? b=some ob)->R (.ok (.ret .none)) { s with heap:=h',toks:=tk' }) :
  codeAny (model P w) A (.call (.ref f) ⟨[.ref e,u],[]⟩) R s:=by
 have hkind:∀y ∈ [(("self" : Str),Value.ref e),(at_,u)],scope.names.lookup y.1=some .local \/(scope.names.lookup y.1=some .cell/\((cellsFrom (s.heap.objs.size+1) scope.names []).lookup y.1).isSome=true):=fun y hy=>by
  rcases List.mem_cons.mp hy with rfl|hy
  ·exact .inl h1
  ·rw[List.mem_singleton]at hy;subst hy;exact .inl h2
 refine codeAny_call_function hr.depth (KX _ _ lk) rfl S.co S.gen rfl (PySem.W.codeRec_of KX hcd) (hb _ _ _ _ ?_)
 refine wpAny_newFunctionEnv_cells S.kind hkind fun env he s1 x=>?_
 subst he
 refine⟨lim.keeps x.toInCall.keep,codeAny_func ?_⟩
 obtain⟨hh1,tk,rfl,hk⟩:=x.done
 refine wpAny_execs_cons (plainObj_wpAny_Assign_Attribute ?_ (hs _))
 have m1:bindL (envOfC qual scope s.heap.objs.size f cdv).kindOf [("self",.ref e),(at_,u)] (fun _=>none) at_=some u:=by
  exact gZ (kindOf:=(envOfC qual scope s.heap.objs.size f cdv).kindOf) (P:=["self",at_]) (vs:=[.ref e,u]) (i:=1) S.nd rfl rfl h2
 have m2:bindL (envOfC qual scope s.heap.objs.size f cdv).kindOf [("self",.ref e),(at_,u)] (fun _=>none) "self" = some (.ref e):=by
  exact gZ (kindOf:=(envOfC qual scope s.heap.objs.size f cdv).kindOf) (P:=["self",at_]) (vs:=[.ref e,u]) (i:=0) S.nd rfl rfl h1
 refine wpAny_Name (wpAny_loadName_local S.kind h2 x.toInCall.ns m1 ?_) hd
 refine wpAny_Name (wpAny_loadName_local S.kind h1 x.toInCall.ns m2 ?_) (by decide)
 obtain⟨h,g,d,t,os⟩:=s
 have Tk:=T.keeps hk
 refine Dp SF Tk hp hps (hk _ _ hC) (hn.keeps hk) hns hna hB (hk _ _ hx) hc hnc hdn fun h' tk' g1 g2 g3=>?_
 refine wpAny_execs_nil ?_
 have hz:h.objs.size<=hh1.objs.size:=by
  obtain⟨o,_,_,ho,_⟩:=x.toInCall.ns
  exact Nat.le_of_lt (Heap.lt_size ho)
 exact hq h' tk' hh1.objs.size hz (fun z=>by rw[<- z]at hx;exact Nat.lt_irrefl _ (Heap.lt_size (hk _ _ hx))) g1 g2 fun b ob nb hb=>g3 b ob nb (hk _ _ hb)
end
end L2
namespace PySem
open Sem (wp)
section
variable {M:Model}{prog:Program}{w:World}{A:Around}{E:Value->Shared->Prop}{s:Shared}{env:Env}
variable {nm q:Str}{C N:Addr}{bs bm bmB:List Value}{hdct:Bool}{sn:List Str}{sub:List Value}{ab:Bool}{col:Option Bool}{dd:Option Addr}{k0 k1 k2 k3 k5:Option Value}{B newId initId:String}
theorem NN {x:Sem Value}{Q:Flow->Shared->Prop}(hbase:bm.contains (.type "BaseException")=true) (hh:A.handled=none)
  (h:wpAny M A x (fun v s1=>∃e dct t sl,v = .ref e/\s1.heap.get? C=some (excClassObj nm q C N bs bm hdct sn sub ab col dd k0 k1 k2 k3 k5 newId) /\
   s1.heap.get? e=some ⟨.ref C,dct,.fields #[.ref t,.none,.none,.none,.bool false,.none],sl⟩/\E (.ref e) s1) E s) :
  wpAny M A (raiseStmt env (some x) none) Q E s:=by
 have hcB:(Value.ref C::bm).contains (.type "BaseException")=true:=by rw[List.contains_cons,hbase,Bool.or_true]
 unfold raiseStmt
 refine wpAny_bind (wpAny_mono h (fun v s1 h1=>?_) fun _ _ x=>x)
 obtain⟨e,dct,t,sl,rfl,hC,he,hE⟩:=h1
 obtain⟨hp,g,d,tk,os⟩:=s1
 repeat (first|with_reducible refine wpAny_loadPart_at he ?_|with_reducible refine wpAny_loadPart_at hC ?_|(with_reducible refine wpAny_isSubtype_exc hC ?_;rw[hcB])|wp_step)
 exact wpAny_raiseNew_none hh hE
theorem wX (F:ExcBaseFacts B newId initId bmB) {mN:Str->Option Value}{x:Str}{np cpos pos:Pos}{args:List Expr}{fI:Addr}{oI:Obj}{Q:Flow->Shared->Prop}
  (hbase:bm.contains (.type "BaseException")=true) (hh:A.handled=none) (hplain:(backTo cpos (starEach args env)).any (·.1)=false) (hi:mN "__init__" = some (.ref fI)) (hfc:oI.cls = .type "function")
  (h:wpAny (model prog w) A (eval (.Name x np) env) (fun f s1=>f = .ref C/\wpAny (model prog w) A (evalArgs (.ref C) true (backTo cpos (starEach args env)) [])
   (fun a s2=>a.kw=[]/\a.pos.length<=sizeLine/\s2.heap.get? C=some (excClassObj nm q C N bs bm hdct sn sub ab col dd k0 k1 k2 k3 k5 newId)/\s2.heap.Ns N mN/\OwnTail s2.heap bmB bm/\s2.heap.get? fI=some oI /\
    ∀h' e,Heap.MadeExcOf s2.heap h' e (.ref C) a.pos->s2.heap.objs.size<=e ->
     wpAny (model prog w) (A.under (.builtin "type.__call__" ⟨.ref C::a.pos,[]⟩)) (call (.ref fI) (.ref e::a.pos)) (fun r s'=>r = .none/\s'.heap.get? C=some (excClassObj nm q C N bs bm hdct sn sub ab col dd k0 k1 k2 k3 k5 newId) /\
      (∃dct t sl,s'.heap.get? e=some ⟨.ref C,dct,.fields #[.ref t,.none,.none,.none,.bool false,.none],sl⟩)/\E (.ref e) s') E { s2 with heap:=h' }) E s1) E s) :
  wpAny (model prog w) A (exec (.Raise (some (.Call (.Name x np) args [] cpos)) none pos) env) Q E s:=by
 rw[arm_exec_Raise]
 refine wpAny_bind (wpAny_standAt (NN (C:=C) (nm:=nm) (q:=q) (N:=N) (bs:=bs) (bm:=bm) (hdct:=hdct) (sn:=sn) (sub:=sub) (ab:=ab) (col:=col) (dd:=dd) (k0:=k0) (k1:=k1) (k2:=k2) (k3:=k3) (k5:=k5) (newId:=newId) hbase hh (wpAny_bind (wpAny_mono (wpAny_Call_ofName (wpAny_mono h (fun f s1 h1=>?_) fun _ _ x=>x)) (fun v s3 h3=>wpAny_bind (wpAny_standAt (wpAny_pure h3))) fun _ _ x=>x))))
 obtain⟨rfl,h1⟩:=h1
 unfold callWith
 refine wpAny_bind (wpAny_holding (wpAny_mono h1 (fun a s2 h2=>wpAny_bind (wpAny_standAt ?_)) fun _ _ x=>x))
 obtain⟨apos,akw⟩:=a
 obtain⟨hkw,hlen,hC,hn,T,hfI,h2⟩:=h2
 obtain rfl:akw=[]:=hkw
 obtain⟨hp,g,d,tk,os⟩:=s2
 simp only[hplain]
 refine wpAny_bind (wpAny_keeperOf_exc hC ?_)
 refine wpAny_bind (zu (hrest:=hlen) F T hC hn hi hfI hfc fun h' e hm hz=>wpAny_mono (h2 h' e hm hz) (fun r s' z=>⟨z.1,wpAny_bind (wpAny_holding (wpAny_point (wpAny_pure ?_)))⟩) fun _ _ z=>z)
 obtain⟨_,hC',⟨dct,t,sl,he⟩,hE⟩:=z
 exact⟨e,dct,t,sl,rfl,hC',he,hE⟩
end
end PySem
namespace PySem
open Sem (wp)
theorem iD {o:Obj}{vs:Array Value}(h:o.data = .fields vs) (f:Array Value->Array Value):Obj.mapFields f o = { o with data:=.fields (f vs) }:=by
 obtain⟨c,d,dt,sl⟩:=o
 subst h
 rfl
structure AF (l:List Env) (e:Addr) (oe:Obj) (h h':Heap):Prop where
 exc:∃vs T oT ts x,h'.get? e=some { oe with data:=.fields vs }/\(∀us,oe.data = .fields us->vs[2]? = us[2]?)/\vs[1]? = some (.ref T)/\h.objs.size<=T/\T≠e/\h'.get? T=some oT/\oT.data = .fields ts/\ts[3]? = some x
 keep:∀b o,b≠e->b∉l.filterMap (·.frame)->h.get? b=some o->h'.get? b=some o
 slot:∀b o,b≠e->h.get? b=some o->∃sl,h'.get? b=some { o with slots:=sl }
section
variable {M:Model}{A:Around}{E:Value->Shared->Prop}{s:Shared}
theorem ud {base:Heap}{env e0:Env}{outer:List Env}{L e:Addr}{oe:Obj}{vs:Array Value}{head:Value}{hadNext:Bool}{Q:Unit->Shared->Prop}
  (hfr:A.frames=some (e0::outer)) (hl:s.heap.FunFrames base (e0::outer)) (hf:e0.frame=some L) (hf':env.frame=some L)
  (he:s.heap.get? e=some oe) (hd:oe.data = .fields vs) (hsz:1<vs.size)
  (h:∀h',AF (e0::outer) e oe s.heap h'->Q () { s with heap:=h' }) :
  wpAny M A (do let a <- frameOf env;let pl <- entryPlaceOf L hadNext;let b <- EntryCells.newEntry head a .none (rawInt L) .none pl;setField (.ref e) 1 b) Q E s:=by
 have fe:frameOf env=frameOf e0:=by unfold frameOf;rw[hf,hf']
 rw[fe]
 have hene:e∉(e0::outer).filterMap (·.frame):=fun hm=>by
  obtain⟨_,o,ho,hnf⟩:=hl.mem hm
  rw[he]at ho;injection ho with ho;subst ho;exact hnf vs hd
 refine wpAny_bind (wpAny_frameOf_fun hfr hl hf fun g hg=>?_)
 refine wpAny_bind (wpAny_entryPlaceOf fun pl hpl=>?_)
 unfold EntryCells.newEntry newFields
 refine wpAny_bind (wpAny_newObj_type ?_ (hpl.sizeOk5 _ _ _ _ _))
 have he1:g.get? e=some oe:=(hg.2.1 e hene).trans he
 generalize hT0:({ cls:=.type "traceback",dict:=none,data:=.fields ([head,.ref L,.none,rawInt L,.none]++(if pl.isEmpty then List.replicate 6 Value.none else pl)).toArray }:Obj)=T0
 have hTd:∃ts x,T0.data = .fields ts/\ts[3]? = some x:=by
  rw[<- hT0]
  exact⟨_,rawInt L,rfl,by simp⟩
 obtain⟨ts,x3,hts,h3⟩:=hTd
 have he2:=Heap.get?_push_of_some (h:=g) T0 he1
 refine wpAny_setField he2 hd hsz (h _ ?_)
 have hTe:g.objs.size≠e:=Nat.ne_of_gt (Heap.lt_size he1)
 have hd3:=Obj.data_mapFields hd (·.setIfInBounds 1 (Value.ref g.objs.size))
 have he3:=Heap.get?_update_self (Obj.mapFields (·.setIfInBounds 1 (Value.ref g.objs.size))) he2 (Obj.isFreed_of_fields hd3)
 have hT3:=(Heap.get?_update_other (g.push T0) (Obj.mapFields (·.setIfInBounds 1 (Value.ref g.objs.size))) (Ne.symm hTe)).trans (Heap.get?_push_size g (Obj.isFreed_of_fields hts))
 have keep:∀b o,b≠e->g.get? b=some o->((g.push T0).update e (Obj.mapFields (·.setIfInBounds 1 (Value.ref g.objs.size)))).get? b=some o:=fun b o hbe hb=>by
  rw[Heap.get?_update_other _ _ (Ne.symm hbe)]
  exact Heap.get?_push_of_some _ hb
 rw[iD hd]at he3
 refine⟨⟨_,g.objs.size,_,_,x3,he3,(fun us e=>by rw[hd]at e;cases e;simp),by simp[hsz],?_,hTe,hT3,hts,h3⟩,fun b o hb hf hs=>keep b o hb ((hg.2.1 b hf).trans hs),fun b o hb hs=>?_⟩
 ·exact Nat.le_of_eq hg.1.symm
 ·obtain⟨sl,hs⟩:=hg.2.2 b o hs
  exact⟨sl,keep b _ hb hs⟩
theorem C6 {base:Heap}{env e0:Env}{outer:List Env}{L e:Addr}{oe:Obj}{vs:Array Value}{Q:Unit->Shared->Prop}
  (hfr:A.frames=some (e0::outer)) (hl:s.heap.FunFrames base (e0::outer)) (hf0:e0.frame=some L) (hf:env.frame=some L)
  (he:s.heap.get? e=some oe) (hd:oe.data = .fields vs) (h1:vs[1]? = some .none)
  (h:∀h',AF (e0::outer) e oe s.heap h'->Q () { s with heap:=h' }):wpAny M A (noteFrame (.ref e) env) Q E s:=by
 unfold noteFrame
 simp only[hf]
 refine wpAny_bind (wpAny_field he hd h1 ?_)
 rw[if_neg (by decide)]
 exact ud hfr hl hf0 hf he hd (Array.getElem?_eq_some_iff.mp h1).1 h
structure C9 (l:List Env) (e T:Addr) (oe oT:Obj) (h h':Heap):Prop where
 exc:∃vs T' oT' ts x,h'.get? e=some { oe with data:=.fields vs }/\(∀us,oe.data = .fields us->vs[2]? = us[2]?)/\vs[1]? = some (.ref T')/\h.objs.size<=T'/\T'≠e/\h'.get? T'=some oT'/\oT'.data = .fields ts/\ts[3]? = some x
 old:∃ts x,h'.get? T=some { oT with data:=.fields ts }/\ts[3]? = some x
 keep:∀b o,b≠e->b≠T->b∉l.filterMap (·.frame)->h.get? b=some o->h'.get? b=some o
 slot:∀b o,b≠e->b≠T->h.get? b=some o->∃sl,h'.get? b=some { o with slots:=sl }
theorem EC {env:Env}{L e T:Addr}{oe oT:Obj}{vs ts:Array Value}{x:Value}{Q:Unit->Shared->Prop}(hf:env.frame=some L)
  (he:s.heap.get? e=some oe) (hd:oe.data = .fields vs) (h1:vs[1]? = some (.ref T)) (hT:s.heap.get? T=some oT) (hdT:oT.data = .fields ts) (h3:ts[3]? = some x) (hx:(x == rawInt L)=true)
  (h:Q () s):wpAny M A (noteFrame (.ref e) env) Q E s:=by
 unfold noteFrame
 simp only[hf]
 refine wpAny_bind (wpAny_field he hd h1 ?_)
 rw[if_pos (show(Value.ref T != Value.none)=true from by simp)]
 refine wpAny_bind (wpAny_field hT hdT h3 ?_)
 rw[if_pos hx]
 exact wpAny_pure h
theorem Df {base:Heap}{env e0:Env}{outer:List Env}{L e T:Addr}{oe oT:Obj}{vs ts:Array Value}{x:Value}{Q:Unit->Shared->Prop}
  (hfr:A.frames=some (e0::outer)) (hl:s.heap.FunFrames base (e0::outer)) (hf0:e0.frame=some L) (hf:env.frame=some L)
  (he:s.heap.get? e=some oe) (hd:oe.data = .fields vs) (h1:vs[1]? = some (.ref T)) (hTe:T≠e) (hT:s.heap.get? T=some oT) (hdT:oT.data = .fields ts) (h3:ts[3]? = some x) (hx:¬(x == rawInt L)=true)
  (h:∀h',C9 (e0::outer) e T oe oT s.heap h'->Q () { s with heap:=h' }):wpAny M A (noteFrame (.ref e) env) Q E s:=by
 unfold noteFrame
 simp only[hf]
 refine wpAny_bind (wpAny_field he hd h1 ?_)
 rw[if_pos (show(Value.ref T != Value.none)=true from by simp)]
 refine wpAny_bind (wpAny_field hT hdT h3 ?_)
 rw[if_neg hx]
 have hs3:=(Array.getElem?_eq_some_iff.mp h3).1
 refine wpAny_bind (wpAny_setField hT hdT hs3 ?_)
 have other:∀b,b≠T->(s.heap.update T (Obj.mapFields (·.setIfInBounds 3 Value.none))).get? b=s.heap.get? b:=fun b hb=>Heap.get?_update_other _ _ (Ne.symm hb)
 have atT:=Heap.get?_update_self (Obj.mapFields (·.setIfInBounds 3 Value.none)) hT (Obj.isFreed_of_fields (Obj.data_mapFields hdT _))
 rw[iD hdT]at atT
 have noRec:∀b o,s.heap.get? b=some o->(∀vs,o.data ≠ .fields vs)->b≠T:=fun b o hb hnf q=>by
  rw[q,hT]at hb;injection hb with hb;subst hb;exact hnf ts hdT
 have nT:T∉(e0::outer).filterMap (·.frame):=fun hm=>by
  obtain⟨_,o,ho,hnf⟩:=hl.mem hm
  rw[hT]at ho;injection ho with ho;subst ho;exact hnf ts hdT
 refine ud hfr (hl.of_keeps fun b o hb hnf=>⟨o,(other b (noRec b o hb hnf)).trans hb,rfl⟩) hf0 hf ((other e (Ne.symm hTe)).trans he) hd (Array.getElem?_eq_some_iff.mp h1).1 fun h' x=>h h' ?_
 obtain⟨vs',T',oT',ts',x3,g1,g0,g2,g3,g4,g5,g6,g7⟩:=x.exc
 refine⟨⟨vs',T',oT',ts',x3,g1,g0,g2,?_,g4,g5,g6,g7⟩,⟨_,Value.none,x.keep _ _ hTe nT atT,by simp[hs3]⟩,fun b o b1 b2 b3 hb=>x.keep b o b1 b3 ((other b b2).trans hb),fun b o b1 b2 hb=>x.slot b o b1 ((other b b2).trans hb)⟩
 rw[Heap.size_after_update]at g3;exact g3
end
end PySem
namespace L2
open PySem PySem.Spec PyProof.Rows
def JV (e C:Addr) (D T:Option Addr):Heap->Prop:=fun h=>∃vs sl,h.get? e=some ⟨.ref C,D,.fields vs,sl⟩/\vs[1]? = some (match T with|some t=>Value.ref t|none=>.none)/\vs[2]? = some .none
def KR (T:Addr):Heap->Prop:=fun h=>∃oT ts x,h.get? T=some oT/\oT.data = .fields ts/\ts[3]? = some x
structure Exc (H:Hp) (e C:Addr) (D T:Option Addr) (a:Str) (v:V):Prop where
 ex:H e=some (.ext (JV e C D T))
 xd:∀d,D=some d->H d=some (.xd [(a,v)])
 tb:∀t,T=some t->H t=some (.ext (KR t))/\t≠e
section
variable {X:Cx}{pins:List (Addr×Obj)}{σ:St}{H H':Hp}{s:Shared}{h':Heap}
theorem Inv.flown (I:Inv X pins σ H s) {S:Addr->Prop}
  (keep:∀b o,¬ S b->b∉frs X.stack->s.heap.get? b=some o->h'.get? b=some o)
  (slot:∀b o,¬ S b->s.heap.get? b=some o->∃sl,h'.get? b=some { o with slots:=sl })
  (sx:∀b,S b->∃φ,H b=some (.ext φ)) (st:∀b,S b->∃o,h'.get? b=some o)
  (hn:∀b,¬ S b->(H b≠none \/ ∃o,s.heap.get? b=some o)->H' b=H b)
  (hok:kH X.prog X.w H' h'):Inv X pins σ H' { s with heap:=h' }:=by
 have nS:∀b,H b=none->¬ S b:=fun b e z=>by obtain⟨φ,q⟩:=sx b z;rw[q]at e;cases e
 have nfr:∀b,b≠X.env.locals->b∉X.fs->b∉frs X.stack:=fun b n1 n2 z=>by
  rcases I.ok.stk with e|⟨e,hf⟩
  ·rw[e]at z;exact n2 z
  ·rw[e]at z
   unfold frs at z
   rw[List.filterMap_cons,hf]at z
   rcases List.mem_cons.mp z with q|q
   ·exact n1 q
   ·exact n2 q
 have nl:∀b o,X.s₀.heap.get? b=some o->b≠X.env.locals:=fun b o q z=>by
  rw[z]at q
  exact absurd (Nat.lt_of_lt_of_le (Heap.lt_size q) I.ok.above) (Nat.lt_irrefl _)
 have same:∀b u,H b=some u->(∀φ,u ≠ .ext φ)->H' b=some u:=fun b u q n=>by
  rw[hn b (fun z=>by obtain⟨φ,r⟩:=sx b z;rw[q]at r;exact n φ (Option.some.inj r)) (.inl (by rw[q];intro z;cases z))];exact q
 have cellK:∀x c v,X.env.cells.lookup x=some c->s.heap.IsCell c v->h'.IsCell c v:=fun x c v e ⟨o,ho,hd⟩=>by
  obtain⟨sl,q⟩:=slot c o (nS c (I.freeC x c e)) ho
  exact⟨_,q,hd⟩
 have hl0:∃o,s.heap.get? X.env.locals=some o:=by obtain⟨_,⟨o,_,_,ho,_⟩,_⟩:=I.loc;exact⟨o,ho⟩
 refine⟨I.ok,I.os,I.bare,⟨fun b o q n f x=>?_,fun b o q n f x=>?_,fun b o q n x=>?_,fun b o q x=>?_,fun b xs q=>?_,fun b o u q=>?_,fun b ps q=>?_⟩,?_,fun x c e=>?_,?_,fun x c e=>?_,fun p hp=>?_,hok,I.len⟩
 ·exact keep b o (nS b (I.base.free b o q n x)) (nfr b (nl b o q) f) (I.base.keep b o q n f x)
 ·obtain⟨sl,r⟩:=I.base.slot b o q n f x
  obtain⟨sl',r'⟩:=slot b _ (nS b (I.base.free b o q n x)) r
  exact⟨sl',r'⟩
 ·have z:=I.base.free b o q n x
  obtain⟨o',r⟩:=I.base.there b o q x
  rw[hn b (nS b z) (.inr ⟨o',r⟩)];exact z
 ·obtain⟨o',r⟩:=I.base.there b o q x
  by_cases c:S b
  ·exact st b c
  ·obtain⟨sl,r'⟩:=slot b o' c r
   exact⟨_,r'⟩
 ·exact same b _ (I.base.tups b xs q) (by intro φ z;cases z)
 ·exact same b _ (I.base.frzs b o u q) (by intro φ z;cases z)
 ·obtain⟨more,r⟩:=I.base.tbls b ps q
  exact⟨more,same b _ r (by intro φ z;cases z)⟩
 ·obtain⟨m,⟨o,es,ep,ho,hd,r⟩,hl⟩:=I.loc
  obtain⟨sl,q⟩:=slot _ o (nS _ I.free) ho
  refine⟨m,⟨_,es,ep,q,hd,r⟩,fun i x v e1 e2 e3=>?_⟩
  obtain⟨u,ru,lk⟩:=hl i x v e1 e2 e3
  refine⟨u,ru,?_⟩
  rcases lk with lk|⟨k,c,hc,ic⟩
  ·exact .inl lk
  ·exact .inr ⟨k,c,hc,cellK x c _ hc ic⟩
 ·obtain⟨v,ic⟩:=I.cell x c e
  exact⟨v,cellK x c v e ic⟩
 ·rw[hn _ (nS _ I.free) (.inr hl0)];exact I.free
 ·obtain⟨v,o,ho,_⟩:=I.cell x c e
  rw[hn _ (nS _ (I.freeC x c e)) (.inr ⟨o,ho⟩)];exact I.freeC x c e
 ·obtain⟨p1,p2,p3,p4,p5⟩:=I.pin p hp
  exact⟨keep _ _ (nS _ p2) (nfr _ p3 p4) p1,by rw[hn _ (nS _ p2) (.inr ⟨_,p1⟩)];exact p2,p3,p4,p5⟩
theorem Inv.note (I:Inv X pins σ H s) {e C:Addr}{D T:Option Addr}{a:Str}{v:V}{e0:Env}{o0:List Env}{L:Addr}(hst:X.stack=e0::o0) (hf0:e0.frame=some L) (hf:X.env.frame=some L) (x:Exc H e C D T a v) {Q:Unit->Shared->Prop}{E:Value->Shared->Prop}
  (k:∀(T':Addr) (H':Hp) (h':Heap),Exc H' e C D (some T') a v->(∀b o,b≠e->H b=some o->H' b=some o)->Inv X pins σ H' { s with heap:=h' }->Q () { s with heap:=h' }) :
  wpAny (model X.prog X.w) X.A (noteFrame (.ref e) X.env) Q E s:=by
 obtain⟨⟨vs,sl,he,h1,h2⟩,_,_⟩:=I.hok e _ x.ex
 have stE:∀(T':Addr) (h1 h2:Heap),JV e C D (some T') h1->(∀o,h1.get? e=some o->h2.get? e=some o)->JV e C D (some T') h2:=fun T' h1 h2 ⟨vs,sl,q,r⟩ kk=>⟨vs,sl,kk _ q,r⟩
 have stT:∀(T':Addr) (h1 h2:Heap),KR T' h1->(∀o,h1.get? T'=some o->h2.get? T'=some o)->KR T' h2:=fun T' h1 h2 ⟨o,ts,y,q,r⟩ kk=>⟨o,ts,y,kk _ q,r⟩
 have fin:∀(h':Heap) (T':Addr) (S:Addr->Prop),s.heap.objs.size<=T'->T'≠e->S e->(∀b,S b->∃φ,H b=some (.ext φ))->(∀b,S b->b≠e->b≠T'/\H b=some (.ext (KR b))/\KR b h') ->
   (∀b o,¬ S b->b∉frs X.stack->s.heap.get? b=some o->h'.get? b=some o)->(∀b o,¬ S b->s.heap.get? b=some o->∃sl,h'.get? b=some { o with slots:=sl }) ->
   JV e C D (some T') h'->KR T' h'->Q () { s with heap:=h' }:=fun h' T' S hz hTe hS sx so keep slot pe pt=>by
  have nT:=I.hok.fresh hz
  refine k T' (upd (upd H e (.ext (JV e C D (some T')))) T' (.ext (KR T'))) h' ⟨by rw[az hTe.symm,aA],fun d q=>?_,fun t q=>?_⟩ (fun b o ne q=>by rw[az (ay q nT),az ne];exact q) (I.flown (S:=S) keep slot sx (fun b hb=>?_) (fun b hb hh=>?_) fun b u q=>?_)
  ·have hd:=x.xd d q
   rw[az (ay hd nT),az (cX hd x.ex (by intro z;cases z))];exact hd
  ·cases q
   exact⟨aA,hTe⟩
  ·by_cases c:b=e
   ·subst c;obtain⟨_,_,q,_⟩:=pe;exact⟨_,q⟩
   ·obtain⟨_,_,o,_,_,q,_⟩:=so b hb c;exact⟨_,q⟩
  ·have ne:b≠e:=fun z=>hb (z ▸ hS)
   have nt:b≠T':=fun z=>by
    subst z
    rcases hh with hh|⟨o,ho⟩
    ·exact hh nT
    ·exact absurd (Nat.lt_of_lt_of_le (Heap.lt_size ho) hz) (Nat.lt_irrefl _)
   rw[az nt,az ne]
  ·by_cases c:b=T'
   ·subst c
    rw[aA]at q;cases q
    obtain⟨o,ts,y,r,r'⟩:=id pt
    exact⟨pt,⟨o,r⟩,stT b⟩
   rw[az c]at q
   by_cases c2:b=e
   ·subst c2
    rw[aA]at q;cases q
    obtain⟨_,_,r,_⟩:=id pe
    exact⟨pe,⟨_,r⟩,stE T'⟩
   rw[az c2]at q
   by_cases c3:S b
   ·obtain⟨_,q',pb⟩:=so b c3 c2
    rw[q]at q';cases q'
    obtain⟨o,ts,y,r,r'⟩:=id pb
    exact⟨pb,⟨o,r⟩,stT b⟩
   have back:∀c u,H c=some u->(∀φ,u ≠ .ext φ)->upd (upd H e (.ext (JV e C D (some T')))) T' (.ext (KR T')) c=some u:=fun c u qc n=>by
    rw[az (fun z=>by rw[z,nT]at qc;cases qc),az (fun z=>by rw[z,x.ex]at qc;exact n _ (Option.some.inj qc).symm)];exact qc
   refine(I.hok b u q).stay (fun c o hc r=>keep c o ?_ ?_ r) (fun c qc=>back c _ qc (by intro φ z;cases z)) fun c xs qc=>back c _ qc (by intro φ z;cases z)
   ·rcases hc with rfl|hc
    ·exact c3
    ·intro z;obtain⟨φ,r'⟩:=sx c z;rw[hc]at r';cases r'
   ·intro z
    have hz2:H c=none:=I.stkFree c z
    rcases hc with rfl|hc
    ·rw[q]at hz2;cases hz2
    ·rw[hc]at hz2;cases hz2
 have frA:X.A.frames=some (e0::o0):=by rw[<- hst];exact I.ok.frames
 have frS:s.heap.FunFrames X.base (e0::o0):=by rw[<- hst];exact I.stack
 cases T with
 | none =>
  refine C6 frA frS hf0 hf he rfl h1 fun h' y=>?_
  obtain⟨vs',T',oT,ts,x3,q1,q0,q2,q3,q4,q5,q6,q7⟩:=y.exc
  exact fin h' T' (· = e) q3 q4 rfl (fun b z=>by subst z;exact⟨_,x.ex⟩) (fun b z n=>absurd z n) (fun b o n f q=>y.keep b o n (by rw[hst]at f;exact f) q) (fun b o n q=>y.slot b o n q) ⟨vs',sl,q1,q2,(q0 vs rfl).trans h2⟩ ⟨oT,ts,x3,q5,q6,q7⟩
 | some T =>
  obtain⟨hT,hTe⟩:=x.tb T rfl
  obtain⟨⟨oT,ts,x3,hT0,hdT,h3⟩,_,_⟩:=I.hok T _ hT
  by_cases hx:(x3 == rawInt L)=true
  ·exact EC hf he rfl h1 hT0 hdT h3 hx (k T H s.heap x (fun b o _ q=>q) I)
  refine Df frA frS hf0 hf he rfl h1 hTe hT0 hdT h3 hx fun h' y=>?_
  obtain⟨vs',T',oT',ts',x4,q1,q0,q2,q3,q4,q5,q6,q7⟩:=y.exc
  obtain⟨ts2,x5,q8,q9⟩:=y.old
  have tt:T≠T':=fun z=>by rw[z]at hT0;exact absurd (Nat.lt_of_lt_of_le (Heap.lt_size hT0) q3) (Nat.lt_irrefl _)
  exact fin h' T' (fun b=>b=e\/b=T) q3 q4 (.inl rfl) (fun b z=>by rcases z with rfl|rfl;exact⟨_,x.ex⟩;exact⟨_,hT⟩) (fun b z n=>by
   rcases z with z|rfl
   ·exact absurd z n
   ·exact⟨tt,hT,_,ts2,x5,q8,rfl,q9⟩) (fun b o n f q=>y.keep b o (fun z=>n (.inl z)) (fun z=>n (.inr z)) (by rw[hst]at f;exact f) q) (fun b o n q=>y.slot b o (fun z=>n (.inl z)) (fun z=>n (.inr z)) q) ⟨vs',sl,q1,q2,(q0 vs rfl).trans h2⟩ ⟨oT',ts',x4,q5,q6,q7⟩
theorem Inv.flight (I:Inv X pins σ H s) {e C T:Addr}{D:Option Addr}{a:Str}{v:V}{A:Around}{fr:Option Addr}(x:Exc H e C D (some T) a v) {Q:Unit->Shared->Prop}{E:Value->Shared->Prop}
  (k:∀(h':Heap),Inv X pins σ H { s with heap:=h' }->(∀b,b≠T->h'.get? b=s.heap.get? b)->Q () { s with heap:=h' }) :
  wpAny (model X.prog X.w) A (setFlight (.ref e) fr) Q E s:=by
 obtain⟨⟨vs,sl,he,h1,h2⟩,_,_⟩:=I.hok e _ x.ex
 obtain⟨hT,hTe⟩:=x.tb T rfl
 obtain⟨⟨oT,ts,x3,hT0,hdT,h3⟩,_,stT⟩:=I.hok T _ hT
 have hs3:=(Array.getElem?_eq_some_iff.mp h3).1
 have other:∀b,b≠T->(s.heap.update T (Obj.mapFields (·.setIfInBounds 3 (fr.elim Value.none fun f=>rawInt f)))).get? b=s.heap.get? b:=fun b hb=>Heap.get?_update_other _ _ (Ne.symm hb)
 have atT:=Heap.get?_update_self (Obj.mapFields (·.setIfInBounds 3 (fr.elim Value.none fun f=>rawInt f))) hT0 (Obj.isFreed_of_fields (Obj.data_mapFields hdT _))
 rw[iD hdT]at atT
 unfold setFlight
 refine wpAny_bind (wpAny_field he rfl h1 ?_)
 rw[if_pos (show(Value.ref T != Value.none)=true from by simp)]
 refine wpAny_setField hT0 hdT hs3 (k _ (I.flown (S:=(· = T)) (fun b o n _ q=>(other b n).trans q) (fun b o n q=>⟨o.slots,(other b n).trans q⟩) (fun b z=>by subst z;exact⟨_,hT⟩) (fun b z=>by subst z;exact⟨_,atT⟩) (fun b _ _=>rfl) fun b u q=>?_) other)
 by_cases c:b=T
 ·subst c
  rw[hT]at q;cases q
  exact⟨⟨_,_,fr.elim Value.none (fun f=>rawInt f),atT,rfl,by simp[hs3]⟩,⟨_,atT⟩,stT⟩
 ·refine(I.hok b u q).stay (fun c' o hc r=>(other c' ?_).trans r) (fun _ q=>q) fun _ _ q=>q
  rcases hc with rfl|hc
  ·exact c
  ·intro z;rw[z,hT]at hc;cases hc
end
structure oV (K:W.Frag) (C:Addr) (a:Str):Prop where
 ex:∃(nm q:Str) (N:Addr) (bs bm bmB:List Value) (sn:List Str) (sub:List Value) (ab:Bool) (col:Option Bool) (dd:Option Addr) (k0 k1 k2 k3 k5:Option Value) (newId initId sa owner:String) (fI:Addr) (name qual:Str) (params:Arguments) (scope:Scope)
   (dV kV doc pm cdv ct:Value) (an od:Option Addr) (osl:Array (Option Value)) (p1 p2 p3 p4:Pos),
  ExcBaseFacts "ValueError" newId initId bmB/\StoreFacts "ValueError" bmB sa owner/\typeLookup (.type "ValueError") a=pure none/\bm.contains (.type "BaseException")=true /\
  K.lookup C=some (excClassObj nm q C N bs bm true sn sub ab col dd k0 k1 k2 k3 k5 newId)/\(∀h,K.In h->oO h bmB (fun n=>n = "__init__" \/ n = "__setattr__" \/ n=a) bm) /\
  (∀h,K.In h->∃mN,h.Ns N mN/\mN "__init__" = some (.ref fI)/\mN "__setattr__" = none/\mN a=none) /\
  K.lookup fI=some ⟨.type "function",od,.func (W.fnOf name qual params [.Assign [.Attribute (.Name "self" p1) a p2] (.Name a p3) p4] scope dV kV doc pm an cdv ct),osl⟩/\W.codeIn K cdv qual=true /\
  aB ["self",a] ["self",a] scope/\(∀env,swapsWith (.Name a p3) (some (.Attribute (.Name "self" p1) a p2)) p4.line env=pure false)/\scope.names.lookup ("self" : Str)=some .local/\scope.names.lookup a=some .local/\a ≠ "self"/\(a ==("__debug__" : Str))=false /\
  ∀s e u,BindsTo s (W.fnOf name qual params [.Assign [.Attribute (.Name "self" p1) a p2] (.Name a p3) p4] scope dV kV doc pm an cdv ct) ⟨[.ref e,u],[]⟩ [("self",.ref e),(a,u)]
theorem D0 {nm q nm' q':Str}{C N C' N':Addr}{bs bm bs' bm':List Value}{hdct hdct':Bool}{sn sn':List Str}{sub sub':List Value}{ab ab':Bool}{col col':Option Bool}{dd dd':Option Addr}{k0 k1 k2 k3 k5 k0' k1' k2' k3' k5':Option Value}{newId newId':String}(h:excClassObj nm q C N bs bm hdct sn sub ab col dd k0 k1 k2 k3 k5 newId=excClassObj nm' q' C' N' bs' bm' hdct' sn' sub' ab' col' dd' k0' k1' k2' k3' k5' newId'):N=N' :=
 congrArg (fun o:Obj=>match o.data with | .cls cd=>cd.ns|_=>0) h
theorem oV.uniq {K:W.Frag}{C:Addr}{a b:Str}{h:Heap}(X:K.In h) (x:oV K C a) (y:oV K C b):a=b:=by
 obtain⟨nm,q,N,bs,bm,bmB,sn,sub,ab,col,dd,k0,k1,k2,k3,k5,newId,initId,sa,owner,fI,name,qual,params,scope,dV,kV,doc,pm,cdv,ct,an,od,osl,p1,p2,p3,p4,_,_,_,_,lC,_,hN,lf,_⟩:=x.ex
 obtain⟨nm',q',N',bs',bm',bmB',sn',sub',ab',col',dd',k0',k1',k2',k3',k5',newId',initId',sa',owner',fI',name',qual',params',scope',dV',kV',doc',pm',cdv',ct',an',od',osl',p1',p2',p3',p4',_,_,_,_,lC',_,hN',lf',_⟩:=y.ex
 have e1:=D0 (Option.some.inj (lC.symm.trans lC'))
 subst e1
 obtain⟨m,g1,g2,_⟩:=hN h X
 obtain⟨m',g1',g2',_⟩:=hN' h X
 have e2:m=m':=g1.eq_nsMap.trans g1'.eq_nsMap.symm
 rw[e2,g2']at g2
 have e3:fI'=fI:=Value.ref.inj (Option.some.inj g2)
 subst e3
 have e4:=Option.some.inj (lf.symm.trans lf')
 have e5:=congrArg (fun o:Obj=>match o.data with | .func f=>(match f.body with | .stmts [.Assign _ (.Name x _) _]=>x|_ => "")|_=>("" : Str)) e4
 exact e5
structure Q5 (K:W.Frag) (C:Addr):Prop where
 ex:∃(nm q:Str) (N:Addr) (bs bm bmB:List Value) (sn:List Str) (sub:List Value) (ab:Bool) (col:Option Bool) (dd:Option Addr) (k0 k1 k2 k3 k5:Option Value) (newId initId:String),
  ExcBaseFacts "ValueError" newId initId bmB/\bm.contains (.type "BaseException")=true/\K.lookup C=some (excClassObj nm q C N bs bm true sn sub ab col dd k0 k1 k2 k3 k5 newId)/\(∀h,K.In h->OwnTail h bmB bm) /\
  ∀h,K.In h->∃mN,h.Ns N mN/\mN "__init__" = none
theorem Q5.no {K:W.Frag}{C:Addr}{a:Str}{h:Heap}(X:K.In h) (x:Q5 K C) (y:oV K C a):False:=by
 obtain⟨nm,q,N,bs,bm,bmB,sn,sub,ab,col,dd,k0,k1,k2,k3,k5,newId,initId,_,_,lC,_,hN⟩:=x.ex
 obtain⟨nm',q',N',bs',bm',bmB',sn',sub',ab',col',dd',k0',k1',k2',k3',k5',newId',initId',sa',owner',fI',name',qual',params',scope',dV',kV',doc',pm',cdv',ct',an',od',osl',p1',p2',p3',p4',_,_,_,_,lC',_,hN',lf',_⟩:=y.ex
 have e1:=D0 (Option.some.inj (lC.symm.trans lC'))
 subst e1
 obtain⟨m,g1,g2⟩:=hN h X
 obtain⟨m',g1',g2',_⟩:=hN' h X
 have e2:m=m':=g1.eq_nsMap.trans g1'.eq_nsMap.symm
 rw[<- e2,g2]at g2'
 cases g2'
def WB (K:W.Frag) (C:Addr) (D:Option Addr) (a:Str):Prop:=(∃d,D=some d/\oV K C a) \/(D=none/\Q5 K C)
def E6 (P:Program) (w:World) (K:W.Frag):zg:=fun outer H s E ev s'=>∃(e:Addr) (H' H0:Hp) (C:Addr) (D T:Option Addr) (a:Str) (v:V) (u:Value),ev = .ref e/\s'.os=s.os/\AllBare s'.gens/\Un (frs outer) [] H H' s.heap s'.heap/\kH P w H' s'.heap /\
 Exc H' e C D T a v/\WB K C D a/\RelV v u/\H0 e=none/\(∀b o,H0 b=some o->H' b=some o)/\E u (some C) H0
def Throws (X:Cx) (E:XK):Prop:=∀(pins:List (Addr×Obj)) (σ:St) (H H0:Hp) (s:Shared) (e C:Addr) (D T:Option Addr) (a:Str) (v:V) (u:Value),Inv X pins σ H s->Exc H e C D T a v->WB X.K C D a->RelV v u->H0 e=none->(∀b o,H0 b=some o->H b=some o)->E u (some C) H0->X.xe (.ref e) s
theorem w_ {H H' H0:Hp}{e:Addr}(k':∀b o,b≠e->H b=some o->H' b=some o) (n0:H0 e=none) (k:∀b o,H0 b=some o->H b=some o):∀b o,H0 b=some o->H' b=some o:=fun b o q=>k' b o (ay q n0) (k b o q)
section
variable {P:Program}{w:World}{K:W.Frag}{mg:Str->Option Value}{base:Heap}{N:List Str}{qual:Str}{scope:Scope}{f:Addr}{cd:Value}{A:Around}{outer:List Env}{s0:Shared}{H00:Hp}{E:XK}
theorem b8:Throws (mQ (E6 P w K) P w K mg base N qual scope f cd A outer s0 H00 E) E:=fun pins σ H H0 s e C D T a v u I x xc rv n0 k q=>by
 show wpAny _ _ (leaving _ (.ref e)) _ _ s
 unfold leaving
 refine wpAny_bind (I.note rfl rfl rfl x fun T' H' h' x' k' I'=>I'.flight x' fun h'' I'' _=>?_)
 exact⟨e,_,H0,C,D,some T',a,v,u,rfl,I''.os,I''.bare,I''.base,I''.hok,x',xc,rv,n0,w_ k' n0 k,q⟩
end
theorem Throws.passes {X:Cx}{E E':XK}(t:Throws X E) (h:∀u c H,E' u c H->E u c H):Passes (E6 X.prog X.w X.K) X E':=fun pins σ H s ev s' I ⟨e,H',H0,C,D,T,a,v,u,z,os,bare,un,hok,x,xc,rv,n0,k,q⟩=>by
 subst z
 obtain⟨hh,g,d,tk,os'⟩:=s'
 obtain rfl:os'=s.os:=os
 exact t pins σ H' H0 _ e C D T a v u (I.call (h':=hh) (g':=g) (d':=d) (t':=tk) (ch:=[]) un hok bare (fun b z=>absurd z (by simp))) x xc rv n0 k (h _ _ _ q)
def Du (C:Addr) (E:XK) (ta:TA):TS:=fun _ σ H=>ta σ H fun vs H1=>∃v,vs=[v]/\∀u,RelV v u->E u (some C) H1
section
variable {X:Cx}{E:XK}{C:Addr}{a x:Str}{k:Nat}{arg:Expr}{ta:TA}{np cpos pos:Pos}
theorem gO (thr:Throws X E) (cl:oV X.K C a) (hr:cA (k+2) X.A) (hg:Gl X x) (hm:X.mg x=some (.ref C)) (ha:PA X [arg] ta) (hs:starEach [arg] X.env=[(false,eval arg X.env)]:=by rfl) (hd:(x ==("__debug__" : Str))=false:=by decide) :
  PS X (.Raise (some (.Call (.Name x np) [arg] [] cpos)) none pos) (Du C E ta):=by
 intro pins s σ H D I h
 obtain⟨nm,q,N,bs,bm,bmB,sn,sub,ab,col,dd,k0,k1,k2,k3,k5,newId,initId,sa,owner,fI,name,qual,params,scope,dV,kV,doc,pm,cdv,ct,an,od,osl,p1,p2,p3,p4,F,SF,hB,hbase,lC,hT,hN,lf,hcd,S,hsw,l1,l2,hne,hdb,hbd⟩:=cl.ex
 obtain⟨mN,nN,hi,hns,hna⟩:=hN _ I.ok.mod.kin
 refine wX (C:=C) (nm:=nm) (q:=q) (N:=N) (bs:=bs) (bm:=bm) (bmB:=bmB) (hdct:=true) (sn:=sn) (sub:=sub) (ab:=ab) (col:=col) (dd:=dd) (k0:=k0) (k1:=k1) (k2:=k2) (k3:=k3) (k5:=k5) (newId:=newId) (mN:=mN) (fI:=fI) F hbase hr.hd (by rw[hs];rfl) hi (oI:=⟨.type "function",od,.func (W.fnOf name qual params [.Assign [.Attribute (.Name "self" p1) a p2] (.Name a p3) p4] scope dV kV doc pm an cdv ct),osl⟩) rfl ?_
 refine bX ((eS hg hm (show RelV (.ref C) (.ref C) from rfl) hd) pins s σ H (fun v H1=>v = .ref C/\H1=H) I ⟨rfl,rfl⟩) fun f s1 ⟨v,H1,I1,rf,e1,e2⟩=>?_
 subst e1 e2
 refine⟨rf,?_⟩
 have ha':=ha cpos pins s1 σ H1 _ I1 h
 rw[hs]at ha' ⊢
 refine Calls.evalArgs_plain (bX ha' fun us s2 ⟨vs,H2,I2,r2,v,ev,q2⟩=>?_)
 subst ev
 obtain⟨u,rfl,ru⟩:=vals1 r2
 refine⟨rfl,by show 1<=sizeLine;decide,I2.kIn _ _ lC,nN.keeps I2.bk,(hT _ I2.kIn).tail (.inl rfl),I2.kIn _ _ lf,fun h' e hm hz=>?_⟩
 obtain⟨t,he,ht,_⟩:=hm.there
 have kB:∀b o,X.base.get? b=some o->h'.get? b=some o:=fun b o z=>hm.keeps _ _ (I2.bk _ _ z)
 have kI:X.K.In h':=I2.ok.mod.kin.keeps kB
 refine wpAny_call (codeAny_mono (J_ (k:=k) (s:={ s2 with heap:=h' }) (A:=X.A.under (.builtin "type.__call__" ⟨[.ref C,u],[]⟩)) (R:=fun r s'=>r = .ok (.ret .none)/\∃h2 tk D,s' = { s2 with heap:=h2,toks:=tk }/\h'.objs.size<=D/\D≠e/\h2.get? e=some ⟨.ref C,some D,.fields #[.ref t,.none,.none,.none,.bool false,.none],#[]⟩/\h2.Ns1 D (fun y=>if y=a then some u else none)/\∀b ob,b≠e->h'.get? b=some ob->h2.get? b=some ob)
  lf hcd S kI (I2.ok.mod.nolimit.keeps kB) (hr.make C [u] []) hsw l1 l2 hne hdb (hbd _ _ _) SF (hT _ kI) (.inr (.inr rfl)) (.inr (.inl rfl)) (kI _ _ lC) (nN.keeps kB) hns hna hB he rfl (by intro c z;cases z) rfl fun h2 tk D g1 g2 g3 g4 g5=>⟨rfl,h2,tk,D,rfl,g1,g2,g3,g4,g5⟩) fun r s' z=>?_)
 obtain⟨rfl,h2,tk,D,rfl,g1,g2,g3,g4,g5⟩:=z
 have ke:∀b o,s2.heap.get? b=some o->b≠e:=fun b o z c=>by rw[c]at z;exact absurd (Nat.lt_of_lt_of_le (Heap.lt_size z) hz) (Nat.lt_irrefl _)
 have kk:∀b o,s2.heap.get? b=some o->h2.get? b=some o:=fun b o z=>g5 b o (ke b o z) (hm.keeps _ _ z)
 have hz':s2.heap.objs.size<=D:=Nat.le_trans (Nat.le_of_lt (Nat.lt_of_le_of_lt hz (Heap.lt_size he))) g1
 have ne:=I2.hok.fresh hz
 have nD:=I2.hok.fresh hz'
 have I3:Inv X pins σ (upd H2 e (.ext (JV e C (some D) none))) { s2 with heap:=h2,toks:=tk }:=I2.adopt (ch:=[e]) (fun b o _ z=>kk b o z) (fun b hb=>by rw[List.mem_singleton.mp hb];exact I2.fpOk hz ne) (List.mem_singleton.mpr rfl) ⟨⟨_,_,g3,rfl,rfl⟩,⟨_,g3⟩,fun a1 a2 ⟨vs,sl,y,y2⟩ kq=>⟨vs,sl,kq _ y,y2⟩⟩
 have I4:Inv X pins σ (upd (upd H2 e (.ext (JV e C (some D) none))) D (.xd [(a,v)])) { s2 with heap:=h2,toks:=tk }:=I3.adopt (ch:=[D]) (fun b o _ z=>z) (fun b hb=>by rw[List.mem_singleton.mp hb];exact I2.fpOk hz' (by rw[az g2];exact nD)) (List.mem_singleton.mpr rfl) ⟨_,g4,fun y=>by
  show iC (List.lookup y [(a,v)]) (if y=a then some u else none)
  by_cases c:y=a
  ·subst c
   rw[if_pos rfl,show List.lookup y [(y,v)]=some v by simp[List.lookup]]
   exact ru
  ·have cb:(y == a)=false:=beq_eq_false_iff_ne.mpr c
   rw[if_neg c,show List.lookup y [(a,v)]=none by simp[List.lookup,cb]]
   exact True.intro⟩
 have ex:Exc (upd (upd H2 e (.ext (JV e C (some D) none))) D (.xd [(a,v)])) e C (some D) none a v:=⟨by rw[az g2.symm,aA],fun d z=>by cases z;exact aA,fun t z=>by cases z⟩
 refine⟨rfl,kk _ _ (I2.kIn _ _ lC),⟨_,t,_,g3⟩,thr pins σ _ H2 _ e C (some D) none a v u I4 ex (.inl ⟨D,rfl,cl⟩) ru ne (fun b o z=>?_) (q2 u ru)⟩
 rw[az (ay z nD),az (ay z ne)];exact z
end
end L2
namespace PySem
section
variable {M:Model}{A:Around}{E:Value->Shared->Prop}{h:Heap}{g:Array GenState}{d:Drawn}{t:Nat}{os:OsState}
variable {nm q nm' q':Str}{C N C' N' e:Addr}{bs bm bs' bm':List Value}{hdct hdct':Bool}{sn sn':List Str}{sub sub':List Value}{ab ab':Bool}{col col':Option Bool}{dd dd':Option Addr}{k0 k1 k2 k3 k5 k0' k1' k2' k3' k5':Option Value}{newId newId':String}{oe:Obj}
theorem gj {Q:Bool->Shared->Prop}(hC:h.get? C=some (excClassObj nm q C N bs bm hdct sn sub ab col dd k0 k1 k2 k3 k5 newId)) (hC':h.get? C'=some (excClassObj nm' q' C' N' bs' bm' hdct' sn' sub' ab' col' dd' k0' k1' k2' k3' k5' newId'))
  (he:h.get? e=some oe) (hcls:oe.cls = .ref C) (hbase:bm'.contains (.type "BaseException")=true)
  (hq:Q ((Value.ref C::bm).contains (.ref C')) ⟨h,g,d,t,os⟩):wpAny M A (excMatches (.ref e) (.ref C')) Q E ⟨h,g,d,t,os⟩:=by
 have hcB:(Value.ref C'::bm').contains (.type "BaseException")=true:=by rw[List.contains_cons,hbase,Bool.or_true]
 have f:=tc_notTuple
 generalize hb:(Value.ref C::bm).contains (.ref C')=b at hq
 unfold excMatches
 repeat (first|(with_reducible refine wpAny_loadPart_at he ?_;rw[hcls])|with_reducible refine wpAny_loadPart_at hC' ?_|(with_reducible refine wpAny_isSubtype_exc hC' ?_;rw[hcB])|(with_reducible refine wpAny_isSubtype_exc hC ?_;rw[hb])|wp_step)
 cases b <;> first|exact hq|(wp_walk;exact hq)
end
end PySem
namespace L2
open PySem PySem.Spec PyProof.Rows
section
variable {X:Cx}{pins:List (Addr×Obj)}{σ:St}{H:Hp}{s:Shared}
def Cx.suite (X:Cx) (e:Addr):Cx:={ X with A:=X.A.mark (some (.ref e)),calm:=false,xe:=fun _ _=>False }
theorem Inv.toSuite (I:Inv X pins σ H s) (e:Addr):Inv (X.suite e) pins σ H s :=
 ⟨⟨I.ok.mod,I.ok.kind,I.ok.glob,I.ok.blt,I.ok.above,I.ok.inj,I.ok.has,I.ok.cab,fun z=>(by cases z),I.ok.frames,I.ok.stk,I.ok.exf,I.ok.bs,I.ok.bsz,I.ok.noex,I.ok.exfs,I.ok.funs,I.ok.frf⟩,I.os,I.bare,I.base,I.loc,I.cell,I.free,I.freeC,I.pin,I.hok,I.len⟩
theorem Inv.ofSuite {e:Addr}(ok:X.Ok) (I:Inv (X.suite e) pins σ H s):Inv X pins σ H s:=⟨ok,I.os,I.bare,I.base,I.loc,I.cell,I.free,I.freeC,I.pin,I.hok,I.len⟩
end
section
variable {X:Cx}{pins:List (Addr×Obj)}{σ:St}{H:Hp}{s:Shared}
theorem Inv.goes {M:Model}{A:Around}{E:Value->Shared->Prop}{i:Nat}{n:Str}{pos:Pos}{Q:Unit->Shared->Prop}(I:Inv X pins σ H s) (hN:X.N.Nodup) (hi:X.N[i]? = some n) (hk:X.env.kindOf n=some .local)
  (h:∀s',Inv X pins (σ.set i none) H s'->Q () s'):wpAny M A (do bindName X.env n .none;unbindBehindTheSuite X.env n pos) Q E s:=by
 obtain⟨m,hn,hl⟩:=id I.loc
 obtain⟨oL,_,_,hoL,_⟩:=id hn
 have hcls:(X.env.scope.kind == .class || (X.env.scope.kind == .module && X.env.locals != X.env.globals))=false:=by rw[I.ok.kind];rfl
 have hiσ:i<σ.length:=by rw[I.len];exact(List.getElem?_eq_some_iff.mp hi).1
 refine wpAny_nameGoes_keeps hk hn hcls fun h' v hn' hs=>h _ ?_
 have ab:∀b o,X.s₀.heap.get? b=some o->b≠X.env.locals:=fun b o e=>Nat.ne_of_lt (Nat.lt_of_lt_of_le (Heap.lt_size e) I.ok.above)
 refine⟨I.ok,I.os,I.bare,⟨fun b o e n hb hx=>(hs.2 b (ab b o e)).trans (I.base.keep b o e n hb hx),fun b o e n hb hx=>?_,I.base.free,fun b o e hx=>?_,I.base.tups,I.base.frzs,I.base.tbls⟩,⟨_,hn',fun j y v' e1 e2 e3=>?_⟩,fun y c e=>?_,I.free,I.freeC,fun p hp=>?_,fun b ob e=>?_,by simpa using I.len⟩
 ·obtain⟨sl,e1⟩:=I.base.slot b o e n hb hx
  exact⟨sl,(hs.2 b (ab b o e)).trans e1⟩
 ·obtain⟨o',e1⟩:=I.base.there b o e hx
  exact⟨o',(hs.2 b (ab b o e)).trans e1⟩
 ·by_cases hj:j=i
  ·subst hj
   rw[List.getElem?_set_self hiσ]at e2;cases e2
  ·rw[List.getElem?_set_ne (Ne.symm hj)]at e2
   obtain⟨u',r',q⟩:=hl j y v' e1 e2 e3
   refine⟨u',r',?_⟩
   rcases q with⟨k,e⟩|⟨k,c,e,z⟩
   ·refine .inl ⟨k,?_⟩
    have:y≠n:=fun e=>hj (rE hN e1 (e ▸ hi))
    simp[this,e]
   ·exact .inr ⟨k,c,e,z.sameBut hs (I.cne y c e)⟩
 ·obtain⟨w,z⟩:=I.cell y c e
  exact⟨w,z.sameBut hs (I.cne y c e)⟩
 ·obtain⟨p1,p2,p3,p4,p5⟩:=I.pin p hp
  exact⟨(hs.2 _ p3).trans p1,p2,p3,p4,p5⟩
 ·refine(I.hok b ob e).stay (fun c w' hc q=>(hs.2 c ?_).trans q) (fun _ q=>q) fun _ _ q=>q
  rintro rfl
  rcases hc with rfl|hc
  ·rw[I.free]at e;cases e
  ·rw[I.free]at hc;cases hc
end
def XC (K:W.Frag) (C:Addr) (bm:List Value):Prop:=∃(nm q:Str) (N:Addr) (bs:List Value) (hdct:Bool) (sn:List Str) (sub:List Value) (ab:Bool) (col:Option Bool) (dd:Option Addr) (k0 k1 k2 k3 k5:Option Value) (newId:String),
 K.lookup C=some (excClassObj nm q C N bs bm hdct sn sub ab col dd k0 k1 k2 k3 k5 newId)/\bm.contains (.type "BaseException")=true
def Wv (K:W.Frag) (C C':Addr):Prop:=∃bm bm',XC K C bm/\XC K C' bm'/\(Value.ref C::bm).contains (.ref C')=true
def Qy (K:W.Frag) (C C':Addr):Prop:=∃bm bm',XC K C bm/\XC K C' bm'/\(Value.ref C::bm).contains (.ref C')=false
def Iu (H:Hp) (e C:Addr) (a:Str) (v:V):Prop:=∃D T,Exc H e C (some D) T a v
def RU (H:Hp) (e C:Addr):Prop:=∃T a v,Exc H e C none T a v
def Ends.gone (D:Ends) (i:Nat):Ends:={ nx:=fun σ H=>D.nx (σ.set i none) H,rt:=D.rt,bk:=fun σ H=>D.bk (σ.set i none) H,ct:=fun σ H=>D.ct (σ.set i none) H }
def Ends.goneO (D:Ends):Option Nat->Ends
 | none=>D
 | some i=>D.gone i
def C7 (σ:St) (e:Addr):Option Nat->St
 | none=>σ
 | some i=>σ.set i (some (.ref e))
structure Cl where
 C:Addr
 i:Option Nat
 th:Addr->TS
def MM (K:W.Frag) (C e:Addr) (σ:St) (H:Hp) (D:Ends):List Cl->Prop
 | []=>False
 | c::r=>(Wv K C c.C/\c.th e (D.goneO c.i) (C7 σ e c.i) H) \/(Qy K C c.C/\MM K C e σ H D r)
inductive AL (X:Cx):List ExceptHandler->List Cl->Prop
 | nil:AL X [] []
 | named {i:Nat}{n xc:Str}{C':Addr}{np hpos:Pos}{b0:Stmt}{suite:List Stmt}{th:Addr->TS}{hs:List ExceptHandler}{cs:List Cl}(hi:X.N[i]? = some n) (hk:X.env.kindOf n=some .local) (hg:Gl X xc) (hm:X.mg xc=some (.ref C'))
   (hs':∀e,o_ (X.suite e) (b0::suite) (th e)) (r:AL X hs cs) (hd:(xc ==("__debug__" : Str))=false:=by decide):AL X (.ExceptHandler (some (.Name xc np)) (some n) (b0::suite) hpos::hs) (⟨C',some i,th⟩::cs)
 | bare {xc:Str}{C':Addr}{np hpos:Pos}{b0:Stmt}{suite:List Stmt}{th:Addr->TS}{hs:List ExceptHandler}{cs:List Cl}(hg:Gl X xc) (hm:X.mg xc=some (.ref C'))
   (hs':∀e,o_ (X.suite e) (b0::suite) (th e)) (r:AL X hs cs) (hd:(xc ==("__debug__" : Str))=false:=by decide):AL X (.ExceptHandler (some (.Name xc np)) none (b0::suite) hpos::hs) (⟨C',none,th⟩::cs)
def P9 (K:W.Frag) (m:Nat) (tb:XK->TS) (cs:List Cl):TS:=fun D σ H=>∃E1:XK,tb E1 D σ H/\∀(u:Value) (C:Addr) (H0:Hp),E1 u (some C) H0 ->
 ∀(e:Addr) (H':Hp) (σ':St) (v:V),RelV v u->(∀b,oV K C b->Iu H' e C b v)->(Q5 K C->RU H' e C)->(∀b o,H0 b=some o->H' b=some o)->σ'.length=m->MM K C e σ' H' D cs
section
variable {X:Cx}{pins:List (Addr×Obj)}
theorem Of (hN:X.N.Nodup) (ok:X.Ok) {hs:List ExceptHandler}{cs:List Cl}(P:AL X hs cs) {σ:St}{H:Hp}{e C T:Addr}{Dx:Option Addr}{a:Str}{v:V}{D:Ends}(x:Exc H e C Dx (some T) a v) :
  ∀{s:Shared},Inv X pins σ H s->MM X.K C e σ H D cs->wpAny (model X.prog X.w) X.A (handleBy (.ref e) X.env hs) (SP X pins D) X.xe s:=by
 induction P with
 | nil=>intro s _ h;exact h.elim
 | @named i n xc C' np hpos b0 suite th hs cs hi hk hg hm hs' r hd ih =>
  intro s J2 h
  refine wpAny_handleBy_cons (codeAny_handlers_test ?_) (by intro z;cases z)
  refine wpAny_mono ((eS (X:=X.suite e) hg hm (show RelV (.ref C') (.ref C') from rfl) hd) pins _ σ H (fun v H3=>v = .ref C'/\H3=H) (J2.toSuite e) ⟨rfl,rfl⟩) (fun c s4 ⟨v',H4,J4,r4,e1,e2⟩=>?_) fun _ _ z=>z.elim
  subst e1 e2
  obtain rfl:c=Value.ref C':=r4
  have J5:=J4.ofSuite ok
  obtain⟨⟨vs,sl,he,_⟩,_,_⟩:=J5.hok e _ x.ex
  obtain⟨hh4,g,d,tk,os⟩:=s4
  rcases h with⟨⟨bm,bm',⟨nm,q1,N,bs,hdct,sn,sub,ab,col,dd,k0,k1,k2,k3,k5,newId,lC,_⟩,⟨nm',q1',N',bs',hdct',sn',sub',ab',col',dd',k0',k1',k2',k3',k5',newId',lC',hbase'⟩,hcon⟩,hth⟩|⟨⟨bm,bm',⟨nm,q1,N,bs,hdct,sn,sub,ab,col,dd,k0,k1,k2,k3,k5,newId,lC,_⟩,⟨nm',q1',N',bs',hdct',sn',sub',ab',col',dd',k0',k1',k2',k3',k5',newId',lC',hbase'⟩,hcon⟩,hth⟩
  ·refine gj (J5.kIn _ _ lC) (J5.kIn _ _ lC') he rfl hbase' ?_
   rw[hcon]
   refine codeAny_handlers_suite_as ?_
   refine J5.flight x fun h6 J6 _=>?_
   refine mU J6 hN hi (.inl hk) (show RelV (.ref e) (.ref e) from rfl) (fun s7 J7=>?_) (.inr hk)
   refine wpAny_mono (hs' e pins s7 _ _ (D.gone i) (J7.toSuite e) hth) (fun f s8 h8=>?_) fun _ _ z=>z.elim
   cases f with
   | next =>
    obtain⟨σ9,H9,J9,q9⟩:=h8
    exact(J9.ofSuite ok).goes hN hi hk fun s' J10=>⟨_,_,J10,q9⟩
   | brk =>
    obtain⟨σ9,H9,J9,q9⟩:=h8
    exact(J9.ofSuite ok).goes hN hi hk fun s' J10=>⟨_,_,J10,q9⟩
   | cont =>
    obtain⟨σ9,H9,J9,q9⟩:=h8
    exact(J9.ofSuite ok).goes hN hi hk fun s' J10=>⟨_,_,J10,q9⟩
   | ret u9 =>
    obtain⟨v9,σ9,H9,J9,r9,q9⟩:=h8
    exact(J9.ofSuite ok).goes hN hi hk fun s' J10=>⟨_,_,_,J10,r9,q9⟩
  ·refine gj (J5.kIn _ _ lC) (J5.kIn _ _ lC') he rfl hbase' ?_
   rw[hcon]
   exact ih J5 hth
 | @bare xc C' np hpos b0 suite th hs cs hg hm hs' r hd ih =>
  intro s J2 h
  refine wpAny_handleBy_cons (codeAny_handlers_test ?_) (by intro z;cases z)
  refine wpAny_mono ((eS (X:=X.suite e) hg hm (show RelV (.ref C') (.ref C') from rfl) hd) pins _ σ H (fun v H3=>v = .ref C'/\H3=H) (J2.toSuite e) ⟨rfl,rfl⟩) (fun c s4 ⟨v',H4,J4,r4,e1,e2⟩=>?_) fun _ _ z=>z.elim
  subst e1 e2
  obtain rfl:c=Value.ref C':=r4
  have J5:=J4.ofSuite ok
  obtain⟨⟨vs,sl,he,_⟩,_,_⟩:=J5.hok e _ x.ex
  obtain⟨hh4,g,d,tk,os⟩:=s4
  rcases h with⟨⟨bm,bm',⟨nm,q1,N,bs,hdct,sn,sub,ab,col,dd,k0,k1,k2,k3,k5,newId,lC,_⟩,⟨nm',q1',N',bs',hdct',sn',sub',ab',col',dd',k0',k1',k2',k3',k5',newId',lC',hbase'⟩,hcon⟩,hth⟩|⟨⟨bm,bm',⟨nm,q1,N,bs,hdct,sn,sub,ab,col,dd,k0,k1,k2,k3,k5,newId,lC,_⟩,⟨nm',q1',N',bs',hdct',sn',sub',ab',col',dd',k0',k1',k2',k3',k5',newId',lC',hbase'⟩,hcon⟩,hth⟩
  ·refine gj (J5.kIn _ _ lC) (J5.kIn _ _ lC') he rfl hbase' ?_
   rw[hcon]
   refine codeAny_handlers_suite ?_
   refine J5.flight x fun h6 J6 _=>?_
   refine wpAny_mono (hs' e pins _ _ _ D (J6.toSuite e) hth) (fun f s8 h8=>?_) fun _ _ z=>z.elim
   cases f with
   | next =>
    obtain⟨σ9,H9,J9,q9⟩:=h8
    exact⟨_,_,J9.ofSuite ok,q9⟩
   | brk =>
    obtain⟨σ9,H9,J9,q9⟩:=h8
    exact⟨_,_,J9.ofSuite ok,q9⟩
   | cont =>
    obtain⟨σ9,H9,J9,q9⟩:=h8
    exact⟨_,_,J9.ofSuite ok,q9⟩
   | ret u9 =>
    obtain⟨v9,σ9,H9,J9,r9,q9⟩:=h8
    exact⟨_,_,_,J9.ofSuite ok,r9,q9⟩
  ·refine gj (J5.kIn _ _ lC) (J5.kIn _ _ lC') he rfl hbase' ?_
   rw[hcon]
   exact ih J5 hth
end
section
variable {X:Cx}{body:List Stmt}{pos:Pos}{tb:XK->TS}{hs:List ExceptHandler}{cs:List Cl}
theorem I_ {h0:ExceptHandler}(hN:X.N.Nodup) (hf:X.env.frame=some X.env.locals) (hst:X.stack=X.env::X.outer)
  (hb:∀(xe:Value->Shared->Prop) (pn:List (Addr×Obj)) (E1:XK),Throws { X with xe:=xe,pn:=pn } E1->o_ { X with xe:=xe,pn:=pn } body (tb E1)) (hP:AL X (h0::hs) cs) :
  PS X (.Try body (h0::hs) [] [] pos) (P9 X.K X.N.length tb cs):=by
 intro pins s σ H D I h
 obtain⟨E1,hb1,hh⟩:=h
 refine wpAny_Try_except ?_
 let xe':Value->Shared->Prop:=fun ev s1=>wpAny (model X.prog X.w) X.A (noteFrame ev X.env) (fun _ s2=>wpAny (model X.prog X.w) X.A (setFlight ev none) (fun _ s3=>wpAny (model X.prog X.w) X.A (handleBy ev X.env (h0::hs)) (SP X pins D) X.xe s3) X.xe s2) X.xe s1
 have fwd:Inv { X with xe:=xe',pn:=X.pn++pins } [] σ H s :=
  ⟨⟨I.ok.mod,I.ok.kind,I.ok.glob,I.ok.blt,I.ok.above,I.ok.inj,I.ok.has,I.ok.cab,I.ok.hd,I.ok.frames,I.ok.stk,I.ok.exf,I.ok.bs,I.ok.bsz,I.ok.noex,I.ok.exfs,I.ok.funs,I.ok.frf⟩,I.os,I.bare,I.base,I.loc,I.cell,I.free,I.freeC,fun p hp=>I.pin p (by simpa using hp),I.hok,I.len⟩
 have bwd:∀{pins':List (Addr×Obj)}{σ':St}{H':Hp}{s':Shared},Inv { X with xe:=xe',pn:=X.pn++pins } pins' σ' H' s'->Inv X pins σ' H' s':=fun J =>
  ⟨I.ok,J.os,J.bare,J.base,J.loc,J.cell,J.free,J.freeC,fun p hp=>J.pin p (List.mem_append_left _ hp),J.hok,J.len⟩
 have thr:Throws { X with xe:=xe',pn:=X.pn++pins } E1:=fun pins' σ' H1 H0 s1 e C Dx T a v u I1 x xc rv n0 k q=>by
  have J:=bwd I1
  refine J.note hst hf hf x fun T' H2 h' x2 k2 J2=>J2.flight x2 fun h'' J3 _=>?_
  refine Of hN I.ok hP x2 J3 (hh u C H0 q e H2 σ' v rv (fun b y=>?_) (fun y=>?_) (w_ k2 n0 k) J3.len)
  ·rcases xc with⟨d,rfl,xc⟩|⟨rfl,xc⟩
   ·obtain rfl:=oV.uniq J3.kIn xc y
    exact⟨d,some T',x2⟩
   ·exact(xc.no J3.kIn y).elim
  ·rcases xc with⟨d,rfl,xc⟩|⟨rfl,xc⟩
   ·exact(y.no J3.kIn xc).elim
   ·exact⟨some T',a,v,x2⟩
 refine wpAny_mono (hb xe' (X.pn++pins) E1 thr [] s σ H D fwd hb1) (fun f s1 h1=>?_) fun e s1 z=>z
 cases f with
 | next =>
  obtain⟨σ9,H9,J9,q9⟩:=h1
  exact wpAny_execs_nil ⟨_,_,bwd J9,q9⟩
 | brk =>
  obtain⟨σ9,H9,J9,q9⟩:=h1
  exact⟨_,_,bwd J9,q9⟩
 | cont =>
  obtain⟨σ9,H9,J9,q9⟩:=h1
  exact⟨_,_,bwd J9,q9⟩
 | ret u9 =>
  obtain⟨v9,σ9,H9,J9,r9,q9⟩:=h1
  exact⟨_,_,_,bwd J9,r9,q9⟩
end
theorem qj {P:Program}{w:World}{K:W.Frag}{X:Cx}:Passes (E6 P w K) X E0:=fun _ _ _ _ _ _ _ ⟨_,_,_,_,_,_,_,_,_,_,_,_,_,_,_,_,_,_,_,q⟩=>q.elim
structure wZ (P:Program) (w:World) (K:W.Frag) (mg:Str->Option Value) (base:Heap) (x:Str) (ps:List Str) (k:Nat) (sp:Sp):Prop where
 ex:∃(f:Addr) (fd:FuncData),iw P w K mg base (E6 P w K) k f fd ps sp/\Binds K fd ps []/\mg x=some (.ref f)/\W.keepIn K (.ref f)=true
structure fu (P:Program) (w:World) (K:W.Frag) (mg:Str->Option Value) (base:Heap) (C:Addr) (m:Str) (ps:List Str) (k:Nat) (sp:Sp):Prop where
 ex:∃(f:Addr) (fd:FuncData),iw P w K mg base (E6 P w K) k f fd ps sp/\Binds K fd ps []/\Meth K C m f
section
variable {X:Cx}{E:XK}{x m:Str}{C:Addr}{ps:List Str}{k:Nat}{sp:Sp}{e o:Expr}{es:List Expr}{t:TA}{ta:TE}{p pos apos:Pos}
theorem JC (C:wZ X.prog X.w X.K X.mg X.base x ps k sp) (hp:Passes (E6 X.prog X.w X.K) X E) (hr:cA k X.A) (ha:PA X (e::es) t) (hg:Gl X x:=by rfl) (hdb:(x ==("__debug__" : Str))=false:=by decide) (he:starEach (e::es) X.env =(false,eval e X.env)::starEach es X.env:=by rfl) (hpl:(backTo pos (starEach es X.env)).any (·.1)=false:=by rfl) :
  PE X (.Call (.Name x p) (e::es) [] pos) (yc sp [] E t):=by
 obtain⟨f,fd,F,hb,hm,hk⟩:=C.ex
 exact Bg F hr hg hm hk hb .nil hp ha hdb he hpl
theorem nJ {pl:Sem Bool}(M:fu X.prog X.w X.K X.mg X.base C m ps k sp) (hp:Passes (E6 X.prog X.w X.K) X E) (c:xy X.K C) (hr:cA k X.A) (he:PE X o ta) (ha:PA X (e::es) t)
  (hst:starEach (e::es) X.env =(false,eval e X.env)::starEach es X.env:=by rfl) (hpl:(backTo pos (starEach es X.env)).any (·.1)=false:=by rfl)
  (ht:eval (.Call (.Attribute o m apos) (e::es) [] pos) X.env =(do
   let ov <- eval o X.env
   standAt apos.atName
   let (f,first) <- holding [ov] (getMethod ov m pl)
   callWith pos f first (backTo pos (starEach (e::es) X.env)) (backToKw pos (keywordEach [] X.env))):=by rfl) :
  PE X (.Call (.Attribute o m apos) (e::es) [] pos) (t9 C m sp [] E ta t):=by
 obtain⟨f,fd,F,hb,hm⟩:=M.ex
 exact A5 (pl:=pl) he c hm F hr hb .nil hp ha hst hpl ht
end
section
variable {P:Program}{w:World}{K:W.Frag}{mg:Str->Option Value}{base:Heap}{C:Addr}{x y qual:Str}{st:Stmt}{f:Addr}{fd:FuncData}{N ps:List Str}{k:Nat}{sp:Sp}
theorem cR.ok1 (F:cR K x qual st f fd) (S:aB N ps (aq st)) (len:∀vs H Q E,sp vs H Q E->vs.length=ps.length)
  (hbody:∀(cdv:Value) (A:Around) (outer:List Env) (s:Shared) (H:Hp) (vs:List V) (Q:VK) (E:XK),cA k (A.deeper (envOfC qual (aq st) s.heap.objs.size f cdv))->sp vs H Q E ->
   ∃t,o_ (mQ (E6 P w K) P w K mg base N qual (aq st) f cdv A outer s H E) (bP st) t/\t { nx:=fun _ H'=>Q .non H',rt:=Q } (start N vs) H):iw P w K mg base (E6 P w K) (k+1) f fd ps sp:=by
 obtain⟨oc,od,kV,doc,pm,an,cdv,ct,osl,rfl,lk,hcd⟩:=F.ex
 exact K_ lk hcd S len fun A outer s H vs Q E hr hsp=>hbody cdv A outer s H vs Q E hr hsp
theorem wZ.of (F:cR K x x st f fd) (mF:mg x=some (.ref f)) (bF:Binds K fd ps []) (S:aB N ps (aq st)) (len:∀vs H Q E,sp vs H Q E->vs.length=ps.length)
  (hbody:∀(cdv:Value) (A:Around) (outer:List Env) (s:Shared) (H:Hp) (vs:List V) (Q:VK) (E:XK),cA k (A.deeper (envOfC x (aq st) s.heap.objs.size f cdv))->sp vs H Q E ->
   ∃t,o_ (mQ (E6 P w K) P w K mg base N x (aq st) f cdv A outer s H E) (bP st) t/\t { nx:=fun _ H'=>Q .non H',rt:=Q } (start N vs) H):wZ P w K mg base x ps (k+1) sp :=
 ⟨f,fd,F.ok1 S len hbody,bF,mF,F.kp⟩
theorem fu.of (F:cR K x qual st f fd) (mF:Meth K C x f) (bF:Binds K fd ps []) (S:aB N ps (aq st)) (len:∀vs H Q E,sp vs H Q E->vs.length=ps.length)
  (hbody:∀(cdv:Value) (A:Around) (outer:List Env) (s:Shared) (H:Hp) (vs:List V) (Q:VK) (E:XK),cA k (A.deeper (envOfC qual (aq st) s.heap.objs.size f cdv))->sp vs H Q E ->
   ∃t,o_ (mQ (E6 P w K) P w K mg base N qual (aq st) f cdv A outer s H E) (bP st) t/\t { nx:=fun _ H'=>Q .non H',rt:=Q } (start N vs) H):fu P w K mg base C x ps (k+1) sp :=
 ⟨f,fd,F.ok1 S len hbody,bF,mF⟩
end
def yD (K:W.Frag) (N:Addr):Bool:=match K.lookup N with
 | some ⟨_,_,.dict es _,_⟩=>es.all (fun e=>match e.key with | .str _ _=>true|_=>false)
 | _=>false
theorem jY {K:W.Frag}{N:Addr}{h:Heap}(hk:yD K N=true) (X:K.In h):∃mN,h.Ns N mN/\(∀n v,W.nsIn K N n=some (some v)->mN n=some v)/\∀n,W.nsIn K N n=some none->mN n=none:=by
 unfold yD at hk
 split at hk
 ·rename_i c d es ep sl q
  have ho:=X _ _ q
  have G:=Heap.Ns.of_isNs (h:=h) (a:=N) (by unfold Heap.isNs;rw[ho];exact hk)
  refine⟨_,G,fun n v e=>?_,fun n e=>?_⟩
  ·obtain⟨o,es',ep',ho',hd,_,hf⟩:=G
   rw[ho]at ho';cases ho';cases hd
   unfold W.nsIn at e
   rw[q]at e
   dsimp only at e
   rw[<- hf]
   unfold nsFind findBy
   rw[<- Array.find?_toList]
   split at e
   ·rename_i en he
    cases e
    rw[he];rfl
   ·split at e <;> cases e
  ·obtain⟨o,es',ep',ho',hd,_,hf⟩:=G
   rw[ho]at ho';cases ho';cases hd
   unfold W.nsIn at e
   rw[q]at e
   dsimp only at e
   rw[<- hf]
   unfold nsFind findBy
   rw[<- Array.find?_toList]
   split at e
   ·cases e
   ·rename_i he
    rw[he];rfl
 ·cases hk
abbrev pC:List Value:=[.type "ValueError",.type "Exception",.type "BaseException",.type "object"]
theorem QV {TE:Addr}:(Value.ref TE::pC).contains (.type "BaseException")=true:=by rw[List.contains_cons,show pC.contains (.type "BaseException")=true by z_go,Bool.or_true]
def d7 (K:W.Frag) (N:Addr) (n:Str):Prop:=W.nsIn K N n=some none
theorem oV.mk' {K:W.Frag}{C TE N fI:Addr}{a nm q name qual:Str}{bs:List Value}{sn:List Str}{sub:List Value}{ab:Bool}{col:Option Bool}{dd ddT:Option Addr}{k0 k1 k2 k3 k5:Option Value}{newId initId:String}{c0:Value}{cdT:ClassData}{slT:Array (Option Value)}
  {params:Arguments}{scope:Scope}{dV kV doc pm cdv ct:Value}{an od:Option Addr}{osl:Array (Option Value)}{p1 p2 p3 p4:Pos}(F:ExcBaseFacts "ValueError" newId initId pC)
  (lC:K.lookup C=some (excClassObj nm q C N bs (.ref TE::pC) true sn sub ab col dd k0 k1 k2 k3 k5 newId)) (lT:K.lookup TE=some ⟨c0,ddT,.cls cdT,slT⟩) (n1:yD K N=true) (n2:yD K cdT.ns=true)
  (i1:W.nsIn K N "__init__" = some (some (.ref fI))) (i2:d7 K N "__setattr__") (i3:d7 K N a) (t1:d7 K cdT.ns "__init__") (t2:d7 K cdT.ns "__setattr__") (t3:d7 K cdT.ns a)
  (hB:typeLookup (.type "ValueError") a=pure none)
  (lf:K.lookup fI=some ⟨.type "function",od,.func (W.fnOf name qual params [.Assign [.Attribute (.Name "self" p1) a p2] (.Name a p3) p4] scope dV kV doc pm an cdv ct),osl⟩) (hcd:W.codeIn K cdv qual=true)
  (S:aB ["self",a] ["self",a] scope) (hsw:∀env,swapsWith (.Name a p3) (some (.Attribute (.Name "self" p1) a p2)) p4.line env=pure false) (l1:scope.names.lookup ("self" : Str)=some .local) (l2:scope.names.lookup a=some .local) (hne:a ≠ "self") (hdb:(a ==("__debug__" : Str))=false)
  (hbd:∀s e u,BindsTo s (W.fnOf name qual params [.Assign [.Attribute (.Name "self" p1) a p2] (.Name a p3) p4] scope dV kV doc pm an cdv ct) ⟨[.ref e,u],[]⟩ [("self",.ref e),(a,u)]):oV K C a/\XC K C (.ref TE::pC) :=
 ⟨⟨nm,q,N,bs,.ref TE::pC,pC,sn,sub,ab,col,dd,k0,k1,k2,k3,k5,newId,initId,_,_,fI,name,qual,params,scope,dV,kV,doc,pm,cdv,ct,an,od,osl,p1,p2,p3,p4,F,PySem.F.store_ValueError,hB,QV,lC,fun h X=>by
  obtain⟨mT,g1,_,g3⟩:=jY n2 X
  refine .own (X _ _ lT) g1 (fun n hn=>?_) .base
  rcases hn with rfl|rfl|rfl
  ·exact g3 _ t1
  ·exact g3 _ t2
  ·exact g3 _ t3,fun h X=>by
  obtain⟨mN,g1,g2,g3⟩:=jY n1 X
  exact⟨mN,g1,g2 _ _ i1,g3 _ i2,g3 _ i3⟩,lf,hcd,S,hsw,l1,l2,hne,hdb,hbd⟩,⟨nm,q,N,bs,true,sn,sub,ab,col,dd,k0,k1,k2,k3,k5,newId,lC,QV⟩⟩
end L2
namespace PySem
open Builtin
section
variable {M:Model}{prog:Program}{w:World}{A:Around}{E:Value->Shared->Prop}{h:Heap}{g:Array GenState}{d:Drawn}{t:Nat}{os:OsState}{P:Str->Prop}
variable {nm q:Str}{C N x D:Addr}{bs bm bmB:List Value}{hdct:Bool}{sn:List Str}{sub:List Value}{ab:Bool}{col:Option Bool}{dd:Option Addr}{k0 k1 k2 k3 k5:Option Value}{B newId:String}{mN mA:Str->Option Value}{name:Str}{v:Value}{vs:Array Value}{sl:Array (Option Value)}{od:Obj}
theorem wk {tk:Tok}{Q:Fin->Shared->Prop}(hC:h.get? C=some (excClassObj nm q C N bs bm true sn sub ab col dd k0 k1 k2 k3 k5 newId)) (hN:h.Ns N mN) (hna:mN name=none) (T:oO h bmB P bm) (hp:P name) (hmro:mroOf (.type B)=pure bmB) (hB:typeLookup (.type B) name=pure none)
  (hx:h.get? x=some ⟨.ref C,some D,.fields vs,sl⟩) (hD:h.get? D=some od) (hl:nsLook name od=pure (some v)) (hq:Q (.done (.ret v)) ⟨h,g,d,t,os⟩) :
  wpAny (model prog w) A (Builtin.«object.__getattribute__» ⟨[.ref x,.str name tk],[]⟩) Q E ⟨h,g,d,t,os⟩:=by
 repeat (any_goals (first|assumption|with_reducible refine wpAny_loadPart_at hx ?_|with_reducible refine wpAny_loadPart_at hC ?_|(with_reducible refine dP hC hN T hp hmro hB ?_;rw[hna])|wp_step))
theorem uf {Do:Option Addr}{nameV:Value}{Q:Unit->Shared->Prop}(hC:h.get? C=some (excClassObj nm q C N bs bm hdct sn sub ab col dd k0 k1 k2 k3 k5 newId)) (hb:bm.contains (.type "BaseException")=true)
  (hx:h.get? x=some ⟨.ref C,Do,.fields vs,sl⟩) (hq:Q () ⟨h,g,d,t,os⟩):wpAny M A (checkBuiltinCall "BaseException.__getattribute__" ⟨[.ref x,nameV],[]⟩) Q E ⟨h,g,d,t,os⟩:=by
 have hk:builtinKind "BaseException.__getattribute__" = some .slot:=by z_go
 have hsplit:splitId "BaseException.__getattribute__" = some ("BaseException", "__getattribute__"):=by z_go
 have hcB:(Value.ref C::bm).contains (.type "BaseException")=true:=by rw[List.contains_cons,hb,Bool.or_true]
 have ha:=F.args_bexc_ga (.ref x) nameV
 simp only[checkBuiltinCall,hk,hsplit]
 refine wpAny_bind ?_
 ·unfold isInstance
  repeat (first|with_reducible refine wpAny_loadPart_at hx ?_|(with_reducible refine wpAny_isSubtype_exc hC ?_;rw[hcB])|wp_step)
  exact hq
theorem NH {expr:Bool}{Q:Value->Shared->Prop}(FB:ExcAttrBase B bmB) (hC:h.get? C=some (excClassObj nm q C N bs bm true sn sub ab col dd k0 k1 k2 k3 k5 newId)) (hb:bm.contains (.type "BaseException")=true) (hN:h.Ns N mN) (hna:mN name=none) (hn1:mN "__getattribute__" = none) (hn2:mN "__getattr__" = none)
  (T:oO h bmB P bm) (hp:P name) (hp1:P "__getattribute__") (hp2:P "__getattr__") (hB:typeLookup (.type B) name=pure none)
  (hx:h.get? x=some ⟨.ref C,some D,.fields vs,sl⟩) (hD:h.get? D=some od) (hl:nsLook name od=pure (some v)) (hh:handedOut v=pure v) (hq:∀tk,Q v ⟨h,g,d,tk,os⟩) :
  wpAny (model prog w) A (getAttr (.ref x) name expr) Q E ⟨h,g,d,t,os⟩:=by
 have f3:=FB.ga.bind (.ref x)
 have hx0:(expr && onTheHeap (Value.builtin "BaseException.__getattribute__"))=false:=by cases expr <;> rfl
 have hx2:(Value.builtin "BaseException.__getattribute__" == Value.builtin "object.__getattribute__")=false:=by z_go
 have hx1:(onTheHeap (Value.ref C) && Value.builtin "BaseException.__getattribute__" == Value.builtin "object.__getattribute__")=false:=by rw[hx2];rfl
 unfold getAttr
 repeat (any_goals (first|assumption|with_reducible refine wpAny_loadPart_at hx ?_|(with_reducible refine dP hC hN T hp1 FB.mro FB.ga.lookup ?_;rw[hn1])|(with_reducible refine dP hC hN T hp2 FB.mro FB.noGetattr ?_;rw[hn2])|wp_step))
 refine codeAny_call_builtin FB.ga.plain F.entry_bexc_ga (uf hC hb hx (wk hC hN hna T hp FB.mro hB hx hD hl ?_))
 show wpAny _ _ (handedOut v) _ _ _
 rw[hh]
 exact wpAny_pure (hq _)
end
end PySem
namespace L2
open PySem PySem.Spec PyProof.Rows
def rT (K:W.Frag) (C:Addr) (a:Str):Prop:=∃(nm q:Str) (N:Addr) (bs bm bmB:List Value) (sn:List Str) (sub:List Value) (ab:Bool) (col:Option Bool) (dd:Option Addr) (k0 k1 k2 k3 k5:Option Value) (newId:String),
 K.lookup C=some (excClassObj nm q C N bs bm true sn sub ab col dd k0 k1 k2 k3 k5 newId)/\bm.contains (.type "BaseException")=true/\ExcAttrBase "ValueError" bmB/\typeLookup (.type "ValueError") a=pure none /\
 (∀h,K.In h->oO h bmB (fun n=>n=a\/n = "__getattribute__" \/ n = "__getattr__") bm)/\∀h,K.In h->∃mN,h.Ns N mN/\mN a=none/\mN "__getattribute__" = none/\mN "__getattr__" = none
section
variable {X:Cx}{pins:List (Addr×Obj)}{σ:St}{H:Hp}{s:Shared}{e C:Addr}{a:Str}{v:V}
theorem QC {b:Bool}{A:Around}{E:Value->Shared->Prop}{Q:Value->Shared->Prop}(I:Inv X pins σ H s) (x:Iu H e C a v) (c:rT X.K C a)
  (h:∀u s',Inv X pins σ H s'->RelV v u->Q u s'):wpAny (model X.prog X.w) A (getAttr (.ref e) a b) Q E s:=by
 obtain⟨nm,q,N,bs,bm,bmB,sn,sub,ab,col,dd,k0,k1,k2,k3,k5,newId,lC,hb,FB,hB,hT,hN⟩:=c
 obtain⟨D,T,x⟩:=x
 obtain⟨⟨vs,sl,he,_⟩,_,_⟩:=I.hok e _ x.ex
 obtain⟨mA,hn,r⟩:=(show cH X.prog X.w H s.heap D (.xd [(a,v)]) from I.hok D _ (x.xd D rfl))
 obtain⟨od,ho,hl⟩:=nH hn
 have ra:=r a
 rw[show List.lookup a [(a,v)]=some v by simp[List.lookup]]at ra
 obtain⟨u,hu,ru⟩:=iC.some_of ra
 obtain⟨mN,g1,g2,g3,g4⟩:=hN _ I.kIn
 have kI:=I.kIn
 have I':=fun tk=>I.tok tk
 obtain⟨hh,g,d,t,os⟩:=s
 exact NH FB (kI _ _ lC) hb g1 g2 g3 g4 (hT _ kI) (.inl rfl) (.inr (.inl rfl)) (.inr (.inr rfl)) hB he ho (PySem.W.nsLook_of (by rw[hl,hu])) (PySem.W.handedOut_of (tV ru)) fun tk=>h u _ (I' tk) ru
def Fy (K:W.Frag) (ta:TE) (a:Str):TE:=fun σ H Q=>ta σ H fun x H1=>∃e C v,x = .ref e/\Iu H1 e C a v/\rT K C a/\Q v H1
theorem HZ {o:Expr}{ta:TE}{pos:Pos}(ha:PE X o ta) (hb:attributeBase o a X.env (eval o X.env)=eval o X.env:=by rfl):PE X (.Attribute o a pos) (Fy X.K ta a):=by
 intro pins s σ H Q I h
 refine A1 hb (bX (ha pins s σ H _ I h) fun ov s1 ⟨x,H1,I1,rx,e,C,v,ex,xa,c,q⟩=>?_)
 subst ex
 obtain rfl:ov=Value.ref e:=rx
 exact QC I1 xa c fun u s2 I2 ru=>⟨v,H1,I2,ru,q⟩
end
def EI (es:Array DictEntry):Bool:=es.toList.all (fun e=>match e.key with | .str _ _=>true|_=>false)
theorem Ei {K:W.Frag}{N:Addr}{c:Value}{d:Option Addr}{es:Array DictEntry}{ep:Nat}{sl:Array (Option Value)}(l:K.lookup N=some ⟨c,d,.dict es ep,sl⟩) (h:EI es=true):yD K N=true:=by
 unfold yD;rw[l]
 show es.all _=true
 rw[<- Array.all_toList];exact h
theorem rT.of {K:W.Frag}{C TE N:Addr}{a nm q:Str}{bs:List Value}{sn:List Str}{sub:List Value}{ab:Bool}{col:Option Bool}{dd ddT:Option Addr}{k0 k1 k2 k3 k5:Option Value}{newId:String}{c0:Value}{cdT:ClassData}{slT:Array (Option Value)}
  (lC:K.lookup C=some (excClassObj nm q C N bs (.ref TE::pC) true sn sub ab col dd k0 k1 k2 k3 k5 newId)) (lT:K.lookup TE=some ⟨c0,ddT,.cls cdT,slT⟩) (n1:yD K N=true) (n2:yD K cdT.ns=true)
  (i1:d7 K N a) (i2:d7 K N "__getattribute__") (i3:d7 K N "__getattr__") (t1:d7 K cdT.ns a) (t2:d7 K cdT.ns "__getattribute__") (t3:d7 K cdT.ns "__getattr__") (hB:typeLookup (.type "ValueError") a=pure none):rT K C a :=
 ⟨nm,q,N,bs,.ref TE::pC,pC,sn,sub,ab,col,dd,k0,k1,k2,k3,k5,newId,lC,QV,PySem.F.attrBase_ValueError,hB,fun h X=>by
  obtain⟨mT,g1,_,g3⟩:=jY n2 X
  refine .own (X _ _ lT) g1 (fun n hn=>?_) .base
  rcases hn with rfl|rfl|rfl
  ·exact g3 _ t1
  ·exact g3 _ t2
  ·exact g3 _ t3,fun h X=>by
  obtain⟨mN,g1,_,g3⟩:=jY n1 X
  exact⟨mN,g1,g3 _ i1,g3 _ i2,g3 _ i3⟩⟩
theorem E3:typeLookup (.type "ValueError") "key" = pure none:=by rw[typeLookup_type,builtinLookup_eq_fast];kernel_rfl
theorem wF:typeLookup (.type "ValueError") "thing" = pure none:=by rw[typeLookup_type,builtinLookup_eq_fast];kernel_rfl
theorem B8:typeLookup (.type "ValueError") "number" = pure none:=by rw[typeLookup_type,builtinLookup_eq_fast];kernel_rfl
theorem Ir:typeLookup (.type "ValueError") "many" = pure none:=by rw[typeLookup_type,builtinLookup_eq_fast];kernel_rfl
end L2
namespace PySem
open Builtin
section
variable {M:Model}{prog:Program}{w:World}{A:Around}{E:Value->Shared->Prop}{h:Heap}{g:Array GenState}{d:Drawn}{t:Nat}{os:OsState}{P:Str->Prop}
variable {nm q:Str}{C N x D:Addr}{bs bm bmB:List Value}{hdct:Bool}{sn:List Str}{sub:List Value}{ab:Bool}{col:Option Bool}{dd:Option Addr}{k0 k1 k2 k3 k5:Option Value}{B newId:String}{mN:Str->Option Value}{vs:Array Value}{sl:Array (Option Value)}{K:W.Frag}{od:Obj}
theorem EX:typeLookup (.type "ValueError") "__class__" = pure (some (.builtin "object.__class__")):=by rw[typeLookup_type,builtinLookup_eq_fast];kernel_rfl
theorem vK {Do:Option Addr}{oo:Option Obj}{tk:Tok}{Q:Fin->Shared->Prop}(KX:K.In h) (I:PySem.W.InstAt h x ⟨.ref C,Do,.fields vs,sl⟩ C oo) (hm:W.mroIn K C (.type "object")=some true) (hC:h.get? C=some (excClassObj nm q C N bs bm true sn sub ab col dd k0 k1 k2 k3 k5 newId)) (hN:h.Ns N mN) (hna:mN "__class__" = none) (T:oO h bmB P bm) (hp:P "__class__") (hmro:mroOf (.type "ValueError")=pure bmB)
  (hx:h.get? x=some ⟨.ref C,Do,.fields vs,sl⟩) (hq:Q (.done (.ret (.ref C))) ⟨h,g,d,t,os⟩) :
  wpAny (model prog w) A (Builtin.«object.__getattribute__» ⟨[.ref x,.str "__class__" tk],[]⟩) Q E ⟨h,g,d,t,os⟩:=by
 have f5:=F.typeOf_object_class
 have f6:=F.slot_gs_get.lookup
 have f7:=F.slot_gs_set.lookup
 repeat (any_goals (first|assumption|with_reducible refine wpAny_loadPart_at hx ?_|with_reducible refine wpAny_loadPart_at hC ?_|(with_reducible refine dP hC hN T hp hmro EX ?_;rw[hna])|wp_step))
 refine PySem.W.class_get (s:=⟨h,g,d,t,os⟩) KX I hm ?_
 repeat (any_goals (first|assumption|wp_step))
theorem Hy {Do:Option Addr}{oo:Option Obj}{Q:Option Value->Shared->Prop}(FB:ExcAttrBase "ValueError" bmB) (KX:K.In h) (I:PySem.W.InstAt h x ⟨.ref C,Do,.fields vs,sl⟩ C oo) (hm:W.mroIn K C (.type "object")=some true) (hC:h.get? C=some (excClassObj nm q C N bs bm true sn sub ab col dd k0 k1 k2 k3 k5 newId)) (hb:bm.contains (.type "BaseException")=true) (hN:h.Ns N mN)
  (hna:mN "__class__" = none) (hn1:mN "__getattribute__" = none) (hn2:mN "__getattr__" = none) (T:oO h bmB P bm) (hp:P "__class__") (hp1:P "__getattribute__") (hp2:P "__getattr__")
  (hx:h.get? x=some ⟨.ref C,Do,.fields vs,sl⟩) (hq:Q (some (.ref C)) ⟨h,g,d,t+1,os⟩):wpAny (model prog w) A (getAttr? (.ref x) "__class__") Q E ⟨h,g,d,t,os⟩:=by
 have f3:=FB.ga.bind (.ref x)
 have hx2:(Value.builtin "BaseException.__getattribute__" == Value.builtin "object.__getattribute__")=false:=by z_go
 have hx1:(onTheHeap (Value.ref C) && Value.builtin "BaseException.__getattribute__" == Value.builtin "object.__getattribute__")=false:=by rw[hx2];rfl
 unfold getAttr?
 repeat (any_goals (first|assumption|with_reducible refine wpAny_loadPart_at hx ?_|(with_reducible refine dP hC hN T hp1 FB.mro FB.ga.lookup ?_;rw[hn1])|(with_reducible refine dP hC hN T hp2 FB.mro FB.noGetattr ?_;rw[hn2])|wp_step))
 refine codeAny_call_builtin FB.ga.plain F.entry_bexc_ga (uf hC hb hx (vK KX I hm hC hN hna T hp FB.mro hx ?_))
 show wpAny _ _ (handedOut (.ref C)) _ _ _
 rw[PySem.W.handedOut_of rfl]
 exact wpAny_pure (wpAny_pure hq)
end
end PySem
namespace L2
open PySem PySem.Spec PyProof.Rows
def u6 (K:W.Frag) (C:Addr):Prop:=∃(nm q:Str) (N:Addr) (bs bm bmB:List Value) (sn:List Str) (sub:List Value) (ab:Bool) (col:Option Bool) (dd:Option Addr) (k0 k1 k2 k3 k5:Option Value) (newId:String),
 K.lookup C=some (excClassObj nm q C N bs bm true sn sub ab col dd k0 k1 k2 k3 k5 newId)/\bm.contains (.type "BaseException")=true/\ExcAttrBase "ValueError" bmB/\W.mroIn K C (.type "object")=some true /\
 (∀h,K.In h->oO h bmB (fun n=>n = "__class__" \/ n = "__getattribute__" \/ n = "__getattr__") bm)/\∀h,K.In h->∃mN,h.Ns N mN/\mN "__class__" = none/\mN "__getattribute__" = none/\mN "__getattr__" = none
theorem u6.kit {K:W.Frag}{C e:Addr}{Do:Option Addr}{oo:Option Obj}(c:u6 K C):PySem.W.KitX K (.ref e) (.ref C) (fun h=>∃vs sl,PySem.W.InstAt h e ⟨.ref C,Do,.fields vs,sl⟩ C oo/\h.get? e=some ⟨.ref C,Do,.fields vs,sl⟩):=by
 obtain⟨nm,q,N,bs,bm,bmB,sn,sub,ab,col,dd,k0,k1,k2,k3,k5,newId,lC,hb,FB,hm,hT,hN⟩:=c
 refine⟨fun M h X ⟨vs,sl,ia,he⟩=>ia.type,fun M h X _=>?_,fun h tp dd' its n sl X htp=>?_,fun {prog w A E Q s} X ⟨vs,sl,ia,he⟩ k=>?_⟩
 ·intro A' Q' E' s' kk q
  unfold isType loadHead
  exact wpAny_bind (wpAny_loadPart (kk _ _ (X _ _ lC)) (wpAny_pure q))
 ·refine Bool.eq_false_iff.mpr fun q=>?_
  have e:C=tp:=Value.ref.inj (beq_iff_eq.mp q)
  subst e
  have z:=congrArg (fun o=>o.map Obj.cls) ((X _ _ lC).symm.trans htp)
  exact absurd z (by simp)
 ·obtain⟨mN,g1,g2,g3,g4⟩:=hN _ X
  obtain⟨hh,g,d,t,os⟩:=s
  exact Hy FB X ia hm (X _ _ lC) hb g1 g2 g3 g4 (hT _ X) (.inl rfl) (.inr (.inl rfl)) (.inr (.inr rfl)) he k
def vG (H:Hp) (e C:Addr):Prop:=∃D T a v,Exc H e C D T a v
theorem Iu.any {H:Hp}{e C:Addr}{a:Str}{v:V}(x:Iu H e C a v):vG H e C:=by obtain⟨D,T,x⟩:=x;exact⟨_,_,_,_,x⟩
section
variable {X:Cx}
theorem vG.inst {pins:List (Addr×Obj)}{σ:St}{H:Hp}{s:Shared}{e C:Addr}(I:Inv X pins σ H s) (x:vG H e C):∃Do oo vs sl,PySem.W.InstAt s.heap e ⟨.ref C,Do,.fields vs,sl⟩ C oo/\s.heap.get? e=some ⟨.ref C,Do,.fields vs,sl⟩:=by
 obtain⟨D,T,a,v,x⟩:=x
 obtain⟨⟨vs,sl,he,_⟩,_,_⟩:=I.hok e _ x.ex
 cases D with
 | none=>exact⟨none,none,vs,sl,⟨he,rfl,rfl,trivial⟩,he⟩
 | some D =>
  obtain⟨mA,hn,_⟩:=(show cH X.prog X.w H s.heap D (.xd [(a,v)]) from I.hok D _ (x.xd D rfl))
  obtain⟨od,ho,_⟩:=nH hn
  exact⟨some D,some od,vs,sl,⟨he,rfl,rfl,ho⟩,he⟩
def E5 (K:W.Frag):List V->Hp->VK->Prop:=fun xs H Q=>∃e C c cv b,xs=[.ref e,c]/\(∀u,RelV c u->u=cv)/\vG H e C/\u6 K C/\W.kitOne K (.ref C) cv=some b/\Q (.bl b) H
theorem BY:cG X (.builtin "isinstance") (E5 X.K):=by
 intro pins s σ H xs us Q I r h
 obtain⟨e,C,c,cv,b,rfl,hc,x,cl,hk,q⟩:=h
 obtain⟨u,w',rfl,r1,r2⟩:=vals2 r
 cases (show u=Value.ref e from r1)
 cases hc w' r2
 obtain⟨Do,oo,vs,sl,ia,he⟩:=x.inst I
 exact PySem.W.kia_one (cl.kit (Do:=Do) (oo:=oo)) I.kIn ⟨vs,sl,ia,he⟩ hk (fun z=>nomatch z) fun tk=>⟨.bl b,H,I.tok _,rfl,q⟩
end
theorem u6.of {K:W.Frag}{C TE N:Addr}{nm q:Str}{bs:List Value}{sn:List Str}{sub:List Value}{ab:Bool}{col:Option Bool}{dd ddT:Option Addr}{k0 k1 k2 k3 k5:Option Value}{newId:String}{c0:Value}{cdT:ClassData}{slT:Array (Option Value)}
  (lC:K.lookup C=some (excClassObj nm q C N bs (.ref TE::pC) true sn sub ab col dd k0 k1 k2 k3 k5 newId)) (lT:K.lookup TE=some ⟨c0,ddT,.cls cdT,slT⟩) (n1:yD K N=true) (n2:yD K cdT.ns=true) (hm:W.mroIn K C (.type "object")=some true)
  (i1:d7 K N "__class__") (i2:d7 K N "__getattribute__") (i3:d7 K N "__getattr__") (t1:d7 K cdT.ns "__class__") (t2:d7 K cdT.ns "__getattribute__") (t3:d7 K cdT.ns "__getattr__"):u6 K C :=
 ⟨nm,q,N,bs,.ref TE::pC,pC,sn,sub,ab,col,dd,k0,k1,k2,k3,k5,newId,lC,QV,PySem.F.attrBase_ValueError,hm,fun h X=>by
  obtain⟨mT,g1,_,g3⟩:=jY n2 X
  refine .own (X _ _ lT) g1 (fun n hn=>?_) .base
  rcases hn with rfl|rfl|rfl
  ·exact g3 _ t1
  ·exact g3 _ t2
  ·exact g3 _ t3,fun h X=>by
  obtain⟨mN,g1,_,g3⟩:=jY n1 X
  exact⟨mN,g1,g3 _ i1,g3 _ i2,g3 _ i3⟩⟩
structure ir (K:W.Frag) (mg:Str->Option Value) (x:Str) (C TE:Addr) (a:Str):Prop where
 mg:mg x=some (.ref C)
 nm:W.nsIn K mainGlobals x=some (some (.ref C))
 cls:oV K C a
 at_:rT K C a
 kit:u6 K C
 xc:XC K C (.ref TE::pC)
structure yh (K:W.Frag) (x:Str) (C TE:Addr) (a:Str):Prop where
 ex:∃(N fI:Addr) (nm q name qual:Str) (bs:List Value) (sn:List Str) (sub:List Value) (ab:Bool) (col:Option Bool) (dd ddT d1 d2:Option Addr) (k0 k1 k2 k3 k5:Option Value) (c0 c1 c2:Value) (cdT:ClassData) (slT sl1 sl2:Array (Option Value)) (es1 es2:Array DictEntry) (ep1 ep2:Nat)
   (params:Arguments) (scope:Scope) (dV kV doc pm cdv ct:Value) (an od:Option Addr) (osl:Array (Option Value)) (p1 p2 p3 p4:Pos),
  W.nsIn K mainGlobals x=some (some (.ref C))/\K.lookup C=some (excClassObj nm q C N bs (.ref TE::pC) true sn sub ab col dd k0 k1 k2 k3 k5 "ValueError.__new__")/\K.lookup TE=some ⟨c0,ddT,.cls cdT,slT⟩/\K.lookup N=some ⟨c1,d1,.dict es1 ep1,sl1⟩/\EI es1=true/\K.lookup cdT.ns=some ⟨c2,d2,.dict es2 ep2,sl2⟩/\EI es2=true /\
  W.nsIn K N "__init__" = some (some (.ref fI))/\(d7 K N "__setattr__"/\d7 K N a/\d7 K N "__getattribute__"/\d7 K N "__getattr__"/\d7 K N "__class__")/\(d7 K cdT.ns "__init__"/\d7 K cdT.ns "__setattr__"/\d7 K cdT.ns a/\d7 K cdT.ns "__getattribute__"/\d7 K cdT.ns "__getattr__"/\d7 K cdT.ns "__class__") /\
  W.mroIn K C (.type "object")=some true/\typeLookup (.type "ValueError") a=pure none /\
  K.lookup fI=some ⟨.type "function",od,.func (W.fnOf name qual params [.Assign [.Attribute (.Name "self" p1) a p2] (.Name a p3) p4] scope dV kV doc pm an cdv ct),osl⟩/\W.codeIn K cdv qual=true /\
  aB ["self",a] ["self",a] scope/\(∀env,swapsWith (.Name a p3) (some (.Attribute (.Name "self" p1) a p2)) p4.line env=pure false)/\scope.names.lookup ("self" : Str)=some .local/\scope.names.lookup a=some .local/\a ≠ "self"/\(a ==("__debug__" : Str))=false /\
  ∀s e u,BindsTo s (W.fnOf name qual params [.Assign [.Attribute (.Name "self" p1) a p2] (.Name a p3) p4] scope dV kV doc pm an cdv ct) ⟨[.ref e,u],[]⟩ [("self",.ref e),(a,u)]
theorem yh.txt {K:W.Frag}{mg:Str->Option Value}{x a:Str}{C TE:Addr}{h:Heap}(g:yh K x C TE a) (X:K.In h) (G:h.Ns mainGlobals mg):ir K mg x C TE a:=by
 obtain⟨N,fI,nm,q,name,qual,bs,sn,sub,ab,col,dd,ddT,d1,d2,k0,k1,k2,k3,k5,c0,c1,c2,cdT,slT,sl1,sl2,es1,es2,ep1,ep2,params,scope,dV,kV,doc,pm,cdv,ct,an,od,osl,p1,p2,p3,p4,aC,lC,lT,l1,n1,l2,n2,i0,⟨i1,i2,i3,i4,i5⟩,⟨t0,t1,t2,t3,t4,t5⟩,hm,hB,lf,hcd,S,hsw,s1,s2,hne,hdb,hbd⟩:=g.ex
 have m1:=Ei l1 n1
 have m2:=Ei l2 n2
 obtain⟨r1,r2⟩:=oV.mk' PySem.F.excBase_ValueError lC lT m1 m2 i0 i1 i2 t0 t1 t2 hB lf hcd S hsw s1 s2 hne hdb hbd
 exact⟨W.mg_of X G aC,aC,r1,rT.of lC lT m1 m2 i2 i3 i4 t2 t3 t4 hB,u6.of lC lT m1 m2 hm i5 i3 i4 t5 t3 t4,r2⟩
theorem jQ {K:W.Frag}{C:Addr}{bm:List Value}(x:XC K C bm):Wv K C C:=⟨bm,bm,x,x,by rw[List.contains_cons];simp⟩
theorem MX {nm q nm' q':Str}{C N C' N':Addr}{bs bm bs' bm':List Value}{hdct hdct':Bool}{sn sn':List Str}{sub sub':List Value}{ab ab':Bool}{col col':Option Bool}{dd dd':Option Addr}{k0 k1 k2 k3 k5 k0' k1' k2' k3' k5':Option Value}{newId newId':String}(h:excClassObj nm q C N bs bm hdct sn sub ab col dd k0 k1 k2 k3 k5 newId=excClassObj nm' q' C' N' bs' bm' hdct' sn' sub' ab' col' dd' k0' k1' k2' k3' k5' newId'):Value.ref C::bm=Value.ref C'::bm' :=
 congrArg (fun o:Obj=>match o.data with | .cls cd=>cd.mro|_=>[]) h
theorem XC.uniq {K:W.Frag}{C:Addr}{bm bm':List Value}(x:XC K C bm) (y:XC K C bm'):bm=bm':=by
 obtain⟨nm,q,N,bs,hdct,sn,sub,ab,col,dd,k0,k1,k2,k3,k5,newId,l,_⟩:=x
 obtain⟨nm',q',N',bs',hdct',sn',sub',ab',col',dd',k0',k1',k2',k3',k5',newId',l',_⟩:=y
 exact(List.cons.inj (MX (Option.some.inj (l.symm.trans l')))).2
theorem eW {K:W.Frag}{C C' TE:Addr}(x:XC K C (.ref TE::pC)) (y:XC K C' (.ref TE::pC)) (t:XC K TE pC) (n:C≠C'):Qy K C C':=by
 have nt:TE≠C':=fun e=>by
  subst e
  have:=congrArg List.length (t.uniq y)
  simp at this
 refine⟨_,_,x,y,?_⟩
 rw[List.contains_cons,List.contains_cons,show pC.contains (.ref C')=false by simp[pC,List.contains_cons]]
 have h1:(Value.ref C' == Value.ref C)=false:=beq_eq_false_iff_ne.mpr fun z=>n (Value.ref.inj z).symm
 have h2:(Value.ref C' == Value.ref TE)=false:=beq_eq_false_iff_ne.mpr fun z=>nt (Value.ref.inj z).symm
 rw[h1,h2];rfl
theorem tw:bootBuiltins "ValueError" = some (.type "ValueError"):=by z_go
structure Qe (K:W.Frag) (mg:Str->Option Value) (TE:Addr):Prop where
 mg:mg "TailError" = some (.ref TE)
 xc:XC K TE pC
def OD (K:W.Frag) (TE:Addr):Prop:=W.nsIn K mainGlobals "TailError" = some (some (.ref TE))/\XC K TE pC
theorem OD.mk {K:W.Frag}{TE N:Addr}{nm q:Str}{bs:List Value}{hdct:Bool}{sn:List Str}{sub:List Value}{ab:Bool}{col:Option Bool}{dd:Option Addr}{k0 k1 k2 k3 k5:Option Value}{newId:String}
  (a:W.nsIn K mainGlobals "TailError" = some (some (.ref TE))) (l:K.lookup TE=some (excClassObj nm q TE N bs pC hdct sn sub ab col dd k0 k1 k2 k3 k5 newId)):OD K TE :=
 ⟨a,nm,q,N,bs,hdct,sn,sub,ab,col,dd,k0,k1,k2,k3,k5,newId,l,by z_go⟩
theorem OD.txt {K:W.Frag}{mg:Str->Option Value}{TE:Addr}{h:Heap}(g:OD K TE) (X:K.In h) (G:h.Ns mainGlobals mg):Qe K mg TE:=⟨W.mg_of X G g.1,g.2⟩
theorem yh.mk' {K:W.Frag}{x a:Str}{C TE N fI:Addr}{nm q qual:Str}{bs:List Value}{sn:List Str}{sub:List Value}{ab:Bool}{col:Option Bool}{dd ddT d1 d2:Option Addr}{k0 k1 k2 k3 k5:Option Value}{c0 c1 c2:Value}{cdT:ClassData}{slT sl1 sl2:Array (Option Value)}{es1 es2:Array DictEntry}{ep1 ep2:Nat}
  {st:Stmt}{kV doc pm cdv ct:Value}{an od:Option Addr}{osl:Array (Option Value)}{p1 p2 p3 p4:Pos}
  (aC:W.nsIn K mainGlobals x=some (some (.ref C))) (lC:K.lookup C=some (excClassObj nm q C N bs (.ref TE::pC) true sn sub ab col dd k0 k1 k2 k3 k5 "ValueError.__new__")) (lT:K.lookup TE=some ⟨c0,ddT,.cls cdT,slT⟩) (l1:K.lookup N=some ⟨c1,d1,.dict es1 ep1,sl1⟩) (n1:EI es1=true) (l2:K.lookup cdT.ns=some ⟨c2,d2,.dict es2 ep2,sl2⟩) (n2:EI es2=true)
  (i0:W.nsIn K N "__init__" = some (some (.ref fI))) (i1:W.nsIn K N "__setattr__" = some none) (i2:W.nsIn K N a=some none) (i3:W.nsIn K N "__getattribute__" = some none) (i4:W.nsIn K N "__getattr__" = some none) (i5:W.nsIn K N "__class__" = some none)
  (t0:W.nsIn K cdT.ns "__init__" = some none) (t1:W.nsIn K cdT.ns "__setattr__" = some none) (t2:W.nsIn K cdT.ns a=some none) (t3:W.nsIn K cdT.ns "__getattribute__" = some none) (t4:W.nsIn K cdT.ns "__getattr__" = some none) (t5:W.nsIn K cdT.ns "__class__" = some none)
  (hm:W.mroIn K C (.type "object")=some true)
  (lf:K.lookup fI=some ⟨.type "function",od,.func (W.fnOf "__init__" qual (cK st) (bP st) (aq st) .none kV doc pm an cdv ct),osl⟩) (hcd:W.codeIn K cdv qual=true)
  (hB:typeLookup (.type "ValueError") a=pure none) (hb:bP st=[.Assign [.Attribute (.Name "self" p1) a p2] (.Name a p3) p4]) (S:aB ["self",a] ["self",a] (aq st)) (hsw:∀env,swapsWith (.Name a p3) (some (.Attribute (.Name "self" p1) a p2)) p4.line env=pure false) (s1:(aq st).names.lookup ("self" : Str)=some .local) (s2:(aq st).names.lookup a=some .local) (hne:a ≠ "self") (hdb:(a ==("__debug__" : Str))=false)
  (hbd:∀(name qual:Str) (b:List Stmt) (kV doc pm cdv ct:Value) (an:Option Addr) s e u,BindsTo s (W.fnOf name qual (cK st) b (aq st) .none kV doc pm an cdv ct) ⟨[.ref e,u],[]⟩ [("self",.ref e),(a,u)]):yh K x C TE a:=by
 refine⟨N,fI,nm,q, "__init__",qual,bs,sn,sub,ab,col,dd,ddT,d1,d2,k0,k1,k2,k3,k5,c0,c1,c2,cdT,slT,sl1,sl2,es1,es2,ep1,ep2,cK st,aq st,.none,kV,doc,pm,cdv,ct,an,od,osl,p1,p2,p3,p4,aC,lC,lT,l1,n1,l2,n2,i0,⟨i1,i2,i3,i4,i5⟩,⟨t0,t1,t2,t3,t4,t5⟩,hm,hB,?_,hcd,S,hsw,s1,s2,hne,hdb,fun s e u=>hbd _ _ _ _ _ _ _ _ _ s e u⟩
 rw[lf,hb]
theorem rC {X:Cx}{K:W.Frag}{a:Str}{o:Expr}{ta:TE}{pos:Pos}(hK:X.K=K) (ha:PE X o ta) (hb:attributeBase o a X.env (eval o X.env)=eval o X.env):PE X (.Attribute o a pos) (Fy K ta a):=by
 subst hK;exact HZ ha hb
theorem dI {X:Cx}{K:W.Frag}(hK:X.K=K):cG X (.builtin "isinstance") (E5 K):=by subst hK;exact BY
section
variable {σ:St}{H:Hp}{Q:VK}{D:Ends}
theorem Ff {C:Addr}{E:XK}{ta:TA}(h:ta σ H fun vs H1=>∃v,vs=[v]/\∀u,RelV v u->E u (some C) H1):Du C E ta D σ H:=h
theorem MN {K:W.Frag}{ta:TE}{a:Str}(h:ta σ H fun x H1=>∃e C v,x = .ref e/\Iu H1 e C a v/\rT K C a/\Q v H1):Fy K ta a σ H Q:=h
end
theorem Wa {σ:St}(h:σ.length=5):∃a b c d e,σ=[a,b,c,d,e]:=match σ,h with | [a,b,c,d,e],_=>⟨a,b,c,d,e,rfl⟩
theorem Exc.same {H H':Hp}{e C:Addr}{D T:Option Addr}{a:Str}{v:V}(x:Exc H e C D T a v) (s:∀b o,H b=some o->H' b=some o):Exc H' e C D T a v:=⟨s _ _ x.ex,fun d q=>s _ _ (x.xd d q),fun t q=>⟨s _ _ (x.tb t q).1,(x.tb t q).2⟩⟩
theorem Iu.same {H H':Hp}{e C:Addr}{a:Str}{v:V}(x:Iu H e C a v) (s:∀b o,H b=some o->H' b=some o):Iu H' e C a v:=by
 obtain⟨D,T,x⟩:=x
 exact⟨D,T,x.same s⟩
theorem vG.same {H H':Hp}{e C:Addr}(x:vG H e C) (s:∀b o,H b=some o->H' b=some o):vG H' e C:=by
 obtain⟨D,T,a,v,x⟩:=x
 exact⟨D,T,a,v,x.same s⟩
theorem iN {K:W.Frag}{H:Hp}{Q:VK}{e C:Addr}{c:V}{cv:Value}{b:Bool}(x:vG H e C) (k:u6 K C) (hc:∀u,RelV c u->u=cv) (h:W.kitOne K (.ref C) cv=some b) (q:Q (.bl b) H):E5 K [.ref e,c] H Q:=⟨e,C,c,cv,b,rfl,hc,x,k,h,q⟩
structure kQ (k:Nat) (A:Around):Prop where
 dp:A.depth+3*k+5<recursionLimit
 un:A.units+16*k+200<cLine
 gd:A.guards=some []
theorem kQ.deeper {k:Nat}{A:Around}(r:kQ (k+1) A) (env:Env):kQ k (A.deeper env) :=
 ⟨by have:=r.dp;show A.depth+1+3*k+5<_;omega,by have:=r.un;show A.units+3+16*k+200<_;omega,kF r.gd⟩
theorem kQ.depth {k:Nat}{A:Around}(r:kQ k A):A.depth<recursionLimit:=by have:=r.dp;omega
theorem cA.mark {k:Nat}{A:Around}(r:cA k A) (h:Option Value):kQ k (A.mark h):=⟨r.dp,r.un,r.gd⟩
structure Ln (P:Program) (w:World) (K:W.Frag) (mg:Str->Option Value) (base:Heap) (CX:zg) (k:Nat) (f:Addr) (fd:FuncData) (ps:List Str) (sp:Sp):Prop where
 len:∀vs H Q E,sp vs H Q E->vs.length=ps.length
 run:∀(A:Around) (outer:List Env) (s:Shared) (H:Hp) (args:Args) (us:List Value) (vs:List V) (Q:VK) (E:XK),kQ k A->v7 P w K mg base A outer s H->BindsTo s fd args (ps.zip us)->Vals vs us->sp vs H Q E ->
  codeAny (model P w) A (.call (.ref f) args) (CR CX outer P w H s Q E) s
def ur (CX:zg) (P:Program) (w:World) (K:W.Frag) (mg:Str->Option Value) (base:Heap) (N:List Str) (qual:Str) (scope:Scope) (f:Addr) (cd:Value) (A:Around) (outer:List Env) (s:Shared) (H:Hp) (E:XK):Cx :=
 { mQ CX P w K mg base N qual scope f cd A outer s H E with calm:=false }
theorem zx {CX:zg}{P:Program}{w:World}{K:W.Frag}{mg:Str->Option Value}{base:Heap}{N ps:List Str}{qual:Str}{scope:Scope}{f:Addr}{cd:Value}{A:Around}{outer:List Env}{s s1:Shared}{H:Hp}{E:XK}{us:List Value}{vs:List V}
  (S:aB N ps scope) (e0:v7 P w K mg base A outer s H) (hl:vs.length=ps.length) (r:Vals vs us)
  (x:InCallC s s.heap.objs.size (bindL (envOfC qual scope s.heap.objs.size f cd).kindOf (ps.zip us) fun _=>none) (cellsFrom (s.heap.objs.size+1) scope.names []) (bindC (envOfC qual scope s.heap.objs.size f cd).kindOf (ps.zip us) fun _=>none) s1) :
  Inv (ur CX P w K mg base N qual scope f cd A outer s H E) [] (start N vs) H s1:=by
 have hpl:ps.length<=N.length:=by have:=congrArg List.length S.pre;rw[List.length_take]at this;omega
 obtain⟨h1,tk,rfl,hk⟩:=x.done
 have noA:∀b:Addr,b∉(ur CX P w K mg base N qual scope f cd A outer s H E).ex:=fun b z=>absurd (show b∈([]:List Addr) from z) (by simp)
 refine⟨⟨e0.mod,S.kind,rfl,rfl,Nat.le_refl _,fun y z c h1 h2=>?_,fun y hy=>?_,fun y c _ h=>?_,(fun z=>by cases z),Around.frames_deeper e0.frames,.inr ⟨rfl,rfl⟩,fun b z=>absurd z (noA b),e0.bs,e0.bsz,fun b _ _=>noA b,fun b z=>absurd z (noA b),e0.funs,e0.frf⟩,
  rfl,e0.bare,Un.kept hk,⟨_,x.toInCall.ns,fun i y v h1 h2 h3=>?_⟩,fun y c h=>⟨_,x.cell y c h⟩,e0.hok.fresh (Nat.le_refl _),fun y c h=>?_,fun p hp=>absurd (show p∈([]:List (Addr×Obj)) from hp) (by simp),e0.hok.kept hk,?_⟩
 ·exact name_of_addr x.apart (PySem.mem_of_lookup h1) (PySem.mem_of_lookup h2)
 ·have hy:scope.names.lookup y=some .cell\/scope.names.lookup y=some .free:=hy
  rcases hy with hy|hy
  ·exact lV hy
  ·exact absurd rfl (S.nofree _ (PySem.mem_of_lookup hy))
 ·exact Nat.le_of_lt (x.above y c (PySem.mem_of_lookup h))
 ·have hi:i<vs.length:=by
   unfold start at h2
   by_cases hi:i<vs.length
   ·exact hi
   ·rw[List.getElem?_append_right (by simpa using hi)]at h2
    rw[List.getElem?_replicate]at h2
    split at h2 <;> cases h2
  have ha:vs[i]? = some v:=by
   unfold start at h2
   rw[List.getElem?_append_left (by simpa using hi),List.getElem?_map]at h2
   cases e:vs[i]? with
   | none=>rw[e]at h2;cases h2
   | some a=>rw[e]at h2;cases h2;rfl
  obtain⟨u,hu,rv⟩:=r.get ha
  have hp:ps[i]? = some y:=by
   rw[<- S.pre,List.getElem?_take_of_lt (by omega)];exact h1
  have ndP:ps.Nodup:=by rw[<- S.pre];exact S.nd.sublist (List.take_sublist _ _)
  refine⟨u,rv,?_⟩
  rcases S.par y (List.mem_of_getElem? hp) with k|k
  ·exact .inl ⟨k,gZ ndP hp hu k⟩
  ·obtain⟨c,e⟩:=lV (n:=s.heap.objs.size+1) k
   refine .inr ⟨.inl k,c,e,?_⟩
   have q:=x.cell y c e
   rw[nP ndP hp hu (by show scope.names.lookup y≠_;rw[k];decide)]at q
   exact q
 ·exact e0.hok.fresh (Nat.le_of_lt (x.above y c (PySem.mem_of_lookup h)))
 ·unfold start
  show _=N.length
  rw[List.length_append,List.length_map,List.length_replicate]
  omega
theorem N7 {CX:zg}{P:Program}{w:World}{K:W.Frag}{mg:Str->Option Value}{base:Heap}{k:Nat}{f:Addr}{name qual:Str}{params:Arguments}{body:List Stmt}{scope:Scope}{dV kV doc pm cdv ct oc:Value}{an od:Option Addr}
  {osl:Array (Option Value)}{N ps:List Str}{sp:Sp}(lk:K.lookup f=some ⟨oc,od,.func (W.fnOf name qual params body scope dV kV doc pm an cdv ct),osl⟩) (hcd:W.codeIn K cdv qual=true) (S:aB N ps scope)
  (len:∀vs H Q E,sp vs H Q E->vs.length=ps.length)
  (hbody:∀(A:Around) (outer:List Env) (s:Shared) (H:Hp) (vs:List V) (Q:VK) (E:XK),kQ k (A.deeper (envOfC qual scope s.heap.objs.size f cdv))->sp vs H Q E ->
   ∃t,o_ (ur CX P w K mg base N qual scope f cdv A outer s H E) body t/\t { nx:=fun _ H'=>Q .non H',rt:=Q } (start N vs) H) :
  Ln P w K mg base CX (k+1) f (W.fnOf name qual params body scope dV kV doc pm an cdv ct) ps sp:=by
 refine⟨len,fun A outer s H args us vs Q E hr e0 hb r hsp=>?_⟩
 have hl:=len _ _ _ _ hsp
 have KX:K.In s.heap:=e0.mod.kin.keeps fun b o e=>(e0.bs b o e).1
 have lim:s.heap.NoLimit:=e0.mod.nolimit.keeps fun b o e=>(e0.bs b o e).1
 have hkind:∀y∈ps.zip us,scope.names.lookup y.1=some .local \/(scope.names.lookup y.1=some .cell/\((cellsFrom (s.heap.objs.size+1) scope.names []).lookup y.1).isSome=true):=fun⟨n,v⟩ hy=>by
  rcases S.par n (List.of_mem_zip hy).1 with q|q
  ·exact .inl q
  ·exact .inr ⟨q,PySem.W.cellsFrom_some _ _ _ (.inl q)⟩
 refine codeAny_call_function hr.depth (KX _ _ lk) rfl S.co S.gen rfl (PySem.W.codeRec_of KX hcd) (hb _ _ _ _ ?_)
 refine wpAny_newFunctionEnv_cells S.kind hkind fun env he s1 x=>?_
 subst he
 refine⟨lim.keeps x.toInCall.keep,codeAny_func ?_⟩
 obtain⟨t,ht,hq⟩:=hbody A outer s H vs Q E (hr.deeper _) hsp
 have I:Inv (ur CX P w K mg base N qual scope f cdv A outer s H E) [] (start N vs) H s1:=zx S e0 hl r x
 refine wpAny_mono (ht [] s1 (start N vs) H _ I hq) (fun fl s' hs=>?_) fun e s' hs=>hs
 have fin:∀{σ':St}{H':Hp}{v:V}{u:Value},Inv (ur CX P w K mg base N qual scope f cdv A outer s H E) [] σ' H' s'->RelV v u->Q v H'->CE outer P w H s Q u s' :=
  fun {σ' H' v u} J rv q=>⟨v,H',J.os,J.bare,J.base,J.hok,rv,q⟩
 cases fl with
 | ret u =>
  obtain⟨v,σ',H',J,rv,q⟩:=hs
  exact fin J rv q
 | next =>
  obtain⟨σ',H',J,q⟩:=hs
  exact fin (v:=V.non) (u:=Value.none) J rfl q
 | brk =>
  obtain⟨_,_,_,q⟩:=hs
  exact False.elim q
 | cont =>
  obtain⟨_,_,_,q⟩:=hs
  exact False.elim q
structure By (P:Program) (w:World) (K:W.Frag) (mg:Str->Option Value) (base:Heap) (x:Str) (ps:List Str) (k:Nat) (sp:Sp):Prop where
 ex:∃(f:Addr) (fd:FuncData),Ln P w K mg base Ar k f fd ps sp/\Binds K fd ps []/\mg x=some (.ref f)/\W.keepIn K (.ref f)=true
section
variable {X:Cx}{x:Str}{ps:List Str}{k:Nat}{sp:Sp}{e:Expr}{es:List Expr}{t:TA}{p pos:Pos}
theorem Ed (C:By X.prog X.w X.K X.mg X.base x ps k sp) (hr:kQ k X.A) (ha:PA X (e::es) t) (hg:Gl X x:=by rfl) (hdb:(x ==("__debug__" : Str))=false:=by decide) (he:starEach (e::es) X.env =(false,eval e X.env)::starEach es X.env:=by rfl) (hpl:(backTo pos (starEach es X.env)).any (·.1)=false:=by rfl) :
  PE X (.Call (.Name x p) (e::es) [] pos) (yc sp [] E0 t):=by
 obtain⟨f,fd,F,hb,hm,hk⟩:=C.ex
 intro pins s σ H Q I h
 refine wpAny_Call_Name_kw (pD I hg hm ?_ hdb)
 refine PySem.W.callWith_K (h₀:=X.base) I.ok.mod.kin hk (bX (ha pos pins s σ H _ I h) fun us s1 ⟨vs,H1,I1,r,q⟩=>⟨I1.kIn,?_⟩) he hpl
 have q:sp (vs ++ []) H1 Q E0:=q
 rw[List.append_nil]at q
 have hl:us.length=ps.length:=by rw[<- r.length];exact F.len _ _ _ _ q
 refine wpAny_call (codeAny_mono (F.run X.A X.stack s1 H1 ⟨us,[]⟩ us vs Q E0 hr I1.env0 (by have:=hb s1 us I1.kIn (by rw[List.append_nil];exact hl);rw[List.append_nil]at this;exact this) r q) fun r s' hq=>?_)
 cases r with
 | error e=>exact hq.elim
 | ok fl =>
  cases fl with
  | ret u=>exact I1.after hq
  | next=>exact False.elim hq
  | brk=>exact False.elim hq
  | cont=>exact False.elim hq
end
theorem By.of {P:Program}{w:World}{K:W.Frag}{mg:Str->Option Value}{base:Heap}{x:Str}{st:Stmt}{f:Addr}{fd:FuncData}{N ps:List Str}{k:Nat}{sp:Sp}(F:cR K x x st f fd) (mF:mg x=some (.ref f)) (bF:Binds K fd ps []) (S:aB N ps (aq st)) (len:∀vs H Q E,sp vs H Q E->vs.length=ps.length)
  (hbody:∀(cdv:Value) (A:Around) (outer:List Env) (s:Shared) (H:Hp) (vs:List V) (Q:VK) (E:XK),kQ k (A.deeper (envOfC x (aq st) s.heap.objs.size f cdv))->sp vs H Q E ->
   ∃t,o_ (ur Ar P w K mg base N x (aq st) f cdv A outer s H E).nox (bP st) t/\t { nx:=fun _ H'=>Q .non H',rt:=Q } (start N vs) H):By P w K mg base x ps (k+1) sp:=by
 refine⟨f,fd,?_,bF,mF,F.kp⟩
 obtain⟨oc,od,kV,doc,pm,an,cdv,ct,osl,rfl,lk,hcd⟩:=F.ex
 refine N7 lk hcd S len fun A outer s H vs Q E hr hsp=>?_
 obtain⟨t,h,q⟩:=hbody cdv A outer s H vs Q E hr hsp
 exact⟨t,h.nox,q⟩
end L2
namespace PySem
end PySem
namespace L2
open PySem PySem.Spec PyProof.Rows
end L2
namespace PySem
open Sem (wp)
end PySem
namespace L2
open PySem PySem.Spec PyProof.Rows
structure QY (X:Cx) (es:List Expr) (t:TA):Prop where
 out:PA X es t
theorem fF {X:Cx}:QY X [] EJ:=⟨aj⟩
theorem aI {X:Cx}{e:Expr}{es:List Expr}{te:TE}{t:TA}(ha:PE X e te) (hr:QY X es t) (hs:starEach (e::es) X.env =(false,eval e X.env)::starEach es X.env):QY X (e::es) (Fp te t):=⟨af ha hr.out hs⟩
theorem fH {X:Cx}{es:List Expr}{t:TA}{pos:Pos}(h:QY X es t):PE X (.List es pos) (Mw t):=dB h.out
def gV (u:Value):V:=(QE u).getD .non
end L2
namespace PySem.SeqAt
open AutoSeq1 (wpAny_loadPart')
open MeetsSeq
end PySem.SeqAt
namespace L2
open PySem PySem.Spec PyProof.Rows
section
variable {X:Cx}
def PD (K:W.Frag):R2:=fun x y H Q=>∃p q xs,x = .ref p/\y = .ref q/\oS K H p xs/\oS K H q xs/\xs.all vL=true/\Q (.bl true) H
theorem NK (hu:X.A.units+64<cLine):lE X (compareOp .Eq) (PD X.K):=by
 intro pins s σ H x y v u Q I rx ry h
 obtain⟨p,p',xs,rfl,rfl,h1,h2,hp,q⟩:=h
 cases rx
 cases ry
 obtain⟨its,r1,pl1,_⟩:=I.tuple h1
 obtain⟨its2,r2,pl2,_⟩:=I.tuple h2
 have l1:=r1.length
 have l2:=r2.length
 refine SeqAt.eq_tupleAt (e:=fun _=>true) pl1 pl2 (by omega) (fun j g1 g2=>?_) ⟨.bl _,H,I,rfl,?_⟩
 ·have g1':j<xs.length:=by have:j<its.toArray.size:=g1;rw[List.size_toArray]at this;omega
  obtain⟨u1,e1,t1⟩:=r1.get (List.getElem?_eq_getElem g1')
  obtain⟨u2,e2,t2⟩:=r2.get (List.getElem?_eq_getElem g1')
  have k1:its.toArray[j]=u1:=by
   have:=List.getElem?_eq_some_iff.mp e1;simpa using this.2
  have k2:its2.toArray[j]=u2:=by
   have:=List.getElem?_eq_some_iff.mp e2;simpa using this.2
  rw[k1,k2]
  exact DU (List.all_eq_true.mp hp _ (List.getElem_mem g1')) t1 t2
 ·rw[show((List.range (min its.toArray.size its2.toArray.size)).all (fun _=>true) && its.toArray.size == its2.toArray.size)=true by simp;omega];exact q
theorem Oo {K:W.Frag}{H:Hp}{Q:VK}{p q:Addr}{xs:List V}(h1:oS K H p xs) (h2:oS K H q xs) (hp:xs.all vL=true) (h:Q (.bl true) H):PD K (.ref p) (.ref q) H Q:=⟨p,q,xs,rfl,rfl,h1,h2,hp,h⟩
end
section
variable {X:Cx}
open PySem.Builtin PySem.Builtin.Str in
end
abbrev TF:=St->Hp->Str->VK->Prop
section
variable {prog:Program}{w:World}{A:Around}{E:Value->Shared->Prop}{s:Shared}
structure Nx (prog:Program) (w:World) (A:Around) (i:Addr) (own:List Addr) (S:Nat->Heap->Prop) (val:Nat->Option Value):Prop where
 one:∀{k:Nat}{x:Value}{s:Shared}{E:Value->Shared->Prop}{Q:Value->Shared->Prop},S k s.heap->val k=some x->(∀g,S (k+1) g->Heap.SameBut i s.heap g->Q x { s with heap:=g })->wpAny (model prog w) A (Builtin.SmallTypes.nextOf (.ref i)) Q E s
 fin:∀{k:Nat}{s:Shared}{E:Value->Shared->Prop}{Q:Value->Shared->Prop},S k s.heap->val k=none->(∀g e,Heap.ExtBut i s.heap g->(∃o,g.get? e=some o/\o.cls = .type "StopIteration")->E (.ref e) { s with heap:=g })->wpAny (model prog w) A (Builtin.SmallTypes.nextOf (.ref i)) Q E s
 far:∀{k:Nat}{g g':Heap},S k g->(∀b∈own,∀o,g.get? b=some o->g'.get? b=some o)->S k g'
end
theorem k9:∀{bs:List Bool}{us:List Value},Vals (bs.map V.bl) us->us=bs.map Value.bool
 | [],_,.nil=>rfl
 | b::bs,_,.cons (b:=u) r t=>by
  have e:u=Value.bool b:=r
  rw[e,k9 t];rfl
theorem qM (k:Bool):∀bs:List Bool,(bs.map Value.bool).countP (isBoolOf k)=bs.count k
 | []=>rfl
 | b::bs=>by
  rw[List.map_cons,List.countP_cons,List.count_cons,qM k bs]
  rfl
section
variable {X:Cx}
def AR (K:W.Frag):V->List V->Hp->VK->Prop:=fun x vs H Q=>∃a bs k,x = .ref a/\vs=[.bl k]/\bN K H a (List.map V.bl bs)/\Q (.int (bs.count k:Nat)) H
theorem CA:Lc X "list.count" (AR X.K):=by
 intro pins s σ H x xs v us Q I rx rs h
 obtain⟨a,bs,k,rfl,rfl,hq,q⟩:=h
 cases rx
 obtain⟨u,rfl,ru⟩:=vals1 rs
 cases ru
 obtain⟨its,rv,pl,hz⟩:=I.list hq
 obtain rfl:=k9 rv
 obtain⟨⟨cls,dd,data,sl⟩,ho,hc,n,hd⟩:=pl.isList
 simp only at hc hd
 subst hc hd
 refine call_meets PySem.F.slot_list_count ⟨_,ho,rfl⟩ PySem.F.entry_list_count (PySem.F.args_list_count_2 _ _) (SeqAt.list_countAt a (bs.map Value.bool).toArray n dd sl (.bool k) (isBoolOf k)) ⟨ho,fun y hy=>?_,?_⟩
 ·obtain⟨b,_,rfl⟩:=List.mem_map.mp (show y∈bs.map Value.bool by simpa using hy)
  exact SeqAt.EqAt.bool_bool b k
 ·rw[show(bs.map Value.bool).toArray.toList=bs.map Value.bool from rfl,qM]
  exact⟨.int _,H,I.tok _,⟨_,rfl⟩,q⟩
def AO (K:W.Frag):V->List V->Hp->VK->Prop:=fun x vs H Q=>∃a bs k,x = .ref a/\vs=[.bl k]/\bN K H a (List.map V.bl bs)/\k∈bs/\Q (.int (bs.idxOf k:Nat)) H
theorem BG:Lc X "list.index" (AO X.K):=by
 intro pins s σ H x xs v us Q I rx rs h
 obtain⟨a,bs,k,rfl,rfl,hq,hk,q⟩:=h
 cases rx
 obtain⟨u,rfl,ru⟩:=vals1 rs
 cases ru
 obtain⟨its,rv,pl,hz⟩:=I.list hq
 obtain rfl:=k9 rv
 have hlt:bs.idxOf k<bs.length:=List.idxOf_lt_length_iff.mpr hk
 have hline:sizeLine<2^62:=by decide
 rw[List.length_map]at hz
 obtain⟨⟨c1,d1,e1,f1⟩,ho,hc,n,hd⟩:=pl.isList
 simp only at hc hd
 subst hc hd
 have hM:=SeqAt.list_indexAt a (bs.map Value.bool).toArray n d1 f1 (.bool k) (isBoolOf k) (bs.idxOf k) (by rw[List.size_toArray,List.length_map];exact hlt) (by omega)
  (by
   have e:=List.getElem_idxOf hlt
   simp[isBoolOf,e])
  (by
   intro j h1 h2
   have h3:j<bs.length:=by simpa using h1
   have e:bs[j]≠k:=fun z=>by
    have:=List.not_of_lt_findIdx (p:=(· == k)) (xs:=bs) (i:=j) h2
    simp[z]at this
   simp[isBoolOf,e])
 refine call_meets PySem.F.slot_list_index ⟨_,ho,rfl⟩ PySem.F.entry_list_index (PySem.F.args_list_index_2 _ _) hM ⟨ho,fun y hy=>?_,⟨.int _,H,I.tok _,⟨_,rfl⟩,q⟩⟩
 obtain⟨b,_,rfl⟩:=List.mem_map.mp (show y∈bs.map Value.bool by simpa using hy)
 exact SeqAt.EqAt.bool_bool b k
end
theorem BU {K:W.Frag}{H:Hp}{Q:VK}{a:Addr}{bs:List Bool}{k:Bool}(h:bN K H a (bs.map V.bl)) (q:Q (.int (bs.count k:Nat)) H):AR K (.ref a) [.bl k] H Q:=⟨a,bs,k,rfl,rfl,h,q⟩
theorem CM {K:W.Frag}{H:Hp}{Q:VK}{a:Addr}{bs:List Bool}{k:Bool}(h:bN K H a (bs.map V.bl)) (n:k∈bs) (q:Q (.int (bs.idxOf k:Nat)) H):AO K (.ref a) [.bl k] H Q:=⟨a,bs,k,rfl,rfl,h,n,q⟩
end L2
set_option maxHeartbeats 4000000
local macro_rules | `(tactic| walk_at"rdc")=>`(tactic| first
  | (show (0:Int) < _; omega)
  | (show (0:Int) <= _; omega)
  | (show (0:Int) < _/\_ < 2 ^ 100; omega)
  | (show (-(2 ^ 64) < _/\_ < 2 ^ 64) \/ (-(2 ^ 64) < _/\_ < 2 ^ 64); omega)
  | (show (0:Int) <= _/\_ <= 1000000/\Int.natAbs _ < 2 ^ 64; omega))
local macro_rules | `(tactic| walk_at"rd1")=>`(tactic| first
  | (with_reducible first|refine' L2.Jh (fun _ _=>?_)|refine' L2.Jb (fun _ _=>?_)|refine' L2.NQ ?_) | ((with_reducible refine' L2.ER ?_); (try dsimp only [List.set_cons_zero,List.set_cons_succ])) | (with_reducible first|refine' L2.MO ?_|refine' L2.rd_retN ?_|refine' L2.Kq ?_|refine' L2.Ka ?_|refine' L2.AK (fun _ _ _ _=>?_)|refine' L2.Qo ?_|refine' L2.P4 ?_|refine' L2.U3 ?_) | ((with_reducible refine' L2.Nk ?rdv ?_); (case rdv=>rfl))
  | (with_reducible first|refine' L2.QH ?_|refine' L2.Vo ?_|refine' L2.ML ?_|refine' L2.Mt ?_|refine' L2.Nl ?_|refine' L2.rd_neB ?_|refine' L2.Kl ?_|refine' L2.Ph ?_|refine' L2.NJ ?_|refine' L2.Qz ?_|refine' L2.Mc ?_|refine' L2.Jl ?_|refine' L2.rd_orV ?_|refine' L2.KC ?_|refine' L2.DY ?_|refine' L2.rd_ifE ?_|refine' L2.Nz ?_|refine' L2.Kn ?_|refine' L2.Iw ?_|refine' L2.Qx ?_|refine' L2.Nn ?_|refine' L2.Mi ?_|refine' L2.L1 ?_|refine' L2.OP ?_|refine' L2.IQ ?_) | ((with_reducible refine' L2.OW ?_); (try dsimp only [List.set_cons_zero,List.set_cons_succ])) | ((with_reducible refine' L2.N3 ?rdv ?_); (case rdv=>rfl)) | (with_reducible first|refine' L2.rd_izip ?_|refine' L2.rd_ivals ?_|refine' L2.rd_dget2 ?_|refine' L2.IW ?_|refine' L2.Hw ?_|refine' L2.E8 ?_|refine' L2.rd_sortK ?_|refine' L2.rd_sortLam ?_|refine' L2.rd_orG ?_|refine' L2.rd_isB ?_|refine' L2.KN ?_|refine' L2.Ik ?_|refine' L2.IV ?_|refine' L2.MG ?_|refine' L2.Kg ?_|refine' L2.LP ?_|refine' L2.Hz ?_|refine' L2.rd_idict ?_|refine' L2.KO ?_|refine' L2.Ff ?_|refine' L2.rd_sortLamV ?_|refine' L2.MN ?_|refine' L2.ON ?_|refine' L2.Ob ?_|refine' L2.JK ?_|refine' L2.OU ?_|refine' L2.M6 ?_|refine' L2.IK ?_|refine' L2.G_ ?_|refine' L2.FW ?_|refine' L2.Er ?_|refine' L2.Ju (fun _ _=>?_)|refine' L2.Ih ?_|refine' L2.rd_rng2 ?_|refine' L2.DM ?_|refine' L2.Hx ?_|refine' L2.MK ?_|refine' L2.rd_itup ?_|refine' L2.Ks ?_|refine' L2.LV ?_|refine' L2.rd_inS ?_|refine' L2.MR ?_|refine' L2.Ow ?_|refine' L2.N6 ?_|refine' L2.CW ?_|refine' L2.rd_tF ?_|refine' L2.rd_tfV ?_|refine' L2.rd_izip2 ?_|refine' L2.rd_iseq ?_|refine' L2.rd_rev ?_|refine' L2.rd_ienum ?_|refine' L2.JX ?_)
  | ((with_reducible refine' L2.cL (L2.bN.of ?rdh) ?rde ?_); (case rdh=>assumption); (case rde=>rfl))
  | ((with_reducible refine' L2.JQ ?rdh ?_); (case rdh=>assumption))
  | ((with_reducible refine' L2.IC ?rdh ?_); (case rdh=>assumption))
  | ((with_reducible refine' L2.rd_setL ?rdh ?rde ?_); (case rdh=>assumption); (case rde=>rfl))
  | ((with_reducible refine' L2.NO (L2.oS.of ?rdh) ?rde ?_); (case rdh=>assumption); (case rde=>rfl))
  | ((with_reducible refine' L2.JY (L2.bN.of ?rdh) ?_); (case rdh=>assumption))
  | ((with_reducible refine' L2.S1 ?rdc ?_); (case rdc=>walk_at"rdc"))
  | ((with_reducible refine' L2.KP ?rdt ?_); (case rdt=>assumption); (try dsimp only [List.set_cons_zero,List.set_cons_succ]))
  | (dsimp only; (with_reducible refine' L2.KP ?rdt ?_); (case rdt=>assumption); (try dsimp only [List.set_cons_zero,List.set_cons_succ]))
  | ((with_reducible refine' L2.Ft ?rdt ?_); (case rdt=>assumption); (try dsimp only))
  | (dsimp only; (with_reducible refine' L2.Ft ?rdt ?_); (case rdt=>assumption); (try dsimp only)))
local macro_rules | `(tactic| walk_at"rd")=>`(tactic| repeat walk_at"rd1")
local macro_rules | `(tactic| walk_at"lk")=>`(tactic| first | k_is | ((refine' L2.Ga.mk ?lka ?lkl ?lkc ?lkk); (case lka=>k_is); (case lkl=>k_is); (case lkc=>k_is); (case lkk=>k_is)) | ((refine' L2.NI.mk ?lka ?lkb ?lkl ?lkc ?lkk); (case lka=>k_is); (case lkb=>k_is); (case lkl=>k_is); (case lkc=>k_is); (case lkk=>k_is)) | ((refine' L2.Me.mk ?lka ?lkb ?lkl ?lkc ?lkk); (case lka=>k_is); (case lkb=>k_is); (case lkl=>k_is); (case lkc=>k_is); (case lkk=>k_is)))
theorem L2.zs1:1<=PySem.sizeLine:=by decide
theorem L2.zs2:2<=PySem.sizeLine:=by decide
theorem L2.zs3:3<=PySem.sizeLine:=by decide
theorem L2.zs4:4<=PySem.sizeLine:=by decide
local macro_rules|`(tactic|gn_on)=>`(tactic|exact⟨rfl,rfl,rfl,by z_go,rfl,by z_go,by z_go⟩)
local macro_rules|`(tactic|x_go)=>`(tactic|walk_at"rd")
namespace Law
open PySem PySem.Spec PyProof.Rows L2
abbrev LF:List Str:=["_law_table", "_law_hand", "_law_model", "_law_thing_here"]
abbrev FP:List Str:=["_law_hand", "_law_many"]
abbrev UN:List Str:=["_law_table", "_law_way", "_law_key_here", "_law_thing_here"]
abbrev kg:List Str:=["self"]
abbrev wg:List Str:=["self", "key"]
abbrev Ww:List Str:=["_law_table", "_law_hand", "_law_model", "_law_thing_here", "_law_kept", "_law_odd", "_law_way", "_law_bad", "_law_key_here", "_law_asks", "_law_some", "_law_number", "_law_one"]
abbrev zd:List Str:=["counts", "wide"]
abbrev OA:List Str:=["_law_script", "_law_least", "_law_most"]
abbrev Wz:List Str:=["_law_table", "_law_hand", "_law_model", "_law_thing_here", "_law_some", "_law_key_here", "_law_rooms", "_law_other", "_law_kept", "_law_way"]
abbrev pH:List Str:=["thing"]
abbrev oR:List Str:=["many", "wide"]
abbrev gY:List Str:=["rooms"]
abbrev O1:List Str:=["_law_script", "_law_hand", "_law_crowd", "_law_table", "_law_model", "_law_key_here", "_law_place", "_law_thing_here"]
abbrev oW:List Str:=["keys", "rooms"]
abbrev rH:List Str:=["_law_hand"]
abbrev MU:List Str:=["_law_script", "_law_place", "_law_cells", "_law_at", "_law_digits"]
abbrev yI:List Str:=["things", "wide"]
abbrev Dq:List Str:=["self", "rooms"]
abbrev Cp:List Str:=["self", "wide", "fill"]
abbrev BX:List Str:=["_law_got", "_law_due"]
abbrev OX:List Str:=["_law_hand", "_law_thing_here", "_law_way", "_law_at", "_law_signs", "_law_sign"]
abbrev IL:List Str:=["_law_hand", "_law_thing_here"]
abbrev JP:List Str:=["_law_script", "_law_place"]
abbrev M4:List Str:=["self", "key", "thing"]
abbrev OH:List Str:=["_law_table", "_law_way", "_law_key_here", "_law_thing_here", "_law_e"]
abbrev Qm:List Str:=["_law_hand", "_law_many", "_law_keys_here", "_law_k", "_law_key_here"]
abbrev ym:List Str:=["key", "rooms"]
abbrev OL:List Str:=["_law_hand", "_law_many", "_law_got", "_law_k", "_law_number"]
abbrev CF:List Str:=["count", "fill"]
abbrev Cb:List Str:=["wide", "fill"]
abbrev Cd:List Str:=["key", "thing"]
abbrev B0:List Str:=["keys", "wide"]
abbrev MT:List Str:=["self", "number"]
abbrev Cf:List Str:=["key", "many"]
abbrev Mg:List Str:=["counts", "wide", "many", "most"]
abbrev OQ:List Str:=["_law_hand", "_law_many", "_law_number", "_law_k"]
abbrev NF:List Str:=["keys", "rooms", "told", "key"]
abbrev PU:List Str:=["self", "key", "thing", "ahead", "room", "new"]
abbrev ME:List Str:=["_law_hand", "_law_letters"]
abbrev O6:List Str:=["_law_hand", "_law_far_here", "_law_some"]
abbrev JU:List Str:=["room", "rooms"]
abbrev NV:List Str:=["_law_table"]
abbrev IX:List Str:=["rows", "key"]
abbrev MD:List Str:=["self", "number", "own"]
def top (i:Nat):Stmt:=PySem.Challenge.pw_tailrooms_k37_refused_in_order.main.body.getD i (.Pass ⟨0,0,0,0⟩)
abbrev ly:Stmt:=top 10
abbrev rR:Stmt:=top 11
abbrev jX:Stmt:=top 12
abbrev nR:Stmt:=top 13
abbrev jo:Stmt:=top 15
abbrev ny:Stmt:=top 16
abbrev jE:Stmt:=top 17
abbrev jK:Stmt:=top 19
abbrev vg:Stmt:=top 20
abbrev zX:Stmt:=top 21
abbrev lB:Stmt:=top 22
abbrev nQ:Stmt:=top 23
abbrev kY:Stmt:=top 24
abbrev ju:Stmt:=top 25
abbrev lq:Stmt:=top 27
abbrev gJ:Stmt:=top 28
abbrev iO:Stmt:=top 29
abbrev nK:Stmt:=top 30
abbrev rq:Stmt:=top 31
abbrev l9:Stmt:=top 33
abbrev lW:Stmt:=top 34
abbrev pI:Stmt:=top 35
abbrev j4:Stmt:=top 37
abbrev jS:Stmt:=top 41
abbrev eK:Stmt:=inClass (top 42) 0
abbrev jG:Stmt:=inClass (top 42) 1
abbrev iE:Stmt:=inClass (top 42) 2
abbrev iM:Stmt:=inClass (top 42) 3
abbrev gu:Stmt:=inClass (top 42) 4
abbrev gF:Stmt:=inClass (top 42) 5
abbrev gG:Stmt:=inClass (top 42) 6
abbrev e_:Stmt:=inClass (top 42) 7
abbrev fC:Stmt:=inClass (top 42) 8
abbrev gr:Stmt:=inClass (top 42) 9
abbrev e9:Stmt:=inClass (top 42) 10
abbrev cZ:Stmt:=inClass (top 42) 12
abbrev dw:Stmt:=inClass (top 42) 13
abbrev dz:Stmt:=inClass (top 42) 14
abbrev gh:Stmt:=top 44
abbrev jw:Stmt:=top 45
abbrev lH:Stmt:=top 46
abbrev iI:Stmt:=top 47
abbrev lI:Stmt:=top 48
abbrev jL:Stmt:=top 49
abbrev fD:Stmt:=top 50
abbrev iB:Stmt:=top 51
abbrev gH:Stmt:=top 52
abbrev fW:Stmt:=top 53
abbrev eG:Stmt:=top 54
abbrev iR:Stmt:=top 55
abbrev jn:Stmt:=top 56
abbrev iP:Stmt:=top 57
abbrev fY:Stmt:=top 58
abbrev jx:Stmt:=top 59
abbrev l5:Stmt:=top 60
theorem xZ:aB pH pH (aq ly):=by gn_on
theorem BI:aB pH pH (aq rR):=by gn_on
theorem yj:aB pH pH (aq jX):=by gn_on
theorem zI:aB pH pH (aq nR):=by gn_on
theorem vh:aB Cb Cb (aq jo):=by gn_on
theorem yq:aB ["key"] ["key"] (aq ny):=by gn_on
theorem vF:aB Cd Cd (aq jE):=by gn_on
theorem uY:aB Cf Cf (aq jK):=by gn_on
theorem DZ:aB gY gY (aq vg):=by gn_on
theorem J8:aB gY gY (aq zX):=by gn_on
theorem oE:aB ["room", "rooms", "deep"] JU (aq lB):=by gn_on
theorem Aq:aB ym ym (aq nQ):=by gn_on
theorem xO:aB gY gY (aq kY):=by gn_on
theorem mY:aB ["rooms", "room"] gY (aq ju):=by gn_on
theorem wj:aB oR oR (aq lq):=by gn_on
theorem qL:aB oR oR (aq gJ):=by gn_on
theorem xA:aB yI yI (aq iO):=by gn_on
theorem Af:aB B0 B0 (aq nK):=by gn_on
theorem j0:aB ["rows", "key", "looks", "row"] IX (aq rq):=by gn_on
theorem nO:aB NF oW (aq l9):=by gn_on
theorem Bw:aB oW oW (aq lW):=by gn_on
theorem Dk:aB zd zd (aq pI):=by gn_on
theorem k_:aB Mg zd (aq j4):=by gn_on
theorem vV:aB CF CF (aq jS):=by gn_on
theorem l_:aB Cp Cp (aq eK):=by gn_on
theorem fG:aB PU M4 (aq jG):=by gn_on
theorem eT:aB ["self", "key", "ahead", "room", "into"] wg (aq iE):=by gn_on
theorem tL:aB wg wg (aq iM):=by gn_on
theorem fX:aB ["self", "key", "rooms", "own"] wg (aq gu):=by gn_on
theorem qd:aB kg kg (aq gF):=by gn_on
theorem rO:aB kg kg (aq gG):=by gn_on
theorem nG:aB kg kg (aq e_):=by gn_on
theorem kG:aB MD MT (aq fC):=by gn_on
theorem rS:aB kg kg (aq gr):=by gn_on
theorem n_:aB kg kg (aq e9):=by gn_on
theorem iY:aB wg wg (aq cZ):=by gn_on
theorem jD:aB Dq Dq (aq dw):=by gn_on
theorem jP:aB kg kg (aq dz):=by gn_on
theorem dm:aB MU JP (aq gh):=by gn_on
theorem dh:aB OL FP (aq jw):=by gn_on
theorem gn:aB OQ FP (aq lH):=by gn_on
theorem eX:aB ["_law_many", "_law_number", "_law_k"] ["_law_many"] (aq iI):=by gn_on
theorem jT:aB ["_law_hand", "_law_way", "_law_low"] rH (aq lI):=by gn_on
theorem dX:aB Qm FP (aq jL):=by gn_on
theorem kO:aB ME rH (aq fD):=by gn_on
theorem ku:aB ["_law_table", "_law_rooms"] NV (aq iB):=by gn_on
theorem qF:aB OA OA (aq gH):=by gn_on
theorem fj:aB O6 rH (aq fW):=by gn_on
theorem cD:aB OX IL (aq eG):=by gn_on
theorem gz:aB ["_law_e", "_law_kinds_here"] ["_law_e"] (aq iR):=by gn_on
theorem mH:aB OH UN (aq jn):=by gn_on
theorem rX:aB BX BX (aq iP):=by gn_on
theorem aP:aB Ww LF (aq fY):=by gn_on
theorem cB:aB Wz LF (aq jx):=by gn_on
theorem fT:aB O1 ["_law_script"] (aq l5):=by gn_on
theorem w9 (x0:V):start pH [x0]=[some x0]:=rfl
theorem CJ (x0:V):start pH [x0]=[some x0]:=rfl
theorem yr (x0:V):start pH [x0]=[some x0]:=rfl
theorem zN (x0:V):start pH [x0]=[some x0]:=rfl
theorem uO (x0 x1:V):start Cb [x0,x1]=[some x0,some x1]:=rfl
theorem yE (x0:V):start ["key"] [x0]=[some x0]:=rfl
theorem vp (x0 x1:V):start Cd [x0,x1]=[some x0,some x1]:=rfl
theorem uK (x0 x1:V):start Cf [x0,x1]=[some x0,some x1]:=rfl
theorem Dw (x0:V):start gY [x0]=[some x0]:=rfl
theorem Iv (x0:V):start gY [x0]=[some x0]:=rfl
theorem ya (x0 x1:V):start ["room", "rooms", "deep"] [x0,x1]=[some x0,some x1,none]:=rfl
theorem Ak (x0 x1:V):start ym [x0,x1]=[some x0,some x1]:=rfl
theorem xw (x0:V):start gY [x0]=[some x0]:=rfl
theorem vH (x0:V):start ["rooms", "room"] [x0]=[some x0,none]:=rfl
theorem wJ (x0 x1:V):start oR [x0,x1]=[some x0,some x1]:=rfl
theorem rP (x0 x1:V):start oR [x0,x1]=[some x0,some x1]:=rfl
theorem wR (x0 x1:V):start yI [x0,x1]=[some x0,some x1]:=rfl
theorem yC (x0 x1:V):start B0 [x0,x1]=[some x0,some x1]:=rfl
theorem B9 (x0 x1:V):start ["rows", "key", "looks", "row"] [x0,x1]=[some x0,some x1,none,none]:=rfl
theorem B_ (x0 x1:V):start NF [x0,x1]=[some x0,some x1,none,none]:=rfl
theorem BB (x0 x1:V):start oW [x0,x1]=[some x0,some x1]:=rfl
theorem FD (x0 x1:V):start zd [x0,x1]=[some x0,some x1]:=rfl
theorem z7 (x0 x1:V):start Mg [x0,x1]=[some x0,some x1,none,none]:=rfl
theorem vY (x0 x1:V):start CF [x0,x1]=[some x0,some x1]:=rfl
theorem lS (x0 x1 x2:V):start Cp [x0,x1,x2]=[some x0,some x1,some x2]:=rfl
theorem uP (x0 x1 x2:V):start PU [x0,x1,x2]=[some x0,some x1,some x2,none,none,none]:=rfl
theorem tG (x0 x1:V):start ["self", "key", "ahead", "room", "into"] [x0,x1]=[some x0,some x1,none,none,none]:=rfl
theorem rY (x0 x1:V):start wg [x0,x1]=[some x0,some x1]:=rfl
theorem rV (x0 x1:V):start ["self", "key", "rooms", "own"] [x0,x1]=[some x0,some x1,none,none]:=rfl
theorem qy (x0:V):start kg [x0]=[some x0]:=rfl
theorem pT (x0:V):start kg [x0]=[some x0]:=rfl
theorem nF (x0:V):start kg [x0]=[some x0]:=rfl
theorem sU (x0 x1:V):start MD [x0,x1]=[some x0,some x1,none]:=rfl
theorem qI (x0:V):start kg [x0]=[some x0]:=rfl
theorem nh (x0:V):start kg [x0]=[some x0]:=rfl
theorem iW (x0 x1:V):start wg [x0,x1]=[some x0,some x1]:=rfl
theorem jH (x0 x1:V):start Dq [x0,x1]=[some x0,some x1]:=rfl
theorem jI (x0:V):start kg [x0]=[some x0]:=rfl
theorem vN (x0 x1:V):start MU [x0,x1]=[some x0,some x1,none,none,none]:=rfl
theorem vU (x0 x1:V):start OL [x0,x1]=[some x0,some x1,none,none,none]:=rfl
theorem wz (x0 x1:V):start OQ [x0,x1]=[some x0,some x1,none,none]:=rfl
theorem sX (x0:V):start ["_law_many", "_law_number", "_law_k"] [x0]=[some x0,none,none]:=rfl
theorem wI (x0:V):start ["_law_hand", "_law_way", "_law_low"] [x0]=[some x0,none,none]:=rfl
theorem vd (x0 x1:V):start Qm [x0,x1]=[some x0,some x1,none,none,none]:=rfl
theorem s_ (x0:V):start ME [x0]=[some x0,none]:=rfl
theorem se (x0:V):start ["_law_table", "_law_rooms"] [x0]=[some x0,none]:=rfl
theorem qf (x0 x1 x2:V):start OA [x0,x1,x2]=[some x0,some x1,some x2]:=rfl
theorem oY (x0:V):start O6 [x0]=[some x0,none,none]:=rfl
theorem m8 (x0 x1:V):start OX [x0,x1]=[some x0,some x1,none,none,none,none]:=rfl
theorem sW (x0:V):start ["_law_e", "_law_kinds_here"] [x0]=[some x0,none]:=rfl
theorem wc (x0 x1 x2 x3:V):start OH [x0,x1,x2,x3]=[some x0,some x1,some x2,some x3,none]:=rfl
theorem sD (x0 x1:V):start BX [x0,x1]=[some x0,some x1]:=rfl
theorem oM (x0 x1 x2 x3:V):start Ww [x0,x1,x2,x3]=[some x0,some x1,some x2,some x3,none,none,none,none,none,none,none,none,none]:=rfl
theorem uL (x0 x1 x2 x3:V):start Wz [x0,x1,x2,x3]=[some x0,some x1,some x2,some x3,none,none,none,none,none,none]:=rfl
theorem N5 (x0:V):start O1 [x0]=[some x0,none,none,none,none,none,none,none]:=rfl
structure Bl (mg:Str->Option Value):Prop where
 isinstance:mg "isinstance" = none
 int:mg "int" = none
 bool:mg "bool" = none
 str:mg "str" = none
 all:mg "all" = none
 len:mg "len" = none
 max:mg "max" = none
 range:mg "range" = none
 sorted:mg "sorted" = none
 sum:mg "sum" = none
 list:mg "list" = none
 abs:mg "abs" = none
 min:mg "min" = none
 ValueError:mg "ValueError" = none
 c_MOST_KEYS:∃t,mg "MOST_KEYS" = some (.int 64 t)
structure bx (K:W.Frag) (mg:Str->Option Value) (CT:Addr):Prop where
 cl:xy K CT
 n_wide:fS K CT "wide"
 n_fill:fS K CT "fill"
 n_held:fS K CT "held"
 mg:mg "Table" = some (.ref CT)
structure Hand (H:Hp) (p:Addr) (N:Nat):Prop where
 ex:∃(l:Addr) (d c:Int) (ns:List Int),H p=some (.lst [.int d,.int c,.ref l])/\H l=some (.lst (ns.map V.int))/\0<=c/\c<=N/\ns ≠ []
theorem Hand.mono {H:Hp}{p:Addr}{N M:Nat}(h:Hand H p N) (hm:N<=M):Hand H p M:=by
 obtain⟨l,d,c,ns,h1,h2,h3,h4,h5⟩:=h.ex
 exact⟨l,d,c,ns,h1,h2,h3,by omega,h5⟩
def cellsOf (H:Hp) (p:Addr):Option Addr:=match H p with
 | some (.lst [_,_,.ref l])=>some l
 | _=>none
theorem g_ {H:Hp}{p l:Addr}{a b:V}(h:H p=some (.lst [a,b,.ref l])):cellsOf H p=some l:=by unfold cellsOf;rw[h]
def Kp (H H':Hp) (p:Addr):Prop:=(∀b o,H b=some o->b≠p->H' b=some o)/\cellsOf H' p=cellsOf H p
theorem Kp.refl (H:Hp) (p:Addr):Kp H H p:=⟨fun _ _ h _=>h,rfl⟩
theorem Kp.trans {H H1 H2:Hp}{p:Addr}(a:Kp H H1 p) (b:Kp H1 H2 p):Kp H H2 p:=⟨fun c o h n=>b.1 c o (a.1 c o h n) n,b.2.trans a.2⟩
theorem Kp.hand {H:Hp}{p l:Addr}{a b a' b':V}(h:H p=some (.lst [a,b,.ref l])):Kp H (upd H p (.lst [a',b',.ref l])) p :=
 ⟨fun b u h n=>by rw[az n];exact h,by rw[g_ aA,g_ h]⟩
theorem Kp.of {H H':Hp}{p:Addr}{N:Nat}(h:aM H H') (hh:Hand H p N):Kp H H' p:=by
 obtain⟨l,d,c,ns,h1,_⟩:=hh.ex
 exact⟨fun b o q _=>h b o q,by rw[g_ h1,g_ (h _ _ h1)]⟩
theorem Kp.new {H H1 H2:Hp}{p:Addr}(a:aM H H1) (n:H p=none) (b:Kp H1 H2 p):aM H H2:=fun c o h=>b.1 c o (a c o h) (ay h n)
theorem Hand.upd {H:Hp}{p c:Addr}{N:Nat}{o:HO}(h:Hand H p N) (n:c≠p) (nl:cellsOf H p≠some c):Hand (L2.upd H c o) p N:=by
 obtain⟨l,d,k,ns,h1,h2,r⟩:=h.ex
 have ne:l≠c:=fun z=>nl (by rw[g_ h1,z])
 exact⟨l,d,k,ns,by rw[az n.symm];exact h1,by rw[az ne];exact h2,r⟩
theorem Cz {H:Hp}{p c:Addr}{N:Nat}(h:Hand H p N) (n:H c=none):cellsOf H p≠some c:=by
 obtain⟨l,d,k,ns,h1,h2,r⟩:=h.ex
 rw[g_ h1]
 intro z
 exact ay h2 n (Option.some.inj z)
theorem Cg {H:Hp}{p c:Addr}{o:HO}(n:c≠p):cellsOf (L2.upd H c o) p=cellsOf H p:=by unfold cellsOf;rw[az n.symm]
theorem Hand.same {H H':Hp}{p:Addr}{N:Nat}(h:Hand H p N) (s:aM H H'):Hand H' p N:=by
 obtain⟨l,d,c,ns,h1,h2,r⟩:=h.ex
 exact⟨l,d,c,ns,s _ _ h1,s _ _ h2,r⟩
theorem KZ {ns:List Int}(h:ns ≠ []) (k:Int):∃v,sZ (ns.map V.int) (k%((ns.map V.int).length:Int))=some (.int v):=by
 have hl:0<ns.length:=List.length_pos_iff.mpr h
 rw[List.length_map]
 have h0:0<=k%(ns.length:Int):=Int.emod_nonneg _ (by omega)
 have h1:k%(ns.length:Int)<ns.length:=Int.emod_lt_of_pos _ (by omega)
 have ek:k%(ns.length:Int) =(((k%(ns.length:Int)).toNat:Nat):Int):=by omega
 have hk:(k%(ns.length:Int)).toNat<ns.length:=by omega
 obtain⟨j,hj⟩ : ∃j:Nat,k%(ns.length:Int) =(j:Int):=⟨_,ek⟩
 have hk2:j<ns.length:=by omega
 refine⟨ns[j],?_⟩
 rw[hj]
 exact fE (by rw[List.getElem?_map,List.getElem?_eq_getElem hk2] <;> rfl)
theorem Ig {H:Hp}{p l:Addr}{d c:Int}{ns:List Int}(hp:H p=some (.lst [.int d,.int c,.ref l])) (hl:H l=some (.lst (ns.map V.int))):l≠p:=by
 refine cX hl hp fun z=>?_
 injection z with z
 have q:=congrArg (fun x=>x[2]?) z
 rw[List.getElem?_map]at q
 cases e:ns[2]? with
 | none=>rw[e]at q;cases q
 | some v=>rw[e]at q;cases q
theorem len_pos {ns:List Int}(h:ns ≠ []):(0:Int) <((ns.map V.int).length:Int):=by
 rw[List.length_map]
 have:=List.length_pos_iff.mpr h
 omega
theorem h_ (a:Nat):(2:Int)^a =((2^a:Nat):Int):=by
 induction a with
 | zero=>rfl
 | succ a ih=>rw[Int.pow_succ,Nat.pow_succ,ih];push_cast;rfl
theorem Kv {a b:Nat}(h:a<=b):(2:Int)^a<=2^b:=by
 rw[h_,h_]
 exact Int.ofNat_le.mpr (Nat.pow_le_pow_right (by decide) h)
theorem qT (a:Nat):(0:Int)<2^a:=by
 rw[h_]
 have:=Nat.two_pow_pos a
 omega
theorem bu {H1 H2:Hp}{l:Addr}{o:HO}(n:H1 l=none) (e:L2.upd H1 l o=H2):H2 l=some o/\aM H1 H2:=by
 subst e;exact⟨aA,aT n _⟩
theorem BP {H H1 H2:Hp}{p l:Addr}{N:Nat}{o:HO}(hh:Hand H1 p N) (n:H1 l=none) (k:Kp H H1 p) (e:L2.upd H1 l o=H2):Hand H2 p N/\Kp H H2 p/\H2 l=some o/\aM H1 H2:=by
 subst e;exact⟨hh.same (aT n _),k.trans (Kp.of (aT n _) hh),aA,aT n _⟩
theorem Hand.ne {H:Hp}{p l:Addr}{N:Nat}(hh:Hand H p N) (n:H l=none):l≠p:=by
 obtain⟨l1,d,c,ns,h1,_⟩:=hh.ex
 exact(ay h1 n).symm
structure CK (H0:Hp) (p D:Addr) (N:Nat) (ys:List V) (H':Hp):Prop where
 hh:Hand H' p N
 lat:H' D=some (.lst ys)
 kp:Kp H0 H' p
 n0:H0 D=none
 np:D≠p
 nc:cellsOf H0 p≠some D
theorem CK.start {H0:Hp}{p D:Addr}{N:Nat}(hh:Hand H0 p N) (n:H0 D=none) {ys:List V}:CK H0 p D N ys (L2.upd H0 D (.lst ys)) where
 hh:=hh.same (aT n _)
 lat:=aA
 kp:=Kp.of (aT n _) hh
 n0:=n
 np:=by
  obtain⟨l1,d,c,ns,h1,_⟩:=hh.ex
  exact(ay h1 n).symm
 nc:=Cz hh n
theorem CK.draw {H0 H' H2:Hp}{p D:Addr}{N M:Nat}{ys:List V}(c:CK H0 p D N ys H') (k:Kp H' H2 p) (hh:Hand H2 p M):CK H0 p D M ys H2 :=
 ⟨hh,k.1 _ _ c.lat c.np,c.kp.trans k,c.n0,c.np,c.nc⟩
theorem CK.push {H0 H':Hp}{p D:Addr}{N:Nat}{ys zs:List V}(c:CK H0 p D N ys H'):CK H0 p D N zs (L2.upd H' D (.lst zs)) where
 hh:=c.hh.upd c.np (by rw[c.kp.2];exact c.nc)
 lat:=aA
 kp:=⟨fun b o h n=>by rw[az (ay h c.n0)];exact c.kp.1 _ _ h n,by rw[Cg c.np];exact c.kp.2⟩
 n0:=c.n0
 np:=c.np
 nc:=c.nc
theorem CK.new {H0 H' H2:Hp}{p D l:Addr}{N:Nat}{ys:List V}{o:HO}(c:CK H0 p D N ys H') (n:H' l=none) (e:L2.upd H' l o=H2):CK H0 p D N ys H2/\H2 l=some o/\l≠p/\l≠D:=by
 subst e
 exact⟨⟨c.hh.same (aT n _),aT n _ _ _ c.lat,c.kp.trans (Kp.of (aT n _) c.hh),c.n0,c.np,c.nc⟩,aA,c.hh.ne n,(ay c.lat n).symm⟩
def vm (K:W.Frag):Sp:=fun vs H Q _=>∃(p:Addr) (N:Nat) (n:Int),vs=[.ref p,.int n]/\Hand H p N/\N<2^60/\0<n/\n<2^100 /\
 ∀(r:Int) (H':Hp),0<=r->r<n->Hand H' p (N+1)->Kp H H' p->Q (.int r) H'
def oi (K:W.Frag):Sp:=fun vs H Q _=>∃(p:Addr) (N:Nat) (n:Int),vs=[.ref p,.int n]/\Hand H p N/\N+10<2^60/\0<n/\n<2^100 /\
 ∀(r:Int) (H':Hp),0<=r->r<n->Hand H' p (N+7)->Kp H H' p->Q (.int r) H'
def kT (K:W.Frag):Sp:=fun vs H Q _=>∃(m:Nat),vs=[.int m]/\m<=1000/\Q (.int (2^m)) H
def mV (K:W.Frag):Sp:=fun vs H Q _=>∃(a:Addr) (ns:List Int) (pl:Int),vs=[.ref a,.int pl]/\bN K H a (ns.map V.int)/\ns.length<=63/\0<=pl/\pl<=1000 /\
 ∀(p:Addr) (H':Hp),H p=none->aM H H'->Hand H' p 1100000->Q (.ref p) H'
def xT (K:W.Frag):Sp:=fun vs H Q _=>∃(p:Addr) (N:Nat),vs=[.ref p]/\Hand H p N/\N+30<2^60 /\
 ∀(r:Int) (H':Hp),0<=r->r<2^60->Hand H' p (N+20)->Kp H H' p->Q (.int r) H'
def uW (K:W.Frag):Sp:=fun vs H Q _=>∃(a:Addr) (ns:List Int),vs=[.ref a]/\bN K H a (ns.map V.int)/\ns.length<=63/\∀H',Q (.bl true) H'
theorem sub_len:∀{L K:List Int},L.Nodup->(∀x∈L,x∈K)->L.length<=K.length
 | [],_,_,_=>Nat.zero_le _
 | a::L,K,hn,hs=>by
  rw[List.nodup_cons]at hn
  have ha:=hs a List.mem_cons_self
  have ih:=sub_len (L:=L) (K:=K.erase a) hn.2 fun x hx=>by
   have:x≠a:=fun e=>hn.1 (e ▸ hx)
   exact(List.mem_erase_of_ne this).mpr (hs x (List.mem_cons_of_mem _ hx))
  rw[List.length_erase_of_mem ha]at ih
  have:=List.length_pos_of_mem ha
  rw[List.length_cons];omega
theorem p8 {ks:List Int}(hl:ks.length<1000) (v:Int):∃m:Nat,(v+m)%1152921504606846976∉ks:=by
 by_cases c:∃m:Nat,(v+m)%1152921504606846976∉ks
 ·exact c
 ·have all:∀m:Nat,(v+m)%1152921504606846976∈ks:=fun m=>Classical.not_not.mp fun z=>c ⟨m,z⟩
  have hn:((List.range (ks.length+1)).map fun(j:Nat)=>(v+j)%1152921504606846976).Nodup:=by
   rw[List.nodup_iff_pairwise_ne,List.pairwise_map]
   refine List.Pairwise.imp_of_mem ?_ List.nodup_range
   intro a b ha hb hab e
   have h1:=List.mem_range.mp ha
   have h2:=List.mem_range.mp hb
   omega
  have:=sub_len hn (fun x hx=>by
   obtain⟨j,_,rfl⟩:=List.mem_map.mp hx
   exact all j)
  rw[List.length_map,List.length_range]at this
  omega
def mh (K:W.Frag):Sp:=fun vs H Q _=>∃(p:Addr) (N:Nat) (n:Int),vs=[.ref p,.int n]/\Hand H p N/\N+5000<2^60/\0<=n/\n<=125 /\
 ∀(l:Addr) (ns:List Int) (H':Hp),H l=none->H' l=some (.lst (ns.map V.int))->ns.Nodup->(ns.length:Int)=n->(∀k∈ns,0<=k/\k<1152921504606846976)->Hand H' p (N+3000)->Kp H H' p->Q (.ref l) H'
def lg (R:Int):Nat:=R.toNat.log2
theorem PN {R:Int}(h:1<=R):(2:Int)^lg R<=R:=by
 have h1:R.toNat≠0:=by omega
 have h2:=Nat.log2_self_le h1
 rw[h_]
 unfold lg
 omega
theorem OG {R:Int}(h:1<=R):R <(2:Int)^(lg R+1):=by
 have h1:R.toNat≠0:=by omega
 have h2:=(Nat.log2_lt h1).mp (Nat.lt_succ_self R.toNat.log2)
 rw[h_]
 unfold lg
 have h3:R.toNat<2^(R.toNat.log2+1):=h2
 omega
theorem Ec {R:Int}(h:1<=R) (h2:R<=2^60):lg R<=60:=by
 have h1:R.toNat≠0:=by omega
 have h3:R.toNat.log2<61:=(Nat.log2_lt h1).mpr (by omega)
 unfold lg
 omega
theorem Jj {R:Int}(h:1<=R):((Builtin.Int.intBits R:Nat):Int)-1 =(lg R:Int):=by
 unfold Builtin.Int.intBits lg
 have h0:(R == 0)=false:=by
  rw[beq_eq_false_iff_ne];omega
 rw[h0]
 have e:R.natAbs=R.toNat:=by omega
 rw[e]
 simp
def cM (k R:Int):Int:=if R-2^lg R<=k%2^lg R then k%2^lg R else k%2^(lg R+1)
theorem xV {k R:Int}(h:1<=R):0<=cM k R/\cM k R<R:=by
 have p:=qT (lg R)
 have a:=PN h
 have b:=OG h
 rw[Int.pow_succ]at b
 unfold cM
 rw[Int.pow_succ]
 generalize (2:Int)^lg R=w at p a b ⊢
 have m0:=Int.emod_nonneg k (show w≠0 by omega)
 have m1:=Int.emod_lt_of_pos k p
 have d0:=Int.emod_nonneg k (show w*2≠0 by omega)
 have d1:=Int.emod_lt_of_pos k (show(0:Int)<w*2 by omega)
 have e:k%(w*2)%w=k%w:=Int.emod_emod_of_dvd k ⟨2,rfl⟩
 split
 ·omega
 ·rename_i hn
  refine⟨d0,?_⟩
  by_cases c:k%(w*2)<w
  ·rw[Int.emod_eq_of_lt d0 c]at e;omega
  ·have e2:k%(w*2)%w=k%(w*2)-w:=by
    have:k%(w*2) =(k%(w*2)-w)+w:=by omega
    rw[this,Int.add_emod_right,Int.emod_eq_of_lt (by omega) (by omega)]
    omega
   omega
def lX (K:W.Frag):Sp:=fun vs H Q _=>∃(k:Int) (m:Nat),vs=[.int k,.int m]/\m<=100/\Q (.int (k%2^m)) H
def D6 (K:W.Frag):Sp:=fun vs H Q _=>∃(R:Int),vs=[.int R]/\1<=R/\Q (.int (lg R)) H
def Ja (K:W.Frag):Sp:=fun vs H Q _=>∃(R:Int),vs=[.int R]/\1<=R/\R<=2^60/\Q (.int (R-2^lg R)) H
def oA (r R:Int):Nat:=if R-2^lg R<=r/\r<2^lg R then lg R else lg R+1
theorem z_ {k R:Int}:k%2^oA (k%2^lg R) R=cM k R:=by
 have lt:=Int.emod_lt_of_pos k (qT (lg R))
 unfold oA cM
 by_cases c:R-2^lg R<=k%2^lg R
 ·rw[if_pos ⟨c,lt⟩,if_pos c]
 ·rw[if_neg (fun z=>c z.1),if_neg c]
def oq (K:W.Frag):Sp:=fun vs H Q _=>∃(r R:Int),vs=[.int r,.int R]/\1<=R/\R<=2^60/\Q (.int (oA r R)) H
def lF (K:W.Frag):Sp:=fun vs H Q _=>∃(k R:Int),vs=[.int k,.int R]/\1<=R/\R<=2^60/\Q (.int (cM k R)) H
def oz (K:W.Frag):Sp:=fun vs H Q _=>∃(R:Int),vs=[.int R]/\1<=R/\R<=2^60/\∀p,H p=none->Q (.ref p) (upd H p (.tup [.int (R-2^lg R),.int R]))
theorem qQ {m w g:Int}(hw:1<=w) (hm:0<=m) (hg:g=max 1 ((m+w-1) / w)):1<=g/\m<=w*g/\(g=1\/w*(g-1)<m):=by
 have h1:=Int.emod_add_mul_ediv (m+w-1) w
 have h2:=Int.emod_nonneg (m+w-1) (show w≠0 by omega)
 have h3:=Int.emod_lt_of_pos (m+w-1) (show 0<w by omega)
 generalize (m+w-1) / w=q at h1 hg
 generalize (m+w-1)%w=r at h1 h2 h3
 have e:w*(g-1)=w*g-w:=by rw[Int.mul_sub,Int.mul_one]
 refine⟨by omega,?_,?_⟩
 ·by_cases c:1<=q
  ·have:g=q:=by omega
   rw[this];omega
  ·have:g=1:=by omega
   rw[this,Int.mul_one]
   have:w*q<=0:=Int.mul_nonpos_of_nonneg_of_nonpos (by omega) (by omega)
   omega
 ·by_cases c:2<=q
  ·right
   have:g=q:=by omega
   rw[e,this];omega
  ·left;omega
def cV (m w:Int):Int:=max 1 ((m+w-1) / w)
theorem Ib {xs:List V}{a b:Nat}(h:a<=b):lQ xs (some (a:Int)) (some (b:Int)) =(xs.drop a).take (b-a):=by
 unfold lQ
 rw[HT.sIx_nat,HT.sIx_nat]
 by_cases c:a<=xs.length
 ·rw[Nat.min_eq_left c]
  by_cases d:b<=xs.length
  ·rw[Nat.min_eq_left d]
  ·rw[Nat.min_eq_right (by omega),List.take_of_length_le (by rw[List.length_drop];omega),List.take_of_length_le (by rw[List.length_drop];omega)]
 ·rw[List.drop_eq_nil_of_le (by omega),List.drop_eq_nil_of_le (by omega)]
  simp
def Ls (H:Hp):List Addr->List (List Int)->Prop
 | [],[]=>True
 | a::as,r::rs=>H a=some (.lst (r.map V.int))/\Ls H as rs
 | _,_=>False
theorem Ls.same {H H':Hp}:∀{as:List Addr}{rs:List (List Int)},(∀a∈as,∀o,H a=some o->H' a=some o)->Ls H as rs->Ls H' as rs
 | [],[],_,_=>trivial
 | a::_,_::_,s,⟨h,t⟩=>⟨s a List.mem_cons_self _ h,Ls.same (fun b hb=>s b (List.mem_cons_of_mem _ hb)) t⟩
theorem Ls.len {H:Hp}:∀{as:List Addr}{rs:List (List Int)},Ls H as rs->as.length=rs.length
 | [],[],_=>rfl
 | _::_,_::_,⟨_,t⟩=>congrArg (· + 1) (Ls.len t)
theorem Ls.snoc {H:Hp}{a:Addr}{r:List Int}(hb:H a=some (.lst (r.map V.int))):∀{as:List Addr}{rs:List (List Int)},Ls H as rs->Ls H (as ++ [a]) (rs ++ [r])
 | [],[],_=>⟨hb,trivial⟩
 | _::_,_::_,⟨h,t⟩=>⟨h,Ls.snoc hb t⟩
theorem Ls.get {H:Hp}:∀{as:List Addr}{rs:List (List Int)}{i:Nat}{a:Addr},Ls H as rs->as[i]? = some a->∃r,rs[i]? = some r/\H a=some (.lst (r.map V.int))
 | [],[],_,_,_,e=>by cases e
 | _::_,r::_,0,_,⟨h,_⟩,e=>by cases e;exact⟨r,rfl,h⟩
 | _::_,_::_,i+1,_,⟨_,t⟩,e=>Ls.get (i:=i) t e
def w6 (K:W.Frag):Sp:=fun vs H Q _=>∃(m w:Int),vs=[.int m,.int w]/\1<=w/\w<=8/\Q (.int (cV m w)) H
def lN (ms:List V) (w n:Nat):List (List V):=(List.range n).map fun i=>(ms.drop (i*w)).take w
theorem wo (ms:List V) (w n:Nat):lN ms w (n+1)=lN ms w n ++ [(ms.drop (n*w)).take w]:=by
 unfold lN;rw[List.range_succ,List.map_append];rfl
theorem iL (ms:List V) (w n:Nat):(lN ms w n).length=n:=by unfold lN;rw[List.length_map,List.length_range]
def iz (ms:List V) (w:Nat):List (List V):=lN ms w (cV ms.length w).toNat
def DX (H0 H:Hp) (l:Addr) (X:List (List V)):Prop:=∃as:List Addr,H l=some (.lst (as.map V.ref))/\as.length=X.length/\(∀(i:Nat) (a:Addr) (es:List V),as[i]? = some a->X[i]? = some es->H a=some (.lst es))/\as.Nodup/\∀a∈as,H0 a=none/\a≠l
def yg (K:W.Frag):Sp:=fun vs H Q _=>∃(a:Addr) (ms:List V) (w:Nat),vs=[.ref a,.int w]/\H a=some (.lst ms)/\ms.length<=200/\1<=w/\w<=8 /\
 ∀l H',H l=none->DX H H' l (iz ms w)->aM H H'->Q (.ref l) H'
theorem rK {as:List Addr}{i:Nat}{x:V}(hx:(as.map V.ref)[i]? = some x):∃a,as[i]? = some a/\x = .ref a:=by
 rw[List.getElem?_map]at hx
 cases e:as[i]? with
 | none=>rw[e]at hx;cases hx
 | some a=>rw[e]at hx;exact⟨a,rfl,(Option.some.inj hx).symm⟩
theorem ints_get {ns:List Int}{i:Nat}{x:V}(hx:(ns.map V.int)[i]? = some x):∃z,ns[i]? = some z/\x = .int z:=by
 rw[List.getElem?_map]at hx
 cases e:ns[i]? with
 | none=>rw[e]at hx;cases hx
 | some a=>rw[e]at hx;exact⟨a,rfl,(Option.some.inj hx).symm⟩
theorem FQ {α:Type}{xs:List α}{i:Nat}{x:α}(h:xs[i]? = some x):xs.drop i=x::xs.drop (i+1):=by
 obtain⟨hi,e⟩:=List.getElem?_eq_some_iff.mp h
 rw[List.drop_eq_getElem_cons hi,e]
theorem lU {α:Type}{xs:List α}{i:Nat}{x:α}(h:xs[i]? = some x):xs.take (i+1)=xs.take i ++ [x]:=by
 obtain⟨hi,e⟩:=List.getElem?_eq_some_iff.mp h
 rw[List.take_succ_eq_append_getElem hi,e]
theorem mZ {as:List Addr}{i:Nat}{a:Addr}(h:as[i]? = some a):sZ (as.map V.ref) (i:Int)=some (.ref a) :=
 fE (by rw[List.getElem?_map,h];rfl)
theorem El {ns:List Int}{i:Nat}{z:Int}(h:ns[i]? = some z):sZ (ns.map V.int) (i:Int)=some (.int z) :=
 fE (by rw[List.getElem?_map,h];rfl)
theorem Ls.mem {H:Hp}:∀{as:List Addr}{rs:List (List Int)}{a:Addr},Ls H as rs->a∈as->∃r,r∈rs/\H a=some (.lst (r.map V.int))
 | [],[],_,_,h=>by cases h
 | b::as,r::rs,a,⟨h,t⟩,m=>by
  rcases List.mem_cons.mp m with e|m
  ·exact⟨r,List.mem_cons_self,e ▸ h⟩
  ·obtain⟨q,q1,q2⟩:=Ls.mem t m
   exact⟨q,List.mem_cons_of_mem _ q1,q2⟩
def RL (H:Hp) (l:Addr) (rs:List (List Int)):Prop:=∃as:List Addr,H l=some (.lst (as.map V.ref))/\Ls H as rs
theorem eq_nil (ns:List Int):PyData.eqv (.list (ns.map PyData.int)) (.list [])=decide (ns=[]):=by
 have:=pS ns []
 rw[<- this,PyData.eqv];rfl
theorem A6 {K:W.Frag}{H:Hp}{a:Addr}{ns:List Int}(h:H a=some (.lst (ns.map V.int))):DV K H (.ref a) (.list (ns.map PyData.int)):=.lst (bN.of h) (rW.ints ns)
theorem E_ {K:W.Frag}{H:Hp}{a:Addr}(h:H a=some (.lst [])):DV K H (.ref a) (.list []):=.lst (bN.of h) .nil
theorem Iq (r:List Int):decide (r ≠ []) = !(r.map V.int).isEmpty:=by cases r <;> simp
theorem Jp {r:List Int}{y:Int}(h:r.getLast? = some y):sZ (r.map V.int) (-1)=some (.int y):=by
 have hn:r ≠ []:=by intro e;rw[e]at h;cases h
 have hl:=List.length_pos_iff.mpr hn
 have e:Fc (r.map V.int).length (-1)=some (r.length-1):=by
  unfold Fc
  rw[List.length_map,if_neg (by decide),if_pos (by omega)]
  congr 1;omega
 unfold sZ
 rw[e]
 show(r.map V.int)[r.length-1]? = _
 rw[List.getElem?_map,<- List.getLast?_eq_getElem?,h];rfl
theorem Hu {r:List Int}(h:r ≠ []):∃y,r.getLast? = some y:=⟨_,List.getLast?_eq_some_getLast h⟩
def b_ (ms:List Int) (R:Nat):List (List Int):=(List.range R).map fun(r:Nat)=>ms.filter fun k=>decide (cM k R =(r:Int))
theorem bJ (ms:List Int) (R:Nat):(b_ ms R).length=R:=by unfold b_;rw[List.length_map,List.length_range]
theorem c_ {ms:List Int}{R j:Nat}(h:j<R):(b_ ms R)[j]? = some (ms.filter fun k=>decide (cM k R =(j:Int))):=by
 unfold b_
 rw[List.getElem?_map,List.getElem?_range h];rfl
theorem xW (R:Nat):b_ [] R=List.replicate R []:=by
 refine List.ext_getElem? fun i=>?_
 rw[List.getElem?_replicate]
 by_cases h:i<R
 ·rw[c_ h,if_pos h];rfl
 ·rw[if_neg h,List.getElem?_eq_none (by rw[bJ];omega)]
theorem uV {ms:List Int}{R j:Nat}{k:Int}(hj:cM k R =(j:Int)) (h:j<R):b_ (ms ++ [k]) R =(b_ ms R).set j ((ms.filter fun k=>decide (cM k R =(j:Int))) ++ [k]):=by
 refine List.ext_getElem? fun i=>?_
 rw[List.getElem?_set,bJ]
 by_cases hi:i<R
 ·rw[c_ hi,List.filter_append,List.filter_cons]
  by_cases e:j=i
  ·subst e
   rw[if_pos rfl,if_pos hi,if_pos (decide_eq_true hj)];rfl
  ·rw[if_neg e,c_ hi,if_neg (by rw[hj];simp;omega)]
   simp
 ·rw[List.getElem?_eq_none (by rw[bJ];omega)]
  by_cases e:j=i
  ·omega
  ·rw[if_neg e,List.getElem?_eq_none (by rw[bJ];omega)]
theorem Ls.set {H:Hp}{a:Addr}{r:List Int}:∀{as:List Addr}{rs:List (List Int)}{j:Nat},as.Nodup->as[j]? = some a->Ls H as rs->Ls (upd H a (.lst (r.map V.int))) as (rs.set j r)
 | [],_,_,_,h,_=>by simp at h
 | b::as,q::rs,0,hn,h,⟨h1,t⟩=>by
  simp at h;subst h
  rw[List.nodup_cons]at hn
  exact⟨aA,t.same fun c hc o e=>by rw[az (show c≠b from fun z=>hn.1 (by rw[<- z];exact hc))];exact e⟩
 | b::as,q::rs,j+1,hn,h,⟨h1,t⟩=>by
  rw[List.nodup_cons]at hn
  have h':as[j]? = some a:=by simpa using h
  have ne:b≠a:=fun z=>hn.1 (by rw[z];exact List.mem_of_getElem? h')
  exact⟨by rw[az ne];exact h1,Ls.set hn.2 h' t⟩
def LN (H0 H:Hp) (l:Addr) (rs:List (List Int)):Prop:=∃as:List Addr,H l=some (.lst (as.map V.ref))/\Ls H as rs/\as.Nodup/\∀a∈as,H0 a=none/\a≠l
theorem LN.base {H0 H1 H:Hp}{l:Addr}{rs:List (List Int)}(s:aM H0 H1) (h:LN H1 H l rs):LN H0 H l rs:=by
 obtain⟨as,h1,h2,h3,h4⟩:=h
 exact⟨as,h1,h2,h3,fun a ha=>⟨s.free (h4 a ha).1,(h4 a ha).2⟩⟩
theorem Ls.rep {H:Hp}:∀{as:List Addr}{n:Nat},Ls H as (List.replicate n [])->as.length=n:=fun h=>by rw[h.len,List.length_replicate]
def nY (K:W.Frag):Sp:=fun vs H Q _=>∃(a:Addr) (ns:List Int) (R:Nat),vs=[.ref a,.int R]/\H a=some (.lst (ns.map V.int))/\ns.length<=200/\1<=R/\R<=200 /\
 ∀ms l H',ms.Perm ns->ms.Pairwise (· <= ·)->H l=none->LN H H' l (b_ ms R)->aM H H'->Q (.ref l) H'
def tS (K:W.Frag):Sp:=fun vs H Q _=>∃(a:Addr) (ns:List Int) (R:Nat),vs=[.ref a,.int R]/\H a=some (.lst (ns.map V.int))/\ns.length<=200/\1<=R/\R<=200 /\
 ∀ms l H',ms.Perm ns->ms.Pairwise (· <= ·)->H l=none->H' l=some (.lst (((b_ ms R).map fun r=>(r.length:Int)).map V.int))->aM H H'->Q (.ref l) H'
def RG (H:Hp) (l:Addr) (X:List (List V)):Prop:=∃as:List Addr,H l=some (.lst (as.map V.ref))/\as.length=X.length/\∀(i:Nat) (a:Addr) (es:List V),as[i]? = some a->X[i]? = some es->H a=some (.lst es)
def P1 {α:Type}(p:Addr->α->Prop) (as:List Addr) (xs:List α):Prop:=as.length=xs.length/\∀(i:Nat) (a:Addr) (x:α),as[i]? = some a->xs[i]? = some x->p a x
section
variable {α:Type}{p p':Addr->α->Prop}{as bs:List Addr}{xs ys:List α}{a b:Addr}{x y:α}{i:Nat}
theorem P1.imp (f:∀a x,p a x->p' a x) (h:P1 p as xs):P1 p' as xs:=⟨h.1,fun i a x e1 e2=>f a x (h.2 i a x e1 e2)⟩
theorem P1.nil:P1 p [] []:=⟨rfl,fun i a x e=>by simp at e⟩
theorem P1.get (h:P1 p as xs) (e:as[i]? = some a):∃x,xs[i]? = some x/\p a x:=by
 have il:=(List.getElem?_eq_some_iff.mp e).1
 rw[h.1]at il
 exact⟨_,List.getElem?_eq_getElem il,h.2 i a _ e (List.getElem?_eq_getElem il)⟩
theorem P1.app (h:P1 p as xs) (h':P1 p bs ys):P1 p (as++bs) (xs++ys):=by
 refine⟨by rw[List.length_append,List.length_append,h.1,h'.1],fun i a x e1 e2=>?_⟩
 have hl:=h.1
 by_cases z:i<as.length
 ·rw[List.getElem?_append_left z]at e1
  rw[List.getElem?_append_left (by omega)]at e2
  exact h.2 i a x e1 e2
 ·rw[List.getElem?_append_right (by omega)]at e1
  rw[List.getElem?_append_right (by omega),<- hl]at e2
  exact h'.2 _ a x e1 e2
theorem P1.one (hb:p b y):P1 p [b] [y]:=by
 refine⟨rfl,fun i a x e1 e2=>?_⟩
 cases i with
 | zero=>cases e1;cases e2;exact hb
 | succ i=>simp at e1
theorem P1.snoc (h:P1 p as xs) (hb:p b y):P1 p (as ++ [b]) (xs ++ [y]):=h.app (P1.one hb)
theorem P1.tail (h:P1 p (a::as) (x::xs)):p a x/\P1 p as xs:=by
 refine⟨h.2 0 a x rfl rfl,by have:=h.1;simpa using this,fun i b y e1 e2=>h.2 (i+1) b y (by simpa using e1) (by simpa using e2)⟩
end
def GD (K:W.Frag) (H:Hp) (n:Nat) (v:V) (d:PyData):Prop:=DV K H v d/\PyData.canLay0 d=true/\PyData.depth d<=n
def BR (K:W.Frag) (H:Hp) (n:Nat) (vs:List V) (ds:List PyData):Prop:=rW K H vs ds/\PyData.canLayAll0 ds=true/\PyData.depthAll ds<=n
section
variable {K:W.Frag}{H:Hp}{n:Nat}{v:V}{d:PyData}{vs:List V}{ds:List PyData}
theorem BR.nil:BR K H n [] []:=⟨.nil,rfl,by simp[PyData.depthAll]⟩
theorem BR.cons (h:GD K H n v d) (t:BR K H n vs ds):BR K H n (v::vs) (d::ds):=by
 refine⟨.cons h.1 t.1,?_,?_⟩
 ·rw[PyData.canLayAll0,h.2.1,t.2.1];rfl
 ·rw[PyData.depthAll];exact Nat.max_le.mpr ⟨h.2.2,t.2.2⟩
theorem GD.mono {m:Nat}(h:GD K H n v d) (l:n<=m):GD K H m v d:=⟨h.1,h.2.1,Nat.le_trans h.2.2 l⟩
theorem GD.lst {a:Addr}(h:H a=some (.lst vs)) (g:BR K H n vs ds):GD K H (n+1) (.ref a) (.list ds) :=
 ⟨.lst (bN.of h) g.1,by rw[PyData.canLay0];exact g.2.1,by rw[PyData.depth];have:=g.2.2;omega⟩
theorem GD.tup {a:Addr}(h:H a=some (.tup vs)) (g:BR K H n vs ds):GD K H (n+1) (.ref a) (.tuple ds) :=
 ⟨.tup (oS.of h) g.1,by rw[PyData.canLay0];exact g.2.1,by rw[PyData.depth];have:=g.2.2;omega⟩
theorem GD.int (i:Int):GD K H n (.int i) (.int i):=⟨.int i,rfl,by simp[PyData.depth]⟩
theorem GD.str {z:Str}(h:PyData.strOk z=true):GD K H n (.str z) (.str z):=⟨.str z,by rw[PyData.canLay0];exact h,by simp[PyData.depth]⟩
theorem GD.shaped (h:GD K H n v d) (l:n<=64):SeqAt.shaped d=true:=by
 have:=h.2.2
 simp[SeqAt.shaped,h.2.1];omega
theorem GD.refl (h:GD K H n v d):PyData.eqv d d=true:=SeqAt.eqv_refl d h.2.1
theorem Ba {α:Type}{p:Addr->α->Prop}{f:α->PyData}:∀{as:List Addr}{xs:List α},P1 p as xs->(∀a x,x∈xs->p a x->GD K H n (.ref a) (f x))->BR K H n (as.map V.ref) (xs.map f)
 | [],[],_,_=>BR.nil
 | [],_::_,h,_=>by cases h.1
 | _::_,[],h,_=>by cases h.1
 | a::as,x::xs,h,g=>BR.cons (g a x List.mem_cons_self h.tail.1) (Ba h.tail.2 fun a x m=>g a x (List.mem_cons_of_mem _ m))
end
def En (H:Hp) (v:V):Prop:=∃t k z,v = .ref t/\H t=some (.tup [.int k,.str z])/\PyData.strOk z=true/\0<=k/\k<1152921504606846976/\z.length<=100
def dE (H:Hp) (v:V):PyData:=match v with
 | .ref t=>(match H t with
  | some (.tup [.int k,.str z])=>.tuple [.int k,.str z]
  | _=>.none)
 | _=>.none
theorem En.gd {K:W.Frag}{H:Hp}{v:V}(h:En H v):GD K H 1 v (dE H v):=by
 obtain⟨t,k,z,rfl,h1,h2⟩:=h
 have e:dE H (.ref t) = .tuple [.int k,.str z]:=by
  show(match H t with|some (.tup [.int k,.str z])=>PyData.tuple [.int k,.str z] | _=>.none)=_
  rw[h1]
 rw[e]
 exact GD.tup h1 (.cons (.int _) (.cons (.str h2.1) .nil))
theorem pQ {K:W.Frag}{H:Hp}:∀{es:List V},(∀v∈es,En H v)->BR K H 1 es (es.map (dE H))
 | [],_=>BR.nil
 | v::es,h=>BR.cons (h v List.mem_cons_self).gd (pQ fun v m=>h v (List.mem_cons_of_mem _ m))
def R1 (S:Addr->Prop) (H:Hp) (a:Addr) (es:List V):Prop:=S a/\H a=some (.lst es)
def R2 (S:Addr->Prop) (H:Hp) (b:Addr) (rows:List (List V)):Prop:=S b/\∃as:List Addr,H b=some (.lst (as.map V.ref))/\P1 (R1 S H) as rows
def R3 (S:Addr->Prop) (H:Hp) (h:Addr) (X:List (List (List V))):Prop:=∃bs:List Addr,H h=some (.lst (bs.map V.ref))/\P1 (R2 S H) bs X
def C1 (H:Hp) (es:List V):PyData:=.list (es.map (dE H))
def LJ (H:Hp) (rows:List (List V)):PyData:=.list (rows.map (C1 H))
theorem pq (a b:Str):(a++b).cps=a.cps++b.cps:=rfl
theorem iS (a b:Str):(a++b).length=a.length+b.length:=by
 show(a.cps++b.cps).size=_
 rw[Array.size_append];rfl
theorem A9 {a b:Str}(h1:∀c∈a.cps,c<128) (h2:∀c∈b.cps,c<128):∀c∈(a++b).cps,c<128:=by
 intro c hc
 rw[pq]at hc
 rcases Array.mem_append.mp hc with z|z
 ·exact h1 c z
 ·exact h2 c z
def nm (z:Str):Prop:=1<=z.length/\z.length<=8/\∀c∈z.cps,97<=c/\c<=122
theorem Dz {z:Str}(h:nm z):PyData.strOk z=true/\z.length<=100:=by
 refine⟨?_,by have:=h.2.1;omega⟩
 unfold PyData.strOk
 rw[Array.all_eq_true_iff_forall_mem]
 intro c hc
 have:=h.2.2 c hc
 simp;omega
theorem AI:∀ys:List Str,(∀y∈ys,y.length=1/\∀c∈y.cps,97<=c/\c<=122)->(Str.join ⟨#[]⟩ ys).length=ys.length/\∀c∈(Str.join ⟨#[]⟩ ys).cps,97<=c/\c<=122
 | [],_=>⟨rfl,fun c hc=>absurd hc (by simp[Str.join,Str.empty])⟩
 | y::r,h=>by
  obtain⟨h1,h2⟩:=AI r fun z hz=>h z (List.mem_cons_of_mem _ hz)
  obtain⟨g1,g2⟩:=h y List.mem_cons_self
  rw[PyProof.Rows.join_nil_cons]
  refine⟨by rw[iS,h1,g1,List.length_cons];omega,fun c hc=>?_⟩
  rw[pq]at hc
  rcases Array.mem_append.mp hc with z|z
  ·exact g2 c z
  ·exact h2 c z
theorem DJ:∀ys:List Str,(∀y∈ys,y.length=1/\∀c∈y.cps,97<=c/\c<=122)->(ys.map (·.length)).sum=ys.length
 | [],_=>rfl
 | y::r,h=>by
  rw[List.map_cons,List.sum_cons,DJ r fun z hz=>h z (List.mem_cons_of_mem _ hz),(h y List.mem_cons_self).1,List.length_cons];omega
theorem M5 {r:Int}(h0:0<=r) (h1:r<26):∃c,sZ (Str.ofString "abcdefghijklmnopqrstuvwxyz").cps.toList r=some c/\97<=c/\c<=122:=by
 obtain⟨n,rfl⟩ : ∃n:Nat,r =(n:Int):=⟨r.toNat,by omega⟩
 have hl:(Str.ofString "abcdefghijklmnopqrstuvwxyz").cps.toList.length=26:=by z_go
 have ha:∀c∈(Str.ofString "abcdefghijklmnopqrstuvwxyz").cps.toList,97<=c/\c<=122:=by z_go
 have hi:=List.getElem?_eq_getElem (l:=(Str.ofString "abcdefghijklmnopqrstuvwxyz").cps.toList) (i:=n) (by omega)
 exact⟨_,fE hi,ha _ (List.mem_of_getElem? hi)⟩
theorem QI (ys:List Str):Txt.join (Str.ofString "") ys=Str.join ⟨#[]⟩ ys:=by
 have e:Str.ofString "" =⟨#[]⟩:=by decide
 rw[e]
 exact StrLaws.glued_eq_join _ _
def kP (K:W.Frag):Sp:=fun vs H Q _=>∃(p:Addr) (N:Nat),vs=[.ref p]/\Hand H p N/\N+30<2^60 /\
 ∀(z:Str) (H':Hp),nm z->Hand H' p (N+20)->Kp H H' p->Q (.str z) H'
def F_ (K:W.Frag):Sp:=fun vs H Q _=>∃(n:Int),vs=[.int n]/\Q (.bl true) H
def eD (H:Hp) (v:V):Int×Str:=match v with
 | .ref t=>(match H t with
  | some (.tup [.int k,.str z])=>(k,z)
  | _=>(0,⟨#[]⟩))
 | _=>(0,⟨#[]⟩)
theorem K0 {H:Hp}{t:Addr}{k:Int}{z:Str}(h:H t=some (.tup [.int k,.str z])):eD H (.ref t) =(k,z):=by
 show(match H t with|some (.tup [.int k,.str z])=>(k,z)|_=>(0,⟨#[]⟩))=_
 rw[h]
def Ca (H:Hp) (es:List V):List (Int×Str):=es.map (eD H)
def rJ (H:Hp) (rows:List (List V)):List (List (Int×Str)):=rows.map (Ca H)
def Jy (K:W.Frag):Sp:=fun vs H Q _=>∃(k R:Int),vs=[.int k,.int R]/\0<=k/\k<2^61/\1<=R/\R<=2^60/\Q (.int (cM k R)) H
def kE (H:Hp) (t:Addr):Int:=(eD H (.ref t)).1
theorem Cr {us:List Int}{k:Nat}:lQ (us.map V.int) none (some (k:Int)) =(us.take k).map V.int:=by
 unfold lQ
 rw[HT.sIx_nat,HT.sIx_none,List.drop_zero,Nat.sub_zero,List.map_take,List.length_map]
 by_cases h:k<=us.length
 ·rw[Nat.min_eq_left h]
 ·rw[Nat.min_eq_right (by omega),List.take_of_length_le (by rw[List.length_map];omega),List.take_of_length_le (by rw[List.length_map];omega)]
def gQ {α:Type}(s:List α) (w:Nat):List (List α):=(List.range (cV s.length w).toNat).map fun i=>(s.drop (i*w)).take w
theorem BQ {α:Type}(s:List α) (w:Nat):(gQ s w).length =(cV s.length w).toNat:=by unfold gQ;rw[List.length_map,List.length_range]
theorem tM {α β:Type}(f:α->β) (s:List α) (w:Nat):(gQ s w).map (List.map f)=gQ (s.map f) w:=by
 unfold gQ
 rw[List.map_map,List.length_map]
 apply List.map_congr_left
 intro i _
 show List.map f ((s.drop (i*w)).take w)=_
 rw[List.map_take,List.map_drop]
theorem xU (ms:List V) (w:Nat):iz ms w=gQ ms w:=rfl
theorem B7 {α:Type}{s:List α}{w:Nat}{r:List α}{x:α}(hr:r∈gQ s w) (hx:x∈r):x∈s:=by
 unfold gQ at hr
 obtain⟨i,_,rfl⟩:=List.mem_map.mp hr
 exact List.mem_of_mem_drop (List.mem_of_mem_take hx)
def pE (e:Int×Str):PyData:=.tuple [.int e.1,.str e.2]
def My (r:List (Int×Str)):PyData:=.list (r.map pE)
def ko (r:List (List (Int×Str))):PyData:=.list (r.map My)
theorem Qt {H:Hp}{v:V}(h:En H v):dE H v=pE (eD H v):=by
 obtain⟨t,k,z,rfl,h1,h2⟩:=h
 rw[K0 h1]
 show(match H t with|some (.tup [.int k,.str z])=>PyData.tuple [.int k,.str z] | _=>.none)=_
 rw[h1];rfl
theorem jV {H:Hp}{es:List V}(h:∀v∈es,En H v):C1 H es=My (Ca H es):=by
 unfold C1 My Ca
 rw[List.map_map]
 congr 1
 exact List.map_congr_left fun v hv=>Qt (h v hv)
theorem xq {H:Hp}{rows:List (List V)}(h:∀es∈rows,∀v∈es,En H v):LJ H rows=ko (rJ H rows):=by
 unfold LJ ko rJ
 rw[List.map_map]
 congr 1
 exact List.map_congr_left fun v hv=>jV (h v hv)
def EL (H:Hp) (ts:List Addr) (es:List (Int×Str)):Prop:=P1 (fun t e=>H t=some (.tup [.int e.1,.str e.2])/\PyData.strOk e.2=true/\0<=e.1/\e.1<1152921504606846976/\e.2.length<=100) ts es
theorem EL.same {H H':Hp}{ts:List Addr}{es:List (Int×Str)}(s:aM H H') (h:EL H ts es):EL H' ts es:=h.imp fun t e z=>⟨s _ _ z.1,z.2⟩
theorem EL.keep {H H':Hp}{ts:List Addr}{es:List (Int×Str)}(kt:∀t xs,H t=some (.tup xs)->H' t=some (.tup xs)) (h:EL H ts es):EL H' ts es:=h.imp fun t e z=>⟨kt _ _ z.1,z.2⟩
theorem EL.en {H:Hp}{ts:List Addr}{es:List (Int×Str)}(h:EL H ts es):∀v∈ts.map V.ref,En H v:=fun v hv=>by
 obtain⟨t,ht,rfl⟩:=List.mem_map.mp hv
 obtain⟨i,hi⟩:=List.getElem?_of_mem ht
 obtain⟨e,_,h1,h2⟩:=h.get hi
 exact⟨t,e.1,e.2,rfl,h1,h2⟩
theorem EL.row {H:Hp}{ts:List Addr}{es:List (Int×Str)}(h:EL H ts es):Ca H (ts.map V.ref)=es:=by
 refine List.ext_getElem? fun i=>?_
 unfold Ca
 rw[List.getElem?_map,List.getElem?_map]
 cases c:ts[i]? with
 | none =>
  have:=List.getElem?_eq_none_iff.mp c
  rw[List.getElem?_eq_none (by rw[<- h.1];exact this)];rfl
 | some t =>
  obtain⟨e,he,h1,_⟩:=h.get c
  rw[he]
  show some (eD H (.ref t))=some e
  rw[K0 h1]
def vE (e:Int×Str):Int×V:=(e.1,.str e.2)
def kf (e:Int×V):Key×V:=((Sum.inl e.1:Key),e.2)
def MF (qs:List (Int×V)) (k:Int) (v:V):List (Int×V):=if (qs.any fun e=>decide (e.1=k))=true then qs.map (fun e=>if e.1=k then(e.1,v) else e) else qs ++ [(k,v)]
theorem E2 {qs:List (Int×V)}{k:Int}{v:V}:putK (qs.map kf) (Sum.inl k) v =(MF qs k v).map kf:=by
 unfold putK MF
 have e:((qs.map kf).any fun kv=>decide (kv.1 =(Sum.inl k:Key)))=qs.any fun e=>decide (e.1=k):=by
  rw[List.any_map]
  congr 1
  funext e
  simp[kf]
 rw[e]
 split
 ·rw[List.map_map,List.map_map]
  apply List.map_congr_left
  intro e _
  by_cases c:e.1=k
  ·simp[kf,c]
  ·simp[kf,c]
 ·rw[List.map_append];rfl
def Jv (qs:List (Int×V)) (k:Int):V:=((qs.find? fun e=>decide (e.1=k)).map (·.2)).getD .non
theorem nZ:∀{qs:List (Int×V)}{k:Int},k∈qs.map (·.1)->L2.iV (qs.map kf) (Sum.inl k)=some (Jv qs k)
 | [],k,h=>by simp at h
 | e::qs,k,h=>by
  by_cases c:e.1=k
  ·rw[List.map_cons,mw (by simp[kf,c])]
   unfold Jv
   rw[List.find?_cons,decide_eq_true c];rfl
  ·rw[List.map_cons,mD (by simp[kf,c]),nZ (by
    rw[List.map_cons,List.mem_cons]at h
    rcases h with h|h
    ·exact absurd h.symm c
    ·exact h)]
   unfold Jv
   rw[List.find?_cons,decide_eq_false c]
def hid (D:Addr) (H:Hp):Hp:=fun b=>if b=D then none else H b
theorem eE {D b:Addr}{H:Hp}(n:b≠D):hid D H b=H b:=if_neg n
theorem AW {D:Addr}{H:Hp}{o:HO}:hid D (L2.upd H D o)=hid D H:=by
 funext b
 unfold hid
 by_cases c:b=D
 ·rw[if_pos c,if_pos c]
 ·rw[if_neg c,if_neg c,az c]
theorem cz {D:Addr}{H H':Hp}(s:aM H H'):aM (hid D H) (hid D H'):=fun b o e=>by
 unfold hid at e ⊢
 by_cases c:b=D
 ·rw[if_pos c]at e;cases e
 ·rw[if_neg c]at e ⊢;exact s _ _ e
theorem jz {D:Addr}{H:Hp}:aM (hid D H) H:=fun b o e=>by
 unfold hid at e
 by_cases c:b=D
 ·rw[if_pos c]at e;cases e
 ·rw[if_neg c]at e;exact e
theorem DI {α:Type}{s:List α}{w:Nat}(w1:1<=w):(gQ s w).length<=s.length+1:=by
 rw[BQ]
 obtain⟨g1,g2,g3⟩:=qQ (g:=cV s.length w) (w:=w) (m:=s.length) (by omega) (by omega) rfl
 rcases g3 with z|z
 ·omega
 ·by_cases q:cV s.length w<=s.length+1
  ·omega
  ·have:(1:Int)*(cV s.length w-1)<=w*(cV s.length w-1):=Int.mul_le_mul_of_nonneg_right (by omega) (by omega)
   omega
inductive Pl (H:Hp):V->Prop
 | non:Pl H .non
 | bl (b:Bool):Pl H (.bl b)
 | int (i:Int):Pl H (.int i)
 | str (z:Str) (h:z.length<=1000) (h2:∀c∈z.cps,c<128):Pl H (.str z)
 | lst {a:Addr}{xs:List V}(e:H a=some (.lst xs)):Pl H (.ref a)
 | tup {a:Addr}{xs:List V}(e:H a=some (.tup xs)):Pl H (.ref a)
 | dic {a:Addr}{kvs:List (Key×V)}(e:H a=some (.dK kvs)):Pl H (.ref a)
theorem Pl.same {H H':Hp}{x:V}(h:Pl H x) (s:aM H H'):Pl H' x:=by
 cases h with
 | non=>exact .non
 | bl b=>exact .bl b
 | int i=>exact .int i
 | str z h h2=>exact .str z h h2
 | lst e=>exact .lst (s _ _ e)
 | tup e=>exact .tup (s _ _ e)
 | dic e=>exact .dic (s _ _ e)
def lP:V->Bool
 | .int _=>true
 | _=>false
def eO:V->Bool
 | .int i=>decide (0<=i) && decide (i<1152921504606846976)
 | _=>false
def letter (c:Nat):Bool:=decide (97<=c) && decide (c<=122)
def qB (z:Str):Bool:=decide (1 <=(z.length:Int)) && decide ((z.length:Int)<=8) && z.cps.toList.all letter
def nameV:V->Bool
 | .str z=>qB z
 | _=>false
theorem KH {K:W.Frag}{H:Hp}{x:V}(h:Pl H x):∃t,je K H x t/\W.kitOne K t (.type "int")=some (match x with | .int _=>true | .bl _=>true|_=>false):=by
 cases h with
 | non=>exact⟨_,.non,rfl⟩
 | bl b=>exact⟨_,.bl b,rfl⟩
 | int i=>exact⟨_,.int i,rfl⟩
 | str z h h2=>exact⟨_,.str z,rfl⟩
 | lst e=>exact⟨_,.lst e,rfl⟩
 | tup e=>exact⟨_,.tup e,rfl⟩
 | dic e=>exact⟨_,.dK e,rfl⟩
theorem xj {K:W.Frag}{H:Hp}{x:V}(h:Pl H x):∃t,je K H x t/\W.kitOne K t (.type "bool")=some (match x with | .bl _=>true|_=>false):=by
 cases h with
 | non=>exact⟨_,.non,rfl⟩
 | bl b=>exact⟨_,.bl b,rfl⟩
 | int i=>exact⟨_,.int i,rfl⟩
 | str z h h2=>exact⟨_,.str z,rfl⟩
 | lst e=>exact⟨_,.lst e,rfl⟩
 | tup e=>exact⟨_,.tup e,rfl⟩
 | dic e=>exact⟨_,.dK e,rfl⟩
theorem IS {K:W.Frag}{H:Hp}{x:V}(h:Pl H x):∃t,je K H x t/\W.kitOne K t (.type "str")=some (match x with | .str _=>true|_=>false):=by
 cases h with
 | non=>exact⟨_,.non,rfl⟩
 | bl b=>exact⟨_,.bl b,rfl⟩
 | int i=>exact⟨_,.int i,rfl⟩
 | str z h h2=>exact⟨_,.str z,rfl⟩
 | lst e=>exact⟨_,.lst e,rfl⟩
 | tup e=>exact⟨_,.tup e,rfl⟩
 | dic e=>exact⟨_,.dK e,rfl⟩
theorem Mx:∀c:Nat,c<128->(!decide (([c]:List Nat) <("a" : Str).cps.toList))=decide (97<=c):=by z_go
theorem MY:∀c:Nat,c<128->(!decide (("z" : Str).cps.toList <([c]:List Nat)))=decide (c<=122):=by z_go
theorem BD {z:Str}{i c:Nat}(h:z.cps[i]? = some c):((z.cps.toList.take (i+1)).map letter).map V.bl =((z.cps.toList.take i).map letter).map V.bl ++ [V.bl (letter c)]:=by
 have e:z.cps.toList[i]? = some c:=by simpa using h
 rw[List.take_add_one,e,List.map_append,List.map_append]
 rfl
theorem take_all (z:Str):z.cps.toList.take z.cps.size=z.cps.toList:=List.take_of_length_le (by simp)
theorem w5 (z:Str):((z.cps.toList.map letter).all id)=z.cps.toList.all letter:=by
 rw[List.all_map];rfl
theorem KL (z:Str):z.cps.toList.length=z.length:=by unfold Str.length;simp
def rN (K:W.Frag):Sp:=fun vs H Q _=>∃(k:Int),vs=[.int k]/\1<=k/\k<=8/\Q (.bl true) H
def m9 (K:W.Frag):Sp:=fun vs H Q _=>∃(w f:Int),vs=[.int w,.int f]/\1<=w/\w<=8/\1<=f/\f<=8/\Q .non H
def mR (K:W.Frag):Sp:=fun vs H Q _=>∃(m w:Int),vs=[.int m,.int w]/\1<=w/\w<=8/\Q (.int (cV m w)) H
def d8 (ns:List Int) (w:Int):List Int:=ns.map fun m=>cV m w
def kN (ns:List Int) (w:Int):List Int:=ns.map fun m=>cV m w-1
def jk (K:W.Frag):Sp:=fun vs H Q _=>∃(m w:Int),vs=[.int m,.int w]/\1<=w/\w<=8/\Q (.int (cV m w-1)) H
def m7 (K:W.Frag):Sp:=fun vs H Q _=>∃(a:Addr) (ns:List Int) (w:Int),vs=[.ref a,.int w]/\bN K H a (ns.map V.int)/\ns.length<=200/\1<=w/\w<=8 /\
 ∀H',aM H H'->Q (.int (kN ns w).sum) H'
def iJ (K:W.Frag):Sp:=fun vs H Q _=>∃(a:Addr) (ns:List Int) (w:Int),vs=[.ref a,.int w]/\bN K H a (ns.map V.int)/\ns ≠ []/\ns.length<=200/\1<=w/\w<=8 /\
 ∀M t H',M∈d8 ns w->(∀z,z∈d8 ns w->z<=M)->H t=none->aM H H'->H' t=some (.tup [.int M,.int ((d8 ns w).idxOf M:Nat)])->Q (.ref t) H'
def Rz (K:W.Frag) (E:XK) (x:Str) (v:V) (H:Hp):Prop:=∀u C,RelV v u->W.nsIn K mainGlobals x=some (some (.ref C))->E u (some C) H
def xB (K:W.Frag):Sp:=fun vs H Q _=>∃x,vs=[x]/\Pl H x/\Q (.bl (lP x)) H
def uh (K:W.Frag):Sp:=fun vs H Q _=>∃x,vs=[x]/\Pl H x/\Q (.bl (eO x)) H
def qw (K:W.Frag):Sp:=fun vs H Q _=>∃x,vs=[x]/\Pl H x/\∀H',aM H H'->Q (.bl (nameV x)) H'
def Ah (K:W.Frag):Sp:=fun vs H Q E=>∃v,vs=[v]/\Pl H v/\((eO v=true/\Q .non H) \/(eO v=false/\Rz K E "NoKey" v H))
def mq (K:W.Frag):Sp:=fun vs H Q E=>∃v z,vs=[v,z]/\Pl H v/\Pl H z/\((eO v=true/\nameV z=true/\∀H',aM H H'->Q .non H') \/(eO v=false/\Rz K E "NoKey" v H) \/(eO v=true/\nameV z=false/\∀H',aM H H'->Rz K E "NoThing" z H'))
theorem qU {k:Int}(h0:0<=k) (h1:k<1152921504606846976):eO (.int k)=true:=by
 show(decide (0<=k) && decide (k<1152921504606846976))=true
 rw[decide_eq_true h0,decide_eq_true h1];rfl
theorem A0 {z:Str}(h:nm z):nameV (.str z)=true:=by
 obtain⟨h1,h2,h3⟩:=h
 show qB z=true
 unfold qB
 rw[decide_eq_true (show(1:Int) <=(z.length:Int) by omega),decide_eq_true (show(z.length:Int)<=8 by omega)]
 refine List.all_eq_true.mpr fun c hc=>?_
 obtain⟨c1,c2⟩:=h3 c (by simpa using hc)
 unfold letter
 rw[decide_eq_true c1,decide_eq_true c2];rfl
theorem t_ {H:Hp}{z:Str}(h:nm z):Pl H (.str z):=.str z (by have:=h.2.1;omega) fun c hc=>by have:=h.2.2 c hc;omega
theorem Q8:¬(("wide" : Str) = "fill"):=by z_go
theorem Up:¬(("wide" : Str) = "held"):=by z_go
theorem Sz:¬(("fill" : Str) = "held"):=by z_go
def G4 (w f:Int) (d:Addr):List (Str×V):=gx "held" (.ref d) (gx "fill" (.int f) (gx "wide" (.int w) []))
theorem cS {w f:Int}{d:Addr}:(G4 w f d).lookup ("held" : Str)=some (.ref d):=by
 unfold G4;rw[bY,if_pos rfl]
theorem EO {w f:Int}{d:Addr}:(G4 w f d).lookup ("fill" : Str)=some (.int f):=by
 unfold G4;rw[bY,if_neg Sz,bY,if_pos rfl]
theorem mz {w f:Int}{d:Addr}:(G4 w f d).lookup ("wide" : Str)=some (.int w):=by
 unfold G4;rw[bY,if_neg Up,bY,if_neg Q8,bY,if_pos rfl]
theorem NX {w f:Int}{d:Addr}{m:Str}(h1:¬ m = "held") (h2:¬ m = "fill") (h3:¬ m = "wide"):(G4 w f d).lookup m=none:=by
 unfold G4
 rw[bY,if_neg h1,bY,if_neg h2,bY,if_neg h3]
 all_goals rfl
theorem gK{w f:Int}{d:Addr}{m:Str}(h:¬m="held"/\¬m="fill"/\¬m="wide"):(G4 w f d).lookup m=none:=NX h.1 h.2.1 h.2.2
def eV (es:List (Int×Str)):List (Key×V):=(es.map vE).map kf
theorem jM {es:List (Int×Str)}:(eV es).length=es.length:=by unfold eV;rw[List.length_map,List.length_map]
theorem A3 {es:List (Int×Str)}:(eV es).map (fun kv=>kV kv.1) =(es.map (·.1)).map V.int:=by
 unfold eV;rw[List.map_map,List.map_map,List.map_map];rfl
def XR:V->Str
 | .str z=>z
 | _=>⟨#[]⟩
def uE (e:Int×V):Int×Str:=(e.1,XR e.2)
def K7 (es:List (Int×Str)):Prop:=(es.map (·.1)).Nodup/\(∀e∈es,0<=e.1/\e.1<1152921504606846976/\nm e.2)/\es.length<=64
structure Tab (CT:Addr) (H:Hp) (p d:Addr) (w f:Int) (es:List (Int×Str)):Prop where
 ob:∃dx,H p=some (.ins CT dx (G4 w f d))
 dc:H d=some (.dK (eV es))
 ok:K7 es
 sz:1<=w/\w<=8/\1<=f/\f<=8
theorem Tab.same {CT:Addr}{H H':Hp}{p d:Addr}{w f:Int}{es:List (Int×Str)}(s:aM H H') (t:Tab CT H p d w f es):Tab CT H' p d w f es:=by
 obtain⟨dx,h⟩:=t.ob
 exact⟨⟨dx,s _ _ h⟩,s _ _ t.dc,t.ok,t.sz⟩
theorem Tab.ne {CT:Addr}{H:Hp}{p d:Addr}{w f:Int}{es:List (Int×Str)}(t:Tab CT H p d w f es):p≠d:=by
 obtain⟨dx,h⟩:=t.ob
 exact cX h t.dc (by intro z;cases z)
def cJ (es:List (Int×Str)) (f:Int):Nat:=(cV es.length f).toNat
theorem LS {m f:Int}(f1:1<=f) (m0:0<=m):1<=cV m f/\cV m f<=m+1:=by
 obtain⟨g1,g2,g3⟩:=qQ (g:=cV m f) (w:=f) (m:=m) f1 m0 rfl
 refine⟨g1,?_⟩
 rcases g3 with z|z
 ·omega
 ·by_cases q:cV m f<=m+1
  ·exact q
  ·have:(1:Int)*(cV m f-1)<=f*(cV m f-1):=Int.mul_le_mul_of_nonneg_right (by omega) (by omega)
   omega
theorem dD {es:List (Int×Str)}{f:Int}(f1:1<=f):cV es.length f =(cJ es f:Int)/\1<=cJ es f/\cJ es f<=es.length+1:=by
 have:=LS (m:=es.length) f1 (by omega)
 unfold cJ
 omega
theorem ug {m f:Int}(f1:1<=f) (m0:0<=m):cV (m+1) f=cV m f\/cV (m+1) f=cV m f+1:=by
 obtain⟨g1,g2,g3⟩:=qQ (g:=cV m f) (w:=f) (m:=m) f1 m0 rfl
 obtain⟨h1,h2,h3⟩:=qQ (g:=cV (m+1) f) (w:=f) (m:=m+1) f1 (by omega) rfl
 generalize cV m f=a at *
 generalize cV (m+1) f=b at *
 by_cases c:b<a
 ·exfalso
  have:f*b<=f*(a-1):=Int.mul_le_mul_of_nonneg_left (by omega) (by omega)
  rcases g3 with z|z <;> omega
 ·by_cases e:a+1<b
  ·exfalso
   have:f*(a+1)<=f*(b-1):=Int.mul_le_mul_of_nonneg_left (by omega) (by omega)
   have e2:f*(a+1)=f*a+f:=by rw[Int.mul_add,Int.mul_one]
   rcases h3 with z|z <;> omega
  ·omega
def bZ (es:List (Int×Str)) (k:Int) (z:Str):List (Int×Str):=if (es.any fun e=>decide (e.1=k))=true then es.map (fun e=>if e.1=k then(e.1,z) else e) else es ++ [(k,z)]
theorem rD {es:List (Int×Str)}{k:Int}{z:Str}:putK (eV es) (Sum.inl k:Key) (.str z)=eV (bZ es k z):=by
 unfold eV
 rw[E2]
 congr 1
 unfold MF bZ
 have e:((es.map vE).any fun e=>decide (e.1=k))=es.any fun e=>decide (e.1=k):=by
  rw[List.any_map];rfl
 rw[e]
 split
 ·rw[List.map_map,List.map_map]
  apply List.map_congr_left
  intro x _
  by_cases c:x.1=k
  ·simp[vE,c]
  ·simp[vE,c]
 ·rw[List.map_append];rfl
theorem pG {es:List (Int×Str)}{k:Int}:(es.any fun e=>decide (e.1=k))=true↔k∈es.map (·.1):=by
 rw[List.any_eq_true,List.mem_map]
 constructor
 ·rintro⟨e,h1,h2⟩;exact⟨e,h1,of_decide_eq_true h2⟩
 ·rintro⟨e,h1,h2⟩;exact⟨e,h1,decide_eq_true h2⟩
theorem nM {es:List (Int×Str)}{k:Int}{z:Str}:(bZ es k z).map (·.1)=if k∈es.map (·.1) then es.map (·.1) else es.map (·.1) ++ [k]:=by
 unfold bZ
 by_cases c:k∈es.map (·.1)
 ·rw[if_pos (pG.mpr c),if_pos c,List.map_map]
  apply List.map_congr_left
  intro e _
  by_cases d:e.1=k <;> simp[d]
 ·rw[if_neg (fun h=>c (pG.mp h)),if_neg c,List.map_append];rfl
theorem wK {es:List (Int×Str)}{k:Int}{z:Str}:(bZ es k z).length=if k∈es.map (·.1) then es.length else es.length+1:=by
 have:=congrArg List.length (nM (es:=es) (k:=k) (z:=z))
 rw[List.length_map]at this
 rw[this]
 split
 ·rw[List.length_map]
 ·rw[List.length_append,List.length_map];rfl
theorem AJ {es:List (Int × Str)} {k:Int} {z:Str} (h:K7 es) (k0:0 <= k) (k1:k < 1152921504606846976) (hz:nm z) (hl:k ∈ es.map (·.1) \/ es.length < 64) : K7 (bZ es k z):=by
  refine ⟨?_,fun e he=>?_,?_⟩
  · rw [nM]
    split
    · exact h.1
    · rename_i c
      rw [List.nodup_append]
      exact ⟨h.1, by simp, fun a ha b hb e => c (by have : b = k := by simpa using hb
                                                    rw [<- this,<- e]; exact ha)⟩
  · unfold bZ at he
    split at he
    · obtain ⟨x,hx,rfl⟩:=List.mem_map.mp he
      have:=h.2.1 x hx
      split
      · exact ⟨this.1,this.2.1,hz⟩
      · exact this
    · rcases List.mem_append.mp he with w | w
      · exact h.2.1 e w
      · rw [List.mem_singleton.mp w]; exact ⟨k0,k1,hz⟩
  · rw [wK]
    have:=h.2.2
    split
    · omega
    · rename_i c
      rcases hl with z | z
      · exact absurd z c
      · omega
theorem find_some {es:List (Int×Str)}{k:Int}:(L2.iV (eV es) (Sum.inl k:Key)).isSome=decide (k∈es.map (·.1)):=by
 by_cases c:k∈es.map (·.1)
 ·rw[decide_eq_true c]
  unfold eV
  rw[nZ (by rw[List.map_map];exact c)];rfl
 ·rw[decide_eq_false c]
  unfold L2.iV
  rw[Option.isSome_map]
  cases e:(eV es).find? fun kv=>decide (kv.1 =(Sum.inl k:Key)) with
  | none=>rfl
  | some p =>
   exfalso
   have h1:=List.mem_of_find?_eq_some e
   have h2:p.1=Sum.inl k:=by simpa using List.find?_some e
   unfold eV at h1
   obtain⟨q,hq,rfl⟩:=List.mem_map.mp h1
   obtain⟨x,hx,rfl⟩:=List.mem_map.mp hq
   exact c (List.mem_map.mpr ⟨x,hx,Sum.inl.inj h2⟩)
def uI (es:List (Int×Str)) (k:Int):Str:=((es.find? fun e=>decide (e.1=k)).map (·.2)).getD ⟨#[]⟩
theorem p9:∀{es:List (Int×Str)}{e:Int×Str},(es.map (·.1)).Nodup->e∈es->uI es e.1=e.2
 | [],e,_,h=>by cases h
 | x::es,e,hn,h=>by
  rw[List.map_cons,List.nodup_cons]at hn
  unfold uI
  by_cases c:x.1=e.1
  ·rw[List.find?_cons_of_pos (by simpa using c)]
   rcases List.mem_cons.mp h with z|z
   ·rw[z];rfl
   ·exact absurd (List.mem_map.mpr ⟨e,z,c.symm⟩) hn.1
  ·rw[List.find?_cons_of_neg (by simpa using c)]
   rcases List.mem_cons.mp h with z|z
   ·exact absurd (by rw[z]) c
   ·exact p9 hn.2 z
theorem jd {es:List (Int×Str)}{k:Int}(h:k∈es.map (·.1)):L2.iV (eV es) (Sum.inl k:Key)=some (.str (uI es k)):=by
 unfold eV
 rw[nZ (by rw[List.map_map];exact h)]
 congr 1
 unfold Jv uI
 rw[List.find?_map]
 obtain⟨e,h1,h2⟩:=List.mem_map.mp h
 cases c:es.find? fun e=>decide (e.1=k) with
 | none =>
  exact absurd (decide_eq_true h2) (by simpa using List.find?_eq_none.mp c e h1)
 | some x =>
  rw[show((fun e:Int×V=>decide (e.1=k)) ∘ vE)=fun e:Int×Str=>decide (e.1=k) from rfl,c];rfl
def Kd (H H':Hp) (d:Addr):Prop:=∀b o,b≠d->H b=some o->H' b=some o
def gf (K:W.Frag) (CT:Addr):Sp:=fun vs H Q _=>∃(p dx:Addr) (w f:Int),vs=[.ref p,.int w,.int f]/\H p=some (.ins CT dx [])/\1<=w/\w<=8/\1<=f/\f<=8 /\
 ∀(d:Addr) (H':Hp),H d=none->Tab CT H' p d w f []->(∀b o,H b=some o->b≠p->H' b=some o)->Q .non H'
def qR (K:W.Frag) (CT:Addr):Sp:=fun vs H Q _=>∃(p d:Addr) (w f:Int) (es:List (Int×Str)),vs=[.ref p]/\Tab CT H p d w f es/\Q (.int es.length) H
def qo (K:W.Frag) (CT:Addr):Sp:=fun vs H Q _=>∃(p d:Addr) (w f:Int) (es:List (Int×Str)),vs=[.ref p]/\Tab CT H p d w f es/\Q (.int (cJ es f)) H
def jU (K:W.Frag) (CT:Addr):Sp:=fun vs H Q _=>∃(p d:Addr) (w f:Int) (es:List (Int×Str)) (R:Nat),vs=[.ref p,.int R]/\Tab CT H p d w f es/\1<=R/\R<=200 /\
 ∀ms l H',ms.Perm (es.map (·.1))->ms.Pairwise (· <= ·)->H l=none->LN H H' l (b_ ms R)->aM H H'->Q (.ref l) H'
def jN (K:W.Frag) (CT:Addr):Sp:=fun vs H Q _=>∃(p d:Addr) (w f:Int) (es:List (Int×Str)),vs=[.ref p]/\Tab CT H p d w f es /\
 ∀ms l H',ms.Perm (es.map (·.1))->ms.Pairwise (· <= ·)->H l=none->H' l=some (.lst (((b_ ms (cJ es f)).map fun r=>(r.length:Int)).map V.int))->aM H H'->Q (.ref l) H'
def jf (K:W.Frag) (CT:Addr):Sp:=fun vs H Q _=>∃(p d:Addr) (w f:Int) (es:List (Int×Str)),vs=[.ref p]/\Tab CT H p d w f es /\
 ∀ms H',ms.Perm (es.map (·.1))->ms.Pairwise (· <= ·)->aM H H'->Q (.int (kN ((b_ ms (cJ es f)).map fun r=>(r.length:Int)) w).sum) H'
def gM (K:W.Frag) (CT:Addr):Sp:=fun vs H Q _=>∃(p d:Addr) (w f:Int) (es:List (Int×Str)),vs=[.ref p]/\Tab CT H p d w f es /\
 ∀ms M t H',ms.Perm (es.map (·.1))->ms.Pairwise (· <= ·)->M∈d8 ((b_ ms (cJ es f)).map fun r=>(r.length:Int)) w->(∀z,z∈d8 ((b_ ms (cJ es f)).map fun r=>(r.length:Int)) w->z<=M)->aM H H'->H' t=some (.tup [.int M,.int ((d8 ((b_ ms (cJ es f)).map fun r=>(r.length:Int)) w).idxOf M:Nat)])->Q (.ref t) H'
def nW (K:W.Frag) (CT:Addr):Sp:=fun vs H Q _=>∃(p d:Addr) (w f:Int) (es:List (Int×Str)),vs=[.ref p]/\Tab CT H p d w f es /\
 ∀(ps:List (Int×Str)) (ts:List Addr) (l:Addr) (H':Hp),ps.Perm es->ps.Pairwise (fun a b=>a.1<=b.1)->aM H H'->H l=none->H' l=some (.lst (ts.map V.ref))->EL H' ts ps->Q (.ref l) H'
def KJ (R:Int) (v:V):Prop:=∀k,v = .int k->¬(0<=k/\k<R)
def sJ (K:W.Frag) (CT:Addr):Sp:=fun vs H Q E=>∃(p d:Addr) (w:Nat) (f:Int) (es:List (Int×Str)) (v:V),vs=[.ref p,v]/\Tab CT H p d w f es/\Pl H v/\((∃r:Nat,v = .int r/\r<cJ es f /\
 ∀(ms:List Int) (ts:List Addr) (l:Addr) (H':Hp),ms.Perm (es.map (·.1))->ms.Pairwise (· <= ·)->aM H H'->H l=none->EL H' ts ((ms.filter fun k=>decide (cM k (cJ es f) =(r:Int))).map fun k=>(k,uI es k))->DX H H' l (iz (ts.map V.ref) w)->Q (.ref l) H') \/(KJ (cJ es f) v/\Rz K E "NoRoom" v H))
def uT (K:W.Frag) (CT:Addr):Sp:=fun vs H Q E=>∃(p d:Addr) (w f:Int) (es:List (Int×Str)) (kv zv:V),vs=[.ref p,kv,zv]/\Tab CT H p d w f es/\Pl H kv/\Pl H zv/\((∃(k:Int) (z:Str),kv = .int k/\zv = .str z/\0<=k/\k<1152921504606846976/\nm z/\(k∈es.map (·.1)\/es.length<64) /\
 ∀r H',Tab CT H' p d w f (bZ es k z)->Kd H H' d->Q r H') \/(eO kv=false/\Rz K E "NoKey" kv H) \/(eO kv=true/\nameV zv=false/\∀H',aM H H'->Rz K E "NoThing" zv H') \/
 (∃(k:Int) (z:Str),kv = .int k/\zv = .str z/\0<=k/\k<1152921504606846976/\nm z/\k∉es.map (·.1)/\es.length=64/\∀H',aM H H'->Rz K E "Full" (.int 64) H'))
theorem ow {ms ms' l:List Int}(p:ms.Perm l) (h:ms.Pairwise (· <= ·)) (p':ms'.Perm l) (h':ms'.Pairwise (· <= ·)):ms=ms' :=
 List.Perm.eq_of_pairwise (le:=(· <= ·)) (fun a b _ _ x y=>by omega) h h' (p.trans p'.symm)
def Q6 (es:List (Int×Str)) (f:Int) (ms:List Int):List Int:=(b_ ms (cJ es f)).map fun r=>(r.length:Int)
def ue (es:List (Int×Str)) (f:Int) (w:Nat) (ms:List Int) (r:Nat):List (List (Int×Str)):=gQ ((ms.filter fun k=>decide (cM k (cJ es f) =(r:Int))).map fun k=>(k,uI es k)) w
def Bb (M:Int) (l:List Int):Prop:=M∈l/\∀z,z∈l->z<=M
theorem Bb.eq {M M':Int}{l:List Int}(h:Bb M l) (h':Bb M' l):M=M':=by
 have h1:=h.2 M' h'.1
 have h2:=h'.2 M h.1
 omega
theorem DP {es ps:List (Int×Str)}{ms:List Int}(nd:(es.map (·.1)).Nodup) (pp:ps.Perm es) (po:ps.Pairwise fun a b=>a.1<=b.1) (p1:ms.Perm (es.map (·.1))) (p2:ms.Pairwise (· <= ·)):ps=ms.map fun k=>(k,uI es k):=by
 have e1:ps.map (·.1)=ms:=ow (pp.map _) (by rw[List.pairwise_map];exact po) p1 p2
 rw[<- e1,List.map_map]
 refine(List.map_id _).symm.trans (List.map_congr_left fun x hx=>?_)
 show x =(x.1,uI es x.1)
 rw[p9 nd (pp.mem_iff.mp hx)]
theorem RG.gd {K:W.Frag}{H:Hp}{l:Addr}{rows:List (List V)}(h:RG H l rows) (en:∀es∈rows,∀v∈es,En H v):GD K H 3 (.ref l) (ko (rJ H rows)):=by
 obtain⟨as,h1,h2,h3⟩:=h
 rw[<- xq en]
 exact GD.lst h1 (Ba (p:=fun a es=>H a=some (.lst es)) ⟨h2,h3⟩ fun a es hm ha=>GD.lst ha (pQ fun v hv=>en es hm v hv))
theorem Ke {H:Hp}{ts:List Addr}{es:List (Int×Str)}{w:Nat}(el:EL H ts es):rJ H (iz (ts.map V.ref) w)=gQ es w:=by
 unfold rJ
 rw[xU,show Ca H=List.map (eD H) from rfl,tM]
 congr 1
 exact el.row
theorem aM.seqT {K:W.Frag}{H H':Hp}{a:Addr}{xs:List V}(e:aM H H') (h:oS K H a xs):oS K H' a xs:=by
 unfold oS at h ⊢
 rcases h with(h|⟨o,h⟩)|h
 ·exact .inl (.inl (e _ _ h))
 ·exact .inl (.inr ⟨o,e _ _ h⟩)
 ·exact .inr h
mutual
theorem DV.same {K:W.Frag}{H H':Hp}(s:aM H H'):∀{x:V}{d:PyData},DV K H x d->DV K H' x d
 | _,_,.non=>.non
 | _,_,.bl b=>.bl b
 | _,_,.int i=>.int i
 | _,_,.str x=>.str x
 | _,_,.lst h ds=>.lst (s.seq h) (rW.same s ds)
 | _,_,.tup h ds=>.tup (aM.seqT s h) (rW.same s ds)
theorem rW.same {K:W.Frag}{H H':Hp}(s:aM H H'):∀{xs:List V}{ds:List PyData},rW K H xs ds->rW K H' xs ds
 | _,_,.nil=>.nil
 | _,_,.cons h t=>.cons (DV.same s h) (rW.same s t)
end
theorem GD.same {K:W.Frag}{H H':Hp}{n:Nat}{v:V}{d:PyData}(s:aM H H') (g:GD K H n v d):GD K H' n v d:=⟨DV.same s g.1,g.2⟩
def jy (K:W.Frag):Sp:=fun vs H Q _=>∃(a:Addr) (ns:List Int) (l m:Int),vs=[.ref a,.int l,.int m]/\bN K H a (ns.map V.int)/\ns.length<=63/\0<=l/\l<=60/\0<=m/\m<=60 /\
 ∀(n:Nat) (l':Addr) (H':Hp),n<=60->H l'=none->H' l'=some (.lst ((gq 1 n).map V.int))->aM H H'->Q (.ref l') H'
def BH (K:W.Frag):Sp:=fun vs H Q _=>∃(p m:Addr) (N:Nat) (es:List (Int×Str)),vs=[.ref p,.ref m]/\Hand H p N/\N+100<2^60/\H m=some (.dK (eV es))/\K7 es /\
 ∀(k:Int) (H':Hp),0<=k->k<1152921504606846976->Hand H' p (N+50)->Kp H H' p->Q (.int k) H'
def cT (es:List (Int×Str)) (k:Int):List (Int×Str):=es.filter fun e=>decide (e.1≠k)
theorem AE {es:List (Int×Str)}{k:Int}:oH (eV es) (Sum.inl k:Key)=eV (cT es k):=by
 unfold oH eV cT
 rw[List.map_map,List.map_map,List.filter_map]
 congr 1
 apply List.filter_congr
 intro e _
 show decide ((Sum.inl e.1:Key)≠Sum.inl k)=decide (e.1≠k)
 by_cases c:e.1=k
 ·simp[c]
 ·simp[c]
theorem kW {es:List (Int×Str)}{k:Int}:(cT es k).map (·.1) =(es.map (·.1)).filter fun q=>decide (q≠k):=by
 unfold cT
 rw[List.filter_map];rfl
theorem Ej {es:List (Int×Str)}{k:Int}(h:K7 es):K7 (cT es k) :=
 ⟨by rw[kW];exact h.1.filter _,fun e he=>h.2.1 e (List.mem_filter.mp he).1,Nat.le_trans (List.length_filter_le _ _) h.2.2⟩
theorem kR:∀{l:List Int}{k:Int},l.Nodup->k∈l->(l.filter fun q=>decide (q≠k)).length+1=l.length
 | [],k,_,h=>by cases h
 | a::l,k,hn,h=>by
  rw[List.nodup_cons]at hn
  rw[List.filter_cons]
  by_cases c:a=k
  ·subst c
   rw[if_neg (by simp),List.length_cons,List.filter_eq_self.mpr]
   intro q hq
   exact decide_eq_true fun e=>hn.1 (e ▸ hq)
  ·rw[if_pos (by simpa using c),List.length_cons,List.length_cons,kR hn.2 ((List.mem_cons.mp h).resolve_left fun e=>c e.symm)]
theorem t8 {es:List (Int×Str)}{k:Int}(h:K7 es) (hk:k∈es.map (·.1)):(cT es k).length+1=es.length:=by
 have:=kR h.1 hk
 rw[<- kW,List.length_map,List.length_map]at this
 exact this
theorem xK {es:List (Int×Str)}{k f:Int}(h:K7 es) (hk:k∈es.map (·.1)) (f1:1<=f):cJ (cT es k) f=cJ es f\/cJ (cT es k) f+1=cJ es f:=by
 have e1:=(dD (es:=es) f1).1
 have e2:=(dD (es:=cT es k) f1).1
 have l:=t8 h hk
 have st:=ug (m:=(cT es k).length) (f:=f) f1 (by omega)
 have ec:((cT es k).length:Int)+1 =(es.length:Int):=by omega
 rw[ec]at st
 omega
def K2 (H H':Hp) (d m:Addr):Prop:=∀b o,b≠d->b≠m->H b=some o->H' b=some o
def K4 (H H':Hp) (p d m:Addr):Prop:=∀b o,b≠p->b≠d->b≠m->H b=some o->H' b=some o
theorem K4.refl {H:Hp}{p d m:Addr}:K4 H H p d m:=fun _ _ _ _ _ h=>h
theorem K4.trans {H H1 H2:Hp}{p d m:Addr}(a:K4 H H1 p d m) (b:K4 H1 H2 p d m):K4 H H2 p d m:=fun c o h1 h2 h3 h=>b c o h1 h2 h3 (a c o h1 h2 h3 h)
theorem K4.kp {H H':Hp}{p d m:Addr}(k:Kp H H' p):K4 H H' p d m:=fun b o h1 _ _ h=>k.1 b o h h1
theorem K4.same {H H':Hp}{p d m:Addr}(k:aM H H'):K4 H H' p d m:=fun b o _ _ _ h=>k b o h
theorem K2.k4 {H H':Hp}{p d m:Addr}(k:K2 H H' d m):K4 H H' p d m:=fun b o _ h2 h3 h=>k b o h2 h3 h
theorem Kd.k2 {H H':Hp}{d m:Addr}(k:Kd H H' d):K2 H H' d m:=fun b o h2 _ h=>k b o h2 h
structure TM (CT x d m p:Addr) (w f:Int) (N:Nat) (et em:List (Int×Str)) (H:Hp):Prop where
 tb:Tab CT H x d w f et
 md:H m=some (.dK (eV em))
 hh:Hand H p N
 ne:m≠d
theorem TM.k2 {CT x d m p:Addr}{w f:Int}{N:Nat}{et em et' em':List (Int×Str)}{H H':Hp}(t:TM CT x d m p w f N et em H) (k:K2 H H' d m) (tb:Tab CT H' x d w f et') (md:H' m=some (.dK (eV em'))):TM CT x d m p w f N et' em' H':=by
 refine⟨tb,md,?_,t.ne⟩
 obtain⟨l,a,c,ns,h1,h2,r⟩:=t.hh.ex
 exact⟨l,a,c,ns,k _ _ (cX h1 t.tb.dc (by intro z;cases z)) (cX h1 t.md (by intro z;cases z)) h1,k _ _ (cX h2 t.tb.dc (by intro z;cases z)) (cX h2 t.md (by intro z;cases z)) h2,r⟩
theorem TM.draw {CT x d m p:Addr}{w f:Int}{N M:Nat}{et em:List (Int×Str)}{H H':Hp}(t:TM CT x d m p w f N et em H) (k:Kp H H' p) (hh:Hand H' p M):TM CT x d m p w f M et em H':=by
 obtain⟨l,a,c,ns,h1,_⟩:=t.hh.ex
 obtain⟨dx,ho⟩:=t.tb.ob
 exact⟨⟨⟨dx,k.1 _ _ ho (cX ho h1 (by intro z;cases z))⟩,k.1 _ _ t.tb.dc (cX t.tb.dc h1 (by intro z;cases z)),t.tb.ok,t.tb.sz⟩,k.1 _ _ t.md (cX t.md h1 (by intro z;cases z)),hh,t.ne⟩
theorem TM.same {CT x d m p:Addr}{w f:Int}{N:Nat}{et em:List (Int×Str)}{H H':Hp}(t:TM CT x d m p w f N et em H) (s:aM H H'):TM CT x d m p w f N et em H' :=
 ⟨t.tb.same s,s _ _ t.md,t.hh.same s,t.ne⟩
theorem Tab.kd {CT x d m:Addr}{w f:Int}{es em:List (Int×Str)}{H H':Hp}(t:Tab CT H x d w f es) (hm:H m=some (.dK (eV em))) (ne:m≠d) (k:Kd H H' m):Tab CT H' x d w f es:=by
 obtain⟨dx,ho⟩:=t.ob
 exact⟨⟨dx,k _ _ (cX ho hm (by intro z;cases z)) ho⟩,k _ _ ne.symm t.dc,t.ok,t.sz⟩
def mW (K:W.Frag):Sp:=fun vs H Q _=>∃(R:Int),vs=[.int R]/\1<=R/\R<=2^60/\(R=1->Q .non H)/\(R≠1->∀p,H p=none->Q (.ref p) (upd H p (.tup [.int (R-1),.int (R-1-2^lg (R-1))])))
theorem TM.mono {CT x d m p:Addr}{w f:Int}{N M:Nat}{et em:List (Int×Str)}{H:Hp}(t:TM CT x d m p w f N et em H) (h:N<=M):TM CT x d m p w f M et em H:=⟨t.tb,t.md,t.hh.mono h,t.ne⟩
theorem JO {t u:L2.TT}{σ:L2.St}{H:Hp}{R:Bool->Hp->Prop}(A B:Hp->Prop) (h:∀R':Bool->Hp->Prop,(∀H',A H'->R' true H')->(∀H',B H'->R' false H')->QU t u σ H R') (a:∀H',A H'->R true H') (b:∀H',B H'->R false H'):QU t u σ H R:=h R a b
def iX (K:W.Frag) (CT:Addr):Sp:=fun vs H Q E=>∃(p d:Addr) (w f:Int) (es:List (Int×Str)) (kv:V),vs=[.ref p,kv]/\Tab CT H p d w f es/\Pl H kv/\((∃k,kv = .int k/\k∈es.map (·.1)/\Q .non H) \/(eO kv=false/\Rz K E "NoKey" kv H) \/(∃k,kv = .int k/\eO kv=true/\k∉es.map (·.1)/\Rz K E "Lacking" kv H))
def kj (K:W.Frag) (CT:Addr):Sp:=fun vs H Q E=>∃(p d:Addr) (w f:Int) (es:List (Int×Str)) (kv:V),vs=[.ref p,kv]/\Tab CT H p d w f es/\Pl H kv/\((∃k,kv = .int k/\k∈es.map (·.1) /\
 ∀r H',Tab CT H' p d w f (cT es k)->Kd H H' d->Q r H') \/(eO kv=false/\Rz K E "NoKey" kv H) \/(∃k,kv = .int k/\eO kv=true/\k∉es.map (·.1)/\Rz K E "Lacking" kv H))
theorem Tab.kv {CT:Addr}{H:Hp}{p d:Addr}{w f:Int}{es:List (Int×Str)}(t:Tab CT H p d w f es) {k:Int}(hk:k∈es.map (·.1)):eO (.int k)=true:=by
 obtain⟨e,em,rfl⟩:=List.mem_map.mp hk
 have:=t.ok.2.1 e em
 exact qU this.1 this.2.1
def vv (k:Int) (r:List Int):Bool:=match r.getLast? with
 | none=>false
 | some x=>decide (k<=x)
def qX (k:Int) (r:List Int):Prop:=vv k r=true
theorem EV {k x:Int}{r:List Int}(h:r.getLast? = some x) (d:k<=x):qX k r:=by
 unfold qX vv;rw[h];exact decide_eq_true d
theorem yb {k:Int}{r:List Int}(h:qX k r):∃x,r.getLast? = some x/\k<=x:=by
 unfold qX vv at h
 cases e:r.getLast? with
 | none=>rw[e]at h;cases h
 | some x=>rw[e]at h;exact⟨x,rfl,of_decide_eq_true h⟩
def fz (k:Int):List (List Int)->Bool×Int
 | []=>(false,0)
 | r::rs=>if vv k r=true then(decide (k∈r),1) else((fz k rs).1,(fz k rs).2+1)
theorem zW {k:Int}{r:List Int}{rs:List (List Int)}(h:qX k r):fz k (r::rs) =(decide (k∈r),1):=by
 rw[fz];exact if_pos h
theorem zh {k:Int}{r:List Int}{rs:List (List Int)}(h:¬ qX k r):fz k (r::rs) =((fz k rs).1,(fz k rs).2+1):=by
 rw[fz];exact if_neg h
def uy (K:W.Frag):Sp:=fun vs H Q _=>∃(l:Addr) (k:Int) (rs:List (List Int)),vs=[.ref l,.int k]/\RL H l rs/\rs.length<=500 /\
 ∀t H',H t=none->H' t=some (.tup [.bl (fz k rs).1,.int (fz k rs).2])->aM H H'->Q (.ref t) H'
theorem Ls.of {H:Hp}:∀{as:List Addr}{rs:List (List Int)},as.length=rs.length->(∀(i:Nat) (a:Addr) (r:List Int),as[i]? = some a->rs[i]? = some r->H a=some (.lst (r.map V.int)))->Ls H as rs
 | [],[],_,_=>trivial
 | [],_::_,l,_=>by cases l
 | _::_,[],l,_=>by cases l
 | a::as,r::rs,l,h=>⟨h 0 a r rfl rfl,Ls.of (by simpa using l) fun i a' r' e1 e2=>h (i+1) a' r' (by simpa using e1) (by simpa using e2)⟩
theorem Qp {H0 H:Hp}{l:Addr}{ms:List Int}{w:Nat}(h:DX H0 H l (iz (ms.map V.int) w)):RL H l (gQ ms w):=by
 obtain⟨as,h1,h2,h3,_⟩:=h
 rw[xU,<- tM]at h2 h3
 rw[List.length_map]at h2
 exact⟨as,h1,Ls.of h2 fun i a r e1 e2=>h3 i a _ e1 (by rw[List.getElem?_map,e2];rfl)⟩
def qg (K:W.Frag):Sp:=fun vs H Q _=>∃(a:Addr) (ns:List Int) (w:Nat),vs=[.ref a,.int w]/\H a=some (.lst (ns.map V.int))/\ns.length<=200/\1<=w/\w<=8 /\
 ∀(ms:List Int) (l:Addr) (H':Hp),ms.Perm ns->ms.Pairwise (· <= ·)->H l=none->DX H H' l (iz (ms.map V.int) w)->aM H H'->Q (.ref l) H'
def pR (K:W.Frag) (CT:Addr):Sp:=fun vs H Q E=>∃(p d:Addr) (w:Nat) (f:Int) (es:List (Int×Str)) (kv:V),vs=[.ref p,kv]/\Tab CT H p d w f es/\Pl H kv/\((∃k,kv = .int k/\0<=k/\k<1152921504606846976 /\
 ∀(b:V) (n:Int) (t:Addr) (H':Hp),H' t=some (.tup [b,.int n])->aM H H'->Q (.ref t) H') \/(eO kv=false/\Rz K E "NoKey" kv H))
def tH (K:W.Frag) (CT:Addr):Sp:=fun vs H Q E=>∃(p d:Addr) (w:Nat) (f:Int) (es:List (Int×Str)) (kv:V),vs=[.ref p,kv]/\Tab CT H p d w f es/\Pl H kv/\((∃k,kv = .int k/\k∈es.map (·.1) /\
 ∀(n:Int) (t:Addr) (H':Hp),H' t=some (.tup [.str (uI es k),.int n])->aM H H'->Q (.ref t) H') \/(eO kv=false/\Rz K E "NoKey" kv H) \/(∃k,kv = .int k/\eO kv=true/\k∉es.map (·.1)/\Rz K E "Lacking" kv H))
theorem H_ {es:List (Int×Str)}{k:Int}{z:Str}(hk:k∈es.map (·.1)):bZ es k z=es.map fun e=>if e.1=k then(e.1,z) else e:=by
 unfold bZ;rw[if_pos (pG.mpr hk)]
theorem lZ {es:List (Int×Str)}{k:Int}{z:Str}(hk:k∉es.map (·.1)):bZ es k z=es ++ [(k,z)]:=by
 unfold bZ;rw[if_neg fun h=>hk (pG.mp h)]
theorem C8 {es:List (Int×Str)}{k:Int}:k∉(cT es k).map (·.1):=by
 rw[kW]
 intro h
 simpa using (List.mem_filter.mp h).2
theorem Wx {H0 H':Hp}{p D:Addr}{N M:Nat}{ys:List V}(c:CK H0 p D N ys H') (h:N<=M):CK H0 p D M ys H':=⟨c.hh.mono h,c.lat,c.kp,c.n0,c.np,c.nc⟩
theorem Vj {H H':Hp}{p:Addr}{N:Nat}(hh:Hand H p N) (k:Kp H H' p):∀t xs,H t=some (.tup xs)->H' t=some (.tup xs):=fun t xs e=>by
 obtain⟨l,d,c,ns,h1,_⟩:=hh.ex
 exact k.1 _ _ e (cX e h1 (by intro z;cases z))
def fc (K:W.Frag) (cs:List Addr):Bool:=(cs.all fun c=>cs.all fun d=>W.kitOne K (.ref c) (.ref d) == some (c == d)) && decide cs.Nodup
def nj (K:W.Frag) (cs:List Addr):Bool:=cs.all fun c=>W.kitOne K (.ref c) (.type "ValueError") == some true
theorem fc.at {K:W.Frag}{cs:List Addr}(h:fc K cs=true) {c d:Addr}(hc:c∈cs) (hd:d∈cs):W.kitOne K (.ref c) (.ref d)=some (c == d):=by
 unfold fc at h
 rw[Bool.and_eq_true]at h
 exact eq_of_beq (List.all_eq_true.mp (List.all_eq_true.mp h.1 c hc) d hd)
theorem fc.nd {K:W.Frag}{cs:List Addr}(h:fc K cs=true):cs.Nodup:=by
 unfold fc at h
 rw[Bool.and_eq_true]at h
 exact of_decide_eq_true h.2
theorem nj.at {K:W.Frag}{cs:List Addr}(h:nj K cs=true) {c:Addr}(hc:c∈cs):W.kitOne K (.ref c) (.type "ValueError")=some true:=eq_of_beq (List.all_eq_true.mp h c hc)
theorem kD {cs:List Addr}{i j:Nat}{c d:Addr}(nd:cs.Nodup) (hi:cs[i]? = some c) (hj:cs[j]? = some d) (n:i≠j):c≠d:=by
 intro z
 subst z
 exact n ((List.getElem?_inj (List.getElem?_eq_some_iff.mp hi).1 nd).mp (hi.trans hj.symm))
def Pw:List Str:=["NoKey", "NoThing", "Full", "Lacking", "NoRoom", "NoSize"]
def Vt:List Str:=["key", "thing", "full", "lacking", "room", "size"]
theorem NS {cs:List Addr}{k:Nat}{C:Addr}(hl:cs.length=6) (nd:cs.Nodup) (hk:cs[k]? = some C):(cs.map fun c=>C == c) =(List.range 6).map fun j=>decide (j=k):=by
 apply List.ext_getElem?
 intro i
 rw[List.getElem?_map,List.getElem?_map]
 by_cases hi:i<6
 ·rw[List.getElem?_eq_getElem (l:=cs) (by omega),List.getElem?_range hi]
  show some (C == cs[i])=some (decide (i=k))
  obtain⟨kl,ke⟩:=List.getElem?_eq_some_iff.mp hk
  by_cases e:i=k
  ·subst e
   rw[ke]
   simp
  ·have ne:C≠cs[i]:=fun z=>e ((List.getElem?_inj (by omega) nd).mp (by rw[hk,List.getElem?_eq_getElem (by omega),z]))
   rw[beq_eq_false_iff_ne.mpr ne,decide_eq_false e]
 ·rw[List.getElem?_eq_none (l:=cs) (by omega),List.getElem?_eq_none (by simp;omega)];rfl
theorem NC:∀k:Nat,k<6->((List.range 6).map fun j=>decide (j=k)).count true=1/\((List.range 6).map fun j=>decide (j=k)).idxOf true=k/\true∈(List.range 6).map fun j=>decide (j=k):=by decide
def kr (K:W.Frag):Sp:=fun vs H Q _=>∃(e C:Addr) (i:Nat) (x sx:Str),vs=[.ref e]/\Pw[i]? = some x/\Vt[i]? = some sx/\W.nsIn K mainGlobals x=some (some (.ref C))/\vG H e C/\u6 K C/\∀H',aM H H'->Q (.str sx) H'
theorem Pl.keep {H H':Hp}{x:V}(h:Pl H x) (s:∀a,x = .ref a->∀o,H a=some o->H' a=some o):Pl H' x:=by
 cases h with
 | non=>exact .non
 | bl b=>exact .bl b
 | int i=>exact .int i
 | str z h h2=>exact .str z h h2
 | lst e=>exact .lst (s _ rfl _ e)
 | tup e=>exact .tup (s _ rfl _ e)
 | dic e=>exact .dic (s _ rfl _ e)
theorem Pl.plain {H:Hp}{x:V}(h:Pl H x):vL x=true:=by cases h <;> rfl
inductive Ask (es:List (Int×Str)) (R:Nat):Int->V->V->Nat->V->Prop
 | pkey {v t}:eO v=false->Ask es R 0 v t 0 v
 | pthing {v t}:eO v=true->nameV t=false->Ask es R 0 v t 1 t
 | pfull {k z}:0<=k->k<1152921504606846976->nm z->k∉es.map (·.1)->es.length=64->Ask es R 0 (.int k) (.str z) 2 (.int 64)
 | dkey {v t}:eO v=false->Ask es R 1 v t 0 v
 | dlack {k t}:eO (.int k)=true->k∉es.map (·.1)->Ask es R 1 (.int k) t 3 (.int k)
 | fkey {v t}:eO v=false->Ask es R 2 v t 0 v
 | flack {k t}:eO (.int k)=true->k∉es.map (·.1)->Ask es R 2 (.int k) t 3 (.int k)
 | lkey {v t}:eO v=false->Ask es R 3 v t 0 v
 | room {v t}:KJ R v->Ask es R 4 v t 4 v
def kd (i:Nat):Str:=Vt.getD i "size"
def we (K:W.Frag) (CT:Addr):Sp:=fun vs H Q _=>∃(x d:Addr) (w:Nat) (f:Int) (es:List (Int×Str)) (way:Int) (kv tv:V),vs=[.ref x,.int way,kv,tv]/\Tab CT H x d w f es/\Pl H kv/\Pl H tv /\
 ((∃i v,Ask es (cJ es f) way kv tv i v/\∀t H',H' t=some (.tup [.str (kd i),v])->aM H H'->Q (.ref t) H') \/
 (∃k z,way=0/\kv = .int k/\tv = .str z/\0<=k/\k<1152921504606846976/\nm z/\(k∈es.map (·.1)\/es.length<64)/\∀t H',H' t=some (.tup [.str "told",.non])->Tab CT H' x d w f (bZ es k z)->Kd H H' d->Q (.ref t) H') \/
 (∃k,way=1/\kv = .int k/\k∈es.map (·.1)/\∀t H',H' t=some (.tup [.str "told",.non])->Tab CT H' x d w f (cT es k)->Kd H H' d->Q (.ref t) H'))
def kL (K:W.Frag):Sp:=fun vs H Q _=>∃(t t':Addr) (sx:Str) (v:V),vs=[.ref t,.ref t']/\H t=some (.tup [.str sx,v])/\H t'=some (.tup [.str sx,v])/\Pl H v/\Q (.bl true) H
def WX (es:List (Int×Str)) (f:Int) (w:Nat) (ms:List Int) (M:Int):PyData :=
 .tuple [.int es.length,.int (cJ es f),.list ((ms.map fun k=>(k,uI es k)).map pE),.list [ko (ue es f w ms 0),ko (ue es f w ms (cJ es f-1)),ko (ue es f w ms (cJ es f / 2))],.int (kN (Q6 es f ms) w).sum,.tuple [.int M,.int ((d8 (Q6 es f ms) w).idxOf M:Nat)]]
def Old (H:Hp) (a:Addr):Prop:=∃o,H a=some o/\∀xs,o ≠ .tup xs
theorem Old.same {H H':Hp}{a:Addr}(h:Old H a) (s:aM H H'):Old H' a:=by
 obtain⟨o,h1,h2⟩:=h
 exact⟨o,s _ _ h1,h2⟩
theorem Old.ne {H:Hp}{a b:Addr}(h:Old H a) (n:H b=none):b≠a:=by
 obtain⟨o,h1,_⟩:=h
 exact(ay h1 n).symm
theorem Old.tp {H:Hp}{a b:Addr}{xs:List V}(h:Old H a) (n:H b=some (.tup xs)):hid a H b=some (.tup xs):=by
 obtain⟨o,h1,h2⟩:=h
 rw[eE (cX n h1 fun e=>h2 _ e.symm)];exact n
def r_ (K:W.Frag) (CT:Addr):Sp:=fun vs H Q _=>∃(p d:Addr) (w:Nat) (f:Int) (es:List (Int×Str)),vs=[.ref p]/\Tab CT H p d w f es /\
 ∀(ms:List Int) (M:Int) (t:Addr) (H':Hp),ms.Perm (es.map (·.1))->ms.Pairwise (· <= ·)->Bb M (d8 (Q6 es f ms) w)->(∀a,Old H a->GD K (hid a H') 6 (.ref t) (WX es f w ms M))->aM H H'->Q (.ref t) H'
theorem vD {K:W.Frag}{H H':Hp}{l a:Addr}{ts:List Addr}{es:List (Int×Str)}{w:Nat}(el:EL H' ts es) (nl:H l=none) (rn:DX H H' l (iz (ts.map V.ref) w)) (s:aM H H') (ha:Old H a):GD K (hid a H') 3 (.ref l) (ko (gQ es w)):=by
 obtain⟨as,g1,g2,g3,_,g5⟩:=rn
 have ha':=ha.same s
 have elh:EL (hid a H') ts es:=el.keep fun t xs e=>ha'.tp e
 have hR:RG (hid a H') l (iz (ts.map V.ref) w):=⟨as,by rw[eE (ha.ne nl)];exact g1,g2,fun k c xs c1 c2=>by rw[eE (ha.ne (g5 c (List.mem_of_getElem? c1)).1)];exact g3 k c xs c1 c2⟩
 have gR:=hR.gd (K:=K) fun xs hx v hv=>elh.en v (B7 hx hv)
 rw[Ke elh]at gR
 exact gR
def iU (K:W.Frag):Sp:=fun vs H Q _=>∃(p:Addr) (N:Nat),vs=[.ref p]/\Hand H p N/\N+10<2^60 /\
 ∀(v:V) (H':Hp),Pl (hid p H') v->eO v=false->Hand H' p (N+3)->Kp H H' p->Q v H'
def gg (K:W.Frag):Sp:=fun vs H Q _=>∃(p:Addr) (N:Nat) (z:Str),vs=[.ref p,.str z]/\Hand H p N/\N+10<2^60/\nm z /\
 ∀(v:V) (H':Hp),Pl (hid p H') v->nameV v=false->Hand H' p (N+3)->Kp H H' p->Q v H'
theorem Kp.hid {H H':Hp}{p:Addr}(k:Kp H H' p):aM (hid p H) (hid p H'):=fun b o e=>by
 by_cases c:b=p
 ·unfold Law.hid at e;rw[if_pos c]at e;cases e
 ·rw[eE c]at e ⊢;exact k.1 _ _ e c
theorem Pl.at {H:Hp}{p a:Addr}(n:a≠p) (h:Pl H (.ref a)):Pl (hid p H) (.ref a):=h.keep fun b e o ho=>by cases e;rw[eE n];exact ho
theorem Jq {z:Str}{n:Nat}{i:Int}(h1:z.cps.size=n) (h2:(z.cps.all fun c=>decide (c<128) && !letter c)=true) (i0:0<=i) (i1:i<n):∃c,sZ z.cps.toList i=some c/\c<128/\letter c=false:=by
 obtain⟨k,rfl⟩ : ∃k:Nat,i =(k:Int):=⟨i.toNat,by omega⟩
 have hk:k<z.cps.size:=by omega
 have:=Array.all_eq_true.mp h2 k hk
 rw[Bool.and_eq_true]at this
 exact⟨z.cps[k],fE (by simp[hk]),by simpa using this.1,by simpa using this.2⟩
theorem DG {z:Str}{c:Nat}(h:c∈z.cps) (hc:letter c=false):nameV (.str z)=false:=by
 show qB z=false
 unfold qB
 have e:z.cps.toList.all letter=false:=Bool.eq_false_iff.mpr fun e=>by
  have:=List.all_eq_true.mp e c (by simpa using h)
  rw[hc]at this
  cases this
 rw[e,Bool.and_false]
def m_ (H:Hp) (es:List (Int×Str)) (R:Nat) (t:Addr):Prop:=∃way kv tv due i v,H t=some (.tup [.int way,kv,tv,.ref due])/\H due=some (.tup [.str (kd i),v])/\Ask es R way kv tv i v/\Pl H kv/\Pl H tv/\Pl H v
theorem m_.same {H H':Hp}{es:List (Int×Str)}{R:Nat}{t:Addr}(h:m_ H es R t) (s:aM H H'):m_ H' es R t:=by
 obtain⟨way,kv,tv,due,i,v,h1,h2,a,p1,p2,p3⟩:=h
 exact⟨way,kv,tv,due,i,v,s _ _ h1,s _ _ h2,a,p1.same s,p2.same s,p3.same s⟩
def V2 (p D:Addr) (H:Hp):Hp:=hid p (hid D H)
theorem V2.same {p D:Addr}{H H':Hp}(s:aM H H'):aM (V2 p D H) (V2 p D H'):=cz (cz s)
theorem V2.le {p D:Addr}{H:Hp}:aM (V2 p D H) (hid p H):=cz jz
theorem V2.kp {p D:Addr}{H H':Hp}(k:Kp H H' p):aM (V2 p D H) (V2 p D H'):=fun b o e=>by
 unfold V2 at e ⊢
 by_cases c:b=p
 ·unfold hid at e;rw[if_pos c]at e;cases e
 rw[eE c]at e ⊢
 by_cases c2:b=D
 ·unfold hid at e;rw[if_pos c2]at e;cases e
 rw[eE c2]at e ⊢
 exact k.1 _ _ e c
theorem V2.push {p D:Addr}{H:Hp}{o:HO}:V2 p D (L2.upd H D o)=V2 p D H:=by unfold V2;rw[AW]
theorem V2.start {p D:Addr}{H:Hp}{o:HO}(n:H D=none):aM (hid p H) (V2 p D (L2.upd H D o)):=by
 refine cz fun b o' e=>?_
 rw[AW,eE (ay e n)]
 exact e
theorem V2.tup {p D t:Addr}{H:Hp}{xs ys zs:List V}(hp:H p=some (.lst ys)) (hD:H D=some (.lst zs)) (h:H t=some (.tup xs)):V2 p D H t=some (.tup xs):=by
 unfold V2
 rw[eE (cX h hp (by intro z;cases z)),eE (cX h hD (by intro z;cases z))];exact h
theorem AV {p t:Addr}{H:Hp}{N:Nat}{xs:List V}(hh:Hand H p N) (h:H t=some (.tup xs)):hid p H t=some (.tup xs):=by
 obtain⟨l,d,c,ns,h1,_⟩:=hh.ex
 rw[eE (cX h h1 (by intro z;cases z))];exact h
theorem CK.tup {H0 H:Hp}{p D t:Addr}{N:Nat}{ys xs:List V}(c:CK H0 p D N ys H) (h:H t=some (.tup xs)):V2 p D H t=some (.tup xs):=by
 obtain⟨l,d,k,ns,h1,_⟩:=c.hh.ex
 exact V2.tup h1 c.lat h
def iT (K:W.Frag) (CT:Addr):Sp:=fun vs H Q _=>∃(x d m p:Addr) (w:Nat) (f:Int) (N:Nat) (es:List (Int×Str)) (z:Str),vs=[.ref x,.ref p,.ref m,.str z]/\TM CT x d m p w f N es es H/\nm z/\N+200<2^60 /\
 ∀H',Hand H' p (N+150)->Kp H H' p->Q (.bl true) H'
def mK (K:W.Frag) (CT:Addr):Sp:=fun vs H Q _=>∃(x d m p:Addr) (w:Nat) (f:Int) (N:Nat) (es:List (Int×Str)) (z:Str),vs=[.ref x,.ref p,.ref m,.str z]/\TM CT x d m p w f N es es H/\nm z/\N+200<2^60 /\
 ∀es' H',TM CT x d m p w f (N+150) es' es' H'->K4 H H' p d m->Q (.bl true) H'
theorem six {a b c d e f:Addr}{P:Addr->Prop}{g:Int}(h0:0<=g) (h1:g<6) (ha:P a) (hb:P b) (hc:P c) (hd:P d) (he:P e) (hf:P f):∃o,sZ ([V.ref a,V.ref b,V.ref c] ++ [V.ref d,V.ref e,V.ref f]) g=some (.ref o)/\P o:=by
 have h:g=0\/g=1\/g=2\/g=3\/g=4\/g=5:=by omega
 rcases h with rfl|rfl|rfl|rfl|rfl|rfl
 ·exact⟨a,rfl,ha⟩
 ·exact⟨b,rfl,hb⟩
 ·exact⟨c,rfl,hc⟩
 ·exact⟨d,rfl,hd⟩
 ·exact⟨e,rfl,he⟩
 ·exact⟨f,rfl,hf⟩
theorem f_ {K:W.Frag}{H:Hp}{t:Addr}(h:H t=some (.tup [.str "told",.non])):GD K H 1 (.ref t) (.tuple [.str "told",.none]):=GD.tup h (.cons (GD.str (by z_go)) (.cons ⟨.non,rfl,by simp[PyData.depth]⟩ .nil))
theorem AD {K:W.Frag}{H:Hp}{t:Addr}{z:Str}{k:Int}(hz:PyData.strOk z=true) (h:H t=some (.tup [.str z,.int k])):GD K H 1 (.ref t) (.tuple [.str z,.int k]):=GD.tup h (.cons (GD.str hz) (.cons (.int _) .nil))
theorem Pl.es {H:Hp}:Pl H (.str (Str.ofString "")):=.str _ (by z_go) (by z_go)
theorem Au {n i:Nat}{pl:Int}(h:(gq 1 n)[i]? = some pl):pl=1+(i:Int)/\i<n:=by
 have hi:=(List.getElem?_eq_some_iff.mp h).1
 unfold gq at h hi
 rw[List.length_map,List.length_range]at hi
 rw[List.getElem?_map,List.getElem?_range hi]at h
 exact⟨(Option.some.inj h).symm,hi⟩
section
variable (P:Program)(w:World)(K:W.Frag)(mg:Str -> Option Value)(base:Heap)
abbrev G8(CT:Addr):=gW P w K mg base CT "rooms" kg 2 (qo K CT)
abbrev Ii:=bT P w K mg base "_law_draw" FP 1 (vm K)
abbrev Qu(CT:Addr):=gW P w K mg base CT "spread_keys" Dq 6 (jU K CT)
abbrev P7:=bT P w K mg base "_law_key" rH 3 (xT K)
abbrev QT(CT:Addr):=gW P w K mg base CT "count" kg 1 (qR K CT)
abbrev Q2(CT:Addr):=bT P w K mg base "_law_done" UN 9 (we K CT)
abbrev Tp(CT:Addr):=fu P w K mg base CT "ask_standing" wg 4 (iX K CT)
abbrev QX:=wZ P w K mg base "ask_key" ["key"] 3 (Ah K)
abbrev VI(CT:Addr):=gW P w K mg base CT "room_counts" kg 7 (jN K CT)
abbrev QZ:=bT P w K mg base "rows_for" oR 1 (w6 K)
abbrev Jf:=bT P w K mg base "is_whole" pH 1 (xB K)
abbrev NT(CT:Addr):=gW P w K mg base CT "entries" kg 1 (nW K CT)
abbrev HW:=bT P w K mg base "level" gY 1 (D6 K)
abbrev MA(CT:Addr):=fu P w K mg base CT "looks" wg 7 (pR K CT)
abbrev Ot(CT:Addr):=bT P w K mg base "_law_state" NV 9 (r_ K CT)
abbrev KI:=bT P w K mg base "turn" gY 2 (Ja K)
abbrev M7(CT:Addr):=fu P w K mg base CT "room" MT 7 (sJ K CT)
abbrev Nb(CT:Addr):=fu P w K mg base CT "find" wg 8 (tH K CT)
abbrev Ml(CT:Addr):=fu P w K mg base CT "put" M4 7 (uT K CT)
abbrev LU:=bT P w K mg base "cut_rows" yI 2 (yg K)
end
section
variable {P:Program}{w:World}{K:W.Frag}{mg:Str->Option Value}{base:Heap}
theorem wN {f:Addr}{fd:FuncData}(F:cR K "is_whole" "is_whole" ly f fd) (mF:mg "is_whole" = some (.ref f)) (bF:Binds K fd pH []) (T:Bl mg)  : Jf P w K mg base:=by
 refine bT.of F mF bF xZ (fun vs H Q E h=>?_) (fun _ A _ _ H vs Q E hr h=>?_)
 ·obtain⟨x,rfl,_⟩:=h;rfl
 obtain⟨x,rfl,hx,q⟩:=h
 refine⟨_,(av (aF (ni (aL e8 rfl T.isinstance bA (af (pv 0) (af (j9 (v:=.ty "int") rfl T.int As rfl) aj ah) ah)) (pU (Ny (aL e8 rfl T.isinstance bA (af (pv 0) (af (j9 (v:=.ty "bool") rfl T.bool ve rfl) aj ah) ah))))))),?_⟩
 rw[w9]
 x_go
 obtain⟨t1,ty1,k1⟩:=KH (K:=K) hx
 obtain⟨t2,ty2,k2⟩:=xj (K:=K) hx
 refine qz ty1 k1 ?_
 cases x <;> (x_go) <;> first|exact q|(refine qz ty2 k2 ?_;x_go;exact q)
theorem Cn {f:Addr}{fd:FuncData}(F:cR K "is_key" "is_key" rR f fd) (mF:mg "is_key" = some (.ref f)) (bF:Binds K fd pH []) (T:Bl mg) (cO:Jf P w K mg base):bT P w K mg base "is_key" pH 2 (uh K):=by
 refine bT.of F mF bF BI (fun vs H Q E h=>?_) (fun _ A _ _ H vs Q E hr h=>?_)
 ·obtain⟨x,rfl,_⟩:=h;rfl
 obtain⟨x,rfl,hx,q⟩:=h
 refine⟨_,(av (aF (ni (cI cO hr.mo (af (pv 0) aj ah)) (pU (mP pM oj au (pv 0) (di (c:=1152921504606846976) (by z_go) ⟨by decide,by decide,by decide⟩)))))),?_⟩
 rw[CJ]
 x_go
 refine⟨x,rfl,hx,?_⟩
 x_go
 cases x with
 | int i =>
  unfold lP
  x_go
  have q:Q (.bl (decide (0<=i) && decide (i<1152921504606846976))) H:=q
  by_cases c:0<=i
  ·rw[decide_eq_true c]at q ⊢
   x_go
   exact q
  ·rw[decide_eq_false c]at q ⊢
   x_go
   exact q
 | _=>unfold lP;x_go;exact q
theorem zj {f:Addr}{fd:FuncData}(F:cR K "is_name" "is_name" jX f fd) (mF:mg "is_name" = some (.ref f)) (bF:Binds K fd pH []) (T:Bl mg)  : bT P w K mg base "is_name" pH 1 (qw K):=by
 refine bT.of F mF bF yj (fun vs H Q E h=>?_) (fun _ A _ _ H vs Q E hr h=>?_)
 ·obtain⟨x,rfl,_⟩:=h;rfl
 obtain⟨x,rfl,hx,q⟩:=h
 refine⟨_,(av (aF (ni (aL e8 rfl T.isinstance bA (af (pv 0) (af (j9 (v:=.ty "str") rfl T.str MQ rfl) aj ah) ah)) (ni (mP pM pM au (aL nB rfl T.len dW (af (pv 0) aj ah)) au) (pU (aL (BE rfl) rfl T.all Nf (af (j_ rfl (mO (sc:=aq jX) (N:=pH) (vs:=["sign"]) (fs:=[]) (js:=[]) (by z_go) rfl rfl) (Nc (pv 0)) (fun _ _ _ _=>bO (i:=0) (show(["sign"]:List Str).Nodup by z_go) rfl (Or.inl rfl)) (fun _ _ _ _=>vt) (fun _ _ _ _=>(mP tT tT aW (pv 0) aW))) aj fB))))))),?_⟩
 rw[yr]
 x_go
 obtain⟨t1,ty1,k1⟩:=IS (K:=K) hx
 refine qz ty1 k1 ?_
 cases x with
 | str z =>
  obtain⟨hz,hc⟩ : z.length<=1000/\∀c∈z.cps,c<128:=by cases hx with|str _ h h2=>exact⟨h,h2⟩
  have q:∀H',aM H H'->Q (.bl (qB z)) H':=q
  x_go
  refine vX (Nat.le_of_lt (bf hz)) ?_
  x_go
  unfold qB at q
  by_cases c1:(1:Int) <=(z.length:Int)
  ·rw[decide_eq_true c1]at q ⊢
   x_go
   by_cases c2:(z.length:Int)<=8
   ·rw[decide_eq_true c2]at q ⊢
    x_go
    refine⟨z,rfl,fun D nD=>?_⟩
    refine Fl (fun i σ' ys H'=>(∃x,σ'=[x])/\ys =((z.cps.toList.take i).map letter).map V.bl/\aM H H'/\H' D=some (.lst ys)) D ?_ ?_ ?_
    ·exact⟨⟨_,rfl⟩,rfl,aT nD _,aA⟩
    ·rintro i c σ' ys H' hi ⟨⟨y,rfl⟩,rfl,g1,g2⟩
     have Cy:=hc c (Array.mem_of_getElem? hi)
     have lsz:(((z.cps.toList.take i).map letter).map V.bl).length<sizeLine:=by
      rw[List.length_map,List.length_map,List.length_take,KL]
      exact bf (by omega)
     have fin:∀b:Bool,b=letter c->H' D=some (.lst (((z.cps.toList.take i).map letter).map V.bl))/\(((z.cps.toList.take i).map letter).map V.bl).length<sizeLine /\
       ((∃x,[some (V.str ⟨#[c]⟩)]=[x])/\((z.cps.toList.take i).map letter).map V.bl ++ [V.bl b] =((z.cps.toList.take (i+1)).map letter).map V.bl/\aM H (upd H' D (.lst (((z.cps.toList.take i).map letter).map V.bl ++ [V.bl b]))) /\
       (upd H' D (.lst (((z.cps.toList.take i).map letter).map V.bl ++ [V.bl b]))) D=some (.lst (((z.cps.toList.take i).map letter).map V.bl ++ [V.bl b]))):=by
      rintro b rfl
      refine⟨g2,lsz,⟨_,rfl⟩,(BD hi).symm,fun b o e=>?_,aA⟩
      rw[az (ay e nD)];exact g1 _ _ e
     x_go
     rw[show((⟨#[c]⟩ : Str).cps.toList)=[c] from rfl,Mx c Cy]
     by_cases d1:97<=c
     ·rw[decide_eq_true d1]
      x_go
      rw[show((⟨#[c]⟩ : Str).cps.toList)=[c] from rfl,MY c Cy]
      exact fin _ (by unfold letter;rw[decide_eq_true d1];rfl)
     ·rw[decide_eq_false d1]
      x_go
      exact fin _ (by unfold letter;rw[decide_eq_false d1];rfl)
    ·rintro σ' ys H' ⟨⟨y,rfl⟩,rfl,g1,g2⟩
     x_go
     refine Jg (bN.of g2) ?_
     rw[take_all,w5]
     exact q _ g1
   ·rw[decide_eq_false c2]at q ⊢
    x_go
    exact q _ (aM.refl _)
  ·rw[decide_eq_false c1]at q ⊢
   x_go
   exact q _ (aM.refl _)
 | _=>x_go;exact q _ (aM.refl _)
theorem yM {f:Addr}{fd:FuncData}(F:cR K "is_size" "is_size" nR f fd) (mF:mg "is_size" = some (.ref f)) (bF:Binds K fd pH []) (T:Bl mg) (cO:Jf P w K mg base):bT P w K mg base "is_size" pH 2 (rN K):=by
 refine bT.of F mF bF zI (fun vs H Q E h=>?_) (fun _ A _ _ H vs Q E hr h=>?_)
 ·obtain⟨m,rfl,_⟩:=h;rfl
 obtain⟨m,rfl,h0,h1,q⟩:=h
 refine⟨_,(av (aF (ni (cI cO hr.mo (af (pv 0) aj ah)) (pU (mP pM pM au (pv 0) au))))),?_⟩
 rw[zN]
 x_go
 refine⟨_,rfl,.int m,?_⟩
 rw[show lP (.int m)=true from rfl]
 x_go
 rw[decide_eq_true h0]
 x_go
 rw[decide_eq_true h1]
 exact q
theorem uZ {f:Addr}{fd:FuncData}(F:cR K "ask_sizes" "ask_sizes" jo f fd) (mF:mg "ask_sizes" = some (.ref f)) (bF:Binds K fd Cb []) (T:Bl mg) {TE:Addr}{bB:Addr}(dS:ir K mg "NoSize" bB TE "thing")   (j7:bT P w K mg base "is_size" pH 2 (rN K)):bT P w K mg base "ask_sizes" Cb 3 (m9 K):=by
 refine bT.of F mF bF vh (fun vs H Q E h=>?_) (fun _ A _ _ H vs Q E hr h=>?_)
 ·obtain⟨w,f,rfl,_⟩:=h;rfl
 obtain⟨w,f,rfl,w1,w2,f1,f2,q⟩:=h
 refine⟨_,(ao (bU (gI (iA (cI j7 hr.mo (af (pv 0) aj ah)))) (av AZ) aY)
   (av (bU (gI (iA (cI j7 hr.mo (af (pv 1) aj ah)))) (av AZ) aY))),?_⟩
 rw[uO]
 x_go
 refine⟨w,rfl,w1,w2,?_⟩
 x_go
 refine⟨f,rfl,f1,f2,?_⟩
 x_go
 exact q
theorem ze {f:Addr}{fd:FuncData}(F:cR K "ask_key" "ask_key" ny f fd) (mF:mg "ask_key" = some (.ref f)) (bF:Binds K fd ["key"] []) (T:Bl mg) {TE:Addr}{bK:Addr}(bC:ir K mg "NoKey" bK TE "key")   (q_:bT P w K mg base "is_key" pH 2 (uh K)):QX P w K mg base:=by
 refine wZ.of F mF bF yq (fun vs H Q E h=>?_) (fun _ A _ _ H vs Q E hr h=>?_)
 ·obtain⟨v,rfl,_⟩:=h;rfl
 obtain⟨v,rfl,pv',h⟩:=h
 refine⟨_,(av (bU (gI (iA (cI q_ hr.mo (af (pv 0) aj ah)))) (av (gO (k:=0) b8 bC.cls hr.mo rfl bC.mg (af (pv 0) aj ah))) aY)),?_⟩
 rw[yE]
 x_go
 refine⟨v,rfl,pv',?_⟩
 rcases h with⟨hk,q⟩|⟨hk,q⟩
 ·rw[hk]
  x_go
  exact q
 ·rw[hk]
  x_go
  exact⟨_,rfl,fun u ru=>q u _ ru bC.nm⟩
theorem vI {f:Addr}{fd:FuncData}(F:cR K "ask_entry" "ask_entry" jE f fd) (mF:mg "ask_entry" = some (.ref f)) (bF:Binds K fd Cd []) (T:Bl mg) {TE:Addr}{a_:Addr}(aV:ir K mg "NoThing" a_ TE "thing")   (dj:QX P w K mg base) (nI:bT P w K mg base "is_name" pH 1 (qw K)):wZ P w K mg base "ask_entry" Cd 4 (mq K):=by
 refine wZ.of F mF bF vF (fun vs H Q E h=>?_) (fun _ A _ _ H vs Q E hr h=>?_)
 ·obtain⟨v,z,rfl,_⟩:=h;rfl
 obtain⟨v,z,rfl,pv',pz,h⟩:=h
 refine⟨_,(ao (cg (JC dj (b8.passes fun _ _ _ z=>z) hr.mo (af (pv 0) aj ah)))
   (av (bU (gI (iA (cI nI hr.mo (af (pv 1) aj ah)))) (av (gO (k:=0) b8 aV.cls hr.mo rfl aV.mg (af (pv 1) aj ah))) aY))),?_⟩
 rw[vp]
 x_go
 rcases h with⟨hk,hz,q⟩|⟨hk,q⟩|⟨hk,hz,q⟩
 ·refine⟨v,rfl,pv',.inl ⟨hk,?_⟩⟩
  x_go
  refine⟨z,rfl,pz,fun H1 s1=>?_⟩
  rw[hz]
  x_go
  exact q H1 s1
 ·exact⟨v,rfl,pv',.inr ⟨hk,q⟩⟩
 ·refine⟨v,rfl,pv',.inl ⟨hk,?_⟩⟩
  x_go
  refine⟨z,rfl,pz,fun H1 s1=>?_⟩
  rw[hz]
  x_go
  exact⟨_,rfl,fun u ru=>q H1 s1 u _ ru aV.nm⟩
theorem uR {f:Addr}{fd:FuncData}(F:cR K "last_bits" "last_bits" jK f fd) (mF:mg "last_bits" = some (.ref f)) (bF:Binds K fd Cf []) (T:Bl mg)  : bT P w K mg base "last_bits" Cf 1 (lX K):=by
 refine bT.of F mF bF uY (fun vs H Q E h=>?_) (fun _ A _ _ H vs Q E hr h=>?_)
 ·obtain⟨k,m,rfl,_⟩:=h;rfl
 obtain⟨k,m,rfl,hm,q⟩:=h
 refine⟨_,(av (aF (aK cW (pv 0) (aK yx au (pv 1))))),?_⟩
 rw[uK]
 have p:=qT m
 x_go
 have e:(1:Int)*2^(m:Int).toNat=2^m:=by rw[Int.one_mul,Int.toNat_natCast]
 rw[e]
 x_go
 exact q
theorem DF {f:Addr}{fd:FuncData}(F:cR K "level" "level" vg f fd) (mF:mg "level" = some (.ref f)) (bF:Binds K fd gY []) (T:Bl mg)  : HW P w K mg base:=by
 refine bT.of F mF bF DZ (fun vs H Q E h=>?_) (fun _ A _ _ H vs Q E hr h=>?_)
 ·obtain⟨R,rfl,_⟩:=h;rfl
 obtain⟨R,rfl,h1,q⟩:=h
 refine⟨_,(av (aF (aK d_ (Ac PySem.F.plainAttrs_int PySem.F.slot_int_bit_length PySem.F.type_int_bit_length CG (pv 0)) au))),?_⟩
 rw[Dw]
 x_go
 refine⟨rfl,?_⟩
 x_go
 rw[Jj h1]
 exact q
theorem Jm {f:Addr}{fd:FuncData}(F:cR K "turn" "turn" zX f fd) (mF:mg "turn" = some (.ref f)) (bF:Binds K fd gY []) (T:Bl mg) (fL:HW P w K mg base):KI P w K mg base:=by
 refine bT.of F mF bF J8 (fun vs H Q E h=>?_) (fun _ A _ _ H vs Q E hr h=>?_)
 ·obtain⟨R,rfl,_⟩:=h;rfl
 obtain⟨R,rfl,h1,h2,q⟩:=h
 have hl:=Ec h1 h2
 refine⟨_,(av (aF (aK d_ (pv 0) (aK yx au (cI fL hr.mo (af (pv 0) aj ah)))))),?_⟩
 rw[Iv]
 x_go
 refine⟨R,rfl,h1,?_⟩
 x_go
 have e:(1:Int)*2^(lg R:Int).toNat=2^lg R:=by rw[Int.one_mul,Int.toNat_natCast]
 rw[e]
 exact q
theorem xN {f:Addr}{fd:FuncData}(F:cR K "bits_for" "bits_for" lB f fd) (mF:mg "bits_for" = some (.ref f)) (bF:Binds K fd JU []) (T:Bl mg) (fL:HW P w K mg base) (ig:KI P w K mg base):bT P w K mg base "bits_for" JU 3 (oq K):=by
 refine bT.of F mF bF oE (fun vs H Q E h=>?_) (fun _ A _ _ H vs Q E hr h=>?_)
 ·obtain⟨r,R,rfl,_⟩:=h;rfl
 obtain⟨r,R,rfl,h1,h2,q⟩:=h
 have hl:=Ec h1 h2
 refine⟨_,(ao (aJ (i:=2) oE.nd rfl (Or.inl rfl) (cI fL hr.mo (af (pv 1) aj ah)))
   (ao (bU (xH pM oj (cI ig hr.mo (af (pv 1) aj ah)) (pv 0) (aK yx au (pv 2))) (av (aF (pv 2))) aY)
   (av (aF (aK b9 (pv 2) au))))),?_⟩
 rw[ya]
 x_go
 refine⟨R,rfl,h1,?_⟩
 x_go
 refine⟨R,rfl,h1,h2,?_⟩
 x_go
 have e:(1:Int)*2^(lg R:Int).toNat=2^lg R:=by rw[Int.one_mul,Int.toNat_natCast]
 refine cN (fun c=>?_) (fun c=>?_)
 ·x_go
  rw[e]
  refine cN (fun d=>?_) (fun d=>?_)
  ·x_go
   unfold oA at q
   rw[if_pos ⟨c,d⟩]at q
   exact q
  ·x_go
   unfold oA at q
   rw[if_neg (fun z=>d z.2)]at q
   exact q
 ·x_go
  unfold oA at q
  rw[if_neg (fun z=>c z.1)]at q
  exact q
theorem Ad {f:Addr}{fd:FuncData}(F:cR K "room_of" "room_of" nQ f fd) (mF:mg "room_of" = some (.ref f)) (bF:Binds K fd ym []) (T:Bl mg) (gi:bT P w K mg base "last_bits" Cf 1 (lX K)) (lK:bT P w K mg base "bits_for" JU 3 (oq K)) (fL:HW P w K mg base):bT P w K mg base "room_of" ym 4 (lF K):=by
 refine bT.of F mF bF Aq (fun vs H Q E h=>?_) (fun _ A _ _ H vs Q E hr h=>?_)
 ·obtain⟨k,R,rfl,_⟩:=h;rfl
 obtain⟨k,R,rfl,h1,h2,q⟩:=h
 have hl:=Ec h1 h2
 refine⟨_,(av (aF (cI gi hr.mo (af (pv 0) (af (cI lK hr.mo (af (cI gi hr.mo (af (pv 0) (af (cI fL hr.mo (af (pv 1) aj ah)) aj aH) ah)) (af (pv 1) aj ah) aH)) aj aH) ah)))),?_⟩
 rw[Ak]
 x_go
 refine⟨R,rfl,h1,?_⟩
 x_go
 refine⟨k,lg R,rfl,by omega,?_⟩
 x_go
 refine⟨_,R,rfl,h1,h2,?_⟩
 x_go
 refine⟨k,oA (k%2^lg R) R,rfl,by unfold oA;split <;> omega,?_⟩
 rw[z_]
 exact q
theorem xQ {f:Addr}{fd:FuncData}(F:cR K "split_of" "split_of" kY f fd) (mF:mg "split_of" = some (.ref f)) (bF:Binds K fd gY []) (T:Bl mg) (ig:KI P w K mg base):bT P w K mg base "split_of" gY 3 (oz K):=by
 refine bT.of F mF bF xO (fun vs H Q E h=>?_) (fun _ A _ _ H vs Q E hr h=>?_)
 ·obtain⟨R,rfl,_⟩:=h;rfl
 obtain⟨R,rfl,h1,h2,q⟩:=h
 refine⟨_,(av (aF (aQ (af (cI ig hr.mo (af (pv 0) aj ah)) (af (pv 0) aj ah) aH)))),?_⟩
 rw[xw]
 x_go
 refine⟨R,rfl,h1,h2,?_⟩
 x_go
 exact⟨zs2,q⟩
theorem u5 {f:Addr}{fd:FuncData}(F:cR K "joined_of" "joined_of" ju f fd) (mF:mg "joined_of" = some (.ref f)) (bF:Binds K fd gY []) (T:Bl mg) (ig:KI P w K mg base):bT P w K mg base "joined_of" gY 3 (mW K):=by
 refine bT.of F mF bF mY (fun vs H Q E h=>?_) (fun _ A _ _ H vs Q E hr h=>?_)
 ·obtain⟨R,rfl,_⟩:=h;rfl
 obtain⟨R,rfl,h1,h2,q1,q2⟩:=h
 refine⟨_,(ao (bU (aX gP (pv 0) au (bh _)) (av (aF fq)) aY)
   (ao (aJ (i:=1) mY.nd rfl (Or.inl rfl) (aK d_ (pv 0) au))
   (av (aF (aQ (af (pv 1) (af (cI ig hr.mo (af (pv 1) aj ah)) aj aH) ah)))))),?_⟩
 rw[vH]
 x_go
 refine cN (fun c=>?_) (fun c=>?_)
 ·x_go
  exact q1 c
 ·x_go
  refine⟨R-1,rfl,by omega,by omega,?_⟩
  x_go
  exact⟨zs2,q2 c⟩
theorem xu {f:Addr}{fd:FuncData}(F:cR K "rows_for" "rows_for" lq f fd) (mF:mg "rows_for" = some (.ref f)) (bF:Binds K fd oR []) (T:Bl mg)  : QZ P w K mg base:=by
 refine bT.of F mF bF wj (fun vs H Q E h=>?_) (fun _ A _ _ H vs Q E hr h=>?_)
 ·obtain⟨m,w,rfl,_⟩:=h;rfl
 obtain⟨m,w,rfl,h1,h2,q⟩:=h
 refine⟨_,(av (aF (aL (nV rfl) rfl T.max vj (af au (af (aK jj (aK d_ (aK b9 (pv 0) (pv 1)) au) (pv 1)) aj bz) ai)))),?_⟩
 rw[wJ]
 x_go
 exact q
theorem pP {f:Addr}{fd:FuncData}(F:cR K "rows_behind" "rows_behind" gJ f fd) (mF:mg "rows_behind" = some (.ref f)) (bF:Binds K fd oR []) (T:Bl mg) (cP:QZ P w K mg base):bT P w K mg base "rows_behind" oR 2 (jk K):=by
 refine bT.of F mF bF qL (fun vs H Q E h=>?_) (fun _ A _ _ H vs Q E hr h=>?_)
 ·obtain⟨m,w,rfl,_⟩:=h;rfl
 obtain⟨m,w,rfl,h1,h2,q⟩:=h
 refine⟨_,(av (aF (aK d_ (cI cP hr.mo (af (pv 0) (af (pv 1) aj ah) ah)) au))),?_⟩
 rw[rP]
 x_go
 refine⟨m,w,rfl,h1,h2,?_⟩
 x_go
 exact q
theorem wQ {f:Addr}{fd:FuncData}(F:cR K "cut_rows" "cut_rows" iO f fd) (mF:mg "cut_rows" = some (.ref f)) (bF:Binds K fd yI []) (T:Bl mg) (cP:QZ P w K mg base):LU P w K mg base:=by
 refine bT.of F mF bF xA (fun vs H Q E h=>?_) (fun _ A _ _ H vs Q E hr h=>?_)
 ·obtain⟨a,ms,w,rfl,_⟩:=h;rfl
 obtain⟨a,ms,w,rfl,ha,hl,w1,w2,q⟩:=h
 refine⟨_,(av (aF (j_ rfl (mO (sc:=aq iO) (N:=yI) (vs:=["at"]) (fs:=yI) (js:=[0,1]) (by z_go) rfl rfl) (fM rfl T.range (af (cI cP hr.mo (af (aL dR rfl T.len dW (af (pv 0) aj ah)) (af (pv 1) aj ah) aH)) aj aH)) (fun _ _ _ _=>bO (i:=0) (show(["at", "things", "wide"]:List Str).Nodup by z_go) rfl (Or.inl rfl)) (fun _ _ _ _=>vt) (fun _ _ _ _=>(fV (Dr (K:=K) rfl) (pv 1) (gm (aK fk (pv 0) (pv 2))) (gm (aK fk (aK b9 (pv 0) au) (pv 2)))))))),?_⟩
 rw[wR]
 x_go
 refine⟨_,w,rfl,by omega,by omega,?_⟩
 obtain⟨g1,g2,g3⟩:=qQ (g:=cV ms.length w) (w:=w) (m:=ms.length) (by omega) (by omega) rfl
 have gb:cV (ms.length:Int) w<=201:=by
  rcases g3 with z|z
  ·omega
  ·by_cases q:cV (ms.length:Int) w<=201
   ·exact q
   ·have:(1:Int)*(cV ms.length w-1)<=w*(cV ms.length w-1):=Int.mul_le_mul_of_nonneg_right (by omega) (by omega)
    omega
 refine⟨_,rfl,by omega,by omega,fun D nD=>?_⟩
 unfold iz at q
 have n201:(cV (ms.length:Int) w).toNat<=201:=by omega
 generalize (cV (ms.length:Int) w).toNat=n at q n201 ⊢
 refine kX (n:=n) (fun i σ' ys H'=>(∃x,σ'=[x,some (.ref a),some (.int w)])/\(∃as:List Addr,ys=as.map V.ref/\as.length=i/\(∀(k:Nat) (b:Addr) (es:List V),as[k]? = some b->(lN ms w i)[k]? = some es->H' b=some (.lst es))/\(as.Nodup/\∀b∈as,∃o,H' b=some o)/\∀b∈as,H b=none/\b≠D)/\aM H H'/\H' D=some (.lst ys)) D ?_ ?_ ?_
 ·exact⟨⟨_,rfl⟩,⟨[],rfl,rfl,fun k b es e _=>by simp at e,⟨.nil,fun b hb=>by cases hb⟩,fun b hb=>by cases hb⟩,aT nD _,aA⟩
 ·rintro i σ' ys H' hi ⟨⟨x,rfl⟩,⟨as,rfl,al,hL,⟨hN,hS⟩,hn⟩,s1,hD⟩
  have ha':=s1 _ _ ha
  x_go
  have e1:(0+(i:Int))*w =((i*w:Nat):Int):=by rw[Int.zero_add,Int.natCast_mul]
  have e2:(0+(i:Int)+1)*w =(((i+1)*w:Nat):Int):=by rw[Int.zero_add,Int.natCast_mul];rfl
  have e3:(i+1)*w=i*w+w:=Nat.succ_mul i w
  rw[e1,e2]
  refine rm (bN.of ha') fun b nb=>?_
  rw[Ib (by omega),show(i+1)*w-i*w=w by omega]
  generalize hE:upd H' b _=H1
  obtain⟨hb1,s2⟩:=bu nb hE
  clear hE
  have bD:b≠D:=by intro e;rw[e,hD]at nb;cases nb
  refine⟨s2 _ _ hD,by rw[List.length_map];exact bf (by omega),⟨_,rfl⟩,⟨as ++ [b],by rw[List.map_append];rfl,by rw[List.length_append,al];rfl,?_,⟨?_,fun c hc=>?_⟩,fun c hc=>?_⟩,fun c o e=>?_,aA⟩
  ·intro k c es e1 e2
   rw[wo]at e2
   by_cases z:k<as.length
   ·rw[List.getElem?_append_left z]at e1
    rw[List.getElem?_append_left (by rw[iL];omega)]at e2
    rw[az (hn c (List.mem_of_getElem? e1)).2];exact s2 _ _ (hL k c es e1 e2)
   ·have kl:=(List.getElem?_eq_some_iff.mp e1).1
    rw[List.length_append]at kl
    have hk:k=as.length:=by have:[b].length=1:=rfl;omega
    subst hk
    rw[List.getElem?_append_right (Nat.le_refl _),Nat.sub_self]at e1
    rw[List.getElem?_append_right (by rw[iL];omega),iL,al,Nat.sub_self]at e2
    have ec:b=c:=Option.some.inj e1
    have ee:(ms.drop (i*w)).take w=es:=Option.some.inj e2
    subst ec ee
    rw[az bD];exact hb1
  ·rw[List.nodup_append]
   refine⟨hN,by simp,fun x hx y hy z=>?_⟩
   rw[List.mem_singleton.mp hy]at z
   obtain⟨o,ho⟩:=hS x hx
   rw[z,nb]at ho;cases ho
  ·rcases List.mem_append.mp hc with z|z
   ·obtain⟨o,ho⟩:=hS c z
    exact⟨o,by rw[az (hn c z).2];exact s2 _ _ ho⟩
   ·rw[List.mem_singleton.mp z];exact⟨_,by rw[az bD];exact hb1⟩
  ·rcases List.mem_append.mp hc with z|z
   ·exact hn c z
   ·rw[List.mem_singleton.mp z];exact⟨s1.free nb,bD⟩
  ·rw[az (ay e nD)];exact s2 _ _ (s1 _ _ e)
 ·rintro σ' ys H' ⟨⟨x,rfl⟩,⟨as,rfl,al,hL,⟨hN,hS⟩,hn⟩,s1,hD⟩
  exact q D H' nD ⟨as,hD,by rw[al,iL],hL,hN,hn⟩ s1
theorem Ae {f:Addr}{fd:FuncData}(F:cR K "rows_of" "rows_of" nK f fd) (mF:mg "rows_of" = some (.ref f)) (bF:Binds K fd B0 []) (T:Bl mg) (eL:LU P w K mg base):bT P w K mg base "rows_of" B0 3 (qg K):=by
 refine bT.of F mF bF Af (fun vs H Q E h=>?_) (fun _ A _ _ H vs Q E hr h=>?_)
 ·obtain⟨a,ns,w,rfl,_⟩:=h;rfl
 obtain⟨a,ns,w,rfl,ha,hl,w1,w2,q⟩:=h
 refine⟨_,(av (aF (cI eL hr.mo (af (aL pW rfl T.sorted er (af (pv 0) aj ah)) (af (pv 1) aj ah) aH)))),?_⟩
 rw[yC]
 x_go
 refine wD (bN.of ha) (by omega) fun ms l p1 p2 nl=>?_
 generalize hE:upd H l _=H1
 obtain⟨hl1,s1⟩:=bu nl hE
 clear hE
 x_go
 refine⟨l,ms.map V.int,w,rfl,hl1,by rw[List.length_map,p1.length_eq];omega,w1,w2,fun t H2 nt hL s2=>?_⟩
 obtain⟨as,g1,g2,g3,g4,g5⟩:=hL
 exact q ms t H2 p1 p2 (s1.free nt) ⟨as,g1,g2,g3,g4,fun b hb=>⟨s1.free (g5 b hb).1,(g5 b hb).2⟩⟩ (s1.trans s2)
theorem Bq {f:Addr}{fd:FuncData}(F:cR K "looked" "looked" rq f fd) (mF:mg "looked" = some (.ref f)) (bF:Binds K fd IX []) (T:Bl mg)  : bT P w K mg base "looked" IX 1 (uy K):=by
 refine bT.of F mF bF j0 (fun vs H Q E h=>?_) (fun _ A _ _ H vs Q E hr h=>?_)
 ·obtain⟨l,k,rs,rfl,_⟩:=h;rfl
 obtain⟨l,k,rs,rfl,⟨as,hl,hL⟩,hz,q⟩:=h
 refine⟨_,(ao (aJ (i:=2) j0.nd rfl (Or.inl rfl) au)
   (ao (gv PassesOwn.never rfl (dH (pv 0)) (bO (i:=3) j0.nd rfl (Or.inl rfl)) (ao (NB (i:=2) j0.nd rfl (Or.inl rfl) au DS)
   (av (bU (PW.pt (vP (Ex (pv 3) (fun _=>rfl)) (pF (aX EF (bV bG (pv 3) (Dc yT au) (fun _ _=>rfl)) (pv 1) (bh _))))) (av (aF (aQ (af (j3 uA (pv 1) (pv 3) (by with_unfolding_all rfl)) (af (pv 2) aj ah) ye)))) aY))))
   (av (aF (aQ (af fZ (af (pv 2) aj ah) ai)))))),?_⟩
 rw[B9]
 x_go
 refine⟨l,rfl,⟨_,bN.of hl⟩,?_⟩
 refine d9 (xs:=as.map V.ref) (fun i σ H'=>(∃x,σ=[some (.ref l),some (.int k),some (.int i),x])/\H'=H/\fz k rs =((fz k (rs.drop i)).1,(fz k (rs.drop i)).2+i)) ⟨⟨_,rfl⟩,rfl,by simp⟩ (fun i σ H' _ h=>by rw[h.2.1];exact bN.of hl) ?_ ?_
 ·rintro i x σ H' hx ⟨⟨x1,rfl⟩,rfl,hk⟩
  obtain⟨a,ha,rfl⟩:=rK hx
  obtain⟨r,hr1,har⟩:=hL.get ha
  rw[FQ hr1]at hk
  x_go
  have pass:¬ qX k r->fz k rs =((fz k (rs.drop (i+1))).1,(fz k (rs.drop (i+1))).2+((i+1:Nat):Int)):=fun z=>by
   rw[hk,zh z]
   show(_,_) =(_,_)
   congr 1;omega
  refine⟨decide (r ≠ []),.inl ⟨_,bN.of har,Iq r⟩,?_⟩
  refine cN (fun c=>?_) (fun c=>?_)
  ·obtain⟨y,hy⟩:=Hu c
   x_go
   refine cL (bN.of har) (Jp hy) ?_
   x_go
   refine cN (fun d=>?_) (fun d=>?_)
   ·x_go
    refine Dg (bN.of har) ?_
    x_go
    refine⟨zs2,fun t nt=>q t _ nt ?_ (aT nt _)⟩
    rw[aA,hk,zW (EV hy d)]
    show some (HO.tup [V.bl _,V.int ((i:Int)+1)])=some (HO.tup [V.bl _,V.int (1+(i:Int))])
    rw[Int.add_comm]
   ·x_go
    refine⟨⟨_,rfl⟩,rfl,pass fun z=>?_⟩
    obtain⟨x,hx,hkx⟩:=yb z
    rw[hy]at hx
    cases hx
    exact d hkx
  ·x_go
   refine⟨⟨_,rfl⟩,rfl,pass fun z=>c fun e=>?_⟩
   obtain⟨x,hx,_⟩:=yb z
   rw[e]at hx;cases hx
 ·rintro σ H' ⟨⟨x1,rfl⟩,rfl,hk⟩
  x_go
  refine⟨zs2,fun t nt=>q t _ nt ?_ (aT nt _)⟩
  rw[List.length_map,hL.len,List.drop_length]at hk
  rw[aA,hk,List.length_map,hL.len]
  show some (HO.tup [V.bl false,V.int (rs.length:Int)])=some (HO.tup [V.bl false,V.int (0+(rs.length:Int))])
  rw[Int.zero_add]
theorem Bt {f:Addr}{fd:FuncData}(F:cR K "spread" "spread" l9 f fd) (mF:mg "spread" = some (.ref f)) (bF:Binds K fd oW []) (T:Bl mg) (fN:bT P w K mg base "room_of" ym 4 (lF K)):bT P w K mg base "spread" oW 5 (nY K):=by
 refine bT.of F mF bF nO (fun vs H Q E h=>?_) (fun _ A _ _ H vs Q E hr h=>?_)
 ·obtain⟨a,ns,R,rfl,_⟩:=h;rfl
 obtain⟨a,ns,R,rfl,ha,hl,r1,r2,q⟩:=h
 refine⟨_,(ao (vz (i:=2) nO.nd rfl rfl rfl (mO (sc:=aq l9) (N:=NF) (vs:=["room"]) (fs:=[]) (js:=[]) (by z_go) rfl rfl) (fM rfl T.range (af (pv 1) aj ah)) (fun _ _ _ _=>bO (i:=0) (show(["room"]:List Str).Nodup by z_go) rfl (Or.inl rfl)) (fun _ _ _ _=>vt) (fun _ _ _ _=>(dB aj)))
   (ao (gv PassesOwn.never rfl (dH (aL pW rfl T.sorted er (af (pv 0) aj ah))) (bO (i:=3) nO.nd rfl (Or.inl rfl)) (av (cg (oF PySem.F.plainAttrs_list PySem.F.slot_list_append PySem.F.type_list_append gX (bV bG (pv 2) (cI fN hr.mo (af (pv 3) (af (pv 1) aj ah) ah)) (fun _ _=>rfl)) (af (pv 3) aj ah)))))
   (av (aF (pv 2))))),?_⟩
 rw[B_]
 x_go
 refine⟨R,rfl,by omega,by omega,fun D nD=>?_⟩
 rw[Int.toNat_natCast]
 refine kX (n:=R) (fun i σ' ys H'=>(∃x,σ'=[x])/\aM H H'/\∃as:List Addr,ys=as.map V.ref/\H' D=some (.lst ys)/\Ls H' as (List.replicate i [])/\as.Nodup/\∀b∈as,H b=none/\b≠D) D ⟨⟨_,rfl⟩,aT nD _,[],rfl,aA,trivial,List.nodup_nil,fun _ h=>by(cases h)⟩ ?_ ?_
 ·rintro i σ' ys H1 hi ⟨⟨x,rfl⟩,s1,as,rfl,hD,hL,hn,h4⟩
  x_go
  refine⟨by decide,fun b nb=>?_⟩
  generalize hE:upd H1 b _=H2
  obtain⟨hb,s2⟩:=bu nb hE
  clear hE
  have bD:b≠D:=by intro e;rw[e,hD]at nb;cases nb
  have bas:b∉as:=fun m=>by
   obtain⟨r,_,e⟩:=hL.mem m
   rw[e]at nb;cases nb
  have al:=hL.rep
  refine⟨s2 _ _ hD,by rw[List.length_map,al];exact bf (by omega),⟨_,rfl⟩,fun c o e=>?_,as ++ [b],by rw[List.map_append];rfl,aA,?_,?_⟩
  ·rw[az (ay e nD)];exact s2 _ _ (s1 _ _ e)
  ·rw[List.replicate_succ']
   exact Ls.snoc (r:=[]) (by rw[az bD];exact hb) (hL.same fun c hc o e=>by rw[az (h4 c hc).2];exact s2 _ _ e)
  ·refine⟨?_,fun c hc=>?_⟩
   ·rw[List.nodup_append]
    exact⟨hn,by simp,fun x hx y hy e=>by simp at hy;rw[hy]at e;exact bas (e ▸ hx)⟩
   ·rcases List.mem_append.mp hc with m|m
    ·exact h4 c m
    ·rw[List.mem_singleton.mp m];exact⟨s1.free nb,bD⟩
 ·rintro σ' ys H1 ⟨⟨x,rfl⟩,s1,as,rfl,hD,hL,hn,h4⟩
  have hL:Ls H1 as (b_ [] R):=by rw[xW];exact hL
  x_go
  refine wD (bN.of (s1 _ _ ha)) (by omega) fun ms e p1 p2 ne=>?_
  generalize hE:upd H1 e _=H2
  obtain⟨he,s2⟩:=bu ne hE
  clear hE
  have eas:∀b∈as,b≠e:=fun b m z=>by
   obtain⟨r,_,hb⟩:=hL.mem m
   rw[z,ne]at hb;cases hb
  have ml:ms.length<=200:=by rw[p1.length_eq];exact hl
  have eD:D≠e:=fun z=>by rw[<- z,hD]at ne;cases ne
  refine⟨e,rfl,⟨_,bN.of he⟩,?_⟩
  refine d9 (xs:=ms.map V.int) (fun i σ H'=>(∃x,σ=[some (.ref a),some (.int R),some (.ref D),x])/\aM H H'/\H' e=some (.lst (ms.map V.int))/\H' D=some (.lst (as.map V.ref))/\Ls H' as (b_ (ms.take i) R)) ⟨⟨_,rfl⟩,s1.trans s2,he,s2 _ _ hD,hL.same fun b _ o=>s2 b o⟩ (fun _ _ _ _ h=>bN.of h.2.2.1) ?_ ?_
  ·rintro i x σ H3 hx ⟨⟨x1,rfl⟩,s3,he3,hD3,hL3⟩
   obtain⟨k,hk,rfl⟩:=ints_get hx
   have il:=(List.getElem?_eq_some_iff.mp hk).1
   have rb:=xV (k:=k) (R:=R) (by omega)
   obtain⟨j,hj,jl⟩ : ∃j:Nat,cM k R =(j:Int)/\j<R:=⟨(cM k R).toNat,by omega,by omega⟩
   obtain⟨b,hb⟩ : ∃b,as[j]? = some b:=⟨_,List.getElem?_eq_getElem (show j<as.length by rw[hL3.len,bJ];exact jl)⟩
   obtain⟨r,hr1,hbr⟩:=hL3.get hb
   have hr2:r =(ms.take i).filter fun k=>decide (cM k R =(j:Int)):=by
    rw[c_ jl]at hr1
    exact(Option.some.inj hr1).symm
   have hm:=List.mem_of_getElem? hb
   x_go
   refine⟨k,R,rfl,by omega,by omega,?_⟩
   rw[hj]
   refine cL (bN.of hD3) (mZ hb) ?_
   x_go
   refine⟨.inl ⟨rfl,_,bN.of hbr⟩,?_⟩
   x_go
   refine⟨b,_,_,rfl,rfl,hbr,?_,?_⟩
   ·rw[List.length_map,hr2]
    refine bf (Nat.le_trans (List.length_filter_le _ _) ?_)
    rw[List.length_take];omega
   x_go
   refine⟨⟨_,rfl⟩,fun c o e=>?_,?_,?_,?_⟩
   ·rw[az (ay e (h4 b hm).1)];exact s3 _ _ e
   ·rw[az (eas b hm).symm];exact he3
   ·rw[az (h4 b hm).2.symm];exact hD3
   ·rw[lU hk,uV hj jl,<- hr2]
    have:=hL3.set (r:=r ++ [k]) hn hb
    rw[List.map_append]at this
    exact this
  ·rintro σ H3 ⟨⟨x1,rfl⟩,s3,he3,hD3,hL3⟩
   rw[List.length_map,List.take_length]at hL3
   x_go
   exact q ms D H3 p1 p2 nD ⟨as,hD3,hL3,hn,h4⟩ s3
theorem B3 {f:Addr}{fd:FuncData}(F:cR K "counts" "counts" lW f fd) (mF:mg "counts" = some (.ref f)) (bF:Binds K fd oW []) (T:Bl mg) (gS:bT P w K mg base "spread" oW 5 (nY K)):bT P w K mg base "counts" oW 6 (tS K):=by
 refine bT.of F mF bF Bw (fun vs H Q E h=>?_) (fun _ A _ _ H vs Q E hr h=>?_)
 ·obtain⟨a,ns,R,rfl,_⟩:=h;rfl
 obtain⟨a,ns,R,rfl,ha,hl,r1,r2,q⟩:=h
 refine⟨_,(av (aF (j_ rfl (mO (sc:=aq lW) (N:=oW) (vs:=["own"]) (fs:=[]) (js:=[]) (by z_go) rfl rfl) (dH (cI gS hr.mo (af (pv 0) (af (pv 1) aj ah) ah))) (fun _ _ _ _=>bO (i:=0) (show(["own"]:List Str).Nodup by z_go) rfl (Or.inl rfl)) (fun _ _ _ _=>vt) (fun _ _ _ _=>(aL (zG (K:=K) rfl) rfl T.len dW (af (pv 0) aj ah)))))),?_⟩
 rw[BB]
 x_go
 refine⟨a,ns,R,rfl,ha,hl,r1,r2,fun ms l H1 p1 p2 nl hN s1=>?_⟩
 obtain⟨as,hl1,hL,_,_⟩:=hN
 refine⟨l,rfl,⟨_,bN.of hl1⟩,fun D nD=>?_⟩
 refine gU (xs:=as.map V.ref) (fun i σ' ys H'=>(∃x,σ'=[x])/\aM H1 H'/\ys =(((b_ ms R).take i).map fun r=>(r.length:Int)).map V.int/\H' D=some (.lst ys)) D ⟨⟨_,rfl⟩,aT nD _,rfl,aA⟩ (fun i σ' ys H' _ h=>bN.of (h.2.1 _ _ hl1)) ?_ ?_
 ·rintro i x σ' ys H' hx ⟨⟨x1,rfl⟩,s2,rfl,hD⟩
  obtain⟨b,hb,rfl⟩:=rK hx
  obtain⟨r,hr1,hbr⟩:=hL.get hb
  have hb2:=s2 _ _ hbr
  have il:=(List.getElem?_eq_some_iff.mp hr1).1
  rw[bJ]at il
  x_go
  refine⟨hD,?_,⟨_,rfl⟩,fun c o e=>?_,?_,aA⟩
  ·rw[List.length_map,List.length_map,List.length_take]
   exact bf (by omega)
  ·rw[az (ay e nD)];exact s2 _ _ e
  ·rw[lU hr1,List.map_append,List.map_append]
   show _ ++ [V.int _]=_ ++ [V.int _]
   rw[List.length_map]
 ·rintro σ' ys H' ⟨⟨x1,rfl⟩,s2,rfl,hD⟩
  rw[List.length_map,hL.len,List.take_length]at hD
  exact q ms D H' p1 p2 (s1.free nD) hD (s1.trans s2)
theorem EA {f:Addr}{fd:FuncData}(F:cR K "spill" "spill" pI f fd) (mF:mg "spill" = some (.ref f)) (bF:Binds K fd zd []) (T:Bl mg) (gy:bT P w K mg base "rows_behind" oR 2 (jk K)):bT P w K mg base "spill" zd 3 (m7 K):=by
 refine bT.of F mF bF Dk (fun vs H Q E h=>?_) (fun _ A _ _ H vs Q E hr h=>?_)
 ·obtain⟨a,ns,w,rfl,_⟩:=h;rfl
 obtain⟨a,ns,w,rfl,hS,hl,h1,h2,q⟩:=h
 refine⟨_,(av (aF (aL (CI rfl) rfl T.sum NU (af (j_ rfl (mO (sc:=aq pI) (N:=zd) (vs:=["many"]) (fs:=["wide"]) (js:=[1]) (by z_go) rfl rfl) (dH (pv 0)) (fun _ _ _ _=>bO (i:=0) (show(oR:List Str).Nodup by z_go) rfl (Or.inl rfl)) (fun _ _ _ _=>vt) (fun _ _ _ _=>(cI gy hr.mo (af (pv 0) (af (pv 1) aj ah) ah)))) aj fB)))),?_⟩
 rw[FD]
 x_go
 refine⟨a,rfl,⟨_,hS⟩,fun D nD=>?_⟩
 refine gU (xs:=ns.map V.int) (fun i σ' ys H'=>(∃x,σ'=[x,some (.int w)])/\ys =((kN ns w).take i).map V.int/\aM H H'/\H' D=some (.lst ys)) D ?_ (fun i σ' ys H' _ h=>h.2.2.1.seq hS) ?_ ?_
 ·exact⟨⟨_,rfl⟩,rfl,aT nD _,aA⟩
 ·rintro i x σ' ys H' hx ⟨⟨y,rfl⟩,rfl,g1,g2⟩
  have hil:i<ns.length:=by
   have:=(List.getElem?_eq_some_iff.mp hx).1
   rw[List.length_map]at this;exact this
  rw[List.getElem?_map,List.getElem?_eq_getElem hil]at hx
  obtain rfl:=Option.some.inj hx
  x_go
  refine⟨_,w,rfl,h1,h2,?_⟩
  have hml:i <(kN ns w).length:=by unfold kN;rw[List.length_map];exact hil
  refine⟨g2,by rw[List.length_map,List.length_take];exact bf (by omega),⟨_,rfl⟩,?_,fun b o e=>?_,aA⟩
  ·rw[List.take_succ_eq_append_getElem hml,List.map_append]
   have:(kN ns w)[i]=cV ns[i] w-1:=List.getElem_map _
   rw[this];rfl
  ·rw[az (ay e nD)];exact g1 _ _ e
 ·rintro σ' ys H' ⟨⟨y,rfl⟩,rfl,g1,g2⟩
  have e:(kN ns w).take (ns.map V.int).length=kN ns w:=List.take_of_length_le (by unfold kN;rw[List.length_map,List.length_map];exact Nat.le_refl _)
  rw[e]at g2
  x_go
  refine JN (bN.of g2) ?_
  exact q _ g1
theorem Am {f:Addr}{fd:FuncData}(F:cR K "longest" "longest" j4 f fd) (mF:mg "longest" = some (.ref f)) (bF:Binds K fd zd []) (T:Bl mg) (cP:QZ P w K mg base):bT P w K mg base "longest" zd 2 (iJ K):=by
 refine bT.of F mF bF k_ (fun vs H Q E h=>?_) (fun _ A _ _ H vs Q E hr h=>?_)
 ·obtain⟨a,ns,w,rfl,_⟩:=h;rfl
 obtain⟨a,ns,w,rfl,hS,hne,hl,h1,h2,q⟩:=h
 refine⟨_,(ao (vz (i:=2) k_.nd rfl rfl rfl (mO (sc:=aq j4) (N:=Mg) (vs:=["count"]) (fs:=["wide"]) (js:=[1]) (by z_go) rfl rfl) (dH (pv 0)) (fun _ _ _ _=>bO (i:=0) (show(["count", "wide"]:List Str).Nodup by z_go) rfl (Or.inl rfl)) (fun _ _ _ _=>vt) (fun _ _ _ _=>(cI cP hr.mo (af (pv 0) (af (pv 1) aj ah) ah))))
   (ao (aJ (i:=3) k_.nd rfl (Or.inl rfl) (aL (BA rfl) rfl T.max vj (af (pv 2) aj ah)))
   (av (aF (aQ (af (pv 3) (af (oF PySem.F.plainAttrs_list PySem.F.slot_list_index PySem.F.type_list_index Cw (pv 2) (af (pv 3) aj ah)) aj aH) ah)))))),?_⟩
 rw[z7]
 x_go
 refine⟨a,rfl,⟨_,hS⟩,fun D nD=>?_⟩
 refine gU (xs:=ns.map V.int) (fun i σ' ys H'=>(∃x,σ'=[x,some (.int w)])/\ys =((d8 ns w).take i).map V.int/\aM H H'/\H' D=some (.lst ys)) D ?_ (fun i σ' ys H' _ h=>h.2.2.1.seq hS) ?_ ?_
 ·exact⟨⟨_,rfl⟩,rfl,aT nD _,aA⟩
 ·rintro i x σ' ys H' hx ⟨⟨y,rfl⟩,rfl,g1,g2⟩
  have hil:i<ns.length:=by
   have:=(List.getElem?_eq_some_iff.mp hx).1
   rw[List.length_map]at this;exact this
  rw[List.getElem?_map,List.getElem?_eq_getElem hil]at hx
  obtain rfl:=Option.some.inj hx
  x_go
  refine⟨_,w,rfl,h1,h2,?_⟩
  have hml:i <(d8 ns w).length:=by unfold d8;rw[List.length_map];exact hil
  refine⟨g2,by rw[List.length_map,List.length_take];exact bf (by omega),⟨_,rfl⟩,?_,fun b o e=>?_,aA⟩
  ·rw[List.take_succ_eq_append_getElem hml,List.map_append]
   have:(d8 ns w)[i]=cV ns[i] w:=List.getElem_map _
   rw[this];rfl
  ·rw[az (ay e nD)];exact g1 _ _ e
 ·rintro σ' ys H' ⟨⟨y,rfl⟩,rfl,g1,g2⟩
  have e:(d8 ns w).take (ns.map V.int).length=d8 ns w:=List.take_of_length_le (by unfold d8;rw[List.length_map,List.length_map];exact Nat.le_refl _)
  rw[e]at g2
  have hne2:d8 ns w ≠ []:=by unfold d8;intro z;exact hne (List.map_eq_nil_iff.mp z)
  x_go
  refine Km (bN.of g2) hne2 fun M hM hmax=>?_
  x_go
  refine⟨.inl ⟨rfl,_,bN.of g2⟩,?_⟩
  x_go
  refine CL (bN.of g2) hM ?_
  x_go
  refine⟨zs2,fun t nt=>?_⟩
  exact q M t _ hM hmax (g1.free nt) (g1.trans (aT nt _)) aA
theorem uJ {f:Addr}{fd:FuncData}(F:cR K "rooms_for" "rooms_for" jS f fd) (mF:mg "rooms_for" = some (.ref f)) (bF:Binds K fd CF []) (T:Bl mg)  : bT P w K mg base "rooms_for" CF 1 (mR K):=by
 refine bT.of F mF bF vV (fun vs H Q E h=>?_) (fun _ A _ _ H vs Q E hr h=>?_)
 ·obtain⟨m,w,rfl,_⟩:=h;rfl
 obtain⟨m,w,rfl,h1,h2,q⟩:=h
 refine⟨_,(av (aF (aL (nV rfl) rfl T.max vj (af au (af (aK jj (aK d_ (aK b9 (pv 0) (pv 1)) au) (pv 1)) aj bz) ai)))),?_⟩
 rw[vY]
 x_go
 exact q
theorem mG {f:Addr}{fd:FuncData}{CT:Addr}(F:cR K "__init__" "Table.__init__" eK f fd) (mF:Mk K CT f) (bF:Binds K fd Cp []) (T:Bl mg) (TC:bx K mg CT) (jJ:bT P w K mg base "ask_sizes" Cb 3 (m9 K)):Ci P w K mg base "Table" CT Cp 4 (gf K CT):=by
 refine Ci.of F mF TC.mg bF l_ (fun vs H Q E h=>?_) (fun _ A _ _ H vs Q E hr h=>?_)
 ·obtain⟨p,dx,w,f,rfl,_⟩:=h;rfl
 obtain⟨p,dx,w,f,rfl,hp,w1,w2,f1,f2,q⟩:=h
 refine⟨_,(ao (cg (cI jJ hr.mo (af (pv 1) (af (pv 2) aj ah) ah)))
   (ao (yk (pv 0) (pv 1) rfl)
   (ao (yk (pv 0) (pv 2) rfl)
   (av (yk (pv 0) qK rfl))))),?_⟩
 rw[lS]
 x_go
 refine⟨w,f,rfl,w1,w2,f1,f2,?_⟩
 x_go
 refine⟨p,CT,dx,[],rfl,hp,TC.cl,TC.n_wide,(by show 0<1000;decide),?_⟩
 x_go
 refine⟨p,CT,dx,_,rfl,aA,TC.cl,TC.n_fill,(by show 1<1000;decide),?_⟩
 x_go
 intro d nd
 x_go
 have npd:p≠d:=by
  intro z
  rw[<- z,aA]at nd;cases nd
 have nd0:H d=none:=by
  rw[az npd.symm,az npd.symm]at nd;exact nd
 refine⟨p,CT,dx,_,rfl,by rw[az npd,aA],TC.cl,TC.n_held,?_,?_⟩
 ·have:=gp (Str.ofString "fill") (V.int f) (gx (Str.ofString "wide") (V.int w) [])
  have h2:=gp (Str.ofString "wide") (V.int w) []
  have h3:([]:List (Str×V)).length=0:=rfl
  omega
 ·x_go
  refine q d _ nd0 ⟨⟨dx,aA⟩,?_,⟨List.nodup_nil,(fun _ h=>by cases h),Nat.zero_le _⟩,w1,w2,f1,f2⟩ fun b o e hb=>?_
  ·rw[az npd.symm,aA];rfl
  ·rw[az hb,az (ay e nd0),az hb,az hb];exact e
theorem vA {f:Addr}{fd:FuncData}{CT:Addr}(F:cR K "put" "Table.put" jG f fd) (mF:Meth K CT "put" f) (bF:Binds K fd M4 []) (T:Bl mg) {TE:Addr}{b6:Addr}(bR:ir K mg "Full" b6 TE "many")   (TC:bx K mg CT) (aE:G8 P w K mg base CT) (bW:QT P w K mg base CT) (aN:Qu P w K mg base CT) (jB:wZ P w K mg base "ask_entry" Cd 4 (mq K)) (lG:bT P w K mg base "split_of" gY 3 (oz K)):Ml P w K mg base CT:=by
 refine fu.of F mF bF fG (fun vs H Q E h=>?_) (fun _ A _ _ H vs Q E hr h=>?_)
 ·obtain⟨p,d,w,f,es,kv,zv,rfl,_⟩:=h;rfl
 obtain⟨p,d,w,f,es,kv,zv,rfl,t,pk,pz,h⟩:=h
 obtain⟨w1,w2,f1,f2⟩:=t.sz
 obtain⟨_,r1,r2⟩:=dD (es:=es) f1
 have ln:=t.ok.2.2
 have hu1:=rM hr
 have npd:=t.ne
 refine⟨_,(ao (cg (JC jB (b8.passes fun _ _ _ z=>z) hr.mo (af (pv 1) (af (pv 2) aj ah) ah)))
   (ao (jt (bU (PW.pt (vP (rG (ux hu1 (pv 1) (dM (pv 0) rfl))) (pF (aX EF (fU bW TC.cl hr.mo (pv 0)) (Be rfl T.c_MOST_KEYS) (bh _))))) (av (gO (k:=0) b8 bR.cls hr.mo rfl bR.mg (af (Be rfl T.c_MOST_KEYS) aj ah))) aY))
   (ao (aJ (i:=3) fG.nd rfl (Or.inl rfl) (fU aE TC.cl hr.mo (pv 0)))
   (ao (l7 hu1 (dM (pv 0) rfl) (pv 1) (pv 2) rfl)
   (ao (bU (aX gP (fU aE TC.cl hr.mo (pv 0)) (pv 3) (bh _)) (av (aF fq)) aY)
   (ao (zR (cI lG hr.mo (af (pv 3) aj ah)) (Fg rfl (mj (bO (i:=4) fG.nd rfl (Or.inl rfl)) (mj (bO (i:=5) fG.nd rfl (Or.inl rfl)) A8))))
   (av (aF (aQ (af (pv 4) (af (pv 5) (af (bV bG (Q7 aN TC.cl hr.mo (pv 0) (af (aK b9 (pv 5) au) aj bz)) (pv 5) (fun _ _=>rfl)) aj aO) ah) ah)))))))))),?_⟩
 rw[uP]
 x_go
 rcases h with⟨k,z,rfl,rfl,k0,k1,hz,hl,qa⟩|⟨hk,q⟩|⟨hk,hz,q⟩|⟨k,z,rfl,rfl,k0,k1,hz,nk,l64,q⟩
 rotate_left
 ·exact⟨_,_,rfl,pk,pz,.inr (.inl ⟨hk,q⟩)⟩
 ·exact⟨_,_,rfl,pk,pz,.inr (.inr ⟨hk,hz,q⟩)⟩
 ·refine⟨_,_,rfl,pk,pz,.inl ⟨qU k0 k1,A0 hz,fun H1 s1=>?_⟩⟩
  have t1:=t.same s1
  obtain⟨dx,ho⟩:=t1.ob
  x_go
  refine⟨fun σ H'=>False,?_,fun _ _ z=>z.elim⟩
  x_go
  refine⟨p,CT,dx,_,_,rfl,ho,TC.cl,TC.n_held,cS,?_⟩
  refine⟨d,_,rfl,f9.k (k:=Sum.inl k) t1.dc,?_⟩
  rw[find_some,decide_eq_false nk]
  x_go
  refine⟨p,dx,_,rfl,ho,gK (by z_go),?_⟩
  x_go
  refine⟨p,d,w,f,es,rfl,t1,?_⟩
  x_go
  refine cN (fun _=>?_) (fun c=>absurd (by omega) c)
  x_go
  exact⟨_,rfl,fun u ru=>q H1 s1 u _ ru bR.nm⟩
 refine⟨_,_,rfl,pk,pz,.inl ⟨qU k0 k1,A0 hz,fun H1 s1=>?_⟩⟩
 have t1:=t.same s1
 obtain⟨dx,ho⟩:=t1.ob
 x_go
 refine⟨fun σ H'=>H'=H1/\σ=[some (.ref p),some (.int k),some (.str z),none,none,none],?_,?_⟩
 ·x_go
  refine⟨p,CT,dx,_,_,rfl,ho,TC.cl,TC.n_held,cS,?_⟩
  refine⟨d,_,rfl,f9.k (k:=Sum.inl k) t1.dc,?_⟩
  rw[find_some]
  by_cases c:k∈es.map (·.1)
  ·rw[decide_eq_true c]
   x_go
   exact⟨rfl,rfl⟩
  ·rw[decide_eq_false c]
   x_go
   refine⟨p,dx,_,rfl,ho,gK (by z_go),?_⟩
   x_go
   refine⟨p,d,w,f,es,rfl,t1,?_⟩
   have l64:es.length<64:=hl.resolve_left c
   x_go
   refine cN (fun c=>absurd c (by omega)) (fun _=>?_)
   x_go
   exact⟨rfl,rfl⟩
 rintro σ H' ⟨rfl,rfl⟩
 x_go
 refine⟨p,dx,_,rfl,ho,gK (by z_go),?_⟩
 x_go
 refine⟨p,d,w,f,es,rfl,t1,?_⟩
 x_go
 refine⟨p,CT,dx,_,_,rfl,ho,TC.cl,TC.n_held,cS,?_⟩
 x_go
 refine⟨d,_,rfl,sd.k (k:=Sum.inl k) t1.dc (by rw[jM];exact bf (by omega)),?_⟩
 rw[rD]
 have t2:Tab CT (upd H' d (.dK (eV (bZ es k z)))) p d w f (bZ es k z):=⟨⟨dx,by rw[az npd];exact ho⟩,aA,AJ t.ok k0 k1 hz hl,t.sz⟩
 have kd2:Kd H (upd H' d (.dK (eV (bZ es k z)))) d:=fun b o n e=>by rw[az n];exact s1 _ _ e
 have fr2:∀b,(upd H' d (.dK (eV (bZ es k z)))) b=none->H b=none:=fun b n=>by
  refine s1.free ?_
  rw[az (show b≠d from fun e=>by rw[e,aA]at n;cases n)]at n
  exact n
 generalize upd H' d (.dK (eV (bZ es k z)))=H2 at t2 kd2 fr2 ⊢
 obtain⟨dx2,ho2⟩:=t2.ob
 have l2:=t2.ok.2.2
 x_go
 refine⟨p,dx2,_,rfl,ho2,gK (by z_go),?_⟩
 x_go
 refine⟨p,d,w,f,bZ es k z,rfl,t2,?_⟩
 x_go
 refine cN (fun c=>?_) (fun c=>?_)
 ·x_go
  exact qa _ H2 t2 kd2
 ·have step:cJ (bZ es k z) f=cJ es f+1:=by
   have e1:=(dD (es:=es) f1).1
   have e2:=(dD (es:=bZ es k z) f1).1
   rw[wK]at e2
   split at e2
   ·omega
   ·have st:=ug (m:=es.length) (f:=f) f1 (by omega)
    have ec:((es.length+1:Nat):Int) =(es.length:Int)+1:=by omega
    rw[ec]at e2
    omega
  x_go
  refine⟨_,rfl,by omega,by omega,fun tp np=>?_⟩
  generalize hE:upd H2 tp _=H3
  obtain⟨htp,s3⟩:=bu np hE
  clear hE
  refine⟨tp,_,rfl,oS.of htp,rfl,_,_,rfl,_,_,rfl,rfl,?_⟩
  have t3:=t2.same s3
  obtain⟨dx3,ho3⟩:=t3.ob
  x_go
  refine⟨p,dx3,_,rfl,ho3,gK (by z_go),?_⟩
  x_go
  refine⟨p,d,w,f,bZ es k z,cJ es f+1,rfl,t3,by omega,by omega,fun ms l H4 p1 p2 nl L s4=>?_⟩
  obtain⟨as,hl4,hLs,_,hnew⟩:=L
  have al:=hLs.len
  rw[bJ]at al
  have har:as[cJ es f]? = some (as[cJ es f]'(by omega)):=List.getElem?_eq_getElem _
  generalize as[cJ es f]=a at har
  obtain⟨own,ho1,hown⟩:=hLs.get har
  rw[c_ (by omega)]at ho1
  have ho5:=Option.some.inj ho1
  subst ho5
  x_go
  refine cL (bN.of hl4) (mZ har) ?_
  x_go
  refine⟨zs3,fun t5 nt5=>?_⟩
  generalize hE:upd H4 t5 _=H5
  obtain⟨ht5,s5⟩:=bu nt5 hE
  clear hE
  have s25:=(s3.trans s4).trans s5
  exact qa _ H5 (t2.same s25) (fun b o n e=>s25 _ _ (kd2 b o n e))
theorem sR {f:Addr}{fd:FuncData}{CT:Addr}(F:cR K "drop" "Table.drop" iE f fd) (mF:Meth K CT "drop" f) (bF:Binds K fd wg []) (T:Bl mg) (TC:bx K mg CT) (bM:Tp P w K mg base CT) (aE:G8 P w K mg base CT) (aN:Qu P w K mg base CT) (jC:bT P w K mg base "joined_of" gY 3 (mW K)):fu P w K mg base CT "drop" wg 7 (kj K CT):=by
 refine fu.of F mF bF eT (fun vs H Q E h=>?_) (fun _ A _ _ H vs Q E hr h=>?_)
 ·obtain⟨p,d,w,f,es,kv,rfl,_⟩:=h;rfl
 obtain⟨p,d,w,f,es,kv,rfl,t,pk,h⟩:=h
 obtain⟨dx,ho⟩:=t.ob
 obtain⟨w1,w2,f1,f2⟩:=t.sz
 obtain⟨_,r1,r2⟩:=dD (es:=es) f1
 have ln:=t.ok.2.2
 have npd:=t.ne
 refine⟨_,(ao (cg (nJ bM (b8.passes fun _ _ _ z=>z) TC.cl hr.mo (pv 0) (af (pv 1) aj ah)))
   (ao (aJ (i:=2) eT.nd rfl (Or.inl rfl) (fU aE TC.cl hr.mo (pv 0)))
   (ao (cg (xM (dM (pv 0) rfl) (pv 1) ⟨rfl,rfl,rfl,rfl⟩))
   (ao (bU (aX gP (fU aE TC.cl hr.mo (pv 0)) (pv 2) (bh _)) (av (aF fq)) aY)
   (ao (zR (cI jC hr.mo (af (pv 2) aj ah)) (Fg rfl (mj (bO (i:=3) eT.nd rfl (Or.inl rfl)) (mj (bO (i:=4) eT.nd rfl (Or.inl rfl)) A8))))
   (av (aF (aQ (af (pv 3) (af (pv 4) (af (bV bG (Q7 aN TC.cl hr.mo (pv 0) (af (pv 2) aj ah)) (pv 3) (fun _ _=>rfl)) aj aO) ah) ah))))))))),?_⟩
 rw[tG]
 x_go
 refine⟨p,dx,_,rfl,ho,gK (by z_go),?_⟩
 x_go
 rcases h with⟨k,rfl,hk,qa⟩|h
 case inr=>exact⟨p,d,w,f,es,kv,rfl,t,pk,.inr h⟩
 refine⟨p,d,w,f,es,_,rfl,t,pk,.inl ⟨k,rfl,hk,?_⟩⟩
 x_go
 refine⟨p,dx,_,rfl,ho,gK (by z_go),?_⟩
 x_go
 refine⟨p,d,w,f,es,rfl,t,?_⟩
 x_go
 refine⟨p,CT,dx,_,_,rfl,ho,TC.cl,TC.n_held,cS,?_⟩
 refine⟨d,rfl,.inl ⟨_,.inl t.dc⟩,?_⟩
 x_go
 refine⟨_,Sum.inl k,_,t.dc,rfl,jd hk,?_⟩
 rw[AE]
 have ok2:=Ej (k:=k) t.ok
 have t2:Tab CT (upd H d (.dK (eV (cT es k)))) p d w f (cT es k):=⟨⟨dx,by rw[az npd];exact ho⟩,aA,ok2,t.sz⟩
 have kd2:Kd H (upd H d (.dK (eV (cT es k)))) d:=fun b o n e=>by rw[az n];exact e
 have fr2:∀b,(upd H d (.dK (eV (cT es k)))) b=none->H b=none:=fun b n=>by
  rw[az (show b≠d from fun e=>by rw[e,aA]at n;cases n)]at n
  exact n
 generalize upd H d (.dK (eV (cT es k)))=H2 at t2 kd2 fr2 ⊢
 obtain⟨dx2,ho2⟩:=t2.ob
 have l2:=ok2.2.2
 obtain⟨_,r21,r22⟩:=dD (es:=cT es k) f1
 have rr:=xK t.ok hk f1
 x_go
 refine⟨p,dx2,_,rfl,ho2,gK (by z_go),?_⟩
 x_go
 refine⟨p,d,w,f,cT es k,rfl,t2,?_⟩
 x_go
 refine cN (fun c=>?_) (fun c=>?_)
 ·x_go
  exact qa _ H2 t2 kd2
 ·have step:cJ (cT es k) f+1=cJ es f:=by omega
  x_go
  refine⟨_,rfl,by omega,by omega,fun z=>absurd z (by omega),fun _ tp np=>?_⟩
  generalize hE:upd H2 tp _=H3
  obtain⟨htp,s3⟩:=bu np hE
  clear hE
  refine⟨tp,_,rfl,oS.of htp,rfl,_,_,rfl,_,_,rfl,rfl,?_⟩
  have t3:=t2.same s3
  obtain⟨dx3,ho3⟩:=t3.ob
  x_go
  refine⟨p,dx3,_,rfl,ho3,gK (by z_go),?_⟩
  x_go
  refine⟨p,d,w,f,cT es k,cJ es f,rfl,t3,by omega,by omega,fun ms l H4 p1 p2 nl L s4=>?_⟩
  obtain⟨as,hl4,hLs,_,hnew⟩:=L
  have al:=hLs.len
  rw[bJ]at al
  have har:as[cJ es f-1]? = some (as[cJ es f-1]'(by omega)):=List.getElem?_eq_getElem _
  generalize as[cJ es f-1]=a at har
  obtain⟨own,ho1,hown⟩:=hLs.get har
  rw[c_ (by omega)]at ho1
  have ho5:=Option.some.inj ho1
  subst ho5
  have ec:((cJ es f-1:Nat):Int) =(cJ es f:Int)-1:=by omega
  rw[ec]at hown
  x_go
  rw[<- ec]
  refine cL (bN.of hl4) (mZ har) ?_
  rw[ec]
  x_go
  refine⟨zs3,fun t5 nt5=>?_⟩
  generalize hE:upd H4 t5 _=H5
  obtain⟨ht5,s5⟩:=bu nt5 hE
  clear hE
  have s25:=(s3.trans s4).trans s5
  exact qa _ H5 (t2.same s25) (fun b o n e=>s25 _ _ (kd2 b o n e))
theorem su {f:Addr}{fd:FuncData}{CT:Addr}(F:cR K "find" "Table.find" iM f fd) (mF:Meth K CT "find" f) (bF:Binds K fd wg []) (T:Bl mg) (TC:bx K mg CT) (bM:Tp P w K mg base CT) (cU:MA P w K mg base CT):Nb P w K mg base CT:=by
 refine fu.of F mF bF tL (fun vs H Q E h=>?_) (fun _ A _ _ H vs Q E hr h=>?_)
 ·obtain⟨p,d,w,f,es,kv,rfl,_⟩:=h;rfl
 obtain⟨p,d,w,f,es,kv,rfl,t,pk,h⟩:=h
 obtain⟨dx,ho⟩:=t.ob
 have hu1:=rM hr
 refine⟨_,(ao (cg (nJ bM (b8.passes fun _ _ _ z=>z) TC.cl hr.mo (pv 0) (af (pv 1) aj ah)))
   (av (aF (aQ (af (v_ hu1 (dM (pv 0) rfl) (pv 1) (fun _ _=>rfl)) (af (bV jq (nJ cU (b8.passes fun _ _ _ z=>z) TC.cl hr.mo (pv 0) (af (pv 1) aj ah)) au (fun _ _=>rfl)) aj aO) aO))))),?_⟩
 rw[rY]
 x_go
 refine⟨p,dx,_,rfl,ho,gK (by z_go),?_⟩
 x_go
 rcases h with⟨k,rfl,hk,qa⟩|h
 case inr=>exact⟨p,d,w,f,es,kv,rfl,t,pk,.inr h⟩
 refine⟨p,d,w,f,es,_,rfl,t,pk,.inl ⟨k,rfl,hk,?_⟩⟩
 obtain⟨e0,em,ek⟩:=List.mem_map.mp hk
 have eo:=t.ok.2.1 e0 em
 rw[ek]at eo
 x_go
 refine⟨p,CT,dx,_,_,rfl,ho,TC.cl,TC.n_held,cS,?_⟩
 x_go
 refine⟨d,_,rfl,by rw[<- jd hk];exact f9.k (k:=Sum.inl k) t.dc,?_⟩
 x_go
 refine⟨p,dx,_,rfl,ho,gK (by z_go),?_⟩
 x_go
 refine⟨p,d,w,f,es,_,rfl,t,pk,.inl ⟨k,rfl,eo.1,eo.2.1,fun b n t1 H1 h1 s1=>?_⟩⟩
 x_go
 refine⟨zs2,fun t2 n2=>?_⟩
 generalize hE:upd H1 t2 _=H2
 obtain⟨h2,s2⟩:=bu n2 hE
 clear hE
 x_go
 exact qa n t2 H2 h2 (s1.trans s2)
theorem qD {f:Addr}{fd:FuncData}{CT:Addr}(F:cR K "looks" "Table.looks" gu f fd) (mF:Meth K CT "looks" f) (bF:Binds K fd wg []) (T:Bl mg) (TC:bx K mg CT) (aE:G8 P w K mg base CT) (aN:Qu P w K mg base CT) (dj:QX P w K mg base) (qq:bT P w K mg base "looked" IX 1 (uy K)) (fN:bT P w K mg base "room_of" ym 4 (lF K)) (nC:bT P w K mg base "rows_of" B0 3 (qg K)):MA P w K mg base CT:=by
 refine fu.of F mF bF fX (fun vs H Q E h=>?_) (fun _ A _ _ H vs Q E hr h=>?_)
 ·obtain⟨p,d,w,f,es,kv,rfl,_⟩:=h;rfl
 obtain⟨p,d,w,f,es,kv,rfl,t,pk,h⟩:=h
 obtain⟨dx,ho⟩:=t.ob
 obtain⟨w1,w2,f1,f2⟩:=t.sz
 obtain⟨_,r1,r2⟩:=dD (es:=es) f1
 have ln:=t.ok.2.2
 refine⟨_,(ao (cg (JC dj (b8.passes fun _ _ _ z=>z) hr.mo (af (pv 1) aj ah)))
   (ao (aJ (i:=2) fX.nd rfl (Or.inl rfl) (fU aE TC.cl hr.mo (pv 0)))
   (ao (aJ (i:=3) fX.nd rfl (Or.inl rfl) (bV bG (Q7 aN TC.cl hr.mo (pv 0) (af (pv 2) aj ah)) (cI fN hr.mo (af (pv 1) (af (pv 2) aj ah) ah)) (fun _ _=>rfl)))
   (av (aF (cI qq hr.mo (af (cI nC hr.mo (af (pv 3) (af (dM (pv 0) rfl) aj bq) ah)) (af (pv 1) aj ah) aH))))))),?_⟩
 rw[rV]
 x_go
 rcases h with⟨k,rfl,k0,k1,q⟩|h
 case inr=>exact⟨kv,rfl,pk,.inr h⟩
 refine⟨_,rfl,pk,.inl ⟨qU k0 k1,?_⟩⟩
 x_go
 refine⟨p,dx,_,rfl,ho,gK (by z_go),?_⟩
 x_go
 refine⟨p,d,w,f,es,rfl,t,?_⟩
 x_go
 refine⟨p,dx,_,rfl,ho,gK (by z_go),?_⟩
 x_go
 refine⟨p,d,w,f,es,cJ es f,rfl,t,r1,by omega,fun ms l H1 p1 p2 nl L s1=>?_⟩
 x_go
 refine⟨k,_,rfl,by omega,by omega,?_⟩
 obtain⟨g0,g1⟩:=xV (k:=k) (R:=(cJ es f:Int)) (by omega)
 obtain⟨j,hj⟩ : ∃j:Nat,cM k (cJ es f) =(j:Int):=⟨(cM k (cJ es f)).toNat,by omega⟩
 obtain⟨as,hl,hLs,_,hnew⟩:=L
 have al:=hLs.len
 rw[bJ]at al
 have har:as[j]? = some (as[j]'(by omega)):=List.getElem?_eq_getElem _
 generalize as[j]=a at har
 obtain⟨own,ho1,hown⟩:=hLs.get har
 rw[c_ (by omega)]at ho1
 have ho2:=Option.some.inj ho1
 subst ho2
 rw[hj]
 refine cL (bN.of hl) (mZ har) ?_
 rw[<- hj]at hown
 have ml:ms.length<=64:=by rw[p1.length_eq,List.length_map];exact ln
 have ol:=List.length_filter_le (fun q=>decide (cM q (cJ es f)=cM k (cJ es f))) ms
 have t1:=t.same s1
 obtain⟨dx1,ho3⟩:=t1.ob
 x_go
 refine⟨p,CT,dx1,_,_,rfl,ho3,TC.cl,TC.n_wide,mz,?_⟩
 x_go
 refine⟨a,_,w,rfl,hown,by omega,by omega,by omega,fun ms2 l2 H2 q1 q2 n2 rn s2=>?_⟩
 have em:=ow q1 q2 (List.Perm.refl _) (p2.filter (fun q=>decide (cM q (cJ es f)=cM k (cJ es f))))
 subst em
 have rle:=DI (s:=ms.filter fun q=>decide (cM q (cJ es f)=cM k (cJ es f))) (w:=w) (by omega)
 x_go
 refine⟨l2,k,_,rfl,Qp rn,by omega,fun t3 H3 n3 ht3 s3=>?_⟩
 exact q _ _ t3 H3 ht3 ((s1.trans s2).trans s3)
theorem qE {f:Addr}{fd:FuncData}{CT:Addr}(F:cR K "count" "Table.count" gF f fd) (mF:Meth K CT "count" f) (bF:Binds K fd kg []) (T:Bl mg) (TC:bx K mg CT)  : QT P w K mg base CT:=by
 refine gW.of F mF bF qd (fun vs H Q E h=>?_) (fun _ A _ _ H vs Q E hr h=>?_)
 ·obtain⟨p,d,w,f,es,rfl,_⟩:=h;rfl
 obtain⟨p,d,w,f,es,rfl,t,q⟩:=h
 obtain⟨dx,ho⟩:=t.ob
 refine⟨_,(av (aF (aL nX rfl T.len dW (af (dM (pv 0) rfl) aj bq)))),?_⟩
 rw[qy]
 x_go
 refine⟨p,CT,dx,_,_,rfl,ho,TC.cl,TC.n_held,cS,?_⟩
 x_go
 refine⟨d,_,rfl,t.dc,?_⟩
 rw[jM]
 exact q
theorem qe {f:Addr}{fd:FuncData}{CT:Addr}(F:cR K "rooms" "Table.rooms" gG f fd) (mF:Meth K CT "rooms" f) (bF:Binds K fd kg []) (T:Bl mg) (TC:bx K mg CT) (bW:QT P w K mg base CT) (jF:bT P w K mg base "rooms_for" CF 1 (mR K)):G8 P w K mg base CT:=by
 refine gW.of F mF bF rO (fun vs H Q E h=>?_) (fun _ A _ _ H vs Q E hr h=>?_)
 ·obtain⟨p,d,w,f,es,rfl,_⟩:=h;rfl
 obtain⟨p,d,w,f,es,rfl,t,q⟩:=h
 obtain⟨dx,ho⟩:=t.ob
 obtain⟨w1,w2,f1,f2⟩:=t.sz
 refine⟨_,(av (aF (cI jF hr.mo (af (fU bW TC.cl hr.mo (pv 0)) (af (dM (pv 0) rfl) aj bq) aH)))),?_⟩
 rw[pT]
 x_go
 refine⟨p,dx,_,rfl,ho,gK (by z_go),?_⟩
 x_go
 refine⟨p,d,w,f,es,rfl,t,?_⟩
 x_go
 refine⟨p,CT,dx,_,_,rfl,ho,TC.cl,TC.n_fill,EO,?_⟩
 x_go
 refine⟨_,f,rfl,f1,f2,?_⟩
 rw[(dD f1).1]
 exact q
theorem nA {f:Addr}{fd:FuncData}{CT:Addr}(F:cR K "entries" "Table.entries" e_ f fd) (mF:Meth K CT "entries" f) (bF:Binds K fd kg []) (T:Bl mg) (TC:bx K mg CT)  : NT P w K mg base CT:=by
 refine gW.of F mF bF nG (fun vs H Q E h=>?_) (fun _ A _ _ H vs Q E hr h=>?_)
 ·obtain⟨p,d,w,f,es,rfl,_⟩:=h;rfl
 obtain⟨p,d,w,f,es,rfl,t,q⟩:=h
 obtain⟨dx,ho⟩:=t.ob
 have ln:=t.ok.2.2
 refine⟨_,(av (aF (aL (rF rfl) rfl T.sorted er (af (Ac PySem.F.plainAttrs_dict PySem.F.slot_dict_items PySem.F.type_dict_items yf (dM (pv 0) rfl)) aj aH)))),?_⟩
 rw[nF]
 x_go
 refine⟨p,CT,dx,_,_,rfl,ho,TC.cl,TC.n_held,cS,?_⟩
 refine⟨.inr (.inr (.inl ⟨rfl,.inl ⟨_,t.dc⟩⟩)),?_⟩
 refine⟨d,_,rfl,rfl,t.dc,fun v nv=>?_⟩
 generalize hE:upd H v _=H1
 obtain⟨hv,s1⟩:=bu nv hE
 clear hE
 x_go
 refine⟨v,d,es.map vE,rfl,hv,s1 _ _ t.dc,by rw[List.map_map];exact t.ok.1,by rw[List.length_map];omega,fun ps ts l H2 pp po s2 nl hl tl ht=>?_⟩
 have pv:(ps.map uE).map vE=ps:=by
  rw[List.map_map]
  refine(List.map_congr_left fun x hx=>?_).trans (List.map_id _)
  obtain⟨y,_,rfl⟩:=List.mem_map.mp (pp.mem_iff.mp hx)
  rfl
 have pm:(ps.map uE).Perm es:=by
  have:=pp.map uE
  rw[List.map_map,show(uE ∘ vE)=id from rfl,List.map_id]at this
  exact this
 refine q (ps.map uE) ts l H2 pm (by rw[List.pairwise_map];exact po) (s1.trans s2) (s1.free nl) hl ⟨by rw[List.length_map];exact tl,fun i t' e e1 e2=>?_⟩
 have e3:ps[i]? = some (vE e):=by rw[<- pv,List.getElem?_map,e2];rfl
 have ee:=t.ok.2.1 e (pm.mem_iff.mp (List.mem_of_getElem? e2))
 obtain⟨n1,n2⟩:=Dz ee.2.2
 exact⟨ht i t' _ e1 e3,n1,ee.1,ee.2.1,n2⟩
theorem sy {f:Addr}{fd:FuncData}{CT:Addr}(F:cR K "room" "Table.room" fC f fd) (mF:Meth K CT "room" f) (bF:Binds K fd MT []) (T:Bl mg) {TE:Addr}{br:Addr}(bg:ir K mg "NoRoom" br TE "number")   (TC:bx K mg CT) (aN:Qu P w K mg base CT) (aE:G8 P w K mg base CT) (eL:LU P w K mg base) (cO:Jf P w K mg base):M7 P w K mg base CT:=by
 refine fu.of F mF bF kG (fun vs H Q E h=>?_) (fun _ A _ _ H vs Q E hr h=>?_)
 ·obtain⟨p,d,w,f,es,v,rfl,_⟩:=h;rfl
 obtain⟨p,d,w,f,es,v,rfl,t,plv,h⟩:=h
 obtain⟨dx,ho⟩:=t.ob
 obtain⟨w1,w2,f1,f2⟩:=t.sz
 obtain⟨_,r1,r2⟩:=dD (es:=es) f1
 have ln:=t.ok.2.2
 have hu1:=rM hr
 refine⟨_,(ao (bU (PW.pt (rg (gI (iA (cI cO hr.mo (af (pv 1) aj ah)))) (lu (gI (xH pM oj au (pv 1) (fU aE TC.cl hr.mo (pv 0))))))) (av (gO (k:=0) b8 bg.cls hr.mo rfl bg.mg (af (pv 1) aj ah))) aY)
   (ao (aJ (i:=2) kG.nd rfl (Or.inl rfl) (bV bG (Q7 aN TC.cl hr.mo (pv 0) (af (fU aE TC.cl hr.mo (pv 0)) aj aH)) (pv 1) (fun _ _=>rfl)))
   (av (aF (cI eL hr.mo (af (j_ rfl (mO (sc:=aq fC) (N:=MD) (vs:=["key"]) (fs:=kg) (js:=[0]) (by z_go) rfl rfl) (dH (pv 2)) (fun _ _ _ _=>bO (i:=0) (show(["key", "self"]:List Str).Nodup by z_go) rfl (Or.inl rfl)) (fun _ _ _ _=>vt) (fun _ _ _ _=>(aQ (af (pv 0) (af (v_ hu1 (Kw (K:=K) rfl (pv 1) rfl) (pv 0) (fun _ _=>rfl)) aj aO) ah)))) (af (dM (pv 0) rfl) aj bq) fB)))))),?_⟩
 rw[sU]
 x_go
 refine⟨v,rfl,plv,?_⟩
 rcases h with⟨r,rfl,rl,q⟩|⟨ov,q⟩
 case inr =>
  have fin:∀(E':XK),Rz K E' "NoRoom" v H->∀u,RelV v u->E' u (some br) H:=fun E' q u ru=>q u _ ru bg.nm
  cases v with
  | int k =>
   rw[show lP (.int k)=true from rfl]
   x_go
   by_cases c:0<=k
   ·rw[decide_eq_true c]
    x_go
    refine⟨p,dx,_,rfl,ho,gK (by z_go),?_⟩
    x_go
    refine⟨p,d,w,f,es,rfl,t,?_⟩
    x_go
    rw[decide_eq_false (show ¬(k <(cJ es f:Int)) from fun z=>ov k rfl ⟨c,z⟩)]
    x_go
    exact⟨_,rfl,fin _ q⟩
   ·rw[decide_eq_false c]
    x_go
    exact⟨_,rfl,fin _ q⟩
  | _=>(unfold lP;x_go;exact⟨_,rfl,fin _ q⟩)
 rw[show lP (.int (r:Int))=true from rfl]
 x_go
 rw[decide_eq_true (show(0:Int) <=(r:Int) by omega)]
 x_go
 refine⟨p,dx,_,rfl,ho,gK (by z_go),?_⟩
 x_go
 refine⟨p,d,w,f,es,rfl,t,?_⟩
 x_go
 rw[decide_eq_true (show(r:Int) <(cJ es f:Int) by omega)]
 x_go
 refine⟨p,dx,_,rfl,ho,gK (by z_go),?_⟩
 x_go
 refine⟨p,dx,_,rfl,ho,gK (by z_go),?_⟩
 x_go
 refine⟨p,d,w,f,es,rfl,t,?_⟩
 x_go
 refine⟨p,d,w,f,es,cJ es f,rfl,t,r1,by omega,fun ms l H1 p1 p2 nl L s1=>?_⟩
 obtain⟨as,hl,hLs,_,hnew⟩:=L
 have al:=hLs.len
 rw[bJ]at al
 have har:as[r]? = some (as[r]'(by omega)):=List.getElem?_eq_getElem _
 generalize as[r]=a at har
 obtain⟨own,ho1,hown⟩:=hLs.get har
 rw[c_ rl]at ho1
 have ho2:=Option.some.inj ho1
 subst ho2
 x_go
 refine cL (bN.of hl) (mZ har) ?_
 x_go
 refine⟨a,rfl,⟨_,bN.of hown⟩,fun D nD=>?_⟩
 have ml:ms.length<=64:=by rw[p1.length_eq,List.length_map];exact ln
 have ol:=List.length_filter_le (fun k=>decide (cM k (cJ es f) =(r:Int))) ms
 have om:∀k∈ms.filter fun k=>decide (cM k (cJ es f) =(r:Int)),k∈es.map (·.1):=fun k hk=>p1.mem_iff.mp (List.mem_filter.mp hk).1
 generalize hG:ms.filter (fun k=>decide (cM k (cJ es f) =(r:Int)))=own at hown ol om
 refine gU (xs:=own.map V.int) (fun i σ' ys H'=>(∃x,σ'=[x,some (.ref p)])/\aM H1 H'/\∃ts:List Addr,ys=ts.map V.ref/\H' D=some (.lst ys)/\(∀t∈ts,t≠D)/\EL H' ts ((own.take i).map fun k=>(k,uI es k))) D ⟨⟨_,rfl⟩,aT nD _,[],rfl,aA,(fun _ h=>by cases h),P1.nil⟩ (fun i σ' ys H' _ h=>bN.of (h.2.1 _ _ hown)) ?_ ?_
 ·rintro i x σ' ys H2 hx ⟨⟨x1,rfl⟩,s2,ts,rfl,hD,hne,el⟩
  obtain⟨k,hk,rfl⟩:=ints_get hx
  have il:=(List.getElem?_eq_some_iff.mp hk).1
  have km:=om k (List.mem_of_getElem? hk)
  have tl:ts.length=i:=by rw[el.1,List.length_map,List.length_take];omega
  have t2:=(t.same s1).same s2
  obtain⟨dx2,ho2⟩:=t2.ob
  x_go
  refine⟨p,CT,dx2,_,_,rfl,ho2,TC.cl,TC.n_held,cS,?_⟩
  x_go
  refine⟨d,_,rfl,by rw[<- jd km];exact f9.k (k:=Sum.inl k) t2.dc,?_⟩
  x_go
  refine⟨zs2,fun u nu=>?_⟩
  generalize hE:upd H2 u _=H3
  obtain⟨hu3,s3⟩:=bu nu hE
  clear hE
  have uD:u≠D:=fun z=>by rw[z,hD]at nu;cases nu
  obtain⟨e,em,ek⟩:=List.mem_map.mp km
  have eo:=t.ok.2.1 e em
  have eth:uI es k=e.2:=by rw[<- ek];exact p9 t.ok.1 em
  obtain⟨n1,n2⟩:=Dz eo.2.2
  refine⟨s3 _ _ hD,by rw[List.length_map];exact bf (by omega),⟨_,rfl⟩,fun c o e=>by rw[az (ay e nD)];exact s3 _ _ (s2 _ _ e),ts ++ [u],by rw[List.map_append];rfl,aA,fun v hv=>?_,?_⟩
  ·rcases List.mem_append.mp hv with z|z
   ·exact hne v z
   ·rw[List.mem_singleton.mp z];exact uD
  ·rw[lU hk,List.map_append]
   have kt:∀t xs,H3 t=some (.tup xs)->(upd H3 D (.lst (ts.map V.ref ++ [V.ref u]))) t=some (.tup xs):=fun t' xs e=>by rw[az (cX e (s3 _ _ hD) (by intro z;cases z))];exact e
   refine P1.snoc (y:=(k,uI es k)) (el.keep fun t' xs e=>kt _ _ (s3 _ _ e)) ⟨kt _ _ hu3,?_,?_,?_,?_⟩
   ·show PyData.strOk (uI es k)=true
    rw[eth];exact n1
   ·show 0<=k
    rw[<- ek];exact eo.1
   ·show k<1152921504606846976
    rw[<- ek];exact eo.2.1
   ·show(uI es k).length<=100
    rw[eth];exact n2
 ·rintro σ' ys H2 ⟨⟨x1,rfl⟩,s2,ts,rfl,hD,hne,el⟩
  rw[List.length_map,List.take_length]at el
  have t2:=(t.same s1).same s2
  obtain⟨dx2,ho2⟩:=t2.ob
  have tl:ts.length<=64:=by rw[el.1,List.length_map];omega
  x_go
  refine⟨p,CT,dx2,_,_,rfl,ho2,TC.cl,TC.n_wide,mz,?_⟩
  x_go
  refine⟨D,ts.map V.ref,w,rfl,hD,by rw[List.length_map];omega,by omega,by omega,fun l3 H3 n3 rn s3=>?_⟩
  have s13:=s1.trans s2
  obtain⟨as3,g1,g2,g3,g4,g5⟩:=rn
  exact q ms ts l3 H3 p1 p2 (s13.trans s3) (s13.free n3) (by rw[hG];exact el.same s3) ⟨as3,g1,g2,g3,g4,fun b hb=>⟨s13.free (g5 b hb).1,(g5 b hb).2⟩⟩
theorem qu {f:Addr}{fd:FuncData}{CT:Addr}(F:cR K "spill" "Table.spill" gr f fd) (mF:Meth K CT "spill" f) (bF:Binds K fd kg []) (T:Bl mg) (TC:bx K mg CT) (vB:bT P w K mg base "spill" zd 3 (m7 K)) (fQ:bT P w K mg base "spill_spread" zd 3 (m7 K)) (bQ:VI P w K mg base CT):gW P w K mg base CT "spill" kg 8 (jf K CT):=by
 refine gW.of F mF bF rS (fun vs H Q E h=>?_) (fun _ A _ _ H vs Q E hr h=>?_)
 ·obtain⟨p,d,w,f,es,rfl,_⟩:=h;rfl
 obtain⟨p,d,w,f,es,rfl,t,q⟩:=h
 obtain⟨dx,ho⟩:=t.ob
 obtain⟨w1,w2,f1,f2⟩:=t.sz
 obtain⟨_,r1,r2⟩:=dD (es:=es) f1
 have ln:=t.ok.2.2
 refine⟨_,(av (aF (cI fQ hr.mo (af (fU bQ TC.cl hr.mo (pv 0)) (af (dM (pv 0) rfl) aj bq) aH)))),?_⟩
 rw[qI]
 x_go
 refine⟨p,dx,_,rfl,ho,gK (by z_go),?_⟩
 x_go
 refine⟨p,d,w,f,es,rfl,t,fun ms l H1 p1 p2 nl hl s1=>?_⟩
 x_go
 refine⟨p,CT,dx,_,_,rfl,s1 _ _ ho,TC.cl,TC.n_wide,mz,?_⟩
 x_go
 refine⟨l,_,w,rfl,bN.of hl,by rw[List.length_map,bJ];omega,w1,w2,fun H2 s2=>?_⟩
 exact q ms H2 p1 p2 (s1.trans s2)
theorem ng {f:Addr}{fd:FuncData}{CT:Addr}(F:cR K "longest" "Table.longest" e9 f fd) (mF:Meth K CT "longest" f) (bF:Binds K fd kg []) (T:Bl mg) (TC:bx K mg CT) (nE:bT P w K mg base "longest" zd 2 (iJ K)) (eu:bT P w K mg base "longest_spread" zd 2 (iJ K)) (bQ:VI P w K mg base CT):gW P w K mg base CT "longest" kg 8 (gM K CT):=by
 refine gW.of F mF bF n_ (fun vs H Q E h=>?_) (fun _ A _ _ H vs Q E hr h=>?_)
 ·obtain⟨p,d,w,f,es,rfl,_⟩:=h;rfl
 obtain⟨p,d,w,f,es,rfl,t,q⟩:=h
 obtain⟨dx,ho⟩:=t.ob
 obtain⟨w1,w2,f1,f2⟩:=t.sz
 obtain⟨_,r1,r2⟩:=dD (es:=es) f1
 have ln:=t.ok.2.2
 refine⟨_,(av (aF (cI eu hr.mo (af (fU bQ TC.cl hr.mo (pv 0)) (af (dM (pv 0) rfl) aj bq) aH)))),?_⟩
 rw[nh]
 x_go
 refine⟨p,dx,_,rfl,ho,gK (by z_go),?_⟩
 x_go
 refine⟨p,d,w,f,es,rfl,t,fun ms l H1 p1 p2 nl hl s1=>?_⟩
 x_go
 refine⟨p,CT,dx,_,_,rfl,s1 _ _ ho,TC.cl,TC.n_wide,mz,?_⟩
 x_go
 refine⟨l,_,w,rfl,bN.of hl,?_,by rw[List.length_map,bJ];omega,w1,w2,fun M t2 H2 m1 m2 n2 s2 ht=>?_⟩
 ·intro z
  have:=congrArg List.length z
  rw[List.length_map,bJ]at this
  simp at this
  omega
 ·exact q ms M t2 H2 p1 p2 m1 m2 (s1.trans s2) ht
theorem iZ {f:Addr}{fd:FuncData}{CT:Addr}(F:cR K "ask_standing" "Table.ask_standing" cZ f fd) (mF:Meth K CT "ask_standing" f) (bF:Binds K fd wg []) (T:Bl mg) {TE:Addr}{aZ:Addr}(aU:ir K mg "Lacking" aZ TE "key")   (TC:bx K mg CT) (dj:QX P w K mg base):Tp P w K mg base CT:=by
 refine fu.of F mF bF iY (fun vs H Q E h=>?_) (fun _ A _ _ H vs Q E hr h=>?_)
 ·obtain⟨p,d,w,f,es,kv,rfl,_⟩:=h;rfl
 obtain⟨p,d,w,f,es,kv,rfl,t,pk,h⟩:=h
 obtain⟨dx,ho⟩:=t.ob
 have hu1:=rM hr
 refine⟨_,(ao (cg (JC dj (b8.passes fun _ _ _ z=>z) hr.mo (af (pv 1) aj ah)))
   (av (bU (rG (ux hu1 (pv 1) (dM (pv 0) rfl))) (av (gO (k:=0) b8 aU.cls hr.mo rfl aU.mg (af (pv 1) aj ah))) aY))),?_⟩
 rw[iW]
 x_go
 rcases h with⟨k,rfl,hk,q⟩|⟨hk,q⟩|⟨k,rfl,kk,hk,q⟩
 ·refine⟨_,rfl,pk,.inl ⟨t.kv hk,?_⟩⟩
  x_go
  refine⟨p,CT,dx,_,_,rfl,ho,TC.cl,TC.n_held,cS,?_⟩
  refine⟨d,_,rfl,f9.k (k:=Sum.inl k) t.dc,?_⟩
  rw[find_some,decide_eq_true hk]
  x_go
  exact q
 ·exact⟨_,rfl,pk,.inr ⟨hk,q⟩⟩
 ·refine⟨_,rfl,pk,.inl ⟨kk,?_⟩⟩
  x_go
  refine⟨p,CT,dx,_,_,rfl,ho,TC.cl,TC.n_held,cS,?_⟩
  refine⟨d,_,rfl,f9.k (k:=Sum.inl k) t.dc,?_⟩
  rw[find_some,decide_eq_false hk]
  x_go
  exact⟨_,rfl,fun u ru=>q u _ ru aU.nm⟩
theorem i_ {f:Addr}{fd:FuncData}{CT:Addr}(F:cR K "spread_keys" "Table.spread_keys" dw f fd) (mF:Meth K CT "spread_keys" f) (bF:Binds K fd Dq []) (T:Bl mg) (TC:bx K mg CT) (gS:bT P w K mg base "spread" oW 5 (nY K)):Qu P w K mg base CT:=by
 refine gW.of F mF bF jD (fun vs H Q E h=>?_) (fun _ A _ _ H vs Q E hr h=>?_)
 ·obtain⟨p,d,w,f,es,R,rfl,_⟩:=h;rfl
 obtain⟨p,d,w,f,es,R,rfl,t,r1,r2,q⟩:=h
 obtain⟨dx,ho⟩:=t.ob
 refine⟨_,(av (aF (cI gS hr.mo (af (fO (qG rfl) rfl T.list vc (af (dM (pv 0) rfl) aj bq)) (af (pv 1) aj ah) aH)))),?_⟩
 rw[jH]
 x_go
 refine⟨p,CT,dx,_,_,rfl,ho,TC.cl,TC.n_held,cS,?_⟩
 x_go
 refine⟨d,_,rfl,t.dc,fun l nl=>?_⟩
 rw[A3]
 generalize hE:upd H l _=H1
 obtain⟨hl,s1⟩:=bu nl hE
 clear hE
 x_go
 refine⟨l,es.map (·.1),R,rfl,hl,by rw[List.length_map];have:=t.ok.2.2;omega,r1,r2,fun ms l2 H2 p1 p2 n2 L s2=>?_⟩
 exact q ms l2 H2 p1 p2 (s1.free n2) (L.base s1) (s1.trans s2)
theorem jv {f:Addr}{fd:FuncData}{CT:Addr}(F:cR K "room_counts" "Table.room_counts" dz f fd) (mF:Meth K CT "room_counts" f) (bF:Binds K fd kg []) (T:Bl mg) (TC:bx K mg CT) (aE:G8 P w K mg base CT) (qk:bT P w K mg base "counts" oW 6 (tS K)):VI P w K mg base CT:=by
 refine gW.of F mF bF jP (fun vs H Q E h=>?_) (fun _ A _ _ H vs Q E hr h=>?_)
 ·obtain⟨p,d,w,f,es,rfl,_⟩:=h;rfl
 obtain⟨p,d,w,f,es,rfl,t,q⟩:=h
 obtain⟨dx,ho⟩:=t.ob
 obtain⟨w1,w2,f1,f2⟩:=t.sz
 obtain⟨_,r1,r2⟩:=dD (es:=es) f1
 have ln:=t.ok.2.2
 refine⟨_,(av (aF (cI qk hr.mo (af (fO (qG rfl) rfl T.list vc (af (dM (pv 0) rfl) aj bq)) (af (fU aE TC.cl hr.mo (pv 0)) aj aH) aH)))),?_⟩
 rw[jI]
 x_go
 refine⟨p,CT,dx,_,_,rfl,ho,TC.cl,TC.n_held,cS,?_⟩
 x_go
 refine⟨d,_,rfl,t.dc,fun l nl=>?_⟩
 rw[A3]
 generalize hE:upd H l _=H1
 obtain⟨hl,s1⟩:=bu nl hE
 clear hE
 x_go
 refine⟨p,dx,_,rfl,s1 _ _ ho,gK (by z_go),?_⟩
 x_go
 refine⟨p,d,w,f,es,rfl,t.same s1,?_⟩
 x_go
 refine⟨l,es.map (·.1),cJ es f,rfl,hl,by rw[List.length_map];omega,r1,by omega,fun ms l2 H2 p1 p2 n2 hl2 s2=>?_⟩
 exact q ms l2 H2 p1 p2 (s1.free n2) hl2 (s1.trans s2)
theorem vS {f:Addr}{fd:FuncData}(F:cR K "_law_open" "_law_open" gh f fd) (mF:mg "_law_open" = some (.ref f)) (bF:Binds K fd JP []) (T:Bl mg)  : bT P w K mg base "_law_open" JP 1 (mV K):=by
 refine bT.of F mF bF dm (fun vs H Q E h=>?_) (fun _ A _ _ H vs Q E hr h=>?_)
 ·obtain⟨a,ns,pl,rfl,_⟩:=h;rfl
 obtain⟨a,ns,pl,rfl,hS,hlen,h0,h1,q⟩:=h
 have hu:=hr.units
 refine⟨_,(ao (vz (i:=2) dm.nd rfl rfl rfl (mO (sc:=aq gh) (N:=MU) (vs:=["_law_cell"]) (fs:=[]) (js:=[]) (by z_go) rfl rfl) (dH (fV mS (pv 0) j6 (gm au))) (fun _ _ _ _=>bO (i:=0) (show(["_law_cell"]:List Str).Nodup by z_go) rfl (Or.inl rfl)) (fun _ _ _ _=>vt) (fun _ _ _ _=>(aL Bj rfl T.abs L4 (af (pv 0) aj ah))))
   (ao (jt (bU (aX (vo hu) (pv 2) (dB aj) (bh _)) (av (aJ (i:=2) dm.nd rfl (Or.inl rfl) (dB (af au aj ai)))) aY))
   (ao (aJ (i:=3) dm.nd rfl (Or.inl rfl) (aK cW (pv 1) (aL dR rfl T.len dW (af (pv 2) aj ah))))
   (ao (aJ (i:=4) dm.nd rfl (Or.inl rfl) au)
   (ao (jt (bU (PW.pt (vP (aX EF (bV bG (pv 2) (pv 3) (fun _ _=>rfl)) (di (c:=1000000000000000000) (by z_go) ⟨by decide,by decide,by decide⟩) (bh _)) (pF (aX oj (pv 1) (aL dR rfl T.len dW (af (pv 2) aj ah)) (bh _))))) (av (aJ (i:=4) dm.nd rfl (Or.inl rfl) (bV bG (pv 2) (pv 3) (fun _ _=>rfl)))) aY))
   (av (aF (dB (af (pv 4) (af (aK b9 au (aK fk au (pv 1))) (af (aK vn (fV mS (pv 2) (gm (pv 3)) j6) (fV mS (pv 2) j6 (gm (pv 3)))) aj bz) bz) ah))))))))),?_⟩
 rw[vN]
 x_go
 refine rm hS fun p1 n1=>?_
 have hcut:lQ (ns.map V.int) none (some 63)=ns.map V.int:=by
  have:=Fo (ms:=ns) (k:=63)
  rw[List.take_of_length_le hlen]at this
  exact this
 rw[hcut]
 have s1:=aT n1 (.lst (ns.map V.int))
 have hp1:(upd H p1 (.lst (ns.map V.int))) p1=some (.lst (ns.map V.int)):=aA
 generalize upd H p1 (.lst (ns.map V.int))=H1 at s1 hp1 ⊢
 refine⟨p1,rfl,⟨_,bN.of hp1⟩,fun D nD=>?_⟩
 have nD0:H D=none:=s1.free nD
 have npD:p1≠D:=ay hp1 nD
 refine gU (xs:=ns.map V.int) (fun i σ' ys H'=>(∃x,σ'=[x])/\(∃ms:List Int,ys=ms.map V.int/\ms.length=i)/\aM H H'/\H' p1=some (.lst (ns.map V.int))/\H' D=some (.lst ys)) D ?_ (fun i σ' ys H' _ h=>bN.of h.2.2.2.1) ?_ ?_
 ·exact⟨⟨_,rfl⟩,⟨[],rfl,rfl⟩,s1.trans (aT nD _),by rw[az npD];exact hp1,aA⟩
 ·rintro i x σ' ys H' hx ⟨⟨y,rfl⟩,⟨ms,rfl,hms⟩,g1,g2,g3⟩
  have hil:i <(ns.map V.int).length:=(List.getElem?_eq_some_iff.mp hx).1
  rw[List.length_map]at hil
  obtain⟨z,rfl⟩ : ∃z,x=V.int z:=by
   rw[List.getElem?_map]at hx
   cases e:ns[i]? with
   | none=>rw[e]at hx;cases hx
   | some z=>rw[e]at hx;exact⟨z,(Option.some.inj hx).symm⟩
  x_go
  refine⟨g3,by rw[List.length_map];exact bf (by omega),⟨_,rfl⟩,⟨ms ++ [_],(by rw[List.map_append];rfl),by rw[List.length_append,hms];rfl⟩,fun b o e=>?_,?_,aA⟩
  ·rw[az (ay e nD0)];exact g1 _ _ e
  ·rw[az npD];exact g2
 ·rintro σ' ys H' ⟨⟨y,rfl⟩,⟨ms,rfl,hms⟩,g1,g2,g3⟩
  x_go
  refine⟨fun σ H2=>∃C ms,σ=[some (.ref a),some (.int pl),some (.ref C),none,none]/\ms ≠ []/\ms.length<=63/\H2 C=some (.lst (List.map V.int ms))/\aM H H2,?_,?_⟩
  ·x_go
   refine⟨by decide,fun p2 n2=>?_⟩
   refine⟨.list (ms.map PyData.int),.list [],DV.lst (bN.of (by rw[az (ay g3 n2)];exact g3)) (rW.ints ms),DV.lst (bN.of aA) .nil,shaped_ints ms,rfl,?_⟩
   have e:PyData.eqv (.list (ms.map PyData.int)) (.list [])=decide (ms=[]):=by
    have:=pS ms []
    rw[<- this,PyData.eqv];rfl
   rw[e]
   have s2:=g1.trans (aT n2 (.lst []))
   have g32:(upd H' p2 (.lst [])) D=some (.lst (ms.map V.int)):=by rw[az (ay g3 n2)];exact g3
   generalize upd H' p2 (.lst [])=H2 at s2 g32 ⊢
   x_go
   refine cN (fun h=>?_) (fun h=>?_)
   ·x_go
    refine⟨by decide,fun p3 n3=>?_⟩
    x_go
    exact⟨p3,[0],rfl,by simp,by simp,aA,s2.trans (aT n3 _)⟩
   ·x_go
    exact⟨D,ms,rfl,h,by rw[hms,List.length_map];exact hlen,g32,s2⟩
  ·rintro σ H2 ⟨C,ms,rfl,hne,hml,hC,s2⟩
   have hnl:=len_pos hne
   obtain⟨v,hv⟩:=KZ hne pl
   x_go
   refine⟨fun σ H3=>H3=H2/\∃d,σ=[some (.ref a),some (.int pl),some (.ref C),some (.int (pl%((ms.map V.int).length:Int))),some (.int d)],?_,?_⟩
   ·x_go
    refine cL (bN.of hC) hv ?_
    x_go
    refine cN (fun h=>?_) (fun h=>?_)
    ·x_go
     refine cN (fun h=>?_) (fun h=>?_)
     ·x_go
      refine cL (bN.of hC) hv ?_
      x_go
      exact⟨rfl,_,rfl⟩
     ·x_go
      exact⟨rfl,_,rfl⟩
    ·x_go
     exact⟨rfl,_,rfl⟩
   ·rintro σ H3 ⟨rfl,d,rfl⟩
    obtain⟨k,hk,hk2⟩ : ∃k:Nat,pl%((ms.map V.int).length:Int) =(k:Int)/\k<ms.length:=by
     have z0:=Int.emod_nonneg pl (show((ms.map V.int).length:Int)≠0 by omega)
     have z1:=Int.emod_lt_of_pos pl hnl
     rw[List.length_map]at z0 z1 ⊢
     exact⟨(pl%(ms.length:Int)).toNat,by omega,by omega⟩
    rw[hk]
    x_go
    refine rm (bN.of hC) fun p4 n4=>?_
    x_go
    have hC4:(upd H3 p4 (.lst (lQ (ms.map V.int) (some (k:Int)) none))) C=some (.lst (ms.map V.int)):=by rw[az (ay hC n4)];exact hC
    refine rm (bN.of hC4) fun p5 n5=>?_
    rw[ES,Fo]
    rw[ES]at hC4 n5
    have s4:=s2.trans (aT n4 (.lst ((ms.drop k).map V.int)))
    have hp4:(upd H3 p4 (.lst ((ms.drop k).map V.int))) p4=some (.lst ((ms.drop k).map V.int)):=aA
    generalize upd H3 p4 (.lst ((ms.drop k).map V.int))=H4 at s4 hp4 hC4 n5 ⊢
    have s5:=s4.trans (aT n5 (.lst ((ms.take k).map V.int)))
    have hp5:(upd H4 p5 (.lst ((ms.take k).map V.int))) p5=some (.lst ((ms.take k).map V.int)):=aA
    have hp45:(upd H4 p5 (.lst ((ms.take k).map V.int))) p4=some (.lst ((ms.drop k).map V.int)):=by rw[az (ay hp4 n5)];exact hp4
    generalize upd H4 p5 (.lst ((ms.take k).map V.int))=H5 at s5 hp5 hp45 ⊢
    refine⟨p4,p5,_,_,rfl,rfl,hp45,hp5,(by rw[List.length_map,List.length_map,List.length_drop,List.length_take];exact Nat.le_of_lt (bf (by omega))),fun p6 n6=>?_⟩
    x_go
    refine⟨zs3,fun p7 n7=>?_⟩
    have s6:=s5.trans (aT n6 (.lst ((ms.drop k).map V.int++(ms.take k).map V.int)))
    refine q p7 _ (s6.free n7) (s6.trans (aT n7 _)) ⟨p6,d,1+1009*pl,ms.drop k++ms.take k,aA,?_,by omega,by omega,?_⟩
    ·rw[az (ay aA n7),aA,List.map_append]
    ·intro e
     have:=congrArg List.length e
     rw[List.length_append,List.length_drop]at this
     simp at this
     omega
theorem vR {f:Addr}{fd:FuncData}(F:cR K "_law_draw" "_law_draw" jw f fd) (mF:mg "_law_draw" = some (.ref f)) (bF:Binds K fd FP []) (T:Bl mg)  : Ii P w K mg base:=by
 refine bT.of F mF bF dh (fun vs H Q E h=>?_) (fun _ A _ _ H vs Q E hr h=>?_)
 ·obtain⟨p,N,n,rfl,_⟩:=h;rfl
 obtain⟨p,N,n,rfl,hh,hN,hn,hn2,q⟩:=h
 obtain⟨l,d,c,ns,hp,hl,hc0,hcN,hns⟩:=hh.ex
 have npl:l≠p:=Ig hp hl
 have hnl:=len_pos hns
 refine⟨_,(ao (bU (aX LB (bV bG (pv 0) au (fun _ _=>rfl)) au (bh _)) (ao (aJ (i:=2) dh.nd rfl (Or.inl rfl) (aK cW (bV bG (pv 0) au (fun _ _=>rfl)) (pv 1)))
   (ao (zR (aK jj (bV bG (pv 0) au (fun _ _=>rfl)) (pv 1)) (Oc (pv 0) au set_list))
   (av (aF (pv 2))))) aY)
   (ao (JJ (pv 0) au Ew au DS set_list)
   (ao (aJ (i:=3) dh.nd rfl (Or.inl rfl) (bV bG (pv 0) au (fun _ _=>rfl)))
   (ao (aJ (i:=4) dh.nd rfl (Or.inl rfl) (aK cW (aK b9 (aK cW (bV bG (bV bG (pv 0) au (fun _ _=>rfl)) (aK cW (pv 3) (aL dR rfl T.len dW (af (bV bG (pv 0) au (fun _ _=>rfl)) aj aO))) (fun _ _=>rfl)) au) (aK fk au (pv 3))) au))
   (ao (aJ (i:=4) dh.nd rfl (Or.inl rfl) (aK cW (aK b9 (aK b9 (aK Ax (pv 4) au) (aK fk (aK fk au (pv 3)) (pv 3))) au) au))
   (ao (aJ (i:=4) dh.nd rfl (Or.inl rfl) (aK cW (aK b9 (aK fk (aK Ax (pv 4) au) (aK b9 (aK fk au (pv 3)) au)) au) au))
   (av (aF (aK cW (aK jj (aK cW (aK fk (pv 4) au) au) au) (pv 1)))))))))),?_⟩
 rw[vU]
 x_go
 refine cN (fun h=>?_) (fun h=>?_)
 ·x_go
  refine q _ _ (Int.emod_nonneg _ (by omega)) (Int.emod_lt_of_pos _ hn) ⟨l,d / n,c,ns,aA,?_,hc0,by omega,hns⟩ (Kp.hand hp)
  rw[az npl];exact hl
 ·x_go
  have hp1:(upd H p (.lst [V.int d,.int (c+1),.ref l])) p=some (.lst [.int d,.int (c+1),.ref l]):=aA
  have hl1:(upd H p (.lst [V.int d,.int (c+1),.ref l])) l=some (.lst (ns.map V.int)):=by rw[az npl];exact hl
  have k1:Kp H (upd H p (.lst [V.int d,.int (c+1),.ref l])) p:=Kp.hand hp
  generalize upd H p (.lst [V.int d,.int (c+1),.ref l])=H1 at hp1 hl1 k1 ⊢
  x_go
  obtain⟨v,hv⟩:=KZ hns (c+1)
  refine cL (bN.of hl1) hv ?_
  x_go
  have hn0:n≠0:=by omega
  exact q _ _ (Int.emod_nonneg _ hn0) (Int.emod_lt_of_pos _ hn) ⟨l,d,c+1,ns,hp1,hl1,by omega,by omega,hns⟩ k1
theorem wO {f:Addr}{fd:FuncData}(F:cR K "_law_far" "_law_far" lH f fd) (mF:mg "_law_far" = some (.ref f)) (bF:Binds K fd FP []) (T:Bl mg) (aD:Ii P w K mg base):bT P w K mg base "_law_far" FP 2 (oi K):=by
 refine bT.of F mF bF gn (fun vs H Q E h=>?_) (fun _ A _ _ H vs Q E hr h=>?_)
 ·obtain⟨p,N,n,rfl,_⟩:=h;rfl
 obtain⟨p,N,n,rfl,hh,hN,hn,hn2,q⟩:=h
 obtain⟨l,d,c,ns,hp,hl,hc0,hcN,hns⟩:=hh.ex
 refine⟨_,(ao (bU (aX LB (bV bG (pv 0) au (fun _ _=>rfl)) au (bh _)) (av (aF (cI aD hr.mo (af (pv 0) (af (pv 1) aj ah) ah)))) aY)
   (ao (aJ (i:=2) gn.nd rfl (Or.inl rfl) au)
   (ao (gv PassesOwn.never rfl (fM rfl T.range (af au aj ai)) (bO (i:=3) gn.nd rfl (Or.inl rfl)) (av (aJ (i:=2) gn.nd rfl (Or.inl rfl) (aK b9 (aK fk (pv 2) (di (c:=1000000) (by z_go) ⟨by decide,by decide,by decide⟩)) (cI aD hr.mo (af (pv 0) (af (di (c:=1000000) (by z_go) ⟨by decide,by decide,by decide⟩) aj bz) ah))))))
   (av (aF (aK cW (pv 2) (pv 1))))))),?_⟩
 rw[wz]
 x_go
 refine cN (fun h=>?_) (fun h=>?_)
 ·x_go
  exact⟨p,N,n,rfl,hh,by omega,hn,hn2,fun r H' h0 h1 h2 h3=>q r H' h0 h1 (h2.mono (by omega)) h3⟩
 ·x_go
  refine⟨7,rfl,by omega,by omega,?_⟩
  refine k8 (n:=7) (fun i σ H'=>(∃v x,σ=[some (.ref p),some (.int n),some (.int v),x])/\Hand H' p (N+i)/\Kp H H' p/\i<=7) ⟨⟨_,_,rfl⟩,hh,Kp.refl _ _,by omega⟩ ?_ ?_
  ·rintro i σ H' hi ⟨⟨v,x,rfl⟩,h1,h2,h3⟩
   x_go
   exact⟨p,N+i,_,rfl,h1,by omega,by decide,by decide,fun r H2 h0 h4 h5 h6=>by
    x_go
    exact⟨⟨_,_,rfl⟩,h5,h2.trans h6,by omega⟩⟩
  ·rintro σ H' ⟨⟨v,x,rfl⟩,h1,h2,h3⟩
   x_go
   exact q _ _ (Int.emod_nonneg _ (by omega)) (Int.emod_lt_of_pos _ hn) h1 h2
theorem r6 {f:Addr}{fd:FuncData}(F:cR K "_law_power" "_law_power" iI f fd) (mF:mg "_law_power" = some (.ref f)) (bF:Binds K fd ["_law_many"] []) (T:Bl mg)  : bT P w K mg base "_law_power" ["_law_many"] 1 (kT K):=by
 refine bT.of F mF bF eX (fun vs H Q E h=>?_) (fun _ A _ _ H vs Q E hr h=>?_)
 ·obtain⟨m,rfl,_⟩:=h;rfl
 obtain⟨m,rfl,hm,q⟩:=h
 refine⟨_,(ao (aJ (i:=1) eX.nd rfl (Or.inl rfl) au)
   (ao (gv PassesOwn.never rfl (fM rfl T.range (af (pv 0) aj ah)) (bO (i:=2) eX.nd rfl (Or.inl rfl)) (av (aJ (i:=1) eX.nd rfl (Or.inl rfl) (aK fk (pv 1) au))))
   (av (aF (pv 1))))),?_⟩
 rw[sX]
 x_go
 refine⟨(m:Int),rfl,by omega,by omega,?_⟩
 rw[show((m:Int)).toNat=m from by omega]
 refine k8 (n:=m) (fun i σ H'=>(∃x,σ=[some (.int m),some (.int (2^i)),x])/\H'=H) ⟨⟨_,rfl⟩,rfl⟩ ?_ ?_
 ·rintro i σ H' hi ⟨⟨x,rfl⟩,rfl⟩
  x_go
  exact⟨⟨_,by rw[Int.pow_succ]⟩,rfl⟩
 ·rintro σ H' ⟨⟨x,rfl⟩,rfl⟩
  x_go
  exact q
theorem x6 {f:Addr}{fd:FuncData}(F:cR K "_law_key" "_law_key" lI f fd) (mF:mg "_law_key" = some (.ref f)) (bF:Binds K fd rH []) (T:Bl mg) (aD:Ii P w K mg base) (iu:bT P w K mg base "_law_far" FP 2 (oi K)) (iH:bT P w K mg base "_law_power" ["_law_many"] 1 (kT K)):P7 P w K mg base:=by
 refine bT.of F mF bF jT (fun vs H Q E h=>?_) (fun _ A _ _ H vs Q E hr h=>?_)
 ·obtain⟨p,N,rfl,_⟩:=h;rfl
 obtain⟨p,N,rfl,hh,hN,q⟩:=h
 refine⟨_,(ao (aJ (i:=1) jT.nd rfl (Or.inl rfl) (cI aD hr.mo (af (pv 0) (af au aj ai) ah)))
   (ao (aJ (i:=2) jT.nd rfl (Or.inl rfl) (cI aD hr.mo (af (pv 0) (af (bV bG (dB (af au (af au (af au aj ai) ai) ai)) (cI aD hr.mo (af (pv 0) (af au aj ai) ah)) (fun _ _=>rfl)) aj aO) ah)))
   (ao (bU (aX oj (pv 1) au (bh _)) (av (aF (pv 2))) aY)
   (ao (bU (aX gP (pv 1) au (bh _)) (av (aF (aK d_ (aK d_ (di (c:=1152921504606846976) (by z_go) ⟨by decide,by decide,by decide⟩) au) (pv 2)))) aY)
   (ao (bU (aX gP (pv 1) au (bh _)) (av (aF (aK b9 (pv 2) (cI iH hr.mo (af (aK b9 au (cI aD hr.mo (af (pv 0) (af au aj ai) ah))) aj bz))))) aY)
   (ao (bU (aX gP (pv 1) au (bh _)) (av (aF (aK b9 (aK cW (pv 2) au) (aK fk au (cI iu hr.mo (af (pv 0) (af (di (c:=72057594037927936) (by z_go) ⟨by decide,by decide,by decide⟩) aj bz) ah)))))) aY)
   (av (aF (cI iu hr.mo (af (pv 0) (af (di (c:=1152921504606846976) (by z_go) ⟨by decide,by decide,by decide⟩) aj bz) ah)))))))))),?_⟩
 rw[wI]
 x_go
 refine⟨p,N,7,rfl,hh,by omega,by decide,by decide,fun way H1 w0 w1 hh1 k1=>?_⟩
 x_go
 refine⟨zs3,fun l nl=>?_⟩
 x_go
 have k2:=k1.trans (Kp.of (aT nl (.lst [V.int 4,V.int 16,V.int 200])) hh1)
 have hh2:=hh1.same (aT nl (.lst [V.int 4,V.int 16,V.int 200]))
 have hl:(upd H1 l (.lst [V.int 4,V.int 16,V.int 200])) l=some (.lst [V.int 4,V.int 16,V.int 200]):=aA
 have nlp:l≠p:=by
  obtain⟨l1,d,c,ns,h1,_⟩:=hh1.ex
  exact(ay h1 nl).symm
 generalize upd H1 l (.lst [V.int 4,V.int 16,V.int 200])=H2 at k2 hh2 hl ⊢
 refine⟨p,N+1,3,rfl,hh2,by omega,by decide,by decide,fun r H3 r0 r1 hh3 k3=>?_⟩
 have hl3:=k3.1 _ _ hl nlp
 obtain⟨b,hb,b0,b1⟩ : ∃b:Int,sZ [V.int 4,V.int 16,V.int 200] r=some (.int b)/\0<b/\b<=200:=by
  have:r=0\/r=1\/r=2:=by omega
  rcases this with rfl|rfl|rfl
  ·exact⟨4,rfl,by decide,by decide⟩
  ·exact⟨16,rfl,by decide,by decide⟩
  ·exact⟨200,rfl,by decide,by decide⟩
 refine cL (bN.of hl3) hb ?_
 x_go
 refine⟨p,N+1+1,b,rfl,hh3,by omega,b0,by omega,fun low H4 l0 l1 hh4 k4=>?_⟩
 have k5:=(k2.trans k3).trans k4
 x_go
 refine cN (fun c1=>?_) (fun c1=>?_)
 ·x_go
  exact q _ _ l0 (by omega) (hh4.mono (by omega)) k5
 x_go
 refine cN (fun c2=>?_) (fun c2=>?_)
 ·x_go
  exact q _ _ (by omega) (by omega) (hh4.mono (by omega)) k5
 x_go
 refine cN (fun c3=>?_) (fun c3=>?_)
 ·x_go
  refine⟨p,N+1+1+1,52,rfl,hh4,by omega,by decide,by decide,fun e H5 e0 e1 hh5 k6=>?_⟩
  x_go
  obtain⟨m,rfl⟩ : ∃m:Nat,e =(m:Int):=⟨e.toNat,by omega⟩
  refine⟨8+m,(by show [V.int (8+(m:Int))]=[V.int ((8+m:Nat):Int)];rw[show(8+(m:Int)) =((8+m:Nat):Int) by omega]),by omega,?_⟩
  x_go
  have h1:(2:Int)^(8+m)<=2^59:=Kv (by omega)
  have h2:(0:Int)<2^(8+m):=Int.pow_pos (by decide)
  have h3:(2:Int)^59=576460752303423488:=by decide
  exact q _ _ (by omega) (by omega) (hh5.mono (by omega)) (k5.trans k6)
 x_go
 refine cN (fun c4=>?_) (fun c4=>?_)
 ·x_go
  refine⟨p,N+1+1+1,_,rfl,hh4,by omega,by decide,by decide,fun e H5 e0 e1 hh5 k6=>?_⟩
  x_go
  exact q _ _ (by omega) (by omega) (hh5.mono (by omega)) (k5.trans k6)
 ·x_go
  exact⟨p,N+1+1+1,_,rfl,hh4,by omega,by decide,by decide,fun e H5 e0 e1 hh5 k6=>q _ _ e0 e1 (hh5.mono (by omega)) (k5.trans k6)⟩
theorem uU {f:Addr}{fd:FuncData}(F:cR K "_law_keys" "_law_keys" jL f fd) (mF:mg "_law_keys" = some (.ref f)) (bF:Binds K fd FP []) (T:Bl mg) (b7:P7 P w K mg base):bT P w K mg base "_law_keys" FP 4 (mh K):=by
 refine bT.of F mF bF dX (fun vs H Q E h=>?_) (fun _ A _ _ H vs Q E hr h=>?_)
 ·obtain⟨p,N,n,rfl,_⟩:=h;rfl
 obtain⟨p,N,n,rfl,hh,hN,n0,n1,q⟩:=h
 have e60:(2:Int)^60=1152921504606846976:=by decide
 refine⟨_,(ao (aJ (i:=2) dX.nd rfl (Or.inl rfl) (dB aj))
   (ao (gv PassesOwn.never rfl (fM rfl T.range (af (pv 1) aj ah)) (bO (i:=3) dX.nd rfl (Or.inl rfl)) (ao (aJ (i:=4) dX.nd rfl (Or.inl rfl) (cI b7 hr.mo (af (pv 0) aj ah)))
   (ao (qt PassesOwn.never (aX uA (pv 4) (pv 2) (by with_unfolding_all rfl)) (av (aJ (i:=4) dX.nd rfl (Or.inl rfl) (aK cW (aK b9 (pv 4) au) (di (c:=1152921504606846976) (by z_go) ⟨by decide,by decide,by decide⟩)))))
   (av (cg (oF PySem.F.plainAttrs_list PySem.F.slot_list_append PySem.F.type_list_append gX (pv 2) (af (pv 4) aj ah)))))))
   (av (aF (pv 2))))),?_⟩
 rw[vd]
 x_go
 refine⟨by decide,fun D nD=>?_⟩
 have ck:=CK.start (ys:=[]) hh nD
 generalize upd H D _=H1 at ck ⊢
 x_go
 refine⟨n,rfl,by omega,by omega,?_⟩
 refine k8 (n:=n.toNat) (fun i σ H'=>(∃x1 x2,σ=[some (.ref p),some (.int n),some (.ref D),x1,x2])/\∃ns:List Int,ns.Nodup/\(∀k∈ns,0<=k/\k<1152921504606846976)/\ns.length=i/\CK H p D (N+20*i) (ns.map V.int) H') ⟨⟨_,_,rfl⟩,[],List.nodup_nil,by simp,rfl,ck⟩ ?_ ?_
 ·rintro i σ H2 hi ⟨⟨x1,x2,rfl⟩,ns,nd,bd,len,ck⟩
  x_go
  refine⟨p,_,rfl,ck.hh,by omega,fun v H3 v0 v1 hh3 k3=>?_⟩
  have ck:=ck.draw k3 hh3
  have hD:=ck.lat
  x_go
  obtain⟨m0,hm0⟩:=p8 (ks:=ns) (by omega) v
  refine⟨fun m σ H'=>H'=H3/\∃v,σ=[some (.ref p),some (.int n),some (.ref D),some (.int (0+i)),some (.int v)]/\0<=v/\v<1152921504606846976/\(v+m)%1152921504606846976∉ns,⟨m0,rfl,v,rfl,v0,by omega,hm0⟩,?_⟩
  rintro m σ H' ⟨rfl,v,rfl,u0,u1,hm⟩
  x_go
  refine Dg (bN.of hD) ?_
  x_go
  refine cN (fun c=>?_) (fun c=>?_)
  ·refine⟨_,fun σ' H'' h=>h,?_⟩
   x_go
   have hm1:m≠0:=fun e=>by
    subst e
    rw[show((0:Nat):Int)=0 from rfl,Int.add_zero,Int.emod_eq_of_lt u0 u1]at hm
    exact hm c
   refine⟨m-1,by omega,rfl,(v+1)%1152921504606846976,rfl,by omega,by omega,?_⟩
   have e:((v+1)%1152921504606846976+((m-1:Nat):Int))%1152921504606846976 =(v+m)%1152921504606846976:=by omega
   rw[e];exact hm
  ·x_go
   refine⟨.inl ⟨rfl,_,bN.of hD⟩,?_⟩
   x_go
   refine⟨D,_,_,rfl,rfl,hD,by rw[List.length_map];exact bf (by omega),?_⟩
   x_go
   refine⟨⟨_,_,rfl⟩,ns ++ [v],?_,fun k hk=>?_,by rw[List.length_append,len];rfl,?_⟩
   ·rw[List.nodup_append]
    exact⟨nd,by simp,fun a ha b hb e=>by simp at hb;rw[hb]at e;exact c (e ▸ ha)⟩
   ·rcases List.mem_append.mp hk with z|z
    ·exact bd k z
    ·simp at z;rw[z];exact⟨u0,u1⟩
   ·rw[List.map_append]
    exact ck.push
 ·rintro σ H2 ⟨⟨x1,x2,rfl⟩,ns,nd,bd,len,ck⟩
  x_go
  exact q D ns _ nD ck.lat nd (by omega) bd (ck.hh.mono (by omega)) ck.kp
theorem tK {f:Addr} {fd:FuncData} (F:cR K "_law_thing" "_law_thing" fD f fd) (mF:mg "_law_thing" = some (.ref f)) (bF:Binds K fd rH []) (T:Bl mg) (aD:Ii P w K mg base) : bT P w K mg base "_law_thing" rH 2 (kP K):=by
  refine bT.of F mF bF kO (fun vs H Q E h=>?_) (fun _ A _ _ H vs Q E hr h=>?_)
  · obtain ⟨p,N,rfl,_⟩:=h; rfl
  obtain ⟨p,N,rfl,hh,hN,q⟩:=h
  refine ⟨_,(ao (aJ (i:=1) kO.nd rfl (Or.inr rfl) aW)
      (av (aF (oF PySem.F.plainAttrs_str PySem.F.slot_str_join PySem.F.type_str_join IY aW (af (j_ rfl (mO (sc:=aq fD) (N:=ME) (vs:=["_law_k"]) (fs:=["_law_letters", "_law_hand"]) (js:=[1,0]) (by z_go) rfl rfl) (fM rfl T.range (af (aK b9 au (cI aD hr.mo (af (pv 0) (af au aj ai) ah))) aj bz)) (fun _ _ _ _=>bO (i:=0) (show (["_law_k", "_law_letters", "_law_hand"] : List Str).Nodup by z_go) rfl (Or.inl rfl)) (fun _ _ _ _=>vt) (fun _ _ _ _=>(bV Eo (pv 1) (cI aD hr.mo (af (pv 2) (af au aj ai) ah)) (fun _ _=>rfl)))) aj fB))))),?_⟩
  rw [s_]
  x_go
  refine ⟨rfl,?_⟩
  x_go
  refine ⟨p,_,8,rfl,hh,by omega,by decide,by decide,fun n H1 n0 n1 hh1 k1=>?_⟩
  x_go
  refine ⟨_,rfl,by omega,by omega,fun D nD=>?_⟩
  refine kX (n:=(1 + n).toNat) (fun j σ' ys H'=>(∃ x,σ' = [x,some (.str (Str.ofString "abcdefghijklmnopqrstuvwxyz")),some (.ref p)])/\(∃ zs:List Str,ys = zs.map V.str/\zs.length = j/\∀ y ∈ zs,y.length = 1/\∀ c ∈ y.cps,97 <= c/\c <= 122)/\j <= 8/\CK H1 p D (N + 1 + j) ys H') D ⟨⟨_,rfl⟩,⟨[],rfl,rfl,fun _ h=>(by cases h)⟩,by omega,CK.start hh1 nD⟩ ?_ ?_
  · rintro j σ' ys H2 hj ⟨⟨x,rfl⟩,⟨zs,rfl,zl,zc⟩,j8,ck⟩
    x_go
    refine ⟨p,_,26,rfl,ck.hh,by omega,by decide,by decide,fun v H3 v0 v1 hh3 k3=>?_⟩
    have ck:=ck.draw k3 hh3
    obtain ⟨c,hc,c1⟩:=M5 v0 v1
    refine DL (by z_go) hc ?_
    refine ⟨ck.lat,by rw [List.length_map]; exact bf (by omega),⟨_,rfl⟩,⟨zs ++ [⟨#[c]⟩],by rw [List.map_append]; rfl,by rw [List.length_append,zl]; rfl,fun y hy=>?_⟩,by omega,ck.push⟩
    rcases List.mem_append.mp hy with h | h
    · exact zc y h
    · have e:y = ⟨#[c]⟩:=by simpa using h
      subst e
      exact ⟨rfl, fun d hd => by have : d = c := by simpa using hd
                                 omega⟩
  · rintro σ' ys H2 ⟨⟨x,rfl⟩,⟨zs,rfl,zl,zc⟩,j8,ck⟩
    x_go
    refine ⟨_,D,zs,rfl,rfl,bN.of ck.lat,?_,?_⟩
    · rw [DJ zs zc,show (Str.ofString "").length = 0 by decide]; omega
    obtain ⟨w1,w2⟩:=AI zs zc
    rw [QI]
    exact q _ _ ⟨by rw [w1]; omega,by rw [w1]; omega,w2⟩ (ck.hh.mono (by omega)) (k1.trans ck.kp)
theorem sG {f:Addr}{fd:FuncData}(F:cR K "_law_state" "_law_state" iB f fd) (mF:mg "_law_state" = some (.ref f)) (bF:Binds K fd NV []) (T:Bl mg) {CT:Addr}(TC:bx K mg CT) (cC:M7 P w K mg base CT) (bW:QT P w K mg base CT) (aE:G8 P w K mg base CT) (cy:NT P w K mg base CT) (gw:gW P w K mg base CT "spill" kg 8 (jf K CT)) (fm:gW P w K mg base CT "longest" kg 8 (gM K CT)):Ot P w K mg base CT:=by
 refine bT.of F mF bF ku (fun vs H Q E h=>?_) (fun _ A _ _ H vs Q E hr h=>?_)
 ·obtain⟨p,d,w,f,es,rfl,_⟩:=h;rfl
 obtain⟨p,d,w,f,es,rfl,t,q⟩:=h
 obtain⟨dx,ho⟩:=t.ob
 obtain⟨w1,w2,f1,f2⟩:=t.sz
 obtain⟨_,r1,r2⟩:=dD (es:=es) f1
 have ln:=t.ok.2.2
 refine⟨_,(ao (aJ (i:=1) ku.nd rfl (Or.inl rfl) (fH (aI (nJ cC qj TC.cl hr.mo (pv 0) (af au aj ai)) (aI (nJ cC qj TC.cl hr.mo (pv 0) (af (aK d_ (fU aE TC.cl hr.mo (pv 0)) au) aj bz)) (aI (nJ cC qj TC.cl hr.mo (pv 0) (af (aK jj (fU aE TC.cl hr.mo (pv 0)) au) aj bz)) fF aH) aH) aH)))
   (av (aF (aQ (af (fU bW TC.cl hr.mo (pv 0)) (af (fU aE TC.cl hr.mo (pv 0)) (af (fU cy TC.cl hr.mo (pv 0)) (af (pv 1) (af (fU gw TC.cl hr.mo (pv 0)) (af (fU fm TC.cl hr.mo (pv 0)) aj aH) aH) ah) aH) aH) aH))))),?_⟩
 rw[se]
 x_go
 refine⟨p,dx,_,rfl,ho,gK (by z_go),?_⟩
 x_go
 refine⟨p,d,w,f,es,_,rfl,t,.int _,.inl ⟨0,rfl,by omega,fun ms ts l1 H1 p1 p2 s1 nl1 el1 rn1=>?_⟩⟩
 have gA:=fun a (ha:Old H a)=>vD (K:=K) el1 nl1 rn1 s1 ha
 have t1:=t.same s1
 clear el1 rn1 nl1
 obtain⟨dx1,ho1⟩:=t1.ob
 x_go
 refine⟨p,dx1,_,rfl,ho1,gK (by z_go),?_⟩
 x_go
 refine⟨p,dx1,_,rfl,ho1,gK (by z_go),?_⟩
 x_go
 refine⟨p,d,w,f,es,rfl,t1,?_⟩
 x_go
 refine⟨p,d,w,f,es,_,rfl,t1,.int _,.inl ⟨cJ es f-1,by congr 1;omega,by omega,fun ms2 ts2 l2 H2 p12 p22 s2 nl2 el2 rn2=>?_⟩⟩
 obtain rfl:=ow p12 p22 p1 p2
 have gB:=fun a (ha:Old H a)=>vD (K:=K) el2 nl2 rn2 s2 (ha.same s1)
 have t2:=t1.same s2
 clear el2 rn2 nl2
 obtain⟨dx2,ho2⟩:=t2.ob
 x_go
 refine⟨p,dx2,_,rfl,ho2,gK (by z_go),?_⟩
 x_go
 refine⟨p,dx2,_,rfl,ho2,gK (by z_go),?_⟩
 x_go
 refine⟨p,d,w,f,es,rfl,t2,?_⟩
 x_go
 refine⟨p,d,w,f,es,_,rfl,t2,.int _,.inl ⟨cJ es f / 2,by congr 1,by omega,fun ms3 ts3 l3 H3 p13 p23 s3 nl3 el3 rn3=>?_⟩⟩
 obtain rfl:=ow p13 p23 p1 p2
 have gC:=fun a (ha:Old H a)=>vD (K:=K) el3 nl3 rn3 s3 (ha.same (s1.trans s2))
 have t3:=t2.same s3
 clear el3 rn3 nl3
 obtain⟨dx3,ho3⟩:=t3.ob
 x_go
 refine⟨zs3,fun lr nlr=>?_⟩
 generalize hE:upd H3 lr _=H4
 obtain⟨hlr,s4⟩:=bu nlr hE
 clear hE
 have gR:∀a,Old H a->GD K (hid a H4) 4 (.ref lr) (.list [ko (ue es f w ms3 0),ko (ue es f w ms3 (cJ es f-1)),ko (ue es f w ms3 (cJ es f / 2))]) :=
  fun a ha=>GD.lst (by rw[eE ((ha.same ((s1.trans s2).trans s3)).ne nlr)];exact hlr) (.cons ((gA a ha).same (cz (s2.trans (s3.trans s4)))) (.cons ((gB a ha).same (cz (s3.trans s4))) (.cons ((gC a ha).same (cz s4)) .nil)))
 have t4:=t3.same s4
 have s04:=((s1.trans s2).trans s3).trans s4
 clear gA gB gC t1 t2 t3 s1 s2 s3 s4 ho1 ho2 ho3 hlr
 obtain⟨dx4,ho4⟩:=t4.ob
 x_go
 refine⟨p,dx4,_,rfl,ho4,gK (by z_go),?_⟩
 x_go
 refine⟨p,d,w,f,es,rfl,t4,?_⟩
 x_go
 refine⟨p,dx4,_,rfl,ho4,gK (by z_go),?_⟩
 x_go
 refine⟨p,d,w,f,es,rfl,t4,?_⟩
 x_go
 refine⟨p,dx4,_,rfl,ho4,gK (by z_go),?_⟩
 x_go
 refine⟨p,d,w,f,es,rfl,t4,fun ps ts le H5 pp po s5 nle hle el=>?_⟩
 have gE:∀a,Old H a->GD K (hid a H5) 2 (.ref le) (.list ((ms3.map fun k=>(k,uI es k)).map pE)):=fun a ha=>by
  have ha4:=ha.same s04
  have elh:EL (hid a H5) ts ps:=el.keep fun t xs e=>(ha4.same s5).tp e
  have:=GD.lst (K:=K) (show(hid a H5) le=_ by rw[eE (ha4.ne nle)];exact hle) (pQ elh.en)
  rw[show PyData.list ((ts.map V.ref).map (dE (hid a H5)))=C1 (hid a H5) (ts.map V.ref) from rfl,jV elh.en,elh.row,DP t.ok.1 pp po p1 p2]at this
  exact this
 have t5:=t4.same s5
 obtain⟨dx5,ho5⟩:=t5.ob
 x_go
 refine⟨p,dx5,_,rfl,ho5,gK (by z_go),?_⟩
 x_go
 refine⟨p,d,w,f,es,rfl,t5,fun ms H6 p16 p26 s6=>?_⟩
 obtain rfl:=ow p16 p26 p1 p2
 have t6:=t5.same s6
 obtain⟨dx6,ho6⟩:=t6.ob
 x_go
 refine⟨p,dx6,_,rfl,ho6,gK (by z_go),?_⟩
 x_go
 refine⟨p,d,w,f,es,rfl,t6,fun ms' M tl H7 p1' p2' m1 m2 s7 htl=>?_⟩
 obtain rfl:=ow p1' p2' p1 p2
 x_go
 refine⟨(by show 6<=sizeLine;decide),fun tt ntt=>?_⟩
 generalize hE:upd H7 tt _=H8
 obtain⟨htt,s8⟩:=bu ntt hE
 clear hE
 have s58:=(s6.trans s7).trans s8
 have s08:=s04.trans (s5.trans s58)
 refine q ms' M tt H8 p1 p2 ⟨m1,m2⟩ (fun a ha=>?_) s08
 have ha8:=ha.same s08
 have gL:GD K (hid a H8) 2 (.ref tl) (.tuple [.int M,.int ((d8 (Q6 es f ms') w).idxOf M:Nat)]):=GD.tup (ha8.tp (s8 _ _ htl)) (.cons (.int _) (.cons (.int _) .nil))
 exact GD.tup (ha8.tp htt) (.cons (.int _) (.cons (.int _) (.cons (((gE a ha).same (cz s58)).mono (by omega)) (.cons (((gR a ha).same (cz (s5.trans s58))).mono (by omega)) (.cons (.int _) (.cons (gL.mono (by omega)) .nil))))))
theorem pY {f:Addr}{fd:FuncData}(F:cR K "_law_places" "_law_places" gH f fd) (mF:mg "_law_places" = some (.ref f)) (bF:Binds K fd OA []) (T:Bl mg)  : bT P w K mg base "_law_places" OA 1 (jy K):=by
 refine bT.of F mF bF qF (fun vs H Q E h=>?_) (fun _ A _ _ H vs Q E hr h=>?_)
 ·obtain⟨a,ns,l,m,rfl,_⟩:=h;rfl
 obtain⟨a,ns,l,m,rfl,ha,hl,l0,l1,m0,m1,q⟩:=h
 refine⟨_,(av (aF (fO (xo rfl) rfl T.list vc (af (fO CC rfl T.range D9 (af au (af (aK b9 au (aL (nV rfl) rfl T.max vj (af (pv 1) (af (aL (Bu rfl) rfl T.min Nd (af (aL dR rfl T.len dW (af (pv 0) aj ah)) (af (pv 2) aj ah) aH)) aj aH) ah))) aj bz) ai)) aj aH)))),?_⟩
 rw[qf]
 x_go
 refine⟨a,_,rfl,.inl ha,?_⟩
 rw[List.length_map]
 x_go
 refine⟨_,_,rfl,fun r nr=>?_⟩
 generalize hE:upd H r _=H1
 obtain⟨hr1,s1⟩:=bu nr hE
 clear hE
 x_go
 refine⟨r,_,_,rfl,hr1,by omega,by omega,by omega,by omega,fun l' nl'=>?_⟩
 exact q _ l' _ (by omega) (s1.free nl') aA (s1.trans (aT nl' _))
theorem oQ {f:Addr}{fd:FuncData}(F:cR K "_law_odd_key" "_law_odd_key" fW f fd) (mF:mg "_law_odd_key" = some (.ref f)) (bF:Binds K fd rH []) (T:Bl mg) (aD:Ii P w K mg base):bT P w K mg base "_law_odd_key" rH 2 (iU K):=by
 refine bT.of F mF bF fj (fun vs H Q E h=>?_) (fun _ A _ _ H vs Q E hr h=>?_)
 ·obtain⟨p,N,rfl,_⟩:=h;rfl
 obtain⟨p,N,rfl,hh,hN,q⟩:=h
 refine⟨_,(ao (aJ (i:=1) fj.nd rfl (Or.inl rfl) (aK b9 (di (c:=10000000000000000000000000) (by z_go) ⟨by decide,by decide,by decide⟩) (cI aD hr.mo (af (pv 0) (af au aj ai) ah))))
   (ao (aJ (i:=2) fj.nd rfl (Or.inl rfl) (fH (aI (Dc yT au) (aI (di (c:=1152921504606846976) (by z_go) ⟨by decide,by decide,by decide⟩) (aI (pv 1) (aI (aK d_ au (pv 1)) (aI fZ (aI fZ (aI fq (aI aW (aI (aQ (af au aj ai)) (aI (dB (af au aj ai)) (aI qK fF FU) xF) aR) ai) ai) ai) ai) bz) ah) bz) oJ)))
   (av (aF (bV bG (pv 2) (cI aD hr.mo (af (pv 0) (af au aj ai) ah)) (fun _ _=>rfl)))))),?_⟩
 rw[oY]
 x_go
 refine⟨p,_,1000,rfl,hh,by omega,by decide,by decide,fun fr H1 fr0 fr1 hh1 k1=>?_⟩
 x_go
 refine⟨zs1,fun ta nta=>?_⟩
 generalize hE:upd H1 ta _=H2
 obtain⟨hh2,k2,hta,s2⟩:=BP hh1 nta k1 hE
 clear hE
 have tap:=hh1.ne nta
 x_go
 refine⟨zs1,fun la nla=>?_⟩
 generalize hE:upd H2 la _=H3
 obtain⟨hh3,k3,hla,s3⟩:=BP hh2 nla k2 hE
 clear hE
 have lap:=hh2.ne nla
 x_go
 intro da nda
 generalize hE:upd H3 da _=H4
 obtain⟨hh4,k4,hda,s4⟩:=BP hh3 nda k3 hE
 clear hE
 have dap:=hh3.ne nda
 x_go
 refine⟨(by show 11<=sizeLine;decide),fun l nl=>?_⟩
 generalize hE:upd H4 l _=H6
 obtain⟨hh6,k6,hl6,s6⟩:=BP hh4 nl k4 hE
 clear hE
 have lp:=hh4.ne nl
 x_go
 refine⟨p,_,11,rfl,hh6,by omega,by decide,by decide,fun g H7 g0 g1 hh7 k7=>?_⟩
 have hl7:=k7.1 _ _ hl6 lp
 have ta7:=k7.1 _ _ (s6 _ _ (s4 _ _ (s3 _ _ hta))) tap
 have la7:=k7.1 _ _ (s6 _ _ (s4 _ _ hla)) lap
 have da7:=k7.1 _ _ (s6 _ _ hda) dap
 obtain⟨j,rfl⟩ : ∃j:Nat,g =(j:Int):=⟨g.toNat,by omega⟩
 have all:∀v ∈ [V.int (-1),V.int 1152921504606846976,V.int (10000000000000000000000000+fr),V.int (0-(10000000000000000000000000+fr)),V.bl true,V.bl false,V.non,V.str (Str.ofString "5"),V.ref ta,V.ref la,V.ref da],Pl (hid p H7) v/\eO v=false:=by
  intro v hv
  simp only[List.mem_cons,List.not_mem_nil,or_false]at hv
  rcases hv with rfl|rfl|rfl|rfl|rfl|rfl|rfl|rfl|rfl|rfl|rfl
  ·exact⟨.int _,rfl⟩
  ·exact⟨.int _,rfl⟩
  ·refine⟨.int _,?_⟩
   show(decide (0<=10000000000000000000000000+fr) && decide (10000000000000000000000000+fr<1152921504606846976))=false
   rw[decide_eq_false (show ¬(10000000000000000000000000+fr<1152921504606846976) by omega),Bool.and_false]
  ·refine⟨.int _,?_⟩
   show(decide (0<=0-(10000000000000000000000000+fr)) && decide (0-(10000000000000000000000000+fr)<1152921504606846976))=false
   rw[decide_eq_false (show ¬(0<=0-(10000000000000000000000000+fr)) by omega),Bool.false_and]
  ·exact⟨.bl _,rfl⟩
  ·exact⟨.bl _,rfl⟩
  ·exact⟨.non,rfl⟩
  ·exact⟨.str _ (by z_go) (by z_go),rfl⟩
  ·exact⟨Pl.at tap (.tup ta7),rfl⟩
  ·exact⟨Pl.at lap (.lst la7),rfl⟩
  ·exact⟨Pl.at dap (.dic da7),rfl⟩
 have hx:=List.getElem?_eq_getElem (l:=[V.int (-1),V.int 1152921504606846976,V.int (10000000000000000000000000+fr),V.int (0-(10000000000000000000000000+fr)),V.bl true,V.bl false,V.non,V.str (Str.ofString "5"),V.ref ta,V.ref la,V.ref da]) (i:=j) (by show j<11;omega)
 refine cL (bN.of hl7) (fE hx) ?_
 x_go
 have hm:=all _ (List.mem_of_getElem? hx)
 exact q _ H7 hm.1 hm.2 (hh7.mono (by omega)) (k6.trans k7)
theorem mE {f:Addr}{fd:FuncData}(F:cR K "_law_odd_thing" "_law_odd_thing" eG f fd) (mF:mg "_law_odd_thing" = some (.ref f)) (bF:Binds K fd IL []) (T:Bl mg) (aD:Ii P w K mg base):bT P w K mg base "_law_odd_thing" IL 2 (gg K):=by
 refine bT.of F mF bF cD (fun vs H Q E h=>?_) (fun _ A _ _ H vs Q E hr h=>?_)
 ·obtain⟨p,N,z,rfl,_⟩:=h;rfl
 obtain⟨p,N,z,rfl,hh,hN,hz,q⟩:=h
 obtain⟨z1,z2,zc⟩:=hz
 refine⟨_,(ao (aJ (i:=2) cD.nd rfl (Or.inl rfl) (cI aD hr.mo (af (pv 0) (af au aj ai) ah)))
   (ao (aJ (i:=3) cD.nd rfl (Or.inl rfl) (aK cW (cI aD hr.mo (af (pv 0) (af au aj ai) ah)) (aL nB rfl T.len dW (af (pv 1) aj ah))))
   (ao (aJ (i:=4) cD.nd rfl (Or.inl rfl) aW)
   (ao (aJ (i:=5) cD.nd rfl (Or.inl rfl) (bV Eo (pv 4) (cI aD hr.mo (af (pv 0) (af (aL nB rfl T.len dW (af (pv 4) aj ah)) aj aH) ah)) (fun _ _=>rfl)))
   (ao (bU (aX oj (pv 2) au (bh _)) (av (aF (aK Bd (aK Bd (fV Dl (pv 1) j6 (gm (pv 3))) (pv 5)) (fV Dl (pv 1) (gm (aK b9 (pv 3) au)) j6)))) aY)
   (av (aF (bV bG (fH (aI aW (aI aW (aI fq (aI au (aI (dB (af (pv 1) aj ah)) fF xF) ai) ai) ai) ai)) (aK d_ (pv 2) au) (fun _ _=>rfl))))))))),?_⟩
 rw[m8]
 x_go
 refine⟨p,_,8,rfl,hh,by omega,by decide,by decide,fun way H1 y0 y1 hh1 k1=>?_⟩
 x_go
 refine⟨p,_,8,rfl,hh1,by omega,by decide,by decide,fun at0 H2 a0 a1 hh2 k2=>?_⟩
 x_go
 refine vX (Nat.le_of_lt (bf (by omega))) ?_
 x_go
 refine vX (z:=Str.ofString " !\"#$&'()*+,-./0123456789:;<=>?@ABCDEFGHIJKLMNOPQRSTUVWXYZ[\\]^_`{|}~\n\t") (by z_go) ?_
 rw[show((Str.ofString " !\"#$&'()*+,-./0123456789:;<=>?@ABCDEFGHIJKLMNOPQRSTUVWXYZ[\\]^_`{|}~\n\t").length:Int)=70 by z_go]
 refine⟨p,_,70,rfl,hh2,by omega,by decide,by decide,fun si H3 i0 i1 hh3 k3=>?_⟩
 obtain⟨c,hc,Cy,cl⟩:=Jq (z:=Str.ofString " !\"#$&'()*+,-./0123456789:;<=>?@ABCDEFGHIJKLMNOPQRSTUVWXYZ[\\]^_`{|}~\n\t") (n:=70) (by z_go) (by z_go) i0 i1
 refine DL (by z_go) hc ?_
 have kA:=(k1.trans k2).trans k3
 x_go
 refine cN (fun c1=>?_) (fun c1=>?_)
 ·x_go
  have lc:(⟨#[c]⟩ : Str).length=1:=rfl
  have lw:=bf (show z.length<=1000 by omega)
  refine DN (Nat.le_of_lt lw) ?_
  have l1:=Txt.slice_le z none (some (at0%(z.length:Int)))
  x_go
  refine A7 (Nat.le_of_lt (bf (by omega))) ?_
  x_go
  refine DN (Nat.le_of_lt lw) ?_
  have l2:=Txt.slice_le z (some (at0%(z.length:Int)+1)) none
  refine A7 (Nat.le_of_lt (bf (by rw[iS];omega))) ?_
  have lo:∀d∈z.cps,d<128:=fun d hd=>by have:=zc d hd;omega
  refine q _ _ (.str _ (by rw[iS,iS];omega) (A9 (A9 (fun c hc=>lo c (tR c hc)) (fun c' hc'=>?_)) fun c hc=>lo c (tR c hc))) (DG (c:=c) ?_ cl) (hh3.mono (by omega)) kA
  ·have e:c'=c:=by simpa using hc'
   rw[e];exact Cy
  ·rw[pq,pq]
   simp
 ·x_go
  refine⟨zs1,fun la nla=>?_⟩
  generalize hE:upd H3 la _=H4
  obtain⟨hh4,k4,hla,s4⟩:=BP hh3 nla kA hE
  clear hE
  have lap:=hh3.ne nla
  x_go
  refine⟨(by show 5<=sizeLine;decide),fun l nl=>?_⟩
  generalize hE:upd H4 l _=H5
  obtain⟨hh5,k5,hl5,s5⟩:=BP hh4 nl k4 hE
  clear hE
  x_go
  obtain⟨j,hj⟩ : ∃j:Nat,way-3 =(j:Int):=⟨(way-3).toNat,by omega⟩
  rw[hj]
  have all:∀v ∈ [V.str (Str.ofString ""),V.str (Str.ofString "abcdefghi"),V.non,V.int 7,V.ref la],Pl (hid p H5) v/\nameV v=false:=by
   intro v hv
   simp only[List.mem_cons,List.not_mem_nil,or_false]at hv
   rcases hv with rfl|rfl|rfl|rfl|rfl
   ·exact⟨.str _ (by z_go) (by z_go),by z_go⟩
   ·exact⟨.str _ (by z_go) (by z_go),by z_go⟩
   ·exact⟨.non,rfl⟩
   ·exact⟨.int _,rfl⟩
   ·exact⟨Pl.at lap (.lst (s5 _ _ hla)),rfl⟩
  have hx:=List.getElem?_eq_getElem (l:=[V.str (Str.ofString ""),V.str (Str.ofString "abcdefghi"),V.non,V.int 7,V.ref la]) (i:=j) (by show j<5;omega)
  refine cL (bN.of hl5) (fE hx) ?_
  x_go
  have hm:=all _ (List.mem_of_getElem? hx)
  exact q _ H5 hm.1 hm.2 (hh5.mono (by omega)) k5
theorem rZ {f:Addr}{fd:FuncData}(F:cR K "_law_kinds" "_law_kinds" iR f fd) (mF:mg "_law_kinds" = some (.ref f)) (bF:Binds K fd ["_law_e"] []) (T:Bl mg) {TE:Addr}{b6:Addr}(bR:ir K mg "Full" b6 TE "many") {aZ:Addr}(aU:ir K mg "Lacking" aZ TE "key") {bK:Addr}(bC:ir K mg "NoKey" bK TE "key") {br:Addr}(bg:ir K mg "NoRoom" br TE "number") {bB:Addr}(dS:ir K mg "NoSize" bB TE "thing") {a_:Addr}(aV:ir K mg "NoThing" a_ TE "thing")   (kt_tab:fc K [bK,a_,b6,aZ,br,bB]=true) (kt_top:nj K [bK,a_,b6,aZ,br,bB]=true)  : By P w K mg base "_law_kinds" ["_law_e"] 1 (kr K):=by
 refine By.of F mF bF gz (fun vs H Q E h=>?_) (fun _ A _ _ H vs Q E hr h=>?_)
 ·obtain⟨e,C,i,x,sx,rfl,_⟩:=h;rfl
 obtain⟨e,C,i,x,sx,rfl,hi,hs,hC,xa,xk,q⟩:=h
 have hcs:[bK,a_,b6,aZ,br,bB][i]? = some C:=by
  have e1:∀{D:Addr},W.nsIn K mainGlobals x=some (some (.ref D))->D=C:=fun z=>Value.ref.inj (Option.some.inj (Option.some.inj (z.symm.trans hC)))
  match i,hi with
  | 0,h=>cases h;rw[e1 bC.nm];rfl
  | 1,h=>cases h;rw[e1 aV.nm];rfl
  | 2,h=>cases h;rw[e1 bR.nm];rfl
  | 3,h=>cases h;rw[e1 aU.nm];rfl
  | 4,h=>cases h;rw[e1 bg.nm];rfl
  | 5,h=>cases h;rw[e1 dS.nm];rfl
  | n+6,h=>simp[Pw]at h
 have i6:i<6:=(List.getElem?_eq_some_iff.mp hcs).1
 have hm:=List.mem_of_getElem? hcs
 have kt:=fun d hd=>fc.at kt_tab hm (d:=d) hd
 have fl:=NS rfl (fc.nd kt_tab) hcs
 obtain⟨c1,c2,c3⟩:=NC i i6
 refine⟨_,(ao (aJ (i:=1) gz.nd rfl (Or.inl rfl) (fH (aI (aL (dI (K:=K) rfl) rfl T.isinstance bA (af (pv 0) (af (eS (v:=V.ref bK) rfl bC.mg (show L2.RelV (.ref bK) (.ref bK) from rfl)) aj ah) ah)) (aI (aL (dI (K:=K) rfl) rfl T.isinstance bA (af (pv 0) (af (eS (v:=V.ref a_) rfl aV.mg (show L2.RelV (.ref a_) (.ref a_) from rfl)) aj ah) ah)) (aI (aL (dI (K:=K) rfl) rfl T.isinstance bA (af (pv 0) (af (eS (v:=V.ref b6) rfl bR.mg (show L2.RelV (.ref b6) (.ref b6) from rfl)) aj ah) ah)) (aI (aL (dI (K:=K) rfl) rfl T.isinstance bA (af (pv 0) (af (eS (v:=V.ref aZ) rfl aU.mg (show L2.RelV (.ref aZ) (.ref aZ) from rfl)) aj ah) ah)) fF aH) aH) aH) aH)))
   (ao (aJ (i:=1) gz.nd rfl (Or.inl rfl) (aK vn (pv 1) (dB (af (aL (dI (K:=K) rfl) rfl T.isinstance bA (af (pv 0) (af (eS (v:=V.ref br) rfl bg.mg (show L2.RelV (.ref br) (.ref br) from rfl)) aj ah) ah)) (af (aL (dI (K:=K) rfl) rfl T.isinstance bA (af (pv 0) (af (eS (v:=V.ref bB) rfl dS.mg (show L2.RelV (.ref bB) (.ref bB) from rfl)) aj ah) ah)) aj aH) aH))))
   (ao (bU (PW.pt (rg (aX Lh (oF PySem.F.plainAttrs_list PySem.F.slot_list_count PySem.F.type_list_count CA (pv 1) (af fZ aj ai)) au (bh _)) (lu (gI (iA (aL (dI (K:=K) rfl) rfl T.isinstance bA (af (pv 0) (af (j9 (v:=.ty "ValueError") rfl T.ValueError tw rfl) aj ah) ah))))))) (av (aF aW)) aY)
   (av (aF (bV bG (fH (aI aW (aI aW (aI aW (aI aW (aI aW (aI aW fF ai) ai) ai) ai) ai) ai)) (oF PySem.F.plainAttrs_list PySem.F.slot_list_index PySem.F.type_list_index BG (pv 1) (af fZ aj ai)) (fun _ _=>rfl))))))),?_⟩
 rw[sW]
 x_go
 refine iN xa xk (fun u r=>r) (kt _ (by simp)) ?_
 x_go
 refine iN xa xk (fun u r=>r) (kt _ (by simp)) ?_
 x_go
 refine iN xa xk (fun u r=>r) (kt _ (by simp)) ?_
 x_go
 refine iN xa xk (fun u r=>r) (kt _ (by simp)) ?_
 x_go
 refine⟨zs4,fun l1 n1=>?_⟩
 generalize hE:upd H l1 _=H1
 obtain⟨h1,s1⟩:=bu n1 hE
 clear hE
 have xa1:=xa.same s1
 x_go
 refine iN xa1 xk (fun u r=>r) (kt _ (by simp)) ?_
 x_go
 refine iN xa1 xk (fun u r=>r) (kt _ (by simp)) ?_
 x_go
 refine⟨zs2,fun l2 n2=>?_⟩
 generalize hE:upd H1 l2 _=H2
 obtain⟨h2,s2⟩:=bu n2 hE
 clear hE
 x_go
 refine⟨l1,l2,_,_,rfl,rfl,s2 _ _ h1,h2,(by show 4+2<=sizeLine;decide),fun l3 n3=>?_⟩
 rw[show [V.bl (C == bK),V.bl (C == a_),V.bl (C == b6),V.bl (C == aZ)] ++ [V.bl (C == br),V.bl (C == bB)] =([bK,a_,b6,aZ,br,bB].map fun c=>C == c).map V.bl from rfl,fl]
 generalize hE:upd H2 l3 _=H3
 obtain⟨h3,s3⟩:=bu n3 hE
 clear hE
 have s03:=s1.trans (s2.trans s3)
 have xa3:=xa1.same (s2.trans s3)
 x_go
 refine⟨.inl ⟨rfl,_,bN.of h3⟩,?_⟩
 x_go
 refine BU (bN.of h3) ?_
 rw[c1]
 x_go
 refine Em (fun c=>absurd rfl c) (fun _=>?_)
 x_go
 refine iN xa3 xk (fun u r=>r) (nj.at kt_top hm) ?_
 x_go
 refine⟨(by show 6<=sizeLine;decide),fun l4 n4=>?_⟩
 generalize hE:upd H3 l4 _=H4
 obtain⟨h4,s4⟩:=bu n4 hE
 clear hE
 x_go
 refine⟨.inl ⟨rfl,_,bN.of (s4 _ _ h3)⟩,?_⟩
 x_go
 refine CM (bN.of (s4 _ _ h3)) c3 ?_
 rw[c2]
 have h6:[V.str "key",V.str "thing",V.str "full",V.str "lacking",V.str "room",V.str "size"][i]? = some (.str sx):=by
  rw[show [V.str "key",V.str "thing",V.str "full",V.str "lacking",V.str "room",V.str "size"]=Vt.map V.str from rfl,List.getElem?_map,hs];rfl
 refine cL (bN.of h4) (fE h6) ?_
 exact q H4 (s03.trans s4)
theorem uN {f:Addr}{fd:FuncData}(F:cR K "_law_done" "_law_done" jn f fd) (mF:mg "_law_done" = some (.ref f)) (bF:Binds K fd UN []) (T:Bl mg) {TE:Addr}{b6:Addr}(bR:ir K mg "Full" b6 TE "many") {aZ:Addr}(aU:ir K mg "Lacking" aZ TE "key") {bK:Addr}(bC:ir K mg "NoKey" bK TE "key") {br:Addr}(bg:ir K mg "NoRoom" br TE "number") {bB:Addr}(dS:ir K mg "NoSize" bB TE "thing") {a_:Addr}(aV:ir K mg "NoThing" a_ TE "thing")   (XT:Qe K mg TE) (kt_tab:fc K [bK,a_,b6,aZ,br,bB]=true) (kt_top:nj K [bK,a_,b6,aZ,br,bB]=true) {CT:Addr}(TC:bx K mg CT) (dU:Ml P w K mg base CT) (iy:fu P w K mg base CT "drop" wg 7 (kj K CT)) (dg:Nb P w K mg base CT) (cU:MA P w K mg base CT) (cC:M7 P w K mg base CT) (cQ:By P w K mg base "_law_kinds" ["_law_e"] 1 (kr K)):Q2 P w K mg base CT:=by
 refine bT.of F mF bF mH (fun vs H Q E h=>?_) (fun _ A _ _ H vs Q E hr h=>?_)
 ·obtain⟨x,d,w,f,es,way,kv,tv,rfl,_⟩:=h;rfl
 obtain⟨x,d,w,f,es,way,kv,tv,rfl,t,pk,ptv,h⟩:=h
 obtain⟨dx,ho⟩:=t.ob
 have nd:=fc.nd kt_tab
 refine⟨_,(ao (jt (I_ mH.nd rfl rfl (fun xe pn E1 thr=>(av (bU (aX gP (pv 1) au (bh _)) (av (cg (nJ dU (thr.passes fun _ _ _ z=>z) TC.cl hr.mo (pv 0) (af (pv 2) (af (pv 3) aj ah) ah)))) (av (bU (aX gP (pv 1) au (bh _)) (av (cg (nJ iy (thr.passes fun _ _ _ z=>z) TC.cl hr.mo (pv 0) (af (pv 2) aj ah)))) (av (bU (aX gP (pv 1) au (bh _)) (av (cg (nJ dg (thr.passes fun _ _ _ z=>z) TC.cl hr.mo (pv 0) (af (pv 2) aj ah)))) (av (bU (aX gP (pv 1) au (bh _)) (av (cg (nJ cU (thr.passes fun _ _ _ z=>z) TC.cl hr.mo (pv 0) (af (pv 2) aj ah)))) (av (cg (nJ cC (thr.passes fun _ _ _ z=>z) TC.cl hr.mo (pv 0) (af (pv 2) aj ah))))))))))))) (AL.named (i:=4) rfl rfl rfl aV.mg (fun exx=>(av (aF (aQ (af (Ed cQ (hr.mo.mark _) (af (pv 4) aj ah)) (af (rC (K:=K) rfl (pv 4) rfl) aj bq) aH))))) (AL.named (i:=4) rfl rfl rfl bR.mg (fun exx=>(av (aF (aQ (af (Ed cQ (hr.mo.mark _) (af (pv 4) aj ah)) (af (rC (K:=K) rfl (pv 4) rfl) aj bq) aH))))) (AL.named (i:=4) rfl rfl rfl bg.mg (fun exx=>(av (aF (aQ (af (Ed cQ (hr.mo.mark _) (af (pv 4) aj ah)) (af (rC (K:=K) rfl (pv 4) rfl) aj bq) aH))))) (AL.named (i:=4) rfl rfl rfl bC.mg (fun exx=>(av (aF (aQ (af (Ed cQ (hr.mo.mark _) (af (pv 4) aj ah)) (af (rC (K:=K) rfl (pv 4) rfl) aj bq) aH))))) (AL.named (i:=4) rfl rfl rfl aU.mg (fun exx=>(av (aF (aQ (af (Ed cQ (hr.mo.mark _) (af (pv 4) aj ah)) (af (rC (K:=K) rfl (pv 4) rfl) aj bq) aH))))) (AL.bare rfl XT.mg (fun exx=>(av (aF (aQ (af aW (af fq aj ai) ai))))) AL.nil))))))))
   (av (aF (aQ (af aW (af fq aj ai) ai))))),?_⟩
 rw[wc]
 x_go
 refine Fi (fun σ H'=>(∃y,σ=[some (.ref x),some (.int way),some kv,some tv,y])/\∀t H2,H2 t=some (.tup [.str "told",.non])->aM H' H2->Q (.ref t) H2) ?_ ?_
 ·intro Nx hNx
  refine⟨fun u C H0=>∃(i:Nat) (nx:Str) (v:V) (Cc:Addr),C=some Cc/\Pw[i]? = some nx/\i<5/\W.nsIn K mainGlobals nx=some (some (.ref Cc))/\RelV v u/\aM H H0/\∀t H',H' t=some (.tup [.str (kd i),v])->aM H H'->Q (.ref t) H',?_,?_⟩
  ·have rz:∀{i:Nat}{nx:Str}{v:V},Pw[i]? = some nx->i<5->(∀t H',H' t=some (.tup [.str (kd i),v])->aM H H'->Q (.ref t) H')->∀H0,aM H H0->Rz K (fun u C H0=>∃(i:Nat) (nx:Str) (v:V) (Cc:Addr),C=some Cc/\Pw[i]? = some nx/\i<5/\W.nsIn K mainGlobals nx=some (some (.ref Cc))/\RelV v u/\aM H H0/\∀t H',H' t=some (.tup [.str (kd i),v])->aM H H'->Q (.ref t) H') nx v H0 :=
    fun {i nx v} h1 h2 q H0 s0 u C ru hC=>⟨i,nx,v,C,rfl,h1,h2,hC,ru,s0,q⟩
   x_go
   refine cN (fun c=>?_) (fun c=>?_)
   ·subst c
    x_go
    refine⟨x,dx,_,rfl,ho,gK (by z_go),?_⟩
    x_go
    refine⟨x,d,w,f,es,kv,tv,rfl,t,pk,ptv,?_⟩
    rcases h with⟨i,v,a,q⟩|⟨k,z,_,rfl,rfl,k0,k1,hz,hl,q⟩|⟨k,cw,_⟩
    ·cases a with
     | pkey hk=>exact .inr (.inl ⟨hk,rz (i:=0) rfl (by decide) q H (aM.refl H)⟩)
     | pthing hk hz=>exact .inr (.inr (.inl ⟨hk,hz,fun H' s'=>rz (i:=1) rfl (by decide) q H' s'⟩))
     | pfull k0 k1 hz nk l64=>exact .inr (.inr (.inr ⟨_,_,rfl,rfl,k0,k1,hz,nk,l64,fun H' s'=>rz (i:=2) rfl (by decide) q H' s'⟩))
    ·refine .inl ⟨k,z,rfl,rfl,k0,k1,hz,hl,fun r H1 t1 kd1=>?_⟩
     x_go
     exact⟨⟨_,rfl⟩,fun tt H2 ht s2=>q tt H2 ht (t1.same s2) fun b o n e=>s2 _ _ (kd1 b o n e)⟩
    ·exact absurd cw (by decide)
   x_go
   refine cN (fun c1=>?_) (fun c1=>?_)
   ·subst c1
    x_go
    refine⟨x,dx,_,rfl,ho,gK (by z_go),?_⟩
    x_go
    refine⟨x,d,w,f,es,kv,rfl,t,pk,?_⟩
    rcases h with⟨i,v,a,q⟩|⟨k,z,cw,_⟩|⟨k,_,rfl,hk,q⟩
    ·cases a with
     | dkey hk=>exact .inr (.inl ⟨hk,rz (i:=0) rfl (by decide) q H (aM.refl H)⟩)
     | dlack hk nk=>exact .inr (.inr ⟨_,rfl,hk,nk,rz (i:=3) rfl (by decide) q H (aM.refl H)⟩)
    ·exact absurd cw (by decide)
    ·refine .inl ⟨k,rfl,hk,fun r H1 t1 kd1=>?_⟩
     x_go
     exact⟨⟨_,rfl⟩,fun tt H2 ht s2=>q tt H2 ht (t1.same s2) fun b o n e=>s2 _ _ (kd1 b o n e)⟩
   obtain⟨i,v,a,q⟩ : ∃i v,Ask es (cJ es f) way kv tv i v/\∀t H',H' t=some (.tup [.str (kd i),v])->aM H H'->Q (.ref t) H':=by
    rcases h with h|⟨k,z,cw,_⟩|⟨k,cw,_⟩
    ·exact h
    ·exact absurd cw c
    ·exact absurd cw c1
   x_go
   refine cN (fun c2=>?_) (fun c2=>?_)
   ·subst c2
    x_go
    refine⟨x,dx,_,rfl,ho,gK (by z_go),?_⟩
    x_go
    refine⟨x,d,w,f,es,kv,rfl,t,pk,?_⟩
    cases a with
    | fkey hk=>exact .inr (.inl ⟨hk,rz (i:=0) rfl (by decide) q H (aM.refl H)⟩)
    | flack hk nk=>exact .inr (.inr ⟨_,rfl,hk,nk,rz (i:=3) rfl (by decide) q H (aM.refl H)⟩)
   x_go
   refine cN (fun c3=>?_) (fun c3=>?_)
   ·subst c3
    x_go
    refine⟨x,dx,_,rfl,ho,gK (by z_go),?_⟩
    x_go
    refine⟨x,d,w,f,es,kv,rfl,t,pk,?_⟩
    cases a with
    | lkey hk=>exact .inr ⟨hk,rz (i:=0) rfl (by decide) q H (aM.refl H)⟩
   x_go
   refine⟨x,dx,_,rfl,ho,gK (by z_go),?_⟩
   x_go
   refine⟨x,d,w,f,es,kv,rfl,t,pk,?_⟩
   cases a with
   | room hv=>exact .inr ⟨hv,rz (i:=4) rfl (by decide) q H (aM.refl H)⟩
   | _=>first|exact absurd rfl c|exact absurd rfl c1|exact absurd rfl c2|exact absurd rfl c3
  ·rintro u C H0 ⟨i,nx,v,Cc,cc,hi,i5,hC,ru,s0,q⟩ e H' σ' v' rv xa xp sub hl
   cases cc
   obtain⟨y0,y1,y2,y3,y4,rfl⟩:=Wa hl
   obtain rfl:=rv.inj ru
   have s00:=aM.trans s0 sub
   have e1:∀{D:Addr},W.nsIn K mainGlobals nx=some (some (.ref D))->D=C:=fun z=>Value.ref.inj (Option.some.inj (Option.some.inj (z.symm.trans hC)))
   match i,hi,i5 with
   | 0,hi,_ =>
    cases hi
    obtain rfl:=e1 bC.nm
    have x1:=xa _ bC.cls
    refine .inr ⟨eW bC.xc aV.xc XT.xc (kD nd (i:=0) (j:=1) rfl rfl (by decide)),.inr ⟨eW bC.xc bR.xc XT.xc (kD nd (i:=0) (j:=2) rfl rfl (by decide)),.inr ⟨eW bC.xc bg.xc XT.xc (kD nd (i:=0) (j:=4) rfl rfl (by decide)),.inl ⟨jQ bC.xc,?_⟩⟩⟩⟩
    dsimp only[C7,Ends.goneO,List.set]
    x_go
    refine⟨e,bK,0,_,_,rfl,rfl,rfl,bC.nm,x1.any,bC.kit,fun H1 s1=>?_⟩
    x_go
    refine⟨e,_,_,rfl,x1.same s1,bC.at_,?_⟩
    x_go
    refine⟨zs2,fun tp ntp=>?_⟩
    generalize hE:upd H1 tp _=H2
    obtain⟨htp,s2⟩:=bu ntp hE
    clear hE
    x_go
    exact q tp H2 htp (s00.trans (aM.trans s1 s2))
   | 1,hi,_ =>
    cases hi
    obtain rfl:=e1 aV.nm
    have x1:=xa _ aV.cls
    refine .inl ⟨jQ aV.xc,?_⟩
    dsimp only[C7,Ends.goneO,List.set]
    x_go
    refine⟨e,a_,1,_,_,rfl,rfl,rfl,aV.nm,x1.any,aV.kit,fun H1 s1=>?_⟩
    x_go
    refine⟨e,_,_,rfl,x1.same s1,aV.at_,?_⟩
    x_go
    refine⟨zs2,fun tp ntp=>?_⟩
    generalize hE:upd H1 tp _=H2
    obtain⟨htp,s2⟩:=bu ntp hE
    clear hE
    x_go
    exact q tp H2 htp (s00.trans (aM.trans s1 s2))
   | 2,hi,_ =>
    cases hi
    obtain rfl:=e1 bR.nm
    have x1:=xa _ bR.cls
    refine .inr ⟨eW bR.xc aV.xc XT.xc (kD nd (i:=2) (j:=1) rfl rfl (by decide)),.inl ⟨jQ bR.xc,?_⟩⟩
    dsimp only[C7,Ends.goneO,List.set]
    x_go
    refine⟨e,b6,2,_,_,rfl,rfl,rfl,bR.nm,x1.any,bR.kit,fun H1 s1=>?_⟩
    x_go
    refine⟨e,_,_,rfl,x1.same s1,bR.at_,?_⟩
    x_go
    refine⟨zs2,fun tp ntp=>?_⟩
    generalize hE:upd H1 tp _=H2
    obtain⟨htp,s2⟩:=bu ntp hE
    clear hE
    x_go
    exact q tp H2 htp (s00.trans (aM.trans s1 s2))
   | 3,hi,_ =>
    cases hi
    obtain rfl:=e1 aU.nm
    have x1:=xa _ aU.cls
    refine .inr ⟨eW aU.xc aV.xc XT.xc (kD nd (i:=3) (j:=1) rfl rfl (by decide)),.inr ⟨eW aU.xc bR.xc XT.xc (kD nd (i:=3) (j:=2) rfl rfl (by decide)),.inr ⟨eW aU.xc bg.xc XT.xc (kD nd (i:=3) (j:=4) rfl rfl (by decide)),.inr ⟨eW aU.xc bC.xc XT.xc (kD nd (i:=3) (j:=0) rfl rfl (by decide)),.inl ⟨jQ aU.xc,?_⟩⟩⟩⟩⟩
    dsimp only[C7,Ends.goneO,List.set]
    x_go
    refine⟨e,aZ,3,_,_,rfl,rfl,rfl,aU.nm,x1.any,aU.kit,fun H1 s1=>?_⟩
    x_go
    refine⟨e,_,_,rfl,x1.same s1,aU.at_,?_⟩
    x_go
    refine⟨zs2,fun tp ntp=>?_⟩
    generalize hE:upd H1 tp _=H2
    obtain⟨htp,s2⟩:=bu ntp hE
    clear hE
    x_go
    exact q tp H2 htp (s00.trans (aM.trans s1 s2))
   | 4,hi,_ =>
    cases hi
    obtain rfl:=e1 bg.nm
    have x1:=xa _ bg.cls
    refine .inr ⟨eW bg.xc aV.xc XT.xc (kD nd (i:=4) (j:=1) rfl rfl (by decide)),.inr ⟨eW bg.xc bR.xc XT.xc (kD nd (i:=4) (j:=2) rfl rfl (by decide)),.inl ⟨jQ bg.xc,?_⟩⟩⟩
    dsimp only[C7,Ends.goneO,List.set]
    x_go
    refine⟨e,br,4,_,_,rfl,rfl,rfl,bg.nm,x1.any,bg.kit,fun H1 s1=>?_⟩
    x_go
    refine⟨e,_,_,rfl,x1.same s1,bg.at_,?_⟩
    x_go
    refine⟨zs2,fun tp ntp=>?_⟩
    generalize hE:upd H1 tp _=H2
    obtain⟨htp,s2⟩:=bu ntp hE
    clear hE
    x_go
    exact q tp H2 htp (s00.trans (aM.trans s1 s2))
   | n+5,_,h=>exact absurd h (by omega)
 ·rintro σ H1 ⟨⟨y,rfl⟩,q⟩
  x_go
  refine⟨zs2,fun tp ntp=>?_⟩
  generalize hE:upd H1 tp _=H2
  obtain⟨htp,s2⟩:=bu ntp hE
  clear hE
  x_go
  exact q tp H2 htp s2
theorem tF {f:Addr}{fd:FuncData}(F:cR K "_law_alike" "_law_alike" iP f fd) (mF:mg "_law_alike" = some (.ref f)) (bF:Binds K fd BX []) (T:Bl mg)  : bT P w K mg base "_law_alike" BX 1 (kL K):=by
 refine bT.of F mF bF rX (fun vs H Q E h=>?_) (fun _ A _ _ H vs Q E hr h=>?_)
 ·obtain⟨t,t',sx,v,rfl,_⟩:=h;rfl
 obtain⟨t,t',sx,v,rfl,h1,h2,plv,q⟩:=h
 have hu:=hr.units
 refine⟨_,(av (aF (ni (j3 (NK hu) (pv 0) (pv 1) (bh _)) (pU (j3 gP (aL e8 rfl T.isinstance bA (af (bV jq (pv 0) au (fun _ _=>rfl)) (af (j9 (v:=.ty "bool") rfl T.bool ve rfl) aj ah) aO)) (aL e8 rfl T.isinstance bA (af (bV jq (pv 1) au (fun _ _=>rfl)) (af (j9 (v:=.ty "bool") rfl T.bool ve rfl) aj ah) aO)) (bh _)))))),?_⟩
 rw[sD]
 x_go
 refine Oo (oS.of h1) (oS.of h2) (by rw[List.all_cons,List.all_cons,plv.plain];rfl) ?_
 x_go
 obtain⟨t1,ty1,k1⟩:=xj (K:=K) plv
 refine qz ty1 k1 ?_
 x_go
 refine qz ty1 k1 ?_
 x_go
 rw[decide_eq_true rfl]
 exact q
theorem oX {f:Addr}{fd:FuncData}(F:cR K "_law_refused" "_law_refused" fY f fd) (mF:mg "_law_refused" = some (.ref f)) (bF:Binds K fd LF []) (T:Bl mg) {CT:Addr}(TC:bx K mg CT) (aE:G8 P w K mg base CT) (cE:Ot P w K mg base CT) (fR:bT P w K mg base "_law_odd_key" rH 2 (iU K)) (aD:Ii P w K mg base) (eF:bT P w K mg base "_law_odd_thing" IL 2 (gg K)) (b7:P7 P w K mg base) (iQ:bT P w K mg base "_law_alike" BX 1 (kL K)) (bL:Q2 P w K mg base CT):bT P w K mg base "_law_refused" LF 10 (iT K CT):=by
 refine bT.of F mF bF aP (fun vs H Q E h=>?_) (fun _ A _ _ H vs Q E hr h=>?_)
 ·obtain⟨x,d,m,p,w,f,N,es,z,rfl,_⟩:=h;rfl
 obtain⟨x,d,m,p,w,f,N,es,z,rfl,tm,hz,hN,q⟩:=h
 have hu:=hr.units
 have hu1:=rM hr
 have ln:=tm.tb.ok.2.2
 obtain⟨w1,w2,f1,f2⟩:=tm.tb.sz
 obtain⟨_,r1,r2⟩:=dD (es:=es) f1
 have oldp:Old H p:=by
  obtain⟨l,d',c,ns,h1,_⟩:=tm.hh.ex
  exact⟨_,h1,fun xs e=>by cases e⟩
 refine⟨_,(ao (aJ (i:=4) aP.nd rfl (Or.inl rfl) (cI cE hr.mo (af (pv 0) aj ah)))
   (ao (aJ (i:=5) aP.nd rfl (Or.inl rfl) (cI fR hr.mo (af (pv 1) aj ah)))
   (ao (aJ (i:=6) aP.nd rfl (Or.inl rfl) (cI aD hr.mo (af (pv 1) (af au aj ai) ah)))
   (ao (aJ (i:=7) aP.nd rfl (Or.inl rfl) (cI eF hr.mo (af (pv 1) (af (pv 3) aj ah) ah)))
   (ao (aJ (i:=8) aP.nd rfl (Or.inl rfl) (cI b7 hr.mo (af (pv 1) aj ah)))
   (ao (qt PassesOwn.never (rG (Aw hu1 (pv 8) (pv 2))) (av (aJ (i:=8) aP.nd rfl (Or.inl rfl) (aK cW (aK b9 (pv 8) au) (di (c:=1152921504606846976) (by z_go) ⟨by decide,by decide,by decide⟩)))))
   (ao (aJ (i:=9) aP.nd rfl (Or.inl rfl) (fH (aI (aQ (af au (af (pv 5) (af (pv 7) (af (aQ (af aW (af (pv 5) aj ah) ai)) aj aR) ah) ah) ai)) (aI (aQ (af au (af (pv 8) (af (pv 7) (af (aQ (af aW (af (pv 7) aj ah) ai)) aj aR) ah) ah) ai)) (aI (aQ (af au (af (pv 5) (af aW (af (aQ (af aW (af (pv 5) aj ah) ai)) aj aR) ai) ah) ai)) fF aR) aR) aR)))
   (ao (aJ (i:=9) aP.nd rfl (Or.inl rfl) (aK vn (pv 9) (fH (aI (aQ (af au (af (pv 5) (af aW (af (aQ (af aW (af (pv 5) aj ah) ai)) aj aR) ai) ah) ai)) (aI (aQ (af au (af (pv 5) (af aW (af (aQ (af aW (af (pv 5) aj ah) ai)) aj aR) ai) ah) ai)) (aI (aQ (af au (af (pv 5) (af (pv 3) (af (aQ (af aW (af (pv 5) aj ah) ai)) aj aR) ah) ah) ai)) fF aR) aR) aR))))
   (ao (aJ (i:=9) aP.nd rfl (Or.inl rfl) (fH (aI (bV bG (pv 9) (pv 6) (fun _ _=>rfl)) (aI (aQ (af au (af (pv 8) (af aW (af (aQ (af aW (af (pv 8) aj ah) ai)) aj aR) ai) ah) ai)) (aI (aQ (af au (af (pv 8) (af aW (af (aQ (af aW (af (pv 8) aj ah) ai)) aj aR) ai) ah) ai)) fF aR) aR) aO)))
   (ao (aJ (i:=10) aP.nd rfl (Or.inl rfl) (fH (aI (fU aE TC.cl hr.mo (pv 0)) (aI (Dc yT au) (aI (di (c:=100000000000000000000) (by z_go) ⟨by decide,by decide,by decide⟩) (aI fZ (aI fq (aI aW (aI (aQ (af au aj ai)) fF aR) ai) ai) ai) bz) oJ) aH)))
   (ao (aJ (i:=11) aP.nd rfl (Or.inl rfl) (bV bG (pv 10) (cI aD hr.mo (af (pv 1) (af au aj ai) ah)) (fun _ _=>rfl)))
   (ao (cg (oF PySem.F.plainAttrs_list PySem.F.slot_list_append PySem.F.type_list_append gX (pv 9) (af (aQ (af au (af (pv 11) (af aW (af (aQ (af aW (af (pv 11) aj ah) ai)) aj aR) ai) ah) ai)) aj aR)))
   (ao (aJ (i:=10) aP.nd rfl (Or.inl rfl) (aL (lO rfl) rfl T.sorted er (af (pv 2) aj ah)))
   (ao (jt (bU (aX (jr hu) (pv 10) (dB aj) (bh _)) (av (cg (oF PySem.F.plainAttrs_list PySem.F.slot_list_append PySem.F.type_list_append gX (pv 9) (af (aQ (af au (af (bV bG (pv 10) (aK cW (cI aD hr.mo (af (pv 1) (af au aj ai) ah)) (aL dR rfl T.len dW (af (pv 10) aj ah))) (fun _ _=>rfl)) (af (pv 7) (af (aQ (af aW (af (pv 7) aj ah) ai)) aj aR) ah) aO) ai)) aj aR)))) aY))
   (ao (jt (bU (aX gP (aL nX rfl T.len dW (af (pv 2) aj ah)) au (bh _)) (av (aJ (i:=9) aP.nd rfl (Or.inl rfl) (aK vn (pv 9) (dB (af (aQ (af au (af (pv 8) (af (pv 3) (af (aQ (af aW (af au aj ai) ai)) aj aR) ah) ah) ai)) (af (aQ (af au (af (pv 8) (af (pv 7) (af (aQ (af aW (af (pv 7) aj ah) ai)) aj aR) ah) ah) ai)) aj aR) aR))))) aY))
   (ao (gv PassesOwn.never rfl (dH (pv 9)) (bO (i:=12) aP.nd rfl (Or.inl rfl)) (av (bU (PW.pt (rg (gI (iA (cI iQ hr.mo (af (cI bL hr.mo (af (pv 0) (af (bV jq (pv 12) au (fun _ _=>rfl)) (af (bV jq (pv 12) au (fun _ _=>rfl)) (af (bV jq (pv 12) au (fun _ _=>rfl)) aj aO) aO) aO) ah)) (af (bV jq (pv 12) au (fun _ _=>rfl)) aj aO) aH)))) (lu (aX (jr hu) (cI cE hr.mo (af (pv 0) aj ah)) (pv 4) (bh _))))) (av (aF fZ)) aY)))
   (av (aF fZ)))))))))))))))))),?_⟩
 rw[oM]
 x_go
 refine⟨x,d,w,f,es,rfl,tm.tb,fun ms M tk H1 p1 p2 mx gk s1=>?_⟩
 replace gk:=gk p oldp
 have tm1:=tm.same s1
 have k01:=Kp.of s1 tm.hh
 x_go
 refine⟨p,_,rfl,tm1.hh,by omega,fun ov H2 pO okO hh2 k2=>?_⟩
 have tm2:=tm1.draw k2 hh2
 x_go
 refine⟨p,_,6,rfl,hh2,by omega,by decide,by decide,fun way H3 y0 y1 hh3 k3=>?_⟩
 have tm3:=tm2.draw k3 hh3
 x_go
 refine⟨p,_,z,rfl,hh3,by omega,hz,fun bv H4 pB okB hh4 k4=>?_⟩
 have tm4:=tm3.draw k4 hh4
 x_go
 refine⟨p,_,rfl,hh4,by omega,fun key0 Hb a0 a1 hhb kb=>?_⟩
 have tmb:=tm4.draw kb hhb
 have kA:=((k2.trans k3).trans k4).trans kb
 replace gk:=gk.same kA.hid
 replace pO:=pO.same ((k3.trans k4).trans kb).hid
 replace pB:=pB.same kb.hid
 have k0b:=k01.trans kA
 clear k01 k2 k3 k4 kb kA hh2 hh3 hh4 tm1 tm2 tm3 tm4 s1
 x_go
 obtain⟨m0,hm0⟩:=p8 (ks:=es.map (·.1)) (by rw[List.length_map];omega) key0
 refine⟨fun n σ H''=>H''=Hb/\∃v:Int,σ=[some (.ref x),some (.ref p),some (.ref m),some (.str z),some (.ref tk),some ov,some (.int way),some bv,some (.int v),none,none,none,none]/\0<=v/\v<1152921504606846976/\(v+n)%1152921504606846976∉es.map (·.1),⟨m0,rfl,key0,rfl,a0,by omega,hm0⟩,?_⟩
 rintro n σ H'' ⟨rfl,key,rfl,u0,u1,hm⟩
 x_go
 refine⟨m,_,rfl,f9.k (k:=Sum.inl key) tmb.md,?_⟩
 rw[find_some]
 by_cases nk:key∈es.map (·.1)
 ·rw[decide_eq_true nk]
  x_go
  refine⟨_,fun σ' H'' h=>h,?_⟩
  x_go
  have hm1:n≠0:=fun e=>by
   subst e
   rw[show((0:Nat):Int)=0 from rfl,Int.add_zero,Int.emod_eq_of_lt u0 u1]at hm
   exact hm nk
  refine⟨n-1,by omega,rfl,(key+1)%1152921504606846976,rfl,by omega,by omega,?_⟩
  have e:((key+1)%1152921504606846976+((n-1:Nat):Int))%1152921504606846976 =(key+n)%1152921504606846976:=by omega
  rw[e];exact hm
 ·rw[decide_eq_false nk]
  have kk:eO (.int key)=true:=qU u0 u1
  clear hm hm0 m0 a0 a1 key0
  ·generalize hHb:H''=Hb at *
   clear hHb
   x_go
   refine⟨zs2,fun i1 ni1=>?_⟩
   generalize hE:upd Hb i1 _=Hb_1
   obtain⟨gi1,s_i1⟩:=bu ni1 hE
   clear hE
   have sA:=s_i1
   x_go
   refine⟨zs4,fun o1 no1=>?_⟩
   generalize hE:upd Hb_1 o1 _=Hb_2
   obtain⟨go1,s_o1⟩:=bu no1 hE
   clear hE
   replace gi1:=s_o1 _ _ gi1
   have sA:=sA.trans s_o1
   x_go
   refine⟨zs2,fun i2 ni2=>?_⟩
   generalize hE:upd Hb_2 i2 _=Hb_3
   obtain⟨gi2,s_i2⟩:=bu ni2 hE
   clear hE
   replace gi1:=s_i2 _ _ gi1
   replace go1:=s_i2 _ _ go1
   have sA:=sA.trans s_i2
   x_go
   refine⟨zs4,fun o2 no2=>?_⟩
   generalize hE:upd Hb_3 o2 _=Hb_4
   obtain⟨go2,s_o2⟩:=bu no2 hE
   clear hE
   replace gi1:=s_o2 _ _ gi1
   replace go1:=s_o2 _ _ go1
   replace gi2:=s_o2 _ _ gi2
   have sA:=sA.trans s_o2
   x_go
   refine⟨zs2,fun i3 ni3=>?_⟩
   generalize hE:upd Hb_4 i3 _=Hb_5
   obtain⟨gi3,s_i3⟩:=bu ni3 hE
   clear hE
   replace gi1:=s_i3 _ _ gi1
   replace go1:=s_i3 _ _ go1
   replace gi2:=s_i3 _ _ gi2
   replace go2:=s_i3 _ _ go2
   have sA:=sA.trans s_i3
   x_go
   refine⟨zs4,fun o3 no3=>?_⟩
   generalize hE:upd Hb_5 o3 _=Hb_6
   obtain⟨go3,s_o3⟩:=bu no3 hE
   clear hE
   replace gi1:=s_o3 _ _ gi1
   replace go1:=s_o3 _ _ go1
   replace gi2:=s_o3 _ _ gi2
   replace go2:=s_o3 _ _ go2
   replace gi3:=s_o3 _ _ gi3
   have sA:=sA.trans s_o3
   x_go
   refine⟨zs3,fun la nla=>?_⟩
   generalize hE:upd Hb_6 la _=Hb_7
   obtain⟨gla,s_la⟩:=bu nla hE
   clear hE
   replace gi1:=s_la _ _ gi1
   replace go1:=s_la _ _ go1
   replace gi2:=s_la _ _ gi2
   replace go2:=s_la _ _ go2
   replace gi3:=s_la _ _ gi3
   replace go3:=s_la _ _ go3
   have sA:=sA.trans s_la
   x_go
   refine⟨zs2,fun i4 ni4=>?_⟩
   generalize hE:upd Hb_7 i4 _=Hb_8
   obtain⟨gi4,s_i4⟩:=bu ni4 hE
   clear hE
   replace gi1:=s_i4 _ _ gi1
   replace go1:=s_i4 _ _ go1
   replace gi2:=s_i4 _ _ gi2
   replace go2:=s_i4 _ _ go2
   replace gi3:=s_i4 _ _ gi3
   replace go3:=s_i4 _ _ go3
   replace gla:=s_i4 _ _ gla
   have sA:=sA.trans s_i4
   x_go
   refine⟨zs4,fun o4 no4=>?_⟩
   generalize hE:upd Hb_8 o4 _=Hb_9
   obtain⟨go4,s_o4⟩:=bu no4 hE
   clear hE
   replace gi1:=s_o4 _ _ gi1
   replace go1:=s_o4 _ _ go1
   replace gi2:=s_o4 _ _ gi2
   replace go2:=s_o4 _ _ go2
   replace gi3:=s_o4 _ _ gi3
   replace go3:=s_o4 _ _ go3
   replace gla:=s_o4 _ _ gla
   replace gi4:=s_o4 _ _ gi4
   have sA:=sA.trans s_o4
   x_go
   refine⟨zs2,fun i5 ni5=>?_⟩
   generalize hE:upd Hb_9 i5 _=Hb_10
   obtain⟨gi5,s_i5⟩:=bu ni5 hE
   clear hE
   replace gi1:=s_i5 _ _ gi1
   replace go1:=s_i5 _ _ go1
   replace gi2:=s_i5 _ _ gi2
   replace go2:=s_i5 _ _ go2
   replace gi3:=s_i5 _ _ gi3
   replace go3:=s_i5 _ _ go3
   replace gla:=s_i5 _ _ gla
   replace gi4:=s_i5 _ _ gi4
   replace go4:=s_i5 _ _ go4
   have sA:=sA.trans s_i5
   x_go
   refine⟨zs4,fun o5 no5=>?_⟩
   generalize hE:upd Hb_10 o5 _=Hb_11
   obtain⟨go5,s_o5⟩:=bu no5 hE
   clear hE
   replace gi1:=s_o5 _ _ gi1
   replace go1:=s_o5 _ _ go1
   replace gi2:=s_o5 _ _ gi2
   replace go2:=s_o5 _ _ go2
   replace gi3:=s_o5 _ _ gi3
   replace go3:=s_o5 _ _ go3
   replace gla:=s_o5 _ _ gla
   replace gi4:=s_o5 _ _ gi4
   replace go4:=s_o5 _ _ go4
   replace gi5:=s_o5 _ _ gi5
   have sA:=sA.trans s_o5
   x_go
   refine⟨zs2,fun i6 ni6=>?_⟩
   generalize hE:upd Hb_11 i6 _=Hb_12
   obtain⟨gi6,s_i6⟩:=bu ni6 hE
   clear hE
   replace gi1:=s_i6 _ _ gi1
   replace go1:=s_i6 _ _ go1
   replace gi2:=s_i6 _ _ gi2
   replace go2:=s_i6 _ _ go2
   replace gi3:=s_i6 _ _ gi3
   replace go3:=s_i6 _ _ go3
   replace gla:=s_i6 _ _ gla
   replace gi4:=s_i6 _ _ gi4
   replace go4:=s_i6 _ _ go4
   replace gi5:=s_i6 _ _ gi5
   replace go5:=s_i6 _ _ go5
   have sA:=sA.trans s_i6
   x_go
   refine⟨zs4,fun o6 no6=>?_⟩
   generalize hE:upd Hb_12 o6 _=Hb_13
   obtain⟨go6,s_o6⟩:=bu no6 hE
   clear hE
   replace gi1:=s_o6 _ _ gi1
   replace go1:=s_o6 _ _ go1
   replace gi2:=s_o6 _ _ gi2
   replace go2:=s_o6 _ _ go2
   replace gi3:=s_o6 _ _ gi3
   replace go3:=s_o6 _ _ go3
   replace gla:=s_o6 _ _ gla
   replace gi4:=s_o6 _ _ gi4
   replace go4:=s_o6 _ _ go4
   replace gi5:=s_o6 _ _ gi5
   replace go5:=s_o6 _ _ go5
   replace gi6:=s_o6 _ _ gi6
   have sA:=sA.trans s_o6
   x_go
   refine⟨zs3,fun lb nlb=>?_⟩
   generalize hE:upd Hb_13 lb _=Hb_14
   obtain⟨glb,s_lb⟩:=bu nlb hE
   clear hE
   replace gi1:=s_lb _ _ gi1
   replace go1:=s_lb _ _ go1
   replace gi2:=s_lb _ _ gi2
   replace go2:=s_lb _ _ go2
   replace gi3:=s_lb _ _ gi3
   replace go3:=s_lb _ _ go3
   replace gla:=s_lb _ _ gla
   replace gi4:=s_lb _ _ gi4
   replace go4:=s_lb _ _ go4
   replace gi5:=s_lb _ _ gi5
   replace go5:=s_lb _ _ go5
   replace gi6:=s_lb _ _ gi6
   replace go6:=s_lb _ _ go6
   have sA:=sA.trans s_lb
   x_go
   refine⟨la,lb,_,_,rfl,rfl,gla,glb,(by show 3+3<=sizeLine;decide),fun lc nlc=>?_⟩
   generalize hE:upd Hb_14 lc _=Hb_15
   obtain⟨glc,s_lc⟩:=bu nlc hE
   clear hE
   replace gi1:=s_lc _ _ gi1
   replace go1:=s_lc _ _ go1
   replace gi2:=s_lc _ _ gi2
   replace go2:=s_lc _ _ go2
   replace gi3:=s_lc _ _ gi3
   replace go3:=s_lc _ _ go3
   replace gla:=s_lc _ _ gla
   replace gi4:=s_lc _ _ gi4
   replace go4:=s_lc _ _ go4
   replace gi5:=s_lc _ _ gi5
   replace go5:=s_lc _ _ go5
   replace gi6:=s_lc _ _ gi6
   replace go6:=s_lc _ _ go6
   replace glb:=s_lc _ _ glb
   have sA:=sA.trans s_lc
   have hhc:=tmb.hh.same sA
   have pOc:=pO.same (cz sA)
   have pBc:=pB.same (cz sA)
   have ht:=fun {t:Addr}{xs:List V}(h:Hb_15 t=some (.tup xs))=>AV hhc h
   obtain⟨oo,hoo,aoo⟩:=six (P:=m_ (hid p Hb_15) es (cJ es f)) y0 y1
    ⟨_,_,_,i1,0,_,ht go1,ht gi1,.pkey okO,pOc,pBc,pOc⟩
    ⟨_,_,_,i2,1,_,ht go2,ht gi2,.pthing kk okB,.int _,pBc,pBc⟩
    ⟨_,_,_,i3,0,_,ht go3,ht gi3,.dkey okO,pOc,.es,pOc⟩
    ⟨_,_,_,i4,0,_,ht go4,ht gi4,.fkey okO,pOc,.es,pOc⟩
    ⟨_,_,_,i5,0,_,ht go5,ht gi5,.lkey okO,pOc,.es,pOc⟩
    ⟨_,_,_,i6,0,_,ht go6,ht gi6,.pkey okO,pOc,t_ hz,pOc⟩
   clear gi1 gi2 gi3 gi4 gi5 gi6 go1 go2 go3 go4 go5 go6 gla glb
   x_go
   refine cL (bN.of glc) hoo ?_
   x_go
   refine⟨zs2,fun i7 ni7=>?_⟩
   generalize hE:upd Hb_15 i7 _=Hb_16
   obtain⟨gi7,s_i7⟩:=bu ni7 hE
   clear hE
   have sB:=s_i7
   x_go
   refine⟨zs4,fun o7 no7=>?_⟩
   generalize hE:upd Hb_16 o7 _=Hb_17
   obtain⟨go7,s_o7⟩:=bu no7 hE
   clear hE
   replace gi7:=s_o7 _ _ gi7
   have sB:=sB.trans s_o7
   x_go
   refine⟨zs2,fun i8 ni8=>?_⟩
   generalize hE:upd Hb_17 i8 _=Hb_18
   obtain⟨gi8,s_i8⟩:=bu ni8 hE
   clear hE
   replace gi7:=s_i8 _ _ gi7
   replace go7:=s_i8 _ _ go7
   have sB:=sB.trans s_i8
   x_go
   refine⟨zs4,fun o8 no8=>?_⟩
   generalize hE:upd Hb_18 o8 _=Hb_19
   obtain⟨go8,s_o8⟩:=bu no8 hE
   clear hE
   replace gi7:=s_o8 _ _ gi7
   replace go7:=s_o8 _ _ go7
   replace gi8:=s_o8 _ _ gi8
   have sB:=sB.trans s_o8
   have sAB:=sA.trans sB
   have hhd:=tmb.hh.same sAB
   have tmd:=tmb.same sAB
   have pBd:=pB.same (cz sAB)
   have gkd:=gk.same (cz sAB)
   have k0d:=k0b.trans (Kp.of sAB tmb.hh)
   have aood:=aoo.same (cz sB)
   have ht:=fun {t:Addr}{xs:List V}(h:Hb_19 t=some (.tup xs))=>AV hhd h
   have a7:m_ (hid p Hb_19) es (cJ es f) o7:=⟨_,_,_,i7,3,_,ht go7,ht gi7,.dlack kk nk,.int _,.es,.int _⟩
   have a8:m_ (hid p Hb_19) es (cJ es f) o8:=⟨_,_,_,i8,3,_,ht go8,ht gi8,.flack kk nk,.int _,.es,.int _⟩
   generalize Hb_19=Hd at hhd tmd pBd gkd k0d aood a7 a8
   clear ht hoo aoo sAB sA sB gi7 gi8 go7 go8 glc pOc pBc hhc tmb k0b gk pO pB okO
   x_go
   refine⟨zs3,fun D nD=>?_⟩
   have ck:=CK.start (ys:=[V.ref oo,V.ref o7,V.ref o8]) hhd nD
   have sV:=V2.start (p:=p) (o:=.lst [V.ref oo,V.ref o7,V.ref o8]) nD
   generalize upd Hd D _=He at ck sV ⊢
   have as3:∀t ∈ [oo,o7,o8],m_ (V2 p D He) es (cJ es f) t:=fun t ht=>by
    simp only[List.mem_cons,List.not_mem_nil,or_false]at ht
    rcases ht with rfl|rfl|rfl
    ·exact aood.same sV
    ·exact a7.same sV
    ·exact a8.same sV
   have pBe:=pBd.same sV
   clear aood a7 a8 sV
   obtain⟨dx,ho⟩:=(tmd.draw ck.kp ck.hh).tb.ob
   x_go
   refine⟨x,dx,_,rfl,ho,gK (by z_go),?_⟩
   x_go
   refine⟨x,d,w,f,es,rfl,(tmd.draw ck.kp ck.hh).tb,?_⟩
   x_go
   refine⟨zs1,fun tz ntz=>?_⟩
   generalize hE:upd He tz _=Hf
   obtain⟨_,sf⟩:=bu ntz hE
   obtain⟨ckf,htz,_,_⟩:=ck.new ntz hE
   clear hE
   x_go
   refine⟨(by show 7<=sizeLine;decide),fun ls nls=>?_⟩
   generalize hE:upd Hf ls _=Hg
   obtain⟨hls,sg⟩:=bu nls hE
   obtain⟨ckg,_,lsp,lsD⟩:=ckf.new nls hE
   clear hE
   have htg:=sg _ _ htz
   x_go
   refine⟨p,_,7,rfl,ckg.hh,by omega,by decide,by decide,fun g Hh g0 g1 hhh kh=>?_⟩
   have ckh:=ckg.draw kh hhh
   have hth:=Vj ckg.hh kh _ _ htg
   have hlh:=kh.1 _ _ hls lsp
   have sV:aM (V2 p D He) (V2 p D Hh):=aM.trans (V2.same (sf.trans sg)) (V2.kp kh)
   have all:∀v ∈ [V.int (cJ es f),V.int (-1),V.int 100000000000000000000,V.bl true,V.non,V.str (Str.ofString "0"),V.ref tz],Pl (V2 p D Hh) v/\KJ (cJ es f) v:=by
    intro v hv
    simp only[List.mem_cons,List.not_mem_nil,or_false]at hv
    rcases hv with rfl|rfl|rfl|rfl|rfl|rfl|rfl
    ·exact⟨.int _,fun k e=>by cases e;omega⟩
    ·exact⟨.int _,fun k e=>by cases e;omega⟩
    ·exact⟨.int _,fun k e=>by cases e;omega⟩
    ·exact⟨.bl _,fun k e=>by cases e⟩
    ·exact⟨.non,fun k e=>by cases e⟩
    ·exact⟨.str _ (by z_go) (by z_go),fun k e=>by cases e⟩
    ·exact⟨.tup (ckh.tup hth),fun k e=>by cases e⟩
   obtain⟨j,rfl⟩ : ∃j:Nat,g =(j:Int):=⟨g.toNat,by omega⟩
   have jl:j<7:=by omega
   have hx:=List.getElem?_eq_getElem (l:=[V.int (cJ es f),V.int (-1),V.int 100000000000000000000,V.bl true,V.non,V.str (Str.ofString "0"),V.ref tz]) (i:=j) (by show j<7;omega)
   obtain⟨pN,oN⟩:=all _ (List.mem_of_getElem? hx)
   generalize ([V.int (cJ es f),V.int (-1),V.int 100000000000000000000,V.bl true,V.non,V.str (Str.ofString "0"),V.ref tz])[j]=nv at hx pN oN
   refine cL (bN.of hlh) (fE hx) ?_
   replace as3:=fun t ht=>(as3 t ht).same sV
   have pBh:=pBe.same sV
   clear all hx hlh hth htg hls htz ckf ckg ck sf sg kh sV pBe hhh nls ntz lsp lsD ho
   x_go
   refine⟨.inl ⟨rfl,_,bN.of ckh.lat⟩,?_⟩
   x_go
   refine⟨zs2,fun i9 ni9=>?_⟩
   generalize hE:upd Hh i9 _=Hi
   obtain⟨_,si⟩:=bu ni9 hE
   obtain⟨cki,hi9,_,_⟩:=ckh.new ni9 hE
   clear hE
   x_go
   refine⟨zs4,fun o9 no9=>?_⟩
   generalize hE:upd Hi o9 _=Hj
   obtain⟨_,sj⟩:=bu no9 hE
   obtain⟨ckj,ho9,_,_⟩:=cki.new no9 hE
   clear hE
   have sV:aM (V2 p D Hh) (V2 p D Hj):=V2.same (si.trans sj)
   have a9:m_ (V2 p D Hj) es (cJ es f) o9:=⟨_,_,_,i9,4,_,ckj.tup ho9,ckj.tup (sj _ _ hi9),.room oN,pN.same sV,.es,pN.same sV⟩
   x_go
   refine⟨D,_,_,rfl,rfl,ckj.lat,(by show 3<sizeLine;decide),?_⟩
   have ckk:=ckj.push (zs:=[V.ref oo,V.ref o7,V.ref o8] ++ [V.ref o9])
   have as4:∀t ∈ [oo,o7,o8,o9],m_ (V2 p D (upd Hj D (.lst ([V.ref oo,V.ref o7,V.ref o8] ++ [V.ref o9])))) es (cJ es f) t:=fun t ht=>by
    rw[V2.push]
    rcases List.mem_append.mp (show t ∈ [oo,o7,o8] ++ [o9] from ht) with h|h
    ·exact(as3 t h).same sV
    ·obtain rfl:t=o9:=by simpa using h
     exact a9
   have pBk:Pl (V2 p D (upd Hj D (.lst ([V.ref oo,V.ref o7,V.ref o8] ++ [V.ref o9])))) bv:=by rw[V2.push];exact pBh.same sV
   generalize upd Hj D _=Hk at ckk as4 pBk ⊢
   rw[show [V.ref oo,V.ref o7,V.ref o8] ++ [V.ref o9]=[oo,o7,o8,o9].map V.ref from rfl]at ckk
   clear as3 a9 sV sj si hi9 ho9 cki ckj ckh pN oN pBh
   have tmk:=tmd.draw ckk.kp ckk.hh
   x_go
   refine⟨m,es.map vE,rfl,tmk.md,by rw[List.length_map];omega,fun ks l pk1 pk2 nl=>?_⟩
   generalize hE:upd Hk l _=Hl
   obtain⟨_,sl⟩:=bu nl hE
   obtain⟨ckl,hl,lp,lD⟩:=ckk.new nl hE
   clear hE
   have pkk:ks.Perm (es.map (·.1)):=by rw[List.map_map]at pk1;exact pk1
   have as4l:=fun t ht=>(as4 t ht).same (V2.same sl)
   have pBl:=pBk.same (V2.same (p:=p) (D:=D) sl)
   clear as4 pBk sl ckk tmk pk1
   x_go
   refine Fi (fun σ H'=>∃(y:Option V) (ts:List Addr),σ=[some (.ref x),some (.ref p),some (.ref m),some (.str z),some (.ref tk),some ov,some (.int way),some bv,some (.int key),some (.ref D),some (.ref l),some nv,y]/\CK Hd p D (N+120) (ts.map V.ref) H'/\ts.length<=5/\(∀t∈ts,m_ (V2 p D H') es (cJ es f) t)/\Pl (V2 p D H') bv) ?_ ?_
   ·x_go
    refine⟨by decide,fun e ne=>?_⟩
    generalize hE:upd Hl e _=Hm
    obtain⟨_,sm⟩:=bu ne hE
    obtain⟨ckm,he,_,_⟩:=ckl.new ne hE
    clear hE
    have hlm:=sm _ _ hl
    have as4m:=fun t ht=>(as4l t ht).same (V2.same sm)
    have pBm:=pBl.same (V2.same (p:=p) (D:=D) sm)
    x_go
    refine⟨_,_,A6 hlm,E_ he,shaped_ints ks,rfl,?_⟩
    rw[eq_nil]
    x_go
    refine Em (fun c=>?_) (fun c=>?_)
    ·x_go
     refine⟨.inl ⟨rfl,_,bN.of ckm.lat⟩,?_⟩
     x_go
     refine⟨p,_,64,rfl,ckm.hh,by omega,by decide,by decide,fun v Hn v0 v1 hhn kn=>?_⟩
     have ckn:=ckm.draw kn hhn
     have hln:=kn.1 _ _ hlm lp
     have lpos:=List.length_pos_iff.mpr c
     have lp2:(0:Int) <((ks.map V.int).length:Nat):=by rw[List.length_map];omega
     x_go
     obtain⟨j,hj,jl⟩ : ∃j:Nat,v%((ks.map V.int).length:Nat) =(j:Int)/\j<ks.length:=by
      have a1:=Int.emod_nonneg v (b:=((ks.map V.int).length:Nat)) (by omega)
      have a2:=Int.emod_lt_of_pos v lp2
      have a3:(ks.map V.int).length=ks.length:=List.length_map _
      exact⟨(v%((ks.map V.int).length:Nat)).toNat,by omega,by omega⟩
     rw[hj]
     have hkj:=List.getElem?_eq_getElem jl
     generalize ks[j]=kx at hkj
     have hkx:kx∈es.map (·.1):=pkk.mem_iff.mp (List.mem_of_getElem? hkj)
     have kkx:=tmd.tb.kv hkx
     refine cL (bN.of hln) (El hkj) ?_
     x_go
     refine⟨zs2,fun ia nia=>?_⟩
     generalize hE:upd Hn ia _=Ho
     obtain⟨_,so⟩:=bu nia hE
     obtain⟨cko,hia,_,_⟩:=ckn.new nia hE
     clear hE
     x_go
     refine⟨zs4,fun oa noa=>?_⟩
     generalize hE:upd Ho oa _=Hp1
     obtain⟨_,sp1⟩:=bu noa hE
     obtain⟨ckp,hoa,_,_⟩:=cko.new noa hE
     clear hE
     have sV:aM (V2 p D Hm) (V2 p D Hp1):=aM.trans (V2.kp kn) (V2.same (so.trans sp1))
     have pBp:=pBm.same sV
     have aa:m_ (V2 p D Hp1) es (cJ es f) oa:=⟨_,_,_,ia,1,_,ckp.tup hoa,ckp.tup (sp1 _ _ hia),.pthing kkx okB,.int _,pBp,pBp⟩
     x_go
     refine⟨D,_,_,rfl,rfl,ckp.lat,(by show 4<sizeLine;decide),?_⟩
     have ckq:=ckp.push (zs:=([oo,o7,o8,o9] ++ [oa]).map V.ref)
     x_go
     refine⟨_,[oo,o7,o8,o9] ++ [oa],rfl,Wx ckq (by omega),by simp,fun t ht=>?_,?_⟩
     ·show m_ (V2 p D (upd Hp1 D _)) _ _ _
      rw[V2.push]
      rcases List.mem_append.mp ht with h|h
      ·exact(as4m t h).same sV
      ·obtain rfl:t=oa:=by simpa using h
       exact aa
     ·show Pl (V2 p D (upd Hp1 D _)) _
      rw[V2.push];exact pBp
    ·x_go
     exact⟨_,[oo,o7,o8,o9],rfl,Wx ckm (by omega),by simp,as4m,pBm⟩
   ·rintro σ Hm ⟨y,ts,rfl,ckm,tsl,asm,pBm⟩
    clear as4l pBl ckl hl lp lD pkk pk2 nl
    have tmm:=tmd.draw ckm.kp ckm.hh
    x_go
    refine Fi (fun σ H'=>∃(y y2:Option V) (L:Addr) (ts:List Addr),σ=[some (.ref x),some (.ref p),some (.ref m),some (.str z),some (.ref tk),some ov,some (.int way),some bv,some (.int key),some (.ref L),y2,some nv,y]/\Hand H' p (N+150)/\Kp Hd H' p/\H' L=some (.lst (ts.map V.ref))/\(∀t∈ts,m_ H' es (cJ es f) t)) ?_ ?_
    ·x_go
     refine⟨m,_,rfl,tmm.md,?_⟩
     rw[jM]
     x_go
     refine cN (fun c=>?_) (fun c=>?_)
     ·x_go
      refine⟨zs2,fun ia nia=>?_⟩
      generalize hE:upd Hm ia _=Hn
      obtain⟨_,sn⟩:=bu nia hE
      obtain⟨ckn,hia,_,_⟩:=ckm.new nia hE
      clear hE
      x_go
      refine⟨zs4,fun oa noa=>?_⟩
      generalize hE:upd Hn oa _=Ho
      obtain⟨_,so⟩:=bu noa hE
      obtain⟨cko,hoa,_,_⟩:=ckn.new noa hE
      clear hE
      x_go
      refine⟨zs2,fun ib nib=>?_⟩
      generalize hE:upd Ho ib _=Hp1
      obtain⟨_,sp1⟩:=bu nib hE
      obtain⟨ckp,hib,_,_⟩:=cko.new nib hE
      clear hE
      x_go
      refine⟨zs4,fun ob nob=>?_⟩
      generalize hE:upd Hp1 ob _=Hq
      obtain⟨_,sq⟩:=bu nob hE
      obtain⟨ckq,hob,_,_⟩:=ckp.new nob hE
      clear hE
      x_go
      refine⟨zs2,fun lx nlx=>?_⟩
      generalize hE:upd Hq lx _=Hr
      obtain⟨_,sr⟩:=bu nlx hE
      obtain⟨ckr,hlx,_,_⟩:=ckq.new nlx hE
      clear hE
      x_go
      refine⟨D,lx,_,_,rfl,rfl,ckr.lat,hlx,by rw[List.length_map];exact Nat.le_of_lt (bf (by simp;omega)),fun L nL=>?_⟩
      rw[show ts.map V.ref ++ [V.ref oa,V.ref ob] =(ts ++ [oa,ob]).map V.ref by rw[List.map_append];rfl]
      generalize hE:upd Hr L _=Ht
      obtain⟨_,st⟩:=bu nL hE
      obtain⟨ckt,hL,_,_⟩:=ckr.new nL hE
      clear hE
      x_go
      have sq':=sq.trans (sr.trans st)
      have sp':=sp1.trans sq'
      have so':=so.trans sp'
      have pBt:Pl Ht bv:=(pBm.same (V2.same (sn.trans so'))).same (aM.trans V2.le jz)
      refine⟨_,_,L,ts ++ [oa,ob],rfl,ckt.hh.mono (by omega),ckt.kp,hL,fun t ht=>?_⟩
      rcases List.mem_append.mp ht with h|h
      ·exact((asm t h).same (V2.same (sn.trans so'))).same (aM.trans V2.le jz)
      ·simp only[List.mem_cons,List.not_mem_nil,or_false]at h
       rcases h with rfl|rfl
       ·exact⟨_,_,_,ia,2,_,sp' _ _ hoa,so' _ _ hia,.pfull u0 u1 hz nk (by omega),.int _,t_ hz,.int _⟩
       ·exact⟨_,_,_,ib,1,_,(sr.trans st) _ _ hob,sq' _ _ hib,.pthing kk okB,.int _,pBt,pBt⟩
     ·x_go
      exact⟨_,_,D,ts,rfl,ckm.hh.mono (by omega),ckm.kp,ckm.lat,fun t ht=>(asm t ht).same (aM.trans V2.le jz)⟩
    ·rintro σ Hn ⟨y,y2,L,ts,rfl,hhn,kpn,hL,asn⟩
     have tmn:=tmd.draw kpn hhn
     have gkn:=(gkd.same kpn.hid).same jz
     clear ckm asm pBm tsl tmm
     x_go
     refine⟨L,rfl,⟨_,bN.of hL⟩,?_⟩
     refine d9 (xs:=ts.map V.ref) (fun i σ H'=>(∃y9,σ=[some (.ref x),some (.ref p),some (.ref m),some (.str z),some (.ref tk),some ov,some (.int way),some bv,some (.int key),some (.ref L),y2,some nv,y9])/\aM Hn H') ⟨⟨_,rfl⟩,aM.refl _⟩ (fun _ _ _ _ h=>bN.of (h.2 _ _ hL)) ?_ ?_
     ·rintro i zz σ Ho hzz ⟨⟨y9,rfl⟩,so⟩
      obtain⟨t,ht,rfl⟩:=rK hzz
      obtain⟨wy,kv,tv,due,ci,v,g1,g2,ak,q1,q2,q3⟩:=(asn t (List.mem_of_getElem? ht)).same so
      x_go
      refine⟨x,d,w,f,es,wy,kv,tv,rfl,tmn.tb.same so,q1,q2,.inl ⟨ci,v,ak,fun t2 Hp1 h2 sp1=>?_⟩⟩
      have g1':=sp1 _ _ g1
      x_go
      refine⟨t2,due,_,v,rfl,h2,sp1 _ _ g2,q3.same sp1,?_⟩
      have sop:=so.trans sp1
      x_go
      refine⟨x,d,w,f,es,rfl,tmn.tb.same sop,fun ms' M' tk' Hq p1' p2' mx' gk' sq=>?_⟩
      obtain rfl:=ow p1' p2' p1 p2
      obtain rfl:=mx'.eq mx
      have ga:=(gk' p (by
       obtain⟨l,d',c,ns,h1,_⟩:=(hhn.same sop).ex
       exact⟨_,h1,fun xs e=>by cases e⟩)).same jz
      have gb:=gkn.same (sop.trans sq)
      x_go
      refine⟨_,_,ga.1,gb.1,ga.shaped (by omega),gb.shaped (by omega),?_⟩
      rw[ga.refl]
      x_go
      exact⟨⟨_,rfl⟩,sop.trans sq⟩
     ·rintro σ Ho ⟨⟨y9,rfl⟩,so⟩
      x_go
      exact q Ho (hhn.same so) ((k0d.trans kpn).trans (Kp.of so hhn))
theorem vO {f:Addr}{fd:FuncData}(F:cR K "_law_gone" "_law_gone" jx f fd) (mF:mg "_law_gone" = some (.ref f)) (bF:Binds K fd LF []) (T:Bl mg) {CT:Addr}(TC:bx K mg CT) (aE:G8 P w K mg base CT) (b7:P7 P w K mg base) (cE:Ot P w K mg base CT) (bL:Q2 P w K mg base CT) (aD:Ii P w K mg base):bT P w K mg base "_law_gone" LF 10 (mK K CT):=by
 refine bT.of F mF bF cB (fun vs H Q E h=>?_) (fun _ A _ _ H vs Q E hr h=>?_)
 ·obtain⟨x,d,m,p,w,f,N,es,z,rfl,_⟩:=h;rfl
 obtain⟨x,d,m,p,w,f,N,es,z,rfl,tm,hz,hN,q⟩:=h
 have hu:=hr.units
 have hu1:=rM hr
 have ln:=tm.tb.ok.2.2
 obtain⟨w1,w2,f1,f2⟩:=tm.tb.sz
 obtain⟨_,r1,r2⟩:=dD (es:=es) f1
 refine⟨_,(ao (aJ (i:=4) cB.nd rfl (Or.inl rfl) (aL (lO rfl) rfl T.sorted er (af (pv 2) aj ah)))
   (ao (bU (aX (vo hu) (pv 4) (dB aj) (bh _)) (av (aF fZ)) aY)
   (ao (aJ (i:=5) cB.nd rfl (Or.inl rfl) (bV bG (pv 4) (aK cW (cI aD hr.mo (af (pv 1) (af au aj ai) ah)) (aL dR rfl T.len dW (af (pv 4) aj ah))) (fun _ _=>rfl)))
   (ao (aJ (i:=6) cB.nd rfl (Or.inl rfl) (fU aE TC.cl hr.mo (pv 0)))
   (ao (aJ (i:=7) cB.nd rfl (Or.inl rfl) (cI b7 hr.mo (af (pv 1) aj ah)))
   (ao (qt PassesOwn.never (rG (Aw hu1 (pv 7) (pv 2))) (av (aJ (i:=7) cB.nd rfl (Or.inl rfl) (aK cW (aK b9 (pv 7) au) (di (c:=1152921504606846976) (by z_go) ⟨by decide,by decide,by decide⟩)))))
   (ao (bU (aX (jr hu) (cI bL hr.mo (af (pv 0) (af au (af (pv 5) (af aW aj ai) ah) ai) ah)) (aQ (af aW (af fq aj ai) ai)) (bh _)) (av (aF fZ)) aY)
   (ao (aJ (i:=8) cB.nd rfl (Or.inl rfl) (cI cE hr.mo (af (pv 0) aj ah)))
   (ao (gv PassesOwn.never rfl (dH (dB (af au (af au aj ai) ai))) (bO (i:=9) cB.nd rfl (Or.inl rfl)) (av (bU (PW.pt (rg (aX (jr hu) (cI bL hr.mo (af (pv 0) (af (pv 9) (af (pv 5) (af aW aj ai) ah) ah) ah)) (aQ (af aW (af (pv 5) aj ah) ai)) (bh _)) (lu (aX (jr hu) (cI cE hr.mo (af (pv 0) aj ah)) (pv 8) (bh _))))) (av (aF fZ)) aY)))
   (ao (jt (bU (PW.pt (vP (aX oj (fU aE TC.cl hr.mo (pv 0)) (pv 6) (bh _)) (pF (aX (jr hu) (cI bL hr.mo (af (pv 0) (af au (af (aK d_ (pv 6) au) (af aW aj ai) bz) ai) ah)) (aQ (af aW (af (aK d_ (pv 6) au) aj bz) ai)) (bh _))))) (av (aF fZ)) aY))
   (ao (cg (xM (pv 2) (pv 5) ⟨rfl,rfl,rfl,rfl⟩))
   (ao (l7 hu1 (pv 2) (pv 7) (pv 3) rfl)
   (av (aF (j3 (vo hu) (cI bL hr.mo (af (pv 0) (af au (af (pv 7) (af (pv 3) aj ah) ah) ai) ah)) (aQ (af aW (af fq aj ai) ai)) (bh _)))))))))))))))),?_⟩
 rw[uL]
 x_go
 refine⟨m,es.map vE,rfl,tm.md,by rw[List.length_map];omega,fun ks l pk1 pk2 nl=>?_⟩
 generalize hE:upd H l _=H1
 obtain⟨hl,s1⟩:=bu nl hE
 clear hE
 have lp:=tm.hh.ne nl
 have pkk:ks.Perm (es.map (·.1)):=by rw[List.map_map]at pk1;exact pk1
 have kl:ks.length=es.length:=by rw[pkk.length_eq,List.length_map]
 x_go
 refine⟨by decide,fun e ne=>?_⟩
 generalize hE:upd H1 e _=H2
 obtain⟨he,s2⟩:=bu ne hE
 clear hE
 have hl2:=s2 _ _ hl
 have s02:=s1.trans s2
 have tm2:=tm.same s02
 x_go
 refine⟨_,_,A6 hl2,E_ he,shaped_ints ks,rfl,?_⟩
 rw[eq_nil]
 x_go
 refine cN (fun c=>?_) (fun c=>?_)
 ·x_go
  exact q es H2 (tm2.mono (by omega)) (K4.same s02)
 x_go
 refine⟨p,_,64,rfl,tm2.hh,by omega,by decide,by decide,fun v H3 v0 v1 hh3 k3=>?_⟩
 have tm3:=tm2.draw k3 hh3
 have hl3:=k3.1 _ _ hl2 lp
 have lpos:=List.length_pos_iff.mpr c
 have lp2:(0:Int) <((ks.map V.int).length:Nat):=by rw[List.length_map];omega
 x_go
 obtain⟨j,hj,jl⟩ : ∃j:Nat,v%((ks.map V.int).length:Nat) =(j:Int)/\j<ks.length:=by
  have a1:=Int.emod_nonneg v (b:=((ks.map V.int).length:Nat)) (by omega)
  have a2:=Int.emod_lt_of_pos v lp2
  have a3:(ks.map V.int).length=ks.length:=List.length_map _
  exact⟨(v%((ks.map V.int).length:Nat)).toNat,by omega,by omega⟩
 rw[hj]
 have hkj:=List.getElem?_eq_getElem jl
 generalize ks[j]=k at hkj
 have hk:k∈es.map (·.1):=pkk.mem_iff.mp (List.mem_of_getElem? hkj)
 have kk:=tm.tb.kv hk
 refine cL (bN.of hl3) (El hkj) ?_
 obtain⟨dx,ho⟩:=tm3.tb.ob
 x_go
 refine⟨x,dx,_,rfl,ho,gK (by z_go),?_⟩
 x_go
 refine⟨x,d,w,f,es,rfl,tm3.tb,?_⟩
 x_go
 refine⟨p,_,rfl,hh3,by omega,fun key0 H4 a0 a1 hh4 k4=>?_⟩
 have tm4:=tm3.draw k4 hh4
 have k04:K4 H H4 p d m:=(K4.same s02).trans (K4.kp (k3.trans k4))
 clear k3 k4 hh3 hh4 tm2 tm3 hl hl2 hl3 he s1 s2 s02 lp2 hkj ho
 x_go
 obtain⟨m0,hm0⟩:=p8 (ks:=es.map (·.1)) (by rw[List.length_map];omega) key0
 refine⟨fun n σ H''=>H''=H4/\∃v:Int,σ=[some (.ref x),some (.ref p),some (.ref m),some (.str z),some (.ref l),some (.int k),some (.int (cJ es f)),some (.int v),none,none]/\0<=v/\v<1152921504606846976/\(v+n)%1152921504606846976∉es.map (·.1),⟨m0,rfl,key0,rfl,a0,by omega,hm0⟩,?_⟩
 rintro n σ H'' ⟨rfl,ky,rfl,u0,u1,hm⟩
 x_go
 refine⟨m,_,rfl,f9.k (k:=Sum.inl ky) tm4.md,?_⟩
 rw[find_some]
 by_cases nk:ky∈es.map (·.1)
 ·rw[decide_eq_true nk]
  x_go
  refine⟨_,fun σ' H'' h=>h,?_⟩
  x_go
  have hm1:n≠0:=fun e=>by
   subst e
   rw[show((0:Nat):Int)=0 from rfl,Int.add_zero,Int.emod_eq_of_lt u0 u1]at hm
   exact hm nk
  refine⟨n-1,by omega,rfl,(ky+1)%1152921504606846976,rfl,by omega,by omega,?_⟩
  have e:((ky+1)%1152921504606846976+((n-1:Nat):Int))%1152921504606846976 =(ky+n)%1152921504606846976:=by omega
  rw[e];exact hm
 rw[decide_eq_false nk]
 clear hm hm0 m0 a0 a1 key0
 x_go
 refine⟨x,d,w,f,es,1,_,_,rfl,tm4.tb,.int _,.es,.inr (.inr ⟨k,rfl,rfl,hk,fun t1 H5 ht1 tb5 kd5=>?_⟩)⟩
 have tm5:TM CT x d m p w f (N+22) (cT es k) es H5:=(tm4.mono (by omega)).k2 kd5.k2 tb5 (kd5 _ _ tm4.ne tm4.md)
 have k05:K4 H H5 p d m:=k04.trans kd5.k2.k4
 generalize hde:cT es k=es1 at tb5 tm5
 have nk1:k∉es1.map (·.1):=by rw[<- hde];exact C8
 have l1:es1.length+1=es.length:=by rw[<- hde];exact t8 tm4.tb.ok hk
 have rr:cJ es1 f=cJ es f\/cJ es1 f+1=cJ es f:=by rw[<- hde];exact xK tm4.tb.ok hk f1
 clear tm4 k04 kd5
 x_go
 refine⟨zs2,fun t2 n2=>?_⟩
 generalize hE:upd H5 t2 _=H6
 obtain⟨ht2,s6⟩:=bu n2 hE
 clear hE
 have g1:=f_ (K:=K) (s6 _ _ ht1)
 have g2:=f_ (K:=K) ht2
 x_go
 refine⟨_,_,g1.1,g2.1,g1.shaped (by omega),g2.shaped (by omega),?_⟩
 rw[g1.refl]
 x_go
 refine⟨x,d,w,f,es1,rfl,tb5.same s6,fun ms M tk H7 p1 p2 mx gk s7=>?_⟩
 have s57:=s6.trans s7
 have tm7:=tm5.same s57
 have oldp:Old H6 p:=by
  obtain⟨l,d',c,ns,h1,_⟩:=(tm5.hh.same s6).ex
  exact⟨_,h1,fun xs e=>by cases e⟩
 have k07:=k05.trans (K4.same s57)
 replace gk:=(gk p oldp).same jz
 clear g1 g2 tm5 tb5 k05 s57 s6 s7 ht1 ht2 oldp
 x_go
 refine⟨zs2,fun l8 n8=>?_⟩
 generalize hE:upd H7 l8 _=H8
 obtain⟨hl8,s8⟩:=bu n8 hE
 clear hE
 x_go
 refine⟨l8,rfl,⟨_,bN.of hl8⟩,?_⟩
 refine d9 (xs:=[V.int 1,V.int 2]) (fun i σ H'=>(∃y9,σ=[some (.ref x),some (.ref p),some (.ref m),some (.str z),some (.ref l),some (.int k),some (.int (cJ es f)),some (.int ky),some (.ref tk),y9])/\aM H8 H') ⟨⟨_,rfl⟩,aM.refl _⟩ (fun _ _ _ _ h=>bN.of (h.2 _ _ hl8)) ?_ ?_
 ·rintro i zz σ H9 hzz ⟨⟨y9,rfl⟩,s9⟩
  obtain⟨wy,rfl,ak⟩ : ∃wy,zz=V.int wy/\Ask es1 (cJ es1 f) wy (.int k) (.str (Str.ofString "")) 3 (.int k):=by
   have hm:=List.mem_of_getElem? hzz
   simp only[List.mem_cons,List.not_mem_nil,or_false]at hm
   rcases hm with rfl|rfl
   ·exact⟨1,rfl,.dlack kk nk1⟩
   ·exact⟨2,rfl,.flack kk nk1⟩
  have s79:=s8.trans s9
  x_go
  refine⟨x,d,w,f,es1,wy,_,_,rfl,tm7.tb.same s79,.int _,.es,.inl ⟨3,_,ak,fun ta HA hta sA=>?_⟩⟩
  x_go
  refine⟨zs2,fun tb ntb=>?_⟩
  generalize hE:upd HA tb _=HB
  obtain⟨htb,sB⟩:=bu ntb hE
  clear hE
  have g1:=AD (K:=K) (z:=kd 3) (by z_go) (sB _ _ hta)
  have g2:=AD (K:=K) (z:=kd 3) (by z_go) htb
  x_go
  refine⟨_,_,g1.1,g2.1,g1.shaped (by omega),g2.shaped (by omega),?_⟩
  rw[g1.refl]
  have s7B:=s79.trans (sA.trans sB)
  x_go
  refine⟨x,d,w,f,es1,rfl,tm7.tb.same s7B,fun ms' M' tk' HC p1' p2' mx' gk' sC=>?_⟩
  obtain rfl:=ow p1' p2' p1 p2
  obtain rfl:=mx'.eq mx
  have ga:=(gk' p (by
   obtain⟨l,d',c,ns,h1,_⟩:=(tm7.hh.same s7B).ex
   exact⟨_,h1,fun xs e=>by cases e⟩)).same jz
  have gb:=gk.same (s7B.trans sC)
  x_go
  refine⟨_,_,ga.1,gb.1,ga.shaped (by omega),gb.shaped (by omega),?_⟩
  rw[ga.refl]
  x_go
  exact⟨⟨_,rfl⟩,(s9.trans (sA.trans sB)).trans sC⟩
 ·rintro σ H9 ⟨⟨y9,rfl⟩,s9⟩
  have s79:=s8.trans s9
  have tm9:=tm7.same s79
  have k09:=k07.trans (K4.same s79)
  clear tm7 k07 s79 s8 s9 gk
  x_go
  refine Fi (fun σ H'=>(∃y9,σ=[some (.ref x),some (.ref p),some (.ref m),some (.str z),some (.ref l),some (.int k),some (.int (cJ es f)),some (.int ky),some (.ref tk),y9])/\TM CT x d m p w f (N+22) es1 es H'/\K4 H H' p d m) ?_ ?_
  ·obtain⟨dx,ho⟩:=tm9.tb.ob
   x_go
   refine⟨x,dx,_,rfl,ho,gK (by z_go),?_⟩
   x_go
   refine⟨x,d,w,f,es1,rfl,tm9.tb,?_⟩
   x_go
   by_cases cr:(cJ es1 f:Int) <(cJ es f:Int)
   ·rw[decide_eq_true cr]
    x_go
    have od:KJ (cJ es1 f) (.int ((cJ es f:Int)-1)):=fun k' e=>by cases e;omega
    refine⟨x,d,w,f,es1,4,_,_,rfl,tm9.tb,.int _,.es,.inl ⟨4,_,.room od,fun ta HA hta sA=>?_⟩⟩
    x_go
    refine⟨zs2,fun tb ntb=>?_⟩
    generalize hE:upd HA tb _=HB
    obtain⟨htb,sB⟩:=bu ntb hE
    clear hE
    have g1:=AD (K:=K) (z:=kd 4) (by z_go) (sB _ _ hta)
    have g2:=AD (K:=K) (z:=kd 4) (by z_go) htb
    x_go
    refine⟨_,_,g1.1,g2.1,g1.shaped (by omega),g2.shaped (by omega),?_⟩
    rw[g1.refl]
    x_go
    exact⟨⟨_,rfl⟩,tm9.same (sA.trans sB),k09.trans (K4.same (sA.trans sB))⟩
   ·rw[decide_eq_false cr]
    x_go
    exact⟨⟨_,rfl⟩,tm9,k09⟩
  rintro σ HA ⟨⟨y9',rfl⟩,tmA,k0A⟩
  clear tm9 k09
  x_go
  refine⟨m,rfl,.inl ⟨_,.inl tmA.md⟩,?_⟩
  x_go
  refine⟨_,Sum.inl k,_,tmA.md,rfl,jd hk,?_⟩
  rw[AE,hde]
  have k2B:K2 HA (upd HA m (.dK (eV es1))) d m:=fun b o _ h2 h=>by rw[az h2];exact h
  have tmB:TM CT x d m p w f (N+22) es1 es1 (upd HA m (.dK (eV es1))):=tmA.k2 k2B (tmA.tb.kd tmA.md tmA.ne fun b o h2 h=>by rw[az h2];exact h) aA
  have k0B:=k0A.trans k2B.k4
  generalize upd HA m (.dK (eV es1))=HB at tmB k0B ⊢
  clear tmA k0A k2B
  x_go
  refine⟨m,_,rfl,sd.k (k:=Sum.inl ky) tmB.md (by rw[jM];exact bf (by omega)),?_⟩
  rw[rD]
  have k2C:K2 HB (upd HB m (.dK (eV (bZ es1 ky z)))) d m:=fun b o _ h2 h=>by rw[az h2];exact h
  have tmC:TM CT x d m p w f (N+22) es1 (bZ es1 ky z) (upd HB m (.dK (eV (bZ es1 ky z)))):=tmB.k2 k2C (tmB.tb.kd tmB.md tmB.ne fun b o h2 h=>by rw[az h2];exact h) aA
  have k0C:=k0B.trans k2C.k4
  generalize upd HB m (.dK (eV (bZ es1 ky z)))=HC at tmC k0C ⊢
  clear tmB k0B k2C
  x_go
  refine⟨x,d,w,f,es1,0,_,_,rfl,tmC.tb,.int _,t_ hz,.inr (.inl ⟨ky,z,rfl,rfl,rfl,u0,u1,hz,.inr (by omega),fun ta HD hta tbD kdD=>?_⟩)⟩
  have tmD:TM CT x d m p w f (N+22) (bZ es1 ky z) (bZ es1 ky z) HD:=tmC.k2 kdD.k2 tbD (kdD _ _ tmC.ne tmC.md)
  have k0D:=k0C.trans kdD.k2.k4
  x_go
  refine⟨zs2,fun tb ntb=>?_⟩
  generalize hE:upd HD tb _=HE
  obtain⟨htb,sE⟩:=bu ntb hE
  clear hE
  have g1:=f_ (K:=K) (sE _ _ hta)
  have g2:=f_ (K:=K) htb
  x_go
  refine⟨_,_,g1.1,g2.1,g1.shaped (by omega),g2.shaped (by omega),?_⟩
  rw[g1.refl]
  x_go
  exact q _ HE ((tmD.same sE).mono (by omega)) (k0D.trans (K4.same sE))
theorem Og {f:Addr}{fd:FuncData}(F:cR K "law" "law" l5 f fd) (T:Bl mg) {CT:Addr}(TC:bx K mg CT) (ez:Ci P w K mg base "Table" CT Cp 4 (gf K CT)) (dU:Ml P w K mg base CT) (cy:NT P w K mg base CT) (dg:Nb P w K mg base CT) (gc:bT P w K mg base "_law_open" JP 1 (mV K)) (jO:bT P w K mg base "_law_keys" FP 4 (mh K)) (gD:bT P w K mg base "_law_places" OA 1 (jy K)) (aD:Ii P w K mg base) (fK:bT P w K mg base "_law_thing" rH 2 (kP K)) (b7:P7 P w K mg base) (fP:bT P w K mg base "_law_refused" LF 10 (iT K CT)) (jA:bT P w K mg base "_law_gone" LF 10 (mK K CT)) (bL:Q2 P w K mg base CT):iw P w K mg base Ar 11 f fd ["_law_script"] (uW K):=by
 refine F.ok fT (fun vs H Q E h=>?_) (fun _ A _ _ H vs Q E hr h=>?_)
 ·obtain⟨a,ns,rfl,_⟩:=h;rfl
 obtain⟨a,ms,rfl,hS,hlen,q⟩:=h
 have hu:=hr.units
 have hu1:=rM hr
 refine⟨_,(ao (aJ (i:=1) fT.nd rfl (Or.inl rfl) (cI gc hr.mo (af (pv 0) (af au aj ai) ah)))
   (ao (aJ (i:=2) fT.nd rfl (Or.inl rfl) (j3 gP (cI aD hr.mo (af (pv 1) (af au aj ai) ah)) au (bh _)))
   (ao (aJ (i:=3) fT.nd rfl (Or.inl rfl) (Xd ez hr.mo (af (aK b9 au (cI aD hr.mo (af (pv 1) (af au aj ai) ah))) (af (aK b9 au (cI aD hr.mo (af (pv 1) (af au aj ai) ah))) aj bz) bz)))
   (ao (aJ (i:=4) fT.nd rfl (Or.inl rfl) qK)
   (ao (gv PassesOwn.never rfl (dH (cI jO hr.mo (af (pv 1) (af (bV bG (dB (af (cI aD hr.mo (af (pv 1) (af au aj ai) ah)) (af au aj ai) aH)) (fO tU rfl T.int As (af (pv 2) aj ah)) (fun _ _=>rfl)) aj aO) ah))) (bO (i:=5) fT.nd rfl (Or.inl rfl)) (ao (l7 hu1 (pv 4) (pv 5) (cI fK hr.mo (af (pv 1) aj ah)) rfl)
   (av (cg (nJ dU qj TC.cl hr.mo (pv 3) (af (pv 5) (af (v_ hu1 (pv 4) (pv 5) (fun _ _=>rfl)) aj aO) ah))))))
   (ao (gv PassesOwn.never rfl (dH (cI gD hr.mo (af (pv 0) (af au (af (bV bG (dB (af au (af au aj ai) ai)) (fO tU rfl T.int As (af (pv 2) aj ah)) (fun _ _=>rfl)) aj aO) ai) ah))) (bO (i:=6) fT.nd rfl (Or.inl rfl)) (ao (aJ (i:=1) fT.nd rfl (Or.inl rfl) (cI gc hr.mo (af (pv 0) (af (pv 6) aj ah) ah)))
   (ao (aJ (i:=7) fT.nd rfl (Or.inl rfl) (cI fK hr.mo (af (pv 1) aj ah)))
   (ao (bU (PW.pt (rg (gI (iA (cI fP hr.mo (af (pv 3) (af (pv 1) (af (pv 4) (af (pv 7) aj ah) ah) ah) ah)))) (lu (gI (iA (cI jA hr.mo (af (pv 3) (af (pv 1) (af (pv 4) (af (pv 7) aj ah) ah) ah) ah))))))) (av (aF fZ)) aY)
   (ao (aJ (i:=5) fT.nd rfl (Or.inl rfl) (cI b7 hr.mo (af (pv 1) aj ah)))
   (ao (jt (bU (PW.pt (rg (rG (Aw hu1 (pv 5) (pv 4))) (lu (aX oj (aL nX rfl T.len dW (af (pv 4) aj ah)) au (bh _))))) (ao (l7 hu1 (pv 4) (pv 5) (pv 7) rfl)
   (av (bU (aX (jr hu) (cI bL hr.mo (af (pv 3) (af au (af (pv 5) (af (pv 7) aj ah) ah) ai) ah)) (aQ (af aW (af fq aj ai) ai)) (bh _)) (av (aF fZ)) aY))) aY))
   (av (gv PassesOwn.never rfl (dH (fV mS (aL (lO rfl) rfl T.sorted er (af (pv 4) aj ah)) j6 (gm au))) (bO (i:=5) fT.nd rfl (Or.inl rfl)) (ao (l7 hu1 (pv 4) (pv 5) (pv 7) rfl)
   (av (bU (PW.pt (rg (aX (jr hu) (cI bL hr.mo (af (pv 3) (af au (af (pv 5) (af (pv 7) aj ah) ah) ai) ah)) (aQ (af aW (af fq aj ai) ai)) (bh _)) (lu (aX Lh (bV jq (nJ dg qj TC.cl hr.mo (pv 3) (af (pv 5) aj ah)) au (fun _ _=>rfl)) (pv 7) (bh _))))) (av (aF fZ)) aY)))))))))))
   (av (aF (j3 (vo hu) (fU cy TC.cl hr.mo (pv 3)) (aL (rF rfl) rfl T.sorted er (af (Ac PySem.F.plainAttrs_dict PySem.F.slot_dict_items PySem.F.type_dict_items yf (pv 4)) aj aH)) (bh _)))))))))),?_⟩
 rw[N5]
 x_go
 refine⟨a,ms,0,rfl,hS,hlen,by omega,by omega,fun p H1 np s1 hh1=>?_⟩
 x_go
 refine⟨p,_,4,rfl,hh1,by decide,by decide,by decide,fun cr H2 y0 y1 hh2 k2=>?_⟩
 x_go
 refine⟨p,_,8,rfl,hh2,by decide,by decide,by decide,fun w0 H4 w00 w01 hh4 k4=>?_⟩
 x_go
 refine⟨p,_,8,rfl,hh4,by decide,by decide,by decide,fun f0 H6 f00 f01 hh6 k6=>?_⟩
 x_go
 obtain⟨w,hw⟩ : ∃w:Nat,1+w0 =(w:Int):=⟨(1+w0).toNat,by omega⟩
 rw[hw]
 have f1:1<=1+f0:=by omega
 have f2:1+f0<=8:=by omega
 generalize 1+f0=f at f1 f2 ⊢
 have k16:=(k2.trans k4).trans k6
 have s06:aM H H6:=Kp.new s1 np k16
 intro x dx nx ndx nex
 refine⟨x,dx,w,f,rfl,aA,by omega,by omega,f1,f2,fun d H8 nd tb kp=>⟨rfl,?_⟩⟩
 have s68:aM H6 H8:=fun c o e=>kp c o (by rw[az (ay e nx),az (ay e ndx)];exact e) (ay e nx)
 have s08:=s06.trans s68
 have hd:H d=none:=by
  refine s06.free ?_
  cases c:H6 d with
  | none=>rfl
  | some o=>rw[az (ay c nx),az (ay c ndx)]at nd;rw[c]at nd;cases nd
 have hh8:=hh6.same s68
 clear s68 kp nd hh1 hh2 hh4 hh6 k2 k4 k6 k16 s06 s1
 x_go
 intro m nm0
 generalize hE:upd H8 m _=H9
 obtain⟨hm,s9⟩:=bu nm0 hE
 clear hE
 have hm0:H m=none:=s08.free nm0
 have tm9:TM CT x d m p w f _ [] [] H9:=⟨tb.same s9,hm,hh8.same s9,(ay tb.dc nm0).symm⟩
 have s09:=s08.trans s9
 clear tb hm hh8 s08 s9
 x_go
 refine⟨p,_,12,rfl,tm9.hh,by decide,by decide,by decide,fun dr HA dr0 dr1 hhA kA=>?_⟩
 have tmA:=tm9.draw kA hhA
 have sA0:aM H HA:=fun c o e=>kA.1 _ _ (s09 _ _ e) (ay e np)
 x_go
 refine⟨zs2,fun lA nlA=>?_⟩
 generalize hE:upd HA lA _=HB
 obtain⟨hlA,sB⟩:=bu nlA hE
 clear hE
 have tmB:=tmA.same sB
 have s0B:=sA0.trans sB
 obtain⟨many,hmany,mb⟩ : ∃many:Int,sZ [V.int dr,V.int 64] (if decide (cr=0)=true then 1 else 0)=some (.int many)/\0<=many/\many<=64:=by
  by_cases c:cr=0
  ·rw[decide_eq_true c];exact⟨64,rfl,by omega,by omega⟩
  ·rw[decide_eq_false c];exact⟨dr,rfl,by omega,by omega⟩
 x_go
 refine cL (bN.of hlA) hmany ?_
 x_go
 refine⟨p,_,many,rfl,tmB.hh,by decide,mb.1,by omega,fun lk ks HC nlk hlk ksd ksl ksb hhC kC=>?_⟩
 have tmC:=tmB.draw kC hhC
 have s0C:aM H HC:=fun c o e=>kC.1 _ _ (s0B _ _ e) (ay e np)
 clear tm9 tmA tmB s09 sA0 s0B kA kC hhA hhC hlA sB hmany
 have lkp:lk≠p:=by
  obtain⟨l,d',c,ns,h1,_⟩:=tmC.hh.ex
  intro e
  rw[e,h1]at hlk
  injection hlk with hlk
  injection hlk with hlk
  have:=congrArg (fun x=>x[2]?) hlk
  rw[List.getElem?_map]at this
  cases e:ks[2]? with
  | none=>rw[e]at this;cases this
  | some v=>rw[e]at this;cases this
 x_go
 refine⟨lk,rfl,⟨_,bN.of hlk⟩,?_⟩
 refine d9 (xs:=ks.map V.int) (fun i σ H'=>(∃y6 y7 y8,σ=[some (.ref a),some (.ref p),some (.bl (decide (cr=0))),some (.ref x),some (.ref m),y6,y7,y8])/\H' lk=some (.lst (ks.map V.int))/\K4 HC H' p d m/\∃es,es.length=i/\es.map (·.1)=ks.take i/\TM CT x d m p w f (1200000+20*i) es es H') ⟨⟨_,_,_,rfl⟩,hlk,K4.refl,[],rfl,rfl,tmC.mono (by omega)⟩ (fun _ _ _ _ h=>bN.of h.2.1) ?_ ?_
 ·rintro i zz σ HD hzz ⟨⟨y6,y7,y8,rfl⟩,hlD,k4D,es,el,ek,tmD⟩
  obtain⟨k,hk,rfl⟩:=ints_get hzz
  have il:=(List.getElem?_eq_some_iff.mp hk).1
  obtain⟨k0,k1⟩:=ksb k (List.mem_of_getElem? hk)
  have nk:k∉es.map (·.1):=by
   rw[ek]
   intro hm
   obtain⟨j,hj⟩:=List.getElem?_of_mem hm
   have jl:=(List.getElem?_eq_some_iff.mp hj).1
   rw[List.length_take]at jl
   rw[List.getElem?_take_of_lt (by omega)]at hj
   have:=(List.getElem?_inj (by omega) ksd).mp (hj.trans hk.symm)
   omega
  have lD:lk≠d:=cX hlD tmD.tb.dc (by intro z;cases z)
  have lM:lk≠m:=cX hlD tmD.md (by intro z;cases z)
  x_go
  refine⟨p,_,rfl,tmD.hh,by omega,fun z HE hz hhE kE=>?_⟩
  have tmE:=tmD.draw kE hhE
  x_go
  refine⟨m,_,rfl,sd.k (k:=Sum.inl k) tmE.md (by rw[jM];exact bf (by omega)),?_⟩
  rw[rD]
  have k2F:K2 HE (upd HE m (.dK (eV (bZ es k z)))) d m:=fun b o _ h2 h=>by rw[az h2];exact h
  have tmF:TM CT x d m p w f _ es (bZ es k z) (upd HE m (.dK (eV (bZ es k z)))):=tmE.k2 k2F (tmE.tb.kd tmE.md tmE.ne fun b o h2 h=>by rw[az h2];exact h) aA
  have hlF:=k2F _ _ lD lM (kE.1 _ _ hlD lkp)
  have k4F:=(k4D.trans (K4.kp kE)).trans k2F.k4
  generalize upd HE m (.dK (eV (bZ es k z)))=HF at tmF k4F hlF ⊢
  clear tmE k2F kE hhE tmD k4D
  obtain⟨dx,ho⟩:=tmF.tb.ob
  x_go
  refine⟨x,dx,_,rfl,ho,gK (by z_go),?_⟩
  x_go
  have hin:k∈(bZ es k z).map (·.1):=by rw[lZ nk];simp
  have hth:uI (bZ es k z) k=z:=by
   have nd:((bZ es k z).map (·.1)).Nodup:=(AJ tmF.tb.ok k0 k1 hz (.inr (by omega))).1
   exact p9 (e:=(k,z)) nd (by rw[lZ nk];simp)
  refine⟨m,_,rfl,by rw[<- jd hin];exact f9.k (k:=Sum.inl k) tmF.md,?_⟩
  rw[hth]
  x_go
  refine⟨x,d,w,f,es,_,_,rfl,tmF.tb,.int _,t_ hz,.inl ⟨k,z,rfl,rfl,k0,k1,hz,.inr (by omega),fun r HG tbG kdG=>?_⟩⟩
  x_go
  refine⟨⟨_,_,_,rfl⟩,kdG _ _ lD hlF,k4F.trans kdG.k2.k4,bZ es k z,by rw[lZ nk,List.length_append,el];rfl,?_,(tmF.k2 kdG.k2 tbG (kdG _ _ tmF.ne tmF.md)).mono (by omega)⟩
  rw[lZ nk,List.map_append,ek,lU hk];rfl
 ·rintro σ HD ⟨⟨y6,y7,y8,rfl⟩,hlD,k4D,es,el,ek,tmD⟩
  have s0D:aM H HD:=fun c o e=>k4D _ _ (ay e np) (ay e hd) (ay e hm0) (s0C _ _ e)
  have tbD:=tmD.tb
  have mdD:=tmD.md
  have neD:=tmD.ne
  clear k4D el ek tmD hlD tmC hlk s0C
  x_go
  refine⟨zs2,fun lA nlA=>?_⟩
  generalize hE:upd HD lA _=HE
  obtain⟨hlA,sE⟩:=bu nlA hE
  clear hE
  obtain⟨most,hmost,mob⟩ : ∃many:Int,sZ [V.int 30,V.int 8] (if decide (cr=0)=true then 1 else 0)=some (.int many)/\0<=many/\many<=30:=by
   by_cases c:cr=0
   ·rw[decide_eq_true c];exact⟨8,rfl,by omega,by omega⟩
   ·rw[decide_eq_false c];exact⟨30,rfl,by omega,by omega⟩
  x_go
  refine cL (bN.of hlA) hmost ?_
  x_go
  refine⟨a,ms,8,most,rfl,(s0D.trans sE).seq hS,hlen,by omega,by omega,by omega,by omega,fun n lp HF hn nlp hlp sF=>?_⟩
  have s0F:=(s0D.trans sE).trans sF
  have tbF:=tbD.same (sE.trans sF)
  have mdF:=(sE.trans sF) _ _ mdD
  have nlp0:H lp=none:=(s0D.trans sE).free nlp
  have lpd:lp≠d:=cX hlp tbF.dc (by intro z;cases z)
  have lpm:lp≠m:=cX hlp mdF (by intro z;cases z)
  clear tbD mdD s0D sE sF hlA hmost
  x_go
  refine⟨lp,rfl,⟨_,bN.of hlp⟩,?_⟩
  refine d9 (xs:=(gq 1 n).map V.int) (fun i σ H'=>(∃y1 y6 y7 y8,σ=[some (.ref a),y1,some (.bl (decide (cr=0))),some (.ref x),some (.ref m),y6,y7,y8])/\aM H H'/\H' lp=some (.lst ((gq 1 n).map V.int))/\∃es,Tab CT H' x d w f es/\H' m=some (.dK (eV es))) ⟨⟨_,_,_,_,rfl⟩,s0F,hlp,es,tbF,mdF⟩ (fun _ _ _ _ h=>bN.of h.2.2.1) ?_ ?_
  ·rintro i zz σ HG hzz ⟨⟨y1,y6,y7,y8,rfl⟩,s0G,hlG,es,tbG,mdG⟩
   obtain⟨pl,hpl,rfl⟩:=ints_get hzz
   have plb:0<=pl/\pl<=100:=by
    have:=Au hpl
    omega
   x_go
   refine⟨a,ms,pl,rfl,s0G.seq hS,hlen,by omega,by omega,fun p2 HI np2 sI hhI=>?_⟩
   x_go
   refine⟨p2,_,rfl,hhI,by decide,fun z HJ hz hhJ kJ=>?_⟩
   have tmJ:TM CT x d m p2 w f _ es es HJ:=(⟨tbG.same sI,sI _ _ mdG,hhI,neD⟩ : TM CT x d m p2 w f _ es es HI).draw kJ hhJ
   have kGJ:K4 HG HJ p2 d m:=(K4.same sI).trans (K4.kp kJ)
   clear hhI kJ hhJ
   x_go
   refine⟨x,d,m,p2,w,f,_,es,z,rfl,tmJ,hz,by decide,fun HK hhK kK=>?_⟩
   have tmK:=tmJ.draw kK hhK
   have kGK:=kGJ.trans (K4.kp kK)
   clear tmJ kGJ hhK kK
   x_go
   refine⟨x,d,m,p2,w,f,_,es,z,rfl,tmK,hz,by decide,fun es2 HL tmL kKL=>?_⟩
   have kGL:=kGK.trans kKL
   clear tmK kGK kKL
   x_go
   refine⟨p2,_,rfl,tmL.hh,by decide,fun k HM k0 k1 hhM kM=>?_⟩
   have tmM:=tmL.draw kM hhM
   have kGM:=kGL.trans (K4.kp kM)
   have l2:=tmM.tb.ok.2.2
   clear tmL kGL hhM kM
   x_go
   refine Fi (fun σ H'=>(∃y6 y7,σ=[some (.ref a),some (.ref p2),some (.bl (decide (cr=0))),some (.ref x),some (.ref m),y6,some (.int pl),some (.str z)]/\y6=y7)/\K4 HG H' p2 d m/\∃N es,TM CT x d m p2 w f N es es H') ?_ ?_
   ·intro Nx hNx
    refine' L2.AK (fun _ _ _ _=>?_)
    refine JO (fun H'=>(k∈es2.map (·.1)\/es2.length<64)/\H'=HM) (fun H'=>H'=HM) (fun R' hT hF=>?_) (fun HN ⟨hin,eN⟩=>?_) (fun HN eN=>?_)
    ·x_go
     refine⟨m,_,rfl,f9.k (k:=Sum.inl k) tmM.md,?_⟩
     rw[find_some]
     by_cases c:k∈es2.map (·.1)
     ·rw[decide_eq_true c]
      x_go
      exact hT _ ⟨.inl c,rfl⟩
     ·rw[decide_eq_false c]
      x_go
      refine⟨m,_,rfl,tmM.md,?_⟩
      rw[jM]
      x_go
      by_cases Q3:(es2.length:Int)<60
      ·rw[decide_eq_true Q3]
       exact hT _ ⟨.inr (by omega),rfl⟩
      ·rw[decide_eq_false Q3]
       exact hF _ rfl
    ·subst eN
     x_go
     refine⟨m,_,rfl,sd.k (k:=Sum.inl k) tmM.md (by rw[jM];exact bf (by omega)),?_⟩
     rw[rD]
     have k2C:K2 HN (upd HN m (.dK (eV (bZ es2 k z)))) d m:=fun b o _ h2 h=>by rw[az h2];exact h
     have tmC:TM CT x d m p2 w f _ es2 (bZ es2 k z) (upd HN m (.dK (eV (bZ es2 k z)))):=tmM.k2 k2C (tmM.tb.kd tmM.md tmM.ne fun b o h2 h=>by rw[az h2];exact h) aA
     have k0C:=kGM.trans k2C.k4
     generalize upd HN m (.dK (eV (bZ es2 k z)))=HO at tmC k0C ⊢
     x_go
     refine⟨x,d,w,f,es2,0,_,_,rfl,tmC.tb,.int _,t_ hz,.inr (.inl ⟨k,z,rfl,rfl,rfl,k0,by omega,hz,hin,fun ta HP hta WC kdP=>?_⟩)⟩
     have tmP:TM CT x d m p2 w f _ (bZ es2 k z) (bZ es2 k z) HP:=tmC.k2 kdP.k2 WC (kdP _ _ tmC.ne tmC.md)
     have k0P:=k0C.trans kdP.k2.k4
     x_go
     refine⟨zs2,fun tb ntb=>?_⟩
     generalize hE:upd HP tb _=HQ
     obtain⟨htb,sQ⟩:=bu ntb hE
     clear hE
     have g1:=f_ (K:=K) (sQ _ _ hta)
     have g2:=f_ (K:=K) htb
     x_go
     refine⟨_,_,g1.1,g2.1,g1.shaped (by omega),g2.shaped (by omega),?_⟩
     rw[g1.refl]
     x_go
     exact⟨⟨_,_,rfl,rfl⟩,k0P.trans (K4.same sQ),_,_,tmP.same sQ⟩
    ·subst eN
     x_go
     exact⟨⟨_,_,rfl,rfl⟩,kGM,_,_,tmM⟩
   ·rintro σ HN ⟨⟨y6,_,rfl,rfl⟩,kGN,N',es3,tmN⟩
    clear tmM kGM
    have l3:=tmN.tb.ok.2.2
    x_go
    refine⟨m,es3.map vE,rfl,tmN.md,by rw[List.length_map];omega,fun ks l pk1 pk2 nl=>?_⟩
    generalize hE:upd HN l _=HO
    obtain⟨hl,sO⟩:=bu nl hE
    clear hE
    have pkk:ks.Perm (es3.map (·.1)):=by rw[List.map_map]at pk1;exact pk1
    x_go
    refine rm (bN.of hl) fun l2 nl2=>?_
    rw[show(1:Int) =((1:Nat):Int) from rfl,Cr]
    generalize hE:upd HO l2 _=HP
    obtain⟨hl2,sP⟩:=bu nl2 hE
    clear hE
    have sNP:=sO.trans sP
    have tmP:=tmN.same sNP
    have kGP:=kGN.trans (K4.same sNP)
    have l2p:l2≠p2:=(tmN.same sO).hh.ne nl2
    clear tmN kGN sNP sO sP hl
    x_go
    refine⟨l2,rfl,⟨_,bN.of hl2⟩,?_⟩
    refine d9 (xs:=(ks.take 1).map V.int) (fun i σ H'=>(∃y6,σ=[some (.ref a),some (.ref p2),some (.bl (decide (cr=0))),some (.ref x),some (.ref m),y6,some (.int pl),some (.str z)])/\H' l2=some (.lst ((ks.take 1).map V.int))/\K4 HG H' p2 d m/\∃es,es.map (·.1)=es3.map (·.1)/\TM CT x d m p2 w f N' es es H') ⟨⟨_,rfl⟩,hl2,kGP,es3,rfl,tmP⟩ (fun _ _ _ _ h=>bN.of h.2.1) ?_ ?_
    ·rintro j z3 σ HQ hz3 ⟨⟨y6',rfl⟩,hlQ,kGQ,es4,e43,tmQ⟩
     obtain⟨k4,hk4,rfl⟩:=ints_get hz3
     have hin3:k4∈es3.map (·.1):=pkk.mem_iff.mp (List.mem_of_mem_take (List.mem_of_getElem? hk4))
     have hin4:k4∈es4.map (·.1):=by rw[e43];exact hin3
     obtain⟨e0,em,ek0⟩:=List.mem_map.mp hin4
     have eo:=tmQ.tb.ok.2.1 e0 em
     rw[ek0]at eo
     have l4:=tmQ.tb.ok.2.2
     have lD:l2≠d:=cX hlQ tmQ.tb.dc (by intro z;cases z)
     have lM:l2≠m:=cX hlQ tmQ.md (by intro z;cases z)
     x_go
     refine⟨m,_,rfl,sd.k (k:=Sum.inl k4) tmQ.md (by rw[jM];exact bf (by omega)),?_⟩
     rw[rD]
     have k2C:K2 HQ (upd HQ m (.dK (eV (bZ es4 k4 z)))) d m:=fun b o _ h2 h=>by rw[az h2];exact h
     have tmC:TM CT x d m p2 w f _ es4 (bZ es4 k4 z) (upd HQ m (.dK (eV (bZ es4 k4 z)))):=tmQ.k2 k2C (tmQ.tb.kd tmQ.md tmQ.ne fun b o h2 h=>by rw[az h2];exact h) aA
     have hlC:=k2C _ _ lD lM hlQ
     have k0C:=kGQ.trans k2C.k4
     generalize upd HQ m (.dK (eV (bZ es4 k4 z)))=HO at tmC k0C hlC ⊢
     clear tmQ k2C kGQ hlQ
     x_go
     refine⟨x,d,w,f,es4,0,_,_,rfl,tmC.tb,.int _,t_ hz,.inr (.inl ⟨k4,z,rfl,rfl,rfl,eo.1,eo.2.1,hz,.inl hin4,fun ta HR hta tbR kdR=>?_⟩)⟩
     have tmR:TM CT x d m p2 w f _ (bZ es4 k4 z) (bZ es4 k4 z) HR:=tmC.k2 kdR.k2 tbR (kdR _ _ tmC.ne tmC.md)
     have k0R:=k0C.trans kdR.k2.k4
     have hlR:=kdR _ _ lD hlC
     x_go
     refine⟨zs2,fun tb ntb=>?_⟩
     generalize hE:upd HR tb _=HS
     obtain⟨htb,sS⟩:=bu ntb hE
     clear hE
     have g1:=f_ (K:=K) (sS _ _ hta)
     have g2:=f_ (K:=K) htb
     x_go
     refine⟨_,_,g1.1,g2.1,g1.shaped (by omega),g2.shaped (by omega),?_⟩
     rw[g1.refl]
     have tmS:=tmR.same sS
     obtain⟨dx,ho⟩:=tmS.tb.ob
     x_go
     refine⟨x,dx,_,rfl,ho,gK (by z_go),?_⟩
     have hk5:(bZ es4 k4 z).map (·.1)=es4.map (·.1):=by rw[nM,if_pos hin4]
     have hin5:k4∈(bZ es4 k4 z).map (·.1):=by rw[hk5];exact hin4
     have hth:uI (bZ es4 k4 z) k4=z:=by
      refine p9 (e:=(k4,z)) tmS.tb.ok.1 ?_
      rw[H_ hin4]
      exact List.mem_map.mpr ⟨e0,em,by rw[if_pos ek0,ek0]⟩
     x_go
     refine⟨x,d,w,f,bZ es4 k4 z,_,rfl,tmS.tb,.int _,.inl ⟨k4,rfl,hin5,fun nn tf HT htf sT=>?_⟩⟩
     rw[hth]at htf
     x_go
     refine⟨rfl,?_⟩
     rw[decide_eq_true rfl]
     x_go
     have sST:=sS.trans sT
     exact⟨⟨_,rfl⟩,sST _ _ hlR,k0R.trans (K4.same sST),bZ es4 k4 z,hk5.trans e43,tmR.same sST⟩
    ·rintro σ HQ ⟨⟨y6',rfl⟩,_,kGQ,es4,_,tmQ⟩
     x_go
     refine⟨⟨_,_,_,_,rfl⟩,fun c o e=>?_,?_,es4,tmQ.tb,tmQ.md⟩
     ·exact kGQ _ _ (ay (s0G _ _ e) np2) (ay e hd) (ay e hm0) (s0G _ _ e)
     ·exact kGQ _ _ (ay hlG np2) lpd lpm hlG
  ·rintro σ HG ⟨⟨y1,y6,y7,y8,rfl⟩,s0G,hlG,es,tbG,mdG⟩
   obtain⟨dx,ho⟩:=tbG.ob
   have le:=tbG.ok.2.2
   x_go
   refine⟨x,dx,_,rfl,ho,gK (by z_go),?_⟩
   x_go
   obtain⟨ms0,p10,p20⟩ : ∃ms:List Int,ms.Perm (es.map (·.1))/\ms.Pairwise (· <= ·):=⟨(es.map (·.1)).mergeSort (fun a b=>decide (a<=b)),List.mergeSort_perm _ _,by
    have:=List.pairwise_mergeSort (le:=fun a b:Int=>decide (a<=b)) (fun a b c h1 h2=>by simp at *;omega) (fun a b=>by simp;omega) (es.map (·.1))
    exact this.imp fun h=>by simpa using h⟩
   refine⟨x,d,w,f,es,rfl,tbG,fun ps ts l HH pp po sH nl hl el=>?_⟩
   have g1:GD K HH 2 (.ref l) (.list ((ms0.map fun k=>(k,uI es k)).map pE)):=by
    have:=GD.lst (K:=K) hl (pQ el.en)
    rw[show PyData.list ((ts.map V.ref).map (dE HH))=C1 HH (ts.map V.ref) from rfl,jV el.en,el.row,DP tbG.ok.1 pp po p10 p20]at this
    exact this
   have mdH:=sH _ _ mdG
   x_go
   refine⟨.inr (.inr (.inl ⟨rfl,.inl ⟨_,mdH⟩⟩)),?_⟩
   refine⟨m,_,rfl,rfl,mdH,fun v nv=>?_⟩
   generalize hE:upd HH v _=H6
   obtain⟨hv,s6⟩:=bu nv hE
   clear hE
   x_go
   refine⟨v,m,es.map vE,rfl,hv,s6 _ _ mdH,by rw[List.map_map];exact tbG.ok.1,by rw[List.length_map];omega,fun ps2 ts2 l2 H7 pp2 po2 s7 nl2 hl2 tl2 ht2=>?_⟩
   have pv2:(ps2.map uE).map vE=ps2:=by
    rw[List.map_map]
    refine(List.map_congr_left fun x hx=>?_).trans (List.map_id _)
    obtain⟨y,_,rfl⟩:=List.mem_map.mp (pp2.mem_iff.mp hx)
    rfl
   have pm:(ps2.map uE).Perm es:=by
    have:=pp2.map uE
    rw[List.map_map,show(uE ∘ vE)=id from rfl,List.map_id]at this
    exact this
   have el2:EL H7 ts2 (ps2.map uE):=⟨by rw[List.length_map];exact tl2,fun i t' e e1 e2=>by
    have e3:ps2[i]? = some (vE e):=by rw[<- pv2,List.getElem?_map,e2];rfl
    have ee:=tbG.ok.2.1 e (pm.mem_iff.mp (List.mem_of_getElem? e2))
    obtain⟨n1,n2⟩:=Dz ee.2.2
    exact⟨ht2 i t' _ e1 e3,n1,ee.1,ee.2.1,n2⟩⟩
   have g2:GD K H7 2 (.ref l2) (.list ((ms0.map fun k=>(k,uI es k)).map pE)):=by
    have:=GD.lst (K:=K) hl2 (pQ el2.en)
    rw[show PyData.list ((ts2.map V.ref).map (dE H7))=C1 H7 (ts2.map V.ref) from rfl,jV el2.en,el2.row,DP tbG.ok.1 pm (by rw[List.pairwise_map];exact po2) p10 p20]at this
    exact this
   have g1':=g1.same (s6.trans s7)
   x_go
   refine⟨_,_,g1'.1,g2.1,g1'.shaped (by omega),g2.shaped (by omega),?_⟩
   rw[g1'.refl]
   exact q _
end
section
variable {K:PySem.W.Frag} {x q:Str} {st:Stmt} {f:Addr} {fd:FuncData} {a b c d e g:Str}
theorem W0 (F:cR K x q st f fd) (h:∀ k l m n o r u0,bindArgs (PySem.W.fnOf x q (cK st) (bP st) (aq st) .none k l m n o r) ⟨[u0],[]⟩=pure ([a].zip [u0])):Binds K fd [a] []:=F.binds fun k l m n o r us hl=>match us,hl with|[u0],_=>h k l m n o r u0
theorem Xx (F:cR K x q st f fd) (h:∀ k l m n o r u0 u1,bindArgs (PySem.W.fnOf x q (cK st) (bP st) (aq st) .none k l m n o r) ⟨[u0,u1],[]⟩=pure ([a,b].zip [u0,u1])):Binds K fd [a,b] []:=F.binds fun k l m n o r us hl=>match us,hl with|[u0,u1],_=>h k l m n o r u0 u1
theorem Xz (F:cR K x q st f fd) (h:∀ k l m n o r u0 u1 u2,bindArgs (PySem.W.fnOf x q (cK st) (bP st) (aq st) .none k l m n o r) ⟨[u0,u1,u2],[]⟩=pure ([a,b,c].zip [u0,u1,u2])):Binds K fd [a,b,c] []:=F.binds fun k l m n o r us hl=>match us,hl with|[u0,u1,u2],_=>h k l m n o r u0 u1 u2
theorem XI (F:cR K x q st f fd) (h:∀ k l m n o r u0 u1 u2 u3,bindArgs (PySem.W.fnOf x q (cK st) (bP st) (aq st) .none k l m n o r) ⟨[u0,u1,u2,u3],[]⟩=pure ([a,b,c,d].zip [u0,u1,u2,u3])):Binds K fd [a,b,c,d] []:=F.binds fun k l m n o r us hl=>match us,hl with|[u0,u1,u2,u3],_=>h k l m n o r u0 u1 u2 u3
end
local macro_rules|`(tactic|w_up)=>`(tactic|first|exact W0 (by assumption) fun _ _ _ _ _ _ _=>rfl|exact Xx (by assumption) fun _ _ _ _ _ _ _ _=>rfl|exact Xz (by assumption) fun _ _ _ _ _ _ _ _ _=>rfl|exact XI (by assumption) fun _ _ _ _ _ _ _ _ _ _=>rfl)
theorem all_mk {l:PySem.W.OpenLaw}{w:World}{K:W.Frag}{h:Heap}{mg:Str->Option Value}{fa:Addr}(X:K.In h) (G:h.Ns mainGlobals mg) (hfa:mg "law" = some (.ref fa))
  {CT:Addr}(aC:W.nsIn K mainGlobals "Table" = some (some (.ref CT))) (pg:PySem.W.plainGet K CT Str.empty=true) (hd:PySem.W.hasDictIn K CT=true) (po:PySem.W.plainOver K CT=true) (sa:W.findIn K (.ref CT) "__setattr__" = some (some (.builtin "object.__setattr__"))) (mk:PySem.W.makesIn K CT=true) (kc:W.keepIn K (.ref CT)=true)
  (n_wide:W.findIn K (.ref CT) "wide" = some none)
  (n_fill:W.findIn K (.ref CT) "fill" = some none)
  (n_held:W.findIn K (.ref CT) "held" = some none)
  (g0:Ga K "is_whole" ly)
  (g1:Ga K "is_key" rR)
  (g2:Ga K "is_name" jX)
  (g3:Ga K "is_size" nR)
  (g4:Ga K "ask_sizes" jo)
  (g5:Ga K "ask_key" ny)
  (g6:Ga K "ask_entry" jE)
  (g7:Ga K "last_bits" jK)
  (g8:Ga K "level" vg)
  (g9:Ga K "turn" zX)
  (g10:Ga K "bits_for" lB)
  (g11:Ga K "room_of" nQ)
  (g12:Ga K "split_of" kY)
  (g13:Ga K "joined_of" ju)
  (g14:Ga K "rows_for" lq)
  (g15:Ga K "rows_behind" gJ)
  (g16:Ga K "cut_rows" iO)
  (g17:Ga K "rows_of" nK)
  (g18:Ga K "looked" rq)
  (g19:Ga K "spread" l9)
  (g20:Ga K "counts" lW)
  (g21:NI K "spill" "spill_spread" pI)
  (g22:NI K "longest" "longest_spread" j4)
  (g23:Ga K "rooms_for" jS)
  (g24:Me K CT "__init__" "Table.__init__" eK)
  (g25:Me K CT "put" "Table.put" jG)
  (g26:Me K CT "drop" "Table.drop" iE)
  (g27:Me K CT "find" "Table.find" iM)
  (g28:Me K CT "looks" "Table.looks" gu)
  (g29:Me K CT "count" "Table.count" gF)
  (g30:Me K CT "rooms" "Table.rooms" gG)
  (g31:Me K CT "entries" "Table.entries" e_)
  (g32:Me K CT "room" "Table.room" fC)
  (g33:Me K CT "spill" "Table.spill" gr)
  (g34:Me K CT "longest" "Table.longest" e9)
  (g35:Me K CT "ask_standing" "Table.ask_standing" cZ)
  (g36:Me K CT "spread_keys" "Table.spread_keys" dw)
  (g37:Me K CT "room_counts" "Table.room_counts" dz)
  (g38:Ga K "_law_open" gh)
  (g39:Ga K "_law_draw" jw)
  (g40:Ga K "_law_far" lH)
  (g41:Ga K "_law_power" iI)
  (g42:Ga K "_law_key" lI)
  (g43:Ga K "_law_keys" jL)
  (g44:Ga K "_law_thing" fD)
  (g45:Ga K "_law_state" iB)
  (g46:Ga K "_law_places" gH)
  (g47:Ga K "_law_odd_key" fW)
  (g48:Ga K "_law_odd_thing" eG)
  (g49:Ga K "_law_kinds" iR)
  (g50:Ga K "_law_done" jn)
  (g51:Ga K "_law_alike" iP)
  (g52:Ga K "_law_refused" fY)
  (g53:Ga K "_law_gone" jx)
  {f54:Addr}{od54 an54:Option Addr}{sl54:Array (Option Value)}{oc54 kV54 dc54 pm54 cd54 ct54:Value}(a54:W.nsIn K mainGlobals "law" = some (some (.ref f54))) (l54:K.lookup f54=some ⟨oc54,od54,.func (W.fnOf "law" "law" (cK l5) (bP l5) (aq l5) .none kV54 dc54 pm54 an54 cd54 ct54),sl54⟩) (c54:W.codeIn K cd54 "law" = true) (k54:W.keepIn K (.ref f54)=true)
  {TE:Addr}(gT:OD K TE)
  {b6:Addr}(gx_Full:yh K "Full" b6 TE "many")
  {aZ:Addr}(gx_Lacking:yh K "Lacking" aZ TE "key")
  {bK:Addr}(gx_NoKey:yh K "NoKey" bK TE "key")
  {br:Addr}(gx_NoRoom:yh K "NoRoom" br TE "number")
  {bB:Addr}(gx_NoSize:yh K "NoSize" bB TE "thing")
  {a_:Addr}(gx_NoThing:yh K "NoThing" a_ TE "thing")
  (kt_tab:fc K [bK,a_,b6,aZ,br,bB]=true)
  (kt_top:nj K [bK,a_,b6,aZ,br,bB]=true)
  (z_isinstance:W.nsIn K mainGlobals "isinstance" = some none)
  (z_int:W.nsIn K mainGlobals "int" = some none)
  (z_bool:W.nsIn K mainGlobals "bool" = some none)
  (z_str:W.nsIn K mainGlobals "str" = some none)
  (z_all:W.nsIn K mainGlobals "all" = some none)
  (z_len:W.nsIn K mainGlobals "len" = some none)
  (z_max:W.nsIn K mainGlobals "max" = some none)
  (z_range:W.nsIn K mainGlobals "range" = some none)
  (z_sorted:W.nsIn K mainGlobals "sorted" = some none)
  (z_sum:W.nsIn K mainGlobals "sum" = some none)
  (z_list:W.nsIn K mainGlobals "list" = some none)
  (z_abs:W.nsIn K mainGlobals "abs" = some none)
  (z_min:W.nsIn K mainGlobals "min" = some none)
  (z_ValueError:W.nsIn K mainGlobals "ValueError" = some none)
  {t_MOST_KEYS:Tok}(z_MOST_KEYS:W.nsIn K mainGlobals "MOST_KEYS" = some (some (.int 64 t_MOST_KEYS)))
  : ∃fd:FuncData,(∀(s:Shared) (v:Value),BindsTo s fd ⟨[v],[]⟩ [("_law_script",v)])/\∀base:Heap,K.In base->base.Ns mainGlobals mg->iw l.prog w K mg base Ar 11 fa fd ["_law_script"] (uW K):=by
 have e:=hfa.symm.trans (W.mg_of X G a54)
 cases e
 have T:Bl mg:=⟨W.mg_none_of X G z_isinstance,W.mg_none_of X G z_int,W.mg_none_of X G z_bool,W.mg_none_of X G z_str,W.mg_none_of X G z_all,W.mg_none_of X G z_len,W.mg_none_of X G z_max,W.mg_none_of X G z_range,W.mg_none_of X G z_sorted,W.mg_none_of X G z_sum,W.mg_none_of X G z_list,W.mg_none_of X G z_abs,W.mg_none_of X G z_min,W.mg_none_of X G z_ValueError,⟨_,W.mg_of X G z_MOST_KEYS⟩⟩
 refine⟨W.fnOf "law" "law" (cK l5) (bP l5) (aq l5) .none kV54 dc54 pm54 an54 cd54 ct54,fun s v=>.of_eq rfl,fun base _ _=>?_⟩
 have XT:=gT.txt X G
 have bR:=gx_Full.txt X G
 have aU:=gx_Lacking.txt X G
 have bC:=gx_NoKey.txt X G
 have bg:=gx_NoRoom.txt X G
 have dS:=gx_NoSize.txt X G
 have aV:=gx_NoThing.txt X G
 have TC:bx K mg CT:=⟨⟨pg,hd,po,sa⟩,n_wide,n_fill,n_held,W.mg_of X G aC⟩
 have cO:=g0.elim fun f a fd F=>wN (P:=l.prog) (w:=w) (base:=base) F (W.mg_of X G a) (by w_up) T
 have nI:=g2.elim fun f a fd F=>zj (P:=l.prog) (w:=w) (base:=base) F (W.mg_of X G a) (by w_up) T
 have gi:=g7.elim fun f a fd F=>uR (P:=l.prog) (w:=w) (base:=base) F (W.mg_of X G a) (by w_up) T
 have fL:=g8.elim fun f a fd F=>DF (P:=l.prog) (w:=w) (base:=base) F (W.mg_of X G a) (by w_up) T
 have cP:=g14.elim fun f a fd F=>xu (P:=l.prog) (w:=w) (base:=base) F (W.mg_of X G a) (by w_up) T
 have qq:=g18.elim fun f a fd F=>Bq (P:=l.prog) (w:=w) (base:=base) F (W.mg_of X G a) (by w_up) T
 have jF:=g23.elim fun f a fd F=>uJ (P:=l.prog) (w:=w) (base:=base) F (W.mg_of X G a) (by w_up) T
 have bW:=g29.elim fun f a i k fd F=>qE (P:=l.prog) (w:=w) (base:=base) F ⟨a,i,k⟩ (by w_up) T TC
 have cy:=g31.elim fun f a i k fd F=>nA (P:=l.prog) (w:=w) (base:=base) F ⟨a,i,k⟩ (by w_up) T TC
 have gc:=g38.elim fun f a fd F=>vS (P:=l.prog) (w:=w) (base:=base) F (W.mg_of X G a) (by w_up) T
 have aD:=g39.elim fun f a fd F=>vR (P:=l.prog) (w:=w) (base:=base) F (W.mg_of X G a) (by w_up) T
 have iH:=g41.elim fun f a fd F=>r6 (P:=l.prog) (w:=w) (base:=base) F (W.mg_of X G a) (by w_up) T
 have gD:=g46.elim fun f a fd F=>pY (P:=l.prog) (w:=w) (base:=base) F (W.mg_of X G a) (by w_up) T
 have cQ:=g49.elim fun f a fd F=>rZ (P:=l.prog) (w:=w) (base:=base) F (W.mg_of X G a) (by w_up) T bR aU bC bg dS aV kt_tab kt_top
 have iQ:=g51.elim fun f a fd F=>tF (P:=l.prog) (w:=w) (base:=base) F (W.mg_of X G a) (by w_up) T
 have q_:=g1.elim fun f a fd F=>Cn (P:=l.prog) (w:=w) (base:=base) F (W.mg_of X G a) (by w_up) T cO
 have j7:=g3.elim fun f a fd F=>yM (P:=l.prog) (w:=w) (base:=base) F (W.mg_of X G a) (by w_up) T cO
 have ig:=g9.elim fun f a fd F=>Jm (P:=l.prog) (w:=w) (base:=base) F (W.mg_of X G a) (by w_up) T fL
 have gy:=g15.elim fun f a fd F=>pP (P:=l.prog) (w:=w) (base:=base) F (W.mg_of X G a) (by w_up) T cP
 have eL:=g16.elim fun f a fd F=>wQ (P:=l.prog) (w:=w) (base:=base) F (W.mg_of X G a) (by w_up) T cP
 have nE:=g22.elim fun f a b fd F=>Am (P:=l.prog) (w:=w) (base:=base) F (W.mg_of X G a) (by w_up) T cP
 have eu:bT l.prog w K mg base "longest_spread" zd 2 (iJ K):=g22.elim fun f a b fd F=>nE.alias ((W.mg_of X G b).trans (W.mg_of X G a).symm)
 have aE:=g30.elim fun f a i k fd F=>qe (P:=l.prog) (w:=w) (base:=base) F ⟨a,i,k⟩ (by w_up) T TC bW jF
 have iu:=g40.elim fun f a fd F=>wO (P:=l.prog) (w:=w) (base:=base) F (W.mg_of X G a) (by w_up) T aD
 have fK:=g44.elim fun f a fd F=>tK (P:=l.prog) (w:=w) (base:=base) F (W.mg_of X G a) (by w_up) T aD
 have fR:=g47.elim fun f a fd F=>oQ (P:=l.prog) (w:=w) (base:=base) F (W.mg_of X G a) (by w_up) T aD
 have eF:=g48.elim fun f a fd F=>mE (P:=l.prog) (w:=w) (base:=base) F (W.mg_of X G a) (by w_up) T aD
 have jJ:=g4.elim fun f a fd F=>uZ (P:=l.prog) (w:=w) (base:=base) F (W.mg_of X G a) (by w_up) T dS j7
 have dj:=g5.elim fun f a fd F=>ze (P:=l.prog) (w:=w) (base:=base) F (W.mg_of X G a) (by w_up) T bC q_
 have lK:=g10.elim fun f a fd F=>xN (P:=l.prog) (w:=w) (base:=base) F (W.mg_of X G a) (by w_up) T fL ig
 have lG:=g12.elim fun f a fd F=>xQ (P:=l.prog) (w:=w) (base:=base) F (W.mg_of X G a) (by w_up) T ig
 have jC:=g13.elim fun f a fd F=>u5 (P:=l.prog) (w:=w) (base:=base) F (W.mg_of X G a) (by w_up) T ig
 have nC:=g17.elim fun f a fd F=>Ae (P:=l.prog) (w:=w) (base:=base) F (W.mg_of X G a) (by w_up) T eL
 have vB:=g21.elim fun f a b fd F=>EA (P:=l.prog) (w:=w) (base:=base) F (W.mg_of X G a) (by w_up) T gy
 have fQ:bT l.prog w K mg base "spill_spread" zd 3 (m7 K):=g21.elim fun f a b fd F=>vB.alias ((W.mg_of X G b).trans (W.mg_of X G a).symm)
 have b7:=g42.elim fun f a fd F=>x6 (P:=l.prog) (w:=w) (base:=base) F (W.mg_of X G a) (by w_up) T aD iu iH
 have jB:=g6.elim fun f a fd F=>vI (P:=l.prog) (w:=w) (base:=base) F (W.mg_of X G a) (by w_up) T aV dj nI
 have fN:=g11.elim fun f a fd F=>Ad (P:=l.prog) (w:=w) (base:=base) F (W.mg_of X G a) (by w_up) T gi lK fL
 have ez:=g24.elim fun f a i k fd F=>mG (P:=l.prog) (w:=w) (base:=base) F ⟨mk,a,i,kc⟩ (by w_up) T TC jJ
 have bM:=g35.elim fun f a i k fd F=>iZ (P:=l.prog) (w:=w) (base:=base) F ⟨a,i,k⟩ (by w_up) T aU TC dj
 have jO:=g43.elim fun f a fd F=>uU (P:=l.prog) (w:=w) (base:=base) F (W.mg_of X G a) (by w_up) T b7
 have gS:=g19.elim fun f a fd F=>Bt (P:=l.prog) (w:=w) (base:=base) F (W.mg_of X G a) (by w_up) T fN
 have qk:=g20.elim fun f a fd F=>B3 (P:=l.prog) (w:=w) (base:=base) F (W.mg_of X G a) (by w_up) T gS
 have aN:=g36.elim fun f a i k fd F=>i_ (P:=l.prog) (w:=w) (base:=base) F ⟨a,i,k⟩ (by w_up) T TC gS
 have dU:=g25.elim fun f a i k fd F=>vA (P:=l.prog) (w:=w) (base:=base) F ⟨a,i,k⟩ (by w_up) T bR TC aE bW aN jB lG
 have iy:=g26.elim fun f a i k fd F=>sR (P:=l.prog) (w:=w) (base:=base) F ⟨a,i,k⟩ (by w_up) T TC bM aE aN jC
 have cU:=g28.elim fun f a i k fd F=>qD (P:=l.prog) (w:=w) (base:=base) F ⟨a,i,k⟩ (by w_up) T TC aE aN dj qq fN nC
 have cC:=g32.elim fun f a i k fd F=>sy (P:=l.prog) (w:=w) (base:=base) F ⟨a,i,k⟩ (by w_up) T bg TC aN aE eL cO
 have bQ:=g37.elim fun f a i k fd F=>jv (P:=l.prog) (w:=w) (base:=base) F ⟨a,i,k⟩ (by w_up) T TC aE qk
 have dg:=g27.elim fun f a i k fd F=>su (P:=l.prog) (w:=w) (base:=base) F ⟨a,i,k⟩ (by w_up) T TC bM cU
 have gw:=g33.elim fun f a i k fd F=>qu (P:=l.prog) (w:=w) (base:=base) F ⟨a,i,k⟩ (by w_up) T TC vB fQ bQ
 have fm:=g34.elim fun f a i k fd F=>ng (P:=l.prog) (w:=w) (base:=base) F ⟨a,i,k⟩ (by w_up) T TC nE eu bQ
 have cE:=g45.elim fun f a fd F=>sG (P:=l.prog) (w:=w) (base:=base) F (W.mg_of X G a) (by w_up) T TC cC bW aE cy gw fm
 have bL:=g50.elim fun f a fd F=>uN (P:=l.prog) (w:=w) (base:=base) F (W.mg_of X G a) (by w_up) T bR aU bC bg dS aV XT kt_tab kt_top TC dU iy dg cU cC cQ
 have fP:=g52.elim fun f a fd F=>oX (P:=l.prog) (w:=w) (base:=base) F (W.mg_of X G a) (by w_up) T TC aE cE fR aD eF b7 iQ bL
 have jA:=g53.elim fun f a fd F=>vO (P:=l.prog) (w:=w) (base:=base) F (W.mg_of X G a) (by w_up) T TC aE b7 cE bL aD
 exact Og (u7 (st:=l5) l54 c54 k54) T TC ez dU cy dg gc jO gD aD fK b7 fP jA bL
theorem walk {l:PySem.W.OpenLaw}{q:Program}{loose:List Str}{XP:(Str->Option Value)->Heap->Prop}{YP:World->Heap->Prop}{d:DefRec}{K:Params->W.Frag}(hn:l.most=some 63) (hdf:d.params.defaults=[])
  (hY:∀(w:World) (h:Heap),YP w h->(K w.params).In h)
  (F:∀(w:World) (mg:Str->Option Value) (fa:Addr) (h:Heap),(K w.params).In h->h.Ns mainGlobals mg->mg d.name=some (.ref fa) ->
   ∃fd:FuncData,(∀(s:Shared) (u:Value),BindsTo s fd ⟨[u],[]⟩ [("_law_script",u)])/\∀base:Heap,(K w.params).In base->base.Ns mainGlobals mg->iw l.prog w (K w.params) mg base Ar 11 fa fd ["_law_script"] (uW (K w.params))) :
  PySem.W.WalkO q loose XP YP l.row.toRowW d [] (fun f vs=>PySem.call f vs) :=
 L2.IF (n:=63) (k:=11) (x := "_law_script") (CX:=fun _=>Ar) (sp:=fun w=>uW (K w.params)) hn (by decide) hdf ⟨rfl,by decide,by decide,rfl⟩ hY F (fun _ _ a ns hl _ hS=>⟨a,ns,rfl,hS,hl,fun _=>rfl⟩) fun _ _ _ _ _ z=>z
end Law
noncomputable def PySem.W.Fast.tw200810981410563722:PySem.Program:=PySem.Challenge.pw_tailrooms_k37_refused_in_order
theorem PySem.W.Fast.te200810981410563722:PySem.Challenge.pw_tailrooms_k37_refused_in_order=PySem.W.Fast.tw200810981410563722:=rfl
noncomputable section
namespace HD
abbrev zD:=List PySem.DictEntry
abbrev zL:=List PySem.Value
abbrev zO:=List PySem.Obj
def zT(a b:Int)(c:Nat)(r:zL):zL:=(.int a 0)::(.int b 0)::(.ref c)::r
open PySem PySem.W PySem.PyData
def pB:List Stmt:=PySem.Challenge.pw_tailrooms_k37_refused_in_order.main.body
def nS:List Stmt->Nat->Stmt
 | s::_,0=>s
 | _::r,n+1=>nS r n
 | [],_=>.Pass ⟨0,0,0,0⟩
def bS:Stmt->List Stmt
 | .FunctionDef _ _ b ..=>b
 | .ClassDef _ _ _ b ..=>b
 | _=>[]
def aS:Stmt->Arguments
 | .FunctionDef _ a ..=>a
 | _=>⟨[],[],none,[],[],none,[]⟩
def sS:Stmt->Scope
 | .FunctionDef _ _ _ _ _ _ s ..=>s
 | _=>⟨.function,[],false,false,[]⟩
def f (i:Nat):Stmt:=nS pB i
def m (i j:Nat):Stmt:=nS (bS (f i)) j
abbrev O:=Params->Obj
def E (P:Params) (x:Str) (n:Nat) (v:Value):DictEntry:=⟨keyHash P x,.str x n,v⟩
abbrev B:=Params->BT
def n (o:O) (l r:B):B:=fun P=>.node (o P) (l P) (r P)
def w (o:O):B:=fun P=>.node (o P) .nil .nil
def u:B:=fun _=>.nil
def c0 (P:Params)(r:zD):zD:=(E P "__name__" 165 (.str "tailrooms.rows" 474))::(E P "__doc__" 166 .none)::(E P "__package__" 167 .none)::(E P "__loader__" 168 (.builtin "__main__.__loader__#opaque"))::(E P "__spec__" 169 .none)::(E P "__annotations__" 170 (.ref 6))::(E P "__builtins__" 171 (.ref 4))::(E P "__file__" 173 (.str "/claim/cut.py" 172))::r
def c1 (P:Params)(r:zD):zD:=(E P "__cached__" 174 .none)::(E P "_wall" 193 (.ref 21))::(E P "TailError" 213 (.ref 31))::(E P "NoSize" 238 (.ref 51))::(E P "NoKey" 263 (.ref 70))::(E P "NoThing" 288 (.ref 89))::(E P "NoRoom" 313 (.ref 108))::(E P "Lacking" 338 (.ref 127))::r
def c2 (P:Params)(r:zD):zD:=(E P "Full" 363 (.ref 146))::(E P "is_whole" 372 (.ref 155))::(E P "is_key" 379 (.ref 162))::(E P "is_name" 385 (.ref 167))::(E P "is_size" 392 (.ref 174))::(E P "ask_sizes" 402 (.ref 181))::(E P "ask_key" 409 (.ref 188))::(E P "ask_entry" 417 (.ref 195))::r
def c3 (P:Params)(r:zD):zD:=(E P "last_bits" 427 (.ref 202))::(E P "level" 434 (.ref 209))::(E P "turn" 441 (.ref 216))::(E P "bits_for" 450 (.ref 223))::(E P "room_of" 458 (.ref 230))::(E P "split_of" 465 (.ref 237))::(E P "joined_of" 473 (.ref 244))::(E P "rows_for" 483 (.ref 251))::r
def c4 (P:Params)(r:zD):zD:=(E P "rows_behind" 491 (.ref 258))::r
def c5 (P:Params)(r:zL):zL:=zT 1 0 20<|zT 5 0 27<|zT 7 0 40<|zT 11 0 59<|zT 15 0 78<|zT 19 0 97<|r
def c6 (P:Params)(r:zL):zL:=zT 23 0 116<|zT 27 0 135<|zT 32 0 154<|zT 34 0 161<|zT 36 0 166<|zT 38 0 173<|r
def c7 (P:Params)(r:zL):zL:=zT 41 0 180<|zT 46 0 187<|zT 49 0 194<|zT 54 0 201<|zT 56 0 208<|zT 58 0 215<|r
def c8 (P:Params)(r:zL):zL:=zT 60 0 222<|zT 65 0 229<|zT 67 0 236<|zT 69 0 243<|zT 75 0 250<|zT 77 0 257<|r
def c9 (P:Params)(r:zD):zD:=(E P "__name__" 165 (.str "tailrooms.table" 544))::(E P "__doc__" 166 .none)::(E P "__package__" 167 .none)::(E P "__loader__" 168 (.builtin "__main__.__loader__#opaque"))::(E P "__spec__" 169 .none)::(E P "__annotations__" 170 (.ref 6))::(E P "__builtins__" 171 (.ref 4))::(E P "__file__" 173 (.str "/claim/cut.py" 172))::r
def QN (P:Params)(r:zD):zD:=(E P "rows_behind" 491 (.ref 258))::(E P "cut_rows" 497 (.ref 263))::(E P "rows_of" 505 (.ref 270))::(E P "looked" 515 (.ref 277))::(E P "spread" 523 (.ref 282))::(E P "counts" 529 (.ref 287))::(E P "spill" 535 (.ref 292))::(E P "spill_spread" 536 (.ref 292))::r
def Xf (P:Params)(r:zD):zD:=(E P "longest" 542 (.ref 297))::(E P "longest_spread" 543 (.ref 297))::(E P "MOST_KEYS" 547 (.int 64 546))::(E P "rooms_for" 555 (.ref 304))::(E P "Table" 699 (.ref 417))::r
def c12 (P:Params)(r:zL):zL:=zT 79 0 262<|zT 81 0 269<|zT 83 0 276<|zT 91 0 281<|zT 96 0 286<|zT 98 0 291<|r
def WR (P:Params)(r:zL):zL:=zT 101 0 296<|zT 108 0 303<|zT 110 0 310<|r
def WD (P:Params)(r:zD):zD:=(E P "__module__" 563 (.str "tailrooms.table" 544))::(E P "__qualname__" 565 (.str "Table" 564))::(E P "__firstlineno__" 567 (.int 110 566))::(E P "__init__" 576 (.ref 318))::(E P "put" 588 (.ref 325))::(E P "drop" 599 (.ref 332))::(E P "find" 607 (.ref 339))::(E P "looks" 617 (.ref 346))::r
def W_ (P:Params)(r:zD):zD:=(E P "count" 624 (.ref 353))::(E P "rooms" 631 (.ref 360))::(E P "entries" 638 (.ref 367))::(E P "room" 644 (.ref 372))::(E P "spill" 651 (.ref 379))::(E P "longest" 658 (.ref 386))::(E P "twin" 665 (.ref 393))::(E P "ask_standing" 673 (.ref 400))::r
def Xa (P:Params)(r:zD):zD:=(E P "spread_keys" 681 (.ref 407))::(E P "room_counts" 688 (.ref 414))::(E P "__static_attributes__" 692 (.ref 415))::r
def WH (P:Params)(r:zL):zL:=zT 112 4 317<|zT 118 4 324<|zT 129 4 331<|zT 138 4 338<|zT 142 4 345<|zT 148 4 352<|r
def WJ (P:Params)(r:zL):zL:=zT 151 4 359<|zT 154 4 366<|zT 157 4 371<|zT 163 4 378<|zT 166 4 385<|zT 169 4 392<|r
def WT (P:Params)(r:zL):zL:=zT 172 4 399<|zT 177 4 406<|zT 180 4 413<|r
def XD (P:Params)(r:zD):zD:=(E P "__module__" 563 (.str "tailrooms.table" 544))::(E P "__firstlineno__" 567 (.int 110 566))::(E P "__init__" 576 (.ref 318))::(E P "put" 588 (.ref 325))::(E P "drop" 599 (.ref 332))::(E P "find" 607 (.ref 339))::(E P "looks" 617 (.ref 346))::(E P "count" 624 (.ref 353))::r
def XZ (P:Params)(r:zD):zD:=(E P "rooms" 631 (.ref 360))::(E P "entries" 638 (.ref 367))::(E P "room" 644 (.ref 372))::(E P "spill" 651 (.ref 379))::(E P "longest" 658 (.ref 386))::(E P "twin" 665 (.ref 393))::(E P "ask_standing" 673 (.ref 400))::(E P "spread_keys" 681 (.ref 407))::r
def WN (P:Params)(r:zD):zD:=(E P "room_counts" 688 (.ref 414))::(E P "__static_attributes__" 692 (.ref 415))::(E P "__dict__" 694 (.ref 418))::(E P "__weakref__" 696 (.ref 419))::(E P "__doc__" 697 .none)::r
def Wk (P:Params)(r:zD):zD:=(E P "__name__" 165 (.str "law_tailrooms_k37_refused_in_order" 700))::(E P "__doc__" 166 .none)::(E P "__package__" 167 .none)::(E P "__loader__" 168 (.builtin "__main__.__loader__#opaque"))::(E P "__spec__" 169 .none)::(E P "__annotations__" 170 (.ref 6))::(E P "__builtins__" 171 (.ref 4))::(E P "__file__" 173 (.str "/claim/cut.py" 172))::r
def Wo (P:Params)(r:zD):zD:=(E P "longest" 542 (.ref 297))::(E P "longest_spread" 543 (.ref 297))::(E P "MOST_KEYS" 547 (.int 64 546))::(E P "rooms_for" 555 (.ref 304))::(E P "Table" 699 (.ref 417))::(E P "_law_open" 707 (.ref 426))::(E P "_law_draw" 718 (.ref 433))::(E P "_law_far" 728 (.ref 440))::r
def Wt (P:Params)(r:zD):zD:=(E P "_law_power" 737 (.ref 447))::(E P "_law_key" 746 (.ref 454))::(E P "_law_keys" 757 (.ref 461))::(E P "_law_thing" 763 (.ref 466))::(E P "_law_state" 771 (.ref 473))::(E P "_law_places" 780 (.ref 480))::(E P "_law_odd_key" 789 (.ref 487))::(E P "_law_odd_thing" 801 (.ref 494))::r
def XM (P:Params)(r:zD):zD:=(E P "_law_kinds" 809 (.ref 501))::(E P "_law_done" 820 (.ref 508))::(E P "_law_alike" 828 (.ref 515))::(E P "_law_refused" 847 (.ref 522))::(E P "_law_gone" 863 (.ref 529))::(E P "law" 877 (.ref 536))::r
def WA (P:Params)(r:zL):zL:=zT 101 0 296<|zT 108 0 303<|zT 110 0 310<|zT 183 0 425<|zT 192 0 432<|zT 203 0 439<|r
def Wq (P:Params)(r:zL):zL:=zT 210 0 446<|zT 215 0 453<|zT 227 0 460<|zT 235 0 465<|zT 238 0 472<|zT 241 0 479<|r
def Xc (P:Params)(r:zL):zL:=zT 243 0 486<|zT 247 0 493<|zT 255 0 500<|zT 261 0 507<|zT 286 0 514<|zT 288 0 521<|r
def W7 (P:Params)(r:zL):zL:=zT 311 0 528<|zT 331 0 535<|r
def Ws (P:Params)(r:zD):zD:=(E P "__name__" 165 (.str "tailrooms.errors" 194))::(E P "__doc__" 166 .none)::(E P "__package__" 167 .none)::(E P "__loader__" 168 (.builtin "__main__.__loader__#opaque"))::(E P "__spec__" 169 .none)::(E P "__annotations__" 170 (.ref 6))::(E P "__builtins__" 171 (.ref 4))::(E P "__file__" 173 (.str "/claim/cut.py" 172))::r
def Xk (P:Params)(r:zL):zL:=zT 23 0 116<|r
def W4 (P:Params)(r:zD):zD:=(E P "longest" 542 (.ref 297))::(E P "longest_spread" 543 (.ref 297))::(E P "MOST_KEYS" 547 (.int 64 546))::(E P "rooms_for" 555 (.ref 304))::r
def Xr (P:Params)(r:zL):zL:=zT 101 0 296<|zT 108 0 303<|r
def WS (P:Params)(r:zD):zD:=(E P "__cached__" 174 .none)::(E P "_wall" 193 (.ref 21))::(E P "TailError" 213 (.ref 31))::(E P "NoSize" 238 (.ref 51))::(E P "NoKey" 263 (.ref 70))::(E P "NoThing" 288 (.ref 89))::(E P "NoRoom" 313 (.ref 108))::r
def Xi (P:Params)(r:zD):zD:=(E P "_law_kinds" 809 (.ref 501))::r
def WK (P:Params)(r:zL):zL:=zT 243 0 486<|zT 247 0 493<|zT 255 0 500<|r
def WM (P:Params)(r:zD):zD:=(E P "count" 624 (.ref 353))::(E P "rooms" 631 (.ref 360))::(E P "entries" 638 (.ref 367))::(E P "room" 644 (.ref 372))::(E P "spill" 651 (.ref 379))::(E P "longest" 658 (.ref 386))::r
def WO (P:Params)(r:zL):zL:=zT 151 4 359<|zT 154 4 366<|zT 157 4 371<|zT 163 4 378<|zT 166 4 385<|r
def W3 (P:Params)(r:zD):zD:=(E P "__name__" 165 (.str "tailrooms.asks" 393))::(E P "__doc__" 166 .none)::(E P "__package__" 167 .none)::(E P "__loader__" 168 (.builtin "__main__.__loader__#opaque"))::(E P "__spec__" 169 .none)::(E P "__annotations__" 170 (.ref 6))::(E P "__builtins__" 171 (.ref 4))::(E P "__file__" 173 (.str "/claim/cut.py" 172))::r
def WI (P:Params)(r:zD):zD:=(E P "Full" 363 (.ref 146))::(E P "is_whole" 372 (.ref 155))::(E P "is_key" 379 (.ref 162))::(E P "is_name" 385 (.ref 167))::(E P "is_size" 392 (.ref 174))::r
def dJ (a0:Str) (a1:Str) (a2:Stmt) (a3:Stmt) (P:Params):Obj:=⟨.none,none,(.func ⟨a0,a1,(aS a2),(.stmts (bS a2)),(sS a3),0,[],.none,.none,.none,.none,none,.none,.none,0⟩),#[]⟩
def OE (a0:Nat) (a1:Str) (a2:Int) (a3:Nat) (P:Params):Obj:=⟨(.type "dict"),none,(.dict #[(E P "__module__" a0 (.str "tailrooms.errors" 194)),(E P "__qualname__" (a0+2) (.str a1 (a0+1))),(E P "__firstlineno__" (a0+4) (.int a2 (a0+3))),(E P "__init__" (a0+12) (.ref a3)),(E P "__static_attributes__" (a0+14) (.ref (a3+1)))] 5),#[]⟩
def dN (a0:Str) (a1:Str) (a2:Stmt) (a3:Stmt) (a4:Str) (a5:Nat) (a6:Nat) (P:Params):Obj:=⟨(.type "function"),none,(.func ⟨a0,a1,(aS a2),(.stmts (bS a2)),(sS a3),3,[],.none,.none,.none,(.str a4 a5),none,(.ref a6),.none,0⟩),#[]⟩
def Rn (a0:Str) (a1:Nat) (a2:Str) (a3:Str) (a4:Str) (P:Params):Obj:=⟨(.type "tuple"),none,(.seq #[(.str a0 a1),(.str a2 (a1+1)),(.str a3 (a1+2)),(.str a4 (a1+3))] 0),#[]⟩
def Jc (a0:Nat) (a1:Nat) (a2:Str) (a3:Nat) (P:Params):Obj:=⟨(.type "frame"),none,.plain,#[(some (.ref a0)),(some (.ref 3)),(some (.ref a1)),none,(some (.str a2 a3)),none,(some (.ref 0))]⟩
def sM (a0:Str) (a1:Nat) (a2:Str) (P:Params):Obj:=⟨(.type "tuple"),none,(.seq #[(.str a0 a1),(.str a2 (a1+1))] 0),#[]⟩
def OB (a0:Str) (a1:Nat) (a2:Nat) (a3:Nat) (a4:Nat) (P:Params):Obj:=⟨(.type "type"),none,(.cls ⟨a0,[(.ref 31)],[(.ref a1),(.ref 31),(.type "ValueError"),(.type "Exception"),(.type "BaseException"),(.type "object")],a2,a0,.true,[],[],.false,none,.false⟩),#[(some (.ref a3)),none,(some (.str a0 a4)),(some (.str a0 (a4+8))),(some (.builtin "ValueError.__new__")),(some (.bool .true))]⟩
def Jr (a0:Str) (a1:Nat) (a2:Int) (a3:Nat) (a4:Int) (P:Params):Obj:=⟨(.type "code"),none,(.fields #[(.str a0 a1),(.str a0 (a1+1)),(.str "/claim/cut.py" (a1+2)),(.int a2 0),(.int 0 0),(.int 0 0),(.int 0 0),(.int 0 0),(.ref a3),(.bool .false),(.int 181 0),(.ref (a3+1)),.none,.none,.none,.none,(.int a4 0),(.int a2 0),(.str "/claim/cut.py" (a1+4))]),#[]⟩
def OC (a0:Int) (a1:Nat) (P:Params):Obj:=⟨.none,none,(.fields #[(.int a0 0),(.int 4 0),(.ref a1)]),#[]⟩
def MV (a0:Str) (a1:Nat) (a2:Str) (a3:Str) (P:Params):Obj:=⟨(.type "tuple"),none,(.seq #[(.str a0 a1),(.str a2 (a1+1)),(.str a3 (a1+2))] 0),#[]⟩
def Lx (a0:Nat) (P:Params):Obj:=⟨(.type "super"),none,(.fields #[(.ref a0),(.ref a0),(.ref a0)]),#[]⟩
def Lr (a0:Nat) (P:Params):Obj:=⟨(.type "builtin_function_or_method"),none,(.fields #[(.builtin "object.__init_subclass__"),(.ref a0)]),#[]⟩
def Q0 (a0:Str) (a1:Nat) (a2:Str) (a3:Str) (a4:Str) (a5:Str) (P:Params):Obj:=⟨(.type "tuple"),none,(.seq #[(.str a0 a1),(.str a2 (a1+1)),(.str a3 (a1+2)),(.str a4 (a1+3)),(.str a5 (a1+4))] 0),#[]⟩
def eU (a0:Str) (a1:Nat) (a2:Str) (a3:Int) (a4:Int) (a5:Nat) (a6:Int) (a7:Nat) (P:Params):Obj:=⟨(.type "code"),none,(.fields #[(.str a0 a1),(.str a2 (a1+1)),(.str "/claim/cut.py" (a1+2)),(.int a3 0),(.int a4 0),(.int 0 0),(.int 0 0),(.int 3 0),(.ref a5),(.bool .true),(.int 181 0),(.ref (a5+1)),.none,(.ref (a5+2)),(.ref (a5+3)),(.ref (a5+4)),(.int a6 0),(.int a3 0),(.str "/claim/cut.py" a7)]),#[]⟩
def JF (a0:Str) (a1:Nat) (a2:Str) (a3:Int) (a4:Int) (a5:Nat) (a6:Int) (P:Params):Obj:=⟨(.type "code"),none,(.fields #[(.str a0 a1),(.str a2 (a1+1)),(.str "/claim/cut.py" (a1+2)),(.int a3 0),(.int a4 0),(.int 0 0),(.int 0 0),(.int 3 0),(.ref a5),(.bool .true),(.int 181 0),(.ref (a5+1)),.none,.none,.none,(.ref (a5+2)),(.int a6 0),(.int a3 0),(.str "/claim/cut.py" (a1+4))]),#[]⟩
def Oi (a0:Nat) (a1:Int) (a2:Str) (a3:Nat) (a4:Nat) (a5:Str) (a6:Nat) (a7:Nat) (P:Params):Obj:=⟨(.type "dict"),none,(.dict #[(E P "__module__" a0 (.str "tailrooms.errors" 194)),(E P "__firstlineno__" (a0+4) (.int a1 (a0+3))),(E P a2 a3 (.ref a4)),(E P a5 (a3+2) (.ref a6)),(E P "__doc__" (a3+3) .none)] a7),#[]⟩
def tD (a0:Str) (a1:Nat) (P:Params):Obj:=⟨(.type "tuple"),none,(.seq #[(.str a0 a1)] 0),#[]⟩
noncomputable def o0:O:=fun P=>⟨(.type "dict"),none,(.dict (c0 P (c1 P (c2 P (c3 P (c4 P []))))).toArray 33),#[]⟩
def o1:O:=fun P=>⟨(.type "tuple"),none,(.seq #[] 0),#[]⟩
noncomputable def o2:O:=fun P=>⟨.none,none,(.fields (c5 P (c6 P (c7 P (c8 P [])))).toArray),#[]⟩
def o3:O:=Jr "<module>" 182 1 11 185
def o4:O:=Jc 13 3 "__main__" 164
def o5:O:=fun P=>⟨.none,none,(.fields #[]),#[]⟩
def o6:O:=tD "k" 190
def o7:O:=dJ "_wall" "_wall" (f 0) (f 0)
def o8:O:=eU "_wall" 187 "_wall" 1 1 15 191 192
def o9:O:=dN "_wall" "_wall" (f 0) (f 0) "__main__" 164 20
noncomputable def Gr:O:=fun P=>⟨(.type "tuple"),none,(.seq #[(.type "ValueError")] 0),#[]⟩
noncomputable def cY:O:=fun P=>⟨(.type "builtin_function_or_method"),none,(.fields #[(.builtin "type.__prepare__"),(.type "type")]),#[]⟩
noncomputable def Gk:O:=fun P=>⟨(.type "dict"),none,(.dict #[(E P "__module__" 203 (.str "tailrooms.errors" 194)),(E P "__qualname__" 205 (.str "TailError" 204)),(E P "__firstlineno__" 207 (.int 5 206)),(E P "__static_attributes__" 208 (.ref 29))] 4),#[]⟩
def GL:O:=Jr "TailError" 198 5 25 201
def Gj:O:=Jc 27 24 "tailrooms.errors" 194
noncomputable def GF:O:=Oi 203 5 "__static_attributes__" 208 29 "__weakref__" 32 3
noncomputable def LI:O:=fun P=>⟨(.type "type"),none,(.cls ⟨"TailError",[(.type "ValueError")],[(.ref 31),(.type "ValueError"),(.type "Exception"),(.type "BaseException"),(.type "object")],30,"TailError",.true,[],[(.ref 51),(.ref 70),(.ref 89),(.ref 108),(.ref 127),(.ref 146)],.false,none,.false⟩),#[(some (.ref 22)),none,(some (.str "TailError" 196)),(some (.str "TailError" 204)),(some (.builtin "ValueError.__new__")),(some (.bool .true))]⟩
noncomputable def G1:O:=fun P=>⟨(.type "getset_descriptor"),none,(.fields #[(.str "__weakref__" 209),(.ref 31),(.builtin "ExceptionGroup.__weakref__"),.none]),#[]⟩
def Gi:O:=Lx 31
def F0:O:=Lr 31
noncomputable def dZ:O:=fun P=>⟨(.type "tuple"),none,(.seq #[(.ref 31)] 0),#[]⟩
def F5:O:=OE 221 "NoSize" 7 48
def G3:O:=OC 9 47
def Gm:O:=Jr "NoSize" 216 7 38 219
def Gd:O:=Jc 40 37 "tailrooms.errors" 194
def GB:O:=sM "self" 229 "thing"
def GO:O:=dJ "__init__" "NoSize.__init__" (m 3 0) (m 3 0)
def G2:O:=eU "__init__" 226 "NoSize.__init__" 9 2 42 231 232
noncomputable def G5:O:=dN "__init__" "NoSize.__init__" (m 3 0) (m 3 0) "tailrooms.errors" 194 47
def Ge:O:=tD "thing" 234
noncomputable def GQ:O:=Oi 221 7 "__init__" 233 48 "__static_attributes__" 49 2
def F4:O:=OB "NoSize" 51 50 35 214
def Gf:O:=Lx 51
def F9:O:=Lr 51
def F7:O:=OE 246 "NoKey" 11 67
def Gu:O:=OC 13 66
def FZ:O:=Jr "NoKey" 241 11 57 244
def Gv:O:=Jc 59 56 "tailrooms.errors" 194
def GY:O:=sM "self" 254 "key"
def GU:O:=dJ "__init__" "NoKey.__init__" (m 4 0) (m 4 0)
def F1:O:=eU "__init__" 251 "NoKey.__init__" 13 2 61 256 257
noncomputable def GJ:O:=dN "__init__" "NoKey.__init__" (m 4 0) (m 4 0) "tailrooms.errors" 194 66
def GS:O:=tD "key" 259
noncomputable def Gz:O:=Oi 246 11 "__init__" 258 67 "__static_attributes__" 68 2
def Gy:O:=OB "NoKey" 70 69 54 239
def Gq:O:=Lx 70
def Gh:O:=Lr 70
def GC:O:=OE 271 "NoThing" 15 86
def G7:O:=OC 17 85
def Gw:O:=Jr "NoThing" 266 15 76 269
def F3:O:=Jc 78 75 "tailrooms.errors" 194
def Gn:O:=sM "self" 279 "thing"
def F6:O:=dJ "__init__" "NoThing.__init__" (m 5 0) (m 3 0)
noncomputable def F2:O:=eU "__init__" 276 "NoThing.__init__" 17 2 80 281 282
noncomputable def GA:O:=dN "__init__" "NoThing.__init__" (m 5 0) (m 3 0) "tailrooms.errors" 194 85
def GP:O:=tD "thing" 284
noncomputable def Gb:O:=Oi 271 15 "__init__" 283 86 "__static_attributes__" 87 2
def F8:O:=OB "NoThing" 89 88 73 264
def Gp:O:=Lx 89
def G0:O:=Lr 89
def G6:O:=OE 296 "NoRoom" 19 105
def GW:O:=OC 21 104
def GG:O:=Jr "NoRoom" 291 19 95 294
def GH:O:=Jc 97 94 "tailrooms.errors" 194
def GI:O:=sM "self" 304 "number"
def GZ:O:=dJ "__init__" "NoRoom.__init__" (m 6 0) (m 6 0)
def GN:O:=eU "__init__" 301 "NoRoom.__init__" 21 2 99 306 307
noncomputable def GR:O:=dN "__init__" "NoRoom.__init__" (m 6 0) (m 6 0) "tailrooms.errors" 194 104
def GX:O:=tD "number" 309
noncomputable def Gg:O:=Oi 296 19 "__init__" 308 105 "__static_attributes__" 106 2
def Gx:O:=OB "NoRoom" 108 107 92 289
def Gs:O:=Lx 108
def GV:O:=Lr 108
def IT:O:=OE 321 "Lacking" 23 124
def KG:O:=OC 25 123
def Jx:O:=Jr "Lacking" 316 23 114 319
def JZ:O:=Jc 116 113 "tailrooms.errors" 194
def IA:O:=sM "self" 329 "key"
def Kz:O:=dJ "__init__" "Lacking.__init__" (m 7 0) (m 4 0)
noncomputable def ID:O:=eU "__init__" 326 "Lacking.__init__" 25 2 118 331 332
noncomputable def JL:O:=dN "__init__" "Lacking.__init__" (m 7 0) (m 4 0) "tailrooms.errors" 194 123
def JT:O:=tD "key" 334
noncomputable def JD:O:=Oi 321 23 "__init__" 333 124 "__static_attributes__" 125 2
def Je:O:=OB "Lacking" 127 126 111 314
def Ia:O:=Lx 127
def Jt:O:=Lr 127
def Lq:O:=OE 346 "Full" 27 143
def K9:O:=OC 29 142
def Ly:O:=Jr "Full" 341 27 133 344
def La:O:=Jc 135 132 "tailrooms.errors" 194
def KU:O:=sM "self" 354 "many"
def K3:O:=dJ "__init__" "Full.__init__" (m 8 0) (m 8 0)
def Li:O:=eU "__init__" 351 "Full.__init__" 29 2 137 356 357
noncomputable def K5:O:=dN "__init__" "Full.__init__" (m 8 0) (m 8 0) "tailrooms.errors" 194 142
def LA:O:=tD "many" 359
noncomputable def LC:O:=Oi 346 27 "__init__" 358 143 "__static_attributes__" 144 2
def KW:O:=OB "Full" 146 145 130 339
def KQ:O:=Lx 146
def LO:O:=Lr 146
def KS:O:=tD "thing" 369
def wW:O:=dJ "is_whole" "is_whole" (f 10) (f 10)
def xX:O:=eU "is_whole" 366 "is_whole" 32 1 149 370 371
noncomputable def w4:O:=dN "is_whole" "is_whole" (f 10) (f 10) "tailrooms.kinds" 364 154
def xh:O:=tD "thing" 376
def xJ:O:=dJ "is_key" "is_key" (f 11) (f 11)
def xE:O:=eU "is_key" 373 "is_key" 34 1 156 377 378
noncomputable def x8:O:=dN "is_key" "is_key" (f 11) (f 11) "tailrooms.kinds" 364 161
def xR:O:=dJ "is_name" "is_name" (f 12) (f 12)
def wV:O:=JF "is_name" 380 "is_name" 36 1 163 383
noncomputable def xm:O:=dN "is_name" "is_name" (f 12) (f 12) "tailrooms.kinds" 364 166
def wL:O:=tD "thing" 389
def wu:O:=dJ "is_size" "is_size" (f 13) (f 11)
def wU:O:=eU "is_size" 386 "is_size" 38 1 168 390 391
noncomputable def wm:O:=dN "is_size" "is_size" (f 13) (f 11) "tailrooms.kinds" 364 173
def zf:O:=sM "wide" 398 "fill"
def yL:O:=dJ "ask_sizes" "ask_sizes" (f 15) (f 15)
def Av:O:=eU "ask_sizes" 395 "ask_sizes" 41 2 175 400 401
noncomputable def yR:O:=dN "ask_sizes" "ask_sizes" (f 15) (f 15) "tailrooms.asks" 393 180
def yU:O:=tD "key" 406
def Aa:O:=dJ "ask_key" "ask_key" (f 16) (f 16)
def yt:O:=eU "ask_key" 403 "ask_key" 46 1 182 407 408
noncomputable def yJ:O:=dN "ask_key" "ask_key" (f 16) (f 16) "tailrooms.asks" 393 187
def zY:O:=sM "key" 413 "thing"
def zq:O:=dJ "ask_entry" "ask_entry" (f 17) (f 17)
def zS:O:=eU "ask_entry" 410 "ask_entry" 49 2 189 415 416
noncomputable def yl:O:=dN "ask_entry" "ask_entry" (f 17) (f 17) "tailrooms.asks" 393 194
def y_:O:=sM "key" 423 "many"
def zP:O:=dJ "last_bits" "last_bits" (f 19) (f 19)
def yV:O:=eU "last_bits" 420 "last_bits" 54 2 196 425 426
noncomputable def Aj:O:=dN "last_bits" "last_bits" (f 19) (f 19) "tailrooms.bits" 418 201
def yw:O:=tD "rooms" 431
def yy:O:=dJ "level" "level" (f 20) (f 20)
def z8:O:=eU "level" 428 "level" 56 1 203 432 433
noncomputable def An:O:=dN "level" "level" (f 20) (f 20) "tailrooms.bits" 418 208
def yN:O:=tD "rooms" 438
def zm:O:=dJ "turn" "turn" (f 21) (f 21)
def yS:O:=eU "turn" 435 "turn" 58 1 210 439 440
noncomputable def yz:O:=dN "turn" "turn" (f 21) (f 21) "tailrooms.bits" 418 215
def zy:O:=MV "room" 445 "rooms" "deep"
def Ao:O:=dJ "bits_for" "bits_for" (f 22) (f 22)
def Ai:O:=eU "bits_for" 442 "bits_for" 60 2 217 448 449
noncomputable def yP:O:=dN "bits_for" "bits_for" (f 22) (f 22) "tailrooms.bits" 418 222
def yX:O:=sM "key" 454 "rooms"
def zZ:O:=dJ "room_of" "room_of" (f 23) (f 23)
def yY:O:=eU "room_of" 451 "room_of" 65 2 224 456 457
noncomputable def AB:O:=dN "room_of" "room_of" (f 23) (f 23) "tailrooms.bits" 418 229
def yo:O:=tD "rooms" 462
def z4:O:=dJ "split_of" "split_of" (f 24) (f 24)
def AA:O:=eU "split_of" 459 "split_of" 67 1 231 463 464
noncomputable def yF:O:=dN "split_of" "split_of" (f 24) (f 24) "tailrooms.bits" 418 236
def Az:O:=sM "rooms" 469 "room"
def Ag:O:=dJ "joined_of" "joined_of" (f 25) (f 25)
def zF:O:=eU "joined_of" 466 "joined_of" 69 1 238 471 472
noncomputable def Al:O:=dN "joined_of" "joined_of" (f 25) (f 25) "tailrooms.bits" 418 243
def zE:O:=sM "many" 479 "wide"
def yu:O:=dJ "rows_for" "rows_for" (f 27) (f 27)
def yG:O:=eU "rows_for" 476 "rows_for" 75 2 245 481 482
noncomputable def yZ:O:=dN "rows_for" "rows_for" (f 27) (f 27) "tailrooms.rows" 474 250
def zp:O:=sM "many" 487 "wide"
def zQ:O:=dJ "rows_behind" "rows_behind" (f 28) (f 28)
def Ay:O:=eU "rows_behind" 484 "rows_behind" 77 2 252 489 490
noncomputable def yW:O:=dN "rows_behind" "rows_behind" (f 28) (f 28) "tailrooms.rows" 474 257
noncomputable def TX:O:=fun P=>⟨(.type "dict"),none,(.dict (c9 P (c1 P (c2 P (c3 P (QN P (Xf P [])))))).toArray 45),#[]⟩
noncomputable def Qs:O:=fun P=>⟨.none,none,(.fields (c5 P (c6 P (c7 P (c8 P (c12 P (WR P [])))))).toArray),#[]⟩
def C4:O:=dJ "cut_rows" "cut_rows" (f 29) (f 29)
def CV:O:=JF "cut_rows" 492 "cut_rows" 79 2 259 495
noncomputable def BJ:O:=dN "cut_rows" "cut_rows" (f 29) (f 29) "tailrooms.rows" 474 262
def C3:O:=sM "keys" 501 "wide"
def Bh:O:=dJ "rows_of" "rows_of" (f 30) (f 30)
def BC:O:=eU "rows_of" 498 "rows_of" 81 2 264 503 504
noncomputable def B4:O:=dN "rows_of" "rows_of" (f 30) (f 30) "tailrooms.rows" 474 269
def CN:O:=Rn "rows" 509 "key" "looks" "row"
def C2:O:=dJ "looked" "looked" (f 31) (f 31)
def CZ:O:=eU "looked" 506 "looked" 83 2 271 513 514
noncomputable def CS:O:=dN "looked" "looked" (f 31) (f 31) "tailrooms.rows" 474 276
def B6:O:=dJ "spread" "spread" (f 33) (f 33)
def Bo:O:=JF "spread" 518 "spread" 91 2 278 521
noncomputable def BS:O:=dN "spread" "spread" (f 33) (f 33) "tailrooms.spread" 516 281
def Cu:O:=dJ "counts" "counts" (f 34) (f 34)
def C0:O:=JF "counts" 524 "counts" 96 2 283 527
noncomputable def BV:O:=dN "counts" "counts" (f 34) (f 34) "tailrooms.spread" 516 286
def Cv:O:=dJ "spill" "spill" (f 35) (f 35)
def CH:O:=JF "spill" 530 "spill" 98 2 288 533
noncomputable def Ct:O:=dN "spill" "spill" (f 35) (f 35) "tailrooms.spread" 516 291
def Br:O:=dJ "longest" "longest" (f 37) (f 37)
def BL:O:=JF "longest" 537 "longest" 101 2 293 540
noncomputable def CQ:O:=dN "longest" "longest" (f 37) (f 37) "tailrooms.spread" 516 296
def Ce:O:=sM "count" 551 "fill"
def Bx:O:=dJ "rooms_for" "rooms_for" (f 41) (f 41)
def BO:O:=eU "rooms_for" 548 "rooms_for" 108 2 298 553 554
noncomputable def CB:O:=dN "rooms_for" "rooms_for" (f 41) (f 41) "tailrooms.table" 544 303
noncomputable def Ji:O:=fun P=>⟨(.type "dict"),none,(.dict (WD P (W_ P (Xa P []))).toArray 19),#[]⟩
noncomputable def Jk:O:=fun P=>⟨.none,none,(.fields (WH P (WJ P (WT P []))).toArray),#[]⟩
def EZ:O:=Jr "Table" 558 110 308 561
def DA:O:=Jc 310 307 "tailrooms.table" 544
def Fz:O:=MV "self" 571 "wide" "fill"
def E9:O:=dJ "__init__" "Table.__init__" (m 42 0) (m 42 0)
def ET:O:=eU "__init__" 568 "Table.__init__" 112 3 312 574 575
noncomputable def EG:O:=dN "__init__" "Table.__init__" (m 42 0) (m 42 0) "tailrooms.table" 544 317
noncomputable def DB:O:=fun P=>⟨(.type "tuple"),none,(.seq #[(.str "self" 580),(.str "key" 581),(.str "thing" 582),(.str "ahead" 583),(.str "room" 584),(.str "new" 585)] 0),#[]⟩
def DE:O:=dJ "put" "Table.put" (m 42 1) (m 42 1)
def Eu:O:=eU "put" 577 "Table.put" 118 3 319 586 587
noncomputable def Eh:O:=dN "put" "Table.put" (m 42 1) (m 42 1) "tailrooms.table" 544 324
def Ds:O:=Q0 "self" 592 "key" "ahead" "room" "into"
def D3:O:=dJ "drop" "Table.drop" (m 42 2) (m 42 2)
def EH:O:=eU "drop" 589 "Table.drop" 129 2 326 597 598
noncomputable def D5:O:=dN "drop" "Table.drop" (m 42 2) (m 42 2) "tailrooms.table" 544 331
def D4:O:=sM "self" 603 "key"
def FA:O:=dJ "find" "Table.find" (m 42 3) (m 4 0)
def DC:O:=eU "find" 600 "Table.find" 138 2 333 605 606
noncomputable def EN:O:=dN "find" "Table.find" (m 42 3) (m 4 0) "tailrooms.table" 544 338
def FH:O:=Rn "self" 611 "key" "rooms" "own"
def FL:O:=dJ "looks" "Table.looks" (m 42 4) (m 42 4)
def Fq:O:=eU "looks" 608 "Table.looks" 142 2 340 615 616
noncomputable def EM:O:=dN "looks" "Table.looks" (m 42 4) (m 42 4) "tailrooms.table" 544 345
def Eb:O:=tD "self" 621
def EE:O:=dJ "count" "Table.count" (m 42 5) (m 42 5)
def FT:O:=eU "count" 618 "Table.count" 148 1 347 622 623
noncomputable def FE:O:=dN "count" "Table.count" (m 42 5) (m 42 5) "tailrooms.table" 544 352
def D_:O:=tD "self" 628
def Fe:O:=dJ "rooms" "Table.rooms" (m 42 6) (m 42 6)
def Es:O:=eU "rooms" 625 "Table.rooms" 151 1 354 629 630
noncomputable def Ey:O:=dN "rooms" "Table.rooms" (m 42 6) (m 42 6) "tailrooms.table" 544 359
def FY:O:=tD "self" 635
def FF:O:=dJ "entries" "Table.entries" (m 42 7) (m 42 7)
def Ez:O:=eU "entries" 632 "Table.entries" 154 1 361 636 637
noncomputable def Dy:O:=dN "entries" "Table.entries" (m 42 7) (m 42 7) "tailrooms.table" 544 366
def FJ:O:=dJ "room" "Table.room" (m 42 8) (m 42 8)
def Fd:O:=JF "room" 639 "Table.room" 157 2 368 642
noncomputable def Dm:O:=dN "room" "Table.room" (m 42 8) (m 42 8) "tailrooms.table" 544 371
def DO:O:=tD "self" 648
def D8:O:=dJ "spill" "Table.spill" (m 42 9) (m 42 9)
def EK:O:=eU "spill" 645 "Table.spill" 163 1 373 649 650
noncomputable def EB:O:=dN "spill" "Table.spill" (m 42 9) (m 42 9) "tailrooms.table" 544 378
def Et:O:=tD "self" 655
def Dj:O:=dJ "longest" "Table.longest" (m 42 10) (m 42 10)
def Eg:O:=eU "longest" 652 "Table.longest" 166 1 380 656 657
noncomputable def DR:O:=dN "longest" "Table.longest" (m 42 10) (m 42 10) "tailrooms.table" 544 385
def Ip:O:=tD "self" 662
def Kf:O:=dJ "twin" "Table.twin" (m 42 11) (m 42 11)
def JE:O:=eU "twin" 659 "Table.twin" 169 1 387 663 664
noncomputable def Kr:O:=dN "twin" "Table.twin" (m 42 11) (m 42 11) "tailrooms.table" 544 392
def IU:O:=sM "self" 669 "key"
noncomputable def IZ:O:=dJ "ask_standing" "Table.ask_standing" (m 42 12) (m 42 12)
noncomputable def JA:O:=eU "ask_standing" 666 "Table.ask_standing" 172 2 394 671 672
noncomputable def JW:O:=dN "ask_standing" "Table.ask_standing" (m 42 12) (m 42 12) "tailrooms.table" 544 399
def Ku:O:=sM "self" 677 "rooms"
noncomputable def Jd:O:=dJ "spread_keys" "Table.spread_keys" (m 42 13) (m 42 13)
noncomputable def Kx:O:=eU "spread_keys" 674 "Table.spread_keys" 177 2 401 679 680
noncomputable def Il:O:=dN "spread_keys" "Table.spread_keys" (m 42 13) (m 42 13) "tailrooms.table" 544 406
def Ic:O:=tD "self" 685
noncomputable def Ky:O:=dJ "room_counts" "Table.room_counts" (m 42 14) (m 42 14)
noncomputable def Ko:O:=eU "room_counts" 682 "Table.room_counts" 180 1 408 686 687
noncomputable def Jo:O:=dN "room_counts" "Table.room_counts" (m 42 14) (m 42 14) "tailrooms.table" 544 413
def JS:O:=MV "fill" 689 "held" "wide"
noncomputable def Ij:O:=fun P=>⟨(.type "dict"),none,(.dict (XD P (XZ P (WN P []))).toArray 4),#[]⟩
noncomputable def II:O:=fun P=>⟨(.type "type"),none,(.cls ⟨"Table",[(.type "object")],[(.ref 417),(.type "object")],416,"Table",.true,[],[],.false,none,.false⟩),#[none,none,(some (.str "Table" 556)),(some (.str "Table" 564)),(some (.builtin "object.__new__")),(some (.bool .true))]⟩
noncomputable def Ie:O:=fun P=>⟨(.type "getset_descriptor"),none,(.fields #[(.str "__dict__" 693),(.ref 417),(.builtin "function.__dict__"),(.builtin "function.__dict__#set")]),#[]⟩
noncomputable def IG:O:=fun P=>⟨(.type "getset_descriptor"),none,(.fields #[(.str "__weakref__" 695),(.ref 417),(.builtin "ExceptionGroup.__weakref__"),.none]),#[]⟩
def JB:O:=Lx 417
def Hv:O:=Lr 417
noncomputable def OO:O:=fun P=>⟨(.type "dict"),none,(.dict (Wk P (c1 P (c2 P (c3 P (QN P (Wo P (Wt P (XM P [])))))))).toArray 62),#[]⟩
noncomputable def Po:O:=fun P=>⟨.none,none,(.fields (c5 P (c6 P (c7 P (c8 P (c12 P (WA P (Wq P (Xc P (W7 P []))))))))).toArray),#[]⟩
def Na:O:=dJ "_law_open" "_law_open" (f 44) (f 44)
def MC:O:=JF "_law_open" 702 "_law_open" 183 2 422 705
noncomputable def Oj:O:=dN "_law_open" "_law_open" (f 44) (f 44) "law_tailrooms_k37_refused_in_order" 700 425
noncomputable def L3:O:=Q0 "_law_hand" 711 "_law_many" "_law_got" "_law_k" "_law_number"
def Om:O:=dJ "_law_draw" "_law_draw" (f 45) (f 45)
def Mh:O:=eU "_law_draw" 708 "_law_draw" 192 2 427 716 717
noncomputable def Od:O:=dN "_law_draw" "_law_draw" (f 45) (f 45) "law_tailrooms_k37_refused_in_order" 700 432
noncomputable def M_:O:=Rn "_law_hand" 722 "_law_many" "_law_number" "_law_k"
def M9:O:=dJ "_law_far" "_law_far" (f 46) (f 46)
def L5:O:=eU "_law_far" 719 "_law_far" 203 2 434 726 727
noncomputable def MW:O:=dN "_law_far" "_law_far" (f 46) (f 46) "law_tailrooms_k37_refused_in_order" 700 439
def Nv:O:=MV "_law_many" 732 "_law_number" "_law_k"
def LR:O:=dJ "_law_power" "_law_power" (f 47) (f 47)
def Mm:O:=eU "_law_power" 729 "_law_power" 210 1 441 735 736
noncomputable def L8:O:=dN "_law_power" "_law_power" (f 47) (f 47) "law_tailrooms_k37_refused_in_order" 700 446
def MJ:O:=MV "_law_hand" 741 "_law_way" "_law_low"
def MP:O:=dJ "_law_key" "_law_key" (f 48) (f 48)
def Mv:O:=eU "_law_key" 738 "_law_key" 215 1 448 744 745
noncomputable def Oa:O:=dN "_law_key" "_law_key" (f 48) (f 48) "law_tailrooms_k37_refused_in_order" 700 453
noncomputable def Oz:O:=Q0 "_law_hand" 750 "_law_many" "_law_keys_here" "_law_k" "_law_key_here"
def Nj:O:=dJ "_law_keys" "_law_keys" (f 49) (f 49)
def L7:O:=eU "_law_keys" 747 "_law_keys" 227 2 455 755 756
noncomputable def NW:O:=dN "_law_keys" "_law_keys" (f 49) (f 49) "law_tailrooms_k37_refused_in_order" 700 460
def Nu:O:=dJ "_law_thing" "_law_thing" (f 50) (f 50)
def NY:O:=JF "_law_thing" 758 "_law_thing" 235 1 462 761
noncomputable def NP:O:=dN "_law_thing" "_law_thing" (f 50) (f 50) "law_tailrooms_k37_refused_in_order" 700 465
def NL:O:=sM "_law_table" 767 "_law_rooms"
def ND:O:=dJ "_law_state" "_law_state" (f 51) (f 51)
def MB:O:=eU "_law_state" 764 "_law_state" 238 1 467 769 770
noncomputable def Ni:O:=dN "_law_state" "_law_state" (f 51) (f 51) "law_tailrooms_k37_refused_in_order" 700 472
def LX:O:=MV "_law_script" 775 "_law_least" "_law_most"
def Nh:O:=dJ "_law_places" "_law_places" (f 52) (f 52)
def Mb:O:=eU "_law_places" 772 "_law_places" 241 3 474 778 779
noncomputable def Ms:O:=dN "_law_places" "_law_places" (f 52) (f 52) "law_tailrooms_k37_refused_in_order" 700 479
def Ma:O:=MV "_law_hand" 784 "_law_far_here" "_law_some"
def L0:O:=dJ "_law_odd_key" "_law_odd_key" (f 53) (f 53)
noncomputable def Ng:O:=eU "_law_odd_key" 781 "_law_odd_key" 243 1 481 787 788
noncomputable def M8:O:=dN "_law_odd_key" "_law_odd_key" (f 53) (f 53) "law_tailrooms_k37_refused_in_order" 700 486
noncomputable def Mr:O:=fun P=>⟨(.type "tuple"),none,(.seq #[(.str "_law_hand" 793),(.str "_law_thing_here" 794),(.str "_law_way" 795),(.str "_law_at" 796),(.str "_law_signs" 797),(.str "_law_sign" 798)] 0),#[]⟩
def MS:O:=dJ "_law_odd_thing" "_law_odd_thing" (f 54) (f 54)
noncomputable def N1:O:=eU "_law_odd_thing" 790 "_law_odd_thing" 247 2 488 799 800
noncomputable def LW:O:=dN "_law_odd_thing" "_law_odd_thing" (f 54) (f 54) "law_tailrooms_k37_refused_in_order" 700 493
def Mn:O:=sM "_law_e" 805 "_law_kinds_here"
def Nm:O:=dJ "_law_kinds" "_law_kinds" (f 55) (f 55)
def NG:O:=eU "_law_kinds" 802 "_law_kinds" 255 1 495 807 808
noncomputable def MH:O:=dN "_law_kinds" "_law_kinds" (f 55) (f 55) "law_tailrooms_k37_refused_in_order" 700 500
noncomputable def OR:O:=Q0 "_law_table" 813 "_law_way" "_law_key_here" "_law_thing_here" "_law_e"
def O3:O:=dJ "_law_done" "_law_done" (f 56) (f 56)
def PJ:O:=eU "_law_done" 810 "_law_done" 261 4 502 818 819
noncomputable def P_:O:=dN "_law_done" "_law_done" (f 56) (f 56) "law_tailrooms_k37_refused_in_order" 700 507
def Qn:O:=sM "_law_got" 824 "_law_due"
def Pz:O:=dJ "_law_alike" "_law_alike" (f 57) (f 57)
def Pb:O:=eU "_law_alike" 821 "_law_alike" 286 2 509 826 827
noncomputable def PK:O:=dN "_law_alike" "_law_alike" (f 57) (f 57) "law_tailrooms_k37_refused_in_order" 700 514
noncomputable def O4:O:=fun P=>⟨(.type "tuple"),none,(.seq #[(.str "_law_table" 832),(.str "_law_hand" 833),(.str "_law_model" 834),(.str "_law_thing_here" 835),(.str "_law_kept" 836),(.str "_law_odd" 837),(.str "_law_way" 838),(.str "_law_bad" 839),(.str "_law_key_here" 840),(.str "_law_asks" 841),(.str "_law_some" 842),(.str "_law_number" 843),(.str "_law_one" 844)] 0),#[]⟩
def Qd:O:=dJ "_law_refused" "_law_refused" (f 58) (f 58)
noncomputable def Py:O:=eU "_law_refused" 829 "_law_refused" 288 4 516 845 846
noncomputable def P6:O:=dN "_law_refused" "_law_refused" (f 58) (f 58) "law_tailrooms_k37_refused_in_order" 700 521
noncomputable def Pd:O:=fun P=>⟨(.type "tuple"),none,(.seq #[(.str "_law_table" 851),(.str "_law_hand" 852),(.str "_law_model" 853),(.str "_law_thing_here" 854),(.str "_law_some" 855),(.str "_law_key_here" 856),(.str "_law_rooms" 857),(.str "_law_other" 858),(.str "_law_kept" 859),(.str "_law_way" 860)] 0),#[]⟩
def O7:O:=dJ "_law_gone" "_law_gone" (f 59) (f 59)
def PL:O:=eU "_law_gone" 848 "_law_gone" 311 4 523 861 862
noncomputable def OJ:O:=dN "_law_gone" "_law_gone" (f 59) (f 59) "law_tailrooms_k37_refused_in_order" 700 528
noncomputable def PX:O:=fun P=>⟨(.type "tuple"),none,(.seq #[(.str "_law_script" 867),(.str "_law_hand" 868),(.str "_law_crowd" 869),(.str "_law_table" 870),(.str "_law_model" 871),(.str "_law_key_here" 872),(.str "_law_place" 873),(.str "_law_thing_here" 874)] 0),#[]⟩
def Pq:O:=dJ "law" "law" (f 60) (f 60)
def Qv:O:=eU "law" 864 "law" 331 1 530 875 876
noncomputable def OV:O:=dN "law" "law" (f 60) (f 60) "law_tailrooms_k37_refused_in_order" 700 535
noncomputable def Rc:O:=fun P=>⟨(.type "dict"),none,(.dict (Ws P (c1 P [])).toArray 16),#[]⟩
noncomputable def S8:O:=fun P=>⟨.none,none,(.fields (c5 P (Xk P [])).toArray),#[]⟩
noncomputable def S9:O:=fun P=>⟨(.type "type"),none,(.cls ⟨"TailError",[(.type "ValueError")],[(.ref 31),(.type "ValueError"),(.type "Exception"),(.type "BaseException"),(.type "object")],30,"TailError",.true,[],[(.ref 51),(.ref 70),(.ref 89),(.ref 108),(.ref 127)],.false,none,.false⟩),#[(some (.ref 22)),none,(some (.str "TailError" 196)),(some (.str "TailError" 204)),(some (.builtin "ValueError.__new__")),(some (.bool .true))]⟩
noncomputable def Qg:O:=fun P=>⟨(.type "dict"),none,(.dict (c9 P (c1 P (c2 P (c3 P (QN P (W4 P [])))))).toArray 44),#[]⟩
noncomputable def U5:O:=fun P=>⟨.none,none,(.fields (c5 P (c6 P (c7 P (c8 P (c12 P (Xr P [])))))).toArray),#[]⟩
noncomputable def TZ:O:=fun P=>⟨(.type "dict"),none,(.dict (Ws P (WS P [])).toArray 15),#[]⟩
noncomputable def VQ:O:=fun P=>⟨.none,none,(.fields #[(.int 1 0),(.int 0 0),(.ref 20),(.int 5 0),(.int 0 0),(.ref 27),(.int 7 0),(.int 0 0),(.ref 40),(.int 11 0),(.int 0 0),(.ref 59),(.int 15 0),(.int 0 0),(.ref 78),(.int 19 0),(.int 0 0),(.ref 97)]),#[]⟩
noncomputable def Ul:O:=fun P=>⟨(.type "type"),none,(.cls ⟨"TailError",[(.type "ValueError")],[(.ref 31),(.type "ValueError"),(.type "Exception"),(.type "BaseException"),(.type "object")],30,"TailError",.true,[],[(.ref 51),(.ref 70),(.ref 89),(.ref 108)],.false,none,.false⟩),#[(some (.ref 22)),none,(some (.str "TailError" 196)),(some (.str "TailError" 204)),(some (.builtin "ValueError.__new__")),(some (.bool .true))]⟩
noncomputable def T9:O:=fun P=>⟨(.type "dict"),none,(.dict (Wk P (c1 P (c2 P (c3 P (QN P (Wo P (Wt P (Xi P [])))))))).toArray 57),#[]⟩
noncomputable def Tq:O:=fun P=>⟨.none,none,(.fields (c5 P (c6 P (c7 P (c8 P (c12 P (WA P (Wq P (WK P [])))))))).toArray),#[]⟩
noncomputable def Wb:O:=fun P=>⟨(.type "dict"),none,(.dict (WD P (WM P [])).toArray 14),#[]⟩
noncomputable def S_:O:=fun P=>⟨.none,none,(.fields (WH P (WO P [])).toArray),#[]⟩
noncomputable def Vy:O:=fun P=>⟨(.type "dict"),none,(.dict (W3 P (c1 P (WI P []))).toArray 21),#[]⟩
noncomputable def TJ:O:=fun P=>⟨.none,none,(.fields (c5 P (c6 P [])).toArray),#[]⟩
def Xb:B:=n LI (n GY (n Je (w o1) u) (w zY)) (n o1 (w o1) (w yP))
def Q3:B:=n G2 (n F3 (w K5) (w yy)) (n dZ (w o1) (w o5))
def W6:B:=n G3 (n Gq (w Ly) (w o1)) (n GZ (w xm) (w o1))
def Xq:B:=n cY (n GP (w KS) (w yS)) (n o5 (w o5) (w zE))
def XO:B:=n dZ (n GJ (w cY) (w yl)) (n o1 (w o1) (w o1))
def XF:B:=n F4 (n o1 (w KQ) (w o5)) (n KG (w yL) (w zF))
def XY:B:=n o5 (n GC (w KU) (w o1)) (n Gg (w o1) (w z4))
def Xy:B:=n FZ (n G0 (w w4) (w zy)) (n ID (w yt) (w yZ))
def Xw:B:=n Gi (n GU (n Jt (w Ay) u) (w zq)) (n GG (w xE) (w o5))
def XN:B:=n Ge (n o5 (w LC) (w An)) (n IT (w zf) (w o1))
def WV:B:=n Gd (n dZ (w o1) (w yV)) (n GR (w o5) (w yo))
def W9:B:=n o1 (n F8 (w wW) (w o1)) (n o1 (w o1) (w yu))
def Xv:B:=n F5 (n Gz (w o1) (w o5)) (n GI (w xR) (w yY))
def XU:B:=n F9 (n F2 (w o1) (w o1)) (n JZ (w yR) (w o1))
def XW:B:=n o1 (n G7 (w K3) (w yw)) (n Gs (w wU) (w yF))
def XX:B:=n o1 (n cY (w o5) (w Ao)) (n JT (w o1) (w o5))
def W8:B:=n G1 (n o1 (n Ia (w zQ) u) (w o1)) (n GW (w xJ) (w o1))
def W5:B:=n G5 (n o1 (w LA) (w z8)) (n cY (w o5) (w Az))
def Xu:B:=n Gm (n Gh (w La) (w zP)) (n GN (w o1) (w o5))
def Xh:B:=n F7 (n Gb (w o1) (w yz)) (n IA (w yU) (w o1))
def WQ:B:=n cY (n GS (w Lq) (w o1)) (n o5 (w o5) (w zZ))
def W2:B:=n Gf (n F6 (w LO) (w yN)) (n Jx (w Av) (w Al))
def Xe:B:=n GB (n o1 (w o1) (w o5)) (n Gx (w wu) (w AA))
def Xs:B:=n Gv (n dZ (w o1) (w o1)) (n JL (w yJ) (w o1))
def XG:B:=n F0 (n F1 (n dZ (w yW) u) (w zS)) (n GH (w x8) (w yX))
def XA:B:=n GQ (n Gn (w KW) (w o1)) (n o1 (w o1) (w Ag))
def Xg:B:=n o1 (n cY (w o5) (w Aj)) (n GX (w wL) (w o1))
def XE:B:=n Gu (n Gp (w xX) (w o5)) (n Kz (w Aa) (w yG))
def XS:B:=n o1 (n Gy (w K9) (w y_)) (n o1 (w wV) (w AB))
def XH:B:=n dZ (n GA (w o5) (w zm)) (n o1 (w o1) (w o5))
def WW:B:=n GO (n Gw (w Li) (w o1)) (n GV (w wm) (w o1))
def Xp:B:=n o5 (n G6 (w xh) (w Ai)) (n JD (w o5) (w zp))
def qS:Params->BT:=(n boot_o_0 (n boot_o_1 (n o0 (n boot_o_7 (n o1 Xb Q3) (n cY W6 Xq)) (n o1 (n o7 XO XF) (n GL XY Xy))) (n boot_o_5 (n boot_o_9 (n o6 Xw XN) (n o1 WV W9)) (n o3 (n o9 Xv XU) (n o1 XW XX)))) (n boot_o_2 (n boot_o_4 (n boot_o_8 (n o5 W8 W5) (n Gk Xu Xh)) (n o2 (n o8 WQ W2) (n Gj Xe Xs))) (n boot_o_6 (n boot_o_10 (n o1 XG XA) (n o5 Xg XE)) (n o4 (n Gr XS XH) (n GF WW Xp)))))
def WL:B:=n LI (n GY (n Je (w o1) (w o1)) (n zY (w o1) u)) (n o1 (n o1 (w BV) (w JS)) (n yP (w EE) u))
def XQ:B:=n G2 (n F3 (n K5 (w o1) (w JA)) (n yy (w D4) u)) (n dZ (n o1 (w BO) u) (n o5 (w Dy) u))
def Xj:B:=n G3 (n Gq (n Ly (w BJ) (w Kf)) (n o1 (w o5) u)) (n GZ (n xm (w Br) u) (n o1 (w Es) u))
def WU:B:=n cY (n GP (n KS (w o5) (w Il)) (n yS (w o1) u)) (n o5 (n o5 (w DA) u) (n zE (w DO) u))
def Xn:B:=n dZ (n GJ (n cY (w o1) (w o1)) (n yl (w DE) u)) (n o1 (n o1 (w CH) (w IG)) (n o1 (w o5) u))
def WY:B:=n F4 (n o1 (n KQ (w C2) (w Ku)) (n o5 (w EN) u)) (n KG (n yL (w Ji) u) (n zF (w Fd) u))
def Xm:B:=n o5 (n GC (n KU (w o1) (w o5)) (n o1 (w EH) u)) (n Gg (n o1 (w o5) u) (n z4 (w FY) u))
def Xo:B:=n FZ (n G0 (n w4 (w o1) (w o1)) (n zy (w o1) u)) (n ID (n yt (w o1) u) (n yZ (w EB) u))
def Xl:B:=n Gi (n GU (n Jt (w Ay) (w Eg)) (n zq (w DB) u)) (n GG (n xE (w o5) (w II)) (n o5 (w FE) u))
def SJ:B:=n Ge (n o5 (n LC (w CN) (w o1)) (n An (w FA) u)) (n IT (n zf (w o1) u) (n o1 (w o5) u))
def UB:B:=n Gd (n dZ (n o1 (w o5) (w Kr)) (n yV (w o1) u)) (n GR (n o5 (w CQ) u) (n yo (w o1) u))
def Tg:B:=n o1 (n F8 (n wW (w Bo) (w o5)) (n o1 (w Fq) u)) (n o1 (n o1 (w o5) u) (n yu (w D8) u))
def RM:B:=n F5 (n Gz (n o1 (w C4) (w Ip)) (n o5 (w Eh) u)) (n GI (n xR (w o1) (w Hv)) (n yY (w o1) u))
def SO:B:=n F9 (n F2 (n o1 (w CS) (w Jd)) (n o1 (w o5) u)) (n JZ (n yR (w Jk) u) (n o1 (w o1) u))
def VF:B:=n o1 (n G7 (n K3 (w BC) (w o1)) (n yw (w o1) u)) (n Gs (n wU (w o1) u) (n yF (w FF) u))
def V4:B:=n o1 (n cY (n o5 (w Cu) (w Ko)) (n Ao (w Eb) u)) (n JT (n o1 (w ET) u) (n o5 (w o5) u))
def SM:B:=n G1 (n o1 (n Ia (w zQ) (w Dj)) (n o1 (w o5) u)) (n GW (n xJ (w o1) (w Ij)) (n o1 (w FT) u))
def Rk:B:=n G5 (n o1 (n LA (w o5) (w JW)) (n z8 (w o1) u)) (n cY (n o5 (w CB) u) (n Az (w o1) u))
def VW:B:=n Gm (n Gh (n La (w o1) (w JE)) (n zP (w Ds) u)) (n GN (n o1 (w BL) u) (n o5 (w Ey) u))
def SH:B:=n F7 (n Gb (n o1 (w B6) (w o1)) (n yz (w FL) u)) (n IA (n yU (w o1) u) (n o1 (w o1) u))
def UQ:B:=n cY (n GS (n Lq (w o5) (w o5)) (n o1 (w Eu) u)) (n o5 (n o5 (w Ct) (w JB)) (n zZ (w D_) u))
def Rp:B:=n Gf (n F6 (n LO (w CZ) (w o1)) (n yN (w o1) u)) (n Jx (n Av (w o1) u) (n Al (w Dm) u))
def Rl:B:=n GB (n o1 (n o1 (w Bh) (w IU)) (n o5 (w D5) u)) (n Gx (n wu (w Ce) u) (n AA (w o1) u))
def V7:B:=n Gv (n dZ (n o1 (w o5) (w Ky)) (n o1 (w o5) u)) (n JL (n yJ (w E9) u) (n o1 (w o1) u))
def UZ:B:=n F0 (n F1 (n dZ (w yW) (w DR)) (n zS (w o1) u)) (n GH (n x8 (w Cv) (w Ie)) (n yX (w o1) u))
def SA:B:=n GQ (n Gn (n KW (w o1) (w o5)) (n o1 (w DC) u)) (n o1 (n o1 (w cY) u) (n Ag (w FJ) u))
def Tt:B:=n o1 (n cY (n o5 (w C3) (w o1)) (n Aj (w D3) u)) (n GX (n wL (w o1) u) (n o1 (w o5) u))
def UO:B:=n Gu (n Gp (n xX (w BS) (w Ic)) (n o5 (w EM) u)) (n Kz (n Aa (w Fz) u) (n yG (w EK) u))
def SX:B:=n o1 (n Gy (n K9 (w CV) (w o1)) (n y_ (w o1) u)) (n o1 (n wV (w o5) u) (n AB (w Fe) u))
def Uv:B:=n dZ (n GA (n o5 (w o1) (w Kx)) (n zm (w FH) u)) (n o1 (n o1 (w EZ) u) (n o5 (w o5) u))
def SY:B:=n GO (n Gw (n Li (w B4) (w IZ)) (n o1 (w o5) u)) (n GV (n wm (w Bx) u) (n o1 (w Ez) u))
def Vm:B:=n o5 (n G6 (n xh (w C0) (w Jo)) (n Ai (w o1) u)) (n JD (n o5 (w EG) u) (n zp (w Et) u))
def qv:Params->BT:=(n boot_o_0 (n boot_o_1 (n TX (n boot_o_7 (n o1 WL XQ) (n cY Xj WU)) (n o1 (n o7 Xn WY) (n GL Xm Xo))) (n boot_o_5 (n boot_o_9 (n o6 Xl SJ) (n o1 UB Tg)) (n o3 (n o9 RM SO) (n o1 VF V4)))) (n boot_o_2 (n boot_o_4 (n boot_o_8 (n o5 SM Rk) (n Gk VW SH)) (n Qs (n o8 UQ Rp) (n Gj Rl V7))) (n boot_o_6 (n boot_o_10 (n o1 UZ SA) (n o5 Tt UO)) (n o4 (n Gr SX Uv) (n GF SY Vm)))))
def Ue (P:Params)(r:zO):zO:=boot_o_0 P::boot_o_1 P::boot_o_2 P::OO P::boot_o_4 P::boot_o_5 P::boot_o_6 P::boot_o_7 P::boot_o_8 P::boot_o_9 P::boot_o_10 P::o1 P::Po P::o3 P::o4 P::o1 P::r
def So (P:Params)(r:zO):zO:=o5 P::o6 P::o1 P::o7 P::o8 P::o9 P::Gr P::cY P::Gk P::o1 P::o5 P::GL P::Gj P::o1 P::GF P::LI P::r
def Ry (P:Params)(r:zO):zO:=G1 P::Gi P::F0 P::dZ P::cY P::F5 P::o1 P::G3 P::Gm P::Gd P::o1 P::o5 P::GB P::o1 P::GO P::G2 P::r
def V9 (P:Params)(r:zO):zO:=G5 P::Ge P::GQ P::F4 P::Gf P::F9 P::dZ P::cY P::F7 P::o1 P::Gu P::FZ P::Gv P::o1 P::o5 P::GY P::r
def UA (P:Params)(r:zO):zO:=o1 P::GU P::F1 P::GJ P::GS P::Gz P::Gy P::Gq P::Gh P::dZ P::cY P::GC P::o1 P::G7 P::Gw P::F3 P::r
def Cy (P:Params)(r:zO):zO:=o1 P::o5 P::Gn P::o1 P::F6 P::F2 P::GA P::GP P::Gb P::F8 P::Gp P::G0 P::dZ P::cY P::G6 P::o1 P::r
def Ti (P:Params)(r:zO):zO:=GW P::GG P::GH P::o1 P::o5 P::GI P::o1 P::GZ P::GN P::GR P::GX P::Gg P::Gx P::Gs P::GV P::dZ P::r
def V3 (P:Params)(r:zO):zO:=cY P::IT P::o1 P::KG P::Jx P::JZ P::o1 P::o5 P::IA P::o1 P::Kz P::ID P::JL P::JT P::JD P::Je P::r
def T_ (P:Params)(r:zO):zO:=Ia P::Jt P::dZ P::cY P::Lq P::o1 P::K9 P::Ly P::La P::o1 P::o5 P::KU P::o1 P::K3 P::Li P::K5 P::r
def Wh (P:Params)(r:zO):zO:=LA P::LC P::KW P::KQ P::LO P::o1 P::o5 P::KS P::o1 P::wW P::xX P::w4 P::o1 P::o5 P::xh P::o1 P::r
def VY (P:Params)(r:zO):zO:=xJ P::xE P::x8 P::o1 P::o5 P::xR P::wV P::xm P::o1 P::o5 P::wL P::o1 P::wu P::wU P::wm P::o1 P::r
def Ru (P:Params)(r:zO):zO:=o5 P::zf P::o1 P::yL P::Av P::yR P::o1 P::o5 P::yU P::o1 P::Aa P::yt P::yJ P::o1 P::o5 P::zY P::r
def Ub (P:Params)(r:zO):zO:=o1 P::zq P::zS P::yl P::o1 P::o5 P::y_ P::o1 P::zP P::yV P::Aj P::o1 P::o5 P::yw P::o1 P::yy P::r
def VR (P:Params)(r:zO):zO:=z8 P::An P::o1 P::o5 P::yN P::o1 P::zm P::yS P::yz P::o1 P::o5 P::zy P::o1 P::Ao P::Ai P::yP P::r
def T3 (P:Params)(r:zO):zO:=o1 P::o5 P::yX P::o1 P::zZ P::yY P::AB P::o1 P::o5 P::yo P::o1 P::z4 P::AA P::yF P::o1 P::o5 P::r
def Rg (P:Params)(r:zO):zO:=Az P::o1 P::Ag P::zF P::Al P::o1 P::o5 P::zE P::o1 P::yu P::yG P::yZ P::o1 P::o5 P::zp P::o1 P::r
def UE (P:Params)(r:zO):zO:=zQ P::Ay P::yW P::o1 P::o5 P::C4 P::CV P::BJ P::o1 P::o5 P::C3 P::o1 P::Bh P::BC P::B4 P::o1 P::r
def RP (P:Params)(r:zO):zO:=o5 P::CN P::o1 P::C2 P::CZ P::CS P::o1 P::o5 P::B6 P::Bo P::BS P::o1 P::o5 P::Cu P::C0 P::BV P::r
def Vl (P:Params)(r:zO):zO:=o1 P::o5 P::Cv P::CH P::Ct P::o1 P::o5 P::Br P::BL P::CQ P::o1 P::o5 P::Ce P::o1 P::Bx P::BO P::r
def TH (P:Params)(r:zO):zO:=CB P::o1 P::cY P::Ji P::o1 P::Jk P::EZ P::DA P::o1 P::o5 P::Fz P::o1 P::E9 P::ET P::EG P::o1 P::r
def UW (P:Params)(r:zO):zO:=o5 P::DB P::o1 P::DE P::Eu P::Eh P::o1 P::o5 P::Ds P::o1 P::D3 P::EH P::D5 P::o1 P::o5 P::D4 P::r
def T7 (P:Params)(r:zO):zO:=o1 P::FA P::DC P::EN P::o1 P::o5 P::FH P::o1 P::FL P::Fq P::EM P::o1 P::o5 P::Eb P::o1 P::EE P::r
def T5 (P:Params)(r:zO):zO:=FT P::FE P::o1 P::o5 P::D_ P::o1 P::Fe P::Es P::Ey P::o1 P::o5 P::FY P::o1 P::FF P::Ez P::Dy P::r
def TQ (P:Params)(r:zO):zO:=o1 P::o5 P::FJ P::Fd P::Dm P::o1 P::o5 P::DO P::o1 P::D8 P::EK P::EB P::o1 P::o5 P::Et P::o1 P::r
def S6 (P:Params)(r:zO):zO:=Dj P::Eg P::DR P::o1 P::o5 P::Ip P::o1 P::Kf P::JE P::Kr P::o1 P::o5 P::IU P::o1 P::IZ P::JA P::r
def Vx (P:Params)(r:zO):zO:=JW P::o1 P::o5 P::Ku P::o1 P::Jd P::Kx P::Il P::o1 P::o5 P::Ic P::o1 P::Ky P::Ko P::Jo P::JS P::r
def Si (P:Params)(r:zO):zO:=Ij P::II P::Ie P::IG P::JB P::Hv P::o1 P::o5 P::Na P::MC P::Oj P::o1 P::o5 P::L3 P::o1 P::Om P::r
def S2 (P:Params)(r:zO):zO:=Mh P::Od P::o1 P::o5 P::M_ P::o1 P::M9 P::L5 P::MW P::o1 P::o5 P::Nv P::o1 P::LR P::Mm P::L8 P::r
def Ud (P:Params)(r:zO):zO:=o1 P::o5 P::MJ P::o1 P::MP P::Mv P::Oa P::o1 P::o5 P::Oz P::o1 P::Nj P::L7 P::NW P::o1 P::o5 P::r
def UM (P:Params)(r:zO):zO:=Nu P::NY P::NP P::o1 P::o5 P::NL P::o1 P::ND P::MB P::Ni P::o1 P::o5 P::LX P::o1 P::Nh P::Mb P::r
def Te (P:Params)(r:zO):zO:=Ms P::o1 P::o5 P::Ma P::o1 P::L0 P::Ng P::M8 P::o1 P::o5 P::Mr P::o1 P::MS P::N1 P::LW P::o1 P::r
def Ra (P:Params)(r:zO):zO:=o5 P::Mn P::o1 P::Nm P::NG P::MH P::o1 P::o5 P::OR P::o1 P::O3 P::PJ P::P_ P::o1 P::o5 P::Qn P::r
def Rr (P:Params)(r:zO):zO:=o1 P::Pz P::Pb P::PK P::o1 P::o5 P::O4 P::o1 P::Qd P::Py P::P6 P::o1 P::o5 P::Pd P::o1 P::O7 P::r
def SV (P:Params)(r:zO):zO:=PL P::OJ P::o1 P::o5 P::PX P::o1 P::Pq P::Qv P::OV P::r
def pL:Params->Heap:=fun P=>⟨⟨(Ue P (So P (Ry P (V9 P (UA P (Cy P (Ti P (V3 P (T_ P (Wh P (VY P (Ru P (Ub P (VR P (T3 P (Rg P (UE P (RP P (Vl P (TH P (UW P (T7 P (T5 P (TQ P (S6 P (Vx P (Si P (S2 P (Ud P (UM P (Te P (Ra P (Rr P (SV P []))))))))))))))))))))))))))))))))))⟩,⟨[],[],[],0,[],[],.false,#[],[],0,.false,.false,.false,0,[2000,10,10],.false,0,.true,[],[],0,.false⟩⟩
def U6:B:=n S9 (n GY (w Je) u) (w o1)
def Vi:B:=n Gi (n GU (w Jt) u) (w GG)
def RV:B:=n G1 (n o1 (w Ia) u) (w GW)
def qx:Params->BT:=(n boot_o_0 (n boot_o_1 (n Rc (n boot_o_7 (n o1 U6 (n G2 (w F3) (w dZ))) (n cY (n G3 (w Gq) (w GZ)) (n cY (w GP) (w o5)))) (n o1 (n o7 (n dZ (w GJ) (w o1)) (n F4 (w o1) (w KG))) (n GL (n o5 (w GC) (w Gg)) (n FZ (w G0) (w ID))))) (n boot_o_5 (n boot_o_9 (n o6 Vi (n Ge (w o5) (w IT))) (n o1 (n Gd (w dZ) (w GR)) (n o1 (w F8) (w o1)))) (n o3 (n o9 (n F5 (w Gz) (w GI)) (n F9 (w F2) (w JZ))) (n o1 (n o1 (w G7) (w Gs)) (n o1 (w cY) (w JT)))))) (n boot_o_2 (n boot_o_4 (n boot_o_8 (n o5 RV (n G5 (w o1) (w cY))) (n Gk (n Gm (w Gh) (w GN)) (n F7 (w Gb) (w IA)))) (n S8 (n o8 (n cY (w GS) (w o5)) (n Gf (w F6) (w Jx))) (n Gj (n GB (w o1) (w Gx)) (n Gv (w dZ) (w JL))))) (n boot_o_6 (n boot_o_10 (n o1 (n F0 (w F1) (w GH)) (n GQ (w Gn) (w o1))) (n o5 (n o1 (w cY) (w GX)) (n Gu (w Gp) (w Kz)))) (n o4 (n Gr (n o1 (w Gy) (w o1)) (n dZ (w GA) (w o1))) (n GF (n GO (w Gw) (w GV)) (n o5 (w G6) (w JD)))))))
def tW:List Stmt:=[f 42]
def uu:List Stmt:=[f 15,f 16,f 17,f 18,f 19,f 20,f 21,f 22,f 23,f 24,f 25,f 26,f 27,f 28]
def Rh:B:=n LI (n GY (n Je (w o1) u) (w zY)) (n o1 (n o1 (w BV) u) (w yP))
def Ug:B:=n G2 (n F3 (n K5 (w o1) u) (w yy)) (n dZ (n o1 (w BO) u) (w o5))
def SK:B:=n G3 (n Gq (n Ly (w BJ) u) (w o1)) (n GZ (n xm (w Br) u) (w o1))
def VS:B:=n cY (n GP (n KS (w o5) u) (w yS)) (n o5 (w o5) (w zE))
def UK:B:=n dZ (n GJ (n cY (w o1) u) (w yl)) (n o1 (n o1 (w CH) u) (w o1))
def Sn:B:=n F4 (n o1 (n KQ (w C2) u) (w o5)) (n KG (w yL) (w zF))
def VT:B:=n o5 (n GC (n KU (w o1) u) (w o1)) (n Gg (n o1 (w o5) u) (w z4))
def Ui:B:=n FZ (n G0 (n w4 (w o1) u) (w zy)) (n ID (w yt) (w yZ))
def Se:B:=n Gi (n GU (n Jt (w Ay) u) (w zq)) (n GG (n xE (w o5) u) (w o5))
def RE:B:=n Ge (n o5 (n LC (w CN) u) (w An)) (n IT (w zf) (w o1))
def US:B:=n Gd (n dZ (n o1 (w o5) u) (w yV)) (n GR (n o5 (w CQ) u) (w yo))
def Sj:B:=n o1 (n F8 (n wW (w Bo) u) (w o1)) (n o1 (w o1) (w yu))
def Ua:B:=n F5 (n Gz (n o1 (w C4) u) (w o5)) (n GI (n xR (w o1) u) (w yY))
def UI:B:=n F9 (n F2 (n o1 (w CS) u) (w o1)) (n JZ (w yR) (w o1))
def Uh:B:=n o1 (n G7 (n K3 (w BC) u) (w yw)) (n Gs (n wU (w o1) u) (w yF))
def SD:B:=n o1 (n cY (n o5 (w Cu) u) (w Ao)) (n JT (w o1) (w o5))
def U4:B:=n G1 (n o1 (n Ia (w zQ) u) (w o1)) (n GW (n xJ (w o1) u) (w o1))
def Wf:B:=n G5 (n o1 (n LA (w o5) u) (w z8)) (n cY (n o5 (w CB) u) (w Az))
def Sm:B:=n Gm (n Gh (n La (w o1) u) (w zP)) (n GN (n o1 (w BL) u) (w o5))
def RB:B:=n F7 (n Gb (n o1 (w B6) u) (w yz)) (n IA (w yU) (w o1))
def Vn:B:=n cY (n GS (n Lq (w o5) u) (w o1)) (n o5 (n o5 (w Ct) u) (w zZ))
def VG:B:=n Gf (n F6 (n LO (w CZ) u) (w yN)) (n Jx (w Av) (w Al))
def RS:B:=n GB (n o1 (n o1 (w Bh) u) (w o5)) (n Gx (n wu (w Ce) u) (w AA))
def Rt:B:=n Gv (n dZ (n o1 (w o5) u) (w o1)) (n JL (w yJ) (w o1))
def Vc:B:=n F0 (n F1 (n dZ (w yW) u) (w zS)) (n GH (n x8 (w Cv) u) (w yX))
def TU:B:=n GQ (n Gn (n KW (w o1) u) (w o1)) (n o1 (w o1) (w Ag))
def S5:B:=n o1 (n cY (n o5 (w C3) u) (w Aj)) (n GX (n wL (w o1) u) (w o1))
def R9:B:=n Gu (n Gp (n xX (w BS) u) (w o5)) (n Kz (w Aa) (w yG))
def Ve:B:=n o1 (n Gy (n K9 (w CV) u) (w y_)) (n o1 (n wV (w o5) u) (w AB))
def Rx:B:=n dZ (n GA (n o5 (w o1) u) (w zm)) (n o1 (w o1) (w o5))
def Rj:B:=n GO (n Gw (n Li (w B4) u) (w o1)) (n GV (n wm (w Bx) u) (w o1))
def Sq:B:=n o5 (n G6 (n xh (w C0) u) (w Ai)) (n JD (w o5) (w zp))
def qC:Params->BT:=(n boot_o_0 (n boot_o_1 (n Qg (n boot_o_7 (n o1 Rh Ug) (n cY SK VS)) (n o1 (n o7 UK Sn) (n GL VT Ui))) (n boot_o_5 (n boot_o_9 (n o6 Se RE) (n o1 US Sj)) (n o3 (n o9 Ua UI) (n o1 Uh SD)))) (n boot_o_2 (n boot_o_4 (n boot_o_8 (n o5 U4 Wf) (n Gk Sm RB)) (n U5 (n o8 Vn VG) (n Gj RS Rt))) (n boot_o_6 (n boot_o_10 (n o1 Vc TU) (n o5 S5 R9)) (n o4 (n Gr Ve Rx) (n GF Rj Sq)))))
def tO:List Stmt:=[f 56,f 57,f 58,f 59,f 60]
def tX:Program:={ PySem.Challenge.pw_tailrooms_k37_refused_in_order with main:={ PySem.Challenge.pw_tailrooms_k37_refused_in_order.main with body:=[f 0,f 2,f 3,f 4,f 5,f 6,f 7,f 8,f 10,f 11,f 12,f 13,f 15,f 16,f 17,f 19,f 20,f 21,f 22,f 23,f 24,f 25,f 27,f 28,f 29,f 30,f 31,f 33,f 34,f 35,f 36,f 37,f 38,f 40,f 41,f 42,f 44,f 45,f 46,f 47,f 48,f 49,f 50,f 51,f 52,f 53,f 54,f 55,f 56,f 57,f 58,f 59,f 60] } }
def qA:Params->BT:=(n boot_o_0 (n boot_o_1 (n TZ (n boot_o_7 (n o1 (n Ul (w GY) (w o1)) (n G2 (w F3) u)) (n cY (n G3 (w Gq) (w GZ)) (n cY (w GP) u))) (n o1 (n o7 (n dZ (w GJ) (w o1)) (n F4 (w o1) u)) (n GL (n o5 (w GC) (w Gg)) (n FZ (w G0) u)))) (n boot_o_5 (n boot_o_9 (n o6 (n Gi (w GU) (w GG)) (n Ge (w o5) u)) (n o1 (n Gd (w dZ) (w GR)) (n o1 (w F8) u))) (n o3 (n o9 (n F5 (w Gz) (w GI)) (n F9 (w F2) u)) (n o1 (n o1 (w G7) (w Gs)) (n o1 (w cY) u))))) (n boot_o_2 (n boot_o_4 (n boot_o_8 (n o5 (n G1 (w o1) (w GW)) (n G5 (w o1) u)) (n Gk (n Gm (w Gh) (w GN)) (n F7 (w Gb) u))) (n VQ (n o8 (n cY (w GS) (w o5)) (n Gf (w F6) u)) (n Gj (n GB (w o1) (w Gx)) (n Gv (w dZ) u)))) (n boot_o_6 (n boot_o_10 (n o1 (n F0 (w F1) (w GH)) (n GQ (w Gn) u)) (n o5 (n o1 (w cY) (w GX)) (n Gu (w Gp) u))) (n o4 (n Gr (n o1 (w Gy) (w o1)) (n dZ (w GA) u)) (n GF (n GO (w Gw) (w GV)) (n o5 (w G6) u))))))
def VM:B:=n LI (n GY (n Je (w o1) (w o1)) (n zY (w o1) (w L8))) (n o1 (n o1 (w BV) (w JS)) (n yP (w EE) (w Mb)))
def RH:B:=n G2 (n F3 (n K5 (w o1) (w JA)) (n yy (w D4) (w o5))) (n dZ (n o1 (w BO) (w Om)) (n o5 (w Dy) (w o1)))
def Sf:B:=n G3 (n Gq (n Ly (w BJ) (w Kf)) (n o1 (w o5) (w o1))) (n GZ (n xm (w Br) (w o5)) (n o1 (w Es) (w M8)))
def UG:B:=n cY (n GP (n KS (w o5) (w Il)) (n yS (w o1) (w ND))) (n o5 (n o5 (w DA) (w L5)) (n zE (w DO) u))
def Sg:B:=n dZ (n GJ (n cY (w o1) (w o1)) (n yl (w DE) (w o1))) (n o1 (n o1 (w CH) (w IG)) (n o1 (w o5) (w Ma)))
def TR:B:=n F4 (n o1 (n KQ (w C2) (w Ku)) (n o5 (w EN) (w o1))) (n KG (n yL (w Ji) (w o5)) (n zF (w Fd) (w Nm)))
def V6:B:=n o5 (n GC (n KU (w o1) (w o5)) (n o1 (w EH) (w Nj))) (n Gg (n o1 (w o5) (w o1)) (n z4 (w FY) (w o1)))
def SE:B:=n FZ (n G0 (n w4 (w o1) (w o1)) (n zy (w o1) (w o5))) (n ID (n yt (w o1) (w Nv)) (n yZ (w EB) u))
def SG:B:=n Gi (n GU (n Jt (w Ay) (w Eg)) (n zq (w DB) (w o5))) (n GG (n xE (w o5) (w II)) (n o5 (w FE) (w o1)))
def T6:B:=n Ge (n o5 (n LC (w CN) (w o1)) (n An (w FA) (w NY))) (n IT (n zf (w o1) (w Od)) (n o1 (w o5) (w Mn)))
def Ss:B:=n Gd (n dZ (n o1 (w o5) (w Kr)) (n yV (w o1) (w Oz))) (n GR (n o5 (w CQ) (w MC)) (n yo (w o1) (w o5)))
def Sl:B:=n o1 (n F8 (n wW (w Bo) (w o5)) (n o1 (w Fq) (w Ni))) (n o1 (n o1 (w o5) (w o1)) (n yu (w D8) u))
def UL:B:=n F5 (n Gz (n o1 (w C4) (w Ip)) (n o5 (w Eh) (w Mv))) (n GI (n xR (w o1) (w Hv)) (n yY (w o1) (w L0)))
def Th:B:=n F9 (n F2 (n o1 (w CS) (w Jd)) (n o1 (w o5) (w NL))) (n JZ (n yR (w Jk) (w o1)) (n o1 (w o1) (w MH)))
def Vg:B:=n o1 (n G7 (n K3 (w BC) (w o1)) (n yw (w o1) (w NW))) (n Gs (n wU (w o1) (w L3)) (n yF (w FF) (w N1)))
def Tj:B:=n o1 (n cY (n o5 (w Cu) (w Ko)) (n Ao (w Eb) (w o1))) (n JT (n o1 (w ET) (w LR)) (n o5 (w o5) u))
def R0:B:=n G1 (n o1 (n Ia (w zQ) (w Dj)) (n o1 (w o5) (w o1))) (n GW (n xJ (w o1) (w Ij)) (n o1 (w FT) (w Ms)))
def VC:B:=n G5 (n o1 (n LA (w o5) (w JW)) (n z8 (w o1) (w Nu))) (n cY (n o5 (w CB) (w Mh)) (n Az (w o1) (w o5)))
def VP:B:=n Gm (n Gh (n La (w o1) (w JE)) (n zP (w Ds) (w o5))) (n GN (n o1 (w BL) (w Na)) (n o5 (w Ey) (w o1)))
def We:B:=n F7 (n Gb (n o1 (w B6) (w o1)) (n yz (w FL) (w MB))) (n IA (n yU (w o1) (w MW)) (n o1 (w o1) u))
def UT:B:=n cY (n GS (n Lq (w o5) (w o5)) (n o1 (w Eu) (w MP))) (n o5 (n o5 (w Ct) (w JB)) (n zZ (w D_) (w o1)))
def V8:B:=n Gf (n F6 (n LO (w CZ) (w o1)) (n yN (w o1) (w o5))) (n Jx (n Av (w o1) (w M_)) (n Al (w Dm) (w NG)))
def UU:B:=n GB (n o1 (n o1 (w Bh) (w IU)) (n o5 (w D5) (w L7))) (n Gx (n wu (w Ce) (w o5)) (n AA (w o1) (w MS)))
def Tw:B:=n Gv (n dZ (n o1 (w o5) (w Ky)) (n o1 (w o5) (w LX))) (n JL (n yJ (w E9) (w o1)) (n o1 (w o1) u))
def SR:B:=n F0 (n F1 (n dZ (w yW) (w DR)) (n zS (w o1) (w MJ))) (n GH (n x8 (w Cv) (w Ie)) (n yX (w o1) (w o5)))
def V1:B:=n GQ (n Gn (n KW (w o1) (w o5)) (n o1 (w DC) (w NP))) (n o1 (n o1 (w cY) (w o1)) (n Ag (w FJ) (w o1)))
def Vd:B:=n o1 (n cY (n o5 (w C3) (w o1)) (n Aj (w D3) (w o1))) (n GX (n wL (w o1) (w Oj)) (n o1 (w o5) (w Mr)))
def Vq:B:=n Gu (n Gp (n xX (w BS) (w Ic)) (n o5 (w EM) (w o1))) (n Kz (n Aa (w Fz) (w o5)) (n yG (w EK) u))
def TY:B:=n o1 (n Gy (n K9 (w CV) (w o1)) (n y_ (w o1) (w Oa))) (n o1 (n wV (w o5) (w o1)) (n AB (w Fe) (w Ng)))
def VV:B:=n dZ (n GA (n o5 (w o1) (w Kx)) (n zm (w FH) (w o1))) (n o1 (n o1 (w EZ) (w M9)) (n o5 (w o5) u))
def Vu:B:=n GO (n Gw (n Li (w B4) (w IZ)) (n o1 (w o5) (w o1))) (n GV (n wm (w Bx) (w o1)) (n o1 (w Ez) (w LW)))
def R5:B:=n o5 (n G6 (n xh (w C0) (w Jo)) (n Ai (w o1) (w Nh))) (n JD (n o5 (w EG) (w Mm)) (n zp (w Et) u))
def qi:Params->BT:=(n boot_o_0 (n boot_o_1 (n T9 (n boot_o_7 (n o1 VM RH) (n cY Sf UG)) (n o1 (n o7 Sg TR) (n GL V6 SE))) (n boot_o_5 (n boot_o_9 (n o6 SG T6) (n o1 Ss Sl)) (n o3 (n o9 UL Th) (n o1 Vg Tj)))) (n boot_o_2 (n boot_o_4 (n boot_o_8 (n o5 R0 VC) (n Gk VP We)) (n Tq (n o8 UT V8) (n Gj UU Tw))) (n boot_o_6 (n boot_o_10 (n o1 SR V1) (n o5 Vd Vq)) (n o4 (n Gr TY VV) (n GF Vu R5)))))
def Um:B:=n LI (n GY (n Je (w o1) (w o1)) (n zY (w o1) u)) (n o1 (n o1 (w BV) u) (n yP (w EE) u))
def Sk:B:=n G2 (n F3 (n K5 (w o1) u) (n yy (w D4) u)) (n dZ (n o1 (w BO) u) (n o5 (w Dy) u))
def Rf:B:=n G3 (n Gq (n Ly (w BJ) u) (n o1 (w o5) u)) (n GZ (n xm (w Br) u) (n o1 (w Es) u))
def U9:B:=n cY (n GP (n KS (w o5) u) (n yS (w o1) u)) (n o5 (n o5 (w DA) u) (n zE (w DO) u))
def U8:B:=n dZ (n GJ (n cY (w o1) u) (n yl (w DE) u)) (n o1 (n o1 (w CH) u) (n o1 (w o5) u))
def Tn:B:=n F4 (n o1 (n KQ (w C2) u) (n o5 (w EN) u)) (n KG (n yL (w Wb) u) (n zF (w Fd) u))
def UR:B:=n o5 (n GC (n KU (w o1) u) (n o1 (w EH) u)) (n Gg (n o1 (w o5) u) (n z4 (w FY) u))
def VE:B:=n FZ (n G0 (n w4 (w o1) u) (n zy (w o1) u)) (n ID (n yt (w o1) u) (n yZ (w EB) u))
def TL:B:=n Gi (n GU (n Jt (w Ay) (w Eg)) (n zq (w DB) u)) (n GG (n xE (w o5) u) (n o5 (w FE) u))
def SQ:B:=n Ge (n o5 (n LC (w CN) u) (n An (w FA) u)) (n IT (n zf (w o1) u) (n o1 (w o5) u))
def RZ:B:=n Gd (n dZ (n o1 (w o5) u) (n yV (w o1) u)) (n GR (n o5 (w CQ) u) (n yo (w o1) u))
def Q_:B:=n o1 (n F8 (n wW (w Bo) u) (n o1 (w Fq) u)) (n o1 (n o1 (w o5) u) (n yu (w D8) u))
def V_:B:=n F5 (n Gz (n o1 (w C4) u) (n o5 (w Eh) u)) (n GI (n xR (w o1) u) (n yY (w o1) u))
def UH:B:=n F9 (n F2 (n o1 (w CS) u) (n o1 (w o5) u)) (n JZ (n yR (w S_) u) (n o1 (w o1) u))
def SW:B:=n o1 (n G7 (n K3 (w BC) u) (n yw (w o1) u)) (n Gs (n wU (w o1) u) (n yF (w FF) u))
def VL:B:=n o1 (n cY (n o5 (w Cu) u) (n Ao (w Eb) u)) (n JT (n o1 (w ET) u) (n o5 (w o5) u))
def U7:B:=n G1 (n o1 (n Ia (w zQ) (w Dj)) (n o1 (w o5) u)) (n GW (n xJ (w o1) u) (n o1 (w FT) u))
def VH:B:=n G5 (n o1 (n LA (w o5) u) (n z8 (w o1) u)) (n cY (n o5 (w CB) u) (n Az (w o1) u))
def Tf:B:=n Gm (n Gh (n La (w o1) u) (n zP (w Ds) u)) (n GN (n o1 (w BL) u) (n o5 (w Ey) u))
def UC:B:=n F7 (n Gb (n o1 (w B6) u) (n yz (w FL) u)) (n IA (n yU (w o1) u) (n o1 (w o1) u))
def SN:B:=n cY (n GS (n Lq (w o5) u) (n o1 (w Eu) u)) (n o5 (n o5 (w Ct) u) (n zZ (w D_) u))
def Su:B:=n Gf (n F6 (n LO (w CZ) u) (n yN (w o1) u)) (n Jx (n Av (w o1) u) (n Al (w Dm) u))
def Sh:B:=n GB (n o1 (n o1 (w Bh) u) (n o5 (w D5) u)) (n Gx (n wu (w Ce) u) (n AA (w o1) u))
def Uj:B:=n Gv (n dZ (n o1 (w o5) u) (n o1 (w o5) u)) (n JL (n yJ (w E9) u) (n o1 (w o1) u))
def R7:B:=n F0 (n F1 (n dZ (w yW) (w DR)) (n zS (w o1) u)) (n GH (n x8 (w Cv) u) (n yX (w o1) u))
def UJ:B:=n GQ (n Gn (n KW (w o1) u) (n o1 (w DC) u)) (n o1 (n o1 (w cY) u) (n Ag (w FJ) u))
def Vw:B:=n o1 (n cY (n o5 (w C3) u) (n Aj (w D3) u)) (n GX (n wL (w o1) u) (n o1 (w o5) u))
def S0:B:=n Gu (n Gp (n xX (w BS) u) (n o5 (w EM) u)) (n Kz (n Aa (w Fz) u) (n yG (w EK) u))
def S4:B:=n o1 (n Gy (n K9 (w CV) u) (n y_ (w o1) u)) (n o1 (n wV (w o5) u) (n AB (w Fe) u))
def U0:B:=n dZ (n GA (n o5 (w o1) u) (n zm (w FH) u)) (n o1 (n o1 (w EZ) u) (n o5 (w o5) u))
def R_:B:=n GO (n Gw (n Li (w B4) u) (n o1 (w o5) u)) (n GV (n wm (w Bx) u) (n o1 (w Ez) u))
def Q9:B:=n o5 (n G6 (n xh (w C0) u) (n Ai (w o1) u)) (n JD (n o5 (w EG) u) (n zp (w Et) u))
def qO:Params->BT:=(n boot_o_0 (n boot_o_1 (n Qg (n boot_o_7 (n o1 Um Sk) (n cY Rf U9)) (n o1 (n o7 U8 Tn) (n GL UR VE))) (n boot_o_5 (n boot_o_9 (n o6 TL SQ) (n o1 RZ Q_)) (n o3 (n o9 V_ UH) (n o1 SW VL)))) (n boot_o_2 (n boot_o_4 (n boot_o_8 (n o5 U7 VH) (n Gk Tf UC)) (n Qs (n o8 SN Su) (n Gj Sh Uj))) (n boot_o_6 (n boot_o_10 (n o1 R7 UJ) (n o5 Vw S0)) (n o4 (n Gr S4 U0) (n GF R_ Q9)))))
def VJ:B:=n LI (n GY (n Je (n o1 (w Qn) u) (w o1)) (n zY (w o1) (w L8))) (n o1 (n o1 (w BV) (w JS)) (n yP (w EE) (w Mb)))
def Us:B:=n G2 (n F3 (n K5 (n o1 (w O7) u) (w JA)) (n yy (w D4) (w o5))) (n dZ (n o1 (w BO) (w Om)) (n o5 (w Dy) (w o1)))
def Tu:B:=n G3 (n Gq (n Ly (n BJ (w o1) u) (w Kf)) (n o1 (w o5) (w o1))) (n GZ (n xm (w Br) (w o5)) (n o1 (w Es) (w M8)))
def VA:B:=n cY (n GP (n KS (n o5 (w Qv) u) (w Il)) (n yS (w o1) (w ND))) (n o5 (n o5 (w DA) (w L5)) (n zE (w DO) (w o5)))
def RN:B:=n dZ (n GJ (n cY (n o1 (w PK) u) (w o1)) (n yl (w DE) (w o1))) (n o1 (n o1 (w CH) (w IG)) (n o1 (w o5) (w Ma)))
def VZ:B:=n F4 (n o1 (n KQ (n C2 (w o5) u) (w Ku)) (n o5 (w EN) (w o1))) (n KG (n yL (w Ji) (w o5)) (n zF (w Fd) (w Nm)))
def UP:B:=n o5 (n GC (n KU (n o1 (w o1) u) (w o5)) (n o1 (w EH) (w Nj))) (n Gg (n o1 (w o5) (w o1)) (n z4 (w FY) (w o1)))
def Ut:B:=n FZ (n G0 (n w4 (w o1) (w o1)) (n zy (w o1) (w o5))) (n ID (n yt (w o1) (w Nv)) (n yZ (w EB) (w PJ)))
def Wc:B:=n Gi (n GU (n Jt (n Ay (w Pz) u) (w Eg)) (n zq (w DB) (w o5))) (n GG (n xE (w o5) (w II)) (n o5 (w FE) (w o1)))
def VU:B:=n Ge (n o5 (n LC (n CN (w OJ) u) (w o1)) (n An (w FA) (w NY))) (n IT (n zf (w o1) (w Od)) (n o1 (w o5) (w Mn)))
def Uz:B:=n Gd (n dZ (n o1 (n o5 (w Py) u) (w Kr)) (n yV (w o1) (w Oz))) (n GR (n o5 (w CQ) (w MC)) (n yo (w o1) (w o5)))
def Uo:B:=n o1 (n F8 (n wW (w Bo) (w o5)) (n o1 (w Fq) (w Ni))) (n o1 (n o1 (w o5) (w o1)) (n yu (w D8) (w o1)))
def Vk:B:=n F5 (n Gz (n o1 (n C4 (w o5) u) (w Ip)) (n o5 (w Eh) (w Mv))) (n GI (n xR (w o1) (w Hv)) (n yY (w o1) (w L0)))
def Tr:B:=n F9 (n F2 (n o1 (n CS (w o1) u) (w Jd)) (n o1 (w o5) (w NL))) (n JZ (n yR (w Jk) (w o1)) (n o1 (w o1) (w MH)))
def VX:B:=n o1 (n G7 (n K3 (n BC (w Pd) u) (w o1)) (n yw (w o1) (w NW))) (n Gs (n wU (w o1) (w L3)) (n yF (w FF) (w N1)))
def RX:B:=n o1 (n cY (n o5 (w Cu) (w Ko)) (n Ao (w Eb) (w o1))) (n JT (n o1 (w ET) (w LR)) (n o5 (w o5) (w o1)))
def RY:B:=n G1 (n o1 (n Ia (n zQ (w o1) u) (w Dj)) (n o1 (w o5) (w o1))) (n GW (n xJ (w o1) (w Ij)) (n o1 (w FT) (w Ms)))
def RA:B:=n G5 (n o1 (n LA (n o5 (w PL) u) (w JW)) (n z8 (w o1) (w Nu))) (n cY (n o5 (w CB) (w Mh)) (n Az (w o1) (w o5)))
def Sw:B:=n Gm (n Gh (n La (n o1 (w Qd) u) (w JE)) (n zP (w Ds) (w o5))) (n GN (n o1 (w BL) (w Na)) (n o5 (w Ey) (w o1)))
def RD:B:=n F7 (n Gb (n o1 (n B6 (w OV) u) (w o1)) (n yz (w FL) (w MB))) (n IA (n yU (w o1) (w MW)) (n o1 (w o1) (w OR)))
def UY:B:=n cY (n GS (n Lq (n o5 (w o1) u) (w o5)) (n o1 (w Eu) (w MP))) (n o5 (n o5 (w Ct) (w JB)) (n zZ (w D_) (w o1)))
def V0:B:=n Gf (n F6 (n LO (n CZ (w PX) u) (w o1)) (n yN (w o1) (w o5))) (n Jx (n Av (w o1) (w M_)) (n Al (w Dm) (w NG)))
def TV:B:=n GB (n o1 (n o1 (n Bh (w o5) u) (w IU)) (n o5 (w D5) (w L7))) (n Gx (n wu (w Ce) (w o5)) (n AA (w o1) (w MS)))
def R8:B:=n Gv (n dZ (n o1 (w o5) (w Ky)) (n o1 (w o5) (w LX))) (n JL (n yJ (w E9) (w o1)) (n o1 (w o1) (w P_)))
def Vh:B:=n F0 (n F1 (n dZ (n yW (w Pb) u) (w DR)) (n zS (w o1) (w MJ))) (n GH (n x8 (w Cv) (w Ie)) (n yX (w o1) (w o5)))
def Uk:B:=n GQ (n Gn (n KW (n o1 (w o1) u) (w o5)) (n o1 (w DC) (w NP))) (n o1 (n o1 (w cY) (w o1)) (n Ag (w FJ) (w o1)))
def RO:B:=n o1 (n cY (n o5 (n C3 (w P6) u) (w o1)) (n Aj (w D3) (w o1))) (n GX (n wL (w o1) (w Oj)) (n o1 (w o5) (w Mr)))
def Sd:B:=n Gu (n Gp (n xX (w BS) (w Ic)) (n o5 (w EM) (w o1))) (n Kz (n Aa (w Fz) (w o5)) (n yG (w EK) (w O3)))
def UD:B:=n o1 (n Gy (n K9 (n CV (w O4) u) (w o1)) (n y_ (w o1) (w Oa))) (n o1 (n wV (w o5) (w o1)) (n AB (w Fe) (w Ng)))
def Ro:B:=n dZ (n GA (n o5 (n o1 (w Pq) u) (w Kx)) (n zm (w FH) (w o1))) (n o1 (n o1 (w EZ) (w M9)) (n o5 (w o5) (w o1)))
def V5:B:=n GO (n Gw (n Li (n B4 (w o1) u) (w IZ)) (n o1 (w o5) (w o1))) (n GV (n wm (w Bx) (w o1)) (n o1 (w Ez) (w LW)))
def Uy:B:=n o5 (n G6 (n xh (w C0) (w Jo)) (n Ai (w o1) (w Nh))) (n JD (n o5 (w EG) (w Mm)) (n zp (w Et) (w o5)))
def qp:Params->BT:=(n boot_o_0 (n boot_o_1 (n OO (n boot_o_7 (n o1 VJ Us) (n cY Tu VA)) (n o1 (n o7 RN VZ) (n GL UP Ut))) (n boot_o_5 (n boot_o_9 (n o6 Wc VU) (n o1 Uz Uo)) (n o3 (n o9 Vk Tr) (n o1 VX RX)))) (n boot_o_2 (n boot_o_4 (n boot_o_8 (n o5 RY RA) (n Gk Sw RD)) (n Po (n o8 UY V0) (n Gj TV R8))) (n boot_o_6 (n boot_o_10 (n o1 Vh Uk) (n o5 RO Sd)) (n o4 (n Gr UD Ro) (n GF V5 Uy)))))
def uw:List Stmt:=[f 29,f 30,f 31,f 32,f 33,f 34,f 35,f 36,f 37,f 38,f 39,f 40,f 41]
def tP:List Stmt:=[f 43,f 44,f 45,f 46,f 47,f 48,f 49,f 50,f 51,f 52,f 53,f 54,f 55]
def RW:B:=n LI (n GY (w Je) u) (n o1 (w o1) u)
def VB:B:=n G2 (n F3 (w K5) u) (w dZ)
def Vp:B:=n G3 (n Gq (w Ly) u) (n GZ (w xm) u)
def RQ:B:=n cY (n GP (w KS) u) (w o5)
def R6:B:=n dZ (n GJ (w cY) u) (n o1 (w o1) u)
def To:B:=n F4 (n o1 (w KQ) u) (w KG)
def Uc:B:=n o5 (n GC (w KU) u) (n Gg (w o1) u)
def Rv:B:=n FZ (n G0 (w w4) u) (w ID)
def Uu:B:=n Gi (n GU (w Jt) u) (n GG (w xE) u)
def Vv:B:=n Ge (n o5 (w LC) u) (w IT)
def Vb:B:=n Gd (n dZ (w o1) u) (n GR (w o5) u)
def U1:B:=n o1 (n F8 (w wW) u) (w o1)
def Uw:B:=n F5 (n Gz (w o1) u) (n GI (w xR) u)
def Ur:B:=n F9 (n F2 (w o1) u) (w JZ)
def Uq:B:=n o1 (n G7 (w K3) u) (n Gs (w wU) u)
def Tv:B:=n o1 (n cY (w o5) u) (w JT)
def Wg:B:=n G1 (n o1 (w Ia) u) (n GW (w xJ) u)
def T8:B:=n G5 (n o1 (w LA) u) (w cY)
def RT:B:=n Gm (n Gh (w La) u) (n GN (w o1) u)
def Td:B:=n F7 (n Gb (w o1) u) (w IA)
def S3:B:=n cY (n GS (w Lq) u) (n o5 (w o5) u)
def Vf:B:=n Gf (n F6 (w LO) u) (w Jx)
def U_:B:=n GB (n o1 (w o1) u) (n Gx (w wu) u)
def Rb:B:=n Gv (n dZ (w o1) u) (w JL)
def Wd:B:=n F0 (n F1 (w dZ) u) (n GH (w x8) u)
def VO:B:=n GQ (n Gn (w KW) u) (w o1)
def RK:B:=n o1 (n cY (w o5) u) (n GX (w wL) u)
def Va:B:=n Gu (n Gp (w xX) u) (w Kz)
def UX:B:=n o1 (n Gy (w K9) u) (n o1 (w wV) u)
def T4:B:=n dZ (n GA (w o5) u) (w o1)
def Rw:B:=n GO (n Gw (w Li) u) (n GV (w wm) u)
def TN:B:=n o5 (n G6 (w xh) u) (w JD)
def rL:Params->BT:=(n boot_o_0 (n boot_o_1 (n Vy (n boot_o_7 (n o1 RW VB) (n cY Vp RQ)) (n o1 (n o7 R6 To) (n GL Uc Rv))) (n boot_o_5 (n boot_o_9 (n o6 Uu Vv) (n o1 Vb U1)) (n o3 (n o9 Uw Ur) (n o1 Uq Tv)))) (n boot_o_2 (n boot_o_4 (n boot_o_8 (n o5 Wg T8) (n Gk RT Td)) (n TJ (n o8 S3 Vf) (n Gj U_ Rb))) (n boot_o_6 (n boot_o_10 (n o1 Wd VO) (n o5 RK Va)) (n o4 (n Gr UX T4) (n GF Rw TN)))))
end HD
def PySem.W.Fast.tw665470921584933441:PySem.Params->PySem.W.BT:=HD.qS
theorem PySem.W.Fast.te665470921584933441:HD.qS=PySem.W.Fast.tw665470921584933441:=rfl
def PySem.W.Fast.tw1850138397817032652:PySem.Params->PySem.W.BT:=HD.qv
theorem PySem.W.Fast.te1850138397817032652:HD.qv=PySem.W.Fast.tw1850138397817032652:=rfl
def PySem.W.Fast.tw2727693596338904850:Nat:=0
theorem PySem.W.Fast.te2727693596338904850:True:=trivial
def PySem.W.Fast.tw4183962336857387102:PySem.Params->PySem.Heap:=HD.pL
theorem PySem.W.Fast.te4183962336857387102:HD.pL=PySem.W.Fast.tw4183962336857387102:=rfl
def PySem.W.Fast.tw17942260454288102228:PySem.Params->PySem.W.BT:=HD.qx
theorem PySem.W.Fast.te17942260454288102228:HD.qx=PySem.W.Fast.tw17942260454288102228:=rfl
def PySem.W.Fast.tw11577937145152840771:List PySem.Stmt:=HD.tW
theorem PySem.W.Fast.te11577937145152840771:HD.tW=PySem.W.Fast.tw11577937145152840771:=rfl
def PySem.W.Fast.tw14609316137359610447:List PySem.Stmt:=HD.uu
theorem PySem.W.Fast.te14609316137359610447:HD.uu=PySem.W.Fast.tw14609316137359610447:=rfl
def PySem.W.Fast.tw7386016737496995727:PySem.Params->PySem.W.BT:=HD.qC
theorem PySem.W.Fast.te7386016737496995727:HD.qC=PySem.W.Fast.tw7386016737496995727:=rfl
def PySem.W.Fast.tw14748404984729156812:List PySem.Stmt:=HD.tO
theorem PySem.W.Fast.te14748404984729156812:HD.tO=PySem.W.Fast.tw14748404984729156812:=rfl
def PySem.W.Fast.tw13289281087015662487:PySem.Program:=HD.tX
theorem PySem.W.Fast.te13289281087015662487:HD.tX=PySem.W.Fast.tw13289281087015662487:=rfl
def PySem.W.Fast.tw9448860458412920862:PySem.Params->PySem.W.BT:=HD.qA
theorem PySem.W.Fast.te9448860458412920862:HD.qA=PySem.W.Fast.tw9448860458412920862:=rfl
def PySem.W.Fast.tw13028763473582040052:PySem.Params->PySem.W.BT:=HD.qi
theorem PySem.W.Fast.te13028763473582040052:HD.qi=PySem.W.Fast.tw13028763473582040052:=rfl
def PySem.W.Fast.tw15103570468576423347:PySem.Params->PySem.W.BT:=HD.qO
theorem PySem.W.Fast.te15103570468576423347:HD.qO=PySem.W.Fast.tw15103570468576423347:=rfl
def PySem.W.Fast.tw14222488644027406626:PySem.Params->PySem.W.BT:=HD.qp
theorem PySem.W.Fast.te14222488644027406626:HD.qp=PySem.W.Fast.tw14222488644027406626:=rfl
def PySem.W.Fast.tw2260901698262219129:List PySem.Stmt:=HD.uw
theorem PySem.W.Fast.te2260901698262219129:HD.uw=PySem.W.Fast.tw2260901698262219129:=rfl
def PySem.W.Fast.tw8802815021444215445:List PySem.Stmt:=HD.tP
theorem PySem.W.Fast.te8802815021444215445:HD.tP=PySem.W.Fast.tw8802815021444215445:=rfl
def PySem.W.Fast.tw2749289598839833984:PySem.Params->PySem.W.BT:=HD.rL
theorem PySem.W.Fast.te2749289598839833984:HD.rL=PySem.W.Fast.tw2749289598839833984:=rfl
end
open PySem PySem.W PyProof.Rows
set_option maxRecDepth 100000 in
set_option maxHeartbeats 0 in
theorem PySem.Challenge.cw_tailrooms_k37_refused_in_order_holds : PySem.Challenge.rw_tailrooms_k37_refused_in_order.Holds := by
  w_on; o_law; k_head; (case hw=>w_witness2)
  k_fill
  refine Law.walk (l:=PySem.Challenge.rw_tailrooms_k37_refused_in_order) rfl rfl (fun w h Y=>PySem.W.kIn_of Y) ?F
  case F =>
    intro w mg fa h KX G hmg
    refine' Law.all_mk KX G hmg ?aC ?pg ?hd ?po ?sa ?mk ?kc ?n_wide ?n_fill ?n_held ?ga0 ?ga1 ?ga2 ?ga3 ?ga4 ?ga5 ?ga6 ?ga7 ?ga8 ?ga9 ?ga10 ?ga11 ?ga12 ?ga13 ?ga14 ?ga15 ?ga16 ?ga17 ?ga18 ?ga19 ?ga20 ?ga21 ?ga22 ?ga23 ?ga24 ?ga25 ?ga26 ?ga27 ?ga28 ?ga29 ?ga30 ?ga31 ?ga32 ?ga33 ?ga34 ?ga35 ?ga36 ?ga37 ?ga38 ?ga39 ?ga40 ?ga41 ?ga42 ?ga43 ?ga44 ?ga45 ?ga46 ?ga47 ?ga48 ?ga49 ?ga50 ?ga51 ?ga52 ?ga53 ?a54 ?l54 ?c54 ?k54 ?gT ?gx_Full ?gx_Lacking ?gx_NoKey ?gx_NoRoom ?gx_NoSize ?gx_NoThing ?kt_tab ?kt_top ?z_isinstance ?z_int ?z_bool ?z_str ?z_all ?z_len ?z_max ?z_range ?z_sorted ?z_sum ?z_list ?z_abs ?z_min ?z_ValueError ?z_MOST_KEYS
    (case aC=>walk_at"lk")
    (case pg=>walk_at"lk")
    (case hd=>walk_at"lk")
    (case po=>walk_at"lk")
    (case sa=>walk_at"lk")
    (case mk=>walk_at"lk")
    (case kc=>walk_at"lk")
    (case n_wide=>walk_at"lk")
    (case n_fill=>walk_at"lk")
    (case n_held=>walk_at"lk")
    (case ga0=>walk_at"lk")
    (case ga1=>walk_at"lk")
    (case ga2=>walk_at"lk")
    (case ga3=>walk_at"lk")
    (case ga4=>walk_at"lk")
    (case ga5=>walk_at"lk")
    (case ga6=>walk_at"lk")
    (case ga7=>walk_at"lk")
    (case ga8=>walk_at"lk")
    (case ga9=>walk_at"lk")
    (case ga10=>walk_at"lk")
    (case ga11=>walk_at"lk")
    (case ga12=>walk_at"lk")
    (case ga13=>walk_at"lk")
    (case ga14=>walk_at"lk")
    (case ga15=>walk_at"lk")
    (case ga16=>walk_at"lk")
    (case ga17=>walk_at"lk")
    (case ga18=>walk_at"lk")
    (case ga19=>walk_at"lk")
    (case ga20=>walk_at"lk")
    (case ga21=>walk_at"lk")
    (case ga22=>walk_at"lk")
    (case ga23=>walk_at"lk")
    (case ga24=>walk_at"lk")
    (case ga25=>walk_at"lk")
    (case ga26=>walk_at"lk")
    (case ga27=>walk_at"lk")
    (case ga28=>walk_at"lk")
    (case ga29=>walk_at"lk")
    (case ga30=>walk_at"lk")
    (case ga31=>walk_at"lk")
    (case ga32=>walk_at"lk")
    (case ga33=>walk_at"lk")
    (case ga34=>walk_at"lk")
    (case ga35=>walk_at"lk")
    (case ga36=>walk_at"lk")
    (case ga37=>walk_at"lk")
    (case ga38=>walk_at"lk")
    (case ga39=>walk_at"lk")
    (case ga40=>walk_at"lk")
    (case ga41=>walk_at"lk")
    (case ga42=>walk_at"lk")
    (case ga43=>walk_at"lk")
    (case ga44=>walk_at"lk")
    (case ga45=>walk_at"lk")
    (case ga46=>walk_at"lk")
    (case ga47=>walk_at"lk")
    (case ga48=>walk_at"lk")
    (case ga49=>walk_at"lk")
    (case ga50=>walk_at"lk")
    (case ga51=>walk_at"lk")
    (case ga52=>walk_at"lk")
    (case ga53=>walk_at"lk")
    (case a54=>walk_at"lk")
    (case l54=>walk_at"lk")
    (case c54=>walk_at"lk")
    (case k54=>walk_at"lk")
    (case gT=>(refine' L2.OD.mk ?gTa ?gTl); (case gTa=>k_is); (case gTl=>k_is))
    (case gx_Full=>(refine' L2.yh.mk' (st:=L2.inClass (Law.top 8) 0) (p1:=_) ?xaC ?xlC ?xlT ?xl1 ?xn1 ?xl2 ?xn2 ?xi0 ?xi1 ?xi2 ?xi3 ?xi4 ?xi5 ?xt0 ?xt1 ?xt2 ?xt3 ?xt4 ?xt5 ?xhm ?xlf ?xhcd L2.Ir rfl ⟨rfl,rfl,rfl,by z_go,rfl,by z_go,by z_go⟩ (fun _=>rfl) (by z_go) (by z_go) (by z_go) (by z_go) (fun _ _ _ _ _ _ _ _ _ _ _ _=>.of_eq rfl)); (case xaC=>k_is); (case xlC=>k_is); (case xlT=>k_is); (case xl1=>k_is); (case xn1=>rfl); (case xl2=>k_is); (case xn2=>rfl); (case xi0=>k_is); (case xi1=>k_is); (case xi2=>k_is); (case xi3=>k_is); (case xi4=>k_is); (case xi5=>k_is); (case xt0=>k_is); (case xt1=>k_is); (case xt2=>k_is); (case xt3=>k_is); (case xt4=>k_is); (case xt5=>k_is); (case xhm=>k_is); (case xlf=>k_is); (case xhcd=>k_is))
    (case gx_Lacking=>(refine' L2.yh.mk' (st:=L2.inClass (Law.top 7) 0) (p1:=_) ?xaC ?xlC ?xlT ?xl1 ?xn1 ?xl2 ?xn2 ?xi0 ?xi1 ?xi2 ?xi3 ?xi4 ?xi5 ?xt0 ?xt1 ?xt2 ?xt3 ?xt4 ?xt5 ?xhm ?xlf ?xhcd L2.E3 rfl ⟨rfl,rfl,rfl,by z_go,rfl,by z_go,by z_go⟩ (fun _=>rfl) (by z_go) (by z_go) (by z_go) (by z_go) (fun _ _ _ _ _ _ _ _ _ _ _ _=>.of_eq rfl)); (case xaC=>k_is); (case xlC=>k_is); (case xlT=>k_is); (case xl1=>k_is); (case xn1=>rfl); (case xl2=>k_is); (case xn2=>rfl); (case xi0=>k_is); (case xi1=>k_is); (case xi2=>k_is); (case xi3=>k_is); (case xi4=>k_is); (case xi5=>k_is); (case xt0=>k_is); (case xt1=>k_is); (case xt2=>k_is); (case xt3=>k_is); (case xt4=>k_is); (case xt5=>k_is); (case xhm=>k_is); (case xlf=>k_is); (case xhcd=>k_is))
    (case gx_NoKey=>(refine' L2.yh.mk' (st:=L2.inClass (Law.top 4) 0) (p1:=_) ?xaC ?xlC ?xlT ?xl1 ?xn1 ?xl2 ?xn2 ?xi0 ?xi1 ?xi2 ?xi3 ?xi4 ?xi5 ?xt0 ?xt1 ?xt2 ?xt3 ?xt4 ?xt5 ?xhm ?xlf ?xhcd L2.E3 rfl ⟨rfl,rfl,rfl,by z_go,rfl,by z_go,by z_go⟩ (fun _=>rfl) (by z_go) (by z_go) (by z_go) (by z_go) (fun _ _ _ _ _ _ _ _ _ _ _ _=>.of_eq rfl)); (case xaC=>k_is); (case xlC=>k_is); (case xlT=>k_is); (case xl1=>k_is); (case xn1=>rfl); (case xl2=>k_is); (case xn2=>rfl); (case xi0=>k_is); (case xi1=>k_is); (case xi2=>k_is); (case xi3=>k_is); (case xi4=>k_is); (case xi5=>k_is); (case xt0=>k_is); (case xt1=>k_is); (case xt2=>k_is); (case xt3=>k_is); (case xt4=>k_is); (case xt5=>k_is); (case xhm=>k_is); (case xlf=>k_is); (case xhcd=>k_is))
    (case gx_NoRoom=>(refine' L2.yh.mk' (st:=L2.inClass (Law.top 6) 0) (p1:=_) ?xaC ?xlC ?xlT ?xl1 ?xn1 ?xl2 ?xn2 ?xi0 ?xi1 ?xi2 ?xi3 ?xi4 ?xi5 ?xt0 ?xt1 ?xt2 ?xt3 ?xt4 ?xt5 ?xhm ?xlf ?xhcd L2.B8 rfl ⟨rfl,rfl,rfl,by z_go,rfl,by z_go,by z_go⟩ (fun _=>rfl) (by z_go) (by z_go) (by z_go) (by z_go) (fun _ _ _ _ _ _ _ _ _ _ _ _=>.of_eq rfl)); (case xaC=>k_is); (case xlC=>k_is); (case xlT=>k_is); (case xl1=>k_is); (case xn1=>rfl); (case xl2=>k_is); (case xn2=>rfl); (case xi0=>k_is); (case xi1=>k_is); (case xi2=>k_is); (case xi3=>k_is); (case xi4=>k_is); (case xi5=>k_is); (case xt0=>k_is); (case xt1=>k_is); (case xt2=>k_is); (case xt3=>k_is); (case xt4=>k_is); (case xt5=>k_is); (case xhm=>k_is); (case xlf=>k_is); (case xhcd=>k_is))
    (case gx_NoSize=>(refine' L2.yh.mk' (st:=L2.inClass (Law.top 3) 0) (p1:=_) ?xaC ?xlC ?xlT ?xl1 ?xn1 ?xl2 ?xn2 ?xi0 ?xi1 ?xi2 ?xi3 ?xi4 ?xi5 ?xt0 ?xt1 ?xt2 ?xt3 ?xt4 ?xt5 ?xhm ?xlf ?xhcd L2.wF rfl ⟨rfl,rfl,rfl,by z_go,rfl,by z_go,by z_go⟩ (fun _=>rfl) (by z_go) (by z_go) (by z_go) (by z_go) (fun _ _ _ _ _ _ _ _ _ _ _ _=>.of_eq rfl)); (case xaC=>k_is); (case xlC=>k_is); (case xlT=>k_is); (case xl1=>k_is); (case xn1=>rfl); (case xl2=>k_is); (case xn2=>rfl); (case xi0=>k_is); (case xi1=>k_is); (case xi2=>k_is); (case xi3=>k_is); (case xi4=>k_is); (case xi5=>k_is); (case xt0=>k_is); (case xt1=>k_is); (case xt2=>k_is); (case xt3=>k_is); (case xt4=>k_is); (case xt5=>k_is); (case xhm=>k_is); (case xlf=>k_is); (case xhcd=>k_is))
    (case gx_NoThing=>(refine' L2.yh.mk' (st:=L2.inClass (Law.top 5) 0) (p1:=_) ?xaC ?xlC ?xlT ?xl1 ?xn1 ?xl2 ?xn2 ?xi0 ?xi1 ?xi2 ?xi3 ?xi4 ?xi5 ?xt0 ?xt1 ?xt2 ?xt3 ?xt4 ?xt5 ?xhm ?xlf ?xhcd L2.wF rfl ⟨rfl,rfl,rfl,by z_go,rfl,by z_go,by z_go⟩ (fun _=>rfl) (by z_go) (by z_go) (by z_go) (by z_go) (fun _ _ _ _ _ _ _ _ _ _ _ _=>.of_eq rfl)); (case xaC=>k_is); (case xlC=>k_is); (case xlT=>k_is); (case xl1=>k_is); (case xn1=>rfl); (case xl2=>k_is); (case xn2=>rfl); (case xi0=>k_is); (case xi1=>k_is); (case xi2=>k_is); (case xi3=>k_is); (case xi4=>k_is); (case xi5=>k_is); (case xt0=>k_is); (case xt1=>k_is); (case xt2=>k_is); (case xt3=>k_is); (case xt4=>k_is); (case xt5=>k_is); (case xhm=>k_is); (case xlf=>k_is); (case xhcd=>k_is))
    (case kt_tab=>first | k_is | kernel_rfl)
    (case kt_top=>first | k_is | kernel_rfl)
    (case z_isinstance=>walk_at"lk")
    (case z_int=>walk_at"lk")
    (case z_bool=>walk_at"lk")
    (case z_str=>walk_at"lk")
    (case z_all=>walk_at"lk")
    (case z_len=>walk_at"lk")
    (case z_max=>walk_at"lk")
    (case z_range=>walk_at"lk")
    (case z_sorted=>walk_at"lk")
    (case z_sum=>walk_at"lk")
    (case z_list=>walk_at"lk")
    (case z_abs=>walk_at"lk")
    (case z_min=>walk_at"lk")
    (case z_ValueError=>walk_at"lk")
    (case z_MOST_KEYS=>walk_at"lk")
