import PyProof.Rows.All
import Wide.All
import OpenK.AllK
import Wide.FinOn
import PyProof.EqAt
import PyProof.EqKinds
import PyProof.TupleCall
import PySem.Challenge.RW_tailrooms_k49_yards_and_steps_changed
set_option Elab.async false
set_option linter.all false
set_option maxRecDepth 100000
local macro_rules|`(tactic|z_go)=>`(tactic|decide +kernel)
set_option compiler.extract_closed false
local macro_rules | `(tactic| omega)=>`(tactic| first | lia | omega (config:={}))
abbrev Vi:=@List.length_map
abbrev Vj:=@List.getElem?_eq_some_iff
abbrev Vk:=@List.mem_of_getElem?
abbrev Vl:=@PySem.wpAny_bind
abbrev Vm:=@List.length_append
abbrev Vn:=@List.getElem?_eq_getElem
abbrev Vo:=@List.map_append
abbrev Vp:=@List.getElem?_map
abbrev Vq:=@List.mem_map
abbrev Vr:=@List.mem_cons_of_mem
abbrev Vs:=@List.getElem?_append_right
abbrev Vt:=@Nat.le_refl
abbrev Vu:=@PySem.Heap.get?_push_of_some
abbrev Vv:=@Nat.le_trans
abbrev Vw:=@List.length_take
abbrev Vx:=@List.getElem?_append_left
abbrev Vy:=@List.mem_cons_self
abbrev Vz:=@PySem.wpAny_pure
abbrev VA:=@List.take_length
abbrev VB:=@if_pos
abbrev VC:=@Option.some.inj
abbrev VD:=@List.mem_append_right
abbrev VE:=@List.getElem?_of_mem
abbrev VF:=@if_neg
abbrev VG:=@PySem.Heap.lt_size
abbrev VH:=@List.mem_append
abbrev VI:=@Bool.false_ne_true
abbrev VJ:=@List.size_toArray
abbrev VL:=@List.length_filter_le
abbrev VM:=@List.mem_singleton
abbrev VN:=@Nat.ne_of_lt
abbrev VO:=@PySem.F.plainAttrs_list
abbrev VP:=@PySem.F.slot_list_append
abbrev VQ:=@PySem.F.type_list_append
abbrev VR:=@decide_eq_false
abbrev VS:=@Nat.zero_le
abbrev VT:=@Nat.lt_of_lt_of_le
abbrev VU:=@List.append_assoc
abbrev VV:=@List.pairwise_map
abbrev VW:=@List.mem_cons
abbrev VX:=@decide_eq_true
abbrev VY:=@List.map_cons
abbrev VZ:=@List.mem_flatten
abbrev V0:=@PySem.Heap.get?_push_size
abbrev V1:=@PyProof.Rows.wpS_bind
abbrev V2:=@PySem.PassesOwn.never
abbrev V3:=@List.length_reverse
abbrev V4:=@List.map_map
abbrev V5:=@List.append_nil
abbrev V6:=@List.nodup_cons
abbrev V7:=@List.getElem?_eq_none
abbrev V8:=@List.take_of_length_le
abbrev V9:=@PySem.W.mg_of
abbrev Wa:=@List.map_congr_left
abbrev Wb:=@List.nodup_append
abbrev Wc:=@PySem.wpAny_mono
abbrev Wd:=@PyProof.Rows.wpS_pure
abbrev We:=@List.not_mem_nil
abbrev Wf:=@congrArg
abbrev Wg:=@List.ext_getElem?
abbrev Wh:=@List.take_append_drop
abbrev Wi:=@List.mem_filter
abbrev Wj:=@List.length_drop
abbrev Wk:=@List.length_cons
abbrev Wl:=@List.drop_eq_nil_of_le
abbrev Wm:=@Int.emod_lt_of_pos
abbrev Wn:=@List.length_singleton
abbrev Wo:=@List.flatten_append
abbrev Wq:=@List.nodup_iff_pairwise_ne
abbrev Wr:=@List.mem_append_left
abbrev Ws:=@Option.map_eq_some_iff
abbrev Wt:=@PySem.wpAny_holding
abbrev Wu:=@Bool.eq_iff_iff
abbrev Wv:=@List.lookup_cons
abbrev Ww:=@List.map_reverse
abbrev Wx:=@Int.toNat_natCast
abbrev Wy:=@List.eq_nil_of_length_eq_zero
abbrev Wz:=@Nat.lt_irrefl
abbrev WA:=@Int.emod_nonneg
abbrev WB:=@List.pairwise_cons
abbrev WC:=@List.filter_append
abbrev WD:=@PyProof.Rows.reverseSlice'_eq
abbrev WE:=@PySem.Heap.size_update
abbrev WG:=@List.getElem?_modify
abbrev WH:=@List.mem_of_mem_take
abbrev WI:=@PySem.wpAny_truthy_bool
abbrev WJ:=@PySem.Heap.get?_push_ne
abbrev WK:=@List.filterMap_cons
abbrev WL:=@PySem.mem_of_lookup
abbrev WM:=@Nat.min_eq_left
abbrev WN:=@Nat.lt_of_le_of_lt
abbrev WO:=@List.getElem?_take
abbrev WQ:=@of_decide_eq_false
abbrev WR:=@List.filter_cons
abbrev WS:=@List.mem_reverse
abbrev WT:=@PyProof.Rows.wpS_forRange
abbrev WU:=@List.length_range
abbrev WV:=@of_decide_eq_true
abbrev WW:=@Array.length_toList
abbrev WX:=@Nat.le_of_lt
abbrev WY:=@PyProof.Rows.callWith_type1
abbrev WZ:=@PySem.Heap.get?_update_other
abbrev W0:=@PySem.W.mg_none_of
abbrev W3:=@PyProof.Rows.wpS_modify
abbrev W4:=@Array.getElem?_toList
abbrev W5:=@List.mem_or_eq_of_mem_set
abbrev W6:=@PySem.wpAny_passesOwn
abbrev W7:=@PySem.wpAny_newObj_type
abbrev W8:=@List.getElem?_set
abbrev W9:=@List.take_add_one
abbrev Xc:=@PySem.wpAny_standAt
abbrev Xd:=@List.map_take
abbrev Xe:=@beq_eq_false_iff_ne
abbrev Xf:=@List.mem_range
abbrev Xg:=@Bool.and_eq_true
abbrev Xh:=@Int.mul_le_mul_of_nonneg_right
abbrev Xi:=@List.mem_filterMap
abbrev Xj:=@List.getElem?_drop
abbrev Xl:=@PySem.wpAny_rule
abbrev Xm:=@List.length_set
abbrev Xn:=@List.length_replicate
abbrev Xo:=@PySem.Heap.get?_update_self
abbrev Xp:=@List.Perm.append_left
abbrev Xq:=@Int.emod_eq_of_lt
abbrev Xr:=@Int.pow_succ
abbrev Xs:=@Nat.sub_self
abbrev Xu:=@List.pairwise_iff_getElem
abbrev Xv:=@List.getElem?_eq_none_iff
abbrev Xw:=@List.length_pos_iff
abbrev Xx:=@List.any_cons
abbrev Xy:=@PySem.wpAny_comprehension_free
abbrev Xz:=@PyProof.Rows.wpS_mono
abbrev XC:=@List.filter_map
abbrev XD:=@List.length_modify
abbrev XE:=@Nat.ne_of_gt
abbrev XF:=@List.flatten_cons
abbrev XG:=@Nat.lt_succ_of_lt
abbrev XH:=@PyProof.Rows.pairsOf_toList
abbrev XI:=@List.foldl_append
abbrev XJ:=@List.nodup_nil
abbrev XM:=@List.filter_congr
abbrev XN:=@Nat.lt_succ_self
abbrev XO:=@PySem.Paired.length
abbrev XQ:=@List.map_drop
abbrev XR:=@Nat.le_succ
namespace L2
open PySem PySem.Spec PyProof.Rows
abbrev Key:=Sum Int Str
def qY:Key->Value->Bool
 | .inl k,v=>Value.isInt k v
 | .inr x,v=>Value.isStrOf x v
def Th (w:World):Key->Int
 | .inl k=>hashInt k
 | .inr x=>hashStr w x
theorem cy:∀{k:Key}{v:Value},qY k v=true->(∃i t,k=Sum.inl i/\v=Value.int i t) \/(∃x t,k=Sum.inr x/\v=Value.str x t)
 | .inl i,v,h=>by
  obtain⟨t,e⟩:=Value.isInt_shape (k:=i) (v:=v) h
  exact .inl ⟨i,t,rfl,e⟩
 | .inr x,v,h=>by
  obtain⟨t,e⟩:=Value.isStrOf_shape (x:=x) (v:=v) h
  exact .inr ⟨x,t,rfl,e⟩
theorem A0 (i:Int) (t:Tok):qY (.inl i) (.int i t)=true:=by simp[qY,Value.isInt]
theorem Bq (x:Str) (t:Tok):qY (.inr x) (.str x t)=true:=by simp[qY,Value.isStrOf]
theorem JJ (a b:Int):decide ((Sum.inl a:Key)=Sum.inl b) =(a == b):=by
 by_cases e:a=b
 ·subst e;simp
 ·have h:¬(Sum.inl a:Key)=Sum.inl b:=fun q=>e (Sum.inl.inj q)
  rw[VR h]
  exact(Xe.mpr e).symm
theorem IF (a b:Str):decide ((Sum.inr a:Key)=Sum.inr b)=decide (a=b):=by
 by_cases e:a=b
 ·subst e;simp
 ·have h:¬(Sum.inr a:Key)=Sum.inr b:=fun q=>e (Sum.inr.inj q)
  rw[VR h,VR e]
theorem JE (a:Int) (b:Str):decide ((Sum.inl a:Key)=Sum.inr b)=false:=VR (fun q=>nomatch q)
theorem JC (a:Str) (b:Int):decide ((Sum.inr a:Key)=Sum.inl b)=false:=VR (fun q=>nomatch q)
def bV (prog:Program) (w:World):PySem.KeyKind prog w Key where
 is:=qY
 hash:=Th w
 inj:=fun v a b ha hb=>by
  rcases cy ha with⟨i,t,rfl,rfl⟩|⟨x,t,rfl,rfl⟩
  ·rcases cy hb with⟨j,u,rfl,e⟩|⟨y,u,rfl,e⟩
   ·injection e with e1 _;rw[e1]
   ·exact nomatch e
  ·rcases cy hb with⟨j,u,rfl,e⟩|⟨y,u,rfl,e⟩
   ·exact nomatch e
   ·injection e with e1 _;rw[e1]
 byValue:=fun k v h=>by
  rcases cy h with⟨i,t,rfl,rfl⟩|⟨x,t,rfl,rfl⟩ <;> rfl
 pyHash:=fun hv h=>by
  rcases cy hv with⟨i,t,rfl,rfl⟩|⟨x,t,rfl,rfl⟩
  ·exact wpAny_pyHash_int h
  ·exact wpAny_pyHash_str h
 eqBool:=fun hu hv h=>by
  rcases cy hu with⟨i,t,rfl,rfl⟩|⟨x,t,rfl,rfl⟩
  ·rcases cy hv with⟨j,u,rfl,rfl⟩|⟨y,u,rfl,rfl⟩
   ·rw[JJ]at h;exact wpAny_eqBool_int h
   ·rw[JE]at h;exact SeqAt.EqAt.int_str i t y u _ _ _ _ h
  ·rcases cy hv with⟨j,u,rfl,rfl⟩|⟨y,u,rfl,rfl⟩
   ·rw[JC]at h;exact SeqAt.EqAt.str_int x t j u _ _ _ _ h
   ·rw[IF]at h;exact wpAny_eqBool_str h
 «strs»:=fun k x t v h=>by
  rcases cy h with⟨i,u,rfl,e⟩|⟨y,u,rfl,e⟩
  ·exact nomatch e
  ·injection e with e1 _
   subst e1
   cases v <;> rfl
theorem yM (prog:Program) (w:World) (k:Key) (v:Value):(bV prog w).is k v=qY k v:=rfl
theorem vX (prog:Program) (w:World) (i:Int) (t:Tok):(bV prog w).is (.inl i) (.int i t)=true:=A0 i t
theorem vS (prog:Program) (w:World) (x:Str) (t:Tok):(bV prog w).is (.inr x) (.str x t)=true:=Bq x t
inductive V where
 | non|bl (b:Bool)|int (i:Int)|str (x:Str)|byt (b:Array UInt8)|flt (b:UInt64)|ref (a:Addr)|ty (n:String)
 deriving DecidableEq
def RelV:V->Value->Prop
 | .non,u=>u=Value.none
 | .bl b,u=>u=Value.bool b
 | .int i,u=>∃t,u=Value.int i t
 | .str x,u=>∃t,u=Value.str x t
 | .byt b,u=>∃t,u=Value.bytes b t
 | .flt b,u=>∃t,u=Value.float b t
 | .ref a,u=>u=Value.ref a
 | .ty n,u=>u=Value.type n
abbrev Vals:List V->List Value->Prop:=Paired RelV
theorem Vals.length {xs:List V}{us:List Value}(r:Vals xs us):xs.length=us.length:=XO r
theorem Vals.get:∀{xs:List V}{us:List Value}{i:Nat}{x:V},Vals xs us->xs[i]? = some x->∃u,us[i]? = some u/\RelV x u
 | _,_,_,_,.nil,e=>by simp at e
 | _,_,0,_,.cons r _,e=>by simp at e;subst e;exact⟨_,rfl,r⟩
 | _,_,i+1,x,.cons _ t,e=>by
  obtain⟨u,h1,h2⟩:=Vals.get (i:=i) (x:=x) t (by simpa using e)
  exact⟨u,by simpa using h1,h2⟩
theorem Vals.set {x:V}{u:Value}(r:RelV x u):∀{xs:List V}{us:List Value}(i:Nat),Vals xs us->Vals (xs.set i x) (us.set i u)
 | _,_,_,.nil=>.nil
 | _,_,0,.cons _ t=>.cons r t
 | _,_,i+1,.cons q t=>.cons q (Vals.set r i t)
theorem Vals.append:∀{xs ys:List V}{us ws:List Value},Vals xs us->Vals ys ws->Vals (xs++ys) (us++ws)
 | _,_,_,_,.nil,s=>s
 | _,_,_,_,.cons r t,s=>.cons r (Vals.append t s)
theorem Vals.take:∀{xs:List V}{us:List Value}(n:Nat),Vals xs us->Vals (xs.take n) (us.take n)
 | _,_,0,_=>.nil
 | _,_,_+1,.nil=>.nil
 | _,_,n+1,.cons r t=>.cons r (Vals.take n t)
theorem Vals.drop:∀{xs:List V}{us:List Value}(n:Nat),Vals xs us->Vals (xs.drop n) (us.drop n)
 | _,_,0,r=>r
 | _,_,_+1,.nil=>.nil
 | _,_,n+1,.cons _ t=>Vals.drop n t
def nA:Option V->Option Value->Prop
 | some v,some u=>RelV v u
 | none,none=>True
 | _,_=>False
def KV {κ:Type}:List (κ×V)->List (κ×Value)->Prop:=Paired fun(p:κ×V) (q:κ×Value)=>p.1=q.1/\RelV p.2 q.2
def kV:Key->V
 | .inl i=>.int i
 | .inr x=>.str x
inductive HO where
 | lst (xs:List V)
 | tup (xs:List V)
 | dK (kvs:List (Key×V))|dT (kvs:List (List Key×V))
 | set (S:Int->Bool) (n:Nat)
 | ins (C dx:Addr) (fs:List (Str×V))
 | own (x:Addr)
 | xd (fs:List (Str×V))
 | met (f x:Addr)
 | rng (lo hi:Int)
 | frz (o:Obj) (u:HO)
 | tbl (ps:Array Value)
 | ext (φ:Heap->Prop)
abbrev Hp:=Addr->Option HO
def upd (H:Hp) (a:Addr) (o:HO):Hp:=fun b=>if b=a then some o else H b
theorem aq {H:Hp}{a:Addr}{o:HO}:upd H a o a=some o:=by unfold upd;rw[VB rfl]
theorem ao {H:Hp}{a b:Addr}{o:HO}(h:b≠a):upd H a o b=H b:=by unfold upd;rw[VF h]
theorem ju {H:Hp}{a b:Addr}{o u:HO}(h:H a=some o) (h':H b=some u) (d:o≠u):a≠b:=by
 intro e;subst e;rw[h]at h';exact d (VC h')
theorem au {H:Hp}{a b:Addr}{o:HO}(h:H a=some o) (h':H b=none):a≠b:=by
 intro e;subst e;rw[h]at h';cases h'
section
variable (P:Program) (w:World)
def dJ (H:Hp) (h:Heap) (a:Addr):HO->Prop
 | .lst xs=>xs.length<=sizeLine/\∃(its:List Value) (n:Nat),Vals xs its/\h.get? a=some { cls:=.type "list",data:=.seq its.toArray n }
 | .tup xs=>xs.length<=sizeLine/\∃its:List Value,Vals xs its/\IsTup h a its.toArray
 | .dK kvs=>kvs.length<=sizeLine/\(a == sysModules)=false/\∃vs,KV kvs vs/\h.DictOf (bV P w) a vs
 | .dT kvs=>kvs.length<=sizeLine/\(a == sysModules)=false/\∃xs:List (List Key×Addr×Value),
   Paired (fun(p:List Key×V) (q:List Key×Addr×Value)=>p.1=q.1/\H q.2.1=some (.tup (p.1.map kV))/\RelV p.2 q.2.2) kvs xs /\
   ∃o es ep,h.get? a=some o/\o.ExactDict/\o.data = .dict es ep/\es.toList=xs.map (entryOfKey (tupleKind (bV P w)))/\(xs.map (·.1)).Nodup
 | .set S n=>h.SetOf (intKind P w) a S n
 | .ins C dx fs=>H dx=some (.own a)/\fs.length<=1000/\dx≠a/\h.get? a=some (PySem.W.instObj C dx) /\
   ∃mA,h.Ns1 dx mA/\(∀f,nA (fs.lookup f) (mA f))/\PySem.Within mA (fs.map (·.1))
 | .own _=>∃o,h.get? a=some o
 | .xd fs=>∃mA,h.Ns1 a mA/\∀f,nA (fs.lookup f) (mA f)
 | .rng lo hi=>∃t u v,h.get? a=some { cls:=.type "range",data:=.fields #[.int lo t,.int hi u,.int 1 v] }
 | .frz o u=>h.get? a=some o/\dJ H h a u
 | .tbl ps=>h.get? a=some { cls:=.none,data:=.fields ps }
 | .met f x=>h.get? a=some (PySem.W.methodObj (.ref f) (.ref x))
 | .ext φ=>φ h/\(∃o,h.get? a=some o)/\∀h1 h2:Heap,φ h1->(∀o,h1.get? a=some o->h2.get? a=some o)->φ h2
def mR (H:Hp) (h:Heap):Prop:=∀a o,H a=some o->dJ P w H h a o
end
section
variable {P:Program}{w:World}{H H':Hp}{h h':Heap}{a:Addr}{o:HO}
theorem dJ.lt (x:dJ P w H h a o):a<h.objs.size:=by
 cases o with
 | lst xs=>obtain⟨_,_,_,_,e⟩:=x;exact VG e
 | tup xs=>obtain⟨_,_,_,p⟩:=x;exact p.lt
 | dK kvs=>obtain⟨_,_,_,_,o,_,_,e,_⟩:=x;exact VG e
 | dT kvs=>obtain⟨_,_,_,_,o,_,_,e,_⟩:=x;exact VG e
 | set S n=>obtain⟨o,_,_,_,e,_⟩:=x;exact VG e
 | ins C dx fs=>obtain⟨_,_,_,e,_⟩:=x;exact VG e
 | own y=>obtain⟨_,e⟩:=x;exact VG e
 | xd fs=>obtain⟨_,⟨_,_,_,e,_⟩,_⟩:=x;exact VG e
 | rng lo hi=>obtain⟨_,_,_,e⟩:=x;exact VG e
 | frz ob u=>obtain⟨e,_⟩:=x;exact VG e
 | tbl ps=>exact VG (show h.get? a=some _ from x)
 | met f y=>exact VG (show h.get? a=some _ from x)
 | ext φ=>obtain⟨_,⟨_,e⟩,_⟩:=x;exact VG e
theorem Paired.mapP {α β:Type}{F G:α->β->Prop}:∀{l₁:List α}{l₂:List β},Paired F l₁ l₂->(∀a b,F a b->G a b)->Paired G l₁ l₂
 | _,_,.nil,_=>.nil
 | _,_,.cons r t,f=>.cons (f _ _ r) (Paired.mapP t f)
theorem dJ.stay (x:dJ P w H h a o) (k:∀b u,(b=a\/H b=some (.own a))->h.get? b=some u->h'.get? b=some u)
  (ho:∀b,H b=some (.own a)->H' b=some (.own a)) (ht:∀b xs,H b=some (.tup xs)->H' b=some (.tup xs)):dJ P w H' h' a o:=by
 induction o with
 | lst xs=>obtain⟨z,its,n,r,e⟩:=x;exact⟨z,its,n,r,k _ _ (.inl rfl) e⟩
 | tup xs=>obtain⟨z,its,r,ob,e,c⟩:=x;exact⟨z,its,r,ob,k _ _ (.inl rfl) e,c⟩
 | dK kvs=>obtain⟨z,y,vs,r,ob,es,ep,e,c⟩:=x;exact⟨z,y,vs,r,ob,es,ep,k _ _ (.inl rfl) e,c⟩
 | dT kvs =>
  obtain⟨z,y,xs,r,ob,es,ep,e,c⟩:=x
  exact⟨z,y,xs,Paired.mapP r fun p q z=>⟨z.1,ht _ _ z.2.1,z.2.2⟩,ob,es,ep,k _ _ (.inl rfl) e,c⟩
 | set S n=>obtain⟨ob,es,ep,t,e,c⟩:=x;exact⟨ob,es,ep,t,k _ _ (.inl rfl) e,c⟩
 | ins C dx fs =>
  obtain⟨d,z,ne,e,mA,⟨od,es,ep,e2,c⟩,r⟩:=x
  exact⟨ho _ d,z,ne,k _ _ (.inl rfl) e,mA,⟨od,es,ep,k _ _ (.inr d) e2,c⟩,r⟩
 | own y=>obtain⟨ob,e⟩:=x;exact⟨ob,k _ _ (.inl rfl) e⟩
 | xd fs=>obtain⟨mA,⟨od,es,ep,e,c⟩,r⟩:=x;exact⟨mA,⟨od,es,ep,k _ _ (.inl rfl) e,c⟩,r⟩
 | rng lo hi=>obtain⟨t,u,v,e⟩:=x;exact⟨t,u,v,k _ _ (.inl rfl) e⟩
 | frz ob u ih=>obtain⟨e,q⟩:=x;exact⟨k _ _ (.inl rfl) e,ih q⟩
 | tbl ps =>
  have e:h.get? a=some { cls:=.none,data:=.fields ps }:=x
  show h'.get? a=some { cls:=.none,data:=.fields ps }
  exact k a _ (.inl rfl) e
 | met f y =>
  have e:h.get? a=some (PySem.W.methodObj (.ref f) (.ref y)):=x
  show h'.get? a=some (PySem.W.methodObj (.ref f) (.ref y))
  exact k a _ (.inl rfl) e
 | ext φ=>obtain⟨p,⟨o,e⟩,st⟩:=x;exact⟨st _ _ p fun o q=>k _ _ (.inl rfl) q,⟨o,k _ _ (.inl rfl) e⟩,st⟩
theorem mR.lt (x:mR P w H h) (e:H a=some o):a<h.objs.size:=(x a o e).lt
theorem mR.fresh (x:mR P w H h) (e:h.objs.size<=a):H a=none:=by
 cases q:H a with
 | none=>rfl
 | some u=>exact absurd (VT (x.lt q) e) (Wz _)
theorem mR.kept (x:mR P w H h) (k:∀b u,h.get? b=some u->h'.get? b=some u):mR P w H h':=fun a o e =>
 (x a o e).stay (fun b u _ q=>k b u q) (fun _ q=>q) fun _ _ q=>q
theorem mR.laid (x:mR P w H h) (k:∀b u,h.get? b=some u->h'.get? b=some u) (hp:h.objs.size<=a) (new:dJ P w (upd H a o) h' a o):mR P w (upd H a o) h':=fun b u e=>by
 have hn:=x.fresh hp
 by_cases hb:b=a
 ·subst hb;rw[aq]at e;cases e;exact new
 ·rw[ao hb]at e
  exact(x b u e).stay (fun c v _ q=>k c v q) (fun c q=>by rw[ao (au q hn)];exact q) fun c xs q=>by rw[ao (au q hn)];exact q
end
def Rd (H:Hp) (a:Addr) (u:HO):Prop:=H a=some u \/ ∃o,H a=some (.frz o u)
theorem Rd.ok {P:Program}{w:World}{H:Hp}{h:Heap}{a:Addr}{u:HO}(r:Rd H a u) (x:mR P w H h):dJ P w H h a u:=by
 rcases r with r|⟨o,r⟩
 ·exact x a u r
 ·obtain⟨_,q⟩:=x a _ r
  exact q
def Ob:Option HO->Prop
 | some (.lst _)=>True
 | some (.dK _)=>True
 | some (.dT _)=>True
 | some (.set _ _)=>True
 | some (.ins _ _ _)=>True
 | some (.ext _)=>True
 | _=>False
section
variable {P:Program}{w:World}{H:Hp}{h h':Heap}{x e:Addr}{o':HO}
theorem mR.write (ok:mR P w H h) (mu:Ob (H x)) (he:e=x\/H e=some (.own x)) (k:∀b u,b≠e->h.get? b=some u->h'.get? b=some u) (heo:∃u,h'.get? e=some u)
  (new:dJ P w (upd H x o') h' x o'):mR P w (upd H x o') h':=fun b u q=>by
 have nown:∀c y,H c=some (.own y)->c≠x:=fun c y r z=>by subst z;rw[r]at mu;exact mu
 have ntup:∀c xs,H c=some (.tup xs)->c≠x:=fun c xs r z=>by subst z;rw[r]at mu;exact mu
 by_cases hb:b=x
 ·subst hb;rw[aq]at q;cases q;exact new
 ·rw[ao hb]at q
  by_cases hbe:b=e
  ·have q':H b=some (.own x):=by
    rcases he with z|z
    ·exact absurd (hbe.trans z) hb
    ·rw[hbe];exact z
   rw[q]at q';cases q'
   obtain⟨v,hv⟩:=heo
   exact⟨v,by rw[hbe];exact hv⟩
  ·refine(ok b u q).stay (fun c v hc r=>k c v ?_ r) (fun c r=>by rw[ao (nown c b r)];exact r) fun c xs r=>by rw[ao (ntup c xs r)];exact r
   rcases hc with rfl|hc
   ·exact hbe
   ·rintro rfl
    rcases he with z|z
    ·exact nown c b hc z
    ·rw[hc]at z;cases z;exact hb rfl
end
structure Un (fs ex:List Addr) (H H':Hp) (h h':Heap):Prop where
 keep:∀b o,h.get? b=some o->H b=none->b∉fs->b∉ex->h'.get? b=some o
 slot:∀b o,h.get? b=some o->H b=none->b∈fs->b∉ex->∃sl,h'.get? b=some { o with slots:=sl }
 free:∀b o,h.get? b=some o->H b=none->b∉ex->H' b=none
 there:∀b o,h.get? b=some o->b∉ex->∃o',h'.get? b=some o'
 tups:∀b xs,H b=some (.tup xs)->H' b=some (.tup xs)
 frzs:∀b o u,H b=some (.frz o u)->H' b=some (.frz o u)
 tbls:∀b ps,H b=some (.tbl ps)->∃more,H' b=some (.tbl (ps++more))
section
variable {fs fs' ex ex':List Addr}{H H1 H2:Hp}{h h1 h2 h':Heap}{a x e:Addr}{o:HO}
theorem Un.any (u:Un fs ex H H1 h h1) {b:Addr}{ob:Obj}(q:h.get? b=some ob) (n:H b=none) (hx:b∉ex):∃sl,h1.get? b=some { ob with slots:=sl }:=by
 by_cases hb:b∈fs
 ·exact u.slot b ob q n hb hx
 ·exact⟨ob.slots,u.keep b ob q n hb hx⟩
theorem Un.kept (k:∀b u,h.get? b=some u->h'.get? b=some u):Un fs ex H H h h' :=
 ⟨fun b ob q _ _ _=>k b ob q,fun b ob q _ _ _=>⟨ob.slots,k b ob q⟩,fun _ _ _ n _=>n,fun b ob q _=>⟨ob,k b ob q⟩,fun _ _ q=>q,fun _ _ _ q=>q,fun _ ps q=>⟨#[],by rw[q];simp⟩⟩
theorem Un.refl:Un fs ex H H h h:=Un.kept fun _ _ q=>q
theorem Un.laid (k:∀b u,h.get? b=some u->h'.get? b=some u) (hp:h.objs.size<=a) (hn:H a=none):Un fs ex H (upd H a o) h h' where
 keep:=fun b u q _ _ _=>k b u q
 slot:=fun b u q _ _ _=>⟨u.slots,k b u q⟩
 free:=fun b u q n _=>by rw[ao (VN (VT (VG q) hp))];exact n
 there:=fun b u q _=>⟨u,k b u q⟩
 tups:=fun b xs q=>by rw[ao (au q hn)];exact q
 frzs:=fun b u xs q=>by rw[ao (au q hn)];exact q
 tbls:=fun b ps q=>⟨#[],by rw[ao (au q hn),q];simp⟩
theorem Un.write (mu:Ob (H x)) (he:e=x\/H e=some (.own x)) (k:∀b u,b≠e->h.get? b=some u->h'.get? b=some u) (heo:∃u,h'.get? e=some u):Un fs ex H (upd H x o) h h':=by
 have hx:∀b,H b=none->b≠x:=fun b n z=>by subst z;rw[n]at mu;exact mu
 have hb:∀b,H b=none->b≠e:=fun b n z=>by
  subst z
  rcases he with r|r
  ·exact hx b n r
  ·rw[n]at r;cases r
 have hm:∀b u,H b=some u->¬ Ob (some u)->b≠x:=fun b u q nm z=>by subst z;rw[q]at mu;exact nm mu
 refine⟨fun b u q n _ _=>k b u (hb b n) q,fun b u q n _ _=>⟨u.slots,k b u (hb b n) q⟩,fun b u q n _=>by rw[ao (hx b n)];exact n,fun b u q _=>?_,
  fun b xs q=>by rw[ao (hm b _ q fun z=>z)];exact q,fun b u xs q=>by rw[ao (hm b _ q fun z=>z)];exact q,fun b ps q=>⟨#[],by rw[ao (hm b _ q fun z=>z),q];simp⟩⟩
 by_cases hbe:b=e
 ·subst hbe;exact heo
 ·exact⟨u,k b u hbe q⟩
end
def QI (h:Heap) (H:Hp):List Addr:=(List.range h.objs.size).filter fun a=>(H a).isSome
def vd (h:Heap) (H:Hp):Heap:=PySem.W.hideAll h (QI h H)
theorem Bh (h:Heap) (H:Hp):(vd h H).objs.size=h.objs.size:=PySem.W.hideAll_size _ _
theorem Cz {h:Heap}{H:Hp}{b:Addr}{o:Obj}(e:h.get? b=some o) (n:H b=none):(vd h H).get? b=some o :=
 PySem.W.hideAll_get _ e fun hm=>by
  have q:(H b).isSome=true:=(Wi.mp hm).2
  rw[n]at q;simp at q
theorem EY {h:Heap}{H:Hp}{b:Addr}{o:Obj}(e:(vd h H).get? b=some o):h.get? b=some o/\H b=none:=by
 have e':h.get? b=some o:=PySem.W.of_hideAll (QI h H) e
 refine⟨e',?_⟩
 cases q:H b with
 | none=>rfl
 | some x =>
  have hm:b∈QI h H:=Wi.mpr ⟨Xf.mpr (VG e'),by simp[q]⟩
  have z:(vd h H).get? b=none:=PySem.W.hideAll_none (QI h H) hm
  rw[z]at e;cases e
def F6 (g h:Heap) (L:Addr):List (Addr×Obj):=(List.range h.objs.size).filterMap fun a=>if a=L \/(g.get? a).isSome=true then none else(h.get? a).map fun o=>(a,o)
def rest (g h:Heap) (L d:Addr):List (Addr×Obj):=(F6 g h L).filter fun p=>decide (p.1≠d)
structure Mod (K:W.Frag) (mg:Str->Option Value) (base:Heap):Prop where
 kin:K.In base
 glob:base.Ns mainGlobals mg
 blt:∃mb,base.Ns builtinsNs mb/\∀x:Str,x ≠ "__name__"->mb x=bootBuiltins x
 nolimit:base.NoLimit
structure Cx where
 prog:Program
 w:World
 K:W.Frag
 mg:Str->Option Value
 base:Heap
 A:Around
 N:List Str
 s₀:Shared
 H₀:Hp
 env:Env
 outer:List Env
 stack:List Env
 ex:List Addr
 fn:Str->Bool
 calm:Bool
 pn:List (Addr×Obj)
 xe:Value->Shared->Prop
def frs (l:List Env):List Addr:=l.filterMap (·.frame)
abbrev Cx.fs (X:Cx):List Addr:=frs X.outer
def PZ (sc:Scope) (x:Str):Prop:=sc.names.lookup x=some .local\/sc.names.lookup x=some .cell\/sc.names.lookup x=some .free
def Loc (sc:Scope) (x:Str):Prop:=sc.names.lookup x=some .local\/sc.names.lookup x=some .cell
def Look (env:Env) (h:Heap) (m:Str->Option Value) (x:Str) (u:Value):Prop :=
 (env.kindOf x=some .local/\m x=some u) \/((env.kindOf x=some .cell\/env.kindOf x=some .free)/\∃c,env.cells.lookup x=some c/\h.IsCell c (some u))
structure Cx.Ok (X:Cx):Prop where
 mod:Mod X.K X.mg X.base
 kind:X.env.scope.kind = .function
 glob:X.env.globals=mainGlobals
 blt:X.env.builtins=builtinsNs
 above:X.s₀.heap.objs.size<=X.env.locals
 inj:∀x y c,X.env.cells.lookup x=some c->X.env.cells.lookup y=some c->x=y
 has:∀x,(X.env.kindOf x=some .cell\/X.env.kindOf x=some .free)->∃c,X.env.cells.lookup x=some c
 cab:∀x c,X.fn x=true->X.env.cells.lookup x=some c->X.s₀.heap.objs.size<=c
 hd:X.calm=true->X.A.handled=none
 frames:X.A.frames=some X.stack
 stk:X.stack=X.outer \/(X.stack=X.env::X.outer/\X.env.frame=some X.env.locals)
 exf:∀b∈X.ex,b≠X.env.locals/\∀x c,X.env.cells.lookup x=some c->c≠b
 bs:∀b o,X.base.get? b=some o->X.s₀.heap.get? b=some o/\X.H₀ b=none
 bsz:X.base.objs.size<=X.s₀.heap.objs.size
 noex:∀b o,X.base.get? b=some o->b∉X.ex
 exfs:∀b∈X.ex,b∉X.fs
 funs:X.s₀.heap.FunFrames X.base X.outer
 frf:∀b∈X.fs,X.H₀ b=none
structure Inv (X:Cx) (pins:List (Addr×Obj)) (σ:List (Option V)) (H:Hp) (s:Shared):Prop where
 ok:X.Ok
 os:s.os=X.s₀.os
 bare:AllBare s.gens
 base:Un X.fs X.ex X.H₀ H X.s₀.heap s.heap
 loc:∃m,s.heap.Ns X.env.locals m/\∀(i:Nat) (x:Str) (v:V),X.N[i]? = some x->σ[i]? = some (some v)->PZ X.env.scope x->∃u,RelV v u/\Look X.env s.heap m x u
 cell:∀x c,X.env.cells.lookup x=some c->∃v,s.heap.IsCell c v
 free:H X.env.locals=none
 freeC:∀x c,X.env.cells.lookup x=some c->H c=none
 pin:∀p∈X.pn++pins,s.heap.get? p.1=some p.2/\H p.1=none/\p.1≠X.env.locals/\p.1∉X.fs/\∀v,p.2.data ≠ .cell v
 hok:mR X.prog X.w H s.heap
 len:σ.length=X.N.length
section
variable {X:Cx}{pins:List (Addr×Obj)}{σ:List (Option V)}{H H':Hp}{s:Shared}{h':Heap}
theorem Cx.Ok.nofr (ok:X.Ok) {b:Addr}{o:Obj}(e:X.base.get? b=some o):b∉X.fs:=fun hb=>by
 have:=(ok.funs.mem hb).1
 rw[e]at this;cases this
theorem Inv.bs (I:Inv X pins σ H s):∀b o,X.base.get? b=some o->s.heap.get? b=some o/\H b=none:=fun b o e =>
 ⟨I.base.keep b o (I.ok.bs b o e).1 (I.ok.bs b o e).2 (I.ok.nofr e) (I.ok.noex b o e),I.base.free b o (I.ok.bs b o e).1 (I.ok.bs b o e).2 (I.ok.noex b o e)⟩
theorem Inv.bk (I:Inv X pins σ H s):∀b o,X.base.get? b=some o->s.heap.get? b=some o:=fun b o e=>(I.bs b o e).1
theorem Inv.mod (I:Inv X pins σ H s):Mod X.K X.mg X.base:=I.ok.mod
theorem Inv.kIn (I:Inv X pins σ H s):X.K.In s.heap:=I.ok.mod.kin.keeps I.bk
theorem Inv.lt (I:Inv X pins σ H s):X.env.locals<s.heap.objs.size:=let ⟨_,hn,_⟩:=I.loc;hn.lt
theorem Inv.sz (I:Inv X pins σ H s):X.s₀.heap.objs.size<=s.heap.objs.size:=Vv I.ok.above (WX I.lt)
theorem Inv.nofs (I:Inv X pins σ H s) {a:Addr}(h:s.heap.objs.size<=a):a∉X.fs:=fun hb=>by
 obtain⟨_,o,ho,_⟩:=I.ok.funs.mem hb
 exact absurd (VT (VG ho) (Vv I.sz h)) (Wz _)
theorem Inv.cne (I:Inv X pins σ H s):∀x c,X.env.cells.lookup x=some c->c≠X.env.locals:=fun x c e z=>by
 obtain⟨v,o,ho,hd⟩:=I.cell x c e
 obtain⟨m,⟨o',es,ep,ho',hd',_⟩,_⟩:=I.loc
 rw[z,ho']at ho;cases ho;rw[hd']at hd;cases hd
theorem Inv.funs (I:Inv X pins σ H s):s.heap.FunFrames X.base X.outer:=by
 have all:∀(l:List Env),(∀b∈frs l,b∈X.fs)->X.s₀.heap.FunFrames X.base l->s.heap.FunFrames X.base l:=by
  intro l
  induction l with
  | nil=>intro _ _;trivial
  | cons env r ih =>
   intro hs hl
   obtain⟨hk,⟨L,o,hf,hn,ho,hd⟩,hr⟩:=hl
   have hL:L∈X.fs:=hs L (by unfold frs;rw[WK,hf];exact Vy)
   obtain⟨sl,e⟩:=I.base.slot L o ho (I.ok.frf L hL) hL fun z=>I.ok.exfs L z hL
   exact⟨hk,⟨L,_,hf,hn,e,hd⟩,ih (fun b hb=>hs b (by unfold frs;rw[WK,hf];exact Vr _ hb)) hr⟩
 exact all X.outer (fun _ hb=>hb) I.ok.funs
theorem Inv.stack (I:Inv X pins σ H s):s.heap.FunFrames X.base X.stack:=by
 rcases I.ok.stk with e|⟨e,hf⟩
 ·rw[e];exact I.funs
 ·rw[e]
  obtain⟨m,hn,_⟩:=I.loc
  refine .cons (by rw[I.ok.kind];decide) hf hn ?_ I.funs
  exact Heap.get?_none_of_le (Vv I.ok.bsz I.ok.above)
theorem Inv.stkSub (I:Inv X pins σ H s):∀b∈frs X.stack,b∈X.env.locals::X.fs:=fun b hb=>by
 rcases I.ok.stk with e|⟨e,hf⟩
 ·rw[e]at hb;exact Vr _ hb
 ·rw[e]at hb
  unfold frs at hb
  rw[WK,hf]at hb
  exact hb
theorem Inv.stkFree (I:Inv X pins σ H s):∀b∈frs X.stack,H b=none:=fun b hb=>by
 rcases VW.mp (I.stkSub b hb) with e|hb
 ·rw[e];exact I.free
 ·obtain⟨_,o,ho,_⟩:=I.ok.funs.mem hb
  exact I.base.free b o ho (I.ok.frf b hb) fun z=>I.ok.exfs b z hb
theorem Inv.step {g':Array GenState}{t':Nat}{d':Drawn}{ch:List Addr}(I:Inv X pins σ H s)
  (hch:∀b∈ch,(b∈X.ex\/X.s₀.heap.objs.size<=b)/\b≠X.env.locals/\(∀x c,X.env.cells.lookup x=some c->c≠b)/\∀p∈X.pn++pins,p.1≠b)
  (keep:∀b o,b≠X.env.locals->b∉X.fs->b∉ch->s.heap.get? b=some o->H b=none->h'.get? b=some o)
  (slot:∀b o,b≠X.env.locals->b∈X.fs->b∉ch->s.heap.get? b=some o->H b=none->∃sl,h'.get? b=some { o with slots:=sl }) (free:∀b o,b∉ch->s.heap.get? b=some o->H b=none->H' b=none)
  (there:∀b o,b∉ch->s.heap.get? b=some o->∃o',h'.get? b=some o')
  (tups:∀b xs,H b=some (.tup xs)->H' b=some (.tup xs)) (frzs:∀b o u,H b=some (.frz o u)->H' b=some (.frz o u)) (tbls:∀b ps,H b=some (.tbl ps)->∃more,H' b=some (.tbl (ps++more)))
  (ns:∀m,s.heap.Ns X.env.locals m->h'.Ns X.env.locals m) (hok:mR X.prog X.w H' h') (hg:AllBare g') :
  Inv X pins σ H' { s with heap:=h',gens:=g',drawn:=d',toks:=t' }:=by
 have neL:∀b o,X.s₀.heap.get? b=some o->b≠X.env.locals:=fun b o e=>VN (VT (VG e) I.ok.above)
 have neC:∀b o,X.s₀.heap.get? b=some o->b∉X.ex->b∉ch:=fun b o e hx hb=>by
  rcases(hch b hb).1 with z|z
  ·exact hx z
  ·exact absurd (VT (VG e) z) (Wz _)
 have cellK:∀x c,X.env.cells.lookup x=some c->∀v,s.heap.IsCell c v->h'.IsCell c v:=fun x c e v ⟨o,ho,hd⟩=>by
  have nch:c∉ch:=fun z=>(hch c z).2.2.1 x c e rfl
  by_cases hc:c∈X.fs
  ·obtain⟨sl,q⟩:=slot c o (I.cne x c e) hc nch ho (I.freeC x c e)
   exact⟨_,q,hd⟩
  ·exact⟨o,keep c o (I.cne x c e) hc nch ho (I.freeC x c e),hd⟩
 refine⟨I.ok,I.os,hg,⟨fun b o e n hb hx=>?_,fun b o e n hb hx=>?_,fun b o e n hx=>?_,fun b o e hx=>?_,fun b xs e=>tups b xs (I.base.tups b xs e),fun b o xs e=>frzs b o xs (I.base.frzs b o xs e),fun b ps e=>?_⟩,?_,fun x c e=>?_,?_,fun x c e=>?_,fun p hp=>?_,hok,I.len⟩
 ·exact keep b o (neL b o e) hb (neC b o e hx) (I.base.keep b o e n hb hx) (I.base.free b o e n hx)
 ·obtain⟨sl,e1⟩:=I.base.slot b o e n hb hx
  obtain⟨sl',e2⟩:=slot b _ (neL b o e) hb (neC b o e hx) e1 (I.base.free b o e n hx)
  exact⟨sl',e2⟩
 ·obtain⟨o',e1⟩:=I.base.there b o e hx
  exact free b o' (neC b o e hx) e1 (I.base.free b o e n hx)
 ·obtain⟨o',e1⟩:=I.base.there b o e hx
  exact there b o' (neC b o e hx) e1
 ·obtain⟨m1,e1⟩:=I.base.tbls b ps e
  obtain⟨m2,e2⟩:=tbls b _ e1
  exact⟨m1++m2,by rw[e2,Array.append_assoc]⟩
 ·obtain⟨m,hn,hl⟩:=I.loc
  refine⟨m,ns m hn,fun i x v e1 e2 e3=>?_⟩
  obtain⟨u,r,l⟩:=hl i x v e1 e2 e3
  refine⟨u,r,?_⟩
  rcases l with l|⟨k,c,e,z⟩
  ·exact .inl l
  ·exact .inr ⟨k,c,e,cellK x c e _ z⟩
 ·obtain⟨v,z⟩:=I.cell x c e
  exact⟨v,cellK x c e v z⟩
 ·obtain⟨m,⟨o,_,_,ho,_⟩,_⟩:=I.loc
  exact free _ o (fun z=>(hch _ z).2.1 rfl) ho I.free
 ·obtain⟨v,o,ho,hd⟩:=I.cell x c e
  exact free c o (fun z=>(hch c z).2.2.1 x c e rfl) ho (I.freeC x c e)
 ·obtain⟨e,n,ne,nf,d⟩:=I.pin p hp
  have nch:p.1∉ch:=fun z=>(hch p.1 z).2.2.2 p hp rfl
  exact⟨keep p.1 p.2 ne nf nch e n,free p.1 p.2 nch e n,ne,nf,d⟩
theorem Inv.un {t':Nat}(I:Inv X pins σ H s) (u:Un X.fs [] H H' s.heap h') (hok:mR X.prog X.w H' h'):Inv X pins σ H' { s with heap:=h',toks:=t' }:=by
 obtain⟨m,⟨o,es,ep,ho,r⟩,_⟩:=id I.loc
 obtain⟨sl,hL⟩:=u.any ho I.free (by simp)
 exact I.step (g':=s.gens) (d':=s.drawn) (ch:=[]) (fun _ z=>nomatch z) (fun b o _ hb _ e n=>u.keep b o e n hb (by simp)) (fun b o _ hb _ e n=>u.slot b o e n hb (by simp)) (fun b o _ e n=>u.free b o e n (by simp)) (fun b o _ e=>u.there b o e (by simp)) u.tups u.frzs u.tbls (fun m' hm=>by
  obtain⟨o',es',ep',ho',r'⟩:=hm
  rw[ho]at ho';cases ho'
  exact⟨_,es',ep',hL,r'⟩) hok I.bare
theorem Inv.call {g':Array GenState}{t':Nat}{d':Drawn}{ch:List Addr}(I:Inv X pins σ H s) (u:Un (frs X.stack) ch H H' s.heap h') (hok:mR X.prog X.w H' h') (hg:AllBare g')
  (hch:∀b∈ch,(b∈X.ex\/X.s₀.heap.objs.size<=b)/\b≠X.env.locals/\(∀x c,X.env.cells.lookup x=some c->c≠b)/\∀p∈X.pn++pins,p.1≠b) :
  Inv X pins σ H' { s with heap:=h',gens:=g',drawn:=d',toks:=t' }:=by
 obtain⟨m,⟨o,es,ep,ho,r⟩,_⟩:=id I.loc
 obtain⟨sl,hL⟩:=u.any ho I.free fun z=>(hch _ z).2.1 rfl
 exact I.step (ch:=ch) hch (fun b o hL hb hc e n=>u.keep b o e n (fun z=>(VW.mp (I.stkSub b z)).elim hL hb) hc) (fun b o _ _ hc e n=>u.any e n hc) (fun b o hc e n=>u.free b o e n hc) (fun b o hc e=>u.there b o e hc) u.tups u.frzs u.tbls (fun m' hm=>by
  obtain⟨o',es',ep',ho',r'⟩:=hm
  rw[ho]at ho';cases ho'
  exact⟨_,es',ep',hL,r'⟩) hok hg
theorem Inv.turned {t':Nat}{it:Addr}(I:Inv X pins σ H s) (k:∀b o,b≠it->s.heap.get? b=some o->h'.get? b=some o) (hn:H it=none) (hL:it≠X.env.locals)
  (h1:it∈X.ex\/X.s₀.heap.objs.size<=it) (h2:∀x c,X.env.cells.lookup x=some c->c≠it) (h3:∀p∈X.pn++pins,p.1≠it):Inv X pins σ H { s with heap:=h',toks:=t' }:=by
 have nit:∀b u,H b=some u->b≠it:=fun b u e z=>by rw[z,hn]at e;cases e
 refine I.step (g':=s.gens) (d':=s.drawn) (ch:=[it]) (fun b hb=>?_) (fun b o _ _ hc e _=>k b o (fun z=>hc (by simp[z])) e) (fun b o _ _ hc e _=>⟨o.slots,k b o (fun z=>hc (by simp[z])) e⟩) (fun _ _ _ _ n=>n)
  (fun b o hc e=>⟨o,k b o (fun z=>hc (by simp[z])) e⟩) (fun _ _ e=>e) (fun _ _ _ e=>e) (fun b ps e=>⟨#[],by rw[e];simp⟩) (fun m hm=>?_) (fun b u e=>?_) I.bare
 ·have e:b=it:=by simpa using hb
  subst e
  exact⟨h1,hL,h2,h3⟩
 ·obtain⟨o,es,ep,ho,r⟩:=hm
  exact⟨o,es,ep,k _ o (Ne.symm hL) ho,r⟩
 ·refine(I.hok b u e).stay (fun c v hc q=>k c v ?_ q) (fun _ q=>q) fun _ _ q=>q
  rcases hc with z|z
  ·rw[z];exact nit b u e
  ·exact nit c _ z
theorem Inv.tok (I:Inv X pins σ H s) (t:Nat):Inv X pins σ H { s with toks:=t }:=I.un (h':=s.heap) (t':=t) Un.refl I.hok
theorem Inv.kept {t':Nat}(I:Inv X pins σ H s) (k:∀b u,s.heap.get? b=some u->h'.get? b=some u):Inv X pins σ H { s with heap:=h',toks:=t' }:=I.un (Un.kept k) (I.hok.kept k)
theorem Inv.laid {a:Addr}{o:HO}{t':Nat}(I:Inv X pins σ H s) (k:∀b u,s.heap.get? b=some u->h'.get? b=some u) (hp:s.heap.objs.size<=a) (new:dJ X.prog X.w (upd H a o) h' a o) :
  Inv X pins σ (upd H a o) { s with heap:=h',toks:=t' }:=I.un (Un.laid k hp (I.hok.fresh hp)) (I.hok.laid k hp new)
theorem Inv.write {x e:Addr}{o:HO}{t':Nat}(I:Inv X pins σ H s) (mu:Ob (H x)) (he:e=x\/H e=some (.own x)) (k:∀b u,b≠e->s.heap.get? b=some u->h'.get? b=some u) (heo:∃u,h'.get? e=some u)
  (new:dJ X.prog X.w (upd H x o) h' x o):Inv X pins σ (upd H x o) { s with heap:=h',toks:=t' }:=I.un (Un.write mu he k heo) (I.hok.write mu he k heo new)
theorem Inv.pins_of {pins':List (Addr×Obj)}(I:Inv X pins σ H s) (h:∀p∈pins',s.heap.get? p.1=some p.2/\H p.1=none/\p.1≠X.env.locals/\p.1∉X.fs/\∀v,p.2.data ≠ .cell v):Inv X pins' σ H s :=
 ⟨I.ok,I.os,I.bare,I.base,I.loc,I.cell,I.free,I.freeC,fun p hp=>(VH.mp hp).elim (fun z=>I.pin p (Wr _ z)) (h p),I.hok,I.len⟩
theorem wH {N:List Str}(hN:N.Nodup) {i j:Nat}{x:Str}(a:N[i]? = some x) (b:N[j]? = some x):i=j:=by
 obtain⟨h1,e1⟩:=Vj.mp a
 obtain⟨h2,e2⟩:=Vj.mp b
 exact(List.getElem_inj hN).mp (e1.trans e2.symm)
theorem uq {M:Model}{A:Around}{E:Value->Shared->Prop}{i:Nat}{x:Str}{v:V}{u:Value}{Q:Unit->Shared->Prop}(I:Inv X pins σ H s) (hN:X.N.Nodup) (hi:X.N[i]? = some x) (hx:Loc X.env.scope x) (r:RelV v u)
  (h:∀s',Inv X pins (σ.set i (some v)) H s'->(∃a,Heap.SameBut a s.heap s'.heap/\(a=X.env.locals\/X.env.cells.lookup x=some a))->Q () s') (hf:X.fn x=true\/X.env.scope.names.lookup x=some .local:=by first|exact .inl rfl|exact .inr rfl|assumption):wpAny M A (storeName X.env x u) Q E s:=by
 obtain⟨m,hn,hl⟩:=id I.loc
 have hcls:(X.env.scope.kind == .class || (X.env.scope.kind == .module && X.env.locals != X.env.globals))=false:=by rw[I.ok.kind];rfl
 have hiσ:i<σ.length:=by rw[I.len];exact(Vj.mp hi).1
 have cne:=I.cne
 have tracked:∀{a:Addr}{h':Heap},(∃o,s.heap.get? a=some o/\H a=none)->Heap.SameBut a s.heap h'->mR X.prog X.w H h':=fun {a h'} ha hs b ob e=>by
  obtain⟨_,_,hfree⟩:=ha
  refine(I.hok b ob e).stay (fun c w' hc q=>(hs.2 c ?_).trans q) (fun _ q=>q) fun _ _ q=>q
  rintro rfl
  rcases hc with rfl|hc
  ·rw[hfree]at e;cases e
  ·rw[hfree]at hc;cases hc
 rcases hx with hk|hk
 ·refine wpAny_storeName_local hk hn (fun h' hn' hs=>?_) hcls
  obtain⟨oL,_,_,hoL,_⟩:=id hn
  refine h _ ⟨I.ok,I.os,I.bare,⟨fun b o e n hb hx=>?_,fun b o e n hb hx=>?_,I.base.free,fun b o e hx=>?_,I.base.tups,I.base.frzs,I.base.tbls⟩,⟨_,hn',fun j y v' e1 e2 e3=>?_⟩,fun y c e=>?_,I.free,I.freeC,fun p hp=>?_,tracked ⟨oL,hoL,I.free⟩ hs,by simpa using I.len⟩ ⟨_,hs,.inl rfl⟩
  ·exact(hs.2 b (VN (VT (VG e) I.ok.above))).trans (I.base.keep b o e n hb hx)
  ·obtain⟨sl,e1⟩:=I.base.slot b o e n hb hx
   exact⟨sl,(hs.2 b (VN (VT (VG e) I.ok.above))).trans e1⟩
  ·obtain⟨o',e1⟩:=I.base.there b o e hx
   exact⟨o',(hs.2 b (VN (VT (VG e) I.ok.above))).trans e1⟩
  ·by_cases hj:j=i
   ·subst hj
    rw[hi]at e1;cases e1
    rw[List.getElem?_set_self hiσ]at e2
    cases e2
    exact⟨u,r,.inl ⟨hk,by simp⟩⟩
   ·rw[List.getElem?_set_ne (Ne.symm hj)]at e2
    obtain⟨u',r',q⟩:=hl j y v' e1 e2 e3
    refine⟨u',r',?_⟩
    rcases q with⟨k,e⟩|⟨k,c,e,z⟩
    ·refine .inl ⟨k,?_⟩
     have:y≠x:=fun e=>hj (wH hN e1 (e ▸ hi))
     simp[this,e]
    ·exact .inr ⟨k,c,e,z.sameBut hs (cne y c e)⟩
  ·obtain⟨w',z⟩:=I.cell y c e
   exact⟨w',z.sameBut hs (cne y c e)⟩
  ·obtain⟨e,n,ne,nf,d⟩:=I.pin p hp
   exact⟨(hs.2 p.1 ne).trans e,n,ne,nf,d⟩
 ·have hfn:X.fn x=true:=by
   rcases hf with z|z
   ·exact z
   ·rw[z]at hk;cases hk
  obtain⟨c,hc⟩:=I.ok.has x (.inl hk)
  obtain⟨w',z⟩:=I.cell x c hc
  refine wpAny_storeName_cell I.ok.kind hk hc z (fun h' hc' hs=>?_)
  obtain⟨oc,hoc,hocd⟩:=id z
  refine h { s with heap:=h' } ⟨I.ok,I.os,I.bare,⟨fun b o e n hb hx=>?_,fun b o e n hb hx=>?_,I.base.free,fun b o e hx=>?_,I.base.tups,I.base.frzs,I.base.tbls⟩,⟨m,hn.sameBut hs (Ne.symm (cne x c hc)),fun j y v' e1 e2 e3=>?_⟩,fun y c' e=>?_,I.free,I.freeC,fun p hp=>?_,tracked ⟨oc,hoc,I.freeC x c hc⟩ hs,by simpa using I.len⟩ ⟨c,hs,.inr hc⟩
  ·exact(hs.2 b (VN (VT (VG e) (I.ok.cab x c hfn hc)))).trans (I.base.keep b o e n hb hx)
  ·obtain⟨sl,e1⟩:=I.base.slot b o e n hb hx
   exact⟨sl,(hs.2 b (VN (VT (VG e) (I.ok.cab x c hfn hc)))).trans e1⟩
  ·obtain⟨o',e1⟩:=I.base.there b o e hx
   exact⟨o',(hs.2 b (VN (VT (VG e) (I.ok.cab x c hfn hc)))).trans e1⟩
  ·by_cases hj:j=i
   ·subst hj
    rw[hi]at e1;cases e1
    rw[List.getElem?_set_self hiσ]at e2
    cases e2
    exact⟨u,r,.inr ⟨.inl hk,c,hc,hc'⟩⟩
   ·rw[List.getElem?_set_ne (Ne.symm hj)]at e2
    obtain⟨u',r',q⟩:=hl j y v' e1 e2 e3
    refine⟨u',r',?_⟩
    rcases q with q|⟨k,c',e,z'⟩
    ·exact .inl q
    ·refine .inr ⟨k,c',e,z'.sameBut hs ?_⟩
     rintro rfl
     exact hj (wH hN e1 (I.ok.inj _ _ _ e hc ▸ hi))
  ·by_cases hcc:c'=c
   ·subst hcc;exact⟨_,hc'⟩
   ·obtain⟨w2,z2⟩:=I.cell y c' e
    exact⟨w2,z2.sameBut hs hcc⟩
  ·obtain⟨e,n,ne,nf,d⟩:=I.pin p hp
   refine⟨(hs.2 p.1 ?_).trans e,n,ne,nf,d⟩
   intro q
   rw[q,hoc]at e
   have q':oc=p.2:=VC e
   exact d w' (by rw[<- q'];exact hocd)
theorem qz {M:Model}{A:Around}{E:Value->Shared->Prop}{i:Nat}{x:Str}{v:V}{u:Value}{Q:Unit->Shared->Prop}(I:Inv X pins σ H s) (hN:X.N.Nodup) (hi:X.N[i]? = some x) (hx:Loc X.env.scope x) (r:RelV v u)
  (h:∀s',Inv X pins (σ.set i (some v)) H s'->Q () s') (hf:X.fn x=true\/X.env.scope.names.lookup x=some .local:=by first|exact .inl rfl|exact .inr rfl|assumption):wpAny M A (storeName X.env x u) Q E s :=
 uq I hN hi hx r (fun s' I' _=>h s' I') hf
theorem Inv.call' {s':Shared}{ch:List Addr}(I:Inv X pins σ H s) (ho:s'.os=s.os) (u:Un (frs X.stack) ch H H' s.heap s'.heap) (hok:mR X.prog X.w H' s'.heap) (hg:AllBare s'.gens)
  (hch:∀b∈ch,(b∈X.ex\/X.s₀.heap.objs.size<=b)/\b≠X.env.locals/\(∀x c,X.env.cells.lookup x=some c->c≠b)/\∀p∈X.pn++pins,p.1≠b):Inv X pins σ H' s':=by
 obtain⟨h',g',d',t',o'⟩:=s'
 have e:o'=s.os:=ho
 subst e
 exact I.call (g':=g') (t':=t') (d':=d') u hok hg hch
end
abbrev XK:=Value->Option Addr->Hp->Prop
abbrev St:=List (Option V)
abbrev VK:=V->Hp->Prop
abbrev TE:=St->Hp->VK->Prop
abbrev TT:=St->Hp->(Bool->Hp->Prop)->Prop
abbrev TA:=St->Hp->(List V->Hp->Prop)->Prop
structure Ends where
 nx:St->Hp->Prop
 rt:VK
 bk:St->Hp->Prop:=fun _ _=>False
 ct:St->Hp->Prop:=fun _ _=>False
abbrev TS:=Ends->St->Hp->Prop
def EP (X:Cx) (pins:List (Addr×Obj)) (σ:St) (Q:VK) (u:Value) (s':Shared):Prop:=∃v H',Inv X pins σ H' s'/\RelV v u/\Q v H'
def TP (X:Cx) (pins:List (Addr×Obj)) (σ:St) (Q:Bool->Hp->Prop) (b:Bool) (s':Shared):Prop:=∃H',Inv X pins σ H' s'/\Q b H'
def AP (X:Cx) (pins:List (Addr×Obj)) (σ:St) (Q:List V->Hp->Prop) (us:List Value) (s':Shared):Prop:=∃vs H',Inv X pins σ H' s'/\Vals vs us/\Q vs H'
def SP (X:Cx) (pins:List (Addr×Obj)) (D:Ends) (f:Flow) (s':Shared):Prop :=
 match f with
 | .next=>∃σ' H',Inv X pins σ' H' s'/\D.nx σ' H'
 | .brk=>∃σ' H',Inv X pins σ' H' s'/\D.bk σ' H'
 | .cont=>∃σ' H',Inv X pins σ' H' s'/\D.ct σ' H'
 | .ret u=>∃v σ' H',Inv X pins σ' H' s'/\RelV v u/\D.rt v H'
def PE (X:Cx) (e:Expr) (t:TE):Prop :=
 ∀(pins:List (Addr×Obj)) (s:Shared) (σ:St) (H:Hp) (Q:VK),Inv X pins σ H s->t σ H Q->wpAny (model X.prog X.w) X.A (eval e X.env) (EP X pins σ Q) X.xe s
def PT (X:Cx) (e:Expr) (t:TT):Prop :=
 ∀(pins:List (Addr×Obj)) (s:Shared) (σ:St) (H:Hp) (Q:Bool->Hp->Prop),Inv X pins σ H s->t σ H Q->wpAny (model X.prog X.w) X.A (isTrue e X.env (eval e X.env)) (TP X pins σ Q) X.xe s
def PW (X:Cx) (e:Expr) (t:TT):Prop :=
 ∀(whole:Sem Value) (pins:List (Addr×Obj)) (s:Shared) (σ:St) (H:Hp) (Q:Bool->Hp->Prop),Inv X pins σ H s->t σ H Q->wpAny (model X.prog X.w) X.A (isTrue e X.env whole) (TP X pins σ Q) X.xe s
theorem PW.pt {X:Cx}{e:Expr}{t:TT}(h:PW X e t):PT X e t:=h _
def PA (X:Cx) (es:List Expr) (t:TA):Prop :=
 ∀(pos:Pos) (pins:List (Addr×Obj)) (s:Shared) (σ:St) (H:Hp) (Q:List V->Hp->Prop),Inv X pins σ H s->t σ H Q->wpAny (model X.prog X.w) X.A (spliced (backTo pos (starEach es X.env))) (AP X pins σ Q) X.xe s
def PS (X:Cx) (st:Stmt) (t:TS):Prop :=
 ∀(pins:List (Addr×Obj)) (s:Shared) (σ:St) (H:Hp) (D:Ends),Inv X pins σ H s->t D σ H->wpAny (model X.prog X.w) X.A (exec st X.env) (SP X pins D) X.xe s
def AL (X:Cx) (st:List Stmt) (t:TS):Prop :=
 ∀(pins:List (Addr×Obj)) (s:Shared) (σ:St) (H:Hp) (D:Ends),Inv X pins σ H s->t D σ H->wpAny (model X.prog X.w) X.A (execs st X.env) (SP X pins D) X.xe s
theorem cg {α:Type}{t:Sem α}{Q Q':α->Shared->Prop}{M:Model}{A:Around}{E:Value->Shared->Prop}{s:Shared}(h:wpAny M A t Q E s) (hQ:∀a s,Q a s->Q' a s):wpAny M A t Q' E s:=Wc h hQ fun _ _ x=>x
section
variable {X:Cx}
theorem bin {a b:Expr}{ta tb:TE}(ha:PE X a ta) (hb:PE X b tb) {pins:List (Addr×Obj)}{s:Shared}{σ:St}{H:Hp}{R:V->V->Hp->Prop}(I:Inv X pins σ H s) (h:ta σ H fun x H1=>tb σ H1 fun y H2=>R x y H2)
  {α:Type}{Q:α->Shared->Prop}{f:Value->Value->Sem α}
  (hf:∀v u s2 x y H2,Inv X pins σ H2 s2->RelV x v->RelV y u->R x y H2->wpAny (model X.prog X.w) X.A (f v u) Q X.xe s2) :
  wpAny (model X.prog X.w) X.A (eval a X.env) (fun v s₁=>wpAny (model X.prog X.w) X.A (eval b X.env) (fun u s₂=>wpAny (model X.prog X.w) X.A (f v u) Q X.xe s₂) X.xe s₁) X.xe s:=by
 refine cg (ha pins s σ H _ I h) fun v s1 ⟨x,H1,I1,r1,q1⟩=>?_
 refine cg (hb pins s1 σ H1 _ I1 q1) fun u s2 ⟨y,H2,I2,r2,q2⟩=>?_
 exact hf v u s2 x y H2 I2 r1 r2 q2
def Kl (i:Nat):TE:=fun σ H Q=>∃v,σ[i]? = some (some v)/\Q v H
def tC (v:V):TE:=fun _ H Q=>Q v H
theorem Jz {i:Nat}{x:Str}{pos:Pos}(hN:X.N[i]? = some x) (hv:PZ X.env.scope x) (hd:(x ==("__debug__" : Str))=false:=by decide) (hcd:(x ==("__classdict__" : Str))=false:=by decide):PE X (.Name x pos) (Kl i):=by
 intro pins s σ H Q I h
 obtain⟨v,e,h⟩:=h
 obtain⟨m,hn,hl⟩:=I.loc
 obtain⟨u,r,l⟩:=hl i x v hN e hv
 have fin:EP X pins σ Q u s:=⟨v,H,I,r,h⟩
 rcases l with⟨hk,hm⟩|⟨hk,c,hc,hcell⟩
 ·exact wpAny_Name (wpAny_loadName_local I.ok.kind hk hn hm fin) hd
 ·rcases hk with hk|hk
  ·exact wpAny_Name (wpAny_loadName_cell I.ok.kind hk hc hcell fin) hd
  ·exact wpAny_Name (wpAny_loadName_free I.ok.kind hk hc hcell fin hcd) hd
theorem ay {i j pos}:PE X (.Constant (.int i) j pos) (tC (.int i)):=fun _ _ _ H _ I h=>wpAny_Constant_int ⟨.int i,H,I.tok _,⟨_,rfl⟩,h⟩
theorem wR {b j pos}:PE X (.Constant (.bool b) j pos) (tC (.bl b)):=fun _ _ _ H _ I h=>Constant_bool ⟨.bl b,H,I,rfl,h⟩
theorem C9 {j pos}:PE X (.Constant .none j pos) (tC .non):=fun _ _ _ H _ I h=>Constant_none ⟨.non,H,I,rfl,h⟩
theorem bM {x j pos}:PE X (.Constant (.str x) j pos) (tC (.str x)):=fun _ _ _ H _ I h=>Calls.Constant_str ⟨.str x,H,I.tok _,⟨_,rfl⟩,h⟩
def Gl (X:Cx) (x:Str):Prop:=X.env.kindOf x=some .globalImplicit
theorem EZ {E:Value->Shared->Prop}{pins:List (Addr×Obj)}{s:Shared}{σ:St}{H:Hp}{x:Str}{u:Value}{pos:Pos}{Q:Value->Shared->Prop}(I:Inv X pins σ H s) (hg:Gl X x) (hm:X.mg x=some u) (h:Q u s)
  (hd:(x ==("__debug__" : Str))=false:=by decide):wpAny (model X.prog X.w) X.A (eval (.Name x pos) X.env) Q E s :=
 Calls.Name_function_global I.ok.kind hg (Calls.loadGlobal_global (by rw[I.ok.glob];exact I.mod.glob.keeps I.bk) hm h) hd
theorem pC {E:Value->Shared->Prop}{pins:List (Addr×Obj)}{s:Shared}{σ:St}{H:Hp}{x:Str}{u:Value}{pos:Pos}{Q:Value->Shared->Prop}(I:Inv X pins σ H s) (hg:Gl X x) (hm:X.mg x=none) (hv:bootBuiltins x=some u) (h:Q u s)
  (hn:x ≠ "__name__" := by decide) (hd:(x ==("__debug__" : Str))=false:=by decide):wpAny (model X.prog X.w) X.A (eval (.Name x pos) X.env) Q E s:=by
 obtain⟨mb,h1,h2⟩:=I.mod.blt
 exact Calls.Name_function_global I.ok.kind hg (Calls.loadGlobal_builtin (by rw[I.ok.glob];exact I.mod.glob.keeps I.bk) hm (by rw[I.ok.blt];exact h1.keeps I.bk) ((h2 x hn).trans hv) h) hd
variable {a b:Expr}{ta tb:TE}{pos:Pos}
def PC (X:Cx) (op:CmpOp) (a b:Expr) (t:TE):Prop :=
 ∀(pins:List (Addr×Obj)) (s:Shared) (σ:St) (H:Hp) (Q:VK),Inv X pins σ H s->t σ H Q ->
  wpAny (model X.prog X.w) X.A (eval a X.env) (fun v s₁=>wpAny (model X.prog X.w) X.A (eval b X.env) (fun u s₂=>wpAny (model X.prog X.w) X.A (compareOp op v u) (EP X pins σ Q) X.xe s₂) X.xe s₁) X.xe s
def tB (t:TE):TT:=fun σ H Q=>t σ H fun x H1=>∃c,x = .bl c/\Q c H1
theorem SA {op:CmpOp}{t:TE}(h:PC X op a b t) (h1:behindInMarks op b=false:=by first|exact nobehind _ (by decide) (by decide)|rfl):PT X (.Compare a [op] [b] pos) (tB t):=by
 intro pins s σ H Q I hw
 refine wpAny_isTrue_Compare1 (cg (h pins s σ H _ I hw) fun v s1 h1=>cg h1 fun u s2 h2=>cg h2 fun c s3 ⟨x,H1,I1,r1,q1⟩=>?_) h1
 obtain⟨d,rfl,q⟩:=q1
 cases r1
 exact WI ⟨H1,I1,q⟩
theorem C6 {e:Expr}{t:TE}(h:PE X e t) (he:∀whole,isTrue e X.env whole =(do let v <- whole;standAt e.pos;holding [v] (truthy v)):=by intro _;rfl):PT X e (tB t):=by
 intro pins s σ H Q I hw
 refine isTrue_plain (cg (h pins s σ H _ I hw) fun v s1 ⟨x,H1,I1,r1,q1⟩=>?_) (he _)
 obtain⟨d,rfl,q⟩:=q1
 cases r1
 exact WI ⟨H1,I1,q⟩
variable {tA tB':TT}{rest:List Expr}
def P9 (t u:TT):TT:=fun σ H Q=>t σ H fun c H1=>if c=true then u σ H1 Q else Q false H1
def TU (t u:TT):TT:=fun σ H Q=>t σ H fun c H1=>if c=true then Q true H1 else u σ H1 Q
def OI (t:TT):TT:=fun σ H Q=>t σ H fun c H1=>Q (!c) H1
theorem jg (ha:PT X a tA):PW X (.BoolOp .And [a] pos) tA:=by
 intro wh pins s σ H Q I h
 refine isTrue_and (cg (ha pins s σ H Q I h) fun c s1 e=>?_)
 cases c with
 | true=>exact isTrue_and_nil e
 | false=>exact e
theorem CH (ha:PT X a tA):PW X (.BoolOp .Or [a] pos) tA:=by
 intro wh pins s σ H Q I h
 refine isTrue_or (cg (ha pins s σ H Q I h) fun c s1 e=>?_)
 cases c with
 | false=>exact isTrue_or_nil e
 | true=>exact e
theorem kU (ha:PT X a tA) (hb:PW X (.BoolOp .And (b::rest) pos) tB'):PW X (.BoolOp .And (a::b::rest) pos) (P9 tA tB'):=by
 intro wh pins s σ H Q I h
 refine isTrue_and (cg (ha pins s σ H _ I h) fun c s1 ⟨H1,I1,q1⟩=>?_)
 cases c with
 | true=>exact hb wh pins s1 σ H1 Q I1 q1
 | false=>exact⟨H1,I1,q1⟩
theorem DA (ha:PT X a tA) (hb:PW X (.BoolOp .Or (b::rest) pos) tB'):PW X (.BoolOp .Or (a::b::rest) pos) (TU tA tB'):=by
 intro wh pins s σ H Q I h
 refine isTrue_or (cg (ha pins s σ H _ I h) fun c s1 ⟨H1,I1,q1⟩=>?_)
 cases c with
 | true=>exact⟨H1,I1,q1⟩
 | false=>exact hb wh pins s1 σ H1 Q I1 q1
theorem z3 (ha:PT X a tA):PT X (.UnaryOp .Not a pos) (OI tA):=by
 intro pins s σ H Q I h
 exact isTrue_not (ha pins s σ H (fun c H1=>Q (!c) H1) I h)
def Hi (ta tb:TE):TE:=fun σ H Q=>ta σ H fun x H1=>∃c,x = .bl c/\if c=true then tb σ H1 Q else Q (.bl false) H1
theorem zg {op}{t:TE}(h:PE X a t):PE X (.BoolOp op [a] pos) t:=fun pins s σ H Q I hw=>BoolOp_one (h pins s σ H Q I hw)
theorem uK (ha:PE X a ta) (hb:PE X (.BoolOp .And (b::rest) pos) tb):PE X (.BoolOp .And (a::b::rest) pos) (Hi ta tb):=by
 intro pins s σ H Q I h
 refine BoolOp_and (cg (ha pins s σ H _ I h) fun v s1 ⟨x,H1,I1,r1,q1⟩=>?_)
 obtain⟨c,rfl,q1⟩:=q1
 cases r1
 refine WI ?_
 cases c with
 | true=>exact hb pins s1 σ H1 Q I1 q1
 | false=>exact⟨.bl false,H1,I1,rfl,q1⟩
def TH (t:TT) (ta tb:TE):TE:=fun σ H Q=>t σ H fun c H1=>if c=true then ta σ H1 Q else tb σ H1 Q
theorem DC {c:Expr}(hc:PT X c tA) (ha:PE X a ta) (hb:PE X b tb):PE X (.IfExp c a b pos) (TH tA ta tb):=by
 intro pins s σ H Q I h
 refine wpAny_IfExp (cg (hc pins s σ H _ I h) fun d s1 ⟨H1,I1,q1⟩=>?_)
 cases d with
 | true=>exact ha pins s1 σ H1 Q I1 q1
 | false=>exact hb pins s1 σ H1 Q I1 q1
end
def aU (K:W.Frag) (H:Hp) (a:Addr) (xs:List V):Prop :=
 Rd H a (.lst xs) \/
  ∃(o:Obj) (its:Array Value) (n:Nat),K.lookup a=some o/\o.cls = .type "list"/\o.dict=none/\o.data = .seq its n/\its.size<=sizeLine/\Vals xs its.toList
def gu (K:W.Frag) (H:Hp) (a:Addr) (xs:List V):Prop :=
 Rd H a (.tup xs) \/
  ∃(o:Obj) (its:Array Value) (n:Nat),K.lookup a=some o/\o.cls = .type "tuple"/\o.data = .seq its n/\its.size<=sizeLine/\Vals xs its.toList
def SD:Value->Option V
 | .none=>some .non
 | .bool b=>some (.bl b)
 | .int i _=>some (.int i)
 | .str x _=>some (.str x)
 | .bytes b _=>some (.byt b)
 | .float b _=>some (.flt b)
 | .ref a=>some (.ref a)
 | .type n=>some (.ty n)
 | _=>none
theorem RelV.abs {x:V}{u:Value}(r:RelV x u):SD u=some x:=by
 cases x with
 | non=>cases r;rfl
 | bl _=>cases r;rfl
 | int _=>obtain⟨t,rfl⟩:=r;rfl
 | str _=>obtain⟨t,rfl⟩:=r;rfl
 | byt _=>obtain⟨t,rfl⟩:=r;rfl
 | flt _=>obtain⟨t,rfl⟩:=r;rfl
 | ref _=>cases r;rfl
 | ty _=>cases r;rfl
theorem RelV.inj {x y:V}{u:Value}(r:RelV x u) (q:RelV y u):x=y:=VC (r.abs.symm.trans q.abs)
theorem Vals.inj:∀{xs ys:List V}{us:List Value},Vals xs us->Vals ys us->xs=ys
 | _,_,_,.nil,.nil=>rfl
 | _,_,_,.cons r t,.cons r' t'=>by rw[r.inj r',Vals.inj t t']
section
variable {X:Cx}{pins:List (Addr×Obj)}{σ:St}{H:Hp}{s:Shared}{a:Addr}{xs ys:List V}
theorem aU.of {K:W.Frag}(h:H a=some (.lst xs)):aU K H a xs:=.inl (.inl h)
theorem gu.of {K:W.Frag}(h:H a=some (.tup xs)):gu K H a xs:=.inl (.inl h)
theorem Inv.list (I:Inv X pins σ H s) (h:aU X.K H a xs):∃its:List Value,Vals xs its/\PlainL s.heap a its.toArray/\xs.length<=sizeLine:=by
 rcases h with h|⟨o,its,n,hk,hc,hd,hs,hz,r⟩
 ·obtain⟨z,its,n,r,e⟩:=h.ok I.hok
  exact⟨its,r,⟨_,n,e,rfl,rfl,rfl⟩,z⟩
 ·refine⟨its.toList,r,⟨o,n,I.kIn a o hk,hc,hd,by simpa using hs⟩,?_⟩
  have e:=r.length
  simp only[Array.length_toList]at e
  omega
theorem Inv.tuple (I:Inv X pins σ H s) (h:gu X.K H a xs):∃its:List Value,Vals xs its/\IsTup s.heap a its.toArray/\xs.length<=sizeLine:=by
 rcases h with h|⟨o,its,n,hk,hc,hs,hz,r⟩
 ·obtain⟨z,its,r,p⟩:=h.ok I.hok
  exact⟨its,r,p,z⟩
 ·refine⟨its.toList,r,⟨o,I.kIn a o hk,hc,n,by simpa using hs⟩,?_⟩
  have e:=r.length
  simp only[Array.length_toList]at e
  omega
theorem Inv.list_inj (I:Inv X pins σ H s) (h:aU X.K H a xs) (h':aU X.K H a ys):xs=ys:=by
 obtain⟨its,r,⟨o,n,e,_,_,d⟩,_⟩:=I.list h
 obtain⟨its',r',⟨o',n',e',_,_,d'⟩,_⟩:=I.list h'
 rw[e]at e';cases e'
 rw[d]at d'
 injection d' with d1 _
 have:its=its':=by simpa using Wf Array.toList d1
 subst this
 exact r.inj r'
end
abbrev Cx.wish (X:Cx) (E:Value->Shared->Prop):Cx:={ X with xe:=E }
abbrev Cx.nox (X:Cx):Cx:=X.wish fun _ _=>False
theorem Cx.Ok.wish {X:Cx}(ok:X.Ok) (E:Value->Shared->Prop):(X.wish E).Ok :=
 ⟨ok.mod,ok.kind,ok.glob,ok.blt,ok.above,ok.inj,ok.has,ok.cab,ok.hd,ok.frames,ok.stk,ok.exf,ok.bs,ok.bsz,ok.noex,ok.exfs,ok.funs,ok.frf⟩
theorem Cx.Ok.unwish {X:Cx}{E:Value->Shared->Prop}(ok:(X.wish E).Ok):X.Ok :=
 ⟨ok.mod,ok.kind,ok.glob,ok.blt,ok.above,ok.inj,ok.has,ok.cab,ok.hd,ok.frames,ok.stk,ok.exf,ok.bs,ok.bsz,ok.noex,ok.exfs,ok.funs,ok.frf⟩
section
variable {X:Cx}{pins:List (Addr×Obj)}{σ:St}{H:Hp}{s:Shared}{E:Value->Shared->Prop}
theorem Inv.wish (I:Inv X pins σ H s) (E:Value->Shared->Prop):Inv (X.wish E) pins σ H s:=⟨I.ok.wish E,I.os,I.bare,I.base,I.loc,I.cell,I.free,I.freeC,I.pin,I.hok,I.len⟩
theorem Inv.unwish (I:Inv (X.wish E) pins σ H s):Inv X pins σ H s:=⟨I.ok.unwish,I.os,I.bare,I.base,I.loc,I.cell,I.free,I.freeC,I.pin,I.hok,I.len⟩
theorem SP.unwish {D:Ends}{f:Flow}{s':Shared}(h:SP (X.wish E) pins D f s'):SP X pins D f s':=by
 cases f with
 | next=>obtain⟨σ',H',I,q⟩:=h;exact⟨σ',H',I.unwish,q⟩
 | brk=>obtain⟨σ',H',I,q⟩:=h;exact⟨σ',H',I.unwish,q⟩
 | cont=>obtain⟨σ',H',I,q⟩:=h;exact⟨σ',H',I.unwish,q⟩
 | ret u=>obtain⟨v,σ',H',I,r,q⟩:=h;exact⟨v,σ',H',I.unwish,r,q⟩
theorem AL.nox {st:List Stmt}{t:TS}(h:AL X.nox st t):AL X st t:=fun pins s σ H D I hw =>
 Wc (h pins s σ H D (I.wish _) hw) (fun _ _ q=>q.unwish) fun _ _ z=>False.elim z
end
section
variable {X:Cx}{st:Stmt}{rest:List Stmt}{t u:TS}{e:Expr}{te:TE}{pos:Pos}
def Ij:TS:=fun D σ H=>D.nx σ H
def P4 (t u:TS):TS:=fun D σ H=>t { D with nx:=u D } σ H
theorem bA:AL X [] Ij:=fun _ _ σ H _ I h=>wpAny_execs_nil ⟨σ,H,I,h⟩
theorem ak (h1:PS X st t) (h2:AL X rest u):AL X (st::rest) (P4 t u):=by
 intro pins s σ H D I h
 refine wpAny_execs_cons (cg (h1 pins s σ H { D with nx:=u D } I h) fun f s1 q=>?_)
 cases f with
 | next =>
  obtain⟨σ',H',I',q⟩:=q
  exact h2 pins s1 σ' H' D I' q
 | ret v=>exact q
 | brk=>exact q
 | cont=>exact q
theorem az (h1:PS X st t):AL X [st] t:=by
 intro pins s σ H D I h
 refine wpAny_execs_cons (cg (h1 pins s σ H D I h) fun f s1 q=>?_)
 cases f with
 | next=>exact wpAny_execs_nil q
 | ret v=>exact q
 | brk=>exact q
 | cont=>exact q
theorem Inv.quiet {pins:List (Addr×Obj)}{σ:St}{H:Hp}{s:Shared}(I:Inv X pins σ H s):interactive X.env=false:=by simp[interactive,I.ok.kind]
def G0 (te:TE):TS:=fun D σ H=>te σ H fun _ H1=>D.nx σ H1
theorem bT (he:PE X e te) (hs:swapsWith e none pos.line X.env=pure false:=by rfl):PS X (.Expr e pos) (G0 te):=by
 intro pins s σ H D I h
 exact wpAny_Expr_any (cg (he pins s σ H _ I h) fun v s1 ⟨x,H1,I1,r1,q1⟩=>⟨σ,H1,I1,q1⟩) I.quiet hs
def OQ (te:TE):TS:=fun D σ H=>te σ H D.rt
theorem aP (he:PE X e te):PS X (.Return (some e) pos) (OQ te):=by
 intro pins s σ H D I h
 exact wpAny_Return_some (cg (he pins s σ H _ I h) fun v s1 ⟨x,H1,I1,r1,q1⟩=>⟨x,σ,H1,I1,r1,q1⟩)
def Of (c:TT) (t u:TS):TS:=fun D σ H=>c σ H fun b H1=>if b=true then t D σ H1 else u D σ H1
theorem cJ {c:Expr}{a b:List Stmt}{tc:TT}(hc:PT X c tc) (ha:AL X a t) (hb:AL X b u):PS X (.If c a b pos) (Of tc t u):=by
 intro pins s σ H D I h
 refine wpAny_If (cg (hc pins s σ H _ I h) fun d s1 ⟨H1,I1,q1⟩=>?_)
 cases d with
 | true=>exact ha pins s1 σ H1 D I1 q1
 | false=>exact hb pins s1 σ H1 D I1 q1
end
abbrev TG:=V->St->Hp->(St->Hp->Prop)->Prop
abbrev Hj:=List V->St->Hp->(St->Hp->Prop)->Prop
def PG (X:Cx) (target:Expr) (t:TG):Prop :=
 ∀(pins:List (Addr×Obj)) (s:Shared) (σ:St) (H:Hp) (v:V) (u:Value) (Q:St->Hp->Prop),Inv X pins σ H s->RelV v u->t v σ H Q ->
  wpAny (model X.prog X.w) X.A (assign target X.env u) (fun _ s'=>∃σ' H',Inv X pins σ' H' s'/\Q σ' H') X.xe s
def OW (X:Cx) (ts:List Expr) (t:Hj):Prop :=
 ∀(pins:List (Addr×Obj)) (s:Shared) (σ:St) (H:Hp) (vs:List V) (us:List Value) (Q:St->Hp->Prop),Inv X pins σ H s->Vals vs us->t vs σ H Q ->
  wpAny (model X.prog X.w) X.A (assignInOrder ((assignEach ts X.env).map (·.2)) us) (fun _ s'=>∃σ' H',Inv X pins σ' H' s'/\Q σ' H') X.xe s
abbrev zx:=V->V->V->Hp->(Hp->Prop)->Prop
def Jh (X:Cx) (t:zx):Prop :=
 ∀(pins:List (Addr×Obj)) (s:Shared) (σ:St) (H:Hp) (o i v:V) (ov iv u:Value) (Q:Hp->Prop),Inv X pins σ H s->RelV o ov->RelV i iv->RelV v u->t o i v H Q ->
  wpAny (model X.prog X.w) X.A (setItem ov iv u) (fun _ s'=>∃H',Inv X pins σ H' s'/\Q H') X.xe s
abbrev FW:=V->V->Hp->VK->Prop
def QJ (X:Cx) (op:Operator) (t:FW):Prop :=
 ∀(pins:List (Addr×Obj)) (s:Shared) (σ:St) (H:Hp) (x y:V) (v u:Value) (Q:VK),Inv X pins σ H s->RelV x v->RelV y u->t x y H Q ->
  wpAny (model X.prog X.w) X.A (inplaceOp op v u) (EP X pins σ Q) X.xe s
section
variable {X:Cx}{pos:Pos}
def v8 (i:Nat):TG:=fun v σ H Q=>Q (σ.set i (some v)) H
theorem aC {i:Nat}{x:Str}(hN:X.N.Nodup) (hi:X.N[i]? = some x) (hx:Loc X.env.scope x) (hf:X.fn x=true\/X.env.scope.names.lookup x=some .local:=by first|exact .inl rfl|exact .inr rfl|assumption):PG X (.Name x pos) (v8 i):=by
 intro pins s σ H v u Q I r h
 exact wpAny_assign_Name (qz I hN hi hx r (fun s' I'=>⟨_,H,I',h⟩) hf)
def RB:Hj:=fun vs σ H Q=>vs=[]/\Q σ H
def OU (t:TG) (u:Hj):Hj:=fun vs σ H Q=>∃v r,vs=v::r/\t v σ H fun σ' H'=>u r σ' H' Q
theorem cE:OW X [] RB:=by
 intro pins s σ H vs us Q I r h
 obtain⟨e,h⟩:=h
 subst e
 cases r
 exact assignInOrder_nil ⟨σ,H,I,h⟩
theorem aN {e:Expr}{es:List Expr}{t:TG}{u:Hj}(h1:PG X e t) (h2:OW X es u)
  (hs:(assignEach (e::es) X.env).map (·.2)=assign e X.env::(assignEach es X.env).map (·.2):=by rfl):OW X (e::es) (OU t u):=by
 intro pins s σ H vs us Q I r h
 obtain⟨v,vr,e1,h⟩:=h
 subst e1
 cases r with
 | cons r rr =>
  rw[hs]
  refine assignInOrder_cons (cg (h1 pins s σ H _ _ _ I r h) fun _ s1 ⟨σ1,H1,I1,q1⟩=>?_)
  exact h2 pins s1 σ1 H1 _ _ Q I1 rr q1
def O6 (K:W.Frag) (n:Nat) (t:Hj):TG:=fun v σ H Q=>∃a xs,v = .ref a/\gu K H a xs/\xs.length=n/\t xs σ H Q
theorem eF {es:List Expr}{k:Nat}{t:Hj}{n:Nat}(hc:X.calm=true) (h:OW X es t)
  (hn:(assignEach es X.env).length=n:=by rfl) (hst:(assignEach es X.env).findIdx? (·.1)=none:=by rfl):PG X (.Tuple es k pos) (O6 X.K n t):=by
 intro pins s σ H v u Q I r hw
 obtain⟨a,xs,e1,hq,hl,hw⟩:=hw
 subst e1
 cases r
 obtain⟨its,rv,ht,hz⟩:=I.tuple hq
 refine assign_Tuple_tuple (I.ok.hd hc) ht (by simp[hn,<- hl,rv.length]) hst fun h' hx=>?_
 have I1:Inv X pins σ H { s with heap:=h' }:=I.kept (t':=s.toks) fun b o e=>hx b o (VN (VG e)) e
 exact h pins _ σ H xs _ Q I1 (by simpa using rv) hw
def MY (to ti:TE) (t:zx):TG:=fun v σ H Q=>to σ H fun o H1=>ti σ H1 fun i H2=>t o i v H2 fun H3=>Q σ H3
theorem yS {o i:Expr}{to ti:TE}{t:zx}(ho:PE X o to) (hi:PE X i ti) (hs:Jh X t)
  (ha:∀v,assign (.Subscript o i pos) X.env v =(do
   let ov <- holding [v] (eval o X.env)
   let iv <- holding [v,ov] (eval i X.env)
   standAt pos
   holding [v,ov,iv] (setItem ov iv v)
   release [v,ov,iv] []):=by intro _;rfl):PG X (.Subscript o i pos) (MY to ti t):=by
 intro pins s σ H v u Q I r h
 rw[ha]
 refine Vl (Wt (cg (ho pins s σ H _ I h) fun ov s1 ⟨x,H1,I1,r1,q1⟩=>?_))
 refine Vl (Wt (cg (hi pins s1 σ H1 _ I1 q1) fun iv s2 ⟨y,H2,I2,r2,q2⟩=>?_))
 refine Vl (Xc (Vl (Wt (cg (hs pins s2 σ H2 x y v ov iv u _ I2 r1 r2 r q2) fun _ s3 ⟨H3,I3,q3⟩=>?_))))
 exact wpAny_release ⟨σ,H3,I3,q3⟩
def GP (te:TE) (g:TG):TS:=fun D σ H=>te σ H fun x H1=>g x σ H1 D.nx
theorem fh {tg e:Expr}{te:TE}{g:TG}(he:PE X e te) (hg:PG X tg g) (hs:swapsWithSole [tg] e pos.line X.env=pure false:=by rfl) (hw:swappedStores [tg] e X.env=pure none:=by rfl)
  (h1:(assignEach [tg] X.env).map (·.2)=[assign tg X.env]:=by rfl):PS X (.Assign [tg] e pos) (GP te g):=by
 intro pins s σ H D I h
 refine wpAny_Assign_stores (cg (he pins s σ H _ I h) fun v s1 ⟨x,H1,I1,r1,q1⟩=>?_) hs hw
 rw[h1]
 exact cg (hg pins s1 σ H1 x v _ I1 r1 q1) fun _ s2 q=>q
theorem aH {i:Nat}{x:Str}{e:Expr}{te:TE}{pos':Pos}(hN:X.N.Nodup) (hi:X.N[i]? = some x) (hx:Loc X.env.scope x) (he:PE X e te) (hs:swapsWith e (some (.Name x pos')) pos.line X.env=pure false:=by rfl) (hf:X.fn x=true\/X.env.scope.names.lookup x=some .local:=by first|exact .inl rfl|exact .inr rfl|assumption) :
  PS X (.Assign [.Name x pos'] e pos) (GP te (v8 i)):=by
 intro pins s σ H D I h
 refine wpAny_Assign_Name (cg (he pins s σ H _ I h) fun v s1 ⟨y,H1,I1,r1,q1⟩=>?_) hs
 exact qz I1 hN hi hx r1 (fun s2 I2=>⟨_,H1,I2,q1⟩) hf
def Pb (i:Nat) (te:TE) (ti:FW):TS:=fun D σ H=>∃x,σ[i]? = some (some x)/\te σ H fun y H1=>ti x y H1 fun z H2=>D.nx (σ.set i (some z)) H2
theorem Ds {i:Nat}{x:Str}{e:Expr}{te:TE}{op:Operator}{ti:FW}{pos':Pos}(hN:X.N.Nodup) (hi:X.N[i]? = some x) (hx:Loc X.env.scope x) (he:PE X e te) (ho:QJ X op ti) (hf:X.fn x=true\/X.env.scope.names.lookup x=some .local:=by first|exact .inl rfl|exact .inr rfl|assumption) :
  PS X (.AugAssign (.Name x pos') op e pos) (Pb i te ti):=by
 intro pins s σ H D I h
 obtain⟨v,e1,h⟩:=h
 obtain⟨m,hn,hl⟩:=I.loc
 have vis:PZ X.env.scope x:=by rcases hx with k|k;exact .inl k;exact .inr (.inl k)
 obtain⟨u,r,l⟩:=hl i x v hi e1 vis
 refine wpAny_AugAssign_Name ?_
 have go:wpAny (model X.prog X.w) X.A (eval e X.env) (fun w s₂=>wpAny (model X.prog X.w) X.A (inplaceOp op u w) (fun r s₃=>wpAny (model X.prog X.w) X.A (storeName X.env x r) (fun _=>SP X pins D .next) X.xe s₃) X.xe s₂) X.xe s:=by
  refine cg (he pins s σ H _ I h) fun w s1 ⟨y,H1,I1,r1,q1⟩=>?_
  refine cg (ho pins s1 σ H1 v y u w _ I1 r r1 q1) fun z s2 ⟨zv,H2,I2,r2,q2⟩=>?_
  exact qz I2 hN hi hx r2 (fun s3 I3=>⟨_,H2,I3,q2⟩) hf
 rcases l with⟨hk,hm⟩|⟨hk,c,hc,hcell⟩
 ·exact wpAny_loadName_local I.ok.kind hk hn hm go
 ·rcases hk with hk|hk
  ·exact wpAny_loadName_cell I.ok.kind hk hc hcell go
  ·rcases hx with k|k
   ·have:X.env.scope.names.lookup x=some .free:=hk
    rw[k]at this;cases this
   ·have:X.env.scope.names.lookup x=some .free:=hk
    rw[k]at this;cases this
def HW (to ti te:TE) (tget:V->V->Hp->VK->Prop) (tip:FW) (tset:zx):TS:=fun D σ H=>to σ H fun o H1=>ti σ H1 fun i H2=>tget o i H2 fun x H3=>te σ H3 fun y H4=>tip x y H4 fun z H5=>tset o i z H5 fun H6=>D.nx σ H6
def OS (X:Cx) (t:V->V->Hp->VK->Prop):Prop :=
 ∀(pins:List (Addr×Obj)) (s:Shared) (σ:St) (H:Hp) (o i:V) (ov iv:Value) (Q:VK),Inv X pins σ H s->RelV o ov->RelV i iv->t o i H Q ->
  wpAny (model X.prog X.w) X.A (getItem ov iv) (EP X pins σ Q) X.xe s
theorem Fo {o i e:Expr}{to ti te:TE}{tget:V->V->Hp->VK->Prop}{tip:FW}{tset:zx}{op:Operator}{tpos:Pos}(ho:PE X o to) (hi:PE X i ti) (hg:OS X tget) (he:PE X e te) (hp:QJ X op tip) (hs:Jh X tset)
  (ha:∀ov iv new,augStore i ov iv new =(do holding [new,ov,iv] (setItem ov iv new);release [new,ov,iv] [];pure .next):=by intros;rfl):PS X (.AugAssign (.Subscript o i tpos) op e pos) (HW to ti te tget tip tset):=by
 intro pins s σ H D I h
 refine wpAny_AugAssign_SubscriptAny (cg (ho pins s σ H _ I h) fun ov s1 ⟨x1,H1,I1,r1,q1⟩=>?_) ha
 refine cg (hi pins s1 σ H1 _ I1 q1) fun iv s2 ⟨x2,H2,I2,r2,q2⟩=>?_
 refine cg (hg pins s2 σ H2 x1 x2 ov iv _ I2 r1 r2 q2) fun old s3 ⟨x3,H3,I3,r3,q3⟩=>?_
 refine cg (he pins s3 σ H3 _ I3 q3) fun v s4 ⟨x4,H4,I4,r4,q4⟩=>?_
 refine cg (hp pins s4 σ H4 x3 x4 old v _ I4 r3 r4 q4) fun new s5 ⟨x5,H5,I5,r5,q5⟩=>?_
 exact cg (hs pins s5 σ H5 x1 x2 x5 ov iv new _ I5 r1 r2 r5 q5) fun _ s6 ⟨H6,I6,q6⟩=>⟨σ,H6,I6,q6⟩
def T8 (f:Int->Int->Int):FW:=fun x y H Q=>∃i j,x = .int i/\y = .int j/\Q (.int (f i j)) H
theorem Ci:QJ X .Add (T8 fun i j=>i+j):=by
 intro pins s σ H x y v u Q I r1 r2 h
 obtain⟨i,j,e1,e2,q⟩:=h
 subst e1;subst e2
 obtain⟨t,rfl⟩:=r1
 obtain⟨t',rfl⟩:=r2
 exact iadd_int ⟨.int _,H,I.tok _,⟨_,rfl⟩,q⟩
end
section
variable {X:Cx}{pos:Pos}
def IJ (c:TT) (tb:TS):TS:=fun D σ H=>∃W:Nat->St->Hp->Prop,(∃m,W m σ H)/\∀m σ H,W m σ H ->
 c σ H fun b H1=>if b=true then ∃N:St->Hp->Prop,(∀σ' H',N σ' H'->∃m',m'<m/\W m' σ' H')/\tb { D with nx:=N,ct:=N,bk:=D.nx } σ H1 else D.nx σ H1
theorem gJ {c:Expr}{body:List Stmt}{tc:TT}{tb:TS}(hp:PassesOwn (model X.prog X.w) X.A X.env X.xe) (hc:PT X c tc) (hb:AL X body tb):PS X (.While c body [] pos) (IJ tc tb):=by
 intro pins s σ H D I h
 obtain⟨W,⟨m0,w0⟩,turn⟩:=h
 refine wpAny_While (codeAny_whileLoop (fun n s'=>∃σ' H',Inv X pins σ' H' s'/\W n σ' H') ?_ m0 ⟨σ,H,I,w0⟩)
 rintro n s1 ⟨σ1,H1,I1,w1⟩
 refine W6 hp (cg (hc pins s1 σ1 H1 _ I1 (turn n σ1 H1 w1)) fun b s2 ⟨H2,I2,q2⟩=>?_)
 cases b with
 | true =>
  obtain⟨N,hN,q2⟩:=q2
  rw[VB rfl]
  refine W6 hp (cg (hb pins s2 σ1 H2 _ I2 q2) fun f s3 q3=>?_)
  cases f with
  | next =>
   obtain⟨σ3,H3,I3,n3⟩:=q3
   obtain⟨m',hm,w3⟩:=hN σ3 H3 n3
   exact⟨m',hm,σ3,H3,I3,w3⟩
  | cont =>
   obtain⟨σ3,H3,I3,n3⟩:=q3
   obtain⟨m',hm,w3⟩:=hN σ3 H3 n3
   exact⟨m',hm,σ3,H3,I3,w3⟩
  | brk=>exact q3
  | ret v=>exact q3
 | false =>
  rw[VF VI]
  exact wpAny_execs_nil ⟨σ1,H2,I2,q2⟩
end
structure It where
 go:Nat->Hp->Prop
 yld:Nat->Hp->V->Hp->Prop
 stop:Nat->Hp->Prop
def jy (X:Cx) (pins:List (Addr×Obj)) (H:Hp) (b:Addr):Prop :=
 H b=none/\b≠X.env.locals/\b∉X.fs/\(b∈X.ex\/X.s₀.heap.objs.size<=b)/\(∀x c,X.env.cells.lookup x=some c->c≠b)/\∀p∈X.pn++pins,p.1≠b
theorem Inv.fpOk {X:Cx}{pins:List (Addr×Obj)}{σ:St}{H H':Hp}{s:Shared}{b:Addr}(I:Inv X pins σ H s) (hb:s.heap.objs.size<=b) (hn:H' b=none):jy X pins H' b:=by
 refine⟨hn,XE (VT I.lt hb),I.nofs hb,.inr (Vv I.sz hb),fun x c e z=>?_,fun p hp z=>?_⟩
 ·obtain⟨v,q⟩:=I.cell x c e
  exact absurd (VT q.lt (by rw[z];exact hb)) (Wz _)
 ·exact absurd (VT (VG (I.pin p hp).1) (by rw[z];exact hb)) (Wz _)
structure Turn (P:Program) (w:World) (K:W.Frag) (tg:Expr) (J:It) (fp:List Addr) (it:Addr) (tn:Nat->Heap->Prop):Prop where
 mem:it∈fp
 obj:∀i h,tn i h->∀b∈fp,∃o,h.get? b=some o/\∀v,o.data ≠ .cell v
 keep:∀i h h',tn i h->(∀b∈fp,∀o,h.get? b=some o->h'.get? b=some o)->tn i h'
 item:∀(X:Cx),X.prog=P->X.w=w->X.K=K->X.calm=true->∀(i:Nat) (pins:List (Addr×Obj)) (s:Shared) (σ:St) (H:Hp) (E:Value->Shared->Prop),Inv X pins σ H s->(∀b∈fp,jy X pins H b)->tn i s.heap->J.go i H ->
  wpAny (model P w) X.A (pyNext (.ref it)) (fun r s1=>∃u,r=some u /\
   wpAny (model P w) X.A (letOwnedTupleGo tg (.ref it) u) (fun _ s2=>∃x H',Inv X pins σ H' s2/\RelV x u/\J.yld i H x H'/\tn (i+1) s2.heap/\∀b∈fp,H' b=none) E s1) E s
 done:∀(X:Cx),X.prog=P->X.w=w->X.K=K->X.calm=true->∀(i:Nat) (pins:List (Addr×Obj)) (s:Shared) (σ:St) (H:Hp) (E:Value->Shared->Prop),Inv X pins σ H s->(∀b∈fp,jy X pins H b)->tn i s.heap->J.stop i H ->
  wpAny (model P w) X.A (pyNext (.ref it)) (fun r s1=>r=none/\Inv X pins σ H s1) E s
 self:∀(A:Around) (i:Nat) (s:Shared) (Q:Value->Shared->Prop) (E:Value->Shared->Prop),tn i s.heap->Q (.ref it) s->wpAny (model P w) A (pyIter (.ref it)) Q E s
abbrev TI:=St->Hp->(It->Hp->Prop)->Prop
def TZ (X:Cx) (pins:List (Addr×Obj)) (σ:St) (tg:Expr) (R:It->Hp->Prop) (itv:Value) (s2:Shared):Prop :=
 ∃(it:Addr) (fp:List Addr) (tn:Nat->Heap->Prop) (J:It) (H':Hp),itv = .ref it/\Inv X pins σ H' s2/\Turn X.prog X.w X.K tg J fp it tn/\tn 0 s2.heap/\(∀b∈fp,jy X pins H' b)/\R J H'
def PI (X:Cx) (tg iter:Expr) (wi:TI):Prop :=
 ∀(pins:List (Addr×Obj)) (s:Shared) (σ:St) (H:Hp) (R:It->Hp->Prop),Inv X pins σ H s->wi σ H R ->
  wpAny (model X.prog X.w) X.A (eval iter X.env) (fun v s1=>wpAny (model X.prog X.w) X.A (pyIter v) (TZ X pins σ tg R) X.xe s1) X.xe s
theorem HU {M:Model} {A:Around} {E:Value->Shared->Prop} {s:Shared} {tg:Expr} {it:Addr} {u:Value} {o:Obj} {n:String} {vs:Array Value} {Q:Unit->Shared->Prop} (ho:s.heap.get? it = some o) (hc:o.cls = .type n) (hd:o.data = .fields vs)
    (hn:["enumerate", "zip", "dict_itemiterator", "dict_reverseitemiterator", "odict_iterator", "itertools.zip_longest", "itertools.pairwise"].contains n = false) (hQ:Q () s) : wpAny M A (letOwnedTupleGo tg (.ref it) u) Q E s:=by
  unfold letOwnedTupleGo
  cases tg <;> first
    | exact Vz hQ
    | (cases u <;> first
        | exact Vz hQ
        | (refine Vl (wpAny_load ho ?_)
           rw [hc,hd]
           show wpAny M A (if (["enumerate", "zip", "dict_itemiterator", "dict_reverseitemiterator", "odict_iterator", "itertools.zip_longest", "itertools.pairwise"].contains n && vs[0]? == some (rawInt _)) = true then _ else _) Q E s
           rw [VF (by intro h; rw [hn,Bool.false_and] at h; cases h)]
           exact Vz hQ))
def AG (K:W.Frag) (a:Addr):It :=
 ⟨fun i H=>∃xs x,aU K H a xs/\xs[i]? = some x,fun i H x H'=>H'=H/\∀xs,aU K H a xs->xs[i]? = some x,fun i H=>∃xs,aU K H a xs/\xs.length<=i⟩
def Bm (lo:Int) (n:Nat):It:=⟨fun i _=>i<n,fun i H x H'=>H'=H/\x = .int (lo+i),fun i _=>n<=i⟩
theorem BS {P:Program}{w:World}{K:W.Frag}{tg:Expr}(a it:Addr):Turn P w K tg (AG K a) [it] it (fun i h=>h.IsListIter it a i) where
 mem:=by simp
 obj:=fun i h st b hb=>by
  have e:b=it:=by simpa using hb
  subst e
  obtain⟨o,e,c,d⟩:=st
  exact⟨o,e,fun v z=>by rw[d]at z;cases z⟩
 keep:=fun i h h' st k=>st.at fun o e=>k it (by simp) o e
 item:=by
  intro X hP hw hK hc i pins s σ H E I hf st hg
  subst hP hw hK
  obtain⟨xs,x,hq,hx⟩:=hg
  obtain⟨its,rv,p,hz⟩:=I.list hq
  obtain⟨u,hu,ru⟩:=rv.get hx
  obtain⟨f0,f1,f2,f3,f4,f5⟩:=hf it (by simp)
  refine wpAny_pyNext_list_item st p.isList (x:=u) (by simpa using hu) fun h' st' sb=>?_
  have I1:Inv X pins σ H { s with heap:=h' }:=I.turned (t':=s.toks) (fun b o hb e=>(sb.2 b hb).trans e) f0 f1 f3 f4 f5
  obtain⟨o,e,c,d⟩:=id st'
  exact⟨u,rfl,HU (s:={ s with heap:=h' }) e c d (by decide) ⟨x,H,I1,ru,⟨rfl,fun ys hy=>by rw[I.list_inj hy hq];exact hx⟩,st',fun b hb=>(hf b hb).1⟩⟩
 done:=by
  intro X hP hw hK hc i pins s σ H E I hf st hg
  subst hP hw hK
  obtain⟨xs,hq,hx⟩:=hg
  obtain⟨its,rv,p,hz⟩:=I.list hq
  obtain⟨f0,f1,f2,f3,f4,f5⟩:=hf it (by simp)
  have hl:=rv.length
  exact wpAny_pyNext_list_end (I.ok.hd hc) st p.isList (by simp;omega) fun h' eb=>⟨rfl,I.turned (t':=s.toks) (fun b o hb e=>eb b o hb e) f0 f1 f3 f4 f5⟩
 self:=fun _ _ _ _ _ st h=>wpAny_pyIter_listiter st h
theorem zX {P:Program}{w:World}{K:W.Frag}{tg:Expr}(it:Addr) (lo:Int) (n:Nat):Turn P w K tg (Bm lo n) [it] it (fun i h=>IsRangeIter h it (lo+(i:Nat)*1) ((n:Int)-(i:Nat)) 1) where
 mem:=by simp
 obj:=fun i h st b hb=>by
  have e:b=it:=by simpa using hb
  subst e
  exact⟨_,st,fun v z=>by
   have z':Data.fields _=Data.cell v:=z
   cases z'⟩
 keep:=fun i h h' st k=>k it (by simp) _ st
 item:=by
  intro X hP hw hK hc i pins s σ H E I hf st hg
  subst hP hw hK
  obtain⟨f0,f1,f2,f3,f4,f5⟩:=hf it (by simp)
  have W:=Walks.range (prog:=X.prog) (w:=X.w) (I.ok.hd hc) it lo 1 n
  refine W.item i s _ _ hg st fun v h' tk hv st' kk=>?_
  obtain⟨t,rfl⟩:=hv
  have I1:Inv X pins σ H { s with heap:=h',toks:=tk }:=I.turned (fun b o hb e=>kk b o (by simpa using hb) e) f0 f1 f3 f4 f5
  refine⟨_,rfl,HU (s:={ s with heap:=h',toks:=tk }) (n := "range_iterator") st' rfl rfl (by decide) ⟨.int (lo+i),H,I1,⟨t,?_⟩,⟨rfl,rfl⟩,st',fun b hb=>(hf b hb).1⟩⟩
  rw[Int.mul_one]
 done:=by
  intro X hP hw hK hc i pins s σ H E I hf st hg
  subst hP hw hK
  obtain⟨f0,f1,f2,f3,f4,f5⟩:=hf it (by simp)
  exact wpAny_pyNext_range_end (I.ok.hd hc) st (by have:n<=i:=hg;omega) fun h' eb=>⟨rfl,I.turned (t':=s.toks) (fun b o hb e=>eb b o hb e) f0 f1 f3 f4 f5⟩
 self:=fun _ _ _ _ _ st h=>wpAny_pyIter_rangeiter st h
section
variable {X:Cx}{tg:Expr}
def Cs (K:W.Frag) (tl:TE):TI:=fun σ H R=>tl σ H fun x H1=>∃a,x = .ref a/\(∃xs,aU K H1 a xs)/\R (AG K a) H1
theorem aZ {l:Expr}{tl:TE}(hl:PE X l tl):PI X tg l (Cs X.K tl):=by
 intro pins s σ H R I h
 refine cg (hl pins s σ H _ I h) fun v s1 ⟨x,H1,I1,r1,q1⟩=>?_
 obtain⟨a,e,⟨xs,hq⟩,q⟩:=q1
 subst e
 cases r1
 obtain⟨its,rv,p,hz⟩:=I1.list hq
 refine wpAny_pyIter_list p.isList ?_
 refine⟨s1.heap.objs.size,[s1.heap.objs.size],_,_,H1,rfl,I1.kept (t':=s1.toks) fun b o e=>Vu _ e,BS a _,⟨_,V0 _ rfl,rfl,rfl⟩,fun b hb=>?_,q⟩
 have e:b=s1.heap.objs.size:=by simpa using hb
 subst e
 exact I1.fpOk (Vt _) (I1.hok.fresh (Vt _))
theorem x_ {pins:List (Addr×Obj)}{σ:St}{H:Hp}{s:Shared}{R:It->Hp->Prop}{E:Value->Shared->Prop}{lo hi:Int}{t u v:Tok}{tk:Nat}(I:Inv X pins σ H s) (h1:-(2^62)<=lo) (h2:lo<2^62) (h3:-(2^62)<=hi) (h4:hi<2^62)
  (q:R (Bm lo (hi-lo).toNat) H):wpAny (model X.prog X.w) X.A (pyIter (.ref s.heap.objs.size)) (TZ X pins σ tg R) E { s with heap:=s.heap.push { cls:=.type "range",data:=.fields #[.int lo t,.int hi u,.int 1 v] },toks:=tk }:=by
 refine wpAny_pyIter_range (IsRange.new ..) (small_one h1 h2 h3 h4) ?_
 have I1:Inv X pins σ H { s with heap:=s.heap.push { cls:=.type "range",data:=.fields #[.int lo t,.int hi u,.int 1 v] },toks:=tk }:=I.kept fun b o e=>Vu _ e
 refine⟨(s.heap.push { cls:=.type "range",data:=.fields #[.int lo t,.int hi u,.int 1 v] }).objs.size,[(s.heap.push { cls:=.type "range",data:=.fields #[.int lo t,.int hi u,.int 1 v] }).objs.size],_,_,H,rfl,
  I1.kept (t':=tk) fun b o e=>Vu _ e,zX _ lo (hi-lo).toNat,?_,fun b hb=>?_,q⟩
 ·have e1:lo+((0:Nat):Int)*1=lo:=by simp
  have e2:(((hi-lo).toNat:Nat):Int)-((0:Nat):Int)=Builtin.Range.rangeSize lo hi 1:=by rw[rangeSize_one];split <;> omega
  show IsRangeIter _ _ (lo+((0:Nat):Int)*1) ((((hi-lo).toNat:Nat):Int)-((0:Nat):Int)) 1
  rw[e1,e2]
  exact V0 _ rfl
 ·have e:b =(s.heap.push { cls:=.type "range",data:=.fields #[.int lo t,.int hi u,.int 1 v] }).objs.size:=by simpa using hb
  subst e
  exact I1.fpOk (Vt _) (I1.hok.fresh (Vt _))
def G8 (ta:TA):TI:=fun σ H R=>ta σ H fun vs H1=>∃j:Int,vs=[.int j]/\-(2^62)<=j/\j<2^62/\R (Bm 0 j.toNat) H1
def Hz (ta:TA):TI:=fun σ H R=>ta σ H fun vs H1=>∃i j:Int,vs=[.int i,.int j]/\(-(2^62)<=i/\i<2^62/\-(2^62)<=j/\j<2^62)/\R (Bm i (j-i).toNat) H1
theorem fB {a:Expr}{ta:TA}{p pos:Pos}(hg:Gl X "range") (hm:X.mg "range" = none) (ha:PA X [a] ta) (hs:starEach [a] X.env=[(false,eval a X.env)]:=by rfl):PI X tg (.Call (.Name "range" p) [a] [] pos) (G8 ta):=by
 intro pins s σ H R I h
 refine Call_ (pC I hg hm boot_range (WY (cg (ha pos pins s σ H _ I h) fun us s1 ⟨vs,H1,I1,r1,q1⟩=>?_) hs rfl))
 obtain⟨j,e,q1,q2,q⟩:=q1
 subst e
 cases r1 with
 | cons r rr =>
  cases rr
  obtain⟨t,rfl⟩:=r
  exact call_range_1 (x_ I1 (by omega) (by omega) q1 q2 (by simpa using q))
theorem BA {a b:Expr}{ta:TA}{p pos:Pos}(hg:Gl X "range") (hm:X.mg "range" = none) (ha:PA X [a,b] ta) (hs:starEach [a,b] X.env=[(false,eval a X.env),(false,eval b X.env)]:=by rfl) (hs2:starEach [b] X.env=[(false,eval b X.env)]:=by rfl) :
  PI X tg (.Call (.Name "range" p) [a,b] [] pos) (Hz ta):=by
 intro pins s σ H R I h
 refine Call_ (pC I hg hm boot_range (WY (cg (ha pos pins s σ H _ I h) fun us s1 ⟨vs,H1,I1,r1,q1⟩=>?_) (by rw[hs,hs2]) (by rw[hs2];rfl)))
 obtain⟨i,j,e,⟨q1,q2,q3,q4⟩,q⟩:=q1
 subst e
 cases r1 with
 | cons r rr =>
  cases rr with
  | cons r' rr =>
   cases rr
   obtain⟨t,rfl⟩:=r
   obtain⟨t',rfl⟩:=r'
   exact call_range_2 (x_ I1 q1 q2 q3 q4 q)
def M9 (wi:TI) (g:TG) (tb:TS):TS:=fun D σ H=>wi σ H fun J H1=>∃W:Nat->Nat->St->Hp->Prop,(∃m,W 0 m σ H1)/\∀i m σ H,W i m σ H ->
 (J.stop i H/\D.nx σ H) \/(J.go i H/\∃N:St->Hp->Prop,(∀σ' H',N σ' H'->∃m',m'<m/\W (i+1) m' σ' H')/\∀x H',J.yld i H x H'->g x σ H' fun σ2 H2=>tb { D with nx:=N,ct:=N,bk:=D.nx } σ2 H2)
def gP (fp:List Addr) (h:Heap):List (Addr×Obj):=fp.filterMap fun b=>(h.get? b).map fun o=>(b,o)
theorem dU {fp:List Addr}{h:Heap}{b:Addr}{o:Obj}(hb:b∈fp) (e:h.get? b=some o):(b,o)∈gP fp h:=Xi.mpr ⟨b,hb,by rw[e];rfl⟩
theorem Bv {fp:List Addr}{h:Heap}{p:Addr×Obj}(hp:p∈gP fp h):p.1∈fp/\h.get? p.1=some p.2:=by
 obtain⟨b,hb,e⟩:=Xi.mp hp
 cases q:h.get? b with
 | none=>rw[q]at e;cases e
 | some o =>
  rw[q]at e
  have e':(b,o)=p:=VC e
  subst e'
  exact⟨hb,q⟩
theorem Inv.pinned {pins:List (Addr×Obj)}{σ:St}{H:Hp}{s:Shared}{fp:List Addr}(I:Inv X pins σ H s) (hf:∀b∈fp,jy X pins H b) (ho:∀b∈fp,∃o,s.heap.get? b=some o/\∀v,o.data ≠ .cell v):Inv X (pins++gP fp s.heap) σ H s :=
 I.pins_of fun p hp=>(VH.mp hp).elim (fun z=>I.pin p (VD _ z)) fun z=>by
  obtain⟨hb,e⟩:=Bv z
  obtain⟨f0,f1,f2,_⟩:=hf p.1 hb
  obtain⟨o,e',d⟩:=ho p.1 hb
  rw[e]at e';cases e'
  exact⟨e,f0,f1,f2,d⟩
theorem Inv.unpinned {pins pl:List (Addr×Obj)}{σ:St}{H:Hp}{s:Shared}(I:Inv X (pins++pl) σ H s):Inv X pins σ H s:=I.pins_of fun p hp=>I.pin p (VD _ (Wr _ hp))
theorem eL {iter:Expr}{body:List Stmt}{wi:TI}{g:TG}{tb:TS}{pos:Pos}(hp:PassesOwn (model X.prog X.w) X.A X.env X.xe) (hc:X.calm=true) (hi:PI X tg iter wi) (hg:PG X tg g) (hb:AL X body tb)
  (hs:∀x,foldedSetIterable iter X.env x=pure x:=by intro _;rfl):PS X (.For tg iter body [] pos) (M9 wi g tb):=by
 intro pins s σ H D I h
 refine wpAny_For (cg (hi pins s σ H _ I h) fun v s1 h1=>cg h1 fun itv s2 h2=>?_) hs
 obtain⟨it,fp,tn,J,H2,e,I2,T,st2,f2,W,⟨m0,w0⟩,turn⟩:=h2
 subst e
 have stat:∀{H':Hp},(∀b∈fp,H' b=none)->∀b∈fp,jy X pins H' b:=fun hn b hb=>⟨hn b hb,(f2 b hb).2⟩
 refine codeAny_forLoop_any (fun n s'=>∃i σ' H',Inv X pins σ' H' s'/\tn i s'.heap/\(∀b∈fp,H' b=none)/\W i n σ' H') ?_ m0 ⟨0,σ,H2,I2,st2,fun b hb=>(f2 b hb).1,w0⟩
 rintro n s3 ⟨i,σ3,H3,I3,st3,fr3,w3⟩
 rcases turn i n σ3 H3 w3 with⟨stop,qn⟩|⟨go,N,hN,step⟩
 ·refine W6 hp (cg (T.done X rfl rfl rfl hc i pins s3 σ3 H3 X.xe I3 (stat fr3) st3 stop) fun r s4 ⟨hr,I4⟩=>?_)
  subst hr
  exact wpAny_execs_nil ⟨σ3,H3,I4,qn⟩
 ·refine W6 hp (cg (T.item X rfl rfl rfl hc i pins s3 σ3 H3 X.xe I3 (stat fr3) st3 go) fun r s4 ⟨u,hr,h4⟩=>?_)
  subst hr
  refine W6 hp (cg h4 fun _ s5 ⟨x,H5,I5,r5,y5,st5,fr5⟩=>?_)
  have I5':=I5.pinned (stat fr5) (T.obj _ _ st5)
  refine W6 hp (cg (hg _ s5 σ3 H5 x u _ I5' r5 (step x H5 y5)) fun _ s6 ⟨σ6,H6,I6,q6⟩=>?_)
  refine W6 hp (cg (hb _ s6 σ6 H6 _ I6 q6) fun f s7 q7=>?_)
  have again:∀{σ7:St}{H7:Hp},Inv X (pins++gP fp s5.heap) σ7 H7 s7->N σ7 H7->∃m,m<n/\∃i σ' H',Inv X pins σ' H' s7/\tn i s7.heap/\(∀b∈fp,H' b=none)/\W i m σ' H':=fun {σ7 H7} I7 n7=>by
   obtain⟨m',hm,w7⟩:=hN σ7 H7 n7
   refine⟨m',hm,i+1,σ7,H7,I7.unpinned,T.keep _ _ _ st5 fun b hb o e=>(I7.pin (b,o) (VD _ (VD _ (dU hb e)))).1,fun b hb=>?_,w7⟩
   obtain⟨o,e,d⟩:=T.obj _ _ st5 b hb
   exact(I7.pin (b,o) (VD _ (VD _ (dU hb e)))).2.1
  cases f with
  | next=>obtain⟨σ7,H7,I7,n7⟩:=q7;exact again I7 n7
  | cont=>obtain⟨σ7,H7,I7,n7⟩:=q7;exact again I7 n7
  | brk=>obtain⟨σ7,H7,I7,q7⟩:=q7;exact⟨σ7,H7,I7.unpinned,q7⟩
  | ret v=>obtain⟨x7,σ7,H7,I7,r7,q7⟩:=q7;exact⟨x7,σ7,H7,I7.unpinned,r7,q7⟩
end
theorem Ea {K:W.Frag}{a:Addr}{xs:List V}{g:TG}{tb:TS}{D:Ends}{σ:St}{H:Hp}(Pv:Nat->St->Hp->Prop) (h0:Pv 0 σ H) (hl:∀i σ H,i<=xs.length->Pv i σ H->aU K H a xs)
  (hs:∀i x σ H,xs[i]? = some x->Pv i σ H->g x σ H fun σ2 H2=>tb { D with nx:=Pv (i+1),ct:=Pv (i+1),bk:=D.nx } σ2 H2) (hd:∀σ H,Pv xs.length σ H->D.nx σ H) :
  ∃W:Nat->Nat->St->Hp->Prop,(∃m,W 0 m σ H)/\∀i m σ H,W i m σ H ->
   ((AG K a).stop i H/\D.nx σ H) \/((AG K a).go i H/\∃N:St->Hp->Prop,(∀σ' H',N σ' H'->∃m',m'<m/\W (i+1) m' σ' H')/\∀x H',(AG K a).yld i H x H'->g x σ H' fun σ2 H2=>tb { D with nx:=N,ct:=N,bk:=D.nx } σ2 H2):=by
 refine⟨fun i m σ H=>m=xs.length-i/\i<=xs.length/\Pv i σ H,⟨xs.length,by simp,VS _,h0⟩,?_⟩
 rintro i m σ H ⟨rfl,hi,p⟩
 have q:=hl i σ H hi p
 by_cases hlt:i<xs.length
 ·refine .inr ⟨⟨xs,xs[i],q,by simp[hlt]⟩,Pv (i+1),fun σ' H' p'=>⟨xs.length-(i+1),by omega,rfl,hlt,p'⟩,fun x H' y=>?_⟩
  obtain⟨e,y⟩:=y
  subst e
  exact hs i x σ _ (y xs q) p
 ·have e:i=xs.length:=by omega
  subst e
  exact .inl ⟨⟨xs,q,Vt _⟩,hd σ H p⟩
theorem BG {lo:Int}{n:Nat}{g:TG}{tb:TS}{D:Ends}{σ:St}{H:Hp}(Pv:Nat->St->Hp->Prop) (h0:Pv 0 σ H)
  (hs:∀i σ H,i<n->Pv i σ H->g (.int (lo+i)) σ H fun σ2 H2=>tb { D with nx:=Pv (i+1),ct:=Pv (i+1),bk:=D.nx } σ2 H2) (hd:∀σ H,Pv n σ H->D.nx σ H) :
  ∃W:Nat->Nat->St->Hp->Prop,(∃m,W 0 m σ H)/\∀i m σ H,W i m σ H ->
   ((Bm lo n).stop i H/\D.nx σ H) \/((Bm lo n).go i H/\∃N:St->Hp->Prop,(∀σ' H',N σ' H'->∃m',m'<m/\W (i+1) m' σ' H')/\∀x H',(Bm lo n).yld i H x H'->g x σ H' fun σ2 H2=>tb { D with nx:=N,ct:=N,bk:=D.nx } σ2 H2):=by
 refine⟨fun i m σ H=>m=n-i/\i<=n/\Pv i σ H,⟨n,by simp,VS _,h0⟩,?_⟩
 rintro i m σ H ⟨rfl,hi,p⟩
 by_cases hlt:i<n
 ·refine .inr ⟨hlt,Pv (i+1),fun σ' H' p'=>⟨n-(i+1),by omega,rfl,hlt,p'⟩,fun x H' y=>?_⟩
  obtain⟨e,y⟩:=y
  subst e y
  exact hs i σ _ hlt p
 ·have e:i=n:=by omega
  subst e
  exact .inl ⟨Vt _,hd σ H p⟩
abbrev R2:=V->V->Hp->VK->Prop
def nq (X:Cx) (f:Value->Value->Sem Value) (r:R2):Prop :=
 ∀(pins:List (Addr×Obj)) (s:Shared) (σ:St) (H:Hp) (x y:V) (v u:Value) (Q:VK),Inv X pins σ H s->RelV x v->RelV y u->r x y H Q ->
  wpAny (model X.prog X.w) X.A (f v u) (EP X pins σ Q) X.xe s
def Rc (X:Cx) (f:Value->Sem Value) (r:V->Hp->VK->Prop):Prop :=
 ∀(pins:List (Addr×Obj)) (s:Shared) (σ:St) (H:Hp) (x:V) (v:Value) (Q:VK),Inv X pins σ H s->RelV x v->r x H Q ->
  wpAny (model X.prog X.w) X.A (f v) (EP X pins σ Q) X.xe s
def eT (X:Cx) (f:Value) (r:List V->Hp->VK->Prop):Prop :=
 ∀(pins:List (Addr×Obj)) (s:Shared) (σ:St) (H:Hp) (xs:List V) (us:List Value) (Q:VK),Inv X pins σ H s->Vals xs us->r xs H Q ->
  wpAny (model X.prog X.w) X.A (call f us) (EP X pins σ Q) X.xe s
def Tc (X:Cx) (r:V->Hp->(Bool->Hp->Prop)->Prop):Prop :=
 ∀(pins:List (Addr×Obj)) (s:Shared) (σ:St) (H:Hp) (x:V) (v:Value) (Q:Bool->Hp->Prop),Inv X pins σ H s->RelV x v->r x H Q ->
  wpAny (model X.prog X.w) X.A (truthy v) (TP X pins σ Q) X.xe s
def OP (r:R2) (ta tb:TE):TE:=fun σ H Q=>ta σ H fun x H1=>tb σ H1 fun y H2=>r x y H2 Q
def TL (r:V->Hp->VK->Prop) (ta:TE):TE:=fun σ H Q=>ta σ H fun x H1=>r x H1 Q
def rI (C:Int->Int->Prop) (g:Int->Int->V):R2:=fun x y H Q=>∃i j,x = .int i/\y = .int j/\C i j/\Q (g i j) H
def GU (g:Int->Int->V):R2:=fun x y H Q=>∃i j,x = .int i/\y = .int j/\Q (g i j) H
def rU (g:Int->V):V->Hp->VK->Prop:=fun x H Q=>∃i,x = .int i/\Q (g i) H
section
variable {X:Cx}{a b c:Expr}{ta tb tc:TE}{pos:Pos}
theorem Kz (ha:PE X a ta) (hb:PE X b tb) {pins:List (Addr×Obj)}{s:Shared}{σ:St}{H:Hp}{R:V->V->Hp->Prop}(I:Inv X pins σ H s)
  (h:ta σ H fun x H1=>tb σ H1 fun y H2=>R x y H2) {Q:Value->Shared->Prop}{f:Value->Value->Sem Value}
  (hf:∀v u s2 x y H2,Inv X pins σ H2 s2->RelV x v->RelV y u->R x y H2->wpAny (model X.prog X.w) X.A (f v u) Q X.xe s2) :
  wpAny (model X.prog X.w) X.A (eval a X.env) (fun v s₁=>wpAny (model X.prog X.w) X.A (eval b X.env) (fun u s₂=>wpAny (model X.prog X.w) X.A (f v u) Q X.xe s₂) X.xe s₁) X.xe s:=by
 refine cg (ha pins s σ H _ I h) fun v s1 ⟨x,H1,I1,r1,q1⟩=>?_
 refine cg (hb pins s1 σ H1 _ I1 q1) fun u s2 ⟨y,H2,I2,r2,q2⟩=>?_
 exact hf v u s2 x y H2 I2 r1 r2 q2
theorem aO {op:Operator}{r:R2}(ho:nq X (binaryOp op) r) (ha:PE X a ta) (hb:PE X b tb):PE X (.BinOp a op b pos) (OP r ta tb):=by
 intro pins s σ H Q I h
 exact wpAny_BinOp (Kz ha hb I h fun v u s2 x y H2 I2 rx ry q=>ho pins s2 σ H2 x y v u Q I2 rx ry q)
theorem CW {op:UnaryOp}{r:V->Hp->VK->Prop}(ho:Rc X (unaryOp op) r) (ha:PE X a ta):PE X (.UnaryOp op a pos) (TL r ta):=by
 intro pins s σ H Q I h
 exact UnaryOp_ (cg (ha pins s σ H _ I h) fun v s1 ⟨x,H1,I1,r1,q1⟩=>ho pins s1 σ H1 x v Q I1 r1 q1)
theorem Nl {f:Value->Value->Sem Value}{C:Int->Int->Prop}{g:Int->Int->Int}
  (rule:∀(i j:Int) (t u:Tok) (s:Shared) (Q:Value->Shared->Prop) (E:Value->Shared->Prop),C i j->Q (.int (g i j) s.toks) { s with toks:=s.toks+1 }->wpAny (model X.prog X.w) X.A (f (.int i t) (.int j u)) Q E s) :
  nq X f (rI C fun i j=>.int (g i j)):=by
 intro pins s σ H x y v u Q I rx ry h
 obtain⟨i,j,rfl,rfl,hc,q⟩:=h
 obtain⟨t,rfl⟩:=rx
 obtain⟨t',rfl⟩:=ry
 exact rule i j t t' s _ _ hc ⟨.int (g i j),H,I.tok _,⟨_,rfl⟩,q⟩
theorem O_ {f:Value->Value->Sem Value}{g:Int->Int->Int}
  (rule:∀(i j:Int) (t u:Tok) (s:Shared) (Q:Value->Shared->Prop) (E:Value->Shared->Prop),Q (.int (g i j) s.toks) { s with toks:=s.toks+1 }->wpAny (model X.prog X.w) X.A (f (.int i t) (.int j u)) Q E s) :
  nq X f (GU fun i j=>.int (g i j)):=by
 intro pins s σ H x y v u Q I rx ry h
 obtain⟨i,j,rfl,rfl,q⟩:=h
 obtain⟨t,rfl⟩:=rx
 obtain⟨t',rfl⟩:=ry
 exact rule i j t t' s _ _ ⟨.int (g i j),H,I.tok _,⟨_,rfl⟩,q⟩
theorem Ft {f:Value->Value->Sem Value}{g:Int->Int->Bool}
  (rule:∀(i j:Int) (t u:Tok) (s:Shared) (Q:Value->Shared->Prop) (E:Value->Shared->Prop),Q (.bool (g i j)) s->wpAny (model X.prog X.w) X.A (f (.int i t) (.int j u)) Q E s) :
  nq X f (GU fun i j=>.bl (g i j)):=by
 intro pins s σ H x y v u Q I rx ry h
 obtain⟨i,j,rfl,rfl,q⟩:=h
 obtain⟨t,rfl⟩:=rx
 obtain⟨t',rfl⟩:=ry
 exact rule i j t t' s _ _ ⟨.bl (g i j),H,I,rfl,q⟩
def Ke (i j:Int):Prop:=0<=j/\j<=1000000/\i.natAbs<2^64
def ID (i j:Int):Prop:=(-(2^64)<i/\i<2^64) \/(-(2^64)<j/\j<2^64)
theorem ID.ok {i j:Int}(h:ID i j):IntMulOk i j:=by
 rcases h with⟨h1,h2⟩|⟨h1,h2⟩
 ·exact .of_left (intBits_le_64 h1 h2)
 ·exact .of_right (intBits_le_64 h1 h2)
theorem bN:nq X (binaryOp .Add) (GU fun i j=>.int (i+j)):=O_ fun _ _ _ _ _ _ _ q=>add_int q
theorem jQ:nq X (binaryOp .Sub) (GU fun i j=>.int (i-j)):=O_ fun _ _ _ _ _ _ _ q=>sub_int q
theorem fO:nq X (binaryOp .Mult) (rI ID fun i j=>.int (i*j)):=Nl fun _ _ _ _ _ _ _ hc q=>mul_int q hc.ok
theorem dM:nq X (binaryOp .Mod) (rI (fun _ j=>0<j) fun i j=>.int (i%j)):=Nl fun i j _ _ _ _ _ hc q=>by
 have h1:(0:Int)<j:=hc
 exact mod_int' (by omega) (by rw[Int.fmod_eq_emod_of_nonneg i (by omega)];exact q)
theorem yC:nq X (binaryOp .Pow) (rI Ke fun i j=>.int (i^j.toNat)):=Nl fun _ _ _ _ _ _ _ hc q=>pow_int_small hc.1 hc.2.1 hc.2.2 q
theorem yX:nq X (binaryOp .LShift) (rI Ke fun i j=>.int (i*2^j.toNat)):=Nl fun _ _ _ _ _ _ _ hc q=>lshift_int_small hc.1 hc.2.1 hc.2.2 q
theorem UX {f:Value->Sem Value}{g:Int->Int}
  (rule:∀(i:Int) (t:Tok) (s:Shared) (Q:Value->Shared->Prop) (E:Value->Shared->Prop),Q (.int (g i) s.toks) { s with toks:=s.toks+1 }->wpAny (model X.prog X.w) X.A (f (.int i t)) Q E s) :
  Rc X f (rU fun i=>.int (g i)):=by
 intro pins s σ H x v Q I rx h
 obtain⟨i,rfl,q⟩:=h
 obtain⟨t,rfl⟩:=rx
 exact rule i t s _ _ ⟨.int (g i),H,I.tok _,⟨_,rfl⟩,q⟩
theorem zu:Rc X (unaryOp .USub) (rU fun i=>.int (-i)):=UX fun _ _ _ _ _ q=>neg_int q
end
def OO:V->V->Bool
 | .non,.non=>true | .non,.int _=>true | .int _,.non=>true | .non,.bl _=>true | .bl _,.non=>true | .non,.str _=>true | .str _,.non=>true
 | .int _,.int _=>true | .bl _,.bl _=>true | .str _,.str _=>true | .byt _,.byt _=>true
 | .int _,.str _=>true | .str _,.int _=>true | .bl _,.str _=>true | .str _,.bl _=>true
 | _,_=>false
def TJ:R2:=fun x y H Q=>OO x y=true/\Q (.bl (decide (x=y))) H
def Tj:R2:=fun x y H Q=>OO x y=true/\Q (.bl (!decide (x=y))) H
theorem Am {i j:Int}:decide (V.int i=V.int j) =(i == j):=by
 rw[Wu]
 simp
theorem DL {i j:Bool}:decide (V.bl i=V.bl j) =(i == j):=by
 rw[Wu]
 simp
theorem As {i j:Str}:decide (V.str i=V.str j) =(i == j):=by
 rw[Wu]
 simp
theorem z7 {i j:Array UInt8}:decide (V.byt i=V.byt j) =(i.toList == j.toList):=by
 rw[Wu]
 cases i
 cases j
 simp
section
variable {X:Cx}{a b c:Expr}{ta tb tc:TE}{pos:Pos}
theorem bO {pins:List (Addr×Obj)}{σ:St}{H:Hp}{s:Shared}{Q:VK}{k k':Bool}(I:Inv X pins σ H s) (q:Q (.bl k) H) (e:k=k'):EP X pins σ Q (.bool k') s:=by
 subst e
 exact⟨.bl k,H,I,rfl,q⟩
theorem fF:nq X (compareOp .Eq) TJ:=by
 intro pins s σ H x y v u Q I rx ry h
 obtain⟨hs,q⟩:=h
 cases x with
 | non =>
  cases rx
  cases y with
  | non=>cases ry;exact PySem.EqNone.eq_none_none (bO I q (by simp))
  | bl j=>cases ry;exact PySem.EqNone.eq_none_bool (bO I q (by simp))
  | int j=>obtain⟨t',rfl⟩:=ry;exact PySem.EqNone.eq_none_int (bO I q (by simp))
  | str j=>obtain⟨t',rfl⟩:=ry;exact PySem.EqNone.eq_none_str (bO I q (by simp))
  | _=>exact absurd (show false=true from hs) VI
 | bl i =>
  cases rx
  cases y with
  | non=>cases ry;exact PySem.EqNone.eq_bool_none (bO I q (by simp))
  | bl j=>cases ry;exact eq_bool (bO I q DL)
  | str j=>obtain⟨t',rfl⟩:=ry;exact PySem.EqMixed.eq_bool_str (bO I q (by simp))
  | _=>exact absurd (show false=true from hs) VI
 | int i =>
  obtain⟨t,rfl⟩:=rx
  cases y with
  | non=>cases ry;exact PySem.EqNone.eq_int_none (bO I q (by simp))
  | int j=>obtain⟨t',rfl⟩:=ry;exact eq_int (bO I q Am)
  | str j=>obtain⟨t',rfl⟩:=ry;exact PySem.EqMixed.eq_int_str (bO I q (by simp))
  | _=>exact absurd (show false=true from hs) VI
 | str i =>
  obtain⟨t,rfl⟩:=rx
  cases y with
  | non=>cases ry;exact PySem.EqNone.eq_str_none (bO I q (by simp))
  | bl j=>cases ry;exact PySem.EqMixed.eq_str_bool (bO I q (by simp))
  | int j=>obtain⟨t',rfl⟩:=ry;exact PySem.EqMixed.eq_str_int (bO I q (by simp))
  | str j=>obtain⟨t',rfl⟩:=ry;exact eq_str (bO I q As)
  | _=>exact absurd (show false=true from hs) VI
 | byt i =>
  obtain⟨t,rfl⟩:=rx
  cases y with
  | byt j=>obtain⟨t',rfl⟩:=ry;exact PySem.W.eq_bytes (bO I q z7)
  | _=>exact absurd (show false=true from hs) VI
 | _=>cases y <;> exact absurd (show false=true from hs) VI
theorem Qo:nq X (compareOp .NotEq) Tj:=by
 intro pins s σ H x y v u Q I rx ry h
 obtain⟨hs,q⟩:=h
 cases x with
 | non =>
  cases rx
  cases y with
  | non=>cases ry;exact PySem.EqNone.ne_none_none (bO I q (by simp))
  | bl j=>cases ry;exact PySem.EqNone.ne_none_bool (bO I q (by simp))
  | int j=>obtain⟨t',rfl⟩:=ry;exact PySem.EqNone.ne_none_int (bO I q (by simp))
  | str j=>obtain⟨t',rfl⟩:=ry;exact PySem.EqNone.ne_none_str (bO I q (by simp))
  | _=>exact absurd (show false=true from hs) VI
 | bl i =>
  cases rx
  cases y with
  | non=>cases ry;exact PySem.EqNone.ne_bool_none (bO I q (by simp))
  | bl j=>cases ry;exact ne_bool (bO I q (Wf not DL))
  | str j=>obtain⟨t',rfl⟩:=ry;exact PySem.EqMixed.ne_bool_str (bO I q (by simp))
  | _=>exact absurd (show false=true from hs) VI
 | int i =>
  obtain⟨t,rfl⟩:=rx
  cases y with
  | non=>cases ry;exact PySem.EqNone.ne_int_none (bO I q (by simp))
  | int j=>obtain⟨t',rfl⟩:=ry;exact ne_int (bO I q (Wf not Am))
  | str j=>obtain⟨t',rfl⟩:=ry;exact PySem.EqMixed.ne_int_str (bO I q (by simp))
  | _=>exact absurd (show false=true from hs) VI
 | str i =>
  obtain⟨t,rfl⟩:=rx
  cases y with
  | non=>cases ry;exact PySem.EqNone.ne_str_none (bO I q (by simp))
  | bl j=>cases ry;exact PySem.EqMixed.ne_str_bool (bO I q (by simp))
  | int j=>obtain⟨t',rfl⟩:=ry;exact PySem.EqMixed.ne_str_int (bO I q (by simp))
  | str j=>obtain⟨t',rfl⟩:=ry;exact ne_str (bO I q (Wf not As))
  | _=>exact absurd (show false=true from hs) VI
 | byt i =>
  obtain⟨t,rfl⟩:=rx
  cases y with
  | byt j=>obtain⟨t',rfl⟩:=ry;exact PySem.W.ne_bytes (bO I q (Wf not z7))
  | _=>exact absurd (show false=true from hs) VI
 | _=>cases y <;> exact absurd (show false=true from hs) VI
theorem qf:nq X (compareOp .Lt) (GU fun i j=>.bl (decide (i<j))):=Ft fun _ _ _ _ _ _ _ q=>lt_int q
theorem DJ:nq X (compareOp .LtE) (GU fun i j=>.bl (decide (i<=j))):=Ft fun _ _ _ _ _ _ _ q=>le_int q
theorem wJ:nq X (compareOp .Gt) (GU fun i j=>.bl (decide (j<i))):=Ft fun _ _ _ _ _ _ _ q=>gt_int q
theorem Dw:nq X (compareOp .GtE) (GU fun i j=>.bl (decide (j<=i))):=Ft fun _ _ _ _ _ _ _ q=>ge_int q
theorem aX (b:Expr) {op:CmpOp}(h:op ≠ .In:=by decide) (h2:op ≠ .NotIn:=by decide):behindInMarks op b=false:=by
 have e1:(op == CmpOp.In)=false:=by cases op <;> first|rfl|exact absurd rfl h
 have e2:(op == CmpOp.NotIn)=false:=by cases op <;> first|rfl|exact absurd rfl h2
 cases b <;> simp[behindInMarks,e1,e2]
theorem l8 {op:CmpOp}{r:R2}(ho:nq X (compareOp op) r) (ha:PE X a ta) (hb:PE X b tb) (hm:behindInMarks op b=false):PE X (.Compare a [op] [b] pos) (OP r ta tb):=by
 intro pins s σ H Q I h
 exact wpAny_Compare1 (Kz ha hb I h fun v u s2 x y H2 I2 rx ry q=>ho pins s2 σ H2 x y v u Q I2 rx ry q) hm
def Dm (t:TE):TT:=fun σ H Q=>t σ H fun x H'=>∃k,x = .bl k/\Q k H'
theorem aT {op:CmpOp}{r:R2}(ho:nq X (compareOp op) r) (ha:PE X a ta) (hb:PE X b tb) (hm:behindInMarks op b=false):PT X (.Compare a [op] [b] pos) (Dm (OP r ta tb)):=by
 intro pins s σ H Q I h
 refine wpAny_isTrue_Compare1 (cg (ha pins s σ H _ I h) fun v s1 ⟨x,H1,I1,r1,q1⟩=>cg (hb pins s1 σ H1 _ I1 q1) fun u s2 ⟨y,H2,I2,r2,q2⟩ =>
  cg (ho pins s2 σ H2 x y v u _ I2 r1 r2 q2) fun c s3 ⟨z,H3,I3,r3,k,e,q3⟩=>?_) hm
 subst e
 cases r3
 exact WI ⟨H3,I3,q3⟩
def De (r r':R2) (ta tb tc:TE):TE:=fun σ H Q=>ta σ H fun x H1=>tb σ H1 fun y H2=>r x y H2 fun z H3=>∃k,z = .bl k /\
 (if k=true then tc σ H3 fun w' H4=>r' y w' H4 Q else Q (.bl false) H3)
theorem BY {op op':CmpOp}{r r':R2}(ho:nq X (compareOp op) r) (ho':nq X (compareOp op') r') (ha:PE X a ta) (hb:PE X b tb) (hc:PE X c tc)
  (hm:lastMarks [op,op'] [b,c]=false:=by with_unfolding_all rfl):PT X (.Compare a [op,op'] [b,c] pos) (Dm (De r r' ta tb tc)):=by
 intro pins s σ H Q I h
 refine isTrue_chain (cg (ha pins s σ H _ I h) fun v s1 ⟨x,H1,I1,r1,q1⟩=>test_link (cg (hb pins s1 σ H1 _ I1 q1) fun u s2 ⟨y,H2,I2,r2,q2⟩ =>
  cg (ho pins s2 σ H2 x y v u _ I2 r1 r2 q2) fun d s3 ⟨z,H3,I3,r3,k,e,q3⟩=>?_)) hm
 subst e
 cases r3
 refine WI ?_
 cases k with
 | false =>
  obtain⟨k',e',q'⟩:=q3
  cases e'
  exact ite_ff ⟨H3,I3,q'⟩
 | true =>
  refine ite_tt (test_last (cg (hc pins s3 σ H3 _ I3 q3) fun w' s4 ⟨z',H4,I4,r4,q4⟩=>cg (ho' pins s4 σ H4 y z' u w' _ I4 r2 r4 q4) fun d' s5 ⟨z2,H5,I5,r5,k2,e2,q5⟩=>?_))
  subst e2
  cases r5
  exact WI ⟨H5,I5,q5⟩
def Km (K:W.Frag) (x:V) (H:Hp) (k:Bool):Prop :=
 match x with
 | .non=>k=false
 | .bl b=>k=b
 | .int i=>k =(i != 0)
 | .str y=>y.length<=sizeLine/\k =((y.length:Int) != 0)
 | .byt y=>y.size<=sizeLine/\k =((y.size:Int) != 0)
 | .ref p=>(∃xs,aU K H p xs/\k = !xs.isEmpty) \/(∃xs,gu K H p xs/\k = !xs.isEmpty) \/ ∃kvs,H p=some (.dK kvs)/\k = !kvs.isEmpty
 | _=>False
theorem zq {κ:Type}{kvs:List (κ×V)}{vs:List (κ×Value)}(r:KV kvs vs):(!vs.isEmpty) = !kvs.isEmpty:=by
 cases r <;> rfl
theorem qu {xs:List V}{its:List Value}(r:Vals xs its):(!its.toArray.isEmpty) = !xs.isEmpty:=by
 cases r <;> simp
theorem kZ:(sizeLine:Nat)<2^63:=by rw[sizeLine_eq];decide
theorem JW:Tc X (fun x H Q=>∃k,Km X.K x H k/\Q k H):=by
 intro pins s σ H x v Q I rx h
 obtain⟨k,e,q⟩:=h
 have hl:=kZ
 have hs:sizeLine=16777216:=sizeLine_eq
 cases x with
 | non =>
  cases rx
  have e':k=false:=e
  subst e'
  exact truthy_none ⟨H,I,q⟩
 | bl b =>
  cases rx
  have e':k=b:=e
  subst e'
  exact WI ⟨H,I,q⟩
 | int i =>
  obtain⟨t,rfl⟩:=rx
  have e':k =(i != 0):=e
  subst e'
  exact PySem.P.truthy_int ⟨H,I,q⟩
 | str y =>
  obtain⟨t,rfl⟩:=rx
  obtain⟨hy,e'⟩ : y.length<=sizeLine/\k =((y.length:Int) != 0):=e
  subst e'
  exact PySem.P.truthy_str (by omega) ⟨H,I.tok _,q⟩
 | byt y =>
  obtain⟨t,rfl⟩:=rx
  obtain⟨hy,e'⟩ : y.size<=sizeLine/\k =((y.size:Int) != 0):=e
  subst e'
  exact PySem.W.truthy_bytes (by omega) ⟨H,I.tok _,q⟩
 | ref p =>
  cases rx
  have e':(∃xs,aU X.K H p xs/\k = !xs.isEmpty) \/(∃xs,gu X.K H p xs/\k = !xs.isEmpty) \/ ∃kvs,H p=some (.dK kvs)/\k = !kvs.isEmpty:=e
  rcases e' with⟨xs,hx,e'⟩|⟨xs,hx,e'⟩|⟨kvs,hx,e'⟩
  ·subst e'
   obtain⟨its,r,pl,hz⟩:=I.list hx
   have hlen:=r.length
   exact wpAny_truthy_list pl.isList (by simp only[List.size_toArray];omega) ⟨H,I.tok _,by rw[qu r];exact q⟩
  ·subst e'
   obtain⟨its,r,pl,hz⟩:=I.tuple hx
   have hlen:=r.length
   exact truthy_tuple pl (by simp only[List.size_toArray];omega) ⟨H,I.tok _,by rw[qu r];exact q⟩
  ·subst e'
   obtain⟨hz,hS,vs,r,m⟩ : kvs.length<=sizeLine/\(p == sysModules)=false/\∃vs,KV kvs vs/\s.heap.DictOf (bV X.prog X.w) p vs:=I.hok p _ hx
   have hlen:kvs.length=vs.length:=XO r
   exact wpAny_truthy_dict hS m (by omega) ⟨H,I.tok _,by rw[zq r];exact q⟩
 | _=>exact(show False from e).elim
theorem mj (ha:PE X a ta) (he:∀whole,isTrue a X.env whole =(do let v <- whole;standAt a.pos;holding [v] (truthy v))) :
  PT X a (fun σ H Q=>ta σ H fun x H'=>∃k,Km X.K x H' k/\Q k H'):=by
 intro pins s σ H Q I h
 exact isTrue_plain (cg (ha pins s σ H _ I h) fun v s1 ⟨x,H1,I1,r1,q1⟩=>JW pins s1 σ H1 x v Q I1 r1 q1) (he _)
theorem vals1 {x:V}{us:List Value}(r:Vals [x] us):∃u,us=[u]/\RelV x u:=by
 cases r with
 | cons r1 r2=>cases r2;exact⟨_,rfl,r1⟩
theorem vals2 {x y:V}{us:List Value}(r:Vals [x,y] us):∃u w',us=[u,w']/\RelV x u/\RelV y w':=by
 cases r with
 | cons r1 r2 =>
  cases r2 with
  | cons r3 r4=>cases r4;exact⟨_,_,rfl,r1,r3⟩
theorem DQ:eT X (.builtin "abs") (fun xs H Q=>∃i,xs=[.int i]/\Q (.int (if i<0 then -i else i)) H):=by
 intro pins s σ H xs us Q I r h
 obtain⟨i,rfl,q⟩:=h
 obtain⟨u,rfl,t,rfl⟩:=vals1 r
 exact call_abs_int fun u tk=>⟨.int (if i<0 then -i else i),H,I.tok _,⟨_,rfl⟩,q⟩
theorem Be (hc:X.calm=true):eT X (.builtin "max") (fun xs H Q=>∃i j,xs=[.int i,.int j]/\Q (.int (if j > i then j else i)) H):=by
 intro pins s σ H xs us Q I r h
 obtain⟨i,j,rfl,q⟩:=h
 obtain⟨u,w',rfl,⟨t,rfl⟩,⟨t',rfl⟩⟩:=vals2 r
 refine max_two_ints (I.ok.hd hc) fun h' tk k=>⟨_,H,I.kept k,?_,q⟩
 by_cases hj:j > i
 ·rw[VB hj,VB hj];exact⟨_,rfl⟩
 ·rw[VF hj,VF hj];exact⟨_,rfl⟩
theorem A1 (hc:X.calm=true):eT X (.builtin "min") (fun xs H Q=>∃i j,xs=[.int i,.int j]/\Q (.int (if j<i then j else i)) H):=by
 intro pins s σ H xs us Q I r h
 obtain⟨i,j,rfl,q⟩:=h
 obtain⟨u,w',rfl,⟨t,rfl⟩,⟨t',rfl⟩⟩:=vals2 r
 refine min_two_ints (I.ok.hd hc) fun h' tk k=>⟨_,H,I.kept k,?_,q⟩
 by_cases hj:j<i
 ·rw[VB hj,VB hj];exact⟨_,rfl⟩
 ·rw[VF hj,VF hj];exact⟨_,rfl⟩
end
theorem nA.some_of {v:V}{o:Option Value}(r:nA (some v) o):∃u,o=some u/\RelV v u:=by
 cases o with
 | none=>exact(show False from r).elim
 | some u=>exact⟨u,rfl,r⟩
structure Uq (K:W.Frag) (C:Addr):Prop where
 pg:PySem.W.plainGet K C Str.empty=true
 hd:PySem.W.hasDictIn K C=true
 po:PySem.W.plainOver K C=true
 sa:W.findIn K (.ref C) "__setattr__" = some (some (.builtin "object.__setattr__"))
section
variable {X:Cx}{pins:List (Addr×Obj)}{σ:St}{H:Hp}{s:Shared}{A:Around}{E:Value->Shared->Prop}{Q:Value->Shared->Prop}{c:Value}{b:Bool}
inductive pD (K:W.Frag) (H:Hp):V->Value->Prop where
 | non:pD K H .non (.type "NoneType")
 | bl (x:Bool):pD K H (.bl x) (.type "bool")
 | int (i:Int):pD K H (.int i) (.type "int")
 | str (x:Str):pD K H (.str x) (.type "str")
 | flt (x:UInt64):pD K H (.flt x) (.type "float")
 | lst {a:Addr}{xs:List V}(e:H a=some (.lst xs)):pD K H (.ref a) (.type "list")
 | frz {a:Addr}{o:Obj}{xs:List V}(e:H a=some (.frz o (.lst xs))):pD K H (.ref a) (.type "list")
 | tup {a:Addr}{xs:List V}(e:H a=some (.tup xs)):pD K H (.ref a) (.type "tuple")
 | dK {a:Addr}{kvs:List (Key×V)}(e:H a=some (.dK kvs)):pD K H (.ref a) (.type "dict")
 | dT {a:Addr}{kvs:List (List Key×V)}(e:H a=some (.dT kvs)):pD K H (.ref a) (.type "dict")
 | ins {a C dx:Addr}{fs:List (Str×V)}(e:H a=some (.ins C dx fs)) (cl:Uq K C) (ha:W.findIn K (.ref C) "__class__" = some (some (.builtin "object.__class__")))
   (hn:PySem.W.specialIn K (.builtin "object.__class__") "__get__" = some (some (.builtin "getset_descriptor.__get__"))) (htk:PySem.W.takesIn K (.builtin "object.__class__")=some true)
   (hm:W.mroIn K C (.type "object")=some true):pD K H (.ref a) (.ref C)
end
structure gM (k:Nat) (A:Around):Prop where
 hd:A.handled=none
 dp:A.depth+3*k+5<recursionLimit
 un:A.units+16*k+200<cLine
 gd:A.guards=some []
theorem gM.mono {j k:Nat}{A:Around}(r:gM k A) (h:j<=k):gM j A:=⟨r.hd,by have:=r.dp;omega,by have:=r.un;omega,r.gd⟩
theorem gM.mo{j k:Nat}{A:Around}(h:gM k A)(l:j<=k:=by decide):gM j A:=h.mono l
theorem rH {A:Around}{env:Env}(h:A.guards=some []):(A.deeper env).guards=some []:=by
 first|exact h|simp[Around.deeper,Around.under,Code.guards,Code.isGuard,pushGuards,h]
theorem gM.deeper {k:Nat}{A:Around}(r:gM (k+1) A) (env:Env):gM k (A.deeper env) :=
 ⟨r.hd,by have:=r.dp;show A.depth+1+3*k+5<_;omega,by have:=r.un;show A.units+3+16*k+200<_;omega,rH r.gd⟩
theorem gM.depth {k:Nat}{A:Around}(r:gM k A):A.depth<recursionLimit:=by have:=r.dp;omega
theorem gM.units {k:Nat}{A:Around}(r:gM k A):A.units+64<cLine:=by have:=r.un;omega
def P_:TA:=fun _ H Q=>Q [] H
def Ir (ta:TE) (tr:TA):TA:=fun σ H Q=>ta σ H fun x H1=>tr σ H1 fun xs H2=>Q (x::xs) H2
section
variable {X:Cx}{e:Expr}{es:List Expr}{te:TE}{t:TA}{pos:Pos}
theorem aj:PA X [] P_:=fun _ _ _ _ H Q I h=>Calls.spliced_nil ⟨[],H,I,.nil,h⟩
theorem aa (ha:PE X e te) (hr:PA X es t) (hs:starEach (e::es) X.env =(false,eval e X.env)::starEach es X.env:=by rfl):PA X (e::es) (Ir te t):=by
 intro pos pins s σ H Q I h
 rw[hs]
 show wpAny _ _ (spliced ((false,eval e X.env)::backTo pos (starEach es X.env))) _ _ s
 refine Calls.spliced_cons (cg (ha pins s σ H _ I h) fun u s1 ⟨x,H1,I1,r1,q1⟩=>?_)
 exact cg (hr pos pins s1 σ H1 _ I1 q1) fun us s2 ⟨xs,H2,I2,r2,q2⟩=>⟨x::xs,H2,I2,.cons r1 r2,q2⟩
def Pf (t:TA):TE:=fun σ H Q=>t σ H fun xs H1=>xs.length<=sizeLine/\∀p,H1 p=none->Q (.ref p) (upd H1 p (.tup xs))
def Oa (t:TA):TE:=fun σ H Q=>t σ H fun xs H1=>xs.length<=sizeLine/\∀p,H1 p=none->Q (.ref p) (upd H1 p (.lst xs))
theorem bZ {x1}(h:PA X es t):PE X (.Tuple es x1 pos) (Pf t):=by
 intro pins s σ H Q I hq
 refine wpAny_Tuple_spliced (cg (h pos pins s σ H _ I hq) fun us s1 ⟨xs,H1,I1,r,z,q⟩=>⟨by rw[<- r.length];exact z,?_⟩)
 have hf:H1 s1.heap.objs.size=none:=I1.hok.fresh (Vt _)
 refine⟨.ref s1.heap.objs.size,upd H1 s1.heap.objs.size (.tup xs),I1.laid (t':=s1.toks) (fun b u e=>Vu _ e) (Vt _) ?_,rfl,q _ hf⟩
 exact⟨z,us,r,⟨_,V0 _ rfl,rfl,_,rfl⟩⟩
theorem b7 (h:PA X es t):PE X (.List es pos) (Oa t):=by
 intro pins s σ H Q I hq
 refine wpAny_List_spliced (cg (h pos pins s σ H _ I hq) fun us s1 ⟨xs,H1,I1,r,z,q⟩=>⟨by rw[<- r.length];exact z,?_⟩)
 have hf:H1 s1.heap.objs.size=none:=I1.hok.fresh (Vt _)
 refine⟨.ref s1.heap.objs.size,upd H1 s1.heap.objs.size (.lst xs),I1.laid (t':=s1.toks) (fun b u e=>Vu _ e) (Vt _) ?_,rfl,q _ hf⟩
 exact⟨z,us,0,r,V0 _ rfl⟩
end
abbrev Sp:=List V->Hp->VK->XK->Prop
abbrev Eu:=List Env->Hp->Shared->XK->Value->Shared->Prop
structure Fc (P:Program) (w:World) (K:W.Frag) (mg:Str->Option Value) (base:Heap) (A:Around) (outer:List Env) (s:Shared) (H:Hp):Prop where
 frames:A.frames=some outer
 mod:Mod K mg base
 bs:∀b o,base.get? b=some o->s.heap.get? b=some o/\H b=none
 bsz:base.objs.size<=s.heap.objs.size
 funs:s.heap.FunFrames base outer
 frf:∀b∈frs outer,H b=none
 hok:mR P w H s.heap
 bare:AllBare s.gens
def CE (outer:List Env) (P:Program) (w:World) (H:Hp) (s:Shared) (Q:VK) (u:Value) (s':Shared):Prop :=
 ∃v H',s'.os=s.os/\AllBare s'.gens/\Un (frs outer) [] H H' s.heap s'.heap/\mR P w H' s'.heap/\RelV v u/\Q v H'
def CR (CX:Eu) (outer:List Env) (P:Program) (w:World) (H:Hp) (s:Shared) (Q:VK) (E:XK) (r:Result) (s':Shared):Prop :=
 match r with
 | .ok (.ret u)=>CE outer P w H s Q u s'
 | .ok _=>False
 | .error e=>CX outer H s E e s'
structure rZ (P:Program) (w:World) (K:W.Frag) (mg:Str->Option Value) (base:Heap) (CX:Eu) (k:Nat) (f:Addr) (fd:FuncData) (ps:List Str) (sp:Sp):Prop where
 len:∀vs H Q E,sp vs H Q E->vs.length=ps.length
 run:∀(A:Around) (outer:List Env) (s:Shared) (H:Hp) (args:Args) (us:List Value) (vs:List V) (Q:VK) (E:XK),gM k A->Fc P w K mg base A outer s H->BindsTo s fd args (ps.zip us)->Vals vs us->sp vs H Q E ->
  codeAny (model P w) A (.call (.ref f) args) (CR CX outer P w H s Q E) s
section
variable {X:Cx}{pins:List (Addr×Obj)}{σ:St}{H:Hp}{s s':Shared}
theorem Inv.env0 (I:Inv X pins σ H s):Fc X.prog X.w X.K X.mg X.base X.A X.stack s H :=
 ⟨I.ok.frames,I.ok.mod,I.bs,Vv I.ok.bsz I.sz,I.stack,I.stkFree,I.hok,I.bare⟩
theorem Inv.after {Q:VK}{u:Value}(I:Inv X pins σ H s) (h:CE X.stack X.prog X.w H s Q u s'):EP X pins σ Q u s':=by
 obtain⟨v,H',os,bare,un,hok,r,q⟩:=h
 obtain⟨hh,g,d,t,os'⟩:=s'
 obtain rfl:os'=s.os:=os
 exact⟨v,H',I.call (h':=hh) (g':=g) (d':=d) (t':=t) (ch:=[]) un hok bare (fun b z=>absurd z (by simp)),r,q⟩
end
def CC (sp:Sp) (dvs:List V) (E:XK) (t:TA):TE:=fun σ H Q=>t σ H fun vs H1=>sp (vs++dvs) H1 Q E
def Binds (K:W.Frag) (fd:FuncData) (ps:List Str) (ds:List Value):Prop :=
 ∀(s:Shared) (us:List Value),K.In s.heap->(us++ds).length=ps.length->BindsTo s fd ⟨us,[]⟩ (ps.zip (us++ds))
theorem Binds.all {K:W.Frag}{fd:FuncData}{ps:List Str}(h:∀us:List Value,us.length=ps.length->bindArgs fd ⟨us,[]⟩=pure (ps.zip us)):Binds K fd ps []:=fun s us _ hl=>by
 rw[V5]at hl ⊢
 exact .of_eq (h us hl)
def Passes (CX:Eu) (X:Cx) (E:XK):Prop:=∀(pins:List (Addr×Obj)) (σ:St) (H:Hp) (s:Shared) (e:Value) (s':Shared),Inv X pins σ H s->CX X.stack H s E e s'->X.xe e s'
section
variable {X:Cx}{CX:Eu}{k:Nat}{f C:Addr}{fd:FuncData}{ps:List Str}{sp:Sp}{dvs:List V}{ds:List Value}{E:XK}{x m:Str}{p pos apos:Pos}{e o:Expr}{es:List Expr}{ta:TE}{t:TA}
theorem KQ {pins:List (Addr×Obj)}{σ:St}{H:Hp}{s:Shared}{Q:VK}{us:List Value}{vs:List V}(F:rZ X.prog X.w X.K X.mg X.base CX k f fd ps sp) (hr:gM k X.A) (hb:Binds X.K fd ps ds) (hd:Vals dvs ds) (hx:Passes CX X E)
  (I:Inv X pins σ H s) (r:Vals vs us) (h:sp (vs++dvs) H Q E):wpAny (model X.prog X.w) X.A (call (.ref f) us) (EP X pins σ Q) X.xe s:=by
 have r2:Vals (vs++dvs) (us++ds):=r.append hd
 have hl:(us++ds).length=ps.length:=by rw[<- r2.length];exact F.len _ _ _ _ h
 refine wpAny_call (codeAny_mono (F.run X.A X.stack s H ⟨us,[]⟩ (us++ds) (vs++dvs) Q E hr I.env0 (hb s us I.kIn hl) r2 h) fun r s' hq=>?_)
 cases r with
 | error e=>exact hx pins σ H s e s' I hq
 | ok fl =>
  cases fl with
  | ret u=>exact I.after hq
  | next=>exact False.elim hq
  | brk=>exact False.elim hq
  | cont=>exact False.elim hq
theorem Fg (F:rZ X.prog X.w X.K X.mg X.base CX k f fd ps sp) (hr:gM k X.A) (hg:Gl X x) (hm:X.mg x=some (.ref f)) (hk:W.keepIn X.K (.ref f)=true) (hb:Binds X.K fd ps ds) (hd:Vals dvs ds) (hx:Passes CX X E)
  (ha:PA X (e::es) t) (hdb:(x ==("__debug__" : Str))=false:=by decide) (he:starEach (e::es) X.env =(false,eval e X.env)::starEach es X.env:=by rfl) (hpl:(backTo pos (starEach es X.env)).any (·.1)=false:=by rfl) :
  PE X (.Call (.Name x p) (e::es) [] pos) (CC sp dvs E t):=by
 intro pins s σ H Q I h
 refine wpAny_Call_Name_kw (EZ I hg hm ?_ hdb)
 refine PySem.W.callWith_K (h₀:=X.base) I.ok.mod.kin hk (cg (ha pos pins s σ H _ I h) fun us s1 ⟨vs,H1,I1,r,q⟩=>⟨I1.kIn,?_⟩) he hpl
 exact KQ F hr hb hd hx I1 r q
end
structure aK (N P:List Str) (sc:Scope):Prop where
 kind:sc.kind = .function
 co:sc.isCoroutine=false
 gen:sc.isGenerator=false
 nd:N.Nodup
 pre:N.take P.length=P
 par:∀x∈P,sc.names.lookup x=some .local\/sc.names.lookup x=some .cell
 nofree:∀y∈sc.names,y.2 ≠ .free
theorem ue {kindOf:Str->Option NameKind}{x:Str}:∀{binds:List (Str×Value)}{m:Str->Option Value},(∀v,(x,v)∉binds)->bindL kindOf binds m x=m x
 | [],_,_=>rfl
 | (n,v)::r,m,h=>by
  unfold bindL
  rw[ue fun w hw=>h w (Vr _ hw)]
  split
  ·have:x≠n:=by rintro rfl;exact h v Vy
   simp[this]
  ·rfl
theorem sZ {kindOf:Str->Option NameKind}{x:Str}:∀{binds:List (Str×Value)}{m:Str->Option Value},(∀v,(x,v)∉binds)->bindC kindOf binds m x=m x
 | [],_,_=>rfl
 | (n,v)::r,m,h=>by
  unfold bindC
  rw[sZ fun w hw=>h w (Vr _ hw)]
  split
  ·rfl
  ·have:x≠n:=by rintro rfl;exact h v Vy
   simp[this]
theorem tS {kindOf:Str->Option NameKind}{x:Str}{v:Value}:∀{P:List Str}{vs:List Value}{i:Nat}{m:Str->Option Value},P.Nodup->P[i]? = some x->vs[i]? = some v->kindOf x=some .local ->
  bindL kindOf (P.zip vs) m x=some v
 | [],_,_,_,_,h,_,_=>by simp at h
 | _::_,[],_,_,_,_,h,_=>by simp at h
 | p::P,w::vs,0,m,nd,h1,h2,hk=>by
  simp at h1 h2;subst h1;subst h2
  show bindL kindOf ((p,w)::P.zip vs) m p=_
  unfold bindL
  rw[ue fun v hv=>(V6.mp nd).1 (List.of_mem_zip hv).1,VB hk]
  simp
 | p::P,w::vs,i+1,m,nd,h1,h2,hk=>by
  show bindL kindOf ((p,w)::P.zip vs) m x=_
  unfold bindL
  exact tS (i:=i) (V6.mp nd).2 (by simpa using h1) (by simpa using h2) hk
theorem tW {kindOf:Str->Option NameKind}{x:Str}{v:Value}:∀{P:List Str}{vs:List Value}{i:Nat}{m:Str->Option Value},P.Nodup->P[i]? = some x->vs[i]? = some v->kindOf x≠some .local ->
  bindC kindOf (P.zip vs) m x=some v
 | [],_,_,_,_,h,_,_=>by simp at h
 | _::_,[],_,_,_,_,h,_=>by simp at h
 | p::P,w::vs,0,m,nd,h1,h2,hk=>by
  simp at h1 h2;subst h1;subst h2
  show bindC kindOf ((p,w)::P.zip vs) m p=_
  unfold bindC
  rw[sZ fun v hv=>(V6.mp nd).1 (List.of_mem_zip hv).1,VF hk]
  simp
 | p::P,w::vs,i+1,m,nd,h1,h2,hk=>by
  show bindC kindOf ((p,w)::P.zip vs) m x=_
  unfold bindC
  exact tW (i:=i) (V6.mp nd).2 (by simpa using h1) (by simpa using h2) hk
def start (N:List Str) (vs:List V):St:=vs.map some++List.replicate (N.length-vs.length) none
def yU (CX:Eu) (P:Program) (w:World) (K:W.Frag) (mg:Str->Option Value) (base:Heap) (N:List Str) (qual:Str) (scope:Scope) (f:Addr) (cd:Value) (A:Around) (outer:List Env) (s:Shared) (H:Hp) (E:XK):Cx where
 prog:=P
 w:=w
 K:=K
 mg:=mg
 base:=base
 A:=A.deeper (envOfC qual scope s.heap.objs.size f cd)
 N:=N
 s₀:=s
 H₀:=H
 env:=envOfC qual scope s.heap.objs.size f cd
 outer:=outer
 stack:=envOfC qual scope s.heap.objs.size f cd::outer
 ex:=[]
 calm:=true
 fn:=fun _=>true
 pn:=[]
 xe:=fun e s'=>wpAny (model P w) (A.deeper (envOfC qual scope s.heap.objs.size f cd)) (leaving (envOfC qual scope s.heap.objs.size f cd) e) (fun _ s''=>CX outer H s E e s'') (fun e' s''=>CX outer H s E e' s'') s'
theorem v9 {sc:Scope}{n:Nat}{x:Str}(h:sc.names.lookup x=some .cell):∃c,(cellsFrom n sc.names []).lookup x=some c:=by
 have q:=PySem.W.cellsFrom_some sc.names n [] (.inl h)
 exact Option.isSome_iff_exists.mp q
theorem A6 {CX:Eu}{P:Program}{w:World}{K:W.Frag}{mg:Str->Option Value}{base:Heap}{N ps:List Str}{qual:Str}{scope:Scope}{f:Addr}{cd:Value}{A:Around}{outer:List Env}{s s1:Shared}{H:Hp}{E:XK}{us:List Value}{vs:List V}
  (S:aK N ps scope) (hd:A.handled=none) (e0:Fc P w K mg base A outer s H) (hl:vs.length=ps.length) (r:Vals vs us)
  (x:InCallC s s.heap.objs.size (bindL (envOfC qual scope s.heap.objs.size f cd).kindOf (ps.zip us) fun _=>none) (cellsFrom (s.heap.objs.size+1) scope.names []) (bindC (envOfC qual scope s.heap.objs.size f cd).kindOf (ps.zip us) fun _=>none) s1) :
  Inv (yU CX P w K mg base N qual scope f cd A outer s H E) [] (start N vs) H s1:=by
 have hpl:ps.length<=N.length:=by have:=Wf List.length S.pre;rw[Vw]at this;omega
 obtain⟨h1,tk,rfl,hk⟩:=x.done
 have noA:∀b:Addr,b∉(yU CX P w K mg base N qual scope f cd A outer s H E).ex:=fun b z=>absurd (show b∈([]:List Addr) from z) (by simp)
 refine⟨⟨e0.mod,S.kind,rfl,rfl,Vt _,fun y z c h1 h2=>?_,fun y hy=>?_,fun y c _ h=>?_,fun _=>hd,Around.frames_deeper e0.frames,.inr ⟨rfl,rfl⟩,fun b z=>absurd z (noA b),e0.bs,e0.bsz,fun b _ _=>noA b,fun b z=>absurd z (noA b),e0.funs,e0.frf⟩,
  rfl,e0.bare,Un.kept hk,⟨_,x.toInCall.ns,fun i y v h1 h2 h3=>?_⟩,fun y c h=>⟨_,x.cell y c h⟩,e0.hok.fresh (Vt _),fun y c h=>?_,fun p hp=>absurd (show p∈([]:List (Addr×Obj)) from hp) (by simp),e0.hok.kept hk,?_⟩
 ·exact name_of_addr x.apart (WL h1) (WL h2)
 ·have hy:scope.names.lookup y=some .cell\/scope.names.lookup y=some .free:=hy
  rcases hy with hy|hy
  ·exact v9 hy
  ·exact absurd rfl (S.nofree _ (WL hy))
 ·exact WX (x.above y c (WL h))
 ·have hi:i<vs.length:=by
   unfold start at h2
   by_cases hi:i<vs.length
   ·exact hi
   ·rw[Vs (by simpa using hi)]at h2
    rw[List.getElem?_replicate]at h2
    split at h2 <;> cases h2
  have ha:vs[i]? = some v:=by
   unfold start at h2
   rw[Vx (by simpa using hi),Vp]at h2
   cases e:vs[i]? with
   | none=>rw[e]at h2;cases h2
   | some a=>rw[e]at h2;cases h2;rfl
  obtain⟨u,hu,rv⟩:=r.get ha
  have hp:ps[i]? = some y:=by
   rw[<- S.pre,List.getElem?_take_of_lt (by omega)];exact h1
  have ndP:ps.Nodup:=by rw[<- S.pre];exact S.nd.sublist (List.take_sublist _ _)
  refine⟨u,rv,?_⟩
  rcases S.par y (Vk hp) with k|k
  ·exact .inl ⟨k,tS ndP hp hu k⟩
  ·obtain⟨c,e⟩:=v9 (n:=s.heap.objs.size+1) k
   refine .inr ⟨.inl k,c,e,?_⟩
   have q:=x.cell y c e
   rw[tW ndP hp hu (by show scope.names.lookup y≠_;rw[k];decide)]at q
   exact q
 ·exact e0.hok.fresh (WX (x.above y c (WL h)))
 ·unfold start
  show _=N.length
  rw[Vm,Vi,Xn]
  omega
theorem MX {CX:Eu}{P:Program}{w:World}{K:W.Frag}{mg:Str->Option Value}{base:Heap}{k:Nat}{f:Addr}{name qual:Str}{params:Arguments}{body:List Stmt}{scope:Scope}{dV kV doc pm cdv ct oc:Value}{an od:Option Addr}
  {osl:Array (Option Value)}{N ps:List Str}{sp:Sp}(lk:K.lookup f=some ⟨oc,od,.func (W.fnOf name qual params body scope dV kV doc pm an cdv ct),osl⟩) (hcd:W.codeIn K cdv qual=true) (S:aK N ps scope)
  (len:∀vs H Q E,sp vs H Q E->vs.length=ps.length)
  (hbody:∀(A:Around) (outer:List Env) (s:Shared) (H:Hp) (vs:List V) (Q:VK) (E:XK),gM k (A.deeper (envOfC qual scope s.heap.objs.size f cdv))->sp vs H Q E ->
   ∃t,AL (yU CX P w K mg base N qual scope f cdv A outer s H E) body t/\t { nx:=fun _ H'=>Q .non H',rt:=Q } (start N vs) H) :
  rZ P w K mg base CX (k+1) f (W.fnOf name qual params body scope dV kV doc pm an cdv ct) ps sp:=by
 refine⟨len,fun A outer s H args us vs Q E hr e0 hb r hsp=>?_⟩
 have hl:=len _ _ _ _ hsp
 have KX:K.In s.heap:=e0.mod.kin.keeps fun b o e=>(e0.bs b o e).1
 have lim:s.heap.NoLimit:=e0.mod.nolimit.keeps fun b o e=>(e0.bs b o e).1
 have hkind:∀y∈ps.zip us,scope.names.lookup y.1=some .local \/(scope.names.lookup y.1=some .cell/\((cellsFrom (s.heap.objs.size+1) scope.names []).lookup y.1).isSome=true):=fun⟨n,v⟩ hy=>by
  rcases S.par n (List.of_mem_zip hy).1 with q|q
  ·exact .inl q
  ·exact .inr ⟨q,PySem.W.cellsFrom_some _ _ _ (.inl q)⟩
 refine codeAny_call_function hr.depth (KX _ _ lk) rfl S.co S.gen rfl (PySem.W.codeRec_of KX hcd) (hb _ _ _ _ ?_)
 refine wpAny_newFunctionEnv_cells S.kind hkind fun env he s1 x=>?_
 subst he
 refine⟨lim.keeps x.toInCall.keep,codeAny_func ?_⟩
 obtain⟨t,ht,hq⟩:=hbody A outer s H vs Q E (hr.deeper _) hsp
 have I:Inv (yU CX P w K mg base N qual scope f cdv A outer s H E) [] (start N vs) H s1:=A6 S hr.hd e0 hl r x
 refine Wc (ht [] s1 (start N vs) H _ I hq) (fun fl s' hs=>?_) fun e s' hs=>hs
 have fin:∀{σ':St}{H':Hp}{v:V}{u:Value},Inv (yU CX P w K mg base N qual scope f cdv A outer s H E) [] σ' H' s'->RelV v u->Q v H'->CE outer P w H s Q u s' :=
  fun {σ' H' v u} J rv q=>⟨v,H',J.os,J.bare,J.base,J.hok,rv,q⟩
 cases fl with
 | ret u =>
  obtain⟨v,σ',H',J,rv,q⟩:=hs
  exact fin J rv q
 | next =>
  obtain⟨σ',H',J,q⟩:=hs
  exact fin (v:=V.non) (u:=Value.none) J rfl q
 | brk =>
  obtain⟨_,_,_,q⟩:=hs
  exact False.elim q
 | cont =>
  obtain⟨_,_,_,q⟩:=hs
  exact False.elim q
section
variable {X:Cx}{x:Str}{p pos:Pos}{e:Expr}{es:List Expr}{t:TA}{id T:String}{r:List V->Hp->VK->Prop}
def SI (r:List V->Hp->VK->Prop) (t:TA):TE:=fun σ H Q=>t σ H fun vs H1=>r vs H1 Q
theorem a_ (hc:eT X (.builtin id) r) (hg:Gl X x) (hm:X.mg x=none) (hv:bootBuiltins x=some (.builtin id)) (ha:PA X (e::es) t) (hn:x ≠ "__name__" := by decide) (hdb:(x ==("__debug__" : Str))=false:=by decide)
  (he:starEach (e::es) X.env =(false,eval e X.env)::starEach es X.env:=by rfl) (hpl:(backTo pos (starEach es X.env)).any (·.1)=false:=by rfl):PE X (.Call (.Name x p) (e::es) [] pos) (SI r t):=by
 intro pins s σ H Q I h
 refine wpAny_Call_Name_kw (pC I hg hm hv ?_ hn hdb)
 exact PyProof.Rows.callWith_builtin1 (cg (ha pos pins s σ H _ I h) fun us s1 ⟨vs,H1,I1,r1,q1⟩=>hc pins s1 σ H1 vs us Q I1 r1 q1) he hpl
theorem cR (hc:eT X (.type T) r) (hg:Gl X x) (hm:X.mg x=none) (hv:bootBuiltins x=some (.type T)) (ha:PA X (e::es) t) (hn:x ≠ "__name__" := by decide) (hdb:(x ==("__debug__" : Str))=false:=by decide)
  (he:starEach (e::es) X.env =(false,eval e X.env)::starEach es X.env:=by rfl) (hpl:(backTo pos (starEach es X.env)).any (·.1)=false:=by rfl):PE X (.Call (.Name x p) (e::es) [] pos) (SI r t):=by
 intro pins s σ H Q I h
 refine wpAny_Call_Name_kw (pC I hg hm hv ?_ hn hdb)
 exact WY (cg (ha pos pins s σ H _ I h) fun us s1 ⟨vs,H1,I1,r1,q1⟩=>hc pins s1 σ H1 vs us Q I1 r1 q1) he hpl
end
end L2
namespace HT
open PySem PyProof.Rows
section
open PySem.SeqAt
open PySem.AutoSeq1 (wpAny_loadPart')
open PySem.MeetsSeq PySem.MeetsSeq2 PySem.MeetsSeq3
end
section
variable {prog:Program}{w:World}{A:Around}{E:Value->Shared->Prop}{s:Shared}
theorem cat_tup {t b:Addr}{vs ws:List Value}{Q:Value->Shared->Prop}(ht:IsTup s.heap t vs.toArray) (hb:IsTup s.heap b ws.toArray) (hv:vs ≠ [])
  (h1:ws=[]->Q (.ref t) s) (h2:ws ≠ []->Q (.ref s.heap.objs.size) { s with heap:=s.heap.push { cls:=.type "tuple",data:=.seq (vs++ws).toArray } })
  (hsz:vs.length+ws.length<=sizeLine):wpAny (model prog w) A (binaryOp .Add (.ref t) (.ref b)) Q E s:=by
 obtain⟨⟨cls,dd,data,sl⟩,ho,hc,n,hd⟩:=id ht
 obtain⟨⟨cls2,dd2,data2,sl2⟩,ho2,hc2,n2,hd2⟩:=id hb
 simp only at hc hd hc2 hd2
 subst hc hd hc2 hd2
 have e:vs.toArray++ws.toArray =(vs++ws).toArray:=by simp
 by_cases hw:ws=[]
 ·exact concat_meets ⟨_,ho,rfl⟩ ⟨_,ho2,rfl⟩ noFill_tuple_add seq_tuple_add PySem.F.slot_tuple_add PySem.F.entry_tuple_add (PySem.F.args_tuple_add_2 _ _)
   (tuple_addW1 t b vs.toArray ws.toArray n n2 dd dd2 sl sl2 (by simpa using hv) (by simp[hw])) ⟨ho,ho2,h1 hw⟩
 ·refine concat_meets ⟨_,ho,rfl⟩ ⟨_,ho2,rfl⟩ noFill_tuple_add seq_tuple_add PySem.F.slot_tuple_add PySem.F.entry_tuple_add (PySem.F.args_tuple_add_2 _ _)
   (tuple_addW2 t b vs.toArray ws.toArray n n2 dd dd2 sl sl2 (by simpa using hv) (by simpa using hw) (by rw[VJ,VJ];exact hsz)) ⟨ho,ho2,?_⟩
  rw[e]
  exact h2 hw
def sIx (n d:Nat):Option Int->Nat
 | none=>d
 | some v=>if v<0 then(v+(n:Int)).toNat else min v.toNat n
theorem sIx_none (n d:Nat):sIx n d none=d:=rfl
theorem sIx_nat (n d k:Nat):sIx n d (some (k:Int))=min k n:=by
 show(if (k:Int)<0 then((k:Int)+(n:Int)).toNat else min (k:Int).toNat n)=min k n
 rw[VF (by omega),Wx]
theorem KH (n d:Nat) (hd:d<=n) (o:Option Int):sIx n d o<=n:=by
 cases o with
 | none=>exact hd
 | some v =>
  show(if v<0 then(v+(n:Int)).toNat else min v.toNat n)<=n
  by_cases hv:v<0
  ·rw[VB hv];omega
  ·rw[VF hv];exact Nat.min_le_right _ _
theorem Ay (v:Int) (n d:Nat):(if v<0 then max (v+(n:Int)) 0 else min v (n:Int)) =((sIx n d (some v):Nat):Int):=by
 show(if v<0 then max (v+(n:Int)) 0 else min v (n:Int)) =(((if v<0 then(v+(n:Int)).toNat else min v.toNat n):Nat):Int)
 by_cases hv:v<0
 ·simp only[if_pos hv];omega
 ·simp only[if_neg hv];omega
theorem yO (lo hi:Option Int) (n:Nat):Builtin.Slice.sliceAdjust lo hi 1 (n:Int) =(((sIx n 0 lo:Nat):Int),((sIx n n hi:Nat):Int)):=by
 have h1:¬((1:Int)<0):=by omega
 unfold Builtin.Slice.sliceAdjust
 simp only[h1,if_false]
 refine Prod.ext ?_ ?_
 ·cases lo with
  | none=>rfl
  | some v=>exact Ay v n 0
 ·cases hi with
  | none=>rfl
  | some v=>exact Ay v n n
theorem yH (i j:Nat):Builtin.Slice.slicePlaces (i:Int) (j:Int) 1=j-i:=by
 unfold Builtin.Slice.slicePlaces
 have h1:(1:Int) > 0:=by omega
 simp only[h1,if_true,Int.ediv_one]
 split <;> omega
theorem p_ {v:Value}{o:Option Int}{Q:Option Int->Shared->Prop}(p:IsPart v o) (h:Q o s):wpAny (model prog w) A (Builtin.Slice.slicePartIndex v) Q E s:=by
 cases p with
 | none=>exact slicePart_none h
 | int i t=>exact slicePart_int h
theorem nh {sl:Addr}{vl vu:Value}{lo hi:Option Int}{n:Nat}{Q:Int×Int×Nat->Shared->Prop}(hs:s.heap.IsSliceOf sl vl vu .none) (pl:IsPart vl lo) (pu:IsPart vu hi)
  (h:Q (((sIx n 0 lo:Nat):Int),1,sIx n n hi-sIx n 0 lo) s):wpAny (model prog w) A (Builtin.Slice.sliceApplied (.ref sl) (pure (n:Int))) Q E s:=by
 obtain⟨os,hos,hcs,hds⟩:=id hs
 unfold Builtin.Slice.sliceApplied Builtin.Slice.sliceFields
 refine Vl (Vl (wpAny_field hos hds (x:=vl) rfl (Vl (wpAny_field hos hds (x:=vu) rfl (Vl (wpAny_field hos hds (x:=.none) rfl (Vz ?_)))))))
 refine Vl (slicePart_none ?_)
 show wpAny _ _ (if ((1:Int) == 0)=true then _ else _) _ _ s
 rw[VF (by decide)]
 refine Vl (p_ pl (Vl (p_ pu (Vl (Vz ?_)))))
 show wpAny _ _ (match Builtin.Slice.sliceAdjust lo hi 1 (n:Int) with|(lo,hi)=>pure (lo,(1:Int),Builtin.Slice.slicePlaces lo hi 1)) _ _ s
 rw[yO lo hi n]
 show wpAny _ _ (pure (((sIx n 0 lo:Nat):Int),(1:Int),Builtin.Slice.slicePlaces ((sIx n 0 lo:Nat):Int) ((sIx n n hi:Nat):Int) 1)) _ _ s
 rw[yH]
 exact Vz h
theorem B0 (xs:Array Value) (i k:Nat):((List.range k).filterMap fun(m:Nat)=>xs[((i:Int)+(m:Int)*1).toNat]?).toArray =((xs.toList.drop i).take k).toArray:=by
 have e:(fun(m:Nat)=>xs[((i:Int)+(m:Int)*1).toNat]?)=fun m=>xs[i+m]?:=by
  funext m
  have:((i:Int)+(m:Int)*1).toNat=i+m:=by omega
  rw[this]
 rw[e]
 have:=pick_run xs i k
 rw[List.filterMap_map]at this
 have e2:((fun x=>xs[x]?) ∘ fun x=>i+x)=fun m=>xs[i+m]?:=rfl
 rw[e2]at this
 rw[this]
theorem getItem_tuple_cut {t sl:Addr}{items:Array Value}{vl vu:Value}{lo hi:Option Int}{Q:Value->Shared->Prop}(ht:IsTup s.heap t items) (hs:s.heap.IsSliceOf sl vl vu .none) (pl:IsPart vl lo) (pu:IsPart vu hi)
  (hw:¬(sIx items.size 0 lo=0/\sIx items.size items.size hi=items.size))
  (h:Q (.ref s.heap.objs.size) { s with heap:=s.heap.push { cls:=.type "tuple",data:=.seq ((items.toList.drop (sIx items.size 0 lo)).take (sIx items.size items.size hi-sIx items.size 0 lo)).toArray } })
  (hsz:items.size<=sizeLine):wpAny (model prog w) A (getItem (.ref t) (.ref sl)) Q E s:=by
 have htake:sizeOk (.seq ((items.toList.drop (sIx items.size 0 lo)).take (sIx items.size items.size hi-sIx items.size 0 lo)).toArray):=by
  show((items.toList.drop (sIx items.size 0 lo)).take (sIx items.size items.size hi-sIx items.size 0 lo)).toArray.size<=sizeLine
  rw[VJ,Vw,Wj,WW]
  omega
 have hj:sIx items.size items.size hi<=items.size:=KH _ _ (Vt _) hi
 obtain⟨os,hos,hcs,hds⟩:=id hs
 have hTs:s.TypeIs (.ref sl) "slice" :=⟨os,hos,hcs⟩
 unfold getItem
 try with_reducible refine Wt ?_
 first|refine Vl (Vz ?_)|skip
 refine Vl (wpAny_sequenceKey ht.typeIs (by decide) ?_)
 refine Vl (wpAny_callSpecial?_slot (name:=Str.ofString "__getitem__") ht.typeIs PyProof.Rows.slot_tuple_getitem
  (wpAny_call_entry PyProof.Rows.slot_tuple_getitem ht.typeIs entry_tuple_getitem ?_ (args_tuple_getitem _ _)))
 show wpAny _ _ (Builtin.Tuple.tupleItemsOf (.ref t) >>= _) _ _ s
 refine Vl (tupleItemsOf_ ht ?_)
 refine Vl (wpAny_typeOf hTs ?_)
 rw[VB (by decide)]
 refine Vl (nh hs pl pu ?_)
 have hno:¬((((sIx items.size 0 lo:Nat):Int) == 0 && (1:Int) == 1 && (sIx items.size items.size hi-sIx items.size 0 lo) == items.size)=true):=by
  intro q
  rw[Xg,Xg]at q
  have q1:((sIx items.size 0 lo:Nat):Int)=0:=eq_of_beq q.1.1
  have q2:sIx items.size items.size hi-sIx items.size 0 lo=items.size:=eq_of_beq q.2
  exact hw ⟨by omega,by omega⟩
 show wpAny _ _ (if (((sIx items.size 0 lo:Nat):Int) == 0 && (1:Int) == 1 && (sIx items.size items.size hi-sIx items.size 0 lo) == items.size)=true then _ else _) _ _ s
 rw[VF hno,B0]
 first
  | exact Vl (m:=Builtin.Tuple.tupleExact _) (W7 (Vz ⟨_,rfl,Vz h⟩) htake)
  | exact Vl (m:=Builtin.Tuple.tupleExact _) (W7 (Vl (Vz (Vz ⟨_,rfl,Vz h⟩))) htake)
  | exact Vl (Vl (m:=Builtin.Tuple.tupleExact _) (W7 (Vz (Vz ⟨_,rfl,Vz h⟩)) htake))
  | exact Vl (Vl (m:=Builtin.Tuple.tupleExact _) (W7 (Vz ⟨_,rfl,Vz h⟩) htake))
end
end HT
namespace L2
open PySem PySem.Spec PyProof.Rows
abbrev TO:=St->Hp->(Option Int->Hp->Prop)->Prop
def PO (X:Cx) (e:Option Expr) (t:TO):Prop :=
 ∀(pins:List (Addr×Obj)) (s:Shared) (σ:St) (H:Hp) (Q:Option Int->Hp->Prop),Inv X pins σ H s->t σ H Q ->
  wpAny (model X.prog X.w) X.A (evalPart e X.env) (fun u s'=>∃o H',Inv X pins σ H' s'/\IsPart u o/\Q o H') X.xe s
def Az:TO:=fun _ H Q=>Q none H
def Ht (t:TE):TO:=fun σ H Q=>t σ H fun x H1=>∃i,x = .int i/\Q (some i) H1
theorem intsAre_of {ns:List Int}:∀{us:List Value},Vals (ns.map V.int) us->IntsAre us ns:=by
 induction ns with
 | nil=>intro us r;rw[List.map_nil]at r;cases r;exact .nil
 | cons n ns ih =>
  intro us r
  rw[VY]at r
  cases r with
  | cons r1 r2 =>
   obtain⟨t,e⟩:=r1
   subst e
   exact .cons n t (ih r2)
section
variable {X:Cx}{e:Expr}{te:TE}{lo hi:Option Expr}{tl th:TO}{pos p2:Pos}
theorem eY:PO X none Az:=by
 intro pins s σ H Q I h
 rw[evalPart_none]
 exact Vz ⟨none,H,I,.none,h⟩
theorem dD (h:PE X e te):PO X (some e) (Ht te):=by
 intro pins s σ H Q I hw
 rw[evalPart_some]
 refine cg (h pins s σ H _ I hw) fun u s1 ⟨x,H1,I1,r1,q1⟩=>?_
 obtain⟨i,rfl,q⟩:=q1
 obtain⟨t,rfl⟩:=r1
 exact⟨some i,H1,I1,.int i t,q⟩
def Qw (X:Cx) (r:V->Option Int->Option Int->Hp->VK->Prop):Prop :=
 ∀(pins:List (Addr×Obj)) (s:Shared) (σ:St) (H:Hp) (x:V) (v vl vu:Value) (lo hi:Option Int) (sl:Addr) (Q:VK),Inv X pins σ H s->RelV x v->s.heap.IsSliceOf sl vl vu .none->IsPart vl lo->IsPart vu hi->r x lo hi H Q ->
  ∃T id,typeLookup (.type T) "__getitem__" = pure (some (.builtin id))/\s.TypeIs v T/\wpAny (model X.prog X.w) X.A (getItem v (.ref sl)) (EP X pins σ Q) X.xe s
def Tz (r:V->Option Int->Option Int->Hp->VK->Prop) (te:TE) (tl th:TO):TE:=fun σ H Q=>te σ H fun x H1=>tl σ H1 fun l H2=>th σ H2 fun u H3=>r x l u H3 Q
theorem cP {r:V->Option Int->Option Int->Hp->VK->Prop}(hr:Qw X r) (he:PE X e te) (hl:PO X lo tl) (hu:PO X hi th):PE X (.Subscript e (.Slice lo hi none p2) pos) (Tz r te tl th):=by
 intro pins s σ H Q I h
 refine Subscript_ (cg (he pins s σ H _ I h) fun v s1 ⟨x,H1,I1,r1,q1⟩=>?_)
 refine wpAny_Slice (cg (hl pins s1 σ H1 _ I1 q1) fun vl s2 ⟨l,H2,I2,pl,q2⟩=>cg (hu pins s2 σ H2 _ I2 q2) fun vu s3 ⟨u,H3,I3,pu,q3⟩=>?_)
 rw[evalPart_none]
 refine Vz ?_
 have I4:Inv X pins σ H3 { s3 with heap:=s3.heap.push { cls:=.type "slice",data:=.fields #[vl,vu,.none] } }:=I3.kept (t':=s3.toks) fun b ob q=>Vu _ q
 obtain⟨T,id,hT,ht,hg⟩:=hr pins { s3 with heap:=s3.heap.push { cls:=.type "slice",data:=.fields #[vl,vu,.none] } } σ H3 x v vl vu l u s3.heap.objs.size Q I4 r1 (Heap.IsSliceOf.new ..) pl pu q3
 show wpAny (model X.prog X.w) X.A (subscriptTail e (.Slice lo hi none p2) v (.ref s3.heap.objs.size)) (EP X pins σ Q) X.xe { s3 with heap:=s3.heap.push { cls:=.type "slice",data:=.fields #[vl,vu,.none] } }
 exact tail_any (ops:=[.ref s3.heap.objs.size,v]) ht hT hg (by with_unfolding_all rfl)
def iE (xs:List V) (lo hi:Option Int):List V:=(xs.drop (HT.sIx xs.length 0 lo)).take (HT.sIx xs.length xs.length hi-HT.sIx xs.length 0 lo)
theorem nR (xs:List V) (lo hi:Option Int):(iE xs lo hi).length<=xs.length:=by
 unfold iE
 rw[Vw,Wj]
 omega
def Sb (K:W.Frag):V->Option Int->Option Int->Hp->VK->Prop:=fun x lo hi H Q=>∃a xs,x = .ref a/\gu K H a xs /\
 ¬(HT.sIx xs.length 0 lo=0/\HT.sIx xs.length xs.length hi=xs.length)/\∀p,H p=none->Q (.ref p) (upd H p (.tup (iE xs lo hi)))
theorem J9:Qw X (Sb X.K):=by
 intro pins s σ H x v vl vu lo hi sl Q I rx hs pl pu h
 obtain⟨a,xs,rfl,hx,hw,q⟩:=h
 cases rx
 obtain⟨its,r,ht,hz⟩:=I.tuple hx
 have hlen:its.toArray.size=xs.length:=by rw[VJ];exact r.length.symm
 refine⟨"tuple",_,PyProof.Rows.slot_tuple_getitem.lookup,ht.typeIs,?_⟩
 refine HT.getItem_tuple_cut ht hs pl pu (by rw[hlen];exact hw) ?_ (by rw[hlen];exact hz)
 rw[hlen]
 refine⟨.ref s.heap.objs.size,_,I.laid (t':=s.toks) (o:=.tup (iE xs lo hi)) (fun b ob q=>Vu _ q) (Vt _) ?_,rfl,q _ (I.hok.fresh (Vt _))⟩
 exact⟨Vv (nR xs lo hi) hz,_,(r.drop (HT.sIx xs.length 0 lo)).take (HT.sIx xs.length xs.length hi-HT.sIx xs.length 0 lo),IsTup.new _ _⟩
def Nh (K:W.Frag):R2:=fun x y H Q=>∃a b xs ys,x = .ref a/\y = .ref b/\gu K H a xs/\gu K H b ys/\xs ≠ []/\xs.length+ys.length<=sizeLine /\
 (ys=[]->Q (.ref a) H)/\(ys ≠ []->∀p,H p=none->Q (.ref p) (upd H p (.tup (xs++ys))))
theorem Vals.nil_iff {xs:List V}{us:List Value}(r:Vals xs us):us=[]↔xs=[]:=by
 cases r with
 | nil=>simp
 | cons _ _=>simp
theorem GX:nq X (binaryOp .Add) (Nh X.K):=by
 intro pins s σ H x y v u Q I rx ry h
 obtain⟨a,b,xs,ys,rfl,rfl,ha,hb,hx,hz,q1,q2⟩:=h
 cases rx
 cases ry
 obtain⟨its,r1,p1,_⟩:=I.tuple ha
 obtain⟨its2,r2,p2,_⟩:=I.tuple hb
 refine HT.cat_tup p1 p2 (fun z=>hx (r1.nil_iff.mp z)) (fun z=>⟨.ref a,H,I,rfl,q1 (r2.nil_iff.mp z)⟩) (fun z=>?_) (by rw[<- r1.length,<- r2.length];exact hz)
 refine⟨.ref s.heap.objs.size,_,I.laid (t':=s.toks) (o:=.tup (xs++ys)) (fun b ob q=>Vu _ q) (Vt _) ?_,rfl,q2 (fun w=>z (r2.nil_iff.mpr w)) _ (I.hok.fresh (Vt _))⟩
 exact⟨by rw[Vm];exact hz,_,r1.append r2,IsTup.new _ _⟩
end
def yx (n:Nat) (i:Int):Option Nat:=if 0<=i then(if i<n then some i.toNat else none) else if -(n:Int)<=i then some (i+n).toNat else none
def rg {α:Type}(xs:List α) (i:Int):Option α:=(yx xs.length i).bind fun j=>xs[j]?
theorem AB {n:Nat}{i:Int}{j:Nat}(h:yx n i=some j):seqIndex? i n=some j/\j<n/\-(n:Int)<=i/\i<n:=by
 unfold yx at h
 by_cases h0:0<=i
 ·rw[VB h0]at h
  by_cases h1:i<n
  ·rw[VB h1]at h
   have e:i.toNat=j:=VC h
   exact⟨by rw[seqIndex_of h0 h1,e],by omega,by omega,h1⟩
  ·rw[VF h1]at h;cases h
 ·rw[VF h0]at h
  by_cases h1:-(n:Int)<=i
  ·rw[VB h1]at h
   have e:(i+n).toNat=j:=VC h
   exact⟨by rw[seqIndex_neg (by omega) h1,e],by omega,h1,by omega⟩
  ·rw[VF h1]at h;cases h
theorem oJ {α:Type}{xs:List α}{i:Int}{v:α}(h:rg xs i=some v):∃j,seqIndex? i xs.length=some j/\xs[j]? = some v/\j<xs.length/\-(xs.length:Int)<=i/\i<xs.length:=by
 unfold rg at h
 cases e:yx xs.length i with
 | none=>rw[e]at h;cases h
 | some j =>
  rw[e]at h
  obtain⟨h1,h2,h3,h4⟩:=AB e
  exact⟨j,h1,h,h2,h3,h4⟩
theorem ie {α:Type}{xs:List α}{j:Nat}{v:α}(h:xs[j]? = some v):rg xs (j:Int)=some v:=by
 have hj:j<xs.length:=(Vj.mp h).1
 have e:yx xs.length (j:Int)=some j:=by
  unfold yx
  rw[VB (by omega),VB (by omega)];simp
 unfold rg;rw[e];exact h
theorem xN {α:Type}(xs:List α) (v:α):rg (xs ++ [v]) (-1)=some v:=by
 have hl:(xs ++ [v]).length=xs.length+1:=by simp
 have e:yx (xs ++ [v]).length (-1)=some xs.length:=by
  unfold yx
  rw[hl,VF (by decide),VB (by omega)]
  congr 1
  omega
 unfold rg
 rw[e]
 show(xs ++ [v])[xs.length]? = some v
 simp
def E7 (b:Expr):Prop:=∀o i,subscripted b false o i=operate [o,i] (getItem o i)
def MP (X:Cx) (r:R2):Prop :=
 ∀(value slice:Expr) (pins:List (Addr×Obj)) (s:Shared) (σ:St) (H:Hp) (x y:V) (v u:Value) (Q:VK),Inv X pins σ H s->RelV x v->RelV y u->r x y H Q ->
  subscripted slice false v u=operate [v,u] (getItem v u)->wpAny (model X.prog X.w) X.A (subscriptTail value slice v u) (EP X pins σ Q) X.xe s
def N1 (X:Cx) (id:String) (r:V->List V->Hp->VK->Prop):Prop :=
 ∀(pins:List (Addr×Obj)) (s:Shared) (σ:St) (H:Hp) (x:V) (xs:List V) (v:Value) (us:List Value) (Q:VK),Inv X pins σ H s->RelV x v->Vals xs us->r x xs H Q ->
  wpAny (model X.prog X.w) X.A (call (.builtin id) (v::us)) (EP X pins σ Q) X.xe s
section
variable {X:Cx}{a b:Expr}{ta tb:TE}{pos:Pos}
theorem bg {r:R2}(hr:MP X r) (ha:PE X a ta) (hb:PE X b tb) (hs:E7 b):PE X (.Subscript a b pos) (OP r ta tb):=by
 intro pins s σ H Q I h
 exact Subscript_ (Kz ha hb I h fun v u s2 x y H2 I2 rx ry q=>hr a b pins s2 σ H2 x y v u Q I2 rx ry q (hs _ _))
def GJ (K:W.Frag):R2:=fun x y H Q=>∃p xs i v,x = .ref p/\y = .int i/\aU K H p xs/\rg xs i=some v/\Q v H
def K3 (K:W.Frag):R2:=fun x y H Q=>∃p xs i v,x = .ref p/\y = .int i/\gu K H p xs/\rg xs i=some v/\Q v H
def NX:R2:=fun x y H Q=>∃z i c,x = .str z/\y = .int i/\z.length<=sizeLine/\rg z.cps.toList i=some c/\Q (.str ⟨#[c]⟩) H
theorem bI:MP X (GJ X.K):=by
 intro value slice pins s σ H x y v u Q I rx ry h hs
 obtain⟨p,xs,i,z,rfl,rfl,hq,he,q⟩:=h
 cases rx
 obtain⟨t,rfl⟩:=ry
 obtain⟨its,r,pl,hz⟩:=I.list hq
 obtain⟨j,h1,h2,h3,h4,h5⟩:=oJ he
 obtain⟨w,ew,rw'⟩:=r.get h2
 have hl:=r.length
 have hn:=kZ
 have fin:EP X pins σ Q w s:=⟨z,H,I,rw',q⟩
 by_cases h0:0<=i
 ·have hj:i.toNat=j:=by
   rw[seqIndex_of h0 h5]at h1
   exact VC h1
  exact item_listR pl.isList h0 (by omega) (by rw[hj];simpa using ew) fin hs
 ·have hj:(i+(its.toArray.size:Int)).toNat=j:=by
   rw[seqIndex_neg (by omega) h4]at h1
   rw[VJ,<- hl]
   exact VC h1
  exact subscriptTail_builtinR (x:=w) pl.isList.typeIs slot_list_getitem.lookup
   (wpAny_getItem_list_neg (Q:=fun r s'=>r=w/\EP X pins σ Q r s') pl.isList (by omega) (by rw[VJ] <;> omega) (by omega) (by rw[hj];simpa using ew) ⟨rfl,fin⟩) hs
theorem cS:MP X (K3 X.K):=by
 intro value slice pins s σ H x y v u Q I rx ry h hs
 obtain⟨p,xs,i,z,rfl,rfl,hq,he,q⟩:=h
 cases rx
 obtain⟨t,rfl⟩:=ry
 obtain⟨its,r,pl,hz⟩:=I.tuple hq
 obtain⟨j,h1,h2,h3,h4,h5⟩:=oJ he
 obtain⟨w,ew,rw'⟩:=r.get h2
 have hl:=r.length
 have hn:=kZ
 have fin:EP X pins σ Q w s:=⟨z,H,I,rw',q⟩
 exact subscriptTail_builtinR (x:=w) pl.typeIs slot_tuple_getitem.lookup
  (getItem_tuple (j:=j) (Q:=fun r s'=>r=w/\EP X pins σ Q r s') pl (by omega) (by omega) (by rw[VJ,<- hl];exact h1) (by simpa using ew) ⟨rfl,fin⟩) hs
theorem IA:MP X NX:=by
 intro value slice pins s σ H x y v u Q I rx ry h hs
 obtain⟨z,i,c,rfl,rfl,hz,he,q⟩:=h
 obtain⟨t,rfl⟩:=rx
 obtain⟨t',rfl⟩:=ry
 obtain⟨j,h1,h2,h3,h4,h5⟩:=oJ he
 have hl:z.cps.toList.length=z.length:=by simp[Str.length]
 rw[hl]at h1 h4 h5
 have hn:=kZ
 exact tail_any (typeIs_str s z t) slot_str_getitem.lookup (getItem_str (c:=c) (by
  have e1:decide (i < -(2^63:Int))=false:=VR (by omega)
  have e2:decide (i ≥ 2^63)=false:=VR (by omega)
  rw[e1,e2,Bool.or_false]) (by rw[h1];simpa using h2) ⟨.str ⟨#[c]⟩,H,I.tok _,⟨_,rfl⟩,q⟩) hs
theorem zm (its:List Value) (n j:Nat) (u:Value):Obj.mapSeq (·.setIfInBounds j u) { cls:=.type "list",data:=.seq its.toArray n } = { cls:=.type "list",data:=.seq (its.set j u).toArray n }:=by
 simp[Obj.mapSeq]
theorem Inv.lst {pins:List (Addr×Obj)}{σ:St}{H:Hp}{s:Shared}{p:Addr}{xs:List V}(I:Inv X pins σ H s) (h:H p=some (.lst xs)) :
  ∃(its:List Value) (n:Nat),Vals xs its/\s.heap.get? p=some { cls:=.type "list",data:=.seq its.toArray n }/\xs.length<=sizeLine:=by
 obtain⟨z,its,n,r,e⟩:=I.hok p _ h
 exact⟨its,n,r,e,z⟩
theorem Inv.lstUpd {pins:List (Addr×Obj)}{σ:St}{H:Hp}{s:Shared}{p:Addr}{xs ys:List V}{its its':List Value}{n n':Nat}{f:Obj->Obj}(I:Inv X pins σ H s) (h:H p=some (.lst xs))
  (ho:s.heap.get? p=some { cls:=.type "list",data:=.seq its.toArray n }) (hf:f { cls:=.type "list",data:=.seq its.toArray n } = { cls:=.type "list",data:=.seq its'.toArray n' }) (r:Vals ys its') (hz:ys.length<=sizeLine) (t:Nat) :
  Inv X pins σ (upd H p (.lst ys)) { s with heap:=s.heap.update p f,toks:=t }:=by
 have e:(s.heap.update p f).get? p=some { cls:=.type "list",data:=.seq its'.toArray n' }:=by
  rw[Xo f ho (by rw[hf] <;> rfl),hf]
 refine I.write (x:=p) (e:=p) (by rw[h];trivial) (.inl rfl) (fun b u hb q=>(WZ _ _ (Ne.symm hb)).trans q) ⟨_,e⟩ ?_
 exact⟨hz,its',n',r,e⟩
def AE:V->V->V->Hp->(Hp->Prop)->Prop:=fun o i v H Q=>∃p xs k j,o = .ref p/\i = .int k/\H p=some (.lst xs)/\yx xs.length k=some j/\Q (upd H p (.lst (xs.set j v)))
theorem set_list:Jh X AE:=by
 intro pins s σ H o i v ov iv u Q I ro ri rv h
 obtain⟨p,xs,k,j,rfl,rfl,hp,hj,q⟩:=h
 cases ro
 obtain⟨t,rfl⟩:=ri
 obtain⟨its,n,r,ho,hz⟩:=I.lst hp
 obtain⟨h1,h2,h3,h4⟩:=AB hj
 have hl:=r.length
 have hn:=kZ
 have I':Inv X pins σ (upd H p (.lst (xs.set j v))) { s with heap:=s.heap.update p (Obj.mapSeq (·.setIfInBounds j u)) } :=
  I.lstUpd hp ho (zm its n j u) (r.set rv j) (by rw[Xm];exact hz) s.toks
 by_cases h0:0<=k
 ·have hk:k.toNat=j:=by
   rw[seqIndex_of h0 h4]at h1
   exact VC h1
  exact PySem.W.ki_setAt ho h0 (by omega) (by rw[VJ,<- hl];exact h4) (by rw[hk];exact⟨_,I',q⟩)
 ·have hk:(k+(its.toArray.size:Int)).toNat=j:=by
   rw[seqIndex_neg (by omega) h3]at h1
   rw[VJ,<- hl]
   exact VC h1
  exact PySem.W.ki_setBack ho (by omega) (by rw[VJ,<- hl];exact h3) (by omega) (by rw[hk];exact⟨_,I',q⟩)
theorem ve (lo hi:Option Int) (n:Nat):(sliceBounds lo hi none n).1 =((HT.sIx n 0 lo:Nat):Int)/\(sliceBounds lo hi none n).2.1 =((HT.sIx n n hi:Nat):Int)/\(sliceBounds lo hi none n).2.2=1:=by
 refine⟨?_,?_,rfl⟩
 ·cases lo with
  | none=>simp[sliceBounds,HT.sIx]
  | some i =>
   simp only[sliceBounds,HT.sIx,Option.getD_none,show(1:Int) > 0 by decide,if_true]
   by_cases h:i<0
   ·simp only[h,if_true] <;> omega
   ·simp only[h,if_false] <;> omega
 ·cases hi with
  | none=>simp[sliceBounds,HT.sIx]
  | some i =>
   simp only[sliceBounds,HT.sIx,Option.getD_none,show(1:Int) > 0 by decide,if_true]
   by_cases h:i<0
   ·simp only[h,if_true] <;> omega
   ·simp only[h,if_false] <;> omega
theorem rC (its:List Value) (lo hi:Option Int):slicePick its.toArray lo hi none =((its.drop (HT.sIx its.length 0 lo)).take (HT.sIx its.length its.length hi-HT.sIx its.length 0 lo)).toArray:=by
 obtain⟨h1,h2,h3⟩:=ve lo hi its.toArray.size
 unfold slicePick
 rw[h1,h2,h3]
 simp only[sliceRange_one,pick_run,List.size_toArray] <;> rfl
def Jk (K:W.Frag):V->Option Int->Option Int->Hp->VK->Prop:=fun x lo hi H Q=>∃a xs,x = .ref a/\aU K H a xs/\∀p,H p=none->Q (.ref p) (upd H p (.lst (iE xs lo hi)))
theorem eW:Qw X (Jk X.K):=by
 intro pins s σ H x v vl vu lo hi sl Q I rx hs pl pu h
 obtain⟨a,xs,rfl,hx,q⟩:=h
 cases rx
 obtain⟨its,r,ht,hz⟩:=I.list hx
 have hlen:=r.length
 refine⟨"list",_,slot_list_getitem.lookup,ht.isList.typeIs,?_⟩
 refine wpAny_getItem_list_slice ht.isList hs pl pu .none (by simp) ?_ (by rw[VJ] <;> omega)
 rw[rC,<- hlen]
 refine⟨.ref s.heap.objs.size,_,I.laid (t':=s.toks) (o:=.lst (iE xs lo hi)) (fun b ob q=>Vu _ q) (Vt _) ?_,rfl,q _ (I.hok.fresh (Vt _))⟩
 exact⟨Vv (nR xs lo hi) hz,_,0,(r.drop (HT.sIx xs.length 0 lo)).take (HT.sIx xs.length xs.length hi-HT.sIx xs.length 0 lo),V0 _ rfl⟩
def mO:V->Bool
 | .non=>true
 | .bl _=>true
 | .int _=>true
 | .str _=>true
 | _=>false
def D7:V->V->Bool
 | .non,.non=>true
 | .bl a,.bl b=>a == b
 | .bl a,.int b=>(if a then 1 else 0) == b
 | .int a,.bl b=>a ==(if b then 1 else 0)
 | .int a,.int b=>a == b
 | .str a,.str b=>a == b
 | _,_=>false
theorem Li {A:Around}{s:Shared}{y x:V}{u v:Value}(ry:RelV y u) (rx:RelV x v) (fy:mO y=true) (fx:mO x=true):SeqAt.EqAt A s u v (D7 y x):=by
 cases y with
 | non =>
  cases ry
  cases x with
  | non=>cases rx;exact SeqAt.EqAt.same _
  | bl b=>cases rx;exact SeqAt.EqAt.none_bool b
  | int b=>obtain⟨t,rfl⟩:=rx;exact SeqAt.EqAt.none_int b t
  | str b=>obtain⟨t,rfl⟩:=rx;exact SeqAt.EqAt.none_str b t
  | _=>exact absurd (show false=true from fx) VI
 | bl a =>
  cases ry
  cases x with
  | non=>cases rx;exact SeqAt.EqAt.bool_none a
  | bl b=>cases rx;exact SeqAt.EqAt.bool_bool a b
  | int b=>obtain⟨t,rfl⟩:=rx;exact SeqAt.EqAt.bool_int a b t
  | str b=>obtain⟨t,rfl⟩:=rx;exact SeqAt.EqAt.bool_str a b t
  | _=>exact absurd (show false=true from fx) VI
 | int a =>
  obtain⟨t',rfl⟩:=ry
  cases x with
  | non=>cases rx;exact SeqAt.EqAt.int_none a t'
  | bl b=>cases rx;exact SeqAt.EqAt.int_bool a t' b
  | int b=>obtain⟨t,rfl⟩:=rx;exact SeqAt.EqAt.int_int a t' b t
  | str b=>obtain⟨t,rfl⟩:=rx;exact SeqAt.EqAt.int_str a t' b t
  | _=>exact absurd (show false=true from fx) VI
 | str a =>
  obtain⟨t',rfl⟩:=ry
  cases x with
  | non=>cases rx;exact SeqAt.EqAt.str_none a t'
  | bl b=>cases rx;exact SeqAt.EqAt.str_bool a t' b
  | int b=>obtain⟨t,rfl⟩:=rx;exact SeqAt.EqAt.str_int a t' b t
  | str b=>obtain⟨t,rfl⟩:=rx;exact SeqAt.EqAt.str_str a t' b t
  | _=>exact absurd (show false=true from fx) VI
 | _=>exact absurd (show false=true from fy) VI
def EU (x:V) (u:Value):Bool:=match u with
 | .none=>D7 .non x
 | .bool b=>D7 (.bl b) x
 | .int i _=>D7 (.int i) x
 | .str z _=>D7 (.str z) x
 | _=>false
theorem B9 {x y:V}{u:Value}(r:RelV y u) (f:mO y=true):EU x u=D7 y x:=by
 cases y with
 | non=>cases r;rfl
 | bl b=>cases r;rfl
 | int i=>obtain⟨t,rfl⟩:=r;rfl
 | str z=>obtain⟨t,rfl⟩:=r;rfl
 | _=>exact absurd (show false=true from f) VI
theorem vQ {x:V}:∀{xs:List V}{us:List Value},Vals xs us->xs.all mO=true->us.any (EU x)=xs.any fun y=>D7 y x
 | _,_,.nil,_=>rfl
 | y::xs,u::us,.cons r t,f=>by
  rw[List.all_cons,Xg]at f
  rw[Xx,Xx,B9 r f.1,vQ t f.2]
theorem pe {A:Around}{s:Shared}{x:V}{v:Value}(rx:RelV x v) (fx:mO x=true):∀{xs:List V}{us:List Value},Vals xs us->xs.all mO=true->∀u∈us,SeqAt.EqAt A s u v (EU x u)
 | _,_,.nil,_=>fun u hu=>by cases hu
 | y::xs,u::us,.cons r t,f=>fun u' hu=>by
  rw[List.all_cons,Xg]at f
  rcases VW.mp hu with rfl|hu
  ·rw[B9 r f.1];exact Li r rx f.1 fx
  ·exact pe rx fx t f.2 u' hu
def CQ (x:V) (xs:List V):Bool:=xs.any fun y=>D7 y x
def Tq (K:W.Frag) (neg:Bool):R2:=fun x y H Q=>∃p xs,y = .ref p/\(aU K H p xs\/gu K H p xs)/\mO x=true/\xs.all mO=true/\Q (.bl (if neg then !CQ x xs else CQ x xs)) H
theorem iQ:nq X (compareOp .In) (Tq X.K false):=by
 intro pins s σ H x y v u Q I rx ry h
 obtain⟨p,xs,rfl,hq,fx,fs,q⟩:=h
 cases ry
 rcases hq with hq|hq
 ·obtain⟨its,r,pl,hz⟩:=I.list hq
  refine SeqAt.in_listAt (EU x) pl.isList (fun w hw=>pe rx fx r fs w (by simpa using hw)) ⟨.bl _,H,I,rfl,?_⟩
  rw[show its.toArray.any (EU x)=its.any (EU x) by simp,vQ r fs]
  exact q
 ·obtain⟨its,r,pl,hz⟩:=I.tuple hq
  refine SeqAt.in_tupleAt (EU x) pl (fun w hw=>pe rx fx r fs w (by simpa using hw)) ⟨.bl _,H,I,rfl,?_⟩
  rw[show its.toArray.any (EU x)=its.any (EU x) by simp,vQ r fs]
  exact q
theorem vA:eT X (.builtin "len") (fun xs H Q=>∃p ys,xs=[.ref p]/\(aU X.K H p ys\/gu X.K H p ys)/\Q (.int ys.length) H):=by
 intro pins s σ H xs us Q I r h
 obtain⟨p,ys,rfl,hq,q⟩:=h
 obtain⟨u,rfl,rx⟩:=vals1 r
 cases rx
 have hn:=kZ
 rcases hq with hq|hq
 ·obtain⟨its,r',pl,hz⟩:=I.list hq
  have hlen:=r'.length
  exact Calls.call_len_list pl.isList (by simp only[List.size_toArray] <;> omega) ⟨.int ys.length,H,I.tok _,⟨s.toks+1,by rw[VJ,hlen]⟩,q⟩
 ·obtain⟨its,r',pl,hz⟩:=I.tuple hq
  have hlen:=r'.length
  exact len_tuple pl (by simp only[List.size_toArray] <;> omega) ⟨.int ys.length,H,I.tok _,⟨s.toks+1,by rw[VJ,hlen]⟩,q⟩
theorem jc:eT X (.type "list") (fun xs H Q=>∃p ys,xs=[.ref p]/\(aU X.K H p ys\/gu X.K H p ys)/\∀l,H l=none->Q (.ref l) (upd H l (.lst ys))):=by
 intro pins s σ H xs us Q I r h
 obtain⟨p,ys,rfl,hq,q⟩:=h
 obtain⟨u,rfl,rx⟩:=vals1 r
 cases rx
 have fin:∀(its:List Value),Vals ys its->ys.length<=sizeLine->∀(h':Heap) (c':Nat),(∀b o',s.heap.get? b=some o'->h'.get? b=some o') ->
   h'.get? s.heap.objs.size=some { cls:=.type "list",dict:=none,data:=.seq its.toArray c',slots:=#[] }->EP X pins σ Q (.ref s.heap.objs.size) { s with heap:=h' }:=fun its r' hz h' c' kp e =>
  ⟨.ref s.heap.objs.size,_,I.laid (t':=s.toks) kp (Vt _) (show dJ X.prog X.w _ h' _ (.lst ys) from⟨hz,its,c',r',e⟩),rfl,q _ (I.hok.fresh (Vt _))⟩
 rcases hq with hq|hq
 ·obtain⟨its,r',pl,hz⟩:=I.list hq
  have hlen:=r'.length
  obtain⟨o,ho,hc,n,hd⟩:=pl.isList
  exact call_list_seq p (.inl rfl) ho hc hd (fun h' c' kp e=>fin its r' hz h' c' kp e) (by simp only[List.size_toArray] <;> omega)
 ·obtain⟨its,r',pl,hz⟩:=I.tuple hq
  have hlen:=r'.length
  obtain⟨o,ho,hc,n,hd⟩:=pl
  exact call_list_seq p (.inr rfl) ho hc hd (fun h' c' kp e=>fin its r' hz h' c' kp e) (by simp only[List.size_toArray] <;> omega)
def Pz (K:W.Frag) (T:String) (x:V) (H:Hp):Prop:=match x with
 | .str _=>T = "str"
 | .int _=>T = "int"
 | .ref p=>(T = "list"/\∃xs,aU K H p xs) \/(T = "tuple"/\∃o,K.lookup p=some o/\o.cls = .type "tuple"/\o.dict=none) \/
   (T = "dict"/\((∃kvs,H p=some (.dK kvs)) \/ ∃kvs,H p=some (.dT kvs))) \/(T = "set"/\∃S n,H p=some (.set S n))
 | _=>False
theorem Dt {pins:List (Addr×Obj)}{σ:St}{H:Hp}{s:Shared}{T:String}{x:V}{v:Value}(I:Inv X pins σ H s) (r:RelV x v) (ty:Pz X.K T x H) :
  s.TypeIs v T/\∀a,v = .ref a->∃ob,s.heap.get? a=some ob/\ob.dict=none:=by
 cases x with
 | str z =>
  obtain⟨t,rfl⟩:=r
  cases (show T = "str" from ty)
  exact⟨typeIs_str s z t,fun _ e=>nomatch e⟩
 | int i =>
  obtain⟨t,rfl⟩:=r
  cases (show T = "int" from ty)
  exact⟨typeIs_int s i t,fun _ e=>nomatch e⟩
 | ref p =>
  cases r
  rcases ty with⟨rfl,xs,hq⟩|⟨rfl,o,hk,hc,hd⟩|⟨rfl,hk⟩|⟨rfl,S,n,hk⟩
  ·obtain⟨its,_,pl,_⟩:=I.list hq
   refine⟨pl.isList.typeIs,fun a e=>?_⟩
   cases e
   obtain⟨o,n,e,c,hd,_⟩:=pl
   exact⟨o,e,hd⟩
  ·refine⟨⟨o,I.kIn p o hk,hc⟩,fun a e=>?_⟩
   cases e
   exact⟨o,I.kIn _ o hk,hd⟩
  ·have z:∃o,s.heap.get? p=some o/\o.ExactDict:=by
    rcases hk with⟨kvs,hk⟩|⟨kvs,hk⟩
    ·obtain⟨_,_,_,_,o,_,_,e,ex,_⟩:=I.hok p _ hk
     exact⟨o,e,ex⟩
    ·obtain⟨_,_,_,_,o,_,_,e,ex,_⟩:=I.hok p _ hk
     exact⟨o,e,ex⟩
   obtain⟨o,e,ex⟩:=z
   refine⟨⟨o,e,ex.1⟩,fun a e2=>?_⟩
   cases e2
   exact⟨o,e,ex.2.1⟩
  ·obtain⟨o,_,_,_,e,ex,_⟩:=I.hok p _ hk
   refine⟨⟨o,e,ex.1⟩,fun a e2=>?_⟩
   cases e2
   exact⟨o,e,ex.2.1⟩
 | _=>exact False.elim ty
def OV (K:W.Frag) (T:String) (r:V->List V->Hp->VK->Prop) (to:TE):TE:=fun σ H Q=>to σ H fun x H1=>Pz K T x H1/\r x [] H1 Q
def TY (K:W.Frag) (T:String) (r:V->List V->Hp->VK->Prop) (to:TE) (t:TA):TE:=fun σ H Q=>to σ H fun x H1=>Pz K T x H1/\t σ H1 fun xs H2=>r x xs H2 Q
variable {o e:Expr}{es:List Expr}{to:TE}{t:TA}{name:Str}{apos cpos:Pos}{T id:String}{r:V->List V->Hp->VK->Prop}
theorem zy (pa:PlainAttrs T) (slot:Slot T name id) (hty:typeOf (.builtin id)=pure (.type "method_descriptor")) (hm:N1 X id r) (ho:PE X o to)
  (hbase:attributeBase o name X.env (eval o X.env)=eval o X.env:=by rfl) (hline:(apos.endLine == cpos.line)=true:=by rfl):PE X (.Call (.Attribute o name apos) [] [] cpos) (OV X.K T r to):=by
 intro pins s σ H Q I h
 refine wpAny_Call_method0_late hbase hline (cg (ho pins s σ H _ I h) fun v s1 ⟨x,H1,I1,r1,ty,q1⟩=>?_)
 obtain⟨h1,h2⟩:=Dt I1 r1 ty
 exact⟨T,id,pa,slot,hty,h1,h2,Calls.callWith_builtin rfl (PySem.evalArgs_none (hm pins s1 σ H1 x [] v [] Q I1 r1 .nil q1))⟩
theorem gh (pa:PlainAttrs T) (slot:Slot T name id) (hty:typeOf (.builtin id)=pure (.type "method_descriptor")) (hm:N1 X id r) (ho:PE X o to) (ha:PA X (e::es) t)
  (hbase:attributeBase o name X.env (eval o X.env)=eval o X.env:=by rfl)
  (hfew:((backTo cpos (starEach (e::es) X.env)).all (fun x=>!x.1) && (backToKw cpos (keywordEach [] X.env)).all (fun x=>x.1.isSome)
   && decide ((e::es).length+([]:List Keyword).length+(if ([]:List Keyword).isEmpty then 0 else 1)<30))=true:=by rfl)
  (hline:(apos.endLine == cpos.line)=true:=by rfl) (hs:starEach (e::es) X.env =(false,eval e X.env)::starEach es X.env:=by rfl) (hplain:(backTo cpos (starEach es X.env)).any (·.1)=false:=by rfl) :
  PE X (.Call (.Attribute o name apos) (e::es) [] cpos) (TY X.K T r to t):=by
 intro pins s σ H Q I h
 refine wpAny_Call_method_late hbase hfew hline rfl (cg (ho pins s σ H _ I h) fun v s1 ⟨x,H1,I1,r1,ty,q1⟩=>?_)
 obtain⟨h1,h2⟩:=Dt I1 r1 ty
 refine⟨T,id,pa,slot,hty,h1,h2,?_⟩
 have hA:=ha cpos pins s1 σ H1 _ I1 q1
 rw[hs]at hA ⊢
 refine Calls.callWith_builtin (by show(false || (backTo cpos (starEach es X.env)).any (·.1))=false;rw[hplain] <;> rfl) (Calls.evalArgs_plain ?_)
 exact cg hA fun us s2 ⟨vs,H2,I2,r2,q2⟩=>hm pins s2 σ H2 x vs v us Q I2 r1 r2 q2
end
def RD (X:Cx) (id:String) (r:V->List V->Hp->VK->Prop):Prop :=
 ∀(pins:List (Addr×Obj)) (s:Shared) (σ:St) (H:Hp) (x:V) (xs:List V) (v:Value) (us:List Value) (Q:VK),Inv X pins σ H s->RelV x v->Vals xs us->r x xs H Q ->
  wpAny (model X.prog X.w) X.A (call (.builtin id) (v::us)) (EP X pins σ Q) X.xe s
theorem Vals.one:∀{x:V}{us:List Value},Vals [x] us->∃u,us=[u]/\RelV x u
 | _,_,.cons r .nil=>⟨_,rfl,r⟩
theorem Vals.zero:∀{us:List Value},Vals [] us->us=[]
 | _,.nil=>rfl
theorem Vals.dropLast {xs:List V}{us:List Value}(h:Vals xs us):Vals xs.dropLast us.dropLast:=by
 induction h with
 | nil=>exact .nil
 | cons r t ih =>
  cases t with
  | nil=>exact .nil
  | cons q t'=>exact .cons r ih
theorem Vals.reverse {xs:List V}{us:List Value}(h:Vals xs us):Vals xs.reverse us.reverse:=by
 induction h with
 | nil=>exact .nil
 | cons r t ih=>rw[List.reverse_cons,List.reverse_cons];exact Vals.append ih (.cons r .nil)
theorem zp {α:Type}(l:List α):l.eraseIdx (l.length-1)=l.dropLast:=by
 induction l with
 | nil=>rfl
 | cons a r ih =>
  cases r with
  | nil=>rfl
  | cons b r =>
   have e:(a::b::r).length-1 =((b::r).length-1)+1:=by
    have h1:(a::b::r).length=r.length+2:=rfl
    have h2:(b::r).length=r.length+1:=rfl
    omega
   rw[e,List.eraseIdx_cons_succ,ih]
   all_goals rfl
section
variable {X:Cx}{pins:List (Addr×Obj)}{σ:St}{H:Hp}{s:Shared}{l b:Addr}{xs ys zs:List V}
theorem Inv.lset {its its':List Value}{n:Nat}{f:Array Value->Array Value}{t':Nat}(I:Inv X pins σ H s) (hH:H l=some (.lst xs))
  (e:s.heap.get? l=some { cls:=.type "list",data:=.seq its.toArray n }) (hf:f its.toArray=its'.toArray) (hv:Vals ys its') (hz:ys.length<=sizeLine) :
  Inv X pins σ (upd H l (.lst ys)) { s with heap:=s.heap.update l (Obj.mapSeq f),toks:=t' }:=by
 have q:=PySem.IsL.update e f
 rw[hf]at q
 refine I.write (x:=l) (e:=l) (by rw[hH];exact trivial) (.inl rfl) (fun b' u hb hu=>(WZ s.heap (Obj.mapSeq f) (Ne.symm hb)).trans hu) ⟨_,q⟩ ?_
 exact⟨hz,its',_,hv,q⟩
theorem Inv.lnew {its:List Value}{t':Nat}(I:Inv X pins σ H s) (hv:Vals ys its) (hz:ys.length<=sizeLine) :
  Inv X pins σ (upd H s.heap.objs.size (.lst ys)) { s with heap:=s.heap.push { cls:=.type "list",data:=.seq its.toArray },toks:=t' } :=
 I.laid (fun _ _ q=>Vu _ q) (Vt _) ⟨hz,its,0,hv,V0 _ rfl⟩
theorem Inv.fresh (I:Inv X pins σ H s):H s.heap.objs.size=none:=I.hok.fresh (Vt _)
theorem Inv.lstM (I:Inv X pins σ H s) (hH:H l=some (.lst xs)):xs.length<=sizeLine/\∃(its:List Value) (n:Nat),Vals xs its/\xs.length=its.length/\s.heap.get? l=some { cls:=.type "list",data:=.seq its.toArray n }:=by
 obtain⟨z,its,n,r,e⟩:=I.hok l _ hH
 exact⟨z,its,n,r,r.length,e⟩
theorem wU {n:Nat}(h:n<=sizeLine):Builtin.List.listTooLong n=false:=by
 unfold Builtin.List.listTooLong
 exact VR (by omega)
end
section
variable {X:Cx}
def EX:V->List V->Hp->VK->Prop:=fun x vs H Q=>∃l xs y,x = .ref l/\vs=[y]/\H l=some (.lst xs)/\xs.length<sizeLine/\Q .non (upd H l (.lst (xs ++ [y])))
theorem bL:RD X "list.append" EX:=by
 intro pins s σ H x vs v us Q I rx rv h
 obtain⟨l,xs,y,rfl,rfl,hH,hz,q⟩:=h
 cases rx
 obtain⟨u,rfl,ru⟩:=rv.one
 obtain⟨z,its,n,r,hl,e⟩:=I.lstM hH
 refine call_meets F.slot_list_append ⟨_,e,rfl⟩ F.entry_list_append (F.args_list_append_2 _ _) (PySem.list_append l its.toArray n u (by rw[VJ];omega)) ⟨e,?_⟩
 refine⟨.non,_,I.lset (its':=its ++ [u]) hH e (by simp) (r.append (.cons ru .nil)) ?_,rfl,q⟩
 rw[Vm,Wn]
 omega
def Gj:V->List V->Hp->VK->Prop:=fun x vs H Q=>∃l b xs zs,x = .ref l/\vs=[.ref b]/\H l=some (.lst xs)/\H b=some (.lst zs)/\xs.length+zs.length<=sizeLine/\Q .non (upd H l (.lst (xs++zs)))
theorem MC:RD X "list.extend" Gj:=by
 intro pins s σ H x vs v us Q I rx rv h
 obtain⟨l,b,xs,zs,rfl,rfl,hH,hB,hz,q⟩:=h
 cases rx
 obtain⟨u,rfl,ru⟩:=rv.one
 cases ru
 obtain⟨z,its,n,r,hl,e⟩:=I.lstM hH
 obtain⟨z2,its2,n2,r2,hl2,e2⟩:=I.lstM hB
 have hsz:its.toArray.size+its2.toArray.size<=sizeLine:=by rw[VJ,VJ];omega
 have hlong:¬(!its.toArray.isEmpty && Builtin.List.listTooLong (its.toArray.size+its2.toArray.size))=true:=by
  rw[wU hsz,Bool.and_false]
  exact VI
 refine call_meets F.slot_list_extend ⟨_,e,rfl⟩ F.entry_list_extend (F.args_list_extend_2 _ _)
  (AutoSeq1.list_extend_list_list_0 l its.toArray n b its2.toArray n2 hlong (by rw[VJ];omega) (by omega)) ⟨e,e2,?_⟩
 refine⟨.non,_,I.lset (its':=its++its2) hH e (by simp) (r.append r2) ?_,rfl,q⟩
 rw[Vm]
 omega
def RK:V->List V->Hp->VK->Prop:=fun x vs H Q=>∃l xs y,x = .ref l/\vs=[]/\H l=some (.lst xs)/\xs[xs.length-1]? = some y/\Q y (upd H l (.lst xs.dropLast))
theorem Kv:RD X "list.pop" RK:=by
 intro pins s σ H x vs v us Q I rx rv h
 obtain⟨l,xs,y,rfl,rfl,hH,hy,q⟩:=h
 cases rx
 have hus:=rv.zero
 subst hus
 obtain⟨z,its,n,r,hl,e⟩:=I.lstM hH
 obtain⟨u,hu,ru⟩:=r.get hy
 have hy':its.toArray[its.toArray.size-1]? = some u:=by
  show its.toArray[its.length-1]? = some u
  rw[<- W4,<- hl]
  exact hu
 refine call_meets F.slot_list_pop ⟨_,e,rfl⟩ F.entry_list_pop (F.args_list_pop_1 _) (MeetsSeq.list_pop_last l its.toArray n u hy' (by rw[VJ];omega)) ⟨e,?_⟩
 refine⟨y,_,I.lset (its':=its.dropLast) hH e ?_ r.dropLast ?_,ru,q⟩
 ·show its.toArray.eraseIdxIfInBounds (its.toArray.size-1)=its.dropLast.toArray
  rw[VJ,List.eraseIdxIfInBounds_toArray,zp]
 ·rw[List.length_dropLast]
  omega
def Sz:R2:=fun x y H Q=>∃l b xs zs,x = .ref l/\y = .ref b/\H l=some (.lst xs)/\H b=some (.lst zs)/\xs.length+zs.length<=sizeLine/\∀p,H p=none->Q (.ref p) (upd H p (.lst (xs++zs)))
theorem jx:nq X (binaryOp .Add) Sz:=by
 intro pins s σ H x y v u Q I rx ry h
 obtain⟨l,b,xs,zs,rfl,rfl,hH,hB,hz,q⟩:=h
 cases rx
 cases ry
 obtain⟨z,its,n,r,hl,e⟩:=I.lstM hH
 obtain⟨z2,its2,n2,r2,hl2,e2⟩:=I.lstM hB
 refine PySem.P.add_list e e2 ?_ (by rw[VJ,VJ];omega)
 have ea:its.toArray++its2.toArray =(its++its2).toArray:=by simp
 rw[ea]
 exact⟨.ref _,_,I.lnew (t':=s.toks) (r.append r2) (by rw[Vm];omega),rfl,q _ I.fresh⟩
end
end L2
namespace Att
open PySem PySem.W PySem.Calls PyProof.Rows
theorem oE {P:Params}{h:Heap}:∀(ns:List Int) (vs:List Value),WellAll P h vs (ns.map WData.int)->IntsAre vs ns:=by
 intro ns
 induction ns with
 | nil =>
  intro vs w
  rw[List.map_nil]at w
  cases w
  exact .nil
 | cons n ns ih =>
  intro vs w
  rw[VY]at w
  cases w with
  | cons a b =>
   cases a
   exact .cons _ _ (ih _ b)
theorem Bd {l:OpenLaw}{n:Nat}(hn:l.most=some n) {P:Params}{h:Heap}{args:List WData}{vals:List Value}
  (hpre:l.row.toRowW.claim.pre args=true) (hwl:WellAll P h vals args) :
  ∃a vs ns,vals=[Value.ref a]/\args=[WData.list (ns.map WData.int)]/\h.get? a=some { cls:=.type "list",data:=.seq vs.toArray }/\IntsAre vs ns/\ns.length<=n:=by
 have hsh:WShape.hasAll [] args [.list .int]=true:=(pre_splitW hpre).1
 have hc:l.pre.holds [] { args:=args } = true:=(pre_splitW hpre).2
 obtain⟨d,r,rfl,h1,h2⟩:=hasAllW_cons hsh
 obtain rfl:=hasAllW_nil h2
 obtain⟨xs,rfl,h3⟩:=hasW_list h1
 obtain⟨ns,rfl⟩:=items_int h3
 have hlen:ns.length<=n:=by
  unfold OpenLaw.pre at hc
  have h4:(WTm.not (.lt (.lit (.int (n:Int))) (.len (.arg 0)))).holds [] { args:=[.list (ns.map .int)] } = true:=by
   have h4:=(holds_andW hc).1
   rw[hn]at h4
   exact h4
  have h5:=condW_of h4 (w_not (w_lt w_lit (w_len_list (w_arg rfl))))
  rw[Vi]at h5
  refine Nat.le_of_not_lt fun q=>?_
  have q':(n:Int) <((ns.length:Nat):Int):=by omega
  first
   | (rw[VX q']at h5;exact absurd h5 (by decide))
   | (simp at h5;omega)
 cases hwl with
 | cons w1 w2 =>
  cases w2
  cases w1 with
  | list ho hall=>exact⟨_,_,ns,rfl,rfl,ho,oE ns _ hall,hlen⟩
theorem A5 (l:OpenLaw) (args:List WData):l.row.toRowW.claim.post args (.bool true) args=true :=
 postW_of (r:=l.row.toRowW) (X:=(true == true))
  (show WShape.has [] (.bool true) .bool=true by first|rfl|decide|simp[WShape.has,WShape.arms,WShape.armsAll])
  (show(WTm.eq .res (.lit (.bool true))).value [] { args:=args,res:=some (.bool true),after:=args } = some (.bool (true == true)) from w_eq_bool (w_res rfl) w_lit) rfl
theorem attach_call {l:OpenLaw}{n:Nat}{q:Program}{loose:List Str}{XP:(Str->Option Value)->Heap->Prop}{YP:World->Heap->Prop}{d:DefRec}
  (hn:l.most=some n) (hdf:d.params.defaults=[])
  (call:∀(w:World) (s₀ s₁:Shared) (mg mb:Str->Option Value) (fa:Addr) (o:Obj) (pm cd doc:Value) (a:Addr) (vs:List Value) (ns:List Int),
   Ground q loose [] XP w s₀ mg mb s₁.heap->YP w s₁.heap ->
   s₁.heap.get? fa=some o->o.data = .func (docDef d.name d.params d.body d.scope pm cd doc)->s₁.heap.CodeRec cd d.name->mg d.name=some (.ref fa) ->
   s₁.heap.get? a=some { cls:=.type "list",data:=.seq vs.toArray }->IntsAre vs ns->ns.length<=n->s₁.gens = #[] ->
   codeAny (model l.prog w) callerA (.call (.ref fa) ⟨[.ref a],[]⟩) (fun r s'=>r = .ok (.ret (.bool true))/\OldK s₁.heap s'.heap/\s'.os=s₁.os/\AllBare s'.gens) s₁) :
  WalkO q loose XP YP l.row.toRowW d [] (fun f vs=>PySem.call f vs):=by
 intro w s₀ s₁ mg mb G Y fa o pm cd doc dV kV ho hd hcd hD hmg hg args vals as hpre hlay hrd hwl hlo
 obtain rfl:dV = .none:=Dflts.none hD hdf
 obtain rfl:kV = .none:=Dflts.noKw hD
 obtain⟨a,vs,ns,rfl,rfl,hobj,hints,hlen⟩:=Bd hn hpre hwl
 refine enter_call (codeAny_mono (call w s₀ s₁ mg mb fa o pm cd doc a vs ns G Y ho (fd_plain hd) hcd hmg hobj hints hlen hg) fun r s' hq=>?_)
 obtain⟨rfl,h2,h3,h4⟩:=hq
 exact⟨.inl ⟨.bool true,.bool true,[],rfl,fun _=>rfl,.bool true,A5 l _,fun _=>⟨List.Pairwise.nil,fun _ hm=>(nomatch hm)⟩⟩,h2,h3,h4⟩
end Att
namespace L2
open PySem PySem.Spec PyProof.Rows
theorem nj:∀{vs:List Value}{ns:List Int},IntsAre vs ns->Vals (ns.map V.int) vs
 | _,_,.nil=>.nil
 | _,_,.cons n t h=>.cons ⟨t,rfl⟩ (nj h)
def Iw (H:Hp):Prop:=∀b,H b=none \/ ∃o xs,H b=some (.frz o (.lst xs))
theorem DM {P:Program}{w:World}{K:W.Frag}{mg mb:Str->Option Value}{CX:Eu}{k:Nat}{fa a:Addr}{fd:FuncData}{x:Str}{sp:Sp}{s₁:Shared}{vs:List Value}{ns:List Int}
  (KX:K.In s₁.heap) (hns:s₁.heap.Ns mainGlobals mg) (hb:s₁.heap.Ns builtinsNs mb) (hbb:∀x:Str,x ≠ "__name__"->mb x=bootBuiltins x) (hlim:s₁.heap.NoLimit) (hg:s₁.gens = #[])
  (ha:s₁.heap.get? a=some { cls:=.type "list",data:=.seq vs.toArray }) (hi:IntsAre vs ns) (hl:ns.length<=sizeLine) (hr:gM k callerA)
  (F:∀base:Heap,K.In base->base.Ns mainGlobals mg->rZ P w K mg base CX k fa fd [x] sp) (hbind:∀(s:Shared) (u:Value),BindsTo s fd ⟨[u],[]⟩ [(x,u)])
  (hsp:∀H:Hp,Iw H->aU K H a (ns.map V.int)->sp [.ref a] H (fun v _=>v = .bl true) fun _ _ _=>False)
  (hCX:∀H e s',CX [] H s₁ (fun _ _ _=>False) e s'->False) :
  codeAny (model P w) callerA (.call (.ref fa) ⟨[.ref a],[]⟩) (fun r s'=>r = .ok (.ret (.bool true))/\OldK s₁.heap s'.heap/\s'.os=s₁.os/\AllBare s'.gens) s₁:=by
 have rv:=nj hi
 have lenV:=hi.length
 have core:∀H:Hp,Iw H->aU K H a (ns.map V.int)->mR P w H s₁.heap->(∀b,H b≠none->b=a)->(H a≠none->K.lookup a=none) ->
   codeAny (model P w) callerA (.call (.ref fa) ⟨[.ref a],[]⟩) (fun r s'=>r = .ok (.ret (.bool true))/\OldK s₁.heap s'.heap/\s'.os=s₁.os/\AllBare s'.gens) s₁:=by
  intro H hO hS hok hA hK
  have base_of:∀{b:Addr}{o:Obj},s₁.heap.get? b=some o->H b=none->(vd s₁.heap H).get? b=some o:=fun e n=>Cz e n
  have noA:∀{b:Addr}{o:Obj}{es:Array DictEntry}{ep:Nat},s₁.heap.get? b=some o->o.data = .dict es ep->H b=none:=fun {b o es ep} e d=>by
   cases q:H b with
   | none=>rfl
   | some u =>
    have e':b=a:=hA b (by rw[q];simp)
    subst e'
    rw[ha]at e;cases e
    have d':Data.seq vs.toArray _=Data.dict es ep:=d
    cases d'
  have nsK:∀{b:Addr}{m:Str->Option Value},s₁.heap.Ns b m->(vd s₁.heap H).Ns b m:=fun {b m} ⟨o,es,ep,e,d,r⟩=>⟨o,es,ep,base_of e (noA e d),d,r⟩
  have hKb:K.In (vd s₁.heap H):=fun b o e=>base_of (KX b o e) (by
   cases q:H b with
   | none=>rfl
   | some u =>
    have e':b=a:=hA b (by rw[q];simp)
    subst e'
    rw[hK (by rw[q];simp)]at e;cases e)
  have hM:Mod K mg (vd s₁.heap H):=⟨hKb,nsK hns,⟨mb,nsK hb,hbb⟩,let ⟨mc,h1,h2⟩:=hlim;⟨mc,nsK h1,h2⟩⟩
  have e0:Fc P w K mg (vd s₁.heap H) callerA [] s₁ H:=⟨rfl,hM,fun b o e=>EY e,Nat.le_of_eq (Bh _ _),trivial,fun b hb=>absurd (show b∈([]:List Addr) from hb) (by simp),hok,.of_eq hg⟩
  refine codeAny_mono ((F _ hKb (nsK hns)).run callerA [] s₁ H ⟨[.ref a],[]⟩ [.ref a] [.ref a] _ _ hr e0 (hbind s₁ (.ref a)) (.cons rfl .nil) (hsp H hO hS)) fun r s' h=>?_
  cases r with
  | error e=>exact(hCX H e s' h).elim
  | ok fl =>
   cases fl with
   | next=>exact False.elim h
   | brk=>exact False.elim h
   | cont=>exact False.elim h
   | ret u =>
    obtain⟨v,H',os,bare,un,hok',r',q⟩:=h
    have q':v = .bl true:=q
    subst q'
    obtain rfl:u=Value.bool true:=r'
    refine⟨rfl,OldK.of_keep fun b o e=>?_,os,bare⟩
    cases q:H b with
    | none=>exact un.keep b o e q (by intro z;exact absurd (show b∈([]:List Addr) from z) (by simp)) (by simp)
    | some u =>
     rcases hO b with z|⟨ob,xs,z⟩
     ·rw[q]at z;cases z
     ·have z2:=un.frzs b ob _ z
      obtain⟨e1,_⟩:=hok b _ z
      obtain⟨e2,_⟩:=hok' b _ z2
      rw[e]at e1;cases e1
      exact e2
 cases hk:K.lookup a with
 | some o =>
  have e:=KX a o hk
  rw[ha]at e
  cases e
  refine core (fun _=>none) (fun _=>.inl rfl) (.inr ⟨_,vs.toArray,_,hk,rfl,rfl,rfl,by rw[VJ,lenV];exact hl,by simpa using rv⟩) (fun b u z=>by have z':(none:Option HO)=some u:=z;cases z') (fun b z=>absurd rfl z) fun z=>absurd rfl z
 | none =>
  refine core (fun b=>if b=a then some (.frz { cls:=.type "list",data:=.seq vs.toArray } (.lst (ns.map V.int))) else none) (fun b=>?_) (.inl (.inr ⟨{ cls:=.type "list",data:=.seq vs.toArray },VB rfl⟩)) (fun b u z=>?_) (fun b z=>?_) fun _=>hk
  ·by_cases hb:b=a
   ·exact .inr ⟨_,_,VB hb⟩
   ·exact .inl (VF hb)
  ·by_cases hb:b=a
   ·have z':=(VB hb).symm.trans z
    cases z'
    subst hb
    exact⟨ha,by rw[Vi];exact hl,vs,_,rv,ha⟩
   ·have z':=(VF hb).symm.trans z
    cases z'
  ·by_cases hb:b=a
   ·exact hb
   ·exact absurd (VF hb) z
theorem FQ {l:PySem.W.OpenLaw}{n k:Nat}{q:Program}{loose:List Str}{XP:(Str->Option Value)->Heap->Prop}{YP:World->Heap->Prop}{d:DefRec}{K:Params->W.Frag}{CX:World->Eu}{sp:World->Sp}{x:Str}
  (hn:l.most=some n) (hn2:n<=sizeLine) (hdf:d.params.defaults=[]) (hr:gM k callerA)
  (hY:∀(w:World) (h:Heap),YP w h->(K w.params).In h)
  (F:∀(w:World) (mg:Str->Option Value) (fa:Addr) (h:Heap),(K w.params).In h->h.Ns mainGlobals mg->mg d.name=some (.ref fa) ->
   ∃fd:FuncData,(∀(s:Shared) (u:Value),BindsTo s fd ⟨[u],[]⟩ [(x,u)]) /\
    ∀base:Heap,(K w.params).In base->base.Ns mainGlobals mg->rZ l.prog w (K w.params) mg base (CX w) k fa fd [x] (sp w))
  (hsp:∀(w:World) (H:Hp) (a:Addr) (ns:List Int),ns.length<=n->Iw H->aU (K w.params) H a (ns.map V.int)->sp w [.ref a] H (fun v _=>v = .bl true) fun _ _ _=>False)
  (hCX:∀(w:World) (H:Hp) (s:Shared) (e:Value) (s':Shared),CX w [] H s (fun _ _ _=>False) e s'->False) :
  PySem.W.WalkO q loose XP YP l.row.toRowW d [] (fun f vs=>PySem.call f vs):=by
 refine Att.attach_call hn hdf fun w s₀ s₁ mg mb fa o pm cd doc a vs ns G Y ho hd hcd hmg hobj hints hlen hg=>?_
 have KX:=hY w _ Y
 obtain⟨fd,hb,hF⟩:=F w mg fa _ KX G.T.g hmg
 exact DM KX G.T.g G.T.b G.T.builtins G.T.nolimit hg hobj hints (Vv hlen hn2) hr hF hb (fun H hO hS=>hsp w H a ns hlen hO hS) fun H e s'=>hCX w H s₁ e s'
def fH (s:Stmt):Arguments:=match s with
 | .FunctionDef _ a _ _ _ _ _ _ _ _=>a
 | _=>{ posonlyargs:=[],args:=[],vararg:=none,kwonlyargs:=[],kw_defaults:=[],kwarg:=none,defaults:=[] }
def d7 (s:Stmt):List Stmt:=match s with
 | .FunctionDef _ _ b _ _ _ _ _ _ _=>b
 | _=>[]
def av (s:Stmt):Scope:=match s with
 | .FunctionDef _ _ _ _ _ _ sc _ _ _=>sc
 | _=>{ kind:=.function,names:=[],isGenerator:=false,isCoroutine:=false }
abbrev E8:Eu:=fun _ _ _ _ _ _=>False
abbrev E0:XK:=fun _ _ _=>False
theorem Pe {X:Cx}:Passes E8 X E0:=fun _ _ _ _ _ _ _ h=>h.elim
structure eO (K:W.Frag) (x qual:Str) (st:Stmt) (f:Addr) (fd:FuncData):Prop where
 ex:∃(oc:Value) (od:Option Addr) (kV doc pm:Value) (an:Option Addr) (cdv ct:Value) (osl:Array (Option Value)),
  fd=W.fnOf x qual (fH st) (d7 st) (av st) .none kV doc pm an cdv ct/\K.lookup f=some ⟨oc,od,.func fd,osl⟩/\W.codeIn K cdv qual=true
 kp:W.keepIn K (.ref f)=true
section
variable {P:Program}{w:World}{K:W.Frag}{mg:Str->Option Value}{base:Heap}
theorem eO.ok {x qual:Str}{st:Stmt}{f:Addr}{fd:FuncData}{N ps:List Str}{k:Nat}{sp:Sp}(F:eO K x qual st f fd) (S:aK N ps (av st)) (len:∀vs H Q E,sp vs H Q E->vs.length=ps.length)
  (hbody:∀(cdv:Value) (A:Around) (outer:List Env) (s:Shared) (H:Hp) (vs:List V) (Q:VK) (E:XK),gM k (A.deeper (envOfC qual (av st) s.heap.objs.size f cdv))->sp vs H Q E ->
   ∃t,AL (yU E8 P w K mg base N qual (av st) f cdv A outer s H E).nox (d7 st) t/\t { nx:=fun _ H'=>Q .non H',rt:=Q } (start N vs) H):rZ P w K mg base E8 (k+1) f fd ps sp:=by
 obtain⟨oc,od,kV,doc,pm,an,cdv,ct,osl,rfl,lk,hcd⟩:=F.ex
 refine MX lk hcd S len fun A outer s H vs Q E hr hsp=>?_
 obtain⟨t,h,q⟩:=hbody cdv A outer s H vs Q E hr hsp
 exact⟨t,h.nox,q⟩
theorem eO.binds {x qual:Str}{st:Stmt}{f:Addr}{fd:FuncData}{ps:List Str}(F:eO K x qual st f fd)
  (h:∀(kV doc pm:Value) (an:Option Addr) (cdv ct:Value) (us:List Value),us.length=ps.length->bindArgs (W.fnOf x qual (fH st) (d7 st) (av st) .none kV doc pm an cdv ct) ⟨us,[]⟩=pure (ps.zip us)):Binds K fd ps []:=by
 obtain⟨oc,od,kV,doc,pm,an,cdv,ct,osl,rfl,lk,hcd⟩:=F.ex
 exact .all (h kV doc pm an cdv ct)
theorem Eb {x qual:Str}{st:Stmt}{f:Addr}{oc:Value}{od an:Option Addr}{osl:Array (Option Value)}{kV doc pm cdv ct:Value}(l:K.lookup f=some ⟨oc,od,.func (W.fnOf x qual (fH st) (d7 st) (av st) .none kV doc pm an cdv ct),osl⟩)
  (c:W.codeIn K cdv qual=true) (k:W.keepIn K (.ref f)=true):eO K x qual st f (W.fnOf x qual (fH st) (d7 st) (av st) .none kV doc pm an cdv ct):=⟨⟨oc,od,kV,doc,pm,an,cdv,ct,osl,rfl,l,c⟩,k⟩
end
theorem Hx {A:Around}{k:Nat}(hr:gM k A):A.units+1<cLine:=WN (Nat.add_le_add_left (by decide:1<=64) _) hr.units
theorem aR {n:Nat}(h:n<=1000):n<sizeLine:=WN h (by decide)
section
variable {X:Cx}
theorem pv (i:Nat) {x:Str}{pos:Pos}(hN:X.N[i]? = some x:=by rfl) (hv:PZ X.env.scope x:=by first|exact Or.inl rfl|exact Or.inr (Or.inl rfl)|exact Or.inr (Or.inr rfl)) (hd:(x ==("__debug__" : Str))=false:=by decide)
  (hcd:(x ==("__classdict__" : Str))=false:=by decide):PE X (.Name x pos) (Kl i):=Jz hN hv hd hcd
end
theorem NQ {A B:Prop}(h:B):if false=true then A else B:=by
 rw[VF VI]
 exact h
theorem Qh {A B:Prop}(h:A):if true=true then A else B:=by
 rw[VB rfl]
 exact h
def aD (H H':Hp):Prop:=∀b o,H b=some o->H' b=some o
theorem aD.refl (H:Hp):aD H H:=fun _ _ h=>h
theorem aD.trans {H H1 H2:Hp}(a:aD H H1) (b:aD H1 H2):aD H H2:=fun c o h=>b c o (a c o h)
theorem aD.free {H H':Hp}(e:aD H H') {l:Addr}(h:H' l=Option.none):H l=Option.none:=by
 cases q:H l with
 | none=>rfl
 | some o =>
  rw[e l o q]at h
  cases h
theorem aD.seq {K:W.Frag}{H H':Hp}{a:Addr}{xs:List V}(e:aD H H') (h:aU K H a xs):aU K H' a xs:=by
 rcases h with(h|⟨o,h⟩)|h
 ·exact .inl (.inl (e _ _ h))
 ·exact .inl (.inr ⟨o,e _ _ h⟩)
 ·exact .inr h
def gU (env:Env):List (Str×NameKind)->List (Str×Addr)->List (Str×Addr)
 | [],cs=>cs
 | (n,k)::r,cs=>gU env r (if k == .free then(n,(env.cells.lookup n).getD 0)::cs else cs)
def jA (env:Env) (x:Str×NameKind) (s:List (Str×Addr)):Sem (ForInStep (List (Str×Addr))):=if (x.2 == NameKind.free)=true then cellOf env x.1 >>= fun c=>pure (ForInStep.yield ((x.1,c)::s)) else pure (ForInStep.yield s)
theorem lO {env:Env}:∀{ns:List (Str×NameKind)}(cs:List (Str×Addr)),(∀y∈ns,y.2 = .free->∃c,env.cells.lookup y.1=some c)->(forIn ns cs (jA env):Sem (List (Str×Addr)))=pure (gU env ns cs)
 | [],cs,_=>rfl
 | (n,k)::r,cs,h=>by
  rw[List.forIn_cons]
  have hr:∀y∈r,y.2 = .free->∃c,env.cells.lookup y.1=some c:=fun z hz=>h z (Vr _ hz)
  cases hk:(k == NameKind.free) with
  | false =>
   have e1:jA env (n,k) cs=pure (ForInStep.yield cs):=by
    unfold jA
    exact VF (by rw[show(n,k).2=k from rfl,hk];decide)
   rw[e1,pure_bind]
   show forIn r cs (jA env)=_
   rw[lO cs hr]
   show pure (gU env r cs)=pure (gU env r (if (k == NameKind.free)=true then(n,(List.lookup n env.cells).getD 0)::cs else cs))
   rw[hk]
   rfl
  | true =>
   have hk':k = .free:=by simpa using hk
   obtain⟨c,hc⟩:=h (n,k) Vy hk'
   have hc':env.cells.lookup n=some c:=hc
   have q:cellOf env n=pure c:=by unfold cellOf;rw[hc']
   have e1:jA env (n,k) cs=pure (ForInStep.yield ((n,c)::cs)):=by
    unfold jA
    rw[VB (by rw[show(n,k).2=k from rfl,hk]),show(n,k).1=n from rfl,q,pure_bind]
   rw[e1,pure_bind]
   show forIn r ((n,c)::cs) (jA env)=_
   rw[lO _ hr]
   show pure (gU env r ((n,c)::cs))=pure (gU env r (if (k == NameKind.free)=true then(n,(List.lookup n env.cells).getD 0)::cs else cs))
   rw[hk,hc']
   rfl
theorem ly {scope:Scope}{env:Env}(h:∀y∈scope.names,y.2 = .free->∃c,env.cells.lookup y.1=some c):closureFor scope env=pure (gU env scope.names []):=by
 show(forIn scope.names ([]:List (Str×Addr)) (jA env) >>= fun s=>(pure s:Sem (List (Str×Addr))))=_
 rw[lO [] h,pure_bind]
theorem qC {env:Env}{n:Str}{c:Addr}:∀{ns:List (Str×NameKind)}{cs:List (Str×Addr)},(∀y∈ns,y.2 = .free->∃c,env.cells.lookup y.1=some c)->(∀p∈cs,env.cells.lookup p.1=some p.2)->(gU env ns cs).lookup n=some c->env.cells.lookup n=some c
 | [],cs,_,hc,h=>hc _ (WL h)
 | (m,k)::r,cs,hn,hc,h=>by
  unfold gU at h
  refine qC (fun y hy=>hn y (Vr _ hy)) ?_ h
  intro p hp
  split at hp
  ·rename_i hk
   have hk':k = .free:=by simpa using hk
   obtain⟨c',hc'⟩:=hn (m,k) Vy hk'
   have hc2:env.cells.lookup m=some c':=hc'
   rw[hc2]at hp
   rcases VW.mp hp with rfl|hp
   ·exact hc2
   ·exact hc p hp
  ·exact hc p hp
theorem e_ {n:Str}:∀{cs:List (Str×Addr)},(∃c,(n,c)∈cs)->∃c,cs.lookup n=some c
 | [],⟨_,h⟩=>absurd h (by simp)
 | (m,d)::r,⟨c,h⟩=>by
  rw[Wv]
  by_cases e:n=m
  ·subst e;exact⟨d,by simp⟩
  ·have:(n == m)=false:=Xe.mpr e
   rw[this]
   rcases VW.mp h with z|z
   ·cases z;exact absurd rfl e
   ·exact e_ ⟨c,z⟩
theorem o_ {env:Env}{p:Str×Addr}:∀{ns:List (Str×NameKind)}{cs:List (Str×Addr)},p∈cs->p∈gU env ns cs
 | [],_,h=>h
 | (m,k)::r,cs,h=>by
  unfold gU
  refine o_ ?_
  split
  ·exact Vr _ h
  ·exact h
theorem qW {env:Env}{n:Str}:∀{ns:List (Str×NameKind)}{cs:List (Str×Addr)},(n,NameKind.free)∈ns->∃c,(n,c)∈gU env ns cs
 | [],_,h=>absurd h (by simp)
 | (m,k)::r,cs,h=>by
  unfold gU
  rcases VW.mp h with z|z
  ·cases z
   exact⟨(env.cells.lookup n).getD 0,o_ (by simp)⟩
  ·exact qW z
def bu (X:Cx) (scope:Scope) (N:List Str) (C:Addr) (s:Shared) (H:Hp) (ex:List Addr):Cx :=
 { X with N:=N,s₀:=s,H₀:=H,env:=compEnvC scope (gU X.env scope.names []) C X.env,outer:=X.stack,ex:=ex,fn:=fun _=>false,pn:=[],xe:=fun _ _=>False }
structure nP (X:Cx) (scope:Scope) (vs fs:List Str) (js:List Nat):Prop where
 kind:scope.kind = .function
 cell:∀y∈scope.names,y.2 ≠ .cell
 names:∀y∈scope.names,y.2 = .local->scope.names.lookup y.1=some .local
 free:∀y∈scope.names,y.2 = .free->X.env.kindOf y.1=some .cell\/X.env.kindOf y.1=some .free
 own:∀y∈vs,scope.names.lookup y=some .local
 cap:∀y∈fs,scope.names.lookup y=some .free
 ix:js.map (fun j=>X.N[j]?)=fs.map some
def jB (vs:List Str) (js:List Nat) (σ:St):St:=vs.map (fun _=>none)++js.map (fun j=>(σ[j]?).join)
theorem kD {env:Env}{names:List (Str×NameKind)}{x:Str}(h:names.lookup x=some .free) :
  (names.map fun(n,k)=>if (k == NameKind.free && env.scope.kind == .function && env.kindOf n == some .cell) then(n,NameKind.cell) else(n,k)).lookup x=some .cell \/
  (names.map fun(n,k)=>if (k == NameKind.free && env.scope.kind == .function && env.kindOf n == some .cell) then(n,NameKind.cell) else(n,k)).lookup x=some .free:=by
 induction names with
 | nil=>cases h
 | cons y r ih =>
  obtain⟨n,k⟩:=y
  rw[VY]
  show List.lookup x ((if (k == NameKind.free && env.scope.kind == .function && env.kindOf n == some .cell)=true then(n,NameKind.cell) else(n,k))::_)=_\/List.lookup x ((if (k == NameKind.free && env.scope.kind == .function && env.kindOf n == some .cell)=true then(n,NameKind.cell) else(n,k))::_)=_
  rw[Wv]at h
  cases e:x == n with
  | true =>
   rw[e]at h
   have h':k = .free:=by simpa using h
   subst h'
   split
   ·left;rw[Wv,e]
   ·right;rw[Wv,e]
  | false =>
   rw[e]at h
   have h':=ih h
   split
   ·rw[Wv,e];exact h'
   ·rw[Wv,e];exact h'
theorem lV {env:Env}{names:List (Str×NameKind)}{x:Str}{kk:NameKind}
  (h:(names.map fun(n,k)=>if (k == NameKind.free && env.scope.kind == .function && env.kindOf n == some .cell) then(n,NameKind.cell) else(n,k)).lookup x=some kk) :
  (kk = .cell/\(x,NameKind.free)∈names) \/(x,kk)∈names:=by
 induction names with
 | nil=>cases h
 | cons y r ih =>
  obtain⟨n,k⟩:=y
  rw[VY]at h
  have h2:List.lookup x ((if (k == NameKind.free && env.scope.kind == .function && env.kindOf n == some .cell)=true then(n,NameKind.cell) else(n,k))::(r.map fun(n,k)=>if (k == NameKind.free && env.scope.kind == .function && env.kindOf n == some .cell) then(n,NameKind.cell) else(n,k)))=some kk:=h
  cases e:x == n with
  | true =>
   have e':x=n:=by simpa using e
   subst e'
   split at h2
   ·rename_i hc
    rw[Wv,e]at h2
    have h3:kk = .cell:=by simpa using h2.symm
    have hk:k = .free:=by
     have:=(Xg _ _ ▸ hc).1
     have:=(Xg _ _ ▸ this).1
     simpa using this
    subst hk
    exact .inl ⟨h3,Vy⟩
   ·rw[Wv,e]at h2
    have h3:kk=k:=by simpa using h2.symm
    subst h3
    exact .inr Vy
  | false =>
   have h3:(r.map fun(n,k)=>if (k == NameKind.free && env.scope.kind == .function && env.kindOf n == some .cell) then(n,NameKind.cell) else(n,k)).lookup x=some kk:=by
    split at h2
    ·rw[Wv,e]at h2;exact h2
    ·rw[Wv,e]at h2;exact h2
   rcases ih h3 with⟨a,b⟩|b
   ·exact .inl ⟨a,Vr _ b⟩
   ·exact .inr (Vr _ b)
section
variable {prog:Program}{w:World}{A:Around}{R:Result->Shared->Prop}{s:Shared}
theorem jO {elt target iter:Expr}{ifs:List Expr}{scope:Scope}{pos:Pos}{it acc:Value}{env:Env}(I:Nat->Shared->Prop)
  (turn:∀n s,I n s->wpAny (model prog w) A (pyNext it) (fun r s₁=>match r with
   | none=>R (.ok .next) s₁
   | some v=>wpAny (model prog w) A (letOwnedTupleGo target it v) (fun _ s₁'=>wpAny (model prog w) A (assign target env v) (fun _ s₂ =>
     wpAny (model prog w) A (forIn ifs true fun c r=>if r=true then do let ok <- isTrue c env (eval c env);pure (ForInStep.yield ok) else pure (ForInStep.yield r)) (fun ok s₃ =>
      if ok=true then wpAny (model prog w) A (eval elt env) (fun x s₄ =>
       wpAny (model prog w) A (call (.builtin "list.append") [acc,x]) (fun _ s₅=>∃m,m<n/\I m s₅) (fun _ _=>False) s₄) (fun _ _=>False) s₃
      else ∃m,m<n/\I m s₃) (fun _ _=>False) s₂) (fun _ _=>False) s₁') (fun _ _=>False) s₁) (fun _ _=>False) s)
  (n:Nat) (h:I n s) :
  codeAny (model prog w) A (.compLoop (.ListComp elt [⟨target,iter,ifs,0⟩] scope pos) 0 it acc env) R s:=by
 refine codeAny_loop rfl I (fun n s hI=>?_) n h
 show wpAny _ A ((compTurn (.ListComp elt [⟨target,iter,ifs,0⟩] scope pos) 0 it acc env).onRaise (fun x=>do noteFrame x env;theTreesLotGoes x)) _ _ s
 refine wpAny_noted ?_
 rw[compTurn_list]
 refine Vl (Xc (Vl (Wc (turn n s hI) (fun r s₁ h₁=>?_) fun _ _ h'=>h'.elim)))
 cases r with
 | none=>exact Vz h₁
 | some v =>
  refine Vl (Wc h₁ (fun _ s₁' h₁'=>?_) fun _ _ h'=>h'.elim)
  refine Vl (Wc h₁' (fun _ s₂ h₂=>Vl (Wc h₂ (fun ok s₃ h₃=>?_) fun _ _ h'=>h'.elim)) fun _ _ h'=>h'.elim)
  cases ok with
  | false=>exact Vz ⟨rfl,h₃⟩
  | true =>
   exact Vl (Vl (Wc h₃ (fun x s₄ h₄=>Vl (Wc h₄ (fun _ s₅ h₅=>Vz (Vz ⟨rfl,h₅⟩)) fun _ _ h'=>h'.elim)) fun _ _ h'=>h'.elim))
end
def uR (X:Cx) (ifs:List Expr) (t:TT):Prop :=
 ∀(pins:List (Addr×Obj)) (s:Shared) (σ:St) (H:Hp) (Q:Bool->Hp->Prop),Inv X pins σ H s->t σ H Q ->
  wpAny (model X.prog X.w) X.A (forIn ifs true fun c r=>if r=true then do let ok <- isTrue c X.env (eval c X.env);pure (ForInStep.yield ok) else pure (ForInStep.yield r)) (TP X pins σ Q) X.xe s
def NV:TT:=fun _ H Q=>Q true H
theorem fL {X:Cx}:uR X [] NV:=fun _ _ _ H _ I h=>wpAny_tests_nil ⟨H,I,h⟩
theorem Br {X:Cx}{c:Expr}{t:TT}(h:PT X c t):uR X [c] t:=fun pins s σ H Q I q=>wpAny_tests_one (h pins s σ H Q I q)
def tN (J:It) (vs:List Str) (js:List Nat) (σ:St) (g:TG) (tt:TT) (te:TE) (Q:VK) (D:Addr) (H1:Hp):Prop :=
 ∃W:Nat->Nat->St->List V->Hp->Prop,(∃m,W 0 m (jB vs js σ) [] (upd H1 D (.lst [])))/\∀i m σ' ys H',W i m σ' ys H' ->
  (J.stop i H'/\Q (.ref D) H') \/(J.go i H'/\∃N:St->List V->Hp->Prop,(∀σ2 zs H2,N σ2 zs H2->∃m',m'<m/\W (i+1) m' σ2 zs H2) /\
   ∀x H2,J.yld i H' x H2->g x σ' H2 fun σ3 H3=>tt σ3 H3 fun b H4=>if b=true then te σ3 H4 fun y H5=>H5 D=some (.lst ys)/\ys.length<sizeLine/\N σ3 (ys ++ [y]) (upd H5 D (.lst (ys ++ [y]))) else N σ3 ys H4)
def CY (vs:List Str) (js:List Nat) (wi:TI) (g:TG) (tt:TT) (te:TE):TE:=fun σ H Q=>wi σ H fun J H1=>∀D,H1 D=none->tN J vs js σ g tt te Q D H1
section
variable {X:Cx}{pins:List (Addr×Obj)}{σ:St}{H:Hp}{s:Shared}{scope:Scope}{vs fs:List Str}{js:List Nat}
theorem ux {fp:List Addr}{C D:Addr}{h₁:Heap}{tk:Nat}{m:Str->Option Value}(I:Inv X pins σ H s) (B:nP X scope vs fs js) (hf:∀b∈fp,jy X pins H b) (hfp:∀b∈fp,b<s.heap.objs.size)
  (hn:h₁.Ns C m) (hk:∀b o,s.heap.get? b=some o->h₁.get? b=some o) (hD:D=s.heap.objs.size) (hC:s.heap.objs.size<C)
  (hl:h₁.get? D=some { cls:=.type "list",data:=.seq ([]:List Value).toArray }) :
  Inv (bu X scope (vs++fs) C s H fp) [] (jB vs js σ) (upd H D (.lst [])) { s with heap:=h₁,toks:=tk }:=by
 have hasX:∀y∈scope.names,y.2 = .free->∃c,X.env.cells.lookup y.1=some c:=fun y hy hf=>I.ok.has y.1 (B.free y hy hf)
 have snd:∀{y:Str}{c:Addr},(gU X.env scope.names []).lookup y=some c->X.env.cells.lookup y=some c:=fun h=>qC hasX (fun p hp=>absurd hp (by simp)) h
 have clt:∀{y:Str}{c:Addr},X.env.cells.lookup y=some c->c<s.heap.objs.size:=fun {y c} h=>by
  obtain⟨v,o,ho,_⟩:=I.cell y c h
  exact VG ho
 have hfr:H D=none:=by rw[hD];exact I.hok.fresh (Vt _)
 have hfC:H C=none:=I.hok.fresh (WX hC)
 have nCD:C≠D:=by rw[hD];exact XE hC
 refine⟨⟨I.ok.mod,B.kind,I.ok.glob,I.ok.blt,WX hC,fun y z c h1 h2=>I.ok.inj y z c (snd h1) (snd h2),fun y hy=>?_,fun y c z _=>absurd (show false=true from z) VI,I.ok.hd,I.ok.frames,.inl rfl,fun b hb=>⟨?_,fun y c h=>(hf b hb).2.2.2.2.1 y c (snd h)⟩,I.bs,Vv I.ok.bsz I.sz,fun b o e hb=>?_,fun b hb z=>?_,I.stack,I.stkFree⟩,
  rfl,I.bare,Un.laid hk (Nat.le_of_eq hD.symm) hfr,⟨m,hn,fun i y v h1 h2 h3=>?_⟩,fun y c h=>?_,?_,fun y c h=>?_,fun p hp=>absurd (show p∈([]:List (Addr×Obj)) from hp) (by simp),I.hok.laid hk (Nat.le_of_eq hD.symm) ⟨by simp,[],0,.nil,hl⟩,?_⟩
 ·-- has
  have key:(y,NameKind.free)∈scope.names:=by
   rcases hy with hy|hy
   ·rcases lV hy with⟨_,z⟩|z
    ·exact z
    ·exact absurd rfl (B.cell _ z)
   ·rcases lV hy with⟨z,_⟩|z
    ·cases z
    ·exact z
  exact e_ (qW key)
 ·exact VN (Nat.lt_trans (hfp b hb) hC)
 ·rcases(hf b hb).2.2.2.1 with z|z
  ·exact I.ok.noex b o e z
  ·exact absurd (VT (VG e) (Vv I.ok.bsz z)) (Wz _)
 ·rcases VW.mp (I.stkSub b z) with e|e
  ·exact(hf b hb).2.1 e
  ·exact(hf b hb).2.2.1 e
 ·-- loc
  have hlen:js.length=fs.length:=by have:=Wf List.length B.ix;simpa using this
  have hi:¬ i<vs.length:=fun hi=>by
   unfold jB at h2
   rw[Vx (by simpa using hi),Vp]at h2
   cases e:vs[i]? with
   | none=>rw[e]at h2;cases h2
   | some a=>rw[e]at h2;cases h2
  have hi':vs.length<=i:=Nat.le_of_not_lt hi
  have h1':fs[i-vs.length]? = some y:=by
   have:=h1
   rw[show(bu X scope (vs++fs) C s H fp).N=vs++fs from rfl,Vs hi']at this
   exact this
  have h2':(js[i-vs.length]?).map (fun j=>(σ[j]?).join)=some (some v):=by
   unfold jB at h2
   rw[Vs (by simpa using hi'),Vi,Vp]at h2
   exact h2
  cases ej:js[i-vs.length]? with
  | none=>rw[ej]at h2';cases h2'
  | some j =>
   rw[ej]at h2'
   have hσ:σ[j]? = some (some v):=by
    have z:(σ[j]?).join=some v:=VC h2'
    cases q:σ[j]? with
    | none=>rw[q]at z;cases z
    | some o=>rw[q]at z;have z':o=some v:=z;rw[z']
   have hNj:X.N[j]? = some y:=by
    have q:=Wf (fun l=>l[i-vs.length]?) B.ix
    simp only[List.getElem?_map,ej,h1',Option.map_some]at q
    exact VC q
   have hcap:=B.cap y (Vk h1')
   have hmem:(y,NameKind.free)∈scope.names:=WL hcap
   have hkX:=B.free _ hmem rfl
   have vis:PZ X.env.scope y:=by
    rcases hkX with z|z
    ·exact .inr (.inl z)
    ·exact .inr (.inr z)
   obtain⟨m0,hn0,hl0⟩:=I.loc
   obtain⟨u,r,l⟩:=hl0 j y v hNj hσ vis
   refine⟨u,r,.inr ⟨kD hcap,?_⟩⟩
   rcases l with⟨z,_⟩|⟨_,c,hc,hcell⟩
   ·rcases hkX with q|q <;> (rw[q]at z;cases z)
   ·obtain⟨c',hc'⟩:=e_ (qW (env:=X.env) (cs:=[]) hmem)
    have e:=snd hc'
    rw[hc]at e
    cases e
    exact⟨c,hc',hcell.keeps hk⟩
 ·obtain⟨v,z⟩:=I.cell y c (snd h)
  exact⟨v,z.keeps hk⟩
 ·rw[show(bu X scope (vs++fs) C s H fp).env.locals=C from rfl,ao nCD]
  exact hfC
 ·have q:=snd h
  have ne:c≠D:=by rw[hD];exact VN (clt q)
  rw[ao ne]
  exact I.freeC y c q
 ·have hlen:js.length=fs.length:=by have:=Wf List.length B.ix;simpa using this
  show(vs.map _++js.map _).length =(vs++fs).length
  rw[Vm,Vm,Vi,Vi,hlen]
theorem Inv.goneC {H':Hp}{s':Shared}{C:Addr}{h'':Heap}(I2:Inv X pins σ H s) {σ':St}(I':Inv X pins σ' H' s') (hC:H' C=none) (hle:s.heap.objs.size<=C) (hs:Heap.SameBut C s'.heap h''):Inv X pins σ' H' { s' with heap:=h'' }:=by
 refine I'.turned (t':=s'.toks) (fun b o hb e=>(hs.2 b hb).trans e) hC (XE (VT I2.lt hle)) (.inr (Vv I2.sz hle)) (fun y c e z=>?_) fun p hp z=>?_
 ·obtain⟨v,o,ho,_⟩:=I2.cell y c e
  have:=VG ho
  rw[z]at this
  exact absurd (VT this hle) (Wz _)
 ·have:=VG (I2.pin p hp).1
  rw[z]at this
  exact absurd (VT this hle) (Wz _)
theorem AN {tg iter elt:Expr}{ifs:List Expr}{pos:Pos}{g:TG}{tt:TT}{te:TE}(hc:X.calm=true) (B:nP X scope vs fs js)
  (hg:∀C s H ex,PG (bu X scope (vs++fs) C s H ex) tg g) (ht:∀C s H ex,uR (bu X scope (vs++fs) C s H ex) ifs tt) (he:∀C s H ex,PE (bu X scope (vs++fs) C s H ex) elt te)
  {it:Addr}{fp:List Addr}{tn:Nat->Heap->Prop}{J:It}{Q:VK}{E:Value->Shared->Prop}(I2:Inv X pins σ H s) (T:Turn X.prog X.w X.K tg J fp it tn) (st2:tn 0 s.heap) (f2:∀b∈fp,jy X pins H b)
  (hW:∀D,H D=none->tN J vs js σ g tt te Q D H)
  {RR:Value->Addr->Result->Shared->Prop}
  (hR:∀D C H' s',Inv X pins σ H' s'->(∃m,s'.heap.Ns C m)->H' C=none->s.heap.objs.size<=C->Q (.ref D) H'->RR (.ref D) C (.ok .next) s') :
  wpAny (model X.prog X.w) X.A (newList []) (fun acc s₃=>wpAny (model X.prog X.w) X.A (newFunctionEnv scope X.env.globals (gU X.env scope.names []) [] X.env.qual none .none (some X.env)) (fun cenv s₄ =>
   codeAny (model X.prog X.w) X.A (.compStart (.ListComp elt [⟨tg,iter,ifs,0⟩] scope pos) 0 (.ref it) acc { cenv with scope:=relabel scope X.env }) (RR acc cenv.locals) s₄) E s₃) E s:=by
 have hfp:∀b∈fp,b<s.heap.objs.size:=fun b hb=>by
  obtain⟨o,e,_⟩:=T.obj _ _ st2 b hb
  exact VG e
 refine W7 (wpAny_newFunctionEnv B.cell (by intro y hy;simp at hy) (fun h₁ hns₁ hsb₁=>?_) B.kind)
 dsimp only at hns₁ hsb₁ ⊢
 generalize hH2:s.heap.push { cls:=.type "list",dict:=none,data:=.seq ([]:List Value).toArray } = HH at hns₁ hsb₁ ⊢
 have hC:HH.objs.size=s.heap.objs.size+1:=by rw[<- hH2,Heap.size_push]
 have hlt:s.heap.objs.size<HH.objs.size:=by rw[hC];exact XN _
 have old:∀b o,s.heap.get? b=some o->h₁.get? b=some o:=fun b o e=>hsb₁.extBut b o (VN (Nat.lt_trans (VG e) hlt)) (Vu _ (hH2 ▸ Vu _ e))
 have hacc:h₁.get? s.heap.objs.size=some { cls:=.type "list",data:=.seq ([]:List Value).toArray }:=hsb₁.extBut _ _ (VN hlt) (Vu _ (hH2 ▸ V0 _ rfl))
 have I0:Inv (bu X scope (vs++fs) HH.objs.size s H fp) [] (jB vs js σ) (upd H s.heap.objs.size (.lst [])) { s with heap:=h₁,toks:=s.toks+([]:List (Str×Value)).length }:=ux I2 B f2 hfp hns₁ old rfl hlt hacc
 obtain⟨W,⟨m0,w0⟩,turn⟩:=hW s.heap.objs.size (I2.hok.fresh (Vt _))
 have st1:tn 0 h₁:=T.keep _ _ _ st2 fun b hb o e=>old b o e
 have hch:∀b∈fp,(b∈X.ex\/X.s₀.heap.objs.size<=b)/\b≠X.env.locals/\(∀x c,X.env.cells.lookup x=some c->c≠b)/\∀p∈X.pn++pins,p.1≠b:=fun b hb=>by
  obtain⟨_,a2,_,a4,a5,a6⟩:=f2 b hb
  exact⟨a4,a2,a5,a6⟩
 have back:∀{pl:List (Addr×Obj)}{σ':St}{H':Hp}{s':Shared},Inv (bu X scope (vs++fs) HH.objs.size s H fp) pl σ' H' s'->Inv X pins σ H' s':=fun {pl σ' H' s'} J'=>I2.call' (ch:=fp) J'.os J'.base J'.hok J'.bare hch
 have nD:∀b∈fp,b≠s.heap.objs.size:=fun b hb=>VN (hfp b hb)
 have stat:∀{H':Hp},(∀b∈fp,H' b=none)->∀b∈fp,jy (bu X scope (vs++fs) HH.objs.size s H fp) [] H' b:=fun {H'} hn b hb=>by
  have z:=I0.ok
  refine⟨hn b hb,(z.exf b hb).1,z.exfs b hb,.inl hb,(z.exf b hb).2,fun p hp=>absurd (show p∈([]:List (Addr×Obj)) from hp) (by simp)⟩
 have loop:∀s₃:Shared,s₃ = { s with heap:=h₁,toks:=s.toks+([]:List (Str×Value)).length } ->
   codeAny (model X.prog X.w) X.A (.compLoop (.ListComp elt [⟨tg,iter,ifs,0⟩] scope pos) 0 (.ref it) (.ref s.heap.objs.size) (compEnvC scope (gU X.env scope.names []) HH.objs.size X.env)) (RR (.ref s.heap.objs.size) HH.objs.size) s₃:=by
  rintro s₃ rfl
  refine jO (fun n s'=>∃i σ' ys H',Inv (bu X scope (vs++fs) HH.objs.size s H fp) [] σ' H' s'/\tn i s'.heap/\(∀b∈fp,H' b=none)/\W i n σ' ys H') ?_ m0
   ⟨0,_,_,_,I0,st1,fun b hb=>by rw[ao (nD b hb)];exact(f2 b hb).1,w0⟩
  rintro n s3 ⟨i,σ3,ys,H3,I3,st3,fr3,w3⟩
  rcases turn i n σ3 ys H3 w3 with⟨stop,q⟩|⟨go,N,hN,step⟩
  ·refine cg (T.done (bu X scope (vs++fs) HH.objs.size s H fp) rfl rfl rfl hc i [] s3 σ3 H3 _ I3 (stat fr3) st3 stop) fun r s4 ⟨hr,I4⟩=>?_
   subst hr
   obtain⟨m,hm,_⟩:=I4.loc
   exact hR _ _ H3 s4 (back I4) ⟨m,hm⟩ I4.free (WX hlt) q
  ·refine cg (T.item (bu X scope (vs++fs) HH.objs.size s H fp) rfl rfl rfl hc i [] s3 σ3 H3 _ I3 (stat fr3) st3 go) fun r s4 ⟨u,hr,h4⟩=>?_
   subst hr
   refine cg h4 fun _ s5 ⟨x,H5,I5,r5,y5,st5,fr5⟩=>?_
   have I5':=I5.pinned (stat fr5) (T.obj _ _ st5)
   have again:∀{σ7:St}{H7:Hp}{s7:Shared}{zs:List V},Inv (bu X scope (vs++fs) HH.objs.size s H fp) ([]++gP fp s5.heap) σ7 H7 s7->N σ7 zs H7->∃m,m<n/\∃i σ' ys H',Inv (bu X scope (vs++fs) HH.objs.size s H fp) [] σ' H' s7/\tn i s7.heap/\(∀b∈fp,H' b=none)/\W i m σ' ys H':=fun {σ7 H7 s7 zs} I7 n7=>by
    obtain⟨m',hm,w7⟩:=hN σ7 zs H7 n7
    refine⟨m',hm,i+1,σ7,zs,H7,I7.unpinned,T.keep _ _ _ st5 fun b hb o e=>(I7.pin (b,o) (VD _ (VD _ (dU hb e)))).1,fun b hb=>?_,w7⟩
    obtain⟨o,e,d⟩:=T.obj _ _ st5 b hb
    exact(I7.pin (b,o) (VD _ (VD _ (dU hb e)))).2.1
   refine cg (hg _ _ _ _ _ s5 σ3 H5 x u _ I5' r5 (step x H5 y5)) fun _ s6 ⟨σ6,H6,I6,q6⟩=>?_
   refine cg (ht _ _ _ _ _ s6 σ6 H6 _ I6 q6) fun ok s7 ⟨H7,I7,q7⟩=>?_
   cases ok with
   | false =>
    rw[VF VI]at q7 ⊢
    exact again I7 q7
   | true =>
    rw[VB rfl]at q7 ⊢
    refine cg (he _ _ _ _ _ s7 σ6 H7 _ I7 q7) fun y s8 ⟨yv,H8,I8,r8,hD8,hz,n8⟩=>?_
    refine cg (bL _ s8 σ6 H8 (.ref s.heap.objs.size) [yv] (.ref s.heap.objs.size) [y] (fun _ H9=>N σ6 (ys ++ [yv]) H9) I8 rfl (.cons r8 .nil) ⟨_,ys,yv,rfl,rfl,hD8,hz,n8⟩) fun _ s9 ⟨_,H9,I9,_,n9⟩=>?_
    exact again I9 n9
 exact codeAny_compStart_list (loop _ rfl) (T.self X.A 0 _ _ _ st1 (loop _ rfl))
theorem cN {tg iter elt:Expr}{ifs:List Expr}{pos:Pos}{wi:TI}{g:TG}{tt:TT}{te:TE}(hc:X.calm=true) (B:nP X scope vs fs js) (hi:PI X tg iter wi)
  (hg:∀C s H ex,PG (bu X scope (vs++fs) C s H ex) tg g) (ht:∀C s H ex,uR (bu X scope (vs++fs) C s H ex) ifs tt) (he:∀C s H ex,PE (bu X scope (vs++fs) C s H ex) elt te)
  (hs:∀x,foldedSetIterable iter X.env x=pure x:=by intro _;rfl):PE X (.ListComp elt [⟨tg,iter,ifs,0⟩] scope pos) (CY vs js wi g tt te):=by
 intro pins s σ H Q I h
 rw[eval_ListComp]
 refine Xy (use:=none) rfl hs (ly fun y hy hf=>I.ok.has y.1 (B.free y hy hf)) B.kind B.names (cg (hi pins s σ H _ I h) fun v s1 h1=>cg h1 fun itv s2 h2=>?_)
 obtain⟨it,fp,tn,J,H2,e,I2,T,st2,f2,hW⟩:=h2
 subst e
 refine AN (RR:=fun acc C=>compPost (model X.prog X.w) X.A X.xe none (EP X pins σ Q) acc C) hc B hg ht he I2 T st2 f2 hW ?_
 intro D C H' s' I' hn hC hle q
 obtain⟨m,hn⟩:=hn
 exact⟨m,hn,fun h'' hs''=>⟨.ref D,H',I2.goneC I' hC hle hs'',rfl,q⟩⟩
theorem cU {i:Nat}{y:Str}{py spos:Pos}{tg iter elt:Expr}{ifs:List Expr}{pos:Pos}{wi:TI}{g:TG}{tt:TT}{te:TE}(hN:X.N.Nodup) (hi':X.N[i]? = some y) (hy:X.env.scope.names.lookup y=some .local) (hc:X.calm=true) (B:nP X scope vs fs js) (hi:PI X tg iter wi)
  (hg:∀C s H ex,PG (bu X scope (vs++fs) C s H ex) tg g) (ht:∀C s H ex,uR (bu X scope (vs++fs) C s H ex) ifs tt) (he:∀C s H ex,PE (bu X scope (vs++fs) C s H ex) elt te)
  (hsw:swapsWith (.ListComp elt [⟨tg,iter,ifs,0⟩] scope pos) (some (.Name y py)) spos.line X.env=pure true:=by rfl)
  (hs:∀x,foldedSetIterable iter X.env x=pure x:=by intro _;rfl):PS X (.Assign [.Name y py] (.ListComp elt [⟨tg,iter,ifs,0⟩] scope pos) spos) (GP (CY vs js wi g tt te) (v8 i)):=by
 intro pins s σ H D I h
 rw[exec_Assign_Name_used _ _ _ _ hsw]
 refine Vl (Xc (Vl ?_))
 show wpAny _ X.A (do let _ <- comprehension (.ListComp elt [⟨tg,iter,ifs,0⟩] scope pos) scope X.env _ (newList []) false (eval iter X.env) (some (assign (.Name y py) X.env))) _ _ s
 refine Vl (Wc (Xy (use:=some (assign (.Name y py) X.env)) (Q:=fun _ s'=>SP X pins D .next s') rfl hs (ly fun y hy hf=>I.ok.has y.1 (B.free y hy hf)) B.kind B.names
  (cg (hi pins s σ H _ I h) fun v s1 h1=>cg h1 fun itv s2 h2=>?_)) (fun _ s' hq=>Vz (Vz hq)) fun _ _ e=>e)
 obtain⟨it,fp,tn,J,H2,e,I2,T,st2,f2,hW⟩:=h2
 subst e
 refine AN (Q:=fun x H1=>v8 i x σ H1 D.nx) (RR:=fun acc C=>compPost (model X.prog X.w) X.A X.xe (some (assign (.Name y py) X.env)) (fun _ s'=>SP X pins D .next s') acc C) hc B hg ht he I2 T st2 f2 hW ?_
 intro D' C H' s' I' hn hC hle q
 obtain⟨m,hn⟩:=hn
 show wpAny _ X.A (assign (.Name y py) X.env (.ref D')) _ _ _
 refine wpAny_assign_Name (uq I' hN hi' (.inl hy) (v:=.ref D') rfl (fun s'' I'' hsb=>?_) (.inr hy))
 obtain⟨a,hsb,ha⟩:=hsb
 have nCa:C≠a:=by
  rcases ha with z|z
  ·rw[z];exact XE (VT I2.lt hle)
  ·obtain⟨v,o,ho,_⟩:=I2.cell y a z
   exact XE (VT (VG ho) hle)
 exact⟨m,hn.sameBut hsb nCa,fun h'' hs''=>⟨_,H',I2.goneC I'' hC hle hs'',q⟩⟩
end
section
variable {vs:List Str}{js:List Nat}{σ:St}{g:TG}{tt:TT}{te:TE}{Q:VK}
theorem gQ {lo:Int}{n:Nat}{H:Hp}(Pv:Nat->St->List V->Hp->Prop) (D:Addr) (h0:Pv 0 (jB vs js σ) [] (upd H D (.lst [])))
  (hs:∀i σ' ys H',i<n->Pv i σ' ys H'->g (.int (lo+i)) σ' H' fun σ3 H3=>tt σ3 H3 fun b H4=>if b=true then te σ3 H4 fun y H5=>H5 D=some (.lst ys)/\ys.length<sizeLine/\Pv (i+1) σ3 (ys ++ [y]) (upd H5 D (.lst (ys ++ [y]))) else Pv (i+1) σ3 ys H4)
  (hd:∀σ' ys H',Pv n σ' ys H'->Q (.ref D) H') :
  tN (Bm lo n) vs js σ g tt te Q D H:=by
 refine⟨fun i m σ' ys H'=>m=n-i/\i<=n/\Pv i σ' ys H',⟨n,by simp,VS _,h0⟩,?_⟩
 rintro i m σ' ys H' ⟨rfl,hi,p⟩
 by_cases hlt:i<n
 ·refine .inr ⟨hlt,Pv (i+1),fun σ2 zs H2 p'=>⟨n-(i+1),by omega,rfl,hlt,p'⟩,fun x H2 y=>?_⟩
  obtain⟨e,y⟩:=y
  subst e y
  exact hs i σ' ys _ hlt p
 ·have e:i=n:=by omega
  subst e
  exact .inl ⟨Vt _,hd σ' ys H' p⟩
theorem aY {K:W.Frag}{a:Addr}{xs:List V}{H:Hp}(Pv:Nat->St->List V->Hp->Prop) (D:Addr) (h0:Pv 0 (jB vs js σ) [] (upd H D (.lst []))) (hl:∀i σ' ys H',i<=xs.length->Pv i σ' ys H'->aU K H' a xs)
  (hs:∀i x σ' ys H',xs[i]? = some x->Pv i σ' ys H'->g x σ' H' fun σ3 H3=>tt σ3 H3 fun b H4=>if b=true then te σ3 H4 fun y H5=>H5 D=some (.lst ys)/\ys.length<sizeLine/\Pv (i+1) σ3 (ys ++ [y]) (upd H5 D (.lst (ys ++ [y]))) else Pv (i+1) σ3 ys H4)
  (hd:∀σ' ys H',Pv xs.length σ' ys H'->Q (.ref D) H') :
  tN (AG K a) vs js σ g tt te Q D H:=by
 refine⟨fun i m σ' ys H'=>m=xs.length-i/\i<=xs.length/\Pv i σ' ys H',⟨xs.length,by simp,VS _,h0⟩,?_⟩
 rintro i m σ' ys H' ⟨rfl,hi,p⟩
 have q:=hl i σ' ys H' hi p
 by_cases hlt:i<xs.length
 ·refine .inr ⟨⟨xs,xs[i],q,by simp[hlt]⟩,Pv (i+1),fun σ2 zs H2 p'=>⟨xs.length-(i+1),by omega,rfl,hlt,p'⟩,fun x H2 y=>?_⟩
  obtain⟨e,y⟩:=y
  subst e
  exact hs i x σ' ys _ (y xs q) p
 ·have e:i=xs.length:=by omega
  subst e
  exact .inl ⟨⟨xs,q,Vt _⟩,hd σ' ys H' p⟩
end
theorem cV:bootBuiltins "len" = some (.builtin "len"):=by z_go
theorem JF:bootBuiltins "abs" = some (.builtin "abs"):=by z_go
theorem B5:bootBuiltins "max" = some (.builtin "max"):=by z_go
theorem KN:bootBuiltins "min" = some (.builtin "min"):=by z_go
theorem Jq:bootBuiltins "all" = some (.builtin "all"):=by z_go
theorem kh:bootBuiltins "sorted" = some (.builtin "sorted"):=by z_go
theorem g_:bootBuiltins "list" = some (.type "list"):=by z_go
theorem Ae:bootBuiltins "dict" = some (.type "dict"):=by z_go
theorem CD:bootBuiltins "range" = some (.type "range"):=by z_go
theorem vP:bootBuiltins "enumerate" = some (.type "enumerate"):=by z_go
structure bw (P:Program) (w:World) (K:W.Frag) (mg:Str->Option Value) (base:Heap) (x:Str) (ps:List Str) (k:Nat) (sp:Sp):Prop where
 ex:∃(f:Addr) (fd:FuncData),rZ P w K mg base E8 k f fd ps sp/\Binds K fd ps []/\mg x=some (.ref f)/\W.keepIn K (.ref f)=true
section
variable {X:Cx}{x:Str}{ps:List Str}{k:Nat}{sp:Sp}{e:Expr}{es:List Expr}{t:TA}{p pos:Pos}
theorem bQ (C:bw X.prog X.w X.K X.mg X.base x ps k sp) (hr:gM k X.A) (ha:PA X (e::es) t) (hg:Gl X x:=by rfl) (hdb:(x ==("__debug__" : Str))=false:=by decide) (he:starEach (e::es) X.env =(false,eval e X.env)::starEach es X.env:=by rfl) (hpl:(backTo pos (starEach es X.env)).any (·.1)=false:=by rfl) :
  PE X (.Call (.Name x p) (e::es) [] pos) (CC sp [] E0 t):=by
 obtain⟨f,fd,F,hb,hm,hk⟩:=C.ex
 exact Fg F hr hg hm hk hb .nil Pe ha hdb he hpl
end
theorem bw.of {P:Program}{w:World}{K:W.Frag}{mg:Str->Option Value}{base:Heap}{x:Str}{st:Stmt}{f:Addr}{fd:FuncData}{N ps:List Str}{k:Nat}{sp:Sp}(F:eO K x x st f fd) (mF:mg x=some (.ref f)) (bF:Binds K fd ps []) (S:aK N ps (av st)) (len:∀vs H Q E,sp vs H Q E->vs.length=ps.length)
  (hbody:∀(cdv:Value) (A:Around) (outer:List Env) (s:Shared) (H:Hp) (vs:List V) (Q:VK) (E:XK),gM k (A.deeper (envOfC x (av st) s.heap.objs.size f cdv))->sp vs H Q E ->
   ∃t,AL (yU E8 P w K mg base N x (av st) f cdv A outer s H E).nox (d7 st) t/\t { nx:=fun _ H'=>Q .non H',rt:=Q } (start N vs) H):bw P w K mg base x ps (k+1) sp :=
 ⟨f,fd,F.ok S len hbody,bF,mF,F.kp⟩
def JO (sc scope:Scope) (N vs fs:List Str) (js:List Nat):Bool :=
 (scope.kind == .function) && scope.names.all (fun y=>y.2 != .cell) && scope.names.all (fun y=>y.2 != .local || scope.names.lookup y.1 == some .local) &&
 scope.names.all (fun y=>y.2 != .free || sc.names.lookup y.1 == some .cell || sc.names.lookup y.1 == some .free) && vs.all (fun y=>scope.names.lookup y == some .local) && fs.all (fun y=>scope.names.lookup y == some .free) &&
 (js.map (fun j=>N[j]?) == fs.map some)
theorem cF {X:Cx}{sc scope:Scope}{N vs fs:List Str}{js:List Nat}(h:JO sc scope N vs fs js=true) (hs:X.env.scope=sc) (hN:X.N=N):nP X scope vs fs js:=by
 unfold JO at h
 simp only[Bool.and_eq_true,List.all_eq_true,beq_iff_eq,bne_iff_ne,Bool.or_eq_true]at h
 obtain⟨⟨⟨⟨⟨⟨h1,h2⟩,h3⟩,h4⟩,h5⟩,h6⟩,h7⟩:=h
 refine⟨h1,h2,fun y hy hl=>?_,fun y hy hf=>?_,h5,h6,?_⟩
 ·rcases h3 y hy with z|z
  ·exact absurd hl z
  ·exact z
 ·unfold Env.kindOf
  rw[hs]
  rcases h4 y hy with(z|z)|z
  ·exact absurd hf z
  ·exact .inl z
  ·exact .inr z
 ·rw[hN];exact h7
def Q5 (t:TS):TS:=fun D σ H=>∃R:St->Hp->Prop,t { D with nx:=R } σ H/\∀σ' H',R σ' H'->D.nx σ' H'
theorem jt {X:Cx}{st:Stmt}{t:TS}(h:PS X st t):PS X st (Q5 t):=by
 intro pins s σ H D I hw
 obtain⟨R,h1,h2⟩:=hw
 refine cg (h pins s σ H _ I h1) fun f s' q=>?_
 cases f with
 | next =>
  obtain⟨σ',H',I',q⟩:=q
  exact⟨σ',H',I',h2 _ _ q⟩
 | brk=>exact q
 | cont=>exact q
 | ret u=>exact q
section
variable {X:Cx}
def Og (i j:Int):Prop:=0<j/\j<2^100
theorem jD:nq X (binaryOp .FloorDiv) (rI Og fun i j=>.int (i / j)):=Nl fun i j _ _ _ _ _ hc q=>by
 have h1:(0:Int)<j:=hc.1
 have h2:j<2^100:=hc.2
 refine floordiv_int (by omega) (by rw[Int.fdiv_eq_ediv_of_nonneg i (by omega)];exact q) (.inl (PyProof.noPylong_of_log2 ?_))
 have h0:j.natAbs≠0:=by omega
 have h3:j.natAbs.log2<100:=(Nat.log2_lt h0).mpr (by omega)
 omega
theorem gZ {a b c:Int}{j1 j2:Nat}{p1 p2 pos:Pos}(h:a^b.toNat=c) (h1:Ke a b):PE X (.BinOp (.Constant (.int a) j1 p1) .Pow (.Constant (.int b) j2 p2) pos) (tC (.int c)):=by
 intro pins s σ H Q I q
 subst h
 exact aO yC ay ay pins s σ H Q I ⟨a,b,rfl,rfl,h1,q⟩
theorem DH:OS X (GJ X.K):=by
 intro pins s σ H x y v u Q I rx ry h
 obtain⟨p,xs,i,z,rfl,rfl,hq,he,q⟩:=h
 cases rx
 obtain⟨t,rfl⟩:=ry
 obtain⟨its,r,pl,hz⟩:=I.list hq
 obtain⟨j,h1,h2,h3,h4,h5⟩:=oJ he
 obtain⟨w,ew,rw'⟩:=r.get h2
 have hl:=r.length
 have hn:=kZ
 have fin:EP X pins σ Q w s:=⟨z,H,I,rw',q⟩
 by_cases h0:0<=i
 ·have hj:i.toNat=j:=by
   rw[seqIndex_of h0 h5]at h1
   exact VC h1
  exact wpAny_getItem_list pl.isList h0 (by omega) (by rw[hj];simpa using ew) fin
 ·have hj:(i+(its.toArray.size:Int)).toNat=j:=by
   rw[seqIndex_neg (by omega) h4]at h1
   rw[VJ,<- hl]
   exact VC h1
  exact wpAny_getItem_list_neg pl.isList (by omega) (by rw[VJ] <;> omega) (by omega) (by rw[hj];simpa using ew) fin
def AJ:V->List V->Hp->VK->Prop:=fun x vs H Q=>∃i,x = .int i/\vs=[]/\Q (.int (Builtin.Int.intBits i:Nat)) H
theorem AY:N1 X "int.bit_length" AJ:=by
 intro pins s σ H x xs v us Q I rx rs h
 obtain⟨i,rfl,rfl,q⟩:=h
 obtain⟨t,rfl⟩:=rx
 cases rs
 exact call_int_bit_length ⟨.int _,H,I.tok _,⟨_,rfl⟩,q⟩
def Eh (K:W.Frag):List V->Hp->VK->Prop:=fun xs H Q=>∃p ys,xs=[.ref p]/\(aU K H p ys\/gu K H p ys)/\Q (.int ys.length) H
theorem bz:eT X (.builtin "len") (Eh X.K):=vA
def HS:List V->Hp->VK->Prop:=fun xs H Q=>∃i,xs=[.int i]/\Q (.int (if i<0 then -i else i)) H
theorem BI:eT X (.builtin "abs") HS:=DQ
def G9:List V->Hp->VK->Prop:=fun xs H Q=>∃i j,xs=[.int i,.int j]/\Q (.int (if j > i then j else i)) H
theorem sX (hc:X.calm=true):eT X (.builtin "max") G9:=Be hc
def HZ:List V->Hp->VK->Prop:=fun xs H Q=>∃i j,xs=[.int i,.int j]/\Q (.int (if j<i then j else i)) H
theorem Bt (hc:X.calm=true):eT X (.builtin "min") HZ:=A1 hc
end
section
variable {σ:St}{H:Hp}{Q:VK}{D:Ends}
theorem Kr {i:Nat}{v:V}(h:σ[i]? = some (some v)) (q:Q v H):Kl i σ H Q:=⟨v,h,q⟩
theorem QZ {v:V}(q:Q v H):tC v σ H Q:=q
theorem PK {r:R2}{ta tb:TE}(h:ta σ H fun x H1=>tb σ H1 fun y H2=>r x y H2 Q):OP r ta tb σ H Q:=h
theorem OX {r:V->Hp->VK->Prop}{ta:TE}(h:ta σ H fun x H1=>r x H1 Q):TL r ta σ H Q:=h
theorem Oj {g:Int->Int->V}{i j:Int}(q:Q (g i j) H):GU g (.int i) (.int j) H Q:=⟨i,j,rfl,rfl,q⟩
theorem S9 {C:Int->Int->Prop}{g:Int->Int->V}{i j:Int}(c:C i j) (q:Q (g i j) H):rI C g (.int i) (.int j) H Q:=⟨i,j,rfl,rfl,c,q⟩
theorem Te {g:Int->V}{i:Int}(q:Q (g i) H):rU g (.int i) H Q:=⟨i,rfl,q⟩
theorem wc {i j:Int}:decide (V.int i=V.int j)=decide (i=j):=by
 rw[Wu];simp
theorem Jo {i j:Int}(q:Q (.bl (decide (i=j))) H):TJ (.int i) (.int j) H Q:=⟨rfl,by rw[wc];exact q⟩
theorem Jr {i j:Int}(q:Q (.bl (!decide (i=j))) H):Tj (.int i) (.int j) H Q:=⟨rfl,by rw[wc];exact q⟩
theorem O3 {c:Bool}{P:Bool->Prop}(h:P c):∃k,V.bl c=V.bl k/\P k:=⟨c,rfl,h⟩
theorem Gu {t:TE}{R:Bool->Hp->Prop}(h:t σ H fun x H'=>∃k,x = .bl k/\R k H'):Dm t σ H R:=h
theorem OT {t:TE}{R:Bool->Hp->Prop}(h:t σ H fun x H'=>∃k,x = .bl k/\R k H'):tB t σ H R:=h
theorem Ku {t u:TT}{R:Bool->Hp->Prop}(h:t σ H fun c H1=>if c=true then u σ H1 R else R false H1):P9 t u σ H R:=h
theorem PN {t u:TT}{R:Bool->Hp->Prop}(h:t σ H fun c H1=>if c=true then R true H1 else u σ H1 R):TU t u σ H R:=h
theorem J1 {t:TT}{R:Bool->Hp->Prop}(h:t σ H fun c H1=>R (!c) H1):OI t σ H R:=h
theorem EO {ta tb:TE}(h:ta σ H fun x H1=>∃c,x = .bl c/\if c=true then tb σ H1 Q else Q (.bl false) H1):Hi ta tb σ H Q:=h
theorem DZ {r r':R2}{ta tb tc:TE}(h:ta σ H fun x H1=>tb σ H1 fun y H2=>r x y H2 fun z H3=>∃k,z = .bl k/\(if k=true then tc σ H3 fun w' H4=>r' y w' H4 Q else Q (.bl false) H3)):De r r' ta tb tc σ H Q:=h
theorem Lx {t:TT}{ta tb:TE}(h:t σ H fun c H1=>if c=true then ta σ H1 Q else tb σ H1 Q):TH t ta tb σ H Q:=h
theorem Iu {R:List V->Hp->Prop}(h:R [] H):P_ σ H R:=h
theorem F1 {ta:TE}{tr:TA}{R:List V->Hp->Prop}(h:ta σ H fun x H1=>tr σ H1 fun xs H2=>R (x::xs) H2):Ir ta tr σ H R:=h
theorem Gg {sp:Sp}{dvs:List V}{E:XK}{t:TA}(h:t σ H fun vs H1=>sp (vs++dvs) H1 Q E):CC sp dvs E t σ H Q:=h
theorem Qq {r:List V->Hp->VK->Prop}{t:TA}(h:t σ H fun vs H1=>r vs H1 Q):SI r t σ H Q:=h
theorem KD {t:TA}(h:t σ H fun xs H1=>xs.length<=sizeLine/\∀p,H1 p=none->Q (.ref p) (upd H1 p (.lst xs))):Oa t σ H Q:=h
theorem J8 {t:TA}(h:t σ H fun xs H1=>xs.length<=sizeLine/\∀p,H1 p=none->Q (.ref p) (upd H1 p (.tup xs))):Pf t σ H Q:=h
theorem Jg {te:TE}{g:TG}(h:te σ H fun x H1=>g x σ H1 D.nx):GP te g D σ H:=h
theorem CJ {i:Nat}{v:V}{R:St->Hp->Prop}(h:R (σ.set i (some v)) H):v8 i v σ H R:=h
theorem Lu {te:TE}(h:te σ H D.rt):OQ te D σ H:=h
theorem Gs (h:D.nx σ H):Ij D σ H:=h
theorem EH {te:TE}(h:te σ H fun _ H1=>D.nx σ H1):G0 te D σ H:=h
theorem cG {K:W.Frag}{p:Addr}{xs:List V}{i:Int}{v:V}(h:aU K H p xs) (e:rg xs i=some v) (q:Q v H):GJ K (.ref p) (.int i) H Q:=⟨p,xs,i,v,rfl,rfl,h,e,q⟩
theorem Jb {K:W.Frag}{T:String}{r:V->List V->Hp->VK->Prop}{to:TE}(h:to σ H fun x H1=>Pz K T x H1/\r x [] H1 Q):OV K T r to σ H Q:=h
theorem Om {K:W.Frag}{T:String}{r:V->List V->Hp->VK->Prop}{to:TE}{t:TA}(h:to σ H fun x H1=>Pz K T x H1/\t σ H1 fun xs H2=>r x xs H2 Q):TY K T r to t σ H Q:=h
theorem Fe {to ti te:TE}{tget:V->V->Hp->VK->Prop}{tip:FW}{tset:zx}(h:to σ H fun o H1=>ti σ H1 fun i H2=>tget o i H2 fun x H3=>te σ H3 fun y H4=>tip x y H4 fun z H5=>tset o i z H5 fun H6=>D.nx σ H6):HW to ti te tget tip tset D σ H:=h
theorem PU {f:Int->Int->Int}{i j:Int}(q:Q (.int (f i j)) H):T8 f (.int i) (.int j) H Q:=⟨i,j,rfl,rfl,q⟩
theorem uZ {p:Addr}{xs:List V}{i:Int}{j:Nat}{v:V}{R:Hp->Prop}(h:H p=some (.lst xs)) (e:yx xs.length i=some j) (q:R (upd H p (.lst (xs.set j v)))):AE (.ref p) (.int i) v H R:=⟨p,xs,i,j,rfl,rfl,h,e,q⟩
theorem GV {p:Addr}{a:V}{r:List V}{v:V}{R:Hp->Prop}(h:H p=some (.lst (a::r))) (q:R (upd H p (.lst (v::r)))):AE (.ref p) (.int 0) v H R :=
 ⟨p,_,0,0,rfl,rfl,h,by unfold yx;rw[VB (by decide),VB (by rw[Wk];omega)];rfl,q⟩
theorem F_ {p:Addr}{a b:V}{r:List V}{v:V}{R:Hp->Prop}(h:H p=some (.lst (a::b::r))) (q:R (upd H p (.lst (a::v::r)))):AE (.ref p) (.int 1) v H R :=
 ⟨p,_,1,1,rfl,rfl,h,by unfold yx;rw[VB (by decide),VB (by rw[Wk,Wk];omega)];rfl,q⟩
theorem FA {to ti:TE}{t:zx}{v:V}{R:St->Hp->Prop}(h:to σ H fun o H1=>ti σ H1 fun i H2=>t o i v H2 fun H3=>R σ H3):MY to ti t v σ H R:=h
theorem NU {r:V->Option Int->Option Int->Hp->VK->Prop}{te:TE}{tl th:TO}(h:te σ H fun x H1=>tl σ H1 fun l H2=>th σ H2 fun u H3=>r x l u H3 Q):Tz r te tl th σ H Q:=h
theorem Lb {R:Option Int->Hp->Prop}(h:R none H):Az σ H R:=h
theorem Ff {t:TE}{R:Option Int->Hp->Prop}(h:t σ H fun x H1=>∃i,x = .int i/\R (some i) H1):Ht t σ H R:=h
theorem Ks {i:Int}{P:Int->Prop}(h:P i):∃k,V.int i=V.int k/\P k:=⟨i,rfl,h⟩
theorem gp {K:W.Frag}{a:Addr}{xs:List V}{lo hi:Option Int}(h:aU K H a xs) (q:∀p,H p=none->Q (.ref p) (upd H p (.lst (iE xs lo hi)))):Jk K (.ref a) lo hi H Q:=⟨a,xs,rfl,h,q⟩
theorem GI {K:W.Frag}{a:Addr}{ys:List V}(h:aU K H a ys) (q:Q (.int ys.length) H):Eh K [.ref a] H Q:=⟨a,ys,rfl,.inl h,q⟩
theorem Ja {i:Int}(q:Q (.int (if i<0 then -i else i)) H):HS [.int i] H Q:=⟨i,rfl,q⟩
theorem IE {i j:Int}(q:Q (.int (max i j)) H):G9 [.int i,.int j] H Q:=⟨i,j,rfl,by
 have e:(if j > i then j else i)=max i j:=by omega
 rw[e];exact q⟩
theorem Lh {i j:Int}(q:Q (.int (min i j)) H):HZ [.int i,.int j] H Q:=⟨i,j,rfl,by
 have e:(if j<i then j else i)=min i j:=by omega
 rw[e];exact q⟩
theorem AV {i:Int}(q:Q (.int (Builtin.Int.intBits i:Nat)) H):AJ (.int i) [] H Q:=⟨i,rfl,rfl,q⟩
theorem b_ {c:Prop} [Decidable c] {A B:Prop}(h1:c->A) (h2:¬ c->B):if decide c=true then A else B:=by
 by_cases h:c
 ·rw[VX h,VB rfl];exact h1 h
 ·rw[VR h,VF VI];exact h2 h
theorem IB {c:Prop} [Decidable c] {A B:Prop}(h1:¬ c->A) (h2:c->B):if (!decide c)=true then A else B:=by
 by_cases h:c
 ·rw[VX h];exact(VF (by decide)).mpr (h2 h)
 ·rw[VR h];exact(VB rfl).mpr (h1 h)
theorem EF {ta:TA}{R:It->Hp->Prop}(h:ta σ H fun vs H1=>∃j:Int,vs=[.int j]/\-(2^62)<=j/\j<2^62/\R (Bm 0 j.toNat) H1):G8 ta σ H R:=h
theorem Gp {ta:TA}{R:It->Hp->Prop}(h:ta σ H fun vs H1=>∃i j:Int,vs=[.int i,.int j]/\(-(2^62)<=i/\i<2^62/\-(2^62)<=j/\j<2^62)/\R (Bm i (j-i).toNat) H1):Hz ta σ H R:=h
theorem Dh {K:W.Frag}{tl:TE}{R:It->Hp->Prop}(h:tl σ H fun x H1=>∃a,x = .ref a/\(∃xs,aU K H1 a xs)/\R (AG K a) H1):Cs K tl σ H R:=h
theorem EV {vs:List Str}{js:List Nat}{wi:TI}{g:TG}{tt:TT}{te:TE}(h:wi σ H fun J H1=>∀D,H1 D=none->tN J vs js σ g tt te Q D H1):CY vs js wi g tt te σ H Q:=h
theorem Ji {R:Bool->Hp->Prop}(h:R true H):NV σ H R:=h
theorem Gy {A B:Prop}(h:A):if true=true then A else B:=Qh h
theorem F2 {A B:Prop}(h:B):if false=true then A else B:=NQ h
theorem Cb {A B:Prop}(h:A):if (!false)=true then A else B:=Qh h
theorem D9 {A B:Prop}(h:B):if (!true)=true then A else B:=NQ h
theorem Co {ms:List Int}{k:Nat}:iE (ms.map V.int) (some (k:Int)) none =(ms.drop k).map V.int:=by
 unfold iE
 rw[HT.sIx_nat,HT.sIx_none,Vi,<- XQ]
 by_cases h:k<=ms.length
 ·rw[WM h,V8 (by rw[Vi,Wj];omega)]
 ·rw[Wl (by omega:ms.length<=min k ms.length),Wl (by omega:ms.length<=k)]
  simp
theorem Ei {ms:List Int}{k:Nat}:iE (ms.map V.int) none (some (k:Int)) =(ms.take k).map V.int:=by
 unfold iE
 rw[HT.sIx_nat,HT.sIx_none,Vi,List.drop_zero,Nat.sub_zero,<- Xd]
 by_cases h:k<=ms.length
 ·rw[WM h]
 ·rw[Nat.min_eq_right (by omega),V8 (Vt _),V8 (by omega)]
theorem aG {H:Hp}{p:Addr}(h:H p=none) (o:HO):aD H (upd H p o):=fun b u q=>by rw[ao (au q h)];exact q
end
mutual
inductive DV (K:W.Frag) (H:Hp):V->PyData->Prop
 | non:DV K H .non .none
 | bl (b:Bool):DV K H (.bl b) (.bool b)
 | int (i:Int):DV K H (.int i) (.int i)
 | str (x:Str):DV K H (.str x) (.str x)
 | lst {a:Addr}{xs:List V}{ds:List PyData}:aU K H a xs->rX K H xs ds->DV K H (.ref a) (.list ds)
 | tup {a:Addr}{xs:List V}{ds:List PyData}:gu K H a xs->rX K H xs ds->DV K H (.ref a) (.tuple ds)
inductive rX (K:W.Frag) (H:Hp):List V->List PyData->Prop
 | nil:rX K H [] []
 | cons {x:V}{d:PyData}{xs:List V}{ds:List PyData}:DV K H x d->rX K H xs ds->rX K H (x::xs) (d::ds)
end
section
variable {X:Cx}{pins:List (Addr×Obj)}{σ:St}{H:Hp}{s:Shared}
mutual
theorem DV.reads (I:Inv X pins σ H s):∀{x:V}{d:PyData}{v:Value},DV X.K H x d->RelV x v->∃as,Reads s.heap v d as
 | _,_,_,.non,r=>by cases r;exact⟨_,.none⟩
 | _,_,_,.bl b,r=>by cases r;exact⟨_,.bool b⟩
 | _,_,_,.int i,r=>by obtain⟨t,rfl⟩:=r;exact⟨_,.int i t⟩
 | _,_,_,.str x,r=>by obtain⟨t,rfl⟩:=r;exact⟨_,.str x t⟩
 | _,_,_,.lst (a:=a) h ds,r=>by
  cases r
  obtain⟨its,rv,⟨o,n,e,c,_,d⟩,_⟩:=I.list h
  obtain⟨as,q⟩:=rX.reads I ds rv
  exact⟨_,.list e c d (by simpa using q)⟩
 | _,_,_,.tup (a:=a) h ds,r=>by
  cases r
  obtain⟨its,rv,⟨o,e,c,n,d⟩,_⟩:=I.tuple h
  obtain⟨as,q⟩:=rX.reads I ds rv
  exact⟨_,.tuple e c d (by simpa using q)⟩
theorem rX.reads (I:Inv X pins σ H s):∀{xs:List V}{ds:List PyData}{vs:List Value},rX X.K H xs ds->Vals xs vs->∃as,ReadsAll s.heap vs ds as
 | _,_,_,.nil,r=>by cases r;exact⟨_,.nil⟩
 | _,_,_,.cons h t,r=>by
  cases r with
  | cons r1 r2 =>
   obtain⟨as,q⟩:=DV.reads I h r1
   obtain⟨bs,p⟩:=rX.reads I t r2
   exact⟨_,.cons q p⟩
end
end
theorem rX.ints {K:W.Frag}{H:Hp}:∀ns:List Int,rX K H (ns.map V.int) (ns.map PyData.int)
 | []=>.nil
 | n::r=>.cons (.int n) (rX.ints r)
theorem lay_ints:∀ns:List Int,PyData.canLayAll0 (ns.map PyData.int)=true/\PyData.depthAll (ns.map PyData.int)=0
 | []=>⟨rfl,rfl⟩
 | n::r=>by
  obtain⟨h1,h2⟩:=lay_ints r
  simp[PyData.canLayAll0,PyData.canLay0,PyData.depthAll,PyData.depth,h1,h2]
theorem shaped_ints (ns:List Int):SeqAt.shaped (.list (ns.map PyData.int))=true:=by
 obtain⟨h1,h2⟩:=lay_ints ns
 simp[SeqAt.shaped,PyData.canLay0,PyData.depth,h1,h2]
theorem wj:∀ns ms:List Int,PyData.eqvAll (ns.map PyData.int) (ms.map PyData.int)=decide (ns=ms)
 | [],[]=>rfl
 | [],_::_=>rfl
 | _::_,[]=>rfl
 | n::ns,m::ms=>by
  rw[VY,VY,PyData.eqvAll,PyData.eqv,wj ns ms,Wu]
  simp
section
variable {X:Cx}
def Ro (K:W.Frag):R2:=fun x y H Q=>∃d e,DV K H x d/\DV K H y e/\SeqAt.shaped d=true/\SeqAt.shaped e=true/\Q (.bl (PyData.eqv d e)) H
def N8 (K:W.Frag):R2:=fun x y H Q=>∃d e,DV K H x d/\DV K H y e/\SeqAt.shaped d=true/\SeqAt.shaped e=true/\Q (.bl (!PyData.eqv d e)) H
theorem nH (hu:X.A.units+64<cLine):nq X (compareOp .Eq) (Ro X.K):=by
 intro pins s σ H x y v u Q I rx ry h
 obtain⟨d,e,h1,h2,h3,h4,q⟩:=h
 obtain⟨as,r1⟩:=h1.reads I rx
 obtain⟨bs,r2⟩:=h2.reads I ry
 exact eq_dataH r1 r2 h3 h4 hu ⟨.bl _,H,I,rfl,q⟩
theorem vn (hu:X.A.units+64<cLine):nq X (compareOp .NotEq) (N8 X.K):=by
 intro pins s σ H x y v u Q I rx ry h
 obtain⟨d,e,h1,h2,h3,h4,q⟩:=h
 obtain⟨as,r1⟩:=h1.reads I rx
 obtain⟨bs,r2⟩:=h2.reads I ry
 exact ne_dataH r1 r2 h3 h4 hu ⟨.bl _,H,I,rfl,q⟩
end
end L2
namespace L2
open PySem PySem.Spec PyProof.Rows
section
variable {X:Cx}
theorem sL:∀{bs:List Bool}{its:List Value}{i:Nat}{v:Value},Vals (bs.map V.bl) its->its[i]? = some v->∃b,bs[i]? = some b/\v = .bool b
 | [],_,i,v,.nil,e=>by simp at e
 | b::bs,_,0,v,.cons r t,e=>by
  simp at e;subst e
  exact⟨b,rfl,r⟩
 | b::bs,_,i+1,v,.cons r t,e=>by
  obtain⟨c,h1,h2⟩:=sL (i:=i) (v:=v) t (by simpa using e)
  exact⟨c,by simpa using h1,h2⟩
theorem all_range (bs:List Bool):(List.range bs.length).all (fun i=>bs.getD i true)=bs.all id:=by
 rw[Wu,List.all_eq_true,List.all_eq_true]
 constructor
 ·intro h b hb
  obtain⟨i,hi,rfl⟩:=List.mem_iff_getElem.mp hb
  have:=h i (Xf.mpr hi)
  simpa [List.getD,hi] using this
 ·intro h i hi
  have hi':=Xf.mp hi
  have:=h bs[i] (List.getElem_mem hi')
  simpa [List.getD,hi'] using this
theorem F7 {s:Shared}{l:Addr}{items:Array Value}{A:Around}{E:Value->Shared->Prop}{Q:Value->Shared->Prop}{prog:Program}{w:World}(hl:s.heap.IsList l items)
  (h:∀s₂:Shared,s₂ = { s with heap:=s.heap.push { cls:=.type "list_iterator",data:=.fields #[.ref l,.int 0 0] } }->(s₂.heap.IsListIter s.heap.objs.size l 0/\s₂.heap.IsList l items)->l≠s.heap.objs.size->Q (.ref s.heap.objs.size) s₂) :
  wpAny (model prog w) A (pyIter (.ref l)) Q E s:=by
 have hlt:l<s.heap.objs.size:=by obtain⟨_,e,_⟩:=hl;exact VG e
 exact wpAny_pyIter_list hl (h _ rfl ⟨⟨_,V0 _ rfl,rfl,rfl⟩,hl.push _⟩ (VN hlt))
def Ih (K:W.Frag):List V->Hp->VK->Prop:=fun xs H Q=>∃a bs,xs=[.ref a]/\aU K H a (List.map V.bl bs)/\Q (.bl (bs.all id)) H
theorem BU (hc:X.calm=true):eT X (.builtin "all") (Ih X.K):=by
 intro pins s σ H xs us Q I r h
 obtain⟨a,bs,rfl,hq,q⟩:=h
 obtain⟨u,rfl,r1⟩:=vals1 r
 cases (show u=Value.ref a from r1)
 obtain⟨its,rv,pl,hz⟩:=I.list hq
 have hlen:bs.length=its.length:=by simpa using rv.length
 refine call_all_walk (F7 pl.isList fun s₂ e st hne=>?_)
 subst e
 refine⟨_,_,_,_,_,_,fun i=>bs.getD i true,rfl,Walks.list (A:=X.A.in1) (I.ok.hd hc) _ a hne its.toArray,st,fun i v s' Q' E' hP hQ=>?_,fun h' tk hk=>?_⟩
 ·obtain⟨b,h1,rfl⟩:=sL rv (by simpa using hP)
  have e:bs.getD i true=b:=by simp[List.getD,h1]
  exact WI (by have hQ2:=hQ;dsimp only at hQ2;rw[e]at hQ2;exact hQ2)
 ·refine⟨.bl (bs.all id),H,I.kept (fun b o e=>hk b o (fun z=>?_) (Vu _ e)),?_,q⟩
  ·have z':b=s.heap.objs.size:=by simpa using z
   rw[z']at e
   exact absurd (VG e) (Wz _)
  ·show Value.bool _=Value.bool _
   rw[VJ,<- hlen,all_range]
end
section
variable {X:Cx}{K:W.Frag}
theorem yN (h:X.K=K):eT X (.builtin "len") (Eh K):=by subst h;exact bz
theorem p8 (h:X.K=K):MP X (GJ K):=by subst h;exact bI
theorem j7 (h:X.K=K):MP X (K3 K):=by subst h;exact cS
theorem Cq (h:X.K=K):Qw X (Jk K):=by subst h;exact eW
theorem E9 (h:X.K=K) (hu:X.A.units+64<cLine):nq X (compareOp .NotEq) (N8 K):=by subst h;exact vn hu
end
section
variable {σ:St}{H:Hp}{Q:VK}{D:Ends}
theorem F8 {K:W.Frag}{a:Addr}{bs:List Bool}(h:aU K H a (bs.map V.bl)) (q:Q (.bl (bs.all id)) H):Ih K [.ref a] H Q:=⟨a,bs,rfl,h,q⟩
theorem Cg {K:W.Frag}{p:Addr}{xs:List V}{i:Int}{v:V}(h:gu K H p xs) (e:rg xs i=some v) (q:Q v H):K3 K (.ref p) (.int i) H Q:=⟨p,xs,i,v,rfl,rfl,h,e,q⟩
end
section
variable {κ:Type} [DecidableEq κ]
def dz (kvs:List (κ×V)) (k:κ):Option V:=(kvs.find? fun kv=>decide (kv.1=k)).map (·.2)
def putK (kvs:List (κ×V)) (k:κ) (v:V):List (κ×V) :=
 if (kvs.any fun kv=>decide (kv.1=k))=true then kvs.map (fun kv=>if kv.1=k then(kv.1,v) else kv) else kvs ++ [(k,v)]
theorem dc {p:κ×V}{r:List (κ×V)}{k:κ}(e:p.1=k):dz (p::r) k=some p.2:=by simp[dz,List.find?_cons,e]
theorem cZ {p:κ×V}{r:List (κ×V)}{k:κ}(e:¬ p.1=k):dz (p::r) k=dz r k:=by simp[dz,List.find?_cons,e]
theorem pV (k:κ):∀kvs:List (κ×V),(kvs.any fun kv=>decide (kv.1=k)) =(dz kvs k).isSome
 | []=>rfl
 | p::r=>by
  rw[Xx]
  by_cases e:p.1=k
  ·simp only[dc e,decide_eq_true e,Bool.true_or,Option.isSome_some]
  ·rw[cZ e,VR e,Bool.false_or];exact pV k r
theorem wz (k j:κ) (y:V):∀kvs:List (κ×V),dz (kvs.map fun kv=>if kv.1=k then(kv.1,y) else kv) j =(dz kvs j).map fun x=>if j=k then y else x
 | []=>rfl
 | p::r=>by
  have ih:=wz k j y r
  rw[VY]
  by_cases h:p.1=k
  ·rw[VB h]
   by_cases e:p.1=j
   ·rw[dc (p:=(p.1,y)) e,dc e,Option.map_some,VB (e.symm.trans h)]
   ·rw[cZ (p:=(p.1,y)) e,cZ e,ih]
  ·rw[VF h]
   by_cases e:p.1=j
   ·rw[dc (p:=p) e,dc e,Option.map_some,VF (fun z=>h (e.trans z))]
   ·rw[cZ (p:=p) e,cZ e,ih]
theorem tR (k j:κ) (y:V):∀kvs:List (κ×V),dz kvs k=none->dz (kvs ++ [(k,y)]) j=if j=k then some y else dz kvs j
 | [],_=>by
  by_cases e:k=j
  ·rw[VB e.symm];exact dc (p:=(k,y)) e
  ·rw[VF (fun z=>e z.symm)];exact cZ (p:=(k,y)) e
 | p::r,hn=>by
  rw[List.cons_append]
  have hk:¬ p.1=k:=fun z=>by rw[dc z]at hn;cases hn
  rw[cZ hk]at hn
  have ih:=tR k j y r hn
  by_cases e:p.1=j
  ·rw[dc e,dc e,VF (fun z=>hk (e.trans z))]
  ·rw[cZ e,cZ e,ih]
theorem wO (kvs:List (κ×V)) (k j:κ) (y:V):dz (putK kvs k y) j=if j=k then some y else dz kvs j:=by
 unfold putK
 by_cases a:(kvs.any fun kv=>decide (kv.1=k))=true
 ·rw[VB a,wz]
  rw[pV]at a
  by_cases e:j=k
  ·obtain⟨x,hx⟩:=Option.isSome_iff_exists.mp a
   rw[VB e,e,hx,Option.map_some,VB rfl]
  ·rw[VF e]
   cases dz kvs j with
   | none=>rfl
   | some x=>rw[Option.map_some,VF e]
 ·rw[VF a]
  refine tR k j y kvs ?_
  rw[pV]at a
  cases q:dz kvs k with
  | none=>rfl
  | some x=>rw[q]at a;exact(a rfl).elim
theorem oj (kvs:List (κ×V)) (k:κ) (v:V):(putK kvs k v).length<=kvs.length+1:=by
 unfold putK
 split
 ·rw[Vi];omega
 ·rw[Vm,Wk,List.length_nil];omega
theorem nA.isSome_eq {o:Option V}{u:Option Value}(r:nA o u):o.isSome=u.isSome:=by
 cases o with
 | none=>cases u with
  | none=>rfl
  | some _=>exact(show False from r).elim
 | some _=>cases u with
  | none=>exact(show False from r).elim
  | some _=>rfl
theorem KV.val {kvs:List (κ×V)}{vs:List (κ×Value)}(r:KV kvs vs) (k:κ):nA (dz kvs k) (valueAt vs k):=by
 unfold KV at r
 induction r with
 | nil=>exact True.intro
 | @cons p q ps qs h t ih =>
  obtain⟨h1,h2⟩:=h
  by_cases e:p.1=k
  ·have e':q.1=k:=h1.symm.trans e
   have b:valueAt (q::qs) k=some q.2:=by simp[valueAt,List.find?_cons,e']
   rw[dc e,b];exact h2
  ·have e':¬ q.1=k:=fun z=>e (h1.trans z)
   have b:valueAt (q::qs) k=valueAt qs k:=by simp[valueAt,List.find?_cons,e']
   rw[cZ e,b];exact ih
theorem KV.any {kvs:List (κ×V)}{vs:List (κ×Value)}(r:KV kvs vs) (k:κ):(kvs.any fun kv=>decide (kv.1=k))=vs.any fun kv=>decide (kv.1=k):=by
 unfold KV at r
 induction r with
 | nil=>rfl
 | cons h t ih=>rw[Xx,Xx,ih,h.1]
theorem KV.repl {kvs:List (κ×V)}{vs:List (κ×Value)}(r:KV kvs vs) (k:κ) {y:V}{u:Value}(ry:RelV y u) :
  KV (kvs.map fun kv=>if kv.1=k then(kv.1,y) else kv) (vs.map fun kv=>if kv.1=k then(kv.1,u) else kv):=by
 unfold KV at r ⊢
 induction r with
 | nil=>exact .nil
 | @cons p q ps qs h t ih =>
  rw[VY,VY]
  refine .cons ?_ ih
  obtain⟨h1,h2⟩:=h
  by_cases e:p.1=k
  ·rw[VB e,VB (h1.symm.trans e)];exact⟨h1,ry⟩
  ·rw[VF e,VF (fun z=>e (h1.trans z))];exact⟨h1,h2⟩
theorem KV.put {kvs:List (κ×V)}{vs:List (κ×Value)}(r:KV kvs vs) (k:κ) {y:V}{u:Value}(ry:RelV y u):KV (putK kvs k y) (stored vs k u):=by
 unfold putK stored
 rw[r.any k]
 by_cases e:(vs.any fun kv=>decide (kv.1=k))=true
 ·rw[VB e,VB e];exact r.repl k ry
 ·rw[VF e,VF e];exact Paired.snoc r ⟨rfl,ry⟩
theorem KV.length {kvs:List (κ×V)}{vs:List (κ×Value)}(r:KV kvs vs):kvs.length=vs.length:=XO r
end
theorem AK {P:Program}{w:World}{k:Key}{u:Value}(r:RelV (kV k) u):(bV P w).is k u=true:=by
 cases k with
 | inl i=>obtain⟨t,e⟩:=(show ∃t,u=Value.int i t from r);subst e;exact vX P w i t
 | inr x=>obtain⟨t,e⟩:=(show ∃t,u=Value.str x t from r);subst e;exact vS P w x t
theorem uv {P:Program}{w:World}:∀{ks:List Key}{us:List Value},Vals (ks.map kV) us->ItemsAre (bV P w) ks us
 | [],_,r=>by rw[List.map_nil]at r;cases r;exact .nil
 | k::ks,_,r=>by
  rw[VY]at r
  cases r with
  | cons h t=>exact .cons (AK h) (uv t)
abbrev KT (H:Hp):List (List Key×V)->List (List Key×Addr×Value)->Prop:=Paired fun p q=>p.1=q.1/\H q.2.1=some (.tup (p.1.map kV))/\RelV p.2 q.2.2
theorem KT.val {H:Hp}{kvs:List (List Key×V)}{xs:List (List Key×Addr×Value)}(r:KT H kvs xs) (k:List Key):nA (dz kvs k) ((atKey xs k).map (·.2)):=by
 induction r with
 | nil=>exact True.intro
 | @cons p q ps qs h t ih =>
  obtain⟨h1,_,h2⟩:=h
  by_cases e:p.1=k
  ·have e':q.1=k:=h1.symm.trans e
   have b:atKey (q::qs) k=some q.2:=by simp[atKey,List.find?_cons,e']
   rw[dc e,b];exact h2
  ·have e':¬ q.1=k:=fun z=>e (h1.trans z)
   have b:atKey (q::qs) k=atKey qs k:=by simp[atKey,List.find?_cons,e']
   rw[cZ e,b];exact ih
section
variable {P:Program}{w:World}{H:Hp}{h:Heap}{a:Addr}
theorem H_ {u:HO}(ok:mR P w H h) (e:Rd H a u):dJ P w H h a u:=e.ok ok
theorem Ag {kvs:List (Key×V)}(ok:mR P w H h) (e:Rd H a (.dK kvs)):kvs.length<=sizeLine/\(a == sysModules)=false/\∃vs,KV kvs vs/\h.DictOf (bV P w) a vs :=
 show dJ P w H h a (.dK kvs) from H_ ok e
theorem Ol {kvs:List (Key×V)}(ok:mR P w H h) (e:H a=some (.dK kvs)):kvs.length<=sizeLine/\(a == sysModules)=false/\∃vs,KV kvs vs/\h.DictOf (bV P w) a vs:=Ag ok (.inl e)
theorem Dz {ks:List Key}(ok:mR P w H h) (e:H a=some (.tup (ks.map kV))):(tupleKind (bV P w)).is h ks a:=by
 obtain⟨_,its,r,o,h1,h2,n,h3⟩:=(show dJ P w H h a (.tup (ks.map kV)) from ok a _ e)
 exact⟨o,its.toArray,n,h1,h2,h3,by simpa using uv r⟩
theorem C0 {kvs:List (List Key×V)}(ok:mR P w H h) (e:Rd H a (.dT kvs)):kvs.length<=sizeLine/\(a == sysModules)=false /\
  ∃xs,KT H kvs xs/\h.DictOfH (tupleKind (bV P w)) a xs:=by
 obtain⟨z,y,xs,r,o,es,ep,h1,h2,h3,h4,h5⟩:=(show dJ P w H h a (.dT kvs) from H_ ok e)
 refine⟨z,y,xs,r,o,es,ep,h1,h2,h3,h4,fun x hx=>?_,h5⟩
 have all:∀{l:List (List Key×V)}{m:List (List Key×Addr×Value)},KT H l m->∀x∈m,(tupleKind (bV P w)).is h x.1 x.2.1:=by
  intro l m q
  induction q with
  | nil=>intro x hx;exact nomatch hx
  | @cons p q ps qs hq t ih =>
   intro x hx
   rcases VW.mp hx with e|hx
   ·subst e
    exact Dz ok (by rw[<- hq.1];exact hq.2.1)
   ·exact ih x hx
 exact all r x hx
end
def yi (H:Hp) (a:Addr) (y:V) (r:Option V):Prop :=
 (∃kvs k,Rd H a (.dK kvs)/\y=kV k/\r=dz kvs k) \/ ∃kvs k b,Rd H a (.dT kvs)/\y = .ref b/\H b=some (.tup (k.map kV))/\r=dz kvs k
theorem yi.k {H:Hp}{a:Addr}{kvs:List (Key×V)}{k:Key}(e:H a=some (.dK kvs)):yi H a (kV k) (dz kvs k):=.inl ⟨kvs,k,.inl e,rfl,rfl⟩
section
variable {X:Cx}{pins:List (Addr×Obj)}{σ:St}{H:Hp}{s:Shared}{a:Addr}{y v:V}{u r:Value}{o:Option V}{A:Around}{E:Value->Shared->Prop}
theorem Inv.big (I:Inv X pins σ H s):sysModules<s.heap.objs.size:=by
 have h:mainGlobals<s.heap.objs.size:=(I.mod.glob.keeps I.bk).lt
 exact Nat.lt_trans (by decide) h
theorem Bc {Q:Value->Shared->Prop}(hu:A.units+1<cLine) (I:Inv X pins σ H s) (g:yi H a y (some v)) (ry:RelV y u) (h:∀w' s',Inv X pins σ H s'->RelV v w'->Q w' s') :
  wpAny (model X.prog X.w) A (getItem (.ref a) u) Q E s:=by
 rcases g with⟨kvs,k,e,ey,l⟩|⟨kvs,k,b,e,ey,eb,l⟩
 ·subst ey
  obtain⟨z,hd,vs,rel,dd⟩:=Ag I.hok e
  obtain⟨w',hw,rw'⟩:=nA.some_of (v:=v) (o:=valueAt vs k) (by rw[l];exact rel.val k)
  exact wpAny_getItem_of (AK ry) dd.mapOf hw (h w' _ (I.tok _) rw')
 ·subst ey
  cases (show u=Value.ref b from ry)
  obtain⟨z,hd,xs,rel,dd⟩:=C0 I.hok e
  obtain⟨w',hw,rw'⟩:=nA.some_of (v:=v) (o:=(atKey xs k).map (·.2)) (by rw[l];exact rel.val k)
  obtain⟨p,hp,hp2⟩:=Ws.mp hw
  refine wpAny_getItem_heap (tupleKind_room_in1 hu) (Dz I.hok eb) dd hp ?_
  rw[hp2]
  exact h w' _ (I.tok _) rw'
theorem Gk {h':Heap}{t':Nat}{ob:HO}(I:Inv X pins σ H s) (mu:Ob (H a)) (hs:Heap.SameBut a s.heap h') (he:∃q,h'.get? a=some q) (new:dJ X.prog X.w (upd H a ob) h' a ob) :
  Inv X pins σ (upd H a ob) { s with heap:=h',toks:=t' } :=
 I.write (x:=a) (e:=a) mu (.inl rfl) (fun b q hb z=>(hs.2 b hb).trans z) he new
theorem B7 {P:Program}{w:World}{H':Hp}{h':Heap}{kvs:List (Key×V)}{vs:List (Key×Value)}(z:kvs.length<=sizeLine) (hd:(a == sysModules)=false) (rel:KV kvs vs) (dd:h'.DictOf (bV P w) a vs) :
  dJ P w H' h' a (.dK kvs):=⟨z,hd,vs,rel,dd⟩
end
def Nt (i:Expr):Prop:=∀ov iv,subscripted i false ov iv=operate [ov,iv] (getItem ov iv)
theorem Fb {prog:Program}{w:World}{A:Around}{E:Value->Shared->Prop}{s:Shared}{env:Env}{value slice:Expr}{pos:Pos}{T id:String}{Q:Value->Shared->Prop}
  (hl:typeLookup (.type T) "__getitem__" = pure (some (.builtin id))) (hs:Nt slice)
  (h:wpAny (model prog w) A (eval value env) (fun o s₁=>wpAny (model prog w) A (eval slice env) (fun i s₂=>s₂.TypeIs o T/\wpAny (model prog w) A (getItem o i) Q E s₂) E s₁) E s) :
  wpAny (model prog w) A (eval (.Subscript value slice pos) env) Q E s:=by
 refine Subscript_ (Wc h (fun o s₁ h₁=>Wc h₁ (fun i s₂ h₂=>?_) fun _ _ x=>x) fun _ _ x=>x)
 obtain⟨hT,h₂⟩:=h₂
 unfold subscriptTail
 refine Vl ?_
 rw[getitemInPython_of_ne hT.not_modules]
 refine Vl (wpAny_specialOf hT hl ?_)
 have fin:wpAny (model prog w) A (subscripted slice false o i) (fun r s₃=>wpAny (model prog w) A (letTemporaryGo value o r >>= fun _=>pure r) Q E s₃) E s₂:=by
  rw[hs o i]
  exact wpAny_operating (Wc h₂ (fun r s₃ h₃=>Vl (wpAny_letTemporaryGo (Vz h₃))) fun _ _ x=>x)
 first
  | exact Vz (Vl fin)
  | exact Vl (Vz (Vl fin))
  | exact Vl fin
theorem xZ {X:Cx}{pins:List (Addr×Obj)}{σ:St}{H:Hp}{s:Shared}{a:Addr}{y:V}{o:Option V}(I:Inv X pins σ H s) (g:yi H a y o):s.TypeIs (.ref a) "dict" := by
 rcases g with⟨kvs,k,e,_,_⟩|⟨kvs,k,b,e,_,_,_⟩
 ·obtain⟨_,_,vs,_,dd⟩:=Ag I.hok e
  exact dd.typeIs
 ·obtain⟨_,_,xs,_,dd⟩:=C0 I.hok e
  exact dd.typeIs
def HX (td ty:TE):TE:=fun σ H Q=>td σ H fun x H1=>ty σ H1 fun y H2=>∃a v,x = .ref a/\yi H2 a y (some v)/\Q v H2
section
variable {X:Cx}{o i e value:Expr}{pos pos' tpos:Pos}{td ty tv:TE}
theorem z_ (hu:X.A.units+1<cLine) (ho:PE X o td) (hi:PE X i ty) (hs:Nt i):PE X (.Subscript o i pos) (HX td ty):=by
 intro pins s σ H Q I h
 refine Fb PySem.F.slot_dict_getitem.lookup hs (cg (ho pins s σ H _ I h) fun u s1 ⟨x,H1,I1,rx,q1⟩=>cg (hi pins s1 σ H1 _ I1 q1) fun iv s2 ⟨y,H2,I2,ry,a,v,ex,g,q2⟩=>?_)
 subst ex
 obtain rfl:u=Value.ref a:=rx
 exact⟨xZ I2 g,Bc hu I2 g ry fun w' s3 I3 rw'=>⟨v,H2,I3,rw',q2⟩⟩
end
theorem CO {P:Program}{w:World}{H:Hp}(h:Heap) (hb:sysModules<h.objs.size):dJ P w H (h.push { cls:=.type "dict",data:=.dict #[] }) h.objs.size (.dK []) :=
 ⟨VS _,Xe.mpr (Ne.symm (VN hb)),[],.nil,Heap.DictOf.new h⟩
def Ek:TE:=fun _ H Q=>∀p,H p=none->Q (.ref p) (upd H p (.dK []))
section
variable {X:Cx}{pos:Pos}
theorem Cp:PE X (.Dict [] [] pos) Ek:=fun pins s σ H Q I h =>
 wpAny_Dict_empty ⟨.ref s.heap.objs.size,_,I.laid (a:=s.heap.objs.size) (o:=.dK []) (t':=s.toks) (fun _ _ q=>Vu _ q) (Vt _) (CO s.heap I.big),rfl,h _ (I.hok.fresh (Vt _))⟩
end
def fJ (kvs more:List (Key×V)):List (Key×V):=more.foldl (fun acc kv=>putK acc kv.1 kv.2) kvs
theorem KV.merge:∀{more:List (Key×V)}{rs:List (Key×Value)}{kvs:List (Key×V)}{vs:List (Key×Value)},KV more rs->KV kvs vs->KV (fJ kvs more) (merged vs rs):=by
 intro more rs kvs vs r
 unfold KV at r
 induction r generalizing kvs vs with
 | nil=>intro q;exact q
 | @cons p q ps qs h t ih =>
  intro r0
  have e:KV (putK kvs p.1 p.2) (stored vs q.1 q.2):=by
   have:=r0.put p.1 h.2
   rw[<- h.1];exact this
  exact ih e
theorem iD:∀(more kvs:List (Key×V)),(fJ kvs more).length<=kvs.length+more.length
 | [],kvs=>by show kvs.length<=kvs.length+0;omega
 | p::r,kvs=>by
  have h1:=iD r (putK kvs p.1 p.2)
  have h2:=oj kvs p.1 p.2
  show(fJ (putK kvs p.1 p.2) r).length<=_
  rw[Wk];omega
structure M2 (X:Cx) (o:Expr) (m:Str) (apos:Pos) (e f:Expr) (cpos:Pos):Prop where
 base:attributeBase o m X.env (eval o X.env)=eval o X.env
 few:((backTo cpos (starEach [e,f] X.env)).all (fun x=>!x.1) && (backToKw cpos (keywordEach [] X.env)).all (fun x=>x.1.isSome)
  && decide (([e,f]:List Expr).length+([]:List Keyword).length+(if ([]:List Keyword).isEmpty then 0 else 1)<30))=true
 line:(apos.endLine == cpos.line)=true
 trees:backTo cpos (starEach [e,f] X.env)=[(false,eval e X.env),(false,eval f X.env)]
def R6 (H:Hp) (a:Addr):Prop:=(∃kvs,Rd H a (.dK kvs)) \/ ∃kvs,Rd H a (.dT kvs)
theorem J4 {X:Cx}{pins:List (Addr×Obj)}{σ:St}{H:Hp}{s:Shared}{a:Addr}(I:Inv X pins σ H s) (d:R6 H a) :
  s.TypeIs (.ref a) "dict"/\(∀b,Value.ref a = .ref b->∃ob,s.heap.get? b=some ob/\ob.dict=none)/\(a == sysModules)=false:=by
 rcases d with⟨kvs,e⟩|⟨kvs,e⟩
 ·obtain⟨_,hd,vs,_,dd⟩:=Ag I.hok e
  refine⟨dd.typeIs,fun b q=>?_,hd⟩
  cases q
  obtain⟨ob,_,_,h1,h2,_⟩:=dd
  exact⟨ob,h1,h2.2.1⟩
 ·obtain⟨_,hd,xs,_,dd⟩:=C0 I.hok e
  refine⟨dd.typeIs,fun b q=>?_,hd⟩
  cases q
  obtain⟨ob,_,_,h1,h2,_⟩:=dd
  exact⟨ob,h1,h2.2.1⟩
section
variable {X:Cx}
theorem yW {ns:List Str}:∀{us:List Value},Vals (ns.map V.str) us->StrsAre us ns:=by
 induction ns with
 | nil=>intro us r;cases r;exact .nil
 | cons n ns ih =>
  intro us r
  cases r with
  | cons r t =>
   obtain⟨tk,rfl⟩:=r
   exact .cons n tk (ih t)
def rJoin (K:W.Frag):V->List V->Hp->VK->Prop:=fun x vs H Q=>∃z a ys,x = .str z/\vs=[.ref a]/\aU K H a (List.map V.str ys)/\(ys.map (·.length)).sum+ys.length*z.length<=16777216/\Q (.str (Txt.join z ys)) H
theorem E3:N1 X "str.join" (rJoin X.K):=by
 intro pins s σ H x xs v us Q I rx rs h
 obtain⟨z,a,ys,rfl,rfl,hq,hz,q⟩:=h
 obtain⟨t,rfl⟩:=rx
 obtain⟨u,rfl,ru⟩:=vals1 rs
 cases (show u=Value.ref a from ru)
 obtain⟨its,rv,pl,_⟩:=I.list hq
 exact join_list pl.isList (by simpa using yW rv) hz fun t' k=>⟨.str _,H,I.tok _,⟨_,rfl⟩,q⟩
end
section
variable {σ:St}{H:Hp}{Q:VK}{D:Ends}
theorem JU {z:Str}{i:Int}{c:Nat}(h:z.length<=sizeLine) (e:rg z.cps.toList i=some c) (q:Q (.str ⟨#[c]⟩) H):NX (.str z) (.int i) H Q:=⟨z,i,c,rfl,rfl,h,e,q⟩
end
section
variable {es:List Expr}{env:Env}
theorem aB {c j p}:starEach (.Constant c j p::es) env =(false,eval (.Constant c j p) env)::starEach es env:=rfl
theorem ai {x p}:starEach (.Name x p::es) env =(false,eval (.Name x p) env)::starEach es env:=rfl
theorem bK {a o b p}:starEach (.BinOp a o b p::es) env =(false,eval (.BinOp a o b p) env)::starEach es env:=rfl
theorem yZ {o b p}:starEach (.BoolOp o b p::es) env =(false,eval (.BoolOp o b p) env)::starEach es env:=rfl
theorem w5 {a o b p}:starEach (.Compare a o b p::es) env =(false,eval (.Compare a o b p) env)::starEach es env:=rfl
theorem aF {a o b p}:starEach (.Call a o b p::es) env =(false,eval (.Call a o b p) env)::starEach es env:=rfl
theorem aQ {a o p}:starEach (.Subscript a o p::es) env =(false,eval (.Subscript a o p) env)::starEach es env:=rfl
theorem gG {a p}:starEach (.List a p::es) env =(false,eval (.List a p) env)::starEach es env:=rfl
theorem dZ {a k p}:starEach (.Tuple a k p::es) env =(false,eval (.Tuple a k p) env)::starEach es env:=rfl
theorem eB {a b c p}:starEach (.ListComp a b c p::es) env =(false,eval (.ListComp a b c p) env)::starEach es env:=rfl
end
section
variable {X:Cx}
def G7:List V->Hp->VK->Prop:=fun xs H Q=>∃j,xs=[.int j]/\∀r,H r=none->Q (.ref r) (upd H r (.rng 0 j))
theorem Bs:eT X (.type "range") G7:=by
 intro pins s σ H xs us Q I r h
 obtain⟨j,rfl,q⟩:=h
 obtain⟨u,rfl,rx⟩:=vals1 r
 obtain⟨t,rfl⟩:=rx
 refine call_range_1 ⟨.ref s.heap.objs.size,_,I.laid (fun b u e=>Vu _ e) (Vt _) (o:=.rng 0 j) ?_,rfl,q _ (I.hok.fresh (Vt _))⟩
 exact⟨_,_,_,V0 _ rfl⟩
def Bo (n:Nat):List Int:=(List.range n).map fun(i:Nat)=>(i:Int)
def Lw:List V->Hp->VK->Prop:=fun xs H Q=>∃r j,xs=[.ref r]/\H r=some (.rng 0 j)/\0<=j/\j<=100000/\∀l,H l=none->Q (.ref l) (upd H l (.lst ((Bo j.toNat).map V.int)))
theorem rT {n:Nat}{acc:Array Value}(h:ItemsOf (fun i v=>∃t,v=Value.int (0+i*1) t) acc n):Vals ((Bo n).map V.int) acc.toList:=by
 obtain⟨hs,hi⟩:=h
 have key:∀(m:Nat) (l:List Value),l.length=m->(∀(i:Nat) v,l[i]? = some v->∃t,v=Value.int (0+(i:Int)*1) t)->Vals ((Bo m).map V.int) l:=by
  intro m
  induction m with
  | zero=>intro l hl _;cases l with
   | nil=>exact .nil
   | cons a b=>cases hl
  | succ m ih =>
   intro l hl hv
   have hne:l ≠ []:=by intro z;rw[z]at hl;cases hl
   have hd:l=l.dropLast ++ [l.getLast hne]:=(List.dropLast_concat_getLast hne).symm
   have e:(Bo (m+1)).map V.int =(Bo m).map V.int ++ [V.int (m:Int)]:=by
    unfold Bo
    rw[List.range_succ,Vo,Vo];rfl
   rw[e,hd]
   refine Vals.append (ih _ (by rw[List.length_dropLast,hl];rfl) fun i v hh=>hv i v ?_) (.cons ?_ .nil)
   ·have:i<l.dropLast.length:=(Vj.mp hh).1
    rw[hd,Vx this];exact hh
   ·obtain⟨t,ht⟩:=hv m (l.getLast hne) (by
     rw[List.getLast_eq_getElem,<- Vn]
     congr 1
     omega)
    exact⟨t,by rw[ht];congr 1;omega⟩
 refine key n acc.toList (by rw[<- hs];simp) fun i v hh=>?_
 exact hi i v (by simpa using hh)
theorem yL (hc:X.calm=true):eT X (.type "list") Lw:=by
 intro pins s σ H xs us Q I r h
 obtain⟨a,j,rfl,ha,hj0,hj,q⟩:=h
 obtain⟨u,rfl,rx⟩:=vals1 r
 cases rx
 obtain⟨t,u,v,e⟩:=I.hok _ _ ha
 have hn:Builtin.Range.rangeSize 0 j 1 =(j.toNat:Nat):=by rw[rangeSize_one];split <;> omega
 have hlow:-(2^62)<=j:=by omega
 ·refine call_list_range (n:=j.toNat) (I.ok.hd hc) e (small_one (by omega) (by omega) hlow (by omega)) hn (by omega) fun h' tk acc c hk hD hI=>?_
  have hv:=rT hI
  have hz:((Bo j.toNat).map V.int).length<=sizeLine:=by
   rw[Vi];unfold Bo;rw[Vi,WU]
   have:(100000:Nat)<=sizeLine:=by decide
   omega
  refine⟨.ref s.heap.objs.size,_,I.laid (t':=tk) hk (Vt _) (o:=.lst ((Bo j.toNat).map V.int)) ⟨hz,acc.toList,c,hv,by simpa using hD⟩,rfl,q _ (I.hok.fresh (Vt _))⟩
theorem Fv {j:Int}{H:Hp}{Q:VK}(q:∀r,H r=none->Q (.ref r) (upd H r (.rng 0 j))):G7 [.int j] H Q:=⟨j,rfl,q⟩
theorem E_ {n i:Nat}{x:V}(h:((Bo n).map V.int)[i]? = some x):i<n/\x = .int i:=by
 have hl:=(Vj.mp h).1
 rw[Vi]at hl
 unfold Bo at hl h
 rw[Vi,WU]at hl
 rw[Vp,Vp,List.getElem?_range hl]at h
 exact⟨hl,(VC h).symm⟩
end
section
variable {X:Cx}
def Dn (K:W.Frag):V->Hp->VK->Prop:=fun x H Q=>∃a xs,x = .ref a/\aU K H a xs/\∀p,H p=none->Q (.ref p) (upd H p (.lst xs.reverse))
def M8 (K:W.Frag) (te:TE):TE:=fun σ H Q=>te σ H fun x H1=>Dn K x H1 Q
theorem rq {env:Env}{j:Nat}{q1 q2:Pos}{M:Program}{w:World}{A:Around}{E:Value->Shared->Prop}{s:Shared}{Q:Value->Shared->Prop}(h:∀t tk,Q (.int (-1) t) { s with toks:=tk }) :
  wpAny (model M w) A (evalPart (some (.UnaryOp .USub (.Constant (.int 1) j q1) q2)) env) Q E s:=by
 show wpAny (model M w) A (eval (.UnaryOp .USub (.Constant (.int 1) j q1) q2) env) Q E s
 refine UnaryOp_ (wpAny_Constant_int ?_)
 exact neg_int (h _ _)
theorem vI {e:Expr}{te:TE}{j:Nat}{q1 q2 p2 pos:Pos}(he:PE X e te):PE X (.Subscript e (.Slice none none (some (.UnaryOp .USub (.Constant (.int 1) j q1) q2)) p2) pos) (M8 X.K te):=by
 intro pins s σ H Q I h
 refine Subscript_ (cg (he pins s σ H _ I h) fun v s1 ⟨x,H1,I1,r1,q1⟩=>?_)
 obtain⟨a,xs,rfl,hx,q⟩:=q1
 cases r1
 refine wpAny_Slice ?_
 rw[evalPart_none]
 refine Vz ?_
 refine Vz ?_
 refine rq fun t tk=>?_
 have I4:Inv X pins σ H1 { s1 with heap:=s1.heap.push { cls:=.type "slice",data:=.fields #[.none,.none,.int (-1) t] },toks:=tk }:=I1.kept (t':=tk) fun b ob q=>Vu _ q
 obtain⟨its,r,ht,hz⟩:=I4.list hx
 have hlen:=r.length
 show wpAny (model X.prog X.w) X.A (subscriptTail e (.Slice none none (some (.UnaryOp .USub (.Constant (.int 1) j _) q2)) p2) (.ref a) (.ref s1.heap.objs.size)) (EP X pins σ Q) X.xe { s1 with heap:=s1.heap.push { cls:=.type "slice",data:=.fields #[.none,.none,.int (-1) t] },toks:=tk }
 refine tail_any (T := "list") (ops:=[.ref a,.ref s1.heap.objs.size]) ht.isList.typeIs slot_list_getitem.lookup ?_ (by with_unfolding_all rfl)
 refine wpAny_getItem_list_slice ht.isList (Heap.IsSliceOf.new ..) .none .none (.int (-1) t) (by simp) ?_ (by rw[VJ] <;> omega)
 rw[PySem.W.krv_pick]
 refine⟨.ref _,_,I4.laid (t':=tk) (o:=.lst xs.reverse) (fun b ob q=>Vu _ q) (Vt _) ?_,rfl,q _ (I4.hok.fresh (Vt _))⟩
 exact⟨by rw[V3];exact hz,its.reverse,0,r.reverse,(V0 _ rfl:_)⟩
end
section
variable {K:W.Frag}{H:Hp}{Q:VK}{σ:St}
theorem Lf {te:TE}(h:te σ H fun x H1=>Dn K x H1 Q):M8 K te σ H Q:=h
theorem AD {a:Addr}{xs:List V}(h:aU K H a xs) (q:∀p,H p=none->Q (.ref p) (upd H p (.lst xs.reverse))):Dn K (.ref a) H Q:=⟨a,xs,rfl,h,q⟩
theorem tL:∀ns:List Int,(ns.map V.int).all mO=true
 | []=>rfl
 | n::r=>by rw[VY,List.all_cons,tL r];rfl
theorem vZ (k:Int):∀ns:List Int,CQ (.int k) (ns.map V.int)=decide (k∈ns)
 | []=>by simp[CQ]
 | n::r=>by
  have ih:=vZ k r
  unfold CQ at ih ⊢
  rw[VY,Xx,ih]
  have e:D7 (V.int n) (V.int k)=decide (k=n):=by
   by_cases h:k=n
   ·subst h;simp[D7]
   ·rw[VR h]
    have h2:¬ n=k:=fun z=>h z.symm
    simp[D7,h2]
  rw[e]
  simp[List.mem_cons]
theorem zk {a:Addr}{ns:List Int}{k:Int}(h:aU K H a (ns.map V.int)) (q:Q (.bl (decide (k∈ns))) H):Tq K false (.int k) (.ref a) H Q :=
 ⟨a,_,rfl,.inl h,rfl,tL ns,by rw[vZ];exact q⟩
end
section
variable {X:Cx}{pins:List (Addr×Obj)}{σ:St}{H:Hp}{s:Shared}{h':Heap}
theorem Inv.turnedN {t':Nat}{ch:List Addr}{a:Addr}{o:HO}(I:Inv X pins σ H s) (k:∀b o,b∉ch->s.heap.get? b=some o->h'.get? b=some o) (f:∀b∈ch,jy X pins H b)
  (ha:s.heap.objs.size<=a) (new:dJ X.prog X.w (upd H a o) h' a o):Inv X pins σ (upd H a o) { s with heap:=h',toks:=t' }:=by
 have nit:∀b u,H b=some u->b∉ch:=fun b u e z=>by rw[(f b z).1]at e;cases e
 have hn:=I.hok.fresh ha
 have old:∀b ob,s.heap.get? b=some ob->b≠a:=fun b ob q=>VN (VT (VG q) ha)
 have up:∀b u,H b=some u->upd H a o b=some u:=fun b u q=>by rw[ao (au q hn)];exact q
 refine I.step (g':=s.gens) (d':=s.drawn) (ch:=ch) (fun b hb=>?_) (fun b o _ _ hc e _=>k b o hc e) (fun b o _ _ hc e _=>⟨o.slots,k b o hc e⟩) (fun b ob _ e n=>by rw[ao (old b ob e)];exact n) (fun b o hc e=>⟨o,k b o hc e⟩) (fun b xs e=>up _ _ e) (fun b ob u e=>up _ _ e)
  (fun b ps e=>⟨#[],by rw[up _ _ e];simp⟩) (fun m hm=>?_) (fun b u e=>?_) I.bare
 ·obtain⟨f0,f1,f2,f3,f4,f5⟩:=f b hb
  exact⟨f3,f1,f4,f5⟩
 ·obtain⟨o,es,ep,ho,r⟩:=hm
  exact⟨o,es,ep,k _ o (fun z=>(f _ z).2.1 rfl) ho,r⟩
 ·by_cases hb:b=a
  ·subst hb;rw[aq]at e;cases e;exact new
  ·rw[ao hb]at e
   refine(I.hok b u e).stay (fun c v hc q=>k c v ?_ q) (fun c q=>up _ _ q) fun c xs q=>up _ _ q
   rcases hc with z|z
   ·rw[z];exact nit b u e
   ·exact nit c _ z
end
def Lj (K:W.Frag) (a:Addr):It :=
 ⟨fun i H=>∃xs x,aU K H a xs/\xs[i]? = some x,fun i H x H'=>∃t y,H t=none/\H'=upd H t (.tup [.int i,y])/\x = .ref t/\∀xs,aU K H a xs->xs[i]? = some y,fun i H=>∃xs,aU K H a xs/\xs.length<=i⟩
theorem BK {P:Program}{w:World}{K:W.Frag}{elts:List Expr}{x1}{tpos:Pos}(a e it:Addr) (hne:e≠it) :
  Turn P w K (.Tuple elts x1 tpos) (Lj K a) [e,it] e (fun i h=>(∃old,IsEnum h e it ((i:Nat):Int) old)/\h.IsListIter it a i) where
 mem:=by simp
 obj:=fun i h st b hb=>by
  obtain⟨⟨old,he⟩,⟨o,e1,c,d⟩⟩:=st
  have:b=e\/b=it:=by simpa using hb
  rcases this with rfl|rfl
  ·exact⟨_,he,fun v z=>by cases z⟩
  ·exact⟨o,e1,fun v z=>by rw[d]at z;cases z⟩
 keep:=fun i h h' st k=>by
  obtain⟨⟨old,he⟩,hi⟩:=st
  exact⟨⟨old,k e (by simp) _ he⟩,hi.at fun o q=>k it (by simp) o q⟩
 item:=by
  intro X hP hw hK hc i pins s σ H E I hf st hg
  subst hP hw hK
  obtain⟨xs,x,hq,hx⟩:=hg
  obtain⟨⟨old,he⟩,hit⟩:=st
  obtain⟨its,rv,p,hz⟩:=I.list hq
  obtain⟨u,hu,ru⟩:=rv.get hx
  have fe:=hf e (by simp)
  have fi:=hf it (by simp)
  have heH:e<s.heap.objs.size:=VG he
  obtain⟨oi,hoi,ci,di⟩:=id hit
  have hiH:it<s.heap.objs.size:=VG hoi
  refine wpAny_pyNext_enum_item he hit p.isList (x:=u) (by simpa using hu) hne fun h₁ heo hit₁ ht₁ hz₁ hk₁=>⟨_,rfl,?_⟩
  refine wpAny_letOwnedTupleGo_enum heo fun h₂ he₂ hs₂=>?_
  replace hs₂:Heap.SameBut e h₁ h₂:=hs₂
  have hnew:h₂.get? s.heap.objs.size=some { cls:=.type "tuple",data:=.seq #[.int i s.toks,u] }:=(hs₂.2 _ (XE heH)).trans ht₁
  have hkeep:∀b o,b ∉ [e,it]->s.heap.get? b=some o->h₂.get? b=some o:=fun b o hb q=>by
   have n1:b≠e:=fun z=>hb (by simp[z])
   have n2:b≠it:=fun z=>hb (by simp[z])
   exact(hs₂.2 b n1).trans (hk₁ b o n1 n2 q)
  have free0:=I.hok.fresh (Vt s.heap.objs.size)
  have hT:dJ X.prog X.w (upd H s.heap.objs.size (.tup [.int i,x])) h₂ s.heap.objs.size (.tup [.int i,x]) :=
   ⟨(by show 2<=sizeLine;decide),[.int i s.toks,u],.cons ⟨_,rfl⟩ (.cons ru .nil),⟨_,hnew,rfl,_,rfl⟩⟩
  have I2:Inv X pins σ (upd H s.heap.objs.size (.tup [.int i,x])) { s with heap:=h₂,toks:=s.toks+1 }:=I.turnedN (t':=s.toks+1) hkeep hf (Vt _) hT
  refine⟨.ref s.heap.objs.size,upd H s.heap.objs.size (.tup [.int i,x]),I2,rfl,⟨s.heap.objs.size,x,free0,rfl,rfl,fun ys hy=>by rw[I.list_inj hy hq];exact hx⟩,⟨⟨u,?_⟩,?_⟩,fun b hb=>?_⟩
  ·have:(((i+1:Nat)):Int) =(i:Int)+1:=by omega
   rw[this];exact he₂
  ·exact hit₁.extBut hs₂.extBut (Ne.symm hne)
  ·have hb2:b=e\/b=it:=by simpa using hb
   rw[ao]
   ·exact(hf b hb).1
   ·rcases hb2 with z|z
    ·rw[z];exact VN heH
    ·rw[z];exact VN hiH
 done:=by
  intro X hP hw hK hc i pins s σ H E I hf st hg
  subst hP hw hK
  obtain⟨xs,hq,hx⟩:=hg
  obtain⟨⟨old,he⟩,hit⟩:=st
  obtain⟨its,rv,p,hz⟩:=I.list hq
  obtain⟨f0,f1,f2,f3,f4,f5⟩:=hf it (by simp)
  have hl:=rv.length
  exact wpAny_pyNext_enum_end (I.ok.hd hc) he hit p.isList (by simp;omega) fun h' eb=>⟨rfl,I.turned (t':=s.toks) (fun b o hb e=>eb b o hb e) f0 f1 f3 f4 f5⟩
 self:=fun _ _ _ _ _ st h=>by
  obtain⟨⟨old,he⟩,_⟩:=st
  exact wpAny_pyIter_enum he h
section
variable {X:Cx}{elts:List Expr}{x1:_}{tpos:Pos}
def Il (K:W.Frag) (ta:TA):TI:=fun σ H R=>ta σ H fun vs H1=>∃a,vs=[.ref a]/\(∃xs,aU K H1 a xs)/\R (Lj K a) H1
theorem vq {x1}{l:Expr}{ta:TA}{p pos:Pos}(hg:Gl X "enumerate") (hm:X.mg "enumerate" = none) (ha:PA X [l] ta) (hs:starEach [l] X.env=[(false,eval l X.env)]:=by rfl) :
  PI X (.Tuple elts x1 tpos) (.Call (.Name "enumerate" p) [l] [] pos) (Il X.K ta):=by
 intro pins s σ H R I h
 refine Call_ (pC I hg hm vP (WY (cg (ha pos pins s σ H _ I h) fun us s1 ⟨vs,H1,I1,r1,q1⟩=>?_) hs rfl))
 obtain⟨a,rfl,⟨xs,hq⟩,q⟩:=q1
 obtain⟨u,rfl,ru⟩:=vals1 r1
 cases ru
 obtain⟨its,rv,pl,hz⟩:=I1.list hq
 refine call_enumerate_list pl.isList fun h' he hit hsz hk=>?_
 refine wpAny_pyIter_enum he ?_
 have I2:Inv X pins σ H1 { s1 with heap:=h' }:=I1.kept (t':=s1.toks) hk
 refine⟨s1.heap.objs.size+1,[s1.heap.objs.size+1,s1.heap.objs.size],_,_,H1,rfl,I2,BK a (s1.heap.objs.size+1) s1.heap.objs.size (Nat.succ_ne_self _),⟨⟨_,he⟩,hit⟩,fun b hb=>?_,q⟩
 have hb2:b=s1.heap.objs.size+1\/b=s1.heap.objs.size:=by simpa using hb
 rcases hb2 with rfl|rfl
 ·exact I1.fpOk (XR _) (I1.hok.fresh (XR _))
 ·exact I1.fpOk (Vt _) (I1.hok.fresh (Vt _))
end
section
variable {K:W.Frag}{H:Hp}{Q:VK}{σ:St}
theorem DI {ta:TA}{R:It->Hp->Prop}(h:ta σ H fun vs H1=>∃a,vs=[.ref a]/\(∃xs,aU K H1 a xs)/\R (Lj K a) H1):Il K ta σ H R:=h
theorem yh {a:Addr}{xs:List V}{g:TG}{tb:TS}{D:Ends}(Pv:Nat->St->Hp->Prop) (h0:Pv 0 σ H) (hl:∀i σ H,i<=xs.length->Pv i σ H->aU K H a xs)
  (hs:∀i x σ H t,xs[i]? = some x->Pv i σ H->H t=none->g (.ref t) σ (upd H t (.tup [.int i,x])) fun σ2 H2=>tb { D with nx:=Pv (i+1),ct:=Pv (i+1),bk:=D.nx } σ2 H2) (hd:∀σ H,Pv xs.length σ H->D.nx σ H) :
  ∃W:Nat->Nat->St->Hp->Prop,(∃m,W 0 m σ H)/\∀i m σ H,W i m σ H ->
   ((Lj K a).stop i H/\D.nx σ H) \/((Lj K a).go i H/\∃N:St->Hp->Prop,(∀σ' H',N σ' H'->∃m',m'<m/\W (i+1) m' σ' H')/\∀x H',(Lj K a).yld i H x H'->g x σ H' fun σ2 H2=>tb { D with nx:=N,ct:=N,bk:=D.nx } σ2 H2):=by
 refine⟨fun i m σ H=>m=xs.length-i/\i<=xs.length/\Pv i σ H,⟨xs.length,by simp,VS _,h0⟩,?_⟩
 rintro i m σ H ⟨rfl,hi,p⟩
 have q:=hl i σ H hi p
 by_cases hlt:i<xs.length
 ·refine .inr ⟨⟨xs,xs[i],q,by simp[hlt]⟩,Pv (i+1),fun σ2 H2 p'=>⟨xs.length-(i+1),by omega,rfl,hlt,p'⟩,fun x H2 y=>?_⟩
  obtain⟨t,z,nt,rfl,rfl,hz⟩:=y
  exact hs i z σ H t (hz xs q) p nt
 ·have e:i=xs.length:=by omega
  subst e
  exact .inl ⟨⟨xs,q,Vt _⟩,hd σ H p⟩
end
section
variable {X:Cx}{K:W.Frag}{tg:Expr}
theorem iP {l:Expr}{tl:TE}(h:X.K=K) (hl:PE X l tl):PI X tg l (Cs K tl):=by subst h;exact aZ hl
end
theorem vL {X:Cx}{k n g c}{scope:Scope}{N vs fs:List Str}{js:List Nat}(hs:X.env.scope = { kind:=k,names:=n,isGenerator:=g,isCoroutine:=c }) (hN:X.N=N)
  (h:JO { kind:=k,names:=n,isGenerator:=g,isCoroutine:=c } scope N vs fs js=true):nP X scope vs fs js:=cF h hs hN
section
variable {prog:Program}{w:World}{A:Around}{E:Value->Shared->Prop}{s:Shared}
def zw (prog:Program) (w:World) (A:Around) (E:Value->Shared->Prop) (s:Shared) (ltb:Keyed->Keyed->Bool) (S:Keyed->Prop) (κ:SortKind):Prop :=
 ∀(x y:Keyed) (st:SortSt) (Q:Option Bool->SortSt->Prop),S x->S y->kindOf st=κ->Q (some (ltb x y)) st->wpS (model prog w) A E s (lt' x y) Q st
variable {ltb:Keyed->Keyed->Bool}{S:Keyed->Prop}{κ:SortKind}
theorem yr {ar:Array Keyed}{i:Nat}{x:Keyed}{st:SortSt}{Q:Keyed->SortSt->Prop}(h:ar[i]? = some x) (q:Q x st):wpS (model prog w) A E s (elem' ar i) Q st:=by
 rw[elem'_eq,h];exact Wd q
end
structure vz (ltb:Keyed->Keyed->Bool):Prop where
 asym:∀{x y},ltb x y=true->ltb y x=false
 tr:∀{x y z},ltb y x=false->ltb z y=false->ltb z x=false
def leB (ltb:Keyed->Keyed->Bool) (x y:Keyed):Prop:=ltb y x=false
section
variable {ltb:Keyed->Keyed->Bool}{xa xb ou:List Keyed}{ja jb k:Nat}
theorem oH {α:Type}(l:List α) (j k:Nat):l.drop j =(l.drop j).take k++l.drop (j+k):=by
 rw[<- List.drop_drop];exact(Wh k (l.drop j)).symm
structure MI (ltb:Keyed->Keyed->Bool) (xa xb ou:List Keyed) (ja jb:Nat):Prop where
 srt:ou.Pairwise (leB ltb)
 la:∀x∈ou,∀y∈xa.drop ja,leB ltb x y
 lb:∀x∈ou,∀y∈xb.drop jb,leB ltb x y
 pm:(ou++(xa.drop ja++xb.drop jb)).Perm (xa++xb)
 sz:ou.length=ja+jb
end
def PD (ltb:Keyed->Keyed->Bool):Keyed->Keyed->Bool:=fun x y=>ltb y x
section
variable {ltb:Keyed->Keyed->Bool}{xa xb ou:Array Keyed}{na nb k:Nat}
def HI (ltb:Keyed->Keyed->Bool) (xa xb ou:Array Keyed) (na nb:Nat):Prop:=MI (PD ltb) xb.toList.reverse xa.toList.reverse ou.toList (xb.size-nb) (xa.size-na)
end
section
variable {prog:Program}{w:World}{A:Around}{E:Value->Shared->Prop}{s:Shared}{ltb:Keyed->Keyed->Bool}{S:Keyed->Prop}{κ:SortKind}
theorem D_ {ar:Array Keyed}{P R T:List Keyed}(h:ar.toList=P++R++T) (i:Nat) (hi:i<R.length):ar[P.length+i]? = R[i]?:=by
 have:ar.toList[P.length+i]? = R[i]?:=by
  rw[h,VU,Vs (by omega),Nat.add_sub_cancel_left,Vx hi]
 simpa using this
end
def vv (R:List Keyed) (k l:Nat):List Keyed:=R.take l++((R.drop k).take 1++((R.take k).drop l++R.drop (k+1)))
theorem uc (R:List Keyed) {k l:Nat}(h:l<=k):(vv R k l).Perm R:=by
 unfold vv
 have e1:R.take k=R.take l++(R.take k).drop l:=by
  conv=>lhs;rw[<- Wh l (R.take k)]
  rw[List.take_take,WM h]
 have e2:R=R.take k++((R.drop k).take 1++R.drop (k+1)):=by
  conv=>lhs;rw[<- Wh k R,oH R k 1]
 conv=>rhs;rw[e2]
 rw[e1,VU]
 refine Xp _ ?_
 have e3:List.drop l (R.take l++(R.take k).drop l) =(R.take k).drop l:=by rw[<- e1]
 rw[e3]
 rw[<- VU,<- VU]
 exact List.Perm.append_right _ List.perm_append_comm
theorem xm (R:List Keyed) {k l:Nat}(hk:k<R.length) (hl:l<=k) (p:Nat):(vv R k l)[p]? = if p=l then R[k]? else if l<p/\p<=k then R[p-1]? else R[p]?:=by
 unfold vv
 have len1:(R.take l).length=l:=by rw[Vw];omega
 have len2:((R.drop k).take 1).length=1:=by rw[Vw,Wj];omega
 have len3:((R.take k).drop l).length=k-l:=by rw[Wj,Vw];omega
 by_cases c1:p<l
 ·rw[Vx (by omega),VF (by omega),VF (by omega),WO,VB c1]
 rw[Vs (by omega),len1]
 by_cases c2:p=l
 ·rw[VB c2,Vx (by omega),WO,VB (by omega),Xj]
  congr 1;omega
 rw[VF c2,Vs (by omega),len2]
 by_cases c3:p<=k
 ·rw[VB ⟨by omega,c3⟩,Vx (by omega),Xj,WO,VB (by omega)]
  congr 1;omega
 ·rw[VF (by omega),Vs (by omega),len3,Xj]
  congr 1;omega
theorem yf {ar:Array Keyed}{P R T:List Keyed}(h:ar.toList=P++R++T) {k l:Nat}(hk:k<R.length) (hl:l<=k):(bubble ar (P.length+k) (k-l)).toList=P++vv R k l++T:=by
 have hsz:ar.size=P.length+R.length+T.length:=by
  have:=Wf List.length h
  rw[WW]at this
  simp at this;omega
 have hil:(vv R k l).length=R.length:=(uc R hl).length_eq
 apply Wg
 intro p
 rw[W4,getElem?_bubble (by omega) _ (by omega) p,show P.length+k-(k-l)=P.length+l by omega]
 have get:∀q,ar[q]? =(P++R++T)[q]?:=fun q=>by rw[<- h,W4]
 by_cases c1:p<P.length
 ·rw[VF (by omega),VF (by omega),get,VU,VU,Vx c1,Vx c1]
 ·by_cases c2:p<P.length+R.length
  ·have eR:(P++vv R k l++T)[p]? =(vv R k l)[p-P.length]?:=by
    rw[VU,Vs (by omega),Vx (by omega)]
   have eg:∀q,P.length<=q->q<P.length+R.length->ar[q]? = R[q-P.length]?:=fun q h1 h2=>by
    rw[get,VU,Vs h1,Vx (by omega)]
   rw[eR,xm R hk hl]
   by_cases c3:p=P.length+l
   ·rw[VB c3,VB (show p-P.length=l by omega),eg _ (by omega) (by omega)];congr 1;omega
   ·rw[VF c3,VF (show ¬ p-P.length=l by omega)]
    by_cases c4:P.length+l<p/\p<=P.length+k
    ·rw[VB c4,VB (show l<p-P.length/\p-P.length<=k by omega),eg _ (by omega) (by omega)];congr 1;omega
    ·rw[VF c4,VF (show ¬(l<p-P.length/\p-P.length<=k) by omega),eg _ (by omega) (by omega)]
  ·rw[VF (by omega),VF (by omega),get,VU,VU,Vs (by omega),Vs (by omega),Vs (by omega),Vs (by omega),hil]
section
variable {prog:Program}{w:World}{A:Around}{E:Value->Shared->Prop}{s:Shared}{ltb:Keyed->Keyed->Bool}{S:Keyed->Prop}{κ:SortKind}
theorem uh (hO:zw prog w A E s ltb S κ) {st:SortSt}{i j:Nat}{x y:Keyed}{Q:Option Bool->SortSt->Prop}(hk:kindOf st=κ) (hi:(arrOf st)[i]? = some x) (hj:(arrOf st)[j]? = some y) (Sx:S x) (Sy:S y) (q:Q (some (ltb x y)) st):wpS (model prog w) A E s (ltAt' i j) Q st:=by
 rw[ltAt'_eq]
 refine V1 (wpS_get ?_)
 exact V1 (yr hi (V1 (yr hj (hO x y st Q Sx Sy hk q))))
def cM (ltb:Keyed->Keyed->Bool) (R:List Keyed) (k:Nat):Prop:=∀i j x y,i<j->j<k->R[i]? = some x->R[j]? = some y->leB ltb x y
theorem CU (O:vz ltb) (hO:zw prog w A E s ltb S κ) {st:SortSt}{Q:Bool->SortSt->Prop}{P R T:List Keyed}{ok:Nat}(hk:kindOf st=κ) (hf:failedOf st=none) (harr:(arrOf st).toList=P++R++T) (hok:ok<=R.length) (hr:cM ltb R ok) (hSa:∀x∈R,S x)
  (h:∀(st':SortSt) (R':List Keyed),(arrOf st').toList=P++R'++T->R'.Perm R->cM ltb R' R'.length->kindOf st'=κ->failedOf st'=none->pendingOf st'=pendingOf st->Q true st'):wpS (model prog w) A E s (binarySort' P.length R.length ok) Q st:=by
 rw[binarySort'_eq]
 refine V1 (Xz (WT (I:=fun k c st'=>c =(none,())/\kindOf st'=κ/\failedOf st'=none/\pendingOf st'=pendingOf st/\∃R',(arrOf st').toList=P++R'++T/\R'.Perm R/\cM ltb R' (min k R.length))
  (Q:=fun c st'=>c =(none,())/\kindOf st'=κ/\failedOf st'=none/\pendingOf st'=pendingOf st/\∃R',(arrOf st').toList=P++R'++T/\R'.Perm R/\cM ltb R' R.length) ?step ?fin ⟨rfl,hk,hf,rfl,R,harr,List.Perm.refl _,?init⟩) ?post)
 case init =>
  intro i j x y hij hj hx hy
  exact hr i j x y hij (by omega) hx hy
 case fin =>
  rintro c st' ⟨hc,k1,k2,k3,R',a1,a2,a3⟩
  exact⟨hc,k1,k2,k3,R',a1,a2,fun i j x y hij hj=>a3 i j x y hij (by omega)⟩
 case post =>
  rintro c st' ⟨rfl,k1,k2,k3,R',a1,a2,a3⟩
  exact Wd (h st' R' a1 a2 (by rw[a2.length_eq];exact a3) k1 k2 k3)
 case step =>
  rintro k c st' h1 hkn ⟨rfl,k1,k2,k3,R',a1,a2,a3⟩
  rw[show min k R.length=k by omega]at a3
  have hlen:=a2.length_eq
  have hS':∀x∈R',S x:=fun x hx=>hSa x (a2.mem_iff.mp hx)
  have gt:∀i,i<R'.length->(arrOf st')[P.length+i]? = R'[i]?:=fun i hi=>D_ a1 i hi
  obtain⟨v,hv⟩ : ∃v,R'[k]? = some v:=⟨_,Vn (by omega)⟩
  have Sv:=hS' v (Vk hv)
  refine V1 (Xz (WT (I:=fun x c st''=>st''=st'/\∃l r,c =(none,l,r)/\l<=r/\r<=k/\r-l<=k-x/\(∀i x,i<l->R'[i]? = some x->leB ltb x v)/\(∀i x,r<=i->i<k->R'[i]? = some x->ltb v x=true))
   (Q:=fun c st''=>st''=st'/\∃l r,c =(none,l,r)/\l<=k/\(∀i x,i<l->R'[i]? = some x->leB ltb x v)/\(∀i x,l<=i->i<k->R'[i]? = some x->ltb v x=true)) ?istep ?ifin ⟨rfl,0,k,rfl,by omega,by omega,by omega,fun i x hi=>by omega,fun i x h1 h2=>by omega⟩) ?ipost)
  case ifin =>
   rintro c st'' ⟨rfl,l,r,rfl,b1,b2,b3,b4,b5⟩
   have:l=r:=by omega
   subst this
   exact⟨rfl,l,l,rfl,b2,b4,b5⟩
  case istep =>
   rintro x c st'' _ hxk ⟨e,l,r,rfl,b1,b2,b3,b4,b5⟩
   rw[e]
   dsimp only
   by_cases hge:l ≥ r
   ·rw[VB hge]
    have:l=r:=by omega
    subst this
    exact Wd ⟨rfl,l,l,rfl,b2,b4,b5⟩
   ·rw[VF hge]
    obtain⟨u,hu⟩ : ∃u,R'[(l+r) / 2]? = some u:=⟨_,Vn (by omega)⟩
    refine V1 (uh hO k1 (by rw[gt k (by omega)];exact hv) (by rw[gt _ (by omega)];exact hu) Sv (hS' u (Vk hu)) ?_)
    dsimp only
    cases hw:ltb v u with
    | true =>
     simp only[if_true]
     refine Wd ⟨rfl,l,(l+r) / 2,rfl,by omega,by omega,by omega,b4,fun i y q1 q2 hy=>?_⟩
     by_cases ei:i =(l+r) / 2
     ·subst ei;rw[hu]at hy;cases hy;exact hw
     ·have le1:=a3 ((l+r) / 2) i u y (by omega) q2 hu hy
      cases q:ltb v y with
      | true=>rfl
      | false=>have:=O.tr le1 q;rw[hw]at this;cases this
    | false =>
     simp only[Bool.false_eq_true,if_false]
     refine Wd ⟨rfl,(l+r) / 2+1,r,rfl,by omega,by omega,by omega,fun i y q1 hy=>?_,b5⟩
     by_cases ei:i =(l+r) / 2
     ·subst ei;rw[hu]at hy;cases hy;exact hw
     ·exact O.tr (a3 i ((l+r) / 2) y u (by omega) (by omega) hy hu) hw
  case ipost =>
   rintro c st'' ⟨e,l,r,rfl,b1,b4,b5⟩
   rw[e]
   show wpS _ _ _ _ (do moveDown' (P.length+k) (P.length+l);pure (ForInStep.yield (none,()))) _ _
   rw[moveDown'_eq]
   refine V1 (W3 (Wd ⟨rfl,k1,k2,k3,vv R' k l,?_,(uc R' b1).trans a2,?_⟩))
   ·show(bubble (arrOf st') (P.length+k) (P.length+k-(P.length+l))).toList=_
    rw[show P.length+k-(P.length+l)=k-l by omega]
    exact yf a1 (by omega) b1
   ·rw[show min (k+1) R.length=k+1 by omega]
    intro i j x y hij hj hx hy
    rw[xm R' (by omega) b1]at hx hy
    by_cases i1:i=l
    ·rw[VB i1,hv]at hx
     cases hx
     rw[VF (by omega),VB (by omega)]at hy
     exact O.asym (b5 (j-1) y (by omega) (by omega) hy)
    rw[VF i1]at hx
    by_cases i2:l<i/\i<=k
    ·rw[VB i2]at hx
     rw[VF (by omega),VB (by omega)]at hy
     exact a3 (i-1) (j-1) x y (by omega) (by omega) hx hy
    rw[VF i2]at hx
    by_cases j1:j=l
    ·rw[VB j1,hv]at hy
     cases hy
     exact b4 i x (by omega) hx
    rw[VF j1]at hy
    by_cases j2:l<j/\j<=k
    ·rw[VB j2]at hy
     exact a3 i (j-1) x y (by omega) (by omega) hx hy
    ·rw[VF j2]at hy
     exact a3 i j x y hij (by omega) hx hy
end
def gn (R:List Keyed) (i j:Nat):List Keyed:=R.take i++(((R.take j).drop i).reverse++R.drop j)
theorem j9 (R:List Keyed) {i j:Nat}(h:i<=j):(gn R i j).Perm R:=by
 unfold gn
 have e1:R.take j=R.take i++(R.take j).drop i:=by
  conv=>lhs;rw[<- Wh i (R.take j)]
  rw[List.take_take,WM h]
 have:(R.take i++(((R.take j).drop i).reverse++R.drop j)).Perm (R.take i++((R.take j).drop i++R.drop j)):=Xp _ (List.Perm.append_right _ (List.reverse_perm _))
 refine this.trans (List.Perm.of_eq ?_)
 rw[<- VU,<- e1,Wh]
theorem eU (R:List Keyed) {i j:Nat}(hj:j<=R.length) (h:i<=j) (p:Nat):(gn R i j)[p]? = if i<=p/\p<j then R[i+j-1-p]? else R[p]?:=by
 unfold gn
 have len1:(R.take i).length=i:=by rw[Vw];omega
 have len2:((R.take j).drop i).length=j-i:=by rw[Wj,Vw];omega
 by_cases c1:p<i
 ·rw[Vx (by omega),VF (by omega),WO,VB c1]
 rw[Vs (by omega),len1]
 by_cases c2:p<j
 ·rw[VB ⟨by omega,c2⟩,Vx (by rw[V3];omega),List.getElem?_reverse (by omega),len2,Xj,WO,VB (by omega)]
  congr 1;omega
 ·rw[VF (by omega),Vs (by rw[V3];omega),V3,len2,Xj]
  congr 1;omega
theorem yw {ar:Array Keyed}{P R:List Keyed}(h:ar.toList=P++R) {i j:Nat}(hj:j<=R.length) (hi:i<=j):(mirror ar (P.length+i) (P.length+j) ((P.length+j-(P.length+i)) / 2)).toList=P++gn R i j:=by
 have hsz:ar.size=P.length+R.length:=by
  have:=Wf List.length h
  rw[WW]at this
  simp at this;omega
 apply Wg
 intro p
 rw[W4,getElem?_mirror_all (by omega) p]
 have get:∀q,ar[q]? =(P++R)[q]?:=fun q=>by rw[<- h,W4]
 by_cases c1:p<P.length
 ·rw[VF (by omega),get,Vx c1,Vx c1]
 ·rw[Vs (by omega),eU R hj hi]
  by_cases c2:P.length+i<=p/\p<P.length+j
  ·rw[VB c2,VB (show i<=p-P.length/\p-P.length<j by omega),get,Vs (by omega)]
   congr 1;omega
  ·rw[VF c2,VF (show ¬(i<=p-P.length/\p-P.length<j) by omega),get,Vs (by omega)]
theorem vz.refl {ltb:Keyed->Keyed->Bool}(O:vz ltb) (x:Keyed):leB ltb x x:=by
 unfold leB
 cases q:ltb x x with
 | false=>rfl
 | true=>have:=O.asym q;rw[q]at this;cases this
def eG (ltb:Keyed->Keyed->Bool) (R:List Keyed) (k:Nat):Prop:=∀i j x y,i<j->j<k->R[i]? = some x->R[j]? = some y->leB ltb y x
def sW (ltb:Keyed->Keyed->Bool) (R:List Keyed) (a b:Nat):Prop:=∀i j x y,a<=i->i<b->a<=j->j<b->R[i]? = some x->R[j]? = some y->leB ltb x y
section
variable {ltb:Keyed->Keyed->Bool}{R:List Keyed}
theorem cM.more (O:vz ltb) {n:Nat}(h:cM ltb R n) (hn:1<=n) {u v:Keyed}(hu:R[n-1]? = some u) (hv:R[n]? = some v) (c:leB ltb u v):cM ltb R (n+1):=by
 intro i j x y hij hj hx hy
 by_cases e:j=n
 ·subst e
  rw[hv]at hy;cases hy
  by_cases e2:i=j-1
  ·subst e2;rw[hu]at hx;cases hx;exact c
  ·exact O.tr (h i (j-1) x u (by omega) (by omega) hx hu) c
 ·exact h i j x y hij (by omega) hx hy
theorem eG.more (O:vz ltb) {n:Nat}(h:eG ltb R n) (hn:1<=n) {u v:Keyed}(hu:R[n-1]? = some u) (hv:R[n]? = some v) (c:leB ltb v u):eG ltb R (n+1):=by
 intro i j x y hij hj hx hy
 by_cases e:j=n
 ·subst e
  rw[hv]at hy;cases hy
  by_cases e2:i=j-1
  ·subst e2;rw[hu]at hx;cases hx;exact c
  ·exact O.tr c (h i (j-1) x u (by omega) (by omega) hx hu)
 ·exact h i j x y hij (by omega) hx hy
theorem eG.seg {n a:Nat}(h:eG ltb R n) (ha:a<=n) (hn:n<=R.length) (e:sW ltb R a n):eG ltb (gn R a n) n:=by
 intro i j x y hij hj hx hy
 rw[eU R hn ha]at hx hy
 by_cases c1:a<=i
 ·rw[VB ⟨c1,by omega⟩]at hx
  rw[VB ⟨by omega,hj⟩]at hy
  exact e _ _ y x (by omega) (by omega) (by omega) (by omega) hy hx
 ·rw[VF (by omega)]at hx
  by_cases c2:a<=j
  ·rw[VB ⟨c2,hj⟩]at hy
   exact h i _ x y (by omega) (by omega) hx hy
  ·rw[VF (by omega)]at hy
   exact h i j x y hij hj hx hy
theorem eG.turn {n:Nat}(h:eG ltb R n) (hn:n<=R.length):cM ltb (gn R 0 n) n:=by
 intro i j x y hij hj hx hy
 rw[eU R hn (VS _),VB ⟨VS _,by omega⟩]at hx
 rw[eU R hn (VS _),VB ⟨VS _,hj⟩]at hy
 exact h _ _ y x (by omega) (by omega) hy hx
end
section
variable {prog:Program}{w:World}{A:Around}{E:Value->Shared->Prop}{s:Shared}{ltb:Keyed->Keyed->Bool}{S:Keyed->Prop}{κ:SortKind}
structure ZS (κ:SortKind) (st:SortSt) (P R:List Keyed) (st':SortSt) (R':List Keyed):Prop where
 kind:kindOf st'=κ
 fail:failedOf st'=none
 pend:pendingOf st'=pendingOf st
 arr:(arrOf st').toList=P++R'
 perm:R'.Perm R
theorem ZS.rev {st st':SortSt}{P R R':List Keyed}(z:ZS κ st P R st' R') {i j:Nat}(hj:j<=R'.length) (hi:i<=j):ZS κ st P R (setArr st' (mirror (arrOf st') (P.length+i) (P.length+j) ((P.length+j-(P.length+i)) / 2))) (gn R' i j) :=
 ⟨z.kind,z.fail,z.pend,yw z.arr hj hi,(j9 R' hi).trans z.perm⟩
theorem ZS.at {st st':SortSt}{P R R':List Keyed}(z:ZS κ st P R st' R') (i:Nat) (hi:i<R'.length):(arrOf st')[P.length+i]? = R'[i]?:=D_ (T:=[]) (by rw[V5];exact z.arr) i hi
theorem ZS.ask (hO:zw prog w A E s ltb S κ) {st st':SortSt}{P R R':List Keyed}(z:ZS κ st P R st' R') (hS:∀x∈R,S x) {a b i j:Nat}(ea:a=P.length+i) (eb:b=P.length+j) (hi:i<R'.length) (hj:j<R'.length) {Q:Option Bool->SortSt->Prop}(q:∀x y,R'[i]? = some x->R'[j]? = some y->Q (some (ltb x y)) st') :
  wpS (model prog w) A E s (ltAt' a b) Q st':=by
 have m:∀x,x∈R'->S x:=fun x hx=>hS x (z.perm.mem_iff.mp hx)
 obtain⟨x,hx⟩ : ∃x,R'[i]? = some x:=⟨_,Vn hi⟩
 obtain⟨y,hy⟩ : ∃y,R'[j]? = some y:=⟨_,Vn hj⟩
 exact uh hO z.kind (by rw[ea,z.at i hi];exact hx) (by rw[eb,z.at j hj];exact hy) (m x (Vk hx)) (m y (Vk hy)) (q x y hx hy)
theorem Em (O:vz ltb) (hO:zw prog w A E s ltb S κ) {st:SortSt}{Q:Option Nat->SortSt->Prop}{P R:List Keyed}(hk:kindOf st=κ) (hf:failedOf st=none) (harr:(arrOf st).toList=P++R) (hR:1<=R.length) (hS:∀x∈R,S x)
  (h:∀(st':SortSt) (R':List Keyed) (n:Nat),ZS κ st P R st' R'->1<=n->n<=R.length->cM ltb R' n->Q (some n) st'):wpS (model prog w) A E s (countRun' P.length R.length) Q st:=by
 have z0:ZS κ st P R st R:=⟨hk,hf,rfl,harr,List.Perm.refl _⟩
 rw[countRun'_eq]
 refine V1 (Xz (WT (I:=fun x c st'=>st'=st/\c =(none,x)/\cM ltb R x/\x<=R.length)
  (Q:=fun c st'=>st'=st/\∃n,c =(none,n)/\1<=n/\n<=R.length/\cM ltb R n/\(n<R.length->∀u v,R[n-1]? = some u->R[n]? = some v->ltb v u=true)) ?stp ?fin ⟨rfl,rfl,fun i j x y hij hj=>by omega,hR⟩) ?post)
 case fin =>
  rintro c st' ⟨rfl,rfl,a1,a2⟩
  exact⟨rfl,_,rfl,by omega,a2,a1,fun q=>by omega⟩
 case stp =>
  rintro x c st' hx1 hx2 ⟨est,rfl,a1,a2⟩
  rw[est]
  dsimp only
  refine V1 (z0.ask hO hS (i:=x) (j:=x-1) rfl (by omega) hx2 (by omega) fun v u hv hu=>?_)
  dsimp only
  cases hw:ltb v u with
  | true =>
   simp only[if_true]
   exact Wd ⟨rfl,x,rfl,hx1,a2,a1,fun _ u' v' hu' hv'=>by rw[hu]at hu';rw[hv]at hv';cases hu';cases hv';exact hw⟩
  | false =>
   simp only[Bool.false_eq_true,if_false]
   exact Wd ⟨rfl,rfl,a1.more O hx1 hu hv hw,by omega⟩
 case post =>
  rintro c st' ⟨est,n,rfl,a1,a2,a3,a4⟩
  rw[est]
  dsimp only
  by_cases c1:n=R.length
  ·rw[VB (by simpa using c1)]
   exact Wd (h st R n z0 a1 a2 a3)
  rw[VF (by simpa using c1)]
  have a4:=a4 (by omega)
  obtain⟨u0,hu0⟩ : ∃u,R[n-1]? = some u:=⟨_,Vn (by omega)⟩
  obtain⟨v0,hv0⟩ : ∃v,R[n]? = some v:=⟨_,Vn (by omega)⟩
  have hw0:=a4 u0 v0 hu0 hv0
  by_cases c2:n > 1
  ·rw[VB c2]
   refine V1 (z0.ask hO hS (i:=0) (j:=n-1) rfl (by omega) (by omega) (by omega) fun f l hf0 hl0=>?_)
   rw[hu0]at hl0;cases hl0
   dsimp only
   cases hw1:ltb f u0 with
   | true =>
    simp only[if_true]
    exact Wd (h st R n z0 a1 a2 a3)
   | false =>
    simp only[Bool.false_eq_true,if_false]
    rw[WD]
    refine V1 (W3 ?_)
    have z1:=z0.rev (i:=0) (j:=n) (by omega) (VS _)
    rw[Nat.add_zero]at z1
    have eq0:sW ltb R 0 n:=fun i j x y _ i2 _ j2 hx hy=>by
     have t1:leB ltb x u0:=by
      by_cases e:i=n-1
      ·subst e;rw[hu0]at hx;cases hx;exact O.refl _
      ·exact a3 i (n-1) x u0 (by omega) (by omega) hx hu0
     have t2:leB ltb f y:=by
      by_cases e:j=0
      ·subst e;rw[hf0]at hy;cases hy;exact O.refl _
      ·exact a3 0 j f y (by omega) j2 hf0 hy
     exact O.tr (O.tr t1 hw1) t2
    have f1:eG ltb (gn R 0 n) (n+1):=by
     have ff:eG ltb R n:=fun i j x y hij hj hx hy=>eq0 j i y x (by omega) hj (by omega) (by omega) hy hx
     have fr:=ff.seg (a:=0) (by omega) (by omega) eq0
     obtain⟨u2,hu2⟩ : ∃u2,(gn R 0 n)[n-1]? = some u2:=⟨_,Vn (by rw[(j9 R (by omega)).length_eq];omega)⟩
     have hu3:=hu2
     rw[eU R (by omega) (by omega),VB (by omega)]at hu3
     refine fr.more O (by omega) hu2 (by rw[eU R (by omega) (by omega),VF (by omega)];exact hv0) (O.tr (O.asym hw0) (eq0 (n-1) _ u0 u2 (by omega) (by omega) (by omega) (by omega) hu0 hu3))
    generalize setArr st (mirror (arrOf st) P.length (P.length+n) ((P.length+n-P.length) / 2))=st1 at z1 ⊢
    generalize hR1:gn R 0 n=R1 at z1 f1
    refine V1 (wpS_lift (Xl ⟨rfl,?_⟩))
    refine V1 (Xz (WT (I:=fun x c st'=>∃R' q,c =(none,x,q)/\ZS κ st P R st' R'/\q+1<=x/\x<=R.length/\eG ltb R' x/\sW ltb R' (x-(q+1)) x)
     (Q:=fun c st'=>∃R' m q,c =(none,m,q)/\ZS κ st P R st' R'/\q+1<=m/\m<=R.length/\eG ltb R' m/\sW ltb R' (m-(q+1)) m) ?stp3 ?fin3 ⟨R1,0,rfl,z1,by omega,by omega,f1,fun i j x y i1 i2 j1 j2 hx hy=>by
      have e1:i=j:=by omega
      subst e1;rw[hx]at hy;cases hy;exact O.refl x⟩) ?post3)
    case fin3 =>
     rintro c st' ⟨R',q,rfl,b1,b2,b3,b4,b5⟩
     exact⟨R',_,q,rfl,b1,b2,b3,b4,b5⟩
    case stp3 =>
     rintro x c st' hx1 hx2 ⟨R',q,rfl,b1,b2,b3,b4,b5⟩
     have hl:=b1.perm.length_eq
     dsimp only
     refine V1 (b1.ask hO hS (i:=x) (j:=x-1) rfl (by omega) (by omega) (by omega) fun v u hv hu=>?_)
     dsimp only
     cases hw:ltb v u with
     | true =>
      simp only[if_true]
      by_cases c6:q > 0
      ·rw[VB c6,WD]
       refine V1 (W3 ?_)
       have zr:=b1.rev (i:=x-(q+1)) (j:=x) (by omega) (by omega)
       have fr:=b4.seg (a:=x-(q+1)) (by omega) (by omega) b5
       have hv2:(gn R' (x-(q+1)) x)[x]? = some v:=by rw[eU R' (by omega) (by omega),VF (by omega)];exact hv
       obtain⟨u2,hu2⟩ : ∃u2,(gn R' (x-(q+1)) x)[x-1]? = some u2:=⟨_,Vn (by rw[(j9 R' (by omega)).length_eq];omega)⟩
       have hu3:=hu2
       rw[eU R' (by omega) (by omega),VB (by omega)]at hu3
       have cc:leB ltb v u2:=O.tr (O.asym hw) (b5 (x-1) _ u u2 (by omega) (by omega) (by omega) (by omega) hu hu3)
       refine Wd ⟨_,0,rfl,?_,by omega,by omega,fr.more O (by omega) hu2 hv2 cc,fun i j x y i1 i2 j1 j2 hx hy=>by
        have e1:i=j:=by omega
        subst e1;rw[hx]at hy;cases hy;exact O.refl x⟩
       rw[show P.length+x-(q+1)=P.length+(x-(q+1)) by omega]
       exact zr
      ·rw[VF c6]
       exact Wd ⟨R',0,rfl,b1,by omega,by omega,b4.more O (by omega) hu hv (O.asym hw),fun i j x y i1 i2 j1 j2 hx hy=>by
        have e1:i=j:=by omega
        subst e1;rw[hx]at hy;cases hy;exact O.refl x⟩
     | false =>
      simp only[Bool.false_eq_true,if_false]
      refine V1 (b1.ask hO hS (i:=x-1) (j:=x) (by omega) rfl (by omega) (by omega) fun u' v' hu' hv'=>?_)
      rw[hu]at hu';cases hu'
      rw[hv]at hv';cases hv'
      dsimp only
      cases hw2:ltb u v with
      | true =>
       simp only[if_true]
       exact Wd ⟨R',x,q,rfl,b1,b2,b3,b4,b5⟩
      | false =>
       simp only[Bool.false_eq_true,if_false]
       refine Wd ⟨R',q+1,rfl,b1,by omega,by omega,b4.more O (by omega) hu hv hw2,fun i j p r i1 i2 j1 j2 hp hr=>?_⟩
       have toU:∀i p,x+1-(q+1+1)<=i->i<x+1->R'[i]? = some p->leB ltb p u/\leB ltb u p:=fun i p g1 g2 hp=>by
        by_cases e:i=x
        ·subst e;rw[hv]at hp;cases hp;exact⟨hw2,hw⟩
        ·exact⟨b5 i (x-1) p u (by omega) (by omega) (by omega) (by omega) hp hu,b5 (x-1) i u p (by omega) (by omega) (by omega) (by omega) hu hp⟩
       exact O.tr (toU i p (by omega) i2 hp).1 (toU j r (by omega) j2 hr).2
    case post3 =>
     rintro c st3 ⟨R',m,q,rfl,b1,b2,b3,b4,b5⟩
     have hl:=b1.perm.length_eq
     dsimp only
     by_cases c7:q > 0
     ·rw[VB c7,WD]
      refine V1 (W3 ?_)
      have zr:=b1.rev (i:=m-(q+1)) (j:=m) (by omega) (by omega)
      rw[show P.length+(m-(q+1))=P.length+m-(q+1) by omega]at zr
      have fr:=b4.seg (a:=m-(q+1)) (by omega) (by omega) b5
      have hl2:=zr.perm.length_eq
      generalize setArr st3 (mirror (arrOf st3) (P.length+m-(q+1)) (P.length+m) ((P.length+m-(P.length+m-(q+1))) / 2))=st4 at zr ⊢
      generalize gn R' (m-(q+1)) m=R4 at zr fr hl2
      rw[WD]
      refine V1 (W3 ?_)
      have z5:=zr.rev (i:=0) (j:=m) (by omega) (VS _)
      rw[Nat.add_zero]at z5
      have r5:=fr.turn (by omega)
      generalize setArr st4 (mirror (arrOf st4) P.length (P.length+m) ((P.length+m-P.length) / 2))=st5 at z5 ⊢
      refine V1 (Xz (WT (I:=fun x c st'=>st'=st5/\c =(none,x)/\cM ltb (gn R4 0 m) x/\x<=R.length)
       (Q:=fun c st'=>st'=st5/\∃n,c =(none,n)/\1<=n/\n<=R.length/\cM ltb (gn R4 0 m) n) ?stp5 ?fin5 ⟨rfl,rfl,r5,by omega⟩) ?post5)
      case fin5 =>
       rintro c st' ⟨est,rfl,b1,b2⟩
       exact⟨est,_,rfl,by omega,b2,b1⟩
      case post5 =>
       rintro c st' ⟨est,n5,rfl,b1,b2,b3⟩
       rw[est]
       exact Wd (h _ _ n5 z5 b1 b2 b3)
      case stp5 =>
       rintro x c st' hx1 hx2 ⟨est,rfl,b1,b2⟩
       rw[est]
       dsimp only
       refine V1 (z5.ask hO hS (i:=x) (j:=x-1) rfl (by omega) (by rw[z5.perm.length_eq];exact hx2) (by rw[z5.perm.length_eq];omega) fun v u hv hu=>?_)
       dsimp only
       cases hw:ltb v u with
       | true =>
        simp only[if_true]
        exact Wd ⟨rfl,x,rfl,by omega,b2,b1⟩
       | false =>
        simp only[Bool.false_eq_true,if_false]
        exact Wd ⟨rfl,rfl,b1.more O (by omega) hu hv hw,by omega⟩
     ·rw[VF c7,WD]
      refine V1 (W3 ?_)
      have z5:=b1.rev (i:=0) (j:=m) (by omega) (VS _)
      rw[Nat.add_zero]at z5
      have r5:=b4.turn (by omega)
      generalize setArr st3 (mirror (arrOf st3) P.length (P.length+m) ((P.length+m-P.length) / 2))=st5 at z5 ⊢
      refine V1 (Xz (WT (I:=fun x c st'=>st'=st5/\c =(none,x)/\cM ltb (gn R' 0 m) x/\x<=R.length)
       (Q:=fun c st'=>st'=st5/\∃n,c =(none,n)/\1<=n/\n<=R.length/\cM ltb (gn R' 0 m) n) ?stp5 ?fin5 ⟨rfl,rfl,r5,by omega⟩) ?post5)
      case fin5 =>
       rintro c st' ⟨est,rfl,b1,b2⟩
       exact⟨est,_,rfl,by omega,b2,b1⟩
      case post5 =>
       rintro c st' ⟨est,n5,rfl,b1,b2,b3⟩
       rw[est]
       exact Wd (h _ _ n5 z5 b1 b2 b3)
      case stp5 =>
       rintro x c st' hx1 hx2 ⟨est,rfl,b1,b2⟩
       rw[est]
       dsimp only
       refine V1 (z5.ask hO hS (i:=x) (j:=x-1) rfl (by omega) (by rw[z5.perm.length_eq];exact hx2) (by rw[z5.perm.length_eq];omega) fun v u hv hu=>?_)
       dsimp only
       cases hw:ltb v u with
       | true =>
        simp only[if_true]
        exact Wd ⟨rfl,x,rfl,by omega,b2,b1⟩
       | false =>
        simp only[Bool.false_eq_true,if_false]
        exact Wd ⟨rfl,rfl,b1.more O (by omega) hu hv hw,by omega⟩
  ·rw[VF c2]
   have e1:n=1:=by omega
   have f1:eG ltb R (n+1):=by
    have ff:eG ltb R n:=fun i j x y hij hj hx hy=>by omega
    exact ff.more O a1 hu0 hv0 (O.asym hw0)
   have z1:=z0
   have hR1:∃R1,R1=R:=⟨_,rfl⟩
   refine V1 (wpS_lift (Xl ⟨rfl,?_⟩))
   refine V1 (Xz (WT (I:=fun x c st'=>∃R' q,c =(none,x,q)/\ZS κ st P R st' R'/\q+1<=x/\x<=R.length/\eG ltb R' x/\sW ltb R' (x-(q+1)) x)
    (Q:=fun c st'=>∃R' m q,c =(none,m,q)/\ZS κ st P R st' R'/\q+1<=m/\m<=R.length/\eG ltb R' m/\sW ltb R' (m-(q+1)) m) ?stp3 ?fin3 ⟨R,0,rfl,z1,by omega,by omega,f1,fun i j x y i1 i2 j1 j2 hx hy=>by
     have e1:i=j:=by omega
     subst e1;rw[hx]at hy;cases hy;exact O.refl x⟩) ?post3)
   case fin3 =>
    rintro c st' ⟨R',q,rfl,b1,b2,b3,b4,b5⟩
    exact⟨R',_,q,rfl,b1,b2,b3,b4,b5⟩
   case stp3 =>
    rintro x c st' hx1 hx2 ⟨R',q,rfl,b1,b2,b3,b4,b5⟩
    have hl:=b1.perm.length_eq
    dsimp only
    refine V1 (b1.ask hO hS (i:=x) (j:=x-1) rfl (by omega) (by omega) (by omega) fun v u hv hu=>?_)
    dsimp only
    cases hw:ltb v u with
    | true =>
     simp only[if_true]
     by_cases c6:q > 0
     ·rw[VB c6,WD]
      refine V1 (W3 ?_)
      have zr:=b1.rev (i:=x-(q+1)) (j:=x) (by omega) (by omega)
      have fr:=b4.seg (a:=x-(q+1)) (by omega) (by omega) b5
      have hv2:(gn R' (x-(q+1)) x)[x]? = some v:=by rw[eU R' (by omega) (by omega),VF (by omega)];exact hv
      obtain⟨u2,hu2⟩ : ∃u2,(gn R' (x-(q+1)) x)[x-1]? = some u2:=⟨_,Vn (by rw[(j9 R' (by omega)).length_eq];omega)⟩
      have hu3:=hu2
      rw[eU R' (by omega) (by omega),VB (by omega)]at hu3
      have cc:leB ltb v u2:=O.tr (O.asym hw) (b5 (x-1) _ u u2 (by omega) (by omega) (by omega) (by omega) hu hu3)
      refine Wd ⟨_,0,rfl,?_,by omega,by omega,fr.more O (by omega) hu2 hv2 cc,fun i j x y i1 i2 j1 j2 hx hy=>by
       have e1:i=j:=by omega
       subst e1;rw[hx]at hy;cases hy;exact O.refl x⟩
      rw[show P.length+x-(q+1)=P.length+(x-(q+1)) by omega]
      exact zr
     ·rw[VF c6]
      exact Wd ⟨R',0,rfl,b1,by omega,by omega,b4.more O (by omega) hu hv (O.asym hw),fun i j x y i1 i2 j1 j2 hx hy=>by
       have e1:i=j:=by omega
       subst e1;rw[hx]at hy;cases hy;exact O.refl x⟩
    | false =>
     simp only[Bool.false_eq_true,if_false]
     refine V1 (b1.ask hO hS (i:=x-1) (j:=x) (by omega) rfl (by omega) (by omega) fun u' v' hu' hv'=>?_)
     rw[hu]at hu';cases hu'
     rw[hv]at hv';cases hv'
     dsimp only
     cases hw2:ltb u v with
     | true =>
      simp only[if_true]
      exact Wd ⟨R',x,q,rfl,b1,b2,b3,b4,b5⟩
     | false =>
      simp only[Bool.false_eq_true,if_false]
      refine Wd ⟨R',q+1,rfl,b1,by omega,by omega,b4.more O (by omega) hu hv hw2,fun i j p r i1 i2 j1 j2 hp hr=>?_⟩
      have toU:∀i p,x+1-(q+1+1)<=i->i<x+1->R'[i]? = some p->leB ltb p u/\leB ltb u p:=fun i p g1 g2 hp=>by
       by_cases e:i=x
       ·subst e;rw[hv]at hp;cases hp;exact⟨hw2,hw⟩
       ·exact⟨b5 i (x-1) p u (by omega) (by omega) (by omega) (by omega) hp hu,b5 (x-1) i u p (by omega) (by omega) (by omega) (by omega) hu hp⟩
      exact O.tr (toU i p (by omega) i2 hp).1 (toU j r (by omega) j2 hr).2
   case post3 =>
    rintro c st3 ⟨R',m,q,rfl,b1,b2,b3,b4,b5⟩
    have hl:=b1.perm.length_eq
    dsimp only
    by_cases c7:q > 0
    ·rw[VB c7,WD]
     refine V1 (W3 ?_)
     have zr:=b1.rev (i:=m-(q+1)) (j:=m) (by omega) (by omega)
     rw[show P.length+(m-(q+1))=P.length+m-(q+1) by omega]at zr
     have fr:=b4.seg (a:=m-(q+1)) (by omega) (by omega) b5
     have hl2:=zr.perm.length_eq
     generalize setArr st3 (mirror (arrOf st3) (P.length+m-(q+1)) (P.length+m) ((P.length+m-(P.length+m-(q+1))) / 2))=st4 at zr ⊢
     generalize gn R' (m-(q+1)) m=R4 at zr fr hl2
     rw[WD]
     refine V1 (W3 ?_)
     have z5:=zr.rev (i:=0) (j:=m) (by omega) (VS _)
     rw[Nat.add_zero]at z5
     have r5:=fr.turn (by omega)
     generalize setArr st4 (mirror (arrOf st4) P.length (P.length+m) ((P.length+m-P.length) / 2))=st5 at z5 ⊢
     refine V1 (Xz (WT (I:=fun x c st'=>st'=st5/\c =(none,x)/\cM ltb (gn R4 0 m) x/\x<=R.length)
      (Q:=fun c st'=>st'=st5/\∃n,c =(none,n)/\1<=n/\n<=R.length/\cM ltb (gn R4 0 m) n) ?stp5 ?fin5 ⟨rfl,rfl,r5,by omega⟩) ?post5)
     case fin5 =>
      rintro c st' ⟨est,rfl,b1,b2⟩
      exact⟨est,_,rfl,by omega,b2,b1⟩
     case post5 =>
      rintro c st' ⟨est,n5,rfl,b1,b2,b3⟩
      rw[est]
      exact Wd (h _ _ n5 z5 b1 b2 b3)
     case stp5 =>
      rintro x c st' hx1 hx2 ⟨est,rfl,b1,b2⟩
      rw[est]
      dsimp only
      refine V1 (z5.ask hO hS (i:=x) (j:=x-1) rfl (by omega) (by rw[z5.perm.length_eq];exact hx2) (by rw[z5.perm.length_eq];omega) fun v u hv hu=>?_)
      dsimp only
      cases hw:ltb v u with
      | true =>
       simp only[if_true]
       exact Wd ⟨rfl,x,rfl,by omega,b2,b1⟩
      | false =>
       simp only[Bool.false_eq_true,if_false]
       exact Wd ⟨rfl,rfl,b1.more O (by omega) hu hv hw,by omega⟩
    ·rw[VF c7,WD]
     refine V1 (W3 ?_)
     have z5:=b1.rev (i:=0) (j:=m) (by omega) (VS _)
     rw[Nat.add_zero]at z5
     have r5:=b4.turn (by omega)
     generalize setArr st3 (mirror (arrOf st3) P.length (P.length+m) ((P.length+m-P.length) / 2))=st5 at z5 ⊢
     refine V1 (Xz (WT (I:=fun x c st'=>st'=st5/\c =(none,x)/\cM ltb (gn R' 0 m) x/\x<=R.length)
      (Q:=fun c st'=>st'=st5/\∃n,c =(none,n)/\1<=n/\n<=R.length/\cM ltb (gn R' 0 m) n) ?stp5 ?fin5 ⟨rfl,rfl,r5,by omega⟩) ?post5)
     case fin5 =>
      rintro c st' ⟨est,rfl,b1,b2⟩
      exact⟨est,_,rfl,by omega,b2,b1⟩
     case post5 =>
      rintro c st' ⟨est,n5,rfl,b1,b2,b3⟩
      rw[est]
      exact Wd (h _ _ n5 z5 b1 b2 b3)
     case stp5 =>
      rintro x c st' hx1 hx2 ⟨est,rfl,b1,b2⟩
      rw[est]
      dsimp only
      refine V1 (z5.ask hO hS (i:=x) (j:=x-1) rfl (by omega) (by rw[z5.perm.length_eq];exact hx2) (by rw[z5.perm.length_eq];omega) fun v u hv hu=>?_)
      dsimp only
      cases hw:ltb v u with
      | true =>
       simp only[if_true]
       exact Wd ⟨rfl,x,rfl,by omega,b2,b1⟩
      | false =>
       simp only[Bool.false_eq_true,if_false]
       exact Wd ⟨rfl,rfl,b1.more O (by omega) hu hv hw,by omega⟩
end
def oA:Nat->List (List Keyed)->List (Nat×Nat×Nat)->Prop
 | _,[],[]=>True
 | o,r::rs,p::ps=>p.1=o/\p.2.1=r.length/\oA (o+r.length) rs ps
 | _,_,_=>False
theorem oA.len:∀{o:Nat}{rs:List (List Keyed)}{ps:List (Nat×Nat×Nat)},oA o rs ps->rs.length=ps.length
 | _,[],[],_=>rfl
 | _,_::_,_::_,⟨_,_,t⟩=>Wf (· + 1) (oA.len t)
theorem oA.app:∀{o:Nat}{rs ts:List (List Keyed)}{ps qs:List (Nat×Nat×Nat)},oA o rs ps->oA (o+rs.flatten.length) ts qs->oA o (rs++ts) (ps++qs)
 | o,[],ts,[],qs,_,h=>by simpa using h
 | o,r::rs,ts,p::ps,qs,⟨a,b,t⟩,h=>⟨a,b,oA.app t (by rw[XF,Vm]at h;rw[Nat.add_assoc];exact h)⟩
section
variable {ltb:Keyed->Keyed->Bool}{κ:SortKind}
structure RI (ltb:Keyed->Keyed->Bool) (κ:SortKind) (a0:List Keyed) (st:SortSt) (rs:List (List Keyed)) (U:List Keyed):Prop where
 kind:kindOf st=κ
 fail:failedOf st=none
 arr:(arrOf st).toList=rs.flatten++U
 perm:(arrOf st).toList.Perm a0
 offs:oA 0 rs (pendingOf st).toList
 rise:∀r∈rs,r.Pairwise (leB ltb)/\r ≠ []
end
section
variable {ltb:Keyed->Keyed->Bool}{κ:SortKind}{a0:List Keyed}{st:SortSt}{rs:List (List Keyed)}
theorem RI.push {run U2:List Keyed}{lo n:Nat}(ri:RI ltb κ a0 st rs (run++U2)) (h1:run.Pairwise (leB ltb)) (h2:run ≠ []) (el:lo=rs.flatten.length) (en:n=run.length):RI ltb κ a0 (setPending st ((pendingOf st).push (lo,n,0))) (rs ++ [run]) U2:=by
 refine⟨ri.kind,ri.fail,by show(arrOf st).toList=_;rw[ri.arr];simp,ri.perm,?_,fun r hr=>?_⟩
 ·show oA 0 _ ((pendingOf st).push _).toList
  rw[Array.toList_push]
  exact oA.app ri.offs ⟨by show lo=0+_;omega,en,trivial⟩
 ·rcases VH.mp hr with z|z
  ·exact ri.rise r z
  ·simp at z;rw[z];exact⟨h1,h2⟩
end
theorem wN {ltb:Keyed->Keyed->Bool}{R:List Keyed}(h:cM ltb R R.length):R.Pairwise (leB ltb):=by
 rw[Xu]
 intro i j hi hj hij
 exact h i j _ _ hij hj (Vn hi) (Vn hj)
theorem Bb {ltb:Keyed->Keyed->Bool}{R:List Keyed}{n:Nat}(h:cM ltb R n) (hn:n<=R.length):(R.take n).Pairwise (leB ltb):=by
 apply wN
 intro i j x y hij hj hx hy
 rw[Vw]at hj
 rw[WO,VB (by omega)]at hx hy
 exact h i j x y hij (by omega) hx hy
section
variable {prog:Program}{w:World}{A:Around}{E:Value->Shared->Prop}{s:Shared}{ltb:Keyed->Keyed->Bool}{S:Keyed->Prop}{κ:SortKind}
theorem t9 (O:vz ltb) (hO:zw prog w A E s ltb S κ) {st:SortSt}{Q:Unit->SortSt->Prop}{a0:List Keyed}(hn:a0.length<64) (hk:kindOf st=κ) (hf:failedOf st=none) (harr:(arrOf st).toList=a0) (hp:pendingOf st = #[]) (hS:∀x∈a0,S x)
  (h:∀st',(arrOf st').toList.Perm a0->(arrOf st').toList.Pairwise (leB ltb)->failedOf st'=none->Q () st'):wpS (model prog w) A E s sortRuns' Q st:=by
 have hN:(arrOf st).size=a0.length:=by rw[<- harr,WW]
 rw[sortRuns'_eq]
 refine V1 (wpS_get ?_)
 dsimp only
 rw[hN]
 have ri0:RI ltb κ a0 st [] a0:=⟨hk,hf,by rw[harr];rfl,by rw[harr],by rw[hp];exact trivial,fun r hr=>by cases hr⟩
 have split:∀{st' rs U},RI ltb κ a0 st' rs U->rs.flatten.length+U.length=a0.length:=fun {st' rs U} ri=>by
  have:=ri.perm.length_eq
  rw[ri.arr,Vm]at this;exact this
 refine V1 (Xz (WT (I:=fun x c st'=>∃rs U,c =(none,rs.flatten.length)/\RI ltb κ a0 st' rs U/\x<=rs.flatten.length/\rs.length<=1/\(U=[]\/rs=[]))
  (Q:=fun c st'=>∃rs,c =(none,a0.length)/\RI ltb κ a0 st' rs []/\rs.length<=1) ?stp ?fin ⟨[],a0,rfl,ri0,VS _,VS _,.inr rfl⟩) ?post)
 case fin =>
  rintro c st' ⟨rs,U,rfl,ri,hx,l1,_⟩
  have:=split ri
  have hU:U=[]:=List.length_eq_zero_iff.mp (by omega)
  subst hU
  refine⟨rs,?_,ri,l1⟩
  rw[show rs.flatten.length=a0.length by omega]
 case post =>
  rintro c st1 ⟨rs,rfl,ri,l1⟩
  dsimp only
  refine V1 (Xz (WT (I:=fun x c st'=>∃rs,c =(none,())/\RI ltb κ a0 st' rs []/\rs.length<=1)
   (Q:=fun c st'=>∃rs,c =(none,())/\RI ltb κ a0 st' rs []/\rs.length<=1) ?stp9 ?fin9 ⟨rs,rfl,ri,l1⟩) ?post9)
  case fin9 =>
   rintro c st' hh
   exact hh
  case post9 =>
   rintro c st' ⟨rs,rfl,ri,hl⟩
   refine Wd (h st' ri.perm ?_ ri.fail)
   rw[ri.arr,V5]
   cases rs with
   | nil=>exact List.Pairwise.nil
   | cons r rs =>
    have:rs=[]:=by simp at hl;exact hl
    subst this
    simp
    exact(ri.rise r (by simp)).1
  case stp9 =>
   rintro x c st' _ hx ⟨rs,rfl,ri,hl⟩
   have hpl:(pendingOf st').size=rs.length:=by rw[<- WW,<- ri.offs.len]
   refine V1 (wpS_get ?_)
   try dsimp only
   rw[VB (by omega)]
   exact Wd ⟨rs,rfl,ri,hl⟩
 case stp =>
  rintro x c st1 _ hx ⟨rs,U,rfl,ri,hxl,l1,ur⟩
  have hsp:=split ri
  dsimp only
  by_cases c1:rs.flatten.length ≥ a0.length
  ·rw[VB c1]
   have hU:U=[]:=List.length_eq_zero_iff.mp (by omega)
   subst hU
   refine Wd ⟨rs,?_,ri,l1⟩
   rw[show rs.flatten.length=a0.length by omega]
  have hrs:rs=[]:=by
   rcases ur with e|e
   ·rw[e,List.length_nil]at hsp;omega
   ·exact e
  subst hrs
  have hUl:U.length=a0.length:=by simpa using hsp
  have hmr:minRun' a0.length a0.length 0=a0.length:=by
   cases e:a0.length with
   | zero=>rfl
   | succ k=>rw[minRun'_succ,VB (by omega)]
  have noB:∀{st':SortSt},pendingOf st'=pendingOf st1->(pendingOf st').back? = none:=fun {st'} e=>by
   have hpl:(pendingOf st1).size=0:=by rw[<- WW,<- ri.offs.len];rfl
   rw[e,Array.back?_eq_getElem?]
   exact Array.getElem?_eq_none (by omega)
  rw[VF c1,show a0.length-([]:List (List Keyed)).flatten.length=U.length by omega]
  have hSU:∀x∈U,S x:=fun x hx=>hS x (ri.perm.mem_iff.mp (by rw[ri.arr];exact VD _ hx))
  refine V1 (Em O hO (P:=([]:List (List Keyed)).flatten) (R:=U) ri.kind ri.fail ri.arr (by omega) hSU fun st2 R' n z n1 n2 rise=>?_)
  have lR':=z.perm.length_eq
  dsimp only
  rw[hmr]
  by_cases c2:n<a0.length
  ·rw[VB c2]
   refine V1 (wpS_lift (Xl ⟨rfl,?_⟩))
   rw[show min U.length a0.length=R'.length by omega]
   refine V1 (CU O hO (P:=([]:List (List Keyed)).flatten) (R:=R') (T:=[]) z.kind z.fail (by rw[z.arr,V5]) (by omega) (fun i j x y hij hj hx hy=>rise i j x y hij hj hx hy) (fun x hx=>hSU x (z.perm.mem_iff.mp hx)) fun st3 R3 a1 a2 a3 a4 a5 a6=>?_)
   simp only[Bool.not_true,Bool.false_eq_true,if_false]
   have l3:R3.length=R'.length:=a2.length_eq
   have r1:=wN a3
   have r2:R3 ≠ []:=fun e=>by rw[e]at l3;simp at l3;omega
   have rj:RI ltb κ a0 st3 [] (R3 ++ []):=⟨a4,a5,by rw[a1,VU],by
    rw[a1]
    refine List.Perm.trans ?_ ri.perm
    rw[ri.arr,VU]
    refine Xp _ ?_
    rw[V5]
    exact a2.trans z.perm,by rw[a6,z.pend];exact ri.offs,ri.rise⟩
   refine V1 (wpS_get ?_)
   rw[noB (a6.trans z.pend)]
   dsimp only
   refine V1 (W3 (Wd ⟨[R3],[],?_,rj.push r1 r2 rfl l3.symm,?_,Vt _,.inl rfl⟩))
   ·simp[l3]
   ·have e1:[R3].flatten.length=a0.length:=by simp;omega
    omega
  ·rw[VF c2]
   have en:n=R'.length:=by omega
   subst en
   have r1:=Bb rise (Vt _)
   rw[VA]at r1
   have r2:R' ≠ []:=fun e=>by rw[e]at n1;simp at n1
   have rj:RI ltb κ a0 st2 [] (R' ++ []):=⟨z.kind,z.fail,by rw[z.arr,V5],by
    rw[z.arr]
    refine List.Perm.trans ?_ ri.perm
    rw[ri.arr]
    exact Xp _ z.perm,by rw[z.pend];exact ri.offs,ri.rise⟩
   refine V1 (wpS_get ?_)
   rw[noB z.pend]
   dsimp only
   refine V1 (W3 (Wd ⟨[R'],[],?_,rj.push r1 r2 rfl rfl,?_,Vt _,.inl rfl⟩))
   ·simp
   ·have e1:[R'].flatten.length=a0.length:=by simp;omega
    omega
end
def ltI (x y:Keyed):Bool:=decide (numOf x.1<numOf y.1)
def TF (x:Keyed):Prop:=∃n t,x.1=Value.int n t
theorem R7:vz ltI:=⟨fun {x y} h=>by
 have:numOf x.1<numOf y.1:=WV h
 exact VR (by omega),fun {x y z} h1 h2=>by
 have a1:¬ numOf y.1<numOf x.1:=WQ h1
 have a2:¬ numOf z.1<numOf y.1:=WQ h2
 exact VR (by omega)⟩
section
variable {prog:Program}{w:World}{A:Around}{E:Value->Shared->Prop}{s:Shared}
theorem M3:zw prog w A E s ltI TF oneType':=by
 intro x y st Q hx hy hk q
 obtain⟨n,t,e1⟩:=hx
 obtain⟨m,u,e2⟩:=hy
 rw[lt'_eq]
 refine V1 (wpS_get ?_)
 rw[hk,keyLt'_oneType,e1,e2]
 refine V1 (wpS_lift (wpAny_attempt (oneLt_int ⟨rfl,Wd ?_⟩)))
 have:ltI x y=decide (n<m):=by unfold ltI;rw[e1,e2];rfl
 rw[<- this];exact q
theorem Nj {xs:Array Keyed}(h:xs.toList.Pairwise (leB ltI)) (k:Nat) (hk:k=xs.size):SortedTo xs k:=by
 intro i j hij hj
 subst hk
 rw[K_eq (by omega),K_eq hj]
 by_cases e:i=j
 ·subst e;exact Int.le_refl _
 ·have:=Xu.mp h i j (by simp;omega) (by simpa using hj) (by omega)
  have q:¬ numOf xs[j].1<numOf xs[i].1:=by
   have:=WQ this
   simpa using this
  omega
theorem A3 {a:Addr}{vs:List Value}{ns:List Int}{n:Nat}{Z:Fin->Shared->Prop}(ho:s.heap.get? a=some (seqObj "list" vs.toArray n)) (hI:IntsAre vs ns) (hv:vs.length<=63)
  (hZ:∀(out:Array Value) (ms:List Int),IntsAre out.toList ms->ms.Perm ns->ms.Pairwise (· <= ·)->Z (.done (.ret .none)) { s with heap:=sortedHeap s.heap a vs out }) :
  wpAny (model prog w) A (Builtin.«list.sort» ⟨[.ref a],[]⟩) Z E s:=by
 by_cases h64:vs.length<64
 ·exact list_sort_tree ho hI h64 hZ
 have hline:(63:Nat)<sizeLine:=by decide
 have lt0:=VG ho
 rw[list_sort_plain]
 refine(Vl (listItems_at ho rfl ?_))
 refine(Vl (listUpdate_at ho rfl ?_ (by simp;omega)))
 obtain⟨k1,hk1⟩ : ∃k1,(s.heap.update a (Obj.mapSeq fun _=>#[])).get? a=some (seqObj "list" #[] k1):=⟨_,(get?_update_seq ho (fun _=>#[]))⟩
 refine(Vl (seqEpoch_at hk1 rfl ?_))
 refine(Vl (wpAny_newTuple ?_ (by simp;omega)))
 refine(Vl (wpAny_newList ?_))
 refine(Wt ?_)
 have hk6:(((s.heap.update a (Obj.mapSeq fun _=>#[])).push (seqObj "tuple" vs.toArray 0)).push (seqObj "list" #[] 0)).get? a=some (seqObj "list" #[] k1):=(by
  rw[WJ _ _ _ (by rw[size_push',WE];exact VN (XG lt0)),WJ _ _ _ (by rw[WE];exact VN lt0)]
  exact hk1)
 show wpAny (model prog w) A _ Z E { s with heap:=((s.heap.update a (Obj.mapSeq fun _=>#[])).push (seqObj "tuple" vs.toArray 0)).push (seqObj "list" #[] 0) }
 dsimp only
 have two:¬ vs.toArray.size<2:=by simp;omega
 rw[VF two,VF two]
 obtain⟨v,u,r,rfl⟩ : ∃v u r,vs=v::u::r:=by
  cases vs with
  | nil=>simp at h64
  | cons v vs=>cases vs with
   | nil=>simp at h64
   | cons u r=>exact⟨v,u,r,rfl⟩
 rw[keyKind_ints hI]
 refine(Vl (Vz ?_))
 have a0S:∀x∈(pairsOf (v::u::r)).toList,TF x:=hI.intKeys
 refine Vl (Wc (t9 R7 M3 (hn:=by simp[pairsOf]at hv ⊢;omega) (st:=SortSt.mk' oneType' ((v::u::r).toArray.zip (v::u::r).toArray) #[] 7 none) (a0:=(pairsOf (v::u::r)).toList) (Q:=fun _ st'=>(arrOf st').toList.Perm (pairsOf (v::u::r)).toList/\(arrOf st').toList.Pairwise (leB ltI)/\failedOf st'=none) rfl rfl rfl rfl a0S fun st' b1 b2 b3=>⟨b1,b2,b3⟩) ?_ fun _ _ e=>e)
 rintro⟨⟨⟩,st'⟩ s' ⟨rfl,b1,b2,b3⟩
 dsimp only
 have hp:(arrOf st').Perm (pairsOf (v::u::r)):=Array.perm_iff_toList_perm.mpr b1
 have hsz:=hp.size_eq
 refine(Vl (seqEpoch_at hk6 rfl ?_))
 refine Vl (listUpdate_at hk6 rfl ?_ (hsz2:=by
  rw[Array.size_map,hsz,pairsOf_size];omega))
 rw[b3]
 simp only[bne_self_eq_false,Bool.false_eq_true,if_false]
 obtain⟨ms,c1,c2,c3⟩:=sorted_out hI hp (Nj b2 _ hsz.symm)
 exact Vz (hZ _ ms c1 c2 c3)
theorem yQ {l:Addr}{vs:List Value}{ns:List Int}{Q:Value->Shared->Prop}(hl:s.heap.IsList l vs.toArray) (hI:IntsAre vs ns) (hv:vs.length<=63)
  (hQ:∀(out:Array Value) (ms:List Int),IntsAre out.toList ms->ms.Perm ns->ms.Pairwise (· <= ·)->Q (.ref (s.heap.objs.size+1)) { s with heap:=sortedAll s.heap vs out }) :
  wpAny (model prog w) A (call (.builtin "sorted") [.ref l]) Q E s:=by
 have hline:(63:Nat)<sizeLine:=by decide
 refine(Calls.call_function_entry kind_sorted plain_sorted entry_sorted (args_sorted1 _) ?_)
 unfold Builtin.«sorted»
 refine(Vl (m:=checkCount "sorted" 1 1 _) (Vz ?_))
 refine(Vl (collect_list hl ?_ (by omega)))
 refine(Vl (wpAny_newList ?_ (by first|omega|(simp;omega))))
 have sz1:((s.heap.push (seqObj "list" #[] 0)).update s.heap.objs.size (Obj.mapSeq (· ++ vs.toArray))).objs.size=s.heap.objs.size+1:=(by rw[WE,size_push'])
 have at1:(((s.heap.push (seqObj "list" #[] 0)).update s.heap.objs.size (Obj.mapSeq (· ++ vs.toArray))).push (seqObj "list" vs.toArray 0)).get? (s.heap.objs.size+1)=some (seqObj "list" vs.toArray 0):=(by
  rw[<- sz1];exact V0 _ rfl)
 show wpAny _ _ _ _ E { s with heap:=((s.heap.push (seqObj "list" #[] 0)).update s.heap.objs.size (Obj.mapSeq (· ++ vs.toArray))).push (seqObj "list" vs.toArray 0) }
 rw[sz1]
 refine Vl (Wt (wpAny_call_entry slot_list_sort ⟨_,at1,rfl⟩ entry_list_sort (A3 at1 hI hv fun out ms c1 c2 c3=>⟨_,rfl,?_⟩) (args_list_sort _)))
 exact Vz ⟨_,rfl,hQ out ms c1 c2 c3⟩
end
section
variable {X:Cx}
def C5 (K:W.Frag):List V->Hp->VK->Prop:=fun xs H Q=>∃a ns,xs=[.ref a]/\aU K H a (List.map V.int ns)/\ns.length<=63/\∀ms l,ms.Perm ns->ms.Pairwise (· <= ·)->H l=none->Q (.ref l) (upd H l (.lst (List.map V.int ms)))
theorem ze:eT X (.builtin "sorted") (C5 X.K):=by
 intro pins s σ H xs us Q I r h
 obtain⟨a,ns,rfl,hq,hn,q⟩:=h
 obtain⟨u,rfl,r1⟩:=vals1 r
 cases (show u=Value.ref a from r1)
 obtain⟨its,rv,pl,hz⟩:=I.list hq
 have hi:IntsAre its ns:=intsAre_of rv
 refine yQ pl.isList hi (by rw[hi.length];exact hn) fun out ms c1 c2 c3=>?_
 obtain⟨e,he⟩:=sortedAll_at s.heap its out
 have hz2:(List.map V.int ms).length<=sizeLine:=by
  have hline:(63:Nat)<sizeLine:=by decide
  rw[Vi,c2.length_eq];omega
 exact⟨.ref (s.heap.objs.size+1),_,I.laid (t':=s.toks) (fun b o hb=>sortedAll_old hb) (XR _) (o:=.lst (List.map V.int ms)) ⟨hz2,out.toList,e,nj c1,by simpa using he⟩,rfl,q ms _ c2 c3 (I.hok.fresh (XR _))⟩
theorem CN {K:W.Frag}{H:Hp}{Q:VK}{a:Addr}{ns:List Int}(h:aU K H a (ns.map V.int)) (n:ns.length<=63) (q:∀(ms:List Int) (l:Addr),ms.Perm ns->ms.Pairwise (· <= ·)->H l=none->Q (.ref l) (upd H l (.lst (ms.map V.int)))):C5 K [.ref a] H Q:=⟨a,ns,rfl,h,n,q⟩
end
def NJ:TS:=fun _ _ _=>False
theorem Ar {X:Cx}{st:Stmt}:PS X st NJ:=fun _ _ _ _ _ _ h=>h.elim
section
variable {X:Cx}{K:W.Frag}
def z9 (K:W.Frag):List V->Hp->VK->Prop:=fun xs H Q=>∃p ys,xs=[.ref p]/\(aU K H p ys\/gu K H p ys)/\∀l,H l=none->Q (.ref l) (upd H l (.lst ys))
theorem iF (h:X.K=K):eT X (.type "list") (z9 K):=by subst h;exact jc
end
section
variable {X:Cx}{K:W.Frag}{pos:Pos}
theorem uM {es:List Expr}{k:Nat}{t:Hj}{n:Nat}(h:X.K=K) (hc:X.calm=true) (hp:OW X es t)
  (hn:(assignEach es X.env).length=n:=by rfl) (hst:(assignEach es X.env).findIdx? (·.1)=none:=by rfl):PG X (.Tuple es k pos) (O6 K n t):=by subst h;exact eF hc hp hn hst
end
theorem tH {K:W.Frag}{H:Hp}{Q:VK}{a:Addr}{xs:List V}(h:aU K H a xs) (q:∀l,H l=none->Q (.ref l) (upd H l (.lst xs))):z9 K [.ref a] H Q:=⟨a,xs,rfl,.inl h,q⟩
theorem IG {i:Nat}{te:TE}{ti:FW}{D:Ends}{σ:St}{H:Hp}{x:V}(h:σ[i]? = some (some x)) (q:te σ H fun y H1=>ti x y H1 fun z H2=>D.nx (σ.set i (some z)) H2):Pb i te ti D σ H:=⟨x,h,q⟩
section
variable {σ:St}{H:Hp}{Q:VK}{D:Ends}
theorem Eg (h:∀p,H p=none->Q (.ref p) (upd H p (.dK []))):Ek σ H Q:=h
end
section
variable {X:Cx}{pins:List (Addr×Obj)}{σ:St}{H:Hp}{s:Shared}{h':Heap}
theorem Inv.adopt {t':Nat}{ch:List Addr}{a:Addr}{o:HO}(I:Inv X pins σ H s) (k:∀b o,b∉ch->s.heap.get? b=some o->h'.get? b=some o) (f:∀b∈ch,jy X pins H b)
  (ha:a∈ch) (new:dJ X.prog X.w (upd H a o) h' a o):Inv X pins σ (upd H a o) { s with heap:=h',toks:=t' }:=by
 have nit:∀b u,H b=some u->b∉ch:=fun b u e z=>by rw[(f b z).1]at e;cases e
 have hn:=(f a ha).1
 have up:∀b u,H b=some u->upd H a o b=some u:=fun b u q=>by rw[ao (au q hn)];exact q
 refine I.step (g':=s.gens) (d':=s.drawn) (ch:=ch) (fun b hb=>?_) (fun b o _ _ hc e _=>k b o hc e) (fun b o _ _ hc e _=>⟨o.slots,k b o hc e⟩) (fun b ob hc e n=>by rw[ao (show b≠a from fun z=>hc (by rw[z];exact ha))];exact n) (fun b o hc e=>⟨o,k b o hc e⟩) (fun b xs e=>up _ _ e) (fun b ob u e=>up _ _ e)
  (fun b ps e=>⟨#[],by rw[up _ _ e];simp⟩) (fun m hm=>?_) (fun b u e=>?_) I.bare
 ·obtain⟨f0,f1,f2,f3,f4,f5⟩:=f b hb
  exact⟨f3,f1,f4,f5⟩
 ·obtain⟨o,es,ep,ho,r⟩:=hm
  exact⟨o,es,ep,k _ o (fun z=>(f _ z).2.1 rfl) ho,r⟩
 ·by_cases hb:b=a
  ·subst hb;rw[aq]at e;cases e;exact new
  ·rw[ao hb]at e
   refine(I.hok b u e).stay (fun c v hc q=>k c v ?_ q) (fun c q=>up _ _ q) fun c xs q=>up _ _ q
   rcases hc with z|z
   ·rw[z];exact nit b u e
   ·exact nit c _ z
variable {A:Around}{E:Value->Shared->Prop}
end
section
variable {X:Cx}
theorem rP:seqSlot? (.type "list") (dunderI "add")=pure (some (.builtin "list.__iadd__")):=PySem.seqSlot_of PySem.F.slot_list_iadd.lookup (by z_go)
theorem yK {M:Model}{A:Around}{E:Value->Shared->Prop}{s:Shared}{a b:Value}{Q:Value->Shared->Prop}(ha:s.TypeIs a "list") (hb:s.TypeIs b "list") (hc:wpAny M A (call (.builtin "list.__iadd__") [a,b]) Q E s):wpAny M A (inplaceOp .Add a b) Q E s:=by
 unfold inplaceOp
 refine Wt ?_
 have hfi:fillsInplaceSlot (.type "list") "add" (Operator.Add == .Add)=pure false:=by
  unfold fillsInplaceSlot
  show(typeLookup (.type "list") (dunderI "add") >>= fun fi=>pure (fi.isSome && !isSeqSlot fi))=pure false
  rw[PySem.F.slot_list_iadd.lookup]
  show(pure ((some (Value.builtin "list.__iadd__")).isSome && !isSeqSlot (some (Value.builtin "list.__iadd__"))):Sem Bool)=pure false
  rw[show isSeqSlot (some (Value.builtin "list.__iadd__"))=true by z_go];rfl
 refine Vl (wpAny_typeOf ha (Vl (wpAny_of_eq hfi ?_)))
 show wpAny M A (if false=true then _ else _) Q E s
 rw[VF VI]
 refine Vl (wpAny_binaryOp1_none (nm := "add") ha hb noFill_list_add ?_)
 refine Vl (wpAny_of_eq rP ?_)
 exact Vl (Xl hc)
def Oo:FW:=fun x y H Q=>∃l b xs zs,x = .ref l/\y = .ref b/\H l=some (.lst xs)/\H b=some (.lst zs)/\xs.length+zs.length<=sizeLine/\Q (.ref l) (upd H l (.lst (xs++zs)))
theorem J6:QJ X .Add Oo:=by
 intro pins s σ H x y v u Q I r1 r2 h
 obtain⟨l,b,xs,zs,rfl,rfl,hH,hB,hz,q⟩:=h
 cases r1
 cases r2
 obtain⟨z,its,n,r,hl,e⟩:=I.lstM hH
 obtain⟨z2,its2,n2,r2,hl2,e2⟩:=I.lstM hB
 have hsz:its.toArray.size+its2.toArray.size<=sizeLine:=by rw[VJ,VJ];omega
 have hlong:¬(!its.toArray.isEmpty && Builtin.List.listTooLong (its.toArray.size+its2.toArray.size))=true:=by
  rw[wU hsz,Bool.and_false]
  exact VI
 refine yK ⟨_,e,rfl⟩ ⟨_,e2,rfl⟩ ?_
 refine call_meets PySem.F.slot_list_iadd ⟨_,e,rfl⟩ PySem.F.entry_list_iadd (PySem.F.args_list_iadd_2 _ _)
  (AutoSeq1.list___iadd___list_list_0 l its.toArray n b its2.toArray n2 hlong (by rw[VJ];omega) (by omega)) ⟨e,e2,?_⟩
 refine⟨.ref l,_,I.lset (its':=its++its2) hH e (by simp) (r.append r2) ?_,rfl,q⟩
 rw[Vm]
 omega
end
structure Sm (H H':Hp):Prop where
 nt:∀b o,H b=some o->(∀ps,o ≠ .tbl ps)->H' b=some o
 tb:∀b ps,H b=some (.tbl ps)->∃ps',H' b=some (.tbl ps')
theorem KV.get {κ:Type}:∀{kvs:List (κ×V)}{vs:List (κ×Value)}{i:Nat}{p:κ×V},KV kvs vs->kvs[i]? = some p->∃u,vs[i]? = some (p.1,u)/\RelV p.2 u
 | _,_,_,_,.nil,e=>by simp at e
 | _,_,0,_,.cons (b:=b) r _,e=>by
  simp at e;subst e
  exact⟨b.2,by rw[r.1];rfl,r.2⟩
 | _,_,i+1,p,.cons _ t,e=>by
  obtain⟨u,h1,h2⟩:=KV.get (i:=i) (p:=p) t (by simpa using e)
  exact⟨u,by simpa using h1,h2⟩
def sI (h:Heap) (v:Value) (k:Int):Prop:=∃(a:Addr) (o:Obj) (n:Nat) (t:Tok) (rest:List Value),v = .ref a/\h.get? a=some o/\o.cls = .type "tuple"/\o.data = .seq (Value.int k t::rest).toArray n
def P8 (kf:Value->Int) (x y:Keyed):Bool:=decide (kf x.1<kf y.1)
theorem RZ (kf:Value->Int):vz (P8 kf):=⟨fun {x y} h=>by
 have:kf x.1<kf y.1:=WV h
 exact VR (by omega),fun {x y z} h1 h2=>by
 have a1:¬ kf y.1<kf x.1:=WQ h1
 have a2:¬ kf z.1<kf y.1:=WQ h2
 exact VR (by omega)⟩
theorem r_ (b:Bool) (x y:Value):keyLt' (tuples' b) x y =(do
  let xs <- Builtin.List.listItems x;let ys <- Builtin.List.listItems y
  for ((p,q),i) in(xs.toList.zip ys.toList).zipIdx do
   if !(<- eqBool p q) then return <- oneLt' (b && i == 0) p q
  return decide (xs.size<ys.size)):=rfl
section
variable {prog:Program}{w:World}{A:Around}{E:Value->Shared->Prop}{s:Shared}
theorem nV {v:Value}{Q:Bool->Shared->Prop}(q:Q true s):wpAny (model prog w) A (eqBool v v) Q E s:=by
 unfold eqBool
 refine Wt ?_
 rw[VB (by simp)]
 refine Vl (Xl ?_)
 exact Vz q
theorem sV {b:Bool}{E':Value->Shared->Prop}:∀(l:List Value) (i:Nat) (Q:Option Bool×Unit->Shared->Prop),Q (none,()) s->wpAny (model prog w) A (forIn ((l.zip l).zipIdx i) ((none,()):Option Bool×Unit) fun x __s=>do
   let __do_lift <- eqBool x.1.fst x.1.snd
   if (!__do_lift)=true then do
     let __do_lift <- oneLt' (b && x.snd == 0) x.1.fst x.1.snd
     pure (ForInStep.done (some __do_lift,()))
    else pure (ForInStep.yield (none,()))) Q E' s
 | [],i,Q,q=>by
  show wpAny (model prog w) A (pure (none,())) Q E' s
  exact Vz q
 | v::l,i,Q,q=>by
  simp only[List.zip_cons_cons,List.zipIdx_cons,List.forIn_cons]
  refine Vl (Vl (nV ?_))
  rw[VF (by simp)]
  refine Vz ?_
  exact sV l (i+1) Q q
theorem NB {kf:Value->Int}{a0:List Keyed}(hT:∀x∈a0,sI s.heap x.1 (kf x.1)) (hN:∀x∈a0,∀y∈a0,kf x.1=kf y.1->x.1=y.1):zw prog w A E s (P8 kf) (fun x=>x∈a0) (tuples' true):=by
 intro x y st Q hx hy hk q
 obtain⟨a,o,n,t,rest,e1,g1,c1,d1⟩:=hT x hx
 obtain⟨a',o',n',t',rest',e2,g2,c2,d2⟩:=hT y hy
 have hxy:=hN x hx y hy
 rw[lt'_eq]
 refine V1 (wpS_get ?_)
 rw[hk,r_]
 have hq:P8 kf x y=decide (kf x.1<kf y.1):=rfl
 generalize kf x.1=k1 at *
 generalize kf y.1=k2 at *
 rw[e1,e2]
 refine V1 (wpS_lift (wpAny_attempt (Vl (listItems_at g1 d1 (Vl (listItems_at g2 d2 ?_))))))
 simp only[List.zip_cons_cons,List.zipIdx_cons,List.forIn_cons]
 by_cases c:k1=k2
 ·have exy:=hxy c
  rw[e1,e2]at exy
  cases exy
  rw[g1]at g2
  cases g2
  rw[d1]at d2
  cases d2
  refine Vl (Vl (Vl (nV ?_)))
  rw[VF (by simp)]
  refine Vz (sV rest _ _ ?_)
  refine Vz ⟨rfl,Wd ?_⟩
  have e:decide ((Value.int k1 t::rest).toArray.size <(Value.int k1 t::rest).toArray.size)=P8 kf x y:=by rw[hq];simp
  rw[e];exact q
 ·refine Vl (Vl (Vl (wpAny_eqBool_int ?_)))
  rw[VB (by simp[c])]
  refine Vl (oneLt_int (Vz ?_))
  refine Vz (Vz ⟨rfl,Wd ?_⟩)
  rw[<- hq];exact q
theorem BJ {v:Value}{k:Int}{Q:Option Value->Shared->Prop}(h:sI s.heap v k) (q:∀t,Q (some (.int k t)) s):wpAny (model prog w) A (firstOfTuple' v) Q E s:=by
 obtain⟨a,o,n,t,rest,rfl,g1,c1,d1⟩:=h
 show wpAny (model prog w) A (do
  if (<- typeOf (.ref a)) != .type "tuple" then return none
  return (<- Builtin.List.listItems (.ref a))[0]?) Q E s
 refine Vl (wpAny_typeOf_ref g1 ?_)
 rw[c1,VF (by simp)]
 refine Vl (listItems_at g1 d1 (Vz ?_))
 exact q t
theorem pK:∀{vs:List Value}{ks:List Int}{Q:List (Option Value)->Shared->Prop},(∀p∈vs.zip ks,sI s.heap p.1 p.2)->vs.length=ks.length->(∀us:List Value,IntsAre us ks->Q (us.map some) s)->wpAny (model prog w) A (vs.mapM firstOfTuple') Q E s
 | [],[],Q,_,_,q=>by
  rw[List.mapM_nil]
  exact Vz (q [] .nil)
 | [],_::_,_,_,l,_=>by cases l
 | _::_,[],_,_,l,_=>by cases l
 | v::vs,k::ks,Q,h,l,q=>by
  rw[List.mapM_cons]
  refine Vl (BJ (h (v,k) (by simp)) fun t=>?_)
  refine Vl (pK (ks:=ks) (fun p hp=>h p (by simp[hp])) (by simpa using l) fun us hu=>?_)
  exact Vz (q (.int k t::us) (.cons k t hu))
theorem EW {us:List Value}{k:Int}{ks:List Int}(h:IntsAre us (k::ks)):oneTypeOnly' us.toArray=pure (some (.type "int")):=by
 rw[oneTypeOnly'_eq,List.mapM_toArray,mapM_typeOf_ints h]
 simp only[map_pure,pure_bind]
 cases h with
 | cons n t h =>
  have hall:∀l:List Value,((List.map (fun _=>Value.type "int") l).toArray.all fun x=>x == Value.type "int")=true:=fun l=>by
   simp only[List.all_toArray,List.all_map,List.all_eq_true]
   intro _ _
   rfl
  have h0:∀(u:Value) (l:List Value),(List.map (fun _=>Value.type "int") (u::l)).toArray[0]? = some (Value.type "int"):=fun _ _=>by simp
  rw[h0]
  simp only[hall,if_true]
theorem uO {vs:List Value}{k:Int}{ks:List Int}{Q:SortKind->Shared->Prop}(h:∀p∈vs.zip (k::ks),sI s.heap p.1 p.2) (l:vs.length =(k::ks).length) (q:Q (tuples' true) s):wpAny (model prog w) A (keyKind' vs.toArray) Q E s:=by
 rw[keyKind'_eq,List.mapM_toArray]
 refine Vl ?_
 refine wpAny_map ?_
 refine pK h l fun us hu=>?_
 rw[VB (by simp)]
 refine Vl (Xl ?_)
 have e:(us.map some).toArray.filterMap id=us.toArray:=by simp
 rw[e,EW hu]
 refine Vl (Vz ?_)
 exact Vz q
theorem sI.keep {h h':Heap}{v:Value}{k:Int}(t:sI h v k) (f:∀a o,o.cls = .type "tuple"->h.get? a=some o->h'.get? a=some o):sI h' v k:=by
 obtain⟨a,o,n,t,rest,e,g,c,d⟩:=t
 exact⟨a,o,n,t,rest,e,f a o c g,c,d⟩
theorem jH {vs:List Value}:∀{p:Value×Value},p∈vs.zip vs->p.1=p.2/\p.1∈vs:=fun h=>mem_zip_self h
theorem O0 {kf:Value->Int}:∀{l:List Value}{p:Value×Int},p∈l.zip (l.map kf)->p.1∈l/\p.2=kf p.1
 | [],_,h=>by simp at h
 | v::l,p,h=>by
  rw[VY,List.zip_cons_cons]at h
  rcases VW.mp h with z|z
  ·rw[z];exact⟨Vy,rfl⟩
  ·obtain⟨a,b⟩:=O0 z
   exact⟨Vr _ a,b⟩
theorem za {kf:Value->Int}{a:Addr}{vs:List Value}{n:Nat}{Z:Fin->Shared->Prop}(ho:s.heap.get? a=some (seqObj "list" vs.toArray n)) (hT:∀v∈vs,sI s.heap v (kf v)) (hN:∀v∈vs,∀u∈vs,kf v=kf u->v=u) (hv:vs.length<=63)
  (hZ:∀out:Array Value,out.toList.Perm vs->out.toList.Pairwise (fun u v=>kf u<=kf v)->Z (.done (.ret .none)) { s with heap:=sortedHeap s.heap a vs out }) :
  wpAny (model prog w) A (Builtin.«list.sort» ⟨[.ref a],[]⟩) Z E s:=by
 have hline:(63:Nat)<sizeLine:=by decide
 have lt0:=VG ho
 rw[list_sort_plain]
 refine(Vl (listItems_at ho rfl ?_))
 refine(Vl (listUpdate_at ho rfl ?_ (by simp;omega)))
 obtain⟨k1,hk1⟩ : ∃k1,(s.heap.update a (Obj.mapSeq fun _=>#[])).get? a=some (seqObj "list" #[] k1):=⟨_,(get?_update_seq ho (fun _=>#[]))⟩
 refine(Vl (seqEpoch_at hk1 rfl ?_))
 refine(Vl (wpAny_newTuple ?_ (by simp;omega)))
 refine(Vl (wpAny_newList ?_))
 refine(Wt ?_)
 have hk6:(((s.heap.update a (Obj.mapSeq fun _=>#[])).push (seqObj "tuple" vs.toArray 0)).push (seqObj "list" #[] 0)).get? a=some (seqObj "list" #[] k1):=(by
  rw[WJ _ _ _ (by rw[size_push',WE];exact VN (XG lt0)),WJ _ _ _ (by rw[WE];exact VN lt0)]
  exact hk1)
 have keep:∀b o,o.cls = .type "tuple"->s.heap.get? b=some o->(((s.heap.update a (Obj.mapSeq fun _=>#[])).push (seqObj "tuple" vs.toArray 0)).push (seqObj "list" #[] 0)).get? b=some o:=fun b o hc hb=>by
  have hlt:=VG hb
  have nb:b≠a:=fun z=>by
   subst z
   rw[ho]at hb
   cases hb
   exact absurd (show Value.type "list" = Value.type "tuple" from hc) (by decide)
  rw[WJ _ _ _ (by rw[size_push',WE];exact VN (XG hlt)),WJ _ _ _ (by rw[WE];exact VN hlt),Heap.get?_update_ne _ _ _ _ nb]
  exact hb
 show wpAny (model prog w) A _ Z E { s with heap:=((s.heap.update a (Obj.mapSeq fun _=>#[])).push (seqObj "tuple" vs.toArray 0)).push (seqObj "list" #[] 0) }
 dsimp only
 by_cases two:vs.toArray.size<2
 ·rw[VB two,VB two]
  refine(Vl (Vz ?_))
  refine Vl ?_
  show wpAny (model prog w) A (pure ((),SortSt.mk' general' (vs.toArray.zip vs.toArray) #[] 7 none)) _ _ _
  refine Vz ?_
  refine(Vl (seqEpoch_at hk6 rfl ?_))
  have ev:(vs.toArray.zip vs.toArray).map (·.2)=vs.toArray:=by
   apply Array.ext'
   rw[Array.toList_map,Array.toList_zip,List.map_snd_zip (by simp)]
  refine Vl (listUpdate_at hk6 rfl ?_ (hsz2:=by
   rw[show arrOf (SortSt.mk' general' (vs.toArray.zip vs.toArray) #[] 7 none)=vs.toArray.zip vs.toArray from rfl,ev];simp;omega))
  dsimp only
  rw[show arrOf (SortSt.mk' general' (vs.toArray.zip vs.toArray) #[] 7 none)=vs.toArray.zip vs.toArray from rfl,ev]
  simp only[bne_self_eq_false,Bool.false_eq_true,if_false]
  refine Vz (hZ _ (by simp) ?_)
  match vs,two with
  | [],_=>simp
  | [_],_=>simp
  | _::_::_,h=>simp at h;omega
 ·rw[VF two,VF two]
  obtain⟨v,r,rfl⟩ : ∃v r,vs=v::r:=by
   cases vs with
   | nil=>simp at two
   | cons v r=>exact⟨v,r,rfl⟩
  refine Vl (uO (k:=kf v) (ks:=r.map kf) (fun p hp=>?_) (by simp) ?_)
  ·obtain⟨m1,m2⟩:=O0 (l:=v::r) (p:=p) (by simpa using hp)
   rw[m2]
   exact(hT _ m1).keep keep
  have a0T:∀x∈(pairsOf (v::r)).toList,sI (((s.heap.update a (Obj.mapSeq fun _=>#[])).push (seqObj "tuple" (v::r).toArray 0)).push (seqObj "list" #[] 0)) x.1 (kf x.1):=fun x hx=>by
   rw[XH]at hx
   exact(hT _ (jH hx).2).keep keep
  have a0N:∀x∈(pairsOf (v::r)).toList,∀y∈(pairsOf (v::r)).toList,kf x.1=kf y.1->x.1=y.1:=fun x hx y hy=>by
   rw[XH]at hx hy
   exact hN _ (jH hx).2 _ (jH hy).2
  refine Vl (Wc (t9 (RZ kf) (NB a0T a0N) (hn:=by simp[pairsOf]at hv ⊢;omega) (st:=SortSt.mk' (tuples' true) ((v::r).toArray.zip (v::r).toArray) #[] 7 none) (a0:=(pairsOf (v::r)).toList) (Q:=fun _ st'=>(arrOf st').toList.Perm (pairsOf (v::r)).toList/\(arrOf st').toList.Pairwise (leB (P8 kf))/\failedOf st'=none) rfl rfl rfl rfl (fun x hx=>hx) fun st' b1 b2 b3=>⟨b1,b2,b3⟩) ?_ fun _ _ e=>e)
  rintro⟨⟨⟩,st'⟩ s' ⟨rfl,b1,b2,b3⟩
  dsimp only
  have hp:(arrOf st').Perm (pairsOf (v::r)):=Array.perm_iff_toList_perm.mpr b1
  have hsz:=hp.size_eq
  refine(Vl (seqEpoch_at hk6 rfl ?_))
  refine Vl (listUpdate_at hk6 rfl ?_ (hsz2:=by
   rw[Array.size_map,hsz,pairsOf_size];omega))
  rw[b3]
  simp only[bne_self_eq_false,Bool.false_eq_true,if_false]
  refine Vz (hZ _ ?_ ?_)
  ·rw[Array.toList_map]
   have:=b1.map (·.2)
   rw[XH]at this
   refine this.trans ?_
   rw[List.map_snd_zip (by simp)]
  ·rw[Array.toList_map,VV]
   refine b2.imp_of_mem fun {x y} hx hy h=>?_
   have ex:=jH (by rw[<- XH];exact b1.mem_iff.mp hx)
   have ey:=jH (by rw[<- XH];exact b1.mem_iff.mp hy)
   rw[<- ex.1,<- ey.1]
   have:=WQ h
   omega
theorem wo {kf:Value->Int}{l:Addr}{vs:List Value}{Q:Value->Shared->Prop}(hl:s.heap.IsList l vs.toArray) (hT:∀v∈vs,sI s.heap v (kf v)) (hN:∀v∈vs,∀u∈vs,kf v=kf u->v=u) (hv:vs.length<=63)
  (hQ:∀out:Array Value,out.toList.Perm vs->out.toList.Pairwise (fun u v=>kf u<=kf v)->Q (.ref (s.heap.objs.size+1)) { s with heap:=sortedAll s.heap vs out }) :
  wpAny (model prog w) A (call (.builtin "sorted") [.ref l]) Q E s:=by
 have hline:(63:Nat)<sizeLine:=by decide
 refine(Calls.call_function_entry kind_sorted plain_sorted entry_sorted (args_sorted1 _) ?_)
 unfold Builtin.«sorted»
 refine(Vl (m:=checkCount "sorted" 1 1 _) (Vz ?_))
 refine(Vl (collect_list hl ?_ (by omega)))
 refine(Vl (wpAny_newList ?_ (by first|omega|(simp;omega))))
 have sz1:((s.heap.push (seqObj "list" #[] 0)).update s.heap.objs.size (Obj.mapSeq (· ++ vs.toArray))).objs.size=s.heap.objs.size+1:=(by rw[WE,size_push'])
 have at1:(((s.heap.push (seqObj "list" #[] 0)).update s.heap.objs.size (Obj.mapSeq (· ++ vs.toArray))).push (seqObj "list" vs.toArray 0)).get? (s.heap.objs.size+1)=some (seqObj "list" vs.toArray 0):=(by
  rw[<- sz1];exact V0 _ rfl)
 have keep:∀b o,o.cls = .type "tuple"->s.heap.get? b=some o->(((s.heap.push (seqObj "list" #[] 0)).update s.heap.objs.size (Obj.mapSeq (· ++ vs.toArray))).push (seqObj "list" vs.toArray 0)).get? b=some o:=fun b o _ hb=>by
  have hlt:=VG hb
  rw[WJ _ _ _ (by rw[WE,size_push'];exact VN (XG hlt)),Heap.get?_update_ne _ _ _ _ (VN hlt),WJ _ _ _ (VN hlt)]
  exact hb
 show wpAny _ _ _ _ E { s with heap:=((s.heap.push (seqObj "list" #[] 0)).update s.heap.objs.size (Obj.mapSeq (· ++ vs.toArray))).push (seqObj "list" vs.toArray 0) }
 rw[sz1]
 refine Vl (Wt (wpAny_call_entry slot_list_sort ⟨_,at1,rfl⟩ entry_list_sort (za (kf:=kf) at1 (fun v hv=>(hT v hv).keep keep) hN hv fun out c1 c2=>⟨_,rfl,?_⟩) (args_list_sort _)))
 exact Vz ⟨_,rfl,hQ out c1 c2⟩
end
section
variable {X:Cx}
def K1 (K:W.Frag):List V->Hp->VK->Prop:=fun xs H Q=>∃(a:Addr) (ts:List Addr) (kf:Addr->Int),xs=[.ref a]/\aU K H a (ts.map V.ref)/\ts.length<=63/\(∀t∈ts,∃rest,H t=some (.tup (V.int (kf t)::rest)))/\(∀t∈ts,∀u∈ts,kf t=kf u->t=u) /\
 ∀(us:List Addr) (l:Addr),us.Perm ts->us.Pairwise (fun t u=>kf t<=kf u)->H l=none->Q (.ref l) (upd H l (.lst (us.map V.ref)))
theorem m7:∀{ts:List Addr}{its:List Value},Vals (ts.map V.ref) its->its=ts.map Value.ref
 | [],_,r=>by cases r;rfl
 | t::ts,_,r=>by
  cases r with
  | cons r1 r2 =>
   rw[m7 r2]
   cases (show _=Value.ref t from r1)
   rfl
theorem mZ:∀(ts:List Addr),Vals (ts.map V.ref) (ts.map Value.ref)
 | []=>.nil
 | t::ts=>.cons rfl (mZ ts)
def UI (kf:Addr->Int):Value->Int
 | .ref a=>kf a
 | _=>0
theorem k_:eT X (.builtin "sorted") (K1 X.K):=by
 intro pins s σ H xs us Q I r h
 obtain⟨a,ts,kf,rfl,hq,hn,hT,hN,q⟩:=h
 obtain⟨u,rfl,r1⟩:=vals1 r
 cases (show u=Value.ref a from r1)
 obtain⟨its,rv,pl,hz⟩:=I.list hq
 have ei:=m7 rv
 subst ei
 refine wo (kf:=UI kf) pl.isList (fun v hv=>?_) (fun v hv u hu e=>?_) (by rw[Vi];exact hn) fun out c1 c2=>?_
 ·obtain⟨t,ht,rfl⟩:=Vq.mp hv
  obtain⟨rest,hr⟩:=hT t ht
  obtain⟨its2,rv2,⟨o,e,c,n,d⟩,_⟩:=I.tuple (gu.of hr)
  cases rv2 with
  | cons r1 r2 =>
   obtain⟨tk,rfl⟩:=r1
   exact⟨t,o,n,tk,_,rfl,e,c,d⟩
 ·obtain⟨t,ht,rfl⟩:=Vq.mp hv
  obtain⟨t',ht',rfl⟩:=Vq.mp hu
  exact Wf Value.ref (hN t ht t' ht' e)
 ·obtain⟨e,he⟩:=sortedAll_at s.heap (ts.map Value.ref) out
  obtain⟨us2,p1,p2⟩ : ∃us2:List Addr,us2.Perm ts/\out.toList=us2.map Value.ref:=by
   refine⟨out.toList.map fun v=>match v with | .ref a=>a|_=>0,?_,?_⟩
   ·have:=c1.map (fun v=>match v with|Value.ref a=>a|_=>0)
    refine this.trans ?_
    rw[V4]
    exact List.Perm.of_eq (by simp[Function.comp_def])
   ·rw[V4]
    refine(List.map_id _).symm.trans (Wa fun v hv=>?_)
    obtain⟨t,_,rfl⟩:=Vq.mp (c1.mem_iff.mp hv)
    rfl
  have hz2:(us2.map V.ref).length<=sizeLine:=by
   have hline:(63:Nat)<sizeLine:=by decide
   rw[Vi,p1.length_eq];omega
  rw[p2,VV]at c2
  exact⟨.ref (s.heap.objs.size+1),_,I.laid (t':=s.toks) (fun b o hb=>sortedAll_old hb) (XR _) (o:=.lst (us2.map V.ref)) ⟨hz2,out.toList,e,by rw[p2];exact mZ us2,by simpa using he⟩,rfl,q us2 _ p1 c2 (I.hok.fresh (XR _))⟩
end
end L2
namespace PySem
namespace F
theorem plain_upd_loop:plainId "dict.update.loop" = true:=by z_go
theorem entry_upd_loop:entryFor table "dict.update.loop" = some Builtin.«dict.update.loop»:=entryFor_of_fast (by kernel_rfl)
theorem list_no_keys:typeLookup (.type "list") "keys" = pure none:=by rw[typeLookup_type,builtinLookup_eq_fast];kernel_rfl
end F
theorem lG {prog:Program}{w:World}{A:Around}{E:Value->Shared->Prop}{s:Shared}{a:Addr}{o:Obj}{xs:Array Value}{k:Nat}{Q:Option Value->Shared->Prop}
  (hx:s.heap.get? a=some o) (hc:o.cls = .type "list") (hdat:o.data = .seq xs k) (hd:o.dict=none) (hA:A.handled=none)
  (h:∀h' tk,(∀b ob,s.heap.get? b=some ob->h'.get? b=some ob)->Q none { s with heap:=h',toks:=tk }) :
  wpAny (model prog w) A (getAttr? (.ref a) "keys") Q E s:=by
 have hmiss:=F.list_no_keys
 obtain⟨c,dct,dat,sl⟩:=o
 simp only at hc hdat hd
 subst hc hdat hd
 obtain⟨hp,g,d,tk,os⟩:=s
 have hT:∀tk',(⟨hp,g,d,tk',os⟩ : Shared).TypeIs (.ref a) "list" := fun _=>⟨_,hx,rfl⟩
 have f1:=sub_AttributeError
 have f3:=F.slot_list_getattribute.lookup
 have f4:=F.slot_list_getattribute.bind (.ref a)
 have f5:=am_list_getattr_none
 unfold getAttr? getAttrBy? getAttrBy
 repeat (any_goals (first|assumption|exact hT _|((with_reducible show wpAny _ _ (call (Value.builtin "list.__getattribute__") _ _) _ _ _);refine call_meets F.slot_list_getattribute (hT _) am_entry_list_getattribute (F.args_list_getattribute_2 _ _) (meets_getattribute_miss_list a xs k sl "keys" _ hmiss (by z_go) (by z_go)) ⟨hx,hA,fun h' tk' e hx'=>?_⟩)|wp_step))
 obtain⟨t',u',he⟩:=hx'.there
 show wpAny _ _ (getattributeRaised _ _ _ _ _ _ _) _ _ _
 unfold getattributeRaised
 repeat (any_goals (first|assumption|wp_step))
 exact h _ _ hx'.keeps
end PySem
namespace L2
open PySem PySem.Spec PyProof.Rows
section
variable {prog:Program}{w:World}{κ:Type} [DecidableEq κ] {knd:KeyKind prog w κ}{A:Around}{E:Value->Shared->Prop}{s:Shared}
inductive fQ (knd:KeyKind prog w κ) (h:Heap):List Value->List (κ×Value)->Prop
 | nil:fQ knd h [] []
 | cons {a:Addr}{o:Obj}{n:Nat}{key val:Value}{k:κ}{vs:List Value}{rs:List (κ×Value)}:h.get? a=some o->o.cls = .type "tuple"->o.data = .seq #[key,val] n->knd.is k key=true->fQ knd h vs rs->fQ knd h (.ref a::vs) ((k,val)::rs)
theorem fQ.get {h:Heap}:∀{vs:List Value}{rs:List (κ×Value)}{i:Nat}{v:Value},fQ knd h vs rs->vs[i]? = some v->∃a o n key val k,v = .ref a/\h.get? a=some o/\o.cls = .type "tuple"/\o.data = .seq #[key,val] n/\knd.is k key=true/\rs[i]? = some (k,val)
 | _,_,_,_,.nil,e=>by simp at e
 | _,_,0,_,.cons h1 h2 h3 h4 t,e=>by
  rw[List.getElem?_cons_zero]at e
  cases e
  exact⟨_,_,_,_,_,_,rfl,h1,h2,h3,h4,rfl⟩
 | _,_,i+1,_,.cons h1 h2 h3 h4 t,e=>fQ.get (i:=i) t (by simpa using e)
theorem fQ.len {h:Heap}:∀{vs:List Value}{rs:List (κ×Value)},fQ knd h vs rs->vs.length=rs.length
 | _,_,.nil=>rfl
 | _,_,.cons _ _ _ _ t=>Wf (· + 1) t.len
theorem lS {h0:Heap}{l d it:Addr}{items:List Value}{rs:List (κ×Value)}{R:Result->Shared->Prop}(hA:A.in1.handled=none) (hl:h0.IsList l items.toArray) (hP:fQ knd h0 items rs) (hd:h0.get? d=none) (hi:h0.get? it=none) (di:d≠it) (hz:items.length<=100000) :
  ∀(k i:Nat) (s:Shared) (vs:List (κ×Value)),items.length-i=k->i<=items.length->vs.length<=i->s.heap.IsListIter it l i->(∀b o,h0.get? b=some o->s.heap.get? b=some o)->s.heap.DictOf knd d vs ->
  (∀s',s'.gens=s.gens->s'.drawn=s.drawn->s'.os=s.os->(∀b o,b≠d->b≠it->s.heap.get? b=some o->s'.heap.get? b=some o)->s'.heap.DictOf knd d (merged vs (rs.drop i))->R (.ok (.ret .none)) s') ->
  codeAny (model prog w) A (.builtin "dict.update.loop" ⟨[.ref d,.ref it,.int i 0,.none],[]⟩) R s:=by
 have hline:(100000:Nat)<sizeLine:=by decide
 have rl:=hP.len
 intro k
 induction k with
 | zero =>
  intro i s vs hk hi' hv hit hb hm hR
  have hin:i=items.length:=by omega
  refine codeAny_builtin F.entry_upd_loop ?_
  rw[Around.under_plainId F.plain_upd_loop _]
  show wpAny _ A.in1 (pyNext (.ref it) >>= _) _ _ s
  have hl':s.heap.IsList l items.toArray:=by
   obtain⟨o,e,r⟩:=hl
   exact⟨o,hb _ _ e,r⟩
  refine Vl (wpAny_pyNext_list_end hA hit hl' (by simp;omega) fun h' hx=>?_)
  show wpAny _ A.in1 (Builtin.Dict.addKeywords d [] >>= fun _=>ret .none) _ _ _
  refine Vl (Vz ?_)
  refine Vz (hR _ rfl rfl rfl (fun b o n1 n2 e=>hx b o n2 e) ?_)
  rw[Wl (by omega)]
  exact hm.extBut hx di
 | succ k ih =>
  intro i s vs hk hi' hv hit hb hm hR
  have hlt:i<items.length:=by omega
  obtain⟨x,hx⟩ : ∃x,items[i]? = some x:=⟨_,Vn hlt⟩
  obtain⟨a,o,n,key,val,kk,rfl,g1,c1,d1,k1,r1⟩:=hP.get hx
  refine codeAny_builtin F.entry_upd_loop ?_
  rw[Around.under_plainId F.plain_upd_loop _]
  show wpAny _ A.in1 (pyNext (.ref it) >>= _) _ _ s
  have hl':s.heap.IsList l items.toArray:=by
   obtain⟨o,e,r⟩:=hl
   exact⟨o,hb _ _ e,r⟩
  refine Vl (wpAny_pyNext_list_item hit hl' (by simpa using hx) fun h' hit' sb=>?_)
  have hb':∀b o,h0.get? b=some o->h'.get? b=some o:=fun b o e=>by
   have nb:b≠it:=fun z=>by rw[z,hi]at e;cases e
   rw[sb.2 b nb];exact hb _ _ e
  have hm':h'.DictOf knd d vs:=hm.sameBut sb di
  have ga:=hb' _ _ g1
  refine Vl (Wt ?_)
  refine Vl (wpAny_tryCatch ?_)
  unfold Builtin.Dict.pairItems
  refine Vl (wpAny_typeOf_ref ga ?_)
  rw[c1,VB (by decide)]
  refine Vl (wpAny_seqItems ga d1 ?_)
  refine Vz ?_
  show wpAny _ _ (holding [key,val] (dictSet d key val)) _ _ _
  refine Wt (wpAny_dictSet_pairs k1 hm' (fun h'' hd'' sb''=>?_) (by omega))
  refine Vz ⟨plainId_quiet F.plain_upd_loop _,?_⟩
  have e:rawInt ((i:Int)+1) = .int ((i+1:Nat):Int) 0:=rfl
  rw[e]
  have sl:(stored vs kk val).length<=i+1:=by
   unfold stored
   split
   ·rw[Vi];omega
   ·rw[Vm,Wn];omega
  refine ih (i+1) _ (stored vs kk val) (by omega) hlt sl ?_ (fun b o e=>?_) hd'' fun s' q1 q2 q3 q5 q6=>hR s' q1 q2 q3 (fun b o n1 n2 e=>q5 b o n1 n2 ?_) ?_
  ·obtain⟨oi,ei,ri⟩:=hit'
   exact⟨oi,(sb''.2 it di.symm).trans ei,ri⟩
  ·have nb:b≠d:=fun z=>by rw[z,hd]at e;cases e
   rw[sb''.2 b nb];exact hb' _ _ e
  ·rw[sb''.2 b n1,sb.2 b n2];exact e
  ·have ed:rs.drop i =(kk,val)::rs.drop (i+1):=by
    obtain⟨h1,h2⟩:=Vj.mp r1
    rw[List.drop_eq_getElem_cons h1,h2]
   rw[ed]
   exact q6
theorem oG {l:Addr}{items:List Value}{rs:List (κ×Value)}{Q:Value->Shared->Prop}(hA:A.handled=none) (hl:s.heap.IsList l items.toArray) (hld:∀o,s.heap.get? l=some o->o.dict=none) (hP:fQ knd s.heap items rs) (hz:items.length<=100000)
  (h:∀s',s'.gens=s.gens->s'.drawn=s.drawn->s'.os=s.os->(∀b o,s.heap.get? b=some o->s'.heap.get? b=some o)->s'.heap.DictOf knd s.heap.objs.size (merged [] rs)->Q (.ref s.heap.objs.size) s') :
  wpAny (model prog w) A (call (.type "dict") [.ref l]) Q E s:=by
 refine callType_codes (Q₁:=fun obj s₁=>obj = .ref s.heap.objs.size/\s₁ = { s with heap:=s.heap.push { cls:=.type "dict",data:=.dict #[] } }) F.kt_called_dict (F.kt_typeCall_dict_1 _) F.entry_dict_init (kt_code_dict_new _ ⟨rfl,rfl⟩) ?_
 rintro obj s₁ ⟨rfl,rfl⟩
 have hnew:(s.heap.push { cls:=.type "dict",data:=.dict #[] }).DictOf knd s.heap.objs.size []:=Heap.DictOf.new s.heap
 refine⟨hnew.typeIs,F.args_dict_init_2 _ _,?_⟩
 unfold Builtin.«dict.__init__»
 refine Vl ?_
 unfold Builtin.Dict.selfAndRest
 refine Vl (wpAny_notOrdered_dict hnew.typeIs ?_)
 show wpAny _ _ (pure (s.heap.objs.size,[Value.ref l])) _ _ _
 refine Vz ?_
 show wpAny _ _ (Builtin.Dict.updateFrom "dict.__init__" s.heap.objs.size (.ref l) [] .none) _ _ _
 unfold Builtin.Dict.updateFrom
 obtain⟨ol,gl,cl,nl,dl⟩:=id hl
 have gl1:(s.heap.push { cls:=.type "dict",data:=.dict #[] }).get? l=some ol:=Vu _ gl
 refine Vl (wpAny_typeOf_ref gl1 ?_)
 rw[cl,VB (by decide)]
 refine Vl (lG gl1 cl dl (hld _ gl) (show A.handled=none from hA) (fun h' tk kp=>?_))
 rw[VB (show(none:Option Value).isNone=true from rfl)]
 refine Vl (Xl ?_)
 have hl2:h'.IsList l items.toArray:=⟨ol,kp _ _ gl1,cl,nl,dl⟩
 refine Vl (wpAny_pyIter_list (s:={ s with heap:=h',toks:=tk }) hl2 ?_)
 refine Vz ⟨plainId_quiet F.plain_upd_loop _,?_⟩
 have hit0:s.heap.get? h'.objs.size=none:=by
  cases e:s.heap.get? h'.objs.size with
  | none=>rfl
  | some o=>exact absurd (VG (kp _ _ (Vu _ e))) (Wz _)
 obtain⟨od,es,ep,ho,r⟩:=hnew
 have hd2:=kp _ _ ho
 have di:s.heap.objs.size≠h'.objs.size:=VN (VG hd2)
 refine lS (h0:=s.heap) (knd:=knd) (A:=A.in1) (rs:=rs) hA hl hP (Heap.get?_none_of_le (Vt _)) hit0 di hz items.length 0 _ [] rfl (VS _) (Vt _) ⟨_,V0 _ rfl,rfl,rfl⟩ (fun b o e=>Vu _ (kp _ _ (Vu _ e))) ⟨od,es,ep,Vu _ hd2,r⟩ fun s' q1 q2 q3 q5 q6=>?_
 refine⟨rfl,h s' q1 q2 q3 (fun b o e=>?_) q6⟩
 have lt:=VG e
 refine q5 b o (VN lt) (fun z=>by rw[z,hit0]at e;cases e) ?_
 exact Vu _ (kp _ _ (Vu _ e))
end
section
variable {X:Cx}
def La (K:W.Frag):List V->Hp->VK->Prop:=fun xs H Q=>∃(a:Addr) (ts:List Addr) (ps:List (Key×V)),xs=[.ref a]/\aU K H a (ts.map V.ref)/\ts.length<=100000/\ts.length=ps.length/\(∀(i:Nat) (t:Addr) (p:Key×V),ts[i]? = some t->ps[i]? = some p->H t=some (.tup [kV p.1,p.2])) /\
 ∀d,H d=none->Q (.ref d) (upd H d (.dK (fJ [] ps)))
theorem wK {pins:List (Addr×Obj)}{σ:St}{H:Hp}{s:Shared}(I:Inv X pins σ H s):∀{ts:List Addr}{ps:List (Key×V)},ts.length=ps.length->(∀(i:Nat) (t:Addr) (p:Key×V),ts[i]? = some t->ps[i]? = some p->H t=some (.tup [kV p.1,p.2]))->∃rs,fQ (bV X.prog X.w) s.heap (ts.map Value.ref) rs/\KV ps rs
 | [],[],_,_=>⟨[],.nil,.nil⟩
 | [],_::_,l,_=>by cases l
 | _::_,[],l,_=>by cases l
 | t::ts,p::ps,l,h=>by
  obtain⟨rs,h1,h2⟩:=wK I (ts:=ts) (ps:=ps) (by simpa using l) fun i t p a b=>h (i+1) t p (by simpa using a) (by simpa using b)
  obtain⟨its2,rv2,⟨o,e,c,n,d⟩,_⟩:=I.tuple (gu.of (h 0 t p rfl rfl))
  cases rv2 with
  | cons r1 r2 =>
   cases r2 with
   | cons r3 r4 =>
    cases r4
    exact⟨(p.1,_)::rs,.cons e c d (AK r1) h1,.cons ⟨rfl,r3⟩ h2⟩
theorem qx (hc:X.calm=true):eT X (.type "dict") (La X.K):=by
 intro pins s σ H xs us Q I r h
 obtain⟨a,ts,ps,rfl,hq,hn,hl,hp,q⟩:=h
 obtain⟨u,rfl,r1⟩:=vals1 r
 cases (show u=Value.ref a from r1)
 obtain⟨its,rv,pl,hz⟩:=I.list hq
 have ei:=m7 rv
 subst ei
 obtain⟨rs,hP,hk⟩:=wK I hl hp
 have pl':=pl
 obtain⟨o,n,e,c,dn,d⟩:=pl'
 refine oG (I.ok.hd hc) pl.isList (fun o' e'=>by rw[e]at e';cases e';exact dn) hP (by rw[Vi];exact hn) fun s' g1 g2 g3 kp hd=>?_
 obtain⟨h',g',d',t',os'⟩:=s'
 simp only at g1 g2 g3
 subst g1 g2 g3
 have hz2:(fJ [] ps).length<=sizeLine:=by
  have h1:=iD ps []
  have hline:(100000:Nat)<sizeLine:=by decide
  rw[List.length_nil]at h1;omega
 exact⟨.ref s.heap.objs.size,_,I.laid (h':=h') (t':=t') kp (Vt _) (o:=.dK (fJ [] ps)) (B7 hz2 (Xe.mpr (Ne.symm (VN I.big))) (hk.merge .nil) hd),rfl,q _ (I.hok.fresh (Vt _))⟩
end
theorem E6 {td ty:TE}{σ:St}{H:Hp}{Q:VK}(h:td σ H fun x H1=>ty σ H1 fun y H2=>∃a v,x = .ref a/\yi H2 a y (some v)/\Q v H2):HX td ty σ H Q:=h
theorem GZ {P:Program}{w:World}{k:Key}{u:Value}(h:(bV P w).is k u=true):RelV (kV k) u:=by
 rw[yM]at h
 rcases cy h with⟨i,t,rfl,rfl⟩|⟨x,t,rfl,rfl⟩
 ·exact⟨t,rfl⟩
 ·exact⟨t,rfl⟩
section
variable {prog:Program}{w:World}{κ:Type} [DecidableEq κ] {knd:KeyKind prog w κ}{A:Around}{E:Value->Shared->Prop}{s:Shared}
theorem Bf {d:Addr}{kvs:List (κ×Value)}{Q:Bool->Shared->Prop}(hm:s.heap.DictOf knd d kvs) (h:Q false s):wpAny (model prog w) A (Builtin.List.listLengthHint (.ref d)) Q E s:=by
 unfold Builtin.List.listLengthHint
 refine Vl (wpAny_specialOf hm.typeIs F.slot_dict_len.lookup ?_)
 generalize hid:("dict.__len__" : String)=id0
 wp_delta
 rw[show splitId id0=some ("dict", "__len__") from by subst hid;z_go]
 subst hid
 refine Vl (wpAny_isInstance (T := "dict") (b:=true) hm.typeIs (by rw[isSubtype_type];kernel_rfl) ?_)
 refine wpAny_ite_split (fun hab=>absurd hab (by decide)) (fun _=>?_)
 refine wpAny_ite_split (fun _=>?_) (fun hab=>absurd (by z_go) hab)
 refine Vl (wpAny_typeOf hm.typeIs ?_)
 exact Vz h
theorem xP {R:Result->Shared->Prop}{d:Addr}{kvs:List (κ×Value)}(hh:A.handled=none) (hd:(d == sysModules)=false) (hm:s.heap.DictOf knd d kvs) (hlen:kvs.length<=2^24) (S:Addr) (res:Value) (c₀:Nat) (hS:s.heap.get? S=some { cls:=.type "list",data:=.seq #[] c₀ })
  (hR:∀h' tk acc' c',(∀b o,b≠S->s.heap.get? b=some o->h'.get? b=some o)->h'.get? S=some { cls:=.type "list",dict:=none,data:=.seq acc' c',slots:=#[] } ->
   ItemsOf (fun i v=>∃k x,kvs[i]? = some (k,x)/\knd.is k v=true) acc' kvs.length->R (.ok (.ret res)) { s with heap:=h',toks:=tk }) :
  wpAny (model prog w) A.in1 (Builtin.List.listExtendWith (.ref S) (.ref d) res)
   (fun fin s'=>match fin with | .done f=>R (.ok f) s' | .again c'=>c'.quiet=true/\codeAny (model prog w) A c' R s') (fun e s'=>R (.error e) s') s:=by
 obtain⟨ep,hA⟩:=hm.dictAt
 obtain⟨od,es,god,_⟩:=id hA
 have hSd:S≠d:=fun e=>by
  have h1:=hm.typeIs
  rw[<- e]at h1
  obtain⟨o',g',c'⟩:=h1
  rw[hS]at g'
  cases g'
  exact absurd (show Value.type "list" = Value.type "dict" from c') (by decide)
 have hSlt:S<s.heap.objs.size:=VG hS
 have hSI:S≠s.heap.objs.size:=VN hSlt
 have hdI:d≠s.heap.objs.size:=VN (VG god)
 have hSf:S ∉ [s.heap.objs.size,d]:=fun hm=>by
  rcases VW.mp hm with z|z
  ·exact hSI z
  ·exact hSd (by simpa using z)
 have W:=(Walks.dictKeys (prog:=prog) (w:=w) (A:=A.in1) (knd:=knd) hh s.heap.objs.size d hdI kvs ep).toS
 have key:∀(h:Heap) (c₁ tk:Nat),(h.IsKeyIter s.heap.objs.size d 0 kvs.length ep/\h.DictAt knd d kvs ep)->(∀b o,b≠S->s.heap.get? b=some o->h.get? b=some o) ->
   h.get? S=some { cls:=.type "list",data:=.seq #[] c₁ }->codeAny (model prog w) A (.builtin "list.extend.loop" ⟨[.ref S,.ref s.heap.objs.size,res],[]⟩) R { s with heap:=h,toks:=tk }:=by
  intro h c₁ tk hit hk hS₁
  refine codeAny_extend_loopS W (by rw[sizeLine_eq];omega) S hSf res kvs.length 0 _ #[] c₁ rfl (VS _) hit hS₁ (ItemsOf.nil _) fun s' acc' c' hm hS' hacc=>?_
  rw[Moved.eq_with hm]
  refine hR s'.heap s'.toks acc' c' (fun b o hb e=>hm.heap b o (fun hmem=>?_) (hk b o hb e)) hS' hacc
  rcases VW.mp hmem with e'|hmem
  ·exact hb e'
  ·exact absurd (VG e) (by rw[VM.mp hmem];exact Wz _)
 unfold Builtin.List.listExtendWith
 refine Vl (wpAny_typeOf hm.typeIs ?_)
 have h1:Builtin.List.listSameRef (.ref S) (.ref d)=false:=by simp[Builtin.List.listSameRef,hSd]
 have h2:(Value.type "dict" == Value.type "list")=false:=by decide
 have h3:(Value.type "dict" == Value.type "tuple")=false:=by decide
 simp only[h1,h2,h3,Bool.or_false,Bool.false_eq_true,if_false]
 refine Vl (wpAny_pyIter_dict hd hA ?_)
 refine Vl (Wt (Bf (hm.push _) ?_))
 have hit₁:(s.heap.push { cls:=.type "dict_keyiterator",data:=.fields #[.ref d,.int 0 0,.int kvs.length 0,.int ep 0] }).IsKeyIter s.heap.objs.size d 0 kvs.length ep:=⟨_,V0 _ rfl,rfl,rfl⟩
 have hA₁:(s.heap.push { cls:=.type "dict_keyiterator",data:=.fields #[.ref d,.int 0 0,.int kvs.length 0,.int ep 0] }).DictAt knd d kvs ep:=hA.at' fun o e=>Vu _ e
 have hS₁:=Vu { cls:=.type "dict_keyiterator",data:=.fields #[.ref d,.int 0 0,.int kvs.length 0,.int ep 0] } hS
 refine wpAny_ite_split (fun _=>?_) (fun _=>Vz ⟨plainId_quiet F.plain_extend_loop _,key _ c₀ _ ⟨hit₁,hA₁⟩ (fun b o _ e=>Vu _ e) hS₁⟩)
 refine Vl (Xl ?_)
 refine Vl ?_
 show wpAny _ _ (updateSeq S (·.push .none) >>= fun _=>updateSeq S (·.pop)) _ _ _
 refine Vl (wpAny_updateSeq hS₁ rfl ?_)
 have hS₂:=Xo (Obj.mapSeq (·.push Value.none)) hS₁ rfl
 refine wpAny_updateSeq (hz:=by seq_fits) hS₂ rfl ?_
 have hS₃:=Xo (Obj.mapSeq (·.pop)) hS₂ rfl
 have oth:∀b o,b≠S->(s.heap.push { cls:=.type "dict_keyiterator",data:=.fields #[.ref d,.int 0 0,.int kvs.length 0,.int ep 0] }).get? b=some o->(((s.heap.push { cls:=.type "dict_keyiterator",data:=.fields #[.ref d,.int 0 0,.int kvs.length 0,.int ep 0] }).update S (Obj.mapSeq (·.push Value.none))).update S (Obj.mapSeq (·.pop))).get? b=some o:=fun b o hb e=>(WZ _ _ (Ne.symm hb)).trans ((WZ _ _ (Ne.symm hb)).trans e)
 refine Vz ⟨plainId_quiet F.plain_extend_loop _,key _ _ _ ⟨hit₁.at fun o e=>oth _ o (Ne.symm hSI) e,hA₁.at' fun o e=>oth _ o (Ne.symm hSd) e⟩ (fun b o hb e=>oth b o hb (Vu _ e)) hS₃⟩
theorem A4 {R:Result->Shared->Prop}{d:Addr}{kvs:List (κ×Value)}(hh:A.handled=none) (hd:(d == sysModules)=false) (hm:s.heap.DictOf knd d kvs) (hlen:kvs.length<=2^24) (S:Addr) (hS:s.heap.get? S=some { cls:=.type "list",data:=.seq #[] })
  (hR:∀h' tk acc' c',(∀b o,b≠S->s.heap.get? b=some o->h'.get? b=some o)->h'.get? S=some { cls:=.type "list",dict:=none,data:=.seq acc' c',slots:=#[] } ->
   ItemsOf (fun i v=>∃k x,kvs[i]? = some (k,x)/\knd.is k v=true) acc' kvs.length->R (.ok (.ret .none)) { s with heap:=h',toks:=tk }) :
  wpAny (model prog w) A.in1 (Builtin.«list.__init__» ⟨[.ref S,.ref d],[]⟩)
   (fun fin s'=>match fin with | .done f=>R (.ok f) s' | .again c'=>c'.quiet=true/\codeAny (model prog w) A c' R s') (fun e s'=>R (.error e) s') s:=by
 have hSd:S≠d:=fun e=>by
  have h1:=hm.typeIs
  rw[<- e]at h1
  obtain⟨o',g',c'⟩:=h1
  rw[hS]at g'
  cases g'
  exact absurd (show Value.type "list" = Value.type "dict" from c') (by decide)
 show wpAny _ _ (do let old <- Builtin.List.listItems (.ref S);Builtin.List.listUpdate (.ref S) (fun _=>#[]);letGo old.toList.reverse;Builtin.List.listExtendWith (.ref S) (.ref d) .none) _ _ s
 refine Vl ?_
 unfold Builtin.List.listItems
 refine Vl (wpAny_seqItems hS rfl (Vz ?_))
 show wpAny _ _ (updateSeq S (fun _=>#[]) >>= fun _=>letGo (#[]:Array Value).toList.reverse >>= fun _=>Builtin.List.listExtendWith (.ref S) (.ref d) .none) _ _ s
 refine Vl (wpAny_updateSeq hS rfl ?_)
 have hS₂:=Xo (Obj.mapSeq (fun _=>(#[]:Array Value))) hS rfl
 have oth:∀b o,b≠S->s.heap.get? b=some o->(s.heap.update S (Obj.mapSeq (fun _=>(#[]:Array Value)))).get? b=some o :=
  fun b o hb e=>(WZ _ _ (Ne.symm hb)).trans e
 refine Vl (wpAny_letGo ?_)
 obtain⟨od,es,ep,god,r⟩:=id hm
 refine xP (knd:=knd) (kvs:=kvs) hh hd ⟨od,es,ep,oth d _ (Ne.symm hSd) god,r⟩ hlen S .none _ hS₂ fun h' tk acc' c' hk hS' hacc=>?_
 exact hR h' tk acc' c' (fun b o hb e=>hk b o hb (oth b o hb e)) hS' hacc
theorem pM {Q:Value->Shared->Prop}{d:Addr}{kvs:List (κ×Value)}(hh:A.handled=none) (hd:(d == sysModules)=false) (hm:s.heap.DictOf knd d kvs) (hlen:kvs.length<=2^24)
  (hQ:∀h' tk acc' c',(∀b o,s.heap.get? b=some o->h'.get? b=some o) ->
   h'.get? s.heap.objs.size=some { cls:=.type "list",dict:=none,data:=.seq acc' c',slots:=#[] }->ItemsOf (fun i v=>∃k x,kvs[i]? = some (k,x)/\knd.is k v=true) acc' kvs.length->Q (.ref s.heap.objs.size) { s with heap:=h',toks:=tk }) :
  wpAny (model prog w) A (call (.type "list") [.ref d]) Q E s:=by
 refine callType_codes (Q₁:=fun obj s₁=>obj = .ref s.heap.objs.size/\s₁ = { s with heap:=s.heap.push { cls:=.type "list",data:=.seq #[] } }) F.called_list (F.typeCall_list_1 _) F.entry_list_init
  (code_list_new _ ⟨rfl,rfl⟩) fun obj s₁ h₁=>?_
 obtain⟨rfl,rfl⟩:=h₁
 have hS:(s.heap.push { cls:=.type "list",data:=.seq #[] }).get? s.heap.objs.size=some { cls:=.type "list",data:=.seq #[] }:=V0 _ rfl
 refine⟨⟨_,hS,rfl⟩,F.args_list_init_2 _ _,A4 (A:=A.in1) (knd:=knd) (kvs:=kvs) hh hd (hm.push _) hlen _ hS fun h' tk acc' c' hk hS' hacc=>?_⟩
 exact⟨rfl,hQ h' tk acc' c' (fun b o e=>hk b o (VN (VG e)) (Vu _ e)) hS' hacc⟩
end
section
variable {X:Cx}
def Ko:List V->Hp->VK->Prop:=fun xs H Q=>∃(d:Addr) (kvs:List (Key×V)),xs=[.ref d]/\H d=some (.dK kvs)/\∀l,H l=none->Q (.ref l) (upd H l (.lst (kvs.map fun kv=>kV kv.1)))
theorem tG {P:Program}{w:World}:∀{kvs:List (Key×V)}{vs:List (Key×Value)}{us:List Value},KV kvs vs->us.length=vs.length->(∀(i:Nat) v,us[i]? = some v->∃k x,vs[i]? = some (k,x)/\(bV P w).is k v=true)->Vals (kvs.map fun kv=>kV kv.1) us
 | _,_,[],.nil,_,_=>.nil
 | _,_,_::_,.nil,l,_=>by cases l
 | _,_,[],.cons _ _,l,_=>by cases l
 | _,_,u::us,.cons (a:=p) (b:=b) r t,l,h=>by
  obtain⟨k,x,h1,h2⟩:=h 0 u rfl
  have e:b =(k,x):=by simpa using h1
  refine .cons ?_ (tG (P:=P) (w:=w) t (by simpa using l) fun i v hv=>?_)
  ·have:=GZ h2
   show RelV (kV p.1) u
   rw[r.1,e];exact this
  ·obtain⟨k',x',h3,h4⟩:=h (i+1) v (by simpa using hv)
   exact⟨k',x',by simpa using h3,h4⟩
theorem zV (hc:X.calm=true):eT X (.type "list") Ko:=by
 intro pins s σ H xs us Q I r h
 obtain⟨d,kvs,rfl,hd,q⟩:=h
 obtain⟨u,rfl,r1⟩:=vals1 r
 cases (show u=Value.ref d from r1)
 obtain⟨hz,lo,vs,rk,hD⟩ : kvs.length<=sizeLine/\(d == sysModules)=false/\∃vs,KV kvs vs/\s.heap.DictOf (bV X.prog X.w) d vs:=I.hok d _ hd
 have hl:kvs.length=vs.length:=XO rk
 refine pM (I.ok.hd hc) lo hD (by rw[<- hl];exact hz) fun h' tk acc c kp hS hacc=>?_
 have hv:Vals (kvs.map fun kv=>kV kv.1) acc.toList:=tG (P:=X.prog) (w:=X.w) rk (by rw[<- hacc.1];simp) fun i v e=>hacc.2 i v (by simpa using e)
 have hz2:(kvs.map fun kv=>kV kv.1).length<=sizeLine:=by rw[Vi];exact hz
 exact⟨.ref s.heap.objs.size,_,I.laid (t':=tk) kp (Vt _) (o:=.lst (kvs.map fun kv=>kV kv.1)) ⟨hz2,acc.toList,c,hv,by simpa using hS⟩,rfl,q _ (I.hok.fresh (Vt _))⟩
end
inductive NZ:Value->Int->Prop
 | int (i:Int) (t:Tok):NZ (.int i t) i
 | bl (b:Bool):NZ (.bool b) (if b=true then(1:Int) else 0)
inductive Num:V->Int->Prop
 | int (i:Int):Num (.int i) i
 | bl (b:Bool):Num (.bl b) (if b=true then(1:Int) else 0)
abbrev vR (elt t1 i1:Expr) (fs1:List Expr) (t2 i2:Expr) (fs2:List Expr) (scope:Scope) (pos:Pos):Expr:=.ListComp elt [⟨t1,i1,fs1,0⟩,⟨t2,i2,fs2,0⟩] scope pos
theorem xK (elt t1 i1:Expr) (fs1:List Expr) (t2 i2:Expr) (fs2:List Expr) (scope:Scope) (pos:Pos) (it acc:Value) (env:Env) :
  compTurn (vR elt t1 i1 fs1 t2 i2 fs2 scope pos) 0 it acc env =(do
   standAt i1.pos
   match <- pyNext it with
   | none=>pure (.done .next)
   | some v =>
    letOwnedTupleGo t1 it v
    assign t1 env v
    let mut ok:=true
    for c in fs1 do
     if ok then ok <- isTrue c env (eval c env)
    if ok then
     let x <- eval i2 env
     standAt i2.pos
     let x <- foldedSetIterable i2 env x
     let _ <- runOwn (.compStart (vR elt t1 i1 fs1 t2 i2 fs2 scope pos) 1 (<- holding [x] (pyIter x)) acc env) env
    again (.compLoop (vR elt t1 i1 fs1 t2 i2 fs2 scope pos) 0 it acc env)):=by rfl
theorem we (elt t1 i1:Expr) (fs1:List Expr) (t2 i2:Expr) (fs2:List Expr) (scope:Scope) (pos:Pos) (it acc:Value) (env:Env) :
  compTurn (vR elt t1 i1 fs1 t2 i2 fs2 scope pos) 1 it acc env =(do
   standAt i2.pos
   match <- pyNext it with
   | none=>pure (.done .next)
   | some v =>
    letOwnedTupleGo t2 it v
    assign t2 env v
    let mut ok:=true
    for c in fs2 do
     if ok then ok <- isTrue c env (eval c env)
    if ok then
     (do let _ <- call (.builtin "list.append") [acc,<- eval elt env])
    again (.compLoop (vR elt t1 i1 fs1 t2 i2 fs2 scope pos) 1 it acc env)):=by rfl
section
variable {prog:Program}{w:World}{A:Around}{R:Result->Shared->Prop}{s:Shared}{elt t1 i1 t2 i2:Expr}{fs1 fs2:List Expr}{scope:Scope}{pos:Pos}{it acc:Value}{env:Env}
theorem yj (I:Nat->Shared->Prop)
  (turn:∀n s,I n s->wpAny (model prog w) A (pyNext it) (fun r s₁=>match r with
   | none=>R (.ok .next) s₁
   | some v=>wpAny (model prog w) A (letOwnedTupleGo t2 it v) (fun _ s₁'=>wpAny (model prog w) A (assign t2 env v) (fun _ s₂ =>
     wpAny (model prog w) A (forIn fs2 true fun c r=>if r=true then do let ok <- isTrue c env (eval c env);pure (ForInStep.yield ok) else pure (ForInStep.yield r)) (fun ok s₃ =>
      if ok=true then wpAny (model prog w) A (eval elt env) (fun x s₄ =>
       wpAny (model prog w) A (call (.builtin "list.append") [acc,x]) (fun _ s₅=>∃m,m<n/\I m s₅) (fun _ _=>False) s₄) (fun _ _=>False) s₃
      else ∃m,m<n/\I m s₃) (fun _ _=>False) s₂) (fun _ _=>False) s₁') (fun _ _=>False) s₁) (fun _ _=>False) s)
  (n:Nat) (h:I n s) :
  codeAny (model prog w) A (.compLoop (vR elt t1 i1 fs1 t2 i2 fs2 scope pos) 1 it acc env) R s:=by
 refine codeAny_loop rfl I (fun n s hI=>?_) n h
 show wpAny _ A ((compTurn (vR elt t1 i1 fs1 t2 i2 fs2 scope pos) 1 it acc env).onRaise (fun x=>do noteFrame x env;theTreesLotGoes x)) _ _ s
 refine wpAny_noted ?_
 rw[we]
 refine Vl (Xc (Vl (Wc (turn n s hI) (fun r s₁ h₁=>?_) fun _ _ h'=>h'.elim)))
 cases r with
 | none=>exact Vz h₁
 | some v =>
  refine Vl (Wc h₁ (fun _ s₁' h₁'=>?_) fun _ _ h'=>h'.elim)
  refine Vl (Wc h₁' (fun _ s₂ h₂=>Vl (Wc h₂ (fun ok s₃ h₃=>?_) fun _ _ h'=>h'.elim)) fun _ _ h'=>h'.elim)
  cases ok with
  | false=>exact Vz ⟨rfl,h₃⟩
  | true =>
   exact Vl (Vl (Wc h₃ (fun x s₄ h₄=>Vl (Wc h₄ (fun _ s₅ h₅=>Vz (Vz ⟨rfl,h₅⟩)) fun _ _ h'=>h'.elim)) fun _ _ h'=>h'.elim))
theorem xS (I:Nat->Shared->Prop) (hs:∀x,foldedSetIterable i2 env x=pure x)
  (turn:∀n s,I n s->wpAny (model prog w) A (pyNext it) (fun r s₁=>match r with
   | none=>R (.ok .next) s₁
   | some v=>wpAny (model prog w) A (letOwnedTupleGo t1 it v) (fun _ s₁'=>wpAny (model prog w) A (assign t1 env v) (fun _ s₂ =>
     wpAny (model prog w) A (forIn fs1 true fun c r=>if r=true then do let ok <- isTrue c env (eval c env);pure (ForInStep.yield ok) else pure (ForInStep.yield r)) (fun ok s₃ =>
      if ok=true then wpAny (model prog w) A (eval i2 env) (fun x s₄=>wpAny (model prog w) A (pyIter x) (fun it2 s₅ =>
       codeAny (model prog w) A (.compStart (vR elt t1 i1 fs1 t2 i2 fs2 scope pos) 1 it2 acc env) (fun r s₆=>match r with | .ok _=>∃m,m<n/\I m s₆ | .error _=>False) s₅) (fun _ _=>False) s₄) (fun _ _=>False) s₃
      else ∃m,m<n/\I m s₃) (fun _ _=>False) s₂) (fun _ _=>False) s₁') (fun _ _=>False) s₁) (fun _ _=>False) s)
  (n:Nat) (h:I n s) :
  codeAny (model prog w) A (.compLoop (vR elt t1 i1 fs1 t2 i2 fs2 scope pos) 0 it acc env) R s:=by
 refine codeAny_loop rfl I (fun n s hI=>?_) n h
 show wpAny _ A ((compTurn (vR elt t1 i1 fs1 t2 i2 fs2 scope pos) 0 it acc env).onRaise (fun x=>do noteFrame x env;theTreesLotGoes x)) _ _ s
 refine wpAny_noted ?_
 rw[xK]
 refine Vl (Xc (Vl (Wc (turn n s hI) (fun r s₁ h₁=>?_) fun _ _ h'=>h'.elim)))
 cases r with
 | none=>exact Vz h₁
 | some v =>
  refine Vl (Wc h₁ (fun _ s₁' h₁'=>?_) fun _ _ h'=>h'.elim)
  refine Vl (Wc h₁' (fun _ s₂ h₂=>Vl (Wc h₂ (fun ok s₃ h₃=>?_) fun _ _ h'=>h'.elim)) fun _ _ h'=>h'.elim)
  cases ok with
  | false=>exact Vz ⟨rfl,h₃⟩
  | true =>
   refine Vl (Wc h₃ (fun x s₄ h₄=>Vl (Xc (Vl (wpAny_of_eq (hs x) (Vl (Wt (Wc h₄ (fun it2 s₅ h₅=>Vl (wpAny_runOwn (codeAny_mono h₅ fun r s₆ h₆=>?_))) fun _ _ h'=>h'.elim))))))) fun _ _ h'=>h'.elim)
   cases r with
   | ok f=>exact Vz ⟨rfl,h₆⟩
   | error e=>exact h₆.elim
theorem uC
  (h0:codeAny (model prog w) A (.compLoop (vR elt t1 i1 fs1 t2 i2 fs2 scope pos) 1 it acc env) R s)
  (h:wpAny (model prog w) A (pyIter it) (fun it' s'=>codeAny (model prog w) A (.compLoop (vR elt t1 i1 fs1 t2 i2 fs2 scope pos) 1 it' acc env) R s')
   (notedBy (model prog w) A env fun x s'=>R (.error x) s') s) :
  codeAny (model prog w) A (.compStart (vR elt t1 i1 fs1 t2 i2 fs2 scope pos) 1 it acc env) R s:=by
 refine codeAny_of_tree ?_
 show wpAny _ _ ((compStart (vR elt t1 i1 fs1 t2 i2 fs2 scope pos) 1 it acc env).onRaise (fun x=>do noteFrame x env;standAt theWindowsPlace)) _ _ s
 refine wpAny_notedAt ?_
 unfold compStart
 show wpAny _ _ (ask >>= _) _ _ s
 refine Vl (wpAny_askSetting (wpAny_ite ?_))
 split
 ·first
   | exact Vl (Vz (Vz (And.intro rfl h0)))
   | exact Vz (And.intro rfl h0)
 ·first
   | exact Vl (Xl (Vl (Xc (Vl (Wc h (fun it' s' h'=>Vz (And.intro rfl h')) fun _ _ x=>x)))))
   | (refine Vl (Xl ?_);show wpAny _ _ (standAt i2.pos >>= _) _ _ s;exact Vl (Xc (Vl (Wc h (fun it' s' h'=>Vz (And.intro rfl h')) fun _ _ x=>x))))
end
def S6 (wi2:TI) (g2:TG) (tt2:TT) (te:TE) (D:Addr) (ys:List V) (σ:St) (H:Hp) (N0:St->List V->Hp->Prop):Prop:=wi2 σ H fun J H1 =>
 ∃W:Nat->Nat->St->List V->Hp->Prop,(∃m,W 0 m σ ys H1)/\∀i m σ' ys' H',W i m σ' ys' H' ->
  (J.stop i H'/\N0 σ' ys' H') \/(J.go i H'/\∃N:St->List V->Hp->Prop,(∀σ2 zs H2,N σ2 zs H2->∃m',m'<m/\W (i+1) m' σ2 zs H2) /\
   ∀x H2,J.yld i H' x H2->g2 x σ' H2 fun σ3 H3=>tt2 σ3 H3 fun b H4=>if b=true then te σ3 H4 fun y H5=>H5 D=some (.lst ys')/\ys'.length<sizeLine/\N σ3 (ys' ++ [y]) (upd H5 D (.lst (ys' ++ [y]))) else N σ3 ys' H4)
def vH (J:It) (vs:List Str) (js:List Nat) (σ:St) (g1:TG) (tt1:TT) (wi2:TI) (g2:TG) (tt2:TT) (te:TE) (Q:VK) (D:Addr) (H1:Hp):Prop :=
 ∃W:Nat->Nat->St->List V->Hp->Prop,(∃m,W 0 m (jB vs js σ) [] (upd H1 D (.lst [])))/\∀i m σ' ys H',W i m σ' ys H' ->
  (J.stop i H'/\Q (.ref D) H') \/(J.go i H'/\∃N:St->List V->Hp->Prop,(∀σ2 zs H2,N σ2 zs H2->∃m',m'<m/\W (i+1) m' σ2 zs H2) /\
   ∀x H2,J.yld i H' x H2->g1 x σ' H2 fun σ3 H3=>tt1 σ3 H3 fun b H4=>if b=true then S6 wi2 g2 tt2 te D ys σ3 H4 N else N σ3 ys H4)
def Dv (vs:List Str) (js:List Nat) (wi:TI) (g1:TG) (tt1:TT) (wi2:TI) (g2:TG) (tt2:TT) (te:TE):TE:=fun σ H Q=>wi σ H fun J H1=>∀D,H1 D=none->vH J vs js σ g1 tt1 wi2 g2 tt2 te Q D H1
section
variable {X:Cx}{pins:List (Addr×Obj)}{σ:St}{H:Hp}{s:Shared}{scope:Scope}{vs fs:List Str}{js:List Nat}
theorem Dp {t1 i1 t2 i2 elt:Expr}{ifs1 ifs2:List Expr}{pos:Pos}{g1 g2:TG}{tt1 tt2:TT}{wi2:TI}{te:TE}(hc:X.calm=true) (B:nP X scope vs fs js)
  (hg:∀C s H ex,PG (bu X scope (vs++fs) C s H ex) t1 g1) (ht:∀C s H ex,uR (bu X scope (vs++fs) C s H ex) ifs1 tt1)
  (hi2:∀C s H ex,PI (bu X scope (vs++fs) C s H ex) t2 i2 wi2) (hs2:∀C x,foldedSetIterable i2 (compEnvC scope (gU X.env scope.names []) C X.env) x=pure x)
  (hg2:∀C s H ex,PG (bu X scope (vs++fs) C s H ex) t2 g2) (ht2:∀C s H ex,uR (bu X scope (vs++fs) C s H ex) ifs2 tt2) (he:∀C s H ex,PE (bu X scope (vs++fs) C s H ex) elt te)
  {it:Addr}{fp:List Addr}{tn:Nat->Heap->Prop}{J:It}{Q:VK}{E:Value->Shared->Prop}(I2:Inv X pins σ H s) (T:Turn X.prog X.w X.K t1 J fp it tn) (st2:tn 0 s.heap) (f2:∀b∈fp,jy X pins H b)
  (hW:∀D,H D=none->vH J vs js σ g1 tt1 wi2 g2 tt2 te Q D H)
  {RR:Value->Addr->Result->Shared->Prop}
  (hR:∀D C H' s',Inv X pins σ H' s'->(∃m,s'.heap.Ns C m)->H' C=none->s.heap.objs.size<=C->Q (.ref D) H'->RR (.ref D) C (.ok .next) s') :
  wpAny (model X.prog X.w) X.A (newList []) (fun acc s₃=>wpAny (model X.prog X.w) X.A (newFunctionEnv scope X.env.globals (gU X.env scope.names []) [] X.env.qual none .none (some X.env)) (fun cenv s₄ =>
   codeAny (model X.prog X.w) X.A (.compStart (vR elt t1 i1 ifs1 t2 i2 ifs2 scope pos) 0 (.ref it) acc { cenv with scope:=relabel scope X.env }) (RR acc cenv.locals) s₄) E s₃) E s:=by
 have hfp:∀b∈fp,b<s.heap.objs.size:=fun b hb=>by
  obtain⟨o,e,_⟩:=T.obj _ _ st2 b hb
  exact VG e
 refine W7 (wpAny_newFunctionEnv B.cell (by intro y hy;simp at hy) (fun h₁ hns₁ hsb₁=>?_) B.kind)
 dsimp only at hns₁ hsb₁ ⊢
 generalize hH2:s.heap.push { cls:=.type "list",dict:=none,data:=.seq ([]:List Value).toArray } = HH at hns₁ hsb₁ ⊢
 have hC:HH.objs.size=s.heap.objs.size+1:=by rw[<- hH2,Heap.size_push]
 have hlt:s.heap.objs.size<HH.objs.size:=by rw[hC];exact XN _
 have old:∀b o,s.heap.get? b=some o->h₁.get? b=some o:=fun b o e=>hsb₁.extBut b o (VN (Nat.lt_trans (VG e) hlt)) (Vu _ (hH2 ▸ Vu _ e))
 have hacc:h₁.get? s.heap.objs.size=some { cls:=.type "list",data:=.seq ([]:List Value).toArray }:=hsb₁.extBut _ _ (VN hlt) (Vu _ (hH2 ▸ V0 _ rfl))
 have I0:Inv (bu X scope (vs++fs) HH.objs.size s H fp) [] (jB vs js σ) (upd H s.heap.objs.size (.lst [])) { s with heap:=h₁,toks:=s.toks+([]:List (Str×Value)).length }:=ux I2 B f2 hfp hns₁ old rfl hlt hacc
 obtain⟨W,⟨m0,w0⟩,turn⟩:=hW s.heap.objs.size (I2.hok.fresh (Vt _))
 have st1:tn 0 h₁:=T.keep _ _ _ st2 fun b hb o e=>old b o e
 have hch:∀b∈fp,(b∈X.ex\/X.s₀.heap.objs.size<=b)/\b≠X.env.locals/\(∀x c,X.env.cells.lookup x=some c->c≠b)/\∀p∈X.pn++pins,p.1≠b:=fun b hb=>by
  obtain⟨_,a2,_,a4,a5,a6⟩:=f2 b hb
  exact⟨a4,a2,a5,a6⟩
 have back:∀{pl:List (Addr×Obj)}{σ':St}{H':Hp}{s':Shared},Inv (bu X scope (vs++fs) HH.objs.size s H fp) pl σ' H' s'->Inv X pins σ H' s':=fun {pl σ' H' s'} J'=>I2.call' (ch:=fp) J'.os J'.base J'.hok J'.bare hch
 have nD:∀b∈fp,b≠s.heap.objs.size:=fun b hb=>VN (hfp b hb)
 have stat:∀{H':Hp},(∀b∈fp,H' b=none)->∀b∈fp,jy (bu X scope (vs++fs) HH.objs.size s H fp) [] H' b:=fun {H'} hn b hb=>by
  have z:=I0.ok
  refine⟨hn b hb,(z.exf b hb).1,z.exfs b hb,.inl hb,(z.exf b hb).2,fun p hp=>absurd (show p∈([]:List (Addr×Obj)) from hp) (by simp)⟩
 have loop:∀s₃:Shared,s₃ = { s with heap:=h₁,toks:=s.toks+([]:List (Str×Value)).length } ->
   codeAny (model X.prog X.w) X.A (.compLoop (vR elt t1 i1 ifs1 t2 i2 ifs2 scope pos) 0 (.ref it) (.ref s.heap.objs.size) (compEnvC scope (gU X.env scope.names []) HH.objs.size X.env)) (RR (.ref s.heap.objs.size) HH.objs.size) s₃:=by
  rintro s₃ rfl
  refine xS (fun n s'=>∃i σ' ys H',Inv (bu X scope (vs++fs) HH.objs.size s H fp) [] σ' H' s'/\tn i s'.heap/\(∀b∈fp,H' b=none)/\W i n σ' ys H') (hs2 _) ?_ m0
   ⟨0,_,_,_,I0,st1,fun b hb=>by rw[ao (nD b hb)];exact(f2 b hb).1,w0⟩
  rintro n s3 ⟨i,σ3,ys,H3,I3,st3,fr3,w3⟩
  rcases turn i n σ3 ys H3 w3 with⟨stop,q⟩|⟨go,N,hN,step⟩
  ·refine cg (T.done (bu X scope (vs++fs) HH.objs.size s H fp) rfl rfl rfl hc i [] s3 σ3 H3 _ I3 (stat fr3) st3 stop) fun r s4 ⟨hr,I4⟩=>?_
   subst hr
   obtain⟨m,hm,_⟩:=I4.loc
   exact hR _ _ H3 s4 (back I4) ⟨m,hm⟩ I4.free (WX hlt) q
  ·refine cg (T.item (bu X scope (vs++fs) HH.objs.size s H fp) rfl rfl rfl hc i [] s3 σ3 H3 _ I3 (stat fr3) st3 go) fun r s4 ⟨u,hr,h4⟩=>?_
   subst hr
   refine cg h4 fun _ s5 ⟨x,H5,I5,r5,y5,st5,fr5⟩=>?_
   have I5':=I5.pinned (stat fr5) (T.obj _ _ st5)
   have again:∀{σ7:St}{H7:Hp}{s7:Shared}{zs:List V},Inv (bu X scope (vs++fs) HH.objs.size s H fp) ([]++gP fp s5.heap) σ7 H7 s7->N σ7 zs H7->∃m,m<n/\∃i σ' ys H',Inv (bu X scope (vs++fs) HH.objs.size s H fp) [] σ' H' s7/\tn i s7.heap/\(∀b∈fp,H' b=none)/\W i m σ' ys H':=fun {σ7 H7 s7 zs} I7 n7=>by
    obtain⟨m',hm,w7⟩:=hN σ7 zs H7 n7
    refine⟨m',hm,i+1,σ7,zs,H7,I7.unpinned,T.keep _ _ _ st5 fun b hb o e=>(I7.pin (b,o) (VD _ (VD _ (dU hb e)))).1,fun b hb=>?_,w7⟩
    obtain⟨o,e,d⟩:=T.obj _ _ st5 b hb
    exact(I7.pin (b,o) (VD _ (VD _ (dU hb e)))).2.1
   refine cg (hg _ _ _ _ _ s5 σ3 H5 x u _ I5' r5 (step x H5 y5)) fun _ s6 ⟨σ6,H6,I6,q6⟩=>?_
   refine cg (ht _ _ _ _ _ s6 σ6 H6 _ I6 q6) fun ok s7 ⟨H7,I7,q7⟩=>?_
   cases ok with
   | false =>
    rw[VF VI]at q7 ⊢
    exact again I7 q7
   | true =>
    rw[VB rfl]at q7 ⊢
    refine cg (hi2 _ _ _ _ _ s7 σ6 H7 _ I7 q7) fun v7 s8 h8=>cg h8 fun itv s9 h9=>?_
    obtain⟨it2,fp2,tn2,J2,H9,e9,I9,T2,st9,f9,W2,⟨m20,w20⟩,turn2⟩:=h9
    subst e9
    have stat2:∀{H':Hp},(∀b∈fp2,H' b=none)->∀b∈fp2,jy (bu X scope (vs++fs) HH.objs.size s H fp) ([]++gP fp s5.heap) H' b:=fun hn b hb=>⟨hn b hb,(f9 b hb).2⟩
    have loop2:codeAny (model X.prog X.w) X.A (.compLoop (vR elt t1 i1 ifs1 t2 i2 ifs2 scope pos) 1 (.ref it2) (.ref s.heap.objs.size) (compEnvC scope (gU X.env scope.names []) HH.objs.size X.env)) (fun r s₆=>match r with | .ok _=>∃m,m<n/\∃i σ' ys H',Inv (bu X scope (vs++fs) HH.objs.size s H fp) [] σ' H' s₆/\tn i s₆.heap/\(∀b∈fp,H' b=none)/\W i m σ' ys H' | .error _=>False) s9:=by
     refine yj (fun n s'=>∃i σ' ys H',Inv (bu X scope (vs++fs) HH.objs.size s H fp) ([]++gP fp s5.heap) σ' H' s'/\tn2 i s'.heap/\(∀b∈fp2,H' b=none)/\W2 i n σ' ys H') ?_ m20 ⟨0,_,_,_,I9,st9,fun b hb=>(f9 b hb).1,w20⟩
     rintro n2 sa ⟨i',σa,yz,Ha,Ia,sta,fra,wa⟩
     rcases turn2 i' n2 σa yz Ha wa with⟨stop,q⟩|⟨go,N2,hN2,step2⟩
     ·refine cg (T2.done (bu X scope (vs++fs) HH.objs.size s H fp) rfl rfl rfl hc i' _ sa σa Ha _ Ia (stat2 fra) sta stop) fun r sb ⟨hr,Ib⟩=>?_
      subst hr
      exact again Ib q
     ·refine cg (T2.item (bu X scope (vs++fs) HH.objs.size s H fp) rfl rfl rfl hc i' _ sa σa Ha _ Ia (stat2 fra) sta go) fun r sb ⟨u2,hr,hb⟩=>?_
      subst hr
      refine cg hb fun _ sc ⟨x2,Hc,Ic,rc,yc,stc,frc⟩=>?_
      have Ic':=Ic.pinned (stat2 frc) (T2.obj _ _ stc)
      have again2:∀{σ7:St}{H7:Hp}{s7:Shared}{zs:List V},Inv (bu X scope (vs++fs) HH.objs.size s H fp) (([]++gP fp s5.heap)++gP fp2 sc.heap) σ7 H7 s7->N2 σ7 zs H7->∃m,m<n2/\∃i σ' ys H',Inv (bu X scope (vs++fs) HH.objs.size s H fp) ([]++gP fp s5.heap) σ' H' s7/\tn2 i s7.heap/\(∀b∈fp2,H' b=none)/\W2 i m σ' ys H':=fun {σ7 H7 s7 zs} I7 n7=>by
       obtain⟨m',hm,w7⟩:=hN2 σ7 zs H7 n7
       refine⟨m',hm,i'+1,σ7,zs,H7,I7.unpinned,T2.keep _ _ _ stc fun b hb o e=>(I7.pin (b,o) (VD _ (VD _ (dU hb e)))).1,fun b hb=>?_,w7⟩
       obtain⟨o,e,d⟩:=T2.obj _ _ stc b hb
       exact(I7.pin (b,o) (VD _ (VD _ (dU hb e)))).2.1
      refine cg (hg2 _ _ _ _ _ sc σa Hc x2 u2 _ Ic' rc (step2 x2 Hc yc)) fun _ sd ⟨σd,Hd,Id,qd⟩=>?_
      refine cg (ht2 _ _ _ _ _ sd σd Hd _ Id qd) fun ok se ⟨He,Ie,qe⟩=>?_
      cases ok with
      | false =>
       rw[VF VI]at qe ⊢
       exact again2 Ie qe
      | true =>
       rw[VB rfl]at qe ⊢
       refine cg (he _ _ _ _ _ se σd He _ Ie qe) fun y sf ⟨yv,Hf,If,rf,hDf,hz,nf⟩=>?_
       refine cg (bL _ sf σd Hf (.ref s.heap.objs.size) [yv] (.ref s.heap.objs.size) [y] (fun _ H9=>N2 σd (yz ++ [yv]) H9) If rfl (.cons rf .nil) ⟨_,yz,yv,rfl,rfl,hDf,hz,nf⟩) fun _ sg ⟨_,Hg,Ig,_,ng⟩=>?_
       exact again2 Ig ng
    exact uC loop2 (T2.self X.A 0 _ _ _ st9 loop2)
 exact codeAny_compStart_list (loop _ rfl) (T.self X.A 0 _ _ _ st1 (loop _ rfl))
theorem xx {t1 i1 t2 i2 elt:Expr}{ifs1 ifs2:List Expr}{pos:Pos}{wi wi2:TI}{g1 g2:TG}{tt1 tt2:TT}{te:TE}(hc:X.calm=true) (B:nP X scope vs fs js) (hi:PI X t1 i1 wi)
  (hg:∀C s H ex,PG (bu X scope (vs++fs) C s H ex) t1 g1) (ht:∀C s H ex,uR (bu X scope (vs++fs) C s H ex) ifs1 tt1)
  (hi2:∀C s H ex,PI (bu X scope (vs++fs) C s H ex) t2 i2 wi2)
  (hg2:∀C s H ex,PG (bu X scope (vs++fs) C s H ex) t2 g2) (ht2:∀C s H ex,uR (bu X scope (vs++fs) C s H ex) ifs2 tt2) (he:∀C s H ex,PE (bu X scope (vs++fs) C s H ex) elt te)
  (hs:∀x,foldedSetIterable i1 X.env x=pure x:=by intro _;rfl) (hs2:∀C x,foldedSetIterable i2 (compEnvC scope (gU X.env scope.names []) C X.env) x=pure x:=by intro _ _;rfl) :
  PE X (vR elt t1 i1 ifs1 t2 i2 ifs2 scope pos) (Dv vs js wi g1 tt1 wi2 g2 tt2 te):=by
 intro pins s σ H Q I h
 rw[eval_ListComp]
 refine Xy (use:=none) rfl hs (ly fun y hy hf=>I.ok.has y.1 (B.free y hy hf)) B.kind B.names (cg (hi pins s σ H _ I h) fun v s1 h1=>cg h1 fun itv s2 h2=>?_)
 obtain⟨it,fp,tn,J,H2,e,I2,T,st2,f2,hW⟩:=h2
 subst e
 refine Dp (RR:=fun acc C=>compPost (model X.prog X.w) X.A X.xe none (EP X pins σ Q) acc C) hc B hg ht hi2 hs2 hg2 ht2 he I2 T st2 f2 hW ?_
 intro D C H' s' I' hn hC hle q
 obtain⟨m,hn⟩:=hn
 exact⟨m,hn,fun h'' hs''=>⟨.ref D,H',I2.goneC I' hC hle hs'',rfl,q⟩⟩
end
section
variable {vs:List Str}{js:List Nat}{σ:St}{H:Hp}{Q:VK}
theorem xE {wi wi2:TI}{g1 g2:TG}{tt1 tt2:TT}{te:TE}(h:wi σ H fun J H1=>∀D,H1 D=none->vH J vs js σ g1 tt1 wi2 g2 tt2 te Q D H1):Dv vs js wi g1 tt1 wi2 g2 tt2 te σ H Q:=h
theorem G1 {wi2:TI}{g2:TG}{tt2:TT}{te:TE}{D:Addr}{ys:List V}{N0:St->List V->Hp->Prop}(h:wi2 σ H fun J H1 =>
  ∃W:Nat->Nat->St->List V->Hp->Prop,(∃m,W 0 m σ ys H1)/\∀i m σ' ys' H',W i m σ' ys' H' ->
   (J.stop i H'/\N0 σ' ys' H') \/(J.go i H'/\∃N:St->List V->Hp->Prop,(∀σ2 zs H2,N σ2 zs H2->∃m',m'<m/\W (i+1) m' σ2 zs H2) /\
    ∀x H2,J.yld i H' x H2->g2 x σ' H2 fun σ3 H3=>tt2 σ3 H3 fun b H4=>if b=true then te σ3 H4 fun y H5=>H5 D=some (.lst ys')/\ys'.length<sizeLine/\N σ3 (ys' ++ [y]) (upd H5 D (.lst (ys' ++ [y]))) else N σ3 ys' H4)):S6 wi2 g2 tt2 te D ys σ H N0:=h
theorem q8 {K:W.Frag}{a:Addr}{xs:List V}{wi2:TI}{g1 g2:TG}{tt1 tt2:TT}{te:TE}(Pv:Nat->St->List V->Hp->Prop) (D:Addr) (h0:Pv 0 (jB vs js σ) [] (upd H D (.lst []))) (hl:∀i σ' ys H',i<=xs.length->Pv i σ' ys H'->aU K H' a xs)
  (hs:∀i x σ' ys H',xs[i]? = some x->Pv i σ' ys H'->g1 x σ' H' fun σ3 H3=>tt1 σ3 H3 fun b H4=>if b=true then S6 wi2 g2 tt2 te D ys σ3 H4 (Pv (i+1)) else Pv (i+1) σ3 ys H4)
  (hd:∀σ' ys H',Pv xs.length σ' ys H'->Q (.ref D) H') :
  vH (AG K a) vs js σ g1 tt1 wi2 g2 tt2 te Q D H:=by
 refine⟨fun i m σ' ys H'=>m=xs.length-i/\i<=xs.length/\Pv i σ' ys H',⟨xs.length,by simp,VS _,h0⟩,?_⟩
 rintro i m σ' ys H' ⟨rfl,hi,p⟩
 have q:=hl i σ' ys H' hi p
 by_cases hlt:i<xs.length
 ·refine .inr ⟨⟨xs,xs[i],q,by simp[hlt]⟩,Pv (i+1),fun σ2 zs H2 p'=>⟨xs.length-(i+1),by omega,rfl,hlt,p'⟩,fun x H2 y=>?_⟩
  obtain⟨e,y⟩:=y
  subst e
  exact hs i x σ' ys _ (y xs q) p
 ·have e:i=xs.length:=by omega
  subst e
  exact .inl ⟨⟨xs,q,Vt _⟩,hd σ' ys H' p⟩
theorem in_list {K:W.Frag}{g2:TG}{tt2:TT}{te:TE}{D:Addr}{ys:List V}{N0:St->List V->Hp->Prop}{a:Addr}{xs:List V}(Pv:Nat->St->List V->Hp->Prop) (h0:Pv 0 σ ys H) (hl:∀i σ' ys' H',i<=xs.length->Pv i σ' ys' H'->aU K H' a xs)
  (hs:∀i x σ' ys' H',xs[i]? = some x->Pv i σ' ys' H'->g2 x σ' H' fun σ3 H3=>tt2 σ3 H3 fun b H4=>if b=true then te σ3 H4 fun y H5=>H5 D=some (.lst ys')/\ys'.length<sizeLine/\Pv (i+1) σ3 (ys' ++ [y]) (upd H5 D (.lst (ys' ++ [y]))) else Pv (i+1) σ3 ys' H4)
  (hd:∀σ' ys' H',Pv xs.length σ' ys' H'->N0 σ' ys' H') :
  ∃W:Nat->Nat->St->List V->Hp->Prop,(∃m,W 0 m σ ys H)/\∀i m σ' ys' H',W i m σ' ys' H' ->
   ((AG K a).stop i H'/\N0 σ' ys' H') \/((AG K a).go i H'/\∃N:St->List V->Hp->Prop,(∀σ2 zs H2,N σ2 zs H2->∃m',m'<m/\W (i+1) m' σ2 zs H2) /\
    ∀x H2,(AG K a).yld i H' x H2->g2 x σ' H2 fun σ3 H3=>tt2 σ3 H3 fun b H4=>if b=true then te σ3 H4 fun y H5=>H5 D=some (.lst ys')/\ys'.length<sizeLine/\N σ3 (ys' ++ [y]) (upd H5 D (.lst (ys' ++ [y]))) else N σ3 ys' H4):=by
 refine⟨fun i m σ' ys H'=>m=xs.length-i/\i<=xs.length/\Pv i σ' ys H',⟨xs.length,by simp,VS _,h0⟩,?_⟩
 rintro i m σ' ys H' ⟨rfl,hi,p⟩
 have q:=hl i σ' ys H' hi p
 by_cases hlt:i<xs.length
 ·refine .inr ⟨⟨xs,xs[i],q,by simp[hlt]⟩,Pv (i+1),fun σ2 zs H2 p'=>⟨xs.length-(i+1),by omega,rfl,hlt,p'⟩,fun x H2 y=>?_⟩
  obtain⟨e,y⟩:=y
  subst e
  exact hs i x σ' ys _ (y xs q) p
 ·have e:i=xs.length:=by omega
  subst e
  exact .inl ⟨⟨xs,q,Vt _⟩,hd σ' ys H' p⟩
end
def LP (e:Int×V):Key×V:=((Sum.inl e.1:Key),e.2)
section
variable {X:Cx}
def Ck (v d:Addr):HO:=.ext fun h=>h.IsItemsView v d
def IS:V->List V->Hp->VK->Prop:=fun x vs H Q=>∃d kvs,x = .ref d/\vs=[]/\H d=some (.dK kvs)/\∀v,H v=none->Q (.ref v) (upd H v (Ck v d))
theorem CS:N1 X "dict.items" IS:=by
 intro pins s σ H x xs v us Q I rx rs h
 obtain⟨d,kvs,rfl,rfl,hd,q⟩:=h
 cases rx
 cases rs
 obtain⟨hz,lo,vs,r,hD⟩ : kvs.length<=sizeLine/\(d == sysModules)=false/\∃vs,KV kvs vs/\s.heap.DictOf (bV X.prog X.w) d vs:=I.hok d _ hd
 refine call_meetsIn PySem.F.slot_dict_items hD.typeIs PySem.F.entry_dict_items (PySem.F.args_dict_items_1 _) (meets_dict_items (bV X.prog X.w) d lo) ⟨⟨vs,hD⟩,?_⟩
 exact⟨.ref s.heap.objs.size,_,I.laid (t':=s.toks) (a:=s.heap.objs.size) (o:=Ck s.heap.objs.size d) (fun b u q=>Vu _ q) (Vt _) ⟨⟨_,V0 _ rfl,rfl,rfl⟩,⟨_,V0 _ rfl⟩,fun h1 h2 ⟨o,ho,r⟩ k=>⟨o,k _ ho,r⟩⟩,rfl,q _ (I.hok.fresh (Vt _))⟩
theorem qK:∀{ps:List (Int×V)}{ts:List Addr}{pins:List (Addr×Obj)}{σ:St}{H:Hp}{s:Shared},Inv X pins σ H s->ts.Nodup->ts.length=ps.length->(∀t∈ts,jy X pins H t)->(∀(i:Nat) (t:Addr) (p:Int×V),ts[i]? = some t->ps[i]? = some p->∃its:List Value,Vals [.int p.1,p.2] its/\IsTup s.heap t its.toArray) ->
  ∃H',Inv X pins σ H' s/\aD H H'/\(∀b,b∉ts->H' b=H b)/\∀(i:Nat) (t:Addr) (p:Int×V),ts[i]? = some t->ps[i]? = some p->H' t=some (.tup [.int p.1,p.2])
 | [],[],pins,σ,H,s,I,_,_,_,_=>⟨H,I,fun _ _ e=>e,fun _ _=>rfl,fun i t p e=>by simp at e⟩
 | [],_::_,_,_,_,_,_,_,l,_,_=>by cases l
 | _::_,[],_,_,_,_,_,_,l,_,_=>by cases l
 | p::ps,t::ts,pins,σ,H,s,I,nd,l,f,h=>by
  obtain⟨n1,n2⟩:=V6.mp nd
  obtain⟨its,rv,tu⟩:=h 0 t p rfl rfl
  have ft:=f t Vy
  have I1:Inv X pins σ (upd H t (.tup [.int p.1,p.2])) { s with heap:=s.heap,toks:=s.toks }:=I.adopt (t':=s.toks) (ch:=[t]) (fun b o _ e=>e) (fun b hb=>by rw[VM.mp hb];exact ft) (by simp) ⟨(by show 2<=sizeLine;decide),its,rv,tu⟩
  obtain⟨H',I',s',k',h'⟩:=qK (ps:=ps) (ts:=ts) I1 n2 (by simpa using l) (fun u hu=>by
   obtain⟨f0,f1⟩:=f u (Vr _ hu)
   exact⟨by rw[ao (show u≠t from fun z=>n1 (z ▸ hu))];exact f0,f1⟩) fun i u q e1 e2=>h (i+1) u q (by simpa using e1) (by simpa using e2)
  refine⟨H',I',fun b o e=>s' b o (by rw[ao (au e ft.1)];exact e),fun b hb=>?_,fun i u q e1 e2=>?_⟩
  ·rw[k' b (fun z=>hb (Vr _ z)),ao (show b≠t from fun z=>hb (z ▸ Vy))]
  ·cases i with
   | zero =>
    cases e1;cases e2
    exact s' _ _ aq
   | succ i=>exact h' i u q (by simpa using e1) (by simpa using e2)
end
section
variable {σ:St}{H:Hp}{Q:VK}{D:Ends}
def IsT (R t:TS):Prop:=R=t
theorem Gn {t u:TS}(h:∀R,IsT R u->t { D with nx:=R D } σ H):P4 t u D σ H:=h u rfl
theorem Gz {c:TT}{t u:TS}(h:∀R S,IsT R t->IsT S u->c σ H fun b H1=>if b=true then R D σ H1 else S D σ H1):Of c t u D σ H:=h t u rfl rfl
theorem GA {wi:TI}{g:TG}{tb:TS}(h:∀R,IsT R tb->wi σ H fun J H1=>∃W:Nat->Nat->St->Hp->Prop,(∃m,W 0 m σ H1)/\∀i m σ H,W i m σ H ->
 (J.stop i H/\D.nx σ H) \/(J.go i H/\∃N:St->Hp->Prop,(∀σ' H',N σ' H'->∃m',m'<m/\W (i+1) m' σ' H')/\∀x H',J.yld i H x H'->g x σ H' fun σ2 H2=>R { D with nx:=N,ct:=N,bk:=D.nx } σ2 H2)):M9 wi g tb D σ H:=h tb rfl
theorem G4 {R t:TS}(e:IsT R t) (h:t D σ H):R D σ H:=by cases e;exact h
def QL (N I:St->Hp->Prop):Prop:=∀σ H,I σ H->N σ H
def Jc (I:St->Hp->Prop) (t:(St->Hp->Prop)->Prop):Prop:=∀N,QL N I->t N
theorem EN {I:St->Hp->Prop}{t:(St->Hp->Prop)->Prop}(h:∀N,QL N I->t N):Jc I t:=h
theorem CT {N I:St->Hp->Prop}(e:QL N I) (h:I σ H):N σ H:=e σ H h
theorem iZ {lo:Int}{n:Nat}{g:TG}{tb:TS}(Pv:Nat->St->Hp->Prop) (h0:Pv 0 σ H)
  (hs:∀i σ H,i<n->Pv i σ H->Jc (Pv (i+1)) fun N=>g (.int (lo+i)) σ H fun σ2 H2=>tb { D with nx:=N,ct:=N,bk:=D.nx } σ2 H2) (hd:∀σ H,Pv n σ H->D.nx σ H) :
  ∃W:Nat->Nat->St->Hp->Prop,(∃m,W 0 m σ H)/\∀i m σ H,W i m σ H ->
   ((Bm lo n).stop i H/\D.nx σ H) \/((Bm lo n).go i H/\∃N:St->Hp->Prop,(∀σ' H',N σ' H'->∃m',m'<m/\W (i+1) m' σ' H')/\∀x H',(Bm lo n).yld i H x H'->g x σ H' fun σ2 H2=>tb { D with nx:=N,ct:=N,bk:=D.nx } σ2 H2) :=
 BG Pv h0 (fun i σ H a b=>hs i σ H a b _ fun _ _ z=>z) hd
theorem dh {K:W.Frag}{a:Addr}{xs:List V}{g:TG}{tb:TS}(Pv:Nat->St->Hp->Prop) (h0:Pv 0 σ H) (hl:∀i σ H,i<=xs.length->Pv i σ H->aU K H a xs)
  (hs:∀i x σ H,xs[i]? = some x->Pv i σ H->Jc (Pv (i+1)) fun N=>g x σ H fun σ2 H2=>tb { D with nx:=N,ct:=N,bk:=D.nx } σ2 H2) (hd:∀σ H,Pv xs.length σ H->D.nx σ H) :
  ∃W:Nat->Nat->St->Hp->Prop,(∃m,W 0 m σ H)/\∀i m σ H,W i m σ H ->
   ((AG K a).stop i H/\D.nx σ H) \/((AG K a).go i H/\∃N:St->Hp->Prop,(∀σ' H',N σ' H'->∃m',m'<m/\W (i+1) m' σ' H')/\∀x H',(AG K a).yld i H x H'->g x σ H' fun σ2 H2=>tb { D with nx:=N,ct:=N,bk:=D.nx } σ2 H2) :=
 Ea Pv h0 hl (fun i x σ H a b=>hs i x σ H a b _ fun _ _ z=>z) hd
end
section
variable {K:W.Frag}
def Ga (K:W.Frag) (x:Str) (st:Stmt):Prop:=∃f:Addr,W.nsIn K mainGlobals x=some (some (.ref f))/\∃fd:FuncData,eO K x x st f fd
def UA (K:W.Frag) (x y:Str) (st:Stmt):Prop:=∃f:Addr,W.nsIn K mainGlobals x=some (some (.ref f))/\W.nsIn K mainGlobals y=some (some (.ref f))/\∃fd:FuncData,eO K x x st f fd
def Me (K:W.Frag) (C:Addr) (m q:Str) (st:Stmt):Prop:=∃f:Addr,W.findIn K (.ref C) m=some (some (.ref f))/\W.isFn K (.ref f)=true/\W.keepIn K (.ref f)=true/\∃fd:FuncData,eO K m q st f fd
theorem Ga.elim {x:Str}{st:Stmt}{R:Prop}(g:Ga K x st) (k:∀f,W.nsIn K mainGlobals x=some (some (.ref f))->∀fd,eO K x x st f fd->R):R:=by
 obtain⟨f,a,fd,F⟩:=g
 exact k f a fd F
theorem Ga.mk {x:Str}{st:Stmt}{f:Addr}{oc:Value}{od an:Option Addr}{osl:Array (Option Value)}{kV doc pm cdv ct:Value}(a:W.nsIn K mainGlobals x=some (some (.ref f))) (l:K.lookup f=some ⟨oc,od,.func (W.fnOf x x (fH st) (d7 st) (av st) .none kV doc pm an cdv ct),osl⟩) (c:W.codeIn K cdv x=true) (k:W.keepIn K (.ref f)=true):Ga K x st:=⟨f,a,_,Eb l c k⟩
end
mutual
inductive DW (H:Hp):V->PyData->Prop
 | non:DW H .non .none
 | bl (b:Bool):DW H (.bl b) (.bool b)
 | int (i:Int):DW H (.int i) (.int i)
 | str (x:Str):DW H (.str x) (.str x)
 | lst {a:Addr}{xs:List V}{ds:List PyData}:H a=some (.lst xs)->Pp H xs ds->DW H (.ref a) (.list ds)
 | tup {a:Addr}{xs:List V}{ds:List PyData}:H a=some (.tup xs)->Pp H xs ds->DW H (.ref a) (.tuple ds)
 | dic {a:Addr}:H a=some (.dK [])->DW H (.ref a) (.dict [])
inductive Pp (H:Hp):List V->List PyData->Prop
 | nil:Pp H [] []
 | cons {x:V}{d:PyData}{xs:List V}{ds:List PyData}:DW H x d->Pp H xs ds->Pp H (x::xs) (d::ds)
end
mutual
def UJ:PyData->Bool
 | .list _=>false
 | .tuple xs=>Na xs
 | _=>true
def Na:List PyData->Bool
 | []=>true
 | x::xs=>UJ x && Na xs
end
def Sub (M:Addr->Bool) (H H':Hp):Prop:=∀a o,M a=false->H a=some o->H' a=some o
section
variable {K:W.Frag}{σ:St}{H:Hp}{Q:VK}
theorem BW {vs:List Str}{js:List Nat}{g:TG}{tt:TT}{te:TE}{a:Addr}{xs:List V}(Pv:Nat->St->List V->Hp->Prop) (D:Addr) (h0:Pv 0 (jB vs js σ) [] (upd H D (.lst []))) (hl:∀i σ' ys H',i<=xs.length->Pv i σ' ys H'->aU K H' a xs)
  (hs:∀(i:Nat) x σ' ys H' t,xs[i]? = some x->Pv i σ' ys H'->H' t=none->g (.ref t) σ' (upd H' t (.tup [.int i,x])) fun σ3 H3=>tt σ3 H3 fun b H4=>if b=true then te σ3 H4 fun y H5=>H5 D=some (.lst ys)/\ys.length<sizeLine/\Pv (i+1) σ3 (ys ++ [y]) (upd H5 D (.lst (ys ++ [y]))) else Pv (i+1) σ3 ys H4)
  (hd:∀σ' ys H',Pv xs.length σ' ys H'->Q (.ref D) H'):tN (Lj K a) vs js σ g tt te Q D H:=by
 refine⟨fun i m σ' ys H'=>m=xs.length-i/\i<=xs.length/\Pv i σ' ys H',⟨xs.length,by simp,VS _,h0⟩,?_⟩
 rintro i m σ' ys H' ⟨rfl,hi,p⟩
 have q:=hl i σ' ys H' hi p
 by_cases lt:i<xs.length
 ·refine .inr ⟨⟨xs,xs[i],q,by simp[lt]⟩,Pv (i+1),fun σ2 zs H2 p2=>⟨xs.length-(i+1),by omega,rfl,lt,p2⟩,fun x H2 y=>?_⟩
  obtain⟨t,u,nt,rfl,rfl,y1⟩:=y
  exact hs i u σ' ys _ t (y1 xs q) p nt
 ·obtain rfl:i=xs.length:=by omega
  exact .inl ⟨⟨xs,q,Vt _⟩,hd σ' ys H' p⟩
end
section
variable {X:Cx}{pins:List (Addr×Obj)}{σ:St}{H:Hp}{s:Shared}{a:Addr}{kvs:List (Key×V)}{k:Key}{u r:Value}{A:Around}{E:Value->Shared->Prop}
theorem nA.of_some {o:Option V}{w:Value}(r:nA o (some w)):∃x,o=some x/\RelV x w:=by
 cases o with
 | none=>exact absurd r.isSome_eq (by simp)
 | some x=>exact⟨x,rfl,r⟩
theorem KS {v:V}{Q:Value->Shared->Prop}(I:Inv X pins σ H s) (e:H a=some (.dK kvs)) (ry:RelV (kV k) u) (rv:RelV v r) (hz:kvs.length<sizeLine)
  (h1:∀x w' s',dz kvs k=some x->Inv X pins σ H s'->RelV x w'->Q w' s') (h2:dz kvs k=none->∀s',Inv X pins σ (upd H a (.dK (putK kvs k v))) s'->Q r s'):wpAny (model X.prog X.w) A (call (.builtin "dict.setdefault") [.ref a,u,r]) Q E s:=by
 obtain⟨z,hd,vs,rel,dd⟩:=Ol I.hok e
 refine call_meetsIn PySem.F.slot_dict_setdefault dd.typeIs PySem.F.entry_dict_setdefault (PySem.F.args_dict_setdefault_3 _ _ _) (kt_meets_setdefault (bV X.prog X.w) a (AK ry) hd r)
  ⟨vs,dd,by rw[<- rel.length];exact z,fun w' hw=>?_,fun hn h' dd' hs=>?_⟩
 ·obtain⟨x,hx,rx⟩:=nA.of_some (o:=dz kvs k) (w:=w') (by rw[<- hw];exact rel.val k)
  exact h1 x w' _ hx (I.tok _) rx
 ·have hv:dz kvs k=none:=by
   cases c:dz kvs k with
   | none=>rfl
   | some x =>
    have:=(rel.val k).isSome_eq
    rw[c,hn]at this
    cases this
  have hl:(putK kvs k v).length<=sizeLine:=by have:=oj kvs k v;omega
  have he:∃q,h'.get? a=some q:=let ⟨q,_,_,hq,_⟩:=dd';⟨q,hq⟩
  exact h2 hv _ (Gk I (by rw[e];exact True.intro) hs he (B7 hl hd (rel.put k rv) dd'))
def Cc (td ty tx:TE):TE:=fun σ H Q=>td σ H fun x H1=>∃a,x = .ref a/\R6 H1 a/\ty σ H1 fun y H2=>tx σ H2 fun z H3=>∃kvs k,H3 a=some (.dK kvs)/\y=kV k/\kvs.length<sizeLine /\
 (∀v,dz kvs k=some v->Q v H3)/\(dz kvs k=none->Q z (upd H3 a (.dK (putK kvs k z))))
theorem D8 {Q:VK}{td ty tx:TE}(h:td σ H fun x H1=>∃a,x = .ref a/\R6 H1 a/\ty σ H1 fun y H2=>tx σ H2 fun z H3=>∃kvs k,H3 a=some (.dK kvs)/\y=kV k/\kvs.length<sizeLine /\
 (∀v,dz kvs k=some v->Q v H3)/\(dz kvs k=none->Q z (upd H3 a (.dK (putK kvs k z))))):Cc td ty tx σ H Q:=h
theorem DB {o e f:Expr}{apos cpos:Pos}{td ty tx:TE}(ho:PE X o td) (he:PE X e ty) (hf:PE X f tx) (m:M2 X o "setdefault" apos e f cpos):PE X (.Call (.Attribute o "setdefault" apos) [e,f] [] cpos) (Cc td ty tx):=by
 intro pins s σ H Q I h
 refine wpAny_Call_method m.base m.few m.line PySem.F.plainAttrs_dict PySem.F.slot_dict_setdefault PySem.F.type_dict_setdefault (cg (ho pins s σ H _ I h) fun u s1 ⟨x,H1,I1,rx,a,ex,d,q1⟩=>?_)
 subst ex
 obtain rfl:u=Value.ref a:=rx
 obtain⟨t1,t2,_⟩:=J4 I1 d
 refine⟨t1,t2,?_⟩
 rw[m.trees]
 refine Calls.callWith_builtin rfl (Calls.evalArgs_plain (Calls.spliced_cons (cg (he pins s1 σ H1 _ I1 q1) fun iv s2 ⟨y,H2,I2,ry,q2⟩ =>
  Calls.spliced_cons (cg (hf pins s2 σ H2 _ I2 q2) fun fv s3 ⟨z,H3,I3,rz,kvs,k,ea,ey,hz,q3,q4⟩=>Calls.spliced_nil ?_))))
 subst ey
 exact KS I3 ea ry rz hz (fun x w' s4 hx I4 rx=>⟨x,H3,I4,rx,q3 x hx⟩) fun hn s4 I4=>⟨z,_,I4,rz,q4 hn⟩
end
section
variable {X:Cx}
def KR:List V->Hp->VK->Prop:=fun xs H Q=>∃(v d:Addr) (kvs:List (Int×V)),xs=[.ref v]/\H v=some (Ck v d)/\H d=some (.dK (kvs.map LP)) /\
 ∀(ts:List Addr) (l:Addr) (H':Hp),aD H H'->H l=none->H' l=some (.lst (ts.map V.ref))->ts.length=kvs.length->(∀(i:Nat) (t:Addr) (p:Int×V),ts[i]? = some t->kvs[i]? = some p->H' t=some (.tup [.int p.1,p.2]))->Q (.ref l) H'
theorem zf (hc:X.calm=true):eT X (.type "list") KR:=by
 intro pins s σ H xs us Q I r h
 obtain⟨v,d,kvs,rfl,hv,hd,q⟩:=h
 obtain⟨u,rfl,r1⟩:=vals1 r
 cases (show u=Value.ref v from r1)
 obtain⟨hz,lo,vs,rk,hD⟩ : (kvs.map LP).length<=sizeLine/\(d == sysModules)=false/\∃vs,KV (kvs.map LP) vs/\s.heap.DictOf (bV X.prog X.w) d vs:=I.hok d _ hd
 have hl:(kvs.map LP).length=vs.length:=XO rk
 have view:s.heap.IsItemsView v d:=(I.hok _ _ hv).1
 obtain⟨ep,hA⟩:=hD.dictAt
 refine PySem.W.kdx_call (knd:=bV X.prog X.w) (kvs:=vs) (ep:=ep) (I.ok.hd hc) view hA (by rw[<- hl];exact hz) fun h' tk acc c as kp hS al G hacc=>?_
 rw[Vi]at hl
 have al':as.length=kvs.length:=by omega
 have nda:as.Nodup:=G.rise.imp fun h=>VN h
 have pr:∀(i:Nat) (a:Addr) (p:Int×V),as[i]? = some a->kvs[i]? = some p->∃its:List Value,Vals [.int p.1,p.2] its/\IsTup h' a its.toArray:=fun i a p e1 e2=>by
  obtain⟨key,k,x,g1,g2,g3⟩:=G.pairs i a e1
  have e3:(kvs.map LP)[i]? = some (LP p):=by rw[Vp,e2];rfl
  obtain⟨u,hu,ru⟩:=KV.get rk e3
  rw[hu]at g1
  cases g1
  obtain⟨t,rfl⟩ : ∃t,key=Value.int p.1 t:=GZ g2
  exact⟨[.int p.1 t,_],.cons ⟨t,rfl⟩ (.cons ru .nil),⟨_,g3,rfl,_,rfl⟩⟩
 have I1:Inv X pins σ H { s with heap:=h',toks:=tk }:=I.kept kp
 obtain⟨H1,I2,s2,k2,h2⟩:=qK (ps:=kvs) (ts:=as) I1 nda al' (fun t ht=>I.fpOk (WX (G.above t ht)) (I.hok.fresh (WX (G.above t ht)))) pr
 have nl:H s.heap.objs.size=none:=I.hok.fresh (Vt _)
 have nas:s.heap.objs.size∉as:=fun m=>Wz _ (G.above _ m)
 have nl1:H1 s.heap.objs.size=none:=by rw[k2 _ nas];exact nl
 have f0:jy X pins H s.heap.objs.size:=I.fpOk (Vt _) nl
 have f1:jy X pins H1 s.heap.objs.size:=⟨nl1,f0.2⟩
 have hz2:(as.map V.ref).length<=sizeLine:=by rw[Vi,al'];rw[Vi]at hz;exact hz
 have I3:Inv X pins σ (upd H1 s.heap.objs.size (.lst (as.map V.ref))) { s with heap:=h',toks:=tk }:=I2.adopt (t':=tk) (ch:=[s.heap.objs.size]) (fun b o _ e=>e) (fun b hb=>by rw[VM.mp hb];exact f1) (by simp) ⟨hz2,acc.toList,c,by rw[hacc];exact mZ as,by simpa using hS⟩
 refine⟨.ref s.heap.objs.size,_,I3,rfl,q as _ _ (fun b o e=>?_) nl aq al' fun i t p e1 e2=>?_⟩
 ·rw[ao (au e nl)];exact s2 _ _ e
 ·have ht:=h2 i t p e1 e2
  rw[ao (au ht nl1)];exact ht
end
theorem Bw {X:Cx}{K:W.Frag}{a:Expr}{ta:TE}(hK:X.K=K) (ha:PE X a ta) (he:∀whole,isTrue a X.env whole =(do let v <- whole;standAt a.pos;holding [v] (truthy v))) :
  PT X a (fun σ H Q=>ta σ H fun x H'=>∃k,Km K x H' k/\Q k H'):=by
 subst hK;exact mj ha he
end L2
set_option maxHeartbeats 4000000
local macro_rules | `(tactic| walk_at"rdc")=>`(tactic| first
  | (show (0:Int) < _; omega)
  | (show (0:Int) <= _; omega)
  | (show (0:Int) < _/\_ < 2 ^ 100; omega)
  | (show (-(2 ^ 64) < _/\_ < 2 ^ 64) \/ (-(2 ^ 64) < _/\_ < 2 ^ 64); omega)
  | (show (0:Int) <= _/\_ <= 1000000/\Int.natAbs _ < 2 ^ 64; omega))
local macro_rules | `(tactic| walk_at"rd1")=>`(tactic| first
  | (with_reducible first|refine' L2.EN (fun _ _=>?_)|refine' L2.Gn (fun _ _=>?_)|refine' L2.Jg ?_) | ((with_reducible refine' L2.CJ ?_); (try dsimp only [List.set_cons_zero,List.set_cons_succ])) | (with_reducible first|refine' L2.Lu ?_|refine' L2.rd_retN ?_|refine' L2.Gs ?_|refine' L2.EH ?_|refine' L2.Gz (fun _ _ _ _=>?_)|refine' L2.PK ?_|refine' L2.OX ?_|refine' L2.QZ ?_) | ((with_reducible refine' L2.Kr ?rdv ?_); (case rdv=>rfl))
  | (with_reducible first|refine' L2.Oj ?_|refine' L2.Te ?_|refine' L2.Jo ?_|refine' L2.Jr ?_|refine' L2.rd_eqB ?_|refine' L2.rd_neB ?_|refine' L2.Gu ?_|refine' L2.OT ?_|refine' L2.Ku ?_|refine' L2.PN ?_|refine' L2.J1 ?_|refine' L2.EO ?_|refine' L2.rd_orV ?_|refine' L2.rd_notV ?_|refine' L2.DZ ?_|refine' L2.Lx ?_|refine' L2.Iu ?_|refine' L2.F1 ?_|refine' L2.Gg ?_|refine' L2.Qq ?_|refine' L2.KD ?_|refine' L2.J8 ?_|refine' L2.Jb ?_|refine' L2.Om ?_|refine' L2.Fe ?_) | ((with_reducible refine' L2.PU ?_); (try dsimp only [List.set_cons_zero,List.set_cons_succ])) | ((with_reducible refine' L2.IG ?rdv ?_); (case rdv=>rfl)) | (with_reducible first|refine' L2.rd_izip ?_|refine' L2.rd_ivals ?_|refine' L2.rd_dget2 ?_|refine' L2.rd_dput ?_|refine' L2.E6 ?_|refine' L2.Eg ?_|refine' L2.rd_sortK ?_|refine' L2.rd_sortLam ?_|refine' L2.rd_orG ?_|refine' L2.rd_isB ?_|refine' L2.FA ?_|refine' L2.rd_meth ?_|refine' L2.rd_make ?_|refine' L2.rd_fld ?_|refine' L2.rd_sfld ?_|refine' L2.rd_din ?_|refine' L2.rd_dnin ?_|refine' L2.rd_idict ?_|refine' L2.rd_dpop ?_|refine' L2.NU ?_|refine' L2.Lb ?_|refine' L2.Ff ?_|refine' L2.O3 ?_|refine' L2.Ks ?_|refine' L2.Gy ?_|refine' L2.F2 ?_|refine' L2.Cb ?_|refine' L2.D9 ?_|refine' L2.GA (fun _ _=>?_)|refine' L2.EF ?_|refine' L2.Gp ?_|refine' L2.Dh ?_|refine' L2.EV ?_|refine' L2.Ji ?_|refine' L2.rd_itup ?_|refine' L2.rd_istr ?_|refine' L2.rd_leS ?_|refine' L2.rd_inS ?_|refine' L2.Ja ?_|refine' L2.IE ?_|refine' L2.Lh ?_|refine' L2.AV ?_|refine' L2.Lf ?_|refine' L2.DI ?_|refine' L2.rd_intB ?_)
  | ((with_reducible refine' L2.cG (L2.aU.of ?rdh) ?rde ?_); (case rdh=>assumption); (case rde=>rfl))
  | ((with_reducible refine' L2.GV ?rdh ?_); (case rdh=>assumption))
  | ((with_reducible refine' L2.F_ ?rdh ?_); (case rdh=>assumption))
  | ((with_reducible refine' L2.uZ ?rdh ?rde ?_); (case rdh=>assumption); (case rde=>rfl))
  | ((with_reducible refine' L2.Cg (L2.gu.of ?rdh) ?rde ?_); (case rdh=>assumption); (case rde=>rfl))
  | ((with_reducible refine' L2.GI (L2.aU.of ?rdh) ?_); (case rdh=>assumption))
  | ((with_reducible refine' L2.S9 ?rdc ?_); (case rdc=>walk_at"rdc"))
  | ((with_reducible refine' L2.G4 ?rdt ?_); (case rdt=>assumption); (try dsimp only [List.set_cons_zero,List.set_cons_succ]))
  | (dsimp only; (with_reducible refine' L2.G4 ?rdt ?_); (case rdt=>assumption); (try dsimp only [List.set_cons_zero,List.set_cons_succ]))
  | ((with_reducible refine' L2.CT ?rdt ?_); (case rdt=>assumption); (try dsimp only))
  | (dsimp only; (with_reducible refine' L2.CT ?rdt ?_); (case rdt=>assumption); (try dsimp only)))
local macro_rules | `(tactic| walk_at"rd")=>`(tactic| repeat walk_at"rd1")
local macro_rules | `(tactic| walk_at"lk")=>`(tactic| first | k_is | ((refine' L2.Ga.mk ?lka ?lkl ?lkc ?lkk); (case lka=>k_is); (case lkl=>k_is); (case lkc=>k_is); (case lkk=>k_is)) | ((refine' L2.UA.mk ?lka ?lkb ?lkl ?lkc ?lkk); (case lka=>k_is); (case lkb=>k_is); (case lkl=>k_is); (case lkc=>k_is); (case lkk=>k_is)) | ((refine' L2.Me.mk ?lka ?lkb ?lkl ?lkc ?lkk); (case lka=>k_is); (case lkb=>k_is); (case lkl=>k_is); (case lkc=>k_is); (case lkk=>k_is)))
theorem L2.zs1:1<=PySem.sizeLine:=by decide
theorem L2.zs2:2<=PySem.sizeLine:=by decide
theorem L2.zs3:3<=PySem.sizeLine:=by decide
theorem L2.zs4:4<=PySem.sizeLine:=by decide
local macro_rules|`(tactic|gn_on)=>`(tactic|exact⟨rfl,rfl,rfl,by z_go,rfl,by z_go,by z_go⟩)
local macro_rules|`(tactic|x_go)=>`(tactic|walk_at"rd")
namespace Law
open PySem PySem.Spec PyProof.Rows L2
abbrev IL:List Str:=["_law_script", "_law_place", "_law_hand", "_law_spin", "_law_rooms", "_law_wide", "_law_entries", "_law_others", "_law_key_here", "_law_thing_here", "_law_yards", "_law_kept", "_law_way", "_law_first", "_law_other", "_law_last"]
abbrev BP:List Str:=["_law_yard", "_law_way", "_law_key_here", "_law_thing_here"]
abbrev AA:List Str:=["room", "old", "new"]
abbrev Rj:List Str:=["_law_yard", "_law_way", "_law_key_here", "_law_thing_here", "_law_steps", "_law_told", "_law_half", "_law_again", "_law_yards", "_law_one", "_law_same"]
abbrev JS:List Str:=["_law_hand", "_law_many"]
abbrev QF:List Str:=["yard", "wide", "rooms", "held", "room", "new", "own", "goes", "stays", "steps"]
abbrev Mr:List Str:=["_law_script", "_law_least", "_law_most"]
abbrev QE:List Str:=["_law_wide", "_law_rooms", "_law_entries", "_law_parts", "_law_entry"]
abbrev QC:List Str:=["yard", "wide", "rooms", "held", "steps", "room", "rows", "further"]
abbrev mQ:List Str:=["yard"]
abbrev iR:List Str:=["rooms"]
abbrev IK:List Str:=["_law_hand", "_law_many", "_law_near_here", "_law_keys", "_law_k", "_law_key_here"]
abbrev GO:List Str:=["_law_steps", "_law_rows", "_law_apart", "_law_k", "_law_was"]
abbrev zE:List Str:=["things", "wide"]
abbrev oB:List Str:=["_law_yard"]
abbrev FT:List Str:=["_law_hand", "_law_many", "_law_near_here"]
abbrev Gd:List Str:=["_law_wide", "_law_rooms", "_law_entries"]
abbrev EM:List Str:=["_law_hand", "_law_rooms", "_law_entries"]
abbrev KZ:List Str:=["_law_hand", "_law_way", "_law_entries", "_law_keys", "_law_key_here"]
abbrev r6:List Str:=["rows", "key"]
abbrev KC:List Str:=["_law_script", "_law_place", "_law_cells", "_law_at", "_law_digits"]
abbrev ES:List Str:=["_law_hand", "_law_way", "_law_entries"]
abbrev Ll:List Str:=["wide", "rooms", "entries"]
abbrev Jx:List Str:=["yard", "key", "wide", "rooms", "held", "own", "there", "looks"]
abbrev Ed:List Str:=["key", "rooms"]
abbrev Dg:List Str:=["held", "room"]
abbrev ET:List Str:=["wide", "rooms", "entries", "things", "held"]
abbrev wG:List Str:=["_law_hand"]
abbrev IY:List Str:=["yard", "steps", "wide", "rooms", "held", "fresh", "step"]
abbrev A_:List Str:=["held", "room", "many"]
abbrev Gx:List Str:=["_law_key_here", "_law_rooms"]
abbrev yp:List Str:=["yard", "key"]
abbrev NT:List Str:=["yard", "wide", "rooms", "held", "kept", "room", "rows", "key", "thing"]
abbrev FP:List Str:=["held", "room", "at", "row"]
abbrev Gq:List Str:=["_law_script", "_law_place"]
abbrev Fi:List Str:=["_law_wide", "_law_entries"]
abbrev Gf:List Str:=["_law_key_here", "_law_thing_here"]
abbrev IM:List Str:=["_law_way", "_law_key_here", "_law_thing_here"]
abbrev NY:List Str:=["yard", "key", "thing", "wide", "rooms", "held", "room", "own", "new"]
abbrev v_:List Str:=["_law_steps"]
abbrev Oi:List Str:=["yard", "wide", "rooms", "held", "room", "into", "both", "steps"]
abbrev OR:List Str:=["yard", "key", "wide", "rooms", "held", "room", "own", "others"]
abbrev uQ:List Str:=["rows"]
abbrev N9:List Str:=["_law_hand", "_law_many", "_law_got", "_law_k", "_law_number"]
abbrev NG:List Str:=["_law_key_here", "_law_rooms", "_law_room_here", "_law_grade"]
abbrev Gi:List Str:=["yard", "key", "thing"]
abbrev Bk:List Str:=["many", "wide"]
abbrev A8:List Str:=["yard", "step"]
abbrev NH:List Str:=["_law_wide", "_law_entries", "_law_some", "_law_rows"]
abbrev OH:List Str:=["_law_hand", "_law_rooms", "_law_entries", "_law_way"]
abbrev AX:List Str:=["key", "many"]
abbrev Lo:List Str:=["yard", "steps"]
abbrev M1:List Str:=["_law_hand", "_law_many", "_law_number", "_law_k"]
abbrev Pk:List Str:=["_law_key_here", "_law_thing_here", "_law_hand"]
abbrev Jv:List Str:=["keys", "rooms", "told", "key"]
abbrev Oh:List Str:=["_law_steps", "_law_found_steps", "_law_step"]
abbrev JT:List Str:=["_law_hand", "_law_letters"]
abbrev F9:List Str:=["room", "rooms"]
abbrev Gw:List Str:=["keys", "rooms"]
def top (i:Nat):Stmt:=PySem.Challenge.pw_tailrooms_k49_yards_and_steps_changed.main.body.getD i (.Pass ⟨0,0,0,0⟩)
abbrev jP:Stmt:=top 1
abbrev vg:Stmt:=top 2
abbrev zR:Stmt:=top 3
abbrev kT:Stmt:=top 4
abbrev nI:Stmt:=top 5
abbrev kY:Stmt:=top 6
abbrev jN:Stmt:=top 7
abbrev lE:Stmt:=top 9
abbrev iX:Stmt:=top 10
abbrev qU:Stmt:=top 11
abbrev mP:Stmt:=top 13
abbrev iN:Stmt:=top 15
abbrev lM:Stmt:=top 16
abbrev gx:Stmt:=top 17
abbrev fY:Stmt:=top 18
abbrev m6:Stmt:=top 19
abbrev zP:Stmt:=top 20
abbrev i8:Stmt:=top 21
abbrev nB:Stmt:=top 22
abbrev lF:Stmt:=top 23
abbrev fc:Stmt:=top 24
abbrev oW:Stmt:=top 25
abbrev gf:Stmt:=top 31
abbrev oZ:Stmt:=top 32
abbrev lQ:Stmt:=top 33
abbrev gj:Stmt:=top 34
abbrev mU:Stmt:=top 35
abbrev mY:Stmt:=top 36
abbrev kX:Stmt:=top 37
abbrev ig:Stmt:=top 38
abbrev pP:Stmt:=top 40
abbrev iO:Stmt:=top 41
abbrev ir:Stmt:=top 43
abbrev jJ:Stmt:=top 44
abbrev lJ:Stmt:=top 45
abbrev i0:Stmt:=top 46
abbrev kR:Stmt:=top 47
abbrev gC:Stmt:=top 48
abbrev jC:Stmt:=top 49
abbrev lN:Stmt:=top 50
abbrev fP:Stmt:=top 51
abbrev ic:Stmt:=top 52
abbrev eK:Stmt:=top 53
abbrev jM:Stmt:=top 54
abbrev f_:Stmt:=top 55
abbrev ia:Stmt:=top 56
abbrev iH:Stmt:=top 57
abbrev iI:Stmt:=top 58
abbrev cA:Stmt:=top 59
abbrev je:Stmt:=top 60
abbrev gy:Stmt:=top 61
abbrev h_:Stmt:=top 62
theorem vj:aK AX AX (av jP):=by gn_on
theorem Cd:aK iR iR (av vg):=by gn_on
theorem FU:aK iR iR (av zR):=by gn_on
theorem ow:aK ["room", "rooms", "deep"] F9 (av kT):=by gn_on
theorem zI:aK Ed Ed (av nI):=by gn_on
theorem wZ:aK iR iR (av kY):=by gn_on
theorem mG:aK ["rooms", "room"] iR (av jN):=by gn_on
theorem xg:aK Bk Bk (av lE):=by gn_on
theorem v5:aK zE zE (av iX):=by gn_on
theorem j0:aK ["rows", "key", "looks", "row"] r6 (av qU):=by gn_on
theorem mW:aK Jv Gw (av mP):=by gn_on
theorem lP:aK ET Ll (av iN):=by gn_on
theorem gX:aK ["yard", "wide", "rooms", "held"] mQ (av lM):=by gn_on
theorem rA:aK uQ uQ (av gx):=by gn_on
theorem pZ:aK mQ mQ (av fY):=by gn_on
theorem zU:aK Dg Dg (av m6):=by gn_on
theorem EJ:aK A8 A8 (av zP):=by gn_on
theorem dO:aK IY Lo (av i8):=by gn_on
theorem pq:aK ["held", "room", "at", "row", "rows"] FP (av nB):=by gn_on
theorem w6:aK A_ A_ (av lF):=by gn_on
theorem kH:aK ["held"] ["held"] (av fc):=by gn_on
theorem gT:aK Jx yp (av oW):=by gn_on
theorem qa:aK AA AA (av gf):=by gn_on
theorem ud:aK ["room", "old", "new", "steps"] AA (av oZ):=by gn_on
theorem xO:aK AA AA (av lQ):=by gn_on
theorem b9:aK QF mQ (av gj):=by gn_on
theorem dI:aK Oi mQ (av mU):=by gn_on
theorem fq:aK NY Gi (av mY):=by gn_on
theorem dQ:aK OR yp (av kX):=by gn_on
theorem vG:aK r6 r6 (av ig):=by gn_on
theorem d9:aK NT mQ (av pP):=by gn_on
theorem cY:aK QC mQ (av iO):=by gn_on
theorem d8:aK KC Gq (av ir):=by gn_on
theorem dY:aK N9 JS (av jJ):=by gn_on
theorem iy:aK M1 JS (av lJ):=by gn_on
theorem f6:aK ["_law_many", "_law_number", "_law_k"] ["_law_many"] (av i0):=by gn_on
theorem jV:aK ["_law_hand", "_law_way", "_law_low"] wG (av kR):=by gn_on
theorem kN:aK JT wG (av gC):=by gn_on
theorem d_:aK NG Gx (av jC):=by gn_on
theorem iw:aK NH Fi (av lN):=by gn_on
theorem iB:aK QE Gd (av fP):=by gn_on
theorem uG:aK oB oB (av ic):=by gn_on
theorem jY:aK BP BP (av eK):=by gn_on
theorem gD:aK OH EM (av jM):=by gn_on
theorem fM:aK KZ ES (av f_):=by gn_on
theorem fR:aK IK FT (av ia):=by gn_on
theorem qq:aK Mr Mr (av iH):=by gn_on
theorem fN:aK Oh v_ (av iI):=by gn_on
theorem bX:aK GO v_ (av cA):=by gn_on
theorem iA:aK ["_law_yard", "_law_rows", "_law_row"] oB (av je):=by gn_on
theorem b8:aK Rj BP (av gy):=by gn_on
theorem eN:aK IL ["_law_script"] (av h_):=by gn_on
theorem uz (x0 x1:V):start AX [x0,x1]=[some x0,some x1]:=rfl
theorem Dd (x0:V):start iR [x0]=[some x0]:=rfl
theorem Fz (x0:V):start iR [x0]=[some x0]:=rfl
theorem xR (x0 x1:V):start ["room", "rooms", "deep"] [x0,x1]=[some x0,some x1,none]:=rfl
theorem zF (x0 x1:V):start Ed [x0,x1]=[some x0,some x1]:=rfl
theorem wB (x0:V):start iR [x0]=[some x0]:=rfl
theorem uV (x0:V):start ["rooms", "room"] [x0]=[some x0,none]:=rfl
theorem yg (x0 x1:V):start Bk [x0,x1]=[some x0,some x1]:=rfl
theorem wY (x0 x1:V):start zE [x0,x1]=[some x0,some x1]:=rfl
theorem A9 (x0 x1:V):start ["rows", "key", "looks", "row"] [x0,x1]=[some x0,some x1,none,none]:=rfl
theorem BB (x0 x1:V):start Jv [x0,x1]=[some x0,some x1,none,none]:=rfl
theorem yR (x0 x1 x2:V):start ET [x0,x1,x2]=[some x0,some x1,some x2,none,none]:=rfl
theorem xD (x0:V):start ["yard", "wide", "rooms", "held"] [x0]=[some x0,none,none,none]:=rfl
theorem sJ (x0:V):start uQ [x0]=[some x0]:=rfl
theorem pT (x0:V):start mQ [x0]=[some x0]:=rfl
theorem zW (x0 x1:V):start Dg [x0,x1]=[some x0,some x1]:=rfl
theorem F3 (x0 x1:V):start A8 [x0,x1]=[some x0,some x1]:=rfl
theorem ym (x0 x1:V):start IY [x0,x1]=[some x0,some x1,none,none,none,none,none]:=rfl
theorem zG (x0 x1 x2 x3:V):start ["held", "room", "at", "row", "rows"] [x0,x1,x2,x3]=[some x0,some x1,some x2,some x3,none]:=rfl
theorem yt (x0 x1 x2:V):start A_ [x0,x1,x2]=[some x0,some x1,some x2]:=rfl
theorem kC (x0:V):start ["held"] [x0]=[some x0]:=rfl
theorem Dq (x0 x1:V):start Jx [x0,x1]=[some x0,some x1,none,none,none,none,none,none]:=rfl
theorem qS (x0 x1 x2:V):start AA [x0,x1,x2]=[some x0,some x1,some x2]:=rfl
theorem Bu (x0 x1 x2:V):start ["room", "old", "new", "steps"] [x0,x1,x2]=[some x0,some x1,some x2,none]:=rfl
theorem xQ (x0 x1 x2:V):start AA [x0,x1,x2]=[some x0,some x1,some x2]:=rfl
theorem vF (x0:V):start QF [x0]=[some x0,none,none,none,none,none,none,none,none,none]:=rfl
theorem y_ (x0:V):start Oi [x0]=[some x0,none,none,none,none,none,none,none]:=rfl
theorem zN (x0 x1 x2:V):start NY [x0,x1,x2]=[some x0,some x1,some x2,none,none,none,none,none,none]:=rfl
theorem xy (x0 x1:V):start OR [x0,x1]=[some x0,some x1,none,none,none,none,none,none]:=rfl
theorem vB (x0 x1:V):start r6 [x0,x1]=[some x0,some x1]:=rfl
theorem A2 (x0:V):start NT [x0]=[some x0,none,none,none,none,none,none,none,none]:=rfl
theorem yI (x0:V):start QC [x0]=[some x0,none,none,none,none,none,none,none]:=rfl
theorem vJ (x0 x1:V):start KC [x0,x1]=[some x0,some x1,none,none,none]:=rfl
theorem uP (x0 x1:V):start N9 [x0,x1]=[some x0,some x1,none,none,none]:=rfl
theorem w4 (x0 x1:V):start M1 [x0,x1]=[some x0,some x1,none,none]:=rfl
theorem rN (x0:V):start ["_law_many", "_law_number", "_law_k"] [x0]=[some x0,none,none]:=rfl
theorem wA (x0:V):start ["_law_hand", "_law_way", "_law_low"] [x0]=[some x0,none,none]:=rfl
theorem rJ (x0:V):start JT [x0]=[some x0,none]:=rfl
theorem vO (x0 x1:V):start NG [x0,x1]=[some x0,some x1,none,none]:=rfl
theorem ye (x0 x1:V):start NH [x0,x1]=[some x0,some x1,none,none]:=rfl
theorem rY (x0 x1 x2:V):start QE [x0,x1,x2]=[some x0,some x1,some x2,none,none]:=rfl
theorem u5 (x0:V):start oB [x0]=[some x0]:=rfl
theorem jI (x0 x1 x2 x3:V):start BP [x0,x1,x2,x3]=[some x0,some x1,some x2,some x3]:=rfl
theorem uN (x0 x1 x2:V):start OH [x0,x1,x2]=[some x0,some x1,some x2,none]:=rfl
theorem qX (x0 x1 x2:V):start KZ [x0,x1,x2]=[some x0,some x1,some x2,none,none]:=rfl
theorem vp (x0 x1 x2:V):start IK [x0,x1,x2]=[some x0,some x1,some x2,none,none,none]:=rfl
theorem qw (x0 x1 x2:V):start Mr [x0,x1,x2]=[some x0,some x1,some x2]:=rfl
theorem qo (x0:V):start Oh [x0]=[some x0,none,none]:=rfl
theorem kM (x0:V):start GO [x0]=[some x0,none,none,none,none]:=rfl
theorem rM (x0:V):start ["_law_yard", "_law_rows", "_law_row"] [x0]=[some x0,none,none]:=rfl
theorem rO (x0 x1 x2 x3:V):start Rj [x0,x1,x2,x3]=[some x0,some x1,some x2,some x3,none,none,none,none,none,none,none]:=rfl
theorem IU (x0:V):start IL [x0]=[some x0,none,none,none,none,none,none,none,none,none,none,none,none,none,none,none]:=rfl
structure Bl (mg:Str->Option Value):Prop where
 max:mg "max" = none
 range:mg "range" = none
 len:mg "len" = none
 sorted:mg "sorted" = none
 dict:mg "dict" = none
 list:mg "list" = none
 enumerate:mg "enumerate" = none
 abs:mg "abs" = none
 min:mg "min" = none
 all:mg "all" = none
structure Hand (H:Hp) (p:Addr) (N:Nat):Prop where
 ex:∃(l:Addr) (d c:Int) (ns:List Int),H p=some (.lst [.int d,.int c,.ref l])/\H l=some (.lst (ns.map V.int))/\0<=c/\c<=N/\ns ≠ []
theorem Hand.mono {H:Hp}{p:Addr}{N M:Nat}(h:Hand H p N) (hm:N<=M):Hand H p M:=by
 obtain⟨l,d,c,ns,h1,h2,h3,h4,h5⟩:=h.ex
 exact⟨l,d,c,ns,h1,h2,h3,by omega,h5⟩
def cellsOf (H:Hp) (p:Addr):Option Addr:=match H p with
 | some (.lst [_,_,.ref l])=>some l
 | _=>none
theorem iT {H:Hp}{p l:Addr}{a b:V}(h:H p=some (.lst [a,b,.ref l])):cellsOf H p=some l:=by unfold cellsOf;rw[h]
def Kp (H H':Hp) (p:Addr):Prop:=(∀b o,H b=some o->b≠p->H' b=some o)/\cellsOf H' p=cellsOf H p
theorem Kp.refl (H:Hp) (p:Addr):Kp H H p:=⟨fun _ _ h _=>h,rfl⟩
theorem Kp.trans {H H1 H2:Hp}{p:Addr}(a:Kp H H1 p) (b:Kp H1 H2 p):Kp H H2 p:=⟨fun c o h n=>b.1 c o (a.1 c o h n) n,b.2.trans a.2⟩
theorem Kp.hand {H:Hp}{p l:Addr}{a b a' b':V}(h:H p=some (.lst [a,b,.ref l])):Kp H (upd H p (.lst [a',b',.ref l])) p :=
 ⟨fun b u h n=>by rw[ao n];exact h,by rw[iT aq,iT h]⟩
theorem Kp.of {H H':Hp}{p:Addr}{N:Nat}(h:aD H H') (hh:Hand H p N):Kp H H' p:=by
 obtain⟨l,d,c,ns,h1,_⟩:=hh.ex
 exact⟨fun b o q _=>h b o q,by rw[iT h1,iT (h _ _ h1)]⟩
theorem Kp.new {H H1 H2:Hp}{p:Addr}(a:aD H H1) (n:H p=none) (b:Kp H1 H2 p):aD H H2:=fun c o h=>b.1 c o (a c o h) (au h n)
theorem Kp.free {H H':Hp}{p l:Addr}(k:Kp H H' p) (n:H' l=none) (h:l≠p):H l=none:=by
 cases e:H l with
 | none=>rfl
 | some o=>rw[k.1 _ _ e h]at n;cases n
theorem Hand.upd {H:Hp}{p c:Addr}{N:Nat}{o:HO}(h:Hand H p N) (n:c≠p) (nl:cellsOf H p≠some c):Hand (L2.upd H c o) p N:=by
 obtain⟨l,d,k,ns,h1,h2,r⟩:=h.ex
 have ne:l≠c:=fun z=>nl (by rw[iT h1,z])
 exact⟨l,d,k,ns,by rw[ao n.symm];exact h1,by rw[ao ne];exact h2,r⟩
theorem BR {H:Hp}{p c:Addr}{N:Nat}(h:Hand H p N) (n:H c=none):cellsOf H p≠some c:=by
 obtain⟨l,d,k,ns,h1,h2,r⟩:=h.ex
 rw[iT h1]
 intro z
 exact au h2 n (VC z)
theorem Bx {H:Hp}{p c:Addr}{o:HO}(n:c≠p):cellsOf (L2.upd H c o) p=cellsOf H p:=by unfold cellsOf;rw[ao n.symm]
theorem Hand.same {H H':Hp}{p:Addr}{N:Nat}(h:Hand H p N) (s:aD H H'):Hand H' p N:=by
 obtain⟨l,d,c,ns,h1,h2,r⟩:=h.ex
 exact⟨l,d,c,ns,s _ _ h1,s _ _ h2,r⟩
theorem HV {ns:List Int}(h:ns ≠ []) (k:Int):∃v,rg (ns.map V.int) (k%((ns.map V.int).length:Int))=some (.int v):=by
 have hl:0<ns.length:=Xw.mpr h
 rw[Vi]
 have h0:0<=k%(ns.length:Int):=WA _ (by omega)
 have h1:k%(ns.length:Int)<ns.length:=Wm _ (by omega)
 have ek:k%(ns.length:Int) =(((k%(ns.length:Int)).toNat:Nat):Int):=by omega
 have hk:(k%(ns.length:Int)).toNat<ns.length:=by omega
 obtain⟨j,hj⟩ : ∃j:Nat,k%(ns.length:Int) =(j:Int):=⟨_,ek⟩
 have hk2:j<ns.length:=by omega
 refine⟨ns[j],?_⟩
 rw[hj]
 exact ie (by rw[Vp,Vn hk2] <;> rfl)
theorem F4 {H:Hp}{p l:Addr}{d c:Int}{ns:List Int}(hp:H p=some (.lst [.int d,.int c,.ref l])) (hl:H l=some (.lst (ns.map V.int))):l≠p:=by
 refine ju hl hp fun z=>?_
 injection z with z
 have q:=Wf (fun x=>x[2]?) z
 rw[Vp]at q
 cases e:ns[2]? with
 | none=>rw[e]at q;cases q
 | some v=>rw[e]at q;cases q
theorem len_pos {ns:List Int}(h:ns ≠ []):(0:Int) <((ns.map V.int).length:Int):=by
 rw[Vi]
 have:=Xw.mpr h
 omega
theorem iW (a:Nat):(2:Int)^a =((2^a:Nat):Int):=by
 induction a with
 | zero=>rfl
 | succ a ih=>rw[Xr,Nat.pow_succ,ih];push_cast;rfl
theorem mw {a b:Nat}(h:a<=b):(2:Int)^a<=2^b:=by
 rw[iW,iW]
 exact Int.ofNat_le.mpr (Nat.pow_le_pow_right (by decide) h)
theorem gI (a:Nat):(0:Int)<2^a:=by
 rw[iW]
 have:=Nat.two_pow_pos a
 omega
theorem bf {H1 H2:Hp}{l:Addr}{o:HO}(n:H1 l=none) (e:L2.upd H1 l o=H2):H2 l=some o/\aD H1 H2:=by
 subst e;exact⟨aq,aG n _⟩
theorem Hand.ne {H:Hp}{p l:Addr}{N:Nat}(hh:Hand H p N) (n:H l=none):l≠p:=by
 obtain⟨l1,d,c,ns,h1,_⟩:=hh.ex
 exact(au h1 n).symm
structure CK (H0:Hp) (p D:Addr) (N:Nat) (ys:List V) (H':Hp):Prop where
 hh:Hand H' p N
 lat:H' D=some (.lst ys)
 kp:Kp H0 H' p
 n0:H0 D=none
 np:D≠p
 nc:cellsOf H0 p≠some D
theorem CK.start {H0:Hp}{p D:Addr}{N:Nat}(hh:Hand H0 p N) (n:H0 D=none) {ys:List V}:CK H0 p D N ys (L2.upd H0 D (.lst ys)) where
 hh:=hh.same (aG n _)
 lat:=aq
 kp:=Kp.of (aG n _) hh
 n0:=n
 np:=by
  obtain⟨l1,d,c,ns,h1,_⟩:=hh.ex
  exact(au h1 n).symm
 nc:=BR hh n
theorem CK.draw {H0 H' H2:Hp}{p D:Addr}{N M:Nat}{ys:List V}(c:CK H0 p D N ys H') (k:Kp H' H2 p) (hh:Hand H2 p M):CK H0 p D M ys H2 :=
 ⟨hh,k.1 _ _ c.lat c.np,c.kp.trans k,c.n0,c.np,c.nc⟩
theorem CK.push {H0 H':Hp}{p D:Addr}{N:Nat}{ys zs:List V}(c:CK H0 p D N ys H'):CK H0 p D N zs (L2.upd H' D (.lst zs)) where
 hh:=c.hh.upd c.np (by rw[c.kp.2];exact c.nc)
 lat:=aq
 kp:=⟨fun b o h n=>by rw[ao (au h c.n0)];exact c.kp.1 _ _ h n,by rw[Bx c.np];exact c.kp.2⟩
 n0:=c.n0
 np:=c.np
 nc:=c.nc
theorem CK.new {H0 H' H2:Hp}{p D l:Addr}{N:Nat}{ys:List V}{o:HO}(c:CK H0 p D N ys H') (n:H' l=none) (e:L2.upd H' l o=H2):CK H0 p D N ys H2/\H2 l=some o/\l≠p/\l≠D:=by
 subst e
 exact⟨⟨c.hh.same (aG n _),aG n _ _ _ c.lat,c.kp.trans (Kp.of (aG n _) c.hh),c.n0,c.np,c.nc⟩,aq,c.hh.ne n,(au c.lat n).symm⟩
def vt (K:W.Frag):Sp:=fun vs H Q _=>∃(p:Addr) (N:Nat) (n:Int),vs=[.ref p,.int n]/\Hand H p N/\N<2^60/\0<n/\n<2^100 /\
 ∀(r:Int) (H':Hp),0<=r->r<n->Hand H' p (N+1)->Kp H H' p->Q (.int r) H'
def nU (K:W.Frag):Sp:=fun vs H Q _=>∃(p:Addr) (N:Nat) (n:Int),vs=[.ref p,.int n]/\Hand H p N/\N+10<2^60/\0<n/\n<2^100 /\
 ∀(r:Int) (H':Hp),0<=r->r<n->Hand H' p (N+7)->Kp H H' p->Q (.int r) H'
def kQ (K:W.Frag):Sp:=fun vs H Q _=>∃(m:Nat),vs=[.int m]/\m<=1000/\Q (.int (2^m)) H
def lZ (K:W.Frag):Sp:=fun vs H Q _=>∃(a:Addr) (ns:List Int) (pl:Int),vs=[.ref a,.int pl]/\aU K H a (ns.map V.int)/\ns.length<=63/\0<=pl/\pl<=1000 /\
 ∀(p:Addr) (H':Hp),H p=none->aD H H'->Hand H' p 1100000->Q (.ref p) H'
def wk (K:W.Frag):Sp:=fun vs H Q _=>∃(p:Addr) (N:Nat),vs=[.ref p]/\Hand H p N/\N+30<2^60 /\
 ∀(r:Int) (H':Hp),0<=r->r<2^60->Hand H' p (N+20)->Kp H H' p->Q (.int r) H'
def vD (K:W.Frag):Sp:=fun vs H Q _=>∃(a:Addr) (ns:List Int),vs=[.ref a]/\aU K H a (ns.map V.int)/\ns.length<=63/\∀H',Q (.bl true) H'
theorem sub_len:∀{L K:List Int},L.Nodup->(∀x∈L,x∈K)->L.length<=K.length
 | [],_,_,_=>VS _
 | a::L,K,hn,hs=>by
  rw[V6]at hn
  have ha:=hs a Vy
  have ih:=sub_len (L:=L) (K:=K.erase a) hn.2 fun x hx=>by
   have:x≠a:=fun e=>hn.1 (e ▸ hx)
   exact(List.mem_erase_of_ne this).mpr (hs x (Vr _ hx))
  rw[List.length_erase_of_mem ha]at ih
  have:=List.length_pos_of_mem ha
  rw[Wk];omega
theorem Cu {ks:List Int}(hl:ks.length<1000) (v:Int):∃m:Nat,(v+m)%1152921504606846976∉ks:=by
 by_cases c:∃m:Nat,(v+m)%1152921504606846976∉ks
 ·exact c
 ·have all:∀m:Nat,(v+m)%1152921504606846976∈ks:=fun m=>Classical.not_not.mp fun z=>c ⟨m,z⟩
  have hn:((List.range (ks.length+1)).map fun(j:Nat)=>(v+j)%1152921504606846976).Nodup:=by
   rw[Wq,VV]
   refine List.Pairwise.imp_of_mem ?_ List.nodup_range
   intro a b ha hb hab e
   have h1:=Xf.mp ha
   have h2:=Xf.mp hb
   omega
  have:=sub_len hn (fun x hx=>by
   obtain⟨j,_,rfl⟩:=Vq.mp hx
   exact all j)
  rw[Vi,WU]at this
  omega
def GR (K:W.Frag):Sp:=fun vs H Q _=>∃(p:Addr) (N:Nat) (n:Int),vs=[.ref p,.int n]/\Hand H p N/\N+5000<2^60/\0<=n/\n<=125 /\
 ∀(l:Addr) (ns:List Int) (H':Hp),H l=none->H' l=some (.lst (ns.map V.int))->ns.Nodup->(ns.length:Int)=n->(∀k∈ns,0<=k/\k<1152921504606846976)->Hand H' p (N+3000)->Kp H H' p->Q (.ref l) H'
def lg (R:Int):Nat:=R.toNat.log2
theorem DP {R:Int}(h:1<=R):(2:Int)^lg R<=R:=by
 have h1:R.toNat≠0:=by omega
 have h2:=Nat.log2_self_le h1
 rw[iW]
 unfold lg
 omega
theorem G2 {R:Int}(h:1<=R):R <(2:Int)^(lg R+1):=by
 have h1:R.toNat≠0:=by omega
 have h2:=(Nat.log2_lt h1).mp (XN R.toNat.log2)
 rw[iW]
 unfold lg
 have h3:R.toNat<2^(R.toNat.log2+1):=h2
 omega
theorem Aw {R:Int}(h:1<=R) (h2:R<=2^60):lg R<=60:=by
 have h1:R.toNat≠0:=by omega
 have h3:R.toNat.log2<61:=(Nat.log2_lt h1).mpr (by omega)
 unfold lg
 omega
theorem Gr {R:Int}(h:1<=R):((Builtin.Int.intBits R:Nat):Int)-1 =(lg R:Int):=by
 unfold Builtin.Int.intBits lg
 have h0:(R == 0)=false:=by
  rw[Xe];omega
 rw[h0]
 have e:R.natAbs=R.toNat:=by omega
 rw[e]
 simp
def aE (k R:Int):Int:=if R-2^lg R<=k%2^lg R then k%2^lg R else k%2^(lg R+1)
theorem fK {k R:Int}(h:1<=R):0<=aE k R/\aE k R<R:=by
 have p:=gI (lg R)
 have a:=DP h
 have b:=G2 h
 rw[Xr]at b
 unfold aE
 rw[Xr]
 generalize (2:Int)^lg R=w at p a b ⊢
 have m0:=WA k (show w≠0 by omega)
 have m1:=Wm k p
 have d0:=WA k (show w*2≠0 by omega)
 have d1:=Wm k (show(0:Int)<w*2 by omega)
 have e:k%(w*2)%w=k%w:=Int.emod_emod_of_dvd k ⟨2,rfl⟩
 split
 ·omega
 ·rename_i hn
  refine⟨d0,?_⟩
  by_cases c:k%(w*2)<w
  ·rw[Xq d0 c]at e;omega
  ·have e2:k%(w*2)%w=k%(w*2)-w:=by
    have:k%(w*2) =(k%(w*2)-w)+w:=by omega
    rw[this,Int.add_emod_right,Xq (by omega) (by omega)]
    omega
   omega
def mH (K:W.Frag):Sp:=fun vs H Q _=>∃(k:Int) (m:Nat),vs=[.int k,.int m]/\m<=100/\Q (.int (k%2^m)) H
def B3 (K:W.Frag):Sp:=fun vs H Q _=>∃(R:Int),vs=[.int R]/\1<=R/\Q (.int (lg R)) H
def FI (K:W.Frag):Sp:=fun vs H Q _=>∃(R:Int),vs=[.int R]/\1<=R/\R<=2^60/\Q (.int (R-2^lg R)) H
def nX (r R:Int):Nat:=if R-2^lg R<=r/\r<2^lg R then lg R else lg R+1
theorem zZ {k R:Int}:k%2^nX (k%2^lg R) R=aE k R:=by
 have lt:=Wm k (gI (lg R))
 unfold nX aE
 by_cases c:R-2^lg R<=k%2^lg R
 ·rw[VB ⟨c,lt⟩,VB c]
 ·rw[VF (fun z=>c z.1),VF c]
def nY (K:W.Frag):Sp:=fun vs H Q _=>∃(r R:Int),vs=[.int r,.int R]/\1<=R/\R<=2^60/\Q (.int (nX r R)) H
def zS (K:W.Frag):Sp:=fun vs H Q _=>∃(k R:Int),vs=[.int k,.int R]/\1<=R/\R<=2^60/\Q (.int (aE k R)) H
def nK (K:W.Frag):Sp:=fun vs H Q _=>∃(R:Int),vs=[.int R]/\1<=R/\R<=2^60/\∀p,H p=none->Q (.ref p) (upd H p (.tup [.int (R-2^lg R),.int R]))
def mJ (K:W.Frag):Sp:=fun vs H Q _=>∃(R:Int),vs=[.int R]/\1<=R/\R<=2^60/\(R=1->Q .non H)/\(R≠1->∀p,H p=none->Q (.ref p) (upd H p (.tup [.int (R-1),.int (R-1-2^lg (R-1))])))
theorem qL {m w g:Int}(hw:1<=w) (hm:0<=m) (hg:g=max 1 ((m+w-1) / w)):1<=g/\m<=w*g/\(g=1\/w*(g-1)<m):=by
 have h1:=Int.emod_add_mul_ediv (m+w-1) w
 have h2:=WA (m+w-1) (show w≠0 by omega)
 have h3:=Wm (m+w-1) (show 0<w by omega)
 generalize (m+w-1) / w=q at h1 hg
 generalize (m+w-1)%w=r at h1 h2 h3
 have e:w*(g-1)=w*g-w:=by rw[Int.mul_sub,Int.mul_one]
 refine⟨by omega,?_,?_⟩
 ·by_cases c:1<=q
  ·have:g=q:=by omega
   rw[this];omega
  ·have:g=1:=by omega
   rw[this,Int.mul_one]
   have:w*q<=0:=Int.mul_nonpos_of_nonneg_of_nonpos (by omega) (by omega)
   omega
 ·by_cases c:2<=q
  ·right
   have:g=q:=by omega
   rw[e,this];omega
  ·left;omega
def gi (m w:Int):Int:=max 1 ((m+w-1) / w)
theorem Fw {xs:List V}{a b:Nat}(h:a<=b):iE xs (some (a:Int)) (some (b:Int)) =(xs.drop a).take (b-a):=by
 unfold iE
 rw[HT.sIx_nat,HT.sIx_nat]
 by_cases c:a<=xs.length
 ·rw[WM c]
  by_cases d:b<=xs.length
  ·rw[WM d]
  ·rw[Nat.min_eq_right (by omega),V8 (by rw[Wj];omega),V8 (by rw[Wj];omega)]
 ·rw[Wl (by omega),Wl (by omega)]
  simp
def Ls (H:Hp):List Addr->List (List Int)->Prop
 | [],[]=>True
 | a::as,r::rs=>H a=some (.lst (r.map V.int))/\Ls H as rs
 | _,_=>False
theorem Ls.same {H H':Hp}:∀{as:List Addr}{rs:List (List Int)},(∀a∈as,∀o,H a=some o->H' a=some o)->Ls H as rs->Ls H' as rs
 | [],[],_,_=>trivial
 | a::_,_::_,s,⟨h,t⟩=>⟨s a Vy _ h,Ls.same (fun b hb=>s b (Vr _ hb)) t⟩
theorem Ls.len {H:Hp}:∀{as:List Addr}{rs:List (List Int)},Ls H as rs->as.length=rs.length
 | [],[],_=>rfl
 | _::_,_::_,⟨_,t⟩=>Wf (· + 1) (Ls.len t)
theorem Ls.snoc {H:Hp}{a:Addr}{r:List Int}(hb:H a=some (.lst (r.map V.int))):∀{as:List Addr}{rs:List (List Int)},Ls H as rs->Ls H (as ++ [a]) (rs ++ [r])
 | [],[],_=>⟨hb,trivial⟩
 | _::_,_::_,⟨h,t⟩=>⟨h,Ls.snoc hb t⟩
theorem Ls.get {H:Hp}:∀{as:List Addr}{rs:List (List Int)}{i:Nat}{a:Addr},Ls H as rs->as[i]? = some a->∃r,rs[i]? = some r/\H a=some (.lst (r.map V.int))
 | [],[],_,_,_,e=>by cases e
 | _::_,r::_,0,_,⟨h,_⟩,e=>by cases e;exact⟨r,rfl,h⟩
 | _::_,_::_,i+1,_,⟨_,t⟩,e=>Ls.get (i:=i) t e
def nO (K:W.Frag):Sp:=fun vs H Q _=>∃(m w:Int),vs=[.int m,.int w]/\1<=w/\w<=8/\Q (.int (gi m w)) H
def jf (ms:List V) (w n:Nat):List (List V):=(List.range n).map fun i=>(ms.drop (i*w)).take w
theorem oq (ms:List V) (w n:Nat):jf ms w (n+1)=jf ms w n ++ [(ms.drop (n*w)).take w]:=by
 unfold jf;rw[List.range_succ,Vo];rfl
theorem dH (ms:List V) (w n:Nat):(jf ms w n).length=n:=by unfold jf;rw[Vi,WU]
def dw (ms:List V) (w:Nat):List (List V):=jf ms w (gi ms.length w).toNat
def Cv (H0 H:Hp) (l:Addr) (X:List (List V)):Prop:=∃as:List Addr,H l=some (.lst (as.map V.ref))/\as.length=X.length/\(∀(i:Nat) (a:Addr) (es:List V),as[i]? = some a->X[i]? = some es->H a=some (.lst es))/\as.Nodup/\∀a∈as,H0 a=none/\a≠l
def xw (K:W.Frag):Sp:=fun vs H Q _=>∃(a:Addr) (ms:List V) (w:Nat),vs=[.ref a,.int w]/\H a=some (.lst ms)/\ms.length<=200/\1<=w/\w<=8 /\
 ∀l H',H l=none->Cv H H' l (dw ms w)->aD H H'->Q (.ref l) H'
theorem br {as:List Addr}{i:Nat}{x:V}(hx:(as.map V.ref)[i]? = some x):∃a,as[i]? = some a/\x = .ref a:=by
 rw[Vp]at hx
 cases e:as[i]? with
 | none=>rw[e]at hx;cases hx
 | some a=>rw[e]at hx;exact⟨a,rfl,(VC hx).symm⟩
theorem ints_get {ns:List Int}{i:Nat}{x:V}(hx:(ns.map V.int)[i]? = some x):∃z,ns[i]? = some z/\x = .int z:=by
 rw[Vp]at hx
 cases e:ns[i]? with
 | none=>rw[e]at hx;cases hx
 | some a=>rw[e]at hx;exact⟨a,rfl,(VC hx).symm⟩
theorem mh {α:Type}{xs:List α}{i:Nat}{x:α}(h:xs[i]? = some x):xs.drop i=x::xs.drop (i+1):=by
 obtain⟨hi,e⟩:=Vj.mp h
 rw[List.drop_eq_getElem_cons hi,e]
theorem aV {α:Type}{xs:List α}{i:Nat}{x:α}(h:xs[i]? = some x):xs.take (i+1)=xs.take i ++ [x]:=by
 obtain⟨hi,e⟩:=Vj.mp h
 rw[List.take_succ_eq_append_getElem hi,e]
theorem gB {as:List Addr}{i:Nat}{a:Addr}(h:as[i]? = some a):rg (as.map V.ref) (i:Int)=some (.ref a) :=
 ie (by rw[Vp,h];rfl)
theorem KG {ns:List Int}{i:Nat}{z:Int}(h:ns[i]? = some z):rg (ns.map V.int) (i:Int)=some (.int z) :=
 ie (by rw[Vp,h];rfl)
theorem Ey {a:V}{r:List V}:rg (a::r) 0=some a:=ie (j:=0) rfl
theorem Ls.mem {H:Hp}:∀{as:List Addr}{rs:List (List Int)}{a:Addr},Ls H as rs->a∈as->∃r,r∈rs/\H a=some (.lst (r.map V.int))
 | [],[],_,_,h=>by cases h
 | b::as,r::rs,a,⟨h,t⟩,m=>by
  rcases VW.mp m with e|m
  ·exact⟨r,Vy,e ▸ h⟩
  ·obtain⟨q,q1,q2⟩:=Ls.mem t m
   exact⟨q,Vr _ q1,q2⟩
def RL (H:Hp) (l:Addr) (rs:List (List Int)):Prop:=∃as:List Addr,H l=some (.lst (as.map V.ref))/\Ls H as rs
theorem i7 {H:Hp}{p a:Addr}{N:Nat}{as:List Addr}(hh:Hand H p N) (h:H a=some (.lst (as.map V.ref))):a≠p:=by
 obtain⟨l,d,c,ms,h1,h2,_⟩:=hh.ex
 intro e
 rw[e,h1]at h
 have q:=Wf (fun x=>x[0]?) (HO.lst.inj (VC h))
 rw[Vp]at q
 cases z:as[0]? with
 | none=>rw[z]at q;cases q
 | some v=>rw[z]at q;cases q
theorem Le {K:W.Frag}{H:Hp}{a:Addr}(h:H a=some (.lst [])):DV K H (.ref a) (.list []):=.lst (aU.of h) .nil
theorem GS (r:List Int):decide (r ≠ []) = !(r.map V.int).isEmpty:=by cases r <;> simp
theorem FN {r:List Int}{y:Int}(h:r.getLast? = some y):rg (r.map V.int) (-1)=some (.int y):=by
 have hn:r ≠ []:=by intro e;rw[e]at h;cases h
 have hl:=Xw.mpr hn
 have e:yx (r.map V.int).length (-1)=some (r.length-1):=by
  unfold yx
  rw[Vi,VF (by decide),VB (by omega)]
  congr 1;omega
 unfold rg
 rw[e]
 show(r.map V.int)[r.length-1]? = _
 rw[Vp,<- List.getLast?_eq_getElem?,h];rfl
theorem EG {r:List Int}(h:r ≠ []):∃y,r.getLast? = some y:=⟨_,List.getLast?_eq_some_getLast h⟩
theorem yq {r:List Int}(h:r.Pairwise (· <= ·)) (n:r.Nodup):r.Pairwise (· < ·):=by
 induction r with
 | nil=>exact .nil
 | cons a r ih =>
  rw[WB]at h
  rw[V6]at n
  rw[WB]
  exact⟨fun b hb=>by
   have h1:=h.1 b hb
   have h2:a≠b:=fun e=>n.1 (e ▸ hb)
   omega,ih h.2 n.2⟩
def qI (k:Int) (r:List Int):Bool:=match r.getLast? with
 | none=>false
 | some x=>decide (k<=x)
def qT (k:Int) (r:List Int):Prop:=qI k r=true
theorem Dc {k x:Int}{r:List Int}(h:r.getLast? = some x) (d:k<=x):qT k r:=by
 unfold qT qI;rw[h];exact VX d
theorem xH {k:Int}{r:List Int}(h:qT k r):∃x,r.getLast? = some x/\k<=x:=by
 unfold qT qI at h
 cases e:r.getLast? with
 | none=>rw[e]at h;cases h
 | some x=>rw[e]at h;exact⟨x,rfl,WV h⟩
def fD (k:Int):List (List Int)->Bool×Int
 | []=>(false,0)
 | r::rs=>if qI k r=true then(decide (k∈r),1) else((fD k rs).1,(fD k rs).2+1)
theorem zK {k:Int}{r:List Int}{rs:List (List Int)}(h:qT k r):fD k (r::rs) =(decide (k∈r),1):=by
 rw[fD];exact VB h
theorem z6 {k:Int}{r:List Int}{rs:List (List Int)}(h:¬ qT k r):fD k (r::rs) =((fD k rs).1,(fD k rs).2+1):=by
 rw[fD];exact VF h
def t7 (K:W.Frag):Sp:=fun vs H Q _=>∃(l:Addr) (k:Int) (rs:List (List Int)),vs=[.ref l,.int k]/\RL H l rs/\rs.length<=500 /\
 ∀t H',H t=none->H' t=some (.tup [.bl (fD k rs).1,.int (fD k rs).2])->aD H H'->Q (.ref t) H'
def bU (ms:List Int) (R:Nat):List (List Int):=(List.range R).map fun(r:Nat)=>ms.filter fun k=>decide (aE k R =(r:Int))
theorem cz (ms:List Int) (R:Nat):(bU ms R).length=R:=by unfold bU;rw[Vi,WU]
theorem fj {ms:List Int}{R j:Nat}(h:j<R):(bU ms R)[j]? = some (ms.filter fun k=>decide (aE k R =(j:Int))):=by
 unfold bU
 rw[Vp,List.getElem?_range h];rfl
theorem xq (R:Nat):bU [] R=List.replicate R []:=by
 refine Wg fun i=>?_
 rw[List.getElem?_replicate]
 by_cases h:i<R
 ·rw[fj h,VB h];rfl
 ·rw[VF h,V7 (by rw[cz];omega)]
theorem u9 {ms:List Int}{R j:Nat}{k:Int}(hj:aE k R =(j:Int)) (h:j<R):bU (ms ++ [k]) R =(bU ms R).set j ((ms.filter fun k=>decide (aE k R =(j:Int))) ++ [k]):=by
 refine Wg fun i=>?_
 rw[W8,cz]
 by_cases hi:i<R
 ·rw[fj hi,WC,WR]
  by_cases e:j=i
  ·subst e
   rw[VB rfl,VB hi,VB (VX hj)];rfl
  ·rw[VF e,fj hi,VF (by rw[hj];simp;omega)]
   simp
 ·rw[V7 (by rw[cz];omega)]
  by_cases e:j=i
  ·omega
  ·rw[VF e,V7 (by rw[cz];omega)]
theorem Ls.set {H:Hp}{a:Addr}{r:List Int}:∀{as:List Addr}{rs:List (List Int)}{j:Nat},as.Nodup->as[j]? = some a->Ls H as rs->Ls (upd H a (.lst (r.map V.int))) as (rs.set j r)
 | [],_,_,_,h,_=>by simp at h
 | b::as,q::rs,0,hn,h,⟨h1,t⟩=>by
  simp at h;subst h
  rw[V6]at hn
  exact⟨aq,t.same fun c hc o e=>by rw[ao (show c≠b from fun z=>hn.1 (by rw[<- z];exact hc))];exact e⟩
 | b::as,q::rs,j+1,hn,h,⟨h1,t⟩=>by
  rw[V6]at hn
  have h':as[j]? = some a:=by simpa using h
  have ne:b≠a:=fun z=>hn.1 (by rw[z];exact Vk h')
  exact⟨by rw[ao ne];exact h1,Ls.set hn.2 h' t⟩
def LN (H0 H:Hp) (l:Addr) (rs:List (List Int)):Prop:=∃as:List Addr,H l=some (.lst (as.map V.ref))/\Ls H as rs/\as.Nodup/\∀a∈as,H0 a=none/\a≠l
theorem Ls.rep {H:Hp}:∀{as:List Addr}{n:Nat},Ls H as (List.replicate n [])->as.length=n:=fun h=>by rw[h.len,Xn]
def tV (K:W.Frag):Sp:=fun vs H Q _=>∃(a:Addr) (ns:List Int) (R:Nat),vs=[.ref a,.int R]/\H a=some (.lst (ns.map V.int))/\ns.length<=63/\1<=R/\R<=200 /\
 ∀ms l H',ms.Perm ns->ms.Pairwise (· <= ·)->H l=none->LN H H' l (bU ms R)->aD H H'->Q (.ref l) H'
def Mi (K:W.Frag):Sp:=fun vs H Q _=>∃(a:Addr) (ns:List Int) (R:Nat),vs=[.ref a,.int R]/\H a=some (.lst (ns.map V.int))/\ns.length<=63/\1<=R/\R<=200 /\
 ∀ms l H',ms.Perm ns->ms.Pairwise (· <= ·)->H l=none->H' l=some (.lst (((bU ms R).map fun r=>(r.length:Int)).map V.int))->aD H H'->Q (.ref l) H'
def q_ (H:Hp) (l:Addr) (X:List (List V)):Prop:=∃as:List Addr,H l=some (.lst (as.map V.ref))/\as.length=X.length/\∀(i:Nat) (a:Addr) (es:List V),as[i]? = some a->X[i]? = some es->H a=some (.lst es)
theorem q_.same {H H':Hp}{l:Addr}{X:List (List V)}(h:q_ H l X) (s:aD H H'):q_ H' l X:=by
 obtain⟨as,h1,h2,h3⟩:=h
 exact⟨as,s _ _ h1,h2,fun i a es e1 e2=>s _ _ (h3 i a es e1 e2)⟩
def rG (K:W.Frag):Sp:=fun vs H Q _=>∃(l:Addr) (X:List (List V)),vs=[.ref l]/\q_ H l X/\X.flatten.length<=100000 /\
 ∀(D:Addr) (H':Hp),H D=none->H' D=some (.lst X.flatten)->aD H H'->Q (.ref D) H'
def TV (H:Hp) (l:Addr) (Y:List (List (List V))):Prop:=∃as:List Addr,H l=some (.lst (as.map V.ref))/\as.length=Y.length/\∀(i:Nat) (a:Addr) (X:List (List V)),as[i]? = some a->Y[i]? = some X->q_ H a X
def dB (Y:List (List (List V))):List V:=(Y.map List.flatten).flatten
def jX (K:W.Frag):Sp:=fun vs H Q _=>∃(t l:Addr) (w r:V) (Y:List (List (List V))),vs=[.ref t]/\H t=some (.tup [w,r,.ref l])/\TV H l Y/\(dB Y).length<=100000 /\
 ∀(D:Addr) (H':Hp),H D=none->H' D=some (.lst (dB Y))->aD H H'->Q (.ref D) H'
theorem ny {X:List (List V)}{i:Nat}{es:List V}(h:X[i]? = some es):(X.take (i+1)).flatten =(X.take i).flatten++es:=by
 rw[W9,h];simp
theorem vW {X:List (List V)}{i:Nat}{es:List V}(h:X[i]? = some es):(X.take i).flatten.length+es.length<=X.flatten.length:=by
 have e:=ny h
 have:(X.take (i+1)).flatten.length<=X.flatten.length:=by
  conv=>rhs;rw[<- Wh (i+1) X,Wo,Vm]
  omega
 rw[e,Vm]at this
 exact this
def kf (e:Int×V):Key×V:=((Sum.inl e.1:Key),e.2)
def jn (qs:List (Int×V)) (k:Int) (v:V):List (Int×V):=if (qs.any fun e=>decide (e.1=k))=true then qs.map (fun e=>if e.1=k then(e.1,v) else e) else qs ++ [(k,v)]
def bR (qs ps:List (Int×V)):List (Int×V):=ps.foldl (fun acc e=>jn acc e.1 e.2) qs
theorem DR {qs:List (Int×V)}{k:Int}{v:V}:putK (qs.map kf) (Sum.inl k) v =(jn qs k v).map kf:=by
 unfold putK jn
 have e:((qs.map kf).any fun kv=>decide (kv.1 =(Sum.inl k:Key)))=qs.any fun e=>decide (e.1=k):=by
  rw[List.any_map]
  congr 1
  funext e
  simp[kf]
 rw[e]
 split
 ·rw[V4,V4]
  apply Wa
  intro e _
  by_cases c:e.1=k
  ·simp[kf,c]
  ·simp[kf,c]
 ·rw[Vo];rfl
theorem lH:∀{ps qs:List (Int×V)},fJ (qs.map kf) (ps.map kf) =(bR qs ps).map kf
 | [],qs=>rfl
 | p::ps,qs=>by
  show fJ (putK (qs.map kf) (Sum.inl p.1) p.2) (ps.map kf) =(bR (jn qs p.1 p.2) ps).map kf
  rw[DR,lH]
theorem s_ {qs:List (Int×V)}{k:Int}{v:V}:(jn qs k v).map (·.1)=if k∈qs.map (·.1) then qs.map (·.1) else qs.map (·.1) ++ [k]:=by
 unfold jn
 by_cases c:k∈qs.map (·.1)
 ·have e:(qs.any fun e=>decide (e.1=k))=true:=by
   obtain⟨e,h1,h2⟩:=Vq.mp c
   exact List.any_eq_true.mpr ⟨e,h1,VX h2⟩
  rw[VB e,VB c,V4]
  apply Wa
  intro e _
  by_cases d:e.1=k <;> simp[d]
 ·have e:¬(qs.any fun e=>decide (e.1=k))=true:=fun z=>by
   obtain⟨e,h1,h2⟩:=List.any_eq_true.mp z
   exact c (Vq.mpr ⟨e,h1,WV h2⟩)
  rw[VF e,VF c,Vo];rfl
theorem jh:∀{ps qs:List (Int×V)},(qs.map (·.1)).Nodup->((bR qs ps).map (·.1)).Nodup
 | [],qs,h=>h
 | p::ps,qs,h=>by
  show((bR (jn qs p.1 p.2) ps).map (·.1)).Nodup
  apply jh
  rw[s_]
  split
  ·exact h
  ·rename_i c
   rw[Wb]
   refine⟨h,by simp,fun a ha b hb=>?_⟩
   have:b=p.1:=by simpa using hb
   rw[this]
   rintro rfl
   exact c ha
theorem qk {k:Int}:∀{ps qs:List (Int×V)},k∈(bR qs ps).map (·.1)↔k∈qs.map (·.1)\/k∈ps.map (·.1)
 | [],qs=>by simp[bR]
 | p::ps,qs=>by
  show k∈(bR (jn qs p.1 p.2) ps).map (·.1)↔_
  rw[qk,s_,VY,VW]
  split
  ·rename_i c
   constructor
   ·rintro(h|h)
    ·exact .inl h
    ·exact .inr (.inr h)
   ·rintro(h|h|h)
    ·exact .inl h
    ·exact .inl (h ▸ c)
    ·exact .inr h
  ·constructor
   ·rintro(h|h)
    ·rcases VH.mp h with h|h
     ·exact .inl h
     ·exact .inr (.inl (by simpa using h))
    ·exact .inr (.inr h)
   ·rintro(h|h|h)
    ·exact .inl (Wr _ h)
    ·exact .inl (VD _ (by simp[h]))
    ·exact .inr h
theorem tF:∀{ps qs:List (Int×V)},((qs++ps).map (·.1)).Nodup->bR qs ps=qs++ps
 | [],qs,_=>by simp[bR]
 | p::ps,qs,h=>by
  show bR (jn qs p.1 p.2) ps=_
  have c:p.1∉qs.map (·.1):=fun z=>by
   rw[Vo,Wb]at h
   exact h.2.2 p.1 z p.1 (by simp) rfl
  have e:jn qs p.1 p.2=qs ++ [p]:=by
   unfold jn
   rw[VF]
   intro z
   obtain⟨e,h1,h2⟩:=List.any_eq_true.mp z
   exact c (Vq.mpr ⟨e,h1,WV h2⟩)
  rw[e,tF (by rw[VU];exact h),VU];rfl
def gV (qs:List (Int×V)) (k:Int):V:=((qs.find? fun e=>decide (e.1=k)).map (·.2)).getD .non
theorem um:∀{qs:List (Int×V)}{k:Int},k∈qs.map (·.1)->L2.dz (qs.map kf) (Sum.inl k)=some (gV qs k)
 | [],k,h=>by simp at h
 | e::qs,k,h=>by
  by_cases c:e.1=k
  ·rw[VY,dc (by simp[kf,c])]
   unfold gV
   rw[List.find?_cons,VX c];rfl
  ·rw[VY,cZ (by simp[kf,c]),um (by
    rw[VY,VW]at h
    rcases h with h|h
    ·exact absurd h.symm c
    ·exact h)]
   unfold gV
   rw[List.find?_cons,VR c]
def Own (H:Hp) (val:Int->V) (d:Addr) (ks:List Int):Prop:=∃ts:List Addr,H d=some (.lst (ts.map V.ref))/\ts.length=ks.length/\∀(i:Nat) (t:Addr) (k:Int),ts[i]? = some t->ks[i]? = some k->H t=some (.tup [.int k,val k])
theorem Own.same {H H':Hp}{val:Int->V}{d:Addr}{ks:List Int}(h:Own H val d ks) (s:aD H H'):Own H' val d ks:=by
 obtain⟨ts,h1,h2,h3⟩:=h
 exact⟨ts,s _ _ h1,h2,fun i t k e1 e2=>s _ _ (h3 i t k e1 e2)⟩
def zY (H:Hp) (val:Int->V) (w:Nat) (r:Addr) (bs:List Addr) (ks:List Int):Prop:=∃ts:List Addr,ts.length=ks.length/\(∀(i:Nat) (t:Addr) (k:Int),ts[i]? = some t->ks[i]? = some k->H t=some (.tup [.int k,val k]))/\H r=some (.lst (bs.map V.ref))/\bs.length =(dw (ts.map V.ref) w).length/\∀(i:Nat) (a:Addr) (es:List V),bs[i]? = some a->(dw (ts.map V.ref) w)[i]? = some es->H a=some (.lst es)
theorem zY.same {H H':Hp}{val:Int->V}{w:Nat}{r:Addr}{bs:List Addr}{ks:List Int}(h:zY H val w r bs ks) (s:aD H H'):zY H' val w r bs ks:=by
 obtain⟨ts,h1,h2,h3,h4,h5⟩:=h
 exact⟨ts,h1,fun i t k e1 e2=>s _ _ (h2 i t k e1 e2),s _ _ h3,h4,fun i a es e1 e2=>s _ _ (h5 i a es e1 e2)⟩
def Eo (rs:List Addr) (bss:List (List Addr)):List Addr:=(List.zipWith (fun r bs=>r::bs) rs bss).flatten
theorem xA {rs:List Addr}{bss:List (List Addr)}{r:Addr}{bs:List Addr}(h:rs.length=bss.length):Eo (rs ++ [r]) (bss ++ [bs])=Eo rs bss++(r::bs):=by
 unfold Eo
 rw[List.zipWith_append h,Wo];simp
def Ho (H0 H:Hp) (val:Int->V) (w:Nat) (l:Addr) (owns:List (List Int)):Prop:=∃(rs:List Addr) (bss:List (List Addr)),H l=some (.lst (rs.map V.ref))/\rs.length=owns.length/\bss.length=owns.length/\(∀(j:Nat) (r:Addr) (bs:List Addr) (own:List Int),rs[j]? = some r->bss[j]? = some bs->owns[j]? = some own->zY H val w r bs own)/\(l::Eo rs bss).Nodup/\∀b∈l::Eo rs bss,H0 b=none
theorem Ej {p:Hp->Addr->List Addr->List Int->Prop}{H:Hp}{ds:List Addr}{bss:List (List Addr)}{owns:List (List Int)}{i:Nat}{d:Addr}{bs:List Addr}{own:List Int}(hl:ds.length=i) (hl2:bss.length=i) (ho:owns[i]? = some own)
  (h:∀(j:Nat) (d:Addr) (bs:List Addr) (own:List Int),ds[j]? = some d->bss[j]? = some bs->owns[j]? = some own->p H d bs own) (hd:p H d bs own):∀(j:Nat) (d':Addr) (bs':List Addr) (own:List Int),(ds ++ [d])[j]? = some d'->(bss ++ [bs])[j]? = some bs'->owns[j]? = some own->p H d' bs' own:=by
 intro j d' bs' own' e1 e3 e2
 by_cases z:j<ds.length
 ·rw[Vx z]at e1
  rw[Vx (by omega)]at e3
  exact h j d' bs' own' e1 e3 e2
 ·have kl:=(Vj.mp e1).1
  rw[Vm]at kl
  have hk:j=ds.length:=by have:[d].length=1:=rfl;omega
  subst hk
  rw[Vs (Vt _),Xs]at e1
  rw[Vs (by omega),show ds.length-bss.length=0 by omega]at e3
  rw[hl,ho]at e2
  cases e1;cases e2;cases e3
  exact hd
def hid (D:Addr) (H:Hp):Hp:=fun b=>if b=D then none else H b
theorem cH {D b:Addr}{H:Hp}(n:b≠D):hid D H b=H b:=VF n
theorem iu {D:Addr}{H:Hp}{o:HO}:hid D (L2.upd H D o)=hid D H:=by
 funext b
 unfold hid
 by_cases c:b=D
 ·rw[VB c,VB c]
 ·rw[VF c,VF c,ao c]
theorem cL {D:Addr}{H H':Hp}(s:aD H H'):aD (hid D H) (hid D H'):=fun b o e=>by
 unfold hid at e ⊢
 by_cases c:b=D
 ·rw[VB c]at e;cases e
 ·rw[VF c]at e ⊢;exact s _ _ e
theorem bP {D:Addr}{H:Hp}:aD (hid D H) H:=fun b o e=>by
 unfold hid at e
 by_cases c:b=D
 ·rw[VB c]at e;cases e
 ·rw[VF c]at e;exact e
theorem z4 {ms own:List Int}{R j:Nat}{k:Int}(h:(bU ms R)[j]? = some own) (hk:k∈own):k∈ms:=by
 have jl:j<R:=by have:=(Vj.mp h).1;rw[cz]at this;exact this
 rw[fj jl]at h
 cases h
 exact(Wi.mp hk).1
theorem nJ {ms own:List Int}{R j:Nat}(h:(bU ms R)[j]? = some own):own.length<=ms.length:=by
 have jl:j<R:=by have:=(Vj.mp h).1;rw[cz]at this;exact this
 rw[fj jl]at h
 cases h
 exact VL _ _
def zA (K:W.Frag):Sp:=fun vs H Q _=>∃(a:Addr) (ts:List Addr) (ps:List (Int×V)) (w R:Nat),vs=[.int w,.int R,.ref a]/\H a=some (.lst (ts.map V.ref))/\ts.length=ps.length/\ps.length<=63/\(∀(i:Nat) (t:Addr) (p:Int×V),ts[i]? = some t->ps[i]? = some p->H t=some (.tup [.int p.1,p.2]))/\1<=w/\w<=8/\1<=R/\R<=200 /\
 ∀(ms:List Int) (t h:Addr) (H':Hp),ms.Perm ((bR [] ps).map (·.1))->ms.Pairwise (· <= ·)->H' t=some (.tup [.int w,.int R,.ref h])->Ho H H' (gV (bR [] ps)) w h (bU ms R)->aD H H'->Q (.ref t) H'
theorem Ez {p:Hp->Addr->List Int->Prop}{H:Hp}{ds:List Addr}{owns:List (List Int)}{i:Nat}{d:Addr}{own:List Int}(hl:ds.length=i) (ho:owns[i]? = some own)
  (h:∀(j:Nat) (d:Addr) (own:List Int),ds[j]? = some d->owns[j]? = some own->p H d own) (hd:p H d own):∀(j:Nat) (d':Addr) (own:List Int),(ds ++ [d])[j]? = some d'->owns[j]? = some own->p H d' own:=by
 intro j d' own' e1 e2
 by_cases z:j<ds.length
 ·rw[Vx z]at e1
  exact h j d' own' e1 e2
 ·have kl:=(Vj.mp e1).1
  rw[Vm]at kl
  have hk:j=ds.length:=by have:[d].length=1:=rfl;omega
  subst hk
  rw[Vs (Vt _),Xs]at e1
  rw[hl,ho]at e2
  cases e1;cases e2
  exact hd
def P1 {α:Type}(p:Addr->α->Prop) (as:List Addr) (xs:List α):Prop:=as.length=xs.length/\∀(i:Nat) (a:Addr) (x:α),as[i]? = some a->xs[i]? = some x->p a x
section
variable {α:Type}{p p':Addr->α->Prop}{as bs:List Addr}{xs ys:List α}{a b:Addr}{x y:α}{i:Nat}
theorem P1.imp (f:∀a x,p a x->p' a x) (h:P1 p as xs):P1 p' as xs:=⟨h.1,fun i a x e1 e2=>f a x (h.2 i a x e1 e2)⟩
theorem P1.imp' (f:∀a x,a∈as->x∈xs->p a x->p' a x) (h:P1 p as xs):P1 p' as xs:=⟨h.1,fun i a x e1 e2=>f a x (Vk e1) (Vk e2) (h.2 i a x e1 e2)⟩
theorem P1.nil:P1 p [] []:=⟨rfl,fun i a x e=>by simp at e⟩
theorem P1.get (h:P1 p as xs) (e:as[i]? = some a):∃x,xs[i]? = some x/\p a x:=by
 have il:=(Vj.mp e).1
 rw[h.1]at il
 exact⟨_,Vn il,h.2 i a _ e (Vn il)⟩
theorem P1.at' (h:P1 p as xs) (e:xs[i]? = some x):∃a,as[i]? = some a/\p a x:=by
 have il:=(Vj.mp e).1
 rw[<- h.1]at il
 exact⟨_,Vn il,h.2 i _ x (Vn il) e⟩
theorem P1.app (h:P1 p as xs) (h':P1 p bs ys):P1 p (as++bs) (xs++ys):=by
 refine⟨by rw[Vm,Vm,h.1,h'.1],fun i a x e1 e2=>?_⟩
 have hl:=h.1
 by_cases z:i<as.length
 ·rw[Vx z]at e1
  rw[Vx (by omega)]at e2
  exact h.2 i a x e1 e2
 ·rw[Vs (by omega)]at e1
  rw[Vs (by omega),<- hl]at e2
  exact h'.2 _ a x e1 e2
theorem P1.one (hb:p b y):P1 p [b] [y]:=by
 refine⟨rfl,fun i a x e1 e2=>?_⟩
 cases i with
 | zero=>cases e1;cases e2;exact hb
 | succ i=>simp at e1
theorem P1.snoc (h:P1 p as xs) (hb:p b y):P1 p (as ++ [b]) (xs ++ [y]):=h.app (P1.one hb)
theorem P1.set (h:P1 p as xs) (hb:p b y):P1 p (as.set i b) (xs.set i y):=by
 refine⟨by rw[Xm,Xm,h.1],fun j a x e1 e2=>?_⟩
 have hl:=h.1
 rw[W8]at e1 e2
 by_cases z:i=j
 ·rw[VB z]at e1 e2
  subst z
  by_cases c:i<as.length
  ·rw[VB c]at e1
   rw[VB (by omega)]at e2
   cases e1;cases e2;exact hb
  ·rw[VF c]at e1;cases e1
 ·rw[VF z]at e1 e2
  exact h.2 j a x e1 e2
theorem P1.setx (h:P1 p as xs) (n:as.Nodup) (e:as[i]? = some a) (f:∀b x,b∈as->b≠a->p b x->p' b x) (hy:p' a y):P1 p' as (xs.set i y):=by
 refine⟨by rw[Xm,h.1],fun j b x e1 e2=>?_⟩
 rw[W8]at e2
 by_cases z:i=j
 ·rw[VB z]at e2
  subst z
  rw[e]at e1
  cases e1
  split at e2
  ·cases e2;exact hy
  ·cases e2
 ·rw[VF z]at e2
  refine f b x (Vk e1) (fun w=>z ?_) (h.2 j b x e1 e2)
  subst w
  exact(List.getElem?_inj (Vj.mp e).1 n).mp (e.trans e1.symm)
theorem P1.take (h:P1 p as xs) (n:Nat):P1 p (as.take n) (xs.take n):=by
 refine⟨by rw[Vw,Vw,h.1],fun i a x e1 e2=>?_⟩
 rw[WO]at e1 e2
 split at e1
 ·rename_i c
  rw[VB c]at e2
  exact h.2 i a x e1 e2
 ·cases e1
theorem P1.dropLast (h:P1 p as xs):P1 p as.dropLast xs.dropLast:=by
 rw[List.dropLast_eq_take,List.dropLast_eq_take,<- h.1]
 exact h.take _
theorem P1.tail (h:P1 p (a::as) (x::xs)):p a x/\P1 p as xs:=by
 refine⟨h.2 0 a x rfl rfl,by have:=h.1;simpa using this,fun i b y e1 e2=>h.2 (i+1) b y (by simpa using e1) (by simpa using e2)⟩
end
def GD (K:W.Frag) (H:Hp) (n:Nat) (v:V) (d:PyData):Prop:=DV K H v d/\PyData.canLay0 d=true/\PyData.depth d<=n
def AW (K:W.Frag) (H:Hp) (n:Nat) (vs:List V) (ds:List PyData):Prop:=rX K H vs ds/\PyData.canLayAll0 ds=true/\PyData.depthAll ds<=n
section
variable {K:W.Frag}{H:Hp}{n:Nat}{v:V}{d:PyData}{vs:List V}{ds:List PyData}
theorem AW.nil:AW K H n [] []:=⟨.nil,rfl,by simp[PyData.depthAll]⟩
theorem AW.cons (h:GD K H n v d) (t:AW K H n vs ds):AW K H n (v::vs) (d::ds):=by
 refine⟨.cons h.1 t.1,?_,?_⟩
 ·rw[PyData.canLayAll0,h.2.1,t.2.1];rfl
 ·rw[PyData.depthAll];exact Nat.max_le.mpr ⟨h.2.2,t.2.2⟩
theorem GD.mono {m:Nat}(h:GD K H n v d) (l:n<=m):GD K H m v d:=⟨h.1,h.2.1,Vv h.2.2 l⟩
theorem GD.lst {a:Addr}(h:H a=some (.lst vs)) (g:AW K H n vs ds):GD K H (n+1) (.ref a) (.list ds) :=
 ⟨.lst (aU.of h) g.1,by rw[PyData.canLay0];exact g.2.1,by rw[PyData.depth];have:=g.2.2;omega⟩
theorem GD.tup {a:Addr}(h:H a=some (.tup vs)) (g:AW K H n vs ds):GD K H (n+1) (.ref a) (.tuple ds) :=
 ⟨.tup (gu.of h) g.1,by rw[PyData.canLay0];exact g.2.1,by rw[PyData.depth];have:=g.2.2;omega⟩
theorem GD.int (i:Int):GD K H n (.int i) (.int i):=⟨.int i,rfl,by simp[PyData.depth]⟩
theorem GD.str {z:Str}(h:PyData.strOk z=true):GD K H n (.str z) (.str z):=⟨.str z,by rw[PyData.canLay0];exact h,by simp[PyData.depth]⟩
theorem GD.shaped (h:GD K H n v d) (l:n<=64):SeqAt.shaped d=true:=by
 have:=h.2.2
 simp[SeqAt.shaped,h.2.1];omega
theorem GD.refl (h:GD K H n v d):PyData.eqv d d=true:=SeqAt.eqv_refl d h.2.1
theorem j_ {α:Type}{p:Addr->α->Prop}{f:α->PyData}:∀{as:List Addr}{xs:List α},P1 p as xs->(∀a x,x∈xs->p a x->GD K H n (.ref a) (f x))->AW K H n (as.map V.ref) (xs.map f)
 | [],[],_,_=>AW.nil
 | [],_::_,h,_=>by cases h.1
 | _::_,[],h,_=>by cases h.1
 | a::as,x::xs,h,g=>AW.cons (g a x Vy h.tail.1) (j_ h.tail.2 fun a x m=>g a x (Vr _ m))
end
def En (H:Hp) (v:V):Prop:=∃t k z,v = .ref t/\H t=some (.tup [.int k,.str z])/\PyData.strOk z=true/\0<=k/\k<1152921504606846976/\z.length<=100
def dE (H:Hp) (v:V):PyData:=match v with
 | .ref t=>(match H t with
  | some (.tup [.int k,.str z])=>.tuple [.int k,.str z]
  | _=>.none)
 | _=>.none
theorem En.gd {K:W.Frag}{H:Hp}{v:V}(h:En H v):GD K H 1 v (dE H v):=by
 obtain⟨t,k,z,rfl,h1,h2⟩:=h
 have e:dE H (.ref t) = .tuple [.int k,.str z]:=by
  show(match H t with|some (.tup [.int k,.str z])=>PyData.tuple [.int k,.str z] | _=>.none)=_
  rw[h1]
 rw[e]
 exact GD.tup h1 (.cons (.int _) (.cons (.str h2.1) .nil))
theorem En.keep {H H':Hp}{v:V}(kt:∀t xs,H t=some (.tup xs)->H' t=some (.tup xs)) (h:En H v):En H' v:=by
 obtain⟨t,k,z,rfl,h1,h2⟩:=h
 exact⟨t,k,z,rfl,kt _ _ h1,h2⟩
theorem qF {K:W.Frag}{H:Hp}:∀{es:List V},(∀v∈es,En H v)->AW K H 1 es (es.map (dE H))
 | [],_=>AW.nil
 | v::es,h=>AW.cons (h v Vy).gd (qF fun v m=>h v (Vr _ m))
def R1 (S:Addr->Prop) (H:Hp) (a:Addr) (es:List V):Prop:=S a/\H a=some (.lst es)
def R2 (S:Addr->Prop) (H:Hp) (b:Addr) (rows:List (List V)):Prop:=S b/\∃as:List Addr,H b=some (.lst (as.map V.ref))/\P1 (R1 S H) as rows
def R3 (S:Addr->Prop) (H:Hp) (h:Addr) (X:List (List (List V))):Prop:=∃bs:List Addr,H h=some (.lst (bs.map V.ref))/\P1 (R2 S H) bs X
section
variable {S S':Addr->Prop}{H H':Hp}{a b h:Addr}{es:List V}{rows:List (List V)}{X:List (List (List V))}
theorem R1.keep (kl:∀a o,S a->H a=some o->H' a=some o) (r:R1 S H a es):R1 S H' a es:=⟨r.1,kl _ _ r.1 r.2⟩
theorem R2.keep (kl:∀a o,S a->H a=some o->H' a=some o) (r:R2 S H b rows):R2 S H' b rows:=by
 obtain⟨s,as,h1,h2⟩:=r
 exact⟨s,as,kl _ _ s h1,h2.imp fun _ _ r=>r.keep kl⟩
theorem R3.same (s:aD H H') (r:R3 S H h X):R3 S H' h X:=by
 obtain⟨bs,h1,h2⟩:=r
 exact⟨bs,s _ _ h1,h2.imp fun _ _ r=>r.keep fun _ _ _ e=>s _ _ e⟩
end
def gm (H:Hp) (X:List (List (List V))):Prop:=∀rows∈X,∀es∈rows,∀v∈es,En H v
def Gh (X:List (List (List V))):Prop:=X.length<=131/\∀rows∈X,rows.length<=131/\∀es∈rows,es.length<=9
theorem gm.keep {H H':Hp}{X:List (List (List V))}(kt:∀t xs,H t=some (.tup xs)->H' t=some (.tup xs)) (h:gm H X):gm H' X:=fun r hr es he v hv=>(h r hr es he v hv).keep kt
theorem gm.same {H H':Hp}{X:List (List (List V))}(s:aD H H') (h:gm H X):gm H' X:=h.keep fun _ _ e=>s _ _ e
def BH (H:Hp) (es:List V):PyData:=.list (es.map (dE H))
def Cm (H:Hp) (rows:List (List V)):PyData:=.list (rows.map (BH H))
def dX (H:Hp) (X:List (List (List V))):PyData:=.list (X.map (Cm H))
theorem R3.gd {K:W.Frag}{S:Addr->Prop}{H:Hp}{h:Addr}{X:List (List (List V))}(r:R3 S H h X) (e:gm H X):GD K H 4 (.ref h) (dX H X):=by
 obtain⟨bs,h1,h2⟩:=r
 refine GD.lst h1 (j_ h2 fun b rows hm hb=>?_)
 obtain⟨_,as,h3,h4⟩:=hb
 refine GD.lst h3 (j_ h4 fun a es hm2 ha=>?_)
 exact GD.lst ha.2 (qF fun v hv=>e rows hm es hm2 v hv)
def Yd (H:Hp) (y:Addr) (w R:Int) (X:List (List (List V))):Prop:=∃h,H y=some (.tup [.int w,.int R,.ref h])/\R3 (fun _=>True) H h X/\gm H X/\Gh X
def QH (X:List (List (List V))):Prop:=X.length<=131/\(∀rows∈X,rows.length<=200)/\(dB X).length<=190
def Yq (H:Hp) (y:Addr) (w R:Int) (X:List (List (List V))):Prop:=∃h,H y=some (.tup [.int w,.int R,.ref h])/\R3 (fun _=>True) H h X/\gm H X/\QH X
theorem Yd.same {H H':Hp}{y:Addr}{w R:Int}{X:List (List (List V))}(s:aD H H') (h:Yd H y w R X):Yd H' y w R X:=by
 obtain⟨t,h1,h2,h3,h4⟩:=h
 exact⟨t,s _ _ h1,h2.same s,h3.same s,h4⟩
inductive cu
 | rooms (n:Nat)
 | cut (r m:Nat)
 | row (r a:Nat) (es:List V)
def gE (H:Hp) (s:Addr):cu->Prop
 | .rooms n=>H s=some (.tup [.str "rooms",.int n])/\1<=n/\n<=130
 | .cut r m=>H s=some (.tup [.str "cut",.int r,.int m])/\r<=129/\m<=130
 | .row r a es=>∃l,H s=some (.tup [.str "row",.int r,.int a,.ref l])/\H l=some (.lst es)/\r<=129/\a<=129/\es.length<=8/\∀v∈es,En H v
theorem gE.same {H H':Hp}{s:Addr}{st:cu}(sm:aD H H') (h:gE H s st):gE H' s st:=by
 cases st with
 | rooms n=>exact⟨sm _ _ h.1,h.2⟩
 | cut r m=>exact⟨sm _ _ h.1,h.2⟩
 | row r a es =>
  obtain⟨l,h1,h2,h3,h4,h5,h6⟩:=h
  exact⟨l,sm _ _ h1,sm _ _ h2,h3,h4,h5,fun v hv=>(h6 v hv).keep fun _ _ e=>sm _ _ e⟩
def Qv (H:Hp):cu->PyData
 | .rooms n=>.tuple [.str "rooms",.int n]
 | .cut r m=>.tuple [.str "cut",.int r,.int m]
 | .row r a es=>.tuple [.str "row",.int r,.int a,BH H es]
theorem gE.gd {K:W.Frag}{H:Hp}{s:Addr}{st:cu}(h:gE H s st):GD K H 5 (.ref s) (Qv H st):=by
 cases st with
 | rooms n=>exact(GD.tup (n:=1) h.1 (.cons (.str (by z_go)) (.cons (.int _) .nil))).mono (by omega)
 | cut r m=>exact(GD.tup (n:=1) h.1 (.cons (.str (by z_go)) (.cons (.int _) (.cons (.int _) .nil)))).mono (by omega)
 | row r a es =>
  obtain⟨l,h1,h2,h3,h4,h5,h6⟩:=h
  exact(GD.tup (n:=2) h1 (.cons (.str (by z_go)) (.cons (.int _) (.cons (.int _) (.cons (GD.lst h2 (qF h6)) .nil))))).mono (by omega)
def trim {α:Type}(X:List (List α)):List (List α):=(X.reverse.dropWhile (·.isEmpty)).reverse
theorem Ca {α:Type}:trim ([]:List (List α))=[]:=rfl
theorem AU {α:Type}{X:List (List α)}:trim (X ++ [[]])=trim X:=by
 unfold trim
 rw[List.reverse_append];rfl
theorem BL {α:Type}{X:List (List α)}{r:List α}(h:r ≠ []):trim (X ++ [r])=X ++ [r]:=by
 unfold trim
 rw[List.reverse_append]
 show(List.dropWhile (·.isEmpty) (r::X.reverse)).reverse=_
 rw[List.dropWhile_cons,VF (by simpa using h),List.reverse_cons,List.reverse_reverse]
theorem cj {α:Type}{X:List (List α)}:(∀r∈trim X,r∈X)/\(trim X).length<=X.length:=by
 unfold trim
 have s:=List.dropWhile_sublist (l:=X.reverse) (p:=fun r:List α=>r.isEmpty)
 exact⟨fun r hr=>WS.mp (s.subset (WS.mp hr)),by rw[V3];have:=s.length_le;rw[V3]at this;exact this⟩
def pad {α:Type}(X:List (List α)) (n:Nat):List (List α):=X++List.replicate (n-X.length) []
theorem oU {α:Type}{X:List (List α)}{n:Nat}:(pad X n).length=max X.length n:=by
 unfold pad;rw[Vm,Xn];omega
theorem wM {α:Type}{X:List (List α)}{n:Nat}(h:n<=X.length):pad X n=X:=by
 unfold pad;rw[Nat.sub_eq_zero_of_le h];simp
theorem yo {α:Type}{X:List (List α)}{n:Nat}(h:X.length<n):pad (X ++ [[]]) n=pad X n:=by
 unfold pad
 rw[Vm,Wn,VU]
 congr 1
 rw[show n-X.length =(n-(X.length+1))+1 by omega,List.replicate_succ];rfl
theorem l9 {α:Type}{X:List (List α)}{n:Nat}{r:List α}(h:r∈pad X n):r∈X\/r=[]:=by
 unfold pad at h
 rcases VH.mp h with z|z
 ·exact .inl z
 ·exact .inr (List.eq_of_mem_replicate z)
def xU (X:List (List (List V))) (r a:Nat) (es:List V):List (List (List V)):=(pad X (r+1)).modify r fun rows=>(pad rows (a+1)).set a es
def lK (X:List (List (List V))):cu->List (List (List V))
 | .rooms _=>trim X
 | .cut r m=>trim (X.modify r (List.take m))
 | .row r a es=>trim (xU X r a es)
def u6 (R:Int):cu->Int
 | .rooms n=>n
 | _=>R
theorem kj {α:Type}{X:List α}{r:Nat}{f:α->α}{y:α}(h:y∈X.modify r f):y∈X \/ ∃x∈X,y=f x:=by
 obtain⟨i,hi⟩:=VE h
 rw[WG]at hi
 cases e:X[i]? with
 | none=>rw[e]at hi;simp at hi
 | some x =>
  rw[e]at hi
  have hm:=Vk e
  by_cases z:r=i
  ·have e2:f x=y:=by simpa [z] using hi
   exact .inr ⟨x,hm,e2.symm⟩
  ·have e2:x=y:=by simpa [z] using hi
   exact .inl (e2 ▸ hm)
theorem Al {α:Type}{X:List α}{r:Nat}{f:α->α}{x:α}(h:X[r]? = some x):X.modify r f=X.set r (f x):=by
 refine Wg fun i=>?_
 rw[WG,W8]
 by_cases z:r=i
 ·subst z
  obtain⟨hl,e⟩:=Vj.mp h
  simp[hl,e]
 ·simp[z]
theorem DY {α:Type}{X:List α}{r:Nat}{f:α->α}(h:X.length<=r):X.modify r f=X:=by
 refine Wg fun i=>?_
 rw[WG]
 by_cases z:r=i
 ·subst z
  rw[V7 h];rfl
 ·simp[z]
theorem Ad {X:List (List (List V))}{q:List V->Prop}{st:cu}(h:∀rows∈X,∀es∈rows,q es) (h0:q []) (hs:∀r a es,st = .row r a es->q es):∀rows∈lK X st,∀es∈rows,q es:=by
 cases st with
 | rooms n=>exact fun rows hr=>h rows (cj.1 rows hr)
 | cut r m =>
  intro rows hr es he
  rcases kj (cj.1 rows hr) with z|⟨x,hx,rfl⟩
  ·exact h rows z es he
  ·exact h x hx es (WH he)
 | row r a e2 =>
  intro rows hr es he
  have hp:∀rows∈pad X (r+1),∀es∈rows,q es:=fun rows hr es he=>by
   rcases l9 hr with z|z
   ·exact h rows z es he
   ·rw[z]at he;cases he
  rcases kj (cj.1 rows hr) with z|⟨x,hx,rfl⟩
  ·exact hp rows z es he
  ·rcases W5 he with z|z
   ·rcases l9 z with w|w
    ·exact hp x hx es w
    ·rw[w];exact h0
   ·rw[z];exact hs r a e2 rfl
theorem Gh.step {H:Hp}{s:Addr}{X:List (List (List V))}{st:cu}(h:Gh X) (hs:gE H s st):Gh (lK X st):=by
 have q:=Ad (X:=X) (q:=fun es=>es.length<=9) (st:=st) (fun rows hr es he=>(h.2 rows hr).2 es he) (by simp) (fun r a es e=>by subst e;obtain⟨l,_,_,_,_,h5,_⟩:=hs;omega)
 refine⟨?_,fun rows hr=>⟨?_,q rows hr⟩⟩
 ·have h1:=h.1
  cases st with
  | rooms n=>exact Vv cj.2 h1
  | cut r m=>exact Vv cj.2 (by rw[XD];exact h1)
  | row r a es =>
   obtain⟨l,_,_,h3,_⟩:=hs
   refine Vv cj.2 ?_
   unfold xU
   rw[XD,oU];omega
 ·cases st with
  | rooms n=>exact(h.2 rows (cj.1 rows hr)).1
  | cut r m =>
   rcases kj (cj.1 rows hr) with z|⟨x,hx,rfl⟩
   ·exact(h.2 rows z).1
   ·have:=(h.2 x hx).1
    rw[Vw];omega
  | row r a es =>
   obtain⟨l,_,_,h3,h4,_⟩:=hs
   have hp:∀rows∈pad X (r+1),rows.length<=131:=fun rows hr=>by
    rcases l9 hr with z|z
    ·exact(h.2 rows z).1
    ·rw[z];simp
   rcases kj (cj.1 rows hr) with z|⟨x,hx,rfl⟩
   ·exact hp rows z
   ·have:=hp x hx
    rw[Xm,oU];omega
theorem gm.step {H:Hp}{s:Addr}{X:List (List (List V))}{st:cu}(h:gm H X) (hs:gE H s st):gm H (lK X st) :=
 Ad (q:=fun es=>∀v∈es,En H v) h (fun v hv=>by cases hv) fun r a es e=>by subst e;obtain⟨l,_,_,_,_,_,h6⟩:=hs;exact h6
def T1 (S:Addr->Prop) (h:Addr) (bs:List Addr) (H:Hp) (a:Addr) (es:List V):Prop:=S a/\a≠h/\a∉bs/\H a=some (.lst es)
def T2 (S:Addr->Prop) (h:Addr) (bs:List Addr) (H:Hp) (b:Addr) (rows:List (List V)):Prop:=S b/\∃as:List Addr,H b=some (.lst (as.map V.ref))/\P1 (T1 S h bs H) as rows
def T3 (S:Addr->Prop) (H:Hp) (h:Addr) (bs:List Addr) (X:List (List (List V))):Prop:=S h/\H h=some (.lst (bs.map V.ref))/\bs.Nodup/\h∉bs/\P1 (T2 S h bs H) bs X
def Kq (S:Addr->Prop) (H H':Hp):Prop:=∀b o,¬ S b->H b=some o->H' b=some o
def Fr (S:Addr->Prop) (H:Hp):Prop:=∀e,H e=none->S e
theorem Kq.trans {S:Addr->Prop}{H H1 H2:Hp}(a:Kq S H H1) (b:Kq S H1 H2):Kq S H H2:=fun c o n e=>b c o n (a c o n e)
theorem Fr.keep {S:Addr->Prop}{H H':Hp}(f:Fr S H) (k:Kq S H H'):Fr S H':=fun e n=>by
 by_cases z:S e
 ·exact z
 ·cases c:H e with
  | none=>exact f e c
  | some o=>rw[k e o z c]at n;cases n
section
variable {S:Addr->Prop}{H H':Hp}{h a b c e:Addr}{bs bs' as:List Addr}{es:List V}{rows:List (List V)}{X:List (List (List V))}{i j m:Nat}
theorem T2.keep (kb:∀o,H b=some o->H' b=some o) (kr:∀a o,a≠h->a∉bs->H a=some o->H' a=some o/\a∉bs') (t:T2 S h bs H b rows):T2 S h bs' H' b rows:=by
 obtain⟨s,as,h1,h2⟩:=t
 refine⟨s,as,kb _ h1,h2.imp fun a es t=>?_⟩
 obtain⟨t1,t2,t3,t4⟩:=t
 obtain⟨k1,k2⟩:=kr a _ t2 t3 t4
 exact⟨t1,t2,k2,k1⟩
theorem T3.has (t:T3 S H h bs X) (hb:b∈bs):∃o,H b=some o:=by
 obtain⟨i,hi⟩:=VE hb
 obtain⟨rows,_,_,as,h1,_⟩:=t.2.2.2.2.get hi
 exact⟨_,h1⟩
theorem T3.new (t:T3 S H h bs X) (ne:H e=none):e≠h/\e∉bs:=by
 refine⟨fun z=>(by rw[z,t.2.1]at ne;cases ne),fun z=>?_⟩
 obtain⟨o,ho⟩:=t.has z
 rw[ho]at ne;cases ne
theorem T3.push (t:T3 S H h bs X) (ne:H e=none) (se:S e) (hk:∀b o,b≠h->H b=some o->H' b=some o) (hh:H' h=some (.lst ((bs ++ [e]).map V.ref))) (he:H' e=some (.lst [])):T3 S H' h (bs ++ [e]) (X ++ [[]]):=by
 obtain⟨n1,n2⟩:=t.new ne
 obtain⟨sh,h1,h2,h3,h4⟩:=t
 refine⟨sh,hh,?_,?_,(h4.imp' fun b rows hb _ t=>t.keep (fun o e=>hk _ _ (fun z=>h3 (z ▸ hb)) e) fun a o m1 m2 e'=>⟨hk _ _ m1 e',fun z=>?_⟩).snoc ⟨se,[],he,P1.nil⟩⟩
 ·rw[Wb]
  refine⟨h2,by simp,fun x hx y hy z=>n2 ?_⟩
  have:y=e:=by simpa using hy
  rw[<- this,<- z];exact hx
 ·intro z
  rcases VH.mp z with w|w
  ·exact h3 w
  ·have:h=e:=by simpa using w
   exact n1 this.symm
 ·rcases VH.mp z with w|w
  ·exact m2 w
  ·have:a=e:=by simpa using w
   rw[this,ne]at e';cases e'
theorem T3.add (t:T3 S H h bs X) (hk:∀b o,b≠h->H b=some o->H' b=some o) (hh:H' h=some (.lst ((bs ++ [c]).map V.ref))) (nc:H c=none) (sc:S c) (hc:H' c=some (.lst (as.map V.ref))) (hA:P1 (fun a es=>S a/\H a=none/\a≠c/\H' a=some (.lst es)) as rows):T3 S H' h (bs ++ [c]) (X ++ [rows]):=by
 obtain⟨n1,n2⟩:=t.new nc
 have t0:=t
 obtain⟨sh,h1,h2,h3,h4⟩:=t
 refine⟨sh,hh,?_,?_,(h4.imp' fun b rows hb _ t=>t.keep (fun o e=>hk _ _ (fun z=>h3 (z ▸ hb)) e) fun a o m1 m2 e'=>⟨hk _ _ m1 e',fun z=>?_⟩).snoc ⟨sc,as,hc,hA.imp fun a es t=>?_⟩⟩
 ·rw[Wb]
  refine⟨h2,by simp,fun x hx y hy z=>n2 ?_⟩
  have:y=c:=by simpa using hy
  rw[<- this,<- z];exact hx
 ·intro z
  rcases VH.mp z with w|w
  ·exact h3 w
  ·have:h=c:=by simpa using w
   exact n1 this.symm
 ·obtain⟨m1,m2⟩:=t0.new t.2.1
  refine⟨t.1,m1,fun z=>?_,t.2.2.2⟩
  rcases VH.mp z with w|w
  ·exact m2 w
  ·exact t.2.2.1 (by simpa using w)
 ·rcases VH.mp z with w|w
  ·exact m2 w
  ·have:a=c:=by simpa using w
   rw[this,nc]at e';cases e'
theorem T3.inrow (t:T3 S H h bs X) (hb:bs[i]? = some b) (hr:X[i]? = some rows):S b/\∃as:List Addr,H b=some (.lst (as.map V.ref))/\P1 (T1 S h bs H) as rows:=t.2.2.2.2.2 i b rows hb hr
theorem T3.one (t:T3 S H h bs X) (hb:bs[i]? = some b) (hk:∀c o,c≠b->H c=some o->H' c=some o) (hn:T2 S h bs H' b rows):T3 S H' h bs (X.set i rows):=by
 obtain⟨sh,h1,h2,h3,h4⟩:=t
 have bm:=Vk hb
 refine⟨sh,hk _ _ (fun z=>h3 (z ▸ bm)) h1,h2,h3,h4.setx h2 hb (fun c rows hc n t=>t.keep (fun o e=>hk _ _ n e) fun a o m1 m2 e=>⟨hk _ _ (fun z=>m2 (z ▸ bm)) e,m2⟩) hn⟩
theorem By {bs:List Addr}{c:Addr}(n:bs.Nodup) (nc:c∉bs):∀{i:Nat},(bs.set i c).Nodup:=by
 intro i
 induction bs generalizing i with
 | nil=>simp
 | cons x bs ih =>
  obtain⟨n1,n2⟩:=V6.mp n
  cases i with
  | zero=>exact V6.mpr ⟨fun z=>nc (Vr _ z),n2⟩
  | succ i =>
   refine V6.mpr ⟨fun z=>?_,ih n2 (fun z=>nc (Vr _ z))⟩
   rcases W5 z with w|w
   ·exact n1 w
   ·exact nc (w ▸ Vy)
theorem T3.put (t:T3 S H h bs X) (nc:H c=none) (hk:∀b o,b≠h->H b=some o->H' b=some o) (hh:H' h=some (.lst ((bs.set i c).map V.ref))) (hn:T2 S h (bs.set i c) H' c rows):T3 S H' h (bs.set i c) (X.set i rows):=by
 obtain⟨n1,n2⟩:=t.new nc
 obtain⟨sh,h1,h2,h3,h4⟩:=t
 have mem:∀{x},x∈bs.set i c->x∈bs\/x=c:=fun z=>W5 z
 refine⟨sh,hh,By h2 n2,fun z=>?_,P1.set (h4.imp' fun b rows hb _ t=>t.keep (fun o e=>hk _ _ (fun z=>h3 (z ▸ hb)) e) fun a o m1 m2 e'=>⟨hk _ _ m1 e',fun z=>?_⟩) hn⟩
 ·rcases mem z with w|w
  ·exact h3 w
  ·exact n1 w.symm
 ·rcases mem z with w|w
  ·exact m2 w
  ·rw[w,nc]at e';cases e'
theorem T3.pop (t:T3 S H h bs X) (hk:∀b o,b≠h->H b=some o->H' b=some o) (hh:H' h=some (.lst (bs.dropLast.map V.ref))):T3 S H' h bs.dropLast X.dropLast:=by
 obtain⟨sh,h1,h2,h3,h4⟩:=t
 have sub:=List.dropLast_sublist bs
 refine⟨sh,hh,h2.sublist sub,fun z=>h3 (sub.subset z),P1.dropLast (h4.imp' fun b rows hb _ t=>t.keep (fun o e=>hk _ _ (fun z=>h3 (z ▸ hb)) e) fun a o m1 m2 e'=>⟨hk _ _ m1 e',fun z=>m2 (sub.subset z)⟩)⟩
theorem T3.same (s:aD H H') (t:T3 S H h bs X):T3 S H' h bs X:=by
 obtain⟨sh,h1,h2,h3,h4⟩:=t
 exact⟨sh,s _ _ h1,h2,h3,h4.imp fun b rows t=>t.keep (fun o e=>s _ _ e) fun a o m1 m2 e=>⟨s _ _ e,m2⟩⟩
theorem T3.weak {S':Addr->Prop}(w:∀b,S b->S' b) (t:T3 S H h bs X):T3 S' H h bs X:=by
 obtain⟨sh,h1,h2,h3,h4⟩:=t
 refine⟨w _ sh,h1,h2,h3,h4.imp fun b rows t=>?_⟩
 obtain⟨sb,as,h5,h6⟩:=t
 exact⟨w _ sb,as,h5,h6.imp fun a es t=>⟨w _ t.1,t.2⟩⟩
end
theorem CG {n j:Nat}(h:j<n):yx n (j:Int)=some j:=by
 unfold yx
 rw[VB (by omega),VB (by omega),Wx]
theorem iU {as:List Addr}{k:Nat}:iE (as.map V.ref) none (some (k:Int)) =(as.take k).map V.ref:=by
 unfold iE
 rw[HT.sIx_nat,HT.sIx_none,List.drop_zero,Nat.sub_zero,Xd,Vi]
 by_cases h:k<=as.length
 ·rw[WM h]
 ·rw[Nat.min_eq_right (by omega),V8 (by rw[Vi];omega),V8 (by rw[Vi];omega)]
theorem JG {α:Type}{xs:List α}{i:Nat}{x:α}(h:xs[i]? = some x):xs.set i x=xs:=by
 refine Wg fun j=>?_
 rw[W8]
 by_cases z:i=j
 ·subst z
  rw[VB rfl,VB (Vj.mp h).1,h]
 ·rw[VF z]
theorem Aa {α:Type}{xs:List α}(h:xs ≠ []):∃ys y,xs=ys ++ [y]:=⟨xs.dropLast,xs.getLast h,(List.dropLast_concat_getLast h).symm⟩
theorem pL {as:List Addr}:decide (as ≠ []) = !(as.map V.ref).isEmpty:=by cases as <;> rfl
def om (K:W.Frag):Sp:=fun vs H Q _=>∃(S:Addr->Prop) (h:Addr) (bs:List Addr) (X:List (List (List V))) (r m:Nat),vs=[.ref h,.int r,.int m]/\T3 S H h bs X/\Fr S H /\
 ∀bs' H',T3 S H' h bs' (X.modify r (List.take m))->Kq S H H'->Q .non H'
def gq (K:W.Frag):Sp:=fun vs H Q _=>∃(S:Addr->Prop) (h:Addr) (bs:List Addr) (X:List (List (List V))),vs=[.ref h]/\T3 S H h bs X /\
 ∀bs' H',T3 S H' h bs' (trim X)->Kq S H H'->Q .non H'
def qO (K:W.Frag):Sp:=fun vs H Q _=>∃(S:Addr->Prop) (h:Addr) (bs:List Addr) (X:List (List (List V))) (r a:Nat) (l:Addr) (es:List V),vs=[.ref h,.int r,.int a,.ref l]/\T3 S H h bs X/\Fr S H/\Gh X/\r<=129/\a<=129/\¬ S l/\H l=some (.lst es)/\es.length<=9 /\
 ∀bs' H',T3 S H' h bs' (xU X r a es)->Kq S H H'->Q .non H'
def xh (K:W.Frag):Sp:=fun vs H Q _=>∃(y ss:Addr) (w R:Int) (X:List (List (List V))) (sa:List Addr) (sts:List cu),vs=[.ref y,.ref ss]/\Yd H y w R X/\H ss=some (.lst (sa.map V.ref))/\P1 (gE H) sa sts /\
 ∀y' h' bs' H',H' y'=some (.tup [.int w,.int (sts.foldl u6 R),.ref h'])->T3 (fun b=>H b=none) H' h' bs' (sts.foldl lK X)->aD H H'->Q (.ref y') H'
def z8 (K:W.Frag):Sp:=fun vs H Q _=>∃(y s:Addr) (w R:Int) (X:List (List (List V))) (st:cu),vs=[.ref y,.ref s]/\Yd H y w R X/\gE H s st /\
 ∀y' h' bs' H',H' y'=some (.tup [.int w,.int (u6 R st),.ref h'])->T3 (fun b=>H b=none) H' h' bs' (lK X st)->aD H H'->Q (.ref y') H'
theorem Fy (a b:Str):(a++b).cps=a.cps++b.cps:=rfl
theorem zh (a b:Str):(a++b).length=a.length+b.length:=by
 show(a.cps++b.cps).size=_
 rw[Array.size_append];rfl
theorem EB {a b:Str}(h1:∀c∈a.cps,c<128) (h2:∀c∈b.cps,c<128):∀c∈(a++b).cps,c<128:=by
 intro c hc
 rw[Fy]at hc
 rcases Array.mem_append.mp hc with z|z
 ·exact h1 c z
 ·exact h2 c z
theorem wI:∀ys:List Str,(∀y∈ys,y.length=1/\∀c∈y.cps,c<128)->(Str.join ⟨#[]⟩ ys).length=ys.length/\∀c∈(Str.join ⟨#[]⟩ ys).cps,c<128
 | [],_=>⟨rfl,fun c hc=>absurd hc (by simp[Str.join,Str.empty])⟩
 | y::r,h=>by
  obtain⟨h1,h2⟩:=wI r fun z hz=>h z (Vr _ hz)
  obtain⟨g1,g2⟩:=h y Vy
  rw[PyProof.Rows.join_nil_cons]
  refine⟨by rw[zh,h1,g1,Wk];omega,EB g2 h2⟩
theorem PJ (ys:List Str):Txt.join (Str.ofString "") ys=Str.join ⟨#[]⟩ ys:=by
 have e:Str.ofString "" =⟨#[]⟩:=by decide
 rw[e]
 exact StrLaws.glued_eq_join _ _
theorem wu:∀ys:List Str,(∀y∈ys,y.length=1/\∀c∈y.cps,c<128)->(ys.map (·.length)).sum=ys.length
 | [],_=>rfl
 | y::r,h=>by
  rw[VY,List.sum_cons,wu r fun z hz=>h z (Vr _ hz),(h y Vy).1,Wk];omega
theorem BF {z:Str}(h:∀c∈z.cps,c<128):PyData.strOk z=true:=by
 unfold PyData.strOk
 rw[Array.all_eq_true_iff_forall_mem]
 intro c hc
 have:=h c hc
 simp;omega
def CB (H H':Hp):Hp:=fun b=>match H b with
 | none=>H' b
 | some _=>none
def rW (K:W.Frag):Sp:=fun vs H Q _=>∃(p:Addr) (N:Nat),vs=[.ref p]/\Hand H p N/\N+30<2^60 /\
 ∀(z:Str) (H':Hp),PyData.strOk z=true->z.length<=100->Hand H' p (N+20)->Kp H H' p->Q (.str z) H'
def Es (K:W.Frag):Sp:=fun vs H Q _=>∃(n:Int),vs=[.int n]/\Q (.bl true) H
def vC (K:W.Frag):Sp:=fun vs H Q _=>∃(y:Addr) (w R:Int) (X:List (List (List V))),vs=[.ref y]/\Yd H y w R X /\
 ∀y' h' bs' H',H y'=none->H' y'=some (.tup [.int w,.int R,.ref h'])->T3 (fun b=>H b=none) H' h' bs' X->aD H H'->Q (.ref y') H'
theorem jm {H H':Hp}{p:Addr}{N:Nat}(hh:Hand H p N) (k:Kp H H' p):∀t xs,H t=some (.tup xs)->H' t=some (.tup xs):=fun t xs e=>by
 obtain⟨l1,d,c,ns,h1,_⟩:=hh.ex
 exact k.1 _ _ e (ju e h1 (by intro z;cases z))
theorem Nr {r:Int}(h0:0<=r) (h1:r<26):∃c,rg (Str.ofString "abcdefghijklmnopqrstuvwxyz").cps.toList r=some c/\c<128:=by
 obtain⟨n,rfl⟩ : ∃n:Nat,r =(n:Int):=⟨r.toNat,by omega⟩
 have hl:(Str.ofString "abcdefghijklmnopqrstuvwxyz").cps.toList.length=26:=by z_go
 have ha:∀c∈(Str.ofString "abcdefghijklmnopqrstuvwxyz").cps.toList,c<128:=by z_go
 have hi:=Vn (l:=(Str.ofString "abcdefghijklmnopqrstuvwxyz").cps.toList) (i:=n) (by omega)
 exact⟨_,ie hi,ha _ (Vk hi)⟩
theorem Ba {as:List Addr}{k:Nat}:iE (as.map V.ref) (some (k:Int)) none =(as.drop k).map V.ref:=by
 unfold iE
 rw[HT.sIx_nat,HT.sIx_none,Vi,<- XQ]
 by_cases h:k<=as.length
 ·rw[WM h,V8 (by rw[Vi,Wj];omega)]
 ·rw[Wl (by omega:as.length<=min k as.length),Wl (by omega:as.length<=k)]
  simp
def eD (H:Hp) (v:V):Int×Str:=match v with
 | .ref t=>(match H t with
  | some (.tup [.int k,.str z])=>(k,z)
  | _=>(0,⟨#[]⟩))
 | _=>(0,⟨#[]⟩)
theorem oz {H:Hp}{t:Addr}{k:Int}{z:Str}(h:H t=some (.tup [.int k,.str z])):eD H (.ref t) =(k,z):=by
 show(match H t with|some (.tup [.int k,.str z])=>(k,z)|_=>(0,⟨#[]⟩))=_
 rw[h]
theorem En.pt {H:Hp}{v:V}(h:En H v):∃t,v = .ref t/\H t=some (.tup [.int (eD H v).1,.str (eD H v).2])/\PyData.strOk (eD H v).2=true/\0 <=(eD H v).1/\(eD H v).1<1152921504606846976/\(eD H v).2.length<=100:=by
 obtain⟨t,k,z,rfl,h1,h2⟩:=h
 rw[oz h1]
 exact⟨t,rfl,h1,h2⟩
theorem En.eD {H H':Hp}{v:V}(kt:∀t xs,H t=some (.tup xs)->H' t=some (.tup xs)) (h:En H v):eD H' v=eD H v:=by
 obtain⟨t,k,z,rfl,h1,h2⟩:=h
 rw[oz h1,oz (kt _ _ h1)]
def aI (H:Hp) (es:List V):List (Int×Str):=es.map (eD H)
def aL (H:Hp) (rows:List (List V)):List (List (Int×Str)):=rows.map (aI H)
def qJ (rs:List (List (Int×Str))):List (List Int):=rs.map fun r=>r.map (·.1)
def Im (H:Hp) (X:List (List (List V))):Prop:=∀rows∈X,∀es∈rows,((aI H es).map (·.1)).Nodup
theorem b6 {H H':Hp}{es:List V}(kt:∀t xs,H t=some (.tup xs)->H' t=some (.tup xs)) (h:∀v∈es,En H v):aI H' es=aI H es:=Wa fun v hv=>(h v hv).eD kt
theorem Im.keep {H H':Hp}{X:List (List (List V))}(kt:∀t xs,H t=some (.tup xs)->H' t=some (.tup xs)) (e:gm H X) (h:Im H X):Im H' X:=fun rows hr es he=>by
 rw[b6 kt (e rows hr es he)];exact h rows hr es he
theorem nQ {H H':Hp}{rows:List (List V)}(kt:∀t xs,H t=some (.tup xs)->H' t=some (.tup xs)) (h:∀es∈rows,∀v∈es,En H v):aL H' rows=aL H rows:=Wa fun es he=>b6 kt (h es he)
def pick (k:Int) (r:List (Int×Str)):Option Str:=(r.find? fun e=>decide (e.1=k)).map (·.2)
def rB (k:Int):List (List (Int×Str))->Option Str×Int
 | []=>(none,0)
 | r::rs=>if qI k (r.map (·.1))=true then(pick k r,1) else((rB k rs).1,(rB k rs).2+1)
theorem C4 {k:Int}{r:List (Int×Str)}:(pick k r).isSome=decide (k∈r.map (·.1)):=by
 unfold pick
 rw[Option.isSome_map]
 cases e:r.find? fun e=>decide (e.1=k) with
 | none =>
  have h:=List.find?_eq_none.mp e
  refine(VR fun hm=>?_).symm
  obtain⟨x,hx,hk⟩:=Vq.mp hm
  exact h x hx (by simpa using hk)
 | some x =>
  have h1:=List.mem_of_find?_eq_some e
  have h2:x.1=k:=by simpa using List.find?_some e
  exact(VX (Vq.mpr ⟨x,h1,h2⟩)).symm
theorem wQ {k:Int}:∀{rs:List (List (Int×Str))},fD k (qJ rs) =((rB k rs).1.isSome,(rB k rs).2)
 | []=>rfl
 | r::rs=>by
  show fD k (r.map (·.1)::qJ rs)=_
  rw[fD,rB]
  split
  ·rw[C4]
  ·rw[wQ (rs:=rs)]
theorem CI {k:Int}{z:Str}:∀{rs:List (List (Int×Str))},(rB k rs).1=some z->∃(i:Nat) (r:List (Int×Str)),(rB k rs).2=i+1/\rs[i]? = some r/\pick k r=some z
 | [],h=>by cases h
 | r::rs,h=>by
  rw[rB]at h ⊢
  split at h
  ·rename_i c
   rw[VB c]
   exact⟨0,r,rfl,rfl,h⟩
  ·rename_i c
   rw[VF c]
   obtain⟨i,r',h1,h2,h3⟩:=CI (rs:=rs) h
   exact⟨i+1,r',by show(rB k rs).2+1=_;rw[h1];push_cast;rfl,by simpa using h2,h3⟩
def xV:Option Str->V
 | none=>.non
 | some z=>.str z
def bJ (X:List (List (List V))) (k R:Int):List (List V):=(X[(aE k R).toNat]?).getD []
theorem ug {k:Key}:∀{ps:List (Key×V)}{kvs:List (Key×V)},(∀p∈ps,p.1≠k)->dz (fJ kvs ps) k=dz kvs k
 | [],_,_=>rfl
 | p::ps,kvs,h=>by
  show dz (fJ (putK kvs p.1 p.2) ps) k=_
  rw[ug fun q hq=>h q (Vr _ hq),wO,VF (fun z=>h p Vy z.symm)]
theorem pO {k:Int}{z:Str}:∀{r:List (Int×Str)}{kvs:List (Key×V)},(r.map (·.1)).Nodup->pick k r=some z->dz (fJ kvs (r.map fun e=>((Sum.inl e.1:Key),V.str e.2))) (Sum.inl k)=some (.str z)
 | [],_,_,h=>by cases h
 | e::r,kvs,hn,h=>by
  rw[VY]at hn
  obtain⟨n1,n2⟩:=V6.mp hn
  show dz (fJ (putK kvs (Sum.inl e.1) (.str e.2)) _) _=_
  by_cases c:e.1=k
  ·have hz:e.2=z:=by
    unfold pick at h
    rw[List.find?_cons_of_pos (by simpa using c)]at h
    simpa using h
   rw[ug,wO,VB (by rw[c]),hz]
   intro p hp
   obtain⟨x,hx,rfl⟩:=Vq.mp hp
   intro w
   have w':x.1=k:=Sum.inl.inj w
   exact n1 (by rw[c,<- w'];exact Vq.mpr ⟨x,hx,rfl⟩)
  ·refine pO n2 ?_
   unfold pick at h ⊢
   rw[List.find?_cons_of_neg (by simpa using c)]at h
   exact h
def lU (K:W.Frag):Sp:=fun vs H Q _=>∃(k R:Int),vs=[.int k,.int R]/\0<=k/\k<2^61/\1<=R/\R<=2^60/\Q (.int (aE k R)) H
def yJ (K:W.Frag):Sp:=fun vs H Q _=>∃(h:Addr) (bs:List Addr) (r:Nat),vs=[.ref h,.int r]/\H h=some (.lst (bs.map V.ref))/\∀o H1,aD H H1->(bs[r]? = some o \/(bs.length<=r/\H1 o=some (.lst [])))->Q (.ref o) H1
def xr (K:W.Frag):Sp:=fun vs H Q _=>∃(y:Addr) (w R k:Int) (X:List (List (List V))),vs=[.ref y,.int k]/\Yd H y w R X/\Im H X/\1<=R/\R<=2^60 /\
 ∀t H',H' t=some (.tup [xV (rB k (aL H (bJ X k R))).1,.int (rB k (aL H (bJ X k R))).2])->aD H H'->Q (.ref t) H'
def Er (K:W.Frag):Sp:=fun vs H Q _=>∃(y:Addr) (w R k:Int) (X:List (List (List V))),vs=[.ref y,.int k]/\Yd H y w R X/\0<=k/\k<2^61/\1<=R/\R<=2^60 /\
 ∀t H',H' t=some (.tup [xV (rB k (aL H (bJ X k R))).1,.int (rB k (aL H (bJ X k R))).2])->aD H H'->Q (.ref t) H'
theorem CK.mono {H0 H':Hp}{p D:Addr}{N M:Nat}{ys:List V}(c:CK H0 p D N ys H') (h:N<=M):CK H0 p D M ys H':=⟨c.hh.mono h,c.lat,c.kp,c.n0,c.np,c.nc⟩
def Ii (K:W.Frag):Sp:=fun vs H Q _=>∃(p kl:Addr) (N:Nat) (ks:List Int),vs=[.ref p,.ref kl]/\Hand H p N/\N+2000<2^60/\H kl=some (.lst (ks.map V.int))/\kl≠p/\ks ≠ []/\ks.length<=50 /\
 ∀(l:Addr) (es:List V) (H':Hp),H l=none->H' l=some (.lst es)->es.length<=3->(∀v∈es,En (CB H H') v)->((aI H' es).map (·.1)).Nodup->Hand H' p (N+300)->Kp H H' p->Q (.ref l) H'
def jL (K:W.Frag):Sp:=fun vs H Q _=>∃(a:Addr) (ns:List Int) (l m:Int),vs=[.ref a,.int l,.int m]/\aU K H a (ns.map V.int)/\ns.length<=63/\0<=l/\l<=100/\0<=m/\m<=100 /\
 ∀(n:Nat) (l':Addr) (H':Hp),n<=100->H l'=none->H' l'=some (.lst ((Bo n).map V.int))->aD H H'->Q (.ref l') H'
def kE (H:Hp) (t:Addr):Int:=(eD H (.ref t)).1
theorem fU {H:Hp}{ts:List Addr}:(aI H (ts.map V.ref)).map (·.1)=ts.map (kE H):=by
 unfold aI kE
 rw[V4,V4];rfl
theorem yG {α:Type}{f:Addr->α}{ts:List Addr}(n:(ts.map f).Nodup):∀t∈ts,∀u∈ts,f t=f u->t=u:=fun t ht u hu e=>by
 obtain⟨i,hi⟩:=VE ht
 obtain⟨j,hj⟩:=VE hu
 have e1:(ts.map f)[i]? =(ts.map f)[j]?:=by rw[Vp,Vp,hi,hj];exact Wf some e
 have il:i <(ts.map f).length:=by rw[Vi];exact(Vj.mp hi).1
 have ij:=(List.getElem?_inj il n).mp e1
 subst ij
 rw[hi]at hj
 exact VC hj
theorem tO {k:Int}{j:Nat}:k%2^(j+1)=k%2^j+2^j*(k / 2^j%2):=by
 have pp:=gI j
 rw[Xr]
 generalize (2:Int)^j=p at *
 have e:k / (p*2)=k / p / 2:=(Int.ediv_ediv_of_nonneg (show 0<=p by omega)).symm
 rw[Int.emod_def k (p*2),Int.emod_def k p,Int.emod_def (k / p) 2,e,Int.mul_sub]
 have a:p*2*(k / p / 2)=p*(2*(k / p / 2)):=Int.mul_assoc _ _ _
 omega
theorem zH {k:Int}{i j:Nat}(h0:0<=k) (h:k / 2^j<=0) (hij:j<=i):k%2^i=k:=by
 have p:=gI j
 have m:=mw hij
 have:k<2^j:=by
  by_cases c:k<2^j
  ·exact c
  ·have:=Int.le_ediv_of_mul_le p (show 1*2^j<=k by omega)
   omega
 exact Xq h0 (by omega)
theorem ki {H:Hp}:∀{es:List V},(∀v∈es,En H v)->∃ts:List Addr,es=ts.map V.ref
 | [],_=>⟨[],rfl⟩
 | v::es,h=>by
  obtain⟨t,_,_,rfl,_⟩:=h v Vy
  obtain⟨ts,rfl⟩:=ki fun v hv=>h v (Vr _ hv)
  exact⟨t::ts,rfl⟩
section
def aM {α:Type}(s:List α) (w:Nat):List (List α):=(List.range (gi s.length w).toNat).map fun i=>(s.drop (i*w)).take w
theorem uf {α:Type}(s:List α) (w:Nat):(aM s w).length =(gi s.length w).toNat:=by unfold aM;rw[Vi,WU]
theorem ni {α β:Type}(f:α->β) (s:List α) (w:Nat):(aM s w).map (List.map f)=aM (s.map f) w:=by
 unfold aM
 rw[V4,Vi]
 apply Wa
 intro i _
 show List.map f ((s.drop (i*w)).take w)=_
 rw[Xd,XQ]
theorem t8 {α:Type}(s:List α) (w:Nat):∀n:Nat,((List.range n).map fun i=>(s.drop (i*w)).take w).flatten=s.take (n*w)
 | 0=>by simp
 | n+1=>by
  rw[List.range_succ,Vo,Wo,t8 s w n,Nat.succ_mul,List.take_add]
  simp
theorem cC {α:Type}(s:List α) {w:Nat}(h:1<=w):(aM s w).flatten=s:=by
 unfold aM
 rw[t8]
 obtain⟨g1,g2,_⟩:=qL (g:=gi s.length w) (w:=w) (m:=s.length) (by omega) (by omega) rfl
 apply V8
 have e:(((gi s.length w).toNat*w:Nat):Int)=w*gi s.length w:=by
  rw[Int.natCast_mul,Int.mul_comm]
  congr 1
  omega
 omega
theorem Af {m w:Nat}{i:Nat}(h1:1<=w) (h2:m <=(i+1)*w) (h3:i=0\/i*w<m):(gi m w).toNat=i+1:=by
 obtain⟨g1,g2,g3⟩:=qL (g:=gi m w) (w:=w) (m:=m) (by omega) (by omega) rfl
 obtain⟨g,hg⟩ : ∃g:Nat,gi m w =(g:Int):=⟨(gi m w).toNat,by omega⟩
 rw[hg]at g1 g2 g3 ⊢
 rw[Wx]
 have g2':m<=w*g:=by exact_mod_cast g2
 by_cases c:i+1<g
 ·exfalso
  have:(i+1)*w<=w*(g-1):=by rw[Nat.mul_comm w];exact Nat.mul_le_mul_right _ (by omega)
  rcases g3 with g3|g3
  ·omega
  ·have e:(w:Int)*((g:Int)-1) =((w*(g-1):Nat):Int):=by
    rw[Int.natCast_mul];congr 1;omega
   omega
 ·by_cases d:g<i+1
  ·exfalso
   have:w*g<=i*w:=by rw[Nat.mul_comm i];exact Nat.mul_le_mul_left _ (by omega)
   omega
  ·omega
variable {τ:Type}
def dG (w R:Nat) (es:List (Int×τ)) (P:List (List (List (Int×τ)))):Prop :=
 P.length=R/\∀(r:Nat) (rows:List (List (Int×τ))),P[r]? = some rows->∃s,s.Perm (es.filter fun e=>decide (aE e.1 R =(r:Int)))/\s.Pairwise (fun a b=>a.1<=b.1)/\rows=aM s w
def eE (P:List (List (List (Int×τ)))):List (Int×τ):=(P.map List.flatten).flatten
theorem GB {s:List (Int×τ)}(h:(s.map (·.1)).Nodup) {a b:Int×τ}(ha:a∈s) (hb:b∈s) (e:a.1=b.1):a=b:=by
 induction s with
 | nil=>cases ha
 | cons x s ih =>
  rw[VY,V6]at h
  rcases VW.mp ha with h1|h1
  ·rcases VW.mp hb with h2|h2
   ·rw[h1,h2]
   ·exact absurd (Vq.mpr ⟨b,h2,by rw[<- e,h1]⟩) h.1
  ·rcases VW.mp hb with h2|h2
   ·exact absurd (Vq.mpr ⟨a,h1,by rw[e,h2]⟩) h.1
   ·exact ih h.2 h1 h2
theorem DS {s s' l:List (Int×τ)}(hl:(l.map (·.1)).Nodup) (p:s.Perm l) (p':s'.Perm l) (h:s.Pairwise (fun a b=>a.1<=b.1)) (h':s'.Pairwise (fun a b=>a.1<=b.1)):s=s' :=
 List.Perm.eq_of_pairwise (le:=fun a b:Int×τ=>a.1<=b.1) (fun a b ha hb x y=>GB hl (p.mem_iff.mp ha) (p'.mem_iff.mp hb) (by omega)) h h' (p.trans p'.symm)
theorem keys_filter {es:List (Int×τ)}(hn:(es.map (·.1)).Nodup) (f:Int×τ->Bool):((es.filter f).map (·.1)).Nodup:=hn.sublist (List.filter_sublist.map _)
theorem dG.uniq {w R:Nat}{es:List (Int×τ)}{P P':List (List (List (Int×τ)))}(hn:(es.map (·.1)).Nodup) (h:dG w R es P) (h':dG w R es P'):P=P':=by
 refine Wg fun r=>?_
 by_cases c:r<R
 ·have e1:P[r]? = some (P[r]'(by rw[h.1];exact c)):=Vn _
  have e2:P'[r]? = some (P'[r]'(by rw[h'.1];exact c)):=Vn _
  obtain⟨s,p,q,e⟩:=h.2 r _ e1
  obtain⟨s',p',q',e'⟩:=h'.2 r _ e2
  rw[e1,e2,e,e',DS (keys_filter hn _) p p' q q']
 ·rw[V7 (by rw[h.1];omega),V7 (by rw[h'.1];omega)]
theorem dG.room {w R:Nat}{es:List (Int×τ)}{P:List (List (List (Int×τ)))}(h:dG w R es P) (hw:1<=w) {r:Nat}{rows:List (List (Int×τ))}(e:P[r]? = some rows) (x:Int×τ):x∈rows.flatten↔x∈es/\aE x.1 R =(r:Int):=by
 obtain⟨s,p1,p2,p3⟩:=h.2 r rows e
 rw[p3,cC _ hw,p1.mem_iff,Wi]
 simp
theorem dG.mem {w R:Nat}{es:List (Int×τ)}{P:List (List (List (Int×τ)))}(h:dG w R es P) (hw:1<=w) (hR:1<=R) (x:Int×τ):x∈eE P↔x∈es:=by
 unfold eE
 rw[VZ]
 constructor
 ·rintro⟨l,hl,hx⟩
  obtain⟨rows,hr,rfl⟩:=Vq.mp hl
  obtain⟨r,e⟩:=VE hr
  exact((h.room hw e x).mp hx).1
 ·intro hx
  have b:=fK (k:=x.1) (R:=R) (by omega)
  obtain⟨r,hr,hl⟩ : ∃r:Nat,aE x.1 R =(r:Int)/\r<R:=⟨(aE x.1 R).toNat,by omega,by omega⟩
  have e1:P[r]? = some (P[r]'(by rw[h.1];exact hl)):=Vn _
  exact⟨_,Vq.mpr ⟨_,Vk e1,rfl⟩,(h.room hw e1 x).mpr ⟨hx,hr⟩⟩
theorem M6 {α:Type}{L:List α}{Q:α->α->Prop}(h:∀(i j:Nat) (a b:α),i<j->L[i]? = some a->L[j]? = some b->Q a b):L.Pairwise Q:=by
 rw[Xu]
 intro i j hi hj hij
 exact h i j _ _ hij (Vn hi) (Vn hj)
theorem dG.nodup {w R:Nat}{es:List (Int×τ)}{P:List (List (List (Int×τ)))}(hn:(es.map (·.1)).Nodup) (h:dG w R es P) (hw:1<=w):((eE P).map (·.1)).Nodup:=by
 unfold eE
 rw[Wq,VV,List.pairwise_flatten]
 refine⟨fun l hl=>?_,?_⟩
 ·obtain⟨rows,hr,rfl⟩:=Vq.mp hl
  obtain⟨r,e⟩:=VE hr
  obtain⟨s,p1,p2,p3⟩:=h.2 r rows e
  rw[p3,cC _ hw,<- VV (f:=fun x:Int×τ=>x.1) (R:=fun a b=>a≠b),<- Wq]
  exact(p1.map _).nodup_iff.mpr (keys_filter hn _)
 ·rw[VV]
  refine M6 fun i j a b hij ha hb x hx y hy z=>?_
  have h1:=((h.room hw ha x).mp hx).2
  have h2:=((h.room hw hb y).mp hy).2
  rw[z]at h1
  omega
theorem qg {es:List (Int×τ)}(hn:(es.map (·.1)).Nodup):es.Nodup:=by
 rw[Wq]at hn ⊢
 rw[VV]at hn
 exact hn.imp fun h e=>h (by rw[e])
theorem dG.flat {w R:Nat}{es:List (Int×τ)}{P:List (List (List (Int×τ)))}(hn:(es.map (·.1)).Nodup) (h:dG w R es P) (hw:1<=w) (hR:1<=R):(eE P).Perm es :=
 (List.perm_ext_iff_of_nodup (qg (h.nodup hn hw)) (qg hn)).mpr (h.mem hw hR)
end
theorem mz (ms:List V) (w:Nat):dw ms w=aM ms w:=rfl
theorem cI {α:Type}{s:List α}{w:Nat}{r:List α}{x:α}(hr:r∈aM s w) (hx:x∈r):x∈s:=by
 unfold aM at hr
 obtain⟨i,_,rfl⟩:=Vq.mp hr
 exact List.mem_of_mem_drop (WH hx)
def yD (H:Hp) (X:List (List (List V))):List (List (List (Int×Str))):=X.map (aL H)
theorem cX {H H':Hp}{X:List (List (List V))}(kt:∀t xs,H t=some (.tup xs)->H' t=some (.tup xs)) (h:gm H X):yD H' X=yD H X:=Wa fun rows hr=>nQ kt (h rows hr)
theorem dF {H H':Hp}{X:List (List (List V))}(s:aD H H') (h:gm H X):yD H' X=yD H X:=cX (fun _ _ e=>s _ _ e) h
theorem kg {H:Hp}{X:List (List (List V))}:eE (yD H X) =(dB X).map (eD H):=by
 unfold eE yD dB
 rw[List.map_flatten,V4,V4]
 congr 1
 apply Wa
 intro rows _
 show(aL H rows).flatten=List.map (eD H) rows.flatten
 rw[List.map_flatten];rfl
def pE (e:Int×Str):PyData:=.tuple [.int e.1,.str e.2]
def oF (r:List (Int×Str)):PyData:=.list (r.map pE)
def tK (r:List (List (Int×Str))):PyData:=.list (r.map oF)
def pX (P:List (List (List (Int×Str)))):PyData:=.list (P.map tK)
def pY (w R:Int) (P:List (List (List (Int×Str)))):PyData:=.tuple [.int w,.int R,pX P]
theorem JH (a b:Int×Str):PyData.eqv (pE a) (pE b)=decide (a=b):=by
 obtain⟨k,z⟩:=a
 obtain⟨k',z'⟩:=b
 rw[Wu]
 simp[pE,PyData.eqv,PyData.eqvAll]
theorem i6 {α:Type} [DecidableEq α] {f:α->PyData}(hf:∀a b,PyData.eqv (f a) (f b)=decide (a=b)):∀xs ys:List α,PyData.eqvAll (xs.map f) (ys.map f)=decide (xs=ys)
 | [],[]=>by simp[PyData.eqvAll]
 | [],_::_=>by simp[PyData.eqvAll]
 | _::_,[]=>by simp[PyData.eqvAll]
 | x::xs,y::ys=>by
  rw[VY,VY,PyData.eqvAll,hf,i6 hf xs ys,Wu]
  simp
theorem wF (a b:List (Int×Str)):PyData.eqv (oF a) (oF b)=decide (a=b):=by
 unfold oF;rw[PyData.eqv,i6 JH]
theorem Bg (a b:List (List (Int×Str))):PyData.eqv (tK a) (tK b)=decide (a=b):=by
 unfold tK;rw[PyData.eqv,i6 wF]
theorem Kd (a b:List (List (List (Int×Str)))):PyData.eqv (pX a) (pX b)=decide (a=b):=by
 unfold pX;rw[PyData.eqv,i6 Bg]
theorem J_ (w R w' R':Int) (a b:List (List (List (Int×Str)))):PyData.eqv (pY w R a) (pY w' R' b)=decide (w=w'/\R=R'/\a=b):=by
 unfold pY
 rw[PyData.eqv,PyData.eqvAll,PyData.eqvAll,PyData.eqvAll,PyData.eqvAll,Kd,Wu]
 simp[PyData.eqv]
theorem Nb {H:Hp}{v:V}(h:En H v):dE H v=pE (eD H v):=by
 obtain⟨t,k,z,rfl,h1,h2⟩:=h
 rw[oz h1]
 show(match H t with|some (.tup [.int k,.str z])=>PyData.tuple [.int k,.str z] | _=>.none)=_
 rw[h1];rfl
theorem j5 {H:Hp}{es:List V}(h:∀v∈es,En H v):BH H es=oF (aI H es):=by
 unfold BH oF aI
 rw[V4]
 congr 1
 exact Wa fun v hv=>Nb (h v hv)
theorem vU {H:Hp}{rows:List (List V)}(h:∀es∈rows,∀v∈es,En H v):Cm H rows=tK (aL H rows):=by
 unfold Cm tK aL
 rw[V4]
 congr 1
 exact Wa fun v hv=>j5 (h v hv)
theorem M4 {H:Hp}{X:List (List (List V))}(h:gm H X):dX H X=pX (yD H X):=by
 unfold dX pX yD
 rw[V4]
 congr 1
 exact Wa fun v hv=>vU (h v hv)
def EL (H:Hp) (ts:List Addr) (es:List (Int×Str)):Prop:=P1 (fun t e=>H t=some (.tup [.int e.1,.str e.2])/\PyData.strOk e.2=true/\0<=e.1/\e.1<1152921504606846976/\e.2.length<=100) ts es
theorem EL.same {H H':Hp}{ts:List Addr}{es:List (Int×Str)}(s:aD H H') (h:EL H ts es):EL H' ts es:=h.imp fun t e z=>⟨s _ _ z.1,z.2⟩
theorem EL.keep {H H':Hp}{ts:List Addr}{es:List (Int×Str)}(kt:∀t xs,H t=some (.tup xs)->H' t=some (.tup xs)) (h:EL H ts es):EL H' ts es:=h.imp fun t e z=>⟨kt _ _ z.1,z.2⟩
theorem EL.en {H:Hp}{ts:List Addr}{es:List (Int×Str)}(h:EL H ts es):∀v∈ts.map V.ref,En H v:=fun v hv=>by
 obtain⟨t,ht,rfl⟩:=Vq.mp hv
 obtain⟨i,hi⟩:=VE ht
 obtain⟨e,_,h1,h2⟩:=h.get hi
 exact⟨t,e.1,e.2,rfl,h1,h2⟩
theorem EL.row {H:Hp}{ts:List Addr}{es:List (Int×Str)}(h:EL H ts es):aI H (ts.map V.ref)=es:=by
 refine Wg fun i=>?_
 unfold aI
 rw[Vp,Vp]
 cases c:ts[i]? with
 | none =>
  have:=Xv.mp c
  rw[V7 (by rw[<- h.1];exact this)];rfl
 | some t =>
  obtain⟨e,he,h1,_⟩:=h.get c
  rw[he]
  show some (eD H (.ref t))=some e
  rw[oz h1]
theorem EL.of {H:Hp}{vs:List V}(h:∀v∈vs,En H v):∃ts:List Addr,vs=ts.map V.ref/\EL H ts (aI H vs):=by
 obtain⟨ts,rfl⟩:=ki h
 refine⟨ts,rfl,by unfold aI;rw[Vi,Vi],fun i t e e1 e2=>?_⟩
 unfold aI at e2
 rw[Vp,Vp,e1]at e2
 have e3:eD H (.ref t)=e:=VC e2
 obtain⟨t',et,h1,h2⟩:=(h (.ref t) (Vq.mpr ⟨t,Vk e1,rfl⟩)).pt
 cases et
 rw[<- e3]
 exact⟨h1,h2⟩
theorem En.rows {H:Hp}{X:List (List (List V))}(h:gm H X):∀v∈dB X,En H v:=fun v hv=>by
 unfold dB at hv
 obtain⟨l,hl,hv⟩:=VZ.mp hv
 obtain⟨rows,hr,rfl⟩:=Vq.mp hl
 obtain⟨es,he,hv⟩:=VZ.mp hv
 exact h rows hr es he v hv
theorem R3.rms {S:Addr->Prop}{H:Hp}{h:Addr}{X:List (List (List V))}(r:R3 S H h X):TV H h X:=by
 obtain⟨bs,h1,h2,h3⟩:=r
 refine⟨bs,h1,h2,fun i a rows e1 e2=>?_⟩
 obtain⟨_,as,h4,h5,h6⟩:=h3 i a rows e1 e2
 exact⟨as,h4,h5,fun j a es e1 e2=>(h6 j a es e1 e2).2⟩
theorem tT {α β:Type}:∀{as:List α}{p:Nat->α->β->Prop},(∀i a,as[i]? = some a->∃x,p i a x)->∃xs:List β,xs.length=as.length/\∀i a x,as[i]? = some a->xs[i]? = some x->p i a x
 | [],p,_=>⟨[],rfl,fun i a x e=>by simp at e⟩
 | a::as,p,h=>by
  obtain⟨x,hx⟩:=h 0 a rfl
  obtain⟨xs,hl,hxs⟩:=tT (as:=as) (p:=fun i=>p (i+1)) fun i b e=>h (i+1) b (by simpa using e)
  refine⟨x::xs,by rw[Wk,Wk,hl],fun i b y e1 e2=>?_⟩
  cases i with
  | zero=>cases e1;cases e2;exact hx
  | succ i=>exact hxs i b y (by simpa using e1) (by simpa using e2)
def K4:V->Str
 | .str z=>z
 | _=>⟨#[]⟩
def vE (e:Int×Str):Int×V:=(e.1,.str e.2)
def uE (e:Int×V):Int×Str:=(e.1,K4 e.2)
def Ep (es:List (Int×Str)):List (Int×Str):=(bR [] (es.map vE)).map uE
theorem C8 {p:V->Prop}{qs:List (Int×V)}{k:Int}{v:V}(h:∀e∈qs,p e.2) (hv:p v):∀e∈jn qs k v,p e.2:=fun e he=>by
 unfold jn at he
 split at he
 ·obtain⟨x,hx,rfl⟩:=Vq.mp he
  split
  ·exact hv
  ·exact h x hx
 ·rcases VH.mp he with z|z
  ·exact h e z
  ·rw[VM.mp z];exact hv
theorem pJ {p:V->Prop}:∀{ps qs:List (Int×V)},(∀e∈qs,p e.2)->(∀e∈ps,p e.2)->∀e∈bR qs ps,p e.2
 | [],qs,h,_=>h
 | x::ps,qs,h,g=>by
  show ∀e∈bR (jn qs x.1 x.2) ps,p e.2
  exact pJ (C8 h (g x Vy)) fun e he=>g e (Vr _ he)
theorem Ce {qs:List (Int×V)}{k:Int}{v:V}:(jn qs k v).length<=qs.length+1:=by
 unfold jn
 split
 ·rw[Vi];omega
 ·rw[Vm];exact Vt _
theorem qp:∀{ps qs:List (Int×V)},(bR qs ps).length<=qs.length+ps.length
 | [],qs=>Vt _
 | x::ps,qs=>by
  show(bR (jn qs x.1 x.2) ps).length<=_
  have h1:=qp (ps:=ps) (qs:=jn qs x.1 x.2)
  have h2:=Ce (qs:=qs) (k:=x.1) (v:=x.2)
  rw[Wk];omega
theorem w_ {es:List (Int×Str)}:(Ep es).map (·.1) =(bR [] (es.map vE)).map (·.1):=by
 unfold Ep;rw[V4];rfl
theorem BV {es:List (Int×Str)}:((Ep es).map (·.1)).Nodup:=by rw[w_];exact jh (by simp)
theorem m_ {es:List (Int×Str)}(h:(es.map (·.1)).Nodup):Ep es=es:=by
 unfold Ep
 rw[tF (by rw[List.nil_append,V4];exact h),List.nil_append,V4]
 have:(uE ∘ vE)=id:=rfl
 rw[this,List.map_id]
theorem Gv {es:List (Int×Str)}:(Ep es).length<=es.length:=by
 unfold Ep
 rw[Vi]
 have:=qp (ps:=es.map vE) (qs:=[])
 rw[Vi]at this
 simpa using this
theorem uX:∀{qs:List (Int×V)}{e:Int×V},(qs.map (·.1)).Nodup->e∈qs->gV qs e.1=e.2
 | [],e,_,h=>by cases h
 | x::qs,e,hn,h=>by
  rw[VY,V6]at hn
  unfold gV
  by_cases c:x.1=e.1
  ·rw[List.find?_cons_of_pos (by simpa using c)]
   rcases VW.mp h with z|z
   ·rw[z];rfl
   ·exact absurd (Vq.mpr ⟨e,z,c.symm⟩) hn.1
  ·rw[List.find?_cons_of_neg (by simpa using c)]
   rcases VW.mp h with z|z
   ·exact absurd (by rw[z]) c
   ·exact uX hn.2 z
def rowOf (H:Hp) (a:Addr):List V:=match H a with
 | some (.lst es)=>es
 | _=>[]
theorem jr {H:Hp}{a:Addr}{es:List V}(h:H a=some (.lst es)):rowOf H a=es:=by unfold rowOf;rw[h]
def XA (H:Hp) (ass:List (List Addr)):List (List (List V)):=ass.map fun as=>as.map (rowOf H)
structure Sy (S:Addr->Prop) (H:Hp) (h:Addr) (bs:List Addr) (ass:List (List Addr)):Prop where
 hh:H h=some (.lst (bs.map V.ref))
 hb:P1 (fun b (as:List Addr)=>H b=some (.lst (as.map V.ref))) bs ass
 ha:∀a∈ass.flatten,∃es,H a=some (.lst es)
 nd:(h::(bs++ass.flatten)).Nodup
 ns:∀b∈h::(bs++ass.flatten),S b
theorem Sy.r3 {S:Addr->Prop}{H:Hp}{h:Addr}{bs:List Addr}{ass:List (List Addr)}(y:Sy S H h bs ass):R3 (fun _=>True) H h (XA H ass):=by
 refine⟨bs,y.hh,by unfold XA;rw[Vi];exact y.hb.1,fun i b rows e1 e2=>?_⟩
 unfold XA at e2
 rw[Vp]at e2
 obtain⟨as,ha,hb⟩:=y.hb.get e1
 rw[ha]at e2
 have e3:as.map (rowOf H)=rows:=VC e2
 refine⟨trivial,as,hb,by rw[<- e3,Vi],fun j a es f1 f2=>⟨trivial,?_⟩⟩
 rw[<- e3,Vp,f1]at f2
 have f3:rowOf H a=es:=VC f2
 obtain⟨es',he⟩:=y.ha a (VZ.mpr ⟨as,Vk ha,Vk f1⟩)
 rw[jr he]at f3
 rw[he,f3]
theorem vh {H:Hp}{ass:List (List Addr)}:(XA H ass).length=ass.length:=by unfold XA;rw[Vi]
theorem Sy.weak {S S':Addr->Prop}{H:Hp}{h:Addr}{bs:List Addr}{ass:List (List Addr)}(k:∀b,S b->S' b) (y:Sy S H h bs ass):Sy S' H h bs ass:=⟨y.hh,y.hb,y.ha,y.nd,fun b hb=>k b (y.ns b hb)⟩
theorem pG:∀{rs:List Addr}{bss:List (List Addr)},rs.length=bss.length->(Eo rs bss).Perm (rs++bss.flatten)
 | [],[],_=>by simp[Eo]
 | r::rs,bs::bss,h=>by
  have ih:=pG (rs:=rs) (bss:=bss) (by simpa using h)
  show(r::bs++Eo rs bss).Perm (r::(rs++(bs++bss.flatten)))
  rw[List.cons_append]
  refine List.Perm.cons r ?_
  refine(ih.append_left bs).trans ?_
  rw[<- VU,<- VU]
  exact List.perm_append_comm.append_right _
theorem mD {H0 H:Hp}{es:List (Int×Str)}{ms:List Int}{w R:Nat}{h:Addr}(ok:∀e∈es,PyData.strOk e.2=true/\0<=e.1/\e.1<1152921504606846976/\e.2.length<=100) (hl:es.length<=190) (w1:1<=w) (r1:1<=R) (r2:R<=131)
  (mp:ms.Perm ((bR [] (es.map vE)).map (·.1))) (mo:ms.Pairwise (· <= ·)) (hy:Ho H0 H (gV (bR [] (es.map vE))) w h (bU ms R)) :
  ∃(rs:List Addr) (bss:List (List Addr)),Sy (fun b=>H0 b=none) H h rs bss/\gm H (XA H bss)/\QH (XA H bss)/\dG w R (Ep es) (yD H (XA H bss)):=by
 obtain⟨rs,bss,h1,h2,h3,h4,h5,h6⟩:=hy
 rw[cz]at h2 h3
 have mn:((bR [] (es.map vE)).map (·.1)).Nodup:=jh (by simp)
 have mv:∀e∈bR [] (es.map vE),∃z,e.2=V.str z/\PyData.strOk z=true/\z.length<=100:=pJ (p:=fun v=>∃z,v=V.str z/\PyData.strOk z=true/\z.length<=100) (fun e he=>by cases he) fun e he=>by
  obtain⟨x,hx,rfl⟩:=Vq.mp he
  exact⟨x.2,rfl,(ok x hx).1,(ok x hx).2.2.2⟩
 have mk:∀k∈(bR [] (es.map vE)).map (·.1),0<=k/\k<1152921504606846976:=fun k hk=>by
  rcases qk.mp hk with z|z
  ·cases z
  ·rw[V4]at z
   obtain⟨x,hx,rfl⟩:=Vq.mp z
   exact⟨(ok x hx).2.1,(ok x hx).2.2.1⟩
 have ml:(Ep es).length<=es.length:=Gv
 have mel:Ep es =(bR [] (es.map vE)).map uE:=rfl
 have mk2:=w_ (es:=es)
 rw[mel]at ml mk2 ⊢
 generalize bR [] (es.map vE)=m at *
 have sl:∀j,j<R->(bU ms R)[j]? = some (ms.filter fun k=>decide (aE k R =(j:Int))):=fun j hj=>fj hj
 obtain⟨tss,tl,hts⟩:=tT (as:=rs) (p:=fun j r (ts:List Addr)=>∀bs,bss[j]? = some bs->ts.length =(ms.filter fun k=>decide (aE k R =(j:Int))).length/\(∀(i:Nat) (t:Addr) (k:Int),ts[i]? = some t->(ms.filter fun k=>decide (aE k R =(j:Int)))[i]? = some k->H t=some (.tup [.int k,gV m k]))/\H r=some (.lst (bs.map V.ref))/\bs.length =(dw (ts.map V.ref) w).length/\∀(i:Nat) (a:Addr) (es:List V),bs[i]? = some a->(dw (ts.map V.ref) w)[i]? = some es->H a=some (.lst es)) fun j r hr=>by
  have jl:=(Vj.mp hr).1
  have hb:bss[j]? = some (bss[j]'(by omega)):=Vn _
  obtain⟨ts,g1,g2,g3,g4,g5⟩:=h4 j r _ _ hr hb (sl j (by omega))
  refine⟨ts,fun bs e=>?_⟩
  rw[hb]at e
  cases e
  exact⟨g1,g2,g3,g4,g5⟩
 have key:∀(j:Nat) (ts:List Addr),tss[j]? = some ts->j<R/\∃r bs,rs[j]? = some r/\bss[j]? = some bs:=fun j ts e=>by
  have jl:=(Vj.mp e).1
  exact⟨by omega,_,_,Vn (by omega),Vn (by omega)⟩
 have val:∀(j:Nat) (ts:List Addr),tss[j]? = some ts->EL H ts ((ms.filter fun k=>decide (aE k R =(j:Int))).map fun k=>(k,K4 (gV m k))):=fun j ts e=>by
  obtain⟨jl,r,bs,er,eb⟩:=key j ts e
  obtain⟨g1,g2,_⟩:=hts j r ts er e bs eb
  refine⟨by rw[Vi];exact g1,fun i t x e1 e2=>?_⟩
  rw[Vp]at e2
  cases c:(ms.filter fun k=>decide (aE k R =(j:Int)))[i]? with
  | none=>rw[c]at e2;cases e2
  | some k =>
   rw[c]at e2
   have e3:(k,K4 (gV m k))=x:=VC e2
   subst e3
   have km:k∈m.map (·.1):=mp.mem_iff.mp (Wi.mp (Vk c)).1
   obtain⟨e,he,hek⟩:=Vq.mp km
   have hv:=uX mn he
   obtain⟨z,hz,hzo,hzl⟩:=mv e he
   have hv2:gV m k=V.str z:=by rw[<- hek,hv,hz]
   have:=g2 i t k e1 c
   rw[hv2]at this ⊢
   exact⟨this,hzo,(mk k km).1,(mk k km).2,hzl⟩
 have hX:XA H bss=tss.map fun ts=>aM (ts.map V.ref) w:=by
  refine Wg fun j=>?_
  unfold XA
  rw[Vp,Vp]
  cases c:tss[j]? with
  | none=>rw[V7 (by have:=Xv.mp c;omega)];rfl
  | some ts =>
   obtain⟨jl,r,bs,er,eb⟩:=key j ts c
   obtain⟨_,_,_,g4,g5⟩:=hts j r ts er c bs eb
   rw[eb]
   show some (bs.map (rowOf H))=some (dw (ts.map V.ref) w)
   congr 1
   refine Wg fun i=>?_
   rw[Vp]
   cases d:bs[i]? with
   | none=>rw[V7 (by have:=Xv.mp d;omega)];rfl
   | some a =>
    have il:=(Vj.mp d).1
    have e2:(dw (ts.map V.ref) w)[i]? = some ((dw (ts.map V.ref) w)[i]'(by omega)):=Vn _
    rw[e2]
    show some (rowOf H a)=_
    rw[jr (g5 i a _ d e2)]
 have hcl:dG w R (m.map uE) (yD H (XA H bss)):=by
  refine⟨by unfold yD;rw[Vi,vh,h3],fun j rows e=>?_⟩
  rw[hX]at e
  unfold yD at e
  rw[Vp,Vp]at e
  cases c:tss[j]? with
  | none=>rw[c]at e;cases e
  | some ts =>
   rw[c]at e
   have e2:aL H (aM (ts.map V.ref) w)=rows:=VC e
   have vr:=(val j ts c).row
   refine⟨(ms.filter fun k=>decide (aE k R =(j:Int))).map fun k=>(k,K4 (gV m k)),?_,?_,?_⟩
   ·rw[XC]
    have p1:(ms.filter fun k=>decide (aE k R =(j:Int))).Perm ((m.map (·.1)).filter fun k=>decide (aE k R =(j:Int))):=mp.filter _
    rw[XC]at p1
    refine(p1.map _).trans ?_
    rw[V4]
    have:((m.filter ((fun k=>decide (aE k R =(j:Int))) ∘ fun x=>x.1)).map ((fun k=>(k,K4 (gV m k))) ∘ fun x=>x.1)) =(m.filter ((fun e:Int×Str=>decide (aE e.1 R =(j:Int))) ∘ uE)).map uE:=by
     have ef:((fun k=>decide (aE k R =(j:Int))) ∘ fun x:Int×V=>x.1) =((fun e:Int×Str=>decide (aE e.1 R =(j:Int))) ∘ uE):=rfl
     rw[ef]
     apply Wa
     intro x hx
     show(x.1,K4 (gV m x.1)) =(x.1,K4 x.2)
     rw[uX mn (Wi.mp hx).1]
    rw[this]
   ·rw[VV]
    exact mo.filter _
   ·rw[<- e2]
    unfold aL
    rw[show aI H=List.map (eD H) from rfl,ni]
    congr 1
 have hen:gm H (XA H bss):=by
  rw[hX]
  intro rows hr es' he v hv
  obtain⟨ts,ht,rfl⟩:=Vq.mp hr
  obtain⟨j,hj⟩:=VE ht
  exact(val j ts hj).en v (cI he hv)
 refine⟨rs,bss,⟨h1,⟨by omega,fun j r bs e1 e2=>?_⟩,fun a ha=>?_,?_,fun b hb=>h6 b ?_⟩,hen,⟨by rw[vh];omega,fun rows hr=>?_,?_⟩,hcl⟩
 ·have e3:tss[j]? = some (tss[j]'(by have:=(Vj.mp e1).1;omega)):=Vn _
  exact(hts j r _ e1 e3 bs e2).2.2.1
 ·obtain⟨bs,hb,ha⟩:=VZ.mp ha
  obtain⟨j,ej⟩:=VE hb
  have jl:=(Vj.mp ej).1
  have e3:tss[j]? = some (tss[j]'(by omega)):=Vn _
  have e4:rs[j]? = some (rs[j]'(by omega)):=Vn _
  obtain⟨_,_,_,g4,g5⟩:=hts j _ _ e4 e3 bs ej
  obtain⟨i,hi⟩:=VE ha
  have il:=(Vj.mp hi).1
  exact⟨_,g5 i a _ hi (Vn (by omega))⟩
 ·exact(List.Perm.cons h (pG (by omega))).nodup_iff.mp h5
 ·exact(List.Perm.cons h (pG (by omega))).mem_iff.mpr hb
 ·rw[hX]at hr
  obtain⟨ts,ht,rfl⟩:=Vq.mp hr
  obtain⟨j,hj⟩:=VE ht
  have tl:=(val j ts hj).1
  rw[Vi]at tl
  have l1:=VL (fun k=>decide (aE k R =(j:Int))) ms
  have l2:=mp.length_eq
  rw[Vi]at l2 ml
  rw[uf,Vi]
  obtain⟨g1,g2,g3⟩:=qL (g:=gi ts.length w) (w:=w) (m:=ts.length) (by omega) (by omega) rfl
  rcases g3 with z|z
  ·omega
  ·by_cases q:gi ts.length w<=200
   ·omega
   ·have:(1:Int)*(gi ts.length w-1)<=w*(gi ts.length w-1):=Xh (by omega) (by omega)
    omega
 ·have hf:=(hcl.flat (by rw[mk2];exact mn) w1 r1).length_eq
  rw[kg,Vi,Vi]at hf
  rw[Vi]at ml
  omega
def D5 (w R:Nat) (P:List (List (List (Int×Str)))):Prop:=((eE P).map (·.1)).Nodup/\dG w R (eE P) P
def nN (K:W.Frag):Sp:=fun vs H Q _=>∃(w:Nat) (a:Addr) (ts:List Addr) (es:List (Int×Str)),vs=[.int w,.ref a]/\H a=some (.lst (ts.map V.ref))/\EL H ts es/\(es.map (·.1)).Nodup/\es.length<=63/\1<=w/\w<=8 /\
 ∀(l:Addr) (us:List Addr) (H':Hp),H l=none->us.Perm ts->((aI H (us.map V.ref)).Pairwise fun a b=>a.1<=b.1)->Cv H H' l (dw (us.map V.ref) w)->aD H H'->Q (.ref l) H'
def kO (K:W.Frag):Sp:=fun vs H Q _=>∃(w R:Nat) (a:Addr) (ts:List Addr) (es:List (Int×Str)),vs=[.int w,.int R,.ref a]/\H a=some (.lst (ts.map V.ref))/\EL H ts es/\(es.map (·.1)).Nodup/\es.length<=63/\1<=w/\w<=8/\1<=R/\R<=131 /\
 ∀(y:Addr) (X:List (List (List V))) (H':Hp),Yq H' y w R X->dG w R es (yD H' X)->aD H H'->Q (.ref y) H'
theorem EL.ok {H:Hp}{ts:List Addr}{es:List (Int×Str)}(h:EL H ts es):∀e∈es,PyData.strOk e.2=true/\0<=e.1/\e.1<1152921504606846976/\e.2.length<=100:=fun e he=>by
 obtain⟨i,hi⟩:=VE he
 obtain⟨t,_,_,h2⟩:=h.at' hi
 exact h2
theorem EL.yd {H:Hp}{ts:List Addr}{es:List (Int×Str)}(h:EL H ts es):∀(i:Nat) (t:Addr) (p:Int×V),ts[i]? = some t->(es.map vE)[i]? = some p->H t=some (.tup [.int p.1,p.2]):=fun i t p e1 e2=>by
 rw[Vp]at e2
 obtain⟨e,he,h1,_⟩:=h.get e1
 rw[he]at e2
 cases e2
 exact h1
theorem dR {α:Type}{s:List α}{w:Nat}(w1:1<=w):(aM s w).length<=s.length+1:=by
 rw[uf]
 obtain⟨g1,g2,g3⟩:=qL (g:=gi s.length w) (w:=w) (m:=s.length) (by omega) (by omega) rfl
 rcases g3 with z|z
 ·omega
 ·by_cases q:gi s.length w<=s.length+1
  ·omega
  ·have:(1:Int)*(gi s.length w-1)<=w*(gi s.length w-1):=Xh (by omega) (by omega)
   omega
theorem FG {α β:Type}{p:Nat->α->β->Prop}{as:List α}{bs:List β}{a:α}{b:β}{i:Nat}(hl:as.length=i) (hl2:bs.length=i) (h:∀j a b,as[j]? = some a->bs[j]? = some b->p j a b) (hd:p i a b):∀j a' b',(as ++ [a])[j]? = some a'->(bs ++ [b])[j]? = some b'->p j a' b':=by
 intro j a' b' e1 e2
 by_cases z:j<as.length
 ·rw[Vx z]at e1
  rw[Vx (by omega)]at e2
  exact h j a' b' e1 e2
 ·have kl:=(Vj.mp e1).1
  rw[Vm]at kl
  have hk:j=i:=by have:[a].length=1:=rfl;omega
  subst hk
  rw[Vs (by omega),show j-as.length=0 by omega]at e1
  rw[Vs (by omega),show j-bs.length=0 by omega]at e2
  cases e1;cases e2
  exact hd
theorem Cv.rws {H0 H:Hp}{l:Addr}{X:List (List V)}(h:Cv H0 H l X):q_ H l X:=by
 obtain⟨as,h1,h2,h3,_⟩:=h
 exact⟨as,h1,h2,h3⟩
theorem q_.r2 {H:Hp}{l:Addr}{X:List (List V)}(h:q_ H l X):R2 (fun _=>True) H l X:=by
 obtain⟨as,h1,h2,h3⟩:=h
 exact⟨trivial,as,h1,h2,fun i a es e1 e2=>⟨trivial,h3 i a es e1 e2⟩⟩
theorem Cr {H:Hp}{ts:List Addr}{es:List (Int×Str)}{w R:Nat}{h:Addr}{ls:List Addr}{uss:List (List Addr)}(el:EL H ts es) (nd:(es.map (·.1)).Nodup) (hl:es.length<=63) (w1:1<=w) (r1:1<=R) (r2:R<=131)
  (hh:H h=some (.lst (ls.map V.ref))) (l1:ls.length=R) (l2:uss.length=R)
  (hu:∀(j:Nat) (l:Addr) (us:List Addr),ls[j]? = some l->uss[j]? = some us->us.Perm (ts.filter fun t=>decide (aE (kE H t) R =(j:Int)))/\((aI H (us.map V.ref)).Pairwise fun a b=>a.1<=b.1)/\q_ H l (dw (us.map V.ref) w)) :
  ∃X,R3 (fun _=>True) H h X/\gm H X/\QH X/\dG w R es (yD H X):=by
 have er:=el.row
 have hen:gm H (uss.map fun us=>aM (us.map V.ref) w):=by
  intro rows hr es' he v hv
  obtain⟨us,hm,rfl⟩:=Vq.mp hr
  obtain⟨j,hj⟩:=VE hm
  have jl:=(Vj.mp hj).1
  obtain⟨p1,_,_⟩:=hu j _ us (Vn (by omega)) hj
  obtain⟨t,ht,rfl⟩:=Vq.mp (cI he hv)
  exact el.en _ (Vq.mpr ⟨t,(Wi.mp (p1.mem_iff.mp ht)).1,rfl⟩)
 have hcl:dG w R es (yD H (uss.map fun us=>aM (us.map V.ref) w)):=by
  refine⟨by unfold yD;rw[Vi,Vi,l2],fun j rows e=>?_⟩
  unfold yD at e
  rw[Vp,Vp]at e
  cases c:uss[j]? with
  | none=>rw[c]at e;cases e
  | some us =>
   rw[c]at e
   have e2:aL H (aM (us.map V.ref) w)=rows:=VC e
   have jl:=(Vj.mp c).1
   obtain⟨p1,p2,_⟩:=hu j _ us (Vn (by omega)) c
   refine⟨aI H (us.map V.ref),?_,p2,?_⟩
   ·have p3:=(p1.map V.ref).map (eD H)
    refine p3.trans ?_
    rw[<- er]
    unfold aI
    rw[V4,V4,XC]
    exact .refl _
   ·rw[<- e2]
    unfold aL
    rw[show aI H=List.map (eD H) from rfl,ni]
 refine⟨_,⟨ls,hh,by rw[Vi];omega,fun j l rows e1 e2=>?_⟩,hen,⟨by rw[Vi];omega,fun rows hr=>?_,?_⟩,hcl⟩
 ·rw[Vp]at e2
  cases c:uss[j]? with
  | none=>rw[c]at e2;cases e2
  | some us =>
   rw[c]at e2
   cases e2
   exact(hu j l us e1 c).2.2.r2
 ·obtain⟨us,hm,rfl⟩:=Vq.mp hr
  obtain⟨j,hj⟩:=VE hm
  have jl:=(Vj.mp hj).1
  obtain⟨p1,_,_⟩:=hu j _ us (Vn (by omega)) hj
  have h1:=dR (s:=us.map V.ref) w1
  have h2:=VL (fun t=>decide (aE (kE H t) R =(j:Int))) ts
  rw[Vi,p1.length_eq]at h1
  have:=el.1
  omega
 ·have hf:=(hcl.flat nd w1 r1).length_eq
  rw[kg,Vi]at hf
  omega
def mL (H:Hp) (os:List (List V)) (es:List V) (i:Nat):Bool:=match os[i]? with
 | none=>true
 | some o=>!decide (aI H o=aI H es)
def unl (H:Hp) (r:Nat) (os ns:List (List V)):Nat->List cu
 | 0=>[]
 | k+1=>unl H r os ns k++(match ns[k]? with
  | some es=>if mL H os es k=true then [.row r k es] else []
  | none=>[])
theorem AQ {H:Hp}{r:Nat}{os ns:List (List V)}{k:Nat}{es:List V}(h:ns[k]? = some es) (c:mL H os es k=true):unl H r os ns (k+1)=unl H r os ns k ++ [.row r k es]:=by
 show unl H r os ns k++(match ns[k]? with|some es=>if mL H os es k=true then [cu.row r k es] else [] | none=>[])=_
 rw[h]
 show unl H r os ns k++(if mL H os es k=true then [cu.row r k es] else [])=_
 rw[VB c]
theorem Dy {H:Hp}{r:Nat}{os ns:List (List V)}{k:Nat}{es:List V}(h:ns[k]? = some es) (c:mL H os es k=false):unl H r os ns (k+1)=unl H r os ns k:=by
 show unl H r os ns k++(match ns[k]? with|some es=>if mL H os es k=true then [cu.row r k es] else [] | none=>[])=_
 rw[h]
 show unl H r os ns k++(if mL H os es k=true then [cu.row r k es] else [])=_
 rw[VF (by rw[c];exact nofun),V5]
def cQ (H:Hp) (X:List (List V)):Prop:=X.length<=130/\∀es∈X,es.length<=8/\∀v∈es,En H v
theorem cQ.same {H H':Hp}{X:List (List V)}(s:aD H H') (h:cQ H X):cQ H' X:=⟨h.1,fun es he=>⟨(h.2 es he).1,fun v hv=>((h.2 es he).2 v hv).keep fun _ _ e=>s _ _ e⟩⟩
theorem zB {K:W.Frag}{H:Hp}{a:Addr}{es:List V}(h:H a=some (.lst es)) (en:∀v∈es,En H v):GD K H 2 (.ref a) (oF (aI H es)):=by
 rw[<- j5 en]
 exact GD.lst h (qF en)
def Hw (H:Hp) (b D D0:Addr):Prop:=D0=D \/((∃xs,H D0=some (.lst xs))/\∀bs:List Addr,H b=some (.lst (bs.map V.ref))->D0∉bs)
def GY (H H':Hp) (b D:Addr) (ss:List Addr) (sts:List cu):Prop:=∀D0,Hw H b D D0->P1 (gE (hid D0 (hid D H'))) ss sts
theorem GK {D:Addr}{H:Hp}:hid D (hid D H)=hid D H:=by
 funext b
 unfold hid
 split <;> rfl
theorem GY.plain {H H':Hp}{b D:Addr}{ss:List Addr}{sts:List cu}(h:GY H H' b D ss sts):P1 (gE (hid D H')) ss sts:=by
 have:=h D (.inl rfl)
 rw[GK]at this;exact this
theorem kq {D D0 x:Addr}{H:Hp}(n:x≠D) (n0:x≠D0):hid D0 (hid D H) x=H x:=by rw[cH n0,cH n]
theorem Hw.new {H H3:Hp}{b D D0 x:Addr}(ok:Hw H b D D0) (s:aD H H3) (n:H3 x=none) (nD:x≠D):x≠D0:=fun z=>by
 rcases ok with e|⟨⟨xs,e⟩,_⟩
 ·exact nD (z.trans e)
 ·rw[z,s _ _ e]at n;cases n
theorem Hw.tup {H:Hp}{b D D0 x:Addr}{xs:List V}(ok:Hw H b D D0) (h:H x=some (.tup xs)) (nD:x≠D):x≠D0:=fun z=>by
 rcases ok with e|⟨⟨xs,e⟩,_⟩
 ·exact nD (z.trans e)
 ·rw[z,e]at h;cases h
theorem Hw.row {H:Hp}{b D D0 x:Addr}{bs:List Addr}(ok:Hw H b D D0) (hb:H b=some (.lst (bs.map V.ref))) (m:x∈bs) (nD:x≠D):x≠D0:=fun z=>by
 rcases ok with e|⟨_,e⟩
 ·exact nD (z.trans e)
 ·exact e bs hb (z ▸ m)
def m5 (H:Hp) (s:Addr):Option Addr:=match H s with
 | some (.tup [.str _,.int _,.int _,.ref l])=>some l
 | _=>none
def bB (H:Hp) (ss:List Addr):List Addr:=ss.filterMap (m5 H)
theorem mK {H:Hp}{s l:Addr}{a:Str}{i j:Int}(h:H s=some (.tup [.str a,.int i,.int j,.ref l])):m5 H s=some l:=by unfold m5;rw[h]
theorem BO {H H':Hp}{s:Addr}{xs:List V}(h:H s=some (.tup xs)) (h':H' s=some (.tup xs)):m5 H' s=m5 H s:=by unfold m5;rw[h,h']
theorem FY {H:Hp}{s:Addr}{st:cu}(h:gE H s st):∃xs,H s=some (.tup xs):=by
 cases st with
 | rooms n=>exact⟨_,h.1⟩
 | cut r m=>exact⟨_,h.1⟩
 | row r a es=>obtain⟨l,h1,_⟩:=h;exact⟨_,h1⟩
theorem cB {H:Hp}{ss:List Addr}{sts:List cu}(h:P1 (gE H) ss sts):∀s∈ss,∃xs,H s=some (.tup xs):=fun s hs=>by
 obtain⟨i,hi⟩:=VE hs
 obtain⟨st,_,h⟩:=h.get hi
 exact FY h
theorem bW {H H':Hp}(kt:∀t xs,H t=some (.tup xs)->H' t=some (.tup xs)):∀{ss:List Addr},(∀s∈ss,∃xs,H s=some (.tup xs))->bB H' ss=bB H ss
 | [],_=>rfl
 | s::ss,h=>by
  obtain⟨xs,hx⟩:=h s (Vy ..)
  have ih:=bW kt (ss:=ss) fun s hs=>h s (Vr _ hs)
  unfold bB at ih ⊢
  rw[WK,WK,BO hx (kt _ _ hx),ih]
theorem fT {H:Hp}{ss us:List Addr}:bB H (ss++us)=bB H ss++bB H us:=List.filterMap_append
theorem i9 {H:Hp}{s:Addr}(h:m5 H s=none):bB H [s]=[]:=by unfold bB;rw[WK,h];rfl
theorem uo {H:Hp}{s l:Addr}(h:m5 H s=some l):bB H [s]=[l]:=by unfold bB;rw[WK,h];rfl
theorem iS {H:Hp}{s:Addr}{a:Str}{i j:Int}(h:H s=some (.tup [.str a,.int i,.int j])):m5 H s=none:=by unfold m5;rw[h]
theorem gH {H:Hp}{s:Addr}{a:Str}{i:Int}(h:H s=some (.tup [.str a,.int i])):m5 H s=none:=by unfold m5;rw[h]
theorem yu {as bs:List Addr}(h:as.map V.ref=bs.map V.ref):as=bs:=by
 have:=Wf (List.map fun v=>match v with|V.ref a=>a|_=>0) h
 rw[V4,V4]at this
 simpa [Function.comp_def] using this
theorem Ah {H:Hp}{b:Addr}{as bs:List Addr}(h:H b=some (.lst (as.map V.ref))) (h':H b=some (.lst (bs.map V.ref))):as=bs:=by
 rw[h]at h'
 exact yu (HO.lst.inj (VC h'))
def Frs (H H':Hp) (ss:List Addr):Prop:=(bB H' ss).Nodup/\∀l∈bB H' ss,H l=none
theorem Frs.sub {H H0 H':Hp}{ss as:List Addr}(s:aD H H0) (nd:as.Nodup) (fr:∀a∈as,H0 a=none) (h:(bB H' ss).Sublist as):Frs H H' ss:=⟨List.Nodup.sublist h nd,fun l hl=>s.free (fr l (h.subset hl))⟩
theorem Frs.rev {H H0 H':Hp}{ss as:List Addr}(s:aD H H0) (nd:as.Nodup) (fr:∀a∈as,H0 a=none) (h:(bB H' ss).reverse.Sublist as):Frs H H' ss:=⟨(List.reverse_perm _).nodup_iff.mp (List.Nodup.sublist h nd),fun l hl=>s.free (fr l (h.subset (WS.mpr hl)))⟩
theorem Frs.keep {H H1 H2:Hp}{ss:List Addr}(kt:∀t xs,H1 t=some (.tup xs)->H2 t=some (.tup xs)) (tp:∀s∈ss,∃xs,H1 s=some (.tup xs)) (h:Frs H H1 ss):Frs H H2 ss:=by
 unfold Frs
 rw[bW kt tp];exact h
theorem xj {H:Hp}{ss:List Addr}{sts:List cu}(h:P1 (gE H) ss sts):∀l∈bB H ss,∃o,H l=some o:=fun l hl=>by
 obtain⟨s,hs,e⟩:=Xi.mp hl
 obtain⟨i,hi⟩:=VE hs
 obtain⟨st,_,h⟩:=h.get hi
 cases st with
 | rooms n=>rw[gH h.1]at e;cases e
 | cut r m=>rw[iS h.1]at e;cases e
 | row r a es =>
  obtain⟨l',h1,h2,_⟩:=h
  rw[mK h1]at e;cases e
  exact⟨_,h2⟩
theorem Frs.app {H Hm HF:Hp}{ss us:List Addr}(h1:Frs H HF ss) (h2:Frs Hm HF us) (s:aD H Hm) (ex:∀l∈bB HF ss,∃o,Hm l=some o):Frs H HF (ss++us):=by
 unfold Frs
 rw[fT]
 refine⟨Wb.mpr ⟨h1.1,h2.1,fun a ha b hb e=>?_⟩,fun l hl=>?_⟩
 ·obtain⟨o,ho⟩:=ex a ha
  have:=h2.2 b hb
  rw[<- e,ho]at this;cases this
 ·rcases VH.mp hl with hl|hl
  ·exact h1.2 l hl
  ·exact s.free (h2.2 l hl)
theorem Frs.more {H HF:Hp}{ss:List Addr}{s:Addr}(h:Frs H HF ss) (e:m5 HF s=none):Frs H HF (ss ++ [s]):=by
 unfold Frs
 rw[fT,i9 e,V5];exact h
def qN (K:W.Frag):Sp:=fun vs H Q _=>∃(r:Nat) (a b:Addr) (os ns:List (List V)),vs=[.int r,.ref a,.ref b]/\q_ H a os/\q_ H b ns/\cQ H os/\cQ H ns/\r<=129 /\
 ∀(D:Addr) (ss:List Addr) (H':Hp),H D=none->H' D=some (.lst (ss.map V.ref))->GY H H' b D ss (unl H r os ns ns.length)->(∀cs:List Addr,H b=some (.lst (cs.map V.ref))->(bB H' ss).Sublist cs)->aD H H'->Q (.ref D) H'
def jk (H:Hp) (r:Nat) (os ns:List (List V)):List cu:=unl H r os ns ns.length++(if os.length > ns.length then [.cut r ns.length] else [])
def A7 (K:W.Frag):Sp:=fun vs H Q _=>∃(r:Nat) (a b:Addr) (os ns:List (List V)),vs=[.int r,.ref a,.ref b]/\q_ H a os/\q_ H b ns/\cQ H os/\cQ H ns/\r<=129 /\
 ∀(D:Addr) (ss:List Addr) (H':Hp),H D=none->H' D=some (.lst (ss.map V.ref))->GY H H' b D ss (jk H r os ns)->(∀cs:List Addr,H b=some (.lst (cs.map V.ref))->(bB H' ss).Sublist cs)->aD H H'->Q (.ref D) H'
def xX (K:W.Frag):Sp:=fun vs H Q _=>∃(r:Nat) (a b:Addr) (os ns:List (List V)),vs=[.int r,.ref a,.ref b]/\q_ H a os/\q_ H b ns/\cQ H os/\cQ H ns/\r<=129 /\
 ∀(D:Addr) (ss:List Addr) (H':Hp),H D=none->H' D=some (.lst (ss.map V.ref))->GY H H' b D ss (unl H r os ns ns.length).reverse->(∀cs:List Addr,H b=some (.lst (cs.map V.ref))->(bB H' ss).reverse.Sublist cs)->aD H H'->Q (.ref D) H'
def fE (H:Hp) (X:List (List V)) (k:Int):List V:=X.flatten.filter fun v=>!decide ((eD H v).1=k)
def vm (K:W.Frag):Sp:=fun vs H Q _=>∃(a:Addr) (X:List (List V)) (k:Int),vs=[.ref a,.int k]/\q_ H a X/\X.flatten.length<=600/\(∀es∈X,∀v∈es,En H v) /\
 ∀(D:Addr) (H':Hp),H D=none->H' D=some (.lst (fE H X k))->aD H H'->Q (.ref D) H'
theorem jK {H H':Hp}{r:Nat}{os ns:List (List V)}(kt:∀t xs,H t=some (.tup xs)->H' t=some (.tup xs)) (eo:∀es∈os,∀v∈es,En H v) (en:∀es∈ns,∀v∈es,En H v):∀k:Nat,unl H' r os ns k=unl H r os ns k
 | 0=>rfl
 | k+1=>by
  have ih:=jK (r:=r) kt eo en k
  show unl H' r os ns k++(match ns[k]? with|some es=>if mL H' os es k=true then [cu.row r k es] else [] | none=>[])=unl H r os ns k++(match ns[k]? with|some es=>if mL H os es k=true then [cu.row r k es] else [] | none=>[])
  rw[ih]
  cases e:ns[k]? with
  | none=>rfl
  | some es =>
   have eb:mL H' os es k=mL H os es k:=by
    unfold mL
    cases e2:os[k]? with
    | none=>rfl
    | some o =>
     show(!decide (aI H' o=aI H' es)) = !decide (aI H o=aI H es)
     rw[b6 kt (eo o (Vk e2)),b6 kt (en es (Vk e))]
   show unl H r os ns k++(if mL H' os es k=true then [cu.row r k es] else [])=unl H r os ns k++(if mL H os es k=true then [cu.row r k es] else [])
   rw[eb]
theorem Aj {H H1:Hp}{bs:List Addr}{X:List (List (List V))}{o:Addr}{k R:Int}{r:Nat}(hP:P1 (R2 (fun _=>True) H) bs X) (er:aE k R =(r:Int)) (s1:aD H H1) (ho:bs[r]? = some o \/(bs.length<=r/\H1 o=some (.lst []))):q_ H1 o (bJ X k R):=by
 have ex:(aE k R).toNat=r:=by omega
 have bl:=hP.1
 rcases ho with ho|⟨ho,h1⟩
 ·obtain⟨rows,hx,_,as,h2,h3⟩:=hP.get ho
  unfold bJ
  rw[ex,hx]
  exact⟨as,s1 _ _ h2,h3.1,fun i a es e1 e2=>s1 _ _ (h3.2 i a es e1 e2).2⟩
 ·unfold bJ
  rw[ex,V7 (by omega)]
  exact⟨[],h1,rfl,fun i a es e=>by simp at e⟩
theorem vc {H:Hp}{X:List (List V)}{k:Int}(en:∀es∈X,∀v∈es,En H v):∀v∈fE H X k,En H v:=fun v hv=>by
 obtain⟨es,he,hm⟩:=VZ.mp (Wi.mp hv).1
 exact en es he v hm
theorem Lz {H:Hp}{X:List (List V)}{k:Int}:∀v∈fE H X k,(eD H v).1≠k:=fun v hv e=>by
 have:=(Wi.mp hv).2
 rw[e]at this
 simp at this
theorem Aq {H:Hp}{X:List (List V)}{k:Int}:(fE H X k).length<=X.flatten.length:=VL _ _
theorem pU {H:Hp}{us:List V}{w:Nat}(w1:1<=w) (w2:w<=8) (ul:us.length<=120) (en:∀v∈us,En H v):cQ H (aM us w):=by
 refine⟨Vv (dR w1) (by omega),fun es he=>⟨?_,fun v hv=>en v (cI he hv)⟩⟩
 unfold aM at he
 obtain⟨i,_,rfl⟩:=Vq.mp he
 rw[Vw];omega
def oX (K:W.Frag):Sp:=fun vs H Q _=>∃(y:Addr) (w R:Nat) (X:List (List (List V))) (k:Int) (z:Str),vs=[.ref y,.int k,.str z]/\Yd H y w R X/\(0<=k/\k<1152921504606846976)/\(PyData.strOk z=true/\z.length<=100)/\1<=w/\w<=8/\1<=R/\R<=130/\cQ H (bJ X k R)/\(bJ X k R).flatten.length<=60/\((aI H (bJ X k R).flatten).map (·.1)).Nodup /\
 ∀(D:Addr) (ss:List Addr) (t:Addr) (us:List V) (H':Hp),H D=none->H' D=some (.lst (ss.map V.ref))->H' t=some (.tup [.int k,.str z])->us.Perm (fE H (bJ X k R) k ++ [.ref t])->((aI H' us).Pairwise fun a b=>a.1<b.1)->P1 (gE (hid D H')) ss (unl H' (aE k R).toNat (bJ X k R) (aM us w) (aM us w).length).reverse->Frs H H' ss->aD H H'->Q (.ref D) H'
def oh (K:W.Frag):Sp:=fun vs H Q _=>∃(y:Addr) (w R:Nat) (X:List (List (List V))) (k:Int),vs=[.ref y,.int k]/\Yd H y w R X/\1<=w/\w<=8/\1<=R/\R<=130/\cQ H (bJ X k R)/\(bJ X k R).flatten.length<=60/\k∈(aI H (bJ X k R).flatten).map (·.1) /\
 ∀(D:Addr) (ss:List Addr) (H':Hp),H D=none->H' D=some (.lst (ss.map V.ref))->P1 (gE (hid D H')) ss (jk H (aE k R).toNat (bJ X k R) (aM (fE H (bJ X k R) k) w))->Frs H H' ss->aD H H'->Q (.ref D) H'
theorem j6 {H:Hp}{r:Nat}{os ns:List (List V)}:∀k:Nat,(unl H r os ns k).length<=k
 | 0=>Vt 0
 | k+1=>by
  have ih:=j6 (H:=H) (r:=r) (os:=os) (ns:=ns) k
  show(unl H r os ns k++(match ns[k]? with|some es=>if mL H os es k=true then [cu.row r k es] else [] | none=>[])).length<=k+1
  rw[Vm]
  have:(match ns[k]? with|some es=>if mL H os es k=true then [cu.row r k es] else [] | none=>[]).length<=1:=by
   split
   ·split <;> simp
   ·simp
  omega
def l7 (K:W.Frag):Sp:=fun vs H Q _=>∃(p:Addr) (N:Nat) (n g:Int),vs=[.ref p,.int n,.int g]/\Hand H p N/\N+20000<2^60/\0<=n/\n<=125/\1<=g/\g<=16 /\
 ∀(l:Addr) (ts:List Addr) (es:List (Int×Str)) (H':Hp),H l=none->H' l=some (.lst (ts.map V.ref))->EL H' ts es->(es.map (·.1)).Nodup->(es.length:Int)=n->Hand H' p (N+10000)->Kp H H' p->Q (.ref l) H'
def CV (K:W.Frag):Sp:=fun vs H Q _=>∃(p y:Addr) (N w R:Nat) (X:List (List (List V))),vs=[.ref p,.ref y]/\Hand H p N/\N+100<2^60/\Yq H y w R X/\1<=w/\w<=8/\1<=R/\R<=130/\X.length=R/\(∀rows∈X,rows ≠ []/\rows.length<=150)/\(dB X).length<=150/\((eE (yD H X)).map (·.1)).Nodup /\
 ∀(y':Addr) (w' R':Nat) (X':List (List (List V))) (H':Hp),Yq H' y' w' R' X'->1<=w'->w'<=8->1<=R'->R'<=130->Hand H' p (N+50)->Kp H H' p->Q (.ref y') H'
theorem Js {ks:List Int}(hl:ks.length<1000) (v:Int):∃m:Nat,(v+16*m)%1152921504606846976∉ks:=by
 by_cases c:∃m:Nat,(v+16*m)%1152921504606846976∉ks
 ·exact c
 ·have all:∀m:Nat,(v+16*m)%1152921504606846976∈ks:=fun m=>Classical.not_not.mp fun z=>c ⟨m,z⟩
  have hn:((List.range (ks.length+1)).map fun(j:Nat)=>(v+16*j)%1152921504606846976).Nodup:=by
   rw[Wq,VV]
   refine List.Pairwise.imp_of_mem ?_ List.nodup_range
   intro a b ha hb hab e
   have h1:=Xf.mp ha
   have h2:=Xf.mp hb
   omega
  have:=sub_len hn (fun x hx=>by
   obtain⟨j,_,rfl⟩:=Vq.mp hx
   exact all j)
  rw[Vi,WU]at this
  omega
theorem zj {α:Type}(Y:List (List α)):∃n:Nat,Y=trim Y++List.replicate n []:=by
 refine⟨(Y.reverse.takeWhile (·.isEmpty)).length,?_⟩
 have e:=List.takeWhile_append_dropWhile (p:=fun r:List α=>r.isEmpty) (l:=Y.reverse)
 have e2:=Wf List.reverse e
 rw[List.reverse_append,List.reverse_reverse]at e2
 have e3:(Y.reverse.takeWhile (·.isEmpty)).reverse=List.replicate (Y.reverse.takeWhile (·.isEmpty)).length []:=by
  refine List.eq_replicate_iff.mpr ⟨V3,fun r hr=>?_⟩
  have:=List.all_eq_true.mp (List.all_takeWhile (p:=fun r:List α=>r.isEmpty) (l:=Y.reverse)) r (WS.mp hr)
  simpa using this
 rw[e3]at e2
 exact e2.symm
def bY (X:List (List (List V))) (i:Nat):List (List V):=(X[i]?).getD []
theorem dN {H:Hp}{rows:List (List V)}:(aL H rows).length=rows.length:=by unfold aL;rw[Vi]
theorem sU {H:Hp}{rows:List (List V)}{i:Nat}:(aL H rows)[i]? =(rows[i]?).map (aI H):=by unfold aL;rw[Vp]
theorem p9 {H:Hp}{X:List (List (List V))}{k R:Int}(h:gm H X):∀es∈bJ X k R,∀v∈es,En H v:=fun es he=>by
 unfold bJ at he
 cases e:X[(aE k R).toNat]? with
 | none=>rw[e]at he;exact absurd he We
 | some x=>rw[e]at he;exact h x (Vk e) es he
def rK (X:List (List (List V))) (sts:List cu) (j:Nat):List (List (List V)):=(sts.take j).foldl lK X
theorem El (X:List (List (List V))) (sts:List cu):rK X sts 0=X:=by unfold rK;rw[List.take_zero];rfl
theorem Du {X:List (List (List V))}{sts:List cu}{j:Nat}{st:cu}(h:sts[j]? = some st):rK X sts (j+1)=lK (rK X sts j) st:=by
 unfold rK;rw[aV h,XI];rfl
theorem pI {H:Hp}{X:List (List (List V))}{r:Nat}:(yD H X)[r]? =(X[r]?).map (aL H):=by unfold yD;rw[Vp]
theorem B_ {H:Hp}{X:List (List (List V))}{w R:Nat}{es:List (Int×Str)}{k:Int}(h:dG w R es (yD H X)) (hn:(es.map (·.1)).Nodup) (hR:1<=R):∃s,s.Perm (es.filter fun e=>decide (aE e.1 R=aE k R))/\(s.Pairwise fun a b=>a.1<b.1)/\aL H (bJ X k R)=aM s w:=by
 have rb:=fK (k:=k) (R:=(R:Int)) (by omega)
 obtain⟨r,hr⟩ : ∃r:Nat,aE k R =(r:Int):=⟨(aE k R).toNat,by omega⟩
 have xl:X.length=R:=by have:=h.1;unfold yD at this;rw[Vi]at this;exact this
 obtain⟨rows,hx⟩ : ∃rows,X[r]? = some rows:=⟨_,Vn (by omega)⟩
 obtain⟨s,p1,p2,p3⟩:=h.2 r (aL H rows) (by rw[pI,hx];rfl)
 refine⟨s,by rw[hr];exact p1,?_,?_⟩
 ·have nd:(s.map (·.1)).Nodup:=(p1.map _).nodup_iff.mpr (keys_filter hn _)
  exact VV.mp (yq (VV.mpr p2) nd)
 ·unfold bJ
  rw[hr,Wx,hx];exact p3
theorem oS:∀{l l':List (Int×Str)},(l.Pairwise fun a b=>a.1<b.1)->(l'.Pairwise fun a b=>a.1<b.1)->(∀x,x∈l↔x∈l')->l=l'
 | [],[],_,_,_=>rfl
 | [],y::l',_,_,e=>absurd ((e y).mpr (Vy ..)) We
 | x::l,[],_,_,e=>absurd ((e x).mp (Vy ..)) We
 | x::l,y::l',h,h',e=>by
  obtain⟨h1,h2⟩:=WB.mp h
  obtain⟨h3,h4⟩:=WB.mp h'
  have exy:x=y:=by
   rcases VW.mp ((e x).mp (Vy ..)) with z|z
   ·exact z
   ·rcases VW.mp ((e y).mpr (Vy ..)) with z2|z2
    ·exact z2.symm
    ·have a:=h3 x z
     have b:=h1 y z2
     omega
  subst exy
  rw[oS h2 h4 fun z=>?_]
  constructor
  ·intro hz
   rcases VW.mp ((e z).mp (Vr _ hz)) with q|q
   ·have:=h1 z hz;rw[q]at this;omega
   ·exact q
  ·intro hz
   rcases VW.mp ((e z).mpr (Vr _ hz)) with q|q
   ·have:=h3 z hz;rw[q]at this;omega
   ·exact q
theorem dm {H:Hp}{rows:List (List V)}:aI H rows.flatten =(aL H rows).flatten:=by
 unfold aI aL
 rw[List.map_flatten];rfl
theorem qy {H:Hp}{r:Nat}{os ns:List (List V)}:∀(p:Nat) {r' a:Nat}{es:List V},cu.row r' a es∈unl H r os ns p->es∈ns
 | 0,_,_,_,h=>absurd h We
 | p+1,r',a,es,h=>by
  have ih:=qy (H:=H) (r:=r) (os:=os) (ns:=ns) p (r':=r') (a:=a) (es:=es)
  cases e:ns[p]? with
  | none =>
   have e1:unl H r os ns (p+1)=unl H r os ns p:=by
    show unl H r os ns p++(match ns[p]? with|some es=>if mL H os es p=true then [cu.row r p es] else [] | none=>[])=_
    rw[e];exact V5 _
   rw[e1]at h;exact ih h
  | some e0 =>
   cases c:mL H os e0 p with
   | false=>rw[Dy e c]at h;exact ih h
   | true =>
    rw[AQ e c]at h
    rcases VH.mp h with h|h
    ·exact ih h
    ·have:=VM.mp h
     injection this with _ _ z
     rw[z];exact Vk e
theorem vf {H:Hp}{r:Nat}{os ns:List (List V)}{r' a:Nat}{es:List V}(h:cu.row r' a es∈jk H r os ns):es∈ns:=by
 unfold jk at h
 rcases VH.mp h with h|h
 ·exact qy _ h
 ·split at h
  ·have:=VM.mp h;cases this
  ·exact absurd h We
theorem xW {q:List V->Prop}(h0:q []):∀{sts:List cu}{X:List (List (List V))},(∀rows∈X,∀es∈rows,q es)->(∀r a es,cu.row r a es∈sts->q es)->∀rows∈sts.foldl lK X,∀es∈rows,q es
 | [],_,h,_=>h
 | st::sts,X,h,hs=>xW h0 (sts:=sts) (X:=lK X st) (Ad h h0 fun r a es e=>hs r a es (by rw[e];exact Vy ..)) fun r a es m=>hs r a es (Vr _ m)
theorem wW {s:List (Int×Str)}{w:Nat}(h:s.Pairwise fun a b=>a.1<b.1):∀r∈aM s w,(r.map (·.1)).Nodup:=fun r hr=>by
 unfold aM at hr
 obtain⟨i,_,rfl⟩:=Vq.mp hr
 refine Wq.mpr (VV.mpr ?_)
 exact(h.sublist ((List.take_sublist _ _).trans (List.drop_sublist _ _))).imp fun h=>Int.ne_of_lt h
theorem Qp {H:Hp}{X:List (List (List V))}{w R:Nat}{es:List (Int×Str)}(cl:dG w R es (yD H X)) (nd:(es.map (·.1)).Nodup):Im H X:=fun rows hr e he=>by
 obtain⟨i,hi⟩:=VE hr
 obtain⟨s,p1,p2,p3⟩:=cl.2 i (aL H rows) (by rw[pI,hi];rfl)
 have nds:(s.map (·.1)).Nodup:=(p1.map _).nodup_iff.mpr (keys_filter nd _)
 have lt:s.Pairwise fun a b=>a.1<b.1:=VV.mp (yq (VV.mpr p2) nds)
 refine wW (w:=w) lt (aI H e) ?_
 rw[<- p3]
 exact Vq.mpr ⟨e,he,rfl⟩
theorem D6 {H:Hp}{X:List (List (List V))}{w R:Nat}{es:List (Int×Str)}{k:Int}(cl:dG w R es (yD H X)) (nd:(es.map (·.1)).Nodup) (hen:gm H X) (w1:1<=w) (w2:w<=8) (R1:1<=R) (el:es.length<=60):cQ H (bJ X k R)/\(bJ X k R).flatten.length<=60/\((aI H (bJ X k R).flatten).map (·.1)).Nodup/\(aI H (bJ X k R).flatten).Pairwise (fun a b=>a.1<b.1)/\∀x,x∈aI H (bJ X k R).flatten↔x∈es/\aE x.1 R=aE k R:=by
 obtain⟨s,p1,p2,p3⟩:=B_ (k:=k) cl nd R1
 have es':aI H (bJ X k R).flatten=s:=by rw[dm,p3,cC _ w1]
 have sl:s.length<=es.length:=by rw[p1.length_eq];exact VL _ _
 have lr:=Wf List.length p3
 rw[dN]at lr
 have ln:=Wf List.length es'
 unfold aI at ln
 rw[Vi]at ln
 refine⟨⟨by rw[lr];exact Vv (dR w1) (by omega),fun e he=>⟨?_,p9 hen e he⟩⟩,by omega,?_,by rw[es'];exact p2,fun x=>?_⟩
 ·have hm:aI H e∈aM s w:=by rw[<- p3];exact Vq.mpr ⟨e,he,rfl⟩
  unfold aM at hm
  obtain⟨i,_,hi⟩:=Vq.mp hm
  have l:=Wf List.length hi
  unfold aI at l
  rw[Vw,Vi]at l
  omega
 ·rw[es'];exact(p1.map _).nodup_iff.mpr (keys_filter nd _)
 ·rw[es',p1.mem_iff,Wi,decide_eq_true_eq]
theorem B8 {H:Hp}{X:List (List (List V))}{sa:List Addr}{sts:List cu}(h:gm H X) (hP:P1 (gE H) sa sts):∀j:Nat,gm H (rK X sts j)
 | 0=>by rw[El];exact h
 | j+1=>by
  have ih:=B8 h hP j
  cases e:sts[j]? with
  | none =>
   have:rK X sts (j+1)=rK X sts j:=by
    unfold rK
    rw[W9,e,Option.toList_none,V5]
   rw[this];exact ih
  | some st =>
   obtain⟨a,_,ha⟩:=hP.at' e
   rw[Du e];exact ih.step ha
def TX (es:List (Int×Str)):Prop:=∀e∈es,PyData.strOk e.2=true/\(0<=e.1/\e.1<1152921504606846976)/\e.2.length<=100
theorem Yd.kp {H H':Hp}{p y:Addr}{N:Nat}{w R:Int}{X:List (List (List V))}(hh:Hand H p N) (k:Kp H H' p) (h:Yd H y w R X):Yd H' y w R X:=by
 obtain⟨t,h1,⟨bs,h2,h3⟩,en,sz⟩:=h
 have kt:=jm hh k
 refine⟨t,kt _ _ h1,⟨bs,k.1 _ _ h2 (i7 hh h2),h3.imp' fun b rows _ hm r=>?_⟩,en.keep kt,sz⟩
 obtain⟨_,as,h4,h5⟩:=r
 refine⟨trivial,as,k.1 _ _ h4 (i7 hh h4),h5.imp' fun a es _ hm2 r=>⟨trivial,?_⟩⟩
 obtain⟨ts,e⟩:=ki (en rows hm es hm2)
 have r2:=r.2
 rw[e]at r2 ⊢
 exact k.1 _ _ r2 (i7 hh r2)
theorem oM {H H':Hp}{r:Nat}{os ns:List (List V)}(kt:∀t xs,H t=some (.tup xs)->H' t=some (.tup xs)) (eo:∀es∈os,∀v∈es,En H v) (en:∀es∈ns,∀v∈es,En H v):jk H' r os ns=jk H r os ns:=by
 unfold jk;rw[jK kt eo en]
theorem lA {H:Hp}{r:Nat}{os ns:List (List V)}:(jk H r os ns).length<=ns.length+1:=by
 unfold jk
 rw[Vm]
 have:=j6 (H:=H) (r:=r) (os:=os) (ns:=ns) ns.length
 have:(if os.length > ns.length then [cu.cut r ns.length] else []).length<=1:=by split <;> simp
 omega
theorem Ab {H:Hp}{y:Addr}{X:List (List (List V))}{w R:Nat}{es:List (Int×Str)}(h:Yq H y w R X) (cl:dG w R es (yD H X)) (w1:1<=w) (w2:w<=8) (R2:R<=130) (el:es.length<=129):Yd H y w R X:=by
 obtain⟨t,h1,h2,en,_⟩:=h
 have xl:X.length=R:=by have:=cl.1;unfold yD at this;rw[Vi]at this;exact this
 refine⟨t,h1,h2,en,by omega,fun rows hr=>?_⟩
 obtain⟨i,hi⟩:=VE hr
 obtain⟨s,p1,_,p3⟩:=cl.2 i (aL H rows) (by rw[pI,hi];rfl)
 have sl:s.length<=es.length:=by rw[p1.length_eq];exact VL _ _
 have lr:=Wf List.length p3
 rw[dN]at lr
 refine⟨by rw[lr];exact Vv (dR w1) (by omega),fun e he=>?_⟩
 have hm:aI H e∈aM s w:=by rw[<- p3];exact Vq.mpr ⟨e,he,rfl⟩
 unfold aM at hm
 obtain⟨i,_,hi⟩:=Vq.mp hm
 have l:=Wf List.length hi
 unfold aI at l
 rw[Vw,Vi]at l
 omega
theorem EL.okE {H:Hp}{ts:List Addr}{es:List (Int×Str)}(h:EL H ts es):TX es:=fun e he=>by
 obtain⟨i,hi⟩:=VE he
 obtain⟨t,_,_,h2,h3,h4,h5⟩:=h.at' hi
 exact⟨h2,⟨h3,h4⟩,h5⟩
theorem qZ {H:Hp}{X:List (List V)}{k:Int}:aI H (fE H X k) =(aI H X.flatten).filter fun e=>!decide (e.1=k):=by
 unfold aI fE
 rw[XC];rfl
theorem Nc {H:Hp}{X:List (List (List V))}{w R:Nat}{es:List (Int×Str)}(h:dG w R es (yD H X)) (hn:(es.map (·.1)).Nodup) {i:Nat}(hi:i<R):∃s,s.Perm (es.filter fun e=>decide (aE e.1 R =(i:Int)))/\(s.Pairwise fun a b=>a.1<b.1)/\aL H (bY X i)=aM s w:=by
 have xl:X.length=R:=by have:=h.1;unfold yD at this;rw[Vi]at this;exact this
 obtain⟨rows,hx⟩ : ∃rows,X[i]? = some rows:=⟨_,Vn (by omega)⟩
 obtain⟨s,p1,p2,p3⟩:=h.2 i (aL H rows) (by rw[pI,hx];rfl)
 refine⟨s,p1,?_,?_⟩
 ·have nd:(s.map (·.1)).Nodup:=(p1.map _).nodup_iff.mpr (keys_filter hn _)
  exact VV.mp (yq (VV.mpr p2) nd)
 ·unfold bY;rw[hx];exact p3
def tn (R:Nat):Nat:=((R:Int)-2^lg R).toNat
theorem pR {R:Nat}(h:1<=R):(tn R:Int) =(R:Int)-2^lg (R:Int)/\tn R<R:=by
 have a:=DP (R:=(R:Int)) (by omega)
 have p:=gI (lg (R:Int))
 unfold tn
 omega
structure Base (H:Hp) (X:List (List (List V))) (w R:Nat) (es:List (Int×Str)):Prop where
 cl:dG w R es (yD H X)
 nd:(es.map (·.1)).Nodup
 w1:1<=w
 R1:1<=R
section
variable {H:Hp}{X:List (List (List V))}{w R:Nat}{es:List (Int×Str)}
theorem Base.xl (c:Base H X w R es):X.length=R:=by have:=c.cl.1;unfold yD at this;rw[Vi]at this;exact this
theorem Base.own (c:Base H X w R es) {i:Nat}(hi:i<R):∃s,(s.Pairwise fun a b=>a.1<b.1)/\aL H (bY X i)=aM s w/\(∀x,x∈s↔x∈es/\aE x.1 R =(i:Int))/\s.Perm (es.filter fun e=>decide (aE e.1 R =(i:Int))):=by
 obtain⟨s,p1,p2,p3⟩:=Nc c.cl c.nd hi
 exact⟨s,p2,p3,fun x=>by rw[p1.mem_iff,Wi,decide_eq_true_eq],p1⟩
def uT (H:Hp) (R:Nat) (os gN sN:List (List V)):List cu:=jk H R [] gN ++ .rooms (R+1)::jk H (tn R) os sN
structure UW (H:Hp) (X:List (List (List V))) (w R:Nat) (es:List (Int×Str)) (gN sN:List (List V)) (s g s':List (Int×Str)):Prop extends Base H X w R es where
 so:s.Pairwise fun a b=>a.1<b.1
 hO:aL H (bY X (tn R))=aM s w
 mo:∀x,x∈s↔x∈es/\aE x.1 R =(tn R:Int)
 eg:g=s.filter fun e=>decide (aE e.1 ((R+1:Nat):Int) =(R:Int))
 es':s'=s.filter fun e=>decide (aE e.1 ((R+1:Nat):Int) =(tn R:Int))
 hg:aL H gN=aM g w
 hs:aL H sN=aM s' w
variable {gN sN:List (List V)}{s g s':List (Int×Str)}
end
def u_ (H:Hp) (R:Nat) (os ns:List (List V)):List cu:=(unl H (tn R) os ns ns.length).reverse ++ .rooms R::[.cut R 0]
structure U6 (H:Hp) (X:List (List (List V))) (w R:Nat) (es:List (Int×Str)) (ns:List (List V)) (s b:List (Int×Str)):Prop extends Base H X w (R+1) es where
 R2:1<=R
 so:s.Pairwise fun a b=>a.1<b.1
 hO:aL H (bY X (tn R))=aM s w
 mo:∀x,x∈s↔x∈es/\aE x.1 ((R+1:Nat):Int) =(tn R:Int)
 sb:b.Pairwise fun a b=>a.1<b.1
 mb:∀x,x∈b↔x∈es/\(aE x.1 ((R+1:Nat):Int) =(tn R:Int)\/aE x.1 ((R+1:Nat):Int) =(R:Int))
 hb:aL H ns=aM b w
def rE (H:Hp) (X:List (List V)) (R n:Int):List V:=X.flatten.filter fun v=>decide (aE (eD H v).1 R=n)
theorem AI {H:Hp}{X:List (List V)}{R n:Int}(en:∀es∈X,∀v∈es,En H v):∀v∈rE H X R n,En H v:=fun v hv=>by
 obtain⟨es,he,hm⟩:=VZ.mp (Wi.mp hv).1
 exact en es he v hm
theorem DK {H:Hp}{X:List (List V)}{R n:Int}:(rE H X R n).length<=X.flatten.length:=VL _ _
theorem lB {H H1:Hp}{bs:List Addr}{X:List (List (List V))}{o:Addr}{r:Nat}(hP:P1 (R2 (fun _=>True) H) bs X) (s1:aD H H1) (ho:bs[r]? = some o \/(bs.length<=r/\H1 o=some (.lst []))):q_ H1 o (bY X r):=by
 have bl:=hP.1
 rcases ho with ho|⟨ho,h1⟩
 ·obtain⟨rows,hx,_,as,h2,h3⟩:=hP.get ho
  unfold bY
  rw[hx]
  exact⟨as,s1 _ _ h2,h3.1,fun i a es e1 e2=>s1 _ _ (h3.2 i a es e1 e2).2⟩
 ·unfold bY
  rw[V7 (by omega)]
  exact⟨[],h1,rfl,fun i a es e=>by simp at e⟩
def mE (K:W.Frag):Sp:=fun vs H Q _=>∃(y:Addr) (w R:Nat) (X:List (List (List V))),vs=[.ref y]/\Yd H y w R X/\X.length=R/\1<=w/\w<=8/\1<=R/\R<=129/\cQ H (bY X (tn R))/\(bY X (tn R)).flatten.length<=60 /\
 ∀(D:Addr) (ss:List Addr) (H':Hp),H D=none->H' D=some (.lst (ss.map V.ref))->P1 (gE (hid D H')) ss (uT H R (bY X (tn R)) (aM (rE H (bY X (tn R)) ((R+1:Nat):Int) R) w) (aM (rE H (bY X (tn R)) ((R+1:Nat):Int) (tn R)) w))->Frs H H' ss->aD H H'->Q (.ref D) H'
def qb (K:W.Frag):Sp:=fun vs H Q _=>∃(y:Addr) (w R:Nat) (X:List (List (List V))),vs=[.ref y]/\Yd H y w ((R+1:Nat):Int) X/\1<=w/\w<=8/\1<=R/\R<=129/\cQ H (bY X (tn R))/\cQ H (bY X R)/\(bY X (tn R)).flatten.length<=30/\(bY X R).flatten.length<=30/\((aI H ((bY X (tn R)).flatten++(bY X R).flatten)).map (·.1)).Nodup /\
 ∀(D:Addr) (ss:List Addr) (us:List V) (H':Hp),H D=none->H' D=some (.lst (ss.map V.ref))->us.Perm ((bY X (tn R)).flatten++(bY X R).flatten)->((aI H us).Pairwise fun a b=>a.1<b.1)->P1 (gE (hid D H')) ss (u_ H R (bY X (tn R)) (aM us w))->Frs H H' ss->aD H H'->Q (.ref D) H'
theorem iM {H:Hp}{us:List V}{w:Nat}:aL H (aM us w)=aM (aI H us) w:=by unfold aL aI;rw[ni]
section
variable {H:Hp}{X:List (List (List V))}{w R:Nat}{es:List (Int×Str)}
theorem Base.rows (b:Base H X w R es) (hen:gm H X) (w2:w<=8) (el:es.length<=40) {i:Nat}(hi:i<R):cQ H (bY X i)/\(bY X i).flatten.length<=40/\∃s,(s.Pairwise fun a b=>a.1<b.1)/\aL H (bY X i)=aM s w/\aI H (bY X i).flatten=s/\∀x,x∈s↔x∈es/\aE x.1 R =(i:Int):=by
 obtain⟨s,p2,p3,mo,p1⟩:=b.own hi
 have es':aI H (bY X i).flatten=s:=by rw[dm,p3,cC _ b.w1]
 have sl:s.length<=es.length:=by rw[p1.length_eq];exact VL _ _
 have lr:=Wf List.length p3
 rw[dN]at lr
 have ln:=Wf List.length es'
 unfold aI at ln
 rw[Vi]at ln
 refine⟨⟨by rw[lr];exact Vv (dR b.w1) (by omega),fun e he=>⟨?_,fun v hv=>?_⟩⟩,by omega,s,p2,p3,es',mo⟩
 ·have hm:aI H e∈aM s w:=by rw[<- p3];exact Vq.mpr ⟨e,he,rfl⟩
  unfold aM at hm
  obtain⟨i,_,hi⟩:=Vq.mp hm
  have l:=Wf List.length hi
  unfold aI at l
  rw[Vw,Vi]at l
  omega
 ·unfold bY at he
  cases z:X[i]? with
  | none=>rw[z]at he;exact absurd he We
  | some x=>rw[z]at he;exact hen x (Vk z) e he v hv
theorem Ka (b:Base H X w (R+1) es) (hen:gm H X) (w2:w<=8) (el:es.length<=40) (R2:1<=R):((aI H ((bY X (tn R)).flatten++(bY X R).flatten)).map (·.1)).Nodup:=by
 have t:=pR R2
 obtain⟨_,_,s,so,_,ef,mo⟩:=b.rows hen w2 el (i:=tn R) (by omega)
 obtain⟨_,_,s2,so2,_,ef2,mo2⟩:=b.rows hen w2 el (i:=R) (by omega)
 have e:aI H ((bY X (tn R)).flatten++(bY X R).flatten)=s++s2:=by
  rw[<- ef,<- ef2];unfold aI;rw[Vo]
 rw[e,Vo]
 have n1:∀{s:List (Int×Str)},(s.Pairwise fun a b=>a.1<b.1)->(s.map (·.1)).Nodup:=fun h=>Wq.mpr (VV.mpr (h.imp fun h=>Int.ne_of_lt h))
 refine Wb.mpr ⟨n1 so,n1 so2,fun a ha c hc z=>?_⟩
 obtain⟨x,hx,rfl⟩:=Vq.mp ha
 obtain⟨x2,hx2,rfl⟩:=Vq.mp hc
 have a1:=((mo x).mp hx).2
 have a2:=((mo2 x2).mp hx2).2
 rw[z]at a1
 omega
end
def BC (acc:List (Int×Str)) (e:Int×Str):List (Int×Str):=if e.1∈acc.map (·.1) then acc else acc ++ [e]
def c_ (R:Int) (i:Nat) (acc:List (Int×Str)) (e:Int×Str):List (Int×Str):=if aE e.1 R =(i:Int) then BC acc e else acc
def fV (R:Int) (D:List (List (List (Int×Str)))):Nat->List (Int×Str)
 | 0=>[]
 | n+1=>(((D[n]?).getD []).flatten).foldl (c_ R n) (fV R D n)
def iV (R:Nat) (D:List (List (List (Int×Str)))):List (Int×Str):=fV R D (min R D.length)
theorem DO {R:Int}{i:Nat}{acc:List (Int×Str)}{e:Int×Str}(h:(acc.map (·.1)).Nodup):((c_ R i acc e).map (·.1)).Nodup:=by
 unfold c_ BC
 split
 ·split
  ·exact h
  ·rename_i c
   rw[Vo]
   refine Wb.mpr ⟨h,by simp,fun a ha b hb z=>c ?_⟩
   have:b=e.1:=by simpa using hb
   rw[<- this,<- z];exact ha
 ·exact h
theorem AM {R:Int}{i:Nat}:∀{l acc:List (Int×Str)},(acc.map (·.1)).Nodup->((l.foldl (c_ R i) acc).map (·.1)).Nodup
 | [],_,h=>h
 | e::l,acc,h=>AM (l:=l) (acc:=c_ R i acc e) (DO h)
theorem tX {R:Int}{D:List (List (List (Int×Str)))}:∀n:Nat,((fV R D n).map (·.1)).Nodup
 | 0=>by simp[fV]
 | n+1=>AM (tX n)
theorem DF {p:Int×Str->Prop}{R:Int}{i:Nat}{acc:List (Int×Str)}{e:Int×Str}(h:∀x∈acc,p x) (he:p e):∀x∈c_ R i acc e,p x:=by
 unfold c_ BC
 split
 ·split
  ·exact h
  ·intro x hx
   rcases VH.mp hx with z|z
   ·exact h x z
   ·rw[VM.mp z];exact he
 ·exact h
theorem AO {p:Int×Str->Prop}{R:Int}{i:Nat}:∀{l acc:List (Int×Str)},(∀x∈acc,p x)->(∀x∈l,p x)->∀x∈l.foldl (c_ R i) acc,p x
 | [],_,h,_=>h
 | e::l,acc,h,hl=>AO (l:=l) (acc:=c_ R i acc e) (DF h (hl e (Vy ..))) fun x hx=>hl x (Vr _ hx)
theorem tZ {p:Int×Str->Prop}{R:Int}{D:List (List (List (Int×Str)))}(h:∀rows∈D,∀r∈rows,∀e∈r,p e):∀n:Nat,∀x∈fV R D n,p x
 | 0=>fun _ h=>absurd h We
 | n+1=>AO (tZ h n) fun x hx=>by
  obtain⟨r,hr,hx⟩:=VZ.mp hx
  cases e:D[n]? with
  | none=>rw[e]at hr;exact absurd hr We
  | some rows=>rw[e]at hr;exact h rows (Vk e) r hr x hx
theorem pH {R:Int}{i:Nat}:∀{l acc:List (Int×Str)},(l.foldl (c_ R i) acc).length<=acc.length+l.length
 | [],_=>Vt _
 | e::l,acc=>by
  have ih:=pH (R:=R) (i:=i) (l:=l) (acc:=c_ R i acc e)
  have:(c_ R i acc e).length<=acc.length+1:=by
   unfold c_ BC
   split
   ·split
    ·omega
    ·rw[Vm];exact Vt _
   ·omega
  show(l.foldl (c_ R i) (c_ R i acc e)).length<=acc.length+(l.length+1)
  omega
theorem lC {R:Int}{D:List (List (List (Int×Str)))}:∀n:Nat,(fV R D n).length <=(eE (D.take n)).length
 | 0=>VS _
 | n+1=>by
  have ih:=lC (R:=R) (D:=D) n
  refine Vv (show(fV R D (n+1)).length<=_ from pH) ?_
  cases e:D[n]? with
  | none =>
   have:D.take (n+1)=D.take n:=by rw[W9,e,Option.toList_none,V5]
   rw[this];exact ih
  | some rows =>
   rw[aV e]
   unfold eE at ih ⊢
   rw[Vo,Wo,Vm]
   show _+rows.flatten.length<=_ + [rows.flatten].flatten.length
   rw[List.flatten_singleton]
   omega
theorem qM {α:Type}{D:List (List (List (Int×α)))}{n:Nat}:(eE (D.take n)).length <=(eE D).length:=by
 conv=>rhs;rw[<- Wh n D]
 unfold eE
 rw[Vo,Wo,Vm]
 omega
theorem qc {R:Nat}{D:List (List (List (Int×Str)))}:((iV R D).map (·.1)).Nodup:=tX _
theorem BE {R:Nat}{D:List (List (List (Int×Str)))}:(iV R D).length <=(eE D).length:=Vv (lC _) qM
def eV (es:List (Int×Str)):List (Key×V):=(es.map vE).map kf
theorem Ew {e:Int×Str}{es:List (Int×Str)}:eV (e::es) =((Sum.inl e.1:Key),V.str e.2)::eV es:=rfl
theorem find_some {es:List (Int×Str)}{k:Int}:(L2.dz (eV es) (Sum.inl k:Key)).isSome=decide (k∈es.map (·.1)):=by
 induction es with
 | nil=>rfl
 | cons e es ih =>
  rw[Ew]
  unfold L2.dz at ih ⊢
  rw[List.find?_cons]
  by_cases c:e.1=k
  ·rw[VX (show((Sum.inl e.1:Key)=Sum.inl k) by rw[c]),VX (by rw[<- c];simp)];rfl
  ·rw[VR (show ¬((Sum.inl e.1:Key)=Sum.inl k) from fun z=>c (Sum.inl.inj z))]
   show(Option.map _ (List.find? _ (eV es))).isSome=_
   rw[ih,VY]
   by_cases g:k∈es.map (·.1)
   ·rw[VX g,VX (Vr _ g)]
   ·rw[VR g,VR fun z=>(VW.mp z).elim (fun q=>c q.symm) g]
theorem ED {es:List (Int×Str)}{k:Int}{z:Str}(h:k∉es.map (·.1)):putK (eV es) (Sum.inl k:Key) (.str z)=eV (es ++ [(k,z)]):=by
 have an:((eV es).any fun kv=>decide (kv.1 =(Sum.inl k:Key)))=false:=by
  rw[List.any_eq_false]
  intro kv hkv
  unfold eV at hkv
  obtain⟨e1,he1,rfl⟩:=Vq.mp hkv
  obtain⟨e2,he2,rfl⟩:=Vq.mp he1
  intro q
  have q:=WV q
  exact h (Vq.mpr ⟨e2,he2,Sum.inl.inj q⟩)
 unfold putK
 rw[an]
 unfold eV
 rw[Vo,Vo];rfl
theorem IX {H:Hp}{X:List (List (List V))}{p:Int×Str->Prop}(h:∀rows∈X,∀es∈rows,∀v∈es,p (eD H v)):∀rows∈yD H X,∀r∈rows,∀e∈r,p e:=fun rows hr r hr2 e he=>by
 unfold yD aL aI at hr
 obtain⟨x,hx,rfl⟩:=Vq.mp hr
 obtain⟨es,hes,rfl⟩:=Vq.mp hr2
 obtain⟨v,hv,rfl⟩:=Vq.mp he
 exact h x hx es hes v hv
theorem AZ {H:Hp}{X:List (List (List V))}{R:Nat}(en:gm H X):TX (iV R (yD H X)):=fun e he=>tZ (p:=fun e=>PyData.strOk e.2=true/\(0<=e.1/\e.1<1152921504606846976)/\e.2.length<=100) (IX fun rows hr es he v hv=>by
 obtain⟨_,_,_,h2,h3,h4,h5⟩:=(en rows hr es he v hv).pt
 exact⟨h2,⟨h3,h4⟩,h5⟩) _ e he
def mS (K:W.Frag):Sp:=fun vs H Q _=>∃(y:Addr) (w R:Nat) (X:List (List (List V))),vs=[.ref y]/\Yd H y w R X/\1<=w/\w<=8/\1<=R/\R<=130/\(dB X).length<=190/\(iV R (yD H X)).length<=63 /\
 ∀(t h:Addr) (rs:List Addr) (bss:List (List Addr)) (H':Hp),H' t=some (.tup [.int w,.int R,.ref h])->Sy (fun b=>H b=none) H' h rs bss->gm H' (XA H' bss)->QH (XA H' bss)->dG w R (iV R (yD H X)) (yD H' (XA H' bss))->aD H H'->Q (.ref t) H'
def iK (H:Hp) (X Z:List (List (List V))):Nat->List cu
 | 0=>[]
 | n+1=>iK H X Z n++jk H n (bY X n) (bY Z n)
def mX (X:List (List (List V))) (R:Nat):Nat->List Nat
 | 0=>[]
 | n+1=>mX X R n++(if bY X (R+n)=[] then [] else [R+n])
def wm (l:List Nat):List cu:=l.map fun r=>.cut r 0
def mC (H:Hp) (R:Nat) (X Z:List (List (List V))):List cu:=iK H X Z R++wm (mX X R (X.length-R)).reverse
theorem AF {X:List (List (List V))}{R i:Nat}:∀{n:Nat},i∈mX X R n↔R<=i/\i<R+n/\bY X i ≠ []
 | 0=>⟨fun h=>absurd h We,fun h=>absurd h.2.1 (by omega)⟩
 | n+1=>by
  have ih:=AF (X:=X) (R:=R) (i:=i) (n:=n)
  show i∈mX X R n++(if bY X (R+n)=[] then [] else [R+n])↔_
  rw[VH,ih]
  by_cases c:bY X (R+n)=[]
  ·rw[VB c]
   constructor
   ·rintro(h|h)
    ·exact⟨h.1,by omega,h.2.2⟩
    ·exact absurd h We
   ·rintro⟨h1,h2,h3⟩
    exact .inl ⟨h1,by
     by_cases e:i=R+n
     ·rw[e]at h3;exact absurd c h3
     ·omega,h3⟩
  ·rw[VF c,VM]
   constructor
   ·rintro(h|h)
    ·exact⟨h.1,by omega,h.2.2⟩
    ·rw[h];exact⟨by omega,by omega,c⟩
   ·rintro⟨h1,h2,h3⟩
    by_cases e:i=R+n
    ·exact .inr e
    ·exact .inl ⟨h1,by omega,h3⟩
theorem oQ {X:List (List (List V))}{R:Nat}:∀n:Nat,(mX X R n).length<=n
 | 0=>Vt _
 | n+1=>by
  have:=oQ (X:=X) (R:=R) n
  show(mX X R n++(if bY X (R+n)=[] then [] else [R+n])).length<=n+1
  rw[Vm]
  have:(if bY X (R+n)=[] then [] else [R+n]).length<=1:=by split <;> simp
  omega
theorem j4 {H:Hp}{X Z:List (List (List V))}(h:∀i,(bY Z i).length<=130):∀n:Nat,(iK H X Z n).length<=131*n
 | 0=>VS _
 | n+1=>by
  have a:=j4 (H:=H) (X:=X) h n
  have b:=lA (H:=H) (r:=n) (os:=bY X n) (ns:=bY Z n)
  have c:=h n
  show(iK H X Z n++jk H n (bY X n) (bY Z n)).length<=_
  rw[Vm];omega
theorem xo {H:Hp}{X:List (List (List V))}(en:gm H X) {i:Nat}:∀es∈bY X i,∀v∈es,En H v:=fun es he v hv=>by
 unfold bY at he
 cases e:X[i]? with
 | none=>rw[e]at he;exact absurd he We
 | some x=>rw[e]at he;exact en x (Vk e) es he v hv
theorem qm {H H':Hp}{X Z:List (List (List V))}(kt:∀t xs,H t=some (.tup xs)->H' t=some (.tup xs)) (eX:gm H X) (eZ:gm H Z):∀n:Nat,iK H' X Z n=iK H X Z n
 | 0=>rfl
 | n+1=>by
  show iK H' X Z n++jk H' n (bY X n) (bY Z n)=iK H X Z n++jk H n (bY X n) (bY Z n)
  rw[qm kt eX eZ n,oM kt (xo eX) (xo eZ)]
theorem oK {H:Hp}{Z:List (List (List V))}{w R:Nat}{es:List (Int×Str)}(cl:dG w R es (yD H Z)) (w1:1<=w) (w2:w<=8) (el:es.length<=129) (en:gm H Z) (i:Nat):cQ H (bY Z i):=by
 cases e:Z[i]? with
 | none=>unfold bY;rw[e];exact⟨by show 0<=130;omega,fun _ h=>absurd h We⟩
 | some rows =>
  obtain⟨s,p1,_,p3⟩:=cl.2 i (aL H rows) (by rw[pI,e];rfl)
  have sl:s.length<=es.length:=by rw[p1.length_eq];exact VL _ _
  have lr:=Wf List.length p3
  rw[dN]at lr
  have ea:bY Z i=rows:=by unfold bY;rw[e];rfl
  refine⟨by rw[ea,lr];exact Vv (dR w1) (by omega),fun e he=>⟨?_,xo en e he⟩⟩
  rw[ea]at he
  have hm:aI H e∈aM s w:=by rw[<- p3];exact Vq.mpr ⟨e,he,rfl⟩
  unfold aM at hm
  obtain⟨i,_,hi⟩:=Vq.mp hm
  have l:=Wf List.length hi
  unfold aI at l
  rw[Vw,Vi]at l
  omega
theorem BN {H:Hp}{ss:List Addr}{l:List Nat}(h:P1 (gE H) ss (wm l)):bB H ss=[]:=by
 refine List.filterMap_eq_nil_iff.mpr fun s hs=>?_
 obtain⟨i,hi⟩:=VE hs
 obtain⟨st,hst,h⟩:=h.get hi
 have hm:=Vk hst
 unfold wm at hm
 obtain⟨r,_,rfl⟩:=Vq.mp hm
 exact iS h.1
def qR (K:W.Frag):Sp:=fun vs H Q _=>∃(y:Addr) (w R:Nat) (X:List (List (List V))),vs=[.ref y]/\Yd H y w R X/\1<=w/\w<=8/\1<=R/\R<=130/\X.length<=130/\(∀i,cQ H (bY X i))/\(dB X).length<=190/\(iV R (yD H X)).length<=63 /\
 ∀(D:Addr) (ss:List Addr) (Z:List (List (List V))) (H':Hp),H D=none->H' D=some (.lst (ss.map V.ref))->gm H' Z->dG w R (iV R (yD H X)) (yD H' Z)->P1 (gE (hid D H')) ss (mC H' R X Z)->Frs H H' ss->aD H H'->Q (.ref D) H'
theorem tP {H:Hp}{X:List (List (List V))}:(eE (yD H X)).length =(dB X).length:=by rw[kg,Vi]
theorem wX {X:List (List (List V))}{n:Nat}:dB (pad X n)=dB X:=by
 unfold dB pad
 rw[Vo,Wo,List.map_replicate]
 have:(List.replicate (n-X.length) (([]:List (List V)).flatten)).flatten=[]:=by
  induction (n-X.length) with
  | zero=>rfl
  | succ k ih=>rw[List.replicate_succ,XF,ih];rfl
 rw[this,V5]
theorem vV {rows r:List (List V)}:∀{X:List (List (List V))}{i:Nat},X[i]? = some rows->(dB (X.set i r)).length+rows.flatten.length =(dB X).length+r.flatten.length
 | [],_,h=>by simp at h
 | x::X,0,h=>by
  have e:x=rows:=by simpa using h
  subst e
  show(r.flatten++dB X).length+x.flatten.length =(x.flatten++dB X).length+r.flatten.length
  rw[Vm,Vm];omega
 | x::X,i+1,h=>by
  have ih:=vV (r:=r) (X:=X) (i:=i) (by simpa using h)
  show(x.flatten++dB (X.set i r)).length+rows.flatten.length =(x.flatten++dB X).length+r.flatten.length
  rw[Vm,Vm];omega
theorem mV {X:List (List (List V))}:dB (trim X)=dB X:=by
 obtain⟨n,e⟩:=zj X
 have e2:X=pad (trim X) ((trim X).length+n):=by
  unfold pad
  rw[show(trim X).length+n-(trim X).length=n by omega];exact e
 conv=>rhs;rw[e2]
 rw[wX]
theorem AH {K:W.Frag}{S:Addr->Prop}{H:Hp}{y h:Addr}{w R:Int}{X:List (List (List V))}(hy:H y=some (.tup [.int w,.int R,.ref h])) (r:R3 S H h X) (e:gm H X):GD K H 5 (.ref y) (pY w R (yD H X)):=by
 have g:=r.gd (K:=K) e
 rw[M4 e]at g
 exact GD.tup hy (.cons (.int _) (.cons (.int _) (.cons g .nil)))
theorem Yd.pd {K:W.Frag}{H:Hp}{y:Addr}{w R:Int}{X:List (List (List V))}(h:Yd H y w R X):GD K H 5 (.ref y) (pY w R (yD H X)):=by
 obtain⟨t,h1,h2,h3,_⟩:=h
 exact AH h1 h2 h3
theorem aD.seqT {K:W.Frag}{H H':Hp}{a:Addr}{xs:List V}(e:aD H H') (h:gu K H a xs):gu K H' a xs:=by
 unfold gu at h ⊢
 rcases h with(h|⟨o,h⟩)|h
 ·exact .inl (.inl (e _ _ h))
 ·exact .inl (.inr ⟨o,e _ _ h⟩)
 ·exact .inr h
mutual
theorem DV.same {K:W.Frag}{H H':Hp}(s:aD H H'):∀{x:V}{d:PyData},DV K H x d->DV K H' x d
 | _,_,.non=>.non
 | _,_,.bl b=>.bl b
 | _,_,.int i=>.int i
 | _,_,.str x=>.str x
 | _,_,.lst h ds=>.lst (s.seq h) (rX.same s ds)
 | _,_,.tup h ds=>.tup (aD.seqT s h) (rX.same s ds)
theorem rX.same {K:W.Frag}{H H':Hp}(s:aD H H'):∀{xs:List V}{ds:List PyData},rX K H xs ds->rX K H' xs ds
 | _,_,.nil=>.nil
 | _,_,.cons h t=>.cons (DV.same s h) (rX.same s t)
end
def Q_:cu->Nat
 | .row _ _ es=>es.length
 | _=>0
def rls (sts:List cu):Nat:=(sts.map Q_).sum
theorem oV (a b:List cu):rls (a++b)=rls a+rls b:=by unfold rls;rw[Vo,List.sum_append_nat]
theorem AR (a:List cu):rls a.reverse=rls a:=by unfold rls;rw[Ww,List.sum_reverse]
theorem oR {H:Hp}{r:Nat}{os ns:List (List V)}:∀n:Nat,rls (unl H r os ns n) <=(ns.take n).flatten.length
 | 0=>by show 0<=_;omega
 | n+1=>by
  have ih:=oR (H:=H) (r:=r) (os:=os) (ns:=ns) n
  show rls (unl H r os ns n++_)<=_
  rw[oV,W9]
  cases h:ns[n]? with
  | none =>
   show rls (unl H r os ns n)+0 <=(ns.take n ++ []).flatten.length
   rw[V5];exact ih
  | some es =>
   have:rls (if mL H os es n=true then [cu.row r n es] else [])<=es.length:=by
    split
    ·exact Vt _
    ·exact VS _
   show rls (unl H r os ns n)+rls (if mL H os es n=true then [cu.row r n es] else []) <=(ns.take n ++ [es]).flatten.length
   rw[Wo,Vm,List.flatten_singleton]
   omega
theorem zd {H:Hp}{r:Nat}{os ns:List (List V)}:rls (jk H r os ns)<=ns.flatten.length:=by
 unfold jk
 rw[oV]
 have:=oR (H:=H) (r:=r) (os:=os) (ns:=ns) ns.length
 rw[VA]at this
 have z:rls (if os.length > ns.length then [cu.cut r ns.length] else [])=0:=by split <;> rfl
 omega
theorem xB {X:List (List (List V))}{r n:Nat}{f:List (List V)->List (List V)}(h:∀rows,X[r]? = some rows->(f rows).flatten.length<=rows.flatten.length+n):(dB (X.modify r f)).length <=(dB X).length+n:=by
 cases e:X[r]? with
 | none =>
  have:X.modify r f=X:=by
   apply Wg
   intro i
   rw[WG]
   split
   ·rename_i z;subst z;rw[e];rfl
   ·simp
  rw[this];omega
 | some rows =>
  have:X.modify r f=X.set r (f rows):=by
   apply Wg
   intro i
   rw[WG,W8]
   have hl:=(Vj.mp e).1
   by_cases z:r=i
   ·subst z;rw[e];simp[hl]
   ·simp[z]
  rw[this]
  have:=vV (r:=f rows) e
  have:=h rows e
  omega
theorem wD {es:List V}:∀{rows:List (List V)}{a:Nat},(rows.set a es).flatten.length<=rows.flatten.length+es.length
 | [],_=>by simp
 | x::rows,0=>by simp;omega
 | x::rows,a+1=>by
  have:=wD (es:=es) (rows:=rows) (a:=a)
  simp at this ⊢
  omega
theorem DG {rows:List (List V)}{n:Nat}:(pad rows n).flatten=rows.flatten:=by
 unfold pad
 rw[Wo]
 have:(List.replicate (n-rows.length) ([]:List V)).flatten=[]:=by
  induction (n-rows.length) with
  | zero=>rfl
  | succ k ih=>rw[List.replicate_succ,XF,ih];rfl
 rw[this,V5]
theorem Gm {X:List (List (List V))}(st:cu):(dB (lK X st)).length <=(dB X).length+Q_ st:=by
 cases st with
 | rooms n=>show(dB (trim X)).length<=_;rw[mV];exact Vt _
 | cut r m =>
  show(dB (trim (X.modify r (List.take m)))).length<=_
  rw[mV]
  exact xB fun rows _=>by
   have e:=Wf (fun z:List (List V)=>z.flatten.length) (Wh m rows)
   have e:(rows.take m++rows.drop m).flatten.length=rows.flatten.length:=e
   rw[Wo,Vm]at e
   omega
 | row r a es =>
  show(dB (trim (xU X r a es))).length<=_+es.length
  rw[mV]
  unfold xU
  refine Vv (xB (n:=es.length) fun rows _=>?_) (by rw[wX];exact Vt _)
  refine Vv wD ?_
  rw[DG];exact Vt _
theorem tM:∀(sts:List cu) (X:List (List (List V))),(dB (sts.foldl lK X)).length <=(dB X).length+rls sts
 | [],X=>by show _<=_+0;exact Vt _
 | st::sts,X=>by
  have h1:=tM sts (lK X st)
  have h2:=Gm (X:=X) st
  show(dB (sts.foldl lK (lK X st))).length<=_+(Q_ st+rls sts)
  omega
theorem Hh {α:Type} [DecidableEq α]:∀{l m:List α},l.Nodup->(∀x∈l,x∈m)->l.length<=m.length
 | [],_,_,_=>VS _
 | x::l,m,h,hs=>by
  obtain⟨h1,h2⟩:=V6.mp h
  have a:=Hh (l:=l) (m:=m.erase x) h2 fun y hy=>(List.mem_erase_of_ne (show y≠x from fun z=>h1 (by rw[<- z];exact hy))).mpr (hs y (Vr _ hy))
  rw[List.length_erase_of_mem (hs x (Vy ..))]at a
  have:=List.length_pos_of_mem (hs x (Vy ..))
  rw[Wk];omega
def Sm (X:List (List (List V))):Prop:=X.length<=14/\∀rows∈X,rows.length<=30/\∀es∈rows,es.length<=8
def yy (H:Hp) (sts:List cu):Prop:=∀r a es,cu.row r a es∈sts->r<=13/\a<=29/\es.length<=8/\((aI H es).map (·.1)).Nodup
theorem Sm.step {X:List (List (List V))}{st:cu}(h:Sm X) (hs:∀r a es,st = .row r a es->r<=13/\a<=29/\es.length<=8):Sm (lK X st):=by
 have q:=Ad (X:=X) (q:=fun es=>es.length<=8) (st:=st) (fun rows hr es he=>(h.2 rows hr).2 es he) (by simp) (fun r a es e=>(hs r a es e).2.2)
 refine⟨?_,fun rows hr=>⟨?_,q rows hr⟩⟩
 ·have h1:=h.1
  cases st with
  | rooms n=>exact Vv cj.2 h1
  | cut r m=>exact Vv cj.2 (by rw[XD];exact h1)
  | row r a es =>
   have h3:=(hs r a es rfl).1
   refine Vv cj.2 ?_
   unfold xU
   rw[XD,oU];omega
 ·cases st with
  | rooms n=>exact(h.2 rows (cj.1 rows hr)).1
  | cut r m =>
   rcases kj (cj.1 rows hr) with z|⟨x,hx,rfl⟩
   ·exact(h.2 rows z).1
   ·have:=(h.2 x hx).1
    rw[Vw];omega
  | row r a es =>
   have h4:=(hs r a es rfl).2.1
   have hp:∀rows∈pad X (r+1),rows.length<=30:=fun rows hr=>by
    rcases l9 hr with z|z
    ·exact(h.2 rows z).1
    ·rw[z];simp
   rcases kj (cj.1 rows hr) with z|⟨x,hx,rfl⟩
   ·exact hp rows z
   ·have:=hp x hx
    rw[Xm,oU];omega
theorem Sm.fold {H:Hp}:∀{sts:List cu}{X:List (List (List V))},Sm X->yy H sts->Sm (sts.foldl lK X)
 | [],_,h,_=>h
 | st::sts,X,h,g=>by
  have h1:Sm (lK X st):=h.step fun r a es e=>by
   obtain⟨a1,a2,a3,_⟩:=g r a es (by rw[e];exact Vy ..)
   exact⟨a1,a2,a3⟩
  exact Sm.fold (H:=H) (sts:=sts) (X:=lK X st) h1 fun r a es m=>g r a es (Vr _ m)
theorem yy.take {H:Hp}{sts:List cu}(g:yy H sts) (j:Nat):yy H (sts.take j):=fun r a es m=>g r a es (WH m)
theorem CL {H:Hp}{X:List (List (List V))}{sts:List cu}(h:Sm X) (g:yy H sts) (j:Nat):Sm (rK X sts j):=Sm.fold h (g.take j)
theorem IT {H:Hp}{X:List (List (List V))}{sts:List cu}(h:Im H X) (g:yy H sts) (j:Nat):Im H (rK X sts j) :=
 xW (q:=fun es:List V=>((aI H es).map fun e:Int×Str=>e.1).Nodup) .nil h fun r a es m=>(g r a es (WH m)).2.2.2
theorem uF {H:Hp}{r:Nat}{os ns:List (List V)}:∀(p:Nat) {r' a:Nat}{es:List V},cu.row r' a es∈unl H r os ns p->r'=r/\a<p/\es∈ns
 | 0,_,_,_,h=>by cases h
 | p+1,r',a,es,h=>by
  have h:cu.row r' a es∈unl H r os ns p++(match ns[p]? with|some es=>if mL H os es p=true then [cu.row r p es] else [] | none=>[]):=h
  rcases VH.mp h with h|h
  ·obtain⟨a1,a2,a3⟩:=uF p h
   exact⟨a1,by omega,a3⟩
  ·cases e:ns[p]? with
   | none=>rw[e]at h;cases h
   | some x =>
    rw[e]at h
    by_cases c:mL H os x p=true
    ·have h:cu.row r' a es ∈ [cu.row r p x]:=by simpa [c] using h
     cases VM.mp h
     exact⟨rfl,by omega,Vk e⟩
    ·have h:cu.row r' a es∈([]:List cu):=by simpa [c] using h
     cases h
theorem Jp {H:Hp}{r:Nat}{os ns:List (List V)}{r' a:Nat}{es:List V}(h:cu.row r' a es∈jk H r os ns):r'=r/\a<ns.length/\es∈ns:=by
 unfold jk at h
 rcases VH.mp h with h|h
 ·exact uF _ h
 ·split at h
  ·cases VM.mp h
  ·cases h
def P0 (H:Hp) (ns:List (List V)):Prop:=ns.length<=30/\∀es∈ns,es.length<=8/\((aI H es).map (·.1)).Nodup
theorem oY {H:Hp}{us:List V}{w:Nat}(w1:1<=w) (w2:w<=8) (ul:us.length<=28) (so:(aI H us).Pairwise fun a b=>a.1<b.1):P0 H (aM us w):=by
 refine⟨Vv (dR w1) (by omega),fun es he=>⟨?_,?_⟩⟩
 ·unfold aM at he
  obtain⟨i,_,rfl⟩:=Vq.mp he
  rw[Vw];omega
 ·refine wW so (w:=w) _ ?_
  rw[<- iM]
  exact Vq.mpr ⟨es,he,rfl⟩
theorem P0.on {H H0:Hp}{r:Nat}{os ns:List (List V)}(h:P0 H ns) (hr:r<=13):yy H (jk H0 r os ns):=fun r' a es m=>by
 obtain⟨rfl,a2,a3⟩:=Jp m
 obtain⟨b1,b2⟩:=h.2 es a3
 exact⟨hr,by have:=h.1;omega,b1,b2⟩
theorem P0.unl {H H0:Hp}{r:Nat}{os ns:List (List V)}(h:P0 H ns) (hr:r<=13):yy H (unl H0 r os ns ns.length).reverse:=fun r' a es m=>by
 obtain⟨rfl,a2,a3⟩:=uF _ (WS.mp m)
 obtain⟨b1,b2⟩:=h.2 es a3
 exact⟨hr,by have:=h.1;omega,b1,b2⟩
theorem yy.keep {H H':Hp}{sts:List cu}(kt:∀t xs,H t=some (.tup xs)->H' t=some (.tup xs)) (en:∀r a es,cu.row r a es∈sts->∀v∈es,En H v) (h:yy H sts):yy H' sts:=fun r a es m=>by
 rw[b6 kt (en r a es m)];exact h r a es m
section
variable {H:Hp}{X:List (List (List V))}{w R:Nat}{es:List (Int×Str)}
theorem Base.sm (b:Base H X w R es) (w2:w<=8) (R2:R<=13) (el:es.length<=24):Sm X:=by
 refine⟨by rw[b.xl];omega,fun rows hr=>?_⟩
 obtain⟨i,hi⟩:=VE hr
 have il:=(Vj.mp hi).1
 rw[b.xl]at il
 obtain⟨s,p2,p3,mo,p1⟩:=b.own il
 have ea:bY X i=rows:=by unfold bY;rw[hi];rfl
 rw[ea]at p3
 have sl:s.length<=24:=by rw[p1.length_eq];exact Vv (VL _ _) el
 have lr:=Wf List.length p3
 rw[dN]at lr
 refine⟨by rw[lr];exact Vv (dR b.w1) (by omega),fun e he=>?_⟩
 have hm:aI H e∈aM s w:=by rw[<- p3];exact Vq.mpr ⟨e,he,rfl⟩
 unfold aM at hm
 obtain⟨i,_,hi⟩:=Vq.mp hm
 have l:=Wf List.length hi
 unfold aI at l
 rw[Vw,Vi]at l
 omega
theorem Cn (cl:dG w R es (yD H X)) (nd:(es.map (·.1)).Nodup) (R1:1<=R) (w1:1<=w) (k:Int):(bJ X k R).flatten.length<=es.length:=by
 obtain⟨s,p1,p2,p3⟩:=B_ (k:=k) cl nd R1
 have e:(aI H (bJ X k R).flatten).length=s.length:=by rw[dm,p3,cC _ w1]
 unfold aI at e
 rw[Vi]at e
 rw[e,p1.length_eq]
 exact VL _ _
end
theorem Sm.ok {H:Hp}{X:List (List (List V))}(h:Sm X) (en:gm H X) (i:Nat):cQ H (bY X i):=by
 cases e:X[i]? with
 | none=>unfold bY;rw[e];exact⟨by show 0<=130;omega,fun _ h=>absurd h We⟩
 | some rows =>
  have hm:=Vk e
  have ea:bY X i=rows:=by unfold bY;rw[e];rfl
  rw[ea]
  obtain⟨a,b⟩:=h.2 rows hm
  exact⟨by omega,fun es he=>⟨by have:=b es he;omega,fun v hv=>en rows hm es he v hv⟩⟩
inductive tQ where
 | rooms (n:Int)
 | cut (r m:Nat)
 | row (r a:Nat) (es:List (Int×Str))
def n_ (H:Hp):cu->tQ
 | .rooms n=>.rooms n
 | .cut r m=>.cut r m
 | .row r a es=>.row r a (aI H es)
def Ot:tQ->PyData
 | .rooms n=>.tuple [.str "rooms",.int n]
 | .cut r m=>.tuple [.str "cut",.int r,.int m]
 | .row r a es=>.tuple [.str "row",.int r,.int a,oF es]
abbrev YD:=List (List (List (Int×Str)))
def qh (Y:YD) (i:Nat):List (List (Int×Str)):=(Y[i]?).getD []
def zC (r:Nat) (O N:List (List (Int×Str))):Nat->List tQ
 | 0=>[]
 | k+1=>zC r O N k++(match N[k]? with|some es=>if O[k]? = some es then [] else [tQ.row r k es] | none=>[])
def JY (r:Nat) (O N:List (List (Int×Str))):List tQ:=zC r O N N.length++(if O.length > N.length then [tQ.cut r N.length] else [])
theorem jF {H:Hp}{X:List (List (List V))}{i:Nat}:qh (yD H X) i=aL H (bY X i):=by
 unfold qh bY
 rw[pI]
 cases X[i]? <;> rfl
theorem Ak {H:Hp}{r:Nat}{os ns:List (List V)}:∀k:Nat,(unl H r os ns k).map (n_ H)=zC r (aL H os) (aL H ns) k
 | 0=>rfl
 | k+1=>by
  show(unl H r os ns k++(match ns[k]? with|some es=>if mL H os es k=true then [cu.row r k es] else [] | none=>[])).map (n_ H)=zC r (aL H os) (aL H ns) k++(match (aL H ns)[k]? with|some es=>if (aL H os)[k]? = some es then [] else [tQ.row r k es] | none=>[])
  rw[Vo,Ak k,sU,sU]
  congr 1
  cases ns[k]? with
  | none=>rfl
  | some es =>
   unfold mL
   cases os[k]? with
   | none=>simp[n_]
   | some o =>
    by_cases c:aI H o=aI H es
    ·simp[c]
    ·simp[c,n_]
theorem Ex {H:Hp}{r:Nat}{os ns:List (List V)}:(jk H r os ns).map (n_ H)=JY r (aL H os) (aL H ns):=by
 unfold jk JY
 rw[Vo,Ak,dN,dN]
 congr 1
 split <;> rfl
theorem jG {H H':Hp}(kt:∀t xs,H t=some (.tup xs)->H' t=some (.tup xs)) {sts:List cu}(en:∀r a es,cu.row r a es∈sts->∀v∈es,En H v):sts.map (n_ H')=sts.map (n_ H):=Wa fun st hs=>by
 cases st with
 | rooms n=>rfl
 | cut r m=>rfl
 | row r a es=>show tQ.row r a (aI H' es)=tQ.row r a (aI H es);rw[b6 kt (en r a es hs)]
theorem Hv {a:List (List V)}{s:List (Int×Str)}{w:Nat}{H:Hp}(h:aL H a=aM s w):a.length =(aM s w).length:=by rw[<- h,dN]
def Et (w R:Nat) (Y:YD) (way:Str) (k:Int) (z:Str) (sd:List tQ):Prop :=
 if way = "split" then sd=JY R [] (aM ((qh Y (tn R)).flatten.filter fun e=>decide (aE e.1 ((R+1:Nat):Int)=R)) w)++tQ.rooms (R+1)::JY (tn R) (qh Y (tn R)) (aM ((qh Y (tn R)).flatten.filter fun e=>decide (aE e.1 ((R+1:Nat):Int)=tn R)) w)
 else if way = "join" then ∃(R0:Nat) (u:List (Int×Str)),R=R0+1/\(u.Pairwise fun a b=>a.1<b.1)/\(∀x,x∈u↔x∈(qh Y (tn R0)).flatten\/x∈(qh Y R0).flatten)/\sd =(zC (tn R0) (qh Y (tn R0)) (aM u w) (aM u w).length).reverse ++ [tQ.rooms R0,tQ.cut R0 0]
 else if way = "drop" then sd=JY (aE k R).toNat (qh Y (aE k R).toNat) (aM ((qh Y (aE k R).toNat).flatten.filter fun e=>!decide (e.1=k)) w)
 else ∃u:List (Int×Str),(u.Pairwise fun a b=>a.1<b.1)/\(∀x,x∈u↔x =(k,z) \/(x∈(qh Y (aE k R).toNat).flatten/\x.1≠k))/\sd =(zC (aE k R).toNat (qh Y (aE k R).toNat) (aM u w) (aM u w).length).reverse
theorem Et.uniq {w R:Nat}{Y:YD}{way z:Str}{k:Int}{a b:List tQ}(ha:Et w R Y way k z a) (hb:Et w R Y way k z b):a=b:=by
 unfold Et at ha hb
 split at ha
 ·rw[VB ‹_›]at hb;rw[ha,hb]
 ·rw[VF ‹_›]at hb
  split at ha
  ·rw[VB ‹_›]at hb
   obtain⟨R0,u,e,p,m,rfl⟩:=ha
   obtain⟨R0',u',e',p',m',rfl⟩:=hb
   obtain rfl:R0=R0':=by omega
   rw[oS p p' fun x=>by rw[m,m']]
  ·rw[VF ‹_›]at hb
   split at ha
   ·rw[VB ‹_›]at hb;rw[ha,hb]
   ·rw[VF ‹_›]at hb
    obtain⟨u,p,m,rfl⟩:=ha
    obtain⟨u',p',m',rfl⟩:=hb
    rw[oS p p' fun x=>by rw[m,m']]
structure O2 (H:Hp) (w R:Nat) (Y:YD) (way:Str) (k:Int) (z:Str) (sts:List cu):Prop where
 ch:Et w R Y way k z (sts.map (n_ H))
 gs:yy H sts
 len:sts.length<=100
 rl:rls sts<=50
section
variable {H:Hp}{X:List (List (List V))}{w R:Nat}{es:List (Int×Str)}
theorem JV {H':Hp}{k:Int}{z:Str}(b:Base H X w R es) (hen:gm H X) (w2:w<=8) (el:es.length<=24) (R2:R<=12) (sm:aD H H'):O2 H' w R (yD H X) "split" k z (uT H R (bY X (tn R)) (aM (rE H (bY X (tn R)) ((R+1:Nat):Int) R) w) (aM (rE H (bY X (tn R)) ((R+1:Nat):Int) (tn R)) w)):=by
 have t:=pR b.R1
 obtain⟨ok,fl,s,so,hO,ef,mo⟩:=b.rows hen (by omega) (by omega) t.2
 have sl:s.length<=24:=by
  obtain⟨s2,p2,p3,mo2,p1⟩:=b.own t.2
  have:s=s2:=oS so p2 fun x=>by rw[mo,mo2]
  rw[this,p1.length_eq];exact Vv (VL _ _) el
 have gd:∀n:Int,aI H (rE H (bY X (tn R)) ((R+1:Nat):Int) n)=s.filter fun e=>decide (aE e.1 ((R+1:Nat):Int)=n):=fun n=>by
  rw[<- ef]
  unfold aI rE
  rw[XC];rfl
 have gl:∀n:Int,(rE H (bY X (tn R)) ((R+1:Nat):Int) n).length<=24:=fun n=>by
  have e:=Wf List.length (gd n)
  unfold aI at e
  rw[Vi]at e
  rw[e];exact Vv (VL _ _) sl
 have sp:UW H X w R es (aM (rE H (bY X (tn R)) ((R+1:Nat):Int) R) w) (aM (rE H (bY X (tn R)) ((R+1:Nat):Int) (tn R)) w) s _ _:=⟨b,so,hO,mo,rfl,rfl,by rw[iM,gd],by rw[iM,gd]⟩
 have kt:∀t xs,H t=some (.tup xs)->H' t=some (.tup xs):=fun _ _ e=>sm _ _ e
 have enr:∀es∈bY X (tn R),∀v∈es,En H v:=fun es he=>(ok.2 es he).2
 have g1:=oY (H:=H) b.w1 w2 (Vv (gl R) (by omega)) (by rw[gd];exact so.filter _)
 have g2:=oY (H:=H) b.w1 w2 (Vv (gl (tn R)) (by omega)) (by rw[gd];exact so.filter _)
 have f1:(aM (rE H (bY X (tn R)) ((R+1:Nat):Int) R) w).flatten.length<=24:=by rw[cC _ b.w1];exact gl _
 have f2:(aM (rE H (bY X (tn R)) ((R+1:Nat):Int) (tn R)) w).flatten.length<=24:=by rw[cC _ b.w1];exact gl _
 have eg:∀e∈aM (rE H (bY X (tn R)) ((R+1:Nat):Int) R) w,∀v∈e,En H v:=fun e he v hv=>AI enr v (cI he hv)
 have esn:∀e∈aM (rE H (bY X (tn R)) ((R+1:Nat):Int) (tn R)) w,∀v∈e,En H v:=fun e he v hv=>AI enr v (cI he hv)
 generalize aM (rE H (bY X (tn R)) ((R+1:Nat):Int) R) w=gN at sp g1 f1 eg ⊢
 generalize aM (rE H (bY X (tn R)) ((R+1:Nat):Int) (tn R)) w=sN at sp g2 f2 esn ⊢
 have rowsIn:∀r a e,cu.row r a e∈uT H R (bY X (tn R)) gN sN->cu.row r a e∈jk H R [] gN\/cu.row r a e∈jk H (tn R) (bY X (tn R)) sN:=fun r a e m=>by
  unfold uT at m
  rcases VH.mp m with m|m
  ·exact .inl m
  ·rcases VW.mp m with m|m
   ·cases m
   ·exact .inr m
 have enm:∀r a e,cu.row r a e∈uT H R (bY X (tn R)) gN sN->∀v∈e,En H v:=fun r a e m=>by
  rcases rowsIn r a e m with z|z
  ·exact eg e (vf z)
  ·exact esn e (vf z)
 refine⟨?_,yy.keep kt enm fun r a e m=>?_,?_,?_⟩
 ·rw[jG kt enm]
  unfold Et
  rw[VB rfl]
  unfold uT
  rw[Vo,VY,Ex,Ex,sp.hg,sp.hs,jF,<- dm,ef]
  rfl
 ·rcases rowsIn r a e m with z|z
  ·exact g1.on (by omega) r a e z
  ·exact g2.on (by omega) r a e z
 ·unfold uT
  rw[Vm,Wk]
  have:=lA (H:=H) (r:=R) (os:=[]) (ns:=gN)
  have:=lA (H:=H) (r:=tn R) (os:=bY X (tn R)) (ns:=sN)
  have:=g1.1
  have:=g2.1
  omega
 ·unfold uT
  rw[oV]
  have a:=zd (H:=H) (r:=R) (os:=[]) (ns:=gN)
  have c:=zd (H:=H) (r:=tn R) (os:=bY X (tn R)) (ns:=sN)
  show _+(0+rls (jk H (tn R) (bY X (tn R)) sN))<=50
  omega
theorem Lv {H':Hp}{us:List V}{k:Int}{z:Str}(b:Base H X w (R+1) es) (hen:gm H X) (w2:w<=8) (el:es.length<=24) (R1:1<=R) (R2:R<=11) (pu:us.Perm ((bY X (tn R)).flatten++(bY X R).flatten)) (su:(aI H us).Pairwise fun a b=>a.1<b.1) (sm:aD H H'):O2 H' w (R+1) (yD H X) "join" k z (u_ H R (bY X (tn R)) (aM us w)):=by
 have t:=pR R1
 obtain⟨ok,_,s,so,hO,ef,mo⟩:=b.rows hen (by omega) (by omega) (i:=tn R) (by omega)
 obtain⟨ok2,_,s2,so2,_,ef2,mo2⟩:=b.rows hen (by omega) (by omega) (i:=R) (by omega)
 have mu:∀x,x∈aI H us↔x∈s\/x∈s2:=fun x=>by
  have:=(pu.map (eD H)).mem_iff (a:=x)
  unfold aI
  rw[this,Vo,VH,<- ef,<- ef2];rfl
 have jo:U6 H X w R es (aM us w) s (aI H us):=⟨b,R1,so,hO,mo,su,fun x=>by
  rw[mu,mo,mo2]
  exact⟨fun q=>q.elim (fun z=>⟨z.1,.inl z.2⟩) fun z=>⟨z.1,.inr z.2⟩,fun q=>q.2.elim (fun z=>.inl ⟨q.1,z⟩) fun z=>.inr ⟨q.1,z⟩⟩,iM⟩
 have ul:us.length<=24:=by
  have e:us.length =(aI H us).length:=by unfold aI;rw[Vi]
  rw[e]
  refine Vv ?_ el
  have nd:(aI H us).Nodup:=su.imp fun h z=>by rw[z]at h;omega
  exact Hh nd fun x hx=>((jo.mb x).mp hx).1
 have kt:∀t xs,H t=some (.tup xs)->H' t=some (.tup xs):=fun _ _ e=>sm _ _ e
 have enu:∀e∈aM us w,∀v∈e,En H v:=fun e he v hv=>by
  rcases VH.mp (pu.mem_iff.mp (cI he hv)) with hv|hv
  ·obtain⟨es,he,hm⟩:=VZ.mp hv
   exact(ok.2 es he).2 v hm
  ·obtain⟨es,he,hm⟩:=VZ.mp hv
   exact(ok2.2 es he).2 v hm
 have g1:=oY (H:=H) b.w1 w2 (Vv ul (by omega)) su
 have f1:(aM us w).flatten.length<=24:=by rw[cC _ b.w1];exact ul
 generalize aM us w=ns at jo enu g1 f1 ⊢
 have rowsIn:∀r a e,cu.row r a e∈u_ H R (bY X (tn R)) ns->cu.row r a e∈(unl H (tn R) (bY X (tn R)) ns ns.length).reverse:=fun r a e m=>by
  unfold u_ at m
  rcases VH.mp m with m|m
  ·exact m
  ·simp at m
 have enm:∀r a e,cu.row r a e∈u_ H R (bY X (tn R)) ns->∀v∈e,En H v:=fun r a e m=>enu e (qy _ (WS.mp (rowsIn r a e m)))
 refine⟨?_,yy.keep kt enm fun r a e m=>g1.unl (by omega) r a e (rowsIn r a e m),?_,?_⟩
 ·rw[jG kt enm]
  unfold Et
  rw[VF (by z_go),VB rfl]
  refine⟨R,aI H us,rfl,su,fun x=>?_,?_⟩
  ·rw[mu,jF,jF,<- dm,<- dm,ef,ef2]
  ·unfold u_
   rw[Vo,Ww,Ak,jo.hb,jF,<- Hv jo.hb]
   rfl
 ·unfold u_
  rw[Vm,V3]
  have:=j6 (H:=H) (r:=tn R) (os:=bY X (tn R)) (ns:=ns) ns.length
  have:=g1.1
  simp
  omega
 ·unfold u_
  rw[oV,AR]
  have:=oR (H:=H) (r:=tn R) (os:=bY X (tn R)) (ns:=ns) ns.length
  rw[VA]at this
  show _+0<=50
  omega
theorem GN {H':Hp}{k:Int}{z:Str}(b:Base H X w R es) (hen:gm H X) (w2:w<=8) (el:es.length<=24) (R2:R<=12) (hk:k∈es.map (·.1)) (sm:aD H H'):O2 H' w R (yD H X) "drop" k z (jk H (aE k R).toNat (bJ X k R) (aM (fE H (bJ X k R) k) w)):=by
 have kt:∀t xs,H t=some (.tup xs)->H' t=some (.tup xs):=fun _ _ e=>sm _ _ e
 obtain⟨rok,rl,rnd,rs,rm⟩:=D6 (k:=k) b.cl b.nd hen b.w1 (by omega) b.R1 (by omega)
 have ol:=Cn b.cl b.nd b.R1 b.w1 k
 have ooe:=vc (k:=k) (p9 (k:=k) (R:=R) hen)
 have hN:aL H (aM (fE H (bJ X k R) k) w)=aM ((aI H (bJ X k R).flatten).filter fun e=>!decide (e.1=k)) w:=by
  rw[<- qZ,iM]
 have sn:=rs.filter fun e=>!decide (e.1=k)
 have lo:(fE H (bJ X k R) k).length<=24:=by
  have:(fE H (bJ X k R) k).length <=(bJ X k R).flatten.length:=by unfold fE;exact VL _ _
  omega
 have g:=oY (H:=H) b.w1 w2 (Vv lo (by omega)) (by rw[qZ];exact sn)
 have f1:(aM (fE H (bJ X k R) k) w).flatten.length<=24:=by rw[cC _ b.w1];exact lo
 have R1:=b.R1
 have rb:=fK (k:=k) (R:=(R:Int)) (by omega)
 have enn:∀e∈aM (fE H (bJ X k R) k) w,∀v∈e,En H v:=fun e he v hv=>ooe v (cI he hv)
 generalize aM (fE H (bJ X k R) k) w=ns at hN g f1 enn ⊢
 have enm:∀r a e,cu.row r a e∈jk H (aE k R).toNat (bJ X k R) ns->∀v∈e,En H v:=fun r a e m=>enn e (vf m)
 refine⟨?_,yy.keep kt enm (g.on (by omega)),?_,?_⟩
 ·rw[jG kt enm]
  unfold Et
  rw[VF (by z_go),VF (by z_go),VB rfl,Ex,hN,jF,<- dm]
  rfl
 ·have:=lA (H:=H) (r:=(aE k R).toNat) (os:=bJ X k R) (ns:=ns)
  have:=g.1
  omega
 ·exact Vv zd (by omega)
theorem CZ {H':Hp}{way:Str}{k:Int}{z:Str}{t:Addr}{us:List V}(hw:way = "put" \/ way = "lay") (b:Base H X w R es) (hen:gm H X) (w2:w<=8) (el:es.length<=24) (R2:R<=12) (sm:aD H H') (ht:H' t=some (.tup [.int k,.str z])) (pu:us.Perm (fE H (bJ X k R) k ++ [.ref t])) (su:(aI H' us).Pairwise fun a b=>a.1<b.1):O2 H' w R (yD H X) way k z (unl H' (aE k R).toNat (bJ X k R) (aM us w) (aM us w).length).reverse:=by
 have kt:∀t xs,H t=some (.tup xs)->H' t=some (.tup xs):=fun _ _ e=>sm _ _ e
 have cl':dG w R es (yD H' X):=by rw[cX kt hen];exact b.cl
 have ol:=Cn b.cl b.nd b.R1 b.w1 k
 obtain⟨rok,rl,rnd,rs,rm⟩:=D6 (k:=k) b.cl b.nd hen b.w1 (by omega) b.R1 (by omega)
 have ooe:=vc (k:=k) (p9 (k:=k) (R:=R) hen)
 have hN:aL H' (aM us w)=aM (aI H' us) w:=iM
 have mu:∀x,x∈aI H' us↔x =(k,z) \/(x∈aI H (bJ X k R).flatten/\x.1≠k):=fun x=>by
  have e1:(aI H' us).Perm (aI H' (fE H (bJ X k R) k ++ [.ref t])):=pu.map _
  have e2:aI H' (fE H (bJ X k R) k ++ [.ref t]) =(aI H (bJ X k R).flatten).filter (fun e=>!decide (e.1=k)) ++ [(k,z)]:=by
   rw[<- qZ,<- b6 kt ooe]
   unfold aI
   rw[Vo]
   show _ ++ [eD H' (.ref t)]=_
   rw[oz ht]
  rw[e1.mem_iff,e2,VH,Wi,VM]
  simp
  exact Or.comm
 have lo:us.length<=25:=by
  have:(fE H (bJ X k R) k).length <=(bJ X k R).flatten.length:=by unfold fE;exact VL _ _
  rw[pu.length_eq,Vm,Wn]
  omega
 have g:=oY (H:=H') b.w1 w2 (Vv lo (by omega)) su
 have f1:(aM us w).flatten.length<=25:=by rw[cC _ b.w1];exact lo
 have R1:=b.R1
 have rb:=fK (k:=k) (R:=(R:Int)) (by omega)
 generalize aM us w=ns at hN g f1 ⊢
 refine⟨?_,g.unl (by omega),?_,?_⟩
 ·unfold Et
  rw[VF (by rcases hw with rfl|rfl <;> z_go),VF (by rcases hw with rfl|rfl <;> z_go),VF (by rcases hw with rfl|rfl <;> z_go)]
  refine⟨aI H' us,su,fun x=>?_,?_⟩
  ·rw[mu,jF,<- dm];rfl
  ·rw[Ww,Ak,jF,<- Hv hN,hN]
   show _ =(zC _ (aL H (bJ X k R)) _ _).reverse
   rw[nQ kt (p9 hen)]
 ·rw[V3]
  have:=j6 (H:=H') (r:=(aE k R).toNat) (os:=bJ X k R) (ns:=ns) ns.length
  have:=g.1
  omega
 ·rw[AR]
  have:=oR (H:=H') (r:=(aE k R).toNat) (os:=bJ X k R) (ns:=ns) ns.length
  rw[VA]at this
  omega
end
structure Kx (S:Addr->Prop) (H H':Hp):Prop where
 ke:∀b o,H b=some o->¬ S b->H' b=some o
 kt:∀t xs,H t=some (.tup xs)->H' t=some (.tup xs)
 fr:∀b,H' b=none->H b=none
theorem Kx.refl {S:Addr->Prop}{H:Hp}:Kx S H H:=⟨fun _ _ e _=>e,fun _ _ e=>e,fun _ e=>e⟩
theorem Kx.trans {S:Addr->Prop}{H H1 H2:Hp}(a:Kx S H H1) (b:Kx S H1 H2):Kx S H H2:=⟨fun x o e n=>b.ke x o (a.ke x o e n) n,fun t xs e=>b.kt t xs (a.kt t xs e),fun x e=>a.fr x (b.fr x e)⟩
theorem Kx.of {S:Addr->Prop}{H H':Hp}(s:aD H H'):Kx S H H':=⟨fun x o e _=>s x o e,fun t xs e=>s t _ e,fun x e=>s.free e⟩
theorem Kx.upd {S:Addr->Prop}{H:Hp}{a:Addr}{xs ys:List V}(sa:S a) (h:H a=some (.lst xs)):Kx S H (upd H a (.lst ys)):=⟨fun b o e n=>by rw[ao (show b≠a from fun z=>n (by rw[z];exact sa))];exact e,fun t zs e=>by rw[ao (ju e h (by intro z;cases z))];exact e,fun b e=>by
 by_cases c:b=a
 ·rw[c,aq]at e;cases e
 ·rw[ao c]at e;exact e⟩
theorem Kx.weak {S S':Addr->Prop}{H H':Hp}(w:∀b,S b->S' b) (k:Kx S H H'):Kx S' H H':=⟨fun b o e n=>k.ke b o e fun z=>n (w b z),k.kt,k.fr⟩
def wg (S:Addr->Prop) (H:Hp) (h:Addr) (bs:List Addr) (i L:Nat):Prop:=∀(j:Nat) (b:Addr),i<=j->bs[j]? = some b->S b/\∃as:List Addr,H b=some (.lst (as.map V.ref))/\as.length<=150/\∀a∈as,S a/\a≠h/\a∉bs/\∃es,H a=some (.lst es)/\es.length<=L
theorem wg.same {S:Addr->Prop}{H H':Hp}{h:Addr}{bs:List Addr}{i L:Nat}(s:aD H H') (u:wg S H h bs i L):wg S H' h bs i L:=fun j b ij hb=>by
 obtain⟨sb,as,h1,h2,h3⟩:=u j b ij hb
 refine⟨sb,as,s _ _ h1,h2,fun a ha=>?_⟩
 obtain⟨a1,a2,a3,es,a4,a5⟩:=h3 a ha
 exact⟨a1,a2,a3,es,s _ _ a4,a5⟩
theorem wg.row {S:Addr->Prop}{H:Hp}{h a:Addr}{bs:List Addr}{i L:Nat}{ys:List V}(an:a∉bs) (yl:ys.length<=L+1) (u:wg S H h bs i L):wg S (upd H a (.lst ys)) h bs i (L+1):=fun j b ij hb=>by
 obtain⟨sb,as,h1,h2,h3⟩:=u j b ij hb
 refine⟨sb,as,by rw[ao (show b≠a from fun z=>an (by rw[<- z];exact Vk hb))];exact h1,h2,fun x hx=>?_⟩
 obtain⟨a1,a2,a3,es,a4,a5⟩:=h3 x hx
 by_cases c:x=a
 ·rw[c]at a1 a2 a3 ⊢
  exact⟨a1,a2,a3,ys,aq,yl⟩
 ·exact⟨a1,a2,a3,es,by rw[ao c];exact a4,by omega⟩
theorem wg.next {S:Addr->Prop}{H:Hp}{h b:Addr}{bs:List Addr}{i L:Nat}{o:HO}(nd:bs.Nodup) (hb:bs[i]? = some b) (u:wg S H h bs i L):wg S (upd H b o) h bs (i+1) L:=fun j c ij hc=>by
 obtain⟨sb,as,h1,h2,h3⟩:=u j c (by omega) hc
 have cb:c≠b:=fun z=>by
  obtain⟨l1,e1⟩:=Vj.mp hb
  obtain⟨l2,e2⟩:=Vj.mp hc
  have:=(List.getElem_inj (h₀:=l2) (h₁:=l1) nd).mp (by rw[e1,e2,z])
  omega
 refine⟨sb,as,by rw[ao cb];exact h1,h2,fun x hx=>?_⟩
 obtain⟨a1,a2,a3,es,a4,a5⟩:=h3 x hx
 exact⟨a1,a2,a3,es,by rw[ao (show x≠b from fun z=>a3 (by rw[z];exact Vk hb))];exact a4,a5⟩
def BX (S:Addr->Prop) (H:Hp) (h:Addr) (bs:List Addr):Prop:=S h/\H h=some (.lst (bs.map V.ref))/\bs.Nodup/\h∉bs/\bs.length<=150/\wg S H h bs 0 20
def rL (K:W.Frag):Sp:=fun vs H Q _=>∃(y h:Addr) (w R:Int) (bs:List Addr) (S:Addr->Prop),vs=[.ref y]/\H y=some (.tup [.int w,.int R,.ref h])/\BX S H h bs /\
 ∀H',Kx S H H'->Q .non H'
theorem gw {n:Nat}(h:n<=20000):n<sizeLine:=WN h (by decide)
def dW (H H':Hp):Hp:=fun b=>match H b with
 | none=>H' b
 | some (.tup xs)=>some (.tup xs)
 | some _=>none
theorem e8 {H H':Hp}{b:Addr}(n:H b=none):dW H H' b=H' b:=by unfold dW;rw[n]
theorem l_ {H H':Hp}{b:Addr}{xs:List V}(n:H b=some (.tup xs)):dW H H' b=some (.tup xs):=by unfold dW;rw[n]
theorem fS {H H':Hp}{b:Addr}{xs:List V}(n:H b=some (.lst xs)):dW H H' b=none:=by unfold dW;rw[n]
theorem cK {H H':Hp}(kt:∀t xs,H t=some (.tup xs)->H' t=some (.tup xs)):aD (dW H H') H':=fun b o e=>by
 unfold dW at e
 cases c:H b with
 | none=>rw[c]at e;exact e
 | some u =>
  rw[c]at e
  cases u <;> first|cases e|skip
  exact kt _ _ c
theorem CA {H H1 H2:Hp}(k:∀b o,H b=none->H1 b=some o->H2 b=some o):aD (dW H H1) (dW H H2):=fun b o e=>by
 unfold dW at e ⊢
 cases c:H b with
 | none=>rw[c]at e;exact k b o c e
 | some u =>
  rw[c]at e
  cases u <;> first|cases e|skip
  rfl
def jU (K:W.Frag):Sp:=fun vs H Q _=>∃(D:Addr) (ss:List Addr) (sts:List cu),vs=[.ref D]/\H D=some (.lst (ss.map V.ref))/\P1 (gE H) ss sts/\ss.length<=20000 /\
 ∀(D':Addr) (ss':List Addr) (H':Hp),H D'=none->H' D'=some (.lst (ss'.map V.ref))->P1 (gE (dW H H')) ss' sts->aD H H'->Q (.ref D') H'
def gr (K:W.Frag):Sp:=fun vs H Q _=>∃(D:Addr) (ss:List Addr) (sts:List cu),vs=[.ref D]/\H D=some (.lst (ss.map V.ref))/\P1 (gE H) ss sts/\ss.length<=20000/\(bB H ss).Nodup/\D∉bB H ss /\
 ∀H',Kx (fun b=>b=D\/b∈bB H ss) H H'->Q (.bl true) H'
theorem qQ {H:Hp}{ss:List Addr}{sts:List cu}(h:P1 (gE H) ss sts):∀l∈bB H ss,∃es,H l=some (.lst es)/\es.length<=8/\∀v∈es,En H v:=fun l hl=>by
 obtain⟨s,hs,e⟩:=Xi.mp hl
 obtain⟨i,hi⟩:=VE hs
 obtain⟨st,_,h⟩:=h.get hi
 cases st with
 | rooms n=>rw[gH h.1]at e;cases e
 | cut r m=>rw[iS h.1]at e;cases e
 | row r a es =>
  obtain⟨l',h1,h2,_,_,h5,h6⟩:=h
  rw[mK h1]at e;cases e
  exact⟨es,h2,h5,h6⟩
theorem tw {as:List Addr}{k:Nat}:iE (as.map V.ref) (some (k:Int)) none =(as.drop k).map V.ref:=by
 unfold iE
 rw[HT.sIx_nat,HT.sIx_none,Vi,<- XQ]
 by_cases h:k<=as.length
 ·rw[WM h,V8 (by rw[Vi,Wj];omega)]
 ·rw[Wl (by omega:as.length<=min k as.length),Wl (by omega:as.length<=k)];simp
theorem sY {H:Hp}{ss:List Addr}:(bB H ss).length<=ss.length:=List.length_filterMap_le _ _
def Way (way:Str) (R:Nat) (es:List (Int×Str)) (k:Int):Prop:=way = "split" \/(way = "join"/\2<=R) \/(way = "drop"/\k∈es.map (·.1))\/way = "put" \/ way = "lay"
def gk (K:W.Frag):Sp:=fun vs H Q _=>∃(y:Addr) (w R:Nat) (X:List (List (List V))) (es:List (Int×Str)) (way z:Str) (k:Int),vs=[.ref y,.str way,.int k,.str z]/\Yd H y w R X/\Base H X w R es/\es.length<=24/\w<=8/\R<=12/\(0<=k/\k<1152921504606846976)/\(PyData.strOk z=true/\z.length<=100)/\Way way R es k /\
 ∀(D:Addr) (ss:List Addr) (sts:List cu) (H':Hp),H D=none->H' D=some (.lst (ss.map V.ref))->P1 (gE (hid D H')) ss sts->O2 H' w R (yD H X) way k z sts->Frs H H' ss->aD H H'->Q (.ref D) H'
theorem Fj {K:W.Frag}{H:Hp}{l:Addr}{ts:List Addr}{ps:List (Int×Str)}(hl:H l=some (.lst (ts.map V.ref))) (el:EL H ts ps):GD K H 2 (.ref l) (.list (ps.map pE)):=by
 have:=GD.lst (K:=K) hl (qF el.en)
 rw[show PyData.list ((ts.map V.ref).map (dE H))=BH H (ts.map V.ref) from rfl,j5 el.en,el.row]at this
 exact this
theorem KL (es:List (Int×Str)):PyData.eqv (.list (es.map pE)) (.list [])=decide (es=[]):=by
 cases es with
 | nil=>rfl
 | cons e es=>rw[VY,PyData.eqv,VR (by simp)];rfl
def Bj (way:Str) (R:Int) (es:List (Int×Str)):Prop:=way = "split" \/(way = "join"/\R≠1) \/(way = "drop"/\es ≠ [])\/way = "put" \/(way = "lay"/\es ≠ [])
def lX (K:W.Frag):Sp:=fun vs H Q _=>∃(p l:Addr) (N:Nat) (R:Int) (ts:List Addr) (es:List (Int×Str)),vs=[.ref p,.int R,.ref l]/\Hand H p N/\N+10<2^60/\H l=some (.lst (ts.map V.ref))/\EL H ts es /\
 ∀(way:Str) (H':Hp),Bj way R es->Hand H' p (N+1)->Kp H H' p->Q (.str way) H'
def jz (K:W.Frag):Sp:=fun vs H Q _=>∃(p l:Addr) (N:Nat) (R:Int) (way:Str) (ts:List Addr) (es:List (Int×Str)),vs=[.ref p,.str way,.ref l]/\Hand H p N/\N+100<2^60/\Bj way R es/\H l=some (.lst (ts.map V.ref))/\EL H ts es/\es.length<=63 /\
 ∀(k:Int) (H':Hp),0<=k->k<1152921504606846976->(way = "drop"->k∈es.map (·.1))->Hand H' p (N+50)->Kp H H' p->Q (.int k) H'
theorem lY {α β:Type}{f:List α->List β}(hf:∀r,(f r).isEmpty=r.isEmpty) (X:List (List α)):(trim X).map f=trim (X.map f):=by
 unfold trim
 rw[Ww]
 congr 1
 rw[<- Ww]
 generalize X.reverse=Z
 induction Z with
 | nil=>rfl
 | cons a Z ih =>
  rw[VY,List.dropWhile_cons,List.dropWhile_cons,hf]
  split
  ·exact ih
  ·rfl
theorem Ai {α β:Type}{f:List α->List β}(hf:f []=[]) (X:List (List α)) (n:Nat):(pad X n).map f=pad (X.map f) n:=by
 unfold pad
 rw[Vo,List.map_replicate,hf,Vi]
theorem Ax {α β:Type}{f:α->β}{g:α->α}{g':β->β}(h:∀x,f (g x)=g' (f x)) (X:List α) (r:Nat):(X.modify r g).map f =(X.map f).modify r g':=by
 refine Wg fun i=>?_
 rw[Vp,WG,WG,Vp]
 cases X[i]? with
 | none=>rfl
 | some x =>
  by_cases c:r=i
  ·simp[c,h]
  ·simp[c]
def Hl (Y:YD):tQ->YD
 | .rooms _=>trim Y
 | .cut r m=>trim (Y.modify r (List.take m))
 | .row r a es=>trim ((pad Y (r+1)).modify r fun rows=>(pad rows (a+1)).set a es)
def zb (R:Int):tQ->Int
 | .rooms n=>n
 | _=>R
theorem jj {H:Hp}(r:List (List V)):(aL H r).isEmpty=r.isEmpty:=by unfold aL;cases r <;> rfl
theorem N5 {H:Hp}{X:List (List (List V))}(st:cu):yD H (lK X st)=Hl (yD H X) (n_ H st):=by
 cases st with
 | rooms n=>exact lY jj X
 | cut r m =>
  show(trim (X.modify r (List.take m))).map (aL H)=_
  rw[lY jj,Ax (g':=List.take m) fun x=>by unfold aL;rw[Xd]];rfl
 | row r a es =>
  show(trim ((pad X (r+1)).modify r fun rows=>(pad rows (a+1)).set a es)).map (aL H)=_
  rw[lY jj,Ax (g':=fun rows=>(pad rows (a+1)).set a (aI H es)) fun x=>?_,Ai rfl]
  ·rfl
  ·show((pad x (a+1)).set a es).map (aI H) =(pad (x.map (aI H)) (a+1)).set a (aI H es)
   rw[List.map_set,Ai rfl]
theorem vM {H:Hp}:∀(sts:List cu) (X:List (List (List V))),yD H (sts.foldl lK X) =(sts.map (n_ H)).foldl Hl (yD H X)
 | [],_=>rfl
 | st::sts,X=>by
  show yD H (sts.foldl lK (lK X st)) =(sts.map (n_ H)).foldl Hl (Hl (yD H X) (n_ H st))
  rw[vM sts,N5]
theorem pN {H:Hp}:∀(sts:List cu) (R:Int),sts.foldl u6 R =(sts.map (n_ H)).foldl zb R
 | [],_=>rfl
 | st::sts,R=>by
  show sts.foldl u6 (u6 R st) =(sts.map (n_ H)).foldl zb (zb R (n_ H st))
  rw[pN (H:=H) sts]
  cases st <;> rfl
def uL (Y Z:YD):Nat->List tQ
 | 0=>[]
 | n+1=>uL Y Z n++JY n (qh Y n) (qh Z n)
def EI (Y:YD) (R:Nat):Nat->List Nat
 | 0=>[]
 | n+1=>EI Y R n++(if qh Y (R+n)=[] then [] else [R+n])
def Ec (R:Nat) (Y Z:YD):List tQ:=uL Y Z R++(EI Y R (Y.length-R)).reverse.map fun r=>tQ.cut r 0
theorem Hs {H:Hp}{X:List (List (List V))}{R:Nat}:∀n,mX X R n=EI (yD H X) R n
 | 0=>rfl
 | n+1=>by
  show mX X R n++(if bY X (R+n)=[] then [] else [R+n])=EI (yD H X) R n++(if qh (yD H X) (R+n)=[] then [] else [R+n])
  rw[Hs (H:=H) n,jF]
  unfold aL
  simp only[List.map_eq_nil_iff]
theorem Au {H:Hp}{X Z:List (List (List V))}:∀n,(iK H X Z n).map (n_ H)=uL (yD H X) (yD H Z) n
 | 0=>rfl
 | n+1=>by
  show(iK H X Z n++jk H n (bY X n) (bY Z n)).map (n_ H)=uL (yD H X) (yD H Z) n++JY n (qh (yD H X) n) (qh (yD H Z) n)
  rw[Vo,Au n,Ex,jF,jF]
theorem Jw {H:Hp}{X Z:List (List (List V))}{R:Nat}:(mC H R X Z).map (n_ H)=Ec R (yD H X) (yD H Z):=by
 unfold mC Ec wm
 rw[Vo,Au,V4,Hs (H:=H)]
 have e:(yD H X).length=X.length:=by unfold yD;rw[Vi]
 rw[e];rfl
theorem OL {H:Hp}{st:cu}(en:∀r a es,st = .row r a es->∀v∈es,En H v):Qv H st=Ot (n_ H st):=by
 cases st with
 | rooms n=>rfl
 | cut r m=>rfl
 | row r a es =>
  show PyData.tuple [.str "row",.int r,.int a,BH H es]=PyData.tuple [.str "row",.int r,.int a,oF (aI H es)]
  rw[j5 (en r a es rfl)]
theorem iL {K:W.Frag}{H:Hp}{D:Addr}{ss:List Addr}{sts:List cu}(hD:H D=some (.lst (ss.map V.ref))) (hP:P1 (gE H) ss sts):GD K H 6 (.ref D) (.list ((sts.map (n_ H)).map Ot)):=by
 have g:GD K H 6 (.ref D) (.list (sts.map (Qv H))):=GD.lst hD (j_ hP fun a x _ h=>h.gd)
 have e:sts.map (Qv H) =(sts.map (n_ H)).map Ot:=by
  rw[V4]
  refine Wa fun st hs=>OL fun r a es e v hv=>?_
  obtain⟨i,hi⟩:=VE hs
  obtain⟨s,_,h⟩:=hP.at' hi
  rw[e]at h
  obtain⟨l,_,_,_,_,_,h6⟩:=h
  exact h6 v hv
 rw[<- e];exact g
def oD:Option Str->PyData
 | none=>.none
 | some z=>.str z
def TD (w R:Nat) (Y:YD) (way:Str) (k:Int) (z:Str) (d:PyData):Prop:=∃(sd:List tQ) (R1:Nat) (Y1 Zm:YD) (b:Bool),Et w R Y way k z sd/\(sd.take 1).foldl zb (R:Int) =(R1:Int)/\Y1 =(sd.take 1).foldl Hl Y/\dG w R1 (iV R1 Y1) Zm/\(b=true↔D5 w R1 Y1) /\
 d = .list [.list (sd.map Ot),.list ((Ec R1 Y1 Zm).map Ot),pY w R1 Y1,pY w R1 Zm,pY w (sd.foldl zb (R:Int)) (sd.foldl Hl Y),pY w (1+(R:Int)%5) (trim Y),pY w R Y,.tuple [oD (rB k (qh Y1 (aE k R1).toNat)).1,.int (rB k (qh Y1 (aE k R1).toNat)).2],.bool b,.bool true]
theorem TD.uniq {w R:Nat}{Y:YD}{way z:Str}{k:Int}{a b:PyData}(ha:TD w R Y way k z a) (hb:TD w R Y way k z b):a=b:=by
 obtain⟨sd,R1,Y1,Zm,t,c1,c2,rfl,c4,c5,rfl⟩:=ha
 obtain⟨sd',R1',Y1',Zm',t',d1,d2,rfl,d4,d5,rfl⟩:=hb
 obtain rfl:=c1.uniq d1
 obtain rfl:R1=R1':=by omega
 obtain rfl:=c4.uniq qc d4
 obtain rfl:t=t':=Wu.mpr (c5.trans d5.symm)
 rfl
def nZ (K:W.Frag):Sp:=fun vs H Q _=>∃(y:Addr) (w R:Nat) (X:List (List (List V))),vs=[.ref y]/\Yd H y w R X/\1<=w/\w<=8/\1<=R/\R<=131/\(dB X).length<=63 /\
 ∀(b:Bool) (H':Hp),(b=true↔D5 w R (yD H X))->aD H H'->Q (.bl b) H'
def Iv (Hc Hd:Hp) (b:Addr):Prop:=Hc b=none/\∃xs,Hd b=some (.lst xs)
theorem Iv.new {Hc Hd N:Hp}{b:Addr}(h:Iv Hc Hd b) (s:aD N Hc):N b=none:=s.free h.1
theorem Iv.old {Hc Hd Ha Hb:Hp}{b:Addr}(h:Iv Hc Hd b) (k:∀xs,Hd b=some (.lst xs)->Ha b=some (.lst xs)):dW Ha Hb b=none:=by
 obtain⟨xs,e⟩:=h.2
 exact fS (k xs e)
theorem Iv.apart {Hc Hd Ha Hb:Hp}{b:Addr}(h:Iv Hc Hd b) (k:∀xs,Hd b=some (.lst xs)->Ha b=some (.lst xs)):¬ Iv Ha Hb b:=fun z=>by
 obtain⟨xs,e⟩:=h.2
 have:=z.1
 rw[k xs e]at this;cases this
theorem Kx.sm {S:Addr->Prop}{N H H':Hp}(k:Kx S H H') (s:aD N H) (d:∀b,S b->N b=none):aD N H':=fun b o e=>k.ke b o (s b o e) fun z=>by rw[d b z]at e;cases e
theorem jq {N H:Hp}{a:Addr}{o:HO}(s:aD N H) (n:N a=none):aD N (upd H a o):=fun b u e=>by rw[ao (au e n)];exact s _ _ e
theorem wg.kx {S S':Addr->Prop}{H H':Hp}{h:Addr}{bs:List Addr}{i L:Nat}(u:wg S H h bs i L) (k:Kx S' H H') (d:∀b,S b->¬ S' b):wg S H' h bs i L:=fun j b ij hb=>by
 obtain⟨sb,as,h1,h2,h3⟩:=u j b ij hb
 refine⟨sb,as,k.ke _ _ h1 (d b sb),h2,fun a ha=>?_⟩
 obtain⟨a1,a2,a3,es,a4,a5⟩:=h3 a ha
 exact⟨a1,a2,a3,es,k.ke _ _ a4 (d a a1),a5⟩
theorem BX.kx {S S':Addr->Prop}{H H':Hp}{h:Addr}{bs:List Addr}(s:BX S H h bs) (k:Kx S' H H') (d:∀b,S b->¬ S' b):BX S H' h bs:=⟨s.1,k.ke _ _ s.2.1 (d h s.1),s.2.2.1,s.2.2.2.1,s.2.2.2.2.1,s.2.2.2.2.2.kx k d⟩
theorem BX.same {S:Addr->Prop}{H H':Hp}{h:Addr}{bs:List Addr}(s:BX S H h bs) (sm:aD H H'):BX S H' h bs:=s.kx (Kx.of (S:=fun _=>False) sm) fun _ _ z=>z
theorem T3.spo {Hc Hd:Hp}{h:Addr}{bs:List Addr}{X:List (List (List V))}(t:T3 (fun b=>Hc b=none) Hd h bs X) (sm:Sm X):BX (Iv Hc Hd) Hd h bs:=by
 obtain⟨sh,hh,nd,hn,hP⟩:=t
 refine⟨⟨sh,_,hh⟩,hh,nd,hn,by have:=sm.1;rw[hP.1];omega,fun j b _ hb=>?_⟩
 obtain⟨rows,hx,sb,as,h1,h2⟩:=hP.get hb
 obtain⟨rl,rr⟩:=sm.2 rows (Vk hx)
 refine⟨⟨sb,_,h1⟩,as,h1,by rw[h2.1];omega,fun a ha=>?_⟩
 obtain⟨i,hi⟩:=VE ha
 obtain⟨es,he,a1,a2,a3,a4⟩:=h2.get hi
 exact⟨⟨a1,_,a4⟩,a2,a3,es,a4,by have:=rr es (Vk he);omega⟩
theorem Sy.spo {Hc Hd:Hp}{h:Addr}{bs:List Addr}{ass:List (List Addr)}(y:Sy (fun b=>Hc b=none) Hd h bs ass) (l:bs.length<=150) (r:∀as∈ass,as.length<=150) (e:∀a∈ass.flatten,(rowOf Hd a).length<=20):BX (Iv Hc Hd) Hd h bs:=by
 have nd:=V6.mp y.nd
 have nd2:=Wb.mp nd.2
 refine⟨⟨y.ns h (Vy ..),_,y.hh⟩,y.hh,nd2.1,fun m=>nd.1 (Wr _ m),l,fun j b _ hb=>?_⟩
 obtain⟨as,hx,h1⟩:=y.hb.get hb
 have bm:=Vk hb
 have am:=Vk hx
 refine⟨⟨y.ns b (Vr _ (Wr _ bm)),_,h1⟩,as,h1,r as am,fun a ha=>?_⟩
 have af:a∈ass.flatten:=VZ.mpr ⟨as,am,ha⟩
 obtain⟨es,he⟩:=y.ha a af
 refine⟨⟨y.ns a (Vr _ (VD _ af)),_,he⟩,fun z=>nd.1 (by rw[<- z];exact VD _ af),fun m=>nd2.2.2 a m a af rfl,es,he,?_⟩
 have:=e a af
 rw[jr he]at this;exact this
theorem qP {H H':Hp}(s:aD H H') {t:Addr}{xs:List V}(h:H' t=some (.tup xs)):dW H H' t=some (.tup xs):=by
 cases c:H t with
 | none=>rw[e8 c];exact h
 | some u =>
  have:=s _ _ c
  rw[h]at this
  cases this
  exact l_ c
theorem DU {H H':Hp}(s:aD H H') {ss:List Addr}{sts:List cu}(hP:P1 (gE H') ss sts) (fr:∀l∈bB H' ss,H l=none):P1 (gE (dW H H')) ss sts:=hP.imp' fun a st ha _ h=>by
 cases st with
 | rooms n=>exact⟨qP s h.1,h.2⟩
 | cut r m=>exact⟨qP s h.1,h.2⟩
 | row r x es =>
  obtain⟨l,h1,h2,h3,h4,h5,h6⟩:=h
  have n:=fr l (Xi.mpr ⟨a,ha,mK h1⟩)
  exact⟨l,qP s h1,by rw[e8 n];exact h2,h3,h4,h5,fun v hv=>(h6 v hv).keep fun t xs e=>qP s e⟩
theorem uw {G Ha Hb:Hp}{y h:Addr}{w R:Int}{bs:List Addr}{X:List (List (List V))}(hy:Hb y=some (.tup [.int w,.int R,.ref h])) (t:T3 (fun b=>Ha b=none) Hb h bs X) (en:gm Hb X) (sz:Gh X) (hl:∀b xs,Ha b=none->Hb b=some (.lst xs)->G b=some (.lst xs)) (kt:∀t xs,Hb t=some (.tup xs)->G t=some (.tup xs)):Yd G y w R X:=by
 refine⟨h,kt _ _ hy,?_,en.keep kt,sz⟩
 obtain⟨sh,hh,_,_,hP⟩:=t
 refine⟨bs,hl _ _ sh hh,hP.imp fun b rows h=>?_⟩
 obtain⟨sb,as,h1,h2⟩:=h
 exact⟨trivial,as,hl _ _ sb h1,h2.imp fun a es h=>⟨trivial,hl _ _ h.1 h.2.2.2⟩⟩
theorem OF {H H':Hp}(s:aD H H') {y h:Addr}{w R:Int}{bs:List Addr}{X:List (List (List V))}(hy:H' y=some (.tup [.int w,.int R,.ref h])) (t:T3 (fun b=>H b=none) H' h bs X) (en:gm H' X) (sz:Gh X):Yd (dW H H') y w R X :=
 uw hy t en sz (fun b xs n e=>by rw[e8 n];exact e) fun t xs e=>qP s e
theorem G_ {H:Hp}{ss:List Addr}{sts:List cu}(hP:P1 (gE H) ss sts):∀(l:List cu) (R:Int),(∀st∈l,st∈sts)->1<=R->R<=130->1<=l.foldl u6 R/\l.foldl u6 R<=130
 | [],_,_,h1,h2=>⟨h1,h2⟩
 | st::l,R,hs,h1,h2=>by
  have b:1<=u6 R st/\u6 R st<=130:=by
   obtain⟨i,hi⟩:=VE (hs st (Vy ..))
   obtain⟨s,_,h⟩:=hP.at' hi
   cases st with
   | rooms n=>have:=h.2;show(1:Int) <=(n:Int)/\(n:Int)<=130;omega
   | cut _ _=>exact⟨h1,h2⟩
   | row _ _ _=>exact⟨h1,h2⟩
  exact G_ hP l (u6 R st) (fun s h=>hs s (Vr _ h)) b.1 b.2
theorem S_ {H:Hp}{sts:List cu}(g:yy H sts):rls (sts.take 1)<=8:=by
 cases sts with
 | nil=>exact VS _
 | cons st sts =>
  rw[List.take_succ_cons,List.take_zero]
  unfold rls
  rw[VY,List.map_nil,List.sum_cons,List.sum_nil]
  cases st with
  | rooms n=>exact VS _
  | cut r m=>exact VS _
  | row r a es=>exact(g r a es (Vy ..)).2.2.1
theorem N4 {H Ha Hb:Hp}{C:Addr}(k:∀b u,b≠C->Ha b=some u->Hb b=some u):aD (hid C (dW H Ha)) (hid C (dW H Hb)):=fun b o e=>by
 have bC:b≠C:=fun z=>by unfold hid at e;rw[VB z]at e;cases e
 rw[cH bC]at e ⊢
 unfold dW at e ⊢
 cases c:H b with
 | none=>rw[c]at e;exact k b o bC e
 | some u=>rw[c]at e;cases u <;> exact e
theorem E5 {α:Type}{p:α->Prop}{a b c d e:α}(h1:p a) (h2:p b) (h3:p c) (h4:p d) (h5:p e):∀x ∈ [a,b,c,d,e],p x:=fun x hx=>by
 simp only[List.mem_cons,List.not_mem_nil,or_false]at hx
 rcases hx with rfl|rfl|rfl|rfl|rfl <;> assumption
theorem UR {α:Type}{p:α->α->Prop}{a b c d e:α}(h1:p a b) (h2:p a c) (h3:p a d) (h4:p a e) (h5:p b c) (h6:p b d) (h7:p b e) (h8:p c d) (h9:p c e) (h10:p d e):[a,b,c,d,e].Pairwise p:=by
 refine WB.mpr ⟨fun x hx=>?_,WB.mpr ⟨fun x hx=>?_,WB.mpr ⟨fun x hx=>?_,WB.mpr ⟨fun x hx=>?_,List.pairwise_singleton _ _⟩⟩⟩⟩ <;> simp only[List.mem_cons,List.not_mem_nil,or_false]at hx
 ·rcases hx with rfl|rfl|rfl|rfl <;> assumption
 ·rcases hx with rfl|rfl|rfl <;> assumption
 ·rcases hx with rfl|rfl <;> assumption
 ·rw[hx];assumption
theorem S3 {K:W.Frag}{H:Hp}{n:Nat}{o:Option Str}(h:∀z,o=some z->PyData.strOk z=true):GD K H n (xV o) (oD o):=by
 cases o with
 | none=>exact⟨.non,by unfold oD;rw[PyData.canLay0],by simp[oD,PyData.depth]⟩
 | some z=>exact GD.str (h z rfl)
theorem Hu {K:W.Frag}{H:Hp}{n:Nat}(b:Bool):GD K H n (.bl b) (.bool b):=⟨.bl b,rfl,by simp[PyData.depth]⟩
theorem An {k:Int}{z:Str}:∀{rows:List (List (Int×Str))},(∀r∈rows,∀e∈r,PyData.strOk e.2=true)->(rB k rows).1=some z->PyData.strOk z=true
 | [],_,h=>by cases h
 | r::rows,ok,h=>by
  rw[rB]at h
  split at h
  ·have h:pick k r=some z:=h
   unfold pick at h
   obtain⟨e,he,rfl⟩:=Ws.mp h
   exact ok r (Vy ..) e (List.mem_of_find?_eq_some he)
  ·exact An (fun r hr=>ok r (Vr _ hr)) h
theorem DX {H:Hp}{ss:List Addr}{sts:List cu}(hP:P1 (gE H) ss sts):∀r a es,cu.row r a es∈sts->∀v∈es,En H v:=fun r a es m v hv=>by
 obtain⟨i,hi⟩:=VE m
 obtain⟨s,_,h⟩:=hP.at' hi
 obtain⟨l,_,_,_,_,_,h6⟩:=h
 exact h6 v hv
theorem Ac {H:Hp}{D:Addr}{ss:List Addr}{sts:List cu}(hP:P1 (gE (hid D H)) ss sts):D∉bB H ss:=fun m=>by
 rw[bW (H:=hid D H) (fun t xs e=>bP _ _ e) (cB hP)]at m
 obtain⟨o,ho⟩:=xj hP D m
 unfold hid at ho
 rw[VB rfl]at ho;cases ho
theorem Cf {H:Hp}{rows:List (List V)}(en:∀es∈rows,∀v∈es,En H v):∀r∈aL H rows,∀e∈r,PyData.strOk e.2=true:=fun r hr e he=>by
 unfold aL at hr
 obtain⟨es,hes,rfl⟩:=Vq.mp hr
 unfold aI at he
 obtain⟨v,hv,rfl⟩:=Vq.mp he
 obtain⟨_,_,_,h2,_⟩:=(en es hes v hv).pt
 exact h2
theorem Di {H H':Hp}{b:Addr}{o:HO}(e:dW H H' b=some o):H b=none \/ ∃xs,o = .tup xs:=by
 unfold dW at e
 cases c:H b with
 | none=>exact .inl rfl
 | some u =>
  rw[c]at e
  cases u <;> first|cases e|skip
  exact .inr ⟨_,rfl⟩
theorem zM {N H H':Hp}(sH:aD H H') (s:aD N H') (hl:∀b o,N b=some o->H b=none \/ ∃xs,o = .tup xs):aD N (dW H H'):=fun b o e=>by
 rcases hl b o e with n|⟨xs,rfl⟩
 ·rw[e8 n];exact s _ _ e
 ·exact qP sH (s _ _ e)
theorem j3 {K:W.Frag}{H H':Hp}{n:Nat}{v:V}{d:PyData}(s:aD H H') (g:GD K H n v d):GD K H' n v d:=⟨DV.same s g.1,g.2⟩
structure QD where
 y:Addr
 h:Addr
 w:Int
 R:Int
 bs:List Addr
 S:Addr->Prop
def kP (K:W.Frag):Sp:=fun vs H Q _=>∃(y:Addr) (w R:Nat) (X:List (List (List V))) (es:List (Int×Str)) (way z:Str) (k:Int),vs=[.ref y,.str way,.int k,.str z]/\Yd H y w R X/\Base H X w R es/\es.length<=20/\w<=8/\R<=12/\(0<=k/\k<1152921504606846976)/\(PyData.strOk z=true/\z.length<=100)/\Way way R es k /\
 ∀(T:Addr) (d:PyData) (H':Hp),H T=none->GD K (dW H H') 9 (.ref T) d->TD w R (yD H X) way k z d->(∃xs,dW H H' T=some (.lst (xs ++ [.bl true])))->aD H H'->Q (.ref T) H'
structure OC where
 y:Addr
 w:Nat
 R:Nat
 X:List (List (List V))
 es:List (Int×Str)
def Ao (H:Hp) (way:Str) (k:Int) (it:OC):Prop:=Yd H it.y it.w it.R it.X/\Base H it.X it.w it.R it.es/\it.es.length<=20/\it.w<=8/\it.R<=12/\Way way it.R it.es k
theorem Ao.same {H H':Hp}{way:Str}{k:Int}{it:OC}(s:aD H H') (h:Ao H way k it):Ao H' way k it:=by
 obtain⟨h1,h2,h3⟩:=h
 exact⟨h1.same s,⟨by rw[dF s h1.choose_spec.2.2.1];exact h2.cl,h2.nd,h2.w1,h2.R1⟩,h3⟩
def To (K:W.Frag) (way z:Str) (k:Int) (H N:Hp) (c:Addr) (it:OC):Prop:=∃d:PyData,GD K N 9 (.ref c) d/\TD it.w it.R (yD H it.X) way k z d/\∃xs,N c=some (.lst (xs ++ [.bl true]))
theorem To.same {K:W.Frag}{way z:Str}{k:Int}{H N N':Hp}{c:Addr}{it:OC}(s:aD N N') (h:To K way z k H N c it):To K way z k H N' c it:=by
 obtain⟨d,g,t,xs,e⟩:=h
 exact⟨d,j3 s g,t,xs,s _ _ e⟩
theorem Sy.spo' {Hc Hd:Hp}{h:Addr}{bs:List Addr}{ass:List (List Addr)}{w R:Nat}{es:List (Int×Str)}(y:Sy (fun b=>Hc b=none) Hd h bs ass) (cl:dG w R es (yD Hd (XA Hd ass))) (w1:1<=w) (w2:w<=8) (R2:R<=130) (el:es.length<=129) (en:gm Hd (XA Hd ass)):BX (Iv Hc Hd) Hd h bs:=by
 have zok:=oK cl w1 w2 el en
 have xl:ass.length=R:=by have:=cl.1;unfold yD at this;rw[Vi,vh]at this;exact this
 refine y.spo (by rw[y.hb.1];omega) (fun as ha=>?_) fun a ha=>?_
 ·obtain⟨i,hi⟩:=VE ha
  have:=(zok i).1
  unfold bY XA at this
  rw[Vp,hi]at this
  have this:(as.map (rowOf Hd)).length<=130:=this
  rw[Vi]at this;omega
 ·obtain⟨as,ha1,ha2⟩:=VZ.mp ha
  obtain⟨i,hi⟩:=VE ha1
  have:=(zok i).2 (rowOf Hd a) (by
   unfold bY XA
   rw[Vp,hi]
   exact Vq.mpr ⟨a,ha2,rfl⟩)
  omega
section
variable (P:Program)(w:World)(K:W.Frag)(mg:Str -> Option Value)(base:Heap)
abbrev HY:=bw P w K mg base "_law_draw" JS 1 (vt K)
abbrev JX:=bw P w K mg base "entries_in" uQ 1 (rG K)
abbrev Lm:=bw P w K mg base "room_of" Ed 4 (zS K)
abbrev Lp:=bw P w K mg base "rows_at" Dg 1 (yJ K)
abbrev Ms:=bw P w K mg base "cut_rows" zE 2 (xw K)
abbrev QA:=bw P w K mg base "yard_of" Ll 6 (zA K)
abbrev Qx:=bw P w K mg base "onward" AA 2 (A7 K)
abbrev QB:=bw P w K mg base "level" iR 1 (B3 K)
abbrev QG:=bw P w K mg base "turn" iR 2 (FI K)
abbrev SW:=bw P w K mg base "unlike_rows" AA 1 (qN K)
abbrev JA:=bw P w K mg base "_law_thing" wG 2 (rW K)
abbrev JN:=bw P w K mg base "_law_spoil" oB 1 (rL K)
abbrev Kc:=bw P w K mg base "others_in" r6 2 (vm K)
abbrev Jj:=bw P w K mg base "_law_copy" oB 1 (vC K)
abbrev JR:=bw P w K mg base "done_all" Lo 2 (xh K)
abbrev Iz:=bw P w K mg base "_law_key" wG 3 (wk K)
abbrev Ln:=bw P w K mg base "backward" AA 2 (xX K)
end
section
variable {P:Program}{w:World}{K:W.Frag}{mg:Str->Option Value}{base:Heap}
theorem uB {f:Addr}{fd:FuncData}(F:eO K "last_bits" "last_bits" jP f fd) (mF:mg "last_bits" = some (.ref f)) (bF:Binds K fd AX []) (T:Bl mg)  : bw P w K mg base "last_bits" AX 1 (mH K):=by
 refine bw.of F mF bF vj (fun vs H Q E h=>?_) (fun _ A _ _ H vs Q E hr h=>?_)
 ·obtain⟨k,m,rfl,_⟩:=h;rfl
 obtain⟨k,m,rfl,hm,q⟩:=h
 refine⟨_,(az (aP (aO dM (pv 0) (aO yX ay (pv 1))))),?_⟩
 rw[uz]
 have p:=gI m
 x_go
 have e:(1:Int)*2^(m:Int).toNat=2^m:=by rw[Int.one_mul,Wx]
 rw[e]
 x_go
 exact q
theorem C7 {f:Addr}{fd:FuncData}(F:eO K "level" "level" vg f fd) (mF:mg "level" = some (.ref f)) (bF:Binds K fd iR []) (T:Bl mg)  : QB P w K mg base:=by
 refine bw.of F mF bF Cd (fun vs H Q E h=>?_) (fun _ A _ _ H vs Q E hr h=>?_)
 ·obtain⟨R,rfl,_⟩:=h;rfl
 obtain⟨R,rfl,h1,q⟩:=h
 refine⟨_,(az (aP (aO jQ (zy PySem.F.plainAttrs_int PySem.F.slot_int_bit_length PySem.F.type_int_bit_length AY (pv 0)) ay))),?_⟩
 rw[Dd]
 x_go
 refine⟨rfl,?_⟩
 x_go
 rw[Gr h1]
 exact q
theorem EC {f:Addr}{fd:FuncData}(F:eO K "turn" "turn" zR f fd) (mF:mg "turn" = some (.ref f)) (bF:Binds K fd iR []) (T:Bl mg) (gz:QB P w K mg base):QG P w K mg base:=by
 refine bw.of F mF bF FU (fun vs H Q E h=>?_) (fun _ A _ _ H vs Q E hr h=>?_)
 ·obtain⟨R,rfl,_⟩:=h;rfl
 obtain⟨R,rfl,h1,h2,q⟩:=h
 have hl:=Aw h1 h2
 refine⟨_,(az (aP (aO jQ (pv 0) (aO yX ay (bQ gz hr.mo (aa (pv 0) aj ai)))))),?_⟩
 rw[Fz]
 x_go
 refine⟨R,rfl,h1,?_⟩
 x_go
 have e:(1:Int)*2^(lg R:Int).toNat=2^lg R:=by rw[Int.one_mul,Wx]
 rw[e]
 exact q
theorem xC {f:Addr}{fd:FuncData}(F:eO K "bits_for" "bits_for" kT f fd) (mF:mg "bits_for" = some (.ref f)) (bF:Binds K fd F9 []) (T:Bl mg) (gz:QB P w K mg base) (ji:QG P w K mg base):bw P w K mg base "bits_for" F9 3 (nY K):=by
 refine bw.of F mF bF ow (fun vs H Q E h=>?_) (fun _ A _ _ H vs Q E hr h=>?_)
 ·obtain⟨r,R,rfl,_⟩:=h;rfl
 obtain⟨r,R,rfl,h1,h2,q⟩:=h
 have hl:=Aw h1 h2
 refine⟨_,(ak (aH (i:=2) ow.nd rfl (Or.inl rfl) (bQ gz hr.mo (aa (pv 1) aj ai)))
   (ak (cJ (BY DJ qf (bQ ji hr.mo (aa (pv 1) aj ai)) (pv 0) (aO yX ay (pv 2))) (az (aP (pv 2))) bA)
   (az (aP (aO bN (pv 2) ay))))),?_⟩
 rw[xR]
 x_go
 refine⟨R,rfl,h1,?_⟩
 x_go
 refine⟨R,rfl,h1,h2,?_⟩
 x_go
 have e:(1:Int)*2^(lg R:Int).toNat=2^lg R:=by rw[Int.one_mul,Wx]
 refine b_ (fun c=>?_) (fun c=>?_)
 ·x_go
  rw[e]
  refine b_ (fun d=>?_) (fun d=>?_)
  ·x_go
   unfold nX at q
   rw[VB ⟨c,d⟩]at q
   exact q
  ·x_go
   unfold nX at q
   rw[VF (fun z=>d z.2)]at q
   exact q
 ·x_go
  unfold nX at q
  rw[VF (fun z=>c z.1)]at q
  exact q
theorem zJ {f:Addr}{fd:FuncData}(F:eO K "room_of" "room_of" nI f fd) (mF:mg "room_of" = some (.ref f)) (bF:Binds K fd Ed []) (T:Bl mg) (gW:bw P w K mg base "last_bits" AX 1 (mH K)) (lI:bw P w K mg base "bits_for" F9 3 (nY K)) (gz:QB P w K mg base):Lm P w K mg base:=by
 refine bw.of F mF bF zI (fun vs H Q E h=>?_) (fun _ A _ _ H vs Q E hr h=>?_)
 ·obtain⟨k,R,rfl,_⟩:=h;rfl
 obtain⟨k,R,rfl,h1,h2,q⟩:=h
 have hl:=Aw h1 h2
 refine⟨_,(az (aP (bQ gW hr.mo (aa (pv 0) (aa (bQ lI hr.mo (aa (bQ gW hr.mo (aa (pv 0) (aa (bQ gz hr.mo (aa (pv 1) aj ai)) aj aF) ai)) (aa (pv 1) aj ai) aF)) aj aF) ai)))),?_⟩
 rw[zF]
 x_go
 refine⟨R,rfl,h1,?_⟩
 x_go
 refine⟨k,lg R,rfl,by omega,?_⟩
 x_go
 refine⟨_,R,rfl,h1,h2,?_⟩
 x_go
 refine⟨k,nX (k%2^lg R) R,rfl,by unfold nX;split <;> omega,?_⟩
 rw[zZ]
 exact q
theorem wV {f:Addr}{fd:FuncData}(F:eO K "split_of" "split_of" kY f fd) (mF:mg "split_of" = some (.ref f)) (bF:Binds K fd iR []) (T:Bl mg) (ji:QG P w K mg base):bw P w K mg base "split_of" iR 3 (nK K):=by
 refine bw.of F mF bF wZ (fun vs H Q E h=>?_) (fun _ A _ _ H vs Q E hr h=>?_)
 ·obtain⟨R,rfl,_⟩:=h;rfl
 obtain⟨R,rfl,h1,h2,q⟩:=h
 refine⟨_,(az (aP (bZ (aa (bQ ji hr.mo (aa (pv 0) aj ai)) (aa (pv 0) aj ai) aF)))),?_⟩
 rw[wB]
 x_go
 refine⟨R,rfl,h1,h2,?_⟩
 x_go
 exact⟨zs2,q⟩
theorem uY {f:Addr}{fd:FuncData}(F:eO K "joined_of" "joined_of" jN f fd) (mF:mg "joined_of" = some (.ref f)) (bF:Binds K fd iR []) (T:Bl mg) (ji:QG P w K mg base):bw P w K mg base "joined_of" iR 3 (mJ K):=by
 refine bw.of F mF bF mG (fun vs H Q E h=>?_) (fun _ A _ _ H vs Q E hr h=>?_)
 ·obtain⟨R,rfl,_⟩:=h;rfl
 obtain⟨R,rfl,h1,h2,q1,q2⟩:=h
 refine⟨_,(ak (cJ (aT fF (pv 0) ay (aX _)) (az (aP C9)) bA)
   (ak (aH (i:=1) mG.nd rfl (Or.inl rfl) (aO jQ (pv 0) ay))
   (az (aP (bZ (aa (pv 1) (aa (bQ ji hr.mo (aa (pv 1) aj ai)) aj aF) ai)))))),?_⟩
 rw[uV]
 x_go
 refine b_ (fun c=>?_) (fun c=>?_)
 ·x_go
  exact q1 c
 ·x_go
  refine⟨R-1,rfl,by omega,by omega,?_⟩
  x_go
  exact⟨zs2,q2 c⟩
theorem xF {f:Addr}{fd:FuncData}(F:eO K "rows_for" "rows_for" lE f fd) (mF:mg "rows_for" = some (.ref f)) (bF:Binds K fd Bk []) (T:Bl mg)  : bw P w K mg base "rows_for" Bk 1 (nO K):=by
 refine bw.of F mF bF xg (fun vs H Q E h=>?_) (fun _ A _ _ H vs Q E hr h=>?_)
 ·obtain⟨m,w,rfl,_⟩:=h;rfl
 obtain⟨m,w,rfl,h1,h2,q⟩:=h
 refine⟨_,(az (aP (a_ (sX rfl) rfl T.max B5 (aa ay (aa (aO jD (aO jQ (aO bN (pv 0) (pv 1)) ay) (pv 1)) aj bK) aB)))),?_⟩
 rw[yg]
 x_go
 exact q
theorem xM {f:Addr}{fd:FuncData}(F:eO K "cut_rows" "cut_rows" iX f fd) (mF:mg "cut_rows" = some (.ref f)) (bF:Binds K fd zE []) (T:Bl mg) (k9:bw P w K mg base "rows_for" Bk 1 (nO K)):Ms P w K mg base:=by
 refine bw.of F mF bF v5 (fun vs H Q E h=>?_) (fun _ A _ _ H vs Q E hr h=>?_)
 ·obtain⟨a,ms,w,rfl,_⟩:=h;rfl
 obtain⟨a,ms,w,rfl,ha,hl,w1,w2,q⟩:=h
 refine⟨_,(az (aP (cN rfl (cF (sc:=av iX) (N:=zE) (vs:=["at"]) (fs:=zE) (js:=[0,1]) (by z_go) rfl rfl) (fB rfl T.range (aa (bQ k9 hr.mo (aa (a_ bz rfl T.len cV (aa (pv 0) aj ai)) (aa (pv 1) aj ai) aF)) aj aF)) (fun _ _ _ _=>aC (i:=0) (show(["at", "things", "wide"]:List Str).Nodup by z_go) rfl (Or.inl rfl)) (fun _ _ _ _=>fL) (fun _ _ _ _=>(cP (Cq (K:=K) rfl) (pv 1) (dD (aO fO (pv 0) (pv 2))) (dD (aO fO (aO bN (pv 0) ay) (pv 2)))))))),?_⟩
 rw[wY]
 x_go
 refine⟨_,w,rfl,by omega,by omega,?_⟩
 obtain⟨g1,g2,g3⟩:=qL (g:=gi ms.length w) (w:=w) (m:=ms.length) (by omega) (by omega) rfl
 have gb:gi (ms.length:Int) w<=201:=by
  rcases g3 with z|z
  ·omega
  ·by_cases q:gi (ms.length:Int) w<=201
   ·exact q
   ·have:(1:Int)*(gi ms.length w-1)<=w*(gi ms.length w-1):=Xh (by omega) (by omega)
    omega
 refine⟨_,rfl,by omega,by omega,fun D nD=>?_⟩
 unfold dw at q
 have n201:(gi (ms.length:Int) w).toNat<=201:=by omega
 generalize (gi (ms.length:Int) w).toNat=n at q n201 ⊢
 refine gQ (n:=n) (fun i σ' ys H'=>(∃x,σ'=[x,some (.ref a),some (.int w)])/\(∃as:List Addr,ys=as.map V.ref/\as.length=i/\(∀(k:Nat) (b:Addr) (es:List V),as[k]? = some b->(jf ms w i)[k]? = some es->H' b=some (.lst es))/\(as.Nodup/\∀b∈as,∃o,H' b=some o)/\∀b∈as,H b=none/\b≠D)/\aD H H'/\H' D=some (.lst ys)) D ?_ ?_ ?_
 ·exact⟨⟨_,rfl⟩,⟨[],rfl,rfl,fun k b es e _=>by simp at e,⟨.nil,fun b hb=>by cases hb⟩,fun b hb=>by cases hb⟩,aG nD _,aq⟩
 ·rintro i σ' ys H' hi ⟨⟨x,rfl⟩,⟨as,rfl,al,hL,⟨hN,hS⟩,hn⟩,s1,hD⟩
  have ha':=s1 _ _ ha
  x_go
  have e1:(0+(i:Int))*w =((i*w:Nat):Int):=by rw[Int.zero_add,Int.natCast_mul]
  have e2:(0+(i:Int)+1)*w =(((i+1)*w:Nat):Int):=by rw[Int.zero_add,Int.natCast_mul];rfl
  have e3:(i+1)*w=i*w+w:=Nat.succ_mul i w
  rw[e1,e2]
  refine gp (aU.of ha') fun b nb=>?_
  rw[Fw (by omega),show(i+1)*w-i*w=w by omega]
  generalize hE:upd H' b _=H1
  obtain⟨hb1,s2⟩:=bf nb hE
  clear hE
  have bD:b≠D:=by intro e;rw[e,hD]at nb;cases nb
  refine⟨s2 _ _ hD,by rw[Vi];exact aR (by omega),⟨_,rfl⟩,⟨as ++ [b],by rw[Vo];rfl,by rw[Vm,al];rfl,?_,⟨?_,fun c hc=>?_⟩,fun c hc=>?_⟩,fun c o e=>?_,aq⟩
  ·intro k c es e1 e2
   rw[oq]at e2
   by_cases z:k<as.length
   ·rw[Vx z]at e1
    rw[Vx (by rw[dH];omega)]at e2
    rw[ao (hn c (Vk e1)).2];exact s2 _ _ (hL k c es e1 e2)
   ·have kl:=(Vj.mp e1).1
    rw[Vm]at kl
    have hk:k=as.length:=by have:[b].length=1:=rfl;omega
    subst hk
    rw[Vs (Vt _),Xs]at e1
    rw[Vs (by rw[dH];omega),dH,al,Xs]at e2
    have ec:b=c:=VC e1
    have ee:(ms.drop (i*w)).take w=es:=VC e2
    subst ec ee
    rw[ao bD];exact hb1
  ·rw[Wb]
   refine⟨hN,by simp,fun x hx y hy z=>?_⟩
   rw[VM.mp hy]at z
   obtain⟨o,ho⟩:=hS x hx
   rw[z,nb]at ho;cases ho
  ·rcases VH.mp hc with z|z
   ·obtain⟨o,ho⟩:=hS c z
    exact⟨o,by rw[ao (hn c z).2];exact s2 _ _ ho⟩
   ·rw[VM.mp z];exact⟨_,by rw[ao bD];exact hb1⟩
  ·rcases VH.mp hc with z|z
   ·exact hn c z
   ·rw[VM.mp z];exact⟨s1.free nb,bD⟩
  ·rw[ao (au e nD)];exact s2 _ _ (s1 _ _ e)
 ·rintro σ' ys H' ⟨⟨x,rfl⟩,⟨as,rfl,al,hL,⟨hN,hS⟩,hn⟩,s1,hD⟩
  exact q D H' nD ⟨as,hD,by rw[al,dH],hL,hN,hn⟩ s1
theorem BQ {f:Addr}{fd:FuncData}(F:eO K "looked" "looked" qU f fd) (mF:mg "looked" = some (.ref f)) (bF:Binds K fd r6 []) (T:Bl mg)  : bw P w K mg base "looked" r6 1 (t7 K):=by
 refine bw.of F mF bF j0 (fun vs H Q E h=>?_) (fun _ A _ _ H vs Q E hr h=>?_)
 ·obtain⟨l,k,rs,rfl,_⟩:=h;rfl
 obtain⟨l,k,rs,rfl,⟨as,hl,hL⟩,hz,q⟩:=h
 refine⟨_,(ak (aH (i:=2) j0.nd rfl (Or.inl rfl) ay)
   (ak (eL V2 rfl (aZ (pv 0)) (aC (i:=3) j0.nd rfl (Or.inl rfl)) (ak (Ds (i:=2) j0.nd rfl (Or.inl rfl) ay Ci)
   (az (cJ (PW.pt (kU (mj (pv 3) (fun _=>rfl)) (jg (aT Dw (bg bI (pv 3) (CW zu ay) (fun _ _=>rfl)) (pv 1) (aX _))))) (az (aP (bZ (aa (l8 iQ (pv 1) (pv 3) (by with_unfolding_all rfl)) (aa (pv 2) aj ai) w5)))) bA))))
   (az (aP (bZ (aa wR (aa (pv 2) aj ai) aB)))))),?_⟩
 rw[A9]
 x_go
 refine⟨l,rfl,⟨_,aU.of hl⟩,?_⟩
 refine dh (xs:=as.map V.ref) (fun i σ H'=>(∃x,σ=[some (.ref l),some (.int k),some (.int i),x])/\H'=H/\fD k rs =((fD k (rs.drop i)).1,(fD k (rs.drop i)).2+i)) ⟨⟨_,rfl⟩,rfl,by simp⟩ (fun i σ H' _ h=>by rw[h.2.1];exact aU.of hl) ?_ ?_
 ·rintro i x σ H' hx ⟨⟨x1,rfl⟩,rfl,hk⟩
  obtain⟨a,ha,rfl⟩:=br hx
  obtain⟨r,hr1,har⟩:=hL.get ha
  rw[mh hr1]at hk
  x_go
  have pass:¬ qT k r->fD k rs =((fD k (rs.drop (i+1))).1,(fD k (rs.drop (i+1))).2+((i+1:Nat):Int)):=fun z=>by
   rw[hk,z6 z]
   show(_,_) =(_,_)
   congr 1;omega
  refine⟨decide (r ≠ []),.inl ⟨_,aU.of har,GS r⟩,?_⟩
  refine b_ (fun c=>?_) (fun c=>?_)
  ·obtain⟨y,hy⟩:=EG c
   x_go
   refine cG (aU.of har) (FN hy) ?_
   x_go
   refine b_ (fun d=>?_) (fun d=>?_)
   ·x_go
    refine zk (aU.of har) ?_
    x_go
    refine⟨zs2,fun t nt=>q t _ nt ?_ (aG nt _)⟩
    rw[aq,hk,zK (Dc hy d)]
    show some (HO.tup [V.bl _,V.int ((i:Int)+1)])=some (HO.tup [V.bl _,V.int (1+(i:Int))])
    rw[Int.add_comm]
   ·x_go
    refine⟨⟨_,rfl⟩,rfl,pass fun z=>?_⟩
    obtain⟨x,hx,hkx⟩:=xH z
    rw[hy]at hx
    cases hx
    exact d hkx
  ·x_go
   refine⟨⟨_,rfl⟩,rfl,pass fun z=>c fun e=>?_⟩
   obtain⟨x,hx,_⟩:=xH z
   rw[e]at hx;cases hx
 ·rintro σ H' ⟨⟨x1,rfl⟩,rfl,hk⟩
  x_go
  refine⟨zs2,fun t nt=>q t _ nt ?_ (aG nt _)⟩
  rw[Vi,hL.len,List.drop_length]at hk
  rw[aq,hk,Vi,hL.len]
  show some (HO.tup [V.bl false,V.int (rs.length:Int)])=some (HO.tup [V.bl false,V.int (0+(rs.length:Int))])
  rw[Int.zero_add]
theorem Bp {f:Addr}{fd:FuncData}(F:eO K "spread" "spread" mP f fd) (mF:mg "spread" = some (.ref f)) (bF:Binds K fd Gw []) (T:Bl mg) (bx:Lm P w K mg base):bw P w K mg base "spread" Gw 5 (tV K):=by
 refine bw.of F mF bF mW (fun vs H Q E h=>?_) (fun _ A _ _ H vs Q E hr h=>?_)
 ·obtain⟨a,ns,R,rfl,_⟩:=h;rfl
 obtain⟨a,ns,R,rfl,ha,hl,r1,r2,q⟩:=h
 refine⟨_,(ak (cU (i:=2) mW.nd rfl rfl rfl (cF (sc:=av mP) (N:=Jv) (vs:=["room"]) (fs:=[]) (js:=[]) (by z_go) rfl rfl) (fB rfl T.range (aa (pv 1) aj ai)) (fun _ _ _ _=>aC (i:=0) (show(["room"]:List Str).Nodup by z_go) rfl (Or.inl rfl)) (fun _ _ _ _=>fL) (fun _ _ _ _=>(b7 aj)))
   (ak (eL V2 rfl (aZ (a_ ze rfl T.sorted kh (aa (pv 0) aj ai))) (aC (i:=3) mW.nd rfl (Or.inl rfl)) (az (bT (gh VO VP VQ bL (bg bI (pv 2) (bQ bx hr.mo (aa (pv 3) (aa (pv 1) aj ai) ai)) (fun _ _=>rfl)) (aa (pv 3) aj ai)))))
   (az (aP (pv 2))))),?_⟩
 rw[BB]
 x_go
 refine⟨R,rfl,by omega,by omega,fun D nD=>?_⟩
 rw[Wx]
 refine gQ (n:=R) (fun i σ' ys H'=>(∃x,σ'=[x])/\aD H H'/\∃as:List Addr,ys=as.map V.ref/\H' D=some (.lst ys)/\Ls H' as (List.replicate i [])/\as.Nodup/\∀b∈as,H b=none/\b≠D) D ⟨⟨_,rfl⟩,aG nD _,[],rfl,aq,trivial,XJ,fun _ h=>by(cases h)⟩ ?_ ?_
 ·rintro i σ' ys H1 hi ⟨⟨x,rfl⟩,s1,as,rfl,hD,hL,hn,h4⟩
  x_go
  refine⟨by decide,fun b nb=>?_⟩
  generalize hE:upd H1 b _=H2
  obtain⟨hb,s2⟩:=bf nb hE
  clear hE
  have bD:b≠D:=by intro e;rw[e,hD]at nb;cases nb
  have bas:b∉as:=fun m=>by
   obtain⟨r,_,e⟩:=hL.mem m
   rw[e]at nb;cases nb
  have al:=hL.rep
  refine⟨s2 _ _ hD,by rw[Vi,al];exact aR (by omega),⟨_,rfl⟩,fun c o e=>?_,as ++ [b],by rw[Vo];rfl,aq,?_,?_⟩
  ·rw[ao (au e nD)];exact s2 _ _ (s1 _ _ e)
  ·rw[List.replicate_succ']
   exact Ls.snoc (r:=[]) (by rw[ao bD];exact hb) (hL.same fun c hc o e=>by rw[ao (h4 c hc).2];exact s2 _ _ e)
  ·refine⟨?_,fun c hc=>?_⟩
   ·rw[Wb]
    exact⟨hn,by simp,fun x hx y hy e=>by simp at hy;rw[hy]at e;exact bas (e ▸ hx)⟩
   ·rcases VH.mp hc with m|m
    ·exact h4 c m
    ·rw[VM.mp m];exact⟨s1.free nb,bD⟩
 ·rintro σ' ys H1 ⟨⟨x,rfl⟩,s1,as,rfl,hD,hL,hn,h4⟩
  have hL:Ls H1 as (bU [] R):=by rw[xq];exact hL
  x_go
  refine CN (aU.of (s1 _ _ ha)) (by omega) fun ms e p1 p2 ne=>?_
  generalize hE:upd H1 e _=H2
  obtain⟨he,s2⟩:=bf ne hE
  clear hE
  have eas:∀b∈as,b≠e:=fun b m z=>by
   obtain⟨r,_,hb⟩:=hL.mem m
   rw[z,ne]at hb;cases hb
  have ml:ms.length<=63:=by rw[p1.length_eq];exact hl
  have eD:D≠e:=fun z=>by rw[<- z,hD]at ne;cases ne
  refine⟨e,rfl,⟨_,aU.of he⟩,?_⟩
  refine dh (xs:=ms.map V.int) (fun i σ H'=>(∃x,σ=[some (.ref a),some (.int R),some (.ref D),x])/\aD H H'/\H' e=some (.lst (ms.map V.int))/\H' D=some (.lst (as.map V.ref))/\Ls H' as (bU (ms.take i) R)) ⟨⟨_,rfl⟩,s1.trans s2,he,s2 _ _ hD,hL.same fun b _ o=>s2 b o⟩ (fun _ _ _ _ h=>aU.of h.2.2.1) ?_ ?_
  ·rintro i x σ H3 hx ⟨⟨x1,rfl⟩,s3,he3,hD3,hL3⟩
   obtain⟨k,hk,rfl⟩:=ints_get hx
   have il:=(Vj.mp hk).1
   have rb:=fK (k:=k) (R:=R) (by omega)
   obtain⟨j,hj,jl⟩ : ∃j:Nat,aE k R =(j:Int)/\j<R:=⟨(aE k R).toNat,by omega,by omega⟩
   obtain⟨b,hb⟩ : ∃b,as[j]? = some b:=⟨_,Vn (show j<as.length by rw[hL3.len,cz];exact jl)⟩
   obtain⟨r,hr1,hbr⟩:=hL3.get hb
   have hr2:r =(ms.take i).filter fun k=>decide (aE k R =(j:Int)):=by
    rw[fj jl]at hr1
    exact(VC hr1).symm
   have hm:=Vk hb
   x_go
   refine⟨k,R,rfl,by omega,by omega,?_⟩
   rw[hj]
   refine cG (aU.of hD3) (gB hb) ?_
   x_go
   refine⟨.inl ⟨rfl,_,aU.of hbr⟩,?_⟩
   x_go
   refine⟨b,_,_,rfl,rfl,hbr,?_,?_⟩
   ·rw[Vi,hr2]
    refine aR (Vv (VL _ _) ?_)
    rw[Vw];omega
   x_go
   refine⟨⟨_,rfl⟩,fun c o e=>?_,?_,?_,?_⟩
   ·rw[ao (au e (h4 b hm).1)];exact s3 _ _ e
   ·rw[ao (eas b hm).symm];exact he3
   ·rw[ao (h4 b hm).2.symm];exact hD3
   ·rw[aV hk,u9 hj jl,<- hr2]
    have:=hL3.set (r:=r ++ [k]) hn hb
    rw[Vo]at this
    exact this
  ·rintro σ H3 ⟨⟨x1,rfl⟩,s3,he3,hD3,hL3⟩
   rw[Vi,VA]at hL3
   x_go
   exact q ms D H3 p1 p2 nD ⟨as,hD3,hL3,hn,h4⟩ s3
theorem yF {f:Addr}{fd:FuncData}(F:eO K "yard_of" "yard_of" iN f fd) (mF:mg "yard_of" = some (.ref f)) (bF:Binds K fd Ll []) (T:Bl mg) (qA:bw P w K mg base "spread" Gw 5 (tV K)) (bH:Ms P w K mg base):QA P w K mg base:=by
 refine bw.of F mF bF lP (fun vs H Q E h=>?_) (fun _ A _ _ H vs Q E hr h=>?_)
 ·obtain⟨a,ts,ps,w,R,rfl,_⟩:=h;rfl
 obtain⟨a,ts,ps,w,R,rfl,ha,tl,pl,hT,w1,w2,r1,r2,q⟩:=h
 have hu:=hr.units
 have hu1:=Hx hr
 refine⟨_,(ak (aH (i:=3) lP.nd rfl (Or.inr rfl) (cR (qx rfl) rfl T.dict Ae (aa (pv 2) aj ai)))
   (ak (cU (i:=4) lP.nd rfl rfl rfl (cF (sc:=av iN) (N:=ET) (vs:=["own"]) (fs:=["things"]) (js:=[3]) (by z_go) rfl rfl) (aZ (bQ qA hr.mo (aa (cR (zV rfl) rfl T.list g_ (aa (pv 3) aj ai)) (aa (pv 1) aj ai) aF))) (fun _ _ _ _=>aC (i:=0) (show(["own", "things"]:List Str).Nodup by z_go) rfl (Or.inl rfl)) (fun _ _ _ _=>fL) (fun _ _ _ _=>(cN rfl (vL (N:=["own", "things"]) (vs:=["key"]) (fs:=["things"]) (js:=[1]) rfl rfl (by kernel_rfl)) (iP (K:=K) rfl (pv 0)) (fun _ _ _ _=>aC (i:=0) (show(["key", "things"]:List Str).Nodup by z_go) rfl (Or.inl rfl)) (fun _ _ _ _=>fL) (fun _ _ _ _=>(bZ (aa (pv 0) (aa (z_ hu1 (pv 1) (pv 0) (fun _ _=>rfl)) aj aQ) ai))))))
   (az (aP (bZ (aa (pv 0) (aa (pv 1) (aa (cN rfl (cF (sc:=av iN) (N:=ET) (vs:=["own"]) (fs:=["wide"]) (js:=[0]) (by z_go) rfl rfl) (aZ (pv 4)) (fun _ _ _ _=>aC (i:=0) (show(["own", "wide"]:List Str).Nodup by z_go) rfl (Or.inl rfl)) (fun _ _ _ _=>fL) (fun _ _ _ _=>(bQ bH hr.mo (aa (pv 0) (aa (pv 1) aj ai) ai)))) aj eB) ai) ai)))))),?_⟩
 rw[yR]
 x_go
 refine⟨a,ts,ps.map kf,rfl,aU.of ha,by omega,by rw[Vi];exact tl,fun i t p e1 e2=>?_,fun d nd=>?_⟩
 ·rw[Vp]at e2
  cases e:ps[i]? with
  | none=>rw[e]at e2;cases e2
  | some p'=>rw[e]at e2;cases e2;exact hT i t p' e1 e
 rw[show fJ [] (ps.map kf) =(bR [] ps).map kf from lH (qs:=[])]
 generalize hE:upd H d _=H1
 obtain⟨hd,s1⟩:=bf nd hE
 clear hE
 have ql:(bR [] ps).length<=63:=by
  have h1:=iD (ps.map kf) []
  rw[show fJ [] (ps.map kf) =(bR [] ps).map kf from lH (qs:=[]),Vi,Vi]at h1
  simp at h1;omega
 generalize bR [] ps=qs at hd q ql
 x_go
 refine⟨d,_,rfl,hd,fun l nl=>?_⟩
 rw[V4,show(qs.map ((fun kv:Key×V=>kV kv.1) ∘ kf)) =(qs.map (·.1)).map V.int by rw[V4];rfl]
 generalize hE:upd H1 l _=H2
 obtain⟨hl,s2⟩:=bf nl hE
 clear hE
 x_go
 refine⟨l,_,R,rfl,hl,by rw[Vi];exact ql,r1,r2,fun ms sp H3 mp mo nsp LNs s3=>?_⟩
 obtain⟨as,hsp,hLs,_,hnew⟩:=LNs
 have al:=hLs.len
 refine⟨sp,rfl,⟨_,aU.of hsp⟩,fun D nD=>?_⟩
 have hd3:=s3 _ _ (s2 _ _ hd)
 have ml:ms.length<=63:=by rw[mp.length_eq,Vi];exact ql
 refine aY (xs:=as.map V.ref) (fun i σ' ys H'=>(∃x,σ'=[x,some (.ref d)])/\aD H3 H'/\(∃ds:List Addr,ys=ds.map V.ref/\ds.length=i/\∀(j:Nat) (dd:Addr) (own:List Int),ds[j]? = some dd->(bU ms R)[j]? = some own->Own (hid D H') (gV qs) dd own)/\H' D=some (.lst ys)) D ⟨⟨_,rfl⟩,aG nD _,⟨[],rfl,rfl,fun j dd own e=>by simp at e⟩,aq⟩ (fun i σ' ys H' _ h=>aU.of (h.2.1 _ _ hsp)) ?_ ?_
 ·rintro i x σ' ys H4 hx ⟨⟨x1,rfl⟩,s4,⟨ds,rfl,dl,hds⟩,hD⟩
  obtain⟨b,hb,rfl⟩ : ∃b,as[i]? = some b/\x=V.ref b:=by
   rw[Vp]at hx
   cases e:as[i]? with
   | none=>rw[e]at hx;cases hx
   | some b=>rw[e]at hx;exact⟨b,rfl,(VC hx).symm⟩
  obtain⟨own,ho,hob⟩:=hLs.get hb
  have il:i<200:=by have:=(Vj.mp ho).1;rw[cz]at this;omega
  have ol:=nJ ho
  have hb4:=s4 _ _ hob
  have hd4:=s4 _ _ hd3
  x_go
  refine⟨b,rfl,⟨_,aU.of hb4⟩,fun D2 nD2=>?_⟩
  have D2D:D2≠D:=fun z=>by rw[z,hD]at nD2;cases nD2
  refine aY (xs:=own.map V.int) (fun k σ' ys H'=>(∃x,σ'=[x,some (.ref d)])/\aD H4 H'/\(∃us:List Addr,ys=us.map V.ref/\us.length=k/\(∀u∈us,u≠D/\u≠D2)/\∀(n:Nat) (u:Addr) (key:Int),us[n]? = some u->own[n]? = some key->H' u=some (.tup [.int key,gV qs key]))/\H' D2=some (.lst ys)) D2 ⟨⟨_,rfl⟩,aG nD2 _,⟨[],rfl,rfl,fun u hu=>by simp at hu,fun n u key e=>by simp at e⟩,aq⟩ (fun i σ' ys H' _ h=>aU.of (h.2.1 _ _ hb4)) ?_ ?_
  ·rintro k x σ' ys H5 hx2 ⟨⟨x2,rfl⟩,s5,⟨us,rfl,ul,hne,hus⟩,hD2⟩
   obtain⟨key,hkey,rfl⟩:=ints_get hx2
   have kl:=(Vj.mp hkey).1
   have hd5:=s5 _ _ hd4
   have km:key∈qs.map (·.1):=mp.mem_iff.mp (z4 ho (Vk hkey))
   x_go
   refine⟨d,_,rfl,by rw[<- um km];exact yi.k (k:=Sum.inl key) hd5,?_⟩
   x_go
   refine⟨zs2,fun u nu=>?_⟩
   generalize hE:upd H5 u _=H6
   obtain⟨hu6,s6⟩:=bf nu hE
   clear hE
   have uD2:u≠D2:=fun z=>by rw[z,hD2]at nu;cases nu
   have uD:u≠D:=fun z=>by rw[z,s5 _ _ hD]at nu;cases nu
   refine⟨s6 _ _ hD2,by rw[Vi];exact aR (by omega),⟨_,rfl⟩,fun c o e=>?_,⟨us ++ [u],by rw[Vo];rfl,by rw[Vm,ul];rfl,fun v hv=>?_,fun n v kk e1 e2=>?_⟩,aq⟩
   ·rw[ao (au e nD2)];exact s6 _ _ (s5 _ _ e)
   ·rcases VH.mp hv with z|z
    ·exact hne v z
    ·rw[VM.mp z];exact⟨uD,uD2⟩
   ·by_cases z:n<us.length
    ·rw[Vx z]at e1
     rw[ao (hne v (Vk e1)).2];exact s6 _ _ (hus n v kk e1 e2)
    ·have nl:=(Vj.mp e1).1
     rw[Vm]at nl
     have hk:n=us.length:=by have:[u].length=1:=rfl;omega
     subst hk
     rw[Vs (Vt _),Xs]at e1
     rw[ul,hkey]at e2
     have ev:u=v:=VC e1
     have ek:key=kk:=VC e2
     subst ev ek
     rw[ao uD2];exact hu6
  ·rintro σ' ys H5 ⟨⟨x2,rfl⟩,s5,⟨us,rfl,ul,hne,hus⟩,hD2⟩
   rw[Vi]at ul
   have hO:Own (hid D H5) (gV qs) D2 own:=⟨us,by rw[cH D2D];exact hD2,ul,fun n u kk e1 e2=>by rw[cH (hne u (Vk e1)).1];exact hus n u kk e1 e2⟩
   refine⟨s5 _ _ hD,by rw[Vi];exact aR (by omega),⟨_,rfl⟩,fun c o e=>?_,⟨ds ++ [D2],by rw[Vo];rfl,by rw[Vm,dl];rfl,?_⟩,aq⟩
   ·rw[ao (au e nD)];exact s5 _ _ (s4 _ _ e)
   ·rw[iu]
    exact Ez (p:=fun H d own=>Own H (gV qs) d own) dl ho (fun j dd own' e1 e2=>(hds j dd own' e1 e2).same (cL s5)) hO
 ·rintro σ' ys H4 ⟨⟨x1,rfl⟩,s4,⟨ds,rfl,dl,hds⟩,hD⟩
  rw[Vi,al]at dl
  have hds':∀(j:Nat) (dd:Addr) (own:List Int),ds[j]? = some dd->(bU ms R)[j]? = some own->Own H4 (gV qs) dd own:=fun j dd own e1 e2=>(hds j dd own e1 e2).same bP
  clear hds
  have sA:=((s1.trans s2).trans s3).trans s4
  x_go
  refine⟨D,rfl,⟨_,aU.of hD⟩,fun E' nE=>?_⟩
  refine aY (xs:=ds.map V.ref) (fun i σ' ys H'=>(∃x,σ'=[x,some (.int w)])/\aD H4 H'/\(∃(rs:List Addr) (bss:List (List Addr)),ys=rs.map V.ref/\rs.length=i/\bss.length=i/\(∀(j:Nat) (r:Addr) (bs:List Addr) (own:List Int),rs[j]? = some r->bss[j]? = some bs->(bU ms R)[j]? = some own->zY (hid E' H') (gV qs) w r bs own)/\(Eo rs bss).Nodup/\∀b∈Eo rs bss,H4 b=none/\b≠E'/\∃o,H' b=some o)/\H' E'=some (.lst ys)) E' ⟨⟨_,rfl⟩,aG nE _,⟨[],[],rfl,rfl,rfl,fun j r bs own e=>by simp at e,.nil,fun b hb=>by cases hb⟩,aq⟩ (fun i σ' ys H' _ h=>aU.of (h.2.1 _ _ hD)) ?_ ?_
  ·rintro i x σ' ys H5 hx ⟨⟨x1,rfl⟩,s5,⟨rs,bss,rfl,rl,bl,hrs,hnd,hpl⟩,hE'⟩
   obtain⟨dd,hdd,rfl⟩ : ∃b,ds[i]? = some b/\x=V.ref b:=by
    rw[Vp]at hx
    cases e:ds[i]? with
    | none=>rw[e]at hx;cases hx
    | some b=>rw[e]at hx;exact⟨b,rfl,(VC hx).symm⟩
   have il:i <(bU ms R).length:=by rw[<- dl];exact(Vj.mp hdd).1
   have ho:(bU ms R)[i]? = some (bU ms R)[i]:=Vn il
   generalize (bU ms R)[i]=own at ho
   have ol:=nJ ho
   rw[cz]at il
   obtain⟨us,hu1',ul,hus⟩:=hds' i dd own hdd ho
   x_go
   refine⟨dd,us.map V.ref,w,rfl,s5 _ _ hu1',by rw[Vi];omega,w1,w2,fun l6 H6 nl6 RN s6=>?_⟩
   obtain⟨as6,h1,h2,h3,hN6,h4⟩:=RN
   have l6E:l6≠E':=fun z=>by rw[z,hE']at nl6;cases nl6
   have hO:zY (hid E' H6) (gV qs) w l6 as6 own:=by
    refine⟨us,ul,fun n u kk e1 e2=>?_,by rw[cH l6E];exact h1,h2,fun n b es e1 e2=>?_⟩
    ·have hu4:=hus n u kk e1 e2
     rw[cH (au hu4 nE)]
     exact s6 _ _ (s5 _ _ hu4)
    ·have nb:=(h4 b (Vk e1)).1
     rw[cH (fun z=>by rw[z,hE']at nb;cases nb)]
     exact h3 n b es e1 e2
   refine⟨s6 _ _ hE',by rw[Vi];exact aR (by omega),⟨_,rfl⟩,fun c o e=>?_,⟨rs ++ [l6],bss ++ [as6],by rw[Vo];rfl,by rw[Vm,rl];rfl,by rw[Vm,bl];rfl,?_,?_,fun b hb=>?_⟩,aq⟩
   ·rw[ao (au e nE)];exact s6 _ _ (s5 _ _ e)
   ·rw[iu]
    exact Ej (p:=fun H r bs own=>zY H (gV qs) w r bs own) rl bl ho (fun j dd bs own' e1 e3 e2=>(hrs j dd bs own' e1 e3 e2).same (cL s6)) hO
   ·rw[xA (by omega),Wb]
    refine⟨hnd,V6.mpr ⟨fun z=>(h4 l6 z).2 rfl,hN6⟩,fun x hx y hy z=>?_⟩
    obtain⟨o,hox⟩:=(hpl x hx).2.2
    have:H5 y=none:=by
     rcases VW.mp hy with c|c
     ·rw[c];exact nl6
     ·exact(h4 y c).1
    rw[z,this]at hox;cases hox
   ·rw[xA (by omega)]at hb
    rcases VH.mp hb with z|z
    ·obtain⟨g1,g2,o,g3⟩:=hpl b z
     exact⟨g1,g2,o,by rw[ao g2];exact s6 _ _ g3⟩
    ·have n5:H5 b=none:=by
      rcases VW.mp z with c|c
      ·rw[c];exact nl6
      ·exact(h4 b c).1
     have bE:b≠E':=fun c=>by rw[c,hE']at n5;cases n5
     refine⟨s5.free n5,bE,?_⟩
     rw[ao bE]
     rcases VW.mp z with c|c
     ·rw[c];exact⟨_,h1⟩
     ·obtain⟨n,hn⟩:=VE c
      have nl:=(Vj.mp hn).1
      rw[h2]at nl
      exact⟨_,h3 n b _ hn (Vn nl)⟩
  ·rintro σ' ys H5 ⟨⟨x1,rfl⟩,s5,⟨rs,bss,rfl,rl,bl,hrs,hnd,hpl⟩,hE'⟩
   rw[Vi,dl]at rl bl
   x_go
   refine⟨zs3,fun t nt=>?_⟩
   generalize hE:upd H5 t _=H6
   obtain⟨ht,s6⟩:=bf nt hE
   clear hE
   exact q ms t E' H6 mp mo ht ⟨rs,bss,s6 _ _ hE',rl,bl,fun j r bs own e1 e3 e2=>((hrs j r bs own e1 e3 e2).same bP).same s6,V6.mpr ⟨fun z=>(hpl E' z).2.1 rfl,hnd⟩,fun b hb=>sA.free (by
    rcases VW.mp hb with c|c
    ·rw[c];exact nE
    ·exact(hpl b c).1)⟩ ((sA.trans s5).trans s6)
theorem xJ {f:Addr}{fd:FuncData}(F:eO K "is_clean" "is_clean" lM f fd) (mF:mg "is_clean" = some (.ref f)) (bF:Binds K fd mQ []) (T:Bl mg) (cO:QA P w K mg base) (iG:bw P w K mg base "all_entries" mQ 2 (jX K)):bw P w K mg base "is_clean" mQ 7 (nZ K):=by
 refine bw.of F mF bF gX (fun vs H Q E h=>?_) (fun _ A _ _ H vs Q E hr h=>?_)
 ·obtain⟨y,w,R,X,rfl,_⟩:=h;rfl
 obtain⟨y,w,R,X,rfl,hy,w1,w2,r1,r2,al,q⟩:=h
 have hu:=hr.units
 obtain⟨h,hyh,h3,en,sz⟩:=id hy
 obtain⟨ts,ea,el⟩ : ∃ts:List Addr,dB X=ts.map V.ref/\EL H ts (eE (yD H X)):=by
  obtain⟨ts,h1,h2⟩:=EL.of (En.rows en)
  exact⟨ts,h1,by rw[kg];exact h2⟩
 have fl:(eE (yD H X)).length<=63:=by rw[kg,Vi];exact al
 refine⟨_,(ak (fh (pv 0) (eF rfl (aN (aC (i:=1) gX.nd rfl (Or.inl rfl)) (aN (aC (i:=2) gX.nd rfl (Or.inl rfl)) (aN (aC (i:=3) gX.nd rfl (Or.inl rfl)) cE)))))
   (az (aP (l8 (nH hu) (bQ cO hr.mo (aa (pv 1) (aa (pv 2) (aa (bQ iG hr.mo (aa (pv 0) aj ai)) aj aF) ai) ai)) (pv 0) (aX _))))),?_⟩
 rw[xD]
 x_go
 refine⟨y,_,rfl,gu.of hyh,rfl,_,_,rfl,_,_,rfl,_,_,rfl,rfl,?_⟩
 x_go
 refine⟨y,h,_,_,X,rfl,hyh,h3.rms,by omega,fun D H1 nD hD s1=>?_⟩
 rw[ea]at hD
 have el1:=el.same s1
 have tl:ts.length =((eE (yD H X)).map vE).length:=by rw[Vi];exact el.1
 refine⟨D,ts,(eE (yD H X)).map vE,w,R,rfl,hD,tl,by rw[Vi];omega,el1.yd,w1,w2,r1,by omega,fun ms t h' H2 mp mo ht yn s2=>?_⟩
 obtain⟨rs,bss,sy,en2,sz2,cl⟩:=mD el.ok (by omega) w1 r1 r2 mp mo yn
 have hY1:=hy.same (s1.trans s2)
 have g1:=AH (K:=K) ht sy.r3 en2
 have g2:=hY1.pd (K:=K)
 rw[dF (s1.trans s2) en]at g2
 x_go
 refine⟨_,_,g1.1,g2.1,g1.shaped (by omega),g2.shaped (by omega),?_⟩
 rw[J_]
 refine q _ H2 ?_ (s1.trans s2)
 rw[decide_eq_true_iff]
 generalize yD H X=P at cl
 generalize yD H2 (XA H2 bss)=P2 at cl
 constructor
 ·rintro⟨_,_,e⟩
  rw[e]at cl
  have nd:=cl.nodup BV w1
  rw[m_ nd]at cl
  exact⟨nd,cl⟩
 ·rintro⟨nd,cl2⟩
  rw[m_ nd]at cl
  exact⟨rfl,rfl,cl.uniq nd cl2⟩
theorem rV {f:Addr}{fd:FuncData}(F:eO K "entries_in" "entries_in" gx f fd) (mF:mg "entries_in" = some (.ref f)) (bF:Binds K fd uQ []) (T:Bl mg)  : JX P w K mg base:=by
 refine bw.of F mF bF rA (fun vs H Q E h=>?_) (fun _ A _ _ H vs Q E hr h=>?_)
 ·obtain⟨l,X,rfl,_⟩:=h;rfl
 obtain⟨l,X,rfl,⟨as,hl,al,hr2⟩,hz,q⟩:=h
 refine⟨_,(az (aP (xx rfl (cF (sc:=av gx) (N:=uQ) (vs:=["row", "entry"]) (fs:=[]) (js:=[]) (by z_go) rfl rfl) (aZ (pv 0)) (fun _ _ _ _=>aC (i:=0) (show(["row", "entry"]:List Str).Nodup by z_go) rfl (Or.inl rfl)) (fun _ _ _ _=>fL) (fun _ _ _ _=>(iP (K:=K) rfl (pv 0))) (fun _ _ _ _=>aC (i:=1) (show(["row", "entry"]:List Str).Nodup by z_go) rfl (Or.inl rfl)) (fun _ _ _ _=>fL) (fun _ _ _ _=>(pv 1))))),?_⟩
 rw[sJ]
 x_go
 refine xE ?_
 x_go
 refine⟨l,rfl,⟨_,aU.of hl⟩,fun D nD=>?_⟩
 refine q8 (xs:=as.map V.ref) (fun i σ' ys H'=>(∃x y,σ'=[x,y])/\aD H H'/\ys =(X.take i).flatten/\H' D=some (.lst ys)) D ⟨⟨_,_,rfl⟩,aG nD _,rfl,aq⟩ (fun i σ' ys H' _ h=>aU.of (h.2.1 _ _ hl)) ?_ ?_
 ·rintro i x σ' ys H1 hx ⟨⟨x1,y1,rfl⟩,s1,rfl,hD⟩
  obtain⟨a,ha,rfl⟩ : ∃a,as[i]? = some a/\x=V.ref a:=by
   rw[Vp]at hx
   cases e:as[i]? with
   | none=>rw[e]at hx;cases hx
   | some a=>rw[e]at hx;exact⟨a,rfl,(VC hx).symm⟩
  have il:i<X.length:=by rw[<- al];exact(Vj.mp ha).1
  have hes:=hr2 i a _ ha (Vn il)
  have hX:X[i]? = some X[i]:=Vn il
  generalize X[i]=es at hes hX
  have fl:=vW hX
  x_go
  refine G1 ?_
  x_go
  refine⟨a,rfl,⟨_,aU.of (s1 _ _ hes)⟩,?_⟩
  refine in_list (xs:=es) (fun j σ' ys' H'=>(∃x y,σ'=[x,y])/\aD H H'/\ys' =(X.take i).flatten++es.take j/\H' D=some (.lst ys')) ⟨⟨_,_,rfl⟩,s1,by simp,hD⟩ (fun j σ' ys' H' _ h=>aU.of (h.2.1 _ _ hes)) ?_ ?_
  ·rintro j z σ' ys' H2 hz' ⟨⟨x2,y2,rfl⟩,s2,rfl,hD2⟩
   have jl:=(Vj.mp hz').1
   x_go
   refine⟨hD2,?_,⟨_,_,rfl⟩,fun c o e=>?_,?_,aq⟩
   ·rw[Vm,Vw,sizeLine_eq];omega
   ·rw[ao (au e nD)];exact s2 _ _ e
   ·rw[W9,hz',<- VU];rfl
  ·rintro σ' ys' H2 ⟨⟨x2,y2,rfl⟩,s2,rfl,hD2⟩
   rw[VA]at hD2
   refine⟨⟨_,_,rfl⟩,s2,by rw[VA,ny hX],?_⟩
   rw[VA];exact hD2
 ·rintro σ' ys H1 ⟨⟨x1,y1,rfl⟩,s1,rfl,hD⟩
  rw[Vi,al,VA]at hD
  exact q D H1 nD hD s1
theorem qE {f:Addr}{fd:FuncData}(F:eO K "all_entries" "all_entries" fY f fd) (mF:mg "all_entries" = some (.ref f)) (bF:Binds K fd mQ []) (T:Bl mg) (aW:JX P w K mg base):bw P w K mg base "all_entries" mQ 2 (jX K):=by
 refine bw.of F mF bF pZ (fun vs H Q E h=>?_) (fun _ A _ _ H vs Q E hr h=>?_)
 ·obtain⟨t,l,w,r,Y,rfl,_⟩:=h;rfl
 obtain⟨t,l,w,r,Y,rfl,ht,⟨as,hl,al,hr2⟩,hz,q⟩:=h
 refine⟨_,(az (aP (xx rfl (cF (sc:=av fY) (N:=mQ) (vs:=["rows", "entry"]) (fs:=[]) (js:=[]) (by z_go) rfl rfl) (aZ (bg cS (pv 0) ay (fun _ _=>rfl))) (fun _ _ _ _=>aC (i:=0) (show(["rows", "entry"]:List Str).Nodup by z_go) rfl (Or.inl rfl)) (fun _ _ _ _=>fL) (fun _ _ _ _=>(iP (K:=K) rfl (bQ aW hr.mo (aa (pv 0) aj ai)))) (fun _ _ _ _=>aC (i:=1) (show(["rows", "entry"]:List Str).Nodup by z_go) rfl (Or.inl rfl)) (fun _ _ _ _=>fL) (fun _ _ _ _=>(pv 1))))),?_⟩
 rw[pT]
 x_go
 refine xE ?_
 x_go
 refine⟨l,rfl,⟨_,aU.of hl⟩,fun D nD=>?_⟩
 refine q8 (xs:=as.map V.ref) (fun i σ' ys H'=>(∃x y,σ'=[x,y])/\aD H H'/\ys =((Y.map List.flatten).take i).flatten/\H' D=some (.lst ys)) D ⟨⟨_,_,rfl⟩,aG nD _,rfl,aq⟩ (fun i σ' ys H' _ h=>aU.of (h.2.1 _ _ hl)) ?_ ?_
 ·rintro i x σ' ys H1 hx ⟨⟨x1,y1,rfl⟩,s1,rfl,hD⟩
  obtain⟨a,ha,rfl⟩ : ∃a,as[i]? = some a/\x=V.ref a:=by
   rw[Vp]at hx
   cases e:as[i]? with
   | none=>rw[e]at hx;cases hx
   | some a=>rw[e]at hx;exact⟨a,rfl,(VC hx).symm⟩
  have il:i<Y.length:=by rw[<- al];exact(Vj.mp ha).1
  have hY:Y[i]? = some Y[i]:=Vn il
  have hrow:=hr2 i a _ ha hY
  generalize Y[i]=X at hrow hY
  have hX:(Y.map List.flatten)[i]? = some X.flatten:=by rw[Vp,hY];rfl
  have fl:=vW hX
  have hz:(Y.map List.flatten).flatten.length<=100000:=hz
  x_go
  refine G1 ?_
  x_go
  refine⟨a,X,rfl,hrow.same s1,by omega,fun D2 H2 nD2 hD2 s2=>?_⟩
  refine⟨D2,rfl,⟨_,aU.of hD2⟩,?_⟩
  have DD:D2≠D:=fun z=>by rw[z,hD]at nD2;cases nD2
  refine in_list (xs:=X.flatten) (fun j σ' ys' H'=>(∃x y,σ'=[x,y])/\aD H H'/\H' D2=some (.lst X.flatten)/\ys' =((Y.map List.flatten).take i).flatten++X.flatten.take j/\H' D=some (.lst ys')) ⟨⟨_,_,rfl⟩,s1.trans s2,hD2,by simp,s2 _ _ hD⟩ (fun j σ' ys' H' _ h=>aU.of h.2.2.1) ?_ ?_
  ·rintro j z σ' ys' H3 hz' ⟨⟨x2,y2,rfl⟩,s3,h3,rfl,hD3⟩
   have jl:=(Vj.mp hz').1
   x_go
   refine⟨hD3,?_,⟨_,_,rfl⟩,fun c o e=>?_,by rw[ao DD];exact h3,?_,aq⟩
   ·rw[Vm,Vw,sizeLine_eq];omega
   ·rw[ao (au e nD)];exact s3 _ _ e
   ·rw[W9,hz',<- VU];rfl
  ·rintro σ' ys' H3 ⟨⟨x2,y2,rfl⟩,s3,h3,rfl,hD3⟩
   rw[VA]at hD3
   refine⟨⟨_,_,rfl⟩,s3,by rw[VA,ny hX],?_⟩
   rw[VA];exact hD3
 ·rintro σ' ys H1 ⟨⟨x1,y1,rfl⟩,s1,rfl,hD⟩
  have e:(as.map V.ref).length =(Y.map List.flatten).length:=by rw[Vi,Vi,al]
  rw[e,VA]at hD
  exact q D H1 nD hD s1
theorem yV {f:Addr}{fd:FuncData}(F:eO K "rows_at" "rows_at" m6 f fd) (mF:mg "rows_at" = some (.ref f)) (bF:Binds K fd Dg []) (T:Bl mg)  : Lp P w K mg base:=by
 refine bw.of F mF bF zU (fun vs H Q E h=>?_) (fun _ A _ _ H vs Q E hr h=>?_)
 ·obtain⟨h,bs,r,rfl,_⟩:=h;rfl
 obtain⟨h,bs,r,rfl,hh,q⟩:=h
 refine⟨_,(az (aP (DC (aT qf (pv 1) (a_ bz rfl T.len cV (aa (pv 0) aj ai)) (aX _)) (bg bI (pv 0) (pv 1) (fun _ _=>rfl)) (b7 aj)))),?_⟩
 rw[zW]
 x_go
 refine b_ (fun c=>?_) (fun c=>?_)
 ·rw[Vi]at c
  have hb:=Vn (show r<bs.length by omega)
  x_go
  refine cG (aU.of hh) (gB hb) ?_
  exact q _ H (aD.refl H) (.inl hb)
 ·rw[Vi]at c
  x_go
  exact⟨by decide,fun e ne=>q e _ (aG ne _) (.inr ⟨by omega,aq⟩)⟩
theorem FE {f:Addr}{fd:FuncData}(F:eO K "done" "done" zP f fd) (mF:mg "done" = some (.ref f)) (bF:Binds K fd A8 []) (T:Bl mg) (dP:JR P w K mg base):bw P w K mg base "done" A8 3 (z8 K):=by
 refine bw.of F mF bF EJ (fun vs H Q E h=>?_) (fun _ A _ _ H vs Q E hr h=>?_)
 ·obtain⟨y,s,w,R,X,st,rfl,_⟩:=h;rfl
 obtain⟨y,s,w,R,X,st,rfl,hy,hs,q⟩:=h
 refine⟨_,(az (aP (bQ dP hr.mo (aa (pv 0) (aa (b7 (aa (pv 1) aj ai)) aj gG) ai)))),?_⟩
 rw[F3]
 x_go
 refine⟨zs1,fun p np=>?_⟩
 generalize hE:upd H p _=H1
 obtain⟨hp,s1⟩:=bf np hE
 clear hE
 x_go
 refine⟨y,p,w,R,X,[s],[st],rfl,hy.same s1,hp,P1.one (hs.same s1),fun y' h' bs' H' hy' t' s'=>?_⟩
 exact q y' h' bs' H' hy' (t'.weak fun b n=>s1.free n) (s1.trans s')
theorem xT {f:Addr}{fd:FuncData}(F:eO K "done_all" "done_all" i8 f fd) (mF:mg "done_all" = some (.ref f)) (bF:Binds K fd Lo []) (T:Bl mg) (fk:bw P w K mg base "leave_last_rooms" ["held"] 1 (gq K)) (mT:bw P w K mg base "lay_row" FP 1 (qO K)) (kW:bw P w K mg base "cut_room" A_ 1 (om K)):JR P w K mg base:=by
 refine bw.of F mF bF dO (fun vs H Q E h=>?_) (fun _ A _ _ H vs Q E hr h=>?_)
 ·obtain⟨y,ss,w,R,X,sa,sts,rfl,_⟩:=h;rfl
 obtain⟨y,ss,w,R,X,sa,sts,rfl,⟨h0,hy,⟨bs0,hh0,hP0⟩,hen,sz⟩,hss,hS,q⟩:=h
 refine⟨_,(ak (fh (pv 0) (eF rfl (aN (aC (i:=2) dO.nd rfl (Or.inl rfl)) (aN (aC (i:=3) dO.nd rfl (Or.inl rfl)) (aN (aC (i:=4) dO.nd rfl (Or.inl rfl)) cE)))))
   (ak (cU (i:=5) dO.nd rfl rfl rfl (cF (sc:=av i8) (N:=IY) (vs:=uQ) (fs:=[]) (js:=[]) (by z_go) rfl rfl) (aZ (pv 4)) (fun _ _ _ _=>aC (i:=0) (show(uQ:List Str).Nodup by z_go) rfl (Or.inl rfl)) (fun _ _ _ _=>fL) (fun _ _ _ _=>(cN rfl (vL (N:=uQ) (vs:=["row"]) (fs:=[]) (js:=[]) rfl rfl (by kernel_rfl)) (iP (K:=K) rfl (pv 0)) (fun _ _ _ _=>aC (i:=0) (show(["row"]:List Str).Nodup by z_go) rfl (Or.inl rfl)) (fun _ _ _ _=>fL) (fun _ _ _ _=>(cR (iF (K:=K) rfl) rfl T.list g_ (aa (pv 0) aj ai))))))
   (ak (eL V2 rfl (aZ (pv 1)) (aC (i:=6) dO.nd rfl (Or.inl rfl)) (ak (jt (cJ (aT fF (bg cS (pv 6) ay (fun _ _=>rfl)) bM (aX _)) (az (bT (bQ mT hr.mo (aa (pv 5) (aa (bg cS (pv 6) ay (fun _ _=>rfl)) (aa (bg cS (pv 6) ay (fun _ _=>rfl)) (aa (bg cS (pv 6) ay (fun _ _=>rfl)) aj aQ) aQ) aQ) ai)))) (az (cJ (aT fF (bg cS (pv 6) ay (fun _ _=>rfl)) bM (aX _)) (az (bT (bQ kW hr.mo (aa (pv 5) (aa (bg cS (pv 6) ay (fun _ _=>rfl)) (aa (bg cS (pv 6) ay (fun _ _=>rfl)) aj aQ) aQ) ai)))) (az (aH (i:=3) dO.nd rfl (Or.inl rfl) (bg cS (pv 6) ay (fun _ _=>rfl))))))))
   (az (bT (bQ fk hr.mo (aa (pv 5) aj ai))))))
   (az (aP (bZ (aa (pv 2) (aa (pv 3) (aa (pv 5) aj ai) ai) ai))))))),?_⟩
 rw[ym]
 x_go
 refine⟨y,_,rfl,gu.of hy,rfl,_,_,rfl,_,_,rfl,_,_,rfl,rfl,?_⟩
 x_go
 refine⟨h0,rfl,⟨_,aU.of hh0⟩,fun D nD=>?_⟩
 refine aY (xs:=bs0.map V.ref) (fun i σ' ys H'=>(∃x,σ'=[x])/\aD H H'/\∃cs:List Addr,ys=cs.map V.ref/\T3 (fun b=>H b=none) H' D cs (X.take i)) D ⟨⟨_,rfl⟩,aG nD _,[],rfl,nD,aq,XJ,(fun z=>by cases z),P1.nil⟩ (fun i σ' ys H' _ h=>aU.of (h.2.1 _ _ hh0)) ?_ ?_
 ·rintro i x σ' ys H1 hx ⟨⟨x1,rfl⟩,s1,cs,rfl,t1⟩
  obtain⟨b,hb,rfl⟩:=br hx
  obtain⟨rows,hxi,_,as,hb1,hA⟩:=hP0.get hb
  have il:=(Vj.mp hb).1
  have bl0:=hP0.1
  have szr:=(sz.2 rows (Vk hxi)).1
  have al:=hA.1
  have hD1:=t1.2.1
  x_go
  refine⟨b,rfl,⟨_,aU.of (s1 _ _ hb1)⟩,fun D' nD'=>?_⟩
  obtain⟨nDD,_⟩:=t1.new nD'
  refine aY (xs:=as.map V.ref) (fun j σ' ys H'=>(∃x,σ'=[x])/\aD H1 H'/\∃cs':List Addr,ys=cs'.map V.ref/\H' D'=some (.lst ys)/\P1 (fun a es=>H1 a=none/\a≠D'/\H' a=some (.lst es)) cs' (rows.take j)) D' ⟨⟨_,rfl⟩,aG nD' _,[],rfl,aq,P1.nil⟩ (fun i σ' ys H' _ h=>aU.of (h.2.1 _ _ (s1 _ _ hb1))) ?_ ?_
  ·rintro j x σ' ys H2 hx ⟨⟨x2,rfl⟩,s2,cs',rfl,hD',hC⟩
   obtain⟨a,ha,rfl⟩:=br hx
   obtain⟨es,hes,_,ha1⟩:=hA.get ha
   have jl:=(Vj.mp ha).1
   have cl:=hC.1
   rw[Vw]at cl
   x_go
   refine tH (aU.of (s2 _ _ (s1 _ _ ha1))) fun e ne=>?_
   generalize hE:upd H2 e _=H3
   obtain⟨he,s3⟩:=bf ne hE
   clear hE
   have eD:e≠D':=fun z=>by rw[z,hD']at ne;cases ne
   refine⟨s3 _ _ hD',by rw[Vi];exact aR (by omega),⟨_,rfl⟩,fun c o e=>by rw[ao (au e nD')];exact s3 _ _ (s2 _ _ e),cs' ++ [e],by rw[Vo];rfl,aq,?_⟩
   rw[aV hes]
   refine(hC.imp fun a es t=>⟨t.1,t.2.1,?_⟩).snoc ⟨s2.free ne,eD,?_⟩
   ·rw[ao eD];exact he
   ·rw[ao t.2.1];exact s3 _ _ t.2.2
  ·rintro σ' ys H2 ⟨⟨x2,rfl⟩,s2,cs',rfl,hD',hC⟩
   rw[Vi,al,VA]at hC
   have hD2:=s2 _ _ hD1
   have cl:=t1.2.2.2.2.1
   rw[Vw]at cl
   x_go
   refine⟨hD2,by rw[Vi];exact aR (by have:=sz.1;omega),⟨_,rfl⟩,fun c o e=>by rw[ao (au e nD)];exact s2 _ _ (s1 _ _ e),cs ++ [D'],by rw[Vo];rfl,?_⟩
   rw[aV hxi]
   refine t1.add (fun b o n e=>by rw[ao n];exact s2 _ _ e) (by rw[aq,Vo];rfl) nD' (s1.free nD') (by rw[ao nDD];exact hD') (hC.imp fun a es t=>⟨s1.free t.1,t.1,t.2.1,?_⟩)
   rw[ao (t1.new t.1).1];exact t.2.2
 rintro σ' ys H1 ⟨⟨x1,rfl⟩,s1,cs,rfl,t1⟩
 rw[Vi,hP0.1,VA]at t1
 x_go
 refine⟨ss,rfl,⟨_,aU.of (s1 _ _ hss)⟩,?_⟩
 have sl:=hS.1
 refine dh (xs:=sa.map V.ref) (fun i σ H'=>(∃x6,σ=[some (.ref y),some (.ref ss),some (.int w),some (.int ((sts.take i).foldl u6 R)),some (.ref h0),some (.ref D),x6])/\aD H H'/\Gh ((sts.take i).foldl lK X)/\∃bs',T3 (fun b=>H b=none) H' D bs' ((sts.take i).foldl lK X)) ⟨⟨_,rfl⟩,s1,sz,cs,t1⟩ (fun _ _ _ _ h=>aU.of (h.2.1 _ _ hss)) ?_ ?_
 ·rintro i x σ H2 hx ⟨⟨x6,rfl⟩,s2,sz2,bs2,t2⟩
  obtain⟨sp,hsp,rfl⟩:=br hx
  obtain⟨st,hst,hA⟩:=hS.get hsp
  have hA2:=hA.same s2
  have szn:=sz2.step hA2
  have frn:Fr (fun b=>H b=none) H2:=fun e n=>s2.free n
  have back:∀{H3:Hp},Kq (fun b=>H b=none) H2 H3->aD H H3:=fun k b o e=>k b o (fun z=>by have z':H b=none:=z;rw[e]at z';cases z') (s2 _ _ e)
  have frk:∀{H3:Hp},Kq (fun b=>H b=none) H2 H3->Fr (fun b=>H b=none) H3:=fun k=>frn.keep k
  rw[aV hst,XI,XI]
  show _
  generalize (sts.take i).foldl lK X=Y at t2 sz2 szn ⊢
  generalize (sts.take i).foldl u6 R=R2
  have nrow:∀z:Str,decide (V.str z=V.str "row")=decide (z = "row"):=fun z=>by simp
  have ncut:∀z:Str,decide (V.str z=V.str "cut")=decide (z = "cut"):=fun z=>by simp
  cases st with
  | row r a es =>
   obtain⟨l,h1,h2,r2,a2,el,_⟩:=hA2
   obtain⟨l',h1',h2',_⟩:=hA
   have el':l'=l:=by
    have:=s2 _ _ h1'
    rw[h1]at this
    simpa using this.symm
   subst el'
   x_go
   refine⟨fun σ' H'=>σ'=[some (.ref y),some (.ref ss),some (.int w),some (.int R2),some (.ref h0),some (.ref D),some (.ref sp)]/\∃bs',T3 (fun b=>H b=none) H' D bs' (xU Y r a es)/\Kq (fun b=>H b=none) H2 H',?_,?_⟩
   ·x_go
    refine⟨rfl,?_⟩
    rw[VX rfl]
    x_go
    refine⟨_,D,bs2,Y,r,a,l',es,rfl,t2,frn,sz2,r2,a2,(fun z=>by have z':H l'=none:=z;rw[h2']at z';cases z'),h2,by omega,fun bs3 H3 t3 k3=>?_⟩
    exact⟨rfl,bs3,t3,k3⟩
   ·rintro σ' H3 ⟨rfl,bs3,t3,k3⟩
    x_go
    refine⟨_,D,bs3,_,rfl,t3,fun bs4 H4 t4 k4=>?_⟩
    x_go
    exact⟨⟨_,rfl⟩,back (k3.trans k4),szn,bs4,t4⟩
  | cut r m =>
   obtain⟨h1,_⟩:=hA2
   x_go
   refine⟨fun σ' H'=>σ'=[some (.ref y),some (.ref ss),some (.int w),some (.int R2),some (.ref h0),some (.ref D),some (.ref sp)]/\∃bs',T3 (fun b=>H b=none) H' D bs' (Y.modify r (List.take m))/\Kq (fun b=>H b=none) H2 H',?_,?_⟩
   ·x_go
    refine⟨rfl,?_⟩
    rw[show decide (V.str "cut" = V.str "row")=false from by z_go]
    x_go
    refine⟨rfl,?_⟩
    rw[VX rfl]
    x_go
    refine⟨_,D,bs2,Y,r,m,rfl,t2,frn,fun bs3 H3 t3 k3=>?_⟩
    exact⟨rfl,bs3,t3,k3⟩
   ·rintro σ' H3 ⟨rfl,bs3,t3,k3⟩
    x_go
    refine⟨_,D,bs3,_,rfl,t3,fun bs4 H4 t4 k4=>?_⟩
    x_go
    exact⟨⟨_,rfl⟩,back (k3.trans k4),szn,bs4,t4⟩
  | rooms n =>
   obtain⟨h1,_⟩:=hA2
   x_go
   refine⟨fun σ' H'=>σ'=[some (.ref y),some (.ref ss),some (.int w),some (.int n),some (.ref h0),some (.ref D),some (.ref sp)]/\∃bs',T3 (fun b=>H b=none) H' D bs' Y/\Kq (fun b=>H b=none) H2 H',?_,?_⟩
   ·x_go
    refine⟨rfl,?_⟩
    rw[show decide (V.str "rooms" = V.str "row")=false from by z_go]
    x_go
    refine⟨rfl,?_⟩
    rw[show decide (V.str "rooms" = V.str "cut")=false from by z_go]
    x_go
    exact⟨rfl,bs2,t2,fun _ _ _ e=>e⟩
   ·rintro σ' H3 ⟨rfl,bs3,t3,k3⟩
    x_go
    refine⟨_,D,bs3,_,rfl,t3,fun bs4 H4 t4 k4=>?_⟩
    x_go
    exact⟨⟨_,rfl⟩,back (k3.trans k4),szn,bs4,t4⟩
 ·rintro σ H2 ⟨⟨x6,rfl⟩,s2,sz2,bs2,t2⟩
  rw[Vi,sl,VA]at t2 ⊢
  x_go
  refine⟨zs3,fun t nt=>?_⟩
  generalize hE:upd H2 t _=H3
  obtain⟨ht,s3⟩:=bf nt hE
  clear hE
  exact q t D bs2 H3 ht (t2.same s3) (s2.trans s3)
theorem yT {f:Addr}{fd:FuncData}(F:eO K "lay_row" "lay_row" nB f fd) (mF:mg "lay_row" = some (.ref f)) (bF:Binds K fd FP []) (T:Bl mg)  : bw P w K mg base "lay_row" FP 1 (qO K):=by
 refine bw.of F mF bF pq (fun vs H Q E h=>?_) (fun _ A _ _ H vs Q E hr h=>?_)
 ·obtain⟨S,h,bs,X,r,a,l,es,rfl,_⟩:=h;rfl
 obtain⟨S,h,bs,X,r,a,l,es,rfl,t,fr,sz,r2,a2,nl,hl,el,q⟩:=h
 obtain⟨sh,hh,nd,hnb,hP⟩:=id t
 refine⟨_,(ak (gJ V2 (aT DJ (a_ bz rfl T.len cV (aa (pv 0) aj ai)) (pv 1) (aX _)) (az (bT (gh VO VP VQ bL (pv 0) (aa (b7 aj) aj gG)))))
   (ak (aH (i:=4) pq.nd rfl (Or.inl rfl) (bg bI (pv 0) (pv 1) (fun _ _=>rfl)))
   (ak (gJ V2 (aT DJ (a_ bz rfl T.len cV (aa (pv 4) aj ai)) (pv 2) (aX _)) (az (bT (gh VO VP VQ bL (pv 4) (aa (b7 aj) aj gG)))))
   (az (fh (cR jc rfl T.list g_ (aa (pv 3) aj ai)) (yS (pv 4) (pv 2) set_list)))))),?_⟩
 rw[zG]
 x_go
 refine⟨fun m σ H'=>∃bs' X',σ=[some (.ref h),some (.int r),some (.int a),some (.ref l),none]/\T3 S H' h bs' X'/\pad X' (r+1)=pad X (r+1)/\X'.length<=131/\Kq S H H'/\m=r+1-X'.length,⟨_,bs,X,rfl,t,rfl,sz.1,fun _ _ _ e=>e,rfl⟩,?_⟩
 rintro m σ H1 ⟨bs1,X1,rfl,t1,e1,l1,k1,rfl⟩
 obtain⟨_,hh1,_,_,hP1⟩:=id t1
 have fr1:=fr.keep k1
 have bl1:=hP1.1
 x_go
 refine b_ (fun c=>?_) (fun c=>?_)
 ·rw[Vi]at c
  refine⟨_,fun σ' H'' h=>h,?_⟩
  x_go
  refine⟨.inl ⟨rfl,_,aU.of hh1⟩,?_⟩
  x_go
  refine⟨by decide,fun e ne=>?_⟩
  generalize hE:upd H1 e _=H2
  obtain⟨he,s2⟩:=bf ne hE
  clear hE
  obtain⟨n1,n2⟩:=t1.new ne
  refine⟨h,_,_,rfl,rfl,s2 _ _ hh1,by rw[Vi];exact aR (by omega),?_⟩
  have hk:∀b o,b≠h->H1 b=some o->(upd H2 h (.lst (bs1.map V.ref ++ [V.ref e]))) b=some o:=fun b o n e=>by rw[ao n];exact s2 _ _ e
  refine⟨r+1-(X1 ++ [[]]).length,by rw[Vm,Wn];omega,bs1 ++ [e],X1 ++ [[]],rfl,t1.push ne (fr1 e ne) hk (by rw[aq,Vo];rfl) (by rw[ao n1];exact he),by rw[yo (by omega),e1],by rw[Vm,Wn];omega,k1.trans fun b o n e=>hk _ _ (fun z=>n (z ▸ sh)) e,rfl⟩
 ·rw[Vi]at c
  rw[wM (by omega)]at e1
  have rl:r<bs1.length:=by omega
  have hb:=Vn rl
  generalize bs1[r]=b at hb
  obtain⟨rows,hx,sb,as,hb2,hA⟩:=hP1.get hb
  have hrl:rows.length<=131:=by
   rw[e1]at hx
   rcases l9 (Vk hx) with z|z
   ·exact(sz.2 rows z).1
   ·rw[z];simp
  x_go
  refine cG (aU.of hh1) (gB hb) ?_
  x_go
  refine⟨fun m σ H'=>∃rows',σ=[some (.ref h),some (.int r),some (.int a),some (.ref l),some (.ref b)]/\T3 S H' h bs1 (X1.set r rows')/\pad rows' (a+1)=pad rows (a+1)/\rows'.length<=131/\Kq S H H'/\m=a+1-rows'.length,⟨_,rows,rfl,by rw[JG hx];exact t1,rfl,hrl,k1,rfl⟩,?_⟩
  rintro m σ H2 ⟨rows2,rfl,t2,e2,l2,k2,rfl⟩
  have hx2:(X1.set r rows2)[r]? = some rows2:=List.getElem?_set_self (by omega)
  obtain⟨sb2,as2,hb3,hA2⟩:=t2.inrow hb hx2
  have al:=hA2.1
  have fr2:=fr.keep k2
  have hbh:b≠h:=fun z=>t1.2.2.2.1 (z ▸ Vk hb)
  x_go
  refine b_ (fun c2=>?_) (fun c2=>?_)
  ·rw[Vi]at c2
   refine⟨_,fun σ' H'' h=>h,?_⟩
   x_go
   refine⟨.inl ⟨rfl,_,aU.of hb3⟩,?_⟩
   x_go
   refine⟨by decide,fun e ne=>?_⟩
   generalize hE:upd H2 e _=H3
   obtain⟨he,s3⟩:=bf ne hE
   clear hE
   obtain⟨n1,n2⟩:=t2.new ne
   have eb:e≠b:=fun z=>n2 (z ▸ Vk hb)
   refine⟨b,_,_,rfl,rfl,s3 _ _ hb3,by rw[Vi];exact aR (by omega),?_⟩
   have hk:∀c o,c≠b->H2 c=some o->(upd H3 b (.lst (as2.map V.ref ++ [V.ref e]))) c=some o:=fun c o n e=>by rw[ao n];exact s3 _ _ e
   refine⟨a+1-(rows2 ++ [[]]).length,by rw[Vm,Wn];omega,rows2 ++ [[]],rfl,?_,by rw[yo (by omega),e2],by rw[Vm,Wn];omega,k2.trans fun c o n e=>hk _ _ (fun z=>n (z ▸ sb2)) e,rfl⟩
   have:=t2.one hb hk (rows:=rows2 ++ [[]]) ⟨sb2,as2 ++ [e],by rw[aq,Vo];rfl,(hA2.imp fun a es t=>⟨t.1,t.2.1,t.2.2.1,hk _ _ (fun z=>t.2.2.1 (z ▸ Vk hb)) t.2.2.2⟩).snoc ⟨fr2 e ne,n1,n2,by rw[ao eb];exact he⟩⟩
   rw[List.set_set]at this
   exact this
  ·rw[Vi]at c2
   rw[wM (by omega)]at e2
   x_go
   have hl2:=k2 _ _ nl hl
   refine⟨l,_,rfl,.inl (aU.of hl2),fun e ne=>?_⟩
   generalize hE:upd H2 e _=H3
   obtain⟨he,s3⟩:=bf ne hE
   clear hE
   obtain⟨n1,n2⟩:=t2.new ne
   have eb:e≠b:=fun z=>n2 (z ▸ Vk hb)
   x_go
   refine uZ (s3 _ _ hb3) (by rw[Vi];exact CG (by omega)) ?_
   rw[show(as2.map V.ref).set a (V.ref e) =(as2.set a e).map V.ref from List.map_set.symm]
   have hk:∀c o,c≠b->H2 c=some o->(upd H3 b (.lst ((as2.set a e).map V.ref))) c=some o:=fun c o n e=>by rw[ao n];exact s3 _ _ e
   refine q bs1 _ ?_ (k2.trans fun c o n e=>hk _ _ (fun z=>n (z ▸ sb2)) e)
   have:=t2.one hb hk (rows:=rows2.set a es) ⟨sb2,as2.set a e,aq,P1.set (hA2.imp fun a es t=>⟨t.1,t.2.1,t.2.2.1,hk _ _ (fun z=>t.2.2.1 (z ▸ Vk hb)) t.2.2.2⟩) ⟨fr2 e ne,n1,n2,by rw[ao eb];exact he⟩⟩
   rw[List.set_set]at this
   unfold xU
   rw[<- e1,Al hx,<- e2]
   exact this
theorem xG {f:Addr}{fd:FuncData}(F:eO K "cut_room" "cut_room" lF f fd) (mF:mg "cut_room" = some (.ref f)) (bF:Binds K fd A_ []) (T:Bl mg)  : bw P w K mg base "cut_room" A_ 1 (om K):=by
 refine bw.of F mF bF w6 (fun vs H Q E h=>?_) (fun _ A _ _ H vs Q E hr h=>?_)
 ·obtain⟨S,h,bs,X,r,m,rfl,_⟩:=h;rfl
 obtain⟨S,h,bs,X,r,m,rfl,t,fr,q⟩:=h
 obtain⟨sh,hh,nd,hnb,hP⟩:=id t
 refine⟨_,(az (cJ (aT qf (pv 1) (a_ bz rfl T.len cV (aa (pv 0) aj ai)) (aX _)) (az (fh (cP eW (bg bI (pv 0) (pv 1) (fun _ _=>rfl)) eY (dD (pv 2))) (yS (pv 0) (pv 1) set_list))) bA)),?_⟩
 rw[yt]
 x_go
 refine b_ (fun c=>?_) (fun c=>?_)
 ·rw[Vi]at c
  have rl:r<bs.length:=by omega
  have hb:=Vn rl
  generalize bs[r]=b at hb
  obtain⟨rows,hx,sb,as,hb2,hA⟩:=hP.get hb
  x_go
  refine cG (aU.of hh) (gB hb) ?_
  x_go
  refine gp (aU.of hb2) fun e ne=>?_
  rw[iU]
  generalize hE:upd H e _=H1
  obtain⟨he,s1⟩:=bf ne hE
  clear hE
  x_go
  refine uZ (s1 _ _ hh) (by rw[Vi];exact CG rl) ?_
  rw[show(bs.map V.ref).set r (V.ref e) =(bs.set r e).map V.ref from List.map_set.symm]
  have se:=fr e ne
  obtain⟨n1,n2⟩:=t.new ne
  have hk:∀b o,b≠h->H b=some o->(upd H1 h (.lst ((bs.set r e).map V.ref))) b=some o:=fun b o n e=>by rw[ao n];exact s1 _ _ e
  refine q (bs.set r e) _ ?_ (fun b o n e=>?_)
  ·rw[Al hx]
   refine t.put ne hk aq ⟨se,as.take m,by rw[ao n1];exact he,(hA.take m).imp fun a es t=>⟨t.1,t.2.1,fun z=>?_,hk _ _ t.2.1 t.2.2.2⟩⟩
   rcases W5 z with w|w
   ·exact t.2.2.1 w
   ·have:=t.2.2.2
    rw[w,ne]at this;cases this
  ·exact hk _ _ (fun z=>n (z ▸ sh)) e
 ·rw[Vi,hP.1]at c
  x_go
  refine q bs H ?_ fun _ _ _ e=>e
  rw[DY (by omega)];exact t
theorem ku {f:Addr}{fd:FuncData}(F:eO K "leave_last_rooms" "leave_last_rooms" fc f fd) (mF:mg "leave_last_rooms" = some (.ref f)) (bF:Binds K fd ["held"] []) (T:Bl mg)  : bw P w K mg base "leave_last_rooms" ["held"] 1 (gq K):=by
 refine bw.of F mF bF kH (fun vs H Q E h=>?_) (fun _ A _ _ H vs Q E hr h=>?_)
 ·obtain⟨S,h,bs,X,rfl,_⟩:=h;rfl
 obtain⟨S,h,bs,X,rfl,t,q⟩:=h
 obtain⟨sh,hh,nd,hnb,hP⟩:=id t
 refine⟨_,(az (gJ V2 (PW.pt (kU (mj (pv 0) (fun _=>rfl)) (jg (z3 (mj (bg bI (pv 0) (CW zu ay) (fun _ _=>rfl)) (fun _=>rfl)))))) (az (bT (zy VO PySem.F.slot_list_pop PySem.F.type_list_pop Kv (pv 0)))))),?_⟩
 rw[kC]
 x_go
 refine⟨fun m σ H'=>∃bs' X',σ=[some (.ref h)]/\T3 S H' h bs' X'/\trim X'=trim X/\Kq S H H'/\m=X'.length,⟨X.length,bs,X,rfl,t,rfl,fun _ _ _ e=>e,rfl⟩,?_⟩
 rintro m σ H1 ⟨bs1,X1,rfl,t1,e1,k1,rfl⟩
 obtain⟨_,hh1,_,_,hP1⟩:=id t1
 x_go
 refine⟨decide (bs1 ≠ []),.inl ⟨_,aU.of hh1,pL⟩,?_⟩
 by_cases c:bs1=[]
 ·rw[VR (by simpa using c)]
  have x0:X1=[]:=Wy (by rw[<- hP1.1,c];rfl)
  x_go
  refine q bs1 H1 ?_ k1
  rw[<- e1,x0,Ca,<- x0];exact t1
 ·rw[VX c]
  obtain⟨cs,b,rfl⟩:=Aa c
  obtain⟨Y,rows,rfl⟩:=Aa (xs:=X1) (fun z=>by have:=hP1.1;rw[z,Vm]at this;simp at this)
  have yl:cs.length=Y.length:=by have:=hP1.1;rw[Vm,Vm]at this;simpa using this
  obtain⟨sb,as,hb2,hA⟩:=hP1.2 cs.length b rows (by simp) (by rw[yl];simp)
  x_go
  refine cG (aU.of hh1) (v:=.ref b) (by rw[Vo];exact xN _ _) ?_
  refine⟨decide (as ≠ []),.inl ⟨_,aU.of hb2,pL⟩,?_⟩
  by_cases c2:as=[]
  ·rw[VR (by simpa using c2)]
   have r0:rows=[]:=Wy (by rw[<- hA.1,c2];rfl)
   subst r0
   x_go
   refine⟨_,fun σ' H'' h=>h,?_⟩
   x_go
   refine⟨.inl ⟨rfl,_,aU.of hh1⟩,?_⟩
   x_go
   refine⟨h,_,.ref b,rfl,rfl,hh1,by simp,?_⟩
   rw[show((cs ++ [b]).map V.ref).dropLast =(cs ++ [b]).dropLast.map V.ref from List.map_dropLast.symm]
   refine⟨Y.length,by rw[Vm];exact XN _,(cs ++ [b]).dropLast,(Y ++ [[]]).dropLast,rfl,t1.pop (fun b o n e=>by rw[ao n];exact e) aq,?_,k1.trans fun b o n e=>?_,by simp⟩
   ·rw[List.dropLast_concat,<- e1,AU]
   ·rw[ao (show b≠h from fun z=>n (z ▸ sh))];exact e
  ·rw[VX c2]
   have r0:rows ≠ []:=fun z=>c2 (Wy (by rw[hA.1,z];rfl))
   x_go
   refine q (cs ++ [b]) H1 ?_ k1
   rw[<- e1,BL r0];exact t1
theorem B6 {f:Addr}{fd:FuncData}(F:eO K "found" "found" oW f fd) (mF:mg "found" = some (.ref f)) (bF:Binds K fd yp []) (T:Bl mg) (bq:Lp P w K mg base) (qH:bw P w K mg base "looked" r6 1 (t7 K)) (bx:Lm P w K mg base):bw P w K mg base "found" yp 5 (xr K):=by
 refine bw.of F mF bF gT (fun vs H Q E h=>?_) (fun _ A _ _ H vs Q E hr h=>?_)
 ·obtain⟨y,w,R,k,X,rfl,_⟩:=h;rfl
 obtain⟨y,w,R,k,X,rfl,⟨h0,hy,⟨bs0,hh0,hP0⟩,hen,sz⟩,hdk,r1,r2,q⟩:=h
 have hu1:=Hx hr
 refine⟨_,(ak (fh (pv 0) (eF rfl (aN (aC (i:=2) gT.nd rfl (Or.inl rfl)) (aN (aC (i:=3) gT.nd rfl (Or.inl rfl)) (aN (aC (i:=4) gT.nd rfl (Or.inl rfl)) cE)))))
   (ak (aH (i:=5) gT.nd rfl (Or.inl rfl) (bQ bq hr.mo (aa (pv 4) (aa (bQ bx hr.mo (aa (pv 1) (aa (pv 3) aj ai) ai)) aj aF) ai)))
   (ak (fh (bQ qH hr.mo (aa (cN rfl (cF (sc:=av oW) (N:=Jx) (vs:=["row"]) (fs:=[]) (js:=[]) (by z_go) rfl rfl) (aZ (pv 5)) (fun _ _ _ _=>aC (i:=0) (show(["row"]:List Str).Nodup by z_go) rfl (Or.inl rfl)) (fun _ _ _ _=>fL) (fun _ _ _ _=>(cN rfl (vL (N:=["row"]) (vs:=["entry"]) (fs:=[]) (js:=[]) rfl rfl (by kernel_rfl)) (iP (K:=K) rfl (pv 0)) (fun _ _ _ _=>aC (i:=0) (show(["entry"]:List Str).Nodup by z_go) rfl (Or.inl rfl)) (fun _ _ _ _=>fL) (fun _ _ _ _=>(bg (j7 (K:=K) rfl) (pv 0) ay (fun _ _=>rfl)))))) (aa (pv 1) aj ai) eB)) (eF rfl (aN (aC (i:=6) gT.nd rfl (Or.inl rfl)) (aN (aC (i:=7) gT.nd rfl (Or.inl rfl)) cE))))
   (ak (cJ (z3 (C6 (pv 6))) (az (aP (bZ (aa C9 (aa (pv 7) aj ai) aB)))) bA)
   (az (aP (bZ (aa (z_ hu1 (cR (qx rfl) rfl T.dict Ae (aa (bg bI (pv 5) (aO jQ (pv 7) ay) (fun _ _=>rfl)) aj aQ)) (pv 1) (fun _ _=>rfl)) (aa (pv 7) aj ai) aQ)))))))),?_⟩
 rw[Dq]
 x_go
 refine⟨y,_,rfl,gu.of hy,rfl,_,_,rfl,_,_,rfl,_,_,rfl,rfl,?_⟩
 x_go
 refine⟨k,R,rfl,r1,r2,?_⟩
 have rb:=fK (k:=k) r1
 obtain⟨r,hr0⟩ : ∃r:Nat,aE k R =(r:Int):=⟨(aE k R).toNat,by omega⟩
 rw[hr0]
 x_go
 have bl0:=hP0.1
 have szl:=sz.1
 have own_at:∀(o:Addr) (H1:Hp),aD H H1->(bs0[r]? = some o \/(bs0.length<=r/\H1 o=some (.lst [])))->∃as:List Addr,H1 o=some (.lst (as.map V.ref))/\P1 (R1 (fun _=>True) H1) as (bJ X k R):=fun o H1 s1 ho=>by
  have ex:(aE k R).toNat=r:=by omega
  rcases ho with ho|⟨ho,h1⟩
  ·obtain⟨rows,hx,_,as,h2,h3⟩:=hP0.get ho
   refine⟨as,s1 _ _ h2,?_⟩
   unfold bJ
   rw[ex,hx]
   exact h3.imp fun a es t=>t.keep fun _ _ _ e=>s1 _ _ e
  ·refine⟨[],h1,?_⟩
   unfold bJ
   rw[ex,V7 (by omega)]
   exact P1.nil
 have own_in:bJ X k R=[]\/bJ X k R∈X:=by
  unfold bJ
  cases e:X[(aE k R).toNat]? with
  | none=>exact .inl rfl
  | some x=>exact .inr (Vk e)
 have own_ok:(bJ X k R).length<=131/\∀es∈bJ X k R,es.length<=9/\(∀v∈es,En H v)/\((aI H es).map (·.1)).Nodup:=by
  rcases own_in with e|e
  ·rw[e];exact⟨by simp,fun es he=>by cases he⟩
  ·exact⟨(sz.2 _ e).1,fun es he=>⟨(sz.2 _ e).2 es he,hen _ e es he,hdk _ e es he⟩⟩
 refine⟨h0,bs0,r,rfl,hh0,fun o H1 s1 ho=>?_⟩
 obtain⟨as,ho1,hA⟩:=own_at o H1 s1 ho
 obtain⟨rl,hrow⟩:=own_ok
 generalize bJ X k R=rows at hA rl hrow q
 have al:=hA.1
 x_go
 refine⟨o,rfl,⟨_,aU.of ho1⟩,fun D nD=>?_⟩
 refine aY (xs:=as.map V.ref) (fun i σ' ys H'=>(∃x,σ'=[x])/\aD H1 H'/\∃cs:List Addr,ys=cs.map V.ref/\H' D=some (.lst ys)/\(∀c∈cs,c≠D)/\Ls H' cs (qJ ((aL H rows).take i))) D ⟨⟨_,rfl⟩,aG nD _,[],rfl,aq,(fun _ h=>by cases h),trivial⟩ (fun i σ' ys H' _ h=>aU.of (h.2.1 _ _ ho1)) ?_ ?_
 ·rintro i x σ' ys H2 hx ⟨⟨x1,rfl⟩,s2,cs,rfl,hD,hcD,hC⟩
  obtain⟨a,ha,rfl⟩:=br hx
  obtain⟨es,hes,_,ha1⟩:=hA.get ha
  have il:=(Vj.mp ha).1
  obtain⟨el,hen2,_⟩:=hrow es (Vk hes)
  have s12:=s1.trans s2
  have cl:=hC.len
  unfold qJ aL at cl
  rw[Vi,Vw,Vi]at cl
  x_go
  refine⟨a,rfl,⟨_,aU.of (s2 _ _ ha1)⟩,fun D' nD'=>?_⟩
  have DD:D'≠D:=fun z=>by rw[z,hD]at nD';cases nD'
  refine aY (xs:=es) (fun j σ' ys H'=>(∃x,σ'=[x])/\aD H2 H'/\ys =((aI H es).take j).map (fun e=>V.int e.1)/\H' D'=some (.lst ys)) D' ⟨⟨_,rfl⟩,aG nD' _,rfl,aq⟩ (fun i σ' ys H' _ h=>aU.of (h.2.1 _ _ (s2 _ _ ha1))) ?_ ?_
  ·rintro j x σ' ys H3 hx ⟨⟨x2,rfl⟩,s3,rfl,hD'⟩
   obtain⟨t,et,ht,_⟩:=(hen2 x (Vk hx)).pt
   have jl:=(Vj.mp hx).1
   have ht3:=s3 _ _ (s12 _ _ ht)
   have hxd:(aI H es)[j]? = some (eD H x):=by unfold aI;rw[Vp,hx];rfl
   rw[et]
   x_go
   refine⟨hD',by rw[Vi,Vw];exact aR (by omega),⟨_,rfl⟩,fun b o e=>by rw[ao (au e nD')];exact s3 _ _ e,?_,aq⟩
   rw[aV hxd,Vo];rfl
  ·rintro σ' ys H3 ⟨⟨x2,rfl⟩,s3,rfl,hD'⟩
   rw[V8 (by unfold aI;rw[Vi];exact Vt _)]at hD'
   have hxr:(aL H rows)[i]? = some (aI H es):=by unfold aL;rw[Vp,hes];rfl
   refine⟨s3 _ _ hD,by rw[Vi];exact aR (by omega),⟨_,rfl⟩,fun b o e=>by rw[ao (au e nD)];exact s3 _ _ (s2 _ _ e),cs ++ [D'],by rw[Vo];rfl,aq,fun c hc=>?_,?_⟩
   ·rcases VH.mp hc with z|z
    ·exact hcD c z
    ·have e:c=D':=by simpa using z
     rw[e];exact DD
   ·rw[aV hxr]
    unfold qJ
    rw[Vo]
    refine Ls.snoc ?_ (hC.same fun c hc o e=>by rw[ao (hcD c hc)];exact s3 _ _ e)
    rw[ao DD,hD',V4];rfl
 ·rintro σ' ys H2 ⟨⟨x1,rfl⟩,s2,cs,rfl,hD,hcD,hC⟩
  have rdl:(aL H rows).length=rows.length:=Vi _
  rw[Vi,al,<- rdl,VA]at hC
  have s12:=s1.trans s2
  x_go
  refine⟨D,k,qJ (aL H rows),rfl,⟨cs,hD,hC⟩,by unfold qJ;rw[Vi,rdl];omega,fun t1 H3 nt1 ht1 s3=>?_⟩
  rw[wQ]at ht1
  have s13:=s12.trans s3
  cases hf:(rB k (aL H rows)).1 with
  | none =>
   rw[hf]at q
   have ht2:H3 t1=some (.tup [.bl false,.int (rB k (aL H rows)).2]):=by rw[ht1,hf];rfl
   refine⟨t1,_,rfl,gu.of ht2,rfl,_,_,rfl,_,_,rfl,rfl,?_⟩
   x_go
   refine⟨zs2,fun t nt=>?_⟩
   generalize hE:upd H3 t _=H4
   obtain⟨ht,s4⟩:=bf nt hE
   clear hE
   exact q t H4 ht (s13.trans s4)
  | some z =>
   rw[hf]at q
   obtain⟨i,rw',e1,e2,e3⟩:=CI hf
   rw[e1]at q
   have ht2:H3 t1=some (.tup [.bl true,.int ((i:Int)+1)]):=by rw[ht1,hf,e1];rfl
   refine⟨t1,_,rfl,gu.of ht2,rfl,_,_,rfl,_,_,rfl,rfl,?_⟩
   unfold aL at e2
   rw[Vp]at e2
   obtain⟨es,hes,rfl⟩:=Ws.mp e2
   obtain⟨a,ha,_,ha1⟩:=hA.at' hes
   obtain⟨el,hen2,hnd⟩:=hrow es (Vk hes)
   have ho3:=s3 _ _ (s2 _ _ ho1)
   have ha3:=s3 _ _ (s2 _ _ ha1)
   obtain⟨ts,ets⟩:=ki hen2
   x_go
   rw[show(i:Int)+1-1 =(i:Int) by omega]
   refine cG (aU.of ho3) (gB ha) ?_
   x_go
   rw[ets]at ha3
   have tl:ts.length=es.length:=by rw[ets,Vi]
   refine⟨a,ts,(aI H es).map (fun e=>((Sum.inl e.1:Key),V.str e.2)),rfl,aU.of ha3,by omega,by unfold aI;rw[Vi,Vi];exact tl,fun j t p ej ep=>?_,fun d nd=>?_⟩
   ·have hv:es[j]? = some (.ref t):=by rw[ets,Vp,ej];rfl
    obtain⟨t',et,ht',_⟩:=(hen2 _ (Vk hv)).pt
    have ep2:p =((Sum.inl (eD H (.ref t)).1:Key),V.str (eD H (.ref t)).2):=by
     unfold aI at ep
     rw[Vp,Vp,hv]at ep
     simpa using ep.symm
    cases et
    rw[ep2]
    exact s13 _ _ ht'
   generalize hE:upd H3 d _=H4
   obtain⟨hd,s4⟩:=bf nd hE
   clear hE
   x_go
   have hg:=yi.k (k:=Sum.inl k) hd
   rw[pO hnd e3]at hg
   refine⟨d,.str z,rfl,hg,?_⟩
   x_go
   refine⟨zs2,fun t nt=>?_⟩
   generalize hE:upd H4 t _=H5
   obtain⟨ht,s5⟩:=bf nt hE
   clear hE
   exact q t H5 ht ((s13.trans s4).trans s5)
theorem qV {f:Addr}{fd:FuncData}(F:eO K "unlike_rows" "unlike_rows" gf f fd) (mF:mg "unlike_rows" = some (.ref f)) (bF:Binds K fd AA []) (T:Bl mg)  : SW P w K mg base:=by
 refine bw.of F mF bF qa (fun vs H Q E h=>?_) (fun _ A _ _ H vs Q E hr h=>?_)
 ·obtain⟨r,a,b,os,ns,rfl,_⟩:=h;rfl
 obtain⟨r,a,b,os,ns,rfl,⟨as,ha,al,hA⟩,⟨bs,hb,bl,hB⟩,oO,oN,r1,q⟩:=h
 have hu:=hr.units
 refine⟨_,(az (aP (cN rfl (cF (sc:=av gf) (N:=AA) (vs:=["at", "row"]) (fs:=["old", "room"]) (js:=[1,0]) (by z_go) rfl rfl) (vq rfl T.enumerate (aa (pv 2) aj ai)) (fun _ _ _ _=>uM (K:=K) (n:=2) rfl rfl (aN (aC (i:=0) (show(["at", "row", "old", "room"]:List Str).Nodup by z_go) rfl (Or.inl rfl)) (aN (aC (i:=1) (show(["at", "row", "old", "room"]:List Str).Nodup by z_go) rfl (Or.inl rfl)) cE))) (fun _ _ _ _=>Br (PW.pt (DA (aT Dw (pv 0) (a_ (yN (K:=K) rfl) rfl T.len cV (aa (pv 2) aj ai)) (aX _)) (CH (aT (E9 (K:=K) rfl hu) (bg (p8 (K:=K) rfl) (pv 2) (pv 0) (fun _ _=>rfl)) (pv 1) (aX _)))))) (fun _ _ _ _=>(bZ (aa bM (aa (pv 3) (aa (pv 0) (aa (pv 1) aj ai) ai) ai) aB)))))),?_⟩
 rw[qS]
 x_go
 refine⟨b,rfl,⟨_,aU.of hb⟩,fun D nD=>?_⟩
 refine BW (xs:=bs.map V.ref) (fun k σ' ys H'=>(∃x y,σ'=[x,y,some (.ref a),some (.int r)])/\aD H H'/\H' D=some (.lst ys)/\∃ss:List Addr,ys=ss.map V.ref/\ss.length<=k/\GY H H' b D ss (unl H r os ns k)/\(bB H' ss).Sublist (bs.take k)) D ⟨⟨_,_,rfl⟩,aG nD _,aq,[],rfl,Vt _,fun _ _=>P1.nil,List.nil_sublist _⟩ (fun k σ' ys H' _ h=>aU.of (h.2.1 _ _ hb)) ?_ ?_
 ·rintro k x σ' ys H1 t hx ⟨⟨x1,y1,rfl⟩,s1,hD,ss,rfl,sl,hP,hLs⟩ nt
  obtain⟨c,hc,rfl⟩:=br hx
  have kl:=(Vj.mp hc).1
  obtain⟨es,hes⟩ : ∃es,ns[k]? = some es:=⟨_,Vn (by omega)⟩
  have hce:=hB k c es hc hes
  have oes:=oN.2 es (Vk hes)
  have nk:=oN.1
  generalize hE:upd H1 t _=H2
  obtain⟨ht,s2⟩:=bf nt hE
  clear hE
  have s02:=s1.trans s2
  have ha2:=s02 _ _ ha
  have hD2:=s2 _ _ hD
  have fin:mL H os es k=true->∀(s3:Addr) (H3 H4:Hp),aD H2 H3->H3 s3=none->upd H3 s3 (.tup [.str "row",.int r,.int k,.ref c])=H4->H4 D=some (.lst (ss.map V.ref))/\(ss.map V.ref).length<sizeLine/\(∃x y,[some (V.int k),some (.ref c),some (.ref a),some (.int r)]=[x,y,some (.ref a),some (.int r)])/\aD H (upd H4 D (.lst (ss.map V.ref ++ [.ref s3])))/\upd H4 D (.lst (ss.map V.ref ++ [.ref s3])) D=some (.lst (ss.map V.ref ++ [.ref s3]))/\∃ss':List Addr,ss.map V.ref ++ [.ref s3]=ss'.map V.ref/\ss'.length<=k+1/\GY H (upd H4 D (.lst (ss.map V.ref ++ [.ref s3]))) b D ss' (unl H r os ns (k+1))/\(bB (upd H4 D (.lst (ss.map V.ref ++ [.ref s3]))) ss').Sublist (bs.take (k+1)):=fun u s3 H3 H4 s23 n3 e=>by
   obtain⟨h3,s34⟩:=bf n3 e
   have s24:=s23.trans s34
   have s04:=s02.trans s24
   have hD4:=s24 _ _ hD2
   have n3D:s3≠D:=fun z=>by
    rw[z,s23 _ _ hD2]at n3;cases n3
   have kt5:∀t' xs,H4 t'=some (.tup xs)->upd H4 D (.lst (ss.map V.ref ++ [.ref s3])) t'=some (.tup xs):=fun t' xs e=>by rw[ao (ju e hD4 (by intro z;cases z))];exact e
   have tps:∀s∈ss,∃xs,H1 s=some (.tup xs):=fun s hs=>by
    obtain⟨xs,h⟩:=cB hP.plain s hs
    exact⟨xs,bP _ _ h⟩
   refine⟨hD4,by rw[Vi];exact aR (by omega),⟨_,_,rfl⟩,fun x o e=>by rw[ao (au e nD)];exact s04 _ _ e,aq,ss ++ [s3],by rw[Vo];rfl,by rw[Vm];exact Nat.add_le_add_right sl 1,fun D0 ok0=>?_,?_⟩
   ·rw[iu,AQ hes u]
    have n30:=ok0.new (s02.trans s23) n3 n3D
    have cD:c≠D:=au hce nD
    refine((hP D0 ok0).imp fun s st h=>h.same (cL (cL (s2.trans s24)))).snoc ⟨c,by rw[kq n3D n30];exact h3,?_,r1,by omega,oes.1,fun v hv=>?_⟩
    ·rw[kq cD (ok0.row hb (Vk hc) cD)];exact s04 _ _ hce
    ·obtain⟨t',k',z',rfl,h1,h2⟩:=oes.2 v hv
     have tD:t'≠D:=au h1 nD
     exact⟨t',k',z',rfl,by rw[kq tD (ok0.tup h1 tD)];exact s04 _ _ h1,h2⟩
   ·rw[fT,bW (H:=H1) (fun t' xs e=>kt5 _ _ (s24 _ _ (s2 _ _ e))) tps,uo (mK (kt5 _ _ h3)),aV hc]
    exact hLs.append (List.Sublist.refl _)
  refine⟨t,_,rfl,gu.of ht,rfl,_,_,rfl,_,_,rfl,rfl,?_⟩
  x_go
  rw[Vi]
  refine b_ (fun g=>?_) (fun g=>?_)
  ·have u:mL H os es k=true:=by
    unfold mL
    rw[V7 (by omega)]
   x_go
   refine⟨zs4,fun s3 n3=>?_⟩
   exact fin u s3 H2 _ (fun _ _ e=>e) n3 rfl
  ·have ko:k<os.length:=by omega
   obtain⟨c2,hc2⟩ : ∃c2,as[k]? = some c2:=⟨_,Vn (by omega)⟩
   obtain⟨o,ho⟩ : ∃o,os[k]? = some o:=⟨_,Vn ko⟩
   have hco:=hA k c2 o hc2 ho
   have oo:=oO.2 o (Vk ho)
   have kt:∀t xs,H t=some (.tup xs)->H2 t=some (.tup xs):=fun _ _ e=>s02 _ _ e
   x_go
   refine cG (aU.of ha2) (gB hc2) ?_
   x_go
   have g1:=zB (K:=K) (s02 _ _ hco) fun v hv=>(oo.2 v hv).keep kt
   have g2:=zB (K:=K) (s02 _ _ hce) fun v hv=>(oes.2 v hv).keep kt
   refine⟨_,_,g1.1,g2.1,g1.shaped (by omega),g2.shaped (by omega),?_⟩
   rw[wF,b6 kt oo.2,b6 kt oes.2]
   have ub:mL H os es k = !decide (aI H o=aI H es):=by unfold mL;rw[ho]
   by_cases e:aI H o=aI H es
   ·rw[VX e]at ub ⊢
    x_go
    refine⟨⟨_,_,rfl⟩,s02,hD2,ss,rfl,by omega,fun D0 ok0=>?_,?_⟩
    ·rw[Dy hes ub]
     exact(hP D0 ok0).imp fun s st h=>h.same (cL (cL s2))
    ·rw[bW (H:=H1) (fun t' xs e=>s2 _ _ e) fun s hs=>by
      obtain⟨xs,h⟩:=cB hP.plain s hs
      exact⟨xs,bP _ _ h⟩,aV hc]
     exact hLs.trans (List.sublist_append_left _ _)
   ·rw[VR e]at ub ⊢
    x_go
    refine⟨zs4,fun s3 n3=>?_⟩
    exact fin ub s3 H2 _ (fun _ _ e=>e) n3 rfl
 ·rintro σ' ys H1 ⟨⟨x1,y1,rfl⟩,s1,hD,ss,rfl,sl,hP,hLs⟩
  rw[Vi,bl]at hP
  rw[Vi,VA]at hLs
  exact q D ss H1 nD hD hP (fun cs hc=>by rw[Ah hc hb];exact hLs) s1
theorem AS {f:Addr}{fd:FuncData}(F:eO K "onward" "onward" oZ f fd) (mF:mg "onward" = some (.ref f)) (bF:Binds K fd AA []) (T:Bl mg) (dg:SW P w K mg base):Qx P w K mg base:=by
 refine bw.of F mF bF ud (fun vs H Q E h=>?_) (fun _ A _ _ H vs Q E hr h=>?_)
 ·obtain⟨r,a,b,os,ns,rfl,_⟩:=h;rfl
 obtain⟨r,a,b,os,ns,rfl,hO,hN,oO,oN,r1,q⟩:=h
 refine⟨_,(ak (aH (i:=3) ud.nd rfl (Or.inl rfl) (bQ dg hr.mo (aa (pv 0) (aa (pv 1) (aa (pv 2) aj ai) ai) ai)))
   (ak (jt (cJ (aT wJ (a_ bz rfl T.len cV (aa (pv 1) aj ai)) (a_ bz rfl T.len cV (aa (pv 2) aj ai)) (aX _)) (az (bT (gh VO VP VQ bL (pv 3) (aa (bZ (aa bM (aa (pv 0) (aa (a_ bz rfl T.len cV (aa (pv 2) aj ai)) aj aF) ai) aB)) aj dZ)))) bA))
   (az (aP (pv 3))))),?_⟩
 rw[Bu]
 x_go
 refine⟨r,a,b,os,ns,rfl,hO,hN,oO,oN,r1,fun D ss H1 nD hD hP hLs s1=>?_⟩
 obtain⟨as,ha,al,_⟩:=hO
 obtain⟨bs,hb,bl,_⟩:=id hN
 have ha1:=s1 _ _ ha
 have hb1:=s1 _ _ hb
 have nk:=oN.1
 have ls:ss.length<=130:=by rw[hP.plain.1];exact Vv (j6 _) nk
 x_go
 refine⟨fun σ H2=>∃ss':List Addr,σ=[some (.int r),some (.ref a),some (.ref b),some (.ref D)]/\H2 D=some (.lst (ss'.map V.ref))/\GY H H2 b D ss' (jk H r os ns)/\(∀cs:List Addr,H b=some (.lst (cs.map V.ref))->(bB H2 ss').Sublist cs)/\aD H H2,?_,?_⟩
 ·x_go
  rw[Vi,Vi]
  refine b_ (fun g=>?_) (fun g=>?_)
  ·x_go
   refine⟨.inl ⟨rfl,_,aU.of hD⟩,?_⟩
   x_go
   rw[Vi]
   refine⟨zs3,fun s3 n3=>?_⟩
   generalize hE:upd H1 s3 _=H2
   obtain⟨h3,s2⟩:=bf n3 hE
   clear hE
   have n3D:s3≠D:=fun z=>by rw[z,hD]at n3;cases n3
   refine⟨D,_,_,rfl,rfl,s2 _ _ hD,by rw[Vi];exact aR (by omega),?_⟩
   x_go
   refine⟨ss ++ [s3],rfl,by rw[aq,Vo];rfl,fun D0 ok0=>?_,fun cs hc=>?_,fun x o e=>by rw[ao (au e nD)];exact s2 _ _ (s1 _ _ e)⟩
   ·rw[iu]
    unfold jk
    rw[VB (by omega)]
    refine((hP D0 ok0).imp fun s st h=>h.same (cL (cL s2))).snoc ⟨?_,r1,nk⟩
    rw[kq n3D (ok0.new s1 n3 n3D),h3,bl]
   ·have kt3:∀t' xs,H2 t'=some (.tup xs)->upd H2 D (.lst (ss.map V.ref ++ [.ref s3])) t'=some (.tup xs):=fun t' xs e=>by rw[ao (ju e (s2 _ _ hD) (by intro z;cases z))];exact e
    rw[fT,bW (H:=H1) (fun t' xs e=>kt3 _ _ (s2 _ _ e)) fun s hs=>by
      obtain⟨xs,h⟩:=cB hP.plain s hs
      exact⟨xs,bP _ _ h⟩,i9 (iS (kt3 _ _ h3)),V5]
    exact hLs cs hc
  ·x_go
   refine⟨ss,rfl,hD,?_,hLs,s1⟩
   unfold jk
   rw[VF (by omega),V5]
   exact hP
 ·rintro σ H2 ⟨ss',rfl,hD2,hP2,hL2,s2⟩
  x_go
  exact q D ss' _ nD hD2 hP2 hL2 s2
theorem vY {f:Addr}{fd:FuncData}(F:eO K "backward" "backward" lQ f fd) (mF:mg "backward" = some (.ref f)) (bF:Binds K fd AA []) (T:Bl mg) (dg:SW P w K mg base):Ln P w K mg base:=by
 refine bw.of F mF bF xO (fun vs H Q E h=>?_) (fun _ A _ _ H vs Q E hr h=>?_)
 ·obtain⟨r,a,b,os,ns,rfl,_⟩:=h;rfl
 obtain⟨r,a,b,os,ns,rfl,hO,hN,oO,oN,r1,q⟩:=h
 refine⟨_,(az (aP (vI (bQ dg hr.mo (aa (pv 0) (aa (pv 1) (aa (pv 2) aj ai) ai) ai))))),?_⟩
 rw[xQ]
 x_go
 refine⟨r,a,b,os,ns,rfl,hO,hN,oO,oN,r1,fun D ss H1 nD hD hP hLs s1=>?_⟩
 x_go
 refine⟨D,_,rfl,aU.of hD,fun L nL=>?_⟩
 generalize hE:upd H1 L _=H2
 obtain⟨hL,s2⟩:=bf nL hE
 clear hE
 have nLD:L≠D:=fun z=>by rw[z,hD]at nL;cases nL
 refine q L ss.reverse H2 (s1.free nL) (by rw[hL,Ww]) (fun D0 ok0=>?_) (fun cs hc=>?_) (s1.trans s2)
 rotate_left
 ·have e:bB H2 ss.reverse =(bB H2 ss).reverse:=List.filterMap_reverse
  rw[e,List.reverse_reverse,bW (H:=H1) (fun t' xs e=>s2 _ _ e) fun s hs=>by
   obtain⟨xs,h⟩:=cB hP.plain s hs
   exact⟨xs,bP _ _ h⟩]
  exact hLs cs hc
 have hP2:P1 (gE (hid D0 (hid L H2))) ss (unl H r os ns ns.length):=by
  rcases ok0 with e|ok0
  ·refine hP.plain.imp fun s st h=>h.same fun x o e1=>?_
   have e1:=bP _ _ e1
   have xL:x≠L:=au e1 nL
   rw[kq xL (by rw[e];exact xL)];exact s2 _ _ e1
  ·refine(hP D0 (.inr ok0)).imp fun s st h=>h.same fun x o e1=>?_
   by_cases c:x=D0
   ·rw[c]at e1
    unfold hid at e1
    rw[VB rfl]at e1;cases e1
   ·have e1:=bP _ _ (bP _ _ e1)
    rw[kq (au e1 nL) c];exact s2 _ _ e1
 refine⟨by rw[V3,V3];exact hP2.1,fun i x y e1 e2=>?_⟩
 have il:=(Vj.mp e1).1
 rw[V3]at il
 rw[List.getElem?_reverse (by omega)]at e1
 rw[List.getElem?_reverse (by rw[<- hP2.1];omega),<- hP2.1]at e2
 exact hP2.2 _ x y e1 e2
theorem vN {f:Addr}{fd:FuncData}(F:eO K "splitting" "splitting" gj f fd) (mF:mg "splitting" = some (.ref f)) (bF:Binds K fd mQ []) (T:Bl mg) (lq:bw P w K mg base "split_of" iR 3 (nK K)) (aW:JX P w K mg base) (eS:Qx P w K mg base) (bq:Lp P w K mg base) (bH:Ms P w K mg base) (bx:Lm P w K mg base):bw P w K mg base "splitting" mQ 5 (mE K):=by
 refine bw.of F mF bF b9 (fun vs H Q E h=>?_) (fun _ A _ _ H vs Q E hr h=>?_)
 ·obtain⟨y,w,R,X,rfl,_⟩:=h;rfl
 obtain⟨y,w,R,X,rfl,hY,xl,w1,w2,R1,R2,ok,sz,q⟩:=h
 obtain⟨h,hy,⟨bs,hh,hbs⟩,en,szx⟩:=hY
 have t:=pR R1
 have eR:((R+1:Nat):Int) =(R:Int)+1:=by omega
 refine⟨_,(ak (fh (pv 0) (eF rfl (aN (aC (i:=1) b9.nd rfl (Or.inl rfl)) (aN (aC (i:=2) b9.nd rfl (Or.inr rfl)) (aN (aC (i:=3) b9.nd rfl (Or.inl rfl)) cE)))))
   (ak (fh (bQ lq hr.mo (aa (pv 2) aj ai)) (eF rfl (aN (aC (i:=4) b9.nd rfl (Or.inr rfl)) (aN (aC (i:=5) b9.nd rfl (Or.inr rfl)) cE))))
   (ak (aH (i:=6) b9.nd rfl (Or.inl rfl) (bQ aW hr.mo (aa (bQ bq hr.mo (aa (pv 3) (aa (pv 4) aj ai) ai)) aj aF)))
   (ak (cU (i:=7) b9.nd rfl rfl rfl (cF (sc:=av gj) (N:=QF) (vs:=["entry"]) (fs:=["rooms", "new"]) (js:=[2,5]) (by z_go) rfl rfl) (aZ (pv 6)) (fun _ _ _ _=>aC (i:=0) (show(["entry", "rooms", "new"]:List Str).Nodup by z_go) rfl (Or.inl rfl)) (fun _ _ _ _=>Br (aT fF (bQ bx hr.mo (aa (bg (j7 (K:=K) rfl) (pv 0) ay (fun _ _=>rfl)) (aa (aO bN (pv 1) ay) aj bK) aQ)) (pv 2) (aX _))) (fun _ _ _ _=>(pv 0)))
   (ak (cU (i:=8) b9.nd rfl rfl rfl (cF (sc:=av gj) (N:=QF) (vs:=["entry"]) (fs:=["rooms", "room"]) (js:=[2,4]) (by z_go) rfl rfl) (aZ (pv 6)) (fun _ _ _ _=>aC (i:=0) (show(["entry", "rooms", "room"]:List Str).Nodup by z_go) rfl (Or.inl rfl)) (fun _ _ _ _=>Br (aT fF (bQ bx hr.mo (aa (bg (j7 (K:=K) rfl) (pv 0) ay (fun _ _=>rfl)) (aa (aO bN (pv 1) ay) aj bK) aQ)) (pv 2) (aX _))) (fun _ _ _ _=>(pv 0)))
   (ak (aH (i:=9) b9.nd rfl (Or.inl rfl) (bQ eS hr.mo (aa (pv 5) (aa (bQ bq hr.mo (aa (pv 3) (aa (pv 5) aj ai) ai)) (aa (bQ bH hr.mo (aa (pv 7) (aa (pv 1) aj ai) ai)) aj aF) aF) ai)))
   (ak (bT (gh VO VP VQ bL (pv 9) (aa (bZ (aa bM (aa (aO bN (pv 2) ay) aj bK) aB)) aj dZ)))
   (az (aP (aO jx (pv 9) (bQ eS hr.mo (aa (pv 4) (aa (bQ bq hr.mo (aa (pv 3) (aa (pv 4) aj ai) ai)) (aa (bQ bH hr.mo (aa (pv 8) (aa (pv 1) aj ai) ai)) aj aF) aF) ai)))))))))))),?_⟩
 rw[vF]
 x_go
 refine⟨y,_,rfl,gu.of hy,rfl,_,_,rfl,_,_,rfl,_,_,rfl,rfl,?_⟩
 x_go
 refine⟨(R:Int),rfl,by omega,by omega,fun pt npt=>?_⟩
 rw[<- t.1]
 generalize hE:upd H pt _=H1
 obtain⟨hpt,s1⟩:=bf npt hE
 clear hE
 refine⟨pt,_,rfl,gu.of hpt,rfl,_,_,rfl,_,_,rfl,rfl,?_⟩
 x_go
 refine⟨h,bs,tn R,rfl,s1 _ _ hh,fun o H2 s2 ho=>?_⟩
 have s02:=s1.trans s2
 have hO:=lB hbs s02 ho
 generalize eos:bY X (tn R)=os at hO ok sz q
 have enr:∀es∈os,∀v∈es,En H v:=fun es he=>(ok.2 es he).2
 x_go
 refine⟨o,os,rfl,hO,by omega,fun L H3 nL hL s3=>?_⟩
 have s03:=s02.trans s3
 x_go
 refine⟨L,rfl,⟨_,aU.of hL⟩,fun D nD=>?_⟩
 refine aY (xs:=os.flatten) (fun j σ' ys H'=>(∃x,σ'=[x,some (.int (R:Int)),some (.int (R:Int))])/\aD H3 H'/\ys =(os.flatten.take j).filter (fun v=>decide (aE (eD H v).1 ((R+1:Nat):Int) =(R:Int)))/\H' D=some (.lst ys)) D ⟨⟨_,rfl⟩,aG nD _,rfl,aq⟩ (fun i σ' ys H' _ h=>aU.of (h.2.1 _ _ hL)) ?_ ?_
 ·rintro j x σ' ys Ha hx ⟨⟨z1,rfl⟩,sa,rfl,hD⟩
  have jl:=(Vj.mp hx).1
  obtain⟨es,he,hv⟩:=VZ.mp (Vk hx)
  obtain⟨tt,rfl,htt,_⟩:=(enr es he x hv).pt
  have ht2:=(s03.trans sa) _ _ htt
  x_go
  refine⟨_,(R:Int)+1,rfl,by omega,by omega,?_⟩
  rw[<- eR]
  x_go
  refine b_ (fun c=>?_) (fun c=>?_)
  ·x_go
   refine⟨hD,?_,⟨_,rfl⟩,fun b o e=>by rw[ao (au e nD)];exact sa _ _ e,?_,aq⟩
   ·refine aR (Vv (VL _ _) ?_)
    rw[Vw];omega
   ·rw[aV hx,WC,WR,VB (by simpa using c)];rfl
  ·refine⟨⟨_,rfl⟩,sa,?_,hD⟩
   rw[aV hx,WC,WR,VF (by simpa using c)]
   simp
 rintro σ' ys H4 ⟨⟨z1,rfl⟩,s4,rfl,hD⟩
 rw[VA]at hD
 have hD:H4 D=some (.lst (rE H os ((R+1:Nat):Int) R)):=hD
 have hL4:=s4 _ _ hL
 have s04:=s03.trans s4
 have gl:=DK (H:=H) (X:=os) (R:=((R+1:Nat):Int)) (n:=(R:Int))
 have gen:=AI (R:=((R+1:Nat):Int)) (n:=(R:Int)) enr
 generalize rE H os ((R+1:Nat):Int) R=gv at hD gl gen q
 clear z1
 x_go
 refine⟨L,rfl,⟨_,aU.of hL4⟩,fun D2 nD2=>?_⟩
 refine aY (xs:=os.flatten) (fun j σ' ys H'=>(∃x,σ'=[x,some (.int (R:Int)),some (.int (tn R:Int))])/\aD H4 H'/\ys =(os.flatten.take j).filter (fun v=>decide (aE (eD H v).1 ((R+1:Nat):Int) =(tn R:Int)))/\H' D2=some (.lst ys)) D2 ⟨⟨_,rfl⟩,aG nD2 _,rfl,aq⟩ (fun i σ' ys H' _ h=>aU.of (h.2.1 _ _ hL4)) ?_ ?_
 ·rintro j x σ' ys Ha hx ⟨⟨z1,rfl⟩,sa,rfl,hD⟩
  have jl:=(Vj.mp hx).1
  obtain⟨es,he,hv⟩:=VZ.mp (Vk hx)
  obtain⟨tt,rfl,htt,_⟩:=(enr es he x hv).pt
  have ht2:=(s04.trans sa) _ _ htt
  x_go
  refine⟨_,(R:Int)+1,rfl,by omega,by omega,?_⟩
  rw[<- eR]
  x_go
  refine b_ (fun c=>?_) (fun c=>?_)
  ·x_go
   refine⟨hD,?_,⟨_,rfl⟩,fun b o e=>by rw[ao (au e nD2)];exact sa _ _ e,?_,aq⟩
   ·refine aR (Vv (VL _ _) ?_)
    rw[Vw];omega
   ·rw[aV hx,WC,WR,VB (by simpa using c)];rfl
  ·refine⟨⟨_,rfl⟩,sa,?_,hD⟩
   rw[aV hx,WC,WR,VF (by simpa using c)]
   simp
 rintro σ' ys H5 ⟨⟨z1,rfl⟩,s5,rfl,hD2⟩
 rw[VA]at hD2
 have hD2:H5 D2=some (.lst (rE H os ((R+1:Nat):Int) (tn R))):=hD2
 have s05:=s04.trans s5
 have sl:=DK (H:=H) (X:=os) (R:=((R+1:Nat):Int)) (n:=(tn R:Int))
 have sen:=AI (R:=((R+1:Nat):Int)) (n:=(tn R:Int)) enr
 generalize rE H os ((R+1:Nat):Int) (tn R)=sv at hD2 sl sen q
 clear z1
 have hD5:=s5 _ _ hD
 x_go
 refine⟨h,bs,R,rfl,s05 _ _ hh,fun o2 H6 s6 ho2=>?_⟩
 have s06:=s05.trans s6
 have hO2:=lB hbs s06 ho2
 rw[show bY X R=[] by unfold bY;rw[V7 (by omega)];rfl]at hO2
 x_go
 refine⟨D,gv,w,rfl,s6 _ _ hD5,by omega,w1,by omega,fun l2 H7 nl2 hR s7=>?_⟩
 have s07:=s06.trans s7
 have kt7:∀t xs,H t=some (.tup xs)->H7 t=some (.tup xs):=fun _ _ e=>s07 _ _ e
 have okg:=pU (H:=H7) w1 (by omega) (us:=gv) (by omega) fun v hv=>(gen v hv).keep kt7
 x_go
 refine⟨R,o2,l2,[],_,rfl,hO2.same s7,hR.rws,⟨by decide,fun _ h=>absurd h We⟩,okg,by omega,fun D3 ss H8 nD3 hD3 hP hLs s8=>?_⟩
 obtain⟨cs1,hc1,_,_,cn1,cf1⟩:=hR
 have fr8:Frs H H8 ss:=Frs.sub s06 cn1 (fun a ha=>(cf1 a ha).1) (hLs cs1 hc1)
 replace hP:=hP.plain
 rw[mz,oM kt7 (fun _ h=>absurd h We) fun es he v hv=>gen v (cI he hv)]at hP
 have s08:=s07.trans s8
 have nD30:=s07.free nD3
 have sln:ss.length<=130:=by
  rw[hP.1]
  refine Vv lA ?_
  have:=dR (s:=gv) w1
  omega
 x_go
 refine⟨.inl ⟨rfl,_,aU.of hD3⟩,?_⟩
 x_go
 refine⟨zs2,fun s3 n3=>?_⟩
 generalize hE:upd H8 s3 _=H9
 obtain⟨h3,s9⟩:=bf n3 hE
 clear hE
 have n3D:s3≠D3:=fun z=>by rw[z,hD3]at n3;cases n3
 refine⟨D3,_,_,rfl,rfl,s9 _ _ hD3,by rw[Vi];exact aR (by omega),?_⟩
 rw[show ss.map V.ref ++ [V.ref s3] =(ss ++ [s3]).map V.ref by rw[Vo];rfl]
 generalize hE:upd H9 D3 _=HA
 have hPA:P1 (gE (hid D3 HA)) (ss ++ [s3]) (jk H R [] (aM gv w) ++ [.rooms (R+1)]):=by
  rw[<- hE,iu]
  refine(hP.imp fun s st h=>h.same (cL s9)).snoc ⟨?_,by omega,by omega⟩
  rw[cH n3D,h3,eR]
 have hDA:HA D3=some (.lst ((ss ++ [s3]).map V.ref)):=by rw[<- hE,aq]
 have s0A:aD H HA:=fun x o e=>by rw[<- hE,ao (au e nD30)];exact s9 _ _ (s08 _ _ e)
 have hDA2:HA D2=some (.lst sv):=by
  have e2:=s8 _ _ (s7 _ _ (s6 _ _ hD2))
  rw[<- hE,ao (fun z=>by rw[<- z,s7 _ _ (s6 _ _ hD2)]at nD3;cases nD3)]
  exact s9 _ _ e2
 have kA:∀t xs,H9 t=some (.tup xs)->HA t=some (.tup xs):=fun t xs e=>by rw[<- hE,ao (ju e (s9 _ _ hD3) (by intro z;cases z))];exact e
 have frA:Frs H HA (ss ++ [s3]):=by
  refine(fr8.keep (fun t xs e=>kA _ _ (s9 _ _ e)) fun s hs=>?_).more (gH (kA _ _ h3))
  obtain⟨xs,h⟩:=cB hP s hs
  exact⟨xs,bP _ _ h⟩
 clear hE hP hD3 s9 h3 n3
 x_go
 refine⟨h,bs,tn R,rfl,s0A _ _ hh,fun o3 HB sB ho3=>?_⟩
 have s0B:=s0A.trans sB
 have hO3:=lB hbs s0B ho3
 rw[eos]at hO3
 x_go
 refine⟨D2,sv,w,rfl,sB _ _ hDA2,by omega,w1,by omega,fun l3 HC nl3 hR3 sC=>?_⟩
 have s0C:=s0B.trans sC
 have ktC:∀t xs,H t=some (.tup xs)->HC t=some (.tup xs):=fun _ _ e=>s0C _ _ e
 have oks:=pU (H:=HC) w1 (by omega) (us:=sv) (by omega) fun v hv=>(sen v hv).keep ktC
 x_go
 refine⟨tn R,o3,l3,os,_,rfl,hO3.same sC,hR3.rws,ok.same s0C,oks,by omega,fun D4 ss2 HD nD4 hD4 hP4 hLs4 sD=>?_⟩
 obtain⟨cs3,hc3,_,_,cn3,cf3⟩:=hR3
 have frD:Frs HB HD ss2:=Frs.sub (aD.refl HB) cn3 (fun a ha=>(cf3 a ha).1) (hLs4 cs3 hc3)
 replace hP4:=hP4.plain
 rw[mz,oM ktC enr fun es he v hv=>sen v (cI he hv)]at hP4
 have sAD:=(sB.trans sC).trans sD
 have sl2:ss2.length<=130:=by
  rw[hP4.1]
  refine Vv lA ?_
  have:=dR (s:=sv) w1
  omega
 x_go
 refine⟨D3,D4,_,_,rfl,rfl,sAD _ _ hDA,hD4,Vv (show _<=400 by rw[Vi,Vi,Vm];simp;omega) (by decide),fun L3 nL3=>?_⟩
 generalize hE:upd HD L3 _=HF
 obtain⟨hL3,sF⟩:=bf nL3 hE
 clear hE
 refine q L3 (ss ++ [s3]++ss2) HF ((s0A.trans sAD).free nL3) (by rw[hL3,Vo (l₁:=ss ++ [s3])]) ?_ ?_ ((s0A.trans sAD).trans sF)
 rotate_left
 ·have tA:∀s∈ss ++ [s3],∃xs,HA s=some (.tup xs):=fun s hs=>by
   obtain⟨xs,h⟩:=cB hPA s hs
   exact⟨xs,bP _ _ h⟩
  have kAF:∀t xs,HA t=some (.tup xs)->HF t=some (.tup xs):=fun t xs e=>sF _ _ (sAD _ _ e)
  refine Frs.app (frA.keep kAF tA) (frD.keep (fun t xs e=>sF _ _ e) fun s hs=>?_) s0B fun l hl=>?_
  ·obtain⟨xs,h⟩:=cB hP4 s hs
   exact⟨xs,bP _ _ h⟩
  ·rw[bW kAF tA]at hl
   obtain⟨o,ho⟩:=xj (hPA.imp fun s st h=>h.same bP) l hl
   exact⟨o,sB _ _ ho⟩
 have up:∀{s st},gE HD s st->gE (hid L3 HF) s st:=fun h=>h.same fun x o e=>by rw[cH (au e nL3)];exact sF _ _ e
 unfold uT
 have e1:jk H R [] (aM gv w)++cu.rooms (R+1)::jk H (tn R) os (aM sv w) =(jk H R [] (aM gv w) ++ [cu.rooms (R+1)])++jk H (tn R) os (aM sv w):=by rw[VU];rfl
 rw[e1]
 exact(hPA.imp fun s st h=>up ((h.same bP).same sAD)).app (hP4.imp fun s st h=>up (h.same bP))
theorem zQ {f:Addr}{fd:FuncData}(F:eO K "joining" "joining" mU f fd) (mF:mg "joining" = some (.ref f)) (bF:Binds K fd mQ []) (T:Bl mg) (jR:bw P w K mg base "joined_of" iR 3 (mJ K)) (fX:Ln P w K mg base) (bq:Lp P w K mg base) (bH:Ms P w K mg base) (aW:JX P w K mg base):bw P w K mg base "joining" mQ 4 (qb K):=by
 refine bw.of F mF bF dI (fun vs H Q E h=>?_) (fun _ A _ _ H vs Q E hr h=>?_)
 ·obtain⟨y,w,R,X,rfl,_⟩:=h;rfl
 obtain⟨y,w,R,X,rfl,hY,w1,w2,R1,R2,ok,ok2,sz,sz2,nd,q⟩:=h
 obtain⟨h,hy,⟨bs,hh,hbs⟩,en,szx⟩:=hY
 have t:=pR R1
 have eR:((R+1:Nat):Int)-1 =(R:Int):=by omega
 refine⟨_,(ak (fh (pv 0) (eF rfl (aN (aC (i:=1) dI.nd rfl (Or.inl rfl)) (aN (aC (i:=2) dI.nd rfl (Or.inl rfl)) (aN (aC (i:=3) dI.nd rfl (Or.inl rfl)) cE)))))
   (ak (cJ (aT fF (pv 2) ay (aX _)) (az Ar) bA)
   (ak (fh (bQ jR hr.mo (aa (pv 2) aj ai)) (eF rfl (aN (aC (i:=4) dI.nd rfl (Or.inl rfl)) (aN (aC (i:=5) dI.nd rfl (Or.inl rfl)) cE))))
   (ak (aH (i:=6) dI.nd rfl (Or.inl rfl) (a_ k_ rfl T.sorted kh (aa (aO jx (bQ aW hr.mo (aa (bQ bq hr.mo (aa (pv 3) (aa (pv 5) aj ai) ai)) aj aF)) (bQ aW hr.mo (aa (bQ bq hr.mo (aa (pv 3) (aa (pv 4) aj ai) ai)) aj aF))) aj bK)))
   (ak (aH (i:=7) dI.nd rfl (Or.inl rfl) (bQ fX hr.mo (aa (pv 5) (aa (bQ bq hr.mo (aa (pv 3) (aa (pv 5) aj ai) ai)) (aa (bQ bH hr.mo (aa (pv 6) (aa (pv 1) aj ai) ai)) aj aF) aF) ai)))
   (az (aP (aO jx (pv 7) (b7 (aa (bZ (aa bM (aa (aO jQ (pv 2) ay) aj bK) aB)) (aa (bZ (aa bM (aa (pv 4) (aa ay aj aB) ai) aB)) aj dZ) dZ)))))))))),?_⟩
 rw[y_]
 x_go
 refine⟨y,_,rfl,gu.of hy,rfl,_,_,rfl,_,_,rfl,_,_,rfl,rfl,?_⟩
 x_go
 refine b_ (fun c=>absurd c (by omega)) (fun _=>?_)
 x_go
 refine⟨((R+1:Nat):Int),rfl,by omega,by omega,fun c=>absurd c (by omega),fun _ pt npt=>?_⟩
 rw[eR,<- t.1]
 generalize hE:upd H pt _=H1
 obtain⟨hpt,s1⟩:=bf npt hE
 clear hE
 refine⟨pt,_,rfl,gu.of hpt,rfl,_,_,rfl,_,_,rfl,rfl,?_⟩
 x_go
 refine⟨h,bs,tn R,rfl,s1 _ _ hh,fun o H2 s2 ho=>?_⟩
 have s02:=s1.trans s2
 have hO:=lB hbs s02 ho
 generalize eos:bY X (tn R)=os at hO ok sz nd q
 have enr:∀es∈os,∀v∈es,En H v:=fun es he=>(ok.2 es he).2
 x_go
 refine⟨o,os,rfl,hO,by omega,fun L H3 nL hL s3=>?_⟩
 have s03:=s02.trans s3
 x_go
 refine⟨h,bs,R,rfl,s03 _ _ hh,fun o2 H4 s4 ho2=>?_⟩
 have s04:=s03.trans s4
 have hO2:=lB hbs s04 ho2
 generalize bY X R=os2 at hO2 ok2 sz2 nd q
 have enr2:∀es∈os2,∀v∈es,En H v:=fun es he=>(ok2.2 es he).2
 x_go
 refine⟨o2,os2,rfl,hO2,by omega,fun L2 H5 nL2 hL2 s5=>?_⟩
 have s05:=s04.trans s5
 have enf:∀v∈os.flatten++os2.flatten,En H v:=fun v hv=>by
  rcases VH.mp hv with hv|hv
  ·obtain⟨es,he,hm⟩:=VZ.mp hv
   exact enr es he v hm
  ·obtain⟨es,he,hm⟩:=VZ.mp hv
   exact enr2 es he v hm
 x_go
 refine⟨L,L2,_,_,rfl,rfl,(s4.trans s5) _ _ hL,hL2,Vv (show _<=200 by omega) (by decide),fun L3 nL3=>?_⟩
 have fl:(os.flatten++os2.flatten).length<=60:=by rw[Vm];omega
 generalize os.flatten++os2.flatten=ff at nd enf q fl
 generalize hE:upd H5 L3 _=H6
 obtain⟨hL3,s6⟩:=bf nL3 hE
 clear hE
 have s06:=s05.trans s6
 obtain⟨ts,rfl⟩:=ki enf
 have kt6:∀t xs,H t=some (.tup xs)->H6 t=some (.tup xs):=fun _ _ e=>s06 _ _ e
 rw[Vi]at fl
 have nd6:(ts.map (kE H6)).Nodup:=by
  rw[<- fU,b6 kt6 enf];exact nd
 x_go
 refine⟨L3,ts,kE H6,rfl,aU.of hL3,by omega,fun u hu=>?_,yG nd6,fun us l p1 p2 nl=>?_⟩
 ·obtain⟨t',et,ht',_⟩:=((enf (.ref u) (Vq.mpr ⟨u,hu,rfl⟩)).keep kt6).pt
  cases et
  exact⟨_,ht'⟩
 generalize hE:upd H6 l _=H7
 obtain⟨hl,s7⟩:=bf nl hE
 clear hE
 have s07:=s06.trans s7
 have ul:us.length<=110:=by rw[p1.length_eq];omega
 have enu:∀v∈us.map V.ref,En H v:=fun v hv=>by
  obtain⟨u,hu,rfl⟩:=Vq.mp hv
  exact enf _ (Vq.mpr ⟨u,p1.mem_iff.mp hu,rfl⟩)
 have pw:(aI H (us.map V.ref)).Pairwise fun a b=>a.1<b.1:=by
  rw[<- b6 kt6 enu]
  have ndu:(us.map (kE H6)).Nodup:=(p1.map (kE H6)).nodup_iff.mpr nd6
  have p3:(us.map (kE H6)).Pairwise (· <= ·):=VV.mpr p2
  have p4:=yq p3 ndu
  rw[<- fU]at p4
  exact VV.mp p4
 x_go
 refine⟨h,bs,tn R,rfl,s07 _ _ hh,fun o3 H8 s8 ho3=>?_⟩
 have s08:=s07.trans s8
 have hO3:=lB hbs s08 ho3
 rw[eos]at hO3
 x_go
 refine⟨l,us.map V.ref,w,rfl,s8 _ _ hl,by rw[Vi];omega,w1,by omega,fun l2 H9 nl2 hR s9=>?_⟩
 have s09:=s08.trans s9
 have kt9:∀t xs,H t=some (.tup xs)->H9 t=some (.tup xs):=fun _ _ e=>s09 _ _ e
 have okb:=pU (H:=H9) w1 (by omega) (us:=us.map V.ref) (by rw[Vi];omega) fun v hv=>(enu v hv).keep kt9
 x_go
 refine⟨tn R,o3,l2,os,_,rfl,hO3.same s9,hR.rws,ok.same s09,okb,by omega,fun D ss HA nD hD hP hLs sA=>?_⟩
 obtain⟨cs,hcs,_,_,csn,csf⟩:=hR
 have frA:Frs H HA ss:=Frs.rev s08 csn (fun a ha=>(csf a ha).1) (hLs cs hcs)
 replace hP:=hP.plain
 rw[mz,jK kt9 enr fun es he v hv=>enu v (cI he hv)]at hP
 have s0A:=s09.trans sA
 have sln:ss.length<=130:=by
  rw[hP.1,V3]
  refine Vv (j6 _) ?_
  have:=dR (s:=us.map V.ref) w1
  rw[Vi]at this
  omega
 x_go
 refine⟨zs2,fun s3 n3=>?_⟩
 generalize hE:upd HA s3 _=HB
 obtain⟨h3,sB⟩:=bf n3 hE
 clear hE
 rw[eR]at h3
 x_go
 refine⟨zs3,fun s5 n5=>?_⟩
 generalize hE:upd HB s5 _=HC
 obtain⟨h5,sC⟩:=bf n5 hE
 clear hE
 x_go
 refine⟨zs2,fun L5 nL5=>?_⟩
 generalize hE:upd HC L5 _=HD
 obtain⟨hL5,sD⟩:=bf nL5 hE
 clear hE
 have sAD:=(sB.trans sC).trans sD
 x_go
 refine⟨D,L5,_,_,rfl,rfl,sAD _ _ hD,hL5,Vv (show _<=400 by rw[Vi];simp;omega) (by decide),fun L6 nL6=>?_⟩
 generalize hE:upd HD L6 _=HF
 obtain⟨hL6,sF⟩:=bf nL6 hE
 clear hE
 refine q L6 (ss ++ [s3,s5]) (us.map V.ref) HF ((s0A.trans sAD).free nL6) (by rw[hL6,Vo];rfl) (p1.map V.ref) pw ?_ ?_ ((s0A.trans sAD).trans sF)
 rotate_left
 ·rw[show ss ++ [s3,s5] =(ss ++ [s3]) ++ [s5] by rw[VU];rfl]
  refine((frA.keep (fun t xs e=>sF _ _ (sAD _ _ e)) fun s hs=>?_).more (gH (sF _ _ ((sC.trans sD) _ _ h3)))).more (iS (sF _ _ (sD _ _ h5)))
  obtain⟨xs,h⟩:=cB hP s hs
  exact⟨xs,bP _ _ h⟩
 have up:∀{s st},gE HD s st->gE (hid L6 HF) s st:=fun h=>h.same fun x o e=>by rw[cH (au e nL6)];exact sF _ _ e
 unfold u_
 refine(hP.imp fun s st h=>up ((h.same bP).same sAD)).app ((P1.one (up (st:=.rooms R) ⟨(sC.trans sD) _ _ h3,by omega,by omega⟩)).snoc (up (st:=.cut R 0) ⟨sD _ _ h5,by omega,by omega⟩))
theorem yP {f:Addr}{fd:FuncData}(F:eO K "putting" "putting" mY f fd) (mF:mg "putting" = some (.ref f)) (bF:Binds K fd Gi []) (T:Bl mg) (bx:Lm P w K mg base) (bq:Lp P w K mg base) (fX:Ln P w K mg base) (bH:Ms P w K mg base) (fz:Kc P w K mg base):bw P w K mg base "putting" Gi 5 (oX K):=by
 refine bw.of F mF bF fq (fun vs H Q E h=>?_) (fun _ A _ _ H vs Q E hr h=>?_)
 ·obtain⟨y,w,R,X,k,z,rfl,_⟩:=h;rfl
 obtain⟨y,w,R,X,k,z,rfl,hY,kk,zz,w1,w2,R1,R2,ok,sz,nd,q⟩:=h
 obtain⟨h,hy,⟨bs,hh,hbs⟩,en,szx⟩:=hY
 have rb:=fK (k:=k) (R:=(R:Int)) (by omega)
 obtain⟨r,hr0⟩ : ∃r:Nat,aE k R =(r:Int):=⟨(aE k R).toNat,by omega⟩
 have er:(aE k R).toNat=r:=by omega
 refine⟨_,(ak (fh (pv 0) (eF rfl (aN (aC (i:=3) fq.nd rfl (Or.inl rfl)) (aN (aC (i:=4) fq.nd rfl (Or.inl rfl)) (aN (aC (i:=5) fq.nd rfl (Or.inl rfl)) cE)))))
   (ak (aH (i:=6) fq.nd rfl (Or.inl rfl) (bQ bx hr.mo (aa (pv 1) (aa (pv 4) aj ai) ai)))
   (ak (aH (i:=7) fq.nd rfl (Or.inl rfl) (bQ bq hr.mo (aa (pv 5) (aa (pv 6) aj ai) ai)))
   (ak (aH (i:=8) fq.nd rfl (Or.inl rfl) (a_ k_ rfl T.sorted kh (aa (aO jx (bQ fz hr.mo (aa (pv 7) (aa (pv 1) aj ai) ai)) (b7 (aa (bZ (aa (pv 1) (aa (pv 2) aj ai) ai)) aj dZ))) aj bK)))
   (az (aP (bQ fX hr.mo (aa (pv 6) (aa (pv 7) (aa (bQ bH hr.mo (aa (pv 8) (aa (pv 3) aj ai) ai)) aj aF) ai) ai)))))))),?_⟩
 rw[zN]
 x_go
 refine⟨y,_,rfl,gu.of hy,rfl,_,_,rfl,_,_,rfl,_,_,rfl,rfl,?_⟩
 x_go
 refine⟨k,R,rfl,by omega,by omega,?_⟩
 rw[hr0]
 x_go
 refine⟨h,bs,r,rfl,hh,fun o H1 s1 ho=>?_⟩
 have hO:=Aj hbs hr0 s1 ho
 rw[er]at q
 generalize bJ X k R=rows at hO ok sz nd q
 have enr:∀es∈rows,∀v∈es,En H v:=fun es he=>(ok.2 es he).2
 x_go
 refine⟨o,rows,k,rfl,hO,by omega,fun es he v hv=>(enr es he v hv).keep fun _ _ e=>s1 _ _ e,fun L H2 nL hL s2=>?_⟩
 have s02:=s1.trans s2
 have eo:fE H1 rows k=fE H rows k:=XM fun v hv=>by
  obtain⟨es,he,hm⟩:=VZ.mp hv
  rw[(enr es he v hm).eD fun _ _ e=>s1 _ _ e]
 rw[eo]at hL
 have oen:=vc (k:=k) enr
 have one:=Lz (H:=H) (X:=rows) (k:=k)
 have ol:=Aq (H:=H) (X:=rows) (k:=k)
 have ond:((aI H (fE H rows k)).map (·.1)).Nodup:=by
  refine List.Nodup.sublist ?_ nd
  unfold aI
  exact(List.filter_sublist.map _).map _
 generalize fE H rows k=ov at hL oen one ol ond q
 obtain⟨ts,rfl⟩:=ki oen
 x_go
 refine⟨zs2,fun t nt=>?_⟩
 generalize hE:upd H2 t _=H3
 obtain⟨ht,s3⟩:=bf nt hE
 clear hE
 x_go
 refine⟨zs1,fun L2 nL2=>?_⟩
 generalize hE:upd H3 L2 _=H4
 obtain⟨hL2,s4⟩:=bf nL2 hE
 clear hE
 x_go
 rw[Vi]at ol
 refine⟨L,L2,_,_,rfl,rfl,(s3.trans s4) _ _ hL,hL2,Vv (show _<=200 by rw[Vi];simp;omega) (by decide),fun L3 nL3=>?_⟩
 generalize hE:upd H4 L3 _=H5
 obtain⟨hL3,s5⟩:=bf nL3 hE
 clear hE
 have s05:=((s02.trans s3).trans s4).trans s5
 have ht5:=s5 _ _ (s4 _ _ ht)
 have kt5:∀t xs,H t=some (.tup xs)->H5 t=some (.tup xs):=fun _ _ e=>s05 _ _ e
 have en5:∀v∈(ts ++ [t]).map V.ref,En H5 v:=fun v hv=>by
  rw[Vo]at hv
  rcases VH.mp hv with hv|hv
  ·exact(oen v hv).keep kt5
  ·rw[VM.mp hv];exact⟨t,k,z,rfl,ht5,zz.1,kk.1,kk.2,zz.2⟩
 have row5:aI H5 ((ts ++ [t]).map V.ref)=aI H (ts.map V.ref) ++ [(k,z)]:=by
  rw[Vo]
  unfold aI
  rw[Vo]
  congr 1
  ·exact Wa fun v hv=>(oen v hv).eD kt5
  ·show [eD H5 (.ref t)]=_
   rw[oz ht5]
 have nd5:((ts ++ [t]).map (kE H5)).Nodup:=by
  rw[<- fU,row5,Vo]
  refine Wb.mpr ⟨ond,by simp,fun a ha b hb e=>?_⟩
  have eb:b=k:=by simpa using hb
  obtain⟨p,hp,rfl⟩:=Vq.mp ha
  unfold aI at hp
  obtain⟨v,hv,rfl⟩:=Vq.mp hp
  exact one v hv (e.trans eb)
 rw[show ts.map V.ref ++ [V.ref t] =(ts ++ [t]).map V.ref by rw[Vo];rfl]at hL3
 x_go
 refine⟨L3,ts ++ [t],kE H5,rfl,aU.of hL3,by rw[Vm];simp;omega,fun u hu=>?_,yG nd5,fun us l p1 p2 nl=>?_⟩
 ·obtain⟨t',et,ht',_⟩:=(en5 (.ref u) (Vq.mpr ⟨u,hu,rfl⟩)).pt
  cases et
  exact⟨_,ht'⟩
 generalize hE:upd H5 l _=H6
 obtain⟨hl,s6⟩:=bf nl hE
 clear hE
 have ul:us.length<=110:=by rw[p1.length_eq,Vm];simp;omega
 have enu:∀v∈us.map V.ref,En H5 v:=fun v hv=>by
  obtain⟨u,hu,rfl⟩:=Vq.mp hv
  exact en5 _ (Vq.mpr ⟨u,p1.mem_iff.mp hu,rfl⟩)
 have pw:(aI H5 (us.map V.ref)).Pairwise fun a b=>a.1<b.1:=by
  have ndu:(us.map (kE H5)).Nodup:=(p1.map (kE H5)).nodup_iff.mpr nd5
  have p3:(us.map (kE H5)).Pairwise (· <= ·):=VV.mpr p2
  have p4:=yq p3 ndu
  rw[<- fU]at p4
  exact VV.mp p4
 x_go
 refine⟨l,us.map V.ref,w,rfl,hl,by rw[Vi];omega,w1,by omega,fun l2 H7 nl2 hR s7=>?_⟩
 have s57:=s6.trans s7
 have s07:=s05.trans s57
 have s17:aD H1 H7:=(((s2.trans s3).trans s4).trans s5).trans s57
 have kt57:∀t xs,H5 t=some (.tup xs)->H7 t=some (.tup xs):=fun _ _ e=>s57 _ _ e
 have enu7:∀v∈us.map V.ref,En H7 v:=fun v hv=>(enu v hv).keep kt57
 have ok2:=pU w1 (by omega) (by rw[Vi];omega) enu7
 x_go
 refine⟨r,o,l2,rows,_,rfl,hO.same s17,hR.rws,ok.same s07,ok2,by omega,fun D ss H8 nD hD hP hLs s8=>?_⟩
 replace hP:=hP.plain
 have kt8:∀t xs,H7 t=some (.tup xs)->H8 t=some (.tup xs):=fun _ _ e=>s8 _ _ e
 obtain⟨cs,hcs,_,_,csn,csf⟩:=hR
 refine q D ss t (us.map V.ref) H8 (s07.free nD) hD (s8 _ _ (s57 _ _ ht5)) ?_ ?_ ?_ (Frs.rev (s05.trans s6) csn (fun a ha=>(csf a ha).1) (hLs cs hcs)) (s07.trans s8)
 ·have:=p1.map V.ref
  rw[Vo]at this
  exact this
 ·rw[b6 kt8 enu7,b6 kt57 enu];exact pw
 ·rw[jK kt8 (fun es he v hv=>(enr es he v hv).keep fun _ _ e=>s07 _ _ e) fun es he v hv=>enu7 v (cI he hv)]
  exact hP
theorem w9 {f:Addr}{fd:FuncData}(F:eO K "dropping" "dropping" kX f fd) (mF:mg "dropping" = some (.ref f)) (bF:Binds K fd yp []) (T:Bl mg) (bx:Lm P w K mg base) (bq:Lp P w K mg base) (fz:Kc P w K mg base) (eS:Qx P w K mg base) (bH:Ms P w K mg base) (aW:JX P w K mg base):bw P w K mg base "dropping" yp 5 (oh K):=by
 refine bw.of F mF bF dQ (fun vs H Q E h=>?_) (fun _ A _ _ H vs Q E hr h=>?_)
 ·obtain⟨y,w,R,X,k,rfl,_⟩:=h;rfl
 obtain⟨y,w,R,X,k,rfl,hY,w1,w2,R1,R2,ok,sz,hk,q⟩:=h
 obtain⟨h,hy,⟨bs,hh,hbs⟩,en,szx⟩:=hY
 have rb:=fK (k:=k) (R:=(R:Int)) (by omega)
 obtain⟨r,hr0⟩ : ∃r:Nat,aE k R =(r:Int):=⟨(aE k R).toNat,by omega⟩
 have er:(aE k R).toNat=r:=by omega
 refine⟨_,(ak (fh (pv 0) (eF rfl (aN (aC (i:=2) dQ.nd rfl (Or.inl rfl)) (aN (aC (i:=3) dQ.nd rfl (Or.inl rfl)) (aN (aC (i:=4) dQ.nd rfl (Or.inl rfl)) cE)))))
   (ak (aH (i:=5) dQ.nd rfl (Or.inl rfl) (bQ bx hr.mo (aa (pv 1) (aa (pv 3) aj ai) ai)))
   (ak (aH (i:=6) dQ.nd rfl (Or.inl rfl) (bQ bq hr.mo (aa (pv 4) (aa (pv 5) aj ai) ai)))
   (ak (aH (i:=7) dQ.nd rfl (Or.inl rfl) (bQ fz hr.mo (aa (pv 6) (aa (pv 1) aj ai) ai)))
   (ak (cJ (aT fF (a_ bz rfl T.len cV (aa (pv 7) aj ai)) (a_ bz rfl T.len cV (aa (bQ aW hr.mo (aa (pv 6) aj ai)) aj aF)) (aX _)) (az Ar) bA)
   (az (aP (bQ eS hr.mo (aa (pv 5) (aa (pv 6) (aa (bQ bH hr.mo (aa (pv 7) (aa (pv 2) aj ai) ai)) aj aF) ai) ai))))))))),?_⟩
 rw[xy]
 x_go
 refine⟨y,_,rfl,gu.of hy,rfl,_,_,rfl,_,_,rfl,_,_,rfl,rfl,?_⟩
 x_go
 refine⟨k,R,rfl,by omega,by omega,?_⟩
 rw[hr0]
 x_go
 refine⟨h,bs,r,rfl,hh,fun o H1 s1 ho=>?_⟩
 have hO:=Aj hbs hr0 s1 ho
 rw[er]at q
 generalize bJ X k R=rows at hO ok sz hk q
 have enr:∀es∈rows,∀v∈es,En H v:=fun es he=>(ok.2 es he).2
 x_go
 refine⟨o,rows,k,rfl,hO,by omega,fun es he v hv=>(enr es he v hv).keep fun _ _ e=>s1 _ _ e,fun L H2 nL hL s2=>?_⟩
 have s02:=s1.trans s2
 have eo:fE H1 rows k=fE H rows k:=XM fun v hv=>by
  obtain⟨es,he,hm⟩:=VZ.mp hv
  rw[(enr es he v hm).eD fun _ _ e=>s1 _ _ e]
 rw[eo]at hL
 have oen:=vc (k:=k) enr
 have ol:=Aq (H:=H) (X:=rows) (k:=k)
 have less:(fE H rows k).length<rows.flatten.length:=by
  obtain⟨p,hp,e⟩:=Vq.mp hk
  unfold aI at hp
  obtain⟨v,hv,rfl⟩:=Vq.mp hp
  exact List.length_filter_lt_length_iff_exists.mpr ⟨v,hv,by simp[e]⟩
 x_go
 refine⟨o,rows,rfl,hO.same s2,by omega,fun L2 H3 nL2 hL2 s3=>?_⟩
 have s03:=s02.trans s3
 x_go
 refine b_ (fun g=>absurd g (by omega)) (fun _=>?_)
 x_go
 refine⟨L,_,w,rfl,s3 _ _ hL,by omega,w1,by omega,fun l2 H7 nl2 hR s7=>?_⟩
 have s07:=s03.trans s7
 have kt7:∀t xs,H t=some (.tup xs)->H7 t=some (.tup xs):=fun _ _ e=>s07 _ _ e
 have ok2:=pU (H:=H7) w1 (by omega) (us:=fE H rows k) (by omega) fun v hv=>(oen v hv).keep kt7
 x_go
 refine⟨r,o,l2,rows,_,rfl,hO.same ((s2.trans s3).trans s7),hR.rws,ok.same s07,ok2,by omega,fun D ss H8 nD hD hP hLs s8=>?_⟩
 replace hP:=hP.plain
 obtain⟨cs,hcs,_,_,csn,csf⟩:=hR
 refine q D ss H8 (s07.free nD) hD ?_ (Frs.sub s03 csn (fun a ha=>(csf a ha).1) (hLs cs hcs)) (s07.trans s8)
 rw[mz]at hP
 unfold jk at hP ⊢
 rw[jK kt7 enr fun es he v hv=>oen v (cI he hv)]at hP
 exact hP
theorem uH {f:Addr}{fd:FuncData}(F:eO K "others_in" "others_in" ig f fd) (mF:mg "others_in" = some (.ref f)) (bF:Binds K fd r6 []) (T:Bl mg) (aW:JX P w K mg base):Kc P w K mg base:=by
 refine bw.of F mF bF vG (fun vs H Q E h=>?_) (fun _ A _ _ H vs Q E hr h=>?_)
 ·obtain⟨a,X,k,rfl,_⟩:=h;rfl
 obtain⟨a,X,k,rfl,hX,hz,en,q⟩:=h
 refine⟨_,(az (aP (cN rfl (cF (sc:=av ig) (N:=r6) (vs:=["entry"]) (fs:=["key"]) (js:=[1]) (by z_go) rfl rfl) (aZ (bQ aW hr.mo (aa (pv 0) aj ai))) (fun _ _ _ _=>aC (i:=0) (show(["entry", "key"]:List Str).Nodup by z_go) rfl (Or.inl rfl)) (fun _ _ _ _=>Br (aT Qo (bg (j7 (K:=K) rfl) (pv 0) ay (fun _ _=>rfl)) (pv 1) (aX _))) (fun _ _ _ _=>(pv 0))))),?_⟩
 rw[vB]
 x_go
 refine⟨a,X,rfl,hX,by omega,fun L H1 nL hL s1=>?_⟩
 refine⟨L,rfl,⟨_,aU.of hL⟩,fun D nD=>?_⟩
 refine aY (xs:=X.flatten) (fun j σ' ys H'=>(∃x,σ'=[x,some (.int k)])/\aD H1 H'/\ys =(X.flatten.take j).filter (fun v=>!decide ((eD H v).1=k))/\H' D=some (.lst ys)) D ⟨⟨_,rfl⟩,aG nD _,rfl,aq⟩ (fun i σ' ys H' _ h=>aU.of (h.2.1 _ _ hL)) ?_ ?_
 ·rintro j x σ' ys H2 hx ⟨⟨z1,rfl⟩,s2,rfl,hD⟩
  have jl:=(Vj.mp hx).1
  obtain⟨es,he,hv⟩:=VZ.mp (Vk hx)
  obtain⟨t,rfl,ht,_⟩:=(en es he x hv).pt
  have ht2:=s2 _ _ (s1 _ _ ht)
  x_go
  refine IB (fun c=>?_) (fun c=>?_)
  ·x_go
   refine⟨hD,?_,⟨_,rfl⟩,fun b o e=>by rw[ao (au e nD)];exact s2 _ _ e,?_,aq⟩
   ·refine aR (Vv (VL _ _) ?_)
    rw[Vw];omega
   ·rw[aV hx,WC,WR,VB (by simp[c])];rfl
  ·refine⟨⟨_,rfl⟩,s2,?_,hD⟩
   rw[aV hx,WC,WR,VF (by simp[c])]
   simp
 ·rintro σ' ys H2 ⟨⟨z1,rfl⟩,s2,rfl,hD⟩
  rw[VA]at hD
  exact q D H2 (s1.free nD) hD (s1.trans s2)
theorem BD {f:Addr}{fd:FuncData}(F:eO K "mended" "mended" pP f fd) (mF:mg "mended" = some (.ref f)) (bF:Binds K fd mQ []) (T:Bl mg) (cO:QA P w K mg base) (aW:JX P w K mg base) (bx:Lm P w K mg base):bw P w K mg base "mended" mQ 7 (mS K):=by
 refine bw.of F mF bF d9 (fun vs H Q E h=>?_) (fun _ A _ _ H vs Q E hr h=>?_)
 ·obtain⟨y,w,R,X,rfl,_⟩:=h;rfl
 obtain⟨y,w,R,X,rfl,hY,w1,w2,R1,R2,sz,sl,q⟩:=h
 obtain⟨h,hy,⟨bs,hh,hbs⟩,en,szx⟩:=hY
 have hu:=hr.units
 have bl:=hbs.1
 have okE:=AZ (R:=R) en
 have flen:(eE (yD H X)).length<=190:=by rw[kg,Vi];exact sz
 refine⟨_,(ak (fh (pv 0) (eF rfl (aN (aC (i:=1) d9.nd rfl (Or.inl rfl)) (aN (aC (i:=2) d9.nd rfl (Or.inl rfl)) (aN (aC (i:=3) d9.nd rfl (Or.inl rfl)) cE)))))
   (ak (aH (i:=4) d9.nd rfl (Or.inl rfl) Cp)
   (ak (eL V2 rfl (vq rfl T.enumerate (aa (cP eW (pv 3) eY (dD (pv 2))) aj aQ)) (eF rfl (aN (aC (i:=5) d9.nd rfl (Or.inl rfl)) (aN (aC (i:=6) d9.nd rfl (Or.inl rfl)) cE))) (az (eL V2 rfl (aZ (bQ aW hr.mo (aa (pv 6) aj ai))) (eF rfl (aN (aC (i:=7) d9.nd rfl (Or.inl rfl)) (aN (aC (i:=8) d9.nd rfl (Or.inl rfl)) cE))) (az (cJ (aT fF (bQ bx hr.mo (aa (pv 7) (aa (pv 2) aj ai) ai)) (pv 5) (aX _)) (az (bT (DB (pv 4) (pv 7) (pv 8) ⟨rfl,rfl,rfl,rfl⟩))) bA)))))
   (az (aP (bQ cO hr.mo (aa (pv 1) (aa (pv 2) (aa (cR (zf rfl) rfl T.list g_ (aa (zy PySem.F.plainAttrs_dict PySem.F.slot_dict_items PySem.F.type_dict_items CS (pv 4)) aj aF)) aj aF) ai) ai))))))),?_⟩
 rw[A2]
 x_go
 refine⟨y,_,rfl,gu.of hy,rfl,_,_,rfl,_,_,rfl,_,_,rfl,rfl,?_⟩
 x_go
 intro d nd
 generalize hE:upd H d _=H1
 obtain⟨hd,s1⟩:=bf nd hE
 clear hE
 x_go
 refine gp (aU.of (s1 _ _ hh)) fun L nL=>?_
 rw[iU]
 generalize hE:upd H1 L _=H2
 obtain⟨hL,s2⟩:=bf nL hE
 clear hE
 have Ld:L≠d:=fun z=>by rw[z,hd]at nL;cases nL
 refine⟨L,rfl,⟨_,aU.of hL⟩,?_⟩
 refine yh (xs:=(bs.take R).map V.ref) (fun i σ H'=>(∃x5 x6 x7 x8,σ=[some (.ref y),some (.int w),some (.int R),some (.ref h),some (.ref d),x5,x6,x7,x8])/\aD H H'/\H' L=some (.lst ((bs.take R).map V.ref))/\H' d=some (.dK (eV (fV R (yD H X) i)))) ⟨⟨_,_,_,_,rfl⟩,s1.trans s2,hL,s2 _ _ hd⟩ (fun _ _ _ _ h=>aU.of h.2.2.1) ?_ ?_
 ·rintro i x σ H3 u hx ⟨⟨x5,x6,x7,x8,rfl⟩,s3,hL3,hd3⟩ nu
  obtain⟨b,hb,rfl⟩:=br hx
  have il:=(Vj.mp hb).1
  rw[Vw]at il
  rw[List.getElem?_take_of_lt (by omega)]at hb
  obtain⟨rows,hxr,_,as,hb1,hA⟩:=hbs.get hb
  have rm:=Vk hxr
  have enr:∀es∈rows,∀v∈es,En H v:=en rows rm
  have rl:rows.flatten.length<=190:=by
   refine Vv (List.Sublist.length_le ?_) sz
   unfold dB
   exact List.sublist_flatten_of_mem (Vq.mpr ⟨rows,rm,rfl⟩)
  have e1:fV R (yD H X) (i+1) =(aI H rows.flatten).foldl (c_ R i) (fV R (yD H X) i):=by
   show((((yD H X)[i]?).getD []).flatten).foldl _ _=_
   rw[pI,hxr,dm];rfl
  have a1:(fV R (yD H X) i).length<=190:=Vv (lC i) (Vv qM flen)
  generalize hE:upd H3 u _=H4
  obtain⟨hu4,s4⟩:=bf nu hE
  clear hE
  refine⟨u,_,rfl,gu.of hu4,rfl,_,_,rfl,_,_,rfl,rfl,?_⟩
  have s04:=s3.trans s4
  x_go
  refine⟨b,rows,rfl,⟨as,s04 _ _ hb1,hA.1,fun i a es e1 e2=>s04 _ _ (hA.2 i a es e1 e2).2⟩,by omega,fun L2 H5 nL2 hL2 s5=>?_⟩
  have hd5:=s5 _ _ (s4 _ _ hd3)
  have L2d:L2≠d:=fun z=>by rw[z,s4 _ _ hd3]at nL2;cases nL2
  rw[e1]
  have rdl:(aI H rows.flatten).length=rows.flatten.length:=by unfold aI;rw[Vi]
  generalize fV R (yD H X) i=acc0 at hd5 a1
  refine⟨L2,rfl,⟨_,aU.of hL2⟩,?_⟩
  refine dh (xs:=rows.flatten) (fun j σ H'=>(∃x7 x8,σ=[some (.ref y),some (.int w),some (.int R),some (.ref h),some (.ref d),some (.int i),some (.ref b),x7,x8])/\aD H H'/\H' L=some (.lst ((bs.take R).map V.ref))/\H' L2=some (.lst rows.flatten)/\H' d=some (.dK (eV (((aI H rows.flatten).take j).foldl (c_ R i) acc0)))) ⟨⟨_,_,rfl⟩,s04.trans s5,s5 _ _ (s4 _ _ hL3),hL2,hd5⟩ (fun _ _ _ _ h=>aU.of h.2.2.2.1) ?_ ?_
  ·rintro j x σ H6 hx2 ⟨⟨x7,x8,rfl⟩,s6,hL6,hL26,hd6⟩
   obtain⟨es,he,hv⟩:=VZ.mp (Vk hx2)
   have hxd:(aI H rows.flatten)[j]? = some (eD H x):=by unfold aI;rw[Vp,hx2];rfl
   obtain⟨t,rfl,ht,_⟩:=(enr es he x hv).pt
   have nx:((aI H rows.flatten).take (j+1)).foldl (c_ R i) acc0=c_ R i (((aI H rows.flatten).take j).foldl (c_ R i) acc0) (eD H (.ref t)):=by rw[aV hxd,XI];rfl
   have al:(((aI H rows.flatten).take j).foldl (c_ R i) acc0).length<=400:=by
    refine Vv pH ?_
    rw[Vw];omega
   rw[nx]
   generalize ((aI H rows.flatten).take j).foldl (c_ R i) acc0=acc at hd6 al
   generalize eD H (.ref t)=e at ht
   x_go
   refine⟨t,_,rfl,gu.of (s6 _ _ ht),rfl,_,_,rfl,_,_,rfl,rfl,?_⟩
   x_go
   refine⟨e.1,R,rfl,by omega,by omega,?_⟩
   x_go
   refine b_ (fun c=>?_) (fun c=>?_)
   ·x_go
    refine D8 ?_
    x_go
    refine⟨d,rfl,.inl ⟨_,.inl hd6⟩,?_⟩
    x_go
    refine⟨_,Sum.inl e.1,hd6,rfl,by unfold eV;rw[Vi,Vi];exact aR (by omega),fun v hv=>?_,fun hn=>?_⟩
    ·have hm:e.1∈acc.map (·.1):=by
      have:=find_some (es:=acc) (k:=e.1)
      rw[hv]at this
      exact WV this.symm
     x_go
     refine⟨⟨_,_,rfl⟩,s6,hL6,hL26,?_⟩
     unfold c_ BC
     rw[VB c,VB hm];exact hd6
    ·have hm:e.1∉acc.map (·.1):=by
      have:=find_some (es:=acc) (k:=e.1)
      rw[hn]at this
      exact WQ this.symm
     x_go
     refine⟨⟨_,_,rfl⟩,fun b o e=>by rw[ao (au e nd)];exact s6 _ _ e,by rw[ao Ld];exact hL6,by rw[ao L2d];exact hL26,?_⟩
     unfold c_ BC
     rw[VB c,VF hm,aq,ED hm]
   ·x_go
    refine⟨⟨_,_,rfl⟩,s6,hL6,hL26,?_⟩
    unfold c_
    rw[VF c];exact hd6
  ·rintro σ H6 ⟨⟨x7,x8,rfl⟩,s6,hL6,hL26,hd6⟩
   rw[<- rdl,VA]at hd6
   x_go
   exact⟨⟨_,_,_,_,rfl⟩,s6,hL6,hd6⟩
 ·rintro σ H3 ⟨⟨x5,x6,x7,x8,rfl⟩,s3,hL3,hd3⟩
  have el:fV R (yD H X) ((bs.take R).map V.ref).length=iV R (yD H X):=by
   unfold iV yD
   rw[Vi,Vw,Vi,bl]
  rw[el]at hd3
  have snd:=qc (R:=R) (D:=yD H X)
  generalize iV R (yD H X)=es at hd3 okE sl snd q
  x_go
  refine⟨.inr (.inr (.inl ⟨rfl,.inl ⟨_,hd3⟩⟩)),?_⟩
  refine⟨d,_,rfl,rfl,hd3,fun v nv=>?_⟩
  generalize hE:upd H3 v _=H4
  obtain⟨hv,s4⟩:=bf nv hE
  clear hE
  x_go
  refine⟨v,d,es.map vE,rfl,hv,s4 _ _ hd3,fun ts l H5 s5 nl hl tl ht=>?_⟩
  have s05:=(s3.trans s4).trans s5
  x_go
  refine⟨l,ts,es.map vE,w,R,rfl,hl,tl,by rw[Vi];omega,ht,w1,w2,R1,by omega,fun ms t h' H6 mp mo ht6 hyn s6=>?_⟩
  have s06:=s05.trans s6
  obtain⟨rs,bss,sy,ex,sq,cl⟩:=mD (es:=es) (fun e he=>⟨(okE e he).1,(okE e he).2.1.1,(okE e he).2.1.2,(okE e he).2.2⟩) (by omega) w1 R1 (by omega) mp mo hyn
  rw[m_ snd]at cl
  exact q t h' rs bss H6 ht6 (sy.weak fun b hb=>s05.free hb) ex sq cl s06
theorem yY {f:Addr}{fd:FuncData}(F:eO K "mending" "mending" iO f fd) (mF:mg "mending" = some (.ref f)) (bF:Binds K fd mQ []) (T:Bl mg) (eS:Qx P w K mg base) (iJ:bw P w K mg base "mended" mQ 7 (mS K)) (bq:Lp P w K mg base):bw P w K mg base "mending" mQ 8 (qR K):=by
 refine bw.of F mF bF cY (fun vs H Q E h=>?_) (fun _ A _ _ H vs Q E hr h=>?_)
 ·obtain⟨y,w,R,X,rfl,_⟩:=h;rfl
 obtain⟨y,w,R,X,rfl,hY,w1,w2,R1,R2,xl,rok,sz,sl,q⟩:=h
 obtain⟨h,hy,⟨bs,hh,hbs⟩,en,szx⟩:=id hY
 have bl:=hbs.1
 refine⟨_,(ak (fh (pv 0) (eF rfl (aN (aC (i:=1) cY.nd rfl (Or.inl rfl)) (aN (aC (i:=2) cY.nd rfl (Or.inl rfl)) (aN (aC (i:=3) cY.nd rfl (Or.inr rfl)) cE)))))
   (ak (aH (i:=4) cY.nd rfl (Or.inl rfl) (b7 aj))
   (ak (eL V2 rfl (vq rfl T.enumerate (aa (bg cS (bQ iJ hr.mo (aa (pv 0) aj ai)) ay (fun _ _=>rfl)) aj aQ)) (eF rfl (aN (aC (i:=5) cY.nd rfl (Or.inl rfl)) (aN (aC (i:=6) cY.nd rfl (Or.inl rfl)) cE))) (az (Ds (i:=4) cY.nd rfl (Or.inl rfl) (bQ eS hr.mo (aa (pv 5) (aa (bQ bq hr.mo (aa (pv 3) (aa (pv 5) aj ai) ai)) (aa (pv 6) aj ai) aF) ai)) J6)))
   (ak (cU (i:=7) cY.nd rfl rfl rfl (cF (sc:=av iO) (N:=QC) (vs:=["room"]) (fs:=["held"]) (js:=[3]) (by z_go) rfl rfl) (BA rfl T.range (aa (pv 2) (aa (a_ bz rfl T.len cV (aa (pv 3) aj ai)) aj aF) ai)) (fun _ _ _ _=>aC (i:=0) (show(["room", "held"]:List Str).Nodup by z_go) rfl (Or.inl rfl)) (fun _ _ _ _=>Br (Bw (K:=K) rfl (bg (p8 (K:=K) rfl) (pv 1) (pv 0) (fun _ _=>rfl)) (fun _=>rfl))) (fun _ _ _ _=>(pv 0)))
   (az (aP (aO jx (pv 4) (cN rfl (cF (sc:=av iO) (N:=QC) (vs:=["room"]) (fs:=[]) (js:=[]) (by z_go) rfl rfl) (aZ (vI (pv 7))) (fun _ _ _ _=>aC (i:=0) (show(["room"]:List Str).Nodup by z_go) rfl (Or.inl rfl)) (fun _ _ _ _=>fL) (fun _ _ _ _=>(bZ (aa bM (aa (pv 0) (aa ay aj aB) ai) aB))))))))))),?_⟩
 rw[yI]
 x_go
 refine⟨y,_,rfl,gu.of hy,rfl,_,_,rfl,_,_,rfl,_,_,rfl,rfl,?_⟩
 x_go
 refine⟨by decide,fun D nD=>?_⟩
 generalize hE:upd H D _=H1
 obtain⟨hD,s1⟩:=bf nD hE
 clear hE
 x_go
 refine⟨y,w,R,X,rfl,hY.same s1,w1,w2,R1,R2,sz,by rw[dF s1 en];exact sl,fun t h' rs bss H2 ht sy ez sq cl s2=>?_⟩
 rw[dF s1 en]at cl
 have s02:=s1.trans s2
 have sdl:(iV R (yD H X)).length<=129:=by omega
 have zok:=oK cl w1 w2 sdl ez
 have zl:(XA H2 bss).length=R:=by have:=cl.1;unfold yD at this;rw[Vi]at this;exact this
 have hD2:=s2 _ _ hD
 have neD:∀b,H1 b=none->b≠D:=fun b hb z=>by rw[z,hD]at hb;cases hb
 have rsl:rs.length=R:=by rw[sy.hb.1];rw[vh]at zl;exact zl
 have hZ:∀(i:Nat) (r:Addr),rs[i]? = some r->∀H3:Hp,(∀b o,H2 b=some o->b≠D->H3 b=some o)->q_ H3 r (bY (XA H2 bss) i):=fun i r hr H3 k3=>by
  obtain⟨bsi,hbi,h1⟩:=sy.hb.get hr
  have ea:bY (XA H2 bss) i=bsi.map (rowOf H2):=by unfold bY XA;rw[Vp,hbi];rfl
  rw[ea]
  refine⟨bsi,k3 _ _ h1 (neD r (sy.ns r (Vr _ (Wr _ (Vk hr))))),by rw[Vi],fun j a es e1 e2=>?_⟩
  rw[Vp,e1]at e2
  have e2:rowOf H2 a=es:=VC e2
  have am:a∈bss.flatten:=VZ.mpr ⟨bsi,Vk hbi,Vk e1⟩
  obtain⟨es',he⟩:=sy.ha a am
  rw[jr he]at e2
  rw[<- e2]
  exact k3 _ _ he (neD a (sy.ns a (Vr _ (VD _ am))))
 have hZb:∀(i:Nat) (r:Addr),rs[i]? = some r->∃bsi:List Addr,H2 r=some (.lst (bsi.map V.ref))/\r≠D/\D∉bsi/\bss[i]? = some bsi:=fun i r hr=>by
  obtain⟨bsi,hbi,h1⟩:=sy.hb.get hr
  exact⟨bsi,h1,neD r (sy.ns r (Vr _ (Wr _ (Vk hr)))),fun m=>neD D (sy.ns D (Vr _ (VD _ (VZ.mpr ⟨bsi,Vk hbi,m⟩)))) rfl,hbi⟩
 have hhr:=sy.hh
 have h'D:h'≠D:=neD h' (sy.ns h' (Vy ..))
 generalize XA H2 bss=Z at ez cl zok zl hZ
 x_go
 refine⟨h',rfl,⟨_,aU.of hhr⟩,?_⟩
 have kt02:∀t xs,H t=some (.tup xs)->H2 t=some (.tup xs):=fun _ _ e=>s02 _ _ e
 have en2:=en.keep kt02
 refine yh (xs:=rs.map V.ref) (fun i σ H'=>(∃x5 x6,σ=[some (.ref y),some (.int w),some (.int R),some (.ref h),some (.ref D),x5,x6,none])/\(∀b o,H2 b=some o->b≠D->H' b=some o)/\∃ss:List Addr,H' D=some (.lst (ss.map V.ref))/\P1 (gE (hid D H')) ss (iK H2 X Z i)/\(bB H' ss).Sublist (bss.take i).flatten) ⟨⟨_,_,rfl⟩,fun _ _ e _=>e,[],hD2,P1.nil,List.nil_sublist _⟩ (fun _ _ _ _ h=>aU.of (h.2.1 _ _ hhr h'D)) ?_ ?_
 ·rintro i x σ H3 u hx ⟨⟨x5,x6,rfl⟩,k3,ss,hD3,hP3,hL3⟩ nu
  obtain⟨r,hr2,rfl⟩:=br hx
  have il:=(Vj.mp hr2).1
  have s03:aD H H3:=fun b o e=>k3 _ _ (s02 _ _ e) (au e nD)
  generalize hE:upd H3 u _=H4
  obtain⟨hu4,s4⟩:=bf nu hE
  clear hE
  have s04:=s03.trans s4
  have k4:∀b o,H2 b=some o->b≠D->H4 b=some o:=fun b o e n=>s4 _ _ (k3 b o e n)
  refine⟨u,_,rfl,gu.of hu4,rfl,_,_,rfl,_,_,rfl,rfl,?_⟩
  x_go
  refine⟨h,bs,i,rfl,s04 _ _ hh,fun o H5 s5 ho=>?_⟩
  have s05:=s04.trans s5
  have hO:=lB hbs s05 ho
  have k5:∀b o,H2 b=some o->b≠D->H5 b=some o:=fun b o e n=>s5 _ _ (k4 b o e n)
  have kt5:∀t xs,H2 t=some (.tup xs)->H5 t=some (.tup xs):=fun t xs e=>k5 t _ e (fun z=>by rw[z,hD2]at e;cases e)
  x_go
  refine⟨i,o,r,bY X i,bY Z i,rfl,hO,hZ i r hr2 H5 k5,(rok i).same s05,⟨(zok i).1,fun es he=>⟨((zok i).2 es he).1,fun v hv=>(((zok i).2 es he).2 v hv).keep kt5⟩⟩,by omega,fun D2 ss2 H6 nD2 hD6 hP6 hLs6 s6=>?_⟩
  rw[oM kt5 (xo en2) (xo ez)]at hP6
  obtain⟨bsi,hbi,rD,Dbi,hbs6⟩:=hZb i r hr2
  have okD:Hw H5 r D2 D:=.inr ⟨⟨_,s5 _ _ (s4 _ _ hD3)⟩,fun bs2 hb2 m=>by
   rw[k5 _ _ hbi rD]at hb2
   have:bsi.map V.ref=bs2.map V.ref:=by injection hb2 with hb2;injection hb2
   exact Dbi (yu this ▸ m)⟩
  have hDv:=s6 _ _ (s5 _ _ (s4 _ _ hD3))
  have D2D:D2≠D:=fun z=>by rw[z,s5 _ _ (s4 _ _ hD3)]at nD2;cases nD2
  have l1:ss.length<=131*i:=by rw[hP3.1];exact j4 (fun i=>(zok i).1) i
  have l2:ss2.length<=131:=by
   rw[hP6.plain.1]
   exact Vv lA (by have:=(zok i).1;omega)
  x_go
  refine⟨D,D2,_,_,rfl,rfl,hDv,hD6,Vv (show _<=100000 by rw[Vi,Vi];omega) (by decide),?_⟩
  rw[<- Vo]
  x_go
  refine⟨⟨_,_,rfl⟩,fun b o e n=>by rw[ao n];exact s6 _ _ (k5 b o e n),ss++ss2,aq,?_,?_⟩
  ·rw[iu]
   show P1 _ _ (iK H2 X Z i++jk H2 i (bY X i) (bY Z i))
   exact(hP3.imp fun s st h=>h.same (cL ((s4.trans s5).trans s6))).app ((hP6 D okD).imp fun s st h=>h.same (cL bP))
  ·have kt6:∀t xs,H6 t=some (.tup xs)->upd H6 D (.lst ((ss++ss2).map V.ref)) t=some (.tup xs):=fun t xs e=>by rw[ao (ju e hDv (by intro z;cases z))];exact e
   rw[fT,bW (H:=H3) (fun t' xs e=>kt6 _ _ (((s4.trans s5).trans s6) _ _ e)) fun s hs=>by
     obtain⟨xs,h⟩:=cB hP3 s hs
     exact⟨xs,bP _ _ h⟩,bW (H:=H6) kt6 fun s hs=>by
     obtain⟨xs,h⟩:=cB hP6.plain s hs
     exact⟨xs,bP _ _ h⟩,aV hbs6,Wo]
   refine hL3.append ?_
   rw[XF,List.flatten_nil,V5]
   exact hLs6 bsi (k5 _ _ hbi rD)
 ·rintro σ H3 ⟨⟨x5,x6,rfl⟩,k3,ss,hD3,hP3,hL3⟩
  have hL3:(bB H3 ss).Sublist bss.flatten:=by
   rw[Vi,sy.hb.1,VA]at hL3;exact hL3
  rw[Vi,rsl]at hP3
  have s03:aD H H3:=fun b o e=>k3 _ _ (s02 _ _ e) (au e nD)
  have kt3:∀t xs,H2 t=some (.tup xs)->H3 t=some (.tup xs):=fun t xs e=>k3 t _ e (fun z=>by rw[z,hD2]at e;cases e)
  have hh3:=s03 _ _ hh
  x_go
  rw[Vi,bl]
  refine⟨_,_,rfl,by omega,fun D2 nD2=>?_⟩
  have nn:((X.length:Int)-(R:Int)).toNat=X.length-R:=by omega
  rw[nn]
  refine gQ (n:=X.length-R) (fun i σ' ys H'=>(∃x,σ'=[x,some (.ref h)])/\aD H3 H'/\ys =((mX X R i).map (fun(r:Nat)=>(r:Int))).map V.int/\H' D2=some (.lst ys)) D2 ⟨⟨_,rfl⟩,aG nD2 _,rfl,aq⟩ ?_ ?_
  ·rintro i σ' ys H4 hi ⟨⟨x1,rfl⟩,s4,rfl,hD4⟩
   have hb:=Vn (show R+i<bs.length by omega)
   generalize bs[R+i]=b at hb
   obtain⟨rows,hx,_,as,hb1,hA⟩:=hbs.get hb
   have ea:bY X (R+i)=rows:=by unfold bY;rw[hx];rfl
   have s04:=s03.trans s4
   x_go
   rw[show(R:Int)+(i:Int) =((R+i:Nat):Int) by omega]
   refine cG (aU.of (s04 _ _ hh)) (gB hb) ?_
   refine⟨decide (as ≠ []),.inl ⟨_,aU.of (s04 _ _ hb1),pL⟩,?_⟩
   have fl:=oQ (X:=X) (R:=R) i
   have aA:=hA.1
   by_cases c:as=[]
   ·have re:rows=[]:=Wy (by rw[<- aA,c];rfl)
    rw[VR (by simpa using c),VF VI]
    refine⟨⟨_,rfl⟩,s4,?_,hD4⟩
    show _ =((mX X R i++(if bY X (R+i)=[] then [] else [R+i])).map _).map _
    rw[ea,VB re,V5]
   ·have re:rows ≠ []:=fun z=>c (Wy (by rw[aA,z];rfl))
    rw[VX c,VB rfl]
    x_go
    refine⟨hD4,by rw[Vi,Vi];exact aR (by omega),⟨_,rfl⟩,fun b o e=>by rw[ao (au e nD2)];exact s4 _ _ e,?_,aq⟩
    show _ =((mX X R i++(if bY X (R+i)=[] then [] else [R+i])).map _).map _
    rw[ea,VF re,Vo,Vo];rfl
  ·rintro σ' ys H4 ⟨⟨x1,rfl⟩,s4,rfl,hD4⟩
   have fm:=fun i=>AF (X:=X) (R:=R) (i:=i) (n:=X.length-R)
   have fl:=oQ (X:=X) (R:=R) (X.length-R)
   have em:mC H2 R X Z=iK H2 X Z R++wm (mX X R (X.length-R)).reverse:=rfl
   generalize mX X R (X.length-R)=fu at hD4 fm fl em
   have hD34:=s4 _ _ hD3
   x_go
   refine⟨D2,_,rfl,aU.of hD4,fun L nL=>?_⟩
   rw[<- Ww,<- Ww]
   generalize hE:upd H4 L _=H5
   obtain⟨hL,s5⟩:=bf nL hE
   clear hE
   refine⟨L,rfl,⟨_,aU.of hL⟩,fun D3 nD3=>?_⟩
   refine aY (xs:=(fu.reverse.map (fun(r:Nat)=>(r:Int))).map V.int) (fun j σ' ys H'=>(∃x,σ'=[x])/\aD H5 H'/\H' D3=some (.lst ys)/\∃ss3:List Addr,ys=ss3.map V.ref/\ss3.length=j/\j<=fu.length/\P1 (gE (hid D3 H')) ss3 (wm (fu.reverse.take j))) D3 ⟨⟨_,rfl⟩,aG nD3 _,aq,[],rfl,rfl,VS _,P1.nil⟩ (fun i σ' ys H' _ h=>aU.of (h.2.1 _ _ hL)) ?_ ?_
   ·rintro j x σ' ys H6 hx ⟨⟨x1,rfl⟩,s6,hD6,ss3,rfl,sl3,_,hP6⟩
    obtain⟨z,hz,rfl⟩:=ints_get hx
    rw[Vp]at hz
    cases ez:fu.reverse[j]? with
    | none=>rw[ez]at hz;cases hz
    | some r =>
     rw[ez]at hz
     have hz:(r:Int)=z:=VC hz
     subst hz
     have jl:=(Vj.mp ez).1
     rw[V3]at jl
     have rb:=(fm r).mp (WS.mp (Vk ez))
     x_go
     refine⟨zs3,fun s3 n3=>?_⟩
     generalize hE:upd H6 s3 _=H7
     obtain⟨h3,s7⟩:=bf n3 hE
     clear hE
     have n3D:s3≠D3:=fun z=>by rw[z,hD6]at n3;cases n3
     refine⟨s7 _ _ hD6,by rw[Vi];exact aR (by omega),⟨_,rfl⟩,fun b o e=>by rw[ao (au e nD3)];exact s7 _ _ (s6 _ _ e),aq,ss3 ++ [s3],by rw[Vo];rfl,by rw[Vm,sl3];rfl,by omega,?_⟩
     rw[iu,aV ez]
     unfold wm at hP6 ⊢
     rw[Vo]
     refine(hP6.imp fun s st h=>h.same (cL s7)).snoc ⟨?_,by omega,by omega⟩
     rw[cH n3D];exact h3
   ·rintro σ' ys H6 ⟨⟨x1,rfl⟩,s6,hD6,ss3,rfl,sl3,_,hP6⟩
    rw[V8 (by simp)]at hP6
    have s36:=(s4.trans s5).trans s6
    have s06:=s03.trans s36
    have l1:ss.length<=131*R:=by rw[hP3.1];exact j4 (fun i=>(zok i).1) R
    have sl3':ss3.length<=130:=by
     rw[sl3,Vi,Vi,V3];omega
    x_go
    refine⟨D,D3,_,_,rfl,rfl,s36 _ _ hD3,hD6,Vv (show _<=100000 by rw[Vi,Vi];omega) (by decide),fun L4 nL4=>?_⟩
    rw[<- Vo]
    generalize hE:upd H6 L4 _=H7
    obtain⟨hL4,s7⟩:=bf nL4 hE
    clear hE
    have up:∀{s st},gE H6 s st->gE (hid L4 H7) s st:=fun h=>h.same fun x o e=>by rw[cH (au e nL4)];exact s7 _ _ e
    have kt7:∀t xs,H2 t=some (.tup xs)->H7 t=some (.tup xs):=fun t xs e=>s7 _ _ (s36 _ _ (kt3 _ _ e))
    refine q L4 (ss++ss3) Z H7 (s06.free nL4) hL4 (ez.keep kt7) (by rw[cX kt7 ez];exact cl) ?_ ?_ (s06.trans s7)
    rotate_left
    ·have nb:=(Wb.mp (V6.mp sy.nd).2).2.1
     refine Frs.sub (H0:=H1) s1 nb (fun a ha=>sy.ns a (Vr _ (VD _ ha))) ?_
     rw[fT,bW (H:=H3) (fun t' xs e=>s7 _ _ (s36 _ _ e)) fun s hs=>by
      obtain⟨xs,h⟩:=cB hP3 s hs
      exact⟨xs,bP _ _ h⟩,BN (hP6.imp fun s st h=>(h.same bP).same s7),V5]
     exact hL3
    have e7:mC H7 R X Z=mC H2 R X Z:=by unfold mC;rw[qm kt7 en2 ez]
    rw[e7,em]
    exact(hP3.imp fun s st h=>up ((h.same bP).same s36)).app (hP6.imp fun s st h=>up (h.same bP))
theorem uI {f:Addr}{fd:FuncData}(F:eO K "_law_open" "_law_open" ir f fd) (mF:mg "_law_open" = some (.ref f)) (bF:Binds K fd Gq []) (T:Bl mg)  : bw P w K mg base "_law_open" Gq 1 (lZ K):=by
 refine bw.of F mF bF d8 (fun vs H Q E h=>?_) (fun _ A _ _ H vs Q E hr h=>?_)
 ·obtain⟨a,ns,pl,rfl,_⟩:=h;rfl
 obtain⟨a,ns,pl,rfl,hS,hlen,h0,h1,q⟩:=h
 have hu:=hr.units
 refine⟨_,(ak (cU (i:=2) d8.nd rfl rfl rfl (cF (sc:=av ir) (N:=KC) (vs:=["_law_cell"]) (fs:=[]) (js:=[]) (by z_go) rfl rfl) (aZ (cP eW (pv 0) eY (dD ay))) (fun _ _ _ _=>aC (i:=0) (show(["_law_cell"]:List Str).Nodup by z_go) rfl (Or.inl rfl)) (fun _ _ _ _=>fL) (fun _ _ _ _=>(a_ BI rfl T.abs JF (aa (pv 0) aj ai))))
   (ak (jt (cJ (aT (nH hu) (pv 2) (b7 aj) (aX _)) (az (aH (i:=2) d8.nd rfl (Or.inl rfl) (b7 (aa ay aj aB)))) bA))
   (ak (aH (i:=3) d8.nd rfl (Or.inl rfl) (aO dM (pv 1) (a_ bz rfl T.len cV (aa (pv 2) aj ai))))
   (ak (aH (i:=4) d8.nd rfl (Or.inl rfl) ay)
   (ak (jt (cJ (PW.pt (kU (aT Dw (bg bI (pv 2) (pv 3) (fun _ _=>rfl)) (gZ (c:=1000000000000000000) (by z_go) ⟨by decide,by decide,by decide⟩) (aX _)) (jg (aT qf (pv 1) (a_ bz rfl T.len cV (aa (pv 2) aj ai)) (aX _))))) (az (aH (i:=4) d8.nd rfl (Or.inl rfl) (bg bI (pv 2) (pv 3) (fun _ _=>rfl)))) bA))
   (az (aP (b7 (aa (pv 4) (aa (aO bN ay (aO fO ay (pv 1))) (aa (aO jx (cP eW (pv 2) (dD (pv 3)) eY) (cP eW (pv 2) eY (dD (pv 3)))) aj bK) bK) ai))))))))),?_⟩
 rw[vJ]
 x_go
 refine gp hS fun p1 n1=>?_
 have hcut:iE (ns.map V.int) none (some 63)=ns.map V.int:=by
  have:=Ei (ms:=ns) (k:=63)
  rw[V8 hlen]at this
  exact this
 rw[hcut]
 have s1:=aG n1 (.lst (ns.map V.int))
 have hp1:(upd H p1 (.lst (ns.map V.int))) p1=some (.lst (ns.map V.int)):=aq
 generalize upd H p1 (.lst (ns.map V.int))=H1 at s1 hp1 ⊢
 refine⟨p1,rfl,⟨_,aU.of hp1⟩,fun D nD=>?_⟩
 have nD0:H D=none:=s1.free nD
 have npD:p1≠D:=au hp1 nD
 refine aY (xs:=ns.map V.int) (fun i σ' ys H'=>(∃x,σ'=[x])/\(∃ms:List Int,ys=ms.map V.int/\ms.length=i)/\aD H H'/\H' p1=some (.lst (ns.map V.int))/\H' D=some (.lst ys)) D ?_ (fun i σ' ys H' _ h=>aU.of h.2.2.2.1) ?_ ?_
 ·exact⟨⟨_,rfl⟩,⟨[],rfl,rfl⟩,s1.trans (aG nD _),by rw[ao npD];exact hp1,aq⟩
 ·rintro i x σ' ys H' hx ⟨⟨y,rfl⟩,⟨ms,rfl,hms⟩,g1,g2,g3⟩
  have hil:i <(ns.map V.int).length:=(Vj.mp hx).1
  rw[Vi]at hil
  obtain⟨z,rfl⟩ : ∃z,x=V.int z:=by
   rw[Vp]at hx
   cases e:ns[i]? with
   | none=>rw[e]at hx;cases hx
   | some z=>rw[e]at hx;exact⟨z,(VC hx).symm⟩
  x_go
  refine⟨g3,by rw[Vi];exact aR (by omega),⟨_,rfl⟩,⟨ms ++ [_],(by rw[Vo];rfl),by rw[Vm,hms];rfl⟩,fun b o e=>?_,?_,aq⟩
  ·rw[ao (au e nD0)];exact g1 _ _ e
  ·rw[ao npD];exact g2
 ·rintro σ' ys H' ⟨⟨y,rfl⟩,⟨ms,rfl,hms⟩,g1,g2,g3⟩
  x_go
  refine⟨fun σ H2=>∃C ms,σ=[some (.ref a),some (.int pl),some (.ref C),none,none]/\ms ≠ []/\ms.length<=63/\H2 C=some (.lst (List.map V.int ms))/\aD H H2,?_,?_⟩
  ·x_go
   refine⟨by decide,fun p2 n2=>?_⟩
   refine⟨.list (ms.map PyData.int),.list [],DV.lst (aU.of (by rw[ao (au g3 n2)];exact g3)) (rX.ints ms),DV.lst (aU.of aq) .nil,shaped_ints ms,rfl,?_⟩
   have e:PyData.eqv (.list (ms.map PyData.int)) (.list [])=decide (ms=[]):=by
    have:=wj ms []
    rw[<- this,PyData.eqv];rfl
   rw[e]
   have s2:=g1.trans (aG n2 (.lst []))
   have g32:(upd H' p2 (.lst [])) D=some (.lst (ms.map V.int)):=by rw[ao (au g3 n2)];exact g3
   generalize upd H' p2 (.lst [])=H2 at s2 g32 ⊢
   x_go
   refine b_ (fun h=>?_) (fun h=>?_)
   ·x_go
    refine⟨by decide,fun p3 n3=>?_⟩
    x_go
    exact⟨p3,[0],rfl,by simp,by simp,aq,s2.trans (aG n3 _)⟩
   ·x_go
    exact⟨D,ms,rfl,h,by rw[hms,Vi];exact hlen,g32,s2⟩
  ·rintro σ H2 ⟨C,ms,rfl,hne,hml,hC,s2⟩
   have hnl:=len_pos hne
   obtain⟨v,hv⟩:=HV hne pl
   x_go
   refine⟨fun σ H3=>H3=H2/\∃d,σ=[some (.ref a),some (.int pl),some (.ref C),some (.int (pl%((ms.map V.int).length:Int))),some (.int d)],?_,?_⟩
   ·x_go
    refine cG (aU.of hC) hv ?_
    x_go
    refine b_ (fun h=>?_) (fun h=>?_)
    ·x_go
     refine b_ (fun h=>?_) (fun h=>?_)
     ·x_go
      refine cG (aU.of hC) hv ?_
      x_go
      exact⟨rfl,_,rfl⟩
     ·x_go
      exact⟨rfl,_,rfl⟩
    ·x_go
     exact⟨rfl,_,rfl⟩
   ·rintro σ H3 ⟨rfl,d,rfl⟩
    obtain⟨k,hk,hk2⟩ : ∃k:Nat,pl%((ms.map V.int).length:Int) =(k:Int)/\k<ms.length:=by
     have z0:=WA pl (show((ms.map V.int).length:Int)≠0 by omega)
     have z1:=Wm pl hnl
     rw[Vi]at z0 z1 ⊢
     exact⟨(pl%(ms.length:Int)).toNat,by omega,by omega⟩
    rw[hk]
    x_go
    refine gp (aU.of hC) fun p4 n4=>?_
    x_go
    have hC4:(upd H3 p4 (.lst (iE (ms.map V.int) (some (k:Int)) none))) C=some (.lst (ms.map V.int)):=by rw[ao (au hC n4)];exact hC
    refine gp (aU.of hC4) fun p5 n5=>?_
    rw[Co,Ei]
    rw[Co]at hC4 n5
    have s4:=s2.trans (aG n4 (.lst ((ms.drop k).map V.int)))
    have hp4:(upd H3 p4 (.lst ((ms.drop k).map V.int))) p4=some (.lst ((ms.drop k).map V.int)):=aq
    generalize upd H3 p4 (.lst ((ms.drop k).map V.int))=H4 at s4 hp4 hC4 n5 ⊢
    have s5:=s4.trans (aG n5 (.lst ((ms.take k).map V.int)))
    have hp5:(upd H4 p5 (.lst ((ms.take k).map V.int))) p5=some (.lst ((ms.take k).map V.int)):=aq
    have hp45:(upd H4 p5 (.lst ((ms.take k).map V.int))) p4=some (.lst ((ms.drop k).map V.int)):=by rw[ao (au hp4 n5)];exact hp4
    generalize upd H4 p5 (.lst ((ms.take k).map V.int))=H5 at s5 hp5 hp45 ⊢
    refine⟨p4,p5,_,_,rfl,rfl,hp45,hp5,(by rw[Vi,Vi,Wj,Vw];exact WX (aR (by omega))),fun p6 n6=>?_⟩
    x_go
    refine⟨zs3,fun p7 n7=>?_⟩
    have s6:=s5.trans (aG n6 (.lst ((ms.drop k).map V.int++(ms.take k).map V.int)))
    refine q p7 _ (s6.free n7) (s6.trans (aG n7 _)) ⟨p6,d,1+1009*pl,ms.drop k++ms.take k,aq,?_,by omega,by omega,?_⟩
    ·rw[ao (au aq n7),aq,Vo]
    ·intro e
     have:=Wf List.length e
     rw[Vm,Wj]at this
     simp at this
     omega
theorem vo {f:Addr}{fd:FuncData}(F:eO K "_law_draw" "_law_draw" jJ f fd) (mF:mg "_law_draw" = some (.ref f)) (bF:Binds K fd JS []) (T:Bl mg)  : HY P w K mg base:=by
 refine bw.of F mF bF dY (fun vs H Q E h=>?_) (fun _ A _ _ H vs Q E hr h=>?_)
 ·obtain⟨p,N,n,rfl,_⟩:=h;rfl
 obtain⟨p,N,n,rfl,hh,hN,hn,hn2,q⟩:=h
 obtain⟨l,d,c,ns,hp,hl,hc0,hcN,hns⟩:=hh.ex
 have npl:l≠p:=F4 hp hl
 have hnl:=len_pos hns
 refine⟨_,(ak (cJ (aT wJ (bg bI (pv 0) ay (fun _ _=>rfl)) ay (aX _)) (ak (aH (i:=2) dY.nd rfl (Or.inl rfl) (aO dM (bg bI (pv 0) ay (fun _ _=>rfl)) (pv 1)))
   (ak (fh (aO jD (bg bI (pv 0) ay (fun _ _=>rfl)) (pv 1)) (yS (pv 0) ay set_list))
   (az (aP (pv 2))))) bA)
   (ak (Fo (pv 0) ay DH ay Ci set_list)
   (ak (aH (i:=3) dY.nd rfl (Or.inl rfl) (bg bI (pv 0) ay (fun _ _=>rfl)))
   (ak (aH (i:=4) dY.nd rfl (Or.inl rfl) (aO dM (aO bN (aO dM (bg bI (bg bI (pv 0) ay (fun _ _=>rfl)) (aO dM (pv 3) (a_ bz rfl T.len cV (aa (bg bI (pv 0) ay (fun _ _=>rfl)) aj aQ))) (fun _ _=>rfl)) ay) (aO fO ay (pv 3))) ay))
   (ak (aH (i:=4) dY.nd rfl (Or.inl rfl) (aO dM (aO bN (aO bN (aO yC (pv 4) ay) (aO fO (aO fO ay (pv 3)) (pv 3))) ay) ay))
   (ak (aH (i:=4) dY.nd rfl (Or.inl rfl) (aO dM (aO bN (aO fO (aO yC (pv 4) ay) (aO bN (aO fO ay (pv 3)) ay)) ay) ay))
   (az (aP (aO dM (aO jD (aO dM (aO fO (pv 4) ay) ay) ay) (pv 1)))))))))),?_⟩
 rw[uP]
 x_go
 refine b_ (fun h=>?_) (fun h=>?_)
 ·x_go
  refine q _ _ (WA _ (by omega)) (Wm _ hn) ⟨l,d / n,c,ns,aq,?_,hc0,by omega,hns⟩ (Kp.hand hp)
  rw[ao npl];exact hl
 ·x_go
  have hp1:(upd H p (.lst [V.int d,.int (c+1),.ref l])) p=some (.lst [.int d,.int (c+1),.ref l]):=aq
  have hl1:(upd H p (.lst [V.int d,.int (c+1),.ref l])) l=some (.lst (ns.map V.int)):=by rw[ao npl];exact hl
  have k1:Kp H (upd H p (.lst [V.int d,.int (c+1),.ref l])) p:=Kp.hand hp
  generalize upd H p (.lst [V.int d,.int (c+1),.ref l])=H1 at hp1 hl1 k1 ⊢
  x_go
  obtain⟨v,hv⟩:=HV hns (c+1)
  refine cG (aU.of hl1) hv ?_
  x_go
  have hn0:n≠0:=by omega
  exact q _ _ (WA _ hn0) (Wm _ hn) ⟨l,d,c+1,ns,hp1,hl1,by omega,by omega,hns⟩ k1
theorem wC {f:Addr}{fd:FuncData}(F:eO K "_law_far" "_law_far" lJ f fd) (mF:mg "_law_far" = some (.ref f)) (bF:Binds K fd JS []) (T:Bl mg) (aJ:HY P w K mg base):bw P w K mg base "_law_far" JS 2 (nU K):=by
 refine bw.of F mF bF iy (fun vs H Q E h=>?_) (fun _ A _ _ H vs Q E hr h=>?_)
 ·obtain⟨p,N,n,rfl,_⟩:=h;rfl
 obtain⟨p,N,n,rfl,hh,hN,hn,hn2,q⟩:=h
 obtain⟨l,d,c,ns,hp,hl,hc0,hcN,hns⟩:=hh.ex
 refine⟨_,(ak (cJ (aT wJ (bg bI (pv 0) ay (fun _ _=>rfl)) ay (aX _)) (az (aP (bQ aJ hr.mo (aa (pv 0) (aa (pv 1) aj ai) ai)))) bA)
   (ak (aH (i:=2) iy.nd rfl (Or.inl rfl) ay)
   (ak (eL V2 rfl (fB rfl T.range (aa ay aj aB)) (aC (i:=3) iy.nd rfl (Or.inl rfl)) (az (aH (i:=2) iy.nd rfl (Or.inl rfl) (aO bN (aO fO (pv 2) (gZ (c:=1000000) (by z_go) ⟨by decide,by decide,by decide⟩)) (bQ aJ hr.mo (aa (pv 0) (aa (gZ (c:=1000000) (by z_go) ⟨by decide,by decide,by decide⟩) aj bK) ai))))))
   (az (aP (aO dM (pv 2) (pv 1))))))),?_⟩
 rw[w4]
 x_go
 refine b_ (fun h=>?_) (fun h=>?_)
 ·x_go
  exact⟨p,N,n,rfl,hh,by omega,hn,hn2,fun r H' h0 h1 h2 h3=>q r H' h0 h1 (h2.mono (by omega)) h3⟩
 ·x_go
  refine⟨7,rfl,by omega,by omega,?_⟩
  refine iZ (n:=7) (fun i σ H'=>(∃v x,σ=[some (.ref p),some (.int n),some (.int v),x])/\Hand H' p (N+i)/\Kp H H' p/\i<=7) ⟨⟨_,_,rfl⟩,hh,Kp.refl _ _,by omega⟩ ?_ ?_
  ·rintro i σ H' hi ⟨⟨v,x,rfl⟩,h1,h2,h3⟩
   x_go
   exact⟨p,N+i,_,rfl,h1,by omega,by decide,by decide,fun r H2 h0 h4 h5 h6=>by
    x_go
    exact⟨⟨_,_,rfl⟩,h5,h2.trans h6,by omega⟩⟩
  ·rintro σ H' ⟨⟨v,x,rfl⟩,h1,h2,h3⟩
   x_go
   exact q _ _ (WA _ (by omega)) (Wm _ hn) h1 h2
theorem rR {f:Addr}{fd:FuncData}(F:eO K "_law_power" "_law_power" i0 f fd) (mF:mg "_law_power" = some (.ref f)) (bF:Binds K fd ["_law_many"] []) (T:Bl mg)  : bw P w K mg base "_law_power" ["_law_many"] 1 (kQ K):=by
 refine bw.of F mF bF f6 (fun vs H Q E h=>?_) (fun _ A _ _ H vs Q E hr h=>?_)
 ·obtain⟨m,rfl,_⟩:=h;rfl
 obtain⟨m,rfl,hm,q⟩:=h
 refine⟨_,(ak (aH (i:=1) f6.nd rfl (Or.inl rfl) ay)
   (ak (eL V2 rfl (fB rfl T.range (aa (pv 0) aj ai)) (aC (i:=2) f6.nd rfl (Or.inl rfl)) (az (aH (i:=1) f6.nd rfl (Or.inl rfl) (aO fO (pv 1) ay))))
   (az (aP (pv 1))))),?_⟩
 rw[rN]
 x_go
 refine⟨(m:Int),rfl,by omega,by omega,?_⟩
 rw[show((m:Int)).toNat=m from by omega]
 refine iZ (n:=m) (fun i σ H'=>(∃x,σ=[some (.int m),some (.int (2^i)),x])/\H'=H) ⟨⟨_,rfl⟩,rfl⟩ ?_ ?_
 ·rintro i σ H' hi ⟨⟨x,rfl⟩,rfl⟩
  x_go
  exact⟨⟨_,by rw[Xr]⟩,rfl⟩
 ·rintro σ H' ⟨⟨x,rfl⟩,rfl⟩
  x_go
  exact q
theorem wL {f:Addr}{fd:FuncData}(F:eO K "_law_key" "_law_key" kR f fd) (mF:mg "_law_key" = some (.ref f)) (bF:Binds K fd wG []) (T:Bl mg) (aJ:HY P w K mg base) (iY:bw P w K mg base "_law_far" JS 2 (nU K)) (jd:bw P w K mg base "_law_power" ["_law_many"] 1 (kQ K)):Iz P w K mg base:=by
 refine bw.of F mF bF jV (fun vs H Q E h=>?_) (fun _ A _ _ H vs Q E hr h=>?_)
 ·obtain⟨p,N,rfl,_⟩:=h;rfl
 obtain⟨p,N,rfl,hh,hN,q⟩:=h
 refine⟨_,(ak (aH (i:=1) jV.nd rfl (Or.inl rfl) (bQ aJ hr.mo (aa (pv 0) (aa ay aj aB) ai)))
   (ak (aH (i:=2) jV.nd rfl (Or.inl rfl) (bQ aJ hr.mo (aa (pv 0) (aa (bg bI (b7 (aa ay (aa ay (aa ay aj aB) aB) aB)) (bQ aJ hr.mo (aa (pv 0) (aa ay aj aB) ai)) (fun _ _=>rfl)) aj aQ) ai)))
   (ak (cJ (aT qf (pv 1) ay (aX _)) (az (aP (pv 2))) bA)
   (ak (cJ (aT fF (pv 1) ay (aX _)) (az (aP (aO jQ (aO jQ (gZ (c:=1152921504606846976) (by z_go) ⟨by decide,by decide,by decide⟩) ay) (pv 2)))) bA)
   (ak (cJ (aT fF (pv 1) ay (aX _)) (az (aP (aO bN (pv 2) (bQ jd hr.mo (aa (aO bN ay (bQ aJ hr.mo (aa (pv 0) (aa ay aj aB) ai))) aj bK))))) bA)
   (ak (cJ (aT fF (pv 1) ay (aX _)) (az (aP (aO bN (aO dM (pv 2) ay) (aO fO ay (bQ iY hr.mo (aa (pv 0) (aa (gZ (c:=72057594037927936) (by z_go) ⟨by decide,by decide,by decide⟩) aj bK) ai)))))) bA)
   (az (aP (bQ iY hr.mo (aa (pv 0) (aa (gZ (c:=1152921504606846976) (by z_go) ⟨by decide,by decide,by decide⟩) aj bK) ai)))))))))),?_⟩
 rw[wA]
 x_go
 refine⟨p,N,7,rfl,hh,by omega,by decide,by decide,fun way H1 w0 w1 hh1 k1=>?_⟩
 x_go
 refine⟨zs3,fun l nl=>?_⟩
 x_go
 have k2:=k1.trans (Kp.of (aG nl (.lst [V.int 4,V.int 16,V.int 200])) hh1)
 have hh2:=hh1.same (aG nl (.lst [V.int 4,V.int 16,V.int 200]))
 have hl:(upd H1 l (.lst [V.int 4,V.int 16,V.int 200])) l=some (.lst [V.int 4,V.int 16,V.int 200]):=aq
 have nlp:l≠p:=by
  obtain⟨l1,d,c,ns,h1,_⟩:=hh1.ex
  exact(au h1 nl).symm
 generalize upd H1 l (.lst [V.int 4,V.int 16,V.int 200])=H2 at k2 hh2 hl ⊢
 refine⟨p,N+1,3,rfl,hh2,by omega,by decide,by decide,fun r H3 r0 r1 hh3 k3=>?_⟩
 have hl3:=k3.1 _ _ hl nlp
 obtain⟨b,hb,b0,b1⟩ : ∃b:Int,rg [V.int 4,V.int 16,V.int 200] r=some (.int b)/\0<b/\b<=200:=by
  have:r=0\/r=1\/r=2:=by omega
  rcases this with rfl|rfl|rfl
  ·exact⟨4,rfl,by decide,by decide⟩
  ·exact⟨16,rfl,by decide,by decide⟩
  ·exact⟨200,rfl,by decide,by decide⟩
 refine cG (aU.of hl3) hb ?_
 x_go
 refine⟨p,N+1+1,b,rfl,hh3,by omega,b0,by omega,fun low H4 l0 l1 hh4 k4=>?_⟩
 have k5:=(k2.trans k3).trans k4
 x_go
 refine b_ (fun c1=>?_) (fun c1=>?_)
 ·x_go
  exact q _ _ l0 (by omega) (hh4.mono (by omega)) k5
 x_go
 refine b_ (fun c2=>?_) (fun c2=>?_)
 ·x_go
  exact q _ _ (by omega) (by omega) (hh4.mono (by omega)) k5
 x_go
 refine b_ (fun c3=>?_) (fun c3=>?_)
 ·x_go
  refine⟨p,N+1+1+1,52,rfl,hh4,by omega,by decide,by decide,fun e H5 e0 e1 hh5 k6=>?_⟩
  x_go
  obtain⟨m,rfl⟩ : ∃m:Nat,e =(m:Int):=⟨e.toNat,by omega⟩
  refine⟨8+m,(by show [V.int (8+(m:Int))]=[V.int ((8+m:Nat):Int)];rw[show(8+(m:Int)) =((8+m:Nat):Int) by omega]),by omega,?_⟩
  x_go
  have h1:(2:Int)^(8+m)<=2^59:=mw (by omega)
  have h2:(0:Int)<2^(8+m):=Int.pow_pos (by decide)
  have h3:(2:Int)^59=576460752303423488:=by decide
  exact q _ _ (by omega) (by omega) (hh5.mono (by omega)) (k5.trans k6)
 x_go
 refine b_ (fun c4=>?_) (fun c4=>?_)
 ·x_go
  refine⟨p,N+1+1+1,_,rfl,hh4,by omega,by decide,by decide,fun e H5 e0 e1 hh5 k6=>?_⟩
  x_go
  exact q _ _ (by omega) (by omega) (hh5.mono (by omega)) (k5.trans k6)
 ·x_go
  exact⟨p,N+1+1+1,_,rfl,hh4,by omega,by decide,by decide,fun e H5 e0 e1 hh5 k6=>q _ _ e0 e1 (hh5.mono (by omega)) (k5.trans k6)⟩
theorem r9 {f:Addr} {fd:FuncData} (F:eO K "_law_thing" "_law_thing" gC f fd) (mF:mg "_law_thing" = some (.ref f)) (bF:Binds K fd wG []) (T:Bl mg) (aJ:HY P w K mg base) : JA P w K mg base:=by
  refine bw.of F mF bF kN (fun vs H Q E h=>?_) (fun _ A _ _ H vs Q E hr h=>?_)
  · obtain ⟨p,N,rfl,_⟩:=h; rfl
  obtain ⟨p,N,rfl,hh,hN,q⟩:=h
  refine ⟨_,(ak (aH (i:=1) kN.nd rfl (Or.inr rfl) bM)
      (az (aP (gh PySem.F.plainAttrs_str PySem.F.slot_str_join PySem.F.type_str_join E3 bM (aa (cN rfl (cF (sc:=av gC) (N:=JT) (vs:=["_law_k"]) (fs:=["_law_letters", "_law_hand"]) (js:=[1,0]) (by z_go) rfl rfl) (fB rfl T.range (aa (aO bN ay (bQ aJ hr.mo (aa (pv 0) (aa ay aj aB) ai))) aj bK)) (fun _ _ _ _=>aC (i:=0) (show (["_law_k", "_law_letters", "_law_hand"] : List Str).Nodup by z_go) rfl (Or.inl rfl)) (fun _ _ _ _=>fL) (fun _ _ _ _=>(bg IA (pv 1) (bQ aJ hr.mo (aa (pv 2) (aa ay aj aB) ai)) (fun _ _=>rfl)))) aj eB))))),?_⟩
  rw [rJ]
  x_go
  refine ⟨rfl,?_⟩
  x_go
  refine ⟨p,_,8,rfl,hh,by omega,by decide,by decide,fun n H1 n0 n1 hh1 k1=>?_⟩
  x_go
  refine ⟨_,rfl,by omega,by omega,fun D nD=>?_⟩
  refine gQ (n:=(1 + n).toNat) (fun j σ' ys H'=>(∃ x,σ' = [x,some (.str (Str.ofString "abcdefghijklmnopqrstuvwxyz")),some (.ref p)])/\(∃ zs:List Str,ys = zs.map V.str/\zs.length = j/\∀ y ∈ zs,y.length = 1/\∀ c ∈ y.cps,c < 128)/\j <= 8/\CK H1 p D (N + 1 + j) ys H') D ⟨⟨_,rfl⟩,⟨[],rfl,rfl,fun _ h=>(by cases h)⟩,by omega,CK.start hh1 nD⟩ ?_ ?_
  · rintro j σ' ys H2 hj ⟨⟨x,rfl⟩,⟨zs,rfl,zl,zc⟩,j8,ck⟩
    x_go
    refine ⟨p,_,26,rfl,ck.hh,by omega,by decide,by decide,fun v H3 v0 v1 hh3 k3=>?_⟩
    have ck:=ck.draw k3 hh3
    obtain ⟨c,hc,c1⟩:=Nr v0 v1
    refine JU (by z_go) hc ?_
    refine ⟨ck.lat,by rw [Vi]; exact aR (by omega),⟨_,rfl⟩,⟨zs ++ [⟨#[c]⟩],by rw [Vo]; rfl,by rw [Vm,zl]; rfl,fun y hy=>?_⟩,by omega,ck.push⟩
    rcases VH.mp hy with h | h
    · exact zc y h
    · have e:y = ⟨#[c]⟩:=by simpa using h
      subst e
      exact ⟨rfl, fun d hd => by have : d = c := by simpa using hd
                                 omega⟩
  · rintro σ' ys H2 ⟨⟨x,rfl⟩,⟨zs,rfl,zl,zc⟩,j8,ck⟩
    x_go
    refine ⟨_,D,zs,rfl,rfl,aU.of ck.lat,?_,?_⟩
    · rw [wu zs zc,show (Str.ofString "").length = 0 by decide]; omega
    obtain ⟨w1,w2⟩:=wI zs zc
    rw [PJ]
    exact q _ _ (BF w2) (by rw [w1]; omega) (ck.hh.mono (by omega)) (k1.trans ck.kp)
theorem u7 {f:Addr}{fd:FuncData}(F:eO K "_law_room" "_law_room" jC f fd) (mF:mg "_law_room" = some (.ref f)) (bF:Binds K fd Gx []) (T:Bl mg)  : bw P w K mg base "_law_room" Gx 1 (lU K):=by
 refine bw.of F mF bF d_ (fun vs H Q E h=>?_) (fun _ A _ _ H vs Q E hr h=>?_)
 ·obtain⟨k,R,rfl,_⟩:=h;rfl
 obtain⟨k,R,rfl,k0,k1,h1,h2,q⟩:=h
 have hl:=Aw h1 h2
 have gl:=DP h1
 have gt:=G2 h1
 refine⟨_,(ak (aH (i:=2) d_.nd rfl (Or.inl rfl) ay)
   (ak (aH (i:=3) d_.nd rfl (Or.inl rfl) ay)
   (ak (gJ V2 (PW.pt (kU (aT wJ (pv 0) ay (aX _)) (jg (aT qf (pv 3) (pv 1) (aX _))))) (ak (jt (cJ (PW.pt (kU (aT fF (aO dM (pv 0) ay) ay (aX _)) (jg (aT qf (aO bN (pv 2) (pv 3)) (pv 1) (aX _))))) (az (aH (i:=2) d_.nd rfl (Or.inl rfl) (aO bN (pv 2) (pv 3)))) bA))
   (ak (aH (i:=0) d_.nd rfl (Or.inl rfl) (aO jD (pv 0) ay))
   (az (aH (i:=3) d_.nd rfl (Or.inl rfl) (aO fO (pv 3) ay))))))
   (az (aP (pv 2)))))),?_⟩
 rw[vO]
 x_go
 refine⟨fun m σ H'=>H'=H/\((∃j:Nat,σ=[some (.int (k / 2^j)),some (.int R),some (.int (k%2^j)),some (.int (2^j))]/\j<=lg R/\m=lg R+1-j) \/(σ=[some (.int (k / 2^(lg R+1))),some (.int R),some (.int (aE k R)),some (.int (2^(lg R+1)))]/\m=0)),⟨lg R+1,rfl,.inl ⟨0,by simp,by omega,by omega⟩⟩,?_⟩
 rintro m σ H' ⟨rfl,⟨j,rfl,hj,rfl⟩|⟨rfl,rfl⟩⟩
 ·have pj:=gI j
  have pl:=mw hj
  have lo1:=WA k (b:=2^j) (by omega)
  have lo2:=Wm k pj
  x_go
  refine b_ (fun c=>?_) (fun c=>?_)
  ·x_go
   refine b_ (fun c2=>?_) (fun c2=>?_)
   ·refine⟨_,fun σ' H'' h=>h,?_⟩
    have hp:=tO (k:=k) (j:=j)
    have hpl:=tO (k:=k) (j:=lg R)
    have ep:(2:Int)^(j+1)=2^j*2:=Xr 2 j
    have small:j<lg R->(2:Int)^(j+1)<=2^lg R:=fun h=>mw h
    have fin:∀v:Int,v =(if j=lg R then aE k R else k%2^(j+1))->∃m',m'<lg R+1-j/\(H'=H'/\((∃j':Nat,[some (V.int (k / 2^j / 2)),some (V.int R),some (V.int v),some (V.int (2^j*2))]=[some (.int (k / 2^j')),some (.int R),some (.int (k%2^j')),some (.int (2^j'))]/\j'<=lg R/\m'=lg R+1-j') \/([some (V.int (k / 2^j / 2)),some (V.int R),some (V.int v),some (V.int (2^j*2))]=[some (.int (k / 2^(lg R+1))),some (.int R),some (.int (aE k R)),some (.int (2^(lg R+1)))]/\m'=0))):=fun v hv=>by
     have ed:k / 2^j / 2=k / 2^(j+1):=by rw[ep];exact Int.ediv_ediv_of_nonneg (show(0:Int)<=2^j by omega)
     rw[ed,<- ep,hv]
     by_cases z:j=lg R
     ·rw[VB z]
      exact⟨0,by omega,rfl,.inr ⟨by rw[z],rfl⟩⟩
     ·rw[VF z]
      exact⟨lg R+1-(j+1),by omega,rfl,.inl ⟨j+1,rfl,by omega,rfl⟩⟩
    x_go
    refine⟨fun σ' H''=>H''=H'/\σ'=[some (.int (k / 2^j)),some (.int R),some (.int (if j=lg R then aE k R else k%2^(j+1))),some (.int (2^j))],?_,?_⟩
    ·x_go
     refine b_ (fun b1=>?_) (fun b1=>?_)
     ·rw[b1,Int.mul_one]at hp
      x_go
      refine b_ (fun b2=>?_) (fun b2=>?_)
      ·x_go
       refine⟨rfl,?_⟩
       have ev:k%2^j+2^j =(if j=lg R then aE k R else k%2^(j+1)):=by
        split
        ·rename_i z
         unfold aE
         rw[VF (by rw[<- z];omega),<- z,hp]
        ·exact hp.symm
       rw[ev]
      ·x_go
       refine⟨rfl,?_⟩
       have z:j=lg R:=by
        by_cases z:j=lg R
        ·exact z
        ·have:=small (by omega)
         omega
       have ev:k%2^j =(if j=lg R then aE k R else k%2^(j+1)):=by
        rw[VB z]
        unfold aE
        rw[VB (by rw[<- z];omega),<- z]
       rw[<- ev]
     ·have b0:k / 2^j%2=0:=by omega
      rw[b0,Int.mul_zero,Int.add_zero]at hp
      x_go
      refine⟨rfl,?_⟩
      have ev:k%2^j =(if j=lg R then aE k R else k%2^(j+1)):=by
       split
       ·rename_i z
        unfold aE
        split
        ·rw[z]
        ·rw[<- z,hp]
       ·exact hp.symm
      rw[<- ev]
    ·rintro σ' H'' ⟨rfl,rfl⟩
     x_go
     exact fin _ rfl
   ·x_go
    have z:j=lg R:=by
     by_cases z:j=lg R
     ·exact z
     ·have m:=mw (show j+1<=lg R by omega)
      rw[Xr]at m
      omega
    unfold aE at q
    rw[VB (by rw[<- z];omega),<- z]at q
    exact q
  ·x_go
   have e1:=zH (i:=j) (j:=j) k0 (by omega) (Vt _)
   have e2:=zH (i:=lg R) (j:=j) k0 (by omega) hj
   have e3:=zH (i:=lg R+1) (j:=j) k0 (by omega) (by omega)
   unfold aE at q
   rw[e2,e3]at q
   rw[e1]
   split at q <;> exact q
 ·x_go
  refine b_ (fun c=>?_) (fun c=>?_)
  ·x_go
   refine b_ (fun c2=>absurd c2 (by omega)) (fun c2=>?_)
   x_go
   exact q
  ·x_go
   exact q
theorem xY {f:Addr}{fd:FuncData}(F:eO K "_law_cut" "_law_cut" lN f fd) (mF:mg "_law_cut" = some (.ref f)) (bF:Binds K fd Fi []) (T:Bl mg)  : bw P w K mg base "_law_cut" Fi 1 (nN K):=by
 refine bw.of F mF bF iw (fun vs H Q E h=>?_) (fun _ A _ _ H vs Q E hr h=>?_)
 ·obtain⟨w,a,ts,es,rfl,_⟩:=h;rfl
 obtain⟨w,a,ts,es,rfl,ha,el,nd,esl,w1,w2,q⟩:=h
 have tl:=el.1
 have er:=el.row
 refine⟨_,(ak (aH (i:=2) iw.nd rfl (Or.inl rfl) (a_ k_ rfl T.sorted kh (aa (pv 1) aj ai)))
   (ak (aH (i:=3) iw.nd rfl (Or.inl rfl) (b7 (aa (cP eW (pv 2) eY (dD (pv 0))) aj aQ)))
   (ak (gJ V2 (aT wJ (a_ bz rfl T.len cV (aa (pv 2) aj ai)) (pv 0) (aX _)) (ak (aH (i:=2) iw.nd rfl (Or.inl rfl) (cP eW (pv 2) (dD (pv 0)) eY))
   (az (bT (gh VO VP VQ bL (pv 3) (aa (cP eW (pv 2) eY (dD (pv 0))) aj aQ))))))
   (az (aP (pv 3)))))),?_⟩
 rw[ye]
 x_go
 have hNd:(ts.map (kE H)).Nodup:=by rw[<- fU,er];exact nd
 refine⟨a,ts,kE H,rfl,aU.of ha,by omega,fun t ht=>?_,yG hNd,fun us l p1 p2 nl=>?_⟩
 ·obtain⟨t',et,ht',_⟩:=(el.en (.ref t) (Vq.mpr ⟨t,ht,rfl⟩)).pt
  cases et
  exact⟨_,ht'⟩
 generalize hE:upd H l _=H1
 obtain⟨hl,s1⟩:=bf nl hE
 clear hE
 have ul:us.length<=190:=by rw[p1.length_eq];omega
 x_go
 refine gp (aU.of hl) fun r0 nr0=>?_
 rw[iU]
 generalize hE:upd H1 r0 _=H2
 obtain⟨hr0,s2⟩:=bf nr0 hE
 clear hE
 x_go
 refine⟨zs1,fun D nD=>?_⟩
 generalize hE:upd H2 D _=H3
 obtain⟨hD,s3⟩:=bf nD hE
 clear hE
 have s03:=(s1.trans s2).trans s3
 have q':∀(l:Addr) (H':Hp),H l=none->Cv H H' l (dw (us.map V.ref) w)->aD H H'->Q (.ref l) H':=fun l H' n1 n2 n3=>q l us H' n1 p1 (by
  have:(us.map V.ref).map (eD H)=us.map (fun t=>eD H (.ref t)):=by rw[V4];rfl
  unfold aI
  rw[this,VV]
  exact p2) n2 n3
 clear q
 have D0:H D=none:=(s1.trans s2).free nD
 x_go
 refine⟨fun m σ H'=>∃(i:Nat) (b:Addr) (as:List Addr),σ=[some (.int w),some (.ref a),some (.ref b),some (.ref D)]/\aD H H'/\m=us.length-i*w/\H' b=some (.lst ((us.drop (i*w)).map V.ref))/\H' D=some (.lst (as.map V.ref))/\b≠D/\as.length=i+1/\(∀(k:Nat) (c:Addr) (es:List V),as[k]? = some c->(jf (us.map V.ref) w (i+1))[k]? = some es->H' c=some (.lst es))/\as.Nodup/\(∀c∈as,H c=none/\c≠D/\∃o,H' c=some o)/\(i=0\/i*w<us.length),?_,?_⟩
 ·refine⟨_,0,l,[r0],rfl,s03,rfl,by simpa using (s2.trans s3) _ _ hl,hD,?_,rfl,?_,by simp,?_,.inl rfl⟩
  ·intro z;rw[z]at hl;rw[s2 _ _ hl]at nD;cases nD
  ·intro k c es e1 e2
   cases k with
   | zero =>
    cases e1
    unfold jf at e2
    simp at e2
    rw[<- e2,<- Xd]
    exact s3 _ _ hr0
   | succ k=>simp at e1
  ·intro c hc
   rw[VM.mp hc]
   exact⟨s1.free nr0,(fun z=>by rw[z]at hr0;rw[hr0]at nD;cases nD),_,s3 _ _ hr0⟩
 ·rintro m σ H' ⟨i,b,as,rfl,s4,rfl,hb,hD4,bD,al,hrow,hnd,hnew,hi⟩
  have dl:((us.drop (i*w)).map V.ref).length=us.length-i*w:=by rw[Vi,Wj]
  have mulw:(i+1)*w=i*w+w:=Nat.succ_mul i w
  have mulw2:(i+2)*w=i*w+w+w:=by rw[Nat.succ_mul (i+1) w,mulw]
  x_go
  rw[dl]
  refine b_ (fun c=>?_) (fun c=>?_)
  ·refine⟨_,fun σ' H'' h=>h,?_⟩
   have c':w<us.length-i*w:=by omega
   x_go
   refine gp (aU.of hb) fun b2 nb2=>?_
   rw[Ba,List.drop_drop]
   generalize hE:upd H' b2 _=H5
   obtain⟨hb2,s5⟩:=bf nb2 hE
   clear hE
   x_go
   refine⟨.inl ⟨rfl,_,aU.of (s5 _ _ hD4)⟩,?_⟩
   x_go
   refine gp (aU.of hb2) fun r nr=>?_
   rw[iU]
   generalize hE:upd H5 r _=H6
   obtain⟨hr6,s6⟩:=bf nr hE
   clear hE
   have hD6:=s6 _ _ (s5 _ _ hD4)
   have ib:i<190:=by
    have:i*1<=i*w:=Nat.mul_le_mul_left _ w1
    omega
   x_go
   refine⟨D,_,_,rfl,rfl,hD6,by rw[Vi];exact aR (by omega),?_⟩
   have rD:r≠D:=fun z=>by rw[z]at nr;rw[s5 _ _ hD4]at nr;cases nr
   have b2D:b2≠D:=fun z=>by rw[z,hD4]at nb2;cases nb2
   have rn:H r=none:=(s4.trans s5).free nr
   x_go
   refine⟨_,?_,i+1,b2,as ++ [r],rfl,fun c o e=>?_,rfl,?_,?_,b2D,by rw[Vm,al];rfl,?_,?_,?_,.inr (by omega)⟩
   ·omega
   ·rw[ao (au e D0)];exact s6 _ _ (s5 _ _ (s4 _ _ e))
   ·rw[ao b2D,mulw];exact s6 _ _ hb2
   ·rw[aq,Vo];rfl
   ·intro k c es e1 e2
    rw[oq]at e2
    by_cases z:k<as.length
    ·rw[Vx z]at e1
     rw[Vx (by rw[dH];omega)]at e2
     rw[ao (hnew c (Vk e1)).2.1];exact s6 _ _ (s5 _ _ (hrow k c es e1 e2))
    ·have kl:=(Vj.mp e1).1
     rw[Vm]at kl
     have hk:k=as.length:=by have:[r].length=1:=rfl;omega
     subst hk
     rw[Vs (Vt _),Xs]at e1
     rw[Vs (by rw[dH];omega),dH,al,Xs]at e2
     have ec:r=c:=VC e1
     have ee:=VC e2
     subst ec
     rw[ao rD,<- ee,hr6,Xd,XQ,mulw]
   ·rw[Wb]
    refine⟨hnd,by simp,fun x hx y hy z=>?_⟩
    rw[VM.mp hy]at z
    obtain⟨o,ho⟩:=(hnew x hx).2.2
    rw[z]at ho;rw[s5 _ _ ho]at nr;cases nr
   ·intro c hc
    rcases VH.mp hc with z|z
    ·obtain⟨g1,g2,o,g3⟩:=hnew c z
     exact⟨g1,g2,o,by rw[ao g2];exact s6 _ _ (s5 _ _ g3)⟩
    ·rw[VM.mp z]
     exact⟨rn,rD,_,by rw[ao rD];exact hr6⟩
  ·x_go
   refine q' D H' D0 ⟨as,hD4,?_,?_,hnd,fun c hc=>⟨(hnew c hc).1,(hnew c hc).2.1⟩⟩ s4
   ·unfold dw
    rw[dH,Vi,Af w1 (i:=i) (by omega) hi,al]
   ·unfold dw
    rw[Vi,Af w1 (i:=i) (by omega) hi]
    exact hrow
theorem rF {f:Addr}{fd:FuncData}(F:eO K "_law_clean" "_law_clean" fP f fd) (mF:mg "_law_clean" = some (.ref f)) (bF:Binds K fd Gd []) (T:Bl mg) (lT:bw P w K mg base "_law_cut" Fi 1 (nN K)) (jE:bw P w K mg base "_law_room" Gx 1 (lU K)):bw P w K mg base "_law_clean" Gd 2 (kO K):=by
 refine bw.of F mF bF iB (fun vs H Q E h=>?_) (fun _ A _ _ H vs Q E hr h=>?_)
 ·obtain⟨w,R,a,ts,es,rfl,_⟩:=h;rfl
 obtain⟨w,R,a,ts,es,rfl,ha,el,nd,esl,w1,w2,r1,r2,q⟩:=h
 have tl:=el.1
 refine⟨_,(ak (cU (i:=3) iB.nd rfl rfl rfl (cF (sc:=av fP) (N:=QE) (vs:=["_law_k"]) (fs:=[]) (js:=[]) (by z_go) rfl rfl) (fB rfl T.range (aa (pv 1) aj ai)) (fun _ _ _ _=>aC (i:=0) (show(["_law_k"]:List Str).Nodup by z_go) rfl (Or.inl rfl)) (fun _ _ _ _=>fL) (fun _ _ _ _=>(b7 aj)))
   (ak (eL V2 rfl (aZ (pv 2)) (aC (i:=4) iB.nd rfl (Or.inl rfl)) (az (bT (gh VO VP VQ bL (bg bI (pv 3) (bQ jE hr.mo (aa (bg cS (pv 4) ay (fun _ _=>rfl)) (aa (pv 1) aj ai) aQ)) (fun _ _=>rfl)) (aa (pv 4) aj ai)))))
   (az (aP (bZ (aa (pv 0) (aa (pv 1) (aa (cN rfl (cF (sc:=av fP) (N:=QE) (vs:=["_law_part"]) (fs:=["_law_wide"]) (js:=[0]) (by z_go) rfl rfl) (aZ (pv 3)) (fun _ _ _ _=>aC (i:=0) (show(["_law_part", "_law_wide"]:List Str).Nodup by z_go) rfl (Or.inl rfl)) (fun _ _ _ _=>fL) (fun _ _ _ _=>(bQ lT hr.mo (aa (pv 1) (aa (pv 0) aj ai) ai)))) aj eB) ai) ai)))))),?_⟩
 rw[rY]
 x_go
 refine⟨R,rfl,by omega,by omega,fun D nD=>?_⟩
 rw[Wx]
 refine gQ (n:=R) (fun i σ' ys H'=>(∃x,σ'=[x])/\aD H H'/\∃as:List Addr,ys=as.map V.ref/\H' D=some (.lst ys)/\as.length=i/\(∀b∈as,H' b=some (.lst []))/\as.Nodup/\∀b∈as,H b=none/\b≠D) D ⟨⟨_,rfl⟩,aG nD _,[],rfl,aq,rfl,fun _ h=>by(cases h),XJ,fun _ h=>by(cases h)⟩ ?_ ?_
 ·rintro i σ' ys H1 hi ⟨⟨x,rfl⟩,s1,as,rfl,hD,al,hL,hn,h4⟩
  x_go
  refine⟨by decide,fun b nb=>?_⟩
  generalize hE:upd H1 b _=H2
  obtain⟨hb,s2⟩:=bf nb hE
  clear hE
  have bD:b≠D:=by intro e;rw[e,hD]at nb;cases nb
  have bas:b∉as:=fun m=>by rw[hL b m]at nb;cases nb
  refine⟨s2 _ _ hD,by rw[Vi,al];exact aR (by omega),⟨_,rfl⟩,fun c o e=>?_,as ++ [b],by rw[Vo];rfl,aq,by rw[Vm,al];rfl,fun c hc=>?_,?_,fun c hc=>?_⟩
  ·rw[ao (au e nD)];exact s2 _ _ (s1 _ _ e)
  ·rcases VH.mp hc with m|m
   ·rw[ao (h4 c m).2];exact s2 _ _ (hL c m)
   ·rw[VM.mp m,ao bD];exact hb
  ·rw[Wb]
   exact⟨hn,by simp,fun x hx y hy e=>by simp at hy;rw[hy]at e;exact bas (e ▸ hx)⟩
  ·rcases VH.mp hc with m|m
   ·exact h4 c m
   ·rw[VM.mp m];exact⟨s1.free nb,bD⟩
 ·rintro σ' ys H1 ⟨⟨x,rfl⟩,s1,as,rfl,hD,al,hL,hn,h4⟩
  x_go
  refine⟨a,rfl,⟨_,aU.of (s1 _ _ ha)⟩,?_⟩
  have aas:∀b∈as,b≠a:=fun b m z=>by have:=(h4 b m).1;rw[z,ha]at this;cases this
  refine dh (xs:=ts.map V.ref) (fun i σ H'=>(∃x,σ=[some (.int w),some (.int R),some (.ref a),some (.ref D),x])/\aD H H'/\H' D=some (.lst (as.map V.ref))/\∀(j:Nat) (b:Addr),as[j]? = some b->H' b=some (.lst (((ts.take i).filter fun t=>decide (aE (kE H t) R =(j:Int))).map V.ref))) ⟨⟨_,rfl⟩,s1,hD,fun j b e=>by simpa using hL b (Vk e)⟩ (fun _ _ _ _ h=>aU.of (h.2.1 _ _ ha)) ?_ ?_
  ·rintro i x σ H3 hx ⟨⟨x1,rfl⟩,s3,hD3,hL3⟩
   obtain⟨t,ht,rfl⟩:=br hx
   have il:=(Vj.mp ht).1
   obtain⟨e,he,het,_,k0,k1,_⟩:=el.get ht
   have hk:kE H t=e.1:=by unfold kE;rw[oz het]
   have rb:=fK (k:=e.1) (R:=R) (by omega)
   obtain⟨j,hj,jl⟩ : ∃j:Nat,aE e.1 R =(j:Int)/\j<R:=⟨(aE e.1 R).toNat,by omega,by omega⟩
   obtain⟨b,hb⟩ : ∃b,as[j]? = some b:=⟨_,Vn (show j<as.length by omega)⟩
   have hm:=Vk hb
   have hbr:=hL3 j b hb
   x_go
   refine Cg (gu.of (s3 _ _ het)) Ey ?_
   x_go
   refine⟨e.1,R,rfl,k0,by omega,by omega,by omega,?_⟩
   rw[hj]
   refine cG (aU.of hD3) (gB hb) ?_
   x_go
   refine⟨.inl ⟨rfl,_,aU.of hbr⟩,?_⟩
   x_go
   refine⟨b,_,_,rfl,rfl,hbr,?_,?_⟩
   ·rw[Vi]
    refine aR (Vv (VL _ _) ?_)
    rw[Vw];omega
   x_go
   refine⟨⟨_,rfl⟩,fun c o e=>?_,?_,fun j' b' e'=>?_⟩
   ·rw[ao (au e (h4 b hm).1)];exact s3 _ _ e
   ·rw[ao (h4 b hm).2.symm];exact hD3
   ·rw[aV ht,WC,WR,hk,hj]
    by_cases z:j=j'
    ·subst z
     have:b=b':=by rw[hb]at e';exact VC e'
     subst this
     rw[aq,VB (VX rfl),Vo];rfl
    ·have:b'≠b:=fun w=>by
      subst w
      exact z ((List.getElem?_inj (Vj.mp hb).1 hn).mp (hb.trans e'.symm))
     rw[ao this,VF (by simp;omega)]
     simpa using hL3 j' b' e'
  ·rintro σ H3 ⟨⟨x1,rfl⟩,s3,hD3,hL3⟩
   rw[Vi,VA]at hL3
   have el3:=el.same s3
   have kk:∀t∈ts,kE H3 t=kE H t:=fun t ht=>by
    unfold kE
    rw[(el.en (.ref t) (Vq.mpr ⟨t,ht,rfl⟩)).eD fun _ _ e=>s3 _ _ e]
   have hL3':∀(j:Nat) (b:Addr),as[j]? = some b->H3 b=some (.lst ((ts.filter fun t=>decide (aE (kE H3 t) R =(j:Int))).map V.ref)):=fun j b e=>by
    rw[hL3 j b e]
    congr 3
    apply XM
    intro t ht
    rw[kk t ht]
   clear hL3 kk
   x_go
   refine⟨D,rfl,⟨_,aU.of hD3⟩,fun D2 nD2=>?_⟩
   refine aY (xs:=as.map V.ref) (fun i σ' ys H'=>(∃x,σ'=[x,some (.int w)])/\aD H3 H'/\H' D2=some (.lst ys)/\∃(ls:List Addr) (uss:List (List Addr)),ys=ls.map V.ref/\ls.length=i/\uss.length=i/\∀(j:Nat) (l:Addr) (us:List Addr),ls[j]? = some l->uss[j]? = some us->us.Perm (ts.filter fun t=>decide (aE (kE H3 t) R =(j:Int)))/\((aI H3 (us.map V.ref)).Pairwise fun a b=>a.1<=b.1)/\q_ (hid D2 H') l (dw (us.map V.ref) w)) D2 ⟨⟨_,rfl⟩,aG nD2 _,aq,[],[],rfl,rfl,rfl,fun j l us e=>by simp at e⟩ (fun i σ' ys H' _ h=>aU.of (h.2.1 _ _ hD3)) ?_ ?_
   ·rintro i x σ' ys H4 hx ⟨⟨x1,rfl⟩,s4,hD2,ls,uss,rfl,ll,ul,hu⟩
    obtain⟨b,hb,rfl⟩:=br hx
    have il:=(Vj.mp hb).1
    have hb4:=s4 _ _ (hL3' i b hb)
    have el4:=el3.same s4
    have enf:∀v∈(ts.filter fun t=>decide (aE (kE H3 t) R =(i:Int))).map V.ref,En H4 v:=fun v hv=>by
     obtain⟨t,ht,rfl⟩:=Vq.mp hv
     exact el4.en _ (Vq.mpr ⟨t,(Wi.mp ht).1,rfl⟩)
    obtain⟨ts',e1,e2⟩:=EL.of enf
    have et:ts'=ts.filter fun t=>decide (aE (kE H3 t) R =(i:Int)):=(List.map_inj_right (fun a b e=>by cases e;rfl)).mp e1.symm
    subst et
    have fl:(ts.filter fun t=>decide (aE (kE H3 t) R =(i:Int))).length<=63:=Vv (VL _ _) (by omega)
    have fn:((aI H4 ((ts.filter fun t=>decide (aE (kE H3 t) R =(i:Int))).map V.ref)).map (·.1)).Nodup:=by
     rw[fU]
     have:(ts.map (kE H4)).Nodup:=by rw[<- fU,el4.row];exact nd
     exact this.sublist (List.filter_sublist.map _)
    x_go
    refine⟨w,b,_,_,rfl,hb4,e2,fn,by rw[<- e2.1];exact fl,w1,w2,fun l us H5 nl p1 p2 rn s5=>?_⟩
    have lD:l≠D2:=fun z=>by rw[z,hD2]at nl;cases nl
    have hid5:q_ (hid D2 H5) l (dw (us.map V.ref) w):=by
     obtain⟨as5,g1,g2,g3,_,g4⟩:=rn
     exact⟨as5,by rw[cH lD];exact g1,g2,fun k c es c1 c2=>by
      have nb:=(g4 c (Vk c1)).1
      rw[cH (fun z=>by rw[z,hD2]at nb;cases nb)]
      exact g3 k c es c1 c2⟩
    have p2':(aI H3 (us.map V.ref)).Pairwise fun a b=>a.1<=b.1:=by
     rw[b6 (fun _ _ e=>s4 _ _ e) (fun v hv=>by
      obtain⟨t,ht,rfl⟩:=Vq.mp hv
      exact el3.en _ (Vq.mpr ⟨t,(Wi.mp (p1.mem_iff.mp ht)).1,rfl⟩))]at p2
     exact p2
    refine⟨s5 _ _ hD2,by rw[Vi];exact aR (by omega),⟨_,rfl⟩,fun c o e=>?_,aq,ls ++ [l],uss ++ [us],by rw[Vo];rfl,by rw[Vm,ll];rfl,by rw[Vm,ul];rfl,?_⟩
    ·rw[ao (au e nD2)];exact s5 _ _ (s4 _ _ e)
    ·rw[iu]
     exact FG (p:=fun j l us=>us.Perm (ts.filter fun t=>decide (aE (kE H3 t) R =(j:Int)))/\((aI H3 (us.map V.ref)).Pairwise fun a b=>a.1<=b.1)/\q_ (hid D2 H5) l (dw (us.map V.ref) w)) ll ul (fun j l us c1 c2=>by
      obtain⟨g1,g2,g3⟩:=hu j l us c1 c2
      exact⟨g1,g2,g3.same (cL s5)⟩) ⟨p1,p2',hid5⟩
   ·rintro σ' ys H4 ⟨⟨x1,rfl⟩,s4,hD2,ls,uss,rfl,ll,ul,hu⟩
    rw[Vi,al]at ll ul
    x_go
    refine⟨zs3,fun t nt=>?_⟩
    generalize hE:upd H4 t _=H5
    obtain⟨ht,s5⟩:=bf nt hE
    clear hE
    have s35:=s4.trans s5
    have kk:∀t∈ts,kE H5 t=kE H3 t:=fun t ht=>by
     unfold kE
     rw[(el3.en (.ref t) (Vq.mpr ⟨t,ht,rfl⟩)).eD fun _ _ e=>s35 _ _ e]
    obtain⟨X,x1,x2,x3,x4⟩:=Cr (H:=H5) (h:=D2) (ls:=ls) (uss:=uss) (el3.same s35) nd esl w1 r1 r2 (s5 _ _ hD2) ll ul fun j l us c1 c2=>by
     obtain⟨g1,g2,g3⟩:=hu j l us c1 c2
     refine⟨?_,?_,(g3.same bP).same s5⟩
     ·rw[show(ts.filter fun t=>decide (aE (kE H5 t) R =(j:Int)))=ts.filter fun t=>decide (aE (kE H3 t) R =(j:Int)) from XM fun t ht=>by rw[kk t ht]]
      exact g1
     ·rw[b6 (fun _ _ e=>s35 _ _ e) (fun v hv=>by
       obtain⟨t,ht,rfl⟩:=Vq.mp hv
       exact el3.en _ (Vq.mpr ⟨t,(Wi.mp (g1.mem_iff.mp ht)).1,rfl⟩))]
      exact g2
    exact q t X H5 ⟨D2,ht,x1,x2,x3⟩ x4 (s3.trans s35)
theorem vK {f:Addr}{fd:FuncData}(F:eO K "_law_copy" "_law_copy" ic f fd) (mF:mg "_law_copy" = some (.ref f)) (bF:Binds K fd oB []) (T:Bl mg)  : Jj P w K mg base:=by
 refine bw.of F mF bF uG (fun vs H Q E h=>?_) (fun _ A _ _ H vs Q E hr h=>?_)
 ·obtain⟨y,w,R,X,rfl,_⟩:=h;rfl
 obtain⟨y,w,R,X,rfl,⟨h0,hy,⟨bs0,hh0,hP0⟩,hen,sz⟩,q⟩:=h
 refine⟨_,(az (aP (bZ (aa (bg cS (pv 0) ay (fun _ _=>rfl)) (aa (bg cS (pv 0) ay (fun _ _=>rfl)) (aa (cN rfl (cF (sc:=av ic) (N:=oB) (vs:=["_law_rows"]) (fs:=[]) (js:=[]) (by z_go) rfl rfl) (aZ (bg cS (pv 0) ay (fun _ _=>rfl))) (fun _ _ _ _=>aC (i:=0) (show(["_law_rows"]:List Str).Nodup by z_go) rfl (Or.inl rfl)) (fun _ _ _ _=>fL) (fun _ _ _ _=>(cN rfl (vL (N:=["_law_rows"]) (vs:=["_law_row"]) (fs:=[]) (js:=[]) rfl rfl (by kernel_rfl)) (iP (K:=K) rfl (pv 0)) (fun _ _ _ _=>aC (i:=0) (show(["_law_row"]:List Str).Nodup by z_go) rfl (Or.inl rfl)) (fun _ _ _ _=>fL) (fun _ _ _ _=>(cR (iF (K:=K) rfl) rfl T.list g_ (aa (pv 0) aj ai)))))) aj eB) aQ) aQ)))),?_⟩
 rw[u5]
 x_go
 refine⟨h0,rfl,⟨_,aU.of hh0⟩,fun D nD=>?_⟩
 refine aY (xs:=bs0.map V.ref) (fun i σ' ys H'=>(∃x,σ'=[x])/\aD H H'/\∃cs:List Addr,ys=cs.map V.ref/\T3 (fun b=>H b=none) H' D cs (X.take i)) D ⟨⟨_,rfl⟩,aG nD _,[],rfl,nD,aq,XJ,(fun z=>by cases z),P1.nil⟩ (fun i σ' ys H' _ h=>aU.of (h.2.1 _ _ hh0)) ?_ ?_
 ·rintro i x σ' ys H1 hx ⟨⟨x1,rfl⟩,s1,cs,rfl,t1⟩
  obtain⟨b,hb,rfl⟩:=br hx
  obtain⟨rows,hxi,_,as,hb1,hA⟩:=hP0.get hb
  have il:=(Vj.mp hb).1
  have bl0:=hP0.1
  have szr:=(sz.2 rows (Vk hxi)).1
  have al:=hA.1
  have hD1:=t1.2.1
  x_go
  refine⟨b,rfl,⟨_,aU.of (s1 _ _ hb1)⟩,fun D' nD'=>?_⟩
  obtain⟨nDD,_⟩:=t1.new nD'
  refine aY (xs:=as.map V.ref) (fun j σ' ys H'=>(∃x,σ'=[x])/\aD H1 H'/\∃cs':List Addr,ys=cs'.map V.ref/\H' D'=some (.lst ys)/\P1 (fun a es=>H1 a=none/\a≠D'/\H' a=some (.lst es)) cs' (rows.take j)) D' ⟨⟨_,rfl⟩,aG nD' _,[],rfl,aq,P1.nil⟩ (fun i σ' ys H' _ h=>aU.of (h.2.1 _ _ (s1 _ _ hb1))) ?_ ?_
  ·rintro j x σ' ys H2 hx ⟨⟨x2,rfl⟩,s2,cs',rfl,hD',hC⟩
   obtain⟨a,ha,rfl⟩:=br hx
   obtain⟨es,hes,_,ha1⟩:=hA.get ha
   have jl:=(Vj.mp ha).1
   have cl:=hC.1
   rw[Vw]at cl
   x_go
   refine tH (aU.of (s2 _ _ (s1 _ _ ha1))) fun e ne=>?_
   generalize hE:upd H2 e _=H3
   obtain⟨he,s3⟩:=bf ne hE
   clear hE
   have eD:e≠D':=fun z=>by rw[z,hD']at ne;cases ne
   refine⟨s3 _ _ hD',by rw[Vi];exact aR (by omega),⟨_,rfl⟩,fun c o e=>by rw[ao (au e nD')];exact s3 _ _ (s2 _ _ e),cs' ++ [e],by rw[Vo];rfl,aq,?_⟩
   rw[aV hes]
   refine(hC.imp fun a es t=>⟨t.1,t.2.1,?_⟩).snoc ⟨s2.free ne,eD,?_⟩
   ·rw[ao eD];exact he
   ·rw[ao t.2.1];exact s3 _ _ t.2.2
  ·rintro σ' ys H2 ⟨⟨x2,rfl⟩,s2,cs',rfl,hD',hC⟩
   rw[Vi,al,VA]at hC
   have hD2:=s2 _ _ hD1
   have cl:=t1.2.2.2.2.1
   rw[Vw]at cl
   x_go
   refine⟨hD2,by rw[Vi];exact aR (by have:=sz.1;omega),⟨_,rfl⟩,fun c o e=>by rw[ao (au e nD)];exact s2 _ _ (s1 _ _ e),cs ++ [D'],by rw[Vo];rfl,?_⟩
   rw[aV hxi]
   refine t1.add (fun b o n e=>by rw[ao n];exact s2 _ _ e) (by rw[aq,Vo];rfl) nD' (s1.free nD') (by rw[ao nDD];exact hD') (hC.imp fun a es t=>⟨s1.free t.1,t.1,t.2.1,?_⟩)
   rw[ao (t1.new t.1).1];exact t.2.2
 rintro σ' ys H1 ⟨⟨x1,rfl⟩,s1,cs,rfl,t1⟩
 rw[Vi,hP0.1,VA]at t1
 x_go
 refine⟨zs3,fun t nt=>?_⟩
 generalize hE:upd H1 t _=H2
 obtain⟨ht,s2⟩:=bf nt hE
 clear hE
 exact q t D cs H2 (s1.free nt) ht (t1.same s2) (s1.trans s2)
theorem jS {f:Addr}{fd:FuncData}(F:eO K "_law_asked_change" "_law_asked_change" eK f fd) (mF:mg "_law_asked_change" = some (.ref f)) (bF:Binds K fd BP []) (T:Bl mg) (nF:bw P w K mg base "putting" Gi 5 (oX K)) (jW:bw P w K mg base "splitting" mQ 5 (mE K)) (m9:bw P w K mg base "joining" mQ 4 (qb K)) (lu:bw P w K mg base "dropping" yp 5 (oh K)):bw P w K mg base "_law_asked_change" BP 6 (gk K):=by
 refine bw.of F mF bF jY (fun vs H Q E h=>?_) (fun _ A _ _ H vs Q E hr h=>?_)
 ·obtain⟨y,w,R,X,es,way,z,k,rfl,_⟩:=h;rfl
 obtain⟨y,w,R,X,es,way,z,k,rfl,hY,b,el,w2,R2,⟨k0,k1⟩,⟨z0,z1⟩,hw,q⟩:=h
 have hen:gm H X:=hY.choose_spec.2.2.1
 have w1:=b.w1
 have R1:=b.R1
 obtain⟨rok,rl,rnd,rs,rm⟩:=D6 (k:=k) b.cl b.nd hen w1 (by omega) R1 (by omega)
 refine⟨_,(ak (cJ (aT fF (pv 1) bM (aX _)) (az (aP (bQ jW hr.mo (aa (pv 0) aj ai)))) bA)
   (ak (cJ (aT fF (pv 1) bM (aX _)) (az (aP (bQ m9 hr.mo (aa (pv 0) aj ai)))) bA)
   (ak (cJ (aT fF (pv 1) bM (aX _)) (az (aP (bQ lu hr.mo (aa (pv 0) (aa (pv 2) aj ai) ai)))) bA)
   (az (aP (bQ nF hr.mo (aa (pv 0) (aa (pv 2) (aa (pv 3) aj ai) ai) ai))))))),?_⟩
 rw[jI]
 rcases hw with rfl|⟨rfl,r2⟩|⟨rfl,hk⟩|rfl|rfl
 ·x_go
  refine⟨rfl,?_⟩
  rw[VX rfl]
  x_go
  have t:=pR R1
  obtain⟨ok,fl,_⟩:=b.rows hen (by omega) (by omega) t.2
  refine⟨y,w,R,X,rfl,hY,b.xl,w1,by omega,R1,by omega,ok,by omega,fun D ss H' nD hD hP fr sm=>?_⟩
  x_go
  exact q D ss _ H' nD hD hP (JV b hen w2 el R2 sm) fr sm
 ·obtain⟨R0,rfl⟩ : ∃n,R=n+1:=⟨R-1,by omega⟩
  x_go
  refine⟨rfl,?_⟩
  rw[show decide (V.str "join" = V.str "split")=false from by z_go]
  x_go
  refine⟨rfl,?_⟩
  rw[VX rfl]
  x_go
  have t:=pR (show 1<=R0 by omega)
  obtain⟨ok,fl,_⟩:=b.rows hen (by omega) (by omega) (i:=tn R0) (by omega)
  obtain⟨ok2,fl2,_⟩:=b.rows hen (by omega) (by omega) (i:=R0) (by omega)
  have ln:∀i,i<R0+1->(bY X i).flatten.length<=24:=fun i hi=>by
   obtain⟨s,p2,p3,mo,p1⟩:=b.own hi
   have e:(aI H (bY X i).flatten).length=s.length:=by rw[dm,p3,cC _ b.w1]
   unfold aI at e
   rw[Vi]at e
   rw[e,p1.length_eq]
   exact Vv (VL _ _) el
  have l1:=ln (tn R0) (by omega)
  have l2:=ln R0 (by omega)
  refine⟨y,w,R0,X,rfl,hY,w1,by omega,by omega,by omega,ok,ok2,by omega,by omega,Ka b hen (by omega) (by omega) (by omega),fun D ss us H' nD hD pu su hP fr sm=>?_⟩
  x_go
  exact q D ss _ H' nD hD hP (Lv b hen w2 el (by omega) (by omega) pu su sm) fr sm
 ·x_go
  refine⟨rfl,?_⟩
  rw[show decide (V.str "drop" = V.str "split")=false from by z_go]
  x_go
  refine⟨rfl,?_⟩
  rw[show decide (V.str "drop" = V.str "join")=false from by z_go]
  x_go
  refine⟨rfl,?_⟩
  rw[VX rfl]
  x_go
  have hk':k∈(aI H (bJ X k R).flatten).map (·.1):=by
   obtain⟨e,he,rfl⟩:=Vq.mp hk
   exact Vq.mpr ⟨e,(rm e).mpr ⟨he,rfl⟩,rfl⟩
  refine⟨y,w,R,X,k,rfl,hY,w1,by omega,R1,by omega,rok,rl,hk',fun D ss H' nD hD hP fr sm=>?_⟩
  x_go
  exact q D ss _ H' nD hD hP (GN b hen w2 el R2 hk sm) fr sm
 ·x_go
  refine⟨rfl,?_⟩
  rw[show decide (V.str "put" = V.str "split")=false from by z_go]
  x_go
  refine⟨rfl,?_⟩
  rw[show decide (V.str "put" = V.str "join")=false from by z_go]
  x_go
  refine⟨rfl,?_⟩
  rw[show decide (V.str "put" = V.str "drop")=false from by z_go]
  x_go
  refine⟨y,w,R,X,k,z,rfl,hY,⟨k0,k1⟩,⟨z0,z1⟩,w1,by omega,R1,by omega,rok,rl,rnd,fun D ss t us H' nD hD ht pu su hP fr sm=>?_⟩
  x_go
  exact q D ss _ H' nD hD hP (CZ (.inl rfl) b hen w2 el R2 sm ht pu su) fr sm
 ·x_go
  refine⟨rfl,?_⟩
  rw[show decide (V.str "lay" = V.str "split")=false from by z_go]
  x_go
  refine⟨rfl,?_⟩
  rw[show decide (V.str "lay" = V.str "join")=false from by z_go]
  x_go
  refine⟨rfl,?_⟩
  rw[show decide (V.str "lay" = V.str "drop")=false from by z_go]
  x_go
  refine⟨y,w,R,X,k,z,rfl,hY,⟨k0,k1⟩,⟨z0,z1⟩,w1,by omega,R1,by omega,rok,rl,rnd,fun D ss t us H' nD hD ht pu su hP fr sm=>?_⟩
  x_go
  exact q D ss _ H' nD hD hP (CZ (.inr rfl) b hen w2 el R2 sm ht pu su) fr sm
theorem uW {f:Addr}{fd:FuncData}(F:eO K "_law_ways" "_law_ways" jM f fd) (mF:mg "_law_ways" = some (.ref f)) (bF:Binds K fd EM []) (T:Bl mg) (aJ:HY P w K mg base):bw P w K mg base "_law_ways" EM 2 (lX K):=by
 refine bw.of F mF bF gD (fun vs H Q E h=>?_) (fun _ A _ _ H vs Q E hr h=>?_)
 ·obtain⟨p,l,N,R,ts,es,rfl,_⟩:=h;rfl
 obtain⟨p,l,N,R,ts,es,rfl,hh,hN,hl,hE,q⟩:=h
 have hu:=hr.units
 refine⟨_,(ak (aH (i:=3) gD.nd rfl (Or.inl rfl) (bg bI (b7 (aa bM (aa bM (aa bM (aa bM (aa bM aj aB) aB) aB) aB) aB)) (bQ aJ hr.mo (aa (pv 0) (aa ay aj aB) ai)) (fun _ _=>rfl)))
   (ak (jt (cJ (PW.pt (kU (aT fF (pv 3) bM (aX _)) (jg (aT fF (pv 1) ay (aX _))))) (az (aH (i:=3) gD.nd rfl (Or.inl rfl) bM)) bA))
   (ak (jt (cJ (PW.pt (kU (aT iQ (pv 3) (bZ (aa bM (aa bM aj aB) aB)) (by with_unfolding_all rfl)) (jg (aT (nH hu) (pv 2) (b7 aj) (aX _))))) (az (aH (i:=3) gD.nd rfl (Or.inl rfl) bM)) bA))
   (az (aP (pv 3)))))),?_⟩
 rw[uN]
 x_go
 refine⟨by decide,fun L nL=>?_⟩
 generalize hEq:upd H L _=H1
 obtain⟨hL,s1⟩:=bf nL hEq
 clear hEq
 have hh1:=hh.same s1
 have nLp:=hh.ne nL
 x_go
 refine⟨p,_,5,rfl,hh1,by omega,by decide,by decide,fun v H2 v0 v1 hh2 k2=>?_⟩
 have hL2:=k2.1 _ _ hL nLp
 have k02:Kp H H2 p:=(Kp.of s1 hh).trans k2
 have nlp:=i7 hh hl
 have kt:=jm hh k02
 have hl2:=k02.1 _ _ hl nlp
 have hE2:=hE.keep kt
 have fin:∀(way:Str) (H3:Hp),Bj way R es->aD H2 H3->Q (.str way) H3:=fun way H3 hw s3=>q way H3 hw (hh2.same s3) (k02.trans (Kp.of s3 hh2))
 obtain⟨way0,hw0,hg⟩ : ∃way0:Str,rg [V.str "split",.str "join",.str "put",.str "drop",.str "lay"] v=some (V.str way0)/\(way0 = "split" \/ way0 = "join" \/ way0 = "put" \/ way0 = "drop" \/ way0 = "lay"):=by
  rcases(show v=0\/v=1\/v=2\/v=3\/v=4 by omega) with rfl|rfl|rfl|rfl|rfl
  ·exact⟨"split",rfl,.inl rfl⟩
  ·exact⟨"join",rfl,.inr (.inl rfl)⟩
  ·exact⟨"put",rfl,.inr (.inr (.inl rfl))⟩
  ·exact⟨"drop",rfl,.inr (.inr (.inr (.inl rfl)))⟩
  ·exact⟨"lay",rfl,.inr (.inr (.inr (.inr rfl)))⟩
 refine cG (aU.of hL2) hw0 ?_
 x_go
 refine⟨fun σ H'=>∃way:Str,σ=[some (.ref p),some (.int R),some (.ref l),some (.str way)]/\H'=H2/\(way = "split" \/(way = "join"/\R≠1)\/way = "put" \/ way = "drop" \/ way = "lay"),?_,?_⟩
 ·rcases hg with rfl|rfl|rfl|rfl|rfl
  ·x_go
   refine⟨rfl,?_⟩
   rw[show decide (V.str "split" = V.str "join")=false from by z_go]
   x_go
   exact⟨_,rfl,rfl,.inl rfl⟩
  ·x_go
   refine⟨rfl,?_⟩
   rw[VX rfl]
   x_go
   refine b_ (fun c=>?_) (fun c=>?_)
   ·x_go
    exact⟨_,rfl,rfl,.inl rfl⟩
   ·x_go
    exact⟨_,rfl,rfl,.inr (.inl ⟨rfl,c⟩)⟩
  ·x_go
   refine⟨rfl,?_⟩
   rw[show decide (V.str "put" = V.str "join")=false from by z_go]
   x_go
   exact⟨_,rfl,rfl,.inr (.inr (.inl rfl))⟩
  ·x_go
   refine⟨rfl,?_⟩
   rw[show decide (V.str "drop" = V.str "join")=false from by z_go]
   x_go
   exact⟨_,rfl,rfl,.inr (.inr (.inr (.inl rfl)))⟩
  ·x_go
   refine⟨rfl,?_⟩
   rw[show decide (V.str "lay" = V.str "join")=false from by z_go]
   x_go
   exact⟨_,rfl,rfl,.inr (.inr (.inr (.inr rfl)))⟩
 ·rintro σ H3 ⟨way,rfl,rfl,hg⟩
  x_go
  refine⟨fun σ H'=>∃way:Str,σ=[some (.ref p),some (.int R),some (.ref l),some (.str way)]/\aD H3 H'/\Bj way R es,?_,?_⟩
  ·x_go
   refine⟨by decide,fun T nT=>?_⟩
   generalize hEq:upd H3 T _=H4
   obtain⟨hT,s4⟩:=bf nT hEq
   clear hEq
   obtain⟨b,hb,hbw⟩ : ∃b,CQ (V.str way) [V.str "drop",V.str "lay"]=b/\(b=false->Bj way R es)/\(b=true->es ≠ []->Bj way R es):=by
    rcases hg with rfl|⟨rfl,c⟩|rfl|rfl|rfl
    ·exact⟨false,by z_go,fun _=>.inl rfl,fun z=>absurd z (by decide)⟩
    ·exact⟨false,by z_go,fun _=>.inr (.inl ⟨rfl,c⟩),fun z=>absurd z (by decide)⟩
    ·exact⟨false,by z_go,fun _=>.inr (.inr (.inr (.inl rfl))),fun z=>absurd z (by decide)⟩
    ·exact⟨true,by z_go,fun z=>absurd z (by decide),fun _ e=>.inr (.inr (.inl ⟨rfl,e⟩))⟩
    ·exact⟨true,by z_go,fun z=>absurd z (by decide),fun _ e=>.inr (.inr (.inr (.inr ⟨rfl,e⟩)))⟩
   refine⟨T,_,rfl,.inr (gu.of hT),rfl,rfl,?_⟩
   have hb2:(if (false:Bool)=true then !CQ (V.str way) [V.str "drop",V.str "lay"] else CQ (V.str way) [V.str "drop",V.str "lay"])=b:=hb
   rw[hb2]
   cases b with
   | false =>
    x_go
    exact⟨way,rfl,s4,hbw.1 rfl⟩
   | true =>
    x_go
    refine⟨by decide,fun d nd=>?_⟩
    generalize hEq:upd H4 d _=H5
    obtain⟨hd,s5⟩:=bf nd hEq
    clear hEq
    have s35:=s4.trans s5
    have g:=Fj (K:=K) (s35 _ _ hl2) (hE2.same s35)
    x_go
    refine⟨_,_,g.1,Le hd,g.shaped (by omega),rfl,?_⟩
    rw[KL]
    by_cases c:es=[]
    ·rw[VX c]
     x_go
     exact⟨_,rfl,s35,.inr (.inr (.inr (.inl rfl)))⟩
    ·rw[VR c]
     x_go
     exact⟨way,rfl,s35,hbw.2 rfl c⟩
  ·rintro σ H4 ⟨way',rfl,s4,hw⟩
   x_go
   exact fin way' H4 hw s4
theorem qt {f:Addr}{fd:FuncData}(F:eO K "_law_key_of" "_law_key_of" f_ f fd) (mF:mg "_law_key_of" = some (.ref f)) (bF:Binds K fd ES []) (T:Bl mg) (fW:Iz P w K mg base) (aJ:HY P w K mg base):bw P w K mg base "_law_key_of" ES 4 (jz K):=by
 refine bw.of F mF bF fM (fun vs H Q E h=>?_) (fun _ A _ _ H vs Q E hr h=>?_)
 ·obtain⟨p,l,N,R,way,ts,es,rfl,_⟩:=h;rfl
 obtain⟨p,l,N,R,way,ts,es,rfl,hh,hN,hw,hl,el,esl,q⟩:=h
 have nlp:l≠p:=i7 hh hl
 refine⟨_,(ak (cU (i:=3) fM.nd rfl rfl rfl (cF (sc:=av f_) (N:=KZ) (vs:=Gf) (fs:=[]) (js:=[]) (by z_go) rfl rfl) (aZ (pv 2)) (fun _ _ _ _=>uM (K:=K) (n:=2) rfl rfl (aN (aC (i:=0) (show(Gf:List Str).Nodup by z_go) rfl (Or.inl rfl)) (aN (aC (i:=1) (show(Gf:List Str).Nodup by z_go) rfl (Or.inl rfl)) cE))) (fun _ _ _ _=>fL) (fun _ _ _ _=>(pv 0)))
   (ak (cJ (aT iQ (pv 1) (bZ (aa bM (aa bM aj aB) aB)) (by with_unfolding_all rfl)) (az (aP (bg bI (pv 3) (aO dM (bQ aJ hr.mo (aa (pv 0) (aa ay aj aB) ai)) (a_ bz rfl T.len cV (aa (pv 3) aj ai))) (fun _ _=>rfl)))) bA)
   (ak (aH (i:=4) fM.nd rfl (Or.inl rfl) (bQ fW hr.mo (aa (pv 0) aj ai)))
   (ak (gJ V2 (aT iQ (pv 4) (pv 3) (by with_unfolding_all rfl)) (az (aH (i:=4) fM.nd rfl (Or.inl rfl) (aO dM (aO bN (pv 4) ay) (gZ (c:=1152921504606846976) (by z_go) ⟨by decide,by decide,by decide⟩)))))
   (az (aP (pv 4))))))),?_⟩
 rw[qX]
 x_go
 refine⟨l,rfl,⟨_,aU.of hl⟩,fun D nD=>?_⟩
 refine aY (xs:=ts.map V.ref) (fun j σ' ys H'=>(∃x x',σ'=[x,x'])/\aD H H'/\ys =((es.take j).map (·.1)).map V.int/\H' D=some (.lst ys)) D ⟨⟨_,_,rfl⟩,aG nD _,rfl,aq⟩ (fun i σ' ys H' _ h=>aU.of (h.2.1 _ _ hl)) ?_ ?_
 ·rintro j x σ' ys H1 hx ⟨⟨z1,z2,rfl⟩,s1,rfl,hD⟩
  obtain⟨tt,htt,rfl⟩:=br hx
  obtain⟨e,he,h1,_⟩:=el.get htt
  have jl:=(Vj.mp he).1
  refine⟨tt,_,rfl,gu.of (s1 _ _ h1),rfl,_,_,rfl,_,_,rfl,rfl,?_⟩
  x_go
  refine⟨hD,?_,⟨_,_,rfl⟩,fun b o e=>by rw[ao (au e nD)];exact s1 _ _ e,?_,aq⟩
  ·rw[Vi,Vi,Vw]
   exact aR (by omega)
  ·rw[aV he,Vo,Vo];rfl
 rintro σ' ys H1 ⟨⟨z1,z2,rfl⟩,s1,rfl,hD⟩
 rw[Vi,el.1,VA]at hD
 have kb:∀k∈es.map (·.1),0<=k/\k<1152921504606846976:=fun k hk=>by
  obtain⟨e,he,rfl⟩:=Vq.mp hk
  exact((el.okE e he).2.1)
 have kl:(es.map (·.1)).length<=63:=by rw[Vi];exact esl
 have ke:es ≠ []->0 <(es.map (·.1)).length:=fun z=>by rw[Vi];exact Xw.mpr z
 generalize es.map (·.1)=kk at hD kb kl q ke
 have hh1:=hh.same s1
 have nDp:D≠p:=hh.ne nD
 have k01:Kp H H1 p:=Kp.of s1 hh
 x_go
 refine⟨by decide,fun T nT=>?_⟩
 generalize hEq:upd H1 T _=H2
 obtain⟨hT,s2⟩:=bf nT hEq
 clear hEq
 have hh2:=hh1.same s2
 have hD2:=s2 _ _ hD
 have k02:Kp H H2 p:=k01.trans (Kp.of s2 hh1)
 obtain⟨b,hb,hbt,hbf⟩ : ∃b,CQ (V.str way) [V.str "drop",V.str "lay"]=b/\(b=true->es ≠ [])/\(b=false->way ≠ "drop"):=by
  rcases hw with rfl|⟨rfl,c⟩|⟨rfl,c⟩|rfl|⟨rfl,c⟩
  ·exact⟨false,by z_go,fun z=>absurd z (by decide),fun _=>by z_go⟩
  ·exact⟨false,by z_go,fun z=>absurd z (by decide),fun _=>by z_go⟩
  ·exact⟨true,by z_go,fun _=>c,fun z=>absurd z (by decide)⟩
  ·exact⟨false,by z_go,fun z=>absurd z (by decide),fun _=>by z_go⟩
  ·exact⟨true,by z_go,fun _=>c,fun z=>absurd z (by decide)⟩
 refine⟨T,_,rfl,.inr (gu.of hT),rfl,rfl,?_⟩
 have hb2:(if (false:Bool)=true then !CQ (V.str way) [V.str "drop",V.str "lay"] else CQ (V.str way) [V.str "drop",V.str "lay"])=b:=hb
 rw[hb2]
 cases b with
 | true =>
  have kp:=ke (hbt rfl)
  x_go
  refine⟨p,_,500,rfl,hh2,by omega,by decide,by decide,fun v H3 v0 v1 hh3 k3=>?_⟩
  have hD3:=k3.1 _ _ hD2 nDp
  x_go
  rw[Vi]
  x_go
  have z0:0<=v%(kk.length:Int):=WA _ (by omega)
  have z1:v%(kk.length:Int)<kk.length:=Wm _ (by omega)
  obtain⟨j,hj⟩ : ∃j:Nat,v%(kk.length:Int) =(j:Int):=⟨(v%(kk.length:Int)).toNat,by omega⟩
  rw[hj]
  have hv:=Vn (show j<kk.length by omega)
  generalize kk[j]=kv at hv
  have km:=Vk hv
  obtain⟨g0,g1⟩:=kb kv km
  refine cG (aU.of hD3) (KG hv) ?_
  x_go
  exact q kv H3 g0 g1 (fun _=>km) (hh3.mono (by omega)) (k02.trans k3)
 | false =>
  have nd:=hbf rfl
  x_go
  refine⟨p,_,rfl,hh2,by omega,fun v0 H3 v00 v01 hh3 k3=>?_⟩
  have hD3:=k3.1 _ _ hD2 nDp
  have k03:=k02.trans k3
  x_go
  obtain⟨m0,hm0⟩:=Cu (ks:=kk) (by omega) v0
  refine⟨fun m σ H'=>H'=H3/\∃v,σ=[some (.ref p),some (.str way),some (.ref l),some (.ref D),some (.int v)]/\0<=v/\v<1152921504606846976/\(v+m)%1152921504606846976∉kk,⟨m0,rfl,v0,rfl,v00,by omega,hm0⟩,?_⟩
  rintro m σ H' ⟨rfl,v,rfl,u0,u1,hm⟩
  x_go
  refine zk (aU.of hD3) ?_
  x_go
  refine b_ (fun c=>?_) (fun c=>?_)
  ·refine⟨_,fun σ' H'' h=>h,?_⟩
   x_go
   have hm1:m≠0:=fun e=>by
    subst e
    rw[show((0:Nat):Int)=0 from rfl,Int.add_zero,Xq u0 u1]at hm
    exact hm c
   refine⟨m-1,by omega,rfl,(v+1)%1152921504606846976,rfl,by omega,by omega,?_⟩
   have e:((v+1)%1152921504606846976+((m-1:Nat):Int))%1152921504606846976 =(v+m)%1152921504606846976:=by omega
   rw[e];exact hm
  ·x_go
   exact q v _ u0 u1 (fun z=>absurd z nd) (hh3.mono (by omega)) k03
theorem uU {f:Addr}{fd:FuncData}(F:eO K "_law_near" "_law_near" ia f fd) (mF:mg "_law_near" = some (.ref f)) (bF:Binds K fd FT []) (T:Bl mg) (aJ:HY P w K mg base) (cW:JA P w K mg base) (fW:Iz P w K mg base):bw P w K mg base "_law_near" FT 4 (l7 K):=by
 refine bw.of F mF bF fR (fun vs H Q E h=>?_) (fun _ A _ _ H vs Q E hr h=>?_)
 ·obtain⟨p,N,n,g,rfl,_⟩:=h;rfl
 obtain⟨p,N,n,g,rfl,hh,hN,n0,n1,g0,g1,q⟩:=h
 have e60:(2:Int)^60=1152921504606846976:=by decide
 refine⟨_,(ak (aH (i:=3) fR.nd rfl (Or.inl rfl) (b7 aj))
   (ak (eL V2 rfl (fB rfl T.range (aa (pv 1) aj ai)) (aC (i:=4) fR.nd rfl (Or.inl rfl)) (ak (aH (i:=5) fR.nd rfl (Or.inl rfl) (aO bN (aO fO (aO jD (bQ fW hr.mo (aa (pv 0) aj ai)) ay) ay) (bQ aJ hr.mo (aa (pv 0) (aa (pv 2) aj ai) ai))))
   (ak (gJ V2 (aT iQ (pv 5) (pv 3) (by with_unfolding_all rfl)) (az (aH (i:=5) fR.nd rfl (Or.inl rfl) (aO dM (aO bN (pv 5) ay) (gZ (c:=1152921504606846976) (by z_go) ⟨by decide,by decide,by decide⟩)))))
   (az (bT (gh VO VP VQ bL (pv 3) (aa (pv 5) aj ai)))))))
   (az (aP (cN rfl (cF (sc:=av ia) (N:=IK) (vs:=["_law_key_here"]) (fs:=wG) (js:=[0]) (by z_go) rfl rfl) (aZ (pv 3)) (fun _ _ _ _=>aC (i:=0) (show(["_law_key_here", "_law_hand"]:List Str).Nodup by z_go) rfl (Or.inl rfl)) (fun _ _ _ _=>fL) (fun _ _ _ _=>(bZ (aa (pv 0) (aa (bQ cW hr.mo (aa (pv 1) aj ai)) aj aF) ai)))))))),?_⟩
 rw[vp]
 x_go
 refine⟨by decide,fun D nD=>?_⟩
 have ck:=CK.start (ys:=[]) hh nD
 generalize upd H D _=H1 at ck ⊢
 x_go
 refine⟨n,rfl,by omega,by omega,?_⟩
 refine iZ (n:=n.toNat) (fun i σ H'=>(∃x1 x2,σ=[some (.ref p),some (.int n),some (.int g),some (.ref D),x1,x2])/\∃ns:List Int,ns.Nodup/\(∀k∈ns,0<=k/\k<1152921504606846976)/\ns.length=i/\CK H p D (N+30*i) (ns.map V.int) H') ⟨⟨_,_,rfl⟩,[],XJ,by simp,rfl,ck⟩ ?_ ?_
 ·rintro i σ H2 hi ⟨⟨x1,x2,rfl⟩,ns,nd,bd,len,ck⟩
  x_go
  refine⟨p,_,rfl,ck.hh,by omega,fun v0 H3 v00 v01 hh3 k3=>?_⟩
  have ck:=ck.draw k3 hh3
  x_go
  refine⟨p,_,g,rfl,ck.hh,by omega,by omega,by omega,fun dd H3b d0 d1 hh3b k3b=>?_⟩
  have ck:=ck.draw k3b hh3b
  have hD:=ck.lat
  x_go
  have v0':0<=v0 / 16*16+dd:=by omega
  have v1':v0 / 16*16+dd<1152921504606846976:=by omega
  generalize v0 / 16*16+dd=v at v0' v1' ⊢
  obtain⟨m0,hm0⟩:=Js (ks:=ns) (by omega) v
  refine⟨fun m σ H'=>H'=H3b/\∃v,σ=[some (.ref p),some (.int n),some (.int g),some (.ref D),some (.int (0+i)),some (.int v)]/\0<=v/\v<1152921504606846976/\(v+16*m)%1152921504606846976∉ns,⟨m0,rfl,v,rfl,v0',v1',hm0⟩,?_⟩
  rintro m σ H' ⟨rfl,v,rfl,u0,u1,hm⟩
  x_go
  refine zk (aU.of hD) ?_
  x_go
  refine b_ (fun c=>?_) (fun c=>?_)
  ·refine⟨_,fun σ' H'' h=>h,?_⟩
   x_go
   have hm1:m≠0:=fun e=>by
    subst e
    rw[show 16*((0:Nat):Int)=0 from rfl,Int.add_zero,Xq u0 u1]at hm
    exact hm c
   refine⟨m-1,by omega,rfl,(v+16)%1152921504606846976,rfl,by omega,by omega,?_⟩
   have e:((v+16)%1152921504606846976+16*((m-1:Nat):Int))%1152921504606846976 =(v+16*m)%1152921504606846976:=by omega
   rw[e];exact hm
  ·x_go
   refine⟨.inl ⟨rfl,_,aU.of hD⟩,?_⟩
   x_go
   refine⟨D,_,_,rfl,rfl,hD,by rw[Vi];exact aR (by omega),?_⟩
   x_go
   have ck:=ck.mono (M:=N+30*(i+1)) (by omega)
   refine⟨⟨_,_,rfl⟩,ns ++ [v],?_,fun k hk=>?_,by rw[Vm,len];rfl,?_⟩
   ·rw[Wb]
    exact⟨nd,by simp,fun a ha b hb e=>by simp at hb;rw[hb]at e;exact c (e ▸ ha)⟩
   ·rcases VH.mp hk with z|z
    ·exact bd k z
    ·simp at z;rw[z];exact⟨u0,u1⟩
   ·rw[Vo]
    exact ck.push
 ·rintro σ H2 ⟨⟨x1,x2,rfl⟩,ns,nd,bd,len,ck⟩
  have ck:=ck.mono (M:=N+4000) (by omega)
  have hD:=ck.lat
  have k02:=ck.kp
  x_go
  refine⟨D,rfl,⟨_,aU.of hD⟩,fun D2 nD2=>?_⟩
  refine aY (xs:=ns.map V.int) (fun j σ' ys H'=>(∃x,σ'=[x,some (.ref p)])/\j<=ns.length/\∃(ts:List Addr) (es:List (Int×Str)),ys=ts.map V.ref/\CK H2 p D2 (N+4000+30*j) ys H'/\EL H' ts es/\es.map (·.1)=ns.take j) D2 ⟨⟨_,rfl⟩,VS _,[],[],rfl,CK.start ck.hh nD2,P1.nil,rfl⟩ (fun i σ' ys H' _ h=>by
   obtain⟨_,_,ts,es,_,c,_⟩:=h
   exact aU.of (c.kp.1 _ _ hD ck.np)) ?_ ?_
  ·rintro j x σ' ys H4 hx ⟨⟨z1,rfl⟩,jl,ts,es,rfl,ck4,el4,ek⟩
   obtain⟨k,hk,rfl⟩:=ints_get hx
   have jl2:=(Vj.mp hk).1
   have kb:=bd k (Vk hk)
   have tl:ts.length=j:=by
    rw[el4.1,<- Vi (f:=fun x:Int×Str=>x.1),ek,Vw];omega
   x_go
   refine⟨p,_,rfl,ck4.hh,by omega,fun z H5 zo zl hh5 k5=>?_⟩
   have kt5:=jm ck4.hh k5
   have ck5:=ck4.draw k5 hh5
   x_go
   refine⟨zs2,fun t nt=>?_⟩
   generalize hE7:upd H5 t _=H7
   have s7:=(bf nt hE7).2
   obtain⟨ck7,ht,tp,tD⟩:=ck5.new nt hE7
   clear hE7
   have kt8:∀t' xs,H7 t'=some (.tup xs)->(upd H7 D2 (.lst (ts.map V.ref ++ [V.ref t]))) t'=some (.tup xs):=fun t' xs e=>by rw[ao (ju e ck7.lat (by intro z;cases z))];exact e
   have ck8:=(ck7.mono (M:=N+4000+30*(j+1)) (by omega)).push (zs:=ts.map V.ref ++ [V.ref t])
   refine⟨ck7.lat,by rw[Vi];exact aR (by omega),⟨_,rfl⟩,by omega,ts ++ [t],es ++ [(k,z)],by rw[Vo];rfl,ck8,?_,?_⟩
   ·exact P1.snoc (el4.keep fun t' xs e=>kt8 _ _ (s7 _ _ (kt5 _ _ e))) ⟨kt8 _ _ ht,zo,kb.1,kb.2,zl⟩
   ·rw[Vo,ek,aV hk];rfl
  ·rintro σ' ys H4 ⟨⟨z1,rfl⟩,jl,ts,es,rfl,ck4,el4,ek⟩
   rw[Vi,VA]at ek
   have ll:es.length=ns.length:=by rw[<- ek,Vi]
   exact q D2 ts es H4 (k02.free nD2 (ck.hh.ne nD2)) ck4.lat el4 (by rw[ek];exact nd) (by omega) (ck4.hh.mono (by rw[Vi];omega)) (k02.trans ck4.kp)
theorem q9 {f:Addr}{fd:FuncData}(F:eO K "_law_places" "_law_places" iH f fd) (mF:mg "_law_places" = some (.ref f)) (bF:Binds K fd Mr []) (T:Bl mg)  : bw P w K mg base "_law_places" Mr 1 (jL K):=by
 refine bw.of F mF bF qq (fun vs H Q E h=>?_) (fun _ A _ _ H vs Q E hr h=>?_)
 ·obtain⟨a,ns,l,m,rfl,_⟩:=h;rfl
 obtain⟨a,ns,l,m,rfl,ha,hl,l0,l1,m0,m1,q⟩:=h
 refine⟨_,(az (aP (cR (yL rfl) rfl T.list g_ (aa (cR Bs rfl T.range CD (aa (a_ (sX rfl) rfl T.max B5 (aa (pv 1) (aa (a_ (Bt rfl) rfl T.min KN (aa (a_ bz rfl T.len cV (aa (pv 0) aj ai)) (aa (pv 2) aj ai) aF)) aj aF) ai)) aj aF)) aj aF)))),?_⟩
 rw[qw]
 x_go
 refine⟨a,_,rfl,.inl ha,?_⟩
 rw[Vi]
 x_go
 refine Fv fun r nr=>?_
 generalize hE:upd H r _=H1
 obtain⟨hr1,s1⟩:=bf nr hE
 clear hE
 x_go
 refine⟨r,_,rfl,hr1,by omega,by omega,fun l' nl'=>?_⟩
 exact q _ l' _ (by omega) (s1.free nl') aq (s1.trans (aG nl' _))
theorem qG {f:Addr}{fd:FuncData}(F:eO K "_law_copied" "_law_copied" iI f fd) (mF:mg "_law_copied" = some (.ref f)) (bF:Binds K fd v_ []) (T:Bl mg)  : bw P w K mg base "_law_copied" v_ 1 (jU K):=by
 refine bw.of F mF bF fN (fun vs H Q E h=>?_) (fun _ A _ _ H vs Q E hr h=>?_)
 ·obtain⟨D,ss,sts,rfl,_⟩:=h;rfl
 obtain⟨D,ss,sts,rfl,hD,hP,ln,q⟩:=h
 have sl:=hP.1
 refine⟨_,(ak (aH (i:=1) fN.nd rfl (Or.inl rfl) (b7 aj))
   (ak (eL V2 rfl (aZ (pv 0)) (aC (i:=2) fN.nd rfl (Or.inl rfl)) (ak (jt (cJ (aT fF (bg cS (pv 2) ay (fun _ _=>rfl)) bM (aX _)) (az (aH (i:=2) fN.nd rfl (Or.inl rfl) (aO GX (cP J9 (pv 2) eY (dD ay)) (bZ (aa (cR jc rfl T.list g_ (aa (bg cS (pv 2) ay (fun _ _=>rfl)) aj aQ)) aj aF))))) bA))
   (az (bT (gh VO VP VQ bL (pv 1) (aa (pv 2) aj ai))))))
   (az (aP (pv 1))))),?_⟩
 rw[qo]
 x_go
 refine⟨by decide,fun G nG=>?_⟩
 generalize hE:upd H G _=H0
 obtain⟨hG,s0⟩:=bf nG hE
 clear hE
 x_go
 refine⟨D,rfl,⟨_,aU.of (s0 _ _ hD)⟩,?_⟩
 refine dh (xs:=ss.map V.ref) (fun i σ H'=>(∃x2,σ=[some (.ref D),some (.ref G),x2])/\i<=ss.length/\aD H H'/\∃us:List Addr,us.length=i/\H' G=some (.lst (us.map V.ref))/\P1 (gE (hid G (dW H H'))) us (sts.take i)) ⟨⟨_,rfl⟩,VS _,s0,[],rfl,hG,P1.nil⟩ (fun _ _ _ _ h=>aU.of (h.2.2.1 _ _ hD)) ?_ ?_
 ·rintro i x σ H1 hx ⟨⟨x2,rfl⟩,il,s1,us,ul,hG1,hP1⟩
  obtain⟨sj,hsj,rfl⟩:=br hx
  have jl:=(Vj.mp hsj).1
  obtain⟨st,hst,hsa⟩:=hP.get hsj
  have fin:∀(t:Addr) (H2:Hp),aD H1 H2->gE (hid G (dW H H2)) t st->(∃x2,[some (V.ref D),some (.ref G),some (.ref t)]=[some (.ref D),some (.ref G),x2])/\i+1<=ss.length/\aD H (upd H2 G (.lst (us.map V.ref ++ [.ref t])))/\∃us':List Addr,us'.length=i+1/\upd H2 G (.lst (us.map V.ref ++ [.ref t])) G=some (.lst (us'.map V.ref))/\P1 (gE (hid G (dW H (upd H2 G (.lst (us.map V.ref ++ [.ref t])))))) us' (sts.take (i+1)):=fun t H2 s2 ht=>by
   have sm:aD (hid G (dW H H2)) (hid G (dW H (upd H2 G (.lst (us.map V.ref ++ [.ref t]))))):=fun b o e=>by
    have bG:b≠G:=fun z=>by unfold hid at e;rw[VB z]at e;cases e
    rw[cH bG]at e ⊢
    unfold dW at e ⊢
    cases c:H b with
    | none=>rw[c]at e;rw[ao bG];exact e
    | some u=>rw[c]at e;cases u <;> exact e
   refine⟨⟨_,rfl⟩,jl,fun b o e=>by rw[ao (au e nG)];exact s2 _ _ (s1 _ _ e),us ++ [t],by rw[Vm,ul];rfl,by rw[aq,Vo];rfl,?_⟩
   rw[aV hst]
   refine P1.snoc (hP1.imp fun s st h=>?_) (ht.same sm)
   exact(h.same (cL (CA fun b o _ e=>s2 _ _ e))).same sm
  have ht1:∀t xs,H t=some (.tup xs)->hid G (dW H H1) t=some (.tup xs):=fun t xs e=>by rw[cH (au e nG)];exact l_ e
  x_go
  refine⟨fun σ H'=>∃t,σ=[some (.ref D),some (.ref G),some (.ref t)]/\aD H1 H'/\gE (hid G (dW H H')) t st,?_,?_⟩
  ·cases st with
   | rooms n =>
    have h1:=s1 _ _ hsa.1
    x_go
    refine⟨rfl,?_⟩
    rw[show decide (V.str "rooms" = V.str "row")=false from by z_go]
    x_go
    exact⟨sj,rfl,aD.refl _,ht1 _ _ hsa.1,hsa.2⟩
   | cut r m =>
    have h1:=s1 _ _ hsa.1
    x_go
    refine⟨rfl,?_⟩
    rw[show decide (V.str "cut" = V.str "row")=false from by z_go]
    x_go
    exact⟨sj,rfl,aD.refl _,ht1 _ _ hsa.1,hsa.2⟩
   | row r a es =>
    obtain⟨l,h1',h2',h3⟩:=id hsa
    have h1:=s1 _ _ h1'
    x_go
    refine⟨rfl,?_⟩
    rw[VX rfl]
    x_go
    refine⟨sj,_,rfl,gu.of h1,(fun z=>absurd z.2 (by show ¬(HT.sIx 4 4 (some 3)=4);decide)),fun t1 nt1=>?_⟩
    generalize hE:upd H1 t1 _=H2
    obtain⟨ht1',s2⟩:=bf nt1 hE
    clear hE
    have h12:=s2 _ _ h1
    x_go
    refine⟨l,_,rfl,.inl (aU.of (s2 _ _ (s1 _ _ h2'))),fun l2 nl2=>?_⟩
    generalize hE:upd H2 l2 _=H3
    obtain⟨hl2,s3⟩:=bf nl2 hE
    clear hE
    x_go
    refine⟨zs1,fun t3 nt3=>?_⟩
    generalize hE:upd H3 t3 _=H4
    obtain⟨ht3,s4⟩:=bf nt3 hE
    clear hE
    refine⟨t1,t3,_,_,rfl,rfl,gu.of (s4 _ _ (s3 _ _ ht1')),gu.of ht3,(by show [V.str (Str.ofString "row"),V.int r,V.int a] ≠ [];exact List.cons_ne_nil _ _),zs4,(fun z=>by cases z),fun _ t4 nt4=>?_⟩
    generalize hE:upd H4 t4 _=H5
    obtain⟨ht4,s5⟩:=bf nt4 hE
    clear hE
    have s15:=((s2.trans s3).trans s4).trans s5
    have n4:H t4=none:=(s1.trans ((s2.trans s3).trans s4)).free nt4
    have n2:H l2=none:=(s1.trans s2).free nl2
    have g4:t4≠G:=fun z=>by rw[z,s4 _ _ (s3 _ _ (s2 _ _ hG1))]at nt4;cases nt4
    have g2:l2≠G:=fun z=>by rw[z,s2 _ _ hG1]at nl2;cases nl2
    x_go
    refine⟨t4,rfl,s15,l2,by rw[cH g4,e8 n4];exact ht4,by rw[cH g2,e8 n2];exact s5 _ _ (s4 _ _ hl2),h3.1,h3.2.1,h3.2.2.1,fun v hv=>(h3.2.2.2 v hv).keep fun t xs e=>?_⟩
    rw[cH (au e nG)];exact l_ e
  ·rintro σ H2 ⟨t,rfl,s2,ht⟩
   x_go
   refine⟨.inl ⟨rfl,_,aU.of (s2 _ _ hG1)⟩,?_⟩
   x_go
   refine⟨G,_,_,rfl,rfl,s2 _ _ hG1,by rw[Vi];exact gw (by omega),?_⟩
   x_go
   exact fin t H2 s2 ht
 ·rintro σ H1 ⟨⟨x2,rfl⟩,il,s1,us,ul,hG1,hP1⟩
  rw[Vi,sl,VA]at hP1
  x_go
  exact q G us H1 nG hG1 (hP1.imp fun s st h=>h.same bP) s1
theorem kF {f:Addr}{fd:FuncData}(F:eO K "_law_spoil_steps" "_law_spoil_steps" cA f fd) (mF:mg "_law_spoil_steps" = some (.ref f)) (bF:Binds K fd v_ []) (T:Bl mg)  : bw P w K mg base "_law_spoil_steps" v_ 1 (gr K):=by
 refine bw.of F mF bF bX (fun vs H Q E h=>?_) (fun _ A _ _ H vs Q E hr h=>?_)
 ·obtain⟨D,ss,sts,rfl,_⟩:=h;rfl
 obtain⟨D,ss,sts,rfl,hD,hP,ln,nd,Dl,q⟩:=h
 have hu:=hr.units
 have sl:=hP.1
 have lro:=qQ hP
 have ll:=sY (H:=H) (ss:=ss)
 refine⟨_,(ak (cU (i:=1) bX.nd rfl rfl rfl (cF (sc:=av cA) (N:=GO) (vs:=["_law_step"]) (fs:=[]) (js:=[]) (by z_go) rfl rfl) (aZ (pv 0)) (fun _ _ _ _=>aC (i:=0) (show(["_law_step"]:List Str).Nodup by z_go) rfl (Or.inl rfl)) (fun _ _ _ _=>Br (aT fF (bg (j7 (K:=K) rfl) (pv 0) ay (fun _ _=>rfl)) bM (aX _))) (fun _ _ _ _=>(bg (j7 (K:=K) rfl) (pv 0) ay (fun _ _=>rfl))))
   (ak (aH (i:=2) bX.nd rfl (Or.inl rfl) wR)
   (ak (eL V2 rfl (fB rfl T.range (aa (a_ bz rfl T.len cV (aa (pv 1) aj ai)) aj aF)) (aC (i:=3) bX.nd rfl (Or.inl rfl)) (ak (cU (i:=4) bX.nd rfl rfl rfl (cF (sc:=av cA) (N:=GO) (vs:=["_law_row"]) (fs:=[]) (js:=[]) (by z_go) rfl rfl) (aZ (cP eW (pv 1) (dD (aO bN (pv 3) ay)) eY)) (fun _ _ _ _=>aC (i:=0) (show(["_law_row"]:List Str).Nodup by z_go) rfl (Or.inl rfl)) (fun _ _ _ _=>fL) (fun _ _ _ _=>(cR (iF (K:=K) rfl) rfl T.list g_ (aa (pv 0) aj ai))))
   (ak (bT (gh VO VP VQ bL (bg bI (pv 1) (pv 3) (fun _ _=>rfl)) (aa (bZ (aa ay (aa bM aj aB) aB)) aj dZ)))
   (az (aH (i:=2) bX.nd rfl (Or.inl rfl) (uK (pv 2) (zg (l8 (nH hu) (cP eW (pv 1) (dD (aO bN (pv 3) ay)) eY) (pv 4) (aX _)))))))))
   (ak (bT (gh VO VP VQ bL (pv 0) (aa (bZ (aa bM (aa ay aj aB) aB)) aj dZ)))
   (az (aP (pv 2))))))),?_⟩
 rw[kM]
 x_go
 refine⟨D,rfl,⟨_,aU.of hD⟩,fun L nL=>?_⟩
 refine aY (xs:=ss.map V.ref) (fun j σ' ys H'=>(∃x,σ'=[x])/\aD H H'/\ys =(bB H (ss.take j)).map V.ref/\j<=ss.length/\H' L=some (.lst ys)) L ⟨⟨_,rfl⟩,aG nL _,rfl,VS _,aq⟩ (fun i σ' ys H' _ h=>aU.of (h.2.1 _ _ hD)) ?_ ?_
 ·rintro j x σ' ys H1 hx ⟨⟨z1,rfl⟩,s1,rfl,jl,hL⟩
  obtain⟨sj,hsj,rfl⟩:=br hx
  have il:=(Vj.mp hsj).1
  obtain⟨st,hst,hsa⟩:=hP.get hsj
  have lz:((bB H (ss.take j)).map V.ref).length<sizeLine:=by
   rw[Vi]
   refine gw (Vv sY ?_)
   rw[Vw];omega
  rw[aV hsj,fT]
  cases st with
  | rooms n =>
   have h1:=s1 _ _ hsa.1
   x_go
   refine⟨rfl,?_⟩
   rw[show decide (V.str "rooms" = V.str "row")=false from by z_go]
   x_go
   exact⟨⟨_,rfl⟩,s1,by rw[i9 (gH hsa.1),V5],il,hL⟩
  | cut r m =>
   have h1:=s1 _ _ hsa.1
   x_go
   refine⟨rfl,?_⟩
   rw[show decide (V.str "cut" = V.str "row")=false from by z_go]
   x_go
   exact⟨⟨_,rfl⟩,s1,by rw[i9 (iS hsa.1),V5],il,hL⟩
  | row r a es =>
   obtain⟨l,h1',_⟩:=id hsa
   have h1:=s1 _ _ h1'
   x_go
   refine⟨rfl,?_⟩
   rw[VX rfl]
   x_go
   exact⟨hL,lz,⟨_,rfl⟩,fun b o e=>by rw[ao (au e nL)];exact s1 _ _ e,by rw[uo (mK h1'),Vo];rfl,il,aq⟩
 rintro σ' ys H1 ⟨⟨z1,rfl⟩,s1,rfl,jl,hL⟩
 rw[Vi,VA]at hL
 generalize bB H ss=ls at nd Dl q lro ll hL
 x_go
 rw[Vi]
 refine⟨(ls.length:Int),rfl,by omega,by omega,?_⟩
 rw[show((ls.length:Int)).toNat=ls.length from by omega]
 have Lls:L∉ls:=fun m=>by
  obtain⟨es,he,_⟩:=lro L m
  rw[he]at nL;cases nL
 refine iZ (n:=ls.length) (fun k σ H'=>(∃x3 x4,σ=[some (.ref D),some (.ref L),some (.bl true),x3,x4])/\Kx (fun b=>b∈ls.take k) H1 H') ⟨⟨_,_,rfl⟩,Kx.refl⟩ ?_ ?_
 ·rintro k σ H2 hk ⟨⟨x3,x4,rfl⟩,k2⟩
  have hL2:=k2.ke _ _ hL fun z=>Lls (WH z)
  have hl:=Vn hk
  generalize ls[k]=l at hl
  have nd2:=nd
  rw[<- Wh k ls,mh hl]at nd2
  obtain⟨_,nd3,nd4⟩:=Wb.mp nd2
  have lk:∀a∈l::ls.drop (k+1),a∉ls.take k:=fun a ha z=>nd4 a z a ha rfl
  have ln2:l∉ls.drop (k+1):=(V6.mp nd3).1
  have lat:∀a∈l::ls.drop (k+1),H2 a=some (.lst (rowOf H a))/\(rowOf H a).length<=8/\∀v∈rowOf H a,En H v:=fun a ha=>by
   have ha':a∈ls:=by rw[<- Wh k ls,mh hl];exact VD _ ha
   obtain⟨es,he,h1,h2⟩:=lro a ha'
   rw[jr he]
   exact⟨k2.ke _ _ (s1 _ _ he) (lk a ha),h1,h2⟩
  have ktH2:∀t xs,H t=some (.tup xs)->H2 t=some (.tup xs):=fun t xs e=>k2.kt _ _ (s1 _ _ e)
  obtain⟨hl2,ll8,_⟩:=lat l (Vy ..)
  generalize hds:ls.drop (k+1)=ds at lk ln2 lat nd3
  have dl:ds.length<=20000:=by rw[<- hds,Wj];omega
  x_go
  refine gp (aU.of hL2) fun M nM=>?_
  rw[show(0+(k:Int))+1 =((k+1:Nat):Int) by omega,tw,hds]
  generalize hE:upd H2 M _=H3
  obtain⟨hM,s3⟩:=bf nM hE
  clear hE
  refine⟨M,rfl,⟨_,aU.of hM⟩,fun W nW=>?_⟩
  refine aY (xs:=ds.map V.ref) (fun j σ' ys H'=>(∃x,σ'=[x])/\aD H3 H'/\j<=ds.length/\H' W=some (.lst ys)/\∃ws:List Addr,ys=ws.map V.ref/\(∀w'∈ws,H3 w'=none)/\P1 (fun w' a=>H' w'=some (.lst (rowOf H a))/\w'≠W) ws (ds.take j)) W ⟨⟨_,rfl⟩,aG nW _,VS _,aq,[],rfl,fun _ h=>absurd h We,P1.nil⟩ (fun i σ' ys H' _ h=>aU.of (h.2.1 _ _ hM)) ?_ ?_
  ·rintro j x σ' ys H4 hx ⟨⟨z1,rfl⟩,s4,jl,hW,ws,rfl,wn,hPw⟩
   obtain⟨a,ha,rfl⟩:=br hx
   have il:=(Vj.mp ha).1
   obtain⟨ha2,_,_⟩:=lat a (Vr _ (Vk ha))
   have wl:=hPw.1
   rw[Vw]at wl
   x_go
   refine⟨a,_,rfl,.inl (aU.of (s4 _ _ (s3 _ _ ha2))),fun l2 nl2=>?_⟩
   generalize hE:upd H4 l2 _=H5
   obtain⟨hl5,s5⟩:=bf nl2 hE
   clear hE
   have lW:l2≠W:=fun z=>by rw[z,hW]at nl2;cases nl2
   refine⟨s5 _ _ hW,by rw[Vi];exact gw (by omega),⟨_,rfl⟩,fun b o e=>by rw[ao (au e nW)];exact s5 _ _ (s4 _ _ e),il,aq,ws ++ [l2],by rw[Vo];rfl,fun w' hw=>?_,?_⟩
   ·rcases VH.mp hw with hw|hw
    ·exact wn w' hw
    ·rw[VM.mp hw];exact s4.free nl2
   ·rw[aV ha]
    exact(hPw.imp fun w' a h=>⟨by rw[ao h.2];exact s5 _ _ h.1,h.2⟩).snoc ⟨by rw[ao lW];exact hl5,lW⟩
  rintro σ' ys H4 ⟨⟨z1,rfl⟩,s4,jl,hW,ws,rfl,wn,hPw⟩
  rw[Vi,VA]at hPw
  have s24:=s3.trans s4
  have hL4:=s24 _ _ hL2
  x_go
  refine cG (aU.of hL4) (show rg (ls.map V.ref) (0+(k:Int))=some (.ref l) by rw[Int.zero_add];exact gB hl) ?_
  refine⟨.inl ⟨rfl,_,aU.of (s24 _ _ hl2)⟩,?_⟩
  x_go
  refine⟨zs2,fun t nt=>?_⟩
  generalize hE:upd H4 t _=H5
  obtain⟨ht,s5⟩:=bf nt hE
  clear hE
  refine⟨l,_,_,rfl,rfl,s5 _ _ (s24 _ _ hl2),gw (by omega),?_⟩
  have lx:H3 l=some (.lst (rowOf H l)):=s3 _ _ hl2
  have k6:=Kx.upd (S:=fun b=>b=l) (ys:=rowOf H l ++ [.ref t]) rfl (s5 _ _ (s24 _ _ hl2))
  generalize hE:upd H5 l _=H6 at k6 ⊢
  have k26:Kx (fun b=>b=l) H2 H6:=(Kx.of (s24.trans s5)).trans k6
  have lL:L≠l:=fun z=>Lls (by rw[z];exact Vk hl)
  have hL6:=k26.ke _ _ hL2 lL
  x_go
  refine gp (aU.of hL6) fun M2 nM2=>?_
  rw[show(0+(k:Int))+1 =((k+1:Nat):Int) by omega,tw,hds]
  generalize hE2:upd H6 M2 _=H7
  obtain⟨hM2,s7⟩:=bf nM2 hE2
  clear hE2
  have kt7:∀t xs,H t=some (.tup xs)->H7 t=some (.tup xs):=fun t xs e=>s7 _ _ (k26.kt _ _ (ktH2 _ _ e))
  have gR:∀(x a:Addr),a∈ds->H7 x=some (.lst (rowOf H a))->GD K H7 2 (.ref x) (oF (aI H7 (rowOf H a))):=fun x a ha h=>zB h fun v hv=>((lat a (Vr _ ha)).2.2 v hv).keep kt7
  have g1:GD K H7 3 (.ref M2) (.list (ds.map fun a=>oF (aI H7 (rowOf H a)))):=by
   refine GD.lst hM2 ?_
   refine j_ (p:=fun x a=>x=a/\a∈ds) (⟨rfl,fun i a x e1 e2=>?_⟩ : P1 _ ds ds) fun a x _ h=>?_
   ·rw[e1]at e2;cases e2
    exact⟨rfl,Vk e1⟩
   ·obtain⟨rfl,hm⟩:=h
    refine gR a a hm (s7 _ _ (k26.ke _ _ (lat a (Vr _ hm)).1 fun z=>ln2 (z ▸ hm)))
  have hW7:H7 W=some (.lst (ws.map V.ref)):=s7 _ _ (k6.ke _ _ (s5 _ _ hW) fun z=>by rw[z,lx]at nW;cases nW)
  have g2:GD K H7 3 (.ref W) (.list (ds.map fun a=>oF (aI H7 (rowOf H a)))):=by
   refine GD.lst hW7 ?_
   refine j_ (hPw.imp' fun x a hx hm h=>(⟨h.1,hx,hm⟩ : _/\x∈ws/\a∈ds)) fun x a _ h=>?_
   exact gR x a h.2.2 (s7 _ _ (k6.ke _ _ (s5 _ _ h.1) fun z=>by
    have:=wn x h.2.1
    rw[z,lx]at this;cases this))
  x_go
  refine⟨_,_,g1.1,g2.1,g1.shaped (by omega),g2.shaped (by omega),?_⟩
  rw[g1.refl]
  x_go
  refine⟨⟨_,_,rfl⟩,?_⟩
  rw[aV hl]
  exact(k2.weak fun b hb=>Wr _ hb).trans ((k26.weak fun b hb=>VD _ (by rw[hb];exact VM.mpr rfl)).trans (Kx.of s7))
 ·rintro σ H2 ⟨⟨x3,x4,rfl⟩,k2⟩
  rw[VA]at k2
  have hD2:=k2.ke _ _ (s1 _ _ hD) Dl
  x_go
  refine⟨.inl ⟨rfl,_,aU.of hD2⟩,?_⟩
  x_go
  refine⟨zs2,fun t nt=>?_⟩
  generalize hE:upd H2 t _=H3
  obtain⟨ht,s3⟩:=bf nt hE
  clear hE
  refine⟨D,_,_,rfl,rfl,s3 _ _ hD2,by rw[Vi];exact gw (by omega),?_⟩
  x_go
  exact q _ (((Kx.of s1).trans (k2.weak fun b hb=>.inr hb)).trans ((Kx.of s3).trans (Kx.upd (.inl rfl) (s3 _ _ hD2))))
theorem rQ {f:Addr}{fd:FuncData}(F:eO K "_law_spoil" "_law_spoil" je f fd) (mF:mg "_law_spoil" = some (.ref f)) (bF:Binds K fd oB []) (T:Bl mg)  : JN P w K mg base:=by
 refine bw.of F mF bF iA (fun vs H Q E h=>?_) (fun _ A _ _ H vs Q E hr h=>?_)
 ·obtain⟨y,h,w,R,bs,S,rfl,_⟩:=h;rfl
 obtain⟨y,h,w,R,bs,S,rfl,hy,⟨sh,hh,nd,hnb,bl,un⟩,q⟩:=h
 refine⟨_,(ak (eL V2 rfl (aZ (bg cS (pv 0) ay (fun _ _=>rfl))) (aC (i:=1) iA.nd rfl (Or.inl rfl)) (ak (eL V2 rfl (aZ (pv 1)) (aC (i:=2) iA.nd rfl (Or.inl rfl)) (az (bT (gh VO VP VQ bL (pv 2) (aa (bZ (aa ay (aa bM aj aB) aB)) aj dZ)))))
   (az (bT (gh VO VP VQ bL (pv 1) (aa (b7 aj) aj gG))))))
   (az (bT (gh VO VP VQ bL (bg cS (pv 0) ay (fun _ _=>rfl)) (aa (b7 (aa (b7 aj) aj gG)) aj gG))))),?_⟩
 rw[rM]
 x_go
 refine⟨h,rfl,⟨_,aU.of hh⟩,?_⟩
 refine dh (xs:=bs.map V.ref) (fun i σ H'=>(∃x1 x2,σ=[some (.ref y),x1,x2])/\i<=bs.length/\Kx S H H'/\H' h=some (.lst (bs.map V.ref))/\wg S H' h bs i (20+150*i)) ⟨⟨_,_,rfl⟩,VS _,Kx.refl,hh,un⟩ (fun _ _ _ _ h=>aU.of h.2.2.2.1) ?_ ?_
 ·rintro i x σ H1 hx ⟨⟨x1,x2,rfl⟩,il,k1,hh1,un1⟩
  obtain⟨b,hb,rfl⟩:=br hx
  have ib:=(Vj.mp hb).1
  have bm:=Vk hb
  obtain⟨sb,as,hb1,al,_⟩:=un1 i b (Vt _) hb
  have bh:b≠h:=fun z=>hnb (z ▸ bm)
  x_go
  refine⟨b,rfl,⟨_,aU.of hb1⟩,?_⟩
  refine dh (xs:=as.map V.ref) (fun j σ H'=>(∃x2,σ=[some (.ref y),some (.ref b),x2])/\j<=as.length/\Kx S H H'/\H' h=some (.lst (bs.map V.ref))/\H' b=some (.lst (as.map V.ref))/\wg S H' h bs i (20+150*i+j)) ⟨⟨_,rfl⟩,VS _,k1,hh1,hb1,un1⟩ (fun _ _ _ _ h=>aU.of h.2.2.2.2.1) ?_ ?_
  ·rintro j x σ H2 hx2 ⟨⟨x2,rfl⟩,jl,k2,hh2,hb2,un2⟩
   obtain⟨a,ha,rfl⟩:=br hx2
   have jb:=(Vj.mp ha).1
   obtain⟨_,as',hb2',_,al2⟩:=un2 i b (Vt _) hb
   cases Ah hb2 hb2'
   obtain⟨sa,ah,ab,es,hes,el⟩:=al2 a (Vk ha)
   x_go
   refine⟨.inl ⟨rfl,_,aU.of hes⟩,?_⟩
   x_go
   refine⟨zs2,fun t nt=>?_⟩
   generalize hE:upd H2 t _=H3
   obtain⟨ht,s3⟩:=bf nt hE
   clear hE
   refine⟨a,_,_,rfl,rfl,s3 _ _ hes,WN (show es.length<=99999 by omega) (by decide),?_⟩
   x_go
   refine⟨⟨_,rfl⟩,by omega,(k2.trans (Kx.of s3)).trans (Kx.upd sa (s3 _ _ hes)),by rw[ao (Ne.symm ah)];exact s3 _ _ hh2,by rw[ao (show b≠a from fun z=>ab (by rw[<- z];exact bm))];exact s3 _ _ hb2,?_⟩
   have u3:wg S (upd H3 a (.lst (es ++ [.ref t]))) h bs i (20+150*i+j+1):=wg.row ab (by rw[Vm,Wn];omega) (un2.same s3)
   exact u3
  ·rintro σ H2 ⟨⟨x2,rfl⟩,jl,k2,hh2,hb2,un2⟩
   rw[Vi]at un2
   x_go
   refine⟨.inl ⟨rfl,_,aU.of hb2⟩,?_⟩
   x_go
   refine⟨by decide,fun e ne=>?_⟩
   generalize hE:upd H2 e _=H3
   obtain⟨he,s3⟩:=bf ne hE
   clear hE
   x_go
   refine⟨b,_,_,rfl,rfl,s3 _ _ hb2,WN (show _<=99999 by rw[Vi];omega) (by decide),?_⟩
   x_go
   refine⟨⟨_,_,rfl⟩,ib,(k2.trans (Kx.of s3)).trans (Kx.upd sb (s3 _ _ hb2)),by rw[ao (Ne.symm bh)];exact s3 _ _ hh2,?_⟩
   have:=(un2.same s3).next (o:=.lst (as.map V.ref ++ [.ref e])) nd hb
   intro j' b' ij' hb'
   obtain⟨c1,as',c2,c3,c4⟩:=this j' b' ij' hb'
   refine⟨c1,as',c2,c3,fun a ha=>?_⟩
   obtain⟨d1,d2,d3,es,d4,d5⟩:=c4 a ha
   exact⟨d1,d2,d3,es,d4,by omega⟩
 ·rintro σ H1 ⟨⟨x1,x2,rfl⟩,il,k1,hh1,un1⟩
  have hy1:=k1.kt _ _ hy
  x_go
  refine⟨.inl ⟨rfl,_,aU.of hh1⟩,?_⟩
  x_go
  refine⟨by decide,fun e ne=>?_⟩
  generalize hE:upd H1 e _=H2
  obtain⟨he,s2⟩:=bf ne hE
  clear hE
  x_go
  refine⟨zs1,fun e2 ne2=>?_⟩
  generalize hE:upd H2 e2 _=H3
  obtain⟨he2,s3⟩:=bf ne2 hE
  clear hE
  x_go
  refine⟨h,_,_,rfl,rfl,s3 _ _ (s2 _ _ hh1),WN (show _<=99999 by rw[Vi];omega) (by decide),?_⟩
  x_go
  exact q _ ((k1.trans (Kx.of (s2.trans s3))).trans (Kx.upd sh (s3 _ _ (s2 _ _ hh1))))
theorem rS {f:Addr}{fd:FuncData}(F:eO K "_law_asked" "_law_asked" gy f fd) (mF:mg "_law_asked" = some (.ref f)) (bF:Binds K fd BP []) (T:Bl mg) (eH:bw P w K mg base "_law_asked_change" BP 6 (gk K)) (dP:JR P w K mg base) (m8:bw P w K mg base "mending" mQ 8 (qR K)) (f7:bw P w K mg base "_law_copied" v_ 1 (jU K)) (iJ:bw P w K mg base "mended" mQ 7 (mS K)) (yE:bw P w K mg base "done" A8 3 (z8 K)) (eu:JN P w K mg base) (uJ:bw P w K mg base "found" yp 5 (xr K)) (lR:bw P w K mg base "is_clean" mQ 7 (nZ K)) (cT:bw P w K mg base "_law_spoil_steps" v_ 1 (gr K)) (fC:Jj P w K mg base):bw P w K mg base "_law_asked" BP 9 (kP K):=by
 refine bw.of F mF bF b8 (fun vs H Q E h=>?_) (fun _ A _ _ H vs Q E hr h=>?_)
 ·obtain⟨y,w,R,X,es,way,z,k,rfl,_⟩:=h;rfl
 obtain⟨y,w,R,X,es,way,z,k,rfl,hY,b,el,w2,R2,hk,hz,hw,q⟩:=h
 have hu:=hr.units
 obtain⟨h0,hy,h3,hen,szx⟩:=id hY
 have w1:=b.w1
 have R1:=b.R1
 have smX:=b.sm w2 (by omega) (by omega)
 have dkX:=Qp b.cl b.nd
 have alX:(dB X).length=es.length:=by rw[<- tP (H:=H),(dG.flat b.nd b.cl w1 R1).length_eq]
 have e60:(2:Int)^60=1152921504606846976:=by decide
 refine⟨_,(ak (aH (i:=4) b8.nd rfl (Or.inl rfl) (bQ eH hr.mo (aa (pv 0) (aa (pv 1) (aa (pv 2) (aa (pv 3) aj ai) ai) ai) ai)))
   (ak (aH (i:=5) b8.nd rfl (Or.inl rfl) (b7 (aa (bQ f7 hr.mo (aa (pv 4) aj ai)) aj aF)))
   (ak (aH (i:=6) b8.nd rfl (Or.inl rfl) (bQ dP hr.mo (aa (pv 0) (aa (cP eW (pv 4) eY (dD ay)) aj aQ) ai)))
   (ak (aH (i:=7) b8.nd rfl (Or.inl rfl) (bQ m8 hr.mo (aa (pv 6) aj ai)))
   (ak (bT (gh VO VP VQ bL (pv 5) (aa (bQ f7 hr.mo (aa (pv 7) aj ai)) aj aF)))
   (ak (aH (i:=8) b8.nd rfl (Or.inl rfl) (b7 (aa (pv 6) (aa (bQ iJ hr.mo (aa (pv 6) aj ai)) (aa (bQ dP hr.mo (aa (pv 0) (aa (pv 4) aj ai) ai)) (aa (bQ yE hr.mo (aa (pv 0) (aa (bZ (aa bM (aa (aO bN ay (aO dM (bg cS (pv 0) ay (fun _ _=>rfl)) ay)) aj bK) aB)) aj dZ) ai)) (aa (bQ dP hr.mo (aa (pv 0) (aa (b7 aj) aj gG) ai)) aj aF) aF) aF) aF) ai)))
   (ak (aH (i:=5) b8.nd rfl (Or.inl rfl) (aO jx (aO jx (pv 5) (cN rfl (cF (sc:=av gy) (N:=Rj) (vs:=["_law_one"]) (fs:=[]) (js:=[]) (by z_go) rfl rfl) (aZ (pv 8)) (fun _ _ _ _=>aC (i:=0) (show(["_law_one"]:List Str).Nodup by z_go) rfl (Or.inl rfl)) (fun _ _ _ _=>fL) (fun _ _ _ _=>(bQ fC hr.mo (aa (pv 0) aj ai))))) (b7 (aa (bQ uJ hr.mo (aa (pv 6) (aa (pv 2) aj ai) ai)) (aa (bQ lR hr.mo (aa (pv 6) aj ai)) aj aF) aF))))
   (ak (eL V2 rfl (aZ (pv 8)) (aC (i:=9) b8.nd rfl (Or.inl rfl)) (az (bT (bQ eu hr.mo (aa (pv 9) aj ai)))))
   (ak (aH (i:=10) b8.nd rfl (Or.inl rfl) (uK (l8 (nH hu) (pv 4) (bg bI (pv 5) ay (fun _ _=>rfl)) (aX _)) (zg (l8 (nH hu) (pv 7) (bg bI (pv 5) ay (fun _ _=>rfl)) (aX _)))))
   (ak (bT (gh VO VP VQ bL (pv 5) (aa (uK (pv 10) (uK (bQ cT hr.mo (aa (pv 4) aj ai)) (zg (bQ cT hr.mo (aa (pv 7) aj ai))))) aj yZ)))
   (az (aP (pv 5))))))))))))),?_⟩
 rw[rO]
 x_go
 refine⟨y,w,R,X,es,way,z,k,rfl,hY,b,by omega,w2,R2,hk,hz,hw,fun D ss sts H1 nD hD hPh stp fr s1=>?_⟩
 have hP:P1 (gE H1) ss sts:=hPh.imp fun s st h=>h.same bP
 have sl:=hP.1
 have len:=stp.len
 x_go
 refine⟨D,ss,sts,rfl,hD,hP,by omega,fun D' ss' H2 nD' hD' hP' s2=>?_⟩
 x_go
 refine⟨zs1,fun T0 nT0=>?_⟩
 generalize hE:upd H2 T0 _=H3
 obtain⟨hT0,s3⟩:=bf nT0 hE
 clear hE
 have s13:=s2.trans s3
 have s03:=s1.trans s13
 x_go
 refine gp (aU.of (s13 _ _ hD)) fun L1 nL1=>?_
 rw[show(1:Int) =((1:Nat):Int) from rfl,iU]
 generalize hE:upd H3 L1 _=H4
 obtain⟨hL1,s4⟩:=bf nL1 hE
 clear hE
 have s14:=s13.trans s4
 have s04:=s1.trans s14
 have hP4:=hP.imp fun s st h=>h.same s14
 x_go
 refine⟨y,L1,w,R,X,ss.take 1,sts.take 1,rfl,hY.same s04,hL1,hP4.take 1,fun y1 h1 bs1 H5 hy1 t1 s5=>?_⟩
 have s15:=s14.trans s5
 have s05:=s04.trans s5
 obtain⟨rb1,rb2⟩:=G_ hP (sts.take 1) (R:Int) (fun st h=>WH h) (by omega) (by omega)
 obtain⟨Q1,eQ⟩ : ∃n:Nat,(sts.take 1).foldl u6 (R:Int) =(n:Int):=⟨((sts.take 1).foldl u6 (R:Int)).toNat,by omega⟩
 rw[eQ]at hy1 rb1 rb2
 have gs1:=stp.gs
 have enj:=B8 (hen.same s1) hP
 have en1:gm H5 (rK X sts 1):=(enj 1).same s15
 have sm1:=CL smX gs1 1
 have dk1:Im H1 (rK X sts 1):=IT (dkX.keep (fun _ _ e=>s1 _ _ e) hen) gs1 1
 have al1:(dB (rK X sts 1)).length<=28:=by
  have:=tM (sts.take 1) X
  have:=S_ gs1
  unfold rK
  omega
 have ey1:yD H1 (rK X sts 1) =((sts.map (n_ H1)).take 1).foldl Hl (yD H X):=by
  unfold rK
  rw[vM,Xd,dF s1 hen]
 have eq1:((sts.map (n_ H1)).take 1).foldl zb (R:Int) =(Q1:Int):=by rw[<- Xd,<- pN,eQ]
 have eyf:yD H1 (sts.foldl lK X) =(sts.map (n_ H1)).foldl Hl (yD H X):=by rw[vM,dF s1 hen]
 have eqf:(sts.map (n_ H1)).foldl zb (R:Int)=sts.foldl u6 (R:Int):=by rw[<- pN]
 have enf:gm H1 (sts.foldl lK X):=by have:=enj sts.length;unfold rK at this;rw[VA]at this;exact this
 have smf:Sm (sts.foldl lK X):=by have:=CL smX gs1 sts.length;unfold rK at this;rw[VA]at this;exact this
 have szS:∀{Z:List (List (List V))},Sm Z->Gh Z:=fun {Z} s=>?szx
 case szx=>exact⟨by have:=s.1;omega,fun rows hr=>⟨by have:=(s.2 rows hr).1;omega,fun es he=>by have:=(s.2 rows hr).2 es he;omega⟩⟩
 have sz1:=szS sm1
 have t1:T3 (fun b=>H4 b=none) H5 h1 bs1 (rK X sts 1):=t1
 generalize hX1:rK X sts 1=X1 at t1 en1 sm1 dk1 al1 ey1 sz1
 have hN1:Yd (dW H4 H5) y1 w Q1 X1:=OF s5 hy1 t1 en1 sz1
 have hY5:=hN1.same (cK fun _ _ e=>s5 _ _ e)
 have spo1:=t1.spo sm1
 have st1:(iV Q1 (yD H5 X1)).length<=63:=Vv BE (by rw[tP];omega)
 x_go
 refine⟨y1,w,Q1,X1,rfl,hY5,w1,w2,by omega,by omega,by have:=sm1.1;omega,fun i=>sm1.ok en1 i,by omega,st1,fun D2 ss2 Z H6 nD2 hD2 ez cl hP6h fr2 s6=>?_⟩
 have s16:=s15.trans s6
 have s06:=s05.trans s6
 have hP6:P1 (gE H6) ss2 (mC H6 Q1 X1 Z):=hP6h.imp fun s st h=>h.same bP
 have zok:=oK cl w1 w2 (by omega) ez
 have len2:ss2.length<=20000:=by
  rw[hP6.1]
  unfold mC wm
  rw[Vm,Vi,V3]
  have:=j4 (H:=H6) (X:=X1) (fun i=>(zok i).1) Q1
  have:=oQ (X:=X1) (R:=Q1) (X1.length-Q1)
  have:=sm1.1
  omega
 have hT06:=s6 _ _ (s5 _ _ (s4 _ _ hT0))
 x_go
 refine⟨.inl ⟨rfl,_,aU.of hT06⟩,?_⟩
 x_go
 refine⟨D2,ss2,_,rfl,hD2,hP6,len2,fun D2' ss2' H7 nD2' hD2' hP7 s7=>?_⟩
 have hT07:=s7 _ _ hT06
 have s17:=s16.trans s7
 have s07:=s06.trans s7
 x_go
 refine⟨T0,_,_,rfl,rfl,hT07,(by show 1<sizeLine;decide),?_⟩
 generalize hE:upd H7 T0 _=H8
 have hT08:H8 T0=some (.lst [.ref D',.ref D2']):=by rw[<- hE,aq];rfl
 have k78:Kx (fun b=>b=T0) H7 H8:=by rw[<- hE];exact Kx.upd rfl hT07
 have up:∀{N:Hp},aD N H7->N T0=none->aD N H8:=fun {N} s n=>by rw[<- hE];exact jq s n
 clear hE
 have n0:H T0=none:=(s1.trans s2).free nT0
 have n1:H1 T0=none:=s2.free nT0
 have hT04:=s4 _ _ hT0
 have hT05:=s5 _ _ hT04
 have s08:=up s07 n0
 have pS:=DU s1 hP fr.2
 have dS:dW H H1 D=some (.lst (ss.map V.ref)):=by rw[e8 nD];exact hD
 have sS:aD (dW H H1) H8:=up ((cK fun _ _ e=>s1 _ _ e).trans s17) (by rw[e8 n0];exact n1)
 have d1:dW H1 H2 D'=some (.lst (ss'.map V.ref)):=by rw[e8 nD'];exact hD'
 have sN1:aD (dW H1 H2) H8:=up ((cK fun _ _ e=>s2 _ _ e).trans ((((s3.trans s4).trans s5).trans s6).trans s7)) (by rw[e8 n1];exact nT0)
 have sNh:aD (dW H4 H5) H8:=up ((cK fun _ _ e=>s5 _ _ e).trans (s6.trans s7)) (fS hT04)
 have pA:=DU s6 hP6 fr2.2
 have dA:dW H5 H6 D2=some (.lst (ss2.map V.ref)):=by rw[e8 nD2];exact hD2
 have sA:aD (dW H5 H6) H8:=up ((cK fun _ _ e=>s6 _ _ e).trans s7) (fS hT05)
 have d2:dW H6 H7 D2'=some (.lst (ss2'.map V.ref)):=by rw[e8 nD2'];exact hD2'
 have sN2:aD (dW H6 H7) H8:=up (cK fun _ _ e=>s7 _ _ e) (fS hT06)
 have spo8:=(spo1.same (s6.trans s7)).kx k78 fun b hb z=>by
  have:=hb.1
  rw[z,hT04]at this;cases this
 have hY8:=hN1.same sNh
 have kt18:∀t xs,H1 t=some (.tup xs)->H8 t=some (.tup xs):=fun t xs e=>k78.kt _ _ (s17 _ _ e)
 have en1':=enj 1
 rw[hX1]at en1'
 have en8:=en1'.keep kt18
 have ey8:yD H8 X1=yD H1 X1:=cX kt18 en1'
 have ey5:yD H5 X1=yD H1 X1:=dF s15 en1'
 x_go
 refine⟨y1,w,Q1,X1,rfl,hY8,w1,w2,by omega,by omega,by omega,by rw[ey8,<- ey5];exact st1,fun y2 h2 rs2 bss2 H9 hy2 sy2 ez2 sq2 cl2 s9=>?_⟩
 have s09:=s08.trans s9
 x_go
 refine⟨y,D,w,R,X,ss,sts,rfl,hY.same s09,(sS.trans s9) _ _ dS,pS.imp fun s st h=>h.same (sS.trans s9),fun y3 h3' bs3 H10 hy3 t3 s10=>?_⟩
 have s010:=s09.trans s10
 have hy10:=s010 _ _ hy
 x_go
 refine⟨zs2,fun tp ntp=>?_⟩
 rw[show 1+(R:Int)%5 =((1+R%5:Nat):Int) by omega]
 generalize hE:upd H10 tp _=H11
 obtain⟨htp,s11⟩:=bf ntp hE
 clear hE
 have s011:=s010.trans s11
 x_go
 refine⟨y,tp,w,R,X,.rooms (1+R%5),rfl,hY.same s011,⟨htp,by omega,by omega⟩,fun y4 h4' bs4 H12 hy4 t4 s12=>?_⟩
 have s012:=s011.trans s12
 x_go
 refine⟨by decide,fun e0 ne0=>?_⟩
 generalize hE:upd H12 e0 _=H13
 obtain⟨he0,s13'⟩:=bf ne0 hE
 clear hE
 have s013:=s012.trans s13'
 x_go
 refine⟨y,e0,w,R,X,[],[],rfl,hY.same s013,he0,P1.nil,fun y5 h5' bs5 H14 hy5 t5 s14'=>?_⟩
 have s014:=s013.trans s14'
 x_go
 refine⟨(by show 5<=sizeLine;decide),fun Ly nLy=>?_⟩
 generalize hE:upd H14 Ly _=H15
 obtain⟨hLy,s15'⟩:=bf nLy hE
 clear hE
 x_go
 have s815:=((((((s9.trans s10).trans s11).trans s12).trans s13').trans s14').trans s15')
 have s015:=s08.trans s815
 have X2c:=cl2
 rw[ey8]at cl2
 have hY2:Yd H9 y2 w Q1 (XA H9 bss2):=Ab ⟨h2,hy2,sy2.r3,ez2,sq2⟩ cl2 w1 w2 (by omega) (by rw[<- ey5];omega)
 have zok2:=oK cl2 w1 w2 (by rw[<- ey5];omega) ez2
 have kt19:∀t xs,H1 t=some (.tup xs)->H9 t=some (.tup xs):=fun t xs e=>s9 _ _ (kt18 _ _ e)
 have hY3:Yd H10 y3 w (sts.foldl u6 (R:Int)) (sts.foldl lK X):=uw hy3 t3 (enf.keep fun t xs e=>s10 _ _ (kt19 _ _ e)) (szS smf) (fun _ _ _ e=>e) fun _ _ e=>e
 have smt:Sm (trim X):=smX.step (st:=.rooms 1) fun r a es e=>by cases e
 have ent:gm H (trim X):=fun rows hr=>hen rows (cj.1 rows hr)
 have hY4:Yd H12 y4 w ((1+R%5:Nat):Int) (trim X):=uw hy4 t4 (ent.same s012) (szS smt) (fun _ _ _ e=>e) fun _ _ e=>e
 have hY5':Yd H14 y5 w R X:=uw hy5 t5 (hen.same s014) szx (fun _ _ _ e=>e) fun _ _ e=>e
 have sp2:=sy2.spo' cl2 w1 w2 (by omega) (by rw[<- ey5];omega) ez2
 have sp3:=t3.spo smf
 have sp4:=T3.spo (X:=trim X) t4 smt
 have sp5:=T3.spo (X:=X) t5 smX
 obtain⟨its,hits⟩ : ∃its:List (Addr×Int×List (List (List V))),its=[(y1,(Q1:Int),X1),(y2,(Q1:Int),XA H9 bss2),(y3,sts.foldl u6 (R:Int),sts.foldl lK X),(y4,((1+R%5:Nat):Int),trim X),(y5,(R:Int),X)]:=⟨_,rfl⟩
 have hLy':H15 Ly=some (.lst ((its.map fun it=>it.1).map V.ref)):=by rw[hits];exact hLy
 have hYs:∀it∈its,Yd H15 it.1 w it.2.1 it.2.2:=by
  rw[hits]
  exact E5 (hY8.same s815) (hY2.same (((((s10.trans s11).trans s12).trans s13').trans s14').trans s15')) (hY3.same ((((s11.trans s12).trans s13').trans s14').trans s15')) (hY4.same ((s13'.trans s14').trans s15')) (hY5'.same s15')
 have il:its.length=5:=by rw[hits];rfl
 refine⟨Ly,rfl,⟨_,aU.of hLy'⟩,fun C nC=>?_⟩
 refine aY (xs:=(its.map fun it=>it.1).map V.ref) (fun j σ' ys H'=>(∃x,σ'=[x])/\aD H15 H'/\H' C=some (.lst ys)/\∃cs:List Addr,ys=cs.map V.ref/\P1 (fun c it=>Yd (hid C (dW H15 H')) c w it.2.1 it.2.2) cs (its.take j)) C ⟨⟨_,rfl⟩,aG nC _,aq,[],rfl,P1.nil⟩ (fun i σ' ys H' _ h=>aU.of (h.2.1 _ _ hLy')) ?_ ?_
 ·rintro j x σ' ys Ha hx ⟨⟨z1,rfl⟩,sa,hC,cs,rfl,hPc⟩
  obtain⟨a,ha,rfl⟩:=br hx
  rw[Vp]at ha
  obtain⟨it,hit,rfl⟩:=Ws.mp ha
  have im:=Vk hit
  have cl':=hPc.1
  rw[Vw]at cl'
  have hYa:=(hYs it im).same sa
  obtain⟨_,_,_,ena,sza⟩:=id hYa
  x_go
  refine⟨it.1,w,it.2.1,it.2.2,rfl,hYa,fun y' h' bs' Hb ny' hy' t' sb=>?_⟩
  refine⟨sb _ _ hC,by rw[Vi];exact gw (by omega),⟨_,rfl⟩,fun b o e=>by rw[ao (au e nC)];exact sb _ _ (sa _ _ e),aq,cs ++ [y'],by rw[Vo];rfl,?_⟩
  rw[aV hit]
  refine P1.snoc (hPc.imp fun c it h=>h.same (N4 fun b u n e=>by rw[ao n];exact sb _ _ e)) ?_
  refine uw hy' t' (ena.same sb) sza (fun b xs n e=>?_) fun t xs e=>?_
  ·have bC:b≠C:=fun z=>by rw[z,hC]at n;cases n
   rw[cH bC,e8 (sa.free n),ao bC];exact e
  ·have tC:t≠C:=ju e (sb _ _ hC) (by intro z;cases z)
   rw[cH tC]
   cases c:H15 t with
   | none=>rw[e8 c,ao tC];exact e
   | some u =>
    have:=sb _ _ (sa _ _ c)
    rw[e]at this;cases this
    exact l_ c
 rintro σ' ys H16 ⟨⟨z1,rfl⟩,s16',hC,cs,rfl,hPc⟩
 rw[Vi,Vi,VA]at hPc
 have hPc:P1 (fun c it=>Yd (dW H15 H16) c w it.2.1 it.2.2) cs its:=hPc.imp fun c it h=>h.same bP
 have csl:=hPc.1
 have hT016:=s16' _ _ (s815 _ _ hT08)
 x_go
 refine⟨T0,C,_,_,rfl,rfl,hT016,hC,Vv (show _<=1000 by rw[Vi];simp;omega) (by decide),fun T1 nT1=>?_⟩
 generalize hE:upd H16 T1 _=H17
 obtain⟨hT1,s17'⟩:=bf nT1 hE
 clear hE
 have s817:=(s815.trans s16').trans s17'
 x_go
 refine⟨y1,w,Q1,k,X1,rfl,hY8.same s817,dk1.keep (fun t xs e=>s817 _ _ (kt18 _ _ e)) en1',by omega,by omega,fun tf H18 htf s18=>?_⟩
 have s818:=s817.trans s18
 x_go
 refine⟨y1,w,Q1,X1,rfl,hY8.same s818,w1,w2,by omega,by omega,by omega,fun bb H19 hbb s19=>?_⟩
 x_go
 refine⟨zs2,fun L2 nL2=>?_⟩
 generalize hE:upd H19 L2 _=H20
 obtain⟨hL2,s20⟩:=bf nL2 hE
 clear hE
 have s1720:=(s18.trans s19).trans s20
 x_go
 refine⟨T1,L2,_,_,rfl,rfl,s1720 _ _ hT1,hL2,Vv (show _<=1000 by rw[Vm,Vi];simp;omega) (by decide),fun T nT=>?_⟩
 generalize hE:upd H20 T _=H21
 obtain⟨hT,s21⟩:=bf nT hE
 clear hE
 x_go
 have s1721:=s1720.trans s21
 have s821:=s817.trans s1721
 have s1521:=(s16'.trans s17').trans s1721
 have s1621:=s17'.trans s1721
 have hT':H21 T=some (.lst (V.ref D'::V.ref D2'::(cs.map V.ref ++ [.ref tf,.bl bb]))):=hT
 have s1215:=(s13'.trans s14').trans s15'
 obtain⟨jts,hjts⟩ : ∃jts:List QD,jts=[⟨y1,h1,w,(Q1:Int),bs1,Iv H4 H5⟩,⟨y2,h2,w,(Q1:Int),rs2,Iv H8 H9⟩,⟨y3,h3',w,sts.foldl u6 (R:Int),bs3,Iv H9 H10⟩,⟨y4,h4',w,((1+R%5:Nat):Int),bs4,Iv H11 H12⟩,⟨y5,h5',w,(R:Int),bs5,Iv H13 H14⟩]:=⟨_,rfl⟩
 have hLj:H21 Ly=some (.lst ((jts.map fun it=>it.y).map V.ref)):=by rw[hjts];exact s1521 _ _ hLy
 have l5:∀x,Iv H4 H5 x->∀xs,H5 x=some (.lst xs)->H8 x=some (.lst xs):=fun x h xs e=>k78.ke _ _ ((s6.trans s7) _ _ e) fun z=>by
  have:=h.1
  rw[z,hT04]at this;cases this
 have s911:=s10.trans s11
 have s1013:=(s11.trans s12).trans s13'
 have s1213:=s13'
 have jall:∀it∈jts,H21 it.y=some (.tup [.int it.w,.int it.R,.ref it.h])/\BX it.S H21 it.h it.bs:=by
  rw[hjts]
  exact E5 (p:=fun it:QD=>H21 it.y=some (.tup [.int it.w,.int it.R,.ref it.h])/\BX it.S H21 it.h it.bs) ⟨s821 _ _ (k78.kt _ _ ((s6.trans s7) _ _ hy1)),spo8.same s821⟩ ⟨s1521 _ _ (s1215 _ _ (s12 _ _ (s911 _ _ hy2))),sp2.same (((s911.trans s12).trans s1215).trans s1521)⟩ ⟨s1521 _ _ (s1215 _ _ ((s11.trans s12) _ _ hy3)),sp3.same (((s11.trans s12).trans s1215).trans s1521)⟩ ⟨s1521 _ _ (s1215 _ _ hy4),sp4.same (s1215.trans s1521)⟩ ⟨s1521 _ _ (s15' _ _ hy5),sp5.same (s15'.trans s1521)⟩
 have jdj:jts.Pairwise fun a b=>∀x,a.S x->¬ b.S x:=by
  rw[hjts]
  exact UR (fun x h=>h.apart (l5 x h)) (fun x h=>h.apart fun xs e=>s9 _ _ (l5 x h xs e)) (fun x h=>h.apart fun xs e=>(s9.trans s911) _ _ (l5 x h xs e)) (fun x h=>h.apart fun xs e=>(s9.trans (s10.trans s1013)) _ _ (l5 x h xs e)) (fun x h=>h.apart fun xs e=>e) (fun x h=>h.apart fun xs e=>s911 _ _ e) (fun x h=>h.apart fun xs e=>(s10.trans s1013) _ _ e) (fun x h=>h.apart fun xs e=>s11 _ _ e) (fun x h=>h.apart fun xs e=>s1013 _ _ e) (fun x h=>h.apart fun xs e=>s13' _ _ e)
 have j14:∀it∈jts,∀b,it.S b->∃xs,H14 b=some (.lst xs):=by
  rw[hjts]
  refine E5 (p:=fun it:QD=>∀b,it.S b->∃xs,H14 b=some (.lst xs)) (fun b h=>?_) (fun b h=>?_) (fun b h=>?_) (fun b h=>?_) (fun b h=>h.2)
  ·obtain⟨xs,e⟩:=h.2
   exact⟨xs,((s9.trans (s10.trans s1013)).trans s14') _ _ (l5 b h xs e)⟩
  ·obtain⟨xs,e⟩:=h.2
   exact⟨xs,((s10.trans s1013).trans s14') _ _ e⟩
  ·obtain⟨xs,e⟩:=h.2
   exact⟨xs,(s1013.trans s14') _ _ e⟩
  ·obtain⟨xs,e⟩:=h.2
   exact⟨xs,(s13'.trans s14') _ _ e⟩
 have jnew:∀{N:Hp},(∀b,Iv H4 H5 b->N b=none)->aD N H8->∀it∈jts,∀b,it.S b->N b=none:=fun {N} h s8=>by
  rw[hjts]
  exact E5 (p:=fun it:QD=>∀b,it.S b->N b=none) h (fun b z=>z.new s8) (fun b z=>z.new (s8.trans s9)) (fun b z=>z.new (s8.trans (s9.trans s911))) (fun b z=>z.new (s8.trans (s9.trans (s10.trans s1013))))
 have jlen:jts.length=5:=by rw[hjts];rfl
 have jout:∀{x:Addr},H14 x=none->¬ ∃it∈jts,it.S x:=fun {x} n z=>by
  obtain⟨it,hm,h⟩:=z
  obtain⟨xs,e⟩:=j14 it hm x h
  rw[e]at n;cases n
 refine⟨Ly,rfl,⟨_,aU.of hLj⟩,?_⟩
 refine dh (xs:=(jts.map fun it=>it.y).map V.ref) (fun i σ H'=>(∃x9,σ=[some (.ref y),some (.str way),some (.int k),some (.str z),some (.ref D),some (.ref T),some (.ref y1),some (.ref D2),some (.ref Ly),x9,none])/\Kx (fun b=>∃it∈jts.take i,it.S b) H21 H') ⟨⟨_,rfl⟩,Kx.refl⟩ (fun _ _ _ _ h=>aU.of (h.2.ke _ _ hLj fun z=>by
  obtain⟨it,hm,hz⟩:=z
  exact jout nLy ⟨it,WH hm,hz⟩)) ?_ ?_
 ·rintro i x σ Ha hx ⟨⟨x9,rfl⟩,ka⟩
  obtain⟨a,ha,rfl⟩:=br hx
  rw[Vp]at ha
  obtain⟨it,hit,rfl⟩:=Ws.mp ha
  have im:=Vk hit
  obtain⟨g1,g2⟩:=jall it im
  have dj:∀b,it.S b->¬ ∃it'∈jts.take i,it'.S b:=fun b hb z=>by
   obtain⟨it',hm,hz⟩:=z
   have pj:=jdj
   rw[<- Wh i jts,mh hit]at pj
   exact(List.pairwise_append.mp pj).2.2 it' hm it (Vy ..) b hz hb
  x_go
  refine⟨it.y,it.h,it.w,it.R,it.bs,it.S,rfl,ka.kt _ _ g1,g2.kx ka dj,fun Hb kb=>?_⟩
  x_go
  refine⟨⟨_,rfl⟩,?_⟩
  rw[aV hit]
  exact(ka.weak fun b ⟨it',hm,hz⟩=>⟨it',Wr _ hm,hz⟩).trans (kb.weak fun b hb=>⟨it,VD _ (VM.mpr rfl),hb⟩)
 ·rintro σ H22 ⟨⟨x9,rfl⟩,k22⟩
  rw[Vi,Vi,VA]at k22
  have sm22:∀{N:Hp},aD N H21->(∀it∈jts,∀b,it.S b->N b=none)->aD N H22:=fun {N} s d=>k22.sm s fun b ⟨it,hm,hz⟩=>d it hm b hz
  have hT22:=k22.ke _ _ hT' fun z=>jout ((((s15'.trans s16').trans s17').trans s1720).free nT) z
  have uS:aD (dW H H1) H22:=sm22 (sS.trans s821) (jnew (fun b z=>z.new ((cK fun _ _ e=>s1 _ _ e).trans s14)) sS)
  have u1:aD (dW H1 H2) H22:=sm22 (sN1.trans s821) (jnew (fun b z=>z.new ((cK fun _ _ e=>s2 _ _ e).trans (s3.trans s4))) sN1)
  have uA:aD (dW H5 H6) H22:=sm22 (sA.trans s821) (jnew (fun b z=>z.old fun xs e=>e) sA)
  have u2:aD (dW H6 H7) H22:=sm22 (sN2.trans s821) (jnew (fun b z=>z.old fun xs e=>s6 _ _ e) sN2)
  have u0:aD H H22:=sm22 (s08.trans s821) (jnew (fun b z=>z.new s04) s08)
  have u3:aD (dW H15 H16) H22:=sm22 ((cK fun _ _ e=>s16' _ _ e).trans s1621) fun it hm b hz=>by
   obtain⟨xs,e⟩:=j14 it hm b hz
   exact fS (s15' _ _ e)
  have gS:=iL (K:=K) (uS _ _ dS) (pS.imp fun s st h=>h.same uS)
  have gS':=iL (K:=K) (u1 _ _ d1) (hP'.imp fun s st h=>h.same u1)
  have gA:=iL (K:=K) (uA _ _ dA) (pA.imp fun s st h=>h.same uA)
  have gA':=iL (K:=K) (u2 _ _ d2) (hP7.imp fun s st h=>h.same u2)
  x_go
  refine cG (aU.of hT22) (v:=.ref D') (ie (j:=0) rfl) ?_
  x_go
  refine⟨_,_,gS.1,gS'.1,gS.shaped (by omega),gS'.shaped (by omega),?_⟩
  rw[gS.refl]
  x_go
  refine cG (aU.of hT22) (v:=.ref D2') (ie (j:=1) rfl) ?_
  x_go
  refine⟨_,_,gA.1,gA'.1,gA.shaped (by omega),gA'.shaped (by omega),?_⟩
  rw[gA.refl]
  x_go
  have kt122:∀t xs,H1 t=some (.tup xs)->H22 t=some (.tup xs):=fun t xs e=>k22.kt _ _ (s821 _ _ (kt18 _ _ e))
  have kt622:∀t xs,H6 t=some (.tup xs)->H22 t=some (.tup xs):=fun t xs e=>k22.kt _ _ (s821 _ _ (k78.kt _ _ (s7 _ _ e)))
  have lr1:bB H22 ss=bB H1 ss:=bW kt122 (cB hP)
  have lr2:bB H22 ss2=bB H6 ss2:=bW kt622 (cB hP6)
  have v1:∀b,(b=D\/b∈bB H22 ss)->Iv H H1 b:=fun b hb=>by
   rw[lr1]at hb
   rcases hb with rfl|hb
   ·exact⟨nD,_,hD⟩
   ·obtain⟨es,e,_⟩:=qQ hP b hb
    exact⟨fr.2 b hb,_,e⟩
  have v2:∀b,(b=D2\/b∈bB H22 ss2)->Iv H5 H6 b:=fun b hb=>by
   rw[lr2]at hb
   rcases hb with rfl|hb
   ·exact⟨nD2,_,hD2⟩
   ·obtain⟨es,e,_⟩:=qQ hP6 b hb
    exact⟨fr2.2 b hb,_,e⟩
  have w15:∀b,Iv H H1 b->∀xs,H1 b=some (.lst xs)->H15 b=some (.lst xs):=fun b hb xs e=>s815 _ _ (k78.ke _ _ (s17 _ _ e) fun z=>by rw[z,n1]at e;cases e)
  have x15:∀b,Iv H5 H6 b->∀xs,H6 b=some (.lst xs)->H15 b=some (.lst xs):=fun b hb xs e=>s815 _ _ (k78.ke _ _ (s7 _ _ e) fun z=>by
   have:=hb.1
   rw[z,hT05]at this;cases this)
  have s1520:=(s16'.trans s17').trans s1720
  have outT:∀{b:Addr},(∃xs,H15 b=some (.lst xs))->T≠b:=fun {b} ⟨xs,e⟩ z=>by rw[z,s1520 _ _ e]at nT;cases nT
  refine⟨.inl ⟨rfl,_,aU.of hT22⟩,?_⟩
  x_go
  refine⟨D,ss,sts,rfl,uS _ _ dS,pS.imp fun s st h=>h.same uS,by omega,by rw[lr1];exact fr.1,by rw[lr1];exact Ac hPh,fun H23 k23=>?_⟩
  have hT23:=k23.ke _ _ hT22 fun z=>by
   obtain⟨xs,e⟩:=(v1 T z).2
   exact outT ⟨xs,w15 T (v1 T z) xs e⟩ rfl
  have a0:=k23.sm u0 fun b hb=>(v1 b hb).1
  have a1:=k23.sm u1 fun b hb=>(v1 b hb).old fun xs e=>e
  have aA:=k23.sm uA fun b hb=>(v1 b hb).old fun xs e=>s15 _ _ e
  have a2:=k23.sm u2 fun b hb=>(v1 b hb).old fun xs e=>s16 _ _ e
  have a3:=k23.sm u3 fun b hb=>(v1 b hb).old (w15 b (v1 b hb))
  have kt623:∀t xs,H6 t=some (.tup xs)->H23 t=some (.tup xs):=fun t xs e=>k23.kt _ _ (kt622 _ _ e)
  have lr3:bB H23 ss2=bB H6 ss2:=bW kt623 (cB hP6)
  x_go
  refine⟨D2,ss2,_,rfl,aA _ _ dA,pA.imp fun s st h=>h.same aA,len2,by rw[lr3];exact fr2.1,by rw[lr3];exact Ac hP6h,fun H24 k24=>?_⟩
  rw[lr3,<- lr2]at k24
  have hT24:=k24.ke _ _ hT23 fun z=>by
   obtain⟨xs,e⟩:=(v2 T z).2
   exact outT ⟨xs,x15 T (v2 T z) xs e⟩ rfl
  have b0:=k24.sm a0 fun b hb=>(v2 b hb).new s05
  have b1:=k24.sm a1 fun b hb=>(v2 b hb).new ((cK fun _ _ e=>s2 _ _ e).trans ((s3.trans s4).trans s5))
  have b2:=k24.sm a2 fun b hb=>(v2 b hb).old fun xs e=>e
  have b3:=k24.sm a3 fun b hb=>(v2 b hb).old (x15 b (v2 b hb))
  have csl5:cs.length=5:=by rw[csl,il]
  x_go
  refine⟨T,_,_,rfl,rfl,hT24,WN (show _<=100 by simp;omega) (by decide),?_⟩
  x_go
  generalize hE:upd H24 T _=H25
  have hT25:H25 T=some (.lst (V.ref D'::V.ref D2'::(cs.map V.ref ++ [.ref tf,.bl bb]) ++ [.bl true])):=by rw[<- hE,aq]
  have up5:∀{N:Hp},aD N H24->aD N H20->aD N H25:=fun {N} s s'=>by rw[<- hE];exact jq s (s'.free nT)
  have kt25:∀t xs,H24 t=some (.tup xs)->H25 t=some (.tup xs):=fun t xs e=>by rw[<- hE,ao (ju e hT24 (by intro z;cases z))];exact e
  clear hE
  have s820:=s817.trans s1720
  have c0:=up5 b0 (s08.trans s820)
  have c1'':=up5 b1 (sN1.trans s820)
  have c2'':=up5 b2 (sN2.trans s820)
  have c3'':=up5 b3 ((cK fun _ _ e=>s16' _ _ e).trans (s17'.trans s1720))
  have kG:∀t xs,H25 t=some (.tup xs)->dW H H25 t=some (.tup xs):=fun t xs e=>qP c0 e
  have c1':aD (dW H1 H2) (dW H H25):=zM c0 c1'' fun b o e=>(Di e).imp (fun n=>s1.free n) id
  have c2':aD (dW H6 H7) (dW H H25):=zM c0 c2'' fun b o e=>(Di e).imp (fun n=>s06.free n) id
  have c3':aD (dW H15 H16) (dW H H25):=zM c0 c3'' fun b o e=>(Di e).imp (fun n=>s015.free n) id
  have nTH:H T=none:=(s08.trans s820).free nT
  have kt2125:∀t xs,H21 t=some (.tup xs)->dW H H25 t=some (.tup xs):=fun t xs e=>kG _ _ (kt25 _ _ (k24.kt _ _ (k23.kt _ _ (k22.kt _ _ e))))
  have kt025:∀t xs,H t=some (.tup xs)->dW H H25 t=some (.tup xs):=fun t xs e=>l_ e
  have kt825:∀t xs,H8 t=some (.tup xs)->dW H H25 t=some (.tup xs):=fun t xs e=>kt2125 _ _ (s821 _ _ e)
  have kt125:∀t xs,H1 t=some (.tup xs)->dW H H25 t=some (.tup xs):=fun t xs e=>kt825 _ _ (kt18 _ _ e)
  have kt625:∀t xs,H6 t=some (.tup xs)->dW H H25 t=some (.tup xs):=fun t xs e=>kt825 _ _ (k78.kt _ _ (s7 _ _ e))
  have kt925:∀t xs,H9 t=some (.tup xs)->dW H H25 t=some (.tup xs):=fun t xs e=>kt2125 _ _ (s1521 _ _ (s1215 _ _ (s12 _ _ (s911 _ _ e))))
  have kt117:∀t xs,H1 t=some (.tup xs)->H17 t=some (.tup xs):=fun t xs e=>s817 _ _ (kt18 _ _ e)
  have kt118:∀t xs,H1 t=some (.tup xs)->H18 t=some (.tup xs):=fun t xs e=>s18 _ _ (kt117 _ _ e)
  obtain⟨a1',a2',a3',a4',a5',rfl⟩ : ∃a1 a2 a3 a4 a5,cs=[a1,a2,a3,a4,a5]:=by
   match cs,csl5 with
   | [a1,a2,a3,a4,a5],_=>exact⟨a1,a2,a3,a4,a5,rfl⟩
  have gc:∀(i:Nat) (a:Addr) (it:Addr×Int×List (List (List V))),[a1',a2',a3',a4',a5'][i]? = some a->its[i]? = some it->GD K (dW H H25) 5 (.ref a) (pY w it.2.1 (yD (dW H H25) it.2.2)):=fun i a it e1 e2=>Yd.pd (Yd.same c3' (hPc.2 i a it e1 e2))
  have g1:=iL (K:=K) (c1' _ _ d1) (hP'.imp fun s st h=>h.same c1')
  have g2:=iL (K:=K) (c2' _ _ d2) (hP7.imp fun s st h=>h.same c2')
  rw[jG kt125 (DX hP)]at g1
  rw[jG kt625 (DX hP6),Jw]at g2
  have eX6:yD H6 X1=yD H1 X1:=dF s16 en1'
  have eZ:yD H6 Z=yD H9 (XA H9 bss2):=cl.uniq qc (by rw[ey5];exact cl2)
  rw[eX6,eZ]at g2
  have q1:=gc 0 a1' (y1,(Q1:Int),X1) rfl (by rw[hits];rfl)
  have q2:=gc 1 a2' (y2,(Q1:Int),XA H9 bss2) rfl (by rw[hits];rfl)
  have q3:=gc 2 a3' (y3,sts.foldl u6 (R:Int),sts.foldl lK X) rfl (by rw[hits];rfl)
  have q4:=gc 3 a4' (y4,((1+R%5:Nat):Int),trim X) rfl (by rw[hits];rfl)
  have q5:=gc 4 a5' (y5,(R:Int),X) rfl (by rw[hits];rfl)
  dsimp only at q1 q2 q3 q4 q5
  rw[cX kt125 en1']at q1
  rw[cX kt925 ez2]at q2
  rw[cX kt125 enf,eyf,<- eqf]at q3
  rw[show yD (dW H H25) (trim X)=trim (yD H X) by rw[<- cX kt025 hen];exact lY jj X,show((1+R%5:Nat):Int)=1+(R:Int)%5 by omega]at q4
  rw[cX kt025 hen]at q5
  have en17:∀es∈bJ X1 k Q1,∀v∈es,En H17 v:=fun es he v hv=>p9 (en1'.keep kt117) es he v hv
  have sok:=Cf en17
  have efn:aL H17 (bJ X1 k Q1)=qh (yD H1 X1) (aE k Q1).toNat:=by
   rw[<- cX kt117 en1',jF];rfl
  rw[efn]at htf sok
  have gt:GD K (dW H H25) 5 (.ref tf) (.tuple [oD (rB k (qh (yD H1 X1) (aE k Q1).toNat)).1,.int (rB k (qh (yD H1 X1) (aE k Q1).toNat)).2]):=GD.tup (kt2125 _ _ (s21 _ _ (s20 _ _ (s19 _ _ htf)))) (.cons (S3 fun z hz=>An sok hz) (.cons (.int _) .nil))
  rw[cX kt118 en1']at hbb
  have hT25':dW H H25 T=some (.lst [.ref D',.ref D2',.ref a1',.ref a2',.ref a3',.ref a4',.ref a5',.ref tf,.bl bb,.bl true]):=by rw[e8 nTH];exact hT25
  refine q T _ H25 nTH (GD.lst (n:=8) hT25' (.cons (g1.mono (by omega)) (.cons (g2.mono (by omega)) (.cons (q1.mono (by omega)) (.cons (q2.mono (by omega)) (.cons (q3.mono (by omega)) (.cons (q4.mono (by omega)) (.cons (q5.mono (by omega)) (.cons (gt.mono (by omega)) (.cons (Hu _) (.cons (Hu _) .nil))))))))))) ⟨sts.map (n_ H1),Q1,yD H1 X1,yD H9 (XA H9 bss2),bb,stp.ch,eq1,ey1,cl2,hbb,rfl⟩ ⟨[.ref D',.ref D2',.ref a1',.ref a2',.ref a3',.ref a4',.ref a5',.ref tf,.bl bb],hT25'⟩ c0
theorem Kh {f:Addr}{fd:FuncData}(F:eO K "law" "law" h_ f fd) (T:Bl mg) (iz:bw P w K mg base "_law_places" Mr 1 (jL K)) (jv:bw P w K mg base "_law_open" Gq 1 (lZ K)) (aJ:HY P w K mg base) (jw:bw P w K mg base "_law_near" FT 4 (l7 K)) (eu:JN P w K mg base) (jT:bw P w K mg base "_law_ways" EM 2 (lX K)) (iC:bw P w K mg base "_law_key_of" ES 4 (jz K)) (cW:JA P w K mg base) (cO:QA P w K mg base) (i_:bw P w K mg base "_law_clean" Gd 2 (kO K)) (fC:Jj P w K mg base) (fG:bw P w K mg base "_law_asked" BP 9 (kP K)):rZ P w K mg base E8 10 f fd ["_law_script"] (vD K):=by
 refine F.ok eN (fun vs H Q E h=>?_) (fun _ A _ _ H vs Q E hr h=>?_)
 ·obtain⟨a,ns,rfl,_⟩:=h;rfl
 obtain⟨a,ms,rfl,hS,hlen,q⟩:=h
 have hu:=hr.units
 refine⟨_,(ak (eL V2 rfl (aZ (bQ iz hr.mo (aa (pv 0) (aa ay (aa ay aj aB) aB) ai))) (aC (i:=1) eN.nd rfl (Or.inl rfl)) (ak (aH (i:=2) eN.nd rfl (Or.inr rfl) (bQ jv hr.mo (aa (pv 0) (aa (pv 1) aj ai) ai)))
   (ak (aH (i:=3) eN.nd rfl (Or.inl rfl) (bQ aJ hr.mo (aa (pv 2) (aa ay aj aB) ai)))
   (ak (aH (i:=4) eN.nd rfl (Or.inl rfl) (aO bN ay (bQ aJ hr.mo (aa (pv 2) (aa ay aj aB) ai))))
   (ak (aH (i:=5) eN.nd rfl (Or.inl rfl) (aO bN ay (bQ aJ hr.mo (aa (pv 2) (aa ay aj aB) ai))))
   (ak (aH (i:=6) eN.nd rfl (Or.inl rfl) (bQ jw hr.mo (aa (pv 2) (aa (bQ aJ hr.mo (aa (pv 2) (aa ay aj aB) ai)) (aa (aO bN ay (bQ aJ hr.mo (aa (pv 2) (aa ay aj aB) ai))) aj bK) aF) ai)))
   (ak (cU (i:=7) eN.nd rfl rfl rfl (cF (sc:=av h_) (N:=IL) (vs:=Gf) (fs:=wG) (js:=[2]) (by z_go) rfl rfl) (aZ (pv 6)) (fun _ _ _ _=>uM (K:=K) (n:=2) rfl rfl (aN (aC (i:=0) (show(Pk:List Str).Nodup by z_go) rfl (Or.inl rfl)) (aN (aC (i:=1) (show(Pk:List Str).Nodup by z_go) rfl (Or.inl rfl)) cE))) (fun _ _ _ _=>fL) (fun _ _ _ _=>(bZ (aa (pv 0) (aa (bQ cW hr.mo (aa (pv 2) aj ai)) aj aF) ai))))
   (ak (aH (i:=10) eN.nd rfl (Or.inl rfl) (b7 (aa (bQ cO hr.mo (aa (pv 5) (aa (pv 4) (aa (pv 6) aj ai) ai) ai)) (aa (bQ cO hr.mo (aa (aO bN (pv 5) (pv 3)) (aa (aO bN (pv 4) (bQ aJ hr.mo (aa (pv 2) (aa ay aj aB) ai))) (aa (pv 7) aj ai) bK) bK)) aj aF) aF)))
   (ak (aH (i:=11) eN.nd rfl (Or.inl rfl) (b7 (aa (bQ i_ hr.mo (aa (pv 5) (aa (pv 4) (aa (pv 6) aj ai) ai) ai)) (aa (bQ fC hr.mo (aa (bg bI (pv 10) ay (fun _ _=>rfl)) aj aQ)) aj aF) aF)))
   (ak (bT (bQ eu hr.mo (aa (bQ cO hr.mo (aa (pv 5) (aa (pv 4) (aa (pv 6) aj ai) ai) ai)) aj aF)))
   (ak (aH (i:=12) eN.nd rfl (Or.inr rfl) (bQ jT hr.mo (aa (pv 2) (aa (pv 4) (aa (pv 6) aj ai) ai) ai)))
   (ak (aH (i:=8) eN.nd rfl (Or.inr rfl) (bQ iC hr.mo (aa (pv 2) (aa (pv 12) (aa (pv 6) aj ai) ai) ai)))
   (ak (aH (i:=9) eN.nd rfl (Or.inr rfl) (bQ cW hr.mo (aa (pv 2) aj ai)))
   (ak (cU (i:=13) eN.nd rfl rfl rfl (cF (sc:=av h_) (N:=IL) (vs:=oB) (fs:=IM) (js:=[12,8,9]) (by z_go) rfl rfl) (aZ (pv 10)) (fun _ _ _ _=>aC (i:=0) (show(BP:List Str).Nodup by z_go) rfl (Or.inl rfl)) (fun _ _ _ _=>fL) (fun _ _ _ _=>(bQ fG hr.mo (aa (pv 0) (aa (pv 1) (aa (pv 2) (aa (pv 3) aj ai) ai) ai) ai))))
   (ak (cU (i:=14) eN.nd rfl rfl rfl (cF (sc:=av h_) (N:=IL) (vs:=oB) (fs:=IM) (js:=[12,8,9]) (by z_go) rfl rfl) (aZ (vI (pv 10))) (fun _ _ _ _=>aC (i:=0) (show(BP:List Str).Nodup by z_go) rfl (Or.inl rfl)) (fun _ _ _ _=>fL) (fun _ _ _ _=>(bQ fG hr.mo (aa (pv 0) (aa (pv 1) (aa (pv 2) (aa (pv 3) aj ai) ai) ai) ai))))
   (ak (cU (i:=15) eN.nd rfl rfl rfl (cF (sc:=av h_) (N:=IL) (vs:=oB) (fs:=IM) (js:=[12,8,9]) (by z_go) rfl rfl) (aZ (pv 10)) (fun _ _ _ _=>aC (i:=0) (show(BP:List Str).Nodup by z_go) rfl (Or.inl rfl)) (fun _ _ _ _=>fL) (fun _ _ _ _=>(bQ fG hr.mo (aa (pv 0) (aa (pv 1) (aa (pv 2) (aa (pv 3) aj ai) ai) ai) ai))))
   (ak (cJ (PW.pt (DA (aT (vn hu) (pv 10) (pv 11) (aX _)) (DA (aT (vn hu) (pv 14) (vI (pv 13)) (aX _)) (CH (aT (vn hu) (pv 15) (pv 13) (aX _)))))) (az (aP wR)) bA)
   (az (cJ (z3 (C6 (a_ (BU rfl) rfl T.all Jq (aa (cN rfl (cF (sc:=av h_) (N:=IL) (vs:=["_law_told"]) (fs:=[]) (js:=[]) (by z_go) rfl rfl) (aZ (pv 13)) (fun _ _ _ _=>aC (i:=0) (show(["_law_told"]:List Str).Nodup by z_go) rfl (Or.inl rfl)) (fun _ _ _ _=>fL) (fun _ _ _ _=>(bg (p8 (K:=K) rfl) (pv 0) (CW zu ay) (fun _ _=>rfl)))) aj eB)))) (az (aP wR)) bA)))))))))))))))))))
   (az (aP wR))),?_⟩
 rw[IU]
 x_go
 refine⟨a,ms,4,16,rfl,hS,hlen,by omega,by omega,by omega,by omega,fun np' pl H15 npl nplH hpl s15=>?_⟩
 x_go
 refine⟨pl,rfl,⟨_,aU.of hpl⟩,?_⟩
 refine dh (xs:=(Bo np').map V.int) (fun i σ H'=>(∃y1 y2 y3 y4 y5 y6 y7 y8 y9 y10 y11 y12 y13 y14 y15,σ=[some (.ref a),y1,y2,y3,y4,y5,y6,y7,y8,y9,y10,y11,y12,y13,y14,y15])/\aD H15 H') ⟨⟨_,_,_,_,_,_,_,_,_,_,_,_,_,_,_,rfl⟩,aD.refl H15⟩ (fun _ _ _ _ h=>aU.of (h.2 _ _ hpl)) ?_ ?_
 ·rintro i x σ H1 hx ⟨⟨y1,y2,y3,y4,y5,y6,y7,y8,y9,y10,y11,y12,y13,y14,y15,rfl⟩,sm⟩
  obtain⟨iln,rfl⟩:=E_ hx
  x_go
  refine⟨a,ms,i,rfl,(s15.trans sm).seq hS,hlen,by omega,by omega,fun p H2 np s2 hh2=>?_⟩
  x_go
  refine⟨p,_,2,rfl,hh2,by decide,by decide,by decide,fun spin H3 f0 f1 hh3 k3=>?_⟩
  x_go
  refine⟨p,_,9,rfl,hh3,by decide,by decide,by decide,fun r0 H4 r00 r01 hh4 k4=>?_⟩
  x_go
  obtain⟨R,hR⟩ : ∃R:Nat,1+r0 =(R:Int):=⟨(1+r0).toNat,by omega⟩
  have R1:1<=R:=by omega
  have R2:R<=9:=by omega
  rw[hR]
  refine⟨p,_,4,rfl,hh4,by omega,by decide,by decide,fun v0 H5 v00 v01 hh5 k5=>?_⟩
  x_go
  obtain⟨w,hw⟩ : ∃w:Nat,1+v0 =(w:Int):=⟨(1+v0).toNat,by omega⟩
  have w1:1<=w:=by omega
  have w2:w<=4:=by omega
  rw[hw]
  refine⟨p,_,17,rfl,hh5,by omega,by omega,by omega,fun many H6 m0 m1 hh6 k6=>?_⟩
  x_go
  refine⟨p,_,4,rfl,hh6,by omega,by omega,by omega,fun u0 H7 u00 u01 hh7 k7=>?_⟩
  have k27:=(((k3.trans k4).trans k5).trans k6).trans k7
  x_go
  refine⟨p,_,many,1+u0,rfl,hh7,by omega,m0,by omega,by omega,by omega,fun l ts es H8 nl hl el nd elen hh8 k8=>?_⟩
  have k28:=k27.trans k8
  have lp:l≠p:=i7 hh8 hl
  x_go
  refine⟨l,rfl,⟨_,aU.of hl⟩,fun D nD=>?_⟩
  refine aY (xs:=ts.map V.ref) (fun j σ' ys H'=>(∃x x',σ'=[x,x',some (.ref p)])/\j<=ts.length/\∃(us:List Addr) (es':List (Int×Str)),ys=us.map V.ref/\CK H8 p D (1130000+30*j) ys H'/\EL H' us es'/\es'.map (·.1) =(es.map (·.1)).take j) D ⟨⟨_,_,rfl⟩,VS _,[],[],rfl,(CK.start hh8 nD).mono (by omega),P1.nil,rfl⟩ (fun i σ' ys H' _ h=>by
   obtain⟨_,_,us,es',_,c,_⟩:=h
   exact aU.of (c.kp.1 _ _ hl lp)) ?_ ?_
  ·rintro j x σ' ys HB hx2 ⟨⟨z1,z2,rfl⟩,jl,us,es',rfl,ck4,el4,ek⟩
   obtain⟨t0,ht0,rfl⟩:=br hx2
   have jl2:=(Vj.mp ht0).1
   have lt:=el.1
   obtain⟨e,he,h1,h2⟩:=(el.keep (jm hh8 ck4.kp)).get ht0
   have ul:us.length=j:=by
    have:=Wf List.length ek
    rw[Vi,Vw,Vi]at this
    have:=el.1
    rw[el4.1];omega
   refine⟨t0,_,rfl,gu.of h1,rfl,_,_,rfl,_,_,rfl,rfl,?_⟩
   x_go
   refine⟨p,_,rfl,ck4.hh,by omega,fun z HC zo zl hhc kc=>?_⟩
   have kt5:=jm ck4.hh kc
   have ck5:=ck4.draw kc hhc
   x_go
   refine⟨zs2,fun t nt=>?_⟩
   generalize hE7:upd HC t _=HD
   have s7:=(bf nt hE7).2
   obtain⟨ck7,ht,tp,tD⟩:=ck5.new nt hE7
   clear hE7
   have kt8:∀t' xs,HD t'=some (.tup xs)->(upd HD D (.lst (us.map V.ref ++ [V.ref t]))) t'=some (.tup xs):=fun t' xs e=>by rw[ao (ju e ck7.lat (by intro z;cases z))];exact e
   have ck8:=(ck7.mono (M:=1130000+30*(j+1)) (by omega)).push (zs:=us.map V.ref ++ [V.ref t])
   refine⟨ck7.lat,by rw[Vi];exact aR (by omega),⟨_,_,rfl⟩,by omega,us ++ [t],es' ++ [(e.1,z)],by rw[Vo];rfl,ck8,?_,?_⟩
   ·exact P1.snoc (el4.keep fun t' xs e=>kt8 _ _ (s7 _ _ (kt5 _ _ e))) ⟨kt8 _ _ ht,zo,h2.2.1,h2.2.2.1,zl⟩
   ·rw[Vo,ek,aV (show(es.map (·.1))[j]? = some e.1 by rw[Vp,he];rfl)];rfl
  rintro σ' ys H9 ⟨⟨z1,z2,rfl⟩,jl,us,es',rfl,ck,el9,ek⟩
  rw[Vi,el.1,<- Vi (f:=fun x:Int×Str=>x.1),VA]at ek
  have hh9:=ck.hh
  have k29:=k28.trans ck.kp
  have hl9:=ck.kp.1 _ _ hl lp
  have ele:=el.keep (jm hh8 ck.kp)
  have hD9:=ck.lat
  have nDp:D≠p:=i7 hh9 hD9
  have nd':(es'.map (·.1)).Nodup:=by rw[ek];exact nd
  have esl:es'.length=es.length:=by have:=Wf List.length ek;rw[Vi,Vi]at this;exact this
  have elt:=el.1
  x_go
  refine⟨l,ts,es.map vE,w,R,rfl,hl9,by rw[Vi];exact elt,by rw[Vi];omega,ele.yd,w1,by omega,R1,by omega,fun mq ya ha HA mp mo hya hyn sA=>?_⟩
  obtain⟨rsa,bsa,sya,exa,sqa,cla⟩:=mD (es:=es) ele.ok (by omega) w1 R1 (by omega) mp mo hyn
  rw[m_ nd]at cla
  have hhA:=hh9.same sA
  have hYa:Yd HA ya w R (XA HA bsa):=Ab ⟨ha,hya,sya.r3,exa,sqa⟩ cla w1 (by omega) (by omega) (by omega)
  x_go
  refine⟨p,_,2,rfl,hhA,by omega,by decide,by decide,fun r1 HB r10 r11 hhB kB=>?_⟩
  obtain⟨w',hw'⟩ : ∃n:Nat,(w:Int)+spin =(n:Int):=⟨((w:Int)+spin).toNat,by omega⟩
  obtain⟨R',hR'⟩ : ∃n:Nat,(R:Int)+r1 =(n:Int):=⟨((R:Int)+r1).toNat,by omega⟩
  x_go
  rw[hw',hR']
  have kAB:Kp H9 HB p:=(Kp.of sA hh9).trans kB
  have hDB:=kAB.1 _ _ hD9 nDp
  have elB:=el9.keep (jm hh9 kAB)
  refine⟨D,us,es'.map vE,w',R',rfl,hDB,by rw[Vi];exact el9.1,by rw[Vi];omega,elB.yd,by omega,by omega,by omega,by omega,fun mq2 yb hb HC mp2 mo2 hyb hyn2 sC=>?_⟩
  obtain⟨rsb,bsb,syb,exb,sqb,clb⟩:=mD (es:=es') elB.ok (by omega) (by omega) (by omega) (by omega) mp2 mo2 hyn2
  rw[m_ nd']at clb
  have hYb:Yd HC yb w' R' (XA HC bsb):=Ab ⟨hb,hyb,syb.r3,exb,sqb⟩ clb (by omega) (by omega) (by omega) (by omega)
  have hhC:=hhB.same sC
  x_go
  refine⟨zs2,fun Ly nLy=>?_⟩
  generalize hE:upd HC Ly _=HD
  obtain⟨hLy,sD⟩:=bf nLy hE
  clear hE
  have kAD:Kp HA HD p:=(kB.trans (Kp.of sC hhB)).trans (Kp.of sD hhC)
  have hYaD:=hYa.kp hhA kAD
  have hYbD:=hYb.same sD
  have claD:dG w R es (yD HD (XA HA bsa)):=by rw[cX (jm hhA kAD) exa];exact cla
  have clbD:dG w' R' es' (yD HD (XA HC bsb)):=by rw[dF sD exb];exact clb
  generalize XA HA bsa=Xa at hYaD claD
  generalize XA HC bsb=Xb at hYbD clbD
  have enaD:gm HD Xa:=hYaD.choose_spec.2.2.1
  have enbD:gm HD Xb:=hYbD.choose_spec.2.2.1
  have hhD:=hhC.same sD
  have k9D:Kp H9 HD p:=(Kp.of sA hh9).trans kAD
  have hlD:=k9D.1 _ _ hl9 lp
  have elD:=ele.keep (jm hh9 k9D)
  clear hYa hYb cla clb exa exb sqa sqb sya syb hyn hyn2 mp mo mp2 mo2
  x_go
  refine⟨w,R,l,ts,es,rfl,hlD,elD,nd,by omega,w1,by omega,R1,by omega,fun yk Xk HE hYk clk sE=>?_⟩
  have hYk:=Ab hYk clk w1 (by omega) (by omega) (by omega)
  x_go
  refine cG (aU.of (sE _ _ hLy)) (v:=.ref yb) (ie (j:=1) rfl) ?_
  refine⟨yb,w',R',Xb,rfl,hYbD.same sE,fun yc hc bsc HF nyc hyc tc sF=>?_⟩
  have sDF:=sE.trans sF
  have hYc:Yd HF yc w' R' Xb:=uw hyc tc (enbD.same sDF) hYbD.choose_spec.2.2.2 (fun _ _ _ e=>e) fun _ _ e=>e
  x_go
  refine⟨zs2,fun Lk nLk=>?_⟩
  generalize hE:upd HF Lk _=HG
  obtain⟨hLk,sG⟩:=bf nLk hE
  clear hE
  have sDG:=sDF.trans sG
  x_go
  refine⟨l,ts,es.map vE,w,R,rfl,sDG _ _ hlD,by rw[Vi];exact elt,by rw[Vi];omega,(elD.same sDG).yd,w1,by omega,R1,by omega,fun mq3 ys hs HH mp3 mo3 hys hyn3 sH=>?_⟩
  obtain⟨rs3,bs3,sy3,ex3,sq3,cl3⟩:=mD (es:=es) elD.ok (by omega) w1 R1 (by omega) mp3 mo3 hyn3
  rw[m_ nd]at cl3
  x_go
  refine⟨ys,hs,w,R,rs3,Iv HG HH,rfl,hys,sy3.spo' cl3 w1 (by omega) (by omega) (by omega) ex3,fun HI kI=>?_⟩
  have sGI:aD HG HI:=kI.sm sH fun b z=>z.1
  have sDI:=sDG.trans sGI
  have hhI:=hhD.same sDI
  x_go
  refine⟨p,l,_,R,ts,es,rfl,hhI,by omega,sDI _ _ hlD,elD.same sDI,fun way HJ hw hhJ kJ=>?_⟩
  have kDJ:=(Kp.of sDI hhD).trans kJ
  x_go
  refine⟨p,l,_,R,way,ts,es,rfl,hhJ,by omega,hw,kDJ.1 _ _ hlD lp,elD.keep (jm hhD kDJ),by omega,fun key HK a0 a1 kd hhK kK=>?_⟩
  x_go
  refine⟨p,_,rfl,hhK,by omega,fun z HL zok zl hhL kL=>?_⟩
  have kDL:=(kDJ.trans kK).trans kL
  have ktL:=jm hhD kDL
  have kGL:Kp HG HL p:=(((Kp.of sGI (hhD.same sDG)).trans kJ).trans kK).trans kL
  x_go
  have LyP:Ly≠p:=hhC.ne nLy
  have LkP:Lk≠p:=(hhD.same sDF).ne nLk
  have hhG:=hhD.same sDG
  have hYaL:=hYaD.kp hhD kDL
  have hYbL:=hYbD.kp hhD kDL
  have hYkL:=(hYk.same (sF.trans sG)).kp hhG kGL
  have hYcL:=(hYc.same sG).kp hhG kGL
  have hLyL:=kDL.1 _ _ hLy LyP
  have hLkL:=kGL.1 _ _ hLk LkP
  have claL:dG w R es (yD HL Xa):=by rw[cX ktL enaD];exact claD
  have clbL:dG w' R' es' (yD HL Xb):=by rw[cX ktL enbD];exact clbD
  have enk:gm HE Xk:=hYk.choose_spec.2.2.1
  have ktE:∀t xs,HE t=some (.tup xs)->HL t=some (.tup xs):=fun t xs e=>jm hhG kGL _ _ ((sF.trans sG) _ _ e)
  have clkL:dG w R es (yD HL Xk):=by rw[cX ktE enk];exact clk
  have eka:yD HL Xk=yD HL Xa:=clkL.uniq nd claL
  have wy1:Way way R es key:=by
   rcases hw with h|⟨h,c⟩|⟨h,c⟩|h|⟨h,c⟩
   ·exact .inl h
   ·exact .inr (.inl ⟨h,by omega⟩)
   ·exact .inr (.inr (.inl ⟨h,kd h⟩))
   ·exact .inr (.inr (.inr (.inl h)))
   ·exact .inr (.inr (.inr (.inr h)))
  have wy2:Way way R' es' key:=by
   rcases wy1 with h|⟨h,c⟩|⟨h,c⟩|h|h
   ·exact .inl h
   ·exact .inr (.inl ⟨h,by omega⟩)
   ·exact .inr (.inr (.inl ⟨h,by rw[ek];exact c⟩))
   ·exact .inr (.inr (.inr (.inl h)))
   ·exact .inr (.inr (.inr (.inr h)))
  obtain⟨its,hits⟩ : ∃its:List OC,its=[⟨ya,w,R,Xa,es⟩,⟨yb,w',R',Xb,es'⟩]:=⟨_,rfl⟩
  have okL:∀it∈its,Ao HL way key it:=by
   rw[hits]
   intro it hm
   simp only[List.mem_cons,List.not_mem_nil,or_false]at hm
   rcases hm with rfl|rfl
   ·exact⟨hYaL,⟨claL,nd,w1,R1⟩,by show es.length<=20;omega,by show w<=8;omega,by show R<=12;omega,wy1⟩
   ·exact⟨hYbL,⟨clbL,nd',by show 1<=w';omega,by show 1<=R';omega⟩,by show es'.length<=20;omega,by show w'<=8;omega,by show R'<=12;omega,wy2⟩
  have il:its.length=2:=by rw[hits];rfl
  have ilr:its.reverse.length=2:=by rw[V3];exact il
  have hLi:HL Ly=some (.lst ((its.map fun it=>it.y).map V.ref)):=by rw[hits];exact hLyL
  refine⟨Ly,rfl,⟨_,aU.of hLi⟩,fun C1 nC1=>?_⟩
  refine aY (xs:=(its.map fun it=>it.y).map V.ref) (fun j σ' ys H'=>(∃x,σ'=[x,some (.str way),some (.int key),some (.str z)])/\aD HL H'/\H' C1=some (.lst ys)/\∃cs:List Addr,ys=cs.map V.ref/\P1 (fun c it=>∃N:Hp,aD N H'/\N C1=none/\To K way z key HL N c it) cs (its.take j)) C1 ⟨⟨_,rfl⟩,aG nC1 _,aq,[],rfl,P1.nil⟩ (fun i σ' ys H' _ h=>aU.of (h.2.1 _ _ hLi)) ?_ ?_
  ·rintro j x σ' ys Hq hx2 ⟨⟨z1,rfl⟩,sq,hC,cs,rfl,hPc⟩
   obtain⟨y0,hy0,rfl⟩:=br hx2
   rw[Vp]at hy0
   obtain⟨it,hit,rfl⟩:=Ws.mp hy0
   have im:it∈its:=Vk hit
   have sLq:aD HL Hq:=sq
   obtain⟨o1,o2,o3,o4,o5,o6⟩:=(okL it im).same sLq
   have jl:=(Vj.mp hit).1
   have cl':=hPc.1
   rw[Vw]at cl'
   x_go
   refine⟨it.y,it.w,it.R,it.X,it.es,way,z,key,rfl,o1,o2,o3,o4,o5,⟨a0,a1⟩,⟨zok,zl⟩,o6,fun T d Hr nT g td xs sr=>?_⟩
   rw[dF sLq (okL it im).1.choose_spec.2.2.1]at td
   refine⟨sr _ _ hC,by rw[Vi];exact gw (by rw[il]at jl;omega),⟨_,rfl⟩,fun b o e=>by rw[ao (au e nC1)];exact sr _ _ (sq _ _ e),aq,cs ++ [T],by rw[Vo];rfl,?_⟩
   rw[aV hit]
   exact P1.snoc (hPc.imp fun c it ⟨N,n1,n2,n3⟩=>⟨N,jq (n1.trans sr) n2,n2,n3⟩) ⟨dW Hq Hr,jq (cK fun _ _ e=>sr _ _ e) (fS hC),fS hC,d,g,td,xs⟩
  rintro σ' ys HM ⟨⟨z1,rfl⟩,sM,hC1,cs1,rfl,hP1⟩
  rw[Vi,Vi,VA]at hP1
  replace hP1:P1 (fun c it=>To K way z key HL HM c it) cs1 its:=hP1.imp fun c it ⟨N,n1,_,n3⟩=>n3.same n1
  have hLi2:=sM _ _ hLi
  x_go
  refine AD (aU.of hLi2) fun Lr nLr=>?_
  generalize hE:upd HM Lr _=HN
  obtain⟨hLr,sN⟩:=bf nLr hE
  clear hE
  have sLN:=sM.trans sN
  rw[<- Ww,<- Ww]at hLr
  refine⟨Lr,rfl,⟨_,aU.of hLr⟩,fun C2 nC2=>?_⟩
  refine aY (xs:=(its.reverse.map fun it=>it.y).map V.ref) (fun j σ' ys H'=>(∃x,σ'=[x,some (.str way),some (.int key),some (.str z)])/\aD HN H'/\H' C2=some (.lst ys)/\∃cs:List Addr,ys=cs.map V.ref/\P1 (fun c it=>∃N:Hp,aD N H'/\N C2=none/\To K way z key HL N c it) cs (its.reverse.take j)) C2 ⟨⟨_,rfl⟩,aG nC2 _,aq,[],rfl,P1.nil⟩ (fun i σ' ys H' _ h=>aU.of (h.2.1 _ _ hLr)) ?_ ?_
  ·rintro j x σ' ys Hq hx2 ⟨⟨z1,rfl⟩,sq,hC,cs,rfl,hPc⟩
   obtain⟨y0,hy0,rfl⟩:=br hx2
   rw[Vp]at hy0
   obtain⟨it,hit,rfl⟩:=Ws.mp hy0
   have im:it∈its:=WS.mp (Vk hit)
   have sLq:aD HL Hq:=sLN.trans sq
   obtain⟨o1,o2,o3,o4,o5,o6⟩:=(okL it im).same sLq
   have jl:=(Vj.mp hit).1
   have cl':=hPc.1
   rw[Vw]at cl'
   x_go
   refine⟨it.y,it.w,it.R,it.X,it.es,way,z,key,rfl,o1,o2,o3,o4,o5,⟨a0,a1⟩,⟨zok,zl⟩,o6,fun T d Hr nT g td xs sr=>?_⟩
   rw[dF sLq (okL it im).1.choose_spec.2.2.1]at td
   refine⟨sr _ _ hC,by rw[Vi];exact gw (by rw[ilr]at jl;omega),⟨_,rfl⟩,fun b o e=>by rw[ao (au e nC2)];exact sr _ _ (sq _ _ e),aq,cs ++ [T],by rw[Vo];rfl,?_⟩
   rw[aV hit]
   exact P1.snoc (hPc.imp fun c it ⟨N,n1,n2,n3⟩=>⟨N,jq (n1.trans sr) n2,n2,n3⟩) ⟨dW Hq Hr,jq (cK fun _ _ e=>sr _ _ e) (fS hC),fS hC,d,g,td,xs⟩
  rintro σ' ys HO2 ⟨⟨z1,rfl⟩,sO,hC2,cs2,rfl,hP2⟩
  rw[Vi,Vi,VA]at hP2
  replace hP2:P1 (fun c it=>To K way z key HL HO2 c it) cs2 its.reverse:=hP2.imp fun c it ⟨N,n1,_,n3⟩=>n3.same n1
  have sLO:=sLN.trans sO
  have hLi3:=sLO _ _ hLi
  x_go
  refine⟨Ly,rfl,⟨_,aU.of hLi3⟩,fun C3 nC3=>?_⟩
  refine aY (xs:=(its.map fun it=>it.y).map V.ref) (fun j σ' ys H'=>(∃x,σ'=[x,some (.str way),some (.int key),some (.str z)])/\aD HO2 H'/\H' C3=some (.lst ys)/\∃cs:List Addr,ys=cs.map V.ref/\P1 (fun c it=>∃N:Hp,aD N H'/\N C3=none/\To K way z key HL N c it) cs (its.take j)) C3 ⟨⟨_,rfl⟩,aG nC3 _,aq,[],rfl,P1.nil⟩ (fun i σ' ys H' _ h=>aU.of (h.2.1 _ _ hLi3)) ?_ ?_
  ·rintro j x σ' ys Hq hx2 ⟨⟨z1,rfl⟩,sq,hC,cs,rfl,hPc⟩
   obtain⟨y0,hy0,rfl⟩:=br hx2
   rw[Vp]at hy0
   obtain⟨it,hit,rfl⟩:=Ws.mp hy0
   have im:it∈its:=Vk hit
   have sLq:aD HL Hq:=sLO.trans sq
   obtain⟨o1,o2,o3,o4,o5,o6⟩:=(okL it im).same sLq
   have jl:=(Vj.mp hit).1
   have cl':=hPc.1
   rw[Vw]at cl'
   x_go
   refine⟨it.y,it.w,it.R,it.X,it.es,way,z,key,rfl,o1,o2,o3,o4,o5,⟨a0,a1⟩,⟨zok,zl⟩,o6,fun T d Hr nT g td xs sr=>?_⟩
   rw[dF sLq (okL it im).1.choose_spec.2.2.1]at td
   refine⟨sr _ _ hC,by rw[Vi];exact gw (by rw[il]at jl;omega),⟨_,rfl⟩,fun b o e=>by rw[ao (au e nC3)];exact sr _ _ (sq _ _ e),aq,cs ++ [T],by rw[Vo];rfl,?_⟩
   rw[aV hit]
   exact P1.snoc (hPc.imp fun c it ⟨N,n1,n2,n3⟩=>⟨N,jq (n1.trans sr) n2,n2,n3⟩) ⟨dW Hq Hr,jq (cK fun _ _ e=>sr _ _ e) (fS hC),fS hC,d,g,td,xs⟩
  rintro σ' ys HP ⟨⟨z1,rfl⟩,sP,hC3,cs3,rfl,hP3⟩
  rw[Vi,Vi,VA]at hP3
  replace hP3:P1 (fun c it=>To K way z key HL HP c it) cs3 its:=hP3.imp fun c it ⟨N,n1,_,n3⟩=>n3.same n1
  have sLP:=sLO.trans sP
  have sMP:=(sN.trans sO).trans sP
  x_go
  obtain⟨c1,c2,rfl⟩ : ∃a b,cs1=[a,b]:=by
   match cs1,hP1.1.trans il with
   | [a,b],_=>exact⟨a,b,rfl⟩
  obtain⟨e1,e2,rfl⟩ : ∃a b,cs2=[a,b]:=by
   match cs2,hP2.1.trans ilr with
   | [a,b],_=>exact⟨a,b,rfl⟩
  obtain⟨f1,f2,rfl⟩ : ∃a b,cs3=[a,b]:=by
   match cs3,hP3.1.trans il with
   | [a,b],_=>exact⟨a,b,rfl⟩
  have hC1P:=sMP _ _ hC1
  have hC2P:=sP _ _ hC2
  subst hits
  obtain⟨d1,g1,t1,xs1,l1⟩:=(hP1.2 0 c1 _ rfl rfl).same sMP
  obtain⟨d2,g2,t2,xs2,l2⟩:=(hP1.2 1 c2 _ rfl rfl).same sMP
  obtain⟨d3,g3,t3,_⟩:=(hP2.2 0 e1 _ rfl rfl).same sP
  obtain⟨d4,g4,t4,_⟩:=(hP2.2 1 e2 _ rfl rfl).same sP
  obtain⟨d5,g5,t5,_⟩:=hP3.2 0 f1 _ rfl rfl
  obtain⟨d6,g6,t6,_⟩:=hP3.2 1 f2 _ rfl rfl
  obtain rfl:=TD.uniq t1 t4
  obtain rfl:=TD.uniq t1 t5
  obtain rfl:=TD.uniq t2 t3
  obtain rfl:=TD.uniq t2 t6
  have gF:GD K HP 10 (.ref C1) (.list [d1,d2]):=GD.lst hC1P (.cons g1 (.cons g2 .nil))
  have gO:GD K HP 10 (.ref C2) (.list [d2,d1]):=GD.lst hC2P (.cons g3 (.cons g4 .nil))
  have gL:GD K HP 10 (.ref C3) (.list [d1,d2]):=GD.lst hC3 (.cons g5 (.cons g6 .nil))
  have enaL:gm HL Xa:=hYaL.choose_spec.2.2.1
  have enkL:gm HL Xk:=hYkL.choose_spec.2.2.1
  have ekP:yD HP Xk=yD HP Xa:=by rw[dF sLP enkL,dF sLP enaL];exact eka
  have gY:GD K HP 6 (.ref Ly) (.list [pY w R (yD HP Xa),pY w' R' (yD HP Xb)]):=GD.lst (sLP _ _ hLyL) (.cons (hYaL.same sLP).pd (.cons (hYbL.same sLP).pd .nil))
  have gK:GD K HP 6 (.ref Lk) (.list [pY w R (yD HP Xk),pY w' R' (yD HP Xb)]):=GD.lst (sLP _ _ hLkL) (.cons (hYkL.same sLP).pd (.cons (hYcL.same sLP).pd .nil))
  rw[ekP]at gK
  refine⟨_,_,gY.1,gK.1,gY.shaped (by omega),gK.shaped (by omega),?_⟩
  rw[gY.refl]
  x_go
  refine AD (aU.of hC1P) fun Lq nLq=>?_
  generalize hE:upd HP Lq _=HQ
  obtain⟨hLq,sQ⟩:=bf nLq hE
  clear hE
  have gR:GD K HQ 10 (.ref Lq) (.list [d2,d1]):=GD.lst hLq (.cons (j3 sQ g2) (.cons (j3 sQ g1) .nil))
  have gO':=j3 sQ gO
  x_go
  refine⟨_,_,gO'.1,gR.1,gO'.shaped (by omega),gR.shaped (by omega),?_⟩
  rw[gR.refl]
  x_go
  have gL':=j3 sQ gL
  have gF':=j3 sQ gF
  refine⟨_,_,gL'.1,gF'.1,gL'.shaped (by omega),gF'.shaped (by omega),?_⟩
  rw[gF'.refl]
  x_go
  have hC1Q:=sQ _ _ hC1P
  refine⟨C1,rfl,⟨_,aU.of hC1Q⟩,fun Ct nCt=>?_⟩
  refine aY (xs:=[c1,c2].map V.ref) (fun j σ' ys H'=>(∃x,σ'=[x])/\aD HQ H'/\ys =(List.replicate j true).map V.bl/\j<=2/\H' Ct=some (.lst ys)) Ct ⟨⟨_,rfl⟩,aG nCt _,rfl,VS _,aq⟩ (fun i σ' ys H' _ h=>aU.of (h.2.1 _ _ hC1Q)) ?_ ?_
  ·rintro j x σ' ys Hq hx2 ⟨⟨z1,rfl⟩,sq,rfl,jl,hCt⟩
   obtain⟨c,hc,rfl⟩:=br hx2
   have jl2:=(Vj.mp hc).1
   have jl2:j<2:=jl2
   obtain⟨xs,hxs⟩ : ∃xs,Hq c=some (.lst (xs ++ [.bl true])):=by
    have hm:=Vk hc
    simp only[List.mem_cons,List.not_mem_nil,or_false]at hm
    rcases hm with rfl|rfl
    ·exact⟨_,sq _ _ (sQ _ _ l1)⟩
    ·exact⟨_,sq _ _ (sQ _ _ l2)⟩
   x_go
   refine cG (aU.of hxs) (xN _ _) ?_
   refine⟨hCt,by rw[Vi,Xn];exact aR (by omega),⟨_,rfl⟩,fun b o e=>by rw[ao (au e nCt)];exact sq _ _ e,by rw[List.replicate_succ',Vo];rfl,jl2,aq⟩
  rintro σ' ys HR ⟨⟨z1,rfl⟩,sR,rfl,jl,hCt⟩
  x_go
  refine F8 (aU.of hCt) ?_
  x_go
  rw[show(!(List.replicate (List.map V.ref [c1,c2]).length true).all id)=false from rfl]
  x_go
  exact⟨⟨_,_,_,_,_,_,_,_,_,_,_,_,_,_,_,rfl⟩,sm.trans (Kp.new s2 np (((k29.trans k9D).trans kDL).trans (Kp.of ((sLP.trans sQ).trans sR) hhL)))⟩
 ·rintro σ HE ⟨_,sm⟩
  x_go
  exact q _
end
section
variable {K:PySem.W.Frag} {x q:Str} {st:Stmt} {f:Addr} {fd:FuncData} {a b c d e g:Str}
theorem Uc (F:eO K x q st f fd) (h:∀ k l m n o r u0,bindArgs (PySem.W.fnOf x q (fH st) (d7 st) (av st) .none k l m n o r) ⟨[u0],[]⟩=pure ([a].zip [u0])):Binds K fd [a] []:=F.binds fun k l m n o r us hl=>match us,hl with|[u0],_=>h k l m n o r u0
theorem Uy (F:eO K x q st f fd) (h:∀ k l m n o r u0 u1,bindArgs (PySem.W.fnOf x q (fH st) (d7 st) (av st) .none k l m n o r) ⟨[u0,u1],[]⟩=pure ([a,b].zip [u0,u1])):Binds K fd [a,b] []:=F.binds fun k l m n o r us hl=>match us,hl with|[u0,u1],_=>h k l m n o r u0 u1
theorem Ug (F:eO K x q st f fd) (h:∀ k l m n o r u0 u1 u2,bindArgs (PySem.W.fnOf x q (fH st) (d7 st) (av st) .none k l m n o r) ⟨[u0,u1,u2],[]⟩=pure ([a,b,c].zip [u0,u1,u2])):Binds K fd [a,b,c] []:=F.binds fun k l m n o r us hl=>match us,hl with|[u0,u1,u2],_=>h k l m n o r u0 u1 u2
theorem Va (F:eO K x q st f fd) (h:∀ k l m n o r u0 u1 u2 u3,bindArgs (PySem.W.fnOf x q (fH st) (d7 st) (av st) .none k l m n o r) ⟨[u0,u1,u2,u3],[]⟩=pure ([a,b,c,d].zip [u0,u1,u2,u3])):Binds K fd [a,b,c,d] []:=F.binds fun k l m n o r us hl=>match us,hl with|[u0,u1,u2,u3],_=>h k l m n o r u0 u1 u2 u3
end
local macro_rules|`(tactic|w_up)=>`(tactic|first|exact Uc (by assumption) fun _ _ _ _ _ _ _=>rfl|exact Uy (by assumption) fun _ _ _ _ _ _ _ _=>rfl|exact Ug (by assumption) fun _ _ _ _ _ _ _ _ _=>rfl|exact Va (by assumption) fun _ _ _ _ _ _ _ _ _ _=>rfl)
theorem all_mk {l:PySem.W.OpenLaw}{w:World}{K:W.Frag}{h:Heap}{mg:Str->Option Value}{fa:Addr}(X:K.In h) (G:h.Ns mainGlobals mg) (hfa:mg "law" = some (.ref fa))
  (g0:Ga K "last_bits" jP)
  (g1:Ga K "level" vg)
  (g2:Ga K "turn" zR)
  (g3:Ga K "bits_for" kT)
  (g4:Ga K "room_of" nI)
  (g5:Ga K "split_of" kY)
  (g6:Ga K "joined_of" jN)
  (g7:Ga K "rows_for" lE)
  (g8:Ga K "cut_rows" iX)
  (g9:Ga K "looked" qU)
  (g10:Ga K "spread" mP)
  (g11:Ga K "yard_of" iN)
  (g12:Ga K "is_clean" lM)
  (g13:Ga K "entries_in" gx)
  (g14:Ga K "all_entries" fY)
  (g15:Ga K "rows_at" m6)
  (g16:Ga K "done" zP)
  (g17:Ga K "done_all" i8)
  (g18:Ga K "lay_row" nB)
  (g19:Ga K "cut_room" lF)
  (g20:Ga K "leave_last_rooms" fc)
  (g21:Ga K "found" oW)
  (g22:Ga K "unlike_rows" gf)
  (g23:Ga K "onward" oZ)
  (g24:Ga K "backward" lQ)
  (g25:Ga K "splitting" gj)
  (g26:Ga K "joining" mU)
  (g27:Ga K "putting" mY)
  (g28:Ga K "dropping" kX)
  (g29:Ga K "others_in" ig)
  (g30:Ga K "mended" pP)
  (g31:Ga K "mending" iO)
  (g32:Ga K "_law_open" ir)
  (g33:Ga K "_law_draw" jJ)
  (g34:Ga K "_law_far" lJ)
  (g35:Ga K "_law_power" i0)
  (g36:Ga K "_law_key" kR)
  (g37:Ga K "_law_thing" gC)
  (g38:Ga K "_law_room" jC)
  (g39:Ga K "_law_cut" lN)
  (g40:Ga K "_law_clean" fP)
  (g41:Ga K "_law_copy" ic)
  (g42:Ga K "_law_asked_change" eK)
  (g43:Ga K "_law_ways" jM)
  (g44:Ga K "_law_key_of" f_)
  (g45:Ga K "_law_near" ia)
  (g46:Ga K "_law_places" iH)
  (g47:Ga K "_law_copied" iI)
  (g48:Ga K "_law_spoil_steps" cA)
  (g49:Ga K "_law_spoil" je)
  (g50:Ga K "_law_asked" gy)
  {f51:Addr}{od51 an51:Option Addr}{sl51:Array (Option Value)}{oc51 kV51 dc51 pm51 cd51 ct51:Value}(a51:W.nsIn K mainGlobals "law" = some (some (.ref f51))) (l51:K.lookup f51=some ⟨oc51,od51,.func (W.fnOf "law" "law" (fH h_) (d7 h_) (av h_) .none kV51 dc51 pm51 an51 cd51 ct51),sl51⟩) (Qe:W.codeIn K cd51 "law" = true) (k51:W.keepIn K (.ref f51)=true)
  (z_max:W.nsIn K mainGlobals "max" = some none)
  (z_range:W.nsIn K mainGlobals "range" = some none)
  (z_len:W.nsIn K mainGlobals "len" = some none)
  (z_sorted:W.nsIn K mainGlobals "sorted" = some none)
  (z_dict:W.nsIn K mainGlobals "dict" = some none)
  (z_list:W.nsIn K mainGlobals "list" = some none)
  (z_enumerate:W.nsIn K mainGlobals "enumerate" = some none)
  (z_abs:W.nsIn K mainGlobals "abs" = some none)
  (z_min:W.nsIn K mainGlobals "min" = some none)
  (z_all:W.nsIn K mainGlobals "all" = some none)
  : ∃fd:FuncData,(∀(s:Shared) (v:Value),BindsTo s fd ⟨[v],[]⟩ [("_law_script",v)])/\∀base:Heap,K.In base->base.Ns mainGlobals mg->rZ l.prog w K mg base E8 10 fa fd ["_law_script"] (vD K):=by
 have e:=hfa.symm.trans (V9 X G a51)
 cases e
 have T:Bl mg:=⟨W0 X G z_max,W0 X G z_range,W0 X G z_len,W0 X G z_sorted,W0 X G z_dict,W0 X G z_list,W0 X G z_enumerate,W0 X G z_abs,W0 X G z_min,W0 X G z_all⟩
 refine⟨W.fnOf "law" "law" (fH h_) (d7 h_) (av h_) .none kV51 dc51 pm51 an51 cd51 ct51,fun s v=>.of_eq rfl,fun base _ _=>?_⟩
 have gW:=g0.elim fun f a fd F=>uB (P:=l.prog) (w:=w) (base:=base) F (V9 X G a) (by w_up) T
 have gz:=g1.elim fun f a fd F=>C7 (P:=l.prog) (w:=w) (base:=base) F (V9 X G a) (by w_up) T
 have k9:=g7.elim fun f a fd F=>xF (P:=l.prog) (w:=w) (base:=base) F (V9 X G a) (by w_up) T
 have qH:=g9.elim fun f a fd F=>BQ (P:=l.prog) (w:=w) (base:=base) F (V9 X G a) (by w_up) T
 have aW:=g13.elim fun f a fd F=>rV (P:=l.prog) (w:=w) (base:=base) F (V9 X G a) (by w_up) T
 have bq:=g15.elim fun f a fd F=>yV (P:=l.prog) (w:=w) (base:=base) F (V9 X G a) (by w_up) T
 have mT:=g18.elim fun f a fd F=>yT (P:=l.prog) (w:=w) (base:=base) F (V9 X G a) (by w_up) T
 have kW:=g19.elim fun f a fd F=>xG (P:=l.prog) (w:=w) (base:=base) F (V9 X G a) (by w_up) T
 have fk:=g20.elim fun f a fd F=>ku (P:=l.prog) (w:=w) (base:=base) F (V9 X G a) (by w_up) T
 have dg:=g22.elim fun f a fd F=>qV (P:=l.prog) (w:=w) (base:=base) F (V9 X G a) (by w_up) T
 have jv:=g32.elim fun f a fd F=>uI (P:=l.prog) (w:=w) (base:=base) F (V9 X G a) (by w_up) T
 have aJ:=g33.elim fun f a fd F=>vo (P:=l.prog) (w:=w) (base:=base) F (V9 X G a) (by w_up) T
 have jd:=g35.elim fun f a fd F=>rR (P:=l.prog) (w:=w) (base:=base) F (V9 X G a) (by w_up) T
 have jE:=g38.elim fun f a fd F=>u7 (P:=l.prog) (w:=w) (base:=base) F (V9 X G a) (by w_up) T
 have lT:=g39.elim fun f a fd F=>xY (P:=l.prog) (w:=w) (base:=base) F (V9 X G a) (by w_up) T
 have fC:=g41.elim fun f a fd F=>vK (P:=l.prog) (w:=w) (base:=base) F (V9 X G a) (by w_up) T
 have iz:=g46.elim fun f a fd F=>q9 (P:=l.prog) (w:=w) (base:=base) F (V9 X G a) (by w_up) T
 have f7:=g47.elim fun f a fd F=>qG (P:=l.prog) (w:=w) (base:=base) F (V9 X G a) (by w_up) T
 have cT:=g48.elim fun f a fd F=>kF (P:=l.prog) (w:=w) (base:=base) F (V9 X G a) (by w_up) T
 have eu:=g49.elim fun f a fd F=>rQ (P:=l.prog) (w:=w) (base:=base) F (V9 X G a) (by w_up) T
 have ji:=g2.elim fun f a fd F=>EC (P:=l.prog) (w:=w) (base:=base) F (V9 X G a) (by w_up) T gz
 have bH:=g8.elim fun f a fd F=>xM (P:=l.prog) (w:=w) (base:=base) F (V9 X G a) (by w_up) T k9
 have iG:=g14.elim fun f a fd F=>qE (P:=l.prog) (w:=w) (base:=base) F (V9 X G a) (by w_up) T aW
 have dP:=g17.elim fun f a fd F=>xT (P:=l.prog) (w:=w) (base:=base) F (V9 X G a) (by w_up) T fk mT kW
 have eS:=g23.elim fun f a fd F=>AS (P:=l.prog) (w:=w) (base:=base) F (V9 X G a) (by w_up) T dg
 have fX:=g24.elim fun f a fd F=>vY (P:=l.prog) (w:=w) (base:=base) F (V9 X G a) (by w_up) T dg
 have fz:=g29.elim fun f a fd F=>uH (P:=l.prog) (w:=w) (base:=base) F (V9 X G a) (by w_up) T aW
 have iY:=g34.elim fun f a fd F=>wC (P:=l.prog) (w:=w) (base:=base) F (V9 X G a) (by w_up) T aJ
 have cW:=g37.elim fun f a fd F=>r9 (P:=l.prog) (w:=w) (base:=base) F (V9 X G a) (by w_up) T aJ
 have i_:=g40.elim fun f a fd F=>rF (P:=l.prog) (w:=w) (base:=base) F (V9 X G a) (by w_up) T lT jE
 have jT:=g43.elim fun f a fd F=>uW (P:=l.prog) (w:=w) (base:=base) F (V9 X G a) (by w_up) T aJ
 have lI:=g3.elim fun f a fd F=>xC (P:=l.prog) (w:=w) (base:=base) F (V9 X G a) (by w_up) T gz ji
 have lq:=g5.elim fun f a fd F=>wV (P:=l.prog) (w:=w) (base:=base) F (V9 X G a) (by w_up) T ji
 have jR:=g6.elim fun f a fd F=>uY (P:=l.prog) (w:=w) (base:=base) F (V9 X G a) (by w_up) T ji
 have yE:=g16.elim fun f a fd F=>FE (P:=l.prog) (w:=w) (base:=base) F (V9 X G a) (by w_up) T dP
 have fW:=g36.elim fun f a fd F=>wL (P:=l.prog) (w:=w) (base:=base) F (V9 X G a) (by w_up) T aJ iY jd
 have bx:=g4.elim fun f a fd F=>zJ (P:=l.prog) (w:=w) (base:=base) F (V9 X G a) (by w_up) T gW lI gz
 have m9:=g26.elim fun f a fd F=>zQ (P:=l.prog) (w:=w) (base:=base) F (V9 X G a) (by w_up) T jR fX bq bH aW
 have iC:=g44.elim fun f a fd F=>qt (P:=l.prog) (w:=w) (base:=base) F (V9 X G a) (by w_up) T fW aJ
 have jw:=g45.elim fun f a fd F=>uU (P:=l.prog) (w:=w) (base:=base) F (V9 X G a) (by w_up) T aJ cW fW
 have qA:=g10.elim fun f a fd F=>Bp (P:=l.prog) (w:=w) (base:=base) F (V9 X G a) (by w_up) T bx
 have uJ:=g21.elim fun f a fd F=>B6 (P:=l.prog) (w:=w) (base:=base) F (V9 X G a) (by w_up) T bq qH bx
 have jW:=g25.elim fun f a fd F=>vN (P:=l.prog) (w:=w) (base:=base) F (V9 X G a) (by w_up) T lq aW eS bq bH bx
 have nF:=g27.elim fun f a fd F=>yP (P:=l.prog) (w:=w) (base:=base) F (V9 X G a) (by w_up) T bx bq fX bH fz
 have lu:=g28.elim fun f a fd F=>w9 (P:=l.prog) (w:=w) (base:=base) F (V9 X G a) (by w_up) T bx bq fz eS bH aW
 have cO:=g11.elim fun f a fd F=>yF (P:=l.prog) (w:=w) (base:=base) F (V9 X G a) (by w_up) T qA bH
 have eH:=g42.elim fun f a fd F=>jS (P:=l.prog) (w:=w) (base:=base) F (V9 X G a) (by w_up) T nF jW m9 lu
 have lR:=g12.elim fun f a fd F=>xJ (P:=l.prog) (w:=w) (base:=base) F (V9 X G a) (by w_up) T cO iG
 have iJ:=g30.elim fun f a fd F=>BD (P:=l.prog) (w:=w) (base:=base) F (V9 X G a) (by w_up) T cO aW bx
 have m8:=g31.elim fun f a fd F=>yY (P:=l.prog) (w:=w) (base:=base) F (V9 X G a) (by w_up) T eS iJ bq
 have fG:=g50.elim fun f a fd F=>rS (P:=l.prog) (w:=w) (base:=base) F (V9 X G a) (by w_up) T eH dP m8 f7 iJ yE eu uJ lR cT fC
 exact Kh (Eb (st:=h_) l51 Qe k51) T iz jv aJ jw eu jT iC cW cO i_ fC fG
theorem walk {l:PySem.W.OpenLaw}{q:Program}{loose:List Str}{XP:(Str->Option Value)->Heap->Prop}{YP:World->Heap->Prop}{d:DefRec}{K:Params->W.Frag}(hn:l.most=some 63) (hdf:d.params.defaults=[])
  (hY:∀(w:World) (h:Heap),YP w h->(K w.params).In h)
  (F:∀(w:World) (mg:Str->Option Value) (fa:Addr) (h:Heap),(K w.params).In h->h.Ns mainGlobals mg->mg d.name=some (.ref fa) ->
   ∃fd:FuncData,(∀(s:Shared) (u:Value),BindsTo s fd ⟨[u],[]⟩ [("_law_script",u)])/\∀base:Heap,(K w.params).In base->base.Ns mainGlobals mg->rZ l.prog w (K w.params) mg base E8 10 fa fd ["_law_script"] (vD (K w.params))) :
  PySem.W.WalkO q loose XP YP l.row.toRowW d [] (fun f vs=>PySem.call f vs) :=
 L2.FQ (n:=63) (k:=10) (x := "_law_script") (CX:=fun _=>E8) (sp:=fun w=>vD (K w.params)) hn (by decide) hdf ⟨rfl,by decide,by decide,rfl⟩ hY F (fun _ _ a ns hl _ hS=>⟨a,ns,rfl,hS,hl,fun _=>rfl⟩) fun _ _ _ _ _ z=>z
end Law
noncomputable def PySem.W.Fast.tw916096575857809311:PySem.Program:=PySem.Challenge.pw_tailrooms_k49_yards_and_steps_changed
theorem PySem.W.Fast.te916096575857809311:PySem.Challenge.pw_tailrooms_k49_yards_and_steps_changed=PySem.W.Fast.tw916096575857809311:=rfl
noncomputable section
namespace HD
abbrev zD:=List PySem.DictEntry
abbrev zL:=List PySem.Value
abbrev zO:=List PySem.Obj
def zT(a b:Int)(c:Nat)(r:zL):zL:=(.int a 0)::(.int b 0)::(.ref c)::r
open PySem PySem.W PySem.PyData
def pB:List Stmt:=PySem.Challenge.pw_tailrooms_k49_yards_and_steps_changed.main.body
def nS:List Stmt->Nat->Stmt
 | s::_,0=>s
 | _::r,n+1=>nS r n
 | [],_=>.Pass ⟨0,0,0,0⟩
def bS:Stmt->List Stmt
 | .FunctionDef _ _ b ..=>b
 | .ClassDef _ _ _ b ..=>b
 | _=>[]
def aS:Stmt->Arguments
 | .FunctionDef _ a ..=>a
 | _=>⟨[],[],none,[],[],none,[]⟩
def sS:Stmt->Scope
 | .FunctionDef _ _ _ _ _ _ s ..=>s
 | _=>⟨.function,[],false,false,[]⟩
def f (i:Nat):Stmt:=nS pB i
def m (i j:Nat):Stmt:=nS (bS (f i)) j
abbrev O:=Params->Obj
def E (P:Params) (x:Str) (n:Nat) (v:Value):DictEntry:=⟨keyHash P x,.str x n,v⟩
abbrev B:=Params->BT
def n (o:O) (l r:B):B:=fun P=>.node (o P) (l P) (r P)
def w (o:O):B:=fun P=>.node (o P) .nil .nil
def u:B:=fun _=>.nil
def c0 (P:Params)(r:zD):zD:=(E P "__name__" 165 (.str "tailrooms.errors" 362))::(E P "__doc__" 166 .none)::(E P "__package__" 167 .none)::(E P "__loader__" 168 (.builtin "__main__.__loader__#opaque"))::(E P "__spec__" 169 .none)::(E P "__annotations__" 170 (.ref 6))::(E P "__builtins__" 171 (.ref 4))::(E P "__file__" 173 (.str "/claim/cut.py" 172))::r
def c1 (P:Params)(r:zD):zD:=(E P "__cached__" 174 .none)::(E P "last_bits" 196 (.ref 21))::(E P "level" 203 (.ref 28))::(E P "turn" 210 (.ref 35))::(E P "bits_for" 219 (.ref 42))::(E P "room_of" 227 (.ref 49))::(E P "split_of" 234 (.ref 56))::(E P "joined_of" 242 (.ref 63))::r
def c2 (P:Params)(r:zD):zD:=(E P "rows_for" 252 (.ref 70))::(E P "cut_rows" 258 (.ref 75))::(E P "looked" 268 (.ref 82))::(E P "spread" 276 (.ref 87))::(E P "yard_of" 284 (.ref 92))::(E P "is_clean" 294 (.ref 99))::(E P "entries_in" 300 (.ref 104))::(E P "all_entries" 306 (.ref 109))::r
def c3 (P:Params)(r:zD):zD:=(E P "rows_at" 314 (.ref 116))::(E P "done" 322 (.ref 123))::(E P "done_all" 328 (.ref 128))::(E P "lay_row" 339 (.ref 135))::(E P "cut_room" 348 (.ref 142))::(E P "leave_last_rooms" 355 (.ref 149))::(E P "found" 361 (.ref 154))::(E P "TailError" 381 (.ref 164))::r
def c4 (P:Params)(r:zD):zD:=(E P "NoRoom" 406 (.ref 184))::r
def c5 (P:Params)(r:zL):zL:=zT 2 0 20<|zT 4 0 27<|zT 6 0 34<|zT 8 0 41<|zT 13 0 48<|zT 15 0 55<|r
def c6 (P:Params)(r:zL):zL:=zT 17 0 62<|zT 23 0 69<|zT 25 0 74<|zT 27 0 81<|zT 35 0 86<|zT 41 0 91<|r
def c7 (P:Params)(r:zL):zL:=zT 45 0 98<|zT 48 0 103<|zT 50 0 108<|zT 52 0 115<|zT 54 0 122<|zT 56 0 127<|r
def c8 (P:Params)(r:zL):zL:=zT 68 0 134<|zT 75 0 141<|zT 78 0 148<|zT 81 0 153<|zT 89 0 160<|zT 91 0 173<|r
def c9 (P:Params)(r:zD):zD:=(E P "__name__" 165 (.str "law_tailrooms_k49_yards_and_steps_changed" 537))::(E P "__doc__" 166 .none)::(E P "__package__" 167 .none)::(E P "__loader__" 168 (.builtin "__main__.__loader__#opaque"))::(E P "__spec__" 169 .none)::(E P "__annotations__" 170 (.ref 6))::(E P "__builtins__" 171 (.ref 4))::(E P "__file__" 173 (.str "/claim/cut.py" 172))::r
def Sw (P:Params)(r:zD):zD:=(E P "NoRoom" 406 (.ref 184))::(E P "Lacking" 431 (.ref 203))::(E P "unlike_rows" 439 (.ref 210))::(E P "onward" 449 (.ref 217))::(E P "backward" 458 (.ref 224))::(E P "splitting" 464 (.ref 229))::(E P "joining" 478 (.ref 236))::(E P "putting" 493 (.ref 243))::r
def QS (P:Params)(r:zD):zD:=(E P "dropping" 507 (.ref 250))::(E P "others_in" 513 (.ref 255))::(E P "mended" 530 (.ref 262))::(E P "mending" 536 (.ref 267))::(E P "_law_open" 544 (.ref 272))::(E P "_law_draw" 555 (.ref 279))::(E P "_law_far" 565 (.ref 286))::(E P "_law_power" 574 (.ref 293))::r
def c12 (P:Params)(r:zD):zD:=(E P "_law_key" 583 (.ref 300))::(E P "_law_thing" 589 (.ref 305))::r
def Sl (P:Params)(r:zL):zL:=zT 95 0 192<|zT 100 0 209<|zT 102 0 216<|zT 107 0 223<|zT 109 0 228<|zT 118 0 235<|r
def Q6 (P:Params)(r:zL):zL:=zT 126 0 242<|zT 132 0 249<|zT 140 0 254<|zT 143 0 261<|zT 151 0 266<|zT 159 0 271<|r
def UD (P:Params)(r:zL):zL:=zT 168 0 278<|zT 179 0 285<|zT 186 0 292<|zT 191 0 299<|zT 203 0 304<|r
def Uv (P:Params)(r:zD):zD:=(E P "rows_at" 314 (.ref 116))::(E P "done" 322 (.ref 123))::(E P "done_all" 328 (.ref 128))::(E P "lay_row" 339 (.ref 135))::(E P "cut_room" 348 (.ref 142))::(E P "leave_last_rooms" 355 (.ref 149))::(E P "found" 361 (.ref 154))::r
def UE (P:Params)(r:zL):zL:=zT 68 0 134<|zT 75 0 141<|zT 78 0 148<|zT 81 0 153<|r
def T9 (P:Params)(r:zD):zD:=(E P "_law_key" 583 (.ref 300))::(E P "_law_thing" 589 (.ref 305))::(E P "_law_room" 599 (.ref 312))::(E P "_law_cut" 609 (.ref 319))::(E P "_law_clean" 615 (.ref 324))::(E P "_law_copy" 621 (.ref 329))::(E P "_law_asked_change" 631 (.ref 336))::(E P "_law_ways" 641 (.ref 343))::r
def UQ (P:Params)(r:zD):zD:=(E P "_law_key_of" 647 (.ref 348))::(E P "_law_near" 653 (.ref 353))::(E P "_law_places" 662 (.ref 360))::(E P "_law_copied" 671 (.ref 367))::(E P "_law_spoil_steps" 677 (.ref 372))::(E P "_law_spoil" 686 (.ref 379))::(E P "_law_asked" 692 (.ref 384))::r
def T4 (P:Params)(r:zL):zL:=zT 168 0 278<|zT 179 0 285<|zT 186 0 292<|zT 191 0 299<|zT 203 0 304<|zT 206 0 311<|r
def TN (P:Params)(r:zL):zL:=zT 215 0 318<|zT 222 0 323<|zT 227 0 328<|zT 229 0 335<|zT 237 0 342<|zT 244 0 347<|r
def TQ (P:Params)(r:zL):zL:=zT 252 0 352<|zT 260 0 359<|zT 262 0 366<|zT 269 0 371<|zT 278 0 378<|zT 284 0 383<|r
def UZ (P:Params)(r:zL):zL:=zT 68 0 134<|zT 75 0 141<|zT 78 0 148<|zT 81 0 153<|zT 89 0 160<|r
def Uj (P:Params)(r:zD):zD:=(E P "_law_key_of" 647 (.ref 348))::(E P "_law_near" 653 (.ref 353))::(E P "_law_places" 662 (.ref 360))::(E P "_law_copied" 671 (.ref 367))::(E P "_law_spoil_steps" 677 (.ref 372))::(E P "_law_spoil" 686 (.ref 379))::(E P "_law_asked" 692 (.ref 384))::(E P "law" 698 (.ref 389))::r
def Vc (P:Params)(r:zL):zL:=zT 297 0 388<|r
def UG (P:Params)(r:zD):zD:=(E P "__name__" 165 (.str "tailrooms.changes" 432))::(E P "__doc__" 166 .none)::(E P "__package__" 167 .none)::(E P "__loader__" 168 (.builtin "__main__.__loader__#opaque"))::(E P "__spec__" 169 .none)::(E P "__annotations__" 170 (.ref 6))::(E P "__builtins__" 171 (.ref 4))::(E P "__file__" 173 (.str "/claim/cut.py" 172))::r
def Vb (P:Params)(r:zD):zD:=(E P "NoRoom" 406 (.ref 184))::(E P "Lacking" 431 (.ref 203))::(E P "unlike_rows" 439 (.ref 210))::(E P "onward" 449 (.ref 217))::(E P "backward" 458 (.ref 224))::(E P "splitting" 464 (.ref 229))::r
def U5 (P:Params)(r:zL):zL:=zT 95 0 192<|zT 100 0 209<|zT 102 0 216<|zT 107 0 223<|zT 109 0 228<|r
def gg (a0:Str) (a1:Str) (a2:Stmt) (P:Params):Obj:=⟨.none,none,(.func ⟨a0,a1,(aS a2),(.stmts (bS a2)),(sS a2),0,[],.none,.none,.none,.none,none,.none,.none,0⟩),#[]⟩
def Qy (a0:Str) (a1:Nat) (a2:Int) (a3:Nat) (a4:Int) (P:Params):Obj:=⟨(.type "code"),none,(.fields #[(.str a0 a1),(.str a0 (a1+1)),(.str "/claim/cut.py" (a1+2)),(.int a2 0),(.int 0 0),(.int 0 0),(.int 0 0),(.int 0 0),(.ref a3),(.bool .false),(.int 181 0),(.ref (a3+1)),.none,.none,.none,.none,(.int a4 0),(.int a2 0),(.str "/claim/cut.py" (a1+4))]),#[]⟩
def Hy (a0:Str) (a1:Nat) (a2:Str) (a3:Str) (P:Params):Obj:=⟨(.type "tuple"),none,(.seq #[(.str a0 a1),(.str a2 (a1+1)),(.str a3 (a1+2))] 0),#[]⟩
def RW (a0:Nat) (P:Params):Obj:=⟨(.type "super"),none,(.fields #[(.ref a0),(.ref a0),(.ref a0)]),#[]⟩
def Sh (a0:Nat) (P:Params):Obj:=⟨(.type "builtin_function_or_method"),none,(.fields #[(.builtin "object.__init_subclass__"),(.ref a0)]),#[]⟩
def fZ (a0:Str) (a1:Str) (a2:Stmt) (a3:Str) (a4:Nat) (a5:Nat) (P:Params):Obj:=⟨(.type "function"),none,(.func ⟨a0,a1,(aS a2),(.stmts (bS a2)),(sS a2),3,[],.none,.none,.none,(.str a3 a4),none,(.ref a5),.none,0⟩),#[]⟩
def G6 (a0:Str) (a1:Nat) (a2:Str) (a3:Str) (a4:Str) (P:Params):Obj:=⟨(.type "tuple"),none,(.seq #[(.str a0 a1),(.str a2 (a1+1)),(.str a3 (a1+2)),(.str a4 (a1+3))] 0),#[]⟩
def jZ (a0:Str) (a1:Nat) (a2:Str) (a3:Int) (a4:Int) (a5:Nat) (a6:Int) (a7:Nat) (P:Params):Obj:=⟨(.type "code"),none,(.fields #[(.str a0 a1),(.str a2 (a1+1)),(.str "/claim/cut.py" (a1+2)),(.int a3 0),(.int a4 0),(.int 0 0),(.int 0 0),(.int 3 0),(.ref a5),(.bool .true),(.int 181 0),(.ref (a5+1)),.none,(.ref (a5+2)),(.ref (a5+3)),(.ref (a5+4)),(.int a6 0),(.int a3 0),(.str "/claim/cut.py" a7)]),#[]⟩
def tU (a0:Str) (a1:Nat) (a2:Int) (a3:Int) (a4:Nat) (a5:Int) (P:Params):Obj:=⟨(.type "code"),none,(.fields #[(.str a0 a1),(.str a0 (a1+1)),(.str "/claim/cut.py" (a1+2)),(.int a2 0),(.int a3 0),(.int 0 0),(.int 0 0),(.int 3 0),(.ref a4),(.bool .true),(.int 181 0),(.ref (a4+1)),.none,.none,.none,(.ref (a4+2)),(.int a5 0),(.int a2 0),(.str "/claim/cut.py" (a1+4))]),#[]⟩
def Qz (a0:Nat) (a1:Nat) (a2:Str) (a3:Nat) (P:Params):Obj:=⟨(.type "frame"),none,.plain,#[(some (.ref a0)),(some (.ref 3)),(some (.ref a1)),none,(some (.str a2 a3)),none,(some (.ref 0))]⟩
def RJ (a0:Nat) (a1:Int) (a2:Str) (a3:Nat) (a4:Nat) (a5:Str) (a6:Nat) (a7:Nat) (P:Params):Obj:=⟨(.type "dict"),none,(.dict #[(E P "__module__" a0 (.str "tailrooms.errors" 362)),(E P "__firstlineno__" (a0+4) (.int a1 (a0+3))),(E P a2 a3 (.ref a4)),(E P a5 (a3+2) (.ref a6)),(E P "__doc__" (a3+3) .none)] a7),#[]⟩
def LR (a0:Str) (a1:Nat) (P:Params):Obj:=⟨(.type "tuple"),none,(.seq #[(.str a0 a1)] 0),#[]⟩
def Ik (a0:Str) (a1:Nat) (a2:Str) (P:Params):Obj:=⟨(.type "tuple"),none,(.seq #[(.str a0 a1),(.str a2 (a1+1))] 0),#[]⟩
noncomputable def o0:O:=fun P=>⟨(.type "dict"),none,(.dict (c0 P (c1 P (c2 P (c3 P (c4 P []))))).toArray 33),#[]⟩
noncomputable def o1:O:=fun P=>⟨(.type "tuple"),none,(.seq #[] 0),#[]⟩
noncomputable def o2:O:=fun P=>⟨.none,none,(.fields (c5 P (c6 P (c7 P (c8 P [])))).toArray),#[]⟩
noncomputable def o3:O:=Qy "<module>" 182 1 11 185
noncomputable def o4:O:=Qz 13 3 "__main__" 164
noncomputable def o5:O:=fun P=>⟨.none,none,(.fields #[]),#[]⟩
noncomputable def o6:O:=Ik "key" 192 "many"
noncomputable def o7:O:=gg "last_bits" "last_bits" (f 1)
noncomputable def o8:O:=jZ "last_bits" 189 "last_bits" 2 2 15 194 195
noncomputable def o9:O:=fZ "last_bits" "last_bits" (f 1) "tailrooms.bits" 187 20
noncomputable def Iq:O:=LR "rooms" 200
noncomputable def G3:O:=gg "level" "level" (f 2)
noncomputable def Io:O:=jZ "level" 197 "level" 4 1 22 201 202
noncomputable def G5:O:=fZ "level" "level" (f 2) "tailrooms.bits" 187 27
noncomputable def LM:O:=LR "rooms" 207
noncomputable def IP:O:=gg "turn" "turn" (f 3)
noncomputable def JL:O:=jZ "turn" 204 "turn" 6 1 29 208 209
noncomputable def JI:O:=fZ "turn" "turn" (f 3) "tailrooms.bits" 187 34
noncomputable def MO:O:=Hy "room" 214 "rooms" "deep"
noncomputable def MT:O:=gg "bits_for" "bits_for" (f 4)
noncomputable def Mk:O:=jZ "bits_for" 211 "bits_for" 8 2 36 217 218
noncomputable def Mx:O:=fZ "bits_for" "bits_for" (f 4) "tailrooms.bits" 187 41
noncomputable def Mb:O:=Ik "key" 223 "rooms"
noncomputable def MW:O:=gg "room_of" "room_of" (f 5)
noncomputable def MV:O:=jZ "room_of" 220 "room_of" 13 2 43 225 226
noncomputable def MS:O:=fZ "room_of" "room_of" (f 5) "tailrooms.bits" 187 48
noncomputable def Ma:O:=LR "rooms" 231
noncomputable def LK:O:=gg "split_of" "split_of" (f 6)
noncomputable def LF:O:=jZ "split_of" 228 "split_of" 15 1 50 232 233
noncomputable def MQ:O:=fZ "split_of" "split_of" (f 6) "tailrooms.bits" 187 55
noncomputable def My:O:=Ik "rooms" 238 "room"
noncomputable def LY:O:=gg "joined_of" "joined_of" (f 7)
noncomputable def Mm:O:=jZ "joined_of" 235 "joined_of" 17 1 57 240 241
noncomputable def L8:O:=fZ "joined_of" "joined_of" (f 7) "tailrooms.bits" 187 62
noncomputable def K7:O:=Ik "many" 248 "wide"
noncomputable def Ip:O:=gg "rows_for" "rows_for" (f 9)
noncomputable def JB:O:=jZ "rows_for" 245 "rows_for" 23 2 64 250 251
noncomputable def Mg:O:=fZ "rows_for" "rows_for" (f 9) "tailrooms.rows" 243 69
noncomputable def Mp:O:=gg "cut_rows" "cut_rows" (f 10)
noncomputable def MB:O:=tU "cut_rows" 253 25 2 71 256
noncomputable def MM:O:=fZ "cut_rows" "cut_rows" (f 10) "tailrooms.rows" 243 74
noncomputable def LH:O:=G6 "rows" 262 "key" "looks" "row"
noncomputable def ME:O:=gg "looked" "looked" (f 11)
noncomputable def ML:O:=jZ "looked" 259 "looked" 27 2 76 266 267
noncomputable def MH:O:=fZ "looked" "looked" (f 11) "tailrooms.rows" 243 81
noncomputable def LJ:O:=gg "spread" "spread" (f 13)
noncomputable def Mj:O:=tU "spread" 271 35 2 83 274
noncomputable def MN:O:=fZ "spread" "spread" (f 13) "tailrooms.spread" 269 86
noncomputable def MU:O:=gg "yard_of" "yard_of" (f 15)
noncomputable def LW:O:=tU "yard_of" 279 41 3 88 282
noncomputable def LU:O:=fZ "yard_of" "yard_of" (f 15) "tailrooms.yards" 277 91
noncomputable def Mv:O:=G6 "yard" 288 "wide" "rooms" "held"
noncomputable def KA:O:=gg "is_clean" "is_clean" (f 16)
noncomputable def K8:O:=jZ "is_clean" 285 "is_clean" 45 1 93 292 293
noncomputable def Je:O:=fZ "is_clean" "is_clean" (f 16) "tailrooms.yards" 277 98
noncomputable def MJ:O:=gg "entries_in" "entries_in" (f 17)
noncomputable def LI:O:=tU "entries_in" 295 48 1 100 298
noncomputable def LO:O:=fZ "entries_in" "entries_in" (f 17) "tailrooms.yards" 277 103
noncomputable def Mz:O:=gg "all_entries" "all_entries" (f 18)
noncomputable def L0:O:=tU "all_entries" 301 50 1 105 304
noncomputable def LX:O:=fZ "all_entries" "all_entries" (f 18) "tailrooms.yards" 277 108
noncomputable def L_:O:=Ik "held" 310 "room"
noncomputable def MK:O:=gg "rows_at" "rows_at" (f 19)
noncomputable def Mf:O:=jZ "rows_at" 307 "rows_at" 52 2 110 312 313
noncomputable def Mc:O:=fZ "rows_at" "rows_at" (f 19) "tailrooms.yards" 277 115
noncomputable def MA:O:=Ik "yard" 318 "step"
noncomputable def LA:O:=gg "done" "done" (f 20)
noncomputable def LV:O:=jZ "done" 315 "done" 54 2 117 320 321
noncomputable def Ml:O:=fZ "done" "done" (f 20) "tailrooms.yards" 277 122
noncomputable def Mn:O:=gg "done_all" "done_all" (f 21)
noncomputable def MD:O:=tU "done_all" 323 56 2 124 326
noncomputable def Mu:O:=fZ "done_all" "done_all" (f 21) "tailrooms.yards" 277 127
noncomputable def IQ:O:=fun P=>⟨(.type "tuple"),none,(.seq #[(.str "held" 332),(.str "room" 333),(.str "at" 334),(.str "row" 335),(.str "rows" 336)] 0),#[]⟩
noncomputable def Jm:O:=gg "lay_row" "lay_row" (f 22)
noncomputable def LD:O:=jZ "lay_row" 329 "lay_row" 68 4 129 337 338
noncomputable def LZ:O:=fZ "lay_row" "lay_row" (f 22) "tailrooms.yards" 277 134
noncomputable def LC:O:=Hy "held" 343 "room" "many"
noncomputable def L7:O:=gg "cut_room" "cut_room" (f 23)
noncomputable def LB:O:=jZ "cut_room" 340 "cut_room" 75 3 136 346 347
noncomputable def MF:O:=fZ "cut_room" "cut_room" (f 23) "tailrooms.yards" 277 141
noncomputable def Mw:O:=LR "held" 352
noncomputable def Mq:O:=gg "leave_last_rooms" "leave_last_rooms" (f 24)
noncomputable def LS:O:=jZ "leave_last_rooms" 349 "leave_last_rooms" 78 1 143 353 354
noncomputable def MR:O:=fZ "leave_last_rooms" "leave_last_rooms" (f 24) "tailrooms.yards" 277 148
noncomputable def LL:O:=gg "found" "found" (f 25)
noncomputable def Mh:O:=tU "found" 356 81 2 150 359
noncomputable def MG:O:=fZ "found" "found" (f 25) "tailrooms.yards" 277 153
noncomputable def O5:O:=fun P=>⟨(.type "tuple"),none,(.seq #[(.type "ValueError")] 0),#[]⟩
noncomputable def Av:O:=fun P=>⟨(.type "builtin_function_or_method"),none,(.fields #[(.builtin "type.__prepare__"),(.type "type")]),#[]⟩
noncomputable def Ow:O:=fun P=>⟨(.type "dict"),none,(.dict #[(E P "__module__" 371 (.str "tailrooms.errors" 362)),(E P "__qualname__" 373 (.str "TailError" 372)),(E P "__firstlineno__" 375 (.int 89 374)),(E P "__static_attributes__" 376 (.ref 162))] 4),#[]⟩
noncomputable def Ou:O:=Qy "TailError" 366 89 158 369
noncomputable def LQ:O:=Qz 160 157 "tailrooms.errors" 362
noncomputable def Mt:O:=RJ 371 89 "__static_attributes__" 376 162 "__weakref__" 165 3
noncomputable def Us:O:=fun P=>⟨(.type "type"),none,(.cls ⟨"TailError",[(.type "ValueError")],[(.ref 164),(.type "ValueError"),(.type "Exception"),(.type "BaseException"),(.type "object")],163,"TailError",.true,[],[(.ref 184)],.false,none,.false⟩),#[(some (.ref 155)),none,(some (.str "TailError" 364)),(some (.str "TailError" 372)),(some (.builtin "ValueError.__new__")),(some (.bool .true))]⟩
noncomputable def LG:O:=fun P=>⟨(.type "getset_descriptor"),none,(.fields #[(.str "__weakref__" 377),(.ref 164),(.builtin "ExceptionGroup.__weakref__"),.none]),#[]⟩
noncomputable def PM:O:=RW 164
noncomputable def Qa:O:=Sh 164
noncomputable def FZ:O:=fun P=>⟨(.type "tuple"),none,(.seq #[(.ref 164)] 0),#[]⟩
noncomputable def PV:O:=fun P=>⟨(.type "dict"),none,(.dict #[(E P "__module__" 389 (.str "tailrooms.errors" 362)),(E P "__qualname__" 391 (.str "NoRoom" 390)),(E P "__firstlineno__" 393 (.int 91 392)),(E P "__init__" 401 (.ref 181)),(E P "__static_attributes__" 403 (.ref 182))] 5),#[]⟩
noncomputable def Oq:O:=fun P=>⟨.none,none,(.fields #[(.int 93 0),(.int 4 0),(.ref 180)]),#[]⟩
noncomputable def DE:O:=Qy "NoRoom" 384 91 171 387
noncomputable def DT:O:=Qz 173 170 "tailrooms.errors" 362
noncomputable def Dr:O:=Ik "self" 397 "number"
noncomputable def Df:O:=gg "__init__" "NoRoom.__init__" (m 28 0)
noncomputable def BZ:O:=jZ "__init__" 394 "NoRoom.__init__" 93 2 175 399 400
noncomputable def B4:O:=fZ "__init__" "NoRoom.__init__" (m 28 0) "tailrooms.errors" 362 180
noncomputable def DN:O:=LR "number" 402
noncomputable def CP:O:=RJ 389 91 "__init__" 401 181 "__static_attributes__" 182 2
noncomputable def CF:O:=fun P=>⟨(.type "type"),none,(.cls ⟨"NoRoom",[(.ref 164)],[(.ref 184),(.ref 164),(.type "ValueError"),(.type "Exception"),(.type "BaseException"),(.type "object")],183,"NoRoom",.true,[],[],.false,none,.false⟩),#[(some (.ref 168)),none,(some (.str "NoRoom" 382)),(some (.str "NoRoom" 390)),(some (.builtin "ValueError.__new__")),(some (.bool .true))]⟩
noncomputable def Dj:O:=RW 184
noncomputable def Cw:O:=Sh 184
noncomputable def Ra:O:=fun P=>⟨(.type "dict"),none,(.dict (c9 P (c1 P (c2 P (c3 P (Sw P (QS P (c12 P []))))))).toArray 50),#[]⟩
noncomputable def SY:O:=fun P=>⟨.none,none,(.fields (c5 P (c6 P (c7 P (c8 P (Sl P (Q6 P (UD P []))))))).toArray),#[]⟩
noncomputable def Cj:O:=fun P=>⟨(.type "type"),none,(.cls ⟨"TailError",[(.type "ValueError")],[(.ref 164),(.type "ValueError"),(.type "Exception"),(.type "BaseException"),(.type "object")],163,"TailError",.true,[],[(.ref 184),(.ref 203)],.false,none,.false⟩),#[(some (.ref 155)),none,(some (.str "TailError" 364)),(some (.str "TailError" 372)),(some (.builtin "ValueError.__new__")),(some (.bool .true))]⟩
noncomputable def GL:O:=fun P=>⟨(.type "dict"),none,(.dict #[(E P "__module__" 414 (.str "tailrooms.errors" 362)),(E P "__qualname__" 416 (.str "Lacking" 415)),(E P "__firstlineno__" 418 (.int 95 417)),(E P "__init__" 426 (.ref 200)),(E P "__static_attributes__" 428 (.ref 201))] 5),#[]⟩
noncomputable def Ge:O:=fun P=>⟨.none,none,(.fields #[(.int 97 0),(.int 4 0),(.ref 199)]),#[]⟩
noncomputable def Gb:O:=Qy "Lacking" 409 95 190 412
noncomputable def CM:O:=Qz 192 189 "tailrooms.errors" 362
noncomputable def Dk:O:=Ik "self" 422 "key"
noncomputable def E2:O:=gg "__init__" "Lacking.__init__" (m 29 0)
noncomputable def GH:O:=jZ "__init__" 419 "Lacking.__init__" 97 2 194 424 425
noncomputable def FO:O:=fZ "__init__" "Lacking.__init__" (m 29 0) "tailrooms.errors" 362 199
noncomputable def E4:O:=LR "key" 427
noncomputable def F0:O:=RJ 414 95 "__init__" 426 200 "__static_attributes__" 201 2
noncomputable def EK:O:=fun P=>⟨(.type "type"),none,(.cls ⟨"Lacking",[(.ref 164)],[(.ref 203),(.ref 164),(.type "ValueError"),(.type "Exception"),(.type "BaseException"),(.type "object")],202,"Lacking",.true,[],[],.false,none,.false⟩),#[(some (.ref 187)),none,(some (.str "Lacking" 407)),(some (.str "Lacking" 415)),(some (.builtin "ValueError.__new__")),(some (.bool .true))]⟩
noncomputable def FD:O:=RW 203
noncomputable def Fq:O:=Sh 203
noncomputable def FF:O:=gg "unlike_rows" "unlike_rows" (f 31)
noncomputable def E1:O:=tU "unlike_rows" 434 100 3 206 437
noncomputable def FJ:O:=fZ "unlike_rows" "unlike_rows" (f 31) "tailrooms.changes" 432 209
noncomputable def GW:O:=G6 "room" 443 "old" "new" "steps"
noncomputable def FH:O:=gg "onward" "onward" (f 32)
noncomputable def GF:O:=jZ "onward" 440 "onward" 102 3 211 447 448
noncomputable def GC:O:=fZ "onward" "onward" (f 32) "tailrooms.changes" 432 216
noncomputable def Fl:O:=Hy "room" 453 "old" "new"
noncomputable def ER:O:=gg "backward" "backward" (f 33)
noncomputable def Fd:O:=jZ "backward" 450 "backward" 107 3 218 456 457
noncomputable def FL:O:=fZ "backward" "backward" (f 33) "tailrooms.changes" 432 223
noncomputable def Cy:O:=gg "splitting" "splitting" (f 34)
noncomputable def Ef:O:=tU "splitting" 459 109 1 225 462
noncomputable def C_:O:=fZ "splitting" "splitting" (f 34) "tailrooms.changes" 432 228
noncomputable def Lg:O:=fun P=>⟨(.type "tuple"),none,(.seq #[(.str "yard" 468),(.str "wide" 469),(.str "rooms" 470),(.str "held" 471),(.str "room" 472),(.str "into" 473),(.str "both" 474),(.str "steps" 475)] 0),#[]⟩
noncomputable def K5:O:=gg "joining" "joining" (f 35)
noncomputable def KU:O:=jZ "joining" 465 "joining" 118 1 230 476 477
noncomputable def Ju:O:=fZ "joining" "joining" (f 35) "tailrooms.changes" 432 235
noncomputable def Jd:O:=fun P=>⟨(.type "tuple"),none,(.seq #[(.str "yard" 482),(.str "key" 483),(.str "thing" 484),(.str "wide" 485),(.str "rooms" 486),(.str "held" 487),(.str "room" 488),(.str "own" 489),(.str "new" 490)] 0),#[]⟩
noncomputable def JM:O:=gg "putting" "putting" (f 36)
noncomputable def Kf:O:=jZ "putting" 479 "putting" 126 3 237 491 492
noncomputable def IZ:O:=fZ "putting" "putting" (f 36) "tailrooms.changes" 432 242
noncomputable def I_:O:=fun P=>⟨(.type "tuple"),none,(.seq #[(.str "yard" 497),(.str "key" 498),(.str "wide" 499),(.str "rooms" 500),(.str "held" 501),(.str "room" 502),(.str "own" 503),(.str "others" 504)] 0),#[]⟩
noncomputable def K2:O:=gg "dropping" "dropping" (f 37)
noncomputable def IC:O:=jZ "dropping" 494 "dropping" 132 2 244 505 506
noncomputable def KI:O:=fZ "dropping" "dropping" (f 37) "tailrooms.changes" 432 249
noncomputable def KJ:O:=gg "others_in" "others_in" (f 38)
noncomputable def J0:O:=tU "others_in" 508 140 2 251 511
noncomputable def K0:O:=fZ "others_in" "others_in" (f 38) "tailrooms.changes" 432 254
noncomputable def F5:O:=fun P=>⟨(.type "tuple"),none,(.seq #[(.str "yard" 519),(.str "wide" 520),(.str "rooms" 521),(.str "held" 522),(.str "kept" 523),(.str "room" 524),(.str "rows" 525),(.str "key" 526),(.str "thing" 527)] 0),#[]⟩
noncomputable def GG:O:=gg "mended" "mended" (f 40)
noncomputable def Fp:O:=jZ "mended" 516 "mended" 143 1 256 528 529
noncomputable def JZ:O:=fZ "mended" "mended" (f 40) "tailrooms.mends" 514 261
noncomputable def IW:O:=gg "mending" "mending" (f 41)
noncomputable def K9:O:=tU "mending" 531 151 1 263 534
noncomputable def KY:O:=fZ "mending" "mending" (f 41) "tailrooms.mends" 514 266
noncomputable def Lc:O:=gg "_law_open" "_law_open" (f 43)
noncomputable def IV:O:=tU "_law_open" 539 159 2 268 542
noncomputable def Kg:O:=fZ "_law_open" "_law_open" (f 43) "law_tailrooms_k49_yards_and_steps_changed" 537 271
noncomputable def K6:O:=fun P=>⟨(.type "tuple"),none,(.seq #[(.str "_law_hand" 548),(.str "_law_many" 549),(.str "_law_got" 550),(.str "_law_k" 551),(.str "_law_number" 552)] 0),#[]⟩
noncomputable def Jl:O:=gg "_law_draw" "_law_draw" (f 44)
noncomputable def Jt:O:=jZ "_law_draw" 545 "_law_draw" 168 2 273 553 554
noncomputable def KO:O:=fZ "_law_draw" "_law_draw" (f 44) "law_tailrooms_k49_yards_and_steps_changed" 537 278
noncomputable def KW:O:=G6 "_law_hand" 559 "_law_many" "_law_number" "_law_k"
noncomputable def Kn:O:=gg "_law_far" "_law_far" (f 45)
noncomputable def J7:O:=jZ "_law_far" 556 "_law_far" 179 2 280 563 564
noncomputable def Jf:O:=fZ "_law_far" "_law_far" (f 45) "law_tailrooms_k49_yards_and_steps_changed" 537 285
noncomputable def GQ:O:=Hy "_law_many" 569 "_law_number" "_law_k"
noncomputable def EA:O:=gg "_law_power" "_law_power" (f 46)
noncomputable def Fx:O:=jZ "_law_power" 566 "_law_power" 186 1 287 572 573
noncomputable def EE:O:=fZ "_law_power" "_law_power" (f 46) "law_tailrooms_k49_yards_and_steps_changed" 537 292
noncomputable def K_:O:=Hy "_law_hand" 578 "_law_way" "_law_low"
noncomputable def JP:O:=gg "_law_key" "_law_key" (f 47)
noncomputable def II:O:=jZ "_law_key" 575 "_law_key" 191 1 294 581 582
noncomputable def Jy:O:=fZ "_law_key" "_law_key" (f 47) "law_tailrooms_k49_yards_and_steps_changed" 537 299
noncomputable def KP:O:=gg "_law_thing" "_law_thing" (f 48)
noncomputable def JQ:O:=tU "_law_thing" 584 203 1 301 587
noncomputable def Kw:O:=fZ "_law_thing" "_law_thing" (f 48) "law_tailrooms_k49_yards_and_steps_changed" 537 304
noncomputable def Rr:O:=fun P=>⟨(.type "dict"),none,(.dict (c0 P (c1 P (c2 P (Uv P [])))).toArray 31),#[]⟩
noncomputable def RY:O:=fun P=>⟨.none,none,(.fields (c5 P (c6 P (c7 P (UE P [])))).toArray),#[]⟩
noncomputable def Rg:O:=fun P=>⟨(.type "dict"),none,(.dict (c9 P (c1 P (c2 P (c3 P (Sw P (QS P (T9 P (UQ P [])))))))).toArray 63),#[]⟩
noncomputable def S4:O:=fun P=>⟨.none,none,(.fields (c5 P (c6 P (c7 P (c8 P (Sl P (Q6 P (T4 P (TN P (TQ P []))))))))).toArray),#[]⟩
noncomputable def Ph:O:=G6 "_law_key_here" 593 "_law_rooms" "_law_room_here" "_law_grade"
noncomputable def Ny:O:=gg "_law_room" "_law_room" (f 49)
noncomputable def OY:O:=jZ "_law_room" 590 "_law_room" 206 2 306 597 598
noncomputable def Qt:O:=fZ "_law_room" "_law_room" (f 49) "law_tailrooms_k49_yards_and_steps_changed" 537 311
noncomputable def Pn:O:=G6 "_law_wide" 603 "_law_entries" "_law_some" "_law_rows"
noncomputable def NK:O:=gg "_law_cut" "_law_cut" (f 50)
noncomputable def Qs:O:=jZ "_law_cut" 600 "_law_cut" 215 2 313 607 608
noncomputable def Ox:O:=fZ "_law_cut" "_law_cut" (f 50) "law_tailrooms_k49_yards_and_steps_changed" 537 318
noncomputable def J5:O:=gg "_law_clean" "_law_clean" (f 51)
noncomputable def JK:O:=tU "_law_clean" 610 222 3 320 613
noncomputable def JD:O:=fZ "_law_clean" "_law_clean" (f 51) "law_tailrooms_k49_yards_and_steps_changed" 537 323
noncomputable def MZ:O:=gg "_law_copy" "_law_copy" (f 52)
noncomputable def Nu:O:=tU "_law_copy" 616 227 1 325 619
noncomputable def Nf:O:=fZ "_law_copy" "_law_copy" (f 52) "law_tailrooms_k49_yards_and_steps_changed" 537 328
noncomputable def Qn:O:=G6 "_law_yard" 625 "_law_way" "_law_key_here" "_law_thing_here"
noncomputable def M_:O:=gg "_law_asked_change" "_law_asked_change" (f 53)
noncomputable def Qm:O:=jZ "_law_asked_change" 622 "_law_asked_change" 229 4 330 629 630
noncomputable def N6:O:=fZ "_law_asked_change" "_law_asked_change" (f 53) "law_tailrooms_k49_yards_and_steps_changed" 537 335
noncomputable def O1:O:=G6 "_law_hand" 635 "_law_rooms" "_law_entries" "_law_way"
noncomputable def Np:O:=gg "_law_ways" "_law_ways" (f 54)
noncomputable def Nq:O:=jZ "_law_ways" 632 "_law_ways" 237 3 337 639 640
noncomputable def M5:O:=fZ "_law_ways" "_law_ways" (f 54) "law_tailrooms_k49_yards_and_steps_changed" 537 342
noncomputable def Pw:O:=gg "_law_key_of" "_law_key_of" (f 55)
noncomputable def PY:O:=tU "_law_key_of" 642 244 3 344 645
noncomputable def Qu:O:=fZ "_law_key_of" "_law_key_of" (f 55) "law_tailrooms_k49_yards_and_steps_changed" 537 347
noncomputable def Pq:O:=gg "_law_near" "_law_near" (f 56)
noncomputable def N_:O:=tU "_law_near" 648 252 3 349 651
noncomputable def J3:O:=fZ "_law_near" "_law_near" (f 56) "law_tailrooms_k49_yards_and_steps_changed" 537 352
noncomputable def Ky:O:=Hy "_law_script" 657 "_law_least" "_law_most"
noncomputable def Ng:O:=gg "_law_places" "_law_places" (f 57)
noncomputable def ON:O:=jZ "_law_places" 654 "_law_places" 260 3 354 660 661
noncomputable def N3:O:=fZ "_law_places" "_law_places" (f 57) "law_tailrooms_k49_yards_and_steps_changed" 537 359
noncomputable def Px:O:=Hy "_law_steps" 666 "_law_found_steps" "_law_step"
noncomputable def O8:O:=gg "_law_copied" "_law_copied" (f 58)
noncomputable def PF:O:=jZ "_law_copied" 663 "_law_copied" 262 1 361 669 670
noncomputable def ND:O:=fZ "_law_copied" "_law_copied" (f 58) "law_tailrooms_k49_yards_and_steps_changed" 537 366
noncomputable def Oe:O:=gg "_law_spoil_steps" "_law_spoil_steps" (f 59)
noncomputable def Pd:O:=tU "_law_spoil_steps" 672 269 1 368 675
noncomputable def OB:O:=fZ "_law_spoil_steps" "_law_spoil_steps" (f 59) "law_tailrooms_k49_yards_and_steps_changed" 537 371
noncomputable def PX:O:=Hy "_law_yard" 681 "_law_rows" "_law_row"
noncomputable def NS:O:=gg "_law_spoil" "_law_spoil" (f 60)
noncomputable def NC:O:=jZ "_law_spoil" 678 "_law_spoil" 278 1 373 684 685
noncomputable def Qi:O:=fZ "_law_spoil" "_law_spoil" (f 60) "law_tailrooms_k49_yards_and_steps_changed" 537 378
noncomputable def O7:O:=gg "_law_asked" "_law_asked" (f 61)
noncomputable def Py:O:=tU "_law_asked" 687 284 4 380 690
noncomputable def PL:O:=fZ "_law_asked" "_law_asked" (f 61) "law_tailrooms_k49_yards_and_steps_changed" 537 383
noncomputable def S1:O:=fun P=>⟨(.type "dict"),none,(.dict (c0 P (c1 P (c2 P (c3 P [])))).toArray 32),#[]⟩
noncomputable def QX:O:=fun P=>⟨.none,none,(.fields (c5 P (c6 P (c7 P (UZ P [])))).toArray),#[]⟩
noncomputable def RS:O:=fun P=>⟨(.type "type"),none,(.cls ⟨"TailError",[(.type "ValueError")],[(.ref 164),(.type "ValueError"),(.type "Exception"),(.type "BaseException"),(.type "object")],163,"TailError",.true,[],[],.false,none,.false⟩),#[(some (.ref 155)),none,(some (.str "TailError" 364)),(some (.str "TailError" 372)),(some (.builtin "ValueError.__new__")),(some (.bool .true))]⟩
noncomputable def Pu:O:=fun P=>⟨(.type "dict"),none,(.dict (c9 P (c1 P (c2 P (c3 P (Sw P (QS P (T9 P (Uj P [])))))))).toArray 64),#[]⟩
noncomputable def OG:O:=fun P=>⟨.none,none,(.fields (c5 P (c6 P (c7 P (c8 P (Sl P (Q6 P (T4 P (TN P (TQ P (Vc P [])))))))))).toArray),#[]⟩
noncomputable def NI:O:=gg "law" "law" (f 62)
noncomputable def Nm:O:=tU "law" 693 297 1 385 696
noncomputable def Qd:O:=fZ "law" "law" (f 62) "law_tailrooms_k49_yards_and_steps_changed" 537 388
noncomputable def Q3:O:=fun P=>⟨(.type "dict"),none,(.dict (UG P (c1 P (c2 P (c3 P (Vb P []))))).toArray 38),#[]⟩
noncomputable def Ss:O:=fun P=>⟨.none,none,(.fields (c5 P (c6 P (c7 P (c8 P (U5 P []))))).toArray),#[]⟩
def Tt:B:=n LM (n L8 (w MD) u) (n Mv (w o5) u)
def UT:B:=n MW (n o1 (w o1) u) (n o5 (w o1) u)
def Tr:B:=n o1 (n o1 (w LZ) u) (n LI (w Qa) u)
def T_:B:=n LF (n MN (w o5) u) (n MA (w CP) u)
def Tw:B:=n JI (n o1 (w IQ) u) (n Je (w Mt) u)
def Uw:B:=n o5 (n o1 (w Mq) u) (n Mf (w Df) u)
def UB:B:=n o1 (n MM (w o1) u) (n Mz (w o1) u)
def T7:B:=n My (n LW (w O5) u) (w Ml)
def Tv:B:=n IP (n o5 (w o1) u) (n KA (w LQ) u)
def Qe:B:=n MS (n ML (w Mw) u) (n o1 (w Dr) u)
def Vh:B:=n Mk (n Mp (w o5) u) (n o1 (w Av) u)
def Uo:B:=n o1 (n o5 (w Mh) u) (n LA (w Dj) u)
def Tu:B:=n o5 (n JB (w Jm) u) (n o5 (w LG) u)
def Vd:B:=n o1 (n LJ (w MR) u) (n o1 (w B4) u)
def UU:B:=n Mb (n o5 (w LB) u) (n LX (w DE) u)
def Tp:B:=n LY (n o1 (w Ow) u) (w o5)
def T5:B:=n o1 (n o1 (w Mu) u) (n o1 (w Ou) u)
def UL:B:=n MV (n ME (w o5) u) (n L_ (w o5) u)
def Uk:B:=n MT (n o5 (w o1) u) (n LO (w FZ) u)
def Ud:B:=n MQ (n o1 (w LL) u) (n o1 (w CF) u)
def Up:B:=n o1 (n Ip (w o1) u) (n o1 (w Us) u)
def UO:B:=n Ma (n o5 (w LS) u) (n Mc (w BZ) u)
def U4:B:=n o5 (n o1 (w L7) u) (n L0 (w Oq) u)
def Tn:B:=n o1 (n LU (w Av) u) (w o1)
def T6:B:=n JL (n K7 (w o5) u) (n K8 (w o1) u)
def Um:B:=n o1 (n MH (w o1) u) (n MK (w o1) u)
def UP:B:=n Mx (n MB (w LC) u) (n o5 (w PV) u)
def U0:B:=n o5 (n MU (w MG) u) (n LV (w Cw) u)
def TR:B:=n MO (n Mg (w LD) u) (n MJ (w PM) u)
def U':B:=n LK (n Mj (w o1) u) (n o5 (w DN) u)
def Vf:B:=n o1 (n LH (w MF) u) (n o1 (w DT) u)
def TM:B:=n Mm (n o5 (w o1) u) (w Mn)
def pF:Params->BT:=(n boot_o_0 (n boot_o_1 (n o0 (n boot_o_7 (n o1 Tt UT) (n o5 Tr T_)) (n o1 (n o7 Tw Uw) (n Io UB T7))) (n boot_o_5 (n boot_o_9 (n o6 Tv Qe) (n o1 Vh Uo)) (n o3 (n o9 Tu Vd) (n o1 UU Tp)))) (n boot_o_2 (n boot_o_4 (n boot_o_8 (n o5 T5 UL) (n Iq Uk Ud)) (n o2 (n o8 Up UO) (n G5 U4 Tn))) (n boot_o_6 (n boot_o_10 (n o1 T6 Um) (n G3 UP U0)) (n o4 (n o1 TR U') (n o5 Vf TM)))))
def UM:B:=n LM (n L8 (n MD (w K0) u) (w Ge)) (n Mv (n o5 (w o1) u) (w Fd))
def Ul:B:=n MW (n o1 (n o1 (w IV) u) (w o5)) (n o5 (n o1 (w KP) u) (w Jd))
def U3:B:=n o1 (n o1 (n LZ (w o1) u) (w GH)) (n LI (n Qa (w o5) u) (w o5))
def Ua:B:=n LF (n MN (n o5 (w KO) u) (w FH)) (n MA (w CP) (w o1))
def U9:B:=n JI (n o1 (n IQ (w o1) u) (w o5)) (n Je (n Mt (w EA) u) (w Cy))
def Ui:B:=n o5 (n o1 (n Mq (w K6) u) (w o1)) (n Mf (w Df) (w IZ))
def U_:B:=n o1 (n MM (n o1 (w KY) u) (w EK)) (n Mz (n o1 (w II) u) (w KU))
def Ur:B:=n My (n LW (n O5 (w o1) u) (w o5)) (n Ml (w FZ) (w o1))
def Uh:B:=n IP (n o5 (n o1 (w o5) u) (w CM)) (n KA (n LQ (w GQ) u) (w o1))
def Ue:B:=n MS (n ML (n Mw (w o1) u) (w E1)) (n o1 (n Dr (w Kw) u) (w JM))
def Vg:B:=n Mk (n Mp (n o5 (w IW) u) (w E4)) (n o1 (n Av (w o1) u) (w o1))
def Ub:B:=n o1 (n o5 (n Mh (w o5) u) (w GC)) (n LA (w Dj) (w IC))
def US:B:=n o5 (n JB (n Jm (w Fp) u) (w o1)) (n o5 (n LG (w EE) u) (w C_))
def U8:B:=n o1 (n LJ (n MR (w Jl) u) (w GW)) (n o1 (w B4) (w o5))
def Uz:B:=n Mb (n o5 (n LB (w o5) u) (w Fq)) (n LX (n DE (w o1) u) (w o1))
def UH:B:=n LY (n o1 (n Ow (w J7) u) (w o1)) (n o5 (w GL) (w KJ))
def Ve:B:=n o1 (n o1 (n Mu (w o1) u) (w Gb)) (n o1 (n Ou (w o5) u) (w FL))
def U7:B:=n MV (n ME (n o5 (w Kg) u) (w FF)) (n L_ (n o5 (w JQ) u) (w o1))
def UC:B:=n MT (n o5 (n o1 (w o5) u) (w FO)) (n LO (n FZ (w K_) u) (w Lg))
def UN:B:=n MQ (n o1 (n LL (w o1) u) (w GF)) (n o1 (w CF) (w K2))
def Ux:B:=n o1 (n Ip (n o1 (w GG) u) (w Dk)) (n o1 (n Cj (w Fx) u) (w Ef))
def U1:B:=n Ma (n o5 (n LS (w o1) u) (w o5)) (n Mc (w BZ) (w o1))
def Uu:B:=n o5 (n o1 (n L7 (w o1) u) (w FD)) (n L0 (n Oq (w Jy) u) (w Ju))
def Ut:B:=n o1 (n LU (n Av (w Kn) u) (w Fl)) (n o1 (w Av) (w o5))
def UK:B:=n JL (n K7 (n o5 (w F5) u) (w o1)) (n K8 (n o1 (w o1) u) (w o5))
def UY:B:=n o1 (n MH (n o1 (w o5) u) (w FJ)) (n MK (w o1) (w Kf))
def RT:B:=n Mx (n MB (n LC (w K9) u) (w F0)) (n o5 (n PV (w JP) u) (w K5))
def R_:B:=n o5 (n MU (n MG (w KW) u) (w o1)) (n LV (w Cw) (w KI))
def R9:B:=n MO (n Mg (n LD (w JZ) u) (w E2)) (n MJ (n PM (w o1) u) (w o1))
def Rq:B:=n LK (n Mj (n o1 (w Jt) u) (w o1)) (n o5 (w DN) (w I_))
def QM:B:=n o1 (n LH (n MF (w Lc) u) (w o1)) (n o1 (n DT (w o5) u) (w o5))
def Sj:B:=n Mm (n o5 (n o1 (w Jf) u) (w ER)) (n Mn (w o1) (w J0))
def qv:Params->BT:=(n boot_o_0 (n boot_o_1 (n Ra (n boot_o_7 (n o1 UM Ul) (n o5 U3 Ua)) (n o1 (n o7 U9 Ui) (n Io U_ Ur))) (n boot_o_5 (n boot_o_9 (n o6 Uh Ue) (n o1 Vg Ub)) (n o3 (n o9 US U8) (n o1 Uz UH)))) (n boot_o_2 (n boot_o_4 (n boot_o_8 (n o5 Ve U7) (n Iq UC UN)) (n SY (n o8 Ux U1) (n G5 Uu Ut))) (n boot_o_6 (n boot_o_10 (n o1 UK UY) (n G3 RT R_)) (n o4 (n o1 R9 Rq) (n o5 QM Sj)))))
def SG:B:=n LM (n L8 (w MD) u) (w Mv)
def Pc:B:=n MW (n o1 (w o1) u) (w o5)
def RM:B:=n o1 (n o1 (w LZ) u) (w LI)
def NO:B:=n LF (n MN (w o5) u) (w MA)
def Ry:B:=n JI (n o1 (w IQ) u) (w Je)
def OE:B:=n o5 (n o1 (w Mq) u) (w Mf)
def OJ:B:=n o1 (n MM (w o1) u) (w Mz)
def S0:B:=n IP (n o5 (w o1) u) (w KA)
def Qg:B:=n MS (n ML (w Mw) u) (w o1)
def OM:B:=n Mk (n Mp (w o5) u) (w o1)
def Nd:B:=n o1 (n o5 (w Mh) u) (w LA)
def Sd:B:=n o5 (n JB (w Jm) u) (w o5)
def Pj:B:=n o1 (n LJ (w MR) u) (w o1)
def P5:B:=n Mb (n o5 (w LB) u) (w LX)
def Tg:B:=n o1 (n o1 (w Mu) u) (w o1)
def Qc:B:=n MV (n ME (w o5) u) (w L_)
def M7:B:=n MT (n o5 (w o1) u) (w LO)
def Od:B:=n MQ (n o1 (w LL) u) (w o1)
def Sf:B:=n o1 (n Ip (w o1) u) (w o1)
def PB:B:=n Ma (n o5 (w LS) u) (w Mc)
def M0:B:=n o5 (n o1 (w L7) u) (w L0)
def Si:B:=n JL (n K7 (w o5) u) (w K8)
def O4:B:=n o1 (n MH (w o1) u) (w MK)
def Qf:B:=n Mx (n MB (w LC) u) (w o5)
def NN:B:=n o5 (n MU (w MG) u) (w LV)
def RE:B:=n MO (n Mg (w LD) u) (w MJ)
def NP:B:=n LK (n Mj (w o1) u) (w o5)
def PR:B:=n o1 (n LH (w MF) u) (w o1)
def qD:Params->BT:=(n boot_o_0 (n boot_o_1 (n Rr (n boot_o_7 (n o1 SG Pc) (n o5 RM NO)) (n o1 (n o7 Ry OE) (n Io OJ (n My (w LW) (w Ml))))) (n boot_o_5 (n boot_o_9 (n o6 S0 Qg) (n o1 OM Nd)) (n o3 (n o9 Sd Pj) (n o1 P5 (n LY (w o1) (w o5)))))) (n boot_o_2 (n boot_o_4 (n boot_o_8 (n o5 Tg Qc) (n Iq M7 Od)) (n RY (n o8 Sf PB) (n G5 M0 (n o1 (w LU) (w o1))))) (n boot_o_6 (n boot_o_10 (n o1 Si O4) (n G3 Qf NN)) (n o4 (n o1 RE NP) (n o5 PR (n Mm (w o5) (w Mn)))))))
def tY:List Stmt:=[f 29,f 30,f 31,f 32,f 33,f 34]
def xu:List Stmt:=[f 0,f 1,f 2,f 3,f 4,f 5,f 6,f 7,f 8,f 9,f 10,f 11,f 12,f 13,f 14,f 15]
def uy:List Stmt:=[f 16,f 17,f 18,f 19,f 20,f 21,f 22,f 23,f 24,f 25,f 26]
def O9:B:=n LM (n L8 (n MD (w K0) (w Py)) (n Ge (w Ox) u)) (n Mv (n o5 (w o1) u) (n Fd (w Pq) u))
def Qj:B:=n MW (n o1 (n o1 (w IV) u) (n o5 (w Qm) u)) (n o5 (n o1 (w KP) u) (n Jd (w ND) u))
def Nx:B:=n o1 (n o1 (n LZ (w o1) u) (n GH (w MZ) u)) (n LI (n Qa (w o5) u) (n o5 (w ON) u))
def Pg:B:=n LF (n MN (n o5 (w KO) u) (n FH (w M5) u)) (n MA (n CP (w OY) u) (n o1 (w PX) u))
def SR:B:=n JI (n o1 (n IQ (w o1) u) (n o5 (w JK) u)) (n Je (n Mt (w EA) u) (n Cy (w o5) u))
def Ov:B:=n o5 (n o1 (n Mq (w K6) u) (n o1 (w O1) u)) (n Mf (n Df (w o5) u) (n IZ (w Pd) u))
def N7:B:=n o1 (n MM (n o1 (w KY) u) (n EK (w o5) u)) (n Mz (n o1 (w II) u) (n KU (w Px) u))
def Pa:B:=n My (n LW (n O5 (w o1) u) (n o5 (w PY) u)) (n Ml (n FZ (w Pn) u) (n o1 (w Qi) u))
def Q0:B:=n IP (n o5 (n o1 (w o5) u) (n CM (w o5) u)) (n KA (n LQ (w GQ) u) (n o1 (w J3) u))
def Ni:B:=n MS (n ML (n Mw (w o1) u) (n E1 (w o1) u)) (n o1 (n Dr (w Kw) u) (n JM (w o5) u))
def Pr:B:=n Mk (n Mp (n o5 (w IW) u) (n E4 (w Nf) u)) (n o1 (n Av (w o1) u) (n o1 (w o1) u))
def NR:B:=n o1 (n o5 (n Mh (w o5) u) (n GC (w o5) u)) (n LA (n Dj (w o1) u) (n IC (w NS) u))
def Sg:B:=n o5 (n JB (n Jm (w Fp) u) (n o1 (w o1) u)) (n o5 (n LG (w EE) u) (n C_ (w o1) u))
def OD:B:=n o1 (n LJ (n MR (w Jl) u) (n GW (w Np) u)) (n o1 (n B4 (w o1) u) (n o5 (w o1) u))
def Oz:B:=n Mb (n o5 (n LB (w o5) u) (n Fq (w o1) u)) (n LX (n DE (w o1) u) (n o1 (w O8) u))
def OZ:B:=n LY (n o1 (n Ow (w J7) u) (n o1 (w o1) u)) (n o5 (n GL (w NK) u) (n KJ (w o5) u))
def Nk:B:=n o1 (n o1 (n Mu (w o1) (w PL)) (n Gb (w o1) u)) (n o1 (n Ou (w o5) u) (n FL (w N_) u))
def Ql:B:=n MV (n ME (n o5 (w Kg) u) (n FF (w N6) u)) (n L_ (n o5 (w JQ) u) (n o1 (w o1) u))
def Nv:B:=n MT (n o5 (n o1 (w o5) u) (n FO (w Nu) u)) (n LO (n FZ (w K_) u) (n Lg (w N3) u))
def Oc:B:=n MQ (n o1 (n LL (w o1) u) (n GF (w o1) u)) (n o1 (n CF (w Qt) u) (n K2 (w o1) u))
def QK:B:=n o1 (n Ip (n o1 (w GG) u) (n Dk (w JD) u)) (n o1 (n Cj (w Fx) u) (n Ef (w Ky) u))
def NL:B:=n Ma (n o5 (n LS (w o1) u) (n o5 (w o1) u)) (n Mc (n BZ (w Ph) u) (n o1 (w OB) u))
def Po:B:=n o5 (n o1 (n L7 (w o1) u) (n FD (w Qn) u)) (n L0 (n Oq (w Jy) u) (n Ju (w o1) u))
def P7:B:=n o1 (n LU (n Av (w Kn) u) (n Fl (w Qu) u)) (n o1 (n Av (w o1) u) (n o5 (w o1) u))
def SK:B:=n JL (n K7 (n o5 (w F5) u) (n o1 (w J5) u)) (n K8 (n o1 (w o1) u) (n o5 (w o1) u))
def OA:B:=n o1 (n MH (n o1 (w o5) u) (n FJ (w o5) u)) (n MK (n o1 (w o1) u) (n Kf (w Oe) u))
def P6:B:=n Mx (n MB (n LC (w K9) u) (n F0 (w o1) u)) (n o5 (n PV (w JP) u) (n K5 (w o5) u))
def Nz:B:=n o5 (n MU (n MG (w KW) u) (n o1 (w Pw) u)) (n LV (n Cw (w o5) u) (n KI (w NC) u))
def Nn:B:=n MO (n Mg (n LD (w JZ) u) (n E2 (w o5) u)) (n MJ (n PM (w o1) u) (n o1 (w Ng) u))
def NW:B:=n LK (n Mj (n o1 (w Jt) u) (n o1 (w Nq) u)) (n o5 (n DN (w Ny) u) (n I_ (w o5) u))
def Qk:B:=n o1 (n LH (n MF (w Lc) u) (n o1 (w M_) u)) (n o1 (n DT (w o5) u) (n o5 (w PF) u))
def NF:B:=n Mm (n o5 (n o1 (w Jf) u) (n ER (w o5) u)) (n Mn (n o1 (w Qs) u) (n J0 (w O7) u))
def pW:Params->BT:=(n boot_o_0 (n boot_o_1 (n Rg (n boot_o_7 (n o1 O9 Qj) (n o5 Nx Pg)) (n o1 (n o7 SR Ov) (n Io N7 Pa))) (n boot_o_5 (n boot_o_9 (n o6 Q0 Ni) (n o1 Pr NR)) (n o3 (n o9 Sg OD) (n o1 Oz OZ)))) (n boot_o_2 (n boot_o_4 (n boot_o_8 (n o5 Nk Ql) (n Iq Nv Oc)) (n S4 (n o8 QK NL) (n G5 Po P7))) (n boot_o_6 (n boot_o_10 (n o1 SK OA) (n G3 P6 Nz)) (n o4 (n o1 Nn NW) (n o5 Qk NF)))))
def RC:B:=n o1 (n Ip (w o1) u) (n o1 (w RS) u)
def qi:Params->BT:=(n boot_o_0 (n boot_o_1 (n S1 (n boot_o_7 (n o1 Tt Pc) (n o5 Tr NO)) (n o1 (n o7 Tw OE) (n Io OJ T7))) (n boot_o_5 (n boot_o_9 (n o6 Tv Qg) (n o1 OM Nd)) (n o3 (n o9 Tu Pj) (n o1 P5 Tp)))) (n boot_o_2 (n boot_o_4 (n boot_o_8 (n o5 T5 Qc) (n Iq M7 Od)) (n QX (n o8 RC PB) (n G5 M0 Tn))) (n boot_o_6 (n boot_o_10 (n o1 T6 O4) (n G3 Qf NN)) (n o4 (n o1 TR NP) (n o5 PR TM)))))
def RX:B:=n JI (n o1 (n IQ (w o1) (w NI)) (n o5 (w JK) u)) (n Je (n Mt (w EA) u) (n Cy (w o5) u))
def QU:B:=n IP (n o5 (n o1 (w o5) (w o1)) (n CM (w o5) u)) (n KA (n LQ (w GQ) u) (n o1 (w J3) u))
def QW:B:=n o5 (n JB (n Jm (w Fp) (w Qd)) (n o1 (w o1) u)) (n o5 (n LG (w EE) u) (n C_ (w o1) u))
def Rz:B:=n o1 (n Ip (n o1 (w GG) (w Nm)) (n Dk (w JD) u)) (n o1 (n Cj (w Fx) u) (n Ef (w Ky) u))
def RQ:B:=n JL (n K7 (n o5 (w F5) (w o5)) (n o1 (w J5) u)) (n K8 (n o1 (w o1) u) (n o5 (w o1) u))
def qj:Params->BT:=(n boot_o_0 (n boot_o_1 (n Pu (n boot_o_7 (n o1 O9 Qj) (n o5 Nx Pg)) (n o1 (n o7 RX Ov) (n Io N7 Pa))) (n boot_o_5 (n boot_o_9 (n o6 QU Ni) (n o1 Pr NR)) (n o3 (n o9 QW OD) (n o1 Oz OZ)))) (n boot_o_2 (n boot_o_4 (n boot_o_8 (n o5 Nk Ql) (n Iq Nv Oc)) (n OG (n o8 Rz NL) (n G5 Po P7))) (n boot_o_6 (n boot_o_10 (n o1 RQ OA) (n G3 P6 Nz)) (n o4 (n o1 Nn NW) (n o5 Qk NF)))))
def t_:Program:={ PySem.Challenge.pw_tailrooms_k49_yards_and_steps_changed with main:={ PySem.Challenge.pw_tailrooms_k49_yards_and_steps_changed.main with body:=[f 1,f 2,f 3,f 4,f 5,f 6,f 7,f 9,f 10,f 11,f 13,f 15,f 16,f 17,f 18,f 19,f 20,f 21,f 22,f 23,f 24,f 25,f 27,f 28,f 29,f 31,f 32,f 33,f 34,f 35,f 36,f 37,f 38,f 40,f 41,f 43,f 44,f 45,f 46,f 47,f 48,f 49,f 50,f 51,f 52,f 53,f 54,f 55,f 56,f 57,f 58,f 59,f 60,f 61,f 62] } }
def tE:List Stmt:=[f 62]
def SJ:B:=n LM (n L8 (w MD) (w Ge)) (n Mv (w o5) (w Fd))
def Q7:B:=n MW (n o1 (w o1) (w o5)) (n o5 (w o1) u)
def Rh:B:=n o1 (n o1 (w LZ) (w GH)) (n LI (w Qa) u)
def Rt:B:=n LF (n MN (w o5) (w FH)) (n MA (w CP) u)
def Rl:B:=n JI (n o1 (w IQ) (w o5)) (n Je (w Mt) (w Cy))
def Rv:B:=n o5 (n o1 (w Mq) (w o1)) (n Mf (w Df) u)
def SO:B:=n o1 (n MM (w o1) (w EK)) (n Mz (w o1) u)
def Rk:B:=n My (n LW (w O5) (w o5)) (n Ml (w FZ) u)
def QN:B:=n IP (n o5 (w o1) (w CM)) (n KA (w LQ) (w o1))
def RA:B:=n MS (n ML (w Mw) (w E1)) (n o1 (w Dr) u)
def QO:B:=n Mk (n Mp (w o5) (w E4)) (n o1 (w Av) u)
def S8:B:=n o1 (n o5 (w Mh) (w GC)) (n LA (w Dj) u)
def Sn:B:=n o5 (n JB (w Jm) (w o1)) (n o5 (w LG) (w C_))
def Su:B:=n o1 (n LJ (w MR) (w GW)) (n o1 (w B4) u)
def RV:B:=n Mb (n o5 (w LB) (w Fq)) (n LX (w DE) u)
def Ti:B:=n LY (n o1 (w Ow) (w o1)) (n o5 (w GL) u)
def RH:B:=n o1 (n o1 (w Mu) (w Gb)) (n o1 (w Ou) (w FL))
def QY:B:=n MV (n ME (w o5) (w FF)) (n L_ (w o5) u)
def Tf:B:=n MT (n o5 (w o1) (w FO)) (n LO (w FZ) u)
def Q8:B:=n MQ (n o1 (w LL) (w GF)) (n o1 (w CF) u)
def S7:B:=n o1 (n Ip (w o1) (w Dk)) (n o1 (w Cj) (w Ef))
def QV:B:=n Ma (n o5 (w LS) (w o5)) (n Mc (w BZ) u)
def Rm:B:=n o5 (n o1 (w L7) (w FD)) (n L0 (w Oq) u)
def Sq:B:=n o1 (n LU (w Av) (w Fl)) (n o1 (w Av) u)
def SN:B:=n JL (n K7 (w o5) (w o1)) (n K8 (w o1) (w o5))
def SS:B:=n o1 (n MH (w o1) (w FJ)) (n MK (w o1) u)
def SM:B:=n Mx (n MB (w LC) (w F0)) (n o5 (w PV) u)
def R5:B:=n o5 (n MU (w MG) (w o1)) (n LV (w Cw) u)
def R8:B:=n MO (n Mg (w LD) (w E2)) (n MJ (w PM) u)
def Se:B:=n LK (n Mj (w o1) (w o1)) (n o5 (w DN) u)
def Rx:B:=n o1 (n LH (w MF) (w o1)) (n o1 (w DT) u)
def So:B:=n Mm (n o5 (w o1) (w ER)) (n Mn (w o1) u)
def pQ:Params->BT:=(n boot_o_0 (n boot_o_1 (n Q3 (n boot_o_7 (n o1 SJ Q7) (n o5 Rh Rt)) (n o1 (n o7 Rl Rv) (n Io SO Rk))) (n boot_o_5 (n boot_o_9 (n o6 QN RA) (n o1 QO S8)) (n o3 (n o9 Sn Su) (n o1 RV Ti)))) (n boot_o_2 (n boot_o_4 (n boot_o_8 (n o5 RH QY) (n Iq Tf Q8)) (n Ss (n o8 S7 QV) (n G5 Rm Sq))) (n boot_o_6 (n boot_o_10 (n o1 SN SS) (n G3 SM R5)) (n o4 (n o1 R8 Se) (n o5 Rx So)))))
def Sa (P:Params)(r:zO):zO:=boot_o_0 P::boot_o_1 P::boot_o_2 P::Pu P::boot_o_4 P::boot_o_5 P::boot_o_6 P::boot_o_7 P::boot_o_8 P::boot_o_9 P::boot_o_10 P::o1 P::OG P::o3 P::o4 P::o1 P::r
def Ru (P:Params)(r:zO):zO:=o5 P::o6 P::o1 P::o7 P::o8 P::o9 P::o1 P::o5 P::Iq P::o1 P::G3 P::Io P::G5 P::o1 P::o5 P::LM P::r
def RG (P:Params)(r:zO):zO:=o1 P::IP P::JL P::JI P::o1 P::o5 P::MO P::o1 P::MT P::Mk P::Mx P::o1 P::o5 P::Mb P::o1 P::MW P::r
def Q2 (P:Params)(r:zO):zO:=MV P::MS P::o1 P::o5 P::Ma P::o1 P::LK P::LF P::MQ P::o1 P::o5 P::My P::o1 P::LY P::Mm P::L8 P::r
def Td (P:Params)(r:zO):zO:=o1 P::o5 P::K7 P::o1 P::Ip P::JB P::Mg P::o1 P::o5 P::Mp P::MB P::MM P::o1 P::o5 P::LH P::o1 P::r
def S5 (P:Params)(r:zO):zO:=ME P::ML P::MH P::o1 P::o5 P::LJ P::Mj P::MN P::o1 P::o5 P::MU P::LW P::LU P::o1 P::o5 P::Mv P::r
def SH (P:Params)(r:zO):zO:=o1 P::KA P::K8 P::Je P::o1 P::o5 P::MJ P::LI P::LO P::o1 P::o5 P::Mz P::L0 P::LX P::o1 P::o5 P::r
def RO (P:Params)(r:zO):zO:=L_ P::o1 P::MK P::Mf P::Mc P::o1 P::o5 P::MA P::o1 P::LA P::LV P::Ml P::o1 P::o5 P::Mn P::MD P::r
def RP (P:Params)(r:zO):zO:=Mu P::o1 P::o5 P::IQ P::o1 P::Jm P::LD P::LZ P::o1 P::o5 P::LC P::o1 P::L7 P::LB P::MF P::o1 P::r
def S2 (P:Params)(r:zO):zO:=o5 P::Mw P::o1 P::Mq P::LS P::MR P::o1 P::o5 P::LL P::Mh P::MG P::O5 P::Av P::Ow P::o1 P::o5 P::r
def SQ (P:Params)(r:zO):zO:=Ou P::LQ P::o1 P::Mt P::Cj P::LG P::PM P::Qa P::FZ P::Av P::PV P::o1 P::Oq P::DE P::DT P::o1 P::r
def SE (P:Params)(r:zO):zO:=o5 P::Dr P::o1 P::Df P::BZ P::B4 P::DN P::CP P::CF P::Dj P::Cw P::FZ P::Av P::GL P::o1 P::Ge P::r
def Rp (P:Params)(r:zO):zO:=Gb P::CM P::o1 P::o5 P::Dk P::o1 P::E2 P::GH P::FO P::E4 P::F0 P::EK P::FD P::Fq P::o1 P::o5 P::r
def RU (P:Params)(r:zO):zO:=FF P::E1 P::FJ P::o1 P::o5 P::GW P::o1 P::FH P::GF P::GC P::o1 P::o5 P::Fl P::o1 P::ER P::Fd P::r
def Q9 (P:Params)(r:zO):zO:=FL P::o1 P::o5 P::Cy P::Ef P::C_ P::o1 P::o5 P::Lg P::o1 P::K5 P::KU P::Ju P::o1 P::o5 P::Jd P::r
def Rb (P:Params)(r:zO):zO:=o1 P::JM P::Kf P::IZ P::o1 P::o5 P::I_ P::o1 P::K2 P::IC P::KI P::o1 P::o5 P::KJ P::J0 P::K0 P::r
def Rw (P:Params)(r:zO):zO:=o1 P::o5 P::F5 P::o1 P::GG P::Fp P::JZ P::o1 P::o5 P::IW P::K9 P::KY P::o1 P::o5 P::Lc P::IV P::r
def SX (P:Params)(r:zO):zO:=Kg P::o1 P::o5 P::K6 P::o1 P::Jl P::Jt P::KO P::o1 P::o5 P::KW P::o1 P::Kn P::J7 P::Jf P::o1 P::r
def QT (P:Params)(r:zO):zO:=o5 P::GQ P::o1 P::EA P::Fx P::EE P::o1 P::o5 P::K_ P::o1 P::JP P::II P::Jy P::o1 P::o5 P::KP P::r
def SV (P:Params)(r:zO):zO:=JQ P::Kw P::o1 P::o5 P::Ph P::o1 P::Ny P::OY P::Qt P::o1 P::o5 P::Pn P::o1 P::NK P::Qs P::Ox P::r
def Ri (P:Params)(r:zO):zO:=o1 P::o5 P::J5 P::JK P::JD P::o1 P::o5 P::MZ P::Nu P::Nf P::o1 P::o5 P::Qn P::o1 P::M_ P::Qm P::r
def Sk (P:Params)(r:zO):zO:=N6 P::o1 P::o5 P::O1 P::o1 P::Np P::Nq P::M5 P::o1 P::o5 P::Pw P::PY P::Qu P::o1 P::o5 P::Pq P::r
def Rn (P:Params)(r:zO):zO:=N_ P::J3 P::o1 P::o5 P::Ky P::o1 P::Ng P::ON P::N3 P::o1 P::o5 P::Px P::o1 P::O8 P::PF P::ND P::r
def Rf (P:Params)(r:zO):zO:=o1 P::o5 P::Oe P::Pd P::OB P::o1 P::o5 P::PX P::o1 P::NS P::NC P::Qi P::o1 P::o5 P::O7 P::Py P::r
def Q4 (P:Params)(r:zO):zO:=PL P::o1 P::o5 P::NI P::Nm P::Qd P::r
def qB:Params->Heap:=fun P=>⟨⟨(Sa P (Ru P (RG P (Q2 P (Td P (S5 P (SH P (RO P (RP P (S2 P (SQ P (SE P (Rp P (RU P (Q9 P (Rb P (Rw P (SX P (QT P (SV P (Ri P (Sk P (Rn P (Rf P (Q4 P [])))))))))))))))))))))))))⟩,⟨[],[],[],0,[],[],.false,#[],[],0,.false,.false,.false,0,[2000,10,10],.false,0,.true,[],[],0,.false⟩⟩
def uu:List Stmt:=[f 35,f 36,f 37,f 38,f 39,f 40,f 41,f 42,f 43,f 44,f 45,f 46,f 47,f 48]
def ua:List Stmt:=[f 49,f 50,f 51,f 52,f 53,f 54,f 55,f 56,f 57,f 58,f 59,f 60,f 61]
end HD
def PySem.W.Fast.tw6715999041232699592:PySem.Params->PySem.W.BT:=HD.pF
theorem PySem.W.Fast.te6715999041232699592:HD.pF=PySem.W.Fast.tw6715999041232699592:=rfl
def PySem.W.Fast.tw17685005104157152372:PySem.Params->PySem.W.BT:=HD.qv
theorem PySem.W.Fast.te17685005104157152372:HD.qv=PySem.W.Fast.tw17685005104157152372:=rfl
def PySem.W.Fast.tw10957251277859836183:PySem.Params->PySem.W.BT:=HD.qD
theorem PySem.W.Fast.te10957251277859836183:HD.qD=PySem.W.Fast.tw10957251277859836183:=rfl
def PySem.W.Fast.tw2934179503370570830:List PySem.Stmt:=HD.tY
theorem PySem.W.Fast.te2934179503370570830:HD.tY=PySem.W.Fast.tw2934179503370570830:=rfl
def PySem.W.Fast.tw10990752905941816976:List PySem.Stmt:=HD.xu
theorem PySem.W.Fast.te10990752905941816976:HD.xu=PySem.W.Fast.tw10990752905941816976:=rfl
def PySem.W.Fast.tw11388198509218426335:List PySem.Stmt:=HD.uy
theorem PySem.W.Fast.te11388198509218426335:HD.uy=PySem.W.Fast.tw11388198509218426335:=rfl
def PySem.W.Fast.tw10856766697589452654:PySem.Params->PySem.W.BT:=HD.pW
theorem PySem.W.Fast.te10856766697589452654:HD.pW=PySem.W.Fast.tw10856766697589452654:=rfl
def PySem.W.Fast.tw14363973088473817255:PySem.Params->PySem.W.BT:=HD.qi
theorem PySem.W.Fast.te14363973088473817255:HD.qi=PySem.W.Fast.tw14363973088473817255:=rfl
def PySem.W.Fast.tw9034156359053755606:PySem.Params->PySem.W.BT:=HD.qj
theorem PySem.W.Fast.te9034156359053755606:HD.qj=PySem.W.Fast.tw9034156359053755606:=rfl
def PySem.W.Fast.tw7698694106093058100:PySem.Program:=HD.t_
theorem PySem.W.Fast.te7698694106093058100:HD.t_=PySem.W.Fast.tw7698694106093058100:=rfl
def PySem.W.Fast.tw11861403390920643487:List PySem.Stmt:=HD.tE
theorem PySem.W.Fast.te11861403390920643487:HD.tE=PySem.W.Fast.tw11861403390920643487:=rfl
def PySem.W.Fast.tw9887516256205102574:PySem.Params->PySem.W.BT:=HD.pQ
theorem PySem.W.Fast.te9887516256205102574:HD.pQ=PySem.W.Fast.tw9887516256205102574:=rfl
def PySem.W.Fast.tw8755785444443606689:PySem.Params->PySem.Heap:=HD.qB
theorem PySem.W.Fast.te8755785444443606689:HD.qB=PySem.W.Fast.tw8755785444443606689:=rfl
def PySem.W.Fast.tw18346132573171558265:Nat:=0
theorem PySem.W.Fast.te18346132573171558265:True:=trivial
def PySem.W.Fast.tw7478698936858526345:List PySem.Stmt:=HD.uu
theorem PySem.W.Fast.te7478698936858526345:HD.uu=PySem.W.Fast.tw7478698936858526345:=rfl
def PySem.W.Fast.tw5386729121813407052:List PySem.Stmt:=HD.ua
theorem PySem.W.Fast.te5386729121813407052:HD.ua=PySem.W.Fast.tw5386729121813407052:=rfl
end
open PySem PySem.W PyProof.Rows
set_option maxRecDepth 100000 in
set_option maxHeartbeats 0 in
theorem PySem.Challenge.cw_tailrooms_k49_yards_and_steps_changed_holds : PySem.Challenge.rw_tailrooms_k49_yards_and_steps_changed.Holds := by
  w_on; o_law; k_head; (case hw=>w_witness2)
  k_fill
  refine Law.walk (l:=PySem.Challenge.rw_tailrooms_k49_yards_and_steps_changed) rfl rfl (fun w h Y=>PySem.W.kIn_of Y) ?F
  case F =>
    intro w mg fa h KX G hmg
    refine' Law.all_mk KX G hmg ?ga0 ?ga1 ?ga2 ?ga3 ?ga4 ?ga5 ?ga6 ?ga7 ?ga8 ?ga9 ?ga10 ?ga11 ?ga12 ?ga13 ?ga14 ?ga15 ?ga16 ?ga17 ?ga18 ?ga19 ?ga20 ?ga21 ?ga22 ?ga23 ?ga24 ?ga25 ?ga26 ?ga27 ?ga28 ?ga29 ?ga30 ?ga31 ?ga32 ?ga33 ?ga34 ?ga35 ?ga36 ?ga37 ?ga38 ?ga39 ?ga40 ?ga41 ?ga42 ?ga43 ?ga44 ?ga45 ?ga46 ?ga47 ?ga48 ?ga49 ?ga50 ?a51 ?l51 ?Qe ?k51 ?z_max ?z_range ?z_len ?z_sorted ?z_dict ?z_list ?z_enumerate ?z_abs ?z_min ?z_all
    (case ga0=>walk_at"lk")
    (case ga1=>walk_at"lk")
    (case ga2=>walk_at"lk")
    (case ga3=>walk_at"lk")
    (case ga4=>walk_at"lk")
    (case ga5=>walk_at"lk")
    (case ga6=>walk_at"lk")
    (case ga7=>walk_at"lk")
    (case ga8=>walk_at"lk")
    (case ga9=>walk_at"lk")
    (case ga10=>walk_at"lk")
    (case ga11=>walk_at"lk")
    (case ga12=>walk_at"lk")
    (case ga13=>walk_at"lk")
    (case ga14=>walk_at"lk")
    (case ga15=>walk_at"lk")
    (case ga16=>walk_at"lk")
    (case ga17=>walk_at"lk")
    (case ga18=>walk_at"lk")
    (case ga19=>walk_at"lk")
    (case ga20=>walk_at"lk")
    (case ga21=>walk_at"lk")
    (case ga22=>walk_at"lk")
    (case ga23=>walk_at"lk")
    (case ga24=>walk_at"lk")
    (case ga25=>walk_at"lk")
    (case ga26=>walk_at"lk")
    (case ga27=>walk_at"lk")
    (case ga28=>walk_at"lk")
    (case ga29=>walk_at"lk")
    (case ga30=>walk_at"lk")
    (case ga31=>walk_at"lk")
    (case ga32=>walk_at"lk")
    (case ga33=>walk_at"lk")
    (case ga34=>walk_at"lk")
    (case ga35=>walk_at"lk")
    (case ga36=>walk_at"lk")
    (case ga37=>walk_at"lk")
    (case ga38=>walk_at"lk")
    (case ga39=>walk_at"lk")
    (case ga40=>walk_at"lk")
    (case ga41=>walk_at"lk")
    (case ga42=>walk_at"lk")
    (case ga43=>walk_at"lk")
    (case ga44=>walk_at"lk")
    (case ga45=>walk_at"lk")
    (case ga46=>walk_at"lk")
    (case ga47=>walk_at"lk")
    (case ga48=>walk_at"lk")
    (case ga49=>walk_at"lk")
    (case ga50=>walk_at"lk")
    (case a51=>walk_at"lk")
    (case l51=>walk_at"lk")
    (case Qe=>walk_at"lk")
    (case k51=>walk_at"lk")
    (case z_max=>walk_at"lk")
    (case z_range=>walk_at"lk")
    (case z_len=>walk_at"lk")
    (case z_sorted=>walk_at"lk")
    (case z_dict=>walk_at"lk")
    (case z_list=>walk_at"lk")
    (case z_enumerate=>walk_at"lk")
    (case z_abs=>walk_at"lk")
    (case z_min=>walk_at"lk")
    (case z_all=>walk_at"lk")
