import PyProof.Rows.All
import Wide.All
import OpenK.AllK
import Wide.FinOn
import PyProof.EqAt
import PyProof.EqKinds
import PyProof.TupleCall
import PySem.Challenge.RW_tailrooms_k48_whole_mended_again_and_aga
set_option Elab.async false
set_option linter.all false
set_option maxRecDepth 100000
local macro_rules|`(tactic|z_go)=>`(tactic|decide +kernel)
set_option compiler.extract_closed false
local macro_rules | `(tactic| omega)=>`(tactic| first | lia | omega (config:={}))
abbrev Uv:=@List.length_map
abbrev Uw:=@PySem.wpAny_bind
abbrev Ux:=@List.getElem?_eq_some_iff
abbrev Uy:=@List.getElem?_eq_getElem
abbrev Uz:=@List.length_append
abbrev UA:=@List.mem_of_getElem?
abbrev UB:=@List.map_append
abbrev UC:=@List.mem_map
abbrev UD:=@PySem.wpAny_pure
abbrev UE:=@Nat.le_refl
abbrev UG:=@List.mem_append
abbrev UH:=@List.length_take
abbrev UI:=@List.getElem?_map
abbrev UJ:=@PySem.Heap.get?_push_of_some
abbrev UK:=@List.mem_cons_of_mem
abbrev UL:=@List.getElem?_append_right
abbrev UM:=@if_neg
abbrev UN:=@if_pos
abbrev UO:=@List.getElem?_append_left
abbrev UP:=@Nat.le_trans
abbrev UQ:=@List.mem_cons_self
abbrev UR:=@List.mem_singleton
abbrev US:=@Option.some.inj
abbrev UT:=@List.getElem?_eq_none
abbrev UU:=@PySem.Heap.lt_size
abbrev UW:=@List.take_of_length_le
abbrev UX:=@List.mem_append_right
abbrev UY:=@List.length_filter_le
abbrev UZ:=@Nat.ne_of_lt
abbrev U0:=@Bool.false_ne_true
abbrev U1:=@List.take_append_drop
abbrev U3:=@List.not_mem_nil
abbrev U4:=@PySem.Heap.get?_push_size
abbrev U5:=@List.append_assoc
abbrev U6:=@decide_eq_false
abbrev U7:=@List.append_nil
abbrev U8:=@decide_eq_true
abbrev U9:=@List.mem_cons
abbrev Va:=@List.take_length
abbrev Vb:=@List.getElem?_of_mem
abbrev Vc:=@List.size_toArray
abbrev Vd:=@Nat.lt_of_lt_of_le
abbrev Ve:=@List.pairwise_map
abbrev Vf:=@List.drop_eq_nil_of_le
abbrev Vg:=@List.length_reverse
abbrev Vh:=@List.mem_flatten
abbrev Vi:=@List.map_cons
abbrev Vj:=@Nat.zero_le
abbrev Vk:=@congrArg
abbrev Vl:=@PyProof.Rows.wpS_bind
abbrev Vm:=@List.mem_filter
abbrev Vn:=@List.mem_of_mem_take
abbrev Vo:=@List.map_map
abbrev Vp:=@List.mem_of_mem_drop
abbrev Vq:=@List.nodup_cons
abbrev Vr:=@PySem.PassesOwn.never
abbrev Vs:=@List.nodup_append
abbrev Vt:=@List.length_drop
abbrev Vu:=@List.foldl_append
abbrev Vv:=@List.flatten_append
abbrev Vw:=@PySem.W.mg_of
abbrev Vx:=@PySem.wpAny_mono
abbrev Vy:=@PyProof.Rows.wpS_pure
abbrev Vz:=@List.ext_getElem?
abbrev VA:=@Int.emod_lt_of_pos
abbrev VB:=@Array.length_toList
abbrev VC:=@List.map_congr_left
abbrev VD:=@List.length_replicate
abbrev VE:=@PySem.Heap.get?_update_self
abbrev VF:=@PySem.wpAny_holding
abbrev VG:=@List.pairwise_append
abbrev VH:=@List.length_cons
abbrev VI:=@List.take_append_of_le_length
abbrev VJ:=@List.pairwise_iff_getElem
abbrev VL:=@Int.emod_nonneg
abbrev VM:=@Nat.min_eq_left
abbrev VN:=@PySem.wpAny_ite_split
abbrev VO:=@List.nodup_iff_pairwise_ne
abbrev VP:=@List.drop_append
abbrev VQ:=@List.filter_append
abbrev VR:=@PySem.F.slot_list_append
abbrev VS:=@PySem.F.type_list_append
abbrev VT:=@Nat.le_of_lt
abbrev VU:=@Int.toNat_natCast
abbrev VV:=@of_decide_eq_true
abbrev VW:=@Int.pow_succ
abbrev VX:=@PySem.F.plainAttrs_list
abbrev VY:=@List.getElem?_drop
abbrev VZ:=@Nat.mul_le_mul_right
abbrev V0:=@PySem.Heap.get?_update_other
abbrev V1:=@List.lookup_cons
abbrev V2:=@List.filter_cons
abbrev V3:=@List.mem_reverse
abbrev V4:=@Array.getElem?_eq_getElem
abbrev V5:=@PySem.Heap.SameBut.update
abbrev V6:=@List.length_range
abbrev V7:=@PySem.Heap.get?_push_ne
abbrev V8:=@List.getElem?_take_of_lt
abbrev V9:=@List.eq_of_mem_replicate
abbrev Wa:=@Nat.sub_self
abbrev Wb:=@PySem.Obj.data_mapFields
abbrev Wc:=@PyProof.Rows.reverseSlice'_eq
abbrev Wd:=@PySem.Heap.size_update
abbrev We:=@PySem.wpAny_call_entry
abbrev Wf:=@PySem.Around.under_plainId
abbrev Wg:=@List.getElem?_modify
abbrev Wh:=@Nat.lt_irrefl
abbrev Wi:=@PySem.wpAny_rule
abbrev Wj:=@Nat.lt_succ_of_lt
abbrev Wk:=@decide_eq_true_eq
abbrev Wl:=@List.drop_of_length_le
abbrev Wm:=@PySem.mem_of_lookup
abbrev Wn:=@List.nil_append
abbrev Wo:=@List.mem_or_eq_of_mem_set
abbrev Wq:=@List.getElem?_eq_none_iff
abbrev Wr:=@Array.getElem?_toList
abbrev Wt:=@List.set_append_right
abbrev Wu:=@List.getElem?_take
abbrev Wv:=@of_decide_eq_false
abbrev Ww:=@PyProof.Rows.wpS_forRange
abbrev Wx:=@PySem.W.mg_none_of
abbrev Wy:=@List.mem_append_left
abbrev Wz:=@PySem.Heap.size_push
abbrev WA:=@List.take_zero
abbrev WB:=@PySem.wpAny_newObj_type
abbrev WC:=@List.length_eq_zero_iff
abbrev WD:=@Int.emod_eq_of_lt
abbrev WE:=@List.take_add_one
abbrev WG:=@Bool.eq_iff_iff
abbrev WH:=@PySem.codeAny_builtin
abbrev WI:=@PyProof.Rows.F.plain_set_update_loop
abbrev WJ:=@PyProof.Rows.callWith_type1
abbrev WK:=@Option.map_eq_some_iff
abbrev WL:=@PySem.plainId_quiet
abbrev WM:=@PySem.wpAny_askSetting
abbrev WN:=@PyProof.Rows.wpS_modify
abbrev WO:=@List.pairwise_cons
abbrev WQ:=@List.length_modify
abbrev WR:=@List.nodup_nil
abbrev WS:=@List.length_singleton
abbrev WT:=@List.Perm.append_left
abbrev WU:=@List.mem_of_find?_eq_some
abbrev WV:=@PySem.wpAny_passesOwn
abbrev WW:=@PySem.wpAny_truthy_bool
abbrev WX:=@Nat.le_succ
abbrev WY:=@List.drop_sublist
abbrev WZ:=@PySem.wpAny_setState_of
abbrev W0:=@PySem.wpAny_standAt
abbrev W3:=@List.map_take
abbrev W4:=@beq_eq_false_iff_ne
abbrev W5:=@List.length_pos_iff
abbrev W6:=@PySem.wpAny_setEntries_of
abbrev W7:=@List.mem_range
abbrev W8:=@List.getElem?_replicate
abbrev W9:=@PySem.wpAny_callSpecial?_slot
abbrev Xa:=@List.any_eq_true
abbrev Xb:=@Int.mul_le_mul_of_nonneg_right
abbrev Xc:=@List.append_cancel_left
abbrev Xd:=@List.find?_eq_none
abbrev Xe:=@List.find?_cons_of_pos
abbrev Xf:=@List.dropLast_concat_getLast
abbrev Xg:=@PySem.Obj.isFreed_of_fields
abbrev Xh:=@List.take_sublist
abbrev Xi:=@List.reverse_cons
abbrev Xj:=@List.flatten_cons
abbrev Xk:=@List.drop_zero
abbrev Xl:=@List.take_take
abbrev Xm:=@PySem.wpAny_setField
abbrev Xn:=@List.perm_ext_iff_of_nodup
abbrev Xo:=@Nat.ne_of_gt
abbrev Xp:=@Nat.lt_succ_self
abbrev Xq:=@PySem.Calls.call_function_entry
abbrev Xr:=@List.drop_eq_getElem_cons
abbrev Xs:=@List.reverse_append
abbrev Xu:=@List.any_cons
abbrev Xv:=@PySem.wpAny_comprehension_free
abbrev Xw:=@PyProof.Rows.wpS_mono
abbrev Xx:=@PySem.wpAny_attempt
abbrev Xy:=@List.length_set
abbrev Xz:=@PySem.wpAny_updateSeq
abbrev XC:=@List.filter_map
abbrev XD:=@PySem.codeAny_mono
abbrev XE:=@List.drop_drop
abbrev XF:=@Nat.add_zero
abbrev XG:=@PyProof.Rows.pairsOf_toList
abbrev XH:=@PySem.fits_of_scanBound
abbrev XI:=@Int.zero_add
abbrev XJ:=@List.getElem?_set
abbrev XM:=@List.filter_congr
abbrev XN:=@Bool.and_eq_true
abbrev XO:=@PyProof.Rows.size_push'
abbrev XQ:=@List.map_reverse
abbrev XR:=@PySem.Paired.length
abbrev XS:=@PySem.wpAny_newList
namespace L2
open PySem PySem.Spec PyProof.Rows
abbrev Key:=Sum Int Str
def qq:Key->Value->Bool
 | .inl k,v=>Value.isInt k v
 | .inr x,v=>Value.isStrOf x v
def Rw (w:World):Key->Int
 | .inl k=>hashInt k
 | .inr x=>hashStr w x
theorem cA:∀{k:Key}{v:Value},qq k v=true->(∃i t,k=Sum.inl i/\v=Value.int i t) \/(∃x t,k=Sum.inr x/\v=Value.str x t)
 | .inl i,v,h=>by
  obtain⟨t,e⟩:=Value.isInt_shape (k:=i) (v:=v) h
  exact .inl ⟨i,t,rfl,e⟩
 | .inr x,v,h=>by
  obtain⟨t,e⟩:=Value.isStrOf_shape (x:=x) (v:=v) h
  exact .inr ⟨x,t,rfl,e⟩
theorem Bv (i:Int) (t:Tok):qq (.inl i) (.int i t)=true:=by simp[qq,Value.isInt]
theorem BK (x:Str) (t:Tok):qq (.inr x) (.str x t)=true:=by simp[qq,Value.isStrOf]
theorem LF (a b:Int):decide ((Sum.inl a:Key)=Sum.inl b) =(a == b):=by
 by_cases e:a=b
 ·subst e;simp
 ·have h:¬(Sum.inl a:Key)=Sum.inl b:=fun q=>e (Sum.inl.inj q)
  rw[U6 h]
  exact(W4.mpr e).symm
theorem JQ (a b:Str):decide ((Sum.inr a:Key)=Sum.inr b)=decide (a=b):=by
 by_cases e:a=b
 ·subst e;simp
 ·have h:¬(Sum.inr a:Key)=Sum.inr b:=fun q=>e (Sum.inr.inj q)
  rw[U6 h,U6 e]
theorem Kr (a:Int) (b:Str):decide ((Sum.inl a:Key)=Sum.inr b)=false:=U6 (fun q=>nomatch q)
theorem JE (a:Str) (b:Int):decide ((Sum.inr a:Key)=Sum.inl b)=false:=U6 (fun q=>nomatch q)
def bO (prog:Program) (w:World):PySem.KeyKind prog w Key where
 is:=qq
 hash:=Rw w
 inj:=fun v a b ha hb=>by
  rcases cA ha with⟨i,t,rfl,rfl⟩|⟨x,t,rfl,rfl⟩
  ·rcases cA hb with⟨j,u,rfl,e⟩|⟨y,u,rfl,e⟩
   ·injection e with e1 _;rw[e1]
   ·exact nomatch e
  ·rcases cA hb with⟨j,u,rfl,e⟩|⟨y,u,rfl,e⟩
   ·exact nomatch e
   ·injection e with e1 _;rw[e1]
 byValue:=fun k v h=>by
  rcases cA h with⟨i,t,rfl,rfl⟩|⟨x,t,rfl,rfl⟩ <;> rfl
 pyHash:=fun hv h=>by
  rcases cA hv with⟨i,t,rfl,rfl⟩|⟨x,t,rfl,rfl⟩
  ·exact wpAny_pyHash_int h
  ·exact wpAny_pyHash_str h
 eqBool:=fun hu hv h=>by
  rcases cA hu with⟨i,t,rfl,rfl⟩|⟨x,t,rfl,rfl⟩
  ·rcases cA hv with⟨j,u,rfl,rfl⟩|⟨y,u,rfl,rfl⟩
   ·rw[LF]at h;exact wpAny_eqBool_int h
   ·rw[Kr]at h;exact SeqAt.EqAt.int_str i t y u _ _ _ _ h
  ·rcases cA hv with⟨j,u,rfl,rfl⟩|⟨y,u,rfl,rfl⟩
   ·rw[JE]at h;exact SeqAt.EqAt.str_int x t j u _ _ _ _ h
   ·rw[JQ]at h;exact wpAny_eqBool_str h
 «strs»:=fun k x t v h=>by
  rcases cA h with⟨i,u,rfl,e⟩|⟨y,u,rfl,e⟩
  ·exact nomatch e
  ·injection e with e1 _
   subst e1
   cases v <;> rfl
theorem zp (prog:Program) (w:World) (k:Key) (v:Value):(bO prog w).is k v=qq k v:=rfl
theorem xA (prog:Program) (w:World) (i:Int) (t:Tok):(bO prog w).is (.inl i) (.int i t)=true:=Bv i t
theorem yE (prog:Program) (w:World) (x:Str) (t:Tok):(bO prog w).is (.inr x) (.str x t)=true:=BK x t
inductive V where
 | non|bl (b:Bool)|int (i:Int)|str (x:Str)|byt (b:Array UInt8)|flt (b:UInt64)|ref (a:Addr)|ty (n:String)
 deriving DecidableEq
def RelV:V->Value->Prop
 | .non,u=>u=Value.none
 | .bl b,u=>u=Value.bool b
 | .int i,u=>∃t,u=Value.int i t
 | .str x,u=>∃t,u=Value.str x t
 | .byt b,u=>∃t,u=Value.bytes b t
 | .flt b,u=>∃t,u=Value.float b t
 | .ref a,u=>u=Value.ref a
 | .ty n,u=>u=Value.type n
abbrev Vals:List V->List Value->Prop:=Paired RelV
theorem Vals.length {xs:List V}{us:List Value}(r:Vals xs us):xs.length=us.length:=XR r
theorem Vals.get:∀{xs:List V}{us:List Value}{i:Nat}{x:V},Vals xs us->xs[i]? = some x->∃u,us[i]? = some u/\RelV x u
 | _,_,_,_,.nil,e=>by simp at e
 | _,_,0,_,.cons r _,e=>by simp at e;subst e;exact⟨_,rfl,r⟩
 | _,_,i+1,x,.cons _ t,e=>by
  obtain⟨u,h1,h2⟩:=Vals.get (i:=i) (x:=x) t (by simpa using e)
  exact⟨u,by simpa using h1,h2⟩
theorem Vals.set {x:V}{u:Value}(r:RelV x u):∀{xs:List V}{us:List Value}(i:Nat),Vals xs us->Vals (xs.set i x) (us.set i u)
 | _,_,_,.nil=>.nil
 | _,_,0,.cons _ t=>.cons r t
 | _,_,i+1,.cons q t=>.cons q (Vals.set r i t)
theorem Vals.append:∀{xs ys:List V}{us ws:List Value},Vals xs us->Vals ys ws->Vals (xs++ys) (us++ws)
 | _,_,_,_,.nil,s=>s
 | _,_,_,_,.cons r t,s=>.cons r (Vals.append t s)
theorem Vals.take:∀{xs:List V}{us:List Value}(n:Nat),Vals xs us->Vals (xs.take n) (us.take n)
 | _,_,0,_=>.nil
 | _,_,_+1,.nil=>.nil
 | _,_,n+1,.cons r t=>.cons r (Vals.take n t)
theorem Vals.drop:∀{xs:List V}{us:List Value}(n:Nat),Vals xs us->Vals (xs.drop n) (us.drop n)
 | _,_,0,r=>r
 | _,_,_+1,.nil=>.nil
 | _,_,n+1,.cons _ t=>Vals.drop n t
def nJ:Option V->Option Value->Prop
 | some v,some u=>RelV v u
 | none,none=>True
 | _,_=>False
def KV {κ:Type}:List (κ×V)->List (κ×Value)->Prop:=Paired fun(p:κ×V) (q:κ×Value)=>p.1=q.1/\RelV p.2 q.2
def kV:Key->V
 | .inl i=>.int i
 | .inr x=>.str x
inductive HO where
 | lst (xs:List V)
 | tup (xs:List V)
 | dK (kvs:List (Key×V))|dT (kvs:List (List Key×V))
 | set (S:Int->Bool) (n:Nat)
 | ins (C dx:Addr) (fs:List (Str×V))
 | own (x:Addr)
 | xd (fs:List (Str×V))
 | met (f x:Addr)
 | rng (lo hi:Int)
 | frz (o:Obj) (u:HO)
 | tbl (ps:Array Value)
 | ext (φ:Heap->Prop)
abbrev Hp:=Addr->Option HO
def upd (H:Hp) (a:Addr) (o:HO):Hp:=fun b=>if b=a then some o else H b
theorem ao {H:Hp}{a:Addr}{o:HO}:upd H a o a=some o:=by unfold upd;rw[UN rfl]
theorem av {H:Hp}{a b:Addr}{o:HO}(h:b≠a):upd H a o b=H b:=by unfold upd;rw[UM h]
theorem oj {H:Hp}{a b:Addr}{o u:HO}(h:H a=some o) (h':H b=some u) (d:o≠u):a≠b:=by
 intro e;subst e;rw[h]at h';exact d (US h')
theorem ak {H:Hp}{a b:Addr}{o:HO}(h:H a=some o) (h':H b=none):a≠b:=by
 intro e;subst e;rw[h]at h';cases h'
section
variable (P:Program) (w:World)
def dH (H:Hp) (h:Heap) (a:Addr):HO->Prop
 | .lst xs=>xs.length<=sizeLine/\∃(its:List Value) (n:Nat),Vals xs its/\h.get? a=some { cls:=.type "list",data:=.seq its.toArray n }
 | .tup xs=>xs.length<=sizeLine/\∃its:List Value,Vals xs its/\IsTup h a its.toArray
 | .dK kvs=>kvs.length<=sizeLine/\(a == sysModules)=false/\∃vs,KV kvs vs/\h.DictOf (bO P w) a vs
 | .dT kvs=>kvs.length<=sizeLine/\(a == sysModules)=false/\∃xs:List (List Key×Addr×Value),
   Paired (fun(p:List Key×V) (q:List Key×Addr×Value)=>p.1=q.1/\H q.2.1=some (.tup (p.1.map kV))/\RelV p.2 q.2.2) kvs xs /\
   ∃o es ep,h.get? a=some o/\o.ExactDict/\o.data = .dict es ep/\es.toList=xs.map (entryOfKey (tupleKind (bO P w)))/\(xs.map (·.1)).Nodup
 | .set S n=>h.SetOf (intKind P w) a S n
 | .ins C dx fs=>H dx=some (.own a)/\fs.length<=1000/\dx≠a/\h.get? a=some (PySem.W.instObj C dx) /\
   ∃mA,h.Ns1 dx mA/\(∀f,nJ (fs.lookup f) (mA f))/\PySem.Within mA (fs.map (·.1))
 | .own _=>∃o,h.get? a=some o
 | .xd fs=>∃mA,h.Ns1 a mA/\∀f,nJ (fs.lookup f) (mA f)
 | .rng lo hi=>∃t u v,h.get? a=some { cls:=.type "range",data:=.fields #[.int lo t,.int hi u,.int 1 v] }
 | .frz o u=>h.get? a=some o/\dH H h a u
 | .tbl ps=>h.get? a=some { cls:=.none,data:=.fields ps }
 | .met f x=>h.get? a=some (PySem.W.methodObj (.ref f) (.ref x))
 | .ext φ=>φ h/\(∃o,h.get? a=some o)/\∀h1 h2:Heap,φ h1->(∀o,h1.get? a=some o->h2.get? a=some o)->φ h2
def mT (H:Hp) (h:Heap):Prop:=∀a o,H a=some o->dH P w H h a o
end
section
variable {P:Program}{w:World}{H H':Hp}{h h':Heap}{a:Addr}{o:HO}
theorem dH.lt (x:dH P w H h a o):a<h.objs.size:=by
 cases o with
 | lst xs=>obtain⟨_,_,_,_,e⟩:=x;exact UU e
 | tup xs=>obtain⟨_,_,_,p⟩:=x;exact p.lt
 | dK kvs=>obtain⟨_,_,_,_,o,_,_,e,_⟩:=x;exact UU e
 | dT kvs=>obtain⟨_,_,_,_,o,_,_,e,_⟩:=x;exact UU e
 | set S n=>obtain⟨o,_,_,_,e,_⟩:=x;exact UU e
 | ins C dx fs=>obtain⟨_,_,_,e,_⟩:=x;exact UU e
 | own y=>obtain⟨_,e⟩:=x;exact UU e
 | xd fs=>obtain⟨_,⟨_,_,_,e,_⟩,_⟩:=x;exact UU e
 | rng lo hi=>obtain⟨_,_,_,e⟩:=x;exact UU e
 | frz ob u=>obtain⟨e,_⟩:=x;exact UU e
 | tbl ps=>exact UU (show h.get? a=some _ from x)
 | met f y=>exact UU (show h.get? a=some _ from x)
 | ext φ=>obtain⟨_,⟨_,e⟩,_⟩:=x;exact UU e
theorem Paired.mapP {α β:Type}{F G:α->β->Prop}:∀{l₁:List α}{l₂:List β},Paired F l₁ l₂->(∀a b,F a b->G a b)->Paired G l₁ l₂
 | _,_,.nil,_=>.nil
 | _,_,.cons r t,f=>.cons (f _ _ r) (Paired.mapP t f)
theorem dH.stay (x:dH P w H h a o) (k:∀b u,(b=a\/H b=some (.own a))->h.get? b=some u->h'.get? b=some u)
  (ho:∀b,H b=some (.own a)->H' b=some (.own a)) (ht:∀b xs,H b=some (.tup xs)->H' b=some (.tup xs)):dH P w H' h' a o:=by
 induction o with
 | lst xs=>obtain⟨z,its,n,r,e⟩:=x;exact⟨z,its,n,r,k _ _ (.inl rfl) e⟩
 | tup xs=>obtain⟨z,its,r,ob,e,c⟩:=x;exact⟨z,its,r,ob,k _ _ (.inl rfl) e,c⟩
 | dK kvs=>obtain⟨z,y,vs,r,ob,es,ep,e,c⟩:=x;exact⟨z,y,vs,r,ob,es,ep,k _ _ (.inl rfl) e,c⟩
 | dT kvs =>
  obtain⟨z,y,xs,r,ob,es,ep,e,c⟩:=x
  exact⟨z,y,xs,Paired.mapP r fun p q z=>⟨z.1,ht _ _ z.2.1,z.2.2⟩,ob,es,ep,k _ _ (.inl rfl) e,c⟩
 | set S n=>obtain⟨ob,es,ep,t,e,c⟩:=x;exact⟨ob,es,ep,t,k _ _ (.inl rfl) e,c⟩
 | ins C dx fs =>
  obtain⟨d,z,ne,e,mA,⟨od,es,ep,e2,c⟩,r⟩:=x
  exact⟨ho _ d,z,ne,k _ _ (.inl rfl) e,mA,⟨od,es,ep,k _ _ (.inr d) e2,c⟩,r⟩
 | own y=>obtain⟨ob,e⟩:=x;exact⟨ob,k _ _ (.inl rfl) e⟩
 | xd fs=>obtain⟨mA,⟨od,es,ep,e,c⟩,r⟩:=x;exact⟨mA,⟨od,es,ep,k _ _ (.inl rfl) e,c⟩,r⟩
 | rng lo hi=>obtain⟨t,u,v,e⟩:=x;exact⟨t,u,v,k _ _ (.inl rfl) e⟩
 | frz ob u ih=>obtain⟨e,q⟩:=x;exact⟨k _ _ (.inl rfl) e,ih q⟩
 | tbl ps =>
  have e:h.get? a=some { cls:=.none,data:=.fields ps }:=x
  show h'.get? a=some { cls:=.none,data:=.fields ps }
  exact k a _ (.inl rfl) e
 | met f y =>
  have e:h.get? a=some (PySem.W.methodObj (.ref f) (.ref y)):=x
  show h'.get? a=some (PySem.W.methodObj (.ref f) (.ref y))
  exact k a _ (.inl rfl) e
 | ext φ=>obtain⟨p,⟨o,e⟩,st⟩:=x;exact⟨st _ _ p fun o q=>k _ _ (.inl rfl) q,⟨o,k _ _ (.inl rfl) e⟩,st⟩
theorem mT.lt (x:mT P w H h) (e:H a=some o):a<h.objs.size:=(x a o e).lt
theorem mT.fresh (x:mT P w H h) (e:h.objs.size<=a):H a=none:=by
 cases q:H a with
 | none=>rfl
 | some u=>exact absurd (Vd (x.lt q) e) (Wh _)
theorem mT.kept (x:mT P w H h) (k:∀b u,h.get? b=some u->h'.get? b=some u):mT P w H h':=fun a o e =>
 (x a o e).stay (fun b u _ q=>k b u q) (fun _ q=>q) fun _ _ q=>q
theorem mT.laid (x:mT P w H h) (k:∀b u,h.get? b=some u->h'.get? b=some u) (hp:h.objs.size<=a) (new:dH P w (upd H a o) h' a o):mT P w (upd H a o) h':=fun b u e=>by
 have hn:=x.fresh hp
 by_cases hb:b=a
 ·subst hb;rw[ao]at e;cases e;exact new
 ·rw[av hb]at e
  exact(x b u e).stay (fun c v _ q=>k c v q) (fun c q=>by rw[av (ak q hn)];exact q) fun c xs q=>by rw[av (ak q hn)];exact q
end
def Rd (H:Hp) (a:Addr) (u:HO):Prop:=H a=some u \/ ∃o,H a=some (.frz o u)
theorem Rd.ok {P:Program}{w:World}{H:Hp}{h:Heap}{a:Addr}{u:HO}(r:Rd H a u) (x:mT P w H h):dH P w H h a u:=by
 rcases r with r|⟨o,r⟩
 ·exact x a u r
 ·obtain⟨_,q⟩:=x a _ r
  exact q
def Nf:Option HO->Prop
 | some (.lst _)=>True
 | some (.dK _)=>True
 | some (.dT _)=>True
 | some (.set _ _)=>True
 | some (.ins _ _ _)=>True
 | some (.ext _)=>True
 | _=>False
section
variable {P:Program}{w:World}{H:Hp}{h h':Heap}{x e:Addr}{o':HO}
theorem mT.write (ok:mT P w H h) (mu:Nf (H x)) (he:e=x\/H e=some (.own x)) (k:∀b u,b≠e->h.get? b=some u->h'.get? b=some u) (heo:∃u,h'.get? e=some u)
  (new:dH P w (upd H x o') h' x o'):mT P w (upd H x o') h':=fun b u q=>by
 have nown:∀c y,H c=some (.own y)->c≠x:=fun c y r z=>by subst z;rw[r]at mu;exact mu
 have ntup:∀c xs,H c=some (.tup xs)->c≠x:=fun c xs r z=>by subst z;rw[r]at mu;exact mu
 by_cases hb:b=x
 ·subst hb;rw[ao]at q;cases q;exact new
 ·rw[av hb]at q
  by_cases hbe:b=e
  ·have q':H b=some (.own x):=by
    rcases he with z|z
    ·exact absurd (hbe.trans z) hb
    ·rw[hbe];exact z
   rw[q]at q';cases q'
   obtain⟨v,hv⟩:=heo
   exact⟨v,by rw[hbe];exact hv⟩
  ·refine(ok b u q).stay (fun c v hc r=>k c v ?_ r) (fun c r=>by rw[av (nown c b r)];exact r) fun c xs r=>by rw[av (ntup c xs r)];exact r
   rcases hc with rfl|hc
   ·exact hbe
   ·rintro rfl
    rcases he with z|z
    ·exact nown c b hc z
    ·rw[hc]at z;cases z;exact hb rfl
end
structure Un (fs ex:List Addr) (H H':Hp) (h h':Heap):Prop where
 keep:∀b o,h.get? b=some o->H b=none->b∉fs->b∉ex->h'.get? b=some o
 slot:∀b o,h.get? b=some o->H b=none->b∈fs->b∉ex->∃sl,h'.get? b=some { o with slots:=sl }
 free:∀b o,h.get? b=some o->H b=none->b∉ex->H' b=none
 there:∀b o,h.get? b=some o->b∉ex->∃o',h'.get? b=some o'
 tups:∀b xs,H b=some (.tup xs)->H' b=some (.tup xs)
 frzs:∀b o u,H b=some (.frz o u)->H' b=some (.frz o u)
 tbls:∀b ps,H b=some (.tbl ps)->∃more,H' b=some (.tbl (ps++more))
section
variable {fs fs' ex ex':List Addr}{H H1 H2:Hp}{h h1 h2 h':Heap}{a x e:Addr}{o:HO}
theorem Un.any (u:Un fs ex H H1 h h1) {b:Addr}{ob:Obj}(q:h.get? b=some ob) (n:H b=none) (hx:b∉ex):∃sl,h1.get? b=some { ob with slots:=sl }:=by
 by_cases hb:b∈fs
 ·exact u.slot b ob q n hb hx
 ·exact⟨ob.slots,u.keep b ob q n hb hx⟩
theorem Un.kept (k:∀b u,h.get? b=some u->h'.get? b=some u):Un fs ex H H h h' :=
 ⟨fun b ob q _ _ _=>k b ob q,fun b ob q _ _ _=>⟨ob.slots,k b ob q⟩,fun _ _ _ n _=>n,fun b ob q _=>⟨ob,k b ob q⟩,fun _ _ q=>q,fun _ _ _ q=>q,fun _ ps q=>⟨#[],by rw[q];simp⟩⟩
theorem Un.refl:Un fs ex H H h h:=Un.kept fun _ _ q=>q
theorem Un.laid (k:∀b u,h.get? b=some u->h'.get? b=some u) (hp:h.objs.size<=a) (hn:H a=none):Un fs ex H (upd H a o) h h' where
 keep:=fun b u q _ _ _=>k b u q
 slot:=fun b u q _ _ _=>⟨u.slots,k b u q⟩
 free:=fun b u q n _=>by rw[av (UZ (Vd (UU q) hp))];exact n
 there:=fun b u q _=>⟨u,k b u q⟩
 tups:=fun b xs q=>by rw[av (ak q hn)];exact q
 frzs:=fun b u xs q=>by rw[av (ak q hn)];exact q
 tbls:=fun b ps q=>⟨#[],by rw[av (ak q hn),q];simp⟩
theorem Un.write (mu:Nf (H x)) (he:e=x\/H e=some (.own x)) (k:∀b u,b≠e->h.get? b=some u->h'.get? b=some u) (heo:∃u,h'.get? e=some u):Un fs ex H (upd H x o) h h':=by
 have hx:∀b,H b=none->b≠x:=fun b n z=>by subst z;rw[n]at mu;exact mu
 have hb:∀b,H b=none->b≠e:=fun b n z=>by
  subst z
  rcases he with r|r
  ·exact hx b n r
  ·rw[n]at r;cases r
 have hm:∀b u,H b=some u->¬ Nf (some u)->b≠x:=fun b u q nm z=>by subst z;rw[q]at mu;exact nm mu
 refine⟨fun b u q n _ _=>k b u (hb b n) q,fun b u q n _ _=>⟨u.slots,k b u (hb b n) q⟩,fun b u q n _=>by rw[av (hx b n)];exact n,fun b u q _=>?_,
  fun b xs q=>by rw[av (hm b _ q fun z=>z)];exact q,fun b u xs q=>by rw[av (hm b _ q fun z=>z)];exact q,fun b ps q=>⟨#[],by rw[av (hm b _ q fun z=>z),q];simp⟩⟩
 by_cases hbe:b=e
 ·subst hbe;exact heo
 ·exact⟨u,k b u hbe q⟩
end
def PX (h:Heap) (H:Hp):List Addr:=(List.range h.objs.size).filter fun a=>(H a).isSome
def vR (h:Heap) (H:Hp):Heap:=PySem.W.hideAll h (PX h H)
theorem BE (h:Heap) (H:Hp):(vR h H).objs.size=h.objs.size:=PySem.W.hideAll_size _ _
theorem Ec {h:Heap}{H:Hp}{b:Addr}{o:Obj}(e:h.get? b=some o) (n:H b=none):(vR h H).get? b=some o :=
 PySem.W.hideAll_get _ e fun hm=>by
  have q:(H b).isSome=true:=(Vm.mp hm).2
  rw[n]at q;simp at q
theorem Fz {h:Heap}{H:Hp}{b:Addr}{o:Obj}(e:(vR h H).get? b=some o):h.get? b=some o/\H b=none:=by
 have e':h.get? b=some o:=PySem.W.of_hideAll (PX h H) e
 refine⟨e',?_⟩
 cases q:H b with
 | none=>rfl
 | some x =>
  have hm:b∈PX h H:=Vm.mpr ⟨W7.mpr (UU e'),by simp[q]⟩
  have z:(vR h H).get? b=none:=PySem.W.hideAll_none (PX h H) hm
  rw[z]at e;cases e
def Fe (g h:Heap) (L:Addr):List (Addr×Obj):=(List.range h.objs.size).filterMap fun a=>if a=L \/(g.get? a).isSome=true then none else(h.get? a).map fun o=>(a,o)
def rest (g h:Heap) (L d:Addr):List (Addr×Obj):=(Fe g h L).filter fun p=>decide (p.1≠d)
structure Mod (K:W.Frag) (mg:Str->Option Value) (base:Heap):Prop where
 kin:K.In base
 glob:base.Ns mainGlobals mg
 blt:∃mb,base.Ns builtinsNs mb/\∀x:Str,x ≠ "__name__"->mb x=bootBuiltins x
 nolimit:base.NoLimit
structure Cx where
 prog:Program
 w:World
 K:W.Frag
 mg:Str->Option Value
 base:Heap
 A:Around
 N:List Str
 s₀:Shared
 H₀:Hp
 env:Env
 outer:List Env
 stack:List Env
 ex:List Addr
 fn:Str->Bool
 calm:Bool
 pn:List (Addr×Obj)
 xe:Value->Shared->Prop
def frs (l:List Env):List Addr:=l.filterMap (·.frame)
abbrev Cx.fs (X:Cx):List Addr:=frs X.outer
def OO (sc:Scope) (x:Str):Prop:=sc.names.lookup x=some .local\/sc.names.lookup x=some .cell\/sc.names.lookup x=some .free
def Loc (sc:Scope) (x:Str):Prop:=sc.names.lookup x=some .local\/sc.names.lookup x=some .cell
def Look (env:Env) (h:Heap) (m:Str->Option Value) (x:Str) (u:Value):Prop :=
 (env.kindOf x=some .local/\m x=some u) \/((env.kindOf x=some .cell\/env.kindOf x=some .free)/\∃c,env.cells.lookup x=some c/\h.IsCell c (some u))
structure Cx.Ok (X:Cx):Prop where
 mod:Mod X.K X.mg X.base
 kind:X.env.scope.kind = .function
 glob:X.env.globals=mainGlobals
 blt:X.env.builtins=builtinsNs
 above:X.s₀.heap.objs.size<=X.env.locals
 inj:∀x y c,X.env.cells.lookup x=some c->X.env.cells.lookup y=some c->x=y
 has:∀x,(X.env.kindOf x=some .cell\/X.env.kindOf x=some .free)->∃c,X.env.cells.lookup x=some c
 cab:∀x c,X.fn x=true->X.env.cells.lookup x=some c->X.s₀.heap.objs.size<=c
 hd:X.calm=true->X.A.handled=none
 frames:X.A.frames=some X.stack
 stk:X.stack=X.outer \/(X.stack=X.env::X.outer/\X.env.frame=some X.env.locals)
 exf:∀b∈X.ex,b≠X.env.locals/\∀x c,X.env.cells.lookup x=some c->c≠b
 bs:∀b o,X.base.get? b=some o->X.s₀.heap.get? b=some o/\X.H₀ b=none
 bsz:X.base.objs.size<=X.s₀.heap.objs.size
 noex:∀b o,X.base.get? b=some o->b∉X.ex
 exfs:∀b∈X.ex,b∉X.fs
 funs:X.s₀.heap.FunFrames X.base X.outer
 frf:∀b∈X.fs,X.H₀ b=none
structure Inv (X:Cx) (pins:List (Addr×Obj)) (σ:List (Option V)) (H:Hp) (s:Shared):Prop where
 ok:X.Ok
 os:s.os=X.s₀.os
 bare:AllBare s.gens
 base:Un X.fs X.ex X.H₀ H X.s₀.heap s.heap
 loc:∃m,s.heap.Ns X.env.locals m/\∀(i:Nat) (x:Str) (v:V),X.N[i]? = some x->σ[i]? = some (some v)->OO X.env.scope x->∃u,RelV v u/\Look X.env s.heap m x u
 cell:∀x c,X.env.cells.lookup x=some c->∃v,s.heap.IsCell c v
 free:H X.env.locals=none
 freeC:∀x c,X.env.cells.lookup x=some c->H c=none
 pin:∀p∈X.pn++pins,s.heap.get? p.1=some p.2/\H p.1=none/\p.1≠X.env.locals/\p.1∉X.fs/\∀v,p.2.data ≠ .cell v
 hok:mT X.prog X.w H s.heap
 len:σ.length=X.N.length
section
variable {X:Cx}{pins:List (Addr×Obj)}{σ:List (Option V)}{H H':Hp}{s:Shared}{h':Heap}
theorem Cx.Ok.nofr (ok:X.Ok) {b:Addr}{o:Obj}(e:X.base.get? b=some o):b∉X.fs:=fun hb=>by
 have:=(ok.funs.mem hb).1
 rw[e]at this;cases this
theorem Inv.bs (I:Inv X pins σ H s):∀b o,X.base.get? b=some o->s.heap.get? b=some o/\H b=none:=fun b o e =>
 ⟨I.base.keep b o (I.ok.bs b o e).1 (I.ok.bs b o e).2 (I.ok.nofr e) (I.ok.noex b o e),I.base.free b o (I.ok.bs b o e).1 (I.ok.bs b o e).2 (I.ok.noex b o e)⟩
theorem Inv.bk (I:Inv X pins σ H s):∀b o,X.base.get? b=some o->s.heap.get? b=some o:=fun b o e=>(I.bs b o e).1
theorem Inv.mod (I:Inv X pins σ H s):Mod X.K X.mg X.base:=I.ok.mod
theorem Inv.kIn (I:Inv X pins σ H s):X.K.In s.heap:=I.ok.mod.kin.keeps I.bk
theorem Inv.lt (I:Inv X pins σ H s):X.env.locals<s.heap.objs.size:=let ⟨_,hn,_⟩:=I.loc;hn.lt
theorem Inv.sz (I:Inv X pins σ H s):X.s₀.heap.objs.size<=s.heap.objs.size:=UP I.ok.above (VT I.lt)
theorem Inv.nofs (I:Inv X pins σ H s) {a:Addr}(h:s.heap.objs.size<=a):a∉X.fs:=fun hb=>by
 obtain⟨_,o,ho,_⟩:=I.ok.funs.mem hb
 exact absurd (Vd (UU ho) (UP I.sz h)) (Wh _)
theorem Inv.cne (I:Inv X pins σ H s):∀x c,X.env.cells.lookup x=some c->c≠X.env.locals:=fun x c e z=>by
 obtain⟨v,o,ho,hd⟩:=I.cell x c e
 obtain⟨m,⟨o',es,ep,ho',hd',_⟩,_⟩:=I.loc
 rw[z,ho']at ho;cases ho;rw[hd']at hd;cases hd
theorem Inv.funs (I:Inv X pins σ H s):s.heap.FunFrames X.base X.outer:=by
 have all:∀(l:List Env),(∀b∈frs l,b∈X.fs)->X.s₀.heap.FunFrames X.base l->s.heap.FunFrames X.base l:=by
  intro l
  induction l with
  | nil=>intro _ _;trivial
  | cons env r ih =>
   intro hs hl
   obtain⟨hk,⟨L,o,hf,hn,ho,hd⟩,hr⟩:=hl
   have hL:L∈X.fs:=hs L (by unfold frs;rw[List.filterMap_cons,hf];exact UQ)
   obtain⟨sl,e⟩:=I.base.slot L o ho (I.ok.frf L hL) hL fun z=>I.ok.exfs L z hL
   exact⟨hk,⟨L,_,hf,hn,e,hd⟩,ih (fun b hb=>hs b (by unfold frs;rw[List.filterMap_cons,hf];exact UK _ hb)) hr⟩
 exact all X.outer (fun _ hb=>hb) I.ok.funs
theorem Inv.stack (I:Inv X pins σ H s):s.heap.FunFrames X.base X.stack:=by
 rcases I.ok.stk with e|⟨e,hf⟩
 ·rw[e];exact I.funs
 ·rw[e]
  obtain⟨m,hn,_⟩:=I.loc
  refine .cons (by rw[I.ok.kind];decide) hf hn ?_ I.funs
  exact Heap.get?_none_of_le (UP I.ok.bsz I.ok.above)
theorem Inv.stkSub (I:Inv X pins σ H s):∀b∈frs X.stack,b∈X.env.locals::X.fs:=fun b hb=>by
 rcases I.ok.stk with e|⟨e,hf⟩
 ·rw[e]at hb;exact UK _ hb
 ·rw[e]at hb
  unfold frs at hb
  rw[List.filterMap_cons,hf]at hb
  exact hb
theorem Inv.stkFree (I:Inv X pins σ H s):∀b∈frs X.stack,H b=none:=fun b hb=>by
 rcases U9.mp (I.stkSub b hb) with e|hb
 ·rw[e];exact I.free
 ·obtain⟨_,o,ho,_⟩:=I.ok.funs.mem hb
  exact I.base.free b o ho (I.ok.frf b hb) fun z=>I.ok.exfs b z hb
theorem Inv.step {g':Array GenState}{t':Nat}{d':Drawn}{ch:List Addr}(I:Inv X pins σ H s)
  (hch:∀b∈ch,(b∈X.ex\/X.s₀.heap.objs.size<=b)/\b≠X.env.locals/\(∀x c,X.env.cells.lookup x=some c->c≠b)/\∀p∈X.pn++pins,p.1≠b)
  (keep:∀b o,b≠X.env.locals->b∉X.fs->b∉ch->s.heap.get? b=some o->H b=none->h'.get? b=some o)
  (slot:∀b o,b≠X.env.locals->b∈X.fs->b∉ch->s.heap.get? b=some o->H b=none->∃sl,h'.get? b=some { o with slots:=sl }) (free:∀b o,b∉ch->s.heap.get? b=some o->H b=none->H' b=none)
  (there:∀b o,b∉ch->s.heap.get? b=some o->∃o',h'.get? b=some o')
  (tups:∀b xs,H b=some (.tup xs)->H' b=some (.tup xs)) (frzs:∀b o u,H b=some (.frz o u)->H' b=some (.frz o u)) (tbls:∀b ps,H b=some (.tbl ps)->∃more,H' b=some (.tbl (ps++more)))
  (ns:∀m,s.heap.Ns X.env.locals m->h'.Ns X.env.locals m) (hok:mT X.prog X.w H' h') (hg:AllBare g') :
  Inv X pins σ H' { s with heap:=h',gens:=g',drawn:=d',toks:=t' }:=by
 have neL:∀b o,X.s₀.heap.get? b=some o->b≠X.env.locals:=fun b o e=>UZ (Vd (UU e) I.ok.above)
 have neC:∀b o,X.s₀.heap.get? b=some o->b∉X.ex->b∉ch:=fun b o e hx hb=>by
  rcases(hch b hb).1 with z|z
  ·exact hx z
  ·exact absurd (Vd (UU e) z) (Wh _)
 have cellK:∀x c,X.env.cells.lookup x=some c->∀v,s.heap.IsCell c v->h'.IsCell c v:=fun x c e v ⟨o,ho,hd⟩=>by
  have nch:c∉ch:=fun z=>(hch c z).2.2.1 x c e rfl
  by_cases hc:c∈X.fs
  ·obtain⟨sl,q⟩:=slot c o (I.cne x c e) hc nch ho (I.freeC x c e)
   exact⟨_,q,hd⟩
  ·exact⟨o,keep c o (I.cne x c e) hc nch ho (I.freeC x c e),hd⟩
 refine⟨I.ok,I.os,hg,⟨fun b o e n hb hx=>?_,fun b o e n hb hx=>?_,fun b o e n hx=>?_,fun b o e hx=>?_,fun b xs e=>tups b xs (I.base.tups b xs e),fun b o xs e=>frzs b o xs (I.base.frzs b o xs e),fun b ps e=>?_⟩,?_,fun x c e=>?_,?_,fun x c e=>?_,fun p hp=>?_,hok,I.len⟩
 ·exact keep b o (neL b o e) hb (neC b o e hx) (I.base.keep b o e n hb hx) (I.base.free b o e n hx)
 ·obtain⟨sl,e1⟩:=I.base.slot b o e n hb hx
  obtain⟨sl',e2⟩:=slot b _ (neL b o e) hb (neC b o e hx) e1 (I.base.free b o e n hx)
  exact⟨sl',e2⟩
 ·obtain⟨o',e1⟩:=I.base.there b o e hx
  exact free b o' (neC b o e hx) e1 (I.base.free b o e n hx)
 ·obtain⟨o',e1⟩:=I.base.there b o e hx
  exact there b o' (neC b o e hx) e1
 ·obtain⟨m1,e1⟩:=I.base.tbls b ps e
  obtain⟨m2,e2⟩:=tbls b _ e1
  exact⟨m1++m2,by rw[e2,Array.append_assoc]⟩
 ·obtain⟨m,hn,hl⟩:=I.loc
  refine⟨m,ns m hn,fun i x v e1 e2 e3=>?_⟩
  obtain⟨u,r,l⟩:=hl i x v e1 e2 e3
  refine⟨u,r,?_⟩
  rcases l with l|⟨k,c,e,z⟩
  ·exact .inl l
  ·exact .inr ⟨k,c,e,cellK x c e _ z⟩
 ·obtain⟨v,z⟩:=I.cell x c e
  exact⟨v,cellK x c e v z⟩
 ·obtain⟨m,⟨o,_,_,ho,_⟩,_⟩:=I.loc
  exact free _ o (fun z=>(hch _ z).2.1 rfl) ho I.free
 ·obtain⟨v,o,ho,hd⟩:=I.cell x c e
  exact free c o (fun z=>(hch c z).2.2.1 x c e rfl) ho (I.freeC x c e)
 ·obtain⟨e,n,ne,nf,d⟩:=I.pin p hp
  have nch:p.1∉ch:=fun z=>(hch p.1 z).2.2.2 p hp rfl
  exact⟨keep p.1 p.2 ne nf nch e n,free p.1 p.2 nch e n,ne,nf,d⟩
theorem Inv.un {t':Nat}(I:Inv X pins σ H s) (u:Un X.fs [] H H' s.heap h') (hok:mT X.prog X.w H' h'):Inv X pins σ H' { s with heap:=h',toks:=t' }:=by
 obtain⟨m,⟨o,es,ep,ho,r⟩,_⟩:=id I.loc
 obtain⟨sl,hL⟩:=u.any ho I.free (by simp)
 exact I.step (g':=s.gens) (d':=s.drawn) (ch:=[]) (fun _ z=>nomatch z) (fun b o _ hb _ e n=>u.keep b o e n hb (by simp)) (fun b o _ hb _ e n=>u.slot b o e n hb (by simp)) (fun b o _ e n=>u.free b o e n (by simp)) (fun b o _ e=>u.there b o e (by simp)) u.tups u.frzs u.tbls (fun m' hm=>by
  obtain⟨o',es',ep',ho',r'⟩:=hm
  rw[ho]at ho';cases ho'
  exact⟨_,es',ep',hL,r'⟩) hok I.bare
theorem Inv.call {g':Array GenState}{t':Nat}{d':Drawn}{ch:List Addr}(I:Inv X pins σ H s) (u:Un (frs X.stack) ch H H' s.heap h') (hok:mT X.prog X.w H' h') (hg:AllBare g')
  (hch:∀b∈ch,(b∈X.ex\/X.s₀.heap.objs.size<=b)/\b≠X.env.locals/\(∀x c,X.env.cells.lookup x=some c->c≠b)/\∀p∈X.pn++pins,p.1≠b) :
  Inv X pins σ H' { s with heap:=h',gens:=g',drawn:=d',toks:=t' }:=by
 obtain⟨m,⟨o,es,ep,ho,r⟩,_⟩:=id I.loc
 obtain⟨sl,hL⟩:=u.any ho I.free fun z=>(hch _ z).2.1 rfl
 exact I.step (ch:=ch) hch (fun b o hL hb hc e n=>u.keep b o e n (fun z=>(U9.mp (I.stkSub b z)).elim hL hb) hc) (fun b o _ _ hc e n=>u.any e n hc) (fun b o hc e n=>u.free b o e n hc) (fun b o hc e=>u.there b o e hc) u.tups u.frzs u.tbls (fun m' hm=>by
  obtain⟨o',es',ep',ho',r'⟩:=hm
  rw[ho]at ho';cases ho'
  exact⟨_,es',ep',hL,r'⟩) hok hg
theorem Inv.turned {t':Nat}{it:Addr}(I:Inv X pins σ H s) (k:∀b o,b≠it->s.heap.get? b=some o->h'.get? b=some o) (hn:H it=none) (hL:it≠X.env.locals)
  (h1:it∈X.ex\/X.s₀.heap.objs.size<=it) (h2:∀x c,X.env.cells.lookup x=some c->c≠it) (h3:∀p∈X.pn++pins,p.1≠it):Inv X pins σ H { s with heap:=h',toks:=t' }:=by
 have nit:∀b u,H b=some u->b≠it:=fun b u e z=>by rw[z,hn]at e;cases e
 refine I.step (g':=s.gens) (d':=s.drawn) (ch:=[it]) (fun b hb=>?_) (fun b o _ _ hc e _=>k b o (fun z=>hc (by simp[z])) e) (fun b o _ _ hc e _=>⟨o.slots,k b o (fun z=>hc (by simp[z])) e⟩) (fun _ _ _ _ n=>n)
  (fun b o hc e=>⟨o,k b o (fun z=>hc (by simp[z])) e⟩) (fun _ _ e=>e) (fun _ _ _ e=>e) (fun b ps e=>⟨#[],by rw[e];simp⟩) (fun m hm=>?_) (fun b u e=>?_) I.bare
 ·have e:b=it:=by simpa using hb
  subst e
  exact⟨h1,hL,h2,h3⟩
 ·obtain⟨o,es,ep,ho,r⟩:=hm
  exact⟨o,es,ep,k _ o (Ne.symm hL) ho,r⟩
 ·refine(I.hok b u e).stay (fun c v hc q=>k c v ?_ q) (fun _ q=>q) fun _ _ q=>q
  rcases hc with z|z
  ·rw[z];exact nit b u e
  ·exact nit c _ z
theorem Inv.tok (I:Inv X pins σ H s) (t:Nat):Inv X pins σ H { s with toks:=t }:=I.un (h':=s.heap) (t':=t) Un.refl I.hok
theorem Inv.kept {t':Nat}(I:Inv X pins σ H s) (k:∀b u,s.heap.get? b=some u->h'.get? b=some u):Inv X pins σ H { s with heap:=h',toks:=t' }:=I.un (Un.kept k) (I.hok.kept k)
theorem Inv.laid {a:Addr}{o:HO}{t':Nat}(I:Inv X pins σ H s) (k:∀b u,s.heap.get? b=some u->h'.get? b=some u) (hp:s.heap.objs.size<=a) (new:dH X.prog X.w (upd H a o) h' a o) :
  Inv X pins σ (upd H a o) { s with heap:=h',toks:=t' }:=I.un (Un.laid k hp (I.hok.fresh hp)) (I.hok.laid k hp new)
theorem Inv.write {x e:Addr}{o:HO}{t':Nat}(I:Inv X pins σ H s) (mu:Nf (H x)) (he:e=x\/H e=some (.own x)) (k:∀b u,b≠e->s.heap.get? b=some u->h'.get? b=some u) (heo:∃u,h'.get? e=some u)
  (new:dH X.prog X.w (upd H x o) h' x o):Inv X pins σ (upd H x o) { s with heap:=h',toks:=t' }:=I.un (Un.write mu he k heo) (I.hok.write mu he k heo new)
theorem Inv.pins_of {pins':List (Addr×Obj)}(I:Inv X pins σ H s) (h:∀p∈pins',s.heap.get? p.1=some p.2/\H p.1=none/\p.1≠X.env.locals/\p.1∉X.fs/\∀v,p.2.data ≠ .cell v):Inv X pins' σ H s :=
 ⟨I.ok,I.os,I.bare,I.base,I.loc,I.cell,I.free,I.freeC,fun p hp=>(UG.mp hp).elim (fun z=>I.pin p (Wy _ z)) (h p),I.hok,I.len⟩
theorem xo {N:List Str}(hN:N.Nodup) {i j:Nat}{x:Str}(a:N[i]? = some x) (b:N[j]? = some x):i=j:=by
 obtain⟨h1,e1⟩:=Ux.mp a
 obtain⟨h2,e2⟩:=Ux.mp b
 exact(List.getElem_inj hN).mp (e1.trans e2.symm)
theorem tP {M:Model}{A:Around}{E:Value->Shared->Prop}{i:Nat}{x:Str}{v:V}{u:Value}{Q:Unit->Shared->Prop}(I:Inv X pins σ H s) (hN:X.N.Nodup) (hi:X.N[i]? = some x) (hx:Loc X.env.scope x) (r:RelV v u)
  (h:∀s',Inv X pins (σ.set i (some v)) H s'->(∃a,Heap.SameBut a s.heap s'.heap/\(a=X.env.locals\/X.env.cells.lookup x=some a))->Q () s') (hf:X.fn x=true\/X.env.scope.names.lookup x=some .local:=by first|exact .inl rfl|exact .inr rfl|assumption):wpAny M A (storeName X.env x u) Q E s:=by
 obtain⟨m,hn,hl⟩:=id I.loc
 have hcls:(X.env.scope.kind == .class || (X.env.scope.kind == .module && X.env.locals != X.env.globals))=false:=by rw[I.ok.kind];rfl
 have hiσ:i<σ.length:=by rw[I.len];exact(Ux.mp hi).1
 have cne:=I.cne
 have tracked:∀{a:Addr}{h':Heap},(∃o,s.heap.get? a=some o/\H a=none)->Heap.SameBut a s.heap h'->mT X.prog X.w H h':=fun {a h'} ha hs b ob e=>by
  obtain⟨_,_,hfree⟩:=ha
  refine(I.hok b ob e).stay (fun c w' hc q=>(hs.2 c ?_).trans q) (fun _ q=>q) fun _ _ q=>q
  rintro rfl
  rcases hc with rfl|hc
  ·rw[hfree]at e;cases e
  ·rw[hfree]at hc;cases hc
 rcases hx with hk|hk
 ·refine wpAny_storeName_local hk hn (fun h' hn' hs=>?_) hcls
  obtain⟨oL,_,_,hoL,_⟩:=id hn
  refine h _ ⟨I.ok,I.os,I.bare,⟨fun b o e n hb hx=>?_,fun b o e n hb hx=>?_,I.base.free,fun b o e hx=>?_,I.base.tups,I.base.frzs,I.base.tbls⟩,⟨_,hn',fun j y v' e1 e2 e3=>?_⟩,fun y c e=>?_,I.free,I.freeC,fun p hp=>?_,tracked ⟨oL,hoL,I.free⟩ hs,by simpa using I.len⟩ ⟨_,hs,.inl rfl⟩
  ·exact(hs.2 b (UZ (Vd (UU e) I.ok.above))).trans (I.base.keep b o e n hb hx)
  ·obtain⟨sl,e1⟩:=I.base.slot b o e n hb hx
   exact⟨sl,(hs.2 b (UZ (Vd (UU e) I.ok.above))).trans e1⟩
  ·obtain⟨o',e1⟩:=I.base.there b o e hx
   exact⟨o',(hs.2 b (UZ (Vd (UU e) I.ok.above))).trans e1⟩
  ·by_cases hj:j=i
   ·subst hj
    rw[hi]at e1;cases e1
    rw[List.getElem?_set_self hiσ]at e2
    cases e2
    exact⟨u,r,.inl ⟨hk,by simp⟩⟩
   ·rw[List.getElem?_set_ne (Ne.symm hj)]at e2
    obtain⟨u',r',q⟩:=hl j y v' e1 e2 e3
    refine⟨u',r',?_⟩
    rcases q with⟨k,e⟩|⟨k,c,e,z⟩
    ·refine .inl ⟨k,?_⟩
     have:y≠x:=fun e=>hj (xo hN e1 (e ▸ hi))
     simp[this,e]
    ·exact .inr ⟨k,c,e,z.sameBut hs (cne y c e)⟩
  ·obtain⟨w',z⟩:=I.cell y c e
   exact⟨w',z.sameBut hs (cne y c e)⟩
  ·obtain⟨e,n,ne,nf,d⟩:=I.pin p hp
   exact⟨(hs.2 p.1 ne).trans e,n,ne,nf,d⟩
 ·have hfn:X.fn x=true:=by
   rcases hf with z|z
   ·exact z
   ·rw[z]at hk;cases hk
  obtain⟨c,hc⟩:=I.ok.has x (.inl hk)
  obtain⟨w',z⟩:=I.cell x c hc
  refine wpAny_storeName_cell I.ok.kind hk hc z (fun h' hc' hs=>?_)
  obtain⟨oc,hoc,hocd⟩:=id z
  refine h { s with heap:=h' } ⟨I.ok,I.os,I.bare,⟨fun b o e n hb hx=>?_,fun b o e n hb hx=>?_,I.base.free,fun b o e hx=>?_,I.base.tups,I.base.frzs,I.base.tbls⟩,⟨m,hn.sameBut hs (Ne.symm (cne x c hc)),fun j y v' e1 e2 e3=>?_⟩,fun y c' e=>?_,I.free,I.freeC,fun p hp=>?_,tracked ⟨oc,hoc,I.freeC x c hc⟩ hs,by simpa using I.len⟩ ⟨c,hs,.inr hc⟩
  ·exact(hs.2 b (UZ (Vd (UU e) (I.ok.cab x c hfn hc)))).trans (I.base.keep b o e n hb hx)
  ·obtain⟨sl,e1⟩:=I.base.slot b o e n hb hx
   exact⟨sl,(hs.2 b (UZ (Vd (UU e) (I.ok.cab x c hfn hc)))).trans e1⟩
  ·obtain⟨o',e1⟩:=I.base.there b o e hx
   exact⟨o',(hs.2 b (UZ (Vd (UU e) (I.ok.cab x c hfn hc)))).trans e1⟩
  ·by_cases hj:j=i
   ·subst hj
    rw[hi]at e1;cases e1
    rw[List.getElem?_set_self hiσ]at e2
    cases e2
    exact⟨u,r,.inr ⟨.inl hk,c,hc,hc'⟩⟩
   ·rw[List.getElem?_set_ne (Ne.symm hj)]at e2
    obtain⟨u',r',q⟩:=hl j y v' e1 e2 e3
    refine⟨u',r',?_⟩
    rcases q with q|⟨k,c',e,z'⟩
    ·exact .inl q
    ·refine .inr ⟨k,c',e,z'.sameBut hs ?_⟩
     rintro rfl
     exact hj (xo hN e1 (I.ok.inj _ _ _ e hc ▸ hi))
  ·by_cases hcc:c'=c
   ·subst hcc;exact⟨_,hc'⟩
   ·obtain⟨w2,z2⟩:=I.cell y c' e
    exact⟨w2,z2.sameBut hs hcc⟩
  ·obtain⟨e,n,ne,nf,d⟩:=I.pin p hp
   refine⟨(hs.2 p.1 ?_).trans e,n,ne,nf,d⟩
   intro q
   rw[q,hoc]at e
   have q':oc=p.2:=US e
   exact d w' (by rw[<- q'];exact hocd)
theorem pM {M:Model}{A:Around}{E:Value->Shared->Prop}{i:Nat}{x:Str}{v:V}{u:Value}{Q:Unit->Shared->Prop}(I:Inv X pins σ H s) (hN:X.N.Nodup) (hi:X.N[i]? = some x) (hx:Loc X.env.scope x) (r:RelV v u)
  (h:∀s',Inv X pins (σ.set i (some v)) H s'->Q () s') (hf:X.fn x=true\/X.env.scope.names.lookup x=some .local:=by first|exact .inl rfl|exact .inr rfl|assumption):wpAny M A (storeName X.env x u) Q E s :=
 tP I hN hi hx r (fun s' I' _=>h s' I') hf
theorem Inv.call' {s':Shared}{ch:List Addr}(I:Inv X pins σ H s) (ho:s'.os=s.os) (u:Un (frs X.stack) ch H H' s.heap s'.heap) (hok:mT X.prog X.w H' s'.heap) (hg:AllBare s'.gens)
  (hch:∀b∈ch,(b∈X.ex\/X.s₀.heap.objs.size<=b)/\b≠X.env.locals/\(∀x c,X.env.cells.lookup x=some c->c≠b)/\∀p∈X.pn++pins,p.1≠b):Inv X pins σ H' s':=by
 obtain⟨h',g',d',t',o'⟩:=s'
 have e:o'=s.os:=ho
 subst e
 exact I.call (g':=g') (t':=t') (d':=d') u hok hg hch
end
abbrev XK:=Value->Option Addr->Hp->Prop
abbrev St:=List (Option V)
abbrev VK:=V->Hp->Prop
abbrev TE:=St->Hp->VK->Prop
abbrev TT:=St->Hp->(Bool->Hp->Prop)->Prop
abbrev TA:=St->Hp->(List V->Hp->Prop)->Prop
structure Ends where
 nx:St->Hp->Prop
 rt:VK
 bk:St->Hp->Prop:=fun _ _=>False
 ct:St->Hp->Prop:=fun _ _=>False
abbrev TS:=Ends->St->Hp->Prop
def EP (X:Cx) (pins:List (Addr×Obj)) (σ:St) (Q:VK) (u:Value) (s':Shared):Prop:=∃v H',Inv X pins σ H' s'/\RelV v u/\Q v H'
def TP (X:Cx) (pins:List (Addr×Obj)) (σ:St) (Q:Bool->Hp->Prop) (b:Bool) (s':Shared):Prop:=∃H',Inv X pins σ H' s'/\Q b H'
def AP (X:Cx) (pins:List (Addr×Obj)) (σ:St) (Q:List V->Hp->Prop) (us:List Value) (s':Shared):Prop:=∃vs H',Inv X pins σ H' s'/\Vals vs us/\Q vs H'
def SP (X:Cx) (pins:List (Addr×Obj)) (D:Ends) (f:Flow) (s':Shared):Prop :=
 match f with
 | .next=>∃σ' H',Inv X pins σ' H' s'/\D.nx σ' H'
 | .brk=>∃σ' H',Inv X pins σ' H' s'/\D.bk σ' H'
 | .cont=>∃σ' H',Inv X pins σ' H' s'/\D.ct σ' H'
 | .ret u=>∃v σ' H',Inv X pins σ' H' s'/\RelV v u/\D.rt v H'
def PE (X:Cx) (e:Expr) (t:TE):Prop :=
 ∀(pins:List (Addr×Obj)) (s:Shared) (σ:St) (H:Hp) (Q:VK),Inv X pins σ H s->t σ H Q->wpAny (model X.prog X.w) X.A (eval e X.env) (EP X pins σ Q) X.xe s
def PT (X:Cx) (e:Expr) (t:TT):Prop :=
 ∀(pins:List (Addr×Obj)) (s:Shared) (σ:St) (H:Hp) (Q:Bool->Hp->Prop),Inv X pins σ H s->t σ H Q->wpAny (model X.prog X.w) X.A (isTrue e X.env (eval e X.env)) (TP X pins σ Q) X.xe s
def PW (X:Cx) (e:Expr) (t:TT):Prop :=
 ∀(whole:Sem Value) (pins:List (Addr×Obj)) (s:Shared) (σ:St) (H:Hp) (Q:Bool->Hp->Prop),Inv X pins σ H s->t σ H Q->wpAny (model X.prog X.w) X.A (isTrue e X.env whole) (TP X pins σ Q) X.xe s
theorem PW.pt {X:Cx}{e:Expr}{t:TT}(h:PW X e t):PT X e t:=h _
def PA (X:Cx) (es:List Expr) (t:TA):Prop :=
 ∀(pos:Pos) (pins:List (Addr×Obj)) (s:Shared) (σ:St) (H:Hp) (Q:List V->Hp->Prop),Inv X pins σ H s->t σ H Q->wpAny (model X.prog X.w) X.A (spliced (backTo pos (starEach es X.env))) (AP X pins σ Q) X.xe s
def PS (X:Cx) (st:Stmt) (t:TS):Prop :=
 ∀(pins:List (Addr×Obj)) (s:Shared) (σ:St) (H:Hp) (D:Ends),Inv X pins σ H s->t D σ H->wpAny (model X.prog X.w) X.A (exec st X.env) (SP X pins D) X.xe s
def A1 (X:Cx) (st:List Stmt) (t:TS):Prop :=
 ∀(pins:List (Addr×Obj)) (s:Shared) (σ:St) (H:Hp) (D:Ends),Inv X pins σ H s->t D σ H->wpAny (model X.prog X.w) X.A (execs st X.env) (SP X pins D) X.xe s
theorem bX {α:Type}{t:Sem α}{Q Q':α->Shared->Prop}{M:Model}{A:Around}{E:Value->Shared->Prop}{s:Shared}(h:wpAny M A t Q E s) (hQ:∀a s,Q a s->Q' a s):wpAny M A t Q' E s:=Vx h hQ fun _ _ x=>x
section
variable {X:Cx}
theorem bin {a b:Expr}{ta tb:TE}(ha:PE X a ta) (hb:PE X b tb) {pins:List (Addr×Obj)}{s:Shared}{σ:St}{H:Hp}{R:V->V->Hp->Prop}(I:Inv X pins σ H s) (h:ta σ H fun x H1=>tb σ H1 fun y H2=>R x y H2)
  {α:Type}{Q:α->Shared->Prop}{f:Value->Value->Sem α}
  (hf:∀v u s2 x y H2,Inv X pins σ H2 s2->RelV x v->RelV y u->R x y H2->wpAny (model X.prog X.w) X.A (f v u) Q X.xe s2) :
  wpAny (model X.prog X.w) X.A (eval a X.env) (fun v s₁=>wpAny (model X.prog X.w) X.A (eval b X.env) (fun u s₂=>wpAny (model X.prog X.w) X.A (f v u) Q X.xe s₂) X.xe s₁) X.xe s:=by
 refine bX (ha pins s σ H _ I h) fun v s1 ⟨x,H1,I1,r1,q1⟩=>?_
 refine bX (hb pins s1 σ H1 _ I1 q1) fun u s2 ⟨y,H2,I2,r2,q2⟩=>?_
 exact hf v u s2 x y H2 I2 r1 r2 q2
def KW (i:Nat):TE:=fun σ H Q=>∃v,σ[i]? = some (some v)/\Q v H
def tC (v:V):TE:=fun _ H Q=>Q v H
theorem K6 {i:Nat}{x:Str}{pos:Pos}(hN:X.N[i]? = some x) (hv:OO X.env.scope x) (hd:(x ==("__debug__" : Str))=false:=by decide) (hcd:(x ==("__classdict__" : Str))=false:=by decide):PE X (.Name x pos) (KW i):=by
 intro pins s σ H Q I h
 obtain⟨v,e,h⟩:=h
 obtain⟨m,hn,hl⟩:=I.loc
 obtain⟨u,r,l⟩:=hl i x v hN e hv
 have fin:EP X pins σ Q u s:=⟨v,H,I,r,h⟩
 rcases l with⟨hk,hm⟩|⟨hk,c,hc,hcell⟩
 ·exact wpAny_Name (wpAny_loadName_local I.ok.kind hk hn hm fin) hd
 ·rcases hk with hk|hk
  ·exact wpAny_Name (wpAny_loadName_cell I.ok.kind hk hc hcell fin) hd
  ·exact wpAny_Name (wpAny_loadName_free I.ok.kind hk hc hcell fin hcd) hd
theorem aj {i j pos}:PE X (.Constant (.int i) j pos) (tC (.int i)):=fun _ _ _ H _ I h=>wpAny_Constant_int ⟨.int i,H,I.tok _,⟨_,rfl⟩,h⟩
theorem yL {b j pos}:PE X (.Constant (.bool b) j pos) (tC (.bl b)):=fun _ _ _ H _ I h=>Constant_bool ⟨.bl b,H,I,rfl,h⟩
theorem jZ {j pos}:PE X (.Constant .none j pos) (tC .non):=fun _ _ _ H _ I h=>Constant_none ⟨.non,H,I,rfl,h⟩
theorem bQ {x j pos}:PE X (.Constant (.str x) j pos) (tC (.str x)):=fun _ _ _ H _ I h=>Calls.Constant_str ⟨.str x,H,I.tok _,⟨_,rfl⟩,h⟩
def Gl (X:Cx) (x:Str):Prop:=X.env.kindOf x=some .globalImplicit
theorem FY {E:Value->Shared->Prop}{pins:List (Addr×Obj)}{s:Shared}{σ:St}{H:Hp}{x:Str}{u:Value}{pos:Pos}{Q:Value->Shared->Prop}(I:Inv X pins σ H s) (hg:Gl X x) (hm:X.mg x=some u) (h:Q u s)
  (hd:(x ==("__debug__" : Str))=false:=by decide):wpAny (model X.prog X.w) X.A (eval (.Name x pos) X.env) Q E s :=
 Calls.Name_function_global I.ok.kind hg (Calls.loadGlobal_global (by rw[I.ok.glob];exact I.mod.glob.keeps I.bk) hm h) hd
theorem qP {E:Value->Shared->Prop}{pins:List (Addr×Obj)}{s:Shared}{σ:St}{H:Hp}{x:Str}{u:Value}{pos:Pos}{Q:Value->Shared->Prop}(I:Inv X pins σ H s) (hg:Gl X x) (hm:X.mg x=none) (hv:bootBuiltins x=some u) (h:Q u s)
  (hn:x ≠ "__name__" := by decide) (hd:(x ==("__debug__" : Str))=false:=by decide):wpAny (model X.prog X.w) X.A (eval (.Name x pos) X.env) Q E s:=by
 obtain⟨mb,h1,h2⟩:=I.mod.blt
 exact Calls.Name_function_global I.ok.kind hg (Calls.loadGlobal_builtin (by rw[I.ok.glob];exact I.mod.glob.keeps I.bk) hm (by rw[I.ok.blt];exact h1.keeps I.bk) ((h2 x hn).trans hv) h) hd
variable {a b:Expr}{ta tb:TE}{pos:Pos}
def PC (X:Cx) (op:CmpOp) (a b:Expr) (t:TE):Prop :=
 ∀(pins:List (Addr×Obj)) (s:Shared) (σ:St) (H:Hp) (Q:VK),Inv X pins σ H s->t σ H Q ->
  wpAny (model X.prog X.w) X.A (eval a X.env) (fun v s₁=>wpAny (model X.prog X.w) X.A (eval b X.env) (fun u s₂=>wpAny (model X.prog X.w) X.A (compareOp op v u) (EP X pins σ Q) X.xe s₂) X.xe s₁) X.xe s
def tB (t:TE):TT:=fun σ H Q=>t σ H fun x H1=>∃c,x = .bl c/\Q c H1
theorem Q8 {op:CmpOp}{t:TE}(h:PC X op a b t) (h1:behindInMarks op b=false:=by first|exact nobehind _ (by decide) (by decide)|rfl):PT X (.Compare a [op] [b] pos) (tB t):=by
 intro pins s σ H Q I hw
 refine wpAny_isTrue_Compare1 (bX (h pins s σ H _ I hw) fun v s1 h1=>bX h1 fun u s2 h2=>bX h2 fun c s3 ⟨x,H1,I1,r1,q1⟩=>?_) h1
 obtain⟨d,rfl,q⟩:=q1
 cases r1
 exact WW ⟨H1,I1,q⟩
theorem D_ {e:Expr}{t:TE}(h:PE X e t) (he:∀whole,isTrue e X.env whole =(do let v <- whole;standAt e.pos;holding [v] (truthy v)):=by intro _;rfl):PT X e (tB t):=by
 intro pins s σ H Q I hw
 refine isTrue_plain (bX (h pins s σ H _ I hw) fun v s1 ⟨x,H1,I1,r1,q1⟩=>?_) (he _)
 obtain⟨d,rfl,q⟩:=q1
 cases r1
 exact WW ⟨H1,I1,q⟩
variable {tA tB':TT}{rest:List Expr}
def Mr (t u:TT):TT:=fun σ H Q=>t σ H fun c H1=>if c=true then u σ H1 Q else Q false H1
def SE (t u:TT):TT:=fun σ H Q=>t σ H fun c H1=>if c=true then Q true H1 else u σ H1 Q
def MC (t:TT):TT:=fun σ H Q=>t σ H fun c H1=>Q (!c) H1
theorem iz (ha:PT X a tA):PW X (.BoolOp .And [a] pos) tA:=by
 intro wh pins s σ H Q I h
 refine isTrue_and (bX (ha pins s σ H Q I h) fun c s1 e=>?_)
 cases c with
 | true=>exact isTrue_and_nil e
 | false=>exact e
theorem Ac (ha:PT X a tA):PW X (.BoolOp .Or [a] pos) tA:=by
 intro wh pins s σ H Q I h
 refine isTrue_or (bX (ha pins s σ H Q I h) fun c s1 e=>?_)
 cases c with
 | false=>exact isTrue_or_nil e
 | true=>exact e
theorem jH (ha:PT X a tA) (hb:PW X (.BoolOp .And (b::rest) pos) tB'):PW X (.BoolOp .And (a::b::rest) pos) (Mr tA tB'):=by
 intro wh pins s σ H Q I h
 refine isTrue_and (bX (ha pins s σ H _ I h) fun c s1 ⟨H1,I1,q1⟩=>?_)
 cases c with
 | true=>exact hb wh pins s1 σ H1 Q I1 q1
 | false=>exact⟨H1,I1,q1⟩
theorem DI (ha:PT X a tA) (hb:PW X (.BoolOp .Or (b::rest) pos) tB'):PW X (.BoolOp .Or (a::b::rest) pos) (SE tA tB'):=by
 intro wh pins s σ H Q I h
 refine isTrue_or (bX (ha pins s σ H _ I h) fun c s1 ⟨H1,I1,q1⟩=>?_)
 cases c with
 | true=>exact⟨H1,I1,q1⟩
 | false=>exact hb wh pins s1 σ H1 Q I1 q1
theorem Dy (ha:PT X a tA):PT X (.UnaryOp .Not a pos) (MC tA):=by
 intro pins s σ H Q I h
 exact isTrue_not (ha pins s σ H (fun c H1=>Q (!c) H1) I h)
def Sq (t:TT) (ta tb:TE):TE:=fun σ H Q=>t σ H fun c H1=>if c=true then ta σ H1 Q else tb σ H1 Q
theorem C_ {c:Expr}(hc:PT X c tA) (ha:PE X a ta) (hb:PE X b tb):PE X (.IfExp c a b pos) (Sq tA ta tb):=by
 intro pins s σ H Q I h
 refine wpAny_IfExp (bX (hc pins s σ H _ I h) fun d s1 ⟨H1,I1,q1⟩=>?_)
 cases d with
 | true=>exact ha pins s1 σ H1 Q I1 q1
 | false=>exact hb pins s1 σ H1 Q I1 q1
end
def aW (K:W.Frag) (H:Hp) (a:Addr) (xs:List V):Prop :=
 Rd H a (.lst xs) \/
  ∃(o:Obj) (its:Array Value) (n:Nat),K.lookup a=some o/\o.cls = .type "list"/\o.dict=none/\o.data = .seq its n/\its.size<=sizeLine/\Vals xs its.toList
def iM (K:W.Frag) (H:Hp) (a:Addr) (xs:List V):Prop :=
 Rd H a (.tup xs) \/
  ∃(o:Obj) (its:Array Value) (n:Nat),K.lookup a=some o/\o.cls = .type "tuple"/\o.data = .seq its n/\its.size<=sizeLine/\Vals xs its.toList
def Sh:Value->Option V
 | .none=>some .non
 | .bool b=>some (.bl b)
 | .int i _=>some (.int i)
 | .str x _=>some (.str x)
 | .bytes b _=>some (.byt b)
 | .float b _=>some (.flt b)
 | .ref a=>some (.ref a)
 | .type n=>some (.ty n)
 | _=>none
theorem RelV.abs {x:V}{u:Value}(r:RelV x u):Sh u=some x:=by
 cases x with
 | non=>cases r;rfl
 | bl _=>cases r;rfl
 | int _=>obtain⟨t,rfl⟩:=r;rfl
 | str _=>obtain⟨t,rfl⟩:=r;rfl
 | byt _=>obtain⟨t,rfl⟩:=r;rfl
 | flt _=>obtain⟨t,rfl⟩:=r;rfl
 | ref _=>cases r;rfl
 | ty _=>cases r;rfl
theorem RelV.inj {x y:V}{u:Value}(r:RelV x u) (q:RelV y u):x=y:=US (r.abs.symm.trans q.abs)
theorem Vals.inj:∀{xs ys:List V}{us:List Value},Vals xs us->Vals ys us->xs=ys
 | _,_,_,.nil,.nil=>rfl
 | _,_,_,.cons r t,.cons r' t'=>by rw[r.inj r',Vals.inj t t']
section
variable {X:Cx}{pins:List (Addr×Obj)}{σ:St}{H:Hp}{s:Shared}{a:Addr}{xs ys:List V}
theorem aW.of {K:W.Frag}(h:H a=some (.lst xs)):aW K H a xs:=.inl (.inl h)
theorem iM.of {K:W.Frag}(h:H a=some (.tup xs)):iM K H a xs:=.inl (.inl h)
theorem Inv.list (I:Inv X pins σ H s) (h:aW X.K H a xs):∃its:List Value,Vals xs its/\PlainL s.heap a its.toArray/\xs.length<=sizeLine:=by
 rcases h with h|⟨o,its,n,hk,hc,hd,hs,hz,r⟩
 ·obtain⟨z,its,n,r,e⟩:=h.ok I.hok
  exact⟨its,r,⟨_,n,e,rfl,rfl,rfl⟩,z⟩
 ·refine⟨its.toList,r,⟨o,n,I.kIn a o hk,hc,hd,by simpa using hs⟩,?_⟩
  have e:=r.length
  simp only[Array.length_toList]at e
  omega
theorem Inv.tuple (I:Inv X pins σ H s) (h:iM X.K H a xs):∃its:List Value,Vals xs its/\IsTup s.heap a its.toArray/\xs.length<=sizeLine:=by
 rcases h with h|⟨o,its,n,hk,hc,hs,hz,r⟩
 ·obtain⟨z,its,r,p⟩:=h.ok I.hok
  exact⟨its,r,p,z⟩
 ·refine⟨its.toList,r,⟨o,I.kIn a o hk,hc,n,by simpa using hs⟩,?_⟩
  have e:=r.length
  simp only[Array.length_toList]at e
  omega
theorem Inv.list_inj (I:Inv X pins σ H s) (h:aW X.K H a xs) (h':aW X.K H a ys):xs=ys:=by
 obtain⟨its,r,⟨o,n,e,_,_,d⟩,_⟩:=I.list h
 obtain⟨its',r',⟨o',n',e',_,_,d'⟩,_⟩:=I.list h'
 rw[e]at e';cases e'
 rw[d]at d'
 injection d' with d1 _
 have:its=its':=by simpa using Vk Array.toList d1
 subst this
 exact r.inj r'
end
abbrev Cx.wish (X:Cx) (E:Value->Shared->Prop):Cx:={ X with xe:=E }
abbrev Cx.nox (X:Cx):Cx:=X.wish fun _ _=>False
theorem Cx.Ok.wish {X:Cx}(ok:X.Ok) (E:Value->Shared->Prop):(X.wish E).Ok :=
 ⟨ok.mod,ok.kind,ok.glob,ok.blt,ok.above,ok.inj,ok.has,ok.cab,ok.hd,ok.frames,ok.stk,ok.exf,ok.bs,ok.bsz,ok.noex,ok.exfs,ok.funs,ok.frf⟩
theorem Cx.Ok.unwish {X:Cx}{E:Value->Shared->Prop}(ok:(X.wish E).Ok):X.Ok :=
 ⟨ok.mod,ok.kind,ok.glob,ok.blt,ok.above,ok.inj,ok.has,ok.cab,ok.hd,ok.frames,ok.stk,ok.exf,ok.bs,ok.bsz,ok.noex,ok.exfs,ok.funs,ok.frf⟩
section
variable {X:Cx}{pins:List (Addr×Obj)}{σ:St}{H:Hp}{s:Shared}{E:Value->Shared->Prop}
theorem Inv.wish (I:Inv X pins σ H s) (E:Value->Shared->Prop):Inv (X.wish E) pins σ H s:=⟨I.ok.wish E,I.os,I.bare,I.base,I.loc,I.cell,I.free,I.freeC,I.pin,I.hok,I.len⟩
theorem Inv.unwish (I:Inv (X.wish E) pins σ H s):Inv X pins σ H s:=⟨I.ok.unwish,I.os,I.bare,I.base,I.loc,I.cell,I.free,I.freeC,I.pin,I.hok,I.len⟩
theorem SP.unwish {D:Ends}{f:Flow}{s':Shared}(h:SP (X.wish E) pins D f s'):SP X pins D f s':=by
 cases f with
 | next=>obtain⟨σ',H',I,q⟩:=h;exact⟨σ',H',I.unwish,q⟩
 | brk=>obtain⟨σ',H',I,q⟩:=h;exact⟨σ',H',I.unwish,q⟩
 | cont=>obtain⟨σ',H',I,q⟩:=h;exact⟨σ',H',I.unwish,q⟩
 | ret u=>obtain⟨v,σ',H',I,r,q⟩:=h;exact⟨v,σ',H',I.unwish,r,q⟩
theorem A1.nox {st:List Stmt}{t:TS}(h:A1 X.nox st t):A1 X st t:=fun pins s σ H D I hw =>
 Vx (h pins s σ H D (I.wish _) hw) (fun _ _ q=>q.unwish) fun _ _ z=>False.elim z
end
section
variable {X:Cx}{st:Stmt}{rest:List Stmt}{t u:TS}{e:Expr}{te:TE}{pos:Pos}
def Iq:TS:=fun D σ H=>D.nx σ H
def Mu (t u:TS):TS:=fun D σ H=>t { D with nx:=u D } σ H
theorem bh:A1 X [] Iq:=fun _ _ σ H _ I h=>wpAny_execs_nil ⟨σ,H,I,h⟩
theorem ai (h1:PS X st t) (h2:A1 X rest u):A1 X (st::rest) (Mu t u):=by
 intro pins s σ H D I h
 refine wpAny_execs_cons (bX (h1 pins s σ H { D with nx:=u D } I h) fun f s1 q=>?_)
 cases f with
 | next =>
  obtain⟨σ',H',I',q⟩:=q
  exact h2 pins s1 σ' H' D I' q
 | ret v=>exact q
 | brk=>exact q
 | cont=>exact q
theorem ay (h1:PS X st t):A1 X [st] t:=by
 intro pins s σ H D I h
 refine wpAny_execs_cons (bX (h1 pins s σ H D I h) fun f s1 q=>?_)
 cases f with
 | next=>exact wpAny_execs_nil q
 | ret v=>exact q
 | brk=>exact q
 | cont=>exact q
theorem Inv.quiet {pins:List (Addr×Obj)}{σ:St}{H:Hp}{s:Shared}(I:Inv X pins σ H s):interactive X.env=false:=by simp[interactive,I.ok.kind]
def IU (te:TE):TS:=fun D σ H=>te σ H fun _ H1=>D.nx σ H1
theorem iK (he:PE X e te) (hs:swapsWith e none pos.line X.env=pure false:=by rfl):PS X (.Expr e pos) (IU te):=by
 intro pins s σ H D I h
 exact wpAny_Expr_any (bX (he pins s σ H _ I h) fun v s1 ⟨x,H1,I1,r1,q1⟩=>⟨σ,H1,I1,q1⟩) I.quiet hs
def ON (te:TE):TS:=fun D σ H=>te σ H D.rt
theorem aN (he:PE X e te):PS X (.Return (some e) pos) (ON te):=by
 intro pins s σ H D I h
 exact wpAny_Return_some (bX (he pins s σ H _ I h) fun v s1 ⟨x,H1,I1,r1,q1⟩=>⟨x,σ,H1,I1,r1,q1⟩)
def N3 (c:TT) (t u:TS):TS:=fun D σ H=>c σ H fun b H1=>if b=true then t D σ H1 else u D σ H1
theorem bY {c:Expr}{a b:List Stmt}{tc:TT}(hc:PT X c tc) (ha:A1 X a t) (hb:A1 X b u):PS X (.If c a b pos) (N3 tc t u):=by
 intro pins s σ H D I h
 refine wpAny_If (bX (hc pins s σ H _ I h) fun d s1 ⟨H1,I1,q1⟩=>?_)
 cases d with
 | true=>exact ha pins s1 σ H1 D I1 q1
 | false=>exact hb pins s1 σ H1 D I1 q1
end
abbrev TG:=V->St->Hp->(St->Hp->Prop)->Prop
abbrev IS:=List V->St->Hp->(St->Hp->Prop)->Prop
def PG (X:Cx) (target:Expr) (t:TG):Prop :=
 ∀(pins:List (Addr×Obj)) (s:Shared) (σ:St) (H:Hp) (v:V) (u:Value) (Q:St->Hp->Prop),Inv X pins σ H s->RelV v u->t v σ H Q ->
  wpAny (model X.prog X.w) X.A (assign target X.env u) (fun _ s'=>∃σ' H',Inv X pins σ' H' s'/\Q σ' H') X.xe s
def Pa (X:Cx) (ts:List Expr) (t:IS):Prop :=
 ∀(pins:List (Addr×Obj)) (s:Shared) (σ:St) (H:Hp) (vs:List V) (us:List Value) (Q:St->Hp->Prop),Inv X pins σ H s->Vals vs us->t vs σ H Q ->
  wpAny (model X.prog X.w) X.A (assignInOrder ((assignEach ts X.env).map (·.2)) us) (fun _ s'=>∃σ' H',Inv X pins σ' H' s'/\Q σ' H') X.xe s
abbrev zw:=V->V->V->Hp->(Hp->Prop)->Prop
def JA (X:Cx) (t:zw):Prop :=
 ∀(pins:List (Addr×Obj)) (s:Shared) (σ:St) (H:Hp) (o i v:V) (ov iv u:Value) (Q:Hp->Prop),Inv X pins σ H s->RelV o ov->RelV i iv->RelV v u->t o i v H Q ->
  wpAny (model X.prog X.w) X.A (setItem ov iv u) (fun _ s'=>∃H',Inv X pins σ H' s'/\Q H') X.xe s
abbrev E5:=V->V->Hp->VK->Prop
def Qh (X:Cx) (op:Operator) (t:E5):Prop :=
 ∀(pins:List (Addr×Obj)) (s:Shared) (σ:St) (H:Hp) (x y:V) (v u:Value) (Q:VK),Inv X pins σ H s->RelV x v->RelV y u->t x y H Q ->
  wpAny (model X.prog X.w) X.A (inplaceOp op v u) (EP X pins σ Q) X.xe s
section
variable {X:Cx}{pos:Pos}
def xh (i:Nat):TG:=fun v σ H Q=>Q (σ.set i (some v)) H
theorem aC {i:Nat}{x:Str}(hN:X.N.Nodup) (hi:X.N[i]? = some x) (hx:Loc X.env.scope x) (hf:X.fn x=true\/X.env.scope.names.lookup x=some .local:=by first|exact .inl rfl|exact .inr rfl|assumption):PG X (.Name x pos) (xh i):=by
 intro pins s σ H v u Q I r h
 exact wpAny_assign_Name (pM I hN hi hx r (fun s' I'=>⟨_,H,I',h⟩) hf)
def RD:IS:=fun vs σ H Q=>vs=[]/\Q σ H
def PB (t:TG) (u:IS):IS:=fun vs σ H Q=>∃v r,vs=v::r/\t v σ H fun σ' H'=>u r σ' H' Q
theorem b6:Pa X [] RD:=by
 intro pins s σ H vs us Q I r h
 obtain⟨e,h⟩:=h
 subst e
 cases r
 exact assignInOrder_nil ⟨σ,H,I,h⟩
theorem aK {e:Expr}{es:List Expr}{t:TG}{u:IS}(h1:PG X e t) (h2:Pa X es u)
  (hs:(assignEach (e::es) X.env).map (·.2)=assign e X.env::(assignEach es X.env).map (·.2):=by rfl):Pa X (e::es) (PB t u):=by
 intro pins s σ H vs us Q I r h
 obtain⟨v,vr,e1,h⟩:=h
 subst e1
 cases r with
 | cons r rr =>
  rw[hs]
  refine assignInOrder_cons (bX (h1 pins s σ H _ _ _ I r h) fun _ s1 ⟨σ1,H1,I1,q1⟩=>?_)
  exact h2 pins s1 σ1 H1 _ _ Q I1 rr q1
def PF (K:W.Frag) (n:Nat) (t:IS):TG:=fun v σ H Q=>∃a xs,v = .ref a/\iM K H a xs/\xs.length=n/\t xs σ H Q
theorem dM {es:List Expr}{k:Nat}{t:IS}{n:Nat}(hc:X.calm=true) (h:Pa X es t)
  (hn:(assignEach es X.env).length=n:=by rfl) (hst:(assignEach es X.env).findIdx? (·.1)=none:=by rfl):PG X (.Tuple es k pos) (PF X.K n t):=by
 intro pins s σ H v u Q I r hw
 obtain⟨a,xs,e1,hq,hl,hw⟩:=hw
 subst e1
 cases r
 obtain⟨its,rv,ht,hz⟩:=I.tuple hq
 refine assign_Tuple_tuple (I.ok.hd hc) ht (by simp[hn,<- hl,rv.length]) hst fun h' hx=>?_
 have I1:Inv X pins σ H { s with heap:=h' }:=I.kept (t':=s.toks) fun b o e=>hx b o (UZ (UU e)) e
 exact h pins _ σ H xs _ Q I1 (by simpa using rv) hw
def Oj (to ti:TE) (t:zw):TG:=fun v σ H Q=>to σ H fun o H1=>ti σ H1 fun i H2=>t o i v H2 fun H3=>Q σ H3
theorem zW {o i:Expr}{to ti:TE}{t:zw}(ho:PE X o to) (hi:PE X i ti) (hs:JA X t)
  (ha:∀v,assign (.Subscript o i pos) X.env v =(do
   let ov <- holding [v] (eval o X.env)
   let iv <- holding [v,ov] (eval i X.env)
   standAt pos
   holding [v,ov,iv] (setItem ov iv v)
   release [v,ov,iv] []):=by intro _;rfl):PG X (.Subscript o i pos) (Oj to ti t):=by
 intro pins s σ H v u Q I r h
 rw[ha]
 refine Uw (VF (bX (ho pins s σ H _ I h) fun ov s1 ⟨x,H1,I1,r1,q1⟩=>?_))
 refine Uw (VF (bX (hi pins s1 σ H1 _ I1 q1) fun iv s2 ⟨y,H2,I2,r2,q2⟩=>?_))
 refine Uw (W0 (Uw (VF (bX (hs pins s2 σ H2 x y v ov iv u _ I2 r1 r2 r q2) fun _ s3 ⟨H3,I3,q3⟩=>?_))))
 exact wpAny_release ⟨σ,H3,I3,q3⟩
def HV (te:TE) (g:TG):TS:=fun D σ H=>te σ H fun x H1=>g x σ H1 D.nx
theorem eO {tg e:Expr}{te:TE}{g:TG}(he:PE X e te) (hg:PG X tg g) (hs:swapsWithSole [tg] e pos.line X.env=pure false:=by rfl) (hw:swappedStores [tg] e X.env=pure none:=by rfl)
  (h1:(assignEach [tg] X.env).map (·.2)=[assign tg X.env]:=by rfl):PS X (.Assign [tg] e pos) (HV te g):=by
 intro pins s σ H D I h
 refine wpAny_Assign_stores (bX (he pins s σ H _ I h) fun v s1 ⟨x,H1,I1,r1,q1⟩=>?_) hs hw
 rw[h1]
 exact bX (hg pins s1 σ H1 x v _ I1 r1 q1) fun _ s2 q=>q
theorem aG {i:Nat}{x:Str}{e:Expr}{te:TE}{pos':Pos}(hN:X.N.Nodup) (hi:X.N[i]? = some x) (hx:Loc X.env.scope x) (he:PE X e te) (hs:swapsWith e (some (.Name x pos')) pos.line X.env=pure false:=by rfl) (hf:X.fn x=true\/X.env.scope.names.lookup x=some .local:=by first|exact .inl rfl|exact .inr rfl|assumption) :
  PS X (.Assign [.Name x pos'] e pos) (HV te (xh i)):=by
 intro pins s σ H D I h
 refine wpAny_Assign_Name (bX (he pins s σ H _ I h) fun v s1 ⟨y,H1,I1,r1,q1⟩=>?_) hs
 exact pM I1 hN hi hx r1 (fun s2 I2=>⟨_,H1,I2,q1⟩) hf
def M6 (i:Nat) (te:TE) (ti:E5):TS:=fun D σ H=>∃x,σ[i]? = some (some x)/\te σ H fun y H1=>ti x y H1 fun z H2=>D.nx (σ.set i (some z)) H2
theorem EF {i:Nat}{x:Str}{e:Expr}{te:TE}{op:Operator}{ti:E5}{pos':Pos}(hN:X.N.Nodup) (hi:X.N[i]? = some x) (hx:Loc X.env.scope x) (he:PE X e te) (ho:Qh X op ti) (hf:X.fn x=true\/X.env.scope.names.lookup x=some .local:=by first|exact .inl rfl|exact .inr rfl|assumption) :
  PS X (.AugAssign (.Name x pos') op e pos) (M6 i te ti):=by
 intro pins s σ H D I h
 obtain⟨v,e1,h⟩:=h
 obtain⟨m,hn,hl⟩:=I.loc
 have vis:OO X.env.scope x:=by rcases hx with k|k;exact .inl k;exact .inr (.inl k)
 obtain⟨u,r,l⟩:=hl i x v hi e1 vis
 refine wpAny_AugAssign_Name ?_
 have go:wpAny (model X.prog X.w) X.A (eval e X.env) (fun w s₂=>wpAny (model X.prog X.w) X.A (inplaceOp op u w) (fun r s₃=>wpAny (model X.prog X.w) X.A (storeName X.env x r) (fun _=>SP X pins D .next) X.xe s₃) X.xe s₂) X.xe s:=by
  refine bX (he pins s σ H _ I h) fun w s1 ⟨y,H1,I1,r1,q1⟩=>?_
  refine bX (ho pins s1 σ H1 v y u w _ I1 r r1 q1) fun z s2 ⟨zv,H2,I2,r2,q2⟩=>?_
  exact pM I2 hN hi hx r2 (fun s3 I3=>⟨_,H2,I3,q2⟩) hf
 rcases l with⟨hk,hm⟩|⟨hk,c,hc,hcell⟩
 ·exact wpAny_loadName_local I.ok.kind hk hn hm go
 ·rcases hk with hk|hk
  ·exact wpAny_loadName_cell I.ok.kind hk hc hcell go
  ·rcases hx with k|k
   ·have:X.env.scope.names.lookup x=some .free:=hk
    rw[k]at this;cases this
   ·have:X.env.scope.names.lookup x=some .free:=hk
    rw[k]at this;cases this
def IV (to ti te:TE) (tget:V->V->Hp->VK->Prop) (tip:E5) (tset:zw):TS:=fun D σ H=>to σ H fun o H1=>ti σ H1 fun i H2=>tget o i H2 fun x H3=>te σ H3 fun y H4=>tip x y H4 fun z H5=>tset o i z H5 fun H6=>D.nx σ H6
def NT (X:Cx) (t:V->V->Hp->VK->Prop):Prop :=
 ∀(pins:List (Addr×Obj)) (s:Shared) (σ:St) (H:Hp) (o i:V) (ov iv:Value) (Q:VK),Inv X pins σ H s->RelV o ov->RelV i iv->t o i H Q ->
  wpAny (model X.prog X.w) X.A (getItem ov iv) (EP X pins σ Q) X.xe s
theorem Ff {o i e:Expr}{to ti te:TE}{tget:V->V->Hp->VK->Prop}{tip:E5}{tset:zw}{op:Operator}{tpos:Pos}(ho:PE X o to) (hi:PE X i ti) (hg:NT X tget) (he:PE X e te) (hp:Qh X op tip) (hs:JA X tset)
  (ha:∀ov iv new,augStore i ov iv new =(do holding [new,ov,iv] (setItem ov iv new);release [new,ov,iv] [];pure .next):=by intros;rfl):PS X (.AugAssign (.Subscript o i tpos) op e pos) (IV to ti te tget tip tset):=by
 intro pins s σ H D I h
 refine wpAny_AugAssign_SubscriptAny (bX (ho pins s σ H _ I h) fun ov s1 ⟨x1,H1,I1,r1,q1⟩=>?_) ha
 refine bX (hi pins s1 σ H1 _ I1 q1) fun iv s2 ⟨x2,H2,I2,r2,q2⟩=>?_
 refine bX (hg pins s2 σ H2 x1 x2 ov iv _ I2 r1 r2 q2) fun old s3 ⟨x3,H3,I3,r3,q3⟩=>?_
 refine bX (he pins s3 σ H3 _ I3 q3) fun v s4 ⟨x4,H4,I4,r4,q4⟩=>?_
 refine bX (hp pins s4 σ H4 x3 x4 old v _ I4 r3 r4 q4) fun new s5 ⟨x5,H5,I5,r5,q5⟩=>?_
 exact bX (hs pins s5 σ H5 x1 x2 x5 ov iv new _ I5 r1 r2 r5 q5) fun _ s6 ⟨H6,I6,q6⟩=>⟨σ,H6,I6,q6⟩
def Ss (f:Int->Int->Int):E5:=fun x y H Q=>∃i j,x = .int i/\y = .int j/\Q (.int (f i j)) H
theorem CV:Qh X .Add (Ss fun i j=>i+j):=by
 intro pins s σ H x y v u Q I r1 r2 h
 obtain⟨i,j,e1,e2,q⟩:=h
 subst e1;subst e2
 obtain⟨t,rfl⟩:=r1
 obtain⟨t',rfl⟩:=r2
 exact iadd_int ⟨.int _,H,I.tok _,⟨_,rfl⟩,q⟩
end
section
variable {X:Cx}{pos:Pos}
def K_ (c:TT) (tb:TS):TS:=fun D σ H=>∃W:Nat->St->Hp->Prop,(∃m,W m σ H)/\∀m σ H,W m σ H ->
 c σ H fun b H1=>if b=true then ∃N:St->Hp->Prop,(∀σ' H',N σ' H'->∃m',m'<m/\W m' σ' H')/\tb { D with nx:=N,ct:=N,bk:=D.nx } σ H1 else D.nx σ H1
theorem jT {c:Expr}{body:List Stmt}{tc:TT}{tb:TS}(hp:PassesOwn (model X.prog X.w) X.A X.env X.xe) (hc:PT X c tc) (hb:A1 X body tb):PS X (.While c body [] pos) (K_ tc tb):=by
 intro pins s σ H D I h
 obtain⟨W,⟨m0,w0⟩,turn⟩:=h
 refine wpAny_While (codeAny_whileLoop (fun n s'=>∃σ' H',Inv X pins σ' H' s'/\W n σ' H') ?_ m0 ⟨σ,H,I,w0⟩)
 rintro n s1 ⟨σ1,H1,I1,w1⟩
 refine WV hp (bX (hc pins s1 σ1 H1 _ I1 (turn n σ1 H1 w1)) fun b s2 ⟨H2,I2,q2⟩=>?_)
 cases b with
 | true =>
  obtain⟨N,hN,q2⟩:=q2
  rw[UN rfl]
  refine WV hp (bX (hb pins s2 σ1 H2 _ I2 q2) fun f s3 q3=>?_)
  cases f with
  | next =>
   obtain⟨σ3,H3,I3,n3⟩:=q3
   obtain⟨m',hm,w3⟩:=hN σ3 H3 n3
   exact⟨m',hm,σ3,H3,I3,w3⟩
  | cont =>
   obtain⟨σ3,H3,I3,n3⟩:=q3
   obtain⟨m',hm,w3⟩:=hN σ3 H3 n3
   exact⟨m',hm,σ3,H3,I3,w3⟩
  | brk=>exact q3
  | ret v=>exact q3
 | false =>
  rw[UM U0]
  exact wpAny_execs_nil ⟨σ1,H2,I2,q2⟩
end
structure It where
 go:Nat->Hp->Prop
 yld:Nat->Hp->V->Hp->Prop
 stop:Nat->Hp->Prop
def jA (X:Cx) (pins:List (Addr×Obj)) (H:Hp) (b:Addr):Prop :=
 H b=none/\b≠X.env.locals/\b∉X.fs/\(b∈X.ex\/X.s₀.heap.objs.size<=b)/\(∀x c,X.env.cells.lookup x=some c->c≠b)/\∀p∈X.pn++pins,p.1≠b
theorem Inv.fpOk {X:Cx}{pins:List (Addr×Obj)}{σ:St}{H H':Hp}{s:Shared}{b:Addr}(I:Inv X pins σ H s) (hb:s.heap.objs.size<=b) (hn:H' b=none):jA X pins H' b:=by
 refine⟨hn,Xo (Vd I.lt hb),I.nofs hb,.inr (UP I.sz hb),fun x c e z=>?_,fun p hp z=>?_⟩
 ·obtain⟨v,q⟩:=I.cell x c e
  exact absurd (Vd q.lt (by rw[z];exact hb)) (Wh _)
 ·exact absurd (Vd (UU (I.pin p hp).1) (by rw[z];exact hb)) (Wh _)
structure Turn (P:Program) (w:World) (K:W.Frag) (tg:Expr) (J:It) (fp:List Addr) (it:Addr) (tn:Nat->Heap->Prop):Prop where
 mem:it∈fp
 obj:∀i h,tn i h->∀b∈fp,∃o,h.get? b=some o/\∀v,o.data ≠ .cell v
 keep:∀i h h',tn i h->(∀b∈fp,∀o,h.get? b=some o->h'.get? b=some o)->tn i h'
 item:∀(X:Cx),X.prog=P->X.w=w->X.K=K->X.calm=true->∀(i:Nat) (pins:List (Addr×Obj)) (s:Shared) (σ:St) (H:Hp) (E:Value->Shared->Prop),Inv X pins σ H s->(∀b∈fp,jA X pins H b)->tn i s.heap->J.go i H ->
  wpAny (model P w) X.A (pyNext (.ref it)) (fun r s1=>∃u,r=some u /\
   wpAny (model P w) X.A (letOwnedTupleGo tg (.ref it) u) (fun _ s2=>∃x H',Inv X pins σ H' s2/\RelV x u/\J.yld i H x H'/\tn (i+1) s2.heap/\∀b∈fp,H' b=none) E s1) E s
 done:∀(X:Cx),X.prog=P->X.w=w->X.K=K->X.calm=true->∀(i:Nat) (pins:List (Addr×Obj)) (s:Shared) (σ:St) (H:Hp) (E:Value->Shared->Prop),Inv X pins σ H s->(∀b∈fp,jA X pins H b)->tn i s.heap->J.stop i H ->
  wpAny (model P w) X.A (pyNext (.ref it)) (fun r s1=>r=none/\Inv X pins σ H s1) E s
 self:∀(A:Around) (i:Nat) (s:Shared) (Q:Value->Shared->Prop) (E:Value->Shared->Prop),tn i s.heap->Q (.ref it) s->wpAny (model P w) A (pyIter (.ref it)) Q E s
abbrev TI:=St->Hp->(It->Hp->Prop)->Prop
def Sj (X:Cx) (pins:List (Addr×Obj)) (σ:St) (tg:Expr) (R:It->Hp->Prop) (itv:Value) (s2:Shared):Prop :=
 ∃(it:Addr) (fp:List Addr) (tn:Nat->Heap->Prop) (J:It) (H':Hp),itv = .ref it/\Inv X pins σ H' s2/\Turn X.prog X.w X.K tg J fp it tn/\tn 0 s2.heap/\(∀b∈fp,jA X pins H' b)/\R J H'
def PI (X:Cx) (tg iter:Expr) (wi:TI):Prop :=
 ∀(pins:List (Addr×Obj)) (s:Shared) (σ:St) (H:Hp) (R:It->Hp->Prop),Inv X pins σ H s->wi σ H R ->
  wpAny (model X.prog X.w) X.A (eval iter X.env) (fun v s1=>wpAny (model X.prog X.w) X.A (pyIter v) (Sj X pins σ tg R) X.xe s1) X.xe s
theorem Ii {M:Model} {A:Around} {E:Value->Shared->Prop} {s:Shared} {tg:Expr} {it:Addr} {u:Value} {o:Obj} {n:String} {vs:Array Value} {Q:Unit->Shared->Prop} (ho:s.heap.get? it = some o) (hc:o.cls = .type n) (hd:o.data = .fields vs)
    (hn:["enumerate", "zip", "dict_itemiterator", "dict_reverseitemiterator", "odict_iterator", "itertools.zip_longest", "itertools.pairwise"].contains n = false) (hQ:Q () s) : wpAny M A (letOwnedTupleGo tg (.ref it) u) Q E s:=by
  unfold letOwnedTupleGo
  cases tg <;> first
    | exact UD hQ
    | (cases u <;> first
        | exact UD hQ
        | (refine Uw (wpAny_load ho ?_)
           rw [hc,hd]
           show wpAny M A (if (["enumerate", "zip", "dict_itemiterator", "dict_reverseitemiterator", "odict_iterator", "itertools.zip_longest", "itertools.pairwise"].contains n && vs[0]? == some (rawInt _)) = true then _ else _) Q E s
           rw [UM (by intro h; rw [hn,Bool.false_and] at h; cases h)]
           exact UD hQ))
def Ao (K:W.Frag) (a:Addr):It :=
 ⟨fun i H=>∃xs x,aW K H a xs/\xs[i]? = some x,fun i H x H'=>H'=H/\∀xs,aW K H a xs->xs[i]? = some x,fun i H=>∃xs,aW K H a xs/\xs.length<=i⟩
def Cg (lo:Int) (n:Nat):It:=⟨fun i _=>i<n,fun i H x H'=>H'=H/\x = .int (lo+i),fun i _=>n<=i⟩
theorem BV {P:Program}{w:World}{K:W.Frag}{tg:Expr}(a it:Addr):Turn P w K tg (Ao K a) [it] it (fun i h=>h.IsListIter it a i) where
 mem:=by simp
 obj:=fun i h st b hb=>by
  have e:b=it:=by simpa using hb
  subst e
  obtain⟨o,e,c,d⟩:=st
  exact⟨o,e,fun v z=>by rw[d]at z;cases z⟩
 keep:=fun i h h' st k=>st.at fun o e=>k it (by simp) o e
 item:=by
  intro X hP hw hK hc i pins s σ H E I hf st hg
  subst hP hw hK
  obtain⟨xs,x,hq,hx⟩:=hg
  obtain⟨its,rv,p,hz⟩:=I.list hq
  obtain⟨u,hu,ru⟩:=rv.get hx
  obtain⟨f0,f1,f2,f3,f4,f5⟩:=hf it (by simp)
  refine wpAny_pyNext_list_item st p.isList (x:=u) (by simpa using hu) fun h' st' sb=>?_
  have I1:Inv X pins σ H { s with heap:=h' }:=I.turned (t':=s.toks) (fun b o hb e=>(sb.2 b hb).trans e) f0 f1 f3 f4 f5
  obtain⟨o,e,c,d⟩:=id st'
  exact⟨u,rfl,Ii (s:={ s with heap:=h' }) e c d (by decide) ⟨x,H,I1,ru,⟨rfl,fun ys hy=>by rw[I.list_inj hy hq];exact hx⟩,st',fun b hb=>(hf b hb).1⟩⟩
 done:=by
  intro X hP hw hK hc i pins s σ H E I hf st hg
  subst hP hw hK
  obtain⟨xs,hq,hx⟩:=hg
  obtain⟨its,rv,p,hz⟩:=I.list hq
  obtain⟨f0,f1,f2,f3,f4,f5⟩:=hf it (by simp)
  have hl:=rv.length
  exact wpAny_pyNext_list_end (I.ok.hd hc) st p.isList (by simp;omega) fun h' eb=>⟨rfl,I.turned (t':=s.toks) (fun b o hb e=>eb b o hb e) f0 f1 f3 f4 f5⟩
 self:=fun _ _ _ _ _ st h=>wpAny_pyIter_listiter st h
theorem Ag {P:Program}{w:World}{K:W.Frag}{tg:Expr}(it:Addr) (lo:Int) (n:Nat):Turn P w K tg (Cg lo n) [it] it (fun i h=>IsRangeIter h it (lo+(i:Nat)*1) ((n:Int)-(i:Nat)) 1) where
 mem:=by simp
 obj:=fun i h st b hb=>by
  have e:b=it:=by simpa using hb
  subst e
  exact⟨_,st,fun v z=>by
   have z':Data.fields _=Data.cell v:=z
   cases z'⟩
 keep:=fun i h h' st k=>k it (by simp) _ st
 item:=by
  intro X hP hw hK hc i pins s σ H E I hf st hg
  subst hP hw hK
  obtain⟨f0,f1,f2,f3,f4,f5⟩:=hf it (by simp)
  have W:=Walks.range (prog:=X.prog) (w:=X.w) (I.ok.hd hc) it lo 1 n
  refine W.item i s _ _ hg st fun v h' tk hv st' kk=>?_
  obtain⟨t,rfl⟩:=hv
  have I1:Inv X pins σ H { s with heap:=h',toks:=tk }:=I.turned (fun b o hb e=>kk b o (by simpa using hb) e) f0 f1 f3 f4 f5
  refine⟨_,rfl,Ii (s:={ s with heap:=h',toks:=tk }) (n := "range_iterator") st' rfl rfl (by decide) ⟨.int (lo+i),H,I1,⟨t,?_⟩,⟨rfl,rfl⟩,st',fun b hb=>(hf b hb).1⟩⟩
  rw[Int.mul_one]
 done:=by
  intro X hP hw hK hc i pins s σ H E I hf st hg
  subst hP hw hK
  obtain⟨f0,f1,f2,f3,f4,f5⟩:=hf it (by simp)
  exact wpAny_pyNext_range_end (I.ok.hd hc) st (by have:n<=i:=hg;omega) fun h' eb=>⟨rfl,I.turned (t':=s.toks) (fun b o hb e=>eb b o hb e) f0 f1 f3 f4 f5⟩
 self:=fun _ _ _ _ _ st h=>wpAny_pyIter_rangeiter st h
section
variable {X:Cx}{tg:Expr}
def DC (K:W.Frag) (tl:TE):TI:=fun σ H R=>tl σ H fun x H1=>∃a,x = .ref a/\(∃xs,aW K H1 a xs)/\R (Ao K a) H1
theorem bu {l:Expr}{tl:TE}(hl:PE X l tl):PI X tg l (DC X.K tl):=by
 intro pins s σ H R I h
 refine bX (hl pins s σ H _ I h) fun v s1 ⟨x,H1,I1,r1,q1⟩=>?_
 obtain⟨a,e,⟨xs,hq⟩,q⟩:=q1
 subst e
 cases r1
 obtain⟨its,rv,p,hz⟩:=I1.list hq
 refine wpAny_pyIter_list p.isList ?_
 refine⟨s1.heap.objs.size,[s1.heap.objs.size],_,_,H1,rfl,I1.kept (t':=s1.toks) fun b o e=>UJ _ e,BV a _,⟨_,U4 _ rfl,rfl,rfl⟩,fun b hb=>?_,q⟩
 have e:b=s1.heap.objs.size:=by simpa using hb
 subst e
 exact I1.fpOk (UE _) (I1.hok.fresh (UE _))
theorem wR {pins:List (Addr×Obj)}{σ:St}{H:Hp}{s:Shared}{R:It->Hp->Prop}{E:Value->Shared->Prop}{lo hi:Int}{t u v:Tok}{tk:Nat}(I:Inv X pins σ H s) (h1:-(2^62)<=lo) (h2:lo<2^62) (h3:-(2^62)<=hi) (h4:hi<2^62)
  (q:R (Cg lo (hi-lo).toNat) H):wpAny (model X.prog X.w) X.A (pyIter (.ref s.heap.objs.size)) (Sj X pins σ tg R) E { s with heap:=s.heap.push { cls:=.type "range",data:=.fields #[.int lo t,.int hi u,.int 1 v] },toks:=tk }:=by
 refine wpAny_pyIter_range (IsRange.new ..) (small_one h1 h2 h3 h4) ?_
 have I1:Inv X pins σ H { s with heap:=s.heap.push { cls:=.type "range",data:=.fields #[.int lo t,.int hi u,.int 1 v] },toks:=tk }:=I.kept fun b o e=>UJ _ e
 refine⟨(s.heap.push { cls:=.type "range",data:=.fields #[.int lo t,.int hi u,.int 1 v] }).objs.size,[(s.heap.push { cls:=.type "range",data:=.fields #[.int lo t,.int hi u,.int 1 v] }).objs.size],_,_,H,rfl,
  I1.kept (t':=tk) fun b o e=>UJ _ e,Ag _ lo (hi-lo).toNat,?_,fun b hb=>?_,q⟩
 ·have e1:lo+((0:Nat):Int)*1=lo:=by simp
  have e2:(((hi-lo).toNat:Nat):Int)-((0:Nat):Int)=Builtin.Range.rangeSize lo hi 1:=by rw[rangeSize_one];split <;> omega
  show IsRangeIter _ _ (lo+((0:Nat):Int)*1) ((((hi-lo).toNat:Nat):Int)-((0:Nat):Int)) 1
  rw[e1,e2]
  exact U4 _ rfl
 ·have e:b =(s.heap.push { cls:=.type "range",data:=.fields #[.int lo t,.int hi u,.int 1 v] }).objs.size:=by simpa using hb
  subst e
  exact I1.fpOk (UE _) (I1.hok.fresh (UE _))
def IC (ta:TA):TI:=fun σ H R=>ta σ H fun vs H1=>∃j:Int,vs=[.int j]/\-(2^62)<=j/\j<2^62/\R (Cg 0 j.toNat) H1
def IJ (ta:TA):TI:=fun σ H R=>ta σ H fun vs H1=>∃i j:Int,vs=[.int i,.int j]/\(-(2^62)<=i/\i<2^62/\-(2^62)<=j/\j<2^62)/\R (Cg i (j-i).toNat) H1
theorem cK {a:Expr}{ta:TA}{p pos:Pos}(hg:Gl X "range") (hm:X.mg "range" = none) (ha:PA X [a] ta) (hs:starEach [a] X.env=[(false,eval a X.env)]:=by rfl):PI X tg (.Call (.Name "range" p) [a] [] pos) (IC ta):=by
 intro pins s σ H R I h
 refine Call_ (qP I hg hm boot_range (WJ (bX (ha pos pins s σ H _ I h) fun us s1 ⟨vs,H1,I1,r1,q1⟩=>?_) hs rfl))
 obtain⟨j,e,q1,q2,q⟩:=q1
 subst e
 cases r1 with
 | cons r rr =>
  cases rr
  obtain⟨t,rfl⟩:=r
  exact call_range_1 (wR I1 (by omega) (by omega) q1 q2 (by simpa using q))
theorem Cj {a b:Expr}{ta:TA}{p pos:Pos}(hg:Gl X "range") (hm:X.mg "range" = none) (ha:PA X [a,b] ta) (hs:starEach [a,b] X.env=[(false,eval a X.env),(false,eval b X.env)]:=by rfl) (hs2:starEach [b] X.env=[(false,eval b X.env)]:=by rfl) :
  PI X tg (.Call (.Name "range" p) [a,b] [] pos) (IJ ta):=by
 intro pins s σ H R I h
 refine Call_ (qP I hg hm boot_range (WJ (bX (ha pos pins s σ H _ I h) fun us s1 ⟨vs,H1,I1,r1,q1⟩=>?_) (by rw[hs,hs2]) (by rw[hs2];rfl)))
 obtain⟨i,j,e,⟨q1,q2,q3,q4⟩,q⟩:=q1
 subst e
 cases r1 with
 | cons r rr =>
  cases rr with
  | cons r' rr =>
   cases rr
   obtain⟨t,rfl⟩:=r
   obtain⟨t',rfl⟩:=r'
   exact call_range_2 (wR I1 q1 q2 q3 q4 q)
def N9 (wi:TI) (g:TG) (tb:TS):TS:=fun D σ H=>wi σ H fun J H1=>∃W:Nat->Nat->St->Hp->Prop,(∃m,W 0 m σ H1)/\∀i m σ H,W i m σ H ->
 (J.stop i H/\D.nx σ H) \/(J.go i H/\∃N:St->Hp->Prop,(∀σ' H',N σ' H'->∃m',m'<m/\W (i+1) m' σ' H')/\∀x H',J.yld i H x H'->g x σ H' fun σ2 H2=>tb { D with nx:=N,ct:=N,bk:=D.nx } σ2 H2)
def gU (fp:List Addr) (h:Heap):List (Addr×Obj):=fp.filterMap fun b=>(h.get? b).map fun o=>(b,o)
theorem dJ {fp:List Addr}{h:Heap}{b:Addr}{o:Obj}(hb:b∈fp) (e:h.get? b=some o):(b,o)∈gU fp h:=List.mem_filterMap.mpr ⟨b,hb,by rw[e];rfl⟩
theorem BC {fp:List Addr}{h:Heap}{p:Addr×Obj}(hp:p∈gU fp h):p.1∈fp/\h.get? p.1=some p.2:=by
 obtain⟨b,hb,e⟩:=List.mem_filterMap.mp hp
 cases q:h.get? b with
 | none=>rw[q]at e;cases e
 | some o =>
  rw[q]at e
  have e':(b,o)=p:=US e
  subst e'
  exact⟨hb,q⟩
theorem Inv.pinned {pins:List (Addr×Obj)}{σ:St}{H:Hp}{s:Shared}{fp:List Addr}(I:Inv X pins σ H s) (hf:∀b∈fp,jA X pins H b) (ho:∀b∈fp,∃o,s.heap.get? b=some o/\∀v,o.data ≠ .cell v):Inv X (pins++gU fp s.heap) σ H s :=
 I.pins_of fun p hp=>(UG.mp hp).elim (fun z=>I.pin p (UX _ z)) fun z=>by
  obtain⟨hb,e⟩:=BC z
  obtain⟨f0,f1,f2,_⟩:=hf p.1 hb
  obtain⟨o,e',d⟩:=ho p.1 hb
  rw[e]at e';cases e'
  exact⟨e,f0,f1,f2,d⟩
theorem Inv.unpinned {pins pl:List (Addr×Obj)}{σ:St}{H:Hp}{s:Shared}(I:Inv X (pins++pl) σ H s):Inv X pins σ H s:=I.pins_of fun p hp=>I.pin p (UX _ (Wy _ hp))
theorem eS {iter:Expr}{body:List Stmt}{wi:TI}{g:TG}{tb:TS}{pos:Pos}(hp:PassesOwn (model X.prog X.w) X.A X.env X.xe) (hc:X.calm=true) (hi:PI X tg iter wi) (hg:PG X tg g) (hb:A1 X body tb)
  (hs:∀x,foldedSetIterable iter X.env x=pure x:=by intro _;rfl):PS X (.For tg iter body [] pos) (N9 wi g tb):=by
 intro pins s σ H D I h
 refine wpAny_For (bX (hi pins s σ H _ I h) fun v s1 h1=>bX h1 fun itv s2 h2=>?_) hs
 obtain⟨it,fp,tn,J,H2,e,I2,T,st2,f2,W,⟨m0,w0⟩,turn⟩:=h2
 subst e
 have stat:∀{H':Hp},(∀b∈fp,H' b=none)->∀b∈fp,jA X pins H' b:=fun hn b hb=>⟨hn b hb,(f2 b hb).2⟩
 refine codeAny_forLoop_any (fun n s'=>∃i σ' H',Inv X pins σ' H' s'/\tn i s'.heap/\(∀b∈fp,H' b=none)/\W i n σ' H') ?_ m0 ⟨0,σ,H2,I2,st2,fun b hb=>(f2 b hb).1,w0⟩
 rintro n s3 ⟨i,σ3,H3,I3,st3,fr3,w3⟩
 rcases turn i n σ3 H3 w3 with⟨stop,qn⟩|⟨go,N,hN,step⟩
 ·refine WV hp (bX (T.done X rfl rfl rfl hc i pins s3 σ3 H3 X.xe I3 (stat fr3) st3 stop) fun r s4 ⟨hr,I4⟩=>?_)
  subst hr
  exact wpAny_execs_nil ⟨σ3,H3,I4,qn⟩
 ·refine WV hp (bX (T.item X rfl rfl rfl hc i pins s3 σ3 H3 X.xe I3 (stat fr3) st3 go) fun r s4 ⟨u,hr,h4⟩=>?_)
  subst hr
  refine WV hp (bX h4 fun _ s5 ⟨x,H5,I5,r5,y5,st5,fr5⟩=>?_)
  have I5':=I5.pinned (stat fr5) (T.obj _ _ st5)
  refine WV hp (bX (hg _ s5 σ3 H5 x u _ I5' r5 (step x H5 y5)) fun _ s6 ⟨σ6,H6,I6,q6⟩=>?_)
  refine WV hp (bX (hb _ s6 σ6 H6 _ I6 q6) fun f s7 q7=>?_)
  have again:∀{σ7:St}{H7:Hp},Inv X (pins++gU fp s5.heap) σ7 H7 s7->N σ7 H7->∃m,m<n/\∃i σ' H',Inv X pins σ' H' s7/\tn i s7.heap/\(∀b∈fp,H' b=none)/\W i m σ' H':=fun {σ7 H7} I7 n7=>by
   obtain⟨m',hm,w7⟩:=hN σ7 H7 n7
   refine⟨m',hm,i+1,σ7,H7,I7.unpinned,T.keep _ _ _ st5 fun b hb o e=>(I7.pin (b,o) (UX _ (UX _ (dJ hb e)))).1,fun b hb=>?_,w7⟩
   obtain⟨o,e,d⟩:=T.obj _ _ st5 b hb
   exact(I7.pin (b,o) (UX _ (UX _ (dJ hb e)))).2.1
  cases f with
  | next=>obtain⟨σ7,H7,I7,n7⟩:=q7;exact again I7 n7
  | cont=>obtain⟨σ7,H7,I7,n7⟩:=q7;exact again I7 n7
  | brk=>obtain⟨σ7,H7,I7,q7⟩:=q7;exact⟨σ7,H7,I7.unpinned,q7⟩
  | ret v=>obtain⟨x7,σ7,H7,I7,r7,q7⟩:=q7;exact⟨x7,σ7,H7,I7.unpinned,r7,q7⟩
end
theorem Et {K:W.Frag}{a:Addr}{xs:List V}{g:TG}{tb:TS}{D:Ends}{σ:St}{H:Hp}(Pv:Nat->St->Hp->Prop) (h0:Pv 0 σ H) (hl:∀i σ H,i<=xs.length->Pv i σ H->aW K H a xs)
  (hs:∀i x σ H,xs[i]? = some x->Pv i σ H->g x σ H fun σ2 H2=>tb { D with nx:=Pv (i+1),ct:=Pv (i+1),bk:=D.nx } σ2 H2) (hd:∀σ H,Pv xs.length σ H->D.nx σ H) :
  ∃W:Nat->Nat->St->Hp->Prop,(∃m,W 0 m σ H)/\∀i m σ H,W i m σ H ->
   ((Ao K a).stop i H/\D.nx σ H) \/((Ao K a).go i H/\∃N:St->Hp->Prop,(∀σ' H',N σ' H'->∃m',m'<m/\W (i+1) m' σ' H')/\∀x H',(Ao K a).yld i H x H'->g x σ H' fun σ2 H2=>tb { D with nx:=N,ct:=N,bk:=D.nx } σ2 H2):=by
 refine⟨fun i m σ H=>m=xs.length-i/\i<=xs.length/\Pv i σ H,⟨xs.length,by simp,Vj _,h0⟩,?_⟩
 rintro i m σ H ⟨rfl,hi,p⟩
 have q:=hl i σ H hi p
 by_cases hlt:i<xs.length
 ·refine .inr ⟨⟨xs,xs[i],q,by simp[hlt]⟩,Pv (i+1),fun σ' H' p'=>⟨xs.length-(i+1),by omega,rfl,hlt,p'⟩,fun x H' y=>?_⟩
  obtain⟨e,y⟩:=y
  subst e
  exact hs i x σ _ (y xs q) p
 ·have e:i=xs.length:=by omega
  subst e
  exact .inl ⟨⟨xs,q,UE _⟩,hd σ H p⟩
theorem A9 {lo:Int}{n:Nat}{g:TG}{tb:TS}{D:Ends}{σ:St}{H:Hp}(Pv:Nat->St->Hp->Prop) (h0:Pv 0 σ H)
  (hs:∀i σ H,i<n->Pv i σ H->g (.int (lo+i)) σ H fun σ2 H2=>tb { D with nx:=Pv (i+1),ct:=Pv (i+1),bk:=D.nx } σ2 H2) (hd:∀σ H,Pv n σ H->D.nx σ H) :
  ∃W:Nat->Nat->St->Hp->Prop,(∃m,W 0 m σ H)/\∀i m σ H,W i m σ H ->
   ((Cg lo n).stop i H/\D.nx σ H) \/((Cg lo n).go i H/\∃N:St->Hp->Prop,(∀σ' H',N σ' H'->∃m',m'<m/\W (i+1) m' σ' H')/\∀x H',(Cg lo n).yld i H x H'->g x σ H' fun σ2 H2=>tb { D with nx:=N,ct:=N,bk:=D.nx } σ2 H2):=by
 refine⟨fun i m σ H=>m=n-i/\i<=n/\Pv i σ H,⟨n,by simp,Vj _,h0⟩,?_⟩
 rintro i m σ H ⟨rfl,hi,p⟩
 by_cases hlt:i<n
 ·refine .inr ⟨hlt,Pv (i+1),fun σ' H' p'=>⟨n-(i+1),by omega,rfl,hlt,p'⟩,fun x H' y=>?_⟩
  obtain⟨e,y⟩:=y
  subst e y
  exact hs i σ _ hlt p
 ·have e:i=n:=by omega
  subst e
  exact .inl ⟨UE _,hd σ H p⟩
abbrev R2:=V->V->Hp->VK->Prop
def mS (X:Cx) (f:Value->Value->Sem Value) (r:R2):Prop :=
 ∀(pins:List (Addr×Obj)) (s:Shared) (σ:St) (H:Hp) (x y:V) (v u:Value) (Q:VK),Inv X pins σ H s->RelV x v->RelV y u->r x y H Q ->
  wpAny (model X.prog X.w) X.A (f v u) (EP X pins σ Q) X.xe s
def QC (X:Cx) (f:Value->Sem Value) (r:V->Hp->VK->Prop):Prop :=
 ∀(pins:List (Addr×Obj)) (s:Shared) (σ:St) (H:Hp) (x:V) (v:Value) (Q:VK),Inv X pins σ H s->RelV x v->r x H Q ->
  wpAny (model X.prog X.w) X.A (f v) (EP X pins σ Q) X.xe s
def dc (X:Cx) (f:Value) (r:List V->Hp->VK->Prop):Prop :=
 ∀(pins:List (Addr×Obj)) (s:Shared) (σ:St) (H:Hp) (xs:List V) (us:List Value) (Q:VK),Inv X pins σ H s->Vals xs us->r xs H Q ->
  wpAny (model X.prog X.w) X.A (call f us) (EP X pins σ Q) X.xe s
def Qv (X:Cx) (r:V->Hp->(Bool->Hp->Prop)->Prop):Prop :=
 ∀(pins:List (Addr×Obj)) (s:Shared) (σ:St) (H:Hp) (x:V) (v:Value) (Q:Bool->Hp->Prop),Inv X pins σ H s->RelV x v->r x H Q ->
  wpAny (model X.prog X.w) X.A (truthy v) (TP X pins σ Q) X.xe s
def Of (r:R2) (ta tb:TE):TE:=fun σ H Q=>ta σ H fun x H1=>tb σ H1 fun y H2=>r x y H2 Q
def Sl (r:V->Hp->VK->Prop) (ta:TE):TE:=fun σ H Q=>ta σ H fun x H1=>r x H1 Q
def rI (C:Int->Int->Prop) (g:Int->Int->V):R2:=fun x y H Q=>∃i j,x = .int i/\y = .int j/\C i j/\Q (g i j) H
def Fp (g:Int->Int->V):R2:=fun x y H Q=>∃i j,x = .int i/\y = .int j/\Q (g i j) H
def rU (g:Int->V):V->Hp->VK->Prop:=fun x H Q=>∃i,x = .int i/\Q (g i) H
section
variable {X:Cx}{a b c:Expr}{ta tb tc:TE}{pos:Pos}
theorem Kn (ha:PE X a ta) (hb:PE X b tb) {pins:List (Addr×Obj)}{s:Shared}{σ:St}{H:Hp}{R:V->V->Hp->Prop}(I:Inv X pins σ H s)
  (h:ta σ H fun x H1=>tb σ H1 fun y H2=>R x y H2) {Q:Value->Shared->Prop}{f:Value->Value->Sem Value}
  (hf:∀v u s2 x y H2,Inv X pins σ H2 s2->RelV x v->RelV y u->R x y H2->wpAny (model X.prog X.w) X.A (f v u) Q X.xe s2) :
  wpAny (model X.prog X.w) X.A (eval a X.env) (fun v s₁=>wpAny (model X.prog X.w) X.A (eval b X.env) (fun u s₂=>wpAny (model X.prog X.w) X.A (f v u) Q X.xe s₂) X.xe s₁) X.xe s:=by
 refine bX (ha pins s σ H _ I h) fun v s1 ⟨x,H1,I1,r1,q1⟩=>?_
 refine bX (hb pins s1 σ H1 _ I1 q1) fun u s2 ⟨y,H2,I2,r2,q2⟩=>?_
 exact hf v u s2 x y H2 I2 r1 r2 q2
theorem aJ {op:Operator}{r:R2}(ho:mS X (binaryOp op) r) (ha:PE X a ta) (hb:PE X b tb):PE X (.BinOp a op b pos) (Of r ta tb):=by
 intro pins s σ H Q I h
 exact wpAny_BinOp (Kn ha hb I h fun v u s2 x y H2 I2 rx ry q=>ho pins s2 σ H2 x y v u Q I2 rx ry q)
theorem CW {op:UnaryOp}{r:V->Hp->VK->Prop}(ho:QC X (unaryOp op) r) (ha:PE X a ta):PE X (.UnaryOp op a pos) (Sl r ta):=by
 intro pins s σ H Q I h
 exact UnaryOp_ (bX (ha pins s σ H _ I h) fun v s1 ⟨x,H1,I1,r1,q1⟩=>ho pins s1 σ H1 x v Q I1 r1 q1)
theorem MG {f:Value->Value->Sem Value}{C:Int->Int->Prop}{g:Int->Int->Int}
  (rule:∀(i j:Int) (t u:Tok) (s:Shared) (Q:Value->Shared->Prop) (E:Value->Shared->Prop),C i j->Q (.int (g i j) s.toks) { s with toks:=s.toks+1 }->wpAny (model X.prog X.w) X.A (f (.int i t) (.int j u)) Q E s) :
  mS X f (rI C fun i j=>.int (g i j)):=by
 intro pins s σ H x y v u Q I rx ry h
 obtain⟨i,j,rfl,rfl,hc,q⟩:=h
 obtain⟨t,rfl⟩:=rx
 obtain⟨t',rfl⟩:=ry
 exact rule i j t t' s _ _ hc ⟨.int (g i j),H,I.tok _,⟨_,rfl⟩,q⟩
theorem Mj {f:Value->Value->Sem Value}{g:Int->Int->Int}
  (rule:∀(i j:Int) (t u:Tok) (s:Shared) (Q:Value->Shared->Prop) (E:Value->Shared->Prop),Q (.int (g i j) s.toks) { s with toks:=s.toks+1 }->wpAny (model X.prog X.w) X.A (f (.int i t) (.int j u)) Q E s) :
  mS X f (Fp fun i j=>.int (g i j)):=by
 intro pins s σ H x y v u Q I rx ry h
 obtain⟨i,j,rfl,rfl,q⟩:=h
 obtain⟨t,rfl⟩:=rx
 obtain⟨t',rfl⟩:=ry
 exact rule i j t t' s _ _ ⟨.int (g i j),H,I.tok _,⟨_,rfl⟩,q⟩
theorem GY {f:Value->Value->Sem Value}{g:Int->Int->Bool}
  (rule:∀(i j:Int) (t u:Tok) (s:Shared) (Q:Value->Shared->Prop) (E:Value->Shared->Prop),Q (.bool (g i j)) s->wpAny (model X.prog X.w) X.A (f (.int i t) (.int j u)) Q E s) :
  mS X f (Fp fun i j=>.bl (g i j)):=by
 intro pins s σ H x y v u Q I rx ry h
 obtain⟨i,j,rfl,rfl,q⟩:=h
 obtain⟨t,rfl⟩:=rx
 obtain⟨t',rfl⟩:=ry
 exact rule i j t t' s _ _ ⟨.bl (g i j),H,I,rfl,q⟩
def Lz (i j:Int):Prop:=0<=j/\j<=1000000/\i.natAbs<2^64
def J4 (i j:Int):Prop:=(-(2^64)<i/\i<2^64) \/(-(2^64)<j/\j<2^64)
theorem J4.ok {i j:Int}(h:J4 i j):IntMulOk i j:=by
 rcases h with⟨h1,h2⟩|⟨h1,h2⟩
 ·exact .of_left (intBits_le_64 h1 h2)
 ·exact .of_right (intBits_le_64 h1 h2)
theorem bB:mS X (binaryOp .Add) (Fp fun i j=>.int (i+j)):=Mj fun _ _ _ _ _ _ _ q=>add_int q
theorem iQ:mS X (binaryOp .Sub) (Fp fun i j=>.int (i-j)):=Mj fun _ _ _ _ _ _ _ q=>sub_int q
theorem fQ:mS X (binaryOp .Mult) (rI J4 fun i j=>.int (i*j)):=MG fun _ _ _ _ _ _ _ hc q=>mul_int q hc.ok
theorem cU:mS X (binaryOp .Mod) (rI (fun _ j=>0<j) fun i j=>.int (i%j)):=MG fun i j _ _ _ _ _ hc q=>by
 have h1:(0:Int)<j:=hc
 exact mod_int' (by omega) (by rw[Int.fmod_eq_emod_of_nonneg i (by omega)];exact q)
theorem Ae:mS X (binaryOp .Pow) (rI Lz fun i j=>.int (i^j.toNat)):=MG fun _ _ _ _ _ _ _ hc q=>pow_int_small hc.1 hc.2.1 hc.2.2 q
theorem zx:mS X (binaryOp .LShift) (rI Lz fun i j=>.int (i*2^j.toNat)):=MG fun _ _ _ _ _ _ _ hc q=>lshift_int_small hc.1 hc.2.1 hc.2.2 q
theorem TM {f:Value->Sem Value}{g:Int->Int}
  (rule:∀(i:Int) (t:Tok) (s:Shared) (Q:Value->Shared->Prop) (E:Value->Shared->Prop),Q (.int (g i) s.toks) { s with toks:=s.toks+1 }->wpAny (model X.prog X.w) X.A (f (.int i t)) Q E s) :
  QC X f (rU fun i=>.int (g i)):=by
 intro pins s σ H x v Q I rx h
 obtain⟨i,rfl,q⟩:=h
 obtain⟨t,rfl⟩:=rx
 exact rule i t s _ _ ⟨.int (g i),H,I.tok _,⟨_,rfl⟩,q⟩
theorem zF:QC X (unaryOp .USub) (rU fun i=>.int (-i)):=TM fun _ _ _ _ _ q=>neg_int q
end
def OL:V->V->Bool
 | .non,.non=>true | .non,.int _=>true | .int _,.non=>true | .non,.bl _=>true | .bl _,.non=>true | .non,.str _=>true | .str _,.non=>true
 | .int _,.int _=>true | .bl _,.bl _=>true | .str _,.str _=>true | .byt _,.byt _=>true
 | .int _,.str _=>true | .str _,.int _=>true | .bl _,.str _=>true | .str _,.bl _=>true
 | _,_=>false
def SD:R2:=fun x y H Q=>OL x y=true/\Q (.bl (decide (x=y))) H
def Sk:R2:=fun x y H Q=>OL x y=true/\Q (.bl (!decide (x=y))) H
theorem AQ {i j:Int}:decide (V.int i=V.int j) =(i == j):=by
 rw[WG]
 simp
theorem DF {i j:Bool}:decide (V.bl i=V.bl j) =(i == j):=by
 rw[WG]
 simp
theorem AU {i j:Str}:decide (V.str i=V.str j) =(i == j):=by
 rw[WG]
 simp
theorem Aq {i j:Array UInt8}:decide (V.byt i=V.byt j) =(i.toList == j.toList):=by
 rw[WG]
 cases i
 cases j
 simp
section
variable {X:Cx}{a b c:Expr}{ta tb tc:TE}{pos:Pos}
theorem bH {pins:List (Addr×Obj)}{σ:St}{H:Hp}{s:Shared}{Q:VK}{k k':Bool}(I:Inv X pins σ H s) (q:Q (.bl k) H) (e:k=k'):EP X pins σ Q (.bool k') s:=by
 subst e
 exact⟨.bl k,H,I,rfl,q⟩
theorem dF:mS X (compareOp .Eq) SD:=by
 intro pins s σ H x y v u Q I rx ry h
 obtain⟨hs,q⟩:=h
 cases x with
 | non =>
  cases rx
  cases y with
  | non=>cases ry;exact PySem.EqNone.eq_none_none (bH I q (by simp))
  | bl j=>cases ry;exact PySem.EqNone.eq_none_bool (bH I q (by simp))
  | int j=>obtain⟨t',rfl⟩:=ry;exact PySem.EqNone.eq_none_int (bH I q (by simp))
  | str j=>obtain⟨t',rfl⟩:=ry;exact PySem.EqNone.eq_none_str (bH I q (by simp))
  | _=>exact absurd (show false=true from hs) U0
 | bl i =>
  cases rx
  cases y with
  | non=>cases ry;exact PySem.EqNone.eq_bool_none (bH I q (by simp))
  | bl j=>cases ry;exact eq_bool (bH I q DF)
  | str j=>obtain⟨t',rfl⟩:=ry;exact PySem.EqMixed.eq_bool_str (bH I q (by simp))
  | _=>exact absurd (show false=true from hs) U0
 | int i =>
  obtain⟨t,rfl⟩:=rx
  cases y with
  | non=>cases ry;exact PySem.EqNone.eq_int_none (bH I q (by simp))
  | int j=>obtain⟨t',rfl⟩:=ry;exact eq_int (bH I q AQ)
  | str j=>obtain⟨t',rfl⟩:=ry;exact PySem.EqMixed.eq_int_str (bH I q (by simp))
  | _=>exact absurd (show false=true from hs) U0
 | str i =>
  obtain⟨t,rfl⟩:=rx
  cases y with
  | non=>cases ry;exact PySem.EqNone.eq_str_none (bH I q (by simp))
  | bl j=>cases ry;exact PySem.EqMixed.eq_str_bool (bH I q (by simp))
  | int j=>obtain⟨t',rfl⟩:=ry;exact PySem.EqMixed.eq_str_int (bH I q (by simp))
  | str j=>obtain⟨t',rfl⟩:=ry;exact eq_str (bH I q AU)
  | _=>exact absurd (show false=true from hs) U0
 | byt i =>
  obtain⟨t,rfl⟩:=rx
  cases y with
  | byt j=>obtain⟨t',rfl⟩:=ry;exact PySem.W.eq_bytes (bH I q Aq)
  | _=>exact absurd (show false=true from hs) U0
 | _=>cases y <;> exact absurd (show false=true from hs) U0
theorem PK:mS X (compareOp .NotEq) Sk:=by
 intro pins s σ H x y v u Q I rx ry h
 obtain⟨hs,q⟩:=h
 cases x with
 | non =>
  cases rx
  cases y with
  | non=>cases ry;exact PySem.EqNone.ne_none_none (bH I q (by simp))
  | bl j=>cases ry;exact PySem.EqNone.ne_none_bool (bH I q (by simp))
  | int j=>obtain⟨t',rfl⟩:=ry;exact PySem.EqNone.ne_none_int (bH I q (by simp))
  | str j=>obtain⟨t',rfl⟩:=ry;exact PySem.EqNone.ne_none_str (bH I q (by simp))
  | _=>exact absurd (show false=true from hs) U0
 | bl i =>
  cases rx
  cases y with
  | non=>cases ry;exact PySem.EqNone.ne_bool_none (bH I q (by simp))
  | bl j=>cases ry;exact ne_bool (bH I q (Vk not DF))
  | str j=>obtain⟨t',rfl⟩:=ry;exact PySem.EqMixed.ne_bool_str (bH I q (by simp))
  | _=>exact absurd (show false=true from hs) U0
 | int i =>
  obtain⟨t,rfl⟩:=rx
  cases y with
  | non=>cases ry;exact PySem.EqNone.ne_int_none (bH I q (by simp))
  | int j=>obtain⟨t',rfl⟩:=ry;exact ne_int (bH I q (Vk not AQ))
  | str j=>obtain⟨t',rfl⟩:=ry;exact PySem.EqMixed.ne_int_str (bH I q (by simp))
  | _=>exact absurd (show false=true from hs) U0
 | str i =>
  obtain⟨t,rfl⟩:=rx
  cases y with
  | non=>cases ry;exact PySem.EqNone.ne_str_none (bH I q (by simp))
  | bl j=>cases ry;exact PySem.EqMixed.ne_str_bool (bH I q (by simp))
  | int j=>obtain⟨t',rfl⟩:=ry;exact PySem.EqMixed.ne_str_int (bH I q (by simp))
  | str j=>obtain⟨t',rfl⟩:=ry;exact ne_str (bH I q (Vk not AU))
  | _=>exact absurd (show false=true from hs) U0
 | byt i =>
  obtain⟨t,rfl⟩:=rx
  cases y with
  | byt j=>obtain⟨t',rfl⟩:=ry;exact PySem.W.ne_bytes (bH I q (Vk not Aq))
  | _=>exact absurd (show false=true from hs) U0
 | _=>cases y <;> exact absurd (show false=true from hs) U0
theorem qb:mS X (compareOp .Lt) (Fp fun i j=>.bl (decide (i<j))):=GY fun _ _ _ _ _ _ _ q=>lt_int q
theorem MV:mS X (compareOp .LtE) (Fp fun i j=>.bl (decide (i<=j))):=GY fun _ _ _ _ _ _ _ q=>le_int q
theorem xR:mS X (compareOp .Gt) (Fp fun i j=>.bl (decide (j<i))):=GY fun _ _ _ _ _ _ _ q=>gt_int q
theorem yo:mS X (compareOp .GtE) (Fp fun i j=>.bl (decide (j<=i))):=GY fun _ _ _ _ _ _ _ q=>ge_int q
theorem Jj:mS X (compareOp .Is) (fun x y H Q=>y = .non/\Q (.bl (decide (x = .non))) H):=by
 intro pins s σ H x y v u Q I rx ry h
 obtain⟨rfl,q⟩:=h
 cases ry
 refine is_none_gen (bH I q ?_)
 cases x <;> first
  | (cases rx;rfl)
  | (obtain⟨t,rfl⟩:=rx;rfl)
theorem Fi:mS X (compareOp .IsNot) (fun x y H Q=>y = .non/\Q (.bl (!decide (x = .non))) H):=by
 intro pins s σ H x y v u Q I rx ry h
 obtain⟨rfl,q⟩:=h
 cases ry
 refine isnot_none_gen (bH I q ?_)
 cases x <;> first
  | (cases rx;rfl)
  | (obtain⟨t,rfl⟩:=rx;rfl)
theorem aU (b:Expr) {op:CmpOp}(h:op ≠ .In:=by decide) (h2:op ≠ .NotIn:=by decide):behindInMarks op b=false:=by
 have e1:(op == CmpOp.In)=false:=by cases op <;> first|rfl|exact absurd rfl h
 have e2:(op == CmpOp.NotIn)=false:=by cases op <;> first|rfl|exact absurd rfl h2
 cases b <;> simp[behindInMarks,e1,e2]
theorem vf {op:CmpOp}{r:R2}(ho:mS X (compareOp op) r) (ha:PE X a ta) (hb:PE X b tb) (hm:behindInMarks op b=false):PE X (.Compare a [op] [b] pos) (Of r ta tb):=by
 intro pins s σ H Q I h
 exact wpAny_Compare1 (Kn ha hb I h fun v u s2 x y H2 I2 rx ry q=>ho pins s2 σ H2 x y v u Q I2 rx ry q) hm
def Cr (t:TE):TT:=fun σ H Q=>t σ H fun x H'=>∃k,x = .bl k/\Q k H'
theorem aL {op:CmpOp}{r:R2}(ho:mS X (compareOp op) r) (ha:PE X a ta) (hb:PE X b tb) (hm:behindInMarks op b=false):PT X (.Compare a [op] [b] pos) (Cr (Of r ta tb)):=by
 intro pins s σ H Q I h
 refine wpAny_isTrue_Compare1 (bX (ha pins s σ H _ I h) fun v s1 ⟨x,H1,I1,r1,q1⟩=>bX (hb pins s1 σ H1 _ I1 q1) fun u s2 ⟨y,H2,I2,r2,q2⟩ =>
  bX (ho pins s2 σ H2 x y v u _ I2 r1 r2 q2) fun c s3 ⟨z,H3,I3,r3,k,e,q3⟩=>?_) hm
 subst e
 cases r3
 exact WW ⟨H3,I3,q3⟩
def EN (r r':R2) (ta tb tc:TE):TE:=fun σ H Q=>ta σ H fun x H1=>tb σ H1 fun y H2=>r x y H2 fun z H3=>∃k,z = .bl k /\
 (if k=true then tc σ H3 fun w' H4=>r' y w' H4 Q else Q (.bl false) H3)
theorem CQ {op op':CmpOp}{r r':R2}(ho:mS X (compareOp op) r) (ho':mS X (compareOp op') r') (ha:PE X a ta) (hb:PE X b tb) (hc:PE X c tc)
  (hm:lastMarks [op,op'] [b,c]=false:=by with_unfolding_all rfl):PT X (.Compare a [op,op'] [b,c] pos) (Cr (EN r r' ta tb tc)):=by
 intro pins s σ H Q I h
 refine isTrue_chain (bX (ha pins s σ H _ I h) fun v s1 ⟨x,H1,I1,r1,q1⟩=>test_link (bX (hb pins s1 σ H1 _ I1 q1) fun u s2 ⟨y,H2,I2,r2,q2⟩ =>
  bX (ho pins s2 σ H2 x y v u _ I2 r1 r2 q2) fun d s3 ⟨z,H3,I3,r3,k,e,q3⟩=>?_)) hm
 subst e
 cases r3
 refine WW ?_
 cases k with
 | false =>
  obtain⟨k',e',q'⟩:=q3
  cases e'
  exact ite_ff ⟨H3,I3,q'⟩
 | true =>
  refine ite_tt (test_last (bX (hc pins s3 σ H3 _ I3 q3) fun w' s4 ⟨z',H4,I4,r4,q4⟩=>bX (ho' pins s4 σ H4 y z' u w' _ I4 r2 r4 q4) fun d' s5 ⟨z2,H5,I5,r5,k2,e2,q5⟩=>?_))
  subst e2
  cases r5
  exact WW ⟨H5,I5,q5⟩
def JJ (K:W.Frag) (x:V) (H:Hp) (k:Bool):Prop :=
 match x with
 | .non=>k=false
 | .bl b=>k=b
 | .int i=>k =(i != 0)
 | .str y=>y.length<=sizeLine/\k =((y.length:Int) != 0)
 | .byt y=>y.size<=sizeLine/\k =((y.size:Int) != 0)
 | .ref p=>(∃xs,aW K H p xs/\k = !xs.isEmpty) \/(∃xs,iM K H p xs/\k = !xs.isEmpty) \/ ∃kvs,H p=some (.dK kvs)/\k = !kvs.isEmpty
 | _=>False
theorem zE {κ:Type}{kvs:List (κ×V)}{vs:List (κ×Value)}(r:KV kvs vs):(!vs.isEmpty) = !kvs.isEmpty:=by
 cases r <;> rfl
theorem qO {xs:List V}{its:List Value}(r:Vals xs its):(!its.toArray.isEmpty) = !xs.isEmpty:=by
 cases r <;> simp
theorem kO:(sizeLine:Nat)<2^63:=by rw[sizeLine_eq];decide
theorem Js:Qv X (fun x H Q=>∃k,JJ X.K x H k/\Q k H):=by
 intro pins s σ H x v Q I rx h
 obtain⟨k,e,q⟩:=h
 have hl:=kO
 have hs:sizeLine=16777216:=sizeLine_eq
 cases x with
 | non =>
  cases rx
  have e':k=false:=e
  subst e'
  exact truthy_none ⟨H,I,q⟩
 | bl b =>
  cases rx
  have e':k=b:=e
  subst e'
  exact WW ⟨H,I,q⟩
 | int i =>
  obtain⟨t,rfl⟩:=rx
  have e':k =(i != 0):=e
  subst e'
  exact PySem.P.truthy_int ⟨H,I,q⟩
 | str y =>
  obtain⟨t,rfl⟩:=rx
  obtain⟨hy,e'⟩ : y.length<=sizeLine/\k =((y.length:Int) != 0):=e
  subst e'
  exact PySem.P.truthy_str (by omega) ⟨H,I.tok _,q⟩
 | byt y =>
  obtain⟨t,rfl⟩:=rx
  obtain⟨hy,e'⟩ : y.size<=sizeLine/\k =((y.size:Int) != 0):=e
  subst e'
  exact PySem.W.truthy_bytes (by omega) ⟨H,I.tok _,q⟩
 | ref p =>
  cases rx
  have e':(∃xs,aW X.K H p xs/\k = !xs.isEmpty) \/(∃xs,iM X.K H p xs/\k = !xs.isEmpty) \/ ∃kvs,H p=some (.dK kvs)/\k = !kvs.isEmpty:=e
  rcases e' with⟨xs,hx,e'⟩|⟨xs,hx,e'⟩|⟨kvs,hx,e'⟩
  ·subst e'
   obtain⟨its,r,pl,hz⟩:=I.list hx
   have hlen:=r.length
   exact wpAny_truthy_list pl.isList (by simp only[List.size_toArray];omega) ⟨H,I.tok _,by rw[qO r];exact q⟩
  ·subst e'
   obtain⟨its,r,pl,hz⟩:=I.tuple hx
   have hlen:=r.length
   exact truthy_tuple pl (by simp only[List.size_toArray];omega) ⟨H,I.tok _,by rw[qO r];exact q⟩
  ·subst e'
   obtain⟨hz,hS,vs,r,m⟩ : kvs.length<=sizeLine/\(p == sysModules)=false/\∃vs,KV kvs vs/\s.heap.DictOf (bO X.prog X.w) p vs:=I.hok p _ hx
   have hlen:kvs.length=vs.length:=XR r
   exact wpAny_truthy_dict hS m (by omega) ⟨H,I.tok _,by rw[zE r];exact q⟩
 | _=>exact(show False from e).elim
theorem xW (ha:PE X a ta) (he:∀whole,isTrue a X.env whole =(do let v <- whole;standAt a.pos;holding [v] (truthy v))) :
  PT X a (fun σ H Q=>ta σ H fun x H'=>∃k,JJ X.K x H' k/\Q k H'):=by
 intro pins s σ H Q I h
 exact isTrue_plain (bX (ha pins s σ H _ I h) fun v s1 ⟨x,H1,I1,r1,q1⟩=>Js pins s1 σ H1 x v Q I1 r1 q1) (he _)
theorem vals1 {x:V}{us:List Value}(r:Vals [x] us):∃u,us=[u]/\RelV x u:=by
 cases r with
 | cons r1 r2=>cases r2;exact⟨_,rfl,r1⟩
theorem vals2 {x y:V}{us:List Value}(r:Vals [x,y] us):∃u w',us=[u,w']/\RelV x u/\RelV y w':=by
 cases r with
 | cons r1 r2 =>
  cases r2 with
  | cons r3 r4=>cases r4;exact⟨_,_,rfl,r1,r3⟩
theorem DE:dc X (.builtin "abs") (fun xs H Q=>∃i,xs=[.int i]/\Q (.int (if i<0 then -i else i)) H):=by
 intro pins s σ H xs us Q I r h
 obtain⟨i,rfl,q⟩:=h
 obtain⟨u,rfl,t,rfl⟩:=vals1 r
 exact call_abs_int fun u tk=>⟨.int (if i<0 then -i else i),H,I.tok _,⟨_,rfl⟩,q⟩
theorem A_ (hc:X.calm=true):dc X (.builtin "max") (fun xs H Q=>∃i j,xs=[.int i,.int j]/\Q (.int (if j > i then j else i)) H):=by
 intro pins s σ H xs us Q I r h
 obtain⟨i,j,rfl,q⟩:=h
 obtain⟨u,w',rfl,⟨t,rfl⟩,⟨t',rfl⟩⟩:=vals2 r
 refine max_two_ints (I.ok.hd hc) fun h' tk k=>⟨_,H,I.kept k,?_,q⟩
 by_cases hj:j > i
 ·rw[UN hj,UN hj];exact⟨_,rfl⟩
 ·rw[UM hj,UM hj];exact⟨_,rfl⟩
theorem BR (hc:X.calm=true):dc X (.builtin "min") (fun xs H Q=>∃i j,xs=[.int i,.int j]/\Q (.int (if j<i then j else i)) H):=by
 intro pins s σ H xs us Q I r h
 obtain⟨i,j,rfl,q⟩:=h
 obtain⟨u,w',rfl,⟨t,rfl⟩,⟨t',rfl⟩⟩:=vals2 r
 refine min_two_ints (I.ok.hd hc) fun h' tk k=>⟨_,H,I.kept k,?_,q⟩
 by_cases hj:j<i
 ·rw[UN hj,UN hj];exact⟨_,rfl⟩
 ·rw[UM hj,UM hj];exact⟨_,rfl⟩
theorem Bh:dc X (.type "int") (fun xs H Q=>(∃i,xs=[.int i]/\Q (.int i) H) \/ ∃k,xs=[.bl k]/\Q (.int (if k then 1 else 0)) H):=by
 intro pins s σ H xs us Q I r h
 rcases h with⟨i,rfl,q⟩|⟨k,rfl,q⟩
 ·obtain⟨u,rfl,t,rfl⟩:=vals1 r
  exact call_int_int ⟨.int i,H,I,⟨_,rfl⟩,q⟩
 ·obtain⟨u,rfl,r1⟩:=vals1 r
  cases r1
  exact call_int_bool ⟨.int (if k then 1 else 0),H,I.tok _,⟨_,rfl⟩,q⟩
end
theorem nJ.some_of {v:V}{o:Option Value}(r:nJ (some v) o):∃u,o=some u/\RelV v u:=by
 cases o with
 | none=>exact(show False from r).elim
 | some u=>exact⟨u,rfl,r⟩
structure TN (K:W.Frag) (C:Addr):Prop where
 pg:PySem.W.plainGet K C Str.empty=true
 hd:PySem.W.hasDictIn K C=true
 po:PySem.W.plainOver K C=true
 sa:W.findIn K (.ref C) "__setattr__" = some (some (.builtin "object.__setattr__"))
section
variable {X:Cx}{pins:List (Addr×Obj)}{σ:St}{H:Hp}{s:Shared}{A:Around}{E:Value->Shared->Prop}{Q:Value->Shared->Prop}{c:Value}{b:Bool}
inductive p9 (K:W.Frag) (H:Hp):V->Value->Prop where
 | non:p9 K H .non (.type "NoneType")
 | bl (x:Bool):p9 K H (.bl x) (.type "bool")
 | int (i:Int):p9 K H (.int i) (.type "int")
 | str (x:Str):p9 K H (.str x) (.type "str")
 | flt (x:UInt64):p9 K H (.flt x) (.type "float")
 | lst {a:Addr}{xs:List V}(e:H a=some (.lst xs)):p9 K H (.ref a) (.type "list")
 | frz {a:Addr}{o:Obj}{xs:List V}(e:H a=some (.frz o (.lst xs))):p9 K H (.ref a) (.type "list")
 | tup {a:Addr}{xs:List V}(e:H a=some (.tup xs)):p9 K H (.ref a) (.type "tuple")
 | dK {a:Addr}{kvs:List (Key×V)}(e:H a=some (.dK kvs)):p9 K H (.ref a) (.type "dict")
 | dT {a:Addr}{kvs:List (List Key×V)}(e:H a=some (.dT kvs)):p9 K H (.ref a) (.type "dict")
 | ins {a C dx:Addr}{fs:List (Str×V)}(e:H a=some (.ins C dx fs)) (cl:TN K C) (ha:W.findIn K (.ref C) "__class__" = some (some (.builtin "object.__class__")))
   (hn:PySem.W.specialIn K (.builtin "object.__class__") "__get__" = some (some (.builtin "getset_descriptor.__get__"))) (htk:PySem.W.takesIn K (.builtin "object.__class__")=some true)
   (hm:W.mroIn K C (.type "object")=some true):p9 K H (.ref a) (.ref C)
end
structure gR (k:Nat) (A:Around):Prop where
 hd:A.handled=none
 dp:A.depth+3*k+5<recursionLimit
 un:A.units+16*k+200<cLine
 gd:A.guards=some []
theorem gR.mono {j k:Nat}{A:Around}(r:gR k A) (h:j<=k):gR j A:=⟨r.hd,by have:=r.dp;omega,by have:=r.un;omega,r.gd⟩
theorem gR.mo{j k:Nat}{A:Around}(h:gR k A)(l:j<=k:=by decide):gR j A:=h.mono l
theorem rR {A:Around}{env:Env}(h:A.guards=some []):(A.deeper env).guards=some []:=by
 first|exact h|simp[Around.deeper,Around.under,Code.guards,Code.isGuard,pushGuards,h]
theorem gR.deeper {k:Nat}{A:Around}(r:gR (k+1) A) (env:Env):gR k (A.deeper env) :=
 ⟨r.hd,by have:=r.dp;show A.depth+1+3*k+5<_;omega,by have:=r.un;show A.units+3+16*k+200<_;omega,rR r.gd⟩
theorem gR.depth {k:Nat}{A:Around}(r:gR k A):A.depth<recursionLimit:=by have:=r.dp;omega
theorem gR.units {k:Nat}{A:Around}(r:gR k A):A.units+64<cLine:=by have:=r.un;omega
def NN:TA:=fun _ H Q=>Q [] H
def Io (ta:TE) (tr:TA):TA:=fun σ H Q=>ta σ H fun x H1=>tr σ H1 fun xs H2=>Q (x::xs) H2
section
variable {X:Cx}{e:Expr}{es:List Expr}{te:TE}{t:TA}{pos:Pos}
theorem ah:PA X [] NN:=fun _ _ _ _ H Q I h=>Calls.spliced_nil ⟨[],H,I,.nil,h⟩
theorem aa (ha:PE X e te) (hr:PA X es t) (hs:starEach (e::es) X.env =(false,eval e X.env)::starEach es X.env:=by rfl):PA X (e::es) (Io te t):=by
 intro pos pins s σ H Q I h
 rw[hs]
 show wpAny _ _ (spliced ((false,eval e X.env)::backTo pos (starEach es X.env))) _ _ s
 refine Calls.spliced_cons (bX (ha pins s σ H _ I h) fun u s1 ⟨x,H1,I1,r1,q1⟩=>?_)
 exact bX (hr pos pins s1 σ H1 _ I1 q1) fun us s2 ⟨xs,H2,I2,r2,q2⟩=>⟨x::xs,H2,I2,.cons r1 r2,q2⟩
def OV (t:TA):TE:=fun σ H Q=>t σ H fun xs H1=>xs.length<=sizeLine/\∀p,H1 p=none->Q (.ref p) (upd H1 p (.tup xs))
def Pe (t:TA):TE:=fun σ H Q=>t σ H fun xs H1=>xs.length<=sizeLine/\∀p,H1 p=none->Q (.ref p) (upd H1 p (.lst xs))
theorem bW {x1}(h:PA X es t):PE X (.Tuple es x1 pos) (OV t):=by
 intro pins s σ H Q I hq
 refine wpAny_Tuple_spliced (bX (h pos pins s σ H _ I hq) fun us s1 ⟨xs,H1,I1,r,z,q⟩=>⟨by rw[<- r.length];exact z,?_⟩)
 have hf:H1 s1.heap.objs.size=none:=I1.hok.fresh (UE _)
 refine⟨.ref s1.heap.objs.size,upd H1 s1.heap.objs.size (.tup xs),I1.laid (t':=s1.toks) (fun b u e=>UJ _ e) (UE _) ?_,rfl,q _ hf⟩
 exact⟨z,us,r,⟨_,U4 _ rfl,rfl,_,rfl⟩⟩
theorem cy (h:PA X es t):PE X (.List es pos) (Pe t):=by
 intro pins s σ H Q I hq
 refine wpAny_List_spliced (bX (h pos pins s σ H _ I hq) fun us s1 ⟨xs,H1,I1,r,z,q⟩=>⟨by rw[<- r.length];exact z,?_⟩)
 have hf:H1 s1.heap.objs.size=none:=I1.hok.fresh (UE _)
 refine⟨.ref s1.heap.objs.size,upd H1 s1.heap.objs.size (.lst xs),I1.laid (t':=s1.toks) (fun b u e=>UJ _ e) (UE _) ?_,rfl,q _ hf⟩
 exact⟨z,us,0,r,U4 _ rfl⟩
end
abbrev Sp:=List V->Hp->VK->XK->Prop
abbrev EZ:=List Env->Hp->Shared->XK->Value->Shared->Prop
structure Gs (P:Program) (w:World) (K:W.Frag) (mg:Str->Option Value) (base:Heap) (A:Around) (outer:List Env) (s:Shared) (H:Hp):Prop where
 frames:A.frames=some outer
 mod:Mod K mg base
 bs:∀b o,base.get? b=some o->s.heap.get? b=some o/\H b=none
 bsz:base.objs.size<=s.heap.objs.size
 funs:s.heap.FunFrames base outer
 frf:∀b∈frs outer,H b=none
 hok:mT P w H s.heap
 bare:AllBare s.gens
def CE (outer:List Env) (P:Program) (w:World) (H:Hp) (s:Shared) (Q:VK) (u:Value) (s':Shared):Prop :=
 ∃v H',s'.os=s.os/\AllBare s'.gens/\Un (frs outer) [] H H' s.heap s'.heap/\mT P w H' s'.heap/\RelV v u/\Q v H'
def CR (CX:EZ) (outer:List Env) (P:Program) (w:World) (H:Hp) (s:Shared) (Q:VK) (E:XK) (r:Result) (s':Shared):Prop :=
 match r with
 | .ok (.ret u)=>CE outer P w H s Q u s'
 | .ok _=>False
 | .error e=>CX outer H s E e s'
structure sP (P:Program) (w:World) (K:W.Frag) (mg:Str->Option Value) (base:Heap) (CX:EZ) (k:Nat) (f:Addr) (fd:FuncData) (ps:List Str) (sp:Sp):Prop where
 len:∀vs H Q E,sp vs H Q E->vs.length=ps.length
 run:∀(A:Around) (outer:List Env) (s:Shared) (H:Hp) (args:Args) (us:List Value) (vs:List V) (Q:VK) (E:XK),gR k A->Gs P w K mg base A outer s H->BindsTo s fd args (ps.zip us)->Vals vs us->sp vs H Q E ->
  codeAny (model P w) A (.call (.ref f) args) (CR CX outer P w H s Q E) s
section
variable {X:Cx}{pins:List (Addr×Obj)}{σ:St}{H:Hp}{s s':Shared}
theorem Inv.env0 (I:Inv X pins σ H s):Gs X.prog X.w X.K X.mg X.base X.A X.stack s H :=
 ⟨I.ok.frames,I.ok.mod,I.bs,UP I.ok.bsz I.sz,I.stack,I.stkFree,I.hok,I.bare⟩
theorem Inv.after {Q:VK}{u:Value}(I:Inv X pins σ H s) (h:CE X.stack X.prog X.w H s Q u s'):EP X pins σ Q u s':=by
 obtain⟨v,H',os,bare,un,hok,r,q⟩:=h
 obtain⟨hh,g,d,t,os'⟩:=s'
 obtain rfl:os'=s.os:=os
 exact⟨v,H',I.call (h':=hh) (g':=g) (d':=d) (t':=t) (ch:=[]) un hok bare (fun b z=>absurd z (by simp)),r,q⟩
end
def EC (sp:Sp) (dvs:List V) (E:XK) (t:TA):TE:=fun σ H Q=>t σ H fun vs H1=>sp (vs++dvs) H1 Q E
def Binds (K:W.Frag) (fd:FuncData) (ps:List Str) (ds:List Value):Prop :=
 ∀(s:Shared) (us:List Value),K.In s.heap->(us++ds).length=ps.length->BindsTo s fd ⟨us,[]⟩ (ps.zip (us++ds))
theorem Binds.all {K:W.Frag}{fd:FuncData}{ps:List Str}(h:∀us:List Value,us.length=ps.length->bindArgs fd ⟨us,[]⟩=pure (ps.zip us)):Binds K fd ps []:=fun s us _ hl=>by
 rw[U7]at hl ⊢
 exact .of_eq (h us hl)
def Passes (CX:EZ) (X:Cx) (E:XK):Prop:=∀(pins:List (Addr×Obj)) (σ:St) (H:Hp) (s:Shared) (e:Value) (s':Shared),Inv X pins σ H s->CX X.stack H s E e s'->X.xe e s'
section
variable {X:Cx}{CX:EZ}{k:Nat}{f C:Addr}{fd:FuncData}{ps:List Str}{sp:Sp}{dvs:List V}{ds:List Value}{E:XK}{x m:Str}{p pos apos:Pos}{e o:Expr}{es:List Expr}{ta:TE}{t:TA}
theorem Jv {pins:List (Addr×Obj)}{σ:St}{H:Hp}{s:Shared}{Q:VK}{us:List Value}{vs:List V}(F:sP X.prog X.w X.K X.mg X.base CX k f fd ps sp) (hr:gR k X.A) (hb:Binds X.K fd ps ds) (hd:Vals dvs ds) (hx:Passes CX X E)
  (I:Inv X pins σ H s) (r:Vals vs us) (h:sp (vs++dvs) H Q E):wpAny (model X.prog X.w) X.A (call (.ref f) us) (EP X pins σ Q) X.xe s:=by
 have r2:Vals (vs++dvs) (us++ds):=r.append hd
 have hl:(us++ds).length=ps.length:=by rw[<- r2.length];exact F.len _ _ _ _ h
 refine wpAny_call (XD (F.run X.A X.stack s H ⟨us,[]⟩ (us++ds) (vs++dvs) Q E hr I.env0 (hb s us I.kIn hl) r2 h) fun r s' hq=>?_)
 cases r with
 | error e=>exact hx pins σ H s e s' I hq
 | ok fl =>
  cases fl with
  | ret u=>exact I.after hq
  | next=>exact False.elim hq
  | brk=>exact False.elim hq
  | cont=>exact False.elim hq
theorem Ht (F:sP X.prog X.w X.K X.mg X.base CX k f fd ps sp) (hr:gR k X.A) (hg:Gl X x) (hm:X.mg x=some (.ref f)) (hk:W.keepIn X.K (.ref f)=true) (hb:Binds X.K fd ps ds) (hd:Vals dvs ds) (hx:Passes CX X E)
  (ha:PA X (e::es) t) (hdb:(x ==("__debug__" : Str))=false:=by decide) (he:starEach (e::es) X.env =(false,eval e X.env)::starEach es X.env:=by rfl) (hpl:(backTo pos (starEach es X.env)).any (·.1)=false:=by rfl) :
  PE X (.Call (.Name x p) (e::es) [] pos) (EC sp dvs E t):=by
 intro pins s σ H Q I h
 refine wpAny_Call_Name_kw (FY I hg hm ?_ hdb)
 refine PySem.W.callWith_K (h₀:=X.base) I.ok.mod.kin hk (bX (ha pos pins s σ H _ I h) fun us s1 ⟨vs,H1,I1,r,q⟩=>⟨I1.kIn,?_⟩) he hpl
 exact Jv F hr hb hd hx I1 r q
end
structure aP (N P:List Str) (sc:Scope):Prop where
 kind:sc.kind = .function
 co:sc.isCoroutine=false
 gen:sc.isGenerator=false
 nd:N.Nodup
 pre:N.take P.length=P
 par:∀x∈P,sc.names.lookup x=some .local\/sc.names.lookup x=some .cell
 nofree:∀y∈sc.names,y.2 ≠ .free
theorem tL {kindOf:Str->Option NameKind}{x:Str}:∀{binds:List (Str×Value)}{m:Str->Option Value},(∀v,(x,v)∉binds)->bindL kindOf binds m x=m x
 | [],_,_=>rfl
 | (n,v)::r,m,h=>by
  unfold bindL
  rw[tL fun w hw=>h w (UK _ hw)]
  split
  ·have:x≠n:=by rintro rfl;exact h v UQ
   simp[this]
  ·rfl
theorem sV {kindOf:Str->Option NameKind}{x:Str}:∀{binds:List (Str×Value)}{m:Str->Option Value},(∀v,(x,v)∉binds)->bindC kindOf binds m x=m x
 | [],_,_=>rfl
 | (n,v)::r,m,h=>by
  unfold bindC
  rw[sV fun w hw=>h w (UK _ hw)]
  split
  ·rfl
  ·have:x≠n:=by rintro rfl;exact h v UQ
   simp[this]
theorem sX {kindOf:Str->Option NameKind}{x:Str}{v:Value}:∀{P:List Str}{vs:List Value}{i:Nat}{m:Str->Option Value},P.Nodup->P[i]? = some x->vs[i]? = some v->kindOf x=some .local ->
  bindL kindOf (P.zip vs) m x=some v
 | [],_,_,_,_,h,_,_=>by simp at h
 | _::_,[],_,_,_,_,h,_=>by simp at h
 | p::P,w::vs,0,m,nd,h1,h2,hk=>by
  simp at h1 h2;subst h1;subst h2
  show bindL kindOf ((p,w)::P.zip vs) m p=_
  unfold bindL
  rw[tL fun v hv=>(Vq.mp nd).1 (List.of_mem_zip hv).1,UN hk]
  simp
 | p::P,w::vs,i+1,m,nd,h1,h2,hk=>by
  show bindL kindOf ((p,w)::P.zip vs) m x=_
  unfold bindL
  exact sX (i:=i) (Vq.mp nd).2 (by simpa using h1) (by simpa using h2) hk
theorem sZ {kindOf:Str->Option NameKind}{x:Str}{v:Value}:∀{P:List Str}{vs:List Value}{i:Nat}{m:Str->Option Value},P.Nodup->P[i]? = some x->vs[i]? = some v->kindOf x≠some .local ->
  bindC kindOf (P.zip vs) m x=some v
 | [],_,_,_,_,h,_,_=>by simp at h
 | _::_,[],_,_,_,_,h,_=>by simp at h
 | p::P,w::vs,0,m,nd,h1,h2,hk=>by
  simp at h1 h2;subst h1;subst h2
  show bindC kindOf ((p,w)::P.zip vs) m p=_
  unfold bindC
  rw[sV fun v hv=>(Vq.mp nd).1 (List.of_mem_zip hv).1,UM hk]
  simp
 | p::P,w::vs,i+1,m,nd,h1,h2,hk=>by
  show bindC kindOf ((p,w)::P.zip vs) m x=_
  unfold bindC
  exact sZ (i:=i) (Vq.mp nd).2 (by simpa using h1) (by simpa using h2) hk
def start (N:List Str) (vs:List V):St:=vs.map some++List.replicate (N.length-vs.length) none
def zI (CX:EZ) (P:Program) (w:World) (K:W.Frag) (mg:Str->Option Value) (base:Heap) (N:List Str) (qual:Str) (scope:Scope) (f:Addr) (cd:Value) (A:Around) (outer:List Env) (s:Shared) (H:Hp) (E:XK):Cx where
 prog:=P
 w:=w
 K:=K
 mg:=mg
 base:=base
 A:=A.deeper (envOfC qual scope s.heap.objs.size f cd)
 N:=N
 s₀:=s
 H₀:=H
 env:=envOfC qual scope s.heap.objs.size f cd
 outer:=outer
 stack:=envOfC qual scope s.heap.objs.size f cd::outer
 ex:=[]
 calm:=true
 fn:=fun _=>true
 pn:=[]
 xe:=fun e s'=>wpAny (model P w) (A.deeper (envOfC qual scope s.heap.objs.size f cd)) (leaving (envOfC qual scope s.heap.objs.size f cd) e) (fun _ s''=>CX outer H s E e s'') (fun e' s''=>CX outer H s E e' s'') s'
theorem xy {sc:Scope}{n:Nat}{x:Str}(h:sc.names.lookup x=some .cell):∃c,(cellsFrom n sc.names []).lookup x=some c:=by
 have q:=PySem.W.cellsFrom_some sc.names n [] (.inl h)
 exact Option.isSome_iff_exists.mp q
theorem Ce {CX:EZ}{P:Program}{w:World}{K:W.Frag}{mg:Str->Option Value}{base:Heap}{N ps:List Str}{qual:Str}{scope:Scope}{f:Addr}{cd:Value}{A:Around}{outer:List Env}{s s1:Shared}{H:Hp}{E:XK}{us:List Value}{vs:List V}
  (S:aP N ps scope) (hd:A.handled=none) (e0:Gs P w K mg base A outer s H) (hl:vs.length=ps.length) (r:Vals vs us)
  (x:InCallC s s.heap.objs.size (bindL (envOfC qual scope s.heap.objs.size f cd).kindOf (ps.zip us) fun _=>none) (cellsFrom (s.heap.objs.size+1) scope.names []) (bindC (envOfC qual scope s.heap.objs.size f cd).kindOf (ps.zip us) fun _=>none) s1) :
  Inv (zI CX P w K mg base N qual scope f cd A outer s H E) [] (start N vs) H s1:=by
 have hpl:ps.length<=N.length:=by have:=Vk List.length S.pre;rw[UH]at this;omega
 obtain⟨h1,tk,rfl,hk⟩:=x.done
 have noA:∀b:Addr,b∉(zI CX P w K mg base N qual scope f cd A outer s H E).ex:=fun b z=>absurd (show b∈([]:List Addr) from z) (by simp)
 refine⟨⟨e0.mod,S.kind,rfl,rfl,UE _,fun y z c h1 h2=>?_,fun y hy=>?_,fun y c _ h=>?_,fun _=>hd,Around.frames_deeper e0.frames,.inr ⟨rfl,rfl⟩,fun b z=>absurd z (noA b),e0.bs,e0.bsz,fun b _ _=>noA b,fun b z=>absurd z (noA b),e0.funs,e0.frf⟩,
  rfl,e0.bare,Un.kept hk,⟨_,x.toInCall.ns,fun i y v h1 h2 h3=>?_⟩,fun y c h=>⟨_,x.cell y c h⟩,e0.hok.fresh (UE _),fun y c h=>?_,fun p hp=>absurd (show p∈([]:List (Addr×Obj)) from hp) (by simp),e0.hok.kept hk,?_⟩
 ·exact name_of_addr x.apart (Wm h1) (Wm h2)
 ·have hy:scope.names.lookup y=some .cell\/scope.names.lookup y=some .free:=hy
  rcases hy with hy|hy
  ·exact xy hy
  ·exact absurd rfl (S.nofree _ (Wm hy))
 ·exact VT (x.above y c (Wm h))
 ·have hi:i<vs.length:=by
   unfold start at h2
   by_cases hi:i<vs.length
   ·exact hi
   ·rw[UL (by simpa using hi)]at h2
    rw[W8]at h2
    split at h2 <;> cases h2
  have ha:vs[i]? = some v:=by
   unfold start at h2
   rw[UO (by simpa using hi),UI]at h2
   cases e:vs[i]? with
   | none=>rw[e]at h2;cases h2
   | some a=>rw[e]at h2;cases h2;rfl
  obtain⟨u,hu,rv⟩:=r.get ha
  have hp:ps[i]? = some y:=by
   rw[<- S.pre,V8 (by omega)];exact h1
  have ndP:ps.Nodup:=by rw[<- S.pre];exact S.nd.sublist (Xh _ _)
  refine⟨u,rv,?_⟩
  rcases S.par y (UA hp) with k|k
  ·exact .inl ⟨k,sX ndP hp hu k⟩
  ·obtain⟨c,e⟩:=xy (n:=s.heap.objs.size+1) k
   refine .inr ⟨.inl k,c,e,?_⟩
   have q:=x.cell y c e
   rw[sZ ndP hp hu (by show scope.names.lookup y≠_;rw[k];decide)]at q
   exact q
 ·exact e0.hok.fresh (VT (x.above y c (Wm h)))
 ·unfold start
  show _=N.length
  rw[Uz,Uv,VD]
  omega
theorem NC {CX:EZ}{P:Program}{w:World}{K:W.Frag}{mg:Str->Option Value}{base:Heap}{k:Nat}{f:Addr}{name qual:Str}{params:Arguments}{body:List Stmt}{scope:Scope}{dV kV doc pm cdv ct oc:Value}{an od:Option Addr}
  {osl:Array (Option Value)}{N ps:List Str}{sp:Sp}(lk:K.lookup f=some ⟨oc,od,.func (W.fnOf name qual params body scope dV kV doc pm an cdv ct),osl⟩) (hcd:W.codeIn K cdv qual=true) (S:aP N ps scope)
  (len:∀vs H Q E,sp vs H Q E->vs.length=ps.length)
  (hbody:∀(A:Around) (outer:List Env) (s:Shared) (H:Hp) (vs:List V) (Q:VK) (E:XK),gR k (A.deeper (envOfC qual scope s.heap.objs.size f cdv))->sp vs H Q E ->
   ∃t,A1 (zI CX P w K mg base N qual scope f cdv A outer s H E) body t/\t { nx:=fun _ H'=>Q .non H',rt:=Q } (start N vs) H) :
  sP P w K mg base CX (k+1) f (W.fnOf name qual params body scope dV kV doc pm an cdv ct) ps sp:=by
 refine⟨len,fun A outer s H args us vs Q E hr e0 hb r hsp=>?_⟩
 have hl:=len _ _ _ _ hsp
 have KX:K.In s.heap:=e0.mod.kin.keeps fun b o e=>(e0.bs b o e).1
 have lim:s.heap.NoLimit:=e0.mod.nolimit.keeps fun b o e=>(e0.bs b o e).1
 have hkind:∀y∈ps.zip us,scope.names.lookup y.1=some .local \/(scope.names.lookup y.1=some .cell/\((cellsFrom (s.heap.objs.size+1) scope.names []).lookup y.1).isSome=true):=fun⟨n,v⟩ hy=>by
  rcases S.par n (List.of_mem_zip hy).1 with q|q
  ·exact .inl q
  ·exact .inr ⟨q,PySem.W.cellsFrom_some _ _ _ (.inl q)⟩
 refine codeAny_call_function hr.depth (KX _ _ lk) rfl S.co S.gen rfl (PySem.W.codeRec_of KX hcd) (hb _ _ _ _ ?_)
 refine wpAny_newFunctionEnv_cells S.kind hkind fun env he s1 x=>?_
 subst he
 refine⟨lim.keeps x.toInCall.keep,codeAny_func ?_⟩
 obtain⟨t,ht,hq⟩:=hbody A outer s H vs Q E (hr.deeper _) hsp
 have I:Inv (zI CX P w K mg base N qual scope f cdv A outer s H E) [] (start N vs) H s1:=Ce S hr.hd e0 hl r x
 refine Vx (ht [] s1 (start N vs) H _ I hq) (fun fl s' hs=>?_) fun e s' hs=>hs
 have fin:∀{σ':St}{H':Hp}{v:V}{u:Value},Inv (zI CX P w K mg base N qual scope f cdv A outer s H E) [] σ' H' s'->RelV v u->Q v H'->CE outer P w H s Q u s' :=
  fun {σ' H' v u} J rv q=>⟨v,H',J.os,J.bare,J.base,J.hok,rv,q⟩
 cases fl with
 | ret u =>
  obtain⟨v,σ',H',J,rv,q⟩:=hs
  exact fin J rv q
 | next =>
  obtain⟨σ',H',J,q⟩:=hs
  exact fin (v:=V.non) (u:=Value.none) J rfl q
 | brk =>
  obtain⟨_,_,_,q⟩:=hs
  exact False.elim q
 | cont =>
  obtain⟨_,_,_,q⟩:=hs
  exact False.elim q
section
variable {X:Cx}{x:Str}{p pos:Pos}{e:Expr}{es:List Expr}{t:TA}{id T:String}{r:List V->Hp->VK->Prop}
def Rj (r:List V->Hp->VK->Prop) (t:TA):TE:=fun σ H Q=>t σ H fun vs H1=>r vs H1 Q
theorem aV (hc:dc X (.builtin id) r) (hg:Gl X x) (hm:X.mg x=none) (hv:bootBuiltins x=some (.builtin id)) (ha:PA X (e::es) t) (hn:x ≠ "__name__" := by decide) (hdb:(x ==("__debug__" : Str))=false:=by decide)
  (he:starEach (e::es) X.env =(false,eval e X.env)::starEach es X.env:=by rfl) (hpl:(backTo pos (starEach es X.env)).any (·.1)=false:=by rfl):PE X (.Call (.Name x p) (e::es) [] pos) (Rj r t):=by
 intro pins s σ H Q I h
 refine wpAny_Call_Name_kw (qP I hg hm hv ?_ hn hdb)
 exact PyProof.Rows.callWith_builtin1 (bX (ha pos pins s σ H _ I h) fun us s1 ⟨vs,H1,I1,r1,q1⟩=>hc pins s1 σ H1 vs us Q I1 r1 q1) he hpl
theorem dg (hc:dc X (.type T) r) (hg:Gl X x) (hm:X.mg x=none) (hv:bootBuiltins x=some (.type T)) (ha:PA X (e::es) t) (hn:x ≠ "__name__" := by decide) (hdb:(x ==("__debug__" : Str))=false:=by decide)
  (he:starEach (e::es) X.env =(false,eval e X.env)::starEach es X.env:=by rfl) (hpl:(backTo pos (starEach es X.env)).any (·.1)=false:=by rfl):PE X (.Call (.Name x p) (e::es) [] pos) (Rj r t):=by
 intro pins s σ H Q I h
 refine wpAny_Call_Name_kw (qP I hg hm hv ?_ hn hdb)
 exact WJ (bX (ha pos pins s σ H _ I h) fun us s1 ⟨vs,H1,I1,r1,q1⟩=>hc pins s1 σ H1 vs us Q I1 r1 q1) he hpl
end
end L2
namespace HT
open PySem PyProof.Rows
section
open PySem.SeqAt
open PySem.AutoSeq1 (wpAny_loadPart')
open PySem.MeetsSeq PySem.MeetsSeq2 PySem.MeetsSeq3
end
section
variable {prog:Program}{w:World}{A:Around}{E:Value->Shared->Prop}{s:Shared}
def sIx (n d:Nat):Option Int->Nat
 | none=>d
 | some v=>if v<0 then(v+(n:Int)).toNat else min v.toNat n
theorem sIx_none (n d:Nat):sIx n d none=d:=rfl
theorem sIx_nat (n d k:Nat):sIx n d (some (k:Int))=min k n:=by
 show(if (k:Int)<0 then((k:Int)+(n:Int)).toNat else min (k:Int).toNat n)=min k n
 rw[UM (by omega),VU]
end
end HT
namespace L2
open PySem PySem.Spec PyProof.Rows
abbrev TO:=St->Hp->(Option Int->Hp->Prop)->Prop
def PO (X:Cx) (e:Option Expr) (t:TO):Prop :=
 ∀(pins:List (Addr×Obj)) (s:Shared) (σ:St) (H:Hp) (Q:Option Int->Hp->Prop),Inv X pins σ H s->t σ H Q ->
  wpAny (model X.prog X.w) X.A (evalPart e X.env) (fun u s'=>∃o H',Inv X pins σ H' s'/\IsPart u o/\Q o H') X.xe s
def AF:TO:=fun _ H Q=>Q none H
def IA (t:TE):TO:=fun σ H Q=>t σ H fun x H1=>∃i,x = .int i/\Q (some i) H1
theorem intsAre_of {ns:List Int}:∀{us:List Value},Vals (ns.map V.int) us->IntsAre us ns:=by
 induction ns with
 | nil=>intro us r;rw[List.map_nil]at r;cases r;exact .nil
 | cons n ns ih =>
  intro us r
  rw[Vi]at r
  cases r with
  | cons r1 r2 =>
   obtain⟨t,e⟩:=r1
   subst e
   exact .cons n t (ih r2)
section
variable {X:Cx}{e:Expr}{te:TE}{lo hi:Option Expr}{tl th:TO}{pos p2:Pos}
theorem dw:PO X none AF:=by
 intro pins s σ H Q I h
 rw[evalPart_none]
 exact UD ⟨none,H,I,.none,h⟩
theorem cR (h:PE X e te):PO X (some e) (IA te):=by
 intro pins s σ H Q I hw
 rw[evalPart_some]
 refine bX (h pins s σ H _ I hw) fun u s1 ⟨x,H1,I1,r1,q1⟩=>?_
 obtain⟨i,rfl,q⟩:=q1
 obtain⟨t,rfl⟩:=r1
 exact⟨some i,H1,I1,.int i t,q⟩
def Ri (X:Cx) (r:V->Option Int->Option Int->Hp->VK->Prop):Prop :=
 ∀(pins:List (Addr×Obj)) (s:Shared) (σ:St) (H:Hp) (x:V) (v vl vu:Value) (lo hi:Option Int) (sl:Addr) (Q:VK),Inv X pins σ H s->RelV x v->s.heap.IsSliceOf sl vl vu .none->IsPart vl lo->IsPart vu hi->r x lo hi H Q ->
  ∃T id,typeLookup (.type T) "__getitem__" = pure (some (.builtin id))/\s.TypeIs v T/\wpAny (model X.prog X.w) X.A (getItem v (.ref sl)) (EP X pins σ Q) X.xe s
def Su (r:V->Option Int->Option Int->Hp->VK->Prop) (te:TE) (tl th:TO):TE:=fun σ H Q=>te σ H fun x H1=>tl σ H1 fun l H2=>th σ H2 fun u H3=>r x l u H3 Q
theorem cC {r:V->Option Int->Option Int->Hp->VK->Prop}(hr:Ri X r) (he:PE X e te) (hl:PO X lo tl) (hu:PO X hi th):PE X (.Subscript e (.Slice lo hi none p2) pos) (Su r te tl th):=by
 intro pins s σ H Q I h
 refine Subscript_ (bX (he pins s σ H _ I h) fun v s1 ⟨x,H1,I1,r1,q1⟩=>?_)
 refine wpAny_Slice (bX (hl pins s1 σ H1 _ I1 q1) fun vl s2 ⟨l,H2,I2,pl,q2⟩=>bX (hu pins s2 σ H2 _ I2 q2) fun vu s3 ⟨u,H3,I3,pu,q3⟩=>?_)
 rw[evalPart_none]
 refine UD ?_
 have I4:Inv X pins σ H3 { s3 with heap:=s3.heap.push { cls:=.type "slice",data:=.fields #[vl,vu,.none] } }:=I3.kept (t':=s3.toks) fun b ob q=>UJ _ q
 obtain⟨T,id,hT,ht,hg⟩:=hr pins { s3 with heap:=s3.heap.push { cls:=.type "slice",data:=.fields #[vl,vu,.none] } } σ H3 x v vl vu l u s3.heap.objs.size Q I4 r1 (Heap.IsSliceOf.new ..) pl pu q3
 show wpAny (model X.prog X.w) X.A (subscriptTail e (.Slice lo hi none p2) v (.ref s3.heap.objs.size)) (EP X pins σ Q) X.xe { s3 with heap:=s3.heap.push { cls:=.type "slice",data:=.fields #[vl,vu,.none] } }
 exact tail_any (ops:=[.ref s3.heap.objs.size,v]) ht hT hg (by with_unfolding_all rfl)
def jy (xs:List V) (lo hi:Option Int):List V:=(xs.drop (HT.sIx xs.length 0 lo)).take (HT.sIx xs.length xs.length hi-HT.sIx xs.length 0 lo)
theorem xB (xs:List V) (lo hi:Option Int):(jy xs lo hi).length<=xs.length:=by
 unfold jy
 rw[UH,Vt]
 omega
end
def yP (n:Nat) (i:Int):Option Nat:=if 0<=i then(if i<n then some i.toNat else none) else if -(n:Int)<=i then some (i+n).toNat else none
def rA {α:Type}(xs:List α) (i:Int):Option α:=(yP xs.length i).bind fun j=>xs[j]?
theorem Av {n:Nat}{i:Int}{j:Nat}(h:yP n i=some j):seqIndex? i n=some j/\j<n/\-(n:Int)<=i/\i<n:=by
 unfold yP at h
 by_cases h0:0<=i
 ·rw[UN h0]at h
  by_cases h1:i<n
  ·rw[UN h1]at h
   have e:i.toNat=j:=US h
   exact⟨by rw[seqIndex_of h0 h1,e],by omega,by omega,h1⟩
  ·rw[UM h1]at h;cases h
 ·rw[UM h0]at h
  by_cases h1:-(n:Int)<=i
  ·rw[UN h1]at h
   have e:(i+n).toNat=j:=US h
   exact⟨by rw[seqIndex_neg (by omega) h1,e],by omega,h1,by omega⟩
  ·rw[UM h1]at h;cases h
theorem oW {α:Type}{xs:List α}{i:Int}{v:α}(h:rA xs i=some v):∃j,seqIndex? i xs.length=some j/\xs[j]? = some v/\j<xs.length/\-(xs.length:Int)<=i/\i<xs.length:=by
 unfold rA at h
 cases e:yP xs.length i with
 | none=>rw[e]at h;cases h
 | some j =>
  rw[e]at h
  obtain⟨h1,h2,h3,h4⟩:=Av e
  exact⟨j,h1,h,h2,h3,h4⟩
theorem jf {α:Type}{xs:List α}{j:Nat}{v:α}(h:xs[j]? = some v):rA xs (j:Int)=some v:=by
 have hj:j<xs.length:=(Ux.mp h).1
 have e:yP xs.length (j:Int)=some j:=by
  unfold yP
  rw[UN (by omega),UN (by omega)];simp
 unfold rA;rw[e];exact h
theorem Dd {α:Type}(xs:List α) (v:α):rA (xs ++ [v]) (-1)=some v:=by
 have hl:(xs ++ [v]).length=xs.length+1:=by simp
 have e:yP (xs ++ [v]).length (-1)=some xs.length:=by
  unfold yP
  rw[hl,UM (by decide),UN (by omega)]
  congr 1
  omega
 unfold rA
 rw[e]
 show(xs ++ [v])[xs.length]? = some v
 simp
def Gh (b:Expr):Prop:=∀o i,subscripted b false o i=operate [o,i] (getItem o i)
def Mb (X:Cx) (r:R2):Prop :=
 ∀(value slice:Expr) (pins:List (Addr×Obj)) (s:Shared) (σ:St) (H:Hp) (x y:V) (v u:Value) (Q:VK),Inv X pins σ H s->RelV x v->RelV y u->r x y H Q ->
  subscripted slice false v u=operate [v,u] (getItem v u)->wpAny (model X.prog X.w) X.A (subscriptTail value slice v u) (EP X pins σ Q) X.xe s
def Mf (X:Cx) (id:String) (r:V->List V->Hp->VK->Prop):Prop :=
 ∀(pins:List (Addr×Obj)) (s:Shared) (σ:St) (H:Hp) (x:V) (xs:List V) (v:Value) (us:List Value) (Q:VK),Inv X pins σ H s->RelV x v->Vals xs us->r x xs H Q ->
  wpAny (model X.prog X.w) X.A (call (.builtin id) (v::us)) (EP X pins σ Q) X.xe s
section
variable {X:Cx}{a b:Expr}{ta tb:TE}{pos:Pos}
theorem aY {r:R2}(hr:Mb X r) (ha:PE X a ta) (hb:PE X b tb) (hs:Gh b):PE X (.Subscript a b pos) (Of r ta tb):=by
 intro pins s σ H Q I h
 exact Subscript_ (Kn ha hb I h fun v u s2 x y H2 I2 rx ry q=>hr a b pins s2 σ H2 x y v u Q I2 rx ry q (hs _ _))
def HM (K:W.Frag):R2:=fun x y H Q=>∃p xs i v,x = .ref p/\y = .int i/\aW K H p xs/\rA xs i=some v/\Q v H
def Kf (K:W.Frag):R2:=fun x y H Q=>∃p xs i v,x = .ref p/\y = .int i/\iM K H p xs/\rA xs i=some v/\Q v H
def NS:R2:=fun x y H Q=>∃z i c,x = .str z/\y = .int i/\z.length<=sizeLine/\rA z.cps.toList i=some c/\Q (.str ⟨#[c]⟩) H
theorem bG:Mb X (HM X.K):=by
 intro value slice pins s σ H x y v u Q I rx ry h hs
 obtain⟨p,xs,i,z,rfl,rfl,hq,he,q⟩:=h
 cases rx
 obtain⟨t,rfl⟩:=ry
 obtain⟨its,r,pl,hz⟩:=I.list hq
 obtain⟨j,h1,h2,h3,h4,h5⟩:=oW he
 obtain⟨w,ew,rw'⟩:=r.get h2
 have hl:=r.length
 have hn:=kO
 have fin:EP X pins σ Q w s:=⟨z,H,I,rw',q⟩
 by_cases h0:0<=i
 ·have hj:i.toNat=j:=by
   rw[seqIndex_of h0 h5]at h1
   exact US h1
  exact item_listR pl.isList h0 (by omega) (by rw[hj];simpa using ew) fin hs
 ·have hj:(i+(its.toArray.size:Int)).toNat=j:=by
   rw[seqIndex_neg (by omega) h4]at h1
   rw[Vc,<- hl]
   exact US h1
  exact subscriptTail_builtinR (x:=w) pl.isList.typeIs slot_list_getitem.lookup
   (wpAny_getItem_list_neg (Q:=fun r s'=>r=w/\EP X pins σ Q r s') pl.isList (by omega) (by rw[Vc] <;> omega) (by omega) (by rw[hj];simpa using ew) ⟨rfl,fin⟩) hs
theorem b8:Mb X (Kf X.K):=by
 intro value slice pins s σ H x y v u Q I rx ry h hs
 obtain⟨p,xs,i,z,rfl,rfl,hq,he,q⟩:=h
 cases rx
 obtain⟨t,rfl⟩:=ry
 obtain⟨its,r,pl,hz⟩:=I.tuple hq
 obtain⟨j,h1,h2,h3,h4,h5⟩:=oW he
 obtain⟨w,ew,rw'⟩:=r.get h2
 have hl:=r.length
 have hn:=kO
 have fin:EP X pins σ Q w s:=⟨z,H,I,rw',q⟩
 exact subscriptTail_builtinR (x:=w) pl.typeIs slot_tuple_getitem.lookup
  (getItem_tuple (j:=j) (Q:=fun r s'=>r=w/\EP X pins σ Q r s') pl (by omega) (by omega) (by rw[Vc,<- hl];exact h1) (by simpa using ew) ⟨rfl,fin⟩) hs
theorem LJ:Mb X NS:=by
 intro value slice pins s σ H x y v u Q I rx ry h hs
 obtain⟨z,i,c,rfl,rfl,hz,he,q⟩:=h
 obtain⟨t,rfl⟩:=rx
 obtain⟨t',rfl⟩:=ry
 obtain⟨j,h1,h2,h3,h4,h5⟩:=oW he
 have hl:z.cps.toList.length=z.length:=by simp[Str.length]
 rw[hl]at h1 h4 h5
 have hn:=kO
 exact tail_any (typeIs_str s z t) slot_str_getitem.lookup (getItem_str (c:=c) (by
  have e1:decide (i < -(2^63:Int))=false:=U6 (by omega)
  have e2:decide (i ≥ 2^63)=false:=U6 (by omega)
  rw[e1,e2,Bool.or_false]) (by rw[h1];simpa using h2) ⟨.str ⟨#[c]⟩,H,I.tok _,⟨_,rfl⟩,q⟩) hs
theorem Ai (its:List Value) (n j:Nat) (u:Value):Obj.mapSeq (·.setIfInBounds j u) { cls:=.type "list",data:=.seq its.toArray n } = { cls:=.type "list",data:=.seq (its.set j u).toArray n }:=by
 simp[Obj.mapSeq]
theorem Inv.lst {pins:List (Addr×Obj)}{σ:St}{H:Hp}{s:Shared}{p:Addr}{xs:List V}(I:Inv X pins σ H s) (h:H p=some (.lst xs)) :
  ∃(its:List Value) (n:Nat),Vals xs its/\s.heap.get? p=some { cls:=.type "list",data:=.seq its.toArray n }/\xs.length<=sizeLine:=by
 obtain⟨z,its,n,r,e⟩:=I.hok p _ h
 exact⟨its,n,r,e,z⟩
theorem Inv.lstUpd {pins:List (Addr×Obj)}{σ:St}{H:Hp}{s:Shared}{p:Addr}{xs ys:List V}{its its':List Value}{n n':Nat}{f:Obj->Obj}(I:Inv X pins σ H s) (h:H p=some (.lst xs))
  (ho:s.heap.get? p=some { cls:=.type "list",data:=.seq its.toArray n }) (hf:f { cls:=.type "list",data:=.seq its.toArray n } = { cls:=.type "list",data:=.seq its'.toArray n' }) (r:Vals ys its') (hz:ys.length<=sizeLine) (t:Nat) :
  Inv X pins σ (upd H p (.lst ys)) { s with heap:=s.heap.update p f,toks:=t }:=by
 have e:(s.heap.update p f).get? p=some { cls:=.type "list",data:=.seq its'.toArray n' }:=by
  rw[VE f ho (by rw[hf] <;> rfl),hf]
 refine I.write (x:=p) (e:=p) (by rw[h];trivial) (.inl rfl) (fun b u hb q=>(V0 _ _ (Ne.symm hb)).trans q) ⟨_,e⟩ ?_
 exact⟨hz,its',n',r,e⟩
def AW:V->V->V->Hp->(Hp->Prop)->Prop:=fun o i v H Q=>∃p xs k j,o = .ref p/\i = .int k/\H p=some (.lst xs)/\yP xs.length k=some j/\Q (upd H p (.lst (xs.set j v)))
theorem set_list:JA X AW:=by
 intro pins s σ H o i v ov iv u Q I ro ri rv h
 obtain⟨p,xs,k,j,rfl,rfl,hp,hj,q⟩:=h
 cases ro
 obtain⟨t,rfl⟩:=ri
 obtain⟨its,n,r,ho,hz⟩:=I.lst hp
 obtain⟨h1,h2,h3,h4⟩:=Av hj
 have hl:=r.length
 have hn:=kO
 have I':Inv X pins σ (upd H p (.lst (xs.set j v))) { s with heap:=s.heap.update p (Obj.mapSeq (·.setIfInBounds j u)) } :=
  I.lstUpd hp ho (Ai its n j u) (r.set rv j) (by rw[Xy];exact hz) s.toks
 by_cases h0:0<=k
 ·have hk:k.toNat=j:=by
   rw[seqIndex_of h0 h4]at h1
   exact US h1
  exact PySem.W.ki_setAt ho h0 (by omega) (by rw[Vc,<- hl];exact h4) (by rw[hk];exact⟨_,I',q⟩)
 ·have hk:(k+(its.toArray.size:Int)).toNat=j:=by
   rw[seqIndex_neg (by omega) h3]at h1
   rw[Vc,<- hl]
   exact US h1
  exact PySem.W.ki_setBack ho (by omega) (by rw[Vc,<- hl];exact h3) (by omega) (by rw[hk];exact⟨_,I',q⟩)
theorem uN (lo hi:Option Int) (n:Nat):(sliceBounds lo hi none n).1 =((HT.sIx n 0 lo:Nat):Int)/\(sliceBounds lo hi none n).2.1 =((HT.sIx n n hi:Nat):Int)/\(sliceBounds lo hi none n).2.2=1:=by
 refine⟨?_,?_,rfl⟩
 ·cases lo with
  | none=>simp[sliceBounds,HT.sIx]
  | some i =>
   simp only[sliceBounds,HT.sIx,Option.getD_none,show(1:Int) > 0 by decide,if_true]
   by_cases h:i<0
   ·simp only[h,if_true] <;> omega
   ·simp only[h,if_false] <;> omega
 ·cases hi with
  | none=>simp[sliceBounds,HT.sIx]
  | some i =>
   simp only[sliceBounds,HT.sIx,Option.getD_none,show(1:Int) > 0 by decide,if_true]
   by_cases h:i<0
   ·simp only[h,if_true] <;> omega
   ·simp only[h,if_false] <;> omega
theorem rT (its:List Value) (lo hi:Option Int):slicePick its.toArray lo hi none =((its.drop (HT.sIx its.length 0 lo)).take (HT.sIx its.length its.length hi-HT.sIx its.length 0 lo)).toArray:=by
 obtain⟨h1,h2,h3⟩:=uN lo hi its.toArray.size
 unfold slicePick
 rw[h1,h2,h3]
 simp only[sliceRange_one,pick_run,List.size_toArray] <;> rfl
def IZ (K:W.Frag):V->Option Int->Option Int->Hp->VK->Prop:=fun x lo hi H Q=>∃a xs,x = .ref a/\aW K H a xs/\∀p,H p=none->Q (.ref p) (upd H p (.lst (jy xs lo hi)))
theorem cX:Ri X (IZ X.K):=by
 intro pins s σ H x v vl vu lo hi sl Q I rx hs pl pu h
 obtain⟨a,xs,rfl,hx,q⟩:=h
 cases rx
 obtain⟨its,r,ht,hz⟩:=I.list hx
 have hlen:=r.length
 refine⟨"list",_,slot_list_getitem.lookup,ht.isList.typeIs,?_⟩
 refine wpAny_getItem_list_slice ht.isList hs pl pu .none (by simp) ?_ (by rw[Vc] <;> omega)
 rw[rT,<- hlen]
 refine⟨.ref s.heap.objs.size,_,I.laid (t':=s.toks) (o:=.lst (jy xs lo hi)) (fun b ob q=>UJ _ q) (UE _) ?_,rfl,q _ (I.hok.fresh (UE _))⟩
 exact⟨UP (xB xs lo hi) hz,_,0,(r.drop (HT.sIx xs.length 0 lo)).take (HT.sIx xs.length xs.length hi-HT.sIx xs.length 0 lo),U4 _ rfl⟩
def mG:V->Bool
 | .non=>true
 | .bl _=>true
 | .int _=>true
 | .str _=>true
 | _=>false
def Ef:V->V->Bool
 | .non,.non=>true
 | .bl a,.bl b=>a == b
 | .bl a,.int b=>(if a then 1 else 0) == b
 | .int a,.bl b=>a ==(if b then 1 else 0)
 | .int a,.int b=>a == b
 | .str a,.str b=>a == b
 | _,_=>false
theorem LL {A:Around}{s:Shared}{y x:V}{u v:Value}(ry:RelV y u) (rx:RelV x v) (fy:mG y=true) (fx:mG x=true):SeqAt.EqAt A s u v (Ef y x):=by
 cases y with
 | non =>
  cases ry
  cases x with
  | non=>cases rx;exact SeqAt.EqAt.same _
  | bl b=>cases rx;exact SeqAt.EqAt.none_bool b
  | int b=>obtain⟨t,rfl⟩:=rx;exact SeqAt.EqAt.none_int b t
  | str b=>obtain⟨t,rfl⟩:=rx;exact SeqAt.EqAt.none_str b t
  | _=>exact absurd (show false=true from fx) U0
 | bl a =>
  cases ry
  cases x with
  | non=>cases rx;exact SeqAt.EqAt.bool_none a
  | bl b=>cases rx;exact SeqAt.EqAt.bool_bool a b
  | int b=>obtain⟨t,rfl⟩:=rx;exact SeqAt.EqAt.bool_int a b t
  | str b=>obtain⟨t,rfl⟩:=rx;exact SeqAt.EqAt.bool_str a b t
  | _=>exact absurd (show false=true from fx) U0
 | int a =>
  obtain⟨t',rfl⟩:=ry
  cases x with
  | non=>cases rx;exact SeqAt.EqAt.int_none a t'
  | bl b=>cases rx;exact SeqAt.EqAt.int_bool a t' b
  | int b=>obtain⟨t,rfl⟩:=rx;exact SeqAt.EqAt.int_int a t' b t
  | str b=>obtain⟨t,rfl⟩:=rx;exact SeqAt.EqAt.int_str a t' b t
  | _=>exact absurd (show false=true from fx) U0
 | str a =>
  obtain⟨t',rfl⟩:=ry
  cases x with
  | non=>cases rx;exact SeqAt.EqAt.str_none a t'
  | bl b=>cases rx;exact SeqAt.EqAt.str_bool a t' b
  | int b=>obtain⟨t,rfl⟩:=rx;exact SeqAt.EqAt.str_int a t' b t
  | str b=>obtain⟨t,rfl⟩:=rx;exact SeqAt.EqAt.str_str a t' b t
  | _=>exact absurd (show false=true from fx) U0
 | _=>exact absurd (show false=true from fy) U0
def F6 (x:V) (u:Value):Bool:=match u with
 | .none=>Ef .non x
 | .bool b=>Ef (.bl b) x
 | .int i _=>Ef (.int i) x
 | .str z _=>Ef (.str z) x
 | _=>false
theorem DH {x y:V}{u:Value}(r:RelV y u) (f:mG y=true):F6 x u=Ef y x:=by
 cases y with
 | non=>cases r;rfl
 | bl b=>cases r;rfl
 | int i=>obtain⟨t,rfl⟩:=r;rfl
 | str z=>obtain⟨t,rfl⟩:=r;rfl
 | _=>exact absurd (show false=true from f) U0
theorem uS {x:V}:∀{xs:List V}{us:List Value},Vals xs us->xs.all mG=true->us.any (F6 x)=xs.any fun y=>Ef y x
 | _,_,.nil,_=>rfl
 | y::xs,u::us,.cons r t,f=>by
  rw[List.all_cons,XN]at f
  rw[Xu,Xu,DH r f.1,uS t f.2]
theorem pU {A:Around}{s:Shared}{x:V}{v:Value}(rx:RelV x v) (fx:mG x=true):∀{xs:List V}{us:List Value},Vals xs us->xs.all mG=true->∀u∈us,SeqAt.EqAt A s u v (F6 x u)
 | _,_,.nil,_=>fun u hu=>by cases hu
 | y::xs,u::us,.cons r t,f=>fun u' hu=>by
  rw[List.all_cons,XN]at f
  rcases U9.mp hu with rfl|hu
  ·rw[DH r f.1];exact LL r rx f.1 fx
  ·exact pU rx fx t f.2 u' hu
def Ey (x:V) (xs:List V):Bool:=xs.any fun y=>Ef y x
def SG (K:W.Frag) (neg:Bool):R2:=fun x y H Q=>∃p xs,y = .ref p/\(aW K H p xs\/iM K H p xs)/\mG x=true/\xs.all mG=true/\Q (.bl (if neg then !Ey x xs else Ey x xs)) H
theorem gM:mS X (compareOp .In) (SG X.K false):=by
 intro pins s σ H x y v u Q I rx ry h
 obtain⟨p,xs,rfl,hq,fx,fs,q⟩:=h
 cases ry
 rcases hq with hq|hq
 ·obtain⟨its,r,pl,hz⟩:=I.list hq
  refine SeqAt.in_listAt (F6 x) pl.isList (fun w hw=>pU rx fx r fs w (by simpa using hw)) ⟨.bl _,H,I,rfl,?_⟩
  rw[show its.toArray.any (F6 x)=its.any (F6 x) by simp,uS r fs]
  exact q
 ·obtain⟨its,r,pl,hz⟩:=I.tuple hq
  refine SeqAt.in_tupleAt (F6 x) pl (fun w hw=>pU rx fx r fs w (by simpa using hw)) ⟨.bl _,H,I,rfl,?_⟩
  rw[show its.toArray.any (F6 x)=its.any (F6 x) by simp,uS r fs]
  exact q
theorem vX:dc X (.builtin "len") (fun xs H Q=>∃p ys,xs=[.ref p]/\(aW X.K H p ys\/iM X.K H p ys)/\Q (.int ys.length) H):=by
 intro pins s σ H xs us Q I r h
 obtain⟨p,ys,rfl,hq,q⟩:=h
 obtain⟨u,rfl,rx⟩:=vals1 r
 cases rx
 have hn:=kO
 rcases hq with hq|hq
 ·obtain⟨its,r',pl,hz⟩:=I.list hq
  have hlen:=r'.length
  exact Calls.call_len_list pl.isList (by simp only[List.size_toArray] <;> omega) ⟨.int ys.length,H,I.tok _,⟨s.toks+1,by rw[Vc,hlen]⟩,q⟩
 ·obtain⟨its,r',pl,hz⟩:=I.tuple hq
  have hlen:=r'.length
  exact len_tuple pl (by simp only[List.size_toArray] <;> omega) ⟨.int ys.length,H,I.tok _,⟨s.toks+1,by rw[Vc,hlen]⟩,q⟩
theorem l5:dc X (.type "list") (fun xs H Q=>∃p ys,xs=[.ref p]/\(aW X.K H p ys\/iM X.K H p ys)/\∀l,H l=none->Q (.ref l) (upd H l (.lst ys))):=by
 intro pins s σ H xs us Q I r h
 obtain⟨p,ys,rfl,hq,q⟩:=h
 obtain⟨u,rfl,rx⟩:=vals1 r
 cases rx
 have fin:∀(its:List Value),Vals ys its->ys.length<=sizeLine->∀(h':Heap) (c':Nat),(∀b o',s.heap.get? b=some o'->h'.get? b=some o') ->
   h'.get? s.heap.objs.size=some { cls:=.type "list",dict:=none,data:=.seq its.toArray c',slots:=#[] }->EP X pins σ Q (.ref s.heap.objs.size) { s with heap:=h' }:=fun its r' hz h' c' kp e =>
  ⟨.ref s.heap.objs.size,_,I.laid (t':=s.toks) kp (UE _) (show dH X.prog X.w _ h' _ (.lst ys) from⟨hz,its,c',r',e⟩),rfl,q _ (I.hok.fresh (UE _))⟩
 rcases hq with hq|hq
 ·obtain⟨its,r',pl,hz⟩:=I.list hq
  have hlen:=r'.length
  obtain⟨o,ho,hc,n,hd⟩:=pl.isList
  exact call_list_seq p (.inl rfl) ho hc hd (fun h' c' kp e=>fin its r' hz h' c' kp e) (by simp only[List.size_toArray] <;> omega)
 ·obtain⟨its,r',pl,hz⟩:=I.tuple hq
  have hlen:=r'.length
  obtain⟨o,ho,hc,n,hd⟩:=pl
  exact call_list_seq p (.inr rfl) ho hc hd (fun h' c' kp e=>fin its r' hz h' c' kp e) (by simp only[List.size_toArray] <;> omega)
def MZ (K:W.Frag) (T:String) (x:V) (H:Hp):Prop:=match x with
 | .str _=>T = "str"
 | .int _=>T = "int"
 | .ref p=>(T = "list"/\∃xs,aW K H p xs) \/(T = "tuple"/\∃o,K.lookup p=some o/\o.cls = .type "tuple"/\o.dict=none) \/
   (T = "dict"/\((∃kvs,H p=some (.dK kvs)) \/ ∃kvs,H p=some (.dT kvs))) \/(T = "set"/\∃S n,H p=some (.set S n))
 | _=>False
theorem D6 {pins:List (Addr×Obj)}{σ:St}{H:Hp}{s:Shared}{T:String}{x:V}{v:Value}(I:Inv X pins σ H s) (r:RelV x v) (ty:MZ X.K T x H) :
  s.TypeIs v T/\∀a,v = .ref a->∃ob,s.heap.get? a=some ob/\ob.dict=none:=by
 cases x with
 | str z =>
  obtain⟨t,rfl⟩:=r
  cases (show T = "str" from ty)
  exact⟨typeIs_str s z t,fun _ e=>nomatch e⟩
 | int i =>
  obtain⟨t,rfl⟩:=r
  cases (show T = "int" from ty)
  exact⟨typeIs_int s i t,fun _ e=>nomatch e⟩
 | ref p =>
  cases r
  rcases ty with⟨rfl,xs,hq⟩|⟨rfl,o,hk,hc,hd⟩|⟨rfl,hk⟩|⟨rfl,S,n,hk⟩
  ·obtain⟨its,_,pl,_⟩:=I.list hq
   refine⟨pl.isList.typeIs,fun a e=>?_⟩
   cases e
   obtain⟨o,n,e,c,hd,_⟩:=pl
   exact⟨o,e,hd⟩
  ·refine⟨⟨o,I.kIn p o hk,hc⟩,fun a e=>?_⟩
   cases e
   exact⟨o,I.kIn _ o hk,hd⟩
  ·have z:∃o,s.heap.get? p=some o/\o.ExactDict:=by
    rcases hk with⟨kvs,hk⟩|⟨kvs,hk⟩
    ·obtain⟨_,_,_,_,o,_,_,e,ex,_⟩:=I.hok p _ hk
     exact⟨o,e,ex⟩
    ·obtain⟨_,_,_,_,o,_,_,e,ex,_⟩:=I.hok p _ hk
     exact⟨o,e,ex⟩
   obtain⟨o,e,ex⟩:=z
   refine⟨⟨o,e,ex.1⟩,fun a e2=>?_⟩
   cases e2
   exact⟨o,e,ex.2.1⟩
  ·obtain⟨o,_,_,_,e,ex,_⟩:=I.hok p _ hk
   refine⟨⟨o,e,ex.1⟩,fun a e2=>?_⟩
   cases e2
   exact⟨o,e,ex.2.1⟩
 | _=>exact False.elim ty
def Mi (K:W.Frag) (T:String) (r:V->List V->Hp->VK->Prop) (to:TE):TE:=fun σ H Q=>to σ H fun x H1=>MZ K T x H1/\r x [] H1 Q
def So (K:W.Frag) (T:String) (r:V->List V->Hp->VK->Prop) (to:TE) (t:TA):TE:=fun σ H Q=>to σ H fun x H1=>MZ K T x H1/\t σ H1 fun xs H2=>r x xs H2 Q
variable {o e:Expr}{es:List Expr}{to:TE}{t:TA}{name:Str}{apos cpos:Pos}{T id:String}{r:V->List V->Hp->VK->Prop}
theorem CO (pa:PlainAttrs T) (slot:Slot T name id) (hty:typeOf (.builtin id)=pure (.type "method_descriptor")) (hm:Mf X id r) (ho:PE X o to)
  (hbase:attributeBase o name X.env (eval o X.env)=eval o X.env:=by rfl) (hline:(apos.endLine == cpos.line)=true:=by rfl):PE X (.Call (.Attribute o name apos) [] [] cpos) (Mi X.K T r to):=by
 intro pins s σ H Q I h
 refine wpAny_Call_method0_late hbase hline (bX (ho pins s σ H _ I h) fun v s1 ⟨x,H1,I1,r1,ty,q1⟩=>?_)
 obtain⟨h1,h2⟩:=D6 I1 r1 ty
 exact⟨T,id,pa,slot,hty,h1,h2,Calls.callWith_builtin rfl (PySem.evalArgs_none (hm pins s1 σ H1 x [] v [] Q I1 r1 .nil q1))⟩
theorem oB (pa:PlainAttrs T) (slot:Slot T name id) (hty:typeOf (.builtin id)=pure (.type "method_descriptor")) (hm:Mf X id r) (ho:PE X o to) (ha:PA X (e::es) t)
  (hbase:attributeBase o name X.env (eval o X.env)=eval o X.env:=by rfl)
  (hfew:((backTo cpos (starEach (e::es) X.env)).all (fun x=>!x.1) && (backToKw cpos (keywordEach [] X.env)).all (fun x=>x.1.isSome)
   && decide ((e::es).length+([]:List Keyword).length+(if ([]:List Keyword).isEmpty then 0 else 1)<30))=true:=by rfl)
  (hline:(apos.endLine == cpos.line)=true:=by rfl) (hs:starEach (e::es) X.env =(false,eval e X.env)::starEach es X.env:=by rfl) (hplain:(backTo cpos (starEach es X.env)).any (·.1)=false:=by rfl) :
  PE X (.Call (.Attribute o name apos) (e::es) [] cpos) (So X.K T r to t):=by
 intro pins s σ H Q I h
 refine wpAny_Call_method_late hbase hfew hline rfl (bX (ho pins s σ H _ I h) fun v s1 ⟨x,H1,I1,r1,ty,q1⟩=>?_)
 obtain⟨h1,h2⟩:=D6 I1 r1 ty
 refine⟨T,id,pa,slot,hty,h1,h2,?_⟩
 have hA:=ha cpos pins s1 σ H1 _ I1 q1
 rw[hs]at hA ⊢
 refine Calls.callWith_builtin (by show(false || (backTo cpos (starEach es X.env)).any (·.1))=false;rw[hplain] <;> rfl) (Calls.evalArgs_plain ?_)
 exact bX hA fun us s2 ⟨vs,H2,I2,r2,q2⟩=>hm pins s2 σ H2 x vs v us Q I2 r1 r2 q2
end
def SA (X:Cx) (id:String) (r:V->List V->Hp->VK->Prop):Prop :=
 ∀(pins:List (Addr×Obj)) (s:Shared) (σ:St) (H:Hp) (x:V) (xs:List V) (v:Value) (us:List Value) (Q:VK),Inv X pins σ H s->RelV x v->Vals xs us->r x xs H Q ->
  wpAny (model X.prog X.w) X.A (call (.builtin id) (v::us)) (EP X pins σ Q) X.xe s
theorem Vals.one:∀{x:V}{us:List Value},Vals [x] us->∃u,us=[u]/\RelV x u
 | _,_,.cons r .nil=>⟨_,rfl,r⟩
theorem Vals.dropLast {xs:List V}{us:List Value}(h:Vals xs us):Vals xs.dropLast us.dropLast:=by
 induction h with
 | nil=>exact .nil
 | cons r t ih =>
  cases t with
  | nil=>exact .nil
  | cons q t'=>exact .cons r ih
theorem Vals.reverse {xs:List V}{us:List Value}(h:Vals xs us):Vals xs.reverse us.reverse:=by
 induction h with
 | nil=>exact .nil
 | cons r t ih=>rw[Xi,Xi];exact Vals.append ih (.cons r .nil)
theorem Jm {α:Type}(l:List α):l.eraseIdx (l.length-1)=l.dropLast:=by
 induction l with
 | nil=>rfl
 | cons a r ih =>
  cases r with
  | nil=>rfl
  | cons b r =>
   have e:(a::b::r).length-1 =((b::r).length-1)+1:=by
    have h1:(a::b::r).length=r.length+2:=rfl
    have h2:(b::r).length=r.length+1:=rfl
    omega
   rw[e,List.eraseIdx_cons_succ,ih]
   all_goals rfl
section
variable {X:Cx}{pins:List (Addr×Obj)}{σ:St}{H:Hp}{s:Shared}{l b:Addr}{xs ys zs:List V}
theorem Inv.lset {its its':List Value}{n:Nat}{f:Array Value->Array Value}{t':Nat}(I:Inv X pins σ H s) (hH:H l=some (.lst xs))
  (e:s.heap.get? l=some { cls:=.type "list",data:=.seq its.toArray n }) (hf:f its.toArray=its'.toArray) (hv:Vals ys its') (hz:ys.length<=sizeLine) :
  Inv X pins σ (upd H l (.lst ys)) { s with heap:=s.heap.update l (Obj.mapSeq f),toks:=t' }:=by
 have q:=PySem.IsL.update e f
 rw[hf]at q
 refine I.write (x:=l) (e:=l) (by rw[hH];exact trivial) (.inl rfl) (fun b' u hb hu=>(V0 s.heap (Obj.mapSeq f) (Ne.symm hb)).trans hu) ⟨_,q⟩ ?_
 exact⟨hz,its',_,hv,q⟩
theorem Inv.lnew {its:List Value}{t':Nat}(I:Inv X pins σ H s) (hv:Vals ys its) (hz:ys.length<=sizeLine) :
  Inv X pins σ (upd H s.heap.objs.size (.lst ys)) { s with heap:=s.heap.push { cls:=.type "list",data:=.seq its.toArray },toks:=t' } :=
 I.laid (fun _ _ q=>UJ _ q) (UE _) ⟨hz,its,0,hv,U4 _ rfl⟩
theorem Inv.fresh (I:Inv X pins σ H s):H s.heap.objs.size=none:=I.hok.fresh (UE _)
theorem Inv.lstM (I:Inv X pins σ H s) (hH:H l=some (.lst xs)):xs.length<=sizeLine/\∃(its:List Value) (n:Nat),Vals xs its/\xs.length=its.length/\s.heap.get? l=some { cls:=.type "list",data:=.seq its.toArray n }:=by
 obtain⟨z,its,n,r,e⟩:=I.hok l _ hH
 exact⟨z,its,n,r,r.length,e⟩
theorem wO {n:Nat}(h:n<=sizeLine):Builtin.List.listTooLong n=false:=by
 unfold Builtin.List.listTooLong
 exact U6 (by omega)
end
section
variable {X:Cx}
def E7:V->List V->Hp->VK->Prop:=fun x vs H Q=>∃l xs y,x = .ref l/\vs=[y]/\H l=some (.lst xs)/\xs.length<sizeLine/\Q .non (upd H l (.lst (xs ++ [y])))
theorem dQ:SA X "list.append" E7:=by
 intro pins s σ H x vs v us Q I rx rv h
 obtain⟨l,xs,y,rfl,rfl,hH,hz,q⟩:=h
 cases rx
 obtain⟨u,rfl,ru⟩:=rv.one
 obtain⟨z,its,n,r,hl,e⟩:=I.lstM hH
 refine call_meets F.slot_list_append ⟨_,e,rfl⟩ F.entry_list_append (F.args_list_append_2 _ _) (PySem.list_append l its.toArray n u (by rw[Vc];omega)) ⟨e,?_⟩
 refine⟨.non,_,I.lset (its':=its ++ [u]) hH e (by simp) (r.append (.cons ru .nil)) ?_,rfl,q⟩
 rw[Uz,WS]
 omega
def FT:V->List V->Hp->VK->Prop:=fun x vs H Q=>∃l b xs zs,x = .ref l/\vs=[.ref b]/\H l=some (.lst xs)/\H b=some (.lst zs)/\xs.length+zs.length<=sizeLine/\Q .non (upd H l (.lst (xs++zs)))
theorem LV:SA X "list.extend" FT:=by
 intro pins s σ H x vs v us Q I rx rv h
 obtain⟨l,b,xs,zs,rfl,rfl,hH,hB,hz,q⟩:=h
 cases rx
 obtain⟨u,rfl,ru⟩:=rv.one
 cases ru
 obtain⟨z,its,n,r,hl,e⟩:=I.lstM hH
 obtain⟨z2,its2,n2,r2,hl2,e2⟩:=I.lstM hB
 have hsz:its.toArray.size+its2.toArray.size<=sizeLine:=by rw[Vc,Vc];omega
 have hlong:¬(!its.toArray.isEmpty && Builtin.List.listTooLong (its.toArray.size+its2.toArray.size))=true:=by
  rw[wO hsz,Bool.and_false]
  exact U0
 refine call_meets F.slot_list_extend ⟨_,e,rfl⟩ F.entry_list_extend (F.args_list_extend_2 _ _)
  (AutoSeq1.list_extend_list_list_0 l its.toArray n b its2.toArray n2 hlong (by rw[Vc];omega) (by omega)) ⟨e,e2,?_⟩
 refine⟨.non,_,I.lset (its':=its++its2) hH e (by simp) (r.append r2) ?_,rfl,q⟩
 rw[Uz]
 omega
def QO:R2:=fun x y H Q=>∃l b xs zs,x = .ref l/\y = .ref b/\H l=some (.lst xs)/\H b=some (.lst zs)/\xs.length+zs.length<=sizeLine/\∀p,H p=none->Q (.ref p) (upd H p (.lst (xs++zs)))
theorem fV:mS X (binaryOp .Add) QO:=by
 intro pins s σ H x y v u Q I rx ry h
 obtain⟨l,b,xs,zs,rfl,rfl,hH,hB,hz,q⟩:=h
 cases rx
 cases ry
 obtain⟨z,its,n,r,hl,e⟩:=I.lstM hH
 obtain⟨z2,its2,n2,r2,hl2,e2⟩:=I.lstM hB
 refine PySem.P.add_list e e2 ?_ (by rw[Vc,Vc];omega)
 have ea:its.toArray++its2.toArray =(its++its2).toArray:=by simp
 rw[ea]
 exact⟨.ref _,_,I.lnew (t':=s.toks) (r.append r2) (by rw[Uz];omega),rfl,q _ I.fresh⟩
end
end L2
namespace Att
open PySem PySem.W PySem.Calls PyProof.Rows
theorem oQ {P:Params}{h:Heap}:∀(ns:List Int) (vs:List Value),WellAll P h vs (ns.map WData.int)->IntsAre vs ns:=by
 intro ns
 induction ns with
 | nil =>
  intro vs w
  rw[List.map_nil]at w
  cases w
  exact .nil
 | cons n ns ih =>
  intro vs w
  rw[Vi]at w
  cases w with
  | cons a b =>
   cases a
   exact .cons _ _ (ih _ b)
theorem BB {l:OpenLaw}{n:Nat}(hn:l.most=some n) {P:Params}{h:Heap}{args:List WData}{vals:List Value}
  (hpre:l.row.toRowW.claim.pre args=true) (hwl:WellAll P h vals args) :
  ∃a vs ns,vals=[Value.ref a]/\args=[WData.list (ns.map WData.int)]/\h.get? a=some { cls:=.type "list",data:=.seq vs.toArray }/\IntsAre vs ns/\ns.length<=n:=by
 have hsh:WShape.hasAll [] args [.list .int]=true:=(pre_splitW hpre).1
 have hc:l.pre.holds [] { args:=args } = true:=(pre_splitW hpre).2
 obtain⟨d,r,rfl,h1,h2⟩:=hasAllW_cons hsh
 obtain rfl:=hasAllW_nil h2
 obtain⟨xs,rfl,h3⟩:=hasW_list h1
 obtain⟨ns,rfl⟩:=items_int h3
 have hlen:ns.length<=n:=by
  unfold OpenLaw.pre at hc
  have h4:(WTm.not (.lt (.lit (.int (n:Int))) (.len (.arg 0)))).holds [] { args:=[.list (ns.map .int)] } = true:=by
   have h4:=(holds_andW hc).1
   rw[hn]at h4
   exact h4
  have h5:=condW_of h4 (w_not (w_lt w_lit (w_len_list (w_arg rfl))))
  rw[Uv]at h5
  refine Nat.le_of_not_lt fun q=>?_
  have q':(n:Int) <((ns.length:Nat):Int):=by omega
  first
   | (rw[U8 q']at h5;exact absurd h5 (by decide))
   | (simp at h5;omega)
 cases hwl with
 | cons w1 w2 =>
  cases w2
  cases w1 with
  | list ho hall=>exact⟨_,_,ns,rfl,rfl,ho,oQ ns _ hall,hlen⟩
theorem BX (l:OpenLaw) (args:List WData):l.row.toRowW.claim.post args (.bool true) args=true :=
 postW_of (r:=l.row.toRowW) (X:=(true == true))
  (show WShape.has [] (.bool true) .bool=true by first|rfl|decide|simp[WShape.has,WShape.arms,WShape.armsAll])
  (show(WTm.eq .res (.lit (.bool true))).value [] { args:=args,res:=some (.bool true),after:=args } = some (.bool (true == true)) from w_eq_bool (w_res rfl) w_lit) rfl
theorem attach_call {l:OpenLaw}{n:Nat}{q:Program}{loose:List Str}{XP:(Str->Option Value)->Heap->Prop}{YP:World->Heap->Prop}{d:DefRec}
  (hn:l.most=some n) (hdf:d.params.defaults=[])
  (call:∀(w:World) (s₀ s₁:Shared) (mg mb:Str->Option Value) (fa:Addr) (o:Obj) (pm cd doc:Value) (a:Addr) (vs:List Value) (ns:List Int),
   Ground q loose [] XP w s₀ mg mb s₁.heap->YP w s₁.heap ->
   s₁.heap.get? fa=some o->o.data = .func (docDef d.name d.params d.body d.scope pm cd doc)->s₁.heap.CodeRec cd d.name->mg d.name=some (.ref fa) ->
   s₁.heap.get? a=some { cls:=.type "list",data:=.seq vs.toArray }->IntsAre vs ns->ns.length<=n->s₁.gens = #[] ->
   codeAny (model l.prog w) callerA (.call (.ref fa) ⟨[.ref a],[]⟩) (fun r s'=>r = .ok (.ret (.bool true))/\OldK s₁.heap s'.heap/\s'.os=s₁.os/\AllBare s'.gens) s₁) :
  WalkO q loose XP YP l.row.toRowW d [] (fun f vs=>PySem.call f vs):=by
 intro w s₀ s₁ mg mb G Y fa o pm cd doc dV kV ho hd hcd hD hmg hg args vals as hpre hlay hrd hwl hlo
 obtain rfl:dV = .none:=Dflts.none hD hdf
 obtain rfl:kV = .none:=Dflts.noKw hD
 obtain⟨a,vs,ns,rfl,rfl,hobj,hints,hlen⟩:=BB hn hpre hwl
 refine enter_call (XD (call w s₀ s₁ mg mb fa o pm cd doc a vs ns G Y ho (fd_plain hd) hcd hmg hobj hints hlen hg) fun r s' hq=>?_)
 obtain⟨rfl,h2,h3,h4⟩:=hq
 exact⟨.inl ⟨.bool true,.bool true,[],rfl,fun _=>rfl,.bool true,BX l _,fun _=>⟨List.Pairwise.nil,fun _ hm=>(nomatch hm)⟩⟩,h2,h3,h4⟩
end Att
namespace L2
open PySem PySem.Spec PyProof.Rows
theorem j_:∀{vs:List Value}{ns:List Int},IntsAre vs ns->Vals (ns.map V.int) vs
 | _,_,.nil=>.nil
 | _,_,.cons n t h=>.cons ⟨t,rfl⟩ (j_ h)
def Jd (H:Hp):Prop:=∀b,H b=none \/ ∃o xs,H b=some (.frz o (.lst xs))
theorem Ew {P:Program}{w:World}{K:W.Frag}{mg mb:Str->Option Value}{CX:EZ}{k:Nat}{fa a:Addr}{fd:FuncData}{x:Str}{sp:Sp}{s₁:Shared}{vs:List Value}{ns:List Int}
  (KX:K.In s₁.heap) (hns:s₁.heap.Ns mainGlobals mg) (hb:s₁.heap.Ns builtinsNs mb) (hbb:∀x:Str,x ≠ "__name__"->mb x=bootBuiltins x) (hlim:s₁.heap.NoLimit) (hg:s₁.gens = #[])
  (ha:s₁.heap.get? a=some { cls:=.type "list",data:=.seq vs.toArray }) (hi:IntsAre vs ns) (hl:ns.length<=sizeLine) (hr:gR k callerA)
  (F:∀base:Heap,K.In base->base.Ns mainGlobals mg->sP P w K mg base CX k fa fd [x] sp) (hbind:∀(s:Shared) (u:Value),BindsTo s fd ⟨[u],[]⟩ [(x,u)])
  (hsp:∀H:Hp,Jd H->aW K H a (ns.map V.int)->sp [.ref a] H (fun v _=>v = .bl true) fun _ _ _=>False)
  (hCX:∀H e s',CX [] H s₁ (fun _ _ _=>False) e s'->False) :
  codeAny (model P w) callerA (.call (.ref fa) ⟨[.ref a],[]⟩) (fun r s'=>r = .ok (.ret (.bool true))/\OldK s₁.heap s'.heap/\s'.os=s₁.os/\AllBare s'.gens) s₁:=by
 have rv:=j_ hi
 have lenV:=hi.length
 have core:∀H:Hp,Jd H->aW K H a (ns.map V.int)->mT P w H s₁.heap->(∀b,H b≠none->b=a)->(H a≠none->K.lookup a=none) ->
   codeAny (model P w) callerA (.call (.ref fa) ⟨[.ref a],[]⟩) (fun r s'=>r = .ok (.ret (.bool true))/\OldK s₁.heap s'.heap/\s'.os=s₁.os/\AllBare s'.gens) s₁:=by
  intro H hO hS hok hA hK
  have base_of:∀{b:Addr}{o:Obj},s₁.heap.get? b=some o->H b=none->(vR s₁.heap H).get? b=some o:=fun e n=>Ec e n
  have noA:∀{b:Addr}{o:Obj}{es:Array DictEntry}{ep:Nat},s₁.heap.get? b=some o->o.data = .dict es ep->H b=none:=fun {b o es ep} e d=>by
   cases q:H b with
   | none=>rfl
   | some u =>
    have e':b=a:=hA b (by rw[q];simp)
    subst e'
    rw[ha]at e;cases e
    have d':Data.seq vs.toArray _=Data.dict es ep:=d
    cases d'
  have nsK:∀{b:Addr}{m:Str->Option Value},s₁.heap.Ns b m->(vR s₁.heap H).Ns b m:=fun {b m} ⟨o,es,ep,e,d,r⟩=>⟨o,es,ep,base_of e (noA e d),d,r⟩
  have hKb:K.In (vR s₁.heap H):=fun b o e=>base_of (KX b o e) (by
   cases q:H b with
   | none=>rfl
   | some u =>
    have e':b=a:=hA b (by rw[q];simp)
    subst e'
    rw[hK (by rw[q];simp)]at e;cases e)
  have hM:Mod K mg (vR s₁.heap H):=⟨hKb,nsK hns,⟨mb,nsK hb,hbb⟩,let ⟨mc,h1,h2⟩:=hlim;⟨mc,nsK h1,h2⟩⟩
  have e0:Gs P w K mg (vR s₁.heap H) callerA [] s₁ H:=⟨rfl,hM,fun b o e=>Fz e,Nat.le_of_eq (BE _ _),trivial,fun b hb=>absurd (show b∈([]:List Addr) from hb) (by simp),hok,.of_eq hg⟩
  refine XD ((F _ hKb (nsK hns)).run callerA [] s₁ H ⟨[.ref a],[]⟩ [.ref a] [.ref a] _ _ hr e0 (hbind s₁ (.ref a)) (.cons rfl .nil) (hsp H hO hS)) fun r s' h=>?_
  cases r with
  | error e=>exact(hCX H e s' h).elim
  | ok fl =>
   cases fl with
   | next=>exact False.elim h
   | brk=>exact False.elim h
   | cont=>exact False.elim h
   | ret u =>
    obtain⟨v,H',os,bare,un,hok',r',q⟩:=h
    have q':v = .bl true:=q
    subst q'
    obtain rfl:u=Value.bool true:=r'
    refine⟨rfl,OldK.of_keep fun b o e=>?_,os,bare⟩
    cases q:H b with
    | none=>exact un.keep b o e q (by intro z;exact absurd (show b∈([]:List Addr) from z) (by simp)) (by simp)
    | some u =>
     rcases hO b with z|⟨ob,xs,z⟩
     ·rw[q]at z;cases z
     ·have z2:=un.frzs b ob _ z
      obtain⟨e1,_⟩:=hok b _ z
      obtain⟨e2,_⟩:=hok' b _ z2
      rw[e]at e1;cases e1
      exact e2
 cases hk:K.lookup a with
 | some o =>
  have e:=KX a o hk
  rw[ha]at e
  cases e
  refine core (fun _=>none) (fun _=>.inl rfl) (.inr ⟨_,vs.toArray,_,hk,rfl,rfl,rfl,by rw[Vc,lenV];exact hl,by simpa using rv⟩) (fun b u z=>by have z':(none:Option HO)=some u:=z;cases z') (fun b z=>absurd rfl z) fun z=>absurd rfl z
 | none =>
  refine core (fun b=>if b=a then some (.frz { cls:=.type "list",data:=.seq vs.toArray } (.lst (ns.map V.int))) else none) (fun b=>?_) (.inl (.inr ⟨{ cls:=.type "list",data:=.seq vs.toArray },UN rfl⟩)) (fun b u z=>?_) (fun b z=>?_) fun _=>hk
  ·by_cases hb:b=a
   ·exact .inr ⟨_,_,UN hb⟩
   ·exact .inl (UM hb)
  ·by_cases hb:b=a
   ·have z':=(UN hb).symm.trans z
    cases z'
    subst hb
    exact⟨ha,by rw[Uv];exact hl,vs,_,rv,ha⟩
   ·have z':=(UM hb).symm.trans z
    cases z'
  ·by_cases hb:b=a
   ·exact hb
   ·exact absurd (UM hb) z
theorem Ho {l:PySem.W.OpenLaw}{n k:Nat}{q:Program}{loose:List Str}{XP:(Str->Option Value)->Heap->Prop}{YP:World->Heap->Prop}{d:DefRec}{K:Params->W.Frag}{CX:World->EZ}{sp:World->Sp}{x:Str}
  (hn:l.most=some n) (hn2:n<=sizeLine) (hdf:d.params.defaults=[]) (hr:gR k callerA)
  (hY:∀(w:World) (h:Heap),YP w h->(K w.params).In h)
  (F:∀(w:World) (mg:Str->Option Value) (fa:Addr) (h:Heap),(K w.params).In h->h.Ns mainGlobals mg->mg d.name=some (.ref fa) ->
   ∃fd:FuncData,(∀(s:Shared) (u:Value),BindsTo s fd ⟨[u],[]⟩ [(x,u)]) /\
    ∀base:Heap,(K w.params).In base->base.Ns mainGlobals mg->sP l.prog w (K w.params) mg base (CX w) k fa fd [x] (sp w))
  (hsp:∀(w:World) (H:Hp) (a:Addr) (ns:List Int),ns.length<=n->Jd H->aW (K w.params) H a (ns.map V.int)->sp w [.ref a] H (fun v _=>v = .bl true) fun _ _ _=>False)
  (hCX:∀(w:World) (H:Hp) (s:Shared) (e:Value) (s':Shared),CX w [] H s (fun _ _ _=>False) e s'->False) :
  PySem.W.WalkO q loose XP YP l.row.toRowW d [] (fun f vs=>PySem.call f vs):=by
 refine Att.attach_call hn hdf fun w s₀ s₁ mg mb fa o pm cd doc a vs ns G Y ho hd hcd hmg hobj hints hlen hg=>?_
 have KX:=hY w _ Y
 obtain⟨fd,hb,hF⟩:=F w mg fa _ KX G.T.g hmg
 exact Ew KX G.T.g G.T.b G.T.builtins G.T.nolimit hg hobj hints (UP hlen hn2) hr hF hb (fun H hO hS=>hsp w H a ns hlen hO hS) fun H e s'=>hCX w H s₁ e s'
def fN (s:Stmt):Arguments:=match s with
 | .FunctionDef _ a _ _ _ _ _ _ _ _=>a
 | _=>{ posonlyargs:=[],args:=[],vararg:=none,kwonlyargs:=[],kw_defaults:=[],kwarg:=none,defaults:=[] }
def dU (s:Stmt):List Stmt:=match s with
 | .FunctionDef _ _ b _ _ _ _ _ _ _=>b
 | _=>[]
def aq (s:Stmt):Scope:=match s with
 | .FunctionDef _ _ _ _ _ _ sc _ _ _=>sc
 | _=>{ kind:=.function,names:=[],isGenerator:=false,isCoroutine:=false }
abbrev Hu:EZ:=fun _ _ _ _ _ _=>False
abbrev E0:XK:=fun _ _ _=>False
theorem MK {X:Cx}:Passes Hu X E0:=fun _ _ _ _ _ _ _ h=>h.elim
structure fz (K:W.Frag) (x qual:Str) (st:Stmt) (f:Addr) (fd:FuncData):Prop where
 ex:∃(oc:Value) (od:Option Addr) (kV doc pm:Value) (an:Option Addr) (cdv ct:Value) (osl:Array (Option Value)),
  fd=W.fnOf x qual (fN st) (dU st) (aq st) .none kV doc pm an cdv ct/\K.lookup f=some ⟨oc,od,.func fd,osl⟩/\W.codeIn K cdv qual=true
 kp:W.keepIn K (.ref f)=true
section
variable {P:Program}{w:World}{K:W.Frag}{mg:Str->Option Value}{base:Heap}
theorem fz.ok {x qual:Str}{st:Stmt}{f:Addr}{fd:FuncData}{N ps:List Str}{k:Nat}{sp:Sp}(F:fz K x qual st f fd) (S:aP N ps (aq st)) (len:∀vs H Q E,sp vs H Q E->vs.length=ps.length)
  (hbody:∀(cdv:Value) (A:Around) (outer:List Env) (s:Shared) (H:Hp) (vs:List V) (Q:VK) (E:XK),gR k (A.deeper (envOfC qual (aq st) s.heap.objs.size f cdv))->sp vs H Q E ->
   ∃t,A1 (zI Hu P w K mg base N qual (aq st) f cdv A outer s H E).nox (dU st) t/\t { nx:=fun _ H'=>Q .non H',rt:=Q } (start N vs) H):sP P w K mg base Hu (k+1) f fd ps sp:=by
 obtain⟨oc,od,kV,doc,pm,an,cdv,ct,osl,rfl,lk,hcd⟩:=F.ex
 refine NC lk hcd S len fun A outer s H vs Q E hr hsp=>?_
 obtain⟨t,h,q⟩:=hbody cdv A outer s H vs Q E hr hsp
 exact⟨t,h.nox,q⟩
theorem fz.binds {x qual:Str}{st:Stmt}{f:Addr}{fd:FuncData}{ps:List Str}(F:fz K x qual st f fd)
  (h:∀(kV doc pm:Value) (an:Option Addr) (cdv ct:Value) (us:List Value),us.length=ps.length->bindArgs (W.fnOf x qual (fN st) (dU st) (aq st) .none kV doc pm an cdv ct) ⟨us,[]⟩=pure (ps.zip us)):Binds K fd ps []:=by
 obtain⟨oc,od,kV,doc,pm,an,cdv,ct,osl,rfl,lk,hcd⟩:=F.ex
 exact .all (h kV doc pm an cdv ct)
theorem DJ {x qual:Str}{st:Stmt}{f:Addr}{oc:Value}{od an:Option Addr}{osl:Array (Option Value)}{kV doc pm cdv ct:Value}(l:K.lookup f=some ⟨oc,od,.func (W.fnOf x qual (fN st) (dU st) (aq st) .none kV doc pm an cdv ct),osl⟩)
  (c:W.codeIn K cdv qual=true) (k:W.keepIn K (.ref f)=true):fz K x qual st f (W.fnOf x qual (fN st) (dU st) (aq st) .none kV doc pm an cdv ct):=⟨⟨oc,od,kV,doc,pm,an,cdv,ct,osl,rfl,l,c⟩,k⟩
end
theorem Eu {A:Around}{k:Nat}(hr:gR k A):A.units+1<cLine:=Nat.lt_of_le_of_lt (Nat.add_le_add_left (by decide:1<=64) _) hr.units
theorem aE {n:Nat}(h:n<=1000):n<sizeLine:=Nat.lt_of_le_of_lt h (by decide)
section
variable {X:Cx}
theorem pv (i:Nat) {x:Str}{pos:Pos}(hN:X.N[i]? = some x:=by rfl) (hv:OO X.env.scope x:=by first|exact Or.inl rfl|exact Or.inr (Or.inl rfl)|exact Or.inr (Or.inr rfl)) (hd:(x ==("__debug__" : Str))=false:=by decide)
  (hcd:(x ==("__classdict__" : Str))=false:=by decide):PE X (.Name x pos) (KW i):=K6 hN hv hd hcd
end
theorem Pw {A B:Prop}(h:B):if false=true then A else B:=by
 rw[UM U0]
 exact h
theorem Nn {A B:Prop}(h:A):if true=true then A else B:=by
 rw[UN rfl]
 exact h
def aO (H H':Hp):Prop:=∀b o,H b=some o->H' b=some o
theorem aO.refl (H:Hp):aO H H:=fun _ _ h=>h
theorem aO.trans {H H1 H2:Hp}(a:aO H H1) (b:aO H1 H2):aO H H2:=fun c o h=>b c o (a c o h)
theorem aO.free {H H':Hp}(e:aO H H') {l:Addr}(h:H' l=Option.none):H l=Option.none:=by
 cases q:H l with
 | none=>rfl
 | some o =>
  rw[e l o q]at h
  cases h
theorem aO.seq {K:W.Frag}{H H':Hp}{a:Addr}{xs:List V}(e:aO H H') (h:aW K H a xs):aW K H' a xs:=by
 rcases h with(h|⟨o,h⟩)|h
 ·exact .inl (.inl (e _ _ h))
 ·exact .inl (.inr ⟨o,e _ _ h⟩)
 ·exact .inr h
def ie (env:Env):List (Str×NameKind)->List (Str×Addr)->List (Str×Addr)
 | [],cs=>cs
 | (n,k)::r,cs=>ie env r (if k == .free then(n,(env.cells.lookup n).getD 0)::cs else cs)
def jK (env:Env) (x:Str×NameKind) (s:List (Str×Addr)):Sem (ForInStep (List (Str×Addr))):=if (x.2 == NameKind.free)=true then cellOf env x.1 >>= fun c=>pure (ForInStep.yield ((x.1,c)::s)) else pure (ForInStep.yield s)
theorem kJ {env:Env}:∀{ns:List (Str×NameKind)}(cs:List (Str×Addr)),(∀y∈ns,y.2 = .free->∃c,env.cells.lookup y.1=some c)->(forIn ns cs (jK env):Sem (List (Str×Addr)))=pure (ie env ns cs)
 | [],cs,_=>rfl
 | (n,k)::r,cs,h=>by
  rw[List.forIn_cons]
  have hr:∀y∈r,y.2 = .free->∃c,env.cells.lookup y.1=some c:=fun z hz=>h z (UK _ hz)
  cases hk:(k == NameKind.free) with
  | false =>
   have e1:jK env (n,k) cs=pure (ForInStep.yield cs):=by
    unfold jK
    exact UM (by rw[show(n,k).2=k from rfl,hk];decide)
   rw[e1,pure_bind]
   show forIn r cs (jK env)=_
   rw[kJ cs hr]
   show pure (ie env r cs)=pure (ie env r (if (k == NameKind.free)=true then(n,(List.lookup n env.cells).getD 0)::cs else cs))
   rw[hk]
   rfl
  | true =>
   have hk':k = .free:=by simpa using hk
   obtain⟨c,hc⟩:=h (n,k) UQ hk'
   have hc':env.cells.lookup n=some c:=hc
   have q:cellOf env n=pure c:=by unfold cellOf;rw[hc']
   have e1:jK env (n,k) cs=pure (ForInStep.yield ((n,c)::cs)):=by
    unfold jK
    rw[UN (by rw[show(n,k).2=k from rfl,hk]),show(n,k).1=n from rfl,q,pure_bind]
   rw[e1,pure_bind]
   show forIn r ((n,c)::cs) (jK env)=_
   rw[kJ _ hr]
   show pure (ie env r ((n,c)::cs))=pure (ie env r (if (k == NameKind.free)=true then(n,(List.lookup n env.cells).getD 0)::cs else cs))
   rw[hk,hc']
   rfl
theorem kZ {scope:Scope}{env:Env}(h:∀y∈scope.names,y.2 = .free->∃c,env.cells.lookup y.1=some c):closureFor scope env=pure (ie env scope.names []):=by
 show(forIn scope.names ([]:List (Str×Addr)) (jK env) >>= fun s=>(pure s:Sem (List (Str×Addr))))=_
 rw[kJ [] h,pure_bind]
theorem rH {env:Env}{n:Str}{c:Addr}:∀{ns:List (Str×NameKind)}{cs:List (Str×Addr)},(∀y∈ns,y.2 = .free->∃c,env.cells.lookup y.1=some c)->(∀p∈cs,env.cells.lookup p.1=some p.2)->(ie env ns cs).lookup n=some c->env.cells.lookup n=some c
 | [],cs,_,hc,h=>hc _ (Wm h)
 | (m,k)::r,cs,hn,hc,h=>by
  unfold ie at h
  refine rH (fun y hy=>hn y (UK _ hy)) ?_ h
  intro p hp
  split at hp
  ·rename_i hk
   have hk':k = .free:=by simpa using hk
   obtain⟨c',hc'⟩:=hn (m,k) UQ hk'
   have hc2:env.cells.lookup m=some c':=hc'
   rw[hc2]at hp
   rcases U9.mp hp with rfl|hp
   ·exact hc2
   ·exact hc p hp
  ·exact hc p hp
theorem eT {n:Str}:∀{cs:List (Str×Addr)},(∃c,(n,c)∈cs)->∃c,cs.lookup n=some c
 | [],⟨_,h⟩=>absurd h (by simp)
 | (m,d)::r,⟨c,h⟩=>by
  rw[V1]
  by_cases e:n=m
  ·subst e;exact⟨d,by simp⟩
  ·have:(n == m)=false:=W4.mpr e
   rw[this]
   rcases U9.mp h with z|z
   ·cases z;exact absurd rfl e
   ·exact eT ⟨c,z⟩
theorem pS {env:Env}{p:Str×Addr}:∀{ns:List (Str×NameKind)}{cs:List (Str×Addr)},p∈cs->p∈ie env ns cs
 | [],_,h=>h
 | (m,k)::r,cs,h=>by
  unfold ie
  refine pS ?_
  split
  ·exact UK _ h
  ·exact h
theorem qa {env:Env}{n:Str}:∀{ns:List (Str×NameKind)}{cs:List (Str×Addr)},(n,NameKind.free)∈ns->∃c,(n,c)∈ie env ns cs
 | [],_,h=>absurd h (by simp)
 | (m,k)::r,cs,h=>by
  unfold ie
  rcases U9.mp h with z|z
  ·cases z
   exact⟨(env.cells.lookup n).getD 0,pS (by simp)⟩
  ·exact qa z
def bx (X:Cx) (scope:Scope) (N:List Str) (C:Addr) (s:Shared) (H:Hp) (ex:List Addr):Cx :=
 { X with N:=N,s₀:=s,H₀:=H,env:=compEnvC scope (ie X.env scope.names []) C X.env,outer:=X.stack,ex:=ex,fn:=fun _=>false,pn:=[],xe:=fun _ _=>False }
structure nV (X:Cx) (scope:Scope) (vs fs:List Str) (js:List Nat):Prop where
 kind:scope.kind = .function
 cell:∀y∈scope.names,y.2 ≠ .cell
 names:∀y∈scope.names,y.2 = .local->scope.names.lookup y.1=some .local
 free:∀y∈scope.names,y.2 = .free->X.env.kindOf y.1=some .cell\/X.env.kindOf y.1=some .free
 own:∀y∈vs,scope.names.lookup y=some .local
 cap:∀y∈fs,scope.names.lookup y=some .free
 ix:js.map (fun j=>X.N[j]?)=fs.map some
def jV (vs:List Str) (js:List Nat) (σ:St):St:=vs.map (fun _=>none)++js.map (fun j=>(σ[j]?).join)
theorem kB {env:Env}{names:List (Str×NameKind)}{x:Str}(h:names.lookup x=some .free) :
  (names.map fun(n,k)=>if (k == NameKind.free && env.scope.kind == .function && env.kindOf n == some .cell) then(n,NameKind.cell) else(n,k)).lookup x=some .cell \/
  (names.map fun(n,k)=>if (k == NameKind.free && env.scope.kind == .function && env.kindOf n == some .cell) then(n,NameKind.cell) else(n,k)).lookup x=some .free:=by
 induction names with
 | nil=>cases h
 | cons y r ih =>
  obtain⟨n,k⟩:=y
  rw[Vi]
  show List.lookup x ((if (k == NameKind.free && env.scope.kind == .function && env.kindOf n == some .cell)=true then(n,NameKind.cell) else(n,k))::_)=_\/List.lookup x ((if (k == NameKind.free && env.scope.kind == .function && env.kindOf n == some .cell)=true then(n,NameKind.cell) else(n,k))::_)=_
  rw[V1]at h
  cases e:x == n with
  | true =>
   rw[e]at h
   have h':k = .free:=by simpa using h
   subst h'
   split
   ·left;rw[V1,e]
   ·right;rw[V1,e]
  | false =>
   rw[e]at h
   have h':=ih h
   split
   ·rw[V1,e];exact h'
   ·rw[V1,e];exact h'
theorem lY {env:Env}{names:List (Str×NameKind)}{x:Str}{kk:NameKind}
  (h:(names.map fun(n,k)=>if (k == NameKind.free && env.scope.kind == .function && env.kindOf n == some .cell) then(n,NameKind.cell) else(n,k)).lookup x=some kk) :
  (kk = .cell/\(x,NameKind.free)∈names) \/(x,kk)∈names:=by
 induction names with
 | nil=>cases h
 | cons y r ih =>
  obtain⟨n,k⟩:=y
  rw[Vi]at h
  have h2:List.lookup x ((if (k == NameKind.free && env.scope.kind == .function && env.kindOf n == some .cell)=true then(n,NameKind.cell) else(n,k))::(r.map fun(n,k)=>if (k == NameKind.free && env.scope.kind == .function && env.kindOf n == some .cell) then(n,NameKind.cell) else(n,k)))=some kk:=h
  cases e:x == n with
  | true =>
   have e':x=n:=by simpa using e
   subst e'
   split at h2
   ·rename_i hc
    rw[V1,e]at h2
    have h3:kk = .cell:=by simpa using h2.symm
    have hk:k = .free:=by
     have:=(XN _ _ ▸ hc).1
     have:=(XN _ _ ▸ this).1
     simpa using this
    subst hk
    exact .inl ⟨h3,UQ⟩
   ·rw[V1,e]at h2
    have h3:kk=k:=by simpa using h2.symm
    subst h3
    exact .inr UQ
  | false =>
   have h3:(r.map fun(n,k)=>if (k == NameKind.free && env.scope.kind == .function && env.kindOf n == some .cell) then(n,NameKind.cell) else(n,k)).lookup x=some kk:=by
    split at h2
    ·rw[V1,e]at h2;exact h2
    ·rw[V1,e]at h2;exact h2
   rcases ih h3 with⟨a,b⟩|b
   ·exact .inl ⟨a,UK _ b⟩
   ·exact .inr (UK _ b)
section
variable {prog:Program}{w:World}{A:Around}{R:Result->Shared->Prop}{s:Shared}
theorem jJ {elt target iter:Expr}{ifs:List Expr}{scope:Scope}{pos:Pos}{it acc:Value}{env:Env}(I:Nat->Shared->Prop)
  (turn:∀n s,I n s->wpAny (model prog w) A (pyNext it) (fun r s₁=>match r with
   | none=>R (.ok .next) s₁
   | some v=>wpAny (model prog w) A (letOwnedTupleGo target it v) (fun _ s₁'=>wpAny (model prog w) A (assign target env v) (fun _ s₂ =>
     wpAny (model prog w) A (forIn ifs true fun c r=>if r=true then do let ok <- isTrue c env (eval c env);pure (ForInStep.yield ok) else pure (ForInStep.yield r)) (fun ok s₃ =>
      if ok=true then wpAny (model prog w) A (eval elt env) (fun x s₄ =>
       wpAny (model prog w) A (call (.builtin "list.append") [acc,x]) (fun _ s₅=>∃m,m<n/\I m s₅) (fun _ _=>False) s₄) (fun _ _=>False) s₃
      else ∃m,m<n/\I m s₃) (fun _ _=>False) s₂) (fun _ _=>False) s₁') (fun _ _=>False) s₁) (fun _ _=>False) s)
  (n:Nat) (h:I n s) :
  codeAny (model prog w) A (.compLoop (.ListComp elt [⟨target,iter,ifs,0⟩] scope pos) 0 it acc env) R s:=by
 refine codeAny_loop rfl I (fun n s hI=>?_) n h
 show wpAny _ A ((compTurn (.ListComp elt [⟨target,iter,ifs,0⟩] scope pos) 0 it acc env).onRaise (fun x=>do noteFrame x env;theTreesLotGoes x)) _ _ s
 refine wpAny_noted ?_
 rw[compTurn_list]
 refine Uw (W0 (Uw (Vx (turn n s hI) (fun r s₁ h₁=>?_) fun _ _ h'=>h'.elim)))
 cases r with
 | none=>exact UD h₁
 | some v =>
  refine Uw (Vx h₁ (fun _ s₁' h₁'=>?_) fun _ _ h'=>h'.elim)
  refine Uw (Vx h₁' (fun _ s₂ h₂=>Uw (Vx h₂ (fun ok s₃ h₃=>?_) fun _ _ h'=>h'.elim)) fun _ _ h'=>h'.elim)
  cases ok with
  | false=>exact UD ⟨rfl,h₃⟩
  | true =>
   exact Uw (Uw (Vx h₃ (fun x s₄ h₄=>Uw (Vx h₄ (fun _ s₅ h₅=>UD (UD ⟨rfl,h₅⟩)) fun _ _ h'=>h'.elim)) fun _ _ h'=>h'.elim))
end
def uY (X:Cx) (ifs:List Expr) (t:TT):Prop :=
 ∀(pins:List (Addr×Obj)) (s:Shared) (σ:St) (H:Hp) (Q:Bool->Hp->Prop),Inv X pins σ H s->t σ H Q ->
  wpAny (model X.prog X.w) X.A (forIn ifs true fun c r=>if r=true then do let ok <- isTrue c X.env (eval c X.env);pure (ForInStep.yield ok) else pure (ForInStep.yield r)) (TP X pins σ Q) X.xe s
def MU:TT:=fun _ H Q=>Q true H
theorem gu {X:Cx}:uY X [] MU:=fun _ _ _ H _ I h=>wpAny_tests_nil ⟨H,I,h⟩
theorem vj {X:Cx}{c:Expr}{t:TT}(h:PT X c t):uY X [c] t:=fun pins s σ H Q I q=>wpAny_tests_one (h pins s σ H Q I q)
def uC (J:It) (vs:List Str) (js:List Nat) (σ:St) (g:TG) (tt:TT) (te:TE) (Q:VK) (D:Addr) (H1:Hp):Prop :=
 ∃W:Nat->Nat->St->List V->Hp->Prop,(∃m,W 0 m (jV vs js σ) [] (upd H1 D (.lst [])))/\∀i m σ' ys H',W i m σ' ys H' ->
  (J.stop i H'/\Q (.ref D) H') \/(J.go i H'/\∃N:St->List V->Hp->Prop,(∀σ2 zs H2,N σ2 zs H2->∃m',m'<m/\W (i+1) m' σ2 zs H2) /\
   ∀x H2,J.yld i H' x H2->g x σ' H2 fun σ3 H3=>tt σ3 H3 fun b H4=>if b=true then te σ3 H4 fun y H5=>H5 D=some (.lst ys)/\ys.length<sizeLine/\N σ3 (ys ++ [y]) (upd H5 D (.lst (ys ++ [y]))) else N σ3 ys H4)
def Cy (vs:List Str) (js:List Nat) (wi:TI) (g:TG) (tt:TT) (te:TE):TE:=fun σ H Q=>wi σ H fun J H1=>∀D,H1 D=none->uC J vs js σ g tt te Q D H1
section
variable {X:Cx}{pins:List (Addr×Obj)}{σ:St}{H:Hp}{s:Shared}{scope:Scope}{vs fs:List Str}{js:List Nat}
theorem sY {fp:List Addr}{C D:Addr}{h₁:Heap}{tk:Nat}{m:Str->Option Value}(I:Inv X pins σ H s) (B:nV X scope vs fs js) (hf:∀b∈fp,jA X pins H b) (hfp:∀b∈fp,b<s.heap.objs.size)
  (hn:h₁.Ns C m) (hk:∀b o,s.heap.get? b=some o->h₁.get? b=some o) (hD:D=s.heap.objs.size) (hC:s.heap.objs.size<C)
  (hl:h₁.get? D=some { cls:=.type "list",data:=.seq ([]:List Value).toArray }) :
  Inv (bx X scope (vs++fs) C s H fp) [] (jV vs js σ) (upd H D (.lst [])) { s with heap:=h₁,toks:=tk }:=by
 have hasX:∀y∈scope.names,y.2 = .free->∃c,X.env.cells.lookup y.1=some c:=fun y hy hf=>I.ok.has y.1 (B.free y hy hf)
 have snd:∀{y:Str}{c:Addr},(ie X.env scope.names []).lookup y=some c->X.env.cells.lookup y=some c:=fun h=>rH hasX (fun p hp=>absurd hp (by simp)) h
 have clt:∀{y:Str}{c:Addr},X.env.cells.lookup y=some c->c<s.heap.objs.size:=fun {y c} h=>by
  obtain⟨v,o,ho,_⟩:=I.cell y c h
  exact UU ho
 have hfr:H D=none:=by rw[hD];exact I.hok.fresh (UE _)
 have hfC:H C=none:=I.hok.fresh (VT hC)
 have nCD:C≠D:=by rw[hD];exact Xo hC
 refine⟨⟨I.ok.mod,B.kind,I.ok.glob,I.ok.blt,VT hC,fun y z c h1 h2=>I.ok.inj y z c (snd h1) (snd h2),fun y hy=>?_,fun y c z _=>absurd (show false=true from z) U0,I.ok.hd,I.ok.frames,.inl rfl,fun b hb=>⟨?_,fun y c h=>(hf b hb).2.2.2.2.1 y c (snd h)⟩,I.bs,UP I.ok.bsz I.sz,fun b o e hb=>?_,fun b hb z=>?_,I.stack,I.stkFree⟩,
  rfl,I.bare,Un.laid hk (Nat.le_of_eq hD.symm) hfr,⟨m,hn,fun i y v h1 h2 h3=>?_⟩,fun y c h=>?_,?_,fun y c h=>?_,fun p hp=>absurd (show p∈([]:List (Addr×Obj)) from hp) (by simp),I.hok.laid hk (Nat.le_of_eq hD.symm) ⟨by simp,[],0,.nil,hl⟩,?_⟩
 ·-- has
  have key:(y,NameKind.free)∈scope.names:=by
   rcases hy with hy|hy
   ·rcases lY hy with⟨_,z⟩|z
    ·exact z
    ·exact absurd rfl (B.cell _ z)
   ·rcases lY hy with⟨z,_⟩|z
    ·cases z
    ·exact z
  exact eT (qa key)
 ·exact UZ (Nat.lt_trans (hfp b hb) hC)
 ·rcases(hf b hb).2.2.2.1 with z|z
  ·exact I.ok.noex b o e z
  ·exact absurd (Vd (UU e) (UP I.ok.bsz z)) (Wh _)
 ·rcases U9.mp (I.stkSub b z) with e|e
  ·exact(hf b hb).2.1 e
  ·exact(hf b hb).2.2.1 e
 ·-- loc
  have hlen:js.length=fs.length:=by have:=Vk List.length B.ix;simpa using this
  have hi:¬ i<vs.length:=fun hi=>by
   unfold jV at h2
   rw[UO (by simpa using hi),UI]at h2
   cases e:vs[i]? with
   | none=>rw[e]at h2;cases h2
   | some a=>rw[e]at h2;cases h2
  have hi':vs.length<=i:=Nat.le_of_not_lt hi
  have h1':fs[i-vs.length]? = some y:=by
   have:=h1
   rw[show(bx X scope (vs++fs) C s H fp).N=vs++fs from rfl,UL hi']at this
   exact this
  have h2':(js[i-vs.length]?).map (fun j=>(σ[j]?).join)=some (some v):=by
   unfold jV at h2
   rw[UL (by simpa using hi'),Uv,UI]at h2
   exact h2
  cases ej:js[i-vs.length]? with
  | none=>rw[ej]at h2';cases h2'
  | some j =>
   rw[ej]at h2'
   have hσ:σ[j]? = some (some v):=by
    have z:(σ[j]?).join=some v:=US h2'
    cases q:σ[j]? with
    | none=>rw[q]at z;cases z
    | some o=>rw[q]at z;have z':o=some v:=z;rw[z']
   have hNj:X.N[j]? = some y:=by
    have q:=Vk (fun l=>l[i-vs.length]?) B.ix
    simp only[List.getElem?_map,ej,h1',Option.map_some]at q
    exact US q
   have hcap:=B.cap y (UA h1')
   have hmem:(y,NameKind.free)∈scope.names:=Wm hcap
   have hkX:=B.free _ hmem rfl
   have vis:OO X.env.scope y:=by
    rcases hkX with z|z
    ·exact .inr (.inl z)
    ·exact .inr (.inr z)
   obtain⟨m0,hn0,hl0⟩:=I.loc
   obtain⟨u,r,l⟩:=hl0 j y v hNj hσ vis
   refine⟨u,r,.inr ⟨kB hcap,?_⟩⟩
   rcases l with⟨z,_⟩|⟨_,c,hc,hcell⟩
   ·rcases hkX with q|q <;> (rw[q]at z;cases z)
   ·obtain⟨c',hc'⟩:=eT (qa (env:=X.env) (cs:=[]) hmem)
    have e:=snd hc'
    rw[hc]at e
    cases e
    exact⟨c,hc',hcell.keeps hk⟩
 ·obtain⟨v,z⟩:=I.cell y c (snd h)
  exact⟨v,z.keeps hk⟩
 ·rw[show(bx X scope (vs++fs) C s H fp).env.locals=C from rfl,av nCD]
  exact hfC
 ·have q:=snd h
  have ne:c≠D:=by rw[hD];exact UZ (clt q)
  rw[av ne]
  exact I.freeC y c q
 ·have hlen:js.length=fs.length:=by have:=Vk List.length B.ix;simpa using this
  show(vs.map _++js.map _).length =(vs++fs).length
  rw[Uz,Uz,Uv,Uv,hlen]
theorem Inv.goneC {H':Hp}{s':Shared}{C:Addr}{h'':Heap}(I2:Inv X pins σ H s) {σ':St}(I':Inv X pins σ' H' s') (hC:H' C=none) (hle:s.heap.objs.size<=C) (hs:Heap.SameBut C s'.heap h''):Inv X pins σ' H' { s' with heap:=h'' }:=by
 refine I'.turned (t':=s'.toks) (fun b o hb e=>(hs.2 b hb).trans e) hC (Xo (Vd I2.lt hle)) (.inr (UP I2.sz hle)) (fun y c e z=>?_) fun p hp z=>?_
 ·obtain⟨v,o,ho,_⟩:=I2.cell y c e
  have:=UU ho
  rw[z]at this
  exact absurd (Vd this hle) (Wh _)
 ·have:=UU (I2.pin p hp).1
  rw[z]at this
  exact absurd (Vd this hle) (Wh _)
theorem A4 {tg iter elt:Expr}{ifs:List Expr}{pos:Pos}{g:TG}{tt:TT}{te:TE}(hc:X.calm=true) (B:nV X scope vs fs js)
  (hg:∀C s H ex,PG (bx X scope (vs++fs) C s H ex) tg g) (ht:∀C s H ex,uY (bx X scope (vs++fs) C s H ex) ifs tt) (he:∀C s H ex,PE (bx X scope (vs++fs) C s H ex) elt te)
  {it:Addr}{fp:List Addr}{tn:Nat->Heap->Prop}{J:It}{Q:VK}{E:Value->Shared->Prop}(I2:Inv X pins σ H s) (T:Turn X.prog X.w X.K tg J fp it tn) (st2:tn 0 s.heap) (f2:∀b∈fp,jA X pins H b)
  (hW:∀D,H D=none->uC J vs js σ g tt te Q D H)
  {RR:Value->Addr->Result->Shared->Prop}
  (hR:∀D C H' s',Inv X pins σ H' s'->(∃m,s'.heap.Ns C m)->H' C=none->s.heap.objs.size<=C->Q (.ref D) H'->RR (.ref D) C (.ok .next) s') :
  wpAny (model X.prog X.w) X.A (newList []) (fun acc s₃=>wpAny (model X.prog X.w) X.A (newFunctionEnv scope X.env.globals (ie X.env scope.names []) [] X.env.qual none .none (some X.env)) (fun cenv s₄ =>
   codeAny (model X.prog X.w) X.A (.compStart (.ListComp elt [⟨tg,iter,ifs,0⟩] scope pos) 0 (.ref it) acc { cenv with scope:=relabel scope X.env }) (RR acc cenv.locals) s₄) E s₃) E s:=by
 have hfp:∀b∈fp,b<s.heap.objs.size:=fun b hb=>by
  obtain⟨o,e,_⟩:=T.obj _ _ st2 b hb
  exact UU e
 refine WB (wpAny_newFunctionEnv B.cell (by intro y hy;simp at hy) (fun h₁ hns₁ hsb₁=>?_) B.kind)
 dsimp only at hns₁ hsb₁ ⊢
 generalize hH2:s.heap.push { cls:=.type "list",dict:=none,data:=.seq ([]:List Value).toArray } = HH at hns₁ hsb₁ ⊢
 have hC:HH.objs.size=s.heap.objs.size+1:=by rw[<- hH2,Wz]
 have hlt:s.heap.objs.size<HH.objs.size:=by rw[hC];exact Xp _
 have old:∀b o,s.heap.get? b=some o->h₁.get? b=some o:=fun b o e=>hsb₁.extBut b o (UZ (Nat.lt_trans (UU e) hlt)) (UJ _ (hH2 ▸ UJ _ e))
 have hacc:h₁.get? s.heap.objs.size=some { cls:=.type "list",data:=.seq ([]:List Value).toArray }:=hsb₁.extBut _ _ (UZ hlt) (UJ _ (hH2 ▸ U4 _ rfl))
 have I0:Inv (bx X scope (vs++fs) HH.objs.size s H fp) [] (jV vs js σ) (upd H s.heap.objs.size (.lst [])) { s with heap:=h₁,toks:=s.toks+([]:List (Str×Value)).length }:=sY I2 B f2 hfp hns₁ old rfl hlt hacc
 obtain⟨W,⟨m0,w0⟩,turn⟩:=hW s.heap.objs.size (I2.hok.fresh (UE _))
 have st1:tn 0 h₁:=T.keep _ _ _ st2 fun b hb o e=>old b o e
 have hch:∀b∈fp,(b∈X.ex\/X.s₀.heap.objs.size<=b)/\b≠X.env.locals/\(∀x c,X.env.cells.lookup x=some c->c≠b)/\∀p∈X.pn++pins,p.1≠b:=fun b hb=>by
  obtain⟨_,a2,_,a4,a5,a6⟩:=f2 b hb
  exact⟨a4,a2,a5,a6⟩
 have back:∀{pl:List (Addr×Obj)}{σ':St}{H':Hp}{s':Shared},Inv (bx X scope (vs++fs) HH.objs.size s H fp) pl σ' H' s'->Inv X pins σ H' s':=fun {pl σ' H' s'} J'=>I2.call' (ch:=fp) J'.os J'.base J'.hok J'.bare hch
 have nD:∀b∈fp,b≠s.heap.objs.size:=fun b hb=>UZ (hfp b hb)
 have stat:∀{H':Hp},(∀b∈fp,H' b=none)->∀b∈fp,jA (bx X scope (vs++fs) HH.objs.size s H fp) [] H' b:=fun {H'} hn b hb=>by
  have z:=I0.ok
  refine⟨hn b hb,(z.exf b hb).1,z.exfs b hb,.inl hb,(z.exf b hb).2,fun p hp=>absurd (show p∈([]:List (Addr×Obj)) from hp) (by simp)⟩
 have loop:∀s₃:Shared,s₃ = { s with heap:=h₁,toks:=s.toks+([]:List (Str×Value)).length } ->
   codeAny (model X.prog X.w) X.A (.compLoop (.ListComp elt [⟨tg,iter,ifs,0⟩] scope pos) 0 (.ref it) (.ref s.heap.objs.size) (compEnvC scope (ie X.env scope.names []) HH.objs.size X.env)) (RR (.ref s.heap.objs.size) HH.objs.size) s₃:=by
  rintro s₃ rfl
  refine jJ (fun n s'=>∃i σ' ys H',Inv (bx X scope (vs++fs) HH.objs.size s H fp) [] σ' H' s'/\tn i s'.heap/\(∀b∈fp,H' b=none)/\W i n σ' ys H') ?_ m0
   ⟨0,_,_,_,I0,st1,fun b hb=>by rw[av (nD b hb)];exact(f2 b hb).1,w0⟩
  rintro n s3 ⟨i,σ3,ys,H3,I3,st3,fr3,w3⟩
  rcases turn i n σ3 ys H3 w3 with⟨stop,q⟩|⟨go,N,hN,step⟩
  ·refine bX (T.done (bx X scope (vs++fs) HH.objs.size s H fp) rfl rfl rfl hc i [] s3 σ3 H3 _ I3 (stat fr3) st3 stop) fun r s4 ⟨hr,I4⟩=>?_
   subst hr
   obtain⟨m,hm,_⟩:=I4.loc
   exact hR _ _ H3 s4 (back I4) ⟨m,hm⟩ I4.free (VT hlt) q
  ·refine bX (T.item (bx X scope (vs++fs) HH.objs.size s H fp) rfl rfl rfl hc i [] s3 σ3 H3 _ I3 (stat fr3) st3 go) fun r s4 ⟨u,hr,h4⟩=>?_
   subst hr
   refine bX h4 fun _ s5 ⟨x,H5,I5,r5,y5,st5,fr5⟩=>?_
   have I5':=I5.pinned (stat fr5) (T.obj _ _ st5)
   have again:∀{σ7:St}{H7:Hp}{s7:Shared}{zs:List V},Inv (bx X scope (vs++fs) HH.objs.size s H fp) ([]++gU fp s5.heap) σ7 H7 s7->N σ7 zs H7->∃m,m<n/\∃i σ' ys H',Inv (bx X scope (vs++fs) HH.objs.size s H fp) [] σ' H' s7/\tn i s7.heap/\(∀b∈fp,H' b=none)/\W i m σ' ys H':=fun {σ7 H7 s7 zs} I7 n7=>by
    obtain⟨m',hm,w7⟩:=hN σ7 zs H7 n7
    refine⟨m',hm,i+1,σ7,zs,H7,I7.unpinned,T.keep _ _ _ st5 fun b hb o e=>(I7.pin (b,o) (UX _ (UX _ (dJ hb e)))).1,fun b hb=>?_,w7⟩
    obtain⟨o,e,d⟩:=T.obj _ _ st5 b hb
    exact(I7.pin (b,o) (UX _ (UX _ (dJ hb e)))).2.1
   refine bX (hg _ _ _ _ _ s5 σ3 H5 x u _ I5' r5 (step x H5 y5)) fun _ s6 ⟨σ6,H6,I6,q6⟩=>?_
   refine bX (ht _ _ _ _ _ s6 σ6 H6 _ I6 q6) fun ok s7 ⟨H7,I7,q7⟩=>?_
   cases ok with
   | false =>
    rw[UM U0]at q7 ⊢
    exact again I7 q7
   | true =>
    rw[UN rfl]at q7 ⊢
    refine bX (he _ _ _ _ _ s7 σ6 H7 _ I7 q7) fun y s8 ⟨yv,H8,I8,r8,hD8,hz,n8⟩=>?_
    refine bX (dQ _ s8 σ6 H8 (.ref s.heap.objs.size) [yv] (.ref s.heap.objs.size) [y] (fun _ H9=>N σ6 (ys ++ [yv]) H9) I8 rfl (.cons r8 .nil) ⟨_,ys,yv,rfl,rfl,hD8,hz,n8⟩) fun _ s9 ⟨_,H9,I9,_,n9⟩=>?_
    exact again I9 n9
 exact codeAny_compStart_list (loop _ rfl) (T.self X.A 0 _ _ _ st1 (loop _ rfl))
theorem b7 {tg iter elt:Expr}{ifs:List Expr}{pos:Pos}{wi:TI}{g:TG}{tt:TT}{te:TE}(hc:X.calm=true) (B:nV X scope vs fs js) (hi:PI X tg iter wi)
  (hg:∀C s H ex,PG (bx X scope (vs++fs) C s H ex) tg g) (ht:∀C s H ex,uY (bx X scope (vs++fs) C s H ex) ifs tt) (he:∀C s H ex,PE (bx X scope (vs++fs) C s H ex) elt te)
  (hs:∀x,foldedSetIterable iter X.env x=pure x:=by intro _;rfl):PE X (.ListComp elt [⟨tg,iter,ifs,0⟩] scope pos) (Cy vs js wi g tt te):=by
 intro pins s σ H Q I h
 rw[eval_ListComp]
 refine Xv (use:=none) rfl hs (kZ fun y hy hf=>I.ok.has y.1 (B.free y hy hf)) B.kind B.names (bX (hi pins s σ H _ I h) fun v s1 h1=>bX h1 fun itv s2 h2=>?_)
 obtain⟨it,fp,tn,J,H2,e,I2,T,st2,f2,hW⟩:=h2
 subst e
 refine A4 (RR:=fun acc C=>compPost (model X.prog X.w) X.A X.xe none (EP X pins σ Q) acc C) hc B hg ht he I2 T st2 f2 hW ?_
 intro D C H' s' I' hn hC hle q
 obtain⟨m,hn⟩:=hn
 exact⟨m,hn,fun h'' hs''=>⟨.ref D,H',I2.goneC I' hC hle hs'',rfl,q⟩⟩
theorem eN {i:Nat}{y:Str}{py spos:Pos}{tg iter elt:Expr}{ifs:List Expr}{pos:Pos}{wi:TI}{g:TG}{tt:TT}{te:TE}(hN:X.N.Nodup) (hi':X.N[i]? = some y) (hy:X.env.scope.names.lookup y=some .local) (hc:X.calm=true) (B:nV X scope vs fs js) (hi:PI X tg iter wi)
  (hg:∀C s H ex,PG (bx X scope (vs++fs) C s H ex) tg g) (ht:∀C s H ex,uY (bx X scope (vs++fs) C s H ex) ifs tt) (he:∀C s H ex,PE (bx X scope (vs++fs) C s H ex) elt te)
  (hsw:swapsWith (.ListComp elt [⟨tg,iter,ifs,0⟩] scope pos) (some (.Name y py)) spos.line X.env=pure true:=by rfl)
  (hs:∀x,foldedSetIterable iter X.env x=pure x:=by intro _;rfl):PS X (.Assign [.Name y py] (.ListComp elt [⟨tg,iter,ifs,0⟩] scope pos) spos) (HV (Cy vs js wi g tt te) (xh i)):=by
 intro pins s σ H D I h
 rw[exec_Assign_Name_used _ _ _ _ hsw]
 refine Uw (W0 (Uw ?_))
 show wpAny _ X.A (do let _ <- comprehension (.ListComp elt [⟨tg,iter,ifs,0⟩] scope pos) scope X.env _ (newList []) false (eval iter X.env) (some (assign (.Name y py) X.env))) _ _ s
 refine Uw (Vx (Xv (use:=some (assign (.Name y py) X.env)) (Q:=fun _ s'=>SP X pins D .next s') rfl hs (kZ fun y hy hf=>I.ok.has y.1 (B.free y hy hf)) B.kind B.names
  (bX (hi pins s σ H _ I h) fun v s1 h1=>bX h1 fun itv s2 h2=>?_)) (fun _ s' hq=>UD (UD hq)) fun _ _ e=>e)
 obtain⟨it,fp,tn,J,H2,e,I2,T,st2,f2,hW⟩:=h2
 subst e
 refine A4 (Q:=fun x H1=>xh i x σ H1 D.nx) (RR:=fun acc C=>compPost (model X.prog X.w) X.A X.xe (some (assign (.Name y py) X.env)) (fun _ s'=>SP X pins D .next s') acc C) hc B hg ht he I2 T st2 f2 hW ?_
 intro D' C H' s' I' hn hC hle q
 obtain⟨m,hn⟩:=hn
 show wpAny _ X.A (assign (.Name y py) X.env (.ref D')) _ _ _
 refine wpAny_assign_Name (tP I' hN hi' (.inl hy) (v:=.ref D') rfl (fun s'' I'' hsb=>?_) (.inr hy))
 obtain⟨a,hsb,ha⟩:=hsb
 have nCa:C≠a:=by
  rcases ha with z|z
  ·rw[z];exact Xo (Vd I2.lt hle)
  ·obtain⟨v,o,ho,_⟩:=I2.cell y a z
   exact Xo (Vd (UU ho) hle)
 exact⟨m,hn.sameBut hsb nCa,fun h'' hs''=>⟨_,H',I2.goneC I'' hC hle hs'',q⟩⟩
end
section
variable {vs:List Str}{js:List Nat}{σ:St}{g:TG}{tt:TT}{te:TE}{Q:VK}
theorem dB {lo:Int}{n:Nat}{H:Hp}(Pv:Nat->St->List V->Hp->Prop) (D:Addr) (h0:Pv 0 (jV vs js σ) [] (upd H D (.lst [])))
  (hs:∀i σ' ys H',i<n->Pv i σ' ys H'->g (.int (lo+i)) σ' H' fun σ3 H3=>tt σ3 H3 fun b H4=>if b=true then te σ3 H4 fun y H5=>H5 D=some (.lst ys)/\ys.length<sizeLine/\Pv (i+1) σ3 (ys ++ [y]) (upd H5 D (.lst (ys ++ [y]))) else Pv (i+1) σ3 ys H4)
  (hd:∀σ' ys H',Pv n σ' ys H'->Q (.ref D) H') :
  uC (Cg lo n) vs js σ g tt te Q D H:=by
 refine⟨fun i m σ' ys H'=>m=n-i/\i<=n/\Pv i σ' ys H',⟨n,by simp,Vj _,h0⟩,?_⟩
 rintro i m σ' ys H' ⟨rfl,hi,p⟩
 by_cases hlt:i<n
 ·refine .inr ⟨hlt,Pv (i+1),fun σ2 zs H2 p'=>⟨n-(i+1),by omega,rfl,hlt,p'⟩,fun x H2 y=>?_⟩
  obtain⟨e,y⟩:=y
  subst e y
  exact hs i σ' ys _ hlt p
 ·have e:i=n:=by omega
  subst e
  exact .inl ⟨UE _,hd σ' ys H' p⟩
theorem bf {K:W.Frag}{a:Addr}{xs:List V}{H:Hp}(Pv:Nat->St->List V->Hp->Prop) (D:Addr) (h0:Pv 0 (jV vs js σ) [] (upd H D (.lst []))) (hl:∀i σ' ys H',i<=xs.length->Pv i σ' ys H'->aW K H' a xs)
  (hs:∀i x σ' ys H',xs[i]? = some x->Pv i σ' ys H'->g x σ' H' fun σ3 H3=>tt σ3 H3 fun b H4=>if b=true then te σ3 H4 fun y H5=>H5 D=some (.lst ys)/\ys.length<sizeLine/\Pv (i+1) σ3 (ys ++ [y]) (upd H5 D (.lst (ys ++ [y]))) else Pv (i+1) σ3 ys H4)
  (hd:∀σ' ys H',Pv xs.length σ' ys H'->Q (.ref D) H') :
  uC (Ao K a) vs js σ g tt te Q D H:=by
 refine⟨fun i m σ' ys H'=>m=xs.length-i/\i<=xs.length/\Pv i σ' ys H',⟨xs.length,by simp,Vj _,h0⟩,?_⟩
 rintro i m σ' ys H' ⟨rfl,hi,p⟩
 have q:=hl i σ' ys H' hi p
 by_cases hlt:i<xs.length
 ·refine .inr ⟨⟨xs,xs[i],q,by simp[hlt]⟩,Pv (i+1),fun σ2 zs H2 p'=>⟨xs.length-(i+1),by omega,rfl,hlt,p'⟩,fun x H2 y=>?_⟩
  obtain⟨e,y⟩:=y
  subst e
  exact hs i x σ' ys _ (y xs q) p
 ·have e:i=xs.length:=by omega
  subst e
  exact .inl ⟨⟨xs,q,UE _⟩,hd σ' ys H' p⟩
end
theorem cj:bootBuiltins "len" = some (.builtin "len"):=by z_go
theorem IX:bootBuiltins "abs" = some (.builtin "abs"):=by z_go
theorem zA:bootBuiltins "max" = some (.builtin "max"):=by z_go
theorem Lf:bootBuiltins "min" = some (.builtin "min"):=by z_go
theorem iV:bootBuiltins "sorted" = some (.builtin "sorted"):=by z_go
theorem JX:bootBuiltins "int" = some (.type "int"):=by z_go
theorem l7:bootBuiltins "list" = some (.type "list"):=by z_go
theorem AH:bootBuiltins "dict" = some (.type "dict"):=by z_go
theorem CF:bootBuiltins "range" = some (.type "range"):=by z_go
theorem vW:bootBuiltins "enumerate" = some (.type "enumerate"):=by z_go
theorem Lc:bootBuiltins "set" = some (.type "set"):=by z_go
structure bJ (P:Program) (w:World) (K:W.Frag) (mg:Str->Option Value) (base:Heap) (x:Str) (ps:List Str) (k:Nat) (sp:Sp):Prop where
 ex:∃(f:Addr) (fd:FuncData),sP P w K mg base Hu k f fd ps sp/\Binds K fd ps []/\mg x=some (.ref f)/\W.keepIn K (.ref f)=true
section
variable {X:Cx}{x:Str}{ps:List Str}{k:Nat}{sp:Sp}{e:Expr}{es:List Expr}{t:TA}{p pos:Pos}
theorem bP (C:bJ X.prog X.w X.K X.mg X.base x ps k sp) (hr:gR k X.A) (ha:PA X (e::es) t) (hg:Gl X x:=by rfl) (hdb:(x ==("__debug__" : Str))=false:=by decide) (he:starEach (e::es) X.env =(false,eval e X.env)::starEach es X.env:=by rfl) (hpl:(backTo pos (starEach es X.env)).any (·.1)=false:=by rfl) :
  PE X (.Call (.Name x p) (e::es) [] pos) (EC sp [] E0 t):=by
 obtain⟨f,fd,F,hb,hm,hk⟩:=C.ex
 exact Ht F hr hg hm hk hb .nil MK ha hdb he hpl
end
theorem bJ.of {P:Program}{w:World}{K:W.Frag}{mg:Str->Option Value}{base:Heap}{x:Str}{st:Stmt}{f:Addr}{fd:FuncData}{N ps:List Str}{k:Nat}{sp:Sp}(F:fz K x x st f fd) (mF:mg x=some (.ref f)) (bF:Binds K fd ps []) (S:aP N ps (aq st)) (len:∀vs H Q E,sp vs H Q E->vs.length=ps.length)
  (hbody:∀(cdv:Value) (A:Around) (outer:List Env) (s:Shared) (H:Hp) (vs:List V) (Q:VK) (E:XK),gR k (A.deeper (envOfC x (aq st) s.heap.objs.size f cdv))->sp vs H Q E ->
   ∃t,A1 (zI Hu P w K mg base N x (aq st) f cdv A outer s H E).nox (dU st) t/\t { nx:=fun _ H'=>Q .non H',rt:=Q } (start N vs) H):bJ P w K mg base x ps (k+1) sp :=
 ⟨f,fd,F.ok S len hbody,bF,mF,F.kp⟩
def J8 (sc scope:Scope) (N vs fs:List Str) (js:List Nat):Bool :=
 (scope.kind == .function) && scope.names.all (fun y=>y.2 != .cell) && scope.names.all (fun y=>y.2 != .local || scope.names.lookup y.1 == some .local) &&
 scope.names.all (fun y=>y.2 != .free || sc.names.lookup y.1 == some .cell || sc.names.lookup y.1 == some .free) && vs.all (fun y=>scope.names.lookup y == some .local) && fs.all (fun y=>scope.names.lookup y == some .free) &&
 (js.map (fun j=>N[j]?) == fs.map some)
theorem cF {X:Cx}{sc scope:Scope}{N vs fs:List Str}{js:List Nat}(h:J8 sc scope N vs fs js=true) (hs:X.env.scope=sc) (hN:X.N=N):nV X scope vs fs js:=by
 unfold J8 at h
 simp only[Bool.and_eq_true,List.all_eq_true,beq_iff_eq,bne_iff_ne,Bool.or_eq_true]at h
 obtain⟨⟨⟨⟨⟨⟨h1,h2⟩,h3⟩,h4⟩,h5⟩,h6⟩,h7⟩:=h
 refine⟨h1,h2,fun y hy hl=>?_,fun y hy hf=>?_,h5,h6,?_⟩
 ·rcases h3 y hy with z|z
  ·exact absurd hl z
  ·exact z
 ·unfold Env.kindOf
  rw[hs]
  rcases h4 y hy with(z|z)|z
  ·exact absurd hf z
  ·exact .inl z
  ·exact .inr z
 ·rw[hN];exact h7
def Mg (t:TS):TS:=fun D σ H=>∃R:St->Hp->Prop,t { D with nx:=R } σ H/\∀σ' H',R σ' H'->D.nx σ' H'
theorem je {X:Cx}{st:Stmt}{t:TS}(h:PS X st t):PS X st (Mg t):=by
 intro pins s σ H D I hw
 obtain⟨R,h1,h2⟩:=hw
 refine bX (h pins s σ H _ I h1) fun f s' q=>?_
 cases f with
 | next =>
  obtain⟨σ',H',I',q⟩:=q
  exact⟨σ',H',I',h2 _ _ q⟩
 | brk=>exact q
 | cont=>exact q
 | ret u=>exact q
section
variable {X:Cx}
def O9 (i j:Int):Prop:=0<j/\j<2^100
theorem iZ:mS X (binaryOp .FloorDiv) (rI O9 fun i j=>.int (i / j)):=MG fun i j _ _ _ _ _ hc q=>by
 have h1:(0:Int)<j:=hc.1
 have h2:j<2^100:=hc.2
 refine floordiv_int (by omega) (by rw[Int.fdiv_eq_ediv_of_nonneg i (by omega)];exact q) (.inl (PyProof.noPylong_of_log2 ?_))
 have h0:j.natAbs≠0:=by omega
 have h3:j.natAbs.log2<100:=(Nat.log2_lt h0).mpr (by omega)
 omega
theorem gj {a b c:Int}{j1 j2:Nat}{p1 p2 pos:Pos}(h:a^b.toNat=c) (h1:Lz a b):PE X (.BinOp (.Constant (.int a) j1 p1) .Pow (.Constant (.int b) j2 p2) pos) (tC (.int c)):=by
 intro pins s σ H Q I q
 subst h
 exact aJ Ae aj aj pins s σ H Q I ⟨a,b,rfl,rfl,h1,q⟩
theorem DS:NT X (HM X.K):=by
 intro pins s σ H x y v u Q I rx ry h
 obtain⟨p,xs,i,z,rfl,rfl,hq,he,q⟩:=h
 cases rx
 obtain⟨t,rfl⟩:=ry
 obtain⟨its,r,pl,hz⟩:=I.list hq
 obtain⟨j,h1,h2,h3,h4,h5⟩:=oW he
 obtain⟨w,ew,rw'⟩:=r.get h2
 have hl:=r.length
 have hn:=kO
 have fin:EP X pins σ Q w s:=⟨z,H,I,rw',q⟩
 by_cases h0:0<=i
 ·have hj:i.toNat=j:=by
   rw[seqIndex_of h0 h5]at h1
   exact US h1
  exact wpAny_getItem_list pl.isList h0 (by omega) (by rw[hj];simpa using ew) fin
 ·have hj:(i+(its.toArray.size:Int)).toNat=j:=by
   rw[seqIndex_neg (by omega) h4]at h1
   rw[Vc,<- hl]
   exact US h1
  exact wpAny_getItem_list_neg pl.isList (by omega) (by rw[Vc] <;> omega) (by omega) (by rw[hj];simpa using ew) fin
def A3:V->List V->Hp->VK->Prop:=fun x vs H Q=>∃i,x = .int i/\vs=[]/\Q (.int (Builtin.Int.intBits i:Nat)) H
theorem B7:Mf X "int.bit_length" A3:=by
 intro pins s σ H x xs v us Q I rx rs h
 obtain⟨i,rfl,rfl,q⟩:=h
 obtain⟨t,rfl⟩:=rx
 cases rs
 exact call_int_bit_length ⟨.int _,H,I.tok _,⟨_,rfl⟩,q⟩
def Ek (K:W.Frag):List V->Hp->VK->Prop:=fun xs H Q=>∃p ys,xs=[.ref p]/\(aW K H p ys\/iM K H p ys)/\Q (.int ys.length) H
theorem aZ:dc X (.builtin "len") (Ek X.K):=vX
def IE:List V->Hp->VK->Prop:=fun xs H Q=>∃i,xs=[.int i]/\Q (.int (if i<0 then -i else i)) H
theorem B_:dc X (.builtin "abs") IE:=DE
def Iv:List V->Hp->VK->Prop:=fun xs H Q=>∃i j,xs=[.int i,.int j]/\Q (.int (if j > i then j else i)) H
theorem uq (hc:X.calm=true):dc X (.builtin "max") Iv:=A_ hc
def IT:List V->Hp->VK->Prop:=fun xs H Q=>∃i j,xs=[.int i,.int j]/\Q (.int (if j<i then j else i)) H
theorem B8 (hc:X.calm=true):dc X (.builtin "min") IT:=BR hc
end
section
variable {σ:St}{H:Hp}{Q:VK}{D:Ends}
theorem J3 {i:Nat}{v:V}(h:σ[i]? = some (some v)) (q:Q v H):KW i σ H Q:=⟨v,h,q⟩
theorem RH {v:V}(q:Q v H):tC v σ H Q:=q
theorem Pu {r:R2}{ta tb:TE}(h:ta σ H fun x H1=>tb σ H1 fun y H2=>r x y H2 Q):Of r ta tb σ H Q:=h
theorem Oh {r:V->Hp->VK->Prop}{ta:TE}(h:ta σ H fun x H1=>r x H1 Q):Sl r ta σ H Q:=h
theorem MN {g:Int->Int->V}{i j:Int}(q:Q (g i j) H):Fp g (.int i) (.int j) H Q:=⟨i,j,rfl,rfl,q⟩
theorem Rx {C:Int->Int->Prop}{g:Int->Int->V}{i j:Int}(c:C i j) (q:Q (g i j) H):rI C g (.int i) (.int j) H Q:=⟨i,j,rfl,rfl,c,q⟩
theorem QA {g:Int->V}{i:Int}(q:Q (g i) H):rU g (.int i) H Q:=⟨i,rfl,q⟩
theorem xG {i j:Int}:decide (V.int i=V.int j)=decide (i=j):=by
 rw[WG];simp
theorem Je {i j:Int}(q:Q (.bl (decide (i=j))) H):SD (.int i) (.int j) H Q:=⟨rfl,by rw[xG];exact q⟩
theorem Kx {i j:Int}(q:Q (.bl (!decide (i=j))) H):Sk (.int i) (.int j) H Q:=⟨rfl,by rw[xG];exact q⟩
theorem Pg {c:Bool}{P:Bool->Prop}(h:P c):∃k,V.bl c=V.bl k/\P k:=⟨c,rfl,h⟩
theorem G7 {t:TE}{R:Bool->Hp->Prop}(h:t σ H fun x H'=>∃k,x = .bl k/\R k H'):Cr t σ H R:=h
theorem NG {t:TE}{R:Bool->Hp->Prop}(h:t σ H fun x H'=>∃k,x = .bl k/\R k H'):tB t σ H R:=h
theorem K5 {t u:TT}{R:Bool->Hp->Prop}(h:t σ H fun c H1=>if c=true then u σ H1 R else R false H1):Mr t u σ H R:=h
theorem O8 {t u:TT}{R:Bool->Hp->Prop}(h:t σ H fun c H1=>if c=true then R true H1 else u σ H1 R):SE t u σ H R:=h
theorem Ka {t:TT}{R:Bool->Hp->Prop}(h:t σ H fun c H1=>R (!c) H1):MC t σ H R:=h
theorem EM {r r':R2}{ta tb tc:TE}(h:ta σ H fun x H1=>tb σ H1 fun y H2=>r x y H2 fun z H3=>∃k,z = .bl k/\(if k=true then tc σ H3 fun w' H4=>r' y w' H4 Q else Q (.bl false) H3)):EN r r' ta tb tc σ H Q:=h
theorem Lx {t:TT}{ta tb:TE}(h:t σ H fun c H1=>if c=true then ta σ H1 Q else tb σ H1 Q):Sq t ta tb σ H Q:=h
theorem Kv {R:List V->Hp->Prop}(h:R [] H):NN σ H R:=h
theorem FG {ta:TE}{tr:TA}{R:List V->Hp->Prop}(h:ta σ H fun x H1=>tr σ H1 fun xs H2=>R (x::xs) H2):Io ta tr σ H R:=h
theorem E2 {sp:Sp}{dvs:List V}{E:XK}{t:TA}(h:t σ H fun vs H1=>sp (vs++dvs) H1 Q E):EC sp dvs E t σ H Q:=h
theorem Pd {r:List V->Hp->VK->Prop}{t:TA}(h:t σ H fun vs H1=>r vs H1 Q):Rj r t σ H Q:=h
theorem Ju {t:TA}(h:t σ H fun xs H1=>xs.length<=sizeLine/\∀p,H1 p=none->Q (.ref p) (upd H1 p (.lst xs))):Pe t σ H Q:=h
theorem Jx {t:TA}(h:t σ H fun xs H1=>xs.length<=sizeLine/\∀p,H1 p=none->Q (.ref p) (upd H1 p (.tup xs))):OV t σ H Q:=h
theorem J1 {te:TE}{g:TG}(h:te σ H fun x H1=>g x σ H1 D.nx):HV te g D σ H:=h
theorem D5 {i:Nat}{v:V}{R:St->Hp->Prop}(h:R (σ.set i (some v)) H):xh i v σ H R:=h
theorem JW {te:TE}(h:te σ H D.rt):ON te D σ H:=h
theorem Gq (h:D.nx σ H):Iq D σ H:=h
theorem HU {te:TE}(h:te σ H fun _ H1=>D.nx σ H1):IU te D σ H:=h
theorem cJ {K:W.Frag}{p:Addr}{xs:List V}{i:Int}{v:V}(h:aW K H p xs) (e:rA xs i=some v) (q:Q v H):HM K (.ref p) (.int i) H Q:=⟨p,xs,i,v,rfl,rfl,h,e,q⟩
theorem Jt {K:W.Frag}{T:String}{r:V->List V->Hp->VK->Prop}{to:TE}(h:to σ H fun x H1=>MZ K T x H1/\r x [] H1 Q):Mi K T r to σ H Q:=h
theorem Pq {K:W.Frag}{T:String}{r:V->List V->Hp->VK->Prop}{to:TE}{t:TA}(h:to σ H fun x H1=>MZ K T x H1/\t σ H1 fun xs H2=>r x xs H2 Q):So K T r to t σ H Q:=h
theorem F3 {to ti te:TE}{tget:V->V->Hp->VK->Prop}{tip:E5}{tset:zw}(h:to σ H fun o H1=>ti σ H1 fun i H2=>tget o i H2 fun x H3=>te σ H3 fun y H4=>tip x y H4 fun z H5=>tset o i z H5 fun H6=>D.nx σ H6):IV to ti te tget tip tset D σ H:=h
theorem Py {f:Int->Int->Int}{i j:Int}(q:Q (.int (f i j)) H):Ss f (.int i) (.int j) H Q:=⟨i,j,rfl,rfl,q⟩
theorem vd {p:Addr}{xs:List V}{i:Int}{j:Nat}{v:V}{R:Hp->Prop}(h:H p=some (.lst xs)) (e:yP xs.length i=some j) (q:R (upd H p (.lst (xs.set j v)))):AW (.ref p) (.int i) v H R:=⟨p,xs,i,j,rfl,rfl,h,e,q⟩
theorem Fx {p:Addr}{a:V}{r:List V}{v:V}{R:Hp->Prop}(h:H p=some (.lst (a::r))) (q:R (upd H p (.lst (v::r)))):AW (.ref p) (.int 0) v H R :=
 ⟨p,_,0,0,rfl,rfl,h,by unfold yP;rw[UN (by decide),UN (by rw[VH];omega)];rfl,q⟩
theorem HW {p:Addr}{a b:V}{r:List V}{v:V}{R:Hp->Prop}(h:H p=some (.lst (a::b::r))) (q:R (upd H p (.lst (a::v::r)))):AW (.ref p) (.int 1) v H R :=
 ⟨p,_,1,1,rfl,rfl,h,by unfold yP;rw[UN (by decide),UN (by rw[VH,VH];omega)];rfl,q⟩
theorem HZ {to ti:TE}{t:zw}{v:V}{R:St->Hp->Prop}(h:to σ H fun o H1=>ti σ H1 fun i H2=>t o i v H2 fun H3=>R σ H3):Oj to ti t v σ H R:=h
theorem NJ {r:V->Option Int->Option Int->Hp->VK->Prop}{te:TE}{tl th:TO}(h:te σ H fun x H1=>tl σ H1 fun l H2=>th σ H2 fun u H3=>r x l u H3 Q):Su r te tl th σ H Q:=h
theorem K1 {R:Option Int->Hp->Prop}(h:R none H):AF σ H R:=h
theorem GU {t:TE}{R:Option Int->Hp->Prop}(h:t σ H fun x H1=>∃i,x = .int i/\R (some i) H1):IA t σ H R:=h
theorem Jl {i:Int}{P:Int->Prop}(h:P i):∃k,V.int i=V.int k/\P k:=⟨i,rfl,h⟩
theorem e_ {K:W.Frag}{a:Addr}{xs:List V}{lo hi:Option Int}(h:aW K H a xs) (q:∀p,H p=none->Q (.ref p) (upd H p (.lst (jy xs lo hi)))):IZ K (.ref a) lo hi H Q:=⟨a,xs,rfl,h,q⟩
theorem E3 {K:W.Frag}{a:Addr}{ys:List V}(h:aW K H a ys) (q:Q (.int ys.length) H):Ek K [.ref a] H Q:=⟨a,ys,rfl,.inl h,q⟩
theorem Jb {i:Int}(q:Q (.int (if i<0 then -i else i)) H):IE [.int i] H Q:=⟨i,rfl,q⟩
theorem KD {i j:Int}(q:Q (.int (max i j)) H):Iv [.int i,.int j] H Q:=⟨i,j,rfl,by
 have e:(if j > i then j else i)=max i j:=by omega
 rw[e];exact q⟩
theorem Jc {i j:Int}(q:Q (.int (min i j)) H):IT [.int i,.int j] H Q:=⟨i,j,rfl,by
 have e:(if j<i then j else i)=min i j:=by omega
 rw[e];exact q⟩
theorem BF {i:Int}(q:Q (.int (Builtin.Int.intBits i:Nat)) H):A3 (.int i) [] H Q:=⟨i,rfl,rfl,q⟩
theorem bM {c:Prop} [Decidable c] {A B:Prop}(h1:c->A) (h2:¬ c->B):if decide c=true then A else B:=by
 by_cases h:c
 ·rw[U8 h,UN rfl];exact h1 h
 ·rw[U6 h,UM U0];exact h2 h
theorem Kl {c:Prop} [Decidable c] {A B:Prop}(h1:¬ c->A) (h2:c->B):if (!decide c)=true then A else B:=by
 by_cases h:c
 ·rw[U8 h];exact(UM (by decide)).mpr (h2 h)
 ·rw[U6 h];exact(UN rfl).mpr (h1 h)
theorem G3 {ta:TA}{R:It->Hp->Prop}(h:ta σ H fun vs H1=>∃j:Int,vs=[.int j]/\-(2^62)<=j/\j<2^62/\R (Cg 0 j.toNat) H1):IC ta σ H R:=h
theorem GH {ta:TA}{R:It->Hp->Prop}(h:ta σ H fun vs H1=>∃i j:Int,vs=[.int i,.int j]/\(-(2^62)<=i/\i<2^62/\-(2^62)<=j/\j<2^62)/\R (Cg i (j-i).toNat) H1):IJ ta σ H R:=h
theorem Dg {K:W.Frag}{tl:TE}{R:It->Hp->Prop}(h:tl σ H fun x H1=>∃a,x = .ref a/\(∃xs,aW K H1 a xs)/\R (Ao K a) H1):DC K tl σ H R:=h
theorem GR {vs:List Str}{js:List Nat}{wi:TI}{g:TG}{tt:TT}{te:TE}(h:wi σ H fun J H1=>∀D,H1 D=none->uC J vs js σ g tt te Q D H1):Cy vs js wi g tt te σ H Q:=h
theorem JF {R:Bool->Hp->Prop}(h:R true H):MU σ H R:=h
theorem Gi {A B:Prop}(h:A):if true=true then A else B:=Nn h
theorem GL {A B:Prop}(h:B):if false=true then A else B:=Pw h
theorem Cu {A B:Prop}(h:A):if (!false)=true then A else B:=Nn h
theorem Ez {A B:Prop}(h:B):if (!true)=true then A else B:=Pw h
theorem CI {ms:List Int}{k:Nat}:jy (ms.map V.int) (some (k:Int)) none =(ms.drop k).map V.int:=by
 unfold jy
 rw[HT.sIx_nat,HT.sIx_none,Uv,<- List.map_drop]
 by_cases h:k<=ms.length
 ·rw[VM h,UW (by rw[Uv,Vt];omega)]
 ·rw[Vf (by omega:ms.length<=min k ms.length),Vf (by omega:ms.length<=k)]
  simp
theorem C3 {ms:List Int}{k:Nat}:jy (ms.map V.int) none (some (k:Int)) =(ms.take k).map V.int:=by
 unfold jy
 rw[HT.sIx_nat,HT.sIx_none,Uv,Xk,Nat.sub_zero,<- W3]
 by_cases h:k<=ms.length
 ·rw[VM h]
 ·rw[Nat.min_eq_right (by omega),UW (UE _),UW (by omega)]
theorem aI {H:Hp}{p:Addr}(h:H p=none) (o:HO):aO H (upd H p o):=fun b u q=>by rw[av (ak q h)];exact q
end
mutual
inductive DV (K:W.Frag) (H:Hp):V->PyData->Prop
 | non:DV K H .non .none
 | bl (b:Bool):DV K H (.bl b) (.bool b)
 | int (i:Int):DV K H (.int i) (.int i)
 | str (x:Str):DV K H (.str x) (.str x)
 | lst {a:Addr}{xs:List V}{ds:List PyData}:aW K H a xs->z_ K H xs ds->DV K H (.ref a) (.list ds)
 | tup {a:Addr}{xs:List V}{ds:List PyData}:iM K H a xs->z_ K H xs ds->DV K H (.ref a) (.tuple ds)
inductive z_ (K:W.Frag) (H:Hp):List V->List PyData->Prop
 | nil:z_ K H [] []
 | cons {x:V}{d:PyData}{xs:List V}{ds:List PyData}:DV K H x d->z_ K H xs ds->z_ K H (x::xs) (d::ds)
end
section
variable {X:Cx}{pins:List (Addr×Obj)}{σ:St}{H:Hp}{s:Shared}
mutual
theorem DV.reads (I:Inv X pins σ H s):∀{x:V}{d:PyData}{v:Value},DV X.K H x d->RelV x v->∃as,Reads s.heap v d as
 | _,_,_,.non,r=>by cases r;exact⟨_,.none⟩
 | _,_,_,.bl b,r=>by cases r;exact⟨_,.bool b⟩
 | _,_,_,.int i,r=>by obtain⟨t,rfl⟩:=r;exact⟨_,.int i t⟩
 | _,_,_,.str x,r=>by obtain⟨t,rfl⟩:=r;exact⟨_,.str x t⟩
 | _,_,_,.lst (a:=a) h ds,r=>by
  cases r
  obtain⟨its,rv,⟨o,n,e,c,_,d⟩,_⟩:=I.list h
  obtain⟨as,q⟩:=z_.reads I ds rv
  exact⟨_,.list e c d (by simpa using q)⟩
 | _,_,_,.tup (a:=a) h ds,r=>by
  cases r
  obtain⟨its,rv,⟨o,e,c,n,d⟩,_⟩:=I.tuple h
  obtain⟨as,q⟩:=z_.reads I ds rv
  exact⟨_,.tuple e c d (by simpa using q)⟩
theorem z_.reads (I:Inv X pins σ H s):∀{xs:List V}{ds:List PyData}{vs:List Value},z_ X.K H xs ds->Vals xs vs->∃as,ReadsAll s.heap vs ds as
 | _,_,_,.nil,r=>by cases r;exact⟨_,.nil⟩
 | _,_,_,.cons h t,r=>by
  cases r with
  | cons r1 r2 =>
   obtain⟨as,q⟩:=DV.reads I h r1
   obtain⟨bs,p⟩:=z_.reads I t r2
   exact⟨_,.cons q p⟩
end
end
theorem z_.ints {K:W.Frag}{H:Hp}:∀ns:List Int,z_ K H (ns.map V.int) (ns.map PyData.int)
 | []=>.nil
 | n::r=>.cons (.int n) (z_.ints r)
theorem lay_ints:∀ns:List Int,PyData.canLayAll0 (ns.map PyData.int)=true/\PyData.depthAll (ns.map PyData.int)=0
 | []=>⟨rfl,rfl⟩
 | n::r=>by
  obtain⟨h1,h2⟩:=lay_ints r
  simp[PyData.canLayAll0,PyData.canLay0,PyData.depthAll,PyData.depth,h1,h2]
theorem shaped_ints (ns:List Int):SeqAt.shaped (.list (ns.map PyData.int))=true:=by
 obtain⟨h1,h2⟩:=lay_ints ns
 simp[SeqAt.shaped,PyData.canLay0,PyData.depth,h1,h2]
theorem wK:∀ns ms:List Int,PyData.eqvAll (ns.map PyData.int) (ms.map PyData.int)=decide (ns=ms)
 | [],[]=>rfl
 | [],_::_=>rfl
 | _::_,[]=>rfl
 | n::ns,m::ms=>by
  rw[Vi,Vi,PyData.eqvAll,PyData.eqv,wK ns ms,WG]
  simp
section
variable {X:Cx}
def Q6 (K:W.Frag):R2:=fun x y H Q=>∃d e,DV K H x d/\DV K H y e/\SeqAt.shaped d=true/\SeqAt.shaped e=true/\Q (.bl (PyData.eqv d e)) H
def Ms (K:W.Frag):R2:=fun x y H Q=>∃d e,DV K H x d/\DV K H y e/\SeqAt.shaped d=true/\SeqAt.shaped e=true/\Q (.bl (!PyData.eqv d e)) H
theorem Ab (hu:X.A.units+64<cLine):mS X (compareOp .Eq) (Q6 X.K):=by
 intro pins s σ H x y v u Q I rx ry h
 obtain⟨d,e,h1,h2,h3,h4,q⟩:=h
 obtain⟨as,r1⟩:=h1.reads I rx
 obtain⟨bs,r2⟩:=h2.reads I ry
 exact eq_dataH r1 r2 h3 h4 hu ⟨.bl _,H,I,rfl,q⟩
theorem mU (hu:X.A.units+64<cLine):mS X (compareOp .NotEq) (Ms X.K):=by
 intro pins s σ H x y v u Q I rx ry h
 obtain⟨d,e,h1,h2,h3,h4,q⟩:=h
 obtain⟨as,r1⟩:=h1.reads I rx
 obtain⟨bs,r2⟩:=h2.reads I ry
 exact ne_dataH r1 r2 h3 h4 hu ⟨.bl _,H,I,rfl,q⟩
end
end L2
namespace L2
open PySem PySem.Spec PyProof.Rows
section
variable {X:Cx}{K:W.Frag}
theorem yQ (h:X.K=K):dc X (.builtin "len") (Ek K):=by subst h;exact aZ
theorem qc (h:X.K=K):Mb X (HM K):=by subst h;exact bG
theorem gG (h:X.K=K):Mb X (Kf K):=by subst h;exact b8
theorem Dw (h:X.K=K):Ri X (IZ K):=by subst h;exact cX
theorem Ay (h:X.K=K) (hu:X.A.units+64<cLine):mS X (compareOp .NotEq) (Ms K):=by subst h;exact mU hu
end
section
variable {σ:St}{H:Hp}{Q:VK}{D:Ends}
theorem zC {K:W.Frag}{p:Addr}{xs:List V}{i:Int}{v:V}(h:iM K H p xs) (e:rA xs i=some v) (q:Q v H):Kf K (.ref p) (.int i) H Q:=⟨p,xs,i,v,rfl,rfl,h,e,q⟩
end
section
variable {κ:Type} [DecidableEq κ]
def dj (kvs:List (κ×V)) (k:κ):Option V:=(kvs.find? fun kv=>decide (kv.1=k)).map (·.2)
def putK (kvs:List (κ×V)) (k:κ) (v:V):List (κ×V) :=
 if (kvs.any fun kv=>decide (kv.1=k))=true then kvs.map (fun kv=>if kv.1=k then(kv.1,v) else kv) else kvs ++ [(k,v)]
theorem c_ {p:κ×V}{r:List (κ×V)}{k:κ}(e:p.1=k):dj (p::r) k=some p.2:=by simp[dj,List.find?_cons,e]
theorem cZ {p:κ×V}{r:List (κ×V)}{k:κ}(e:¬ p.1=k):dj (p::r) k=dj r k:=by simp[dj,List.find?_cons,e]
theorem pF (k:κ):∀kvs:List (κ×V),(kvs.any fun kv=>decide (kv.1=k)) =(dj kvs k).isSome
 | []=>rfl
 | p::r=>by
  rw[Xu]
  by_cases e:p.1=k
  ·simp only[c_ e,decide_eq_true e,Bool.true_or,Option.isSome_some]
  ·rw[cZ e,U6 e,Bool.false_or];exact pF k r
theorem xN (k j:κ) (y:V):∀kvs:List (κ×V),dj (kvs.map fun kv=>if kv.1=k then(kv.1,y) else kv) j =(dj kvs j).map fun x=>if j=k then y else x
 | []=>rfl
 | p::r=>by
  have ih:=xN k j y r
  rw[Vi]
  by_cases h:p.1=k
  ·rw[UN h]
   by_cases e:p.1=j
   ·rw[c_ (p:=(p.1,y)) e,c_ e,Option.map_some,UN (e.symm.trans h)]
   ·rw[cZ (p:=(p.1,y)) e,cZ e,ih]
  ·rw[UM h]
   by_cases e:p.1=j
   ·rw[c_ (p:=p) e,c_ e,Option.map_some,UM (fun z=>h (e.trans z))]
   ·rw[cZ (p:=p) e,cZ e,ih]
theorem t6 (k j:κ) (y:V):∀kvs:List (κ×V),dj kvs k=none->dj (kvs ++ [(k,y)]) j=if j=k then some y else dj kvs j
 | [],_=>by
  by_cases e:k=j
  ·rw[UN e.symm];exact c_ (p:=(k,y)) e
  ·rw[UM (fun z=>e z.symm)];exact cZ (p:=(k,y)) e
 | p::r,hn=>by
  rw[List.cons_append]
  have hk:¬ p.1=k:=fun z=>by rw[c_ z]at hn;cases hn
  rw[cZ hk]at hn
  have ih:=t6 k j y r hn
  by_cases e:p.1=j
  ·rw[c_ e,c_ e,UM (fun z=>hk (e.trans z))]
  ·rw[cZ e,cZ e,ih]
theorem wL (kvs:List (κ×V)) (k j:κ) (y:V):dj (putK kvs k y) j=if j=k then some y else dj kvs j:=by
 unfold putK
 by_cases a:(kvs.any fun kv=>decide (kv.1=k))=true
 ·rw[UN a,xN]
  rw[pF]at a
  by_cases e:j=k
  ·obtain⟨x,hx⟩:=Option.isSome_iff_exists.mp a
   rw[UN e,e,hx,Option.map_some,UN rfl]
  ·rw[UM e]
   cases dj kvs j with
   | none=>rfl
   | some x=>rw[Option.map_some,UM e]
 ·rw[UM a]
  refine t6 k j y kvs ?_
  rw[pF]at a
  cases q:dj kvs k with
  | none=>rfl
  | some x=>rw[q]at a;exact(a rfl).elim
theorem oG (kvs:List (κ×V)) (k:κ) (v:V):(putK kvs k v).length<=kvs.length+1:=by
 unfold putK
 split
 ·rw[Uv];omega
 ·rw[Uz,VH,List.length_nil];omega
theorem nJ.isSome_eq {o:Option V}{u:Option Value}(r:nJ o u):o.isSome=u.isSome:=by
 cases o with
 | none=>cases u with
  | none=>rfl
  | some _=>exact(show False from r).elim
 | some _=>cases u with
  | none=>exact(show False from r).elim
  | some _=>rfl
theorem KV.val {kvs:List (κ×V)}{vs:List (κ×Value)}(r:KV kvs vs) (k:κ):nJ (dj kvs k) (valueAt vs k):=by
 unfold KV at r
 induction r with
 | nil=>exact True.intro
 | @cons p q ps qs h t ih =>
  obtain⟨h1,h2⟩:=h
  by_cases e:p.1=k
  ·have e':q.1=k:=h1.symm.trans e
   have b:valueAt (q::qs) k=some q.2:=by simp[valueAt,List.find?_cons,e']
   rw[c_ e,b];exact h2
  ·have e':¬ q.1=k:=fun z=>e (h1.trans z)
   have b:valueAt (q::qs) k=valueAt qs k:=by simp[valueAt,List.find?_cons,e']
   rw[cZ e,b];exact ih
theorem KV.any {kvs:List (κ×V)}{vs:List (κ×Value)}(r:KV kvs vs) (k:κ):(kvs.any fun kv=>decide (kv.1=k))=vs.any fun kv=>decide (kv.1=k):=by
 unfold KV at r
 induction r with
 | nil=>rfl
 | cons h t ih=>rw[Xu,Xu,ih,h.1]
theorem KV.repl {kvs:List (κ×V)}{vs:List (κ×Value)}(r:KV kvs vs) (k:κ) {y:V}{u:Value}(ry:RelV y u) :
  KV (kvs.map fun kv=>if kv.1=k then(kv.1,y) else kv) (vs.map fun kv=>if kv.1=k then(kv.1,u) else kv):=by
 unfold KV at r ⊢
 induction r with
 | nil=>exact .nil
 | @cons p q ps qs h t ih =>
  rw[Vi,Vi]
  refine .cons ?_ ih
  obtain⟨h1,h2⟩:=h
  by_cases e:p.1=k
  ·rw[UN e,UN (h1.symm.trans e)];exact⟨h1,ry⟩
  ·rw[UM e,UM (fun z=>e (h1.trans z))];exact⟨h1,h2⟩
theorem KV.put {kvs:List (κ×V)}{vs:List (κ×Value)}(r:KV kvs vs) (k:κ) {y:V}{u:Value}(ry:RelV y u):KV (putK kvs k y) (stored vs k u):=by
 unfold putK stored
 rw[r.any k]
 by_cases e:(vs.any fun kv=>decide (kv.1=k))=true
 ·rw[UN e,UN e];exact r.repl k ry
 ·rw[UM e,UM e];exact Paired.snoc r ⟨rfl,ry⟩
theorem KV.length {kvs:List (κ×V)}{vs:List (κ×Value)}(r:KV kvs vs):kvs.length=vs.length:=XR r
end
theorem AI {P:Program}{w:World}{k:Key}{u:Value}(r:RelV (kV k) u):(bO P w).is k u=true:=by
 cases k with
 | inl i=>obtain⟨t,e⟩:=(show ∃t,u=Value.int i t from r);subst e;exact xA P w i t
 | inr x=>obtain⟨t,e⟩:=(show ∃t,u=Value.str x t from r);subst e;exact yE P w x t
theorem um {P:Program}{w:World}:∀{ks:List Key}{us:List Value},Vals (ks.map kV) us->ItemsAre (bO P w) ks us
 | [],_,r=>by rw[List.map_nil]at r;cases r;exact .nil
 | k::ks,_,r=>by
  rw[Vi]at r
  cases r with
  | cons h t=>exact .cons (AI h) (um t)
abbrev KT (H:Hp):List (List Key×V)->List (List Key×Addr×Value)->Prop:=Paired fun p q=>p.1=q.1/\H q.2.1=some (.tup (p.1.map kV))/\RelV p.2 q.2.2
theorem KT.val {H:Hp}{kvs:List (List Key×V)}{xs:List (List Key×Addr×Value)}(r:KT H kvs xs) (k:List Key):nJ (dj kvs k) ((atKey xs k).map (·.2)):=by
 induction r with
 | nil=>exact True.intro
 | @cons p q ps qs h t ih =>
  obtain⟨h1,_,h2⟩:=h
  by_cases e:p.1=k
  ·have e':q.1=k:=h1.symm.trans e
   have b:atKey (q::qs) k=some q.2:=by simp[atKey,List.find?_cons,e']
   rw[c_ e,b];exact h2
  ·have e':¬ q.1=k:=fun z=>e (h1.trans z)
   have b:atKey (q::qs) k=atKey qs k:=by simp[atKey,List.find?_cons,e']
   rw[cZ e,b];exact ih
section
variable {P:Program}{w:World}{H:Hp}{h:Heap}{a:Addr}
theorem Iz {u:HO}(ok:mT P w H h) (e:Rd H a u):dH P w H h a u:=e.ok ok
theorem AX {kvs:List (Key×V)}(ok:mT P w H h) (e:Rd H a (.dK kvs)):kvs.length<=sizeLine/\(a == sysModules)=false/\∃vs,KV kvs vs/\h.DictOf (bO P w) a vs :=
 show dH P w H h a (.dK kvs) from Iz ok e
theorem MX {kvs:List (Key×V)}(ok:mT P w H h) (e:H a=some (.dK kvs)):kvs.length<=sizeLine/\(a == sysModules)=false/\∃vs,KV kvs vs/\h.DictOf (bO P w) a vs:=AX ok (.inl e)
theorem Dt {ks:List Key}(ok:mT P w H h) (e:H a=some (.tup (ks.map kV))):(tupleKind (bO P w)).is h ks a:=by
 obtain⟨_,its,r,o,h1,h2,n,h3⟩:=(show dH P w H h a (.tup (ks.map kV)) from ok a _ e)
 exact⟨o,its.toArray,n,h1,h2,h3,by simpa using um r⟩
theorem CS {kvs:List (List Key×V)}(ok:mT P w H h) (e:Rd H a (.dT kvs)):kvs.length<=sizeLine/\(a == sysModules)=false /\
  ∃xs,KT H kvs xs/\h.DictOfH (tupleKind (bO P w)) a xs:=by
 obtain⟨z,y,xs,r,o,es,ep,h1,h2,h3,h4,h5⟩:=(show dH P w H h a (.dT kvs) from Iz ok e)
 refine⟨z,y,xs,r,o,es,ep,h1,h2,h3,h4,fun x hx=>?_,h5⟩
 have all:∀{l:List (List Key×V)}{m:List (List Key×Addr×Value)},KT H l m->∀x∈m,(tupleKind (bO P w)).is h x.1 x.2.1:=by
  intro l m q
  induction q with
  | nil=>intro x hx;exact nomatch hx
  | @cons p q ps qs hq t ih =>
   intro x hx
   rcases U9.mp hx with e|hx
   ·subst e
    exact Dt ok (by rw[<- hq.1];exact hq.2.1)
   ·exact ih x hx
 exact all r x hx
end
def xQ (H:Hp) (a:Addr) (y:V) (r:Option V):Prop :=
 (∃kvs k,Rd H a (.dK kvs)/\y=kV k/\r=dj kvs k) \/ ∃kvs k b,Rd H a (.dT kvs)/\y = .ref b/\H b=some (.tup (k.map kV))/\r=dj kvs k
theorem xQ.k {H:Hp}{a:Addr}{kvs:List (Key×V)}{k:Key}(e:H a=some (.dK kvs)):xQ H a (kV k) (dj kvs k):=.inl ⟨kvs,k,.inl e,rfl,rfl⟩
section
variable {X:Cx}{pins:List (Addr×Obj)}{σ:St}{H:Hp}{s:Shared}{a:Addr}{y v:V}{u r:Value}{o:Option V}{A:Around}{E:Value->Shared->Prop}
theorem Inv.big (I:Inv X pins σ H s):sysModules<s.heap.objs.size:=by
 have h:mainGlobals<s.heap.objs.size:=(I.mod.glob.keeps I.bk).lt
 exact Nat.lt_trans (by decide) h
theorem BQ {Q:Value->Shared->Prop}(hu:A.units+1<cLine) (I:Inv X pins σ H s) (g:xQ H a y (some v)) (ry:RelV y u) (h:∀w' s',Inv X pins σ H s'->RelV v w'->Q w' s') :
  wpAny (model X.prog X.w) A (getItem (.ref a) u) Q E s:=by
 rcases g with⟨kvs,k,e,ey,l⟩|⟨kvs,k,b,e,ey,eb,l⟩
 ·subst ey
  obtain⟨z,hd,vs,rel,dd⟩:=AX I.hok e
  obtain⟨w',hw,rw'⟩:=nJ.some_of (v:=v) (o:=valueAt vs k) (by rw[l];exact rel.val k)
  exact wpAny_getItem_of (AI ry) dd.mapOf hw (h w' _ (I.tok _) rw')
 ·subst ey
  cases (show u=Value.ref b from ry)
  obtain⟨z,hd,xs,rel,dd⟩:=CS I.hok e
  obtain⟨w',hw,rw'⟩:=nJ.some_of (v:=v) (o:=(atKey xs k).map (·.2)) (by rw[l];exact rel.val k)
  obtain⟨p,hp,hp2⟩:=WK.mp hw
  refine wpAny_getItem_heap (tupleKind_room_in1 hu) (Dt I.hok eb) dd hp ?_
  rw[hp2]
  exact h w' _ (I.tok _) rw'
theorem G6 {h':Heap}{t':Nat}{ob:HO}(I:Inv X pins σ H s) (mu:Nf (H a)) (hs:Heap.SameBut a s.heap h') (he:∃q,h'.get? a=some q) (new:dH X.prog X.w (upd H a ob) h' a ob) :
  Inv X pins σ (upd H a ob) { s with heap:=h',toks:=t' } :=
 I.write (x:=a) (e:=a) mu (.inl rfl) (fun b q hb z=>(hs.2 b hb).trans z) he new
theorem Dv {P:Program}{w:World}{H':Hp}{h':Heap}{kvs:List (Key×V)}{vs:List (Key×Value)}(z:kvs.length<=sizeLine) (hd:(a == sysModules)=false) (rel:KV kvs vs) (dd:h'.DictOf (bO P w) a vs) :
  dH P w H' h' a (.dK kvs):=⟨z,hd,vs,rel,dd⟩
end
def Nr (i:Expr):Prop:=∀ov iv,subscripted i false ov iv=operate [ov,iv] (getItem ov iv)
theorem FH {prog:Program}{w:World}{A:Around}{E:Value->Shared->Prop}{s:Shared}{env:Env}{value slice:Expr}{pos:Pos}{T id:String}{Q:Value->Shared->Prop}
  (hl:typeLookup (.type T) "__getitem__" = pure (some (.builtin id))) (hs:Nr slice)
  (h:wpAny (model prog w) A (eval value env) (fun o s₁=>wpAny (model prog w) A (eval slice env) (fun i s₂=>s₂.TypeIs o T/\wpAny (model prog w) A (getItem o i) Q E s₂) E s₁) E s) :
  wpAny (model prog w) A (eval (.Subscript value slice pos) env) Q E s:=by
 refine Subscript_ (Vx h (fun o s₁ h₁=>Vx h₁ (fun i s₂ h₂=>?_) fun _ _ x=>x) fun _ _ x=>x)
 obtain⟨hT,h₂⟩:=h₂
 unfold subscriptTail
 refine Uw ?_
 rw[getitemInPython_of_ne hT.not_modules]
 refine Uw (wpAny_specialOf hT hl ?_)
 have fin:wpAny (model prog w) A (subscripted slice false o i) (fun r s₃=>wpAny (model prog w) A (letTemporaryGo value o r >>= fun _=>pure r) Q E s₃) E s₂:=by
  rw[hs o i]
  exact wpAny_operating (Vx h₂ (fun r s₃ h₃=>Uw (wpAny_letTemporaryGo (UD h₃))) fun _ _ x=>x)
 first
  | exact UD (Uw fin)
  | exact Uw (UD (Uw fin))
  | exact Uw fin
theorem wJ {X:Cx}{pins:List (Addr×Obj)}{σ:St}{H:Hp}{s:Shared}{a:Addr}{y:V}{o:Option V}(I:Inv X pins σ H s) (g:xQ H a y o):s.TypeIs (.ref a) "dict" := by
 rcases g with⟨kvs,k,e,_,_⟩|⟨kvs,k,b,e,_,_,_⟩
 ·obtain⟨_,_,vs,_,dd⟩:=AX I.hok e
  exact dd.typeIs
 ·obtain⟨_,_,xs,_,dd⟩:=CS I.hok e
  exact dd.typeIs
def IW (td ty:TE):TE:=fun σ H Q=>td σ H fun x H1=>ty σ H1 fun y H2=>∃a v,x = .ref a/\xQ H2 a y (some v)/\Q v H2
section
variable {X:Cx}{o i e value:Expr}{pos pos' tpos:Pos}{td ty tv:TE}
theorem AK (hu:X.A.units+1<cLine) (ho:PE X o td) (hi:PE X i ty) (hs:Nr i):PE X (.Subscript o i pos) (IW td ty):=by
 intro pins s σ H Q I h
 refine FH PySem.F.slot_dict_getitem.lookup hs (bX (ho pins s σ H _ I h) fun u s1 ⟨x,H1,I1,rx,q1⟩=>bX (hi pins s1 σ H1 _ I1 q1) fun iv s2 ⟨y,H2,I2,ry,a,v,ex,g,q2⟩=>?_)
 subst ex
 obtain rfl:u=Value.ref a:=rx
 exact⟨wJ I2 g,BQ hu I2 g ry fun w' s3 I3 rw'=>⟨v,H2,I3,rw',q2⟩⟩
end
theorem C1 {P:Program}{w:World}{H:Hp}(h:Heap) (hb:sysModules<h.objs.size):dH P w H (h.push { cls:=.type "dict",data:=.dict #[] }) h.objs.size (.dK []) :=
 ⟨Vj _,W4.mpr (Ne.symm (UZ hb)),[],.nil,Heap.DictOf.new h⟩
def CP:TE:=fun _ H Q=>∀p,H p=none->Q (.ref p) (upd H p (.dK []))
section
variable {X:Cx}{pos:Pos}
theorem Co:PE X (.Dict [] [] pos) CP:=fun pins s σ H Q I h =>
 wpAny_Dict_empty ⟨.ref s.heap.objs.size,_,I.laid (a:=s.heap.objs.size) (o:=.dK []) (t':=s.toks) (fun _ _ q=>UJ _ q) (UE _) (C1 s.heap I.big),rfl,h _ (I.hok.fresh (UE _))⟩
end
def fG (kvs more:List (Key×V)):List (Key×V):=more.foldl (fun acc kv=>putK acc kv.1 kv.2) kvs
theorem KV.merge:∀{more:List (Key×V)}{rs:List (Key×Value)}{kvs:List (Key×V)}{vs:List (Key×Value)},KV more rs->KV kvs vs->KV (fG kvs more) (merged vs rs):=by
 intro more rs kvs vs r
 unfold KV at r
 induction r generalizing kvs vs with
 | nil=>intro q;exact q
 | @cons p q ps qs h t ih =>
  intro r0
  have e:KV (putK kvs p.1 p.2) (stored vs q.1 q.2):=by
   have:=r0.put p.1 h.2
   rw[<- h.1];exact this
  exact ih e
theorem iP:∀(more kvs:List (Key×V)),(fG kvs more).length<=kvs.length+more.length
 | [],kvs=>by show kvs.length<=kvs.length+0;omega
 | p::r,kvs=>by
  have h1:=iP r (putK kvs p.1 p.2)
  have h2:=oG kvs p.1 p.2
  show(fG (putK kvs p.1 p.2) r).length<=_
  rw[VH];omega
structure M2 (X:Cx) (o:Expr) (m:Str) (apos:Pos) (e f:Expr) (cpos:Pos):Prop where
 base:attributeBase o m X.env (eval o X.env)=eval o X.env
 few:((backTo cpos (starEach [e,f] X.env)).all (fun x=>!x.1) && (backToKw cpos (keywordEach [] X.env)).all (fun x=>x.1.isSome)
  && decide (([e,f]:List Expr).length+([]:List Keyword).length+(if ([]:List Keyword).isEmpty then 0 else 1)<30))=true
 line:(apos.endLine == cpos.line)=true
 trees:backTo cpos (starEach [e,f] X.env)=[(false,eval e X.env),(false,eval f X.env)]
def Rh (H:Hp) (a:Addr):Prop:=(∃kvs,Rd H a (.dK kvs)) \/ ∃kvs,Rd H a (.dT kvs)
theorem LK {X:Cx}{pins:List (Addr×Obj)}{σ:St}{H:Hp}{s:Shared}{a:Addr}(I:Inv X pins σ H s) (d:Rh H a) :
  s.TypeIs (.ref a) "dict"/\(∀b,Value.ref a = .ref b->∃ob,s.heap.get? b=some ob/\ob.dict=none)/\(a == sysModules)=false:=by
 rcases d with⟨kvs,e⟩|⟨kvs,e⟩
 ·obtain⟨_,hd,vs,_,dd⟩:=AX I.hok e
  refine⟨dd.typeIs,fun b q=>?_,hd⟩
  cases q
  obtain⟨ob,_,_,h1,h2,_⟩:=dd
  exact⟨ob,h1,h2.2.1⟩
 ·obtain⟨_,hd,xs,_,dd⟩:=CS I.hok e
  refine⟨dd.typeIs,fun b q=>?_,hd⟩
  cases q
  obtain⟨ob,_,_,h1,h2,_⟩:=dd
  exact⟨ob,h1,h2.2.1⟩
section
variable {X:Cx}
theorem zY {ns:List Str}:∀{us:List Value},Vals (ns.map V.str) us->StrsAre us ns:=by
 induction ns with
 | nil=>intro us r;cases r;exact .nil
 | cons n ns ih =>
  intro us r
  cases r with
  | cons r t =>
   obtain⟨tk,rfl⟩:=r
   exact .cons n tk (ih t)
def rJoin (K:W.Frag):V->List V->Hp->VK->Prop:=fun x vs H Q=>∃z a ys,x = .str z/\vs=[.ref a]/\aW K H a (List.map V.str ys)/\(ys.map (·.length)).sum+ys.length*z.length<=16777216/\Q (.str (Txt.join z ys)) H
theorem GA:Mf X "str.join" (rJoin X.K):=by
 intro pins s σ H x xs v us Q I rx rs h
 obtain⟨z,a,ys,rfl,rfl,hq,hz,q⟩:=h
 obtain⟨t,rfl⟩:=rx
 obtain⟨u,rfl,ru⟩:=vals1 rs
 cases (show u=Value.ref a from ru)
 obtain⟨its,rv,pl,_⟩:=I.list hq
 exact join_list pl.isList (by simpa using zY rv) hz fun t' k=>⟨.str _,H,I.tok _,⟨_,rfl⟩,q⟩
end
section
variable {σ:St}{H:Hp}{Q:VK}{D:Ends}
theorem Lj {z:Str}{i:Int}{c:Nat}(h:z.length<=sizeLine) (e:rA z.cps.toList i=some c) (q:Q (.str ⟨#[c]⟩) H):NS (.str z) (.int i) H Q:=⟨z,i,c,rfl,rfl,h,e,q⟩
end
section
variable {es:List Expr}{env:Env}
theorem aB {c j p}:starEach (.Constant c j p::es) env =(false,eval (.Constant c j p) env)::starEach es env:=rfl
theorem af {x p}:starEach (.Name x p::es) env =(false,eval (.Name x p) env)::starEach es env:=rfl
theorem br {a o b p}:starEach (.BinOp a o b p::es) env =(false,eval (.BinOp a o b p) env)::starEach es env:=rfl
theorem ye {o b p}:starEach (.UnaryOp o b p::es) env =(false,eval (.UnaryOp o b p) env)::starEach es env:=rfl
theorem oE {a o b p}:starEach (.Compare a o b p::es) env =(false,eval (.Compare a o b p) env)::starEach es env:=rfl
theorem aQ {a o b p}:starEach (.Call a o b p::es) env =(false,eval (.Call a o b p) env)::starEach es env:=rfl
theorem aM {a o p}:starEach (.Subscript a o p::es) env =(false,eval (.Subscript a o p) env)::starEach es env:=rfl
theorem iY {a k p}:starEach (.Tuple a k p::es) env =(false,eval (.Tuple a k p) env)::starEach es env:=rfl
theorem dN {a b c p}:starEach (.ListComp a b c p::es) env =(false,eval (.ListComp a b c p) env)::starEach es env:=rfl
end
section
variable {X:Cx}
def H_:List V->Hp->VK->Prop:=fun xs H Q=>∃j,xs=[.int j]/\∀r,H r=none->Q (.ref r) (upd H r (.rng 0 j))
theorem BU:dc X (.type "range") H_:=by
 intro pins s σ H xs us Q I r h
 obtain⟨j,rfl,q⟩:=h
 obtain⟨u,rfl,rx⟩:=vals1 r
 obtain⟨t,rfl⟩:=rx
 refine call_range_1 ⟨.ref s.heap.objs.size,_,I.laid (fun b u e=>UJ _ e) (UE _) (o:=.rng 0 j) ?_,rfl,q _ (I.hok.fresh (UE _))⟩
 exact⟨_,_,_,U4 _ rfl⟩
def Bq (n:Nat):List Int:=(List.range n).map fun(i:Nat)=>(i:Int)
def Kd:List V->Hp->VK->Prop:=fun xs H Q=>∃r j,xs=[.ref r]/\H r=some (.rng 0 j)/\0<=j/\j<=100000/\∀l,H l=none->Q (.ref l) (upd H l (.lst ((Bq j.toNat).map V.int)))
theorem sE {n:Nat}{acc:Array Value}(h:ItemsOf (fun i v=>∃t,v=Value.int (0+i*1) t) acc n):Vals ((Bq n).map V.int) acc.toList:=by
 obtain⟨hs,hi⟩:=h
 have key:∀(m:Nat) (l:List Value),l.length=m->(∀(i:Nat) v,l[i]? = some v->∃t,v=Value.int (0+(i:Int)*1) t)->Vals ((Bq m).map V.int) l:=by
  intro m
  induction m with
  | zero=>intro l hl _;cases l with
   | nil=>exact .nil
   | cons a b=>cases hl
  | succ m ih =>
   intro l hl hv
   have hne:l ≠ []:=by intro z;rw[z]at hl;cases hl
   have hd:l=l.dropLast ++ [l.getLast hne]:=(Xf hne).symm
   have e:(Bq (m+1)).map V.int =(Bq m).map V.int ++ [V.int (m:Int)]:=by
    unfold Bq
    rw[List.range_succ,UB,UB];rfl
   rw[e,hd]
   refine Vals.append (ih _ (by rw[List.length_dropLast,hl];rfl) fun i v hh=>hv i v ?_) (.cons ?_ .nil)
   ·have:i<l.dropLast.length:=(Ux.mp hh).1
    rw[hd,UO this];exact hh
   ·obtain⟨t,ht⟩:=hv m (l.getLast hne) (by
     rw[List.getLast_eq_getElem,<- Uy]
     congr 1
     omega)
    exact⟨t,by rw[ht];congr 1;omega⟩
 refine key n acc.toList (by rw[<- hs];simp) fun i v hh=>?_
 exact hi i v (by simpa using hh)
theorem zN (hc:X.calm=true):dc X (.type "list") Kd:=by
 intro pins s σ H xs us Q I r h
 obtain⟨a,j,rfl,ha,hj0,hj,q⟩:=h
 obtain⟨u,rfl,rx⟩:=vals1 r
 cases rx
 obtain⟨t,u,v,e⟩:=I.hok _ _ ha
 have hn:Builtin.Range.rangeSize 0 j 1 =(j.toNat:Nat):=by rw[rangeSize_one];split <;> omega
 have hlow:-(2^62)<=j:=by omega
 ·refine call_list_range (n:=j.toNat) (I.ok.hd hc) e (small_one (by omega) (by omega) hlow (by omega)) hn (by omega) fun h' tk acc c hk hD hI=>?_
  have hv:=sE hI
  have hz:((Bq j.toNat).map V.int).length<=sizeLine:=by
   rw[Uv];unfold Bq;rw[Uv,V6]
   have:(100000:Nat)<=sizeLine:=by decide
   omega
  refine⟨.ref s.heap.objs.size,_,I.laid (t':=tk) hk (UE _) (o:=.lst ((Bq j.toNat).map V.int)) ⟨hz,acc.toList,c,hv,by simpa using hD⟩,rfl,q _ (I.hok.fresh (UE _))⟩
theorem GZ {j:Int}{H:Hp}{Q:VK}(q:∀r,H r=none->Q (.ref r) (upd H r (.rng 0 j))):H_ [.int j] H Q:=⟨j,rfl,q⟩
theorem Gy {n i:Nat}{x:V}(h:((Bq n).map V.int)[i]? = some x):i<n/\x = .int i:=by
 have hl:=(Ux.mp h).1
 rw[Uv]at hl
 unfold Bq at hl h
 rw[Uv,V6]at hl
 rw[UI,UI,List.getElem?_range hl]at h
 exact⟨hl,(US h).symm⟩
end
section
variable {X:Cx}
def Ih (K:W.Frag):List V->Hp->VK->Prop:=fun xs H Q=>∃a ns,xs=[.ref a]/\aW K H a (List.map V.int ns)/\ns ≠ []/\∀M,M∈ns->(∀z,z∈ns->z<=M)->Q (.int M) H
theorem BS (hc:X.calm=true):dc X (.builtin "max") (Ih X.K):=by
 intro pins s σ H xs us Q I r h
 obtain⟨a,ns,rfl,hq,hne,q⟩:=h
 obtain⟨u,rfl,r1⟩:=vals1 r
 cases (show u=Value.ref a from r1)
 obtain⟨its,rv,pl,hz⟩:=I.list hq
 have hi:IntsAre its ns:=intsAre_of rv
 obtain⟨zs,hx⟩:=hi.allInts.items
 have e1:numsOf its=ns:=hi.numsOf
 have e2:numsOf its=zs.toList.map (·.1):=by
  have:=nums_intItems zs
  rw[<- hx]at this
  simpa using this
 have hns:ns=zs.toList.map (·.1):=e1.symm.trans e2
 have hl:s.heap.IsList a (intItems zs):=by rw[<- hx];exact pl.isList
 have hpos:0<zs.size:=by
  have:=W5.mpr hne
  rw[hns,Uv,VB]at this
  exact this
 refine max_intList (I.ok.hd hc) hl hpos fun v h' tk hv hk=>?_
 obtain⟨t,rfl⟩:=intItems_at hv
 obtain⟨b1,b2⟩:=argBest_gt (numAt zs) (zs.size-1)
 refine⟨.int _,H,I.kept hk,⟨t,rfl⟩,q _ ?_ fun z hz=>?_⟩
 ·rw[hns,numAt_eq]
  exact getD_mem (by rw[Uv,VB];omega)
 ·rw[hns]at hz
  obtain⟨j,hj,rfl⟩:=mem_getD hz
  rw[Uv,VB]at hj
  rw[<- numAt_eq]
  exact b2 j (by omega)
def Il (K:W.Frag):V->Hp->VK->Prop:=fun x H Q=>∃a xs,x = .ref a/\aW K H a xs/\∀p,H p=none->Q (.ref p) (upd H p (.lst xs.reverse))
def NI (K:W.Frag) (te:TE):TE:=fun σ H Q=>te σ H fun x H1=>Il K x H1 Q
theorem r6 {env:Env}{j:Nat}{q1 q2:Pos}{M:Program}{w:World}{A:Around}{E:Value->Shared->Prop}{s:Shared}{Q:Value->Shared->Prop}(h:∀t tk,Q (.int (-1) t) { s with toks:=tk }) :
  wpAny (model M w) A (evalPart (some (.UnaryOp .USub (.Constant (.int 1) j q1) q2)) env) Q E s:=by
 show wpAny (model M w) A (eval (.UnaryOp .USub (.Constant (.int 1) j q1) q2) env) Q E s
 refine UnaryOp_ (wpAny_Constant_int ?_)
 exact neg_int (h _ _)
theorem EH {e:Expr}{te:TE}{j:Nat}{q1 q2 p2 pos:Pos}(he:PE X e te):PE X (.Subscript e (.Slice none none (some (.UnaryOp .USub (.Constant (.int 1) j q1) q2)) p2) pos) (NI X.K te):=by
 intro pins s σ H Q I h
 refine Subscript_ (bX (he pins s σ H _ I h) fun v s1 ⟨x,H1,I1,r1,q1⟩=>?_)
 obtain⟨a,xs,rfl,hx,q⟩:=q1
 cases r1
 refine wpAny_Slice ?_
 rw[evalPart_none]
 refine UD ?_
 refine UD ?_
 refine r6 fun t tk=>?_
 have I4:Inv X pins σ H1 { s1 with heap:=s1.heap.push { cls:=.type "slice",data:=.fields #[.none,.none,.int (-1) t] },toks:=tk }:=I1.kept (t':=tk) fun b ob q=>UJ _ q
 obtain⟨its,r,ht,hz⟩:=I4.list hx
 have hlen:=r.length
 show wpAny (model X.prog X.w) X.A (subscriptTail e (.Slice none none (some (.UnaryOp .USub (.Constant (.int 1) j _) q2)) p2) (.ref a) (.ref s1.heap.objs.size)) (EP X pins σ Q) X.xe { s1 with heap:=s1.heap.push { cls:=.type "slice",data:=.fields #[.none,.none,.int (-1) t] },toks:=tk }
 refine tail_any (T := "list") (ops:=[.ref a,.ref s1.heap.objs.size]) ht.isList.typeIs slot_list_getitem.lookup ?_ (by with_unfolding_all rfl)
 refine wpAny_getItem_list_slice ht.isList (Heap.IsSliceOf.new ..) .none .none (.int (-1) t) (by simp) ?_ (by rw[Vc] <;> omega)
 rw[PySem.W.krv_pick]
 refine⟨.ref _,_,I4.laid (t':=tk) (o:=.lst xs.reverse) (fun b ob q=>UJ _ q) (UE _) ?_,rfl,q _ (I4.hok.fresh (UE _))⟩
 exact⟨by rw[Vg];exact hz,its.reverse,0,r.reverse,(U4 _ rfl:_)⟩
def II:List V->Hp->VK->Prop:=fun xs H Q=>∃k,xs=[.bl k]/\Q (.int (if k then 1 else 0)) H
theorem BN:dc X (.type "int") II:=by
 intro pins s σ H xs us Q I r h
 exact Bh pins s σ H xs us Q I r (.inr h)
end
section
variable {K:W.Frag}{H:Hp}{Q:VK}{σ:St}
theorem Jg {te:TE}(h:te σ H fun x H1=>Il K x H1 Q):NI K te σ H Q:=h
theorem Gw {a:Addr}{ns:List Int}(h:aW K H a (ns.map V.int)) (n:ns ≠ []) (q:∀M,M∈ns->(∀z,z∈ns->z<=M)->Q (.int M) H):Ih K [.ref a] H Q:=⟨a,ns,rfl,h,n,q⟩
theorem Gu {k:Bool}(q:Q (.int (if k then 1 else 0)) H):II [.bl k] H Q:=⟨k,rfl,q⟩
theorem tM:∀ns:List Int,(ns.map V.int).all mG=true
 | []=>rfl
 | n::r=>by rw[Vi,List.all_cons,tM r];rfl
theorem x9 (k:Int):∀ns:List Int,Ey (.int k) (ns.map V.int)=decide (k∈ns)
 | []=>by simp[Ey]
 | n::r=>by
  have ih:=x9 k r
  unfold Ey at ih ⊢
  rw[Vi,Xu,ih]
  have e:Ef (V.int n) (V.int k)=decide (k=n):=by
   by_cases h:k=n
   ·subst h;simp[Ef]
   ·rw[U6 h]
    have h2:¬ n=k:=fun z=>h z.symm
    simp[Ef,h2]
  rw[e]
  simp[List.mem_cons]
theorem vK {a:Addr}{ns:List Int}{k:Int}(h:aW K H a (ns.map V.int)) (q:Q (.bl (decide (k∈ns))) H):SG K false (.int k) (.ref a) H Q :=
 ⟨a,_,rfl,.inl h,rfl,tM ns,by rw[x9];exact q⟩
end
section
variable {X:Cx}{pins:List (Addr×Obj)}{σ:St}{H:Hp}{s:Shared}{h':Heap}
theorem Inv.turnedN {t':Nat}{ch:List Addr}{a:Addr}{o:HO}(I:Inv X pins σ H s) (k:∀b o,b∉ch->s.heap.get? b=some o->h'.get? b=some o) (f:∀b∈ch,jA X pins H b)
  (ha:s.heap.objs.size<=a) (new:dH X.prog X.w (upd H a o) h' a o):Inv X pins σ (upd H a o) { s with heap:=h',toks:=t' }:=by
 have nit:∀b u,H b=some u->b∉ch:=fun b u e z=>by rw[(f b z).1]at e;cases e
 have hn:=I.hok.fresh ha
 have old:∀b ob,s.heap.get? b=some ob->b≠a:=fun b ob q=>UZ (Vd (UU q) ha)
 have up:∀b u,H b=some u->upd H a o b=some u:=fun b u q=>by rw[av (ak q hn)];exact q
 refine I.step (g':=s.gens) (d':=s.drawn) (ch:=ch) (fun b hb=>?_) (fun b o _ _ hc e _=>k b o hc e) (fun b o _ _ hc e _=>⟨o.slots,k b o hc e⟩) (fun b ob _ e n=>by rw[av (old b ob e)];exact n) (fun b o hc e=>⟨o,k b o hc e⟩) (fun b xs e=>up _ _ e) (fun b ob u e=>up _ _ e)
  (fun b ps e=>⟨#[],by rw[up _ _ e];simp⟩) (fun m hm=>?_) (fun b u e=>?_) I.bare
 ·obtain⟨f0,f1,f2,f3,f4,f5⟩:=f b hb
  exact⟨f3,f1,f4,f5⟩
 ·obtain⟨o,es,ep,ho,r⟩:=hm
  exact⟨o,es,ep,k _ o (fun z=>(f _ z).2.1 rfl) ho,r⟩
 ·by_cases hb:b=a
  ·subst hb;rw[ao]at e;cases e;exact new
  ·rw[av hb]at e
   refine(I.hok b u e).stay (fun c v hc q=>k c v ?_ q) (fun c q=>up _ _ q) fun c xs q=>up _ _ q
   rcases hc with z|z
   ·rw[z];exact nit b u e
   ·exact nit c _ z
end
def JP (K:W.Frag) (a:Addr):It :=
 ⟨fun i H=>∃xs x,aW K H a xs/\xs[i]? = some x,fun i H x H'=>∃t y,H t=none/\H'=upd H t (.tup [.int i,y])/\x = .ref t/\∀xs,aW K H a xs->xs[i]? = some y,fun i H=>∃xs,aW K H a xs/\xs.length<=i⟩
theorem Bu {P:Program}{w:World}{K:W.Frag}{elts:List Expr}{x1}{tpos:Pos}(a e it:Addr) (hne:e≠it) :
  Turn P w K (.Tuple elts x1 tpos) (JP K a) [e,it] e (fun i h=>(∃old,IsEnum h e it ((i:Nat):Int) old)/\h.IsListIter it a i) where
 mem:=by simp
 obj:=fun i h st b hb=>by
  obtain⟨⟨old,he⟩,⟨o,e1,c,d⟩⟩:=st
  have:b=e\/b=it:=by simpa using hb
  rcases this with rfl|rfl
  ·exact⟨_,he,fun v z=>by cases z⟩
  ·exact⟨o,e1,fun v z=>by rw[d]at z;cases z⟩
 keep:=fun i h h' st k=>by
  obtain⟨⟨old,he⟩,hi⟩:=st
  exact⟨⟨old,k e (by simp) _ he⟩,hi.at fun o q=>k it (by simp) o q⟩
 item:=by
  intro X hP hw hK hc i pins s σ H E I hf st hg
  subst hP hw hK
  obtain⟨xs,x,hq,hx⟩:=hg
  obtain⟨⟨old,he⟩,hit⟩:=st
  obtain⟨its,rv,p,hz⟩:=I.list hq
  obtain⟨u,hu,ru⟩:=rv.get hx
  have fe:=hf e (by simp)
  have fi:=hf it (by simp)
  have heH:e<s.heap.objs.size:=UU he
  obtain⟨oi,hoi,ci,di⟩:=id hit
  have hiH:it<s.heap.objs.size:=UU hoi
  refine wpAny_pyNext_enum_item he hit p.isList (x:=u) (by simpa using hu) hne fun h₁ heo hit₁ ht₁ hz₁ hk₁=>⟨_,rfl,?_⟩
  refine wpAny_letOwnedTupleGo_enum heo fun h₂ he₂ hs₂=>?_
  replace hs₂:Heap.SameBut e h₁ h₂:=hs₂
  have hnew:h₂.get? s.heap.objs.size=some { cls:=.type "tuple",data:=.seq #[.int i s.toks,u] }:=(hs₂.2 _ (Xo heH)).trans ht₁
  have hkeep:∀b o,b ∉ [e,it]->s.heap.get? b=some o->h₂.get? b=some o:=fun b o hb q=>by
   have n1:b≠e:=fun z=>hb (by simp[z])
   have n2:b≠it:=fun z=>hb (by simp[z])
   exact(hs₂.2 b n1).trans (hk₁ b o n1 n2 q)
  have free0:=I.hok.fresh (UE s.heap.objs.size)
  have hT:dH X.prog X.w (upd H s.heap.objs.size (.tup [.int i,x])) h₂ s.heap.objs.size (.tup [.int i,x]) :=
   ⟨(by show 2<=sizeLine;decide),[.int i s.toks,u],.cons ⟨_,rfl⟩ (.cons ru .nil),⟨_,hnew,rfl,_,rfl⟩⟩
  have I2:Inv X pins σ (upd H s.heap.objs.size (.tup [.int i,x])) { s with heap:=h₂,toks:=s.toks+1 }:=I.turnedN (t':=s.toks+1) hkeep hf (UE _) hT
  refine⟨.ref s.heap.objs.size,upd H s.heap.objs.size (.tup [.int i,x]),I2,rfl,⟨s.heap.objs.size,x,free0,rfl,rfl,fun ys hy=>by rw[I.list_inj hy hq];exact hx⟩,⟨⟨u,?_⟩,?_⟩,fun b hb=>?_⟩
  ·have:(((i+1:Nat)):Int) =(i:Int)+1:=by omega
   rw[this];exact he₂
  ·exact hit₁.extBut hs₂.extBut (Ne.symm hne)
  ·have hb2:b=e\/b=it:=by simpa using hb
   rw[av]
   ·exact(hf b hb).1
   ·rcases hb2 with z|z
    ·rw[z];exact UZ heH
    ·rw[z];exact UZ hiH
 done:=by
  intro X hP hw hK hc i pins s σ H E I hf st hg
  subst hP hw hK
  obtain⟨xs,hq,hx⟩:=hg
  obtain⟨⟨old,he⟩,hit⟩:=st
  obtain⟨its,rv,p,hz⟩:=I.list hq
  obtain⟨f0,f1,f2,f3,f4,f5⟩:=hf it (by simp)
  have hl:=rv.length
  exact wpAny_pyNext_enum_end (I.ok.hd hc) he hit p.isList (by simp;omega) fun h' eb=>⟨rfl,I.turned (t':=s.toks) (fun b o hb e=>eb b o hb e) f0 f1 f3 f4 f5⟩
 self:=fun _ _ _ _ _ st h=>by
  obtain⟨⟨old,he⟩,_⟩:=st
  exact wpAny_pyIter_enum he h
section
variable {X:Cx}{elts:List Expr}{x1:_}{tpos:Pos}
def Ip (K:W.Frag) (ta:TA):TI:=fun σ H R=>ta σ H fun vs H1=>∃a,vs=[.ref a]/\(∃xs,aW K H1 a xs)/\R (JP K a) H1
theorem pD {x1}{l:Expr}{ta:TA}{p pos:Pos}(hg:Gl X "enumerate") (hm:X.mg "enumerate" = none) (ha:PA X [l] ta) (hs:starEach [l] X.env=[(false,eval l X.env)]:=by rfl) :
  PI X (.Tuple elts x1 tpos) (.Call (.Name "enumerate" p) [l] [] pos) (Ip X.K ta):=by
 intro pins s σ H R I h
 refine Call_ (qP I hg hm vW (WJ (bX (ha pos pins s σ H _ I h) fun us s1 ⟨vs,H1,I1,r1,q1⟩=>?_) hs rfl))
 obtain⟨a,rfl,⟨xs,hq⟩,q⟩:=q1
 obtain⟨u,rfl,ru⟩:=vals1 r1
 cases ru
 obtain⟨its,rv,pl,hz⟩:=I1.list hq
 refine call_enumerate_list pl.isList fun h' he hit hsz hk=>?_
 refine wpAny_pyIter_enum he ?_
 have I2:Inv X pins σ H1 { s1 with heap:=h' }:=I1.kept (t':=s1.toks) hk
 refine⟨s1.heap.objs.size+1,[s1.heap.objs.size+1,s1.heap.objs.size],_,_,H1,rfl,I2,Bu a (s1.heap.objs.size+1) s1.heap.objs.size (Nat.succ_ne_self _),⟨⟨_,he⟩,hit⟩,fun b hb=>?_,q⟩
 have hb2:b=s1.heap.objs.size+1\/b=s1.heap.objs.size:=by simpa using hb
 rcases hb2 with rfl|rfl
 ·exact I1.fpOk (WX _) (I1.hok.fresh (WX _))
 ·exact I1.fpOk (UE _) (I1.hok.fresh (UE _))
end
section
variable {K:W.Frag}{H:Hp}{Q:VK}{σ:St}
theorem CB {ta:TA}{R:It->Hp->Prop}(h:ta σ H fun vs H1=>∃a,vs=[.ref a]/\(∃xs,aW K H1 a xs)/\R (JP K a) H1):Ip K ta σ H R:=h
theorem qo {a:Addr}{xs:List V}{g:TG}{tb:TS}{D:Ends}(Pv:Nat->St->Hp->Prop) (h0:Pv 0 σ H) (hl:∀i σ H,i<=xs.length->Pv i σ H->aW K H a xs)
  (hs:∀i x σ H t,xs[i]? = some x->Pv i σ H->H t=none->g (.ref t) σ (upd H t (.tup [.int i,x])) fun σ2 H2=>tb { D with nx:=Pv (i+1),ct:=Pv (i+1),bk:=D.nx } σ2 H2) (hd:∀σ H,Pv xs.length σ H->D.nx σ H) :
  ∃W:Nat->Nat->St->Hp->Prop,(∃m,W 0 m σ H)/\∀i m σ H,W i m σ H ->
   ((JP K a).stop i H/\D.nx σ H) \/((JP K a).go i H/\∃N:St->Hp->Prop,(∀σ' H',N σ' H'->∃m',m'<m/\W (i+1) m' σ' H')/\∀x H',(JP K a).yld i H x H'->g x σ H' fun σ2 H2=>tb { D with nx:=N,ct:=N,bk:=D.nx } σ2 H2):=by
 refine⟨fun i m σ H=>m=xs.length-i/\i<=xs.length/\Pv i σ H,⟨xs.length,by simp,Vj _,h0⟩,?_⟩
 rintro i m σ H ⟨rfl,hi,p⟩
 have q:=hl i σ H hi p
 by_cases hlt:i<xs.length
 ·refine .inr ⟨⟨xs,xs[i],q,by simp[hlt]⟩,Pv (i+1),fun σ2 H2 p'=>⟨xs.length-(i+1),by omega,rfl,hlt,p'⟩,fun x H2 y=>?_⟩
  obtain⟨t,z,nt,rfl,rfl,hz⟩:=y
  exact hs i z σ H t (hz xs q) p nt
 ·have e:i=xs.length:=by omega
  subst e
  exact .inl ⟨⟨xs,q,UE _⟩,hd σ H p⟩
end
section
variable {X:Cx}{K:W.Frag}{tg:Expr}
theorem mw {l:Expr}{tl:TE}(h:X.K=K) (hl:PE X l tl):PI X tg l (DC K tl):=by subst h;exact bu hl
end
theorem yZ {X:Cx}{k n g c}{scope:Scope}{N vs fs:List Str}{js:List Nat}(hs:X.env.scope = { kind:=k,names:=n,isGenerator:=g,isCoroutine:=c }) (hN:X.N=N)
  (h:J8 { kind:=k,names:=n,isGenerator:=g,isCoroutine:=c } scope N vs fs js=true):nV X scope vs fs js:=cF h hs hN
section
variable {prog:Program}{w:World}{A:Around}{E:Value->Shared->Prop}{s:Shared}
def yW (prog:Program) (w:World) (A:Around) (E:Value->Shared->Prop) (s:Shared) (ltb:Keyed->Keyed->Bool) (S:Keyed->Prop) (κ:SortKind):Prop :=
 ∀(x y:Keyed) (st:SortSt) (Q:Option Bool->SortSt->Prop),S x->S y->kindOf st=κ->Q (some (ltb x y)) st->wpS (model prog w) A E s (lt' x y) Q st
variable {ltb:Keyed->Keyed->Bool}{S:Keyed->Prop}{κ:SortKind}
theorem wU {ar:Array Keyed}{i:Nat}{x:Keyed}{st:SortSt}{Q:Keyed->SortSt->Prop}(h:ar[i]? = some x) (q:Q x st):wpS (model prog w) A E s (elem' ar i) Q st:=by
 rw[elem'_eq,h];exact Vy q
end
structure vU (ltb:Keyed->Keyed->Bool):Prop where
 asym:∀{x y},ltb x y=true->ltb y x=false
 tr:∀{x y z},ltb y x=false->ltb z y=false->ltb z x=false
def leB (ltb:Keyed->Keyed->Bool) (x y:Keyed):Prop:=ltb y x=false
section
variable {ltb:Keyed->Keyed->Bool}{xa xb ou:List Keyed}{ja jb k:Nat}
theorem oM {α:Type}(l:List α) (j k:Nat):l.drop j =(l.drop j).take k++l.drop (j+k):=by
 rw[<- XE];exact(U1 k (l.drop j)).symm
end
section
variable {prog:Program}{w:World}{A:Around}{E:Value->Shared->Prop}{s:Shared}{ltb:Keyed->Keyed->Bool}{S:Keyed->Prop}{κ:SortKind}
theorem DK {ar:Array Keyed}{P R T:List Keyed}(h:ar.toList=P++R++T) (i:Nat) (hi:i<R.length):ar[P.length+i]? = R[i]?:=by
 have:ar.toList[P.length+i]? = R[i]?:=by
  rw[h,U5,UL (by omega),Nat.add_sub_cancel_left,UO hi]
 simpa using this
end
def vo (R:List Keyed) (k l:Nat):List Keyed:=R.take l++((R.drop k).take 1++((R.take k).drop l++R.drop (k+1)))
theorem sU (R:List Keyed) {k l:Nat}(h:l<=k):(vo R k l).Perm R:=by
 unfold vo
 have e1:R.take k=R.take l++(R.take k).drop l:=by
  conv=>lhs;rw[<- U1 l (R.take k)]
  rw[Xl,VM h]
 have e2:R=R.take k++((R.drop k).take 1++R.drop (k+1)):=by
  conv=>lhs;rw[<- U1 k R,oM R k 1]
 conv=>rhs;rw[e2]
 rw[e1,U5]
 refine WT _ ?_
 have e3:List.drop l (R.take l++(R.take k).drop l) =(R.take k).drop l:=by rw[<- e1]
 rw[e3]
 rw[<- U5,<- U5]
 exact List.Perm.append_right _ List.perm_append_comm
theorem w_ (R:List Keyed) {k l:Nat}(hk:k<R.length) (hl:l<=k) (p:Nat):(vo R k l)[p]? = if p=l then R[k]? else if l<p/\p<=k then R[p-1]? else R[p]?:=by
 unfold vo
 have len1:(R.take l).length=l:=by rw[UH];omega
 have len2:((R.drop k).take 1).length=1:=by rw[UH,Vt];omega
 have len3:((R.take k).drop l).length=k-l:=by rw[Vt,UH];omega
 by_cases c1:p<l
 ·rw[UO (by omega),UM (by omega),UM (by omega),Wu,UN c1]
 rw[UL (by omega),len1]
 by_cases c2:p=l
 ·rw[UN c2,UO (by omega),Wu,UN (by omega),VY]
  congr 1;omega
 rw[UM c2,UL (by omega),len2]
 by_cases c3:p<=k
 ·rw[UN ⟨by omega,c3⟩,UO (by omega),VY,Wu,UN (by omega)]
  congr 1;omega
 ·rw[UM (by omega),UL (by omega),len3,VY]
  congr 1;omega
theorem yF {ar:Array Keyed}{P R T:List Keyed}(h:ar.toList=P++R++T) {k l:Nat}(hk:k<R.length) (hl:l<=k):(bubble ar (P.length+k) (k-l)).toList=P++vo R k l++T:=by
 have hsz:ar.size=P.length+R.length+T.length:=by
  have:=Vk List.length h
  rw[VB]at this
  simp at this;omega
 have hil:(vo R k l).length=R.length:=(sU R hl).length_eq
 apply Vz
 intro p
 rw[Wr,getElem?_bubble (by omega) _ (by omega) p,show P.length+k-(k-l)=P.length+l by omega]
 have get:∀q,ar[q]? =(P++R++T)[q]?:=fun q=>by rw[<- h,Wr]
 by_cases c1:p<P.length
 ·rw[UM (by omega),UM (by omega),get,U5,U5,UO c1,UO c1]
 ·by_cases c2:p<P.length+R.length
  ·have eR:(P++vo R k l++T)[p]? =(vo R k l)[p-P.length]?:=by
    rw[U5,UL (by omega),UO (by omega)]
   have eg:∀q,P.length<=q->q<P.length+R.length->ar[q]? = R[q-P.length]?:=fun q h1 h2=>by
    rw[get,U5,UL h1,UO (by omega)]
   rw[eR,w_ R hk hl]
   by_cases c3:p=P.length+l
   ·rw[UN c3,UN (show p-P.length=l by omega),eg _ (by omega) (by omega)];congr 1;omega
   ·rw[UM c3,UM (show ¬ p-P.length=l by omega)]
    by_cases c4:P.length+l<p/\p<=P.length+k
    ·rw[UN c4,UN (show l<p-P.length/\p-P.length<=k by omega),eg _ (by omega) (by omega)];congr 1;omega
    ·rw[UM c4,UM (show ¬(l<p-P.length/\p-P.length<=k) by omega),eg _ (by omega) (by omega)]
  ·rw[UM (by omega),UM (by omega),get,U5,U5,UL (by omega),UL (by omega),UL (by omega),UL (by omega),hil]
section
variable {prog:Program}{w:World}{A:Around}{E:Value->Shared->Prop}{s:Shared}{ltb:Keyed->Keyed->Bool}{S:Keyed->Prop}{κ:SortKind}
theorem uA (hO:yW prog w A E s ltb S κ) {st:SortSt}{i j:Nat}{x y:Keyed}{Q:Option Bool->SortSt->Prop}(hk:kindOf st=κ) (hi:(arrOf st)[i]? = some x) (hj:(arrOf st)[j]? = some y) (Sx:S x) (Sy:S y) (q:Q (some (ltb x y)) st):wpS (model prog w) A E s (ltAt' i j) Q st:=by
 rw[ltAt'_eq]
 refine Vl (wpS_get ?_)
 exact Vl (wU hi (Vl (wU hj (hO x y st Q Sx Sy hk q))))
def cO (ltb:Keyed->Keyed->Bool) (R:List Keyed) (k:Nat):Prop:=∀i j x y,i<j->j<k->R[i]? = some x->R[j]? = some y->leB ltb x y
theorem Ei (O:vU ltb) (hO:yW prog w A E s ltb S κ) {st:SortSt}{Q:Bool->SortSt->Prop}{P R T:List Keyed}{ok:Nat}(hk:kindOf st=κ) (hf:failedOf st=none) (harr:(arrOf st).toList=P++R++T) (hok:ok<=R.length) (hr:cO ltb R ok) (hSa:∀x∈R,S x)
  (h:∀(st':SortSt) (R':List Keyed),(arrOf st').toList=P++R'++T->R'.Perm R->cO ltb R' R'.length->kindOf st'=κ->failedOf st'=none->pendingOf st'=pendingOf st->Q true st'):wpS (model prog w) A E s (binarySort' P.length R.length ok) Q st:=by
 rw[binarySort'_eq]
 refine Vl (Xw (Ww (I:=fun k c st'=>c =(none,())/\kindOf st'=κ/\failedOf st'=none/\pendingOf st'=pendingOf st/\∃R',(arrOf st').toList=P++R'++T/\R'.Perm R/\cO ltb R' (min k R.length))
  (Q:=fun c st'=>c =(none,())/\kindOf st'=κ/\failedOf st'=none/\pendingOf st'=pendingOf st/\∃R',(arrOf st').toList=P++R'++T/\R'.Perm R/\cO ltb R' R.length) ?step ?fin ⟨rfl,hk,hf,rfl,R,harr,List.Perm.refl _,?init⟩) ?post)
 case init =>
  intro i j x y hij hj hx hy
  exact hr i j x y hij (by omega) hx hy
 case fin =>
  rintro c st' ⟨hc,k1,k2,k3,R',a1,a2,a3⟩
  exact⟨hc,k1,k2,k3,R',a1,a2,fun i j x y hij hj=>a3 i j x y hij (by omega)⟩
 case post =>
  rintro c st' ⟨rfl,k1,k2,k3,R',a1,a2,a3⟩
  exact Vy (h st' R' a1 a2 (by rw[a2.length_eq];exact a3) k1 k2 k3)
 case step =>
  rintro k c st' h1 hkn ⟨rfl,k1,k2,k3,R',a1,a2,a3⟩
  rw[show min k R.length=k by omega]at a3
  have hlen:=a2.length_eq
  have hS':∀x∈R',S x:=fun x hx=>hSa x (a2.mem_iff.mp hx)
  have gt:∀i,i<R'.length->(arrOf st')[P.length+i]? = R'[i]?:=fun i hi=>DK a1 i hi
  obtain⟨v,hv⟩ : ∃v,R'[k]? = some v:=⟨_,Uy (by omega)⟩
  have Sv:=hS' v (UA hv)
  refine Vl (Xw (Ww (I:=fun x c st''=>st''=st'/\∃l r,c =(none,l,r)/\l<=r/\r<=k/\r-l<=k-x/\(∀i x,i<l->R'[i]? = some x->leB ltb x v)/\(∀i x,r<=i->i<k->R'[i]? = some x->ltb v x=true))
   (Q:=fun c st''=>st''=st'/\∃l r,c =(none,l,r)/\l<=k/\(∀i x,i<l->R'[i]? = some x->leB ltb x v)/\(∀i x,l<=i->i<k->R'[i]? = some x->ltb v x=true)) ?istep ?ifin ⟨rfl,0,k,rfl,by omega,by omega,by omega,fun i x hi=>by omega,fun i x h1 h2=>by omega⟩) ?ipost)
  case ifin =>
   rintro c st'' ⟨rfl,l,r,rfl,b1,b2,b3,b4,b5⟩
   have:l=r:=by omega
   subst this
   exact⟨rfl,l,l,rfl,b2,b4,b5⟩
  case istep =>
   rintro x c st'' _ hxk ⟨e,l,r,rfl,b1,b2,b3,b4,b5⟩
   rw[e]
   dsimp only
   by_cases hge:l ≥ r
   ·rw[UN hge]
    have:l=r:=by omega
    subst this
    exact Vy ⟨rfl,l,l,rfl,b2,b4,b5⟩
   ·rw[UM hge]
    obtain⟨u,hu⟩ : ∃u,R'[(l+r) / 2]? = some u:=⟨_,Uy (by omega)⟩
    refine Vl (uA hO k1 (by rw[gt k (by omega)];exact hv) (by rw[gt _ (by omega)];exact hu) Sv (hS' u (UA hu)) ?_)
    dsimp only
    cases hw:ltb v u with
    | true =>
     simp only[if_true]
     refine Vy ⟨rfl,l,(l+r) / 2,rfl,by omega,by omega,by omega,b4,fun i y q1 q2 hy=>?_⟩
     by_cases ei:i =(l+r) / 2
     ·subst ei;rw[hu]at hy;cases hy;exact hw
     ·have le1:=a3 ((l+r) / 2) i u y (by omega) q2 hu hy
      cases q:ltb v y with
      | true=>rfl
      | false=>have:=O.tr le1 q;rw[hw]at this;cases this
    | false =>
     simp only[Bool.false_eq_true,if_false]
     refine Vy ⟨rfl,(l+r) / 2+1,r,rfl,by omega,by omega,by omega,fun i y q1 hy=>?_,b5⟩
     by_cases ei:i =(l+r) / 2
     ·subst ei;rw[hu]at hy;cases hy;exact hw
     ·exact O.tr (a3 i ((l+r) / 2) y u (by omega) (by omega) hy hu) hw
  case ipost =>
   rintro c st'' ⟨e,l,r,rfl,b1,b4,b5⟩
   rw[e]
   show wpS _ _ _ _ (do moveDown' (P.length+k) (P.length+l);pure (ForInStep.yield (none,()))) _ _
   rw[moveDown'_eq]
   refine Vl (WN (Vy ⟨rfl,k1,k2,k3,vo R' k l,?_,(sU R' b1).trans a2,?_⟩))
   ·show(bubble (arrOf st') (P.length+k) (P.length+k-(P.length+l))).toList=_
    rw[show P.length+k-(P.length+l)=k-l by omega]
    exact yF a1 (by omega) b1
   ·rw[show min (k+1) R.length=k+1 by omega]
    intro i j x y hij hj hx hy
    rw[w_ R' (by omega) b1]at hx hy
    by_cases i1:i=l
    ·rw[UN i1,hv]at hx
     cases hx
     rw[UM (by omega),UN (by omega)]at hy
     exact O.asym (b5 (j-1) y (by omega) (by omega) hy)
    rw[UM i1]at hx
    by_cases i2:l<i/\i<=k
    ·rw[UN i2]at hx
     rw[UM (by omega),UN (by omega)]at hy
     exact a3 (i-1) (j-1) x y (by omega) (by omega) hx hy
    rw[UM i2]at hx
    by_cases j1:j=l
    ·rw[UN j1,hv]at hy
     cases hy
     exact b4 i x (by omega) hx
    rw[UM j1]at hy
    by_cases j2:l<j/\j<=k
    ·rw[UN j2]at hy
     exact a3 i (j-1) x y (by omega) (by omega) hx hy
    ·rw[UM j2]at hy
     exact a3 i j x y hij (by omega) hx hy
end
def gw (R:List Keyed) (i j:Nat):List Keyed:=R.take i++(((R.take j).drop i).reverse++R.drop j)
theorem kq (R:List Keyed) {i j:Nat}(h:i<=j):(gw R i j).Perm R:=by
 unfold gw
 have e1:R.take j=R.take i++(R.take j).drop i:=by
  conv=>lhs;rw[<- U1 i (R.take j)]
  rw[Xl,VM h]
 have:(R.take i++(((R.take j).drop i).reverse++R.drop j)).Perm (R.take i++((R.take j).drop i++R.drop j)):=WT _ (List.Perm.append_right _ (List.reverse_perm _))
 refine this.trans (List.Perm.of_eq ?_)
 rw[<- U5,<- e1,U1]
theorem eH (R:List Keyed) {i j:Nat}(hj:j<=R.length) (h:i<=j) (p:Nat):(gw R i j)[p]? = if i<=p/\p<j then R[i+j-1-p]? else R[p]?:=by
 unfold gw
 have len1:(R.take i).length=i:=by rw[UH];omega
 have len2:((R.take j).drop i).length=j-i:=by rw[Vt,UH];omega
 by_cases c1:p<i
 ·rw[UO (by omega),UM (by omega),Wu,UN c1]
 rw[UL (by omega),len1]
 by_cases c2:p<j
 ·rw[UN ⟨by omega,c2⟩,UO (by rw[Vg];omega),List.getElem?_reverse (by omega),len2,VY,Wu,UN (by omega)]
  congr 1;omega
 ·rw[UM (by omega),UL (by rw[Vg];omega),Vg,len2,VY]
  congr 1;omega
theorem yk {ar:Array Keyed}{P R:List Keyed}(h:ar.toList=P++R) {i j:Nat}(hj:j<=R.length) (hi:i<=j):(mirror ar (P.length+i) (P.length+j) ((P.length+j-(P.length+i)) / 2)).toList=P++gw R i j:=by
 have hsz:ar.size=P.length+R.length:=by
  have:=Vk List.length h
  rw[VB]at this
  simp at this;omega
 apply Vz
 intro p
 rw[Wr,getElem?_mirror_all (by omega) p]
 have get:∀q,ar[q]? =(P++R)[q]?:=fun q=>by rw[<- h,Wr]
 by_cases c1:p<P.length
 ·rw[UM (by omega),get,UO c1,UO c1]
 ·rw[UL (by omega),eH R hj hi]
  by_cases c2:P.length+i<=p/\p<P.length+j
  ·rw[UN c2,UN (show i<=p-P.length/\p-P.length<j by omega),get,UL (by omega)]
   congr 1;omega
  ·rw[UM c2,UM (show ¬(i<=p-P.length/\p-P.length<j) by omega),get,UL (by omega)]
theorem vU.refl {ltb:Keyed->Keyed->Bool}(O:vU ltb) (x:Keyed):leB ltb x x:=by
 unfold leB
 cases q:ltb x x with
 | false=>rfl
 | true=>have:=O.asym q;rw[q]at this;cases this
def eG (ltb:Keyed->Keyed->Bool) (R:List Keyed) (k:Nat):Prop:=∀i j x y,i<j->j<k->R[i]? = some x->R[j]? = some y->leB ltb y x
def uc (ltb:Keyed->Keyed->Bool) (R:List Keyed) (a b:Nat):Prop:=∀i j x y,a<=i->i<b->a<=j->j<b->R[i]? = some x->R[j]? = some y->leB ltb x y
section
variable {ltb:Keyed->Keyed->Bool}{R:List Keyed}
theorem cO.more (O:vU ltb) {n:Nat}(h:cO ltb R n) (hn:1<=n) {u v:Keyed}(hu:R[n-1]? = some u) (hv:R[n]? = some v) (c:leB ltb u v):cO ltb R (n+1):=by
 intro i j x y hij hj hx hy
 by_cases e:j=n
 ·subst e
  rw[hv]at hy;cases hy
  by_cases e2:i=j-1
  ·subst e2;rw[hu]at hx;cases hx;exact c
  ·exact O.tr (h i (j-1) x u (by omega) (by omega) hx hu) c
 ·exact h i j x y hij (by omega) hx hy
theorem eG.more (O:vU ltb) {n:Nat}(h:eG ltb R n) (hn:1<=n) {u v:Keyed}(hu:R[n-1]? = some u) (hv:R[n]? = some v) (c:leB ltb v u):eG ltb R (n+1):=by
 intro i j x y hij hj hx hy
 by_cases e:j=n
 ·subst e
  rw[hv]at hy;cases hy
  by_cases e2:i=j-1
  ·subst e2;rw[hu]at hx;cases hx;exact c
  ·exact O.tr c (h i (j-1) x u (by omega) (by omega) hx hu)
 ·exact h i j x y hij (by omega) hx hy
theorem eG.seg {n a:Nat}(h:eG ltb R n) (ha:a<=n) (hn:n<=R.length) (e:uc ltb R a n):eG ltb (gw R a n) n:=by
 intro i j x y hij hj hx hy
 rw[eH R hn ha]at hx hy
 by_cases c1:a<=i
 ·rw[UN ⟨c1,by omega⟩]at hx
  rw[UN ⟨by omega,hj⟩]at hy
  exact e _ _ y x (by omega) (by omega) (by omega) (by omega) hy hx
 ·rw[UM (by omega)]at hx
  by_cases c2:a<=j
  ·rw[UN ⟨c2,hj⟩]at hy
   exact h i _ x y (by omega) (by omega) hx hy
  ·rw[UM (by omega)]at hy
   exact h i j x y hij hj hx hy
theorem eG.turn {n:Nat}(h:eG ltb R n) (hn:n<=R.length):cO ltb (gw R 0 n) n:=by
 intro i j x y hij hj hx hy
 rw[eH R hn (Vj _),UN ⟨Vj _,by omega⟩]at hx
 rw[eH R hn (Vj _),UN ⟨Vj _,hj⟩]at hy
 exact h _ _ y x (by omega) (by omega) hy hx
end
section
variable {prog:Program}{w:World}{A:Around}{E:Value->Shared->Prop}{s:Shared}{ltb:Keyed->Keyed->Bool}{S:Keyed->Prop}{κ:SortKind}
structure ZS (κ:SortKind) (st:SortSt) (P R:List Keyed) (st':SortSt) (R':List Keyed):Prop where
 kind:kindOf st'=κ
 fail:failedOf st'=none
 pend:pendingOf st'=pendingOf st
 arr:(arrOf st').toList=P++R'
 perm:R'.Perm R
theorem ZS.rev {st st':SortSt}{P R R':List Keyed}(z:ZS κ st P R st' R') {i j:Nat}(hj:j<=R'.length) (hi:i<=j):ZS κ st P R (setArr st' (mirror (arrOf st') (P.length+i) (P.length+j) ((P.length+j-(P.length+i)) / 2))) (gw R' i j) :=
 ⟨z.kind,z.fail,z.pend,yk z.arr hj hi,(kq R' hi).trans z.perm⟩
theorem ZS.at {st st':SortSt}{P R R':List Keyed}(z:ZS κ st P R st' R') (i:Nat) (hi:i<R'.length):(arrOf st')[P.length+i]? = R'[i]?:=DK (T:=[]) (by rw[U7];exact z.arr) i hi
theorem ZS.ask (hO:yW prog w A E s ltb S κ) {st st':SortSt}{P R R':List Keyed}(z:ZS κ st P R st' R') (hS:∀x∈R,S x) {a b i j:Nat}(ea:a=P.length+i) (eb:b=P.length+j) (hi:i<R'.length) (hj:j<R'.length) {Q:Option Bool->SortSt->Prop}(q:∀x y,R'[i]? = some x->R'[j]? = some y->Q (some (ltb x y)) st') :
  wpS (model prog w) A E s (ltAt' a b) Q st':=by
 have m:∀x,x∈R'->S x:=fun x hx=>hS x (z.perm.mem_iff.mp hx)
 obtain⟨x,hx⟩ : ∃x,R'[i]? = some x:=⟨_,Uy hi⟩
 obtain⟨y,hy⟩ : ∃y,R'[j]? = some y:=⟨_,Uy hj⟩
 exact uA hO z.kind (by rw[ea,z.at i hi];exact hx) (by rw[eb,z.at j hj];exact hy) (m x (UA hx)) (m y (UA hy)) (q x y hx hy)
theorem DO (O:vU ltb) (hO:yW prog w A E s ltb S κ) {st:SortSt}{Q:Option Nat->SortSt->Prop}{P R:List Keyed}(hk:kindOf st=κ) (hf:failedOf st=none) (harr:(arrOf st).toList=P++R) (hR:1<=R.length) (hS:∀x∈R,S x)
  (h:∀(st':SortSt) (R':List Keyed) (n:Nat),ZS κ st P R st' R'->1<=n->n<=R.length->cO ltb R' n->Q (some n) st'):wpS (model prog w) A E s (countRun' P.length R.length) Q st:=by
 have z0:ZS κ st P R st R:=⟨hk,hf,rfl,harr,List.Perm.refl _⟩
 rw[countRun'_eq]
 refine Vl (Xw (Ww (I:=fun x c st'=>st'=st/\c =(none,x)/\cO ltb R x/\x<=R.length)
  (Q:=fun c st'=>st'=st/\∃n,c =(none,n)/\1<=n/\n<=R.length/\cO ltb R n/\(n<R.length->∀u v,R[n-1]? = some u->R[n]? = some v->ltb v u=true)) ?stp ?fin ⟨rfl,rfl,fun i j x y hij hj=>by omega,hR⟩) ?post)
 case fin =>
  rintro c st' ⟨rfl,rfl,a1,a2⟩
  exact⟨rfl,_,rfl,by omega,a2,a1,fun q=>by omega⟩
 case stp =>
  rintro x c st' hx1 hx2 ⟨est,rfl,a1,a2⟩
  rw[est]
  dsimp only
  refine Vl (z0.ask hO hS (i:=x) (j:=x-1) rfl (by omega) hx2 (by omega) fun v u hv hu=>?_)
  dsimp only
  cases hw:ltb v u with
  | true =>
   simp only[if_true]
   exact Vy ⟨rfl,x,rfl,hx1,a2,a1,fun _ u' v' hu' hv'=>by rw[hu]at hu';rw[hv]at hv';cases hu';cases hv';exact hw⟩
  | false =>
   simp only[Bool.false_eq_true,if_false]
   exact Vy ⟨rfl,rfl,a1.more O hx1 hu hv hw,by omega⟩
 case post =>
  rintro c st' ⟨est,n,rfl,a1,a2,a3,a4⟩
  rw[est]
  dsimp only
  by_cases c1:n=R.length
  ·rw[UN (by simpa using c1)]
   exact Vy (h st R n z0 a1 a2 a3)
  rw[UM (by simpa using c1)]
  have a4:=a4 (by omega)
  obtain⟨u0,hu0⟩ : ∃u,R[n-1]? = some u:=⟨_,Uy (by omega)⟩
  obtain⟨v0,hv0⟩ : ∃v,R[n]? = some v:=⟨_,Uy (by omega)⟩
  have hw0:=a4 u0 v0 hu0 hv0
  by_cases c2:n > 1
  ·rw[UN c2]
   refine Vl (z0.ask hO hS (i:=0) (j:=n-1) rfl (by omega) (by omega) (by omega) fun f l hf0 hl0=>?_)
   rw[hu0]at hl0;cases hl0
   dsimp only
   cases hw1:ltb f u0 with
   | true =>
    simp only[if_true]
    exact Vy (h st R n z0 a1 a2 a3)
   | false =>
    simp only[Bool.false_eq_true,if_false]
    rw[Wc]
    refine Vl (WN ?_)
    have z1:=z0.rev (i:=0) (j:=n) (by omega) (Vj _)
    rw[XF]at z1
    have eq0:uc ltb R 0 n:=fun i j x y _ i2 _ j2 hx hy=>by
     have t1:leB ltb x u0:=by
      by_cases e:i=n-1
      ·subst e;rw[hu0]at hx;cases hx;exact O.refl _
      ·exact a3 i (n-1) x u0 (by omega) (by omega) hx hu0
     have t2:leB ltb f y:=by
      by_cases e:j=0
      ·subst e;rw[hf0]at hy;cases hy;exact O.refl _
      ·exact a3 0 j f y (by omega) j2 hf0 hy
     exact O.tr (O.tr t1 hw1) t2
    have f1:eG ltb (gw R 0 n) (n+1):=by
     have ff:eG ltb R n:=fun i j x y hij hj hx hy=>eq0 j i y x (by omega) hj (by omega) (by omega) hy hx
     have fr:=ff.seg (a:=0) (by omega) (by omega) eq0
     obtain⟨u2,hu2⟩ : ∃u2,(gw R 0 n)[n-1]? = some u2:=⟨_,Uy (by rw[(kq R (by omega)).length_eq];omega)⟩
     have hu3:=hu2
     rw[eH R (by omega) (by omega),UN (by omega)]at hu3
     refine fr.more O (by omega) hu2 (by rw[eH R (by omega) (by omega),UM (by omega)];exact hv0) (O.tr (O.asym hw0) (eq0 (n-1) _ u0 u2 (by omega) (by omega) (by omega) (by omega) hu0 hu3))
    generalize setArr st (mirror (arrOf st) P.length (P.length+n) ((P.length+n-P.length) / 2))=st1 at z1 ⊢
    generalize hR1:gw R 0 n=R1 at z1 f1
    refine Vl (wpS_lift (Wi ⟨rfl,?_⟩))
    refine Vl (Xw (Ww (I:=fun x c st'=>∃R' q,c =(none,x,q)/\ZS κ st P R st' R'/\q+1<=x/\x<=R.length/\eG ltb R' x/\uc ltb R' (x-(q+1)) x)
     (Q:=fun c st'=>∃R' m q,c =(none,m,q)/\ZS κ st P R st' R'/\q+1<=m/\m<=R.length/\eG ltb R' m/\uc ltb R' (m-(q+1)) m) ?stp3 ?fin3 ⟨R1,0,rfl,z1,by omega,by omega,f1,fun i j x y i1 i2 j1 j2 hx hy=>by
      have e1:i=j:=by omega
      subst e1;rw[hx]at hy;cases hy;exact O.refl x⟩) ?post3)
    case fin3 =>
     rintro c st' ⟨R',q,rfl,b1,b2,b3,b4,b5⟩
     exact⟨R',_,q,rfl,b1,b2,b3,b4,b5⟩
    case stp3 =>
     rintro x c st' hx1 hx2 ⟨R',q,rfl,b1,b2,b3,b4,b5⟩
     have hl:=b1.perm.length_eq
     dsimp only
     refine Vl (b1.ask hO hS (i:=x) (j:=x-1) rfl (by omega) (by omega) (by omega) fun v u hv hu=>?_)
     dsimp only
     cases hw:ltb v u with
     | true =>
      simp only[if_true]
      by_cases c6:q > 0
      ·rw[UN c6,Wc]
       refine Vl (WN ?_)
       have zr:=b1.rev (i:=x-(q+1)) (j:=x) (by omega) (by omega)
       have fr:=b4.seg (a:=x-(q+1)) (by omega) (by omega) b5
       have hv2:(gw R' (x-(q+1)) x)[x]? = some v:=by rw[eH R' (by omega) (by omega),UM (by omega)];exact hv
       obtain⟨u2,hu2⟩ : ∃u2,(gw R' (x-(q+1)) x)[x-1]? = some u2:=⟨_,Uy (by rw[(kq R' (by omega)).length_eq];omega)⟩
       have hu3:=hu2
       rw[eH R' (by omega) (by omega),UN (by omega)]at hu3
       have cc:leB ltb v u2:=O.tr (O.asym hw) (b5 (x-1) _ u u2 (by omega) (by omega) (by omega) (by omega) hu hu3)
       refine Vy ⟨_,0,rfl,?_,by omega,by omega,fr.more O (by omega) hu2 hv2 cc,fun i j x y i1 i2 j1 j2 hx hy=>by
        have e1:i=j:=by omega
        subst e1;rw[hx]at hy;cases hy;exact O.refl x⟩
       rw[show P.length+x-(q+1)=P.length+(x-(q+1)) by omega]
       exact zr
      ·rw[UM c6]
       exact Vy ⟨R',0,rfl,b1,by omega,by omega,b4.more O (by omega) hu hv (O.asym hw),fun i j x y i1 i2 j1 j2 hx hy=>by
        have e1:i=j:=by omega
        subst e1;rw[hx]at hy;cases hy;exact O.refl x⟩
     | false =>
      simp only[Bool.false_eq_true,if_false]
      refine Vl (b1.ask hO hS (i:=x-1) (j:=x) (by omega) rfl (by omega) (by omega) fun u' v' hu' hv'=>?_)
      rw[hu]at hu';cases hu'
      rw[hv]at hv';cases hv'
      dsimp only
      cases hw2:ltb u v with
      | true =>
       simp only[if_true]
       exact Vy ⟨R',x,q,rfl,b1,b2,b3,b4,b5⟩
      | false =>
       simp only[Bool.false_eq_true,if_false]
       refine Vy ⟨R',q+1,rfl,b1,by omega,by omega,b4.more O (by omega) hu hv hw2,fun i j p r i1 i2 j1 j2 hp hr=>?_⟩
       have toU:∀i p,x+1-(q+1+1)<=i->i<x+1->R'[i]? = some p->leB ltb p u/\leB ltb u p:=fun i p g1 g2 hp=>by
        by_cases e:i=x
        ·subst e;rw[hv]at hp;cases hp;exact⟨hw2,hw⟩
        ·exact⟨b5 i (x-1) p u (by omega) (by omega) (by omega) (by omega) hp hu,b5 (x-1) i u p (by omega) (by omega) (by omega) (by omega) hu hp⟩
       exact O.tr (toU i p (by omega) i2 hp).1 (toU j r (by omega) j2 hr).2
    case post3 =>
     rintro c st3 ⟨R',m,q,rfl,b1,b2,b3,b4,b5⟩
     have hl:=b1.perm.length_eq
     dsimp only
     by_cases c7:q > 0
     ·rw[UN c7,Wc]
      refine Vl (WN ?_)
      have zr:=b1.rev (i:=m-(q+1)) (j:=m) (by omega) (by omega)
      rw[show P.length+(m-(q+1))=P.length+m-(q+1) by omega]at zr
      have fr:=b4.seg (a:=m-(q+1)) (by omega) (by omega) b5
      have hl2:=zr.perm.length_eq
      generalize setArr st3 (mirror (arrOf st3) (P.length+m-(q+1)) (P.length+m) ((P.length+m-(P.length+m-(q+1))) / 2))=st4 at zr ⊢
      generalize gw R' (m-(q+1)) m=R4 at zr fr hl2
      rw[Wc]
      refine Vl (WN ?_)
      have z5:=zr.rev (i:=0) (j:=m) (by omega) (Vj _)
      rw[XF]at z5
      have r5:=fr.turn (by omega)
      generalize setArr st4 (mirror (arrOf st4) P.length (P.length+m) ((P.length+m-P.length) / 2))=st5 at z5 ⊢
      refine Vl (Xw (Ww (I:=fun x c st'=>st'=st5/\c =(none,x)/\cO ltb (gw R4 0 m) x/\x<=R.length)
       (Q:=fun c st'=>st'=st5/\∃n,c =(none,n)/\1<=n/\n<=R.length/\cO ltb (gw R4 0 m) n) ?stp5 ?fin5 ⟨rfl,rfl,r5,by omega⟩) ?post5)
      case fin5 =>
       rintro c st' ⟨est,rfl,b1,b2⟩
       exact⟨est,_,rfl,by omega,b2,b1⟩
      case post5 =>
       rintro c st' ⟨est,n5,rfl,b1,b2,b3⟩
       rw[est]
       exact Vy (h _ _ n5 z5 b1 b2 b3)
      case stp5 =>
       rintro x c st' hx1 hx2 ⟨est,rfl,b1,b2⟩
       rw[est]
       dsimp only
       refine Vl (z5.ask hO hS (i:=x) (j:=x-1) rfl (by omega) (by rw[z5.perm.length_eq];exact hx2) (by rw[z5.perm.length_eq];omega) fun v u hv hu=>?_)
       dsimp only
       cases hw:ltb v u with
       | true =>
        simp only[if_true]
        exact Vy ⟨rfl,x,rfl,by omega,b2,b1⟩
       | false =>
        simp only[Bool.false_eq_true,if_false]
        exact Vy ⟨rfl,rfl,b1.more O (by omega) hu hv hw,by omega⟩
     ·rw[UM c7,Wc]
      refine Vl (WN ?_)
      have z5:=b1.rev (i:=0) (j:=m) (by omega) (Vj _)
      rw[XF]at z5
      have r5:=b4.turn (by omega)
      generalize setArr st3 (mirror (arrOf st3) P.length (P.length+m) ((P.length+m-P.length) / 2))=st5 at z5 ⊢
      refine Vl (Xw (Ww (I:=fun x c st'=>st'=st5/\c =(none,x)/\cO ltb (gw R' 0 m) x/\x<=R.length)
       (Q:=fun c st'=>st'=st5/\∃n,c =(none,n)/\1<=n/\n<=R.length/\cO ltb (gw R' 0 m) n) ?stp5 ?fin5 ⟨rfl,rfl,r5,by omega⟩) ?post5)
      case fin5 =>
       rintro c st' ⟨est,rfl,b1,b2⟩
       exact⟨est,_,rfl,by omega,b2,b1⟩
      case post5 =>
       rintro c st' ⟨est,n5,rfl,b1,b2,b3⟩
       rw[est]
       exact Vy (h _ _ n5 z5 b1 b2 b3)
      case stp5 =>
       rintro x c st' hx1 hx2 ⟨est,rfl,b1,b2⟩
       rw[est]
       dsimp only
       refine Vl (z5.ask hO hS (i:=x) (j:=x-1) rfl (by omega) (by rw[z5.perm.length_eq];exact hx2) (by rw[z5.perm.length_eq];omega) fun v u hv hu=>?_)
       dsimp only
       cases hw:ltb v u with
       | true =>
        simp only[if_true]
        exact Vy ⟨rfl,x,rfl,by omega,b2,b1⟩
       | false =>
        simp only[Bool.false_eq_true,if_false]
        exact Vy ⟨rfl,rfl,b1.more O (by omega) hu hv hw,by omega⟩
  ·rw[UM c2]
   have e1:n=1:=by omega
   have f1:eG ltb R (n+1):=by
    have ff:eG ltb R n:=fun i j x y hij hj hx hy=>by omega
    exact ff.more O a1 hu0 hv0 (O.asym hw0)
   have z1:=z0
   have hR1:∃R1,R1=R:=⟨_,rfl⟩
   refine Vl (wpS_lift (Wi ⟨rfl,?_⟩))
   refine Vl (Xw (Ww (I:=fun x c st'=>∃R' q,c =(none,x,q)/\ZS κ st P R st' R'/\q+1<=x/\x<=R.length/\eG ltb R' x/\uc ltb R' (x-(q+1)) x)
    (Q:=fun c st'=>∃R' m q,c =(none,m,q)/\ZS κ st P R st' R'/\q+1<=m/\m<=R.length/\eG ltb R' m/\uc ltb R' (m-(q+1)) m) ?stp3 ?fin3 ⟨R,0,rfl,z1,by omega,by omega,f1,fun i j x y i1 i2 j1 j2 hx hy=>by
     have e1:i=j:=by omega
     subst e1;rw[hx]at hy;cases hy;exact O.refl x⟩) ?post3)
   case fin3 =>
    rintro c st' ⟨R',q,rfl,b1,b2,b3,b4,b5⟩
    exact⟨R',_,q,rfl,b1,b2,b3,b4,b5⟩
   case stp3 =>
    rintro x c st' hx1 hx2 ⟨R',q,rfl,b1,b2,b3,b4,b5⟩
    have hl:=b1.perm.length_eq
    dsimp only
    refine Vl (b1.ask hO hS (i:=x) (j:=x-1) rfl (by omega) (by omega) (by omega) fun v u hv hu=>?_)
    dsimp only
    cases hw:ltb v u with
    | true =>
     simp only[if_true]
     by_cases c6:q > 0
     ·rw[UN c6,Wc]
      refine Vl (WN ?_)
      have zr:=b1.rev (i:=x-(q+1)) (j:=x) (by omega) (by omega)
      have fr:=b4.seg (a:=x-(q+1)) (by omega) (by omega) b5
      have hv2:(gw R' (x-(q+1)) x)[x]? = some v:=by rw[eH R' (by omega) (by omega),UM (by omega)];exact hv
      obtain⟨u2,hu2⟩ : ∃u2,(gw R' (x-(q+1)) x)[x-1]? = some u2:=⟨_,Uy (by rw[(kq R' (by omega)).length_eq];omega)⟩
      have hu3:=hu2
      rw[eH R' (by omega) (by omega),UN (by omega)]at hu3
      have cc:leB ltb v u2:=O.tr (O.asym hw) (b5 (x-1) _ u u2 (by omega) (by omega) (by omega) (by omega) hu hu3)
      refine Vy ⟨_,0,rfl,?_,by omega,by omega,fr.more O (by omega) hu2 hv2 cc,fun i j x y i1 i2 j1 j2 hx hy=>by
       have e1:i=j:=by omega
       subst e1;rw[hx]at hy;cases hy;exact O.refl x⟩
      rw[show P.length+x-(q+1)=P.length+(x-(q+1)) by omega]
      exact zr
     ·rw[UM c6]
      exact Vy ⟨R',0,rfl,b1,by omega,by omega,b4.more O (by omega) hu hv (O.asym hw),fun i j x y i1 i2 j1 j2 hx hy=>by
       have e1:i=j:=by omega
       subst e1;rw[hx]at hy;cases hy;exact O.refl x⟩
    | false =>
     simp only[Bool.false_eq_true,if_false]
     refine Vl (b1.ask hO hS (i:=x-1) (j:=x) (by omega) rfl (by omega) (by omega) fun u' v' hu' hv'=>?_)
     rw[hu]at hu';cases hu'
     rw[hv]at hv';cases hv'
     dsimp only
     cases hw2:ltb u v with
     | true =>
      simp only[if_true]
      exact Vy ⟨R',x,q,rfl,b1,b2,b3,b4,b5⟩
     | false =>
      simp only[Bool.false_eq_true,if_false]
      refine Vy ⟨R',q+1,rfl,b1,by omega,by omega,b4.more O (by omega) hu hv hw2,fun i j p r i1 i2 j1 j2 hp hr=>?_⟩
      have toU:∀i p,x+1-(q+1+1)<=i->i<x+1->R'[i]? = some p->leB ltb p u/\leB ltb u p:=fun i p g1 g2 hp=>by
       by_cases e:i=x
       ·subst e;rw[hv]at hp;cases hp;exact⟨hw2,hw⟩
       ·exact⟨b5 i (x-1) p u (by omega) (by omega) (by omega) (by omega) hp hu,b5 (x-1) i u p (by omega) (by omega) (by omega) (by omega) hu hp⟩
      exact O.tr (toU i p (by omega) i2 hp).1 (toU j r (by omega) j2 hr).2
   case post3 =>
    rintro c st3 ⟨R',m,q,rfl,b1,b2,b3,b4,b5⟩
    have hl:=b1.perm.length_eq
    dsimp only
    by_cases c7:q > 0
    ·rw[UN c7,Wc]
     refine Vl (WN ?_)
     have zr:=b1.rev (i:=m-(q+1)) (j:=m) (by omega) (by omega)
     rw[show P.length+(m-(q+1))=P.length+m-(q+1) by omega]at zr
     have fr:=b4.seg (a:=m-(q+1)) (by omega) (by omega) b5
     have hl2:=zr.perm.length_eq
     generalize setArr st3 (mirror (arrOf st3) (P.length+m-(q+1)) (P.length+m) ((P.length+m-(P.length+m-(q+1))) / 2))=st4 at zr ⊢
     generalize gw R' (m-(q+1)) m=R4 at zr fr hl2
     rw[Wc]
     refine Vl (WN ?_)
     have z5:=zr.rev (i:=0) (j:=m) (by omega) (Vj _)
     rw[XF]at z5
     have r5:=fr.turn (by omega)
     generalize setArr st4 (mirror (arrOf st4) P.length (P.length+m) ((P.length+m-P.length) / 2))=st5 at z5 ⊢
     refine Vl (Xw (Ww (I:=fun x c st'=>st'=st5/\c =(none,x)/\cO ltb (gw R4 0 m) x/\x<=R.length)
      (Q:=fun c st'=>st'=st5/\∃n,c =(none,n)/\1<=n/\n<=R.length/\cO ltb (gw R4 0 m) n) ?stp5 ?fin5 ⟨rfl,rfl,r5,by omega⟩) ?post5)
     case fin5 =>
      rintro c st' ⟨est,rfl,b1,b2⟩
      exact⟨est,_,rfl,by omega,b2,b1⟩
     case post5 =>
      rintro c st' ⟨est,n5,rfl,b1,b2,b3⟩
      rw[est]
      exact Vy (h _ _ n5 z5 b1 b2 b3)
     case stp5 =>
      rintro x c st' hx1 hx2 ⟨est,rfl,b1,b2⟩
      rw[est]
      dsimp only
      refine Vl (z5.ask hO hS (i:=x) (j:=x-1) rfl (by omega) (by rw[z5.perm.length_eq];exact hx2) (by rw[z5.perm.length_eq];omega) fun v u hv hu=>?_)
      dsimp only
      cases hw:ltb v u with
      | true =>
       simp only[if_true]
       exact Vy ⟨rfl,x,rfl,by omega,b2,b1⟩
      | false =>
       simp only[Bool.false_eq_true,if_false]
       exact Vy ⟨rfl,rfl,b1.more O (by omega) hu hv hw,by omega⟩
    ·rw[UM c7,Wc]
     refine Vl (WN ?_)
     have z5:=b1.rev (i:=0) (j:=m) (by omega) (Vj _)
     rw[XF]at z5
     have r5:=b4.turn (by omega)
     generalize setArr st3 (mirror (arrOf st3) P.length (P.length+m) ((P.length+m-P.length) / 2))=st5 at z5 ⊢
     refine Vl (Xw (Ww (I:=fun x c st'=>st'=st5/\c =(none,x)/\cO ltb (gw R' 0 m) x/\x<=R.length)
      (Q:=fun c st'=>st'=st5/\∃n,c =(none,n)/\1<=n/\n<=R.length/\cO ltb (gw R' 0 m) n) ?stp5 ?fin5 ⟨rfl,rfl,r5,by omega⟩) ?post5)
     case fin5 =>
      rintro c st' ⟨est,rfl,b1,b2⟩
      exact⟨est,_,rfl,by omega,b2,b1⟩
     case post5 =>
      rintro c st' ⟨est,n5,rfl,b1,b2,b3⟩
      rw[est]
      exact Vy (h _ _ n5 z5 b1 b2 b3)
     case stp5 =>
      rintro x c st' hx1 hx2 ⟨est,rfl,b1,b2⟩
      rw[est]
      dsimp only
      refine Vl (z5.ask hO hS (i:=x) (j:=x-1) rfl (by omega) (by rw[z5.perm.length_eq];exact hx2) (by rw[z5.perm.length_eq];omega) fun v u hv hu=>?_)
      dsimp only
      cases hw:ltb v u with
      | true =>
       simp only[if_true]
       exact Vy ⟨rfl,x,rfl,by omega,b2,b1⟩
      | false =>
       simp only[Bool.false_eq_true,if_false]
       exact Vy ⟨rfl,rfl,b1.more O (by omega) hu hv hw,by omega⟩
end
def oJ:Nat->List (List Keyed)->List (Nat×Nat×Nat)->Prop
 | _,[],[]=>True
 | o,r::rs,p::ps=>p.1=o/\p.2.1=r.length/\oJ (o+r.length) rs ps
 | _,_,_=>False
theorem oJ.len:∀{o:Nat}{rs:List (List Keyed)}{ps:List (Nat×Nat×Nat)},oJ o rs ps->rs.length=ps.length
 | _,[],[],_=>rfl
 | _,_::_,_::_,⟨_,_,t⟩=>Vk (· + 1) (oJ.len t)
theorem oJ.app:∀{o:Nat}{rs ts:List (List Keyed)}{ps qs:List (Nat×Nat×Nat)},oJ o rs ps->oJ (o+rs.flatten.length) ts qs->oJ o (rs++ts) (ps++qs)
 | o,[],ts,[],qs,_,h=>by simpa using h
 | o,r::rs,ts,p::ps,qs,⟨a,b,t⟩,h=>⟨a,b,oJ.app t (by rw[Xj,Uz]at h;rw[Nat.add_assoc];exact h)⟩
section
variable {ltb:Keyed->Keyed->Bool}{κ:SortKind}
structure RI (ltb:Keyed->Keyed->Bool) (κ:SortKind) (a0:List Keyed) (st:SortSt) (rs:List (List Keyed)) (U:List Keyed):Prop where
 kind:kindOf st=κ
 fail:failedOf st=none
 arr:(arrOf st).toList=rs.flatten++U
 perm:(arrOf st).toList.Perm a0
 offs:oJ 0 rs (pendingOf st).toList
 rise:∀r∈rs,r.Pairwise (leB ltb)/\r ≠ []
end
section
variable {ltb:Keyed->Keyed->Bool}{κ:SortKind}{a0:List Keyed}{st:SortSt}{rs:List (List Keyed)}
theorem RI.push {run U2:List Keyed}{lo n:Nat}(ri:RI ltb κ a0 st rs (run++U2)) (h1:run.Pairwise (leB ltb)) (h2:run ≠ []) (el:lo=rs.flatten.length) (en:n=run.length):RI ltb κ a0 (setPending st ((pendingOf st).push (lo,n,0))) (rs ++ [run]) U2:=by
 refine⟨ri.kind,ri.fail,by show(arrOf st).toList=_;rw[ri.arr];simp,ri.perm,?_,fun r hr=>?_⟩
 ·show oJ 0 _ ((pendingOf st).push _).toList
  rw[Array.toList_push]
  exact oJ.app ri.offs ⟨by show lo=0+_;omega,en,trivial⟩
 ·rcases UG.mp hr with z|z
  ·exact ri.rise r z
  ·simp at z;rw[z];exact⟨h1,h2⟩
end
theorem yp {ltb:Keyed->Keyed->Bool}{R:List Keyed}(h:cO ltb R R.length):R.Pairwise (leB ltb):=by
 rw[VJ]
 intro i j hi hj hij
 exact h i j _ _ hij hj (Uy hi) (Uy hj)
theorem Bp {ltb:Keyed->Keyed->Bool}{R:List Keyed}{n:Nat}(h:cO ltb R n) (hn:n<=R.length):(R.take n).Pairwise (leB ltb):=by
 apply yp
 intro i j x y hij hj hx hy
 rw[UH]at hj
 rw[Wu,UN (by omega)]at hx hy
 exact h i j x y hij (by omega) hx hy
section
variable {prog:Program}{w:World}{A:Around}{E:Value->Shared->Prop}{s:Shared}{ltb:Keyed->Keyed->Bool}{S:Keyed->Prop}{κ:SortKind}
theorem uu (O:vU ltb) (hO:yW prog w A E s ltb S κ) {st:SortSt}{Q:Unit->SortSt->Prop}{a0:List Keyed}(hn:a0.length<64) (hk:kindOf st=κ) (hf:failedOf st=none) (harr:(arrOf st).toList=a0) (hp:pendingOf st = #[]) (hS:∀x∈a0,S x)
  (h:∀st',(arrOf st').toList.Perm a0->(arrOf st').toList.Pairwise (leB ltb)->failedOf st'=none->Q () st'):wpS (model prog w) A E s sortRuns' Q st:=by
 have hN:(arrOf st).size=a0.length:=by rw[<- harr,VB]
 rw[sortRuns'_eq]
 refine Vl (wpS_get ?_)
 dsimp only
 rw[hN]
 have ri0:RI ltb κ a0 st [] a0:=⟨hk,hf,by rw[harr];rfl,by rw[harr],by rw[hp];exact trivial,fun r hr=>by cases hr⟩
 have split:∀{st' rs U},RI ltb κ a0 st' rs U->rs.flatten.length+U.length=a0.length:=fun {st' rs U} ri=>by
  have:=ri.perm.length_eq
  rw[ri.arr,Uz]at this;exact this
 refine Vl (Xw (Ww (I:=fun x c st'=>∃rs U,c =(none,rs.flatten.length)/\RI ltb κ a0 st' rs U/\x<=rs.flatten.length/\rs.length<=1/\(U=[]\/rs=[]))
  (Q:=fun c st'=>∃rs,c =(none,a0.length)/\RI ltb κ a0 st' rs []/\rs.length<=1) ?stp ?fin ⟨[],a0,rfl,ri0,Vj _,Vj _,.inr rfl⟩) ?post)
 case fin =>
  rintro c st' ⟨rs,U,rfl,ri,hx,l1,_⟩
  have:=split ri
  have hU:U=[]:=WC.mp (by omega)
  subst hU
  refine⟨rs,?_,ri,l1⟩
  rw[show rs.flatten.length=a0.length by omega]
 case post =>
  rintro c st1 ⟨rs,rfl,ri,l1⟩
  dsimp only
  refine Vl (Xw (Ww (I:=fun x c st'=>∃rs,c =(none,())/\RI ltb κ a0 st' rs []/\rs.length<=1)
   (Q:=fun c st'=>∃rs,c =(none,())/\RI ltb κ a0 st' rs []/\rs.length<=1) ?stp9 ?fin9 ⟨rs,rfl,ri,l1⟩) ?post9)
  case fin9 =>
   rintro c st' hh
   exact hh
  case post9 =>
   rintro c st' ⟨rs,rfl,ri,hl⟩
   refine Vy (h st' ri.perm ?_ ri.fail)
   rw[ri.arr,U7]
   cases rs with
   | nil=>exact List.Pairwise.nil
   | cons r rs =>
    have:rs=[]:=by simp at hl;exact hl
    subst this
    simp
    exact(ri.rise r (by simp)).1
  case stp9 =>
   rintro x c st' _ hx ⟨rs,rfl,ri,hl⟩
   have hpl:(pendingOf st').size=rs.length:=by rw[<- VB,<- ri.offs.len]
   refine Vl (wpS_get ?_)
   try dsimp only
   rw[UN (by omega)]
   exact Vy ⟨rs,rfl,ri,hl⟩
 case stp =>
  rintro x c st1 _ hx ⟨rs,U,rfl,ri,hxl,l1,ur⟩
  have hsp:=split ri
  dsimp only
  by_cases c1:rs.flatten.length ≥ a0.length
  ·rw[UN c1]
   have hU:U=[]:=WC.mp (by omega)
   subst hU
   refine Vy ⟨rs,?_,ri,l1⟩
   rw[show rs.flatten.length=a0.length by omega]
  have hrs:rs=[]:=by
   rcases ur with e|e
   ·rw[e,List.length_nil]at hsp;omega
   ·exact e
  subst hrs
  have hUl:U.length=a0.length:=by simpa using hsp
  have hmr:minRun' a0.length a0.length 0=a0.length:=by
   cases e:a0.length with
   | zero=>rfl
   | succ k=>rw[minRun'_succ,UN (by omega)]
  have noB:∀{st':SortSt},pendingOf st'=pendingOf st1->(pendingOf st').back? = none:=fun {st'} e=>by
   have hpl:(pendingOf st1).size=0:=by rw[<- VB,<- ri.offs.len];rfl
   rw[e,Array.back?_eq_getElem?]
   exact Array.getElem?_eq_none (by omega)
  rw[UM c1,show a0.length-([]:List (List Keyed)).flatten.length=U.length by omega]
  have hSU:∀x∈U,S x:=fun x hx=>hS x (ri.perm.mem_iff.mp (by rw[ri.arr];exact UX _ hx))
  refine Vl (DO O hO (P:=([]:List (List Keyed)).flatten) (R:=U) ri.kind ri.fail ri.arr (by omega) hSU fun st2 R' n z n1 n2 rise=>?_)
  have lR':=z.perm.length_eq
  dsimp only
  rw[hmr]
  by_cases c2:n<a0.length
  ·rw[UN c2]
   refine Vl (wpS_lift (Wi ⟨rfl,?_⟩))
   rw[show min U.length a0.length=R'.length by omega]
   refine Vl (Ei O hO (P:=([]:List (List Keyed)).flatten) (R:=R') (T:=[]) z.kind z.fail (by rw[z.arr,U7]) (by omega) (fun i j x y hij hj hx hy=>rise i j x y hij hj hx hy) (fun x hx=>hSU x (z.perm.mem_iff.mp hx)) fun st3 R3 a1 a2 a3 a4 a5 a6=>?_)
   simp only[Bool.not_true,Bool.false_eq_true,if_false]
   have l3:R3.length=R'.length:=a2.length_eq
   have r1:=yp a3
   have r2:R3 ≠ []:=fun e=>by rw[e]at l3;simp at l3;omega
   have rj:RI ltb κ a0 st3 [] (R3 ++ []):=⟨a4,a5,by rw[a1,U5],by
    rw[a1]
    refine List.Perm.trans ?_ ri.perm
    rw[ri.arr,U5]
    refine WT _ ?_
    rw[U7]
    exact a2.trans z.perm,by rw[a6,z.pend];exact ri.offs,ri.rise⟩
   refine Vl (wpS_get ?_)
   rw[noB (a6.trans z.pend)]
   dsimp only
   refine Vl (WN (Vy ⟨[R3],[],?_,rj.push r1 r2 rfl l3.symm,?_,UE _,.inl rfl⟩))
   ·simp[l3]
   ·have e1:[R3].flatten.length=a0.length:=by simp;omega
    omega
  ·rw[UM c2]
   have en:n=R'.length:=by omega
   subst en
   have r1:=Bp rise (UE _)
   rw[Va]at r1
   have r2:R' ≠ []:=fun e=>by rw[e]at n1;simp at n1
   have rj:RI ltb κ a0 st2 [] (R' ++ []):=⟨z.kind,z.fail,by rw[z.arr,U7],by
    rw[z.arr]
    refine List.Perm.trans ?_ ri.perm
    rw[ri.arr]
    exact WT _ z.perm,by rw[z.pend];exact ri.offs,ri.rise⟩
   refine Vl (wpS_get ?_)
   rw[noB z.pend]
   dsimp only
   refine Vl (WN (Vy ⟨[R'],[],?_,rj.push r1 r2 rfl rfl,?_,UE _,.inl rfl⟩))
   ·simp
   ·have e1:[R'].flatten.length=a0.length:=by simp;omega
    omega
end
def ltI (x y:Keyed):Bool:=decide (numOf x.1<numOf y.1)
def Sz (x:Keyed):Prop:=∃n t,x.1=Value.int n t
theorem Rr:vU ltI:=⟨fun {x y} h=>by
 have:numOf x.1<numOf y.1:=VV h
 exact U6 (by omega),fun {x y z} h1 h2=>by
 have a1:¬ numOf y.1<numOf x.1:=Wv h1
 have a2:¬ numOf z.1<numOf y.1:=Wv h2
 exact U6 (by omega)⟩
section
variable {prog:Program}{w:World}{A:Around}{E:Value->Shared->Prop}{s:Shared}
theorem Pb:yW prog w A E s ltI Sz oneType':=by
 intro x y st Q hx hy hk q
 obtain⟨n,t,e1⟩:=hx
 obtain⟨m,u,e2⟩:=hy
 rw[lt'_eq]
 refine Vl (wpS_get ?_)
 rw[hk,keyLt'_oneType,e1,e2]
 refine Vl (wpS_lift (Xx (oneLt_int ⟨rfl,Vy ?_⟩)))
 have:ltI x y=decide (n<m):=by unfold ltI;rw[e1,e2];rfl
 rw[<- this];exact q
theorem Nk {xs:Array Keyed}(h:xs.toList.Pairwise (leB ltI)) (k:Nat) (hk:k=xs.size):SortedTo xs k:=by
 intro i j hij hj
 subst hk
 rw[K_eq (by omega),K_eq hj]
 by_cases e:i=j
 ·subst e;exact Int.le_refl _
 ·have:=VJ.mp h i j (by simp;omega) (by simpa using hj) (by omega)
  have q:¬ numOf xs[j].1<numOf xs[i].1:=by
   have:=Wv this
   simpa using this
  omega
theorem tG {a:Addr}{vs:List Value}{ns:List Int}{n:Nat}{Z:Fin->Shared->Prop}(ho:s.heap.get? a=some (seqObj "list" vs.toArray n)) (hI:IntsAre vs ns) (hv:vs.length<=63)
  (hZ:∀(out:Array Value) (ms:List Int),IntsAre out.toList ms->ms.Perm ns->ms.Pairwise (· <= ·)->Z (.done (.ret .none)) { s with heap:=sortedHeap s.heap a vs out }) :
  wpAny (model prog w) A (Builtin.«list.sort» ⟨[.ref a],[]⟩) Z E s:=by
 by_cases h64:vs.length<64
 ·exact list_sort_tree ho hI h64 hZ
 have hline:(63:Nat)<sizeLine:=by decide
 have lt0:=UU ho
 rw[list_sort_plain]
 refine(Uw (listItems_at ho rfl ?_))
 refine(Uw (listUpdate_at ho rfl ?_ (by simp;omega)))
 obtain⟨k1,hk1⟩ : ∃k1,(s.heap.update a (Obj.mapSeq fun _=>#[])).get? a=some (seqObj "list" #[] k1):=⟨_,(get?_update_seq ho (fun _=>#[]))⟩
 refine(Uw (seqEpoch_at hk1 rfl ?_))
 refine(Uw (wpAny_newTuple ?_ (by simp;omega)))
 refine(Uw (XS ?_))
 refine(VF ?_)
 have hk6:(((s.heap.update a (Obj.mapSeq fun _=>#[])).push (seqObj "tuple" vs.toArray 0)).push (seqObj "list" #[] 0)).get? a=some (seqObj "list" #[] k1):=(by
  rw[V7 _ _ _ (by rw[XO,Wd];exact UZ (Wj lt0)),V7 _ _ _ (by rw[Wd];exact UZ lt0)]
  exact hk1)
 show wpAny (model prog w) A _ Z E { s with heap:=((s.heap.update a (Obj.mapSeq fun _=>#[])).push (seqObj "tuple" vs.toArray 0)).push (seqObj "list" #[] 0) }
 dsimp only
 have two:¬ vs.toArray.size<2:=by simp;omega
 rw[UM two,UM two]
 obtain⟨v,u,r,rfl⟩ : ∃v u r,vs=v::u::r:=by
  cases vs with
  | nil=>simp at h64
  | cons v vs=>cases vs with
   | nil=>simp at h64
   | cons u r=>exact⟨v,u,r,rfl⟩
 rw[keyKind_ints hI]
 refine(Uw (UD ?_))
 have a0S:∀x∈(pairsOf (v::u::r)).toList,Sz x:=hI.intKeys
 refine Uw (Vx (uu Rr Pb (hn:=by simp[pairsOf]at hv ⊢;omega) (st:=SortSt.mk' oneType' ((v::u::r).toArray.zip (v::u::r).toArray) #[] 7 none) (a0:=(pairsOf (v::u::r)).toList) (Q:=fun _ st'=>(arrOf st').toList.Perm (pairsOf (v::u::r)).toList/\(arrOf st').toList.Pairwise (leB ltI)/\failedOf st'=none) rfl rfl rfl rfl a0S fun st' b1 b2 b3=>⟨b1,b2,b3⟩) ?_ fun _ _ e=>e)
 rintro⟨⟨⟩,st'⟩ s' ⟨rfl,b1,b2,b3⟩
 dsimp only
 have hp:(arrOf st').Perm (pairsOf (v::u::r)):=Array.perm_iff_toList_perm.mpr b1
 have hsz:=hp.size_eq
 refine(Uw (seqEpoch_at hk6 rfl ?_))
 refine Uw (listUpdate_at hk6 rfl ?_ (hsz2:=by
  rw[Array.size_map,hsz,pairsOf_size];omega))
 rw[b3]
 simp only[bne_self_eq_false,Bool.false_eq_true,if_false]
 obtain⟨ms,c1,c2,c3⟩:=sorted_out hI hp (Nk b2 _ hsz.symm)
 exact UD (hZ _ ms c1 c2 c3)
theorem zm {l:Addr}{vs:List Value}{ns:List Int}{Q:Value->Shared->Prop}(hl:s.heap.IsList l vs.toArray) (hI:IntsAre vs ns) (hv:vs.length<=63)
  (hQ:∀(out:Array Value) (ms:List Int),IntsAre out.toList ms->ms.Perm ns->ms.Pairwise (· <= ·)->Q (.ref (s.heap.objs.size+1)) { s with heap:=sortedAll s.heap vs out }) :
  wpAny (model prog w) A (call (.builtin "sorted") [.ref l]) Q E s:=by
 have hline:(63:Nat)<sizeLine:=by decide
 refine(Xq kind_sorted plain_sorted entry_sorted (args_sorted1 _) ?_)
 unfold Builtin.«sorted»
 refine(Uw (m:=checkCount "sorted" 1 1 _) (UD ?_))
 refine(Uw (collect_list hl ?_ (by omega)))
 refine(Uw (XS ?_ (by first|omega|(simp;omega))))
 have sz1:((s.heap.push (seqObj "list" #[] 0)).update s.heap.objs.size (Obj.mapSeq (· ++ vs.toArray))).objs.size=s.heap.objs.size+1:=(by rw[Wd,XO])
 have at1:(((s.heap.push (seqObj "list" #[] 0)).update s.heap.objs.size (Obj.mapSeq (· ++ vs.toArray))).push (seqObj "list" vs.toArray 0)).get? (s.heap.objs.size+1)=some (seqObj "list" vs.toArray 0):=(by
  rw[<- sz1];exact U4 _ rfl)
 show wpAny _ _ _ _ E { s with heap:=((s.heap.push (seqObj "list" #[] 0)).update s.heap.objs.size (Obj.mapSeq (· ++ vs.toArray))).push (seqObj "list" vs.toArray 0) }
 rw[sz1]
 refine Uw (VF (We slot_list_sort ⟨_,at1,rfl⟩ entry_list_sort (tG at1 hI hv fun out ms c1 c2 c3=>⟨_,rfl,?_⟩) (args_list_sort _)))
 exact UD ⟨_,rfl,hQ out ms c1 c2 c3⟩
end
section
variable {X:Cx}
def Ex (K:W.Frag):List V->Hp->VK->Prop:=fun xs H Q=>∃a ns,xs=[.ref a]/\aW K H a (List.map V.int ns)/\ns.length<=63/\∀ms l,ms.Perm ns->ms.Pairwise (· <= ·)->H l=none->Q (.ref l) (upd H l (.lst (List.map V.int ms)))
theorem zZ:dc X (.builtin "sorted") (Ex X.K):=by
 intro pins s σ H xs us Q I r h
 obtain⟨a,ns,rfl,hq,hn,q⟩:=h
 obtain⟨u,rfl,r1⟩:=vals1 r
 cases (show u=Value.ref a from r1)
 obtain⟨its,rv,pl,hz⟩:=I.list hq
 have hi:IntsAre its ns:=intsAre_of rv
 refine zm pl.isList hi (by rw[hi.length];exact hn) fun out ms c1 c2 c3=>?_
 obtain⟨e,he⟩:=sortedAll_at s.heap its out
 have hz2:(List.map V.int ms).length<=sizeLine:=by
  have hline:(63:Nat)<sizeLine:=by decide
  rw[Uv,c2.length_eq];omega
 exact⟨.ref (s.heap.objs.size+1),_,I.laid (t':=s.toks) (fun b o hb=>sortedAll_old hb) (WX _) (o:=.lst (List.map V.int ms)) ⟨hz2,out.toList,e,j_ c1,by simpa using he⟩,rfl,q ms _ c2 c3 (I.hok.fresh (WX _))⟩
theorem C0 {K:W.Frag}{H:Hp}{Q:VK}{a:Addr}{ns:List Int}(h:aW K H a (ns.map V.int)) (n:ns.length<=63) (q:∀(ms:List Int) (l:Addr),ms.Perm ns->ms.Pairwise (· <= ·)->H l=none->Q (.ref l) (upd H l (.lst (ms.map V.int)))):Ex K [.ref a] H Q:=⟨a,ns,rfl,h,n,q⟩
end
def Np:TS:=fun _ _ _=>False
theorem Aw {X:Cx}{st:Stmt}:PS X st Np:=fun _ _ _ _ _ _ h=>h.elim
section
variable {X:Cx}{K:W.Frag}
def AL (K:W.Frag):List V->Hp->VK->Prop:=fun xs H Q=>∃p ys,xs=[.ref p]/\(aW K H p ys\/iM K H p ys)/\∀l,H l=none->Q (.ref l) (upd H l (.lst ys))
theorem rO (h:X.K=K):dc X (.type "list") (AL K):=by subst h;exact l5
end
section
variable {X:Cx}{K:W.Frag}{pos:Pos}
theorem oX {es:List Expr}{k:Nat}{t:IS}{n:Nat}(h:X.K=K) (hc:X.calm=true) (hp:Pa X es t)
  (hn:(assignEach es X.env).length=n:=by rfl) (hst:(assignEach es X.env).findIdx? (·.1)=none:=by rfl):PG X (.Tuple es k pos) (PF K n t):=by subst h;exact dM hc hp hn hst
end
theorem BL {K:W.Frag}{H:Hp}{Q:VK}{a:Addr}{xs:List V}(h:aW K H a xs) (q:∀l,H l=none->Q (.ref l) (upd H l (.lst xs))):AL K [.ref a] H Q:=⟨a,xs,rfl,.inl h,q⟩
theorem Ly {i:Nat}{te:TE}{ti:E5}{D:Ends}{σ:St}{H:Hp}{x:V}(h:σ[i]? = some (some x)) (q:te σ H fun y H1=>ti x y H1 fun z H2=>D.nx (σ.set i (some z)) H2):M6 i te ti D σ H:=⟨x,h,q⟩
section
variable {σ:St}{H:Hp}{Q:VK}{D:Ends}
theorem CL (h:∀p,H p=none->Q (.ref p) (upd H p (.dK []))):CP σ H Q:=h
end
section
variable {X:Cx}{pins:List (Addr×Obj)}{σ:St}{H:Hp}{s:Shared}{h':Heap}
theorem Inv.adopt {t':Nat}{ch:List Addr}{a:Addr}{o:HO}(I:Inv X pins σ H s) (k:∀b o,b∉ch->s.heap.get? b=some o->h'.get? b=some o) (f:∀b∈ch,jA X pins H b)
  (ha:a∈ch) (new:dH X.prog X.w (upd H a o) h' a o):Inv X pins σ (upd H a o) { s with heap:=h',toks:=t' }:=by
 have nit:∀b u,H b=some u->b∉ch:=fun b u e z=>by rw[(f b z).1]at e;cases e
 have hn:=(f a ha).1
 have up:∀b u,H b=some u->upd H a o b=some u:=fun b u q=>by rw[av (ak q hn)];exact q
 refine I.step (g':=s.gens) (d':=s.drawn) (ch:=ch) (fun b hb=>?_) (fun b o _ _ hc e _=>k b o hc e) (fun b o _ _ hc e _=>⟨o.slots,k b o hc e⟩) (fun b ob hc e n=>by rw[av (show b≠a from fun z=>hc (by rw[z];exact ha))];exact n) (fun b o hc e=>⟨o,k b o hc e⟩) (fun b xs e=>up _ _ e) (fun b ob u e=>up _ _ e)
  (fun b ps e=>⟨#[],by rw[up _ _ e];simp⟩) (fun m hm=>?_) (fun b u e=>?_) I.bare
 ·obtain⟨f0,f1,f2,f3,f4,f5⟩:=f b hb
  exact⟨f3,f1,f4,f5⟩
 ·obtain⟨o,es,ep,ho,r⟩:=hm
  exact⟨o,es,ep,k _ o (fun z=>(f _ z).2.1 rfl) ho,r⟩
 ·by_cases hb:b=a
  ·subst hb;rw[ao]at e;cases e;exact new
  ·rw[av hb]at e
   refine(I.hok b u e).stay (fun c v hc q=>k c v ?_ q) (fun c q=>up _ _ q) fun c xs q=>up _ _ q
   rcases hc with z|z
   ·rw[z];exact nit b u e
   ·exact nit c _ z
variable {A:Around}{E:Value->Shared->Prop}
end
section
variable {X:Cx}
theorem rZ:seqSlot? (.type "list") (dunderI "add")=pure (some (.builtin "list.__iadd__")):=PySem.seqSlot_of PySem.F.slot_list_iadd.lookup (by z_go)
theorem yS {M:Model}{A:Around}{E:Value->Shared->Prop}{s:Shared}{a b:Value}{Q:Value->Shared->Prop}(ha:s.TypeIs a "list") (hb:s.TypeIs b "list") (hc:wpAny M A (call (.builtin "list.__iadd__") [a,b]) Q E s):wpAny M A (inplaceOp .Add a b) Q E s:=by
 unfold inplaceOp
 refine VF ?_
 have hfi:fillsInplaceSlot (.type "list") "add" (Operator.Add == .Add)=pure false:=by
  unfold fillsInplaceSlot
  show(typeLookup (.type "list") (dunderI "add") >>= fun fi=>pure (fi.isSome && !isSeqSlot fi))=pure false
  rw[PySem.F.slot_list_iadd.lookup]
  show(pure ((some (Value.builtin "list.__iadd__")).isSome && !isSeqSlot (some (Value.builtin "list.__iadd__"))):Sem Bool)=pure false
  rw[show isSeqSlot (some (Value.builtin "list.__iadd__"))=true by z_go];rfl
 refine Uw (wpAny_typeOf ha (Uw (wpAny_of_eq hfi ?_)))
 show wpAny M A (if false=true then _ else _) Q E s
 rw[UM U0]
 refine Uw (wpAny_binaryOp1_none (nm := "add") ha hb noFill_list_add ?_)
 refine Uw (wpAny_of_eq rZ ?_)
 exact Uw (Wi hc)
def Pj:E5:=fun x y H Q=>∃l b xs zs,x = .ref l/\y = .ref b/\H l=some (.lst xs)/\H b=some (.lst zs)/\xs.length+zs.length<=sizeLine/\Q (.ref l) (upd H l (.lst (xs++zs)))
theorem La:Qh X .Add Pj:=by
 intro pins s σ H x y v u Q I r1 r2 h
 obtain⟨l,b,xs,zs,rfl,rfl,hH,hB,hz,q⟩:=h
 cases r1
 cases r2
 obtain⟨z,its,n,r,hl,e⟩:=I.lstM hH
 obtain⟨z2,its2,n2,r2,hl2,e2⟩:=I.lstM hB
 have hsz:its.toArray.size+its2.toArray.size<=sizeLine:=by rw[Vc,Vc];omega
 have hlong:¬(!its.toArray.isEmpty && Builtin.List.listTooLong (its.toArray.size+its2.toArray.size))=true:=by
  rw[wO hsz,Bool.and_false]
  exact U0
 refine yS ⟨_,e,rfl⟩ ⟨_,e2,rfl⟩ ?_
 refine call_meets PySem.F.slot_list_iadd ⟨_,e,rfl⟩ PySem.F.entry_list_iadd (PySem.F.args_list_iadd_2 _ _)
  (AutoSeq1.list___iadd___list_list_0 l its.toArray n b its2.toArray n2 hlong (by rw[Vc];omega) (by omega)) ⟨e,e2,?_⟩
 refine⟨.ref l,_,I.lset (its':=its++its2) hH e (by simp) (r.append r2) ?_,rfl,q⟩
 rw[Uz]
 omega
end
structure Sm (H H':Hp):Prop where
 nt:∀b o,H b=some o->(∀ps,o ≠ .tbl ps)->H' b=some o
 tb:∀b ps,H b=some (.tbl ps)->∃ps',H' b=some (.tbl ps')
theorem KV.get {κ:Type}:∀{kvs:List (κ×V)}{vs:List (κ×Value)}{i:Nat}{p:κ×V},KV kvs vs->kvs[i]? = some p->∃u,vs[i]? = some (p.1,u)/\RelV p.2 u
 | _,_,_,_,.nil,e=>by simp at e
 | _,_,0,_,.cons (b:=b) r _,e=>by
  simp at e;subst e
  exact⟨b.2,by rw[r.1];rfl,r.2⟩
 | _,_,i+1,p,.cons _ t,e=>by
  obtain⟨u,h1,h2⟩:=KV.get (i:=i) (p:=p) t (by simpa using e)
  exact⟨u,by simpa using h1,h2⟩
def rW (h:Heap) (v:Value) (k:Int):Prop:=∃(a:Addr) (o:Obj) (n:Nat) (t:Tok) (rest:List Value),v = .ref a/\h.get? a=some o/\o.cls = .type "tuple"/\o.data = .seq (Value.int k t::rest).toArray n
def Oq (kf:Value->Int) (x y:Keyed):Bool:=decide (kf x.1<kf y.1)
theorem RT (kf:Value->Int):vU (Oq kf):=⟨fun {x y} h=>by
 have:kf x.1<kf y.1:=VV h
 exact U6 (by omega),fun {x y z} h1 h2=>by
 have a1:¬ kf y.1<kf x.1:=Wv h1
 have a2:¬ kf z.1<kf y.1:=Wv h2
 exact U6 (by omega)⟩
theorem rN (b:Bool) (x y:Value):keyLt' (tuples' b) x y =(do
  let xs <- Builtin.List.listItems x;let ys <- Builtin.List.listItems y
  for ((p,q),i) in(xs.toList.zip ys.toList).zipIdx do
   if !(<- eqBool p q) then return <- oneLt' (b && i == 0) p q
  return decide (xs.size<ys.size)):=rfl
section
variable {prog:Program}{w:World}{A:Around}{E:Value->Shared->Prop}{s:Shared}
theorem nZ {v:Value}{Q:Bool->Shared->Prop}(q:Q true s):wpAny (model prog w) A (eqBool v v) Q E s:=by
 unfold eqBool
 refine VF ?_
 rw[UN (by simp)]
 refine Uw (Wi ?_)
 exact UD q
theorem ud {b:Bool}{E':Value->Shared->Prop}:∀(l:List Value) (i:Nat) (Q:Option Bool×Unit->Shared->Prop),Q (none,()) s->wpAny (model prog w) A (forIn ((l.zip l).zipIdx i) ((none,()):Option Bool×Unit) fun x __s=>do
   let __do_lift <- eqBool x.1.fst x.1.snd
   if (!__do_lift)=true then do
     let __do_lift <- oneLt' (b && x.snd == 0) x.1.fst x.1.snd
     pure (ForInStep.done (some __do_lift,()))
    else pure (ForInStep.yield (none,()))) Q E' s
 | [],i,Q,q=>by
  show wpAny (model prog w) A (pure (none,())) Q E' s
  exact UD q
 | v::l,i,Q,q=>by
  simp only[List.zip_cons_cons,List.zipIdx_cons,List.forIn_cons]
  refine Uw (Uw (nZ ?_))
  rw[UM (by simp)]
  refine UD ?_
  exact ud l (i+1) Q q
theorem Na {kf:Value->Int}{a0:List Keyed}(hT:∀x∈a0,rW s.heap x.1 (kf x.1)) (hN:∀x∈a0,∀y∈a0,kf x.1=kf y.1->x.1=y.1):yW prog w A E s (Oq kf) (fun x=>x∈a0) (tuples' true):=by
 intro x y st Q hx hy hk q
 obtain⟨a,o,n,t,rest,e1,g1,c1,d1⟩:=hT x hx
 obtain⟨a',o',n',t',rest',e2,g2,c2,d2⟩:=hT y hy
 have hxy:=hN x hx y hy
 rw[lt'_eq]
 refine Vl (wpS_get ?_)
 rw[hk,rN]
 have hq:Oq kf x y=decide (kf x.1<kf y.1):=rfl
 generalize kf x.1=k1 at *
 generalize kf y.1=k2 at *
 rw[e1,e2]
 refine Vl (wpS_lift (Xx (Uw (listItems_at g1 d1 (Uw (listItems_at g2 d2 ?_))))))
 simp only[List.zip_cons_cons,List.zipIdx_cons,List.forIn_cons]
 by_cases c:k1=k2
 ·have exy:=hxy c
  rw[e1,e2]at exy
  cases exy
  rw[g1]at g2
  cases g2
  rw[d1]at d2
  cases d2
  refine Uw (Uw (Uw (nZ ?_)))
  rw[UM (by simp)]
  refine UD (ud rest _ _ ?_)
  refine UD ⟨rfl,Vy ?_⟩
  have e:decide ((Value.int k1 t::rest).toArray.size <(Value.int k1 t::rest).toArray.size)=Oq kf x y:=by rw[hq];simp
  rw[e];exact q
 ·refine Uw (Uw (Uw (wpAny_eqBool_int ?_)))
  rw[UN (by simp[c])]
  refine Uw (oneLt_int (UD ?_))
  refine UD (UD ⟨rfl,Vy ?_⟩)
  rw[<- hq];exact q
theorem Cf {v:Value}{k:Int}{Q:Option Value->Shared->Prop}(h:rW s.heap v k) (q:∀t,Q (some (.int k t)) s):wpAny (model prog w) A (firstOfTuple' v) Q E s:=by
 obtain⟨a,o,n,t,rest,rfl,g1,c1,d1⟩:=h
 show wpAny (model prog w) A (do
  if (<- typeOf (.ref a)) != .type "tuple" then return none
  return (<- Builtin.List.listItems (.ref a))[0]?) Q E s
 refine Uw (wpAny_typeOf_ref g1 ?_)
 rw[c1,UM (by simp)]
 refine Uw (listItems_at g1 d1 (UD ?_))
 exact q t
theorem pN:∀{vs:List Value}{ks:List Int}{Q:List (Option Value)->Shared->Prop},(∀p∈vs.zip ks,rW s.heap p.1 p.2)->vs.length=ks.length->(∀us:List Value,IntsAre us ks->Q (us.map some) s)->wpAny (model prog w) A (vs.mapM firstOfTuple') Q E s
 | [],[],Q,_,_,q=>by
  rw[List.mapM_nil]
  exact UD (q [] .nil)
 | [],_::_,_,_,l,_=>by cases l
 | _::_,[],_,_,l,_=>by cases l
 | v::vs,k::ks,Q,h,l,q=>by
  rw[List.mapM_cons]
  refine Uw (Cf (h (v,k) (by simp)) fun t=>?_)
  refine Uw (pN (ks:=ks) (fun p hp=>h p (by simp[hp])) (by simpa using l) fun us hu=>?_)
  exact UD (q (.int k t::us) (.cons k t hu))
theorem G0 {us:List Value}{k:Int}{ks:List Int}(h:IntsAre us (k::ks)):oneTypeOnly' us.toArray=pure (some (.type "int")):=by
 rw[oneTypeOnly'_eq,List.mapM_toArray,mapM_typeOf_ints h]
 simp only[map_pure,pure_bind]
 cases h with
 | cons n t h =>
  have hall:∀l:List Value,((List.map (fun _=>Value.type "int") l).toArray.all fun x=>x == Value.type "int")=true:=fun l=>by
   simp only[List.all_toArray,List.all_map,List.all_eq_true]
   intro _ _
   rfl
  have h0:∀(u:Value) (l:List Value),(List.map (fun _=>Value.type "int") (u::l)).toArray[0]? = some (Value.type "int"):=fun _ _=>by simp
  rw[h0]
  simp only[hall,if_true]
theorem vF {vs:List Value}{k:Int}{ks:List Int}{Q:SortKind->Shared->Prop}(h:∀p∈vs.zip (k::ks),rW s.heap p.1 p.2) (l:vs.length =(k::ks).length) (q:Q (tuples' true) s):wpAny (model prog w) A (keyKind' vs.toArray) Q E s:=by
 rw[keyKind'_eq,List.mapM_toArray]
 refine Uw ?_
 refine wpAny_map ?_
 refine pN h l fun us hu=>?_
 rw[UN (by simp)]
 refine Uw (Wi ?_)
 have e:(us.map some).toArray.filterMap id=us.toArray:=by simp
 rw[e,G0 hu]
 refine Uw (UD ?_)
 exact UD q
theorem rW.keep {h h':Heap}{v:Value}{k:Int}(t:rW h v k) (f:∀a o,o.cls = .type "tuple"->h.get? a=some o->h'.get? a=some o):rW h' v k:=by
 obtain⟨a,o,n,t,rest,e,g,c,d⟩:=t
 exact⟨a,o,n,t,rest,e,f a o c g,c,d⟩
theorem jI {vs:List Value}:∀{p:Value×Value},p∈vs.zip vs->p.1=p.2/\p.1∈vs:=fun h=>mem_zip_self h
theorem N4 {kf:Value->Int}:∀{l:List Value}{p:Value×Int},p∈l.zip (l.map kf)->p.1∈l/\p.2=kf p.1
 | [],_,h=>by simp at h
 | v::l,p,h=>by
  rw[Vi,List.zip_cons_cons]at h
  rcases U9.mp h with z|z
  ·rw[z];exact⟨UQ,rfl⟩
  ·obtain⟨a,b⟩:=N4 z
   exact⟨UK _ a,b⟩
theorem z9 {kf:Value->Int}{a:Addr}{vs:List Value}{n:Nat}{Z:Fin->Shared->Prop}(ho:s.heap.get? a=some (seqObj "list" vs.toArray n)) (hT:∀v∈vs,rW s.heap v (kf v)) (hN:∀v∈vs,∀u∈vs,kf v=kf u->v=u) (hv:vs.length<=63)
  (hZ:∀out:Array Value,out.toList.Perm vs->out.toList.Pairwise (fun u v=>kf u<=kf v)->Z (.done (.ret .none)) { s with heap:=sortedHeap s.heap a vs out }) :
  wpAny (model prog w) A (Builtin.«list.sort» ⟨[.ref a],[]⟩) Z E s:=by
 have hline:(63:Nat)<sizeLine:=by decide
 have lt0:=UU ho
 rw[list_sort_plain]
 refine(Uw (listItems_at ho rfl ?_))
 refine(Uw (listUpdate_at ho rfl ?_ (by simp;omega)))
 obtain⟨k1,hk1⟩ : ∃k1,(s.heap.update a (Obj.mapSeq fun _=>#[])).get? a=some (seqObj "list" #[] k1):=⟨_,(get?_update_seq ho (fun _=>#[]))⟩
 refine(Uw (seqEpoch_at hk1 rfl ?_))
 refine(Uw (wpAny_newTuple ?_ (by simp;omega)))
 refine(Uw (XS ?_))
 refine(VF ?_)
 have hk6:(((s.heap.update a (Obj.mapSeq fun _=>#[])).push (seqObj "tuple" vs.toArray 0)).push (seqObj "list" #[] 0)).get? a=some (seqObj "list" #[] k1):=(by
  rw[V7 _ _ _ (by rw[XO,Wd];exact UZ (Wj lt0)),V7 _ _ _ (by rw[Wd];exact UZ lt0)]
  exact hk1)
 have keep:∀b o,o.cls = .type "tuple"->s.heap.get? b=some o->(((s.heap.update a (Obj.mapSeq fun _=>#[])).push (seqObj "tuple" vs.toArray 0)).push (seqObj "list" #[] 0)).get? b=some o:=fun b o hc hb=>by
  have hlt:=UU hb
  have nb:b≠a:=fun z=>by
   subst z
   rw[ho]at hb
   cases hb
   exact absurd (show Value.type "list" = Value.type "tuple" from hc) (by decide)
  rw[V7 _ _ _ (by rw[XO,Wd];exact UZ (Wj hlt)),V7 _ _ _ (by rw[Wd];exact UZ hlt),Heap.get?_update_ne _ _ _ _ nb]
  exact hb
 show wpAny (model prog w) A _ Z E { s with heap:=((s.heap.update a (Obj.mapSeq fun _=>#[])).push (seqObj "tuple" vs.toArray 0)).push (seqObj "list" #[] 0) }
 dsimp only
 by_cases two:vs.toArray.size<2
 ·rw[UN two,UN two]
  refine(Uw (UD ?_))
  refine Uw ?_
  show wpAny (model prog w) A (pure ((),SortSt.mk' general' (vs.toArray.zip vs.toArray) #[] 7 none)) _ _ _
  refine UD ?_
  refine(Uw (seqEpoch_at hk6 rfl ?_))
  have ev:(vs.toArray.zip vs.toArray).map (·.2)=vs.toArray:=by
   apply Array.ext'
   rw[Array.toList_map,Array.toList_zip,List.map_snd_zip (by simp)]
  refine Uw (listUpdate_at hk6 rfl ?_ (hsz2:=by
   rw[show arrOf (SortSt.mk' general' (vs.toArray.zip vs.toArray) #[] 7 none)=vs.toArray.zip vs.toArray from rfl,ev];simp;omega))
  dsimp only
  rw[show arrOf (SortSt.mk' general' (vs.toArray.zip vs.toArray) #[] 7 none)=vs.toArray.zip vs.toArray from rfl,ev]
  simp only[bne_self_eq_false,Bool.false_eq_true,if_false]
  refine UD (hZ _ (by simp) ?_)
  match vs,two with
  | [],_=>simp
  | [_],_=>simp
  | _::_::_,h=>simp at h;omega
 ·rw[UM two,UM two]
  obtain⟨v,r,rfl⟩ : ∃v r,vs=v::r:=by
   cases vs with
   | nil=>simp at two
   | cons v r=>exact⟨v,r,rfl⟩
  refine Uw (vF (k:=kf v) (ks:=r.map kf) (fun p hp=>?_) (by simp) ?_)
  ·obtain⟨m1,m2⟩:=N4 (l:=v::r) (p:=p) (by simpa using hp)
   rw[m2]
   exact(hT _ m1).keep keep
  have a0T:∀x∈(pairsOf (v::r)).toList,rW (((s.heap.update a (Obj.mapSeq fun _=>#[])).push (seqObj "tuple" (v::r).toArray 0)).push (seqObj "list" #[] 0)) x.1 (kf x.1):=fun x hx=>by
   rw[XG]at hx
   exact(hT _ (jI hx).2).keep keep
  have a0N:∀x∈(pairsOf (v::r)).toList,∀y∈(pairsOf (v::r)).toList,kf x.1=kf y.1->x.1=y.1:=fun x hx y hy=>by
   rw[XG]at hx hy
   exact hN _ (jI hx).2 _ (jI hy).2
  refine Uw (Vx (uu (RT kf) (Na a0T a0N) (hn:=by simp[pairsOf]at hv ⊢;omega) (st:=SortSt.mk' (tuples' true) ((v::r).toArray.zip (v::r).toArray) #[] 7 none) (a0:=(pairsOf (v::r)).toList) (Q:=fun _ st'=>(arrOf st').toList.Perm (pairsOf (v::r)).toList/\(arrOf st').toList.Pairwise (leB (Oq kf))/\failedOf st'=none) rfl rfl rfl rfl (fun x hx=>hx) fun st' b1 b2 b3=>⟨b1,b2,b3⟩) ?_ fun _ _ e=>e)
  rintro⟨⟨⟩,st'⟩ s' ⟨rfl,b1,b2,b3⟩
  dsimp only
  have hp:(arrOf st').Perm (pairsOf (v::r)):=Array.perm_iff_toList_perm.mpr b1
  have hsz:=hp.size_eq
  refine(Uw (seqEpoch_at hk6 rfl ?_))
  refine Uw (listUpdate_at hk6 rfl ?_ (hsz2:=by
   rw[Array.size_map,hsz,pairsOf_size];omega))
  rw[b3]
  simp only[bne_self_eq_false,Bool.false_eq_true,if_false]
  refine UD (hZ _ ?_ ?_)
  ·rw[Array.toList_map]
   have:=b1.map (·.2)
   rw[XG]at this
   refine this.trans ?_
   rw[List.map_snd_zip (by simp)]
  ·rw[Array.toList_map,Ve]
   refine b2.imp_of_mem fun {x y} hx hy h=>?_
   have ex:=jI (by rw[<- XG];exact b1.mem_iff.mp hx)
   have ey:=jI (by rw[<- XG];exact b1.mem_iff.mp hy)
   rw[<- ex.1,<- ey.1]
   have:=Wv h
   omega
theorem wZ {kf:Value->Int}{l:Addr}{vs:List Value}{Q:Value->Shared->Prop}(hl:s.heap.IsList l vs.toArray) (hT:∀v∈vs,rW s.heap v (kf v)) (hN:∀v∈vs,∀u∈vs,kf v=kf u->v=u) (hv:vs.length<=63)
  (hQ:∀out:Array Value,out.toList.Perm vs->out.toList.Pairwise (fun u v=>kf u<=kf v)->Q (.ref (s.heap.objs.size+1)) { s with heap:=sortedAll s.heap vs out }) :
  wpAny (model prog w) A (call (.builtin "sorted") [.ref l]) Q E s:=by
 have hline:(63:Nat)<sizeLine:=by decide
 refine(Xq kind_sorted plain_sorted entry_sorted (args_sorted1 _) ?_)
 unfold Builtin.«sorted»
 refine(Uw (m:=checkCount "sorted" 1 1 _) (UD ?_))
 refine(Uw (collect_list hl ?_ (by omega)))
 refine(Uw (XS ?_ (by first|omega|(simp;omega))))
 have sz1:((s.heap.push (seqObj "list" #[] 0)).update s.heap.objs.size (Obj.mapSeq (· ++ vs.toArray))).objs.size=s.heap.objs.size+1:=(by rw[Wd,XO])
 have at1:(((s.heap.push (seqObj "list" #[] 0)).update s.heap.objs.size (Obj.mapSeq (· ++ vs.toArray))).push (seqObj "list" vs.toArray 0)).get? (s.heap.objs.size+1)=some (seqObj "list" vs.toArray 0):=(by
  rw[<- sz1];exact U4 _ rfl)
 have keep:∀b o,o.cls = .type "tuple"->s.heap.get? b=some o->(((s.heap.push (seqObj "list" #[] 0)).update s.heap.objs.size (Obj.mapSeq (· ++ vs.toArray))).push (seqObj "list" vs.toArray 0)).get? b=some o:=fun b o _ hb=>by
  have hlt:=UU hb
  rw[V7 _ _ _ (by rw[Wd,XO];exact UZ (Wj hlt)),Heap.get?_update_ne _ _ _ _ (UZ hlt),V7 _ _ _ (UZ hlt)]
  exact hb
 show wpAny _ _ _ _ E { s with heap:=((s.heap.push (seqObj "list" #[] 0)).update s.heap.objs.size (Obj.mapSeq (· ++ vs.toArray))).push (seqObj "list" vs.toArray 0) }
 rw[sz1]
 refine Uw (VF (We slot_list_sort ⟨_,at1,rfl⟩ entry_list_sort (z9 (kf:=kf) at1 (fun v hv=>(hT v hv).keep keep) hN hv fun out c1 c2=>⟨_,rfl,?_⟩) (args_list_sort _)))
 exact UD ⟨_,rfl,hQ out c1 c2⟩
end
section
variable {X:Cx}
def KR (K:W.Frag):List V->Hp->VK->Prop:=fun xs H Q=>∃(a:Addr) (ts:List Addr) (kf:Addr->Int),xs=[.ref a]/\aW K H a (ts.map V.ref)/\ts.length<=63/\(∀t∈ts,∃rest,H t=some (.tup (V.int (kf t)::rest)))/\(∀t∈ts,∀u∈ts,kf t=kf u->t=u) /\
 ∀(us:List Addr) (l:Addr),us.Perm ts->us.Pairwise (fun t u=>kf t<=kf u)->H l=none->Q (.ref l) (upd H l (.lst (us.map V.ref)))
theorem m9:∀{ts:List Addr}{its:List Value},Vals (ts.map V.ref) its->its=ts.map Value.ref
 | [],_,r=>by cases r;rfl
 | t::ts,_,r=>by
  cases r with
  | cons r1 r2 =>
   rw[m9 r2]
   cases (show _=Value.ref t from r1)
   rfl
theorem nH:∀(ts:List Addr),Vals (ts.map V.ref) (ts.map Value.ref)
 | []=>.nil
 | t::ts=>.cons rfl (nH ts)
def S2 (kf:Addr->Int):Value->Int
 | .ref a=>kf a
 | _=>0
theorem kR:dc X (.builtin "sorted") (KR X.K):=by
 intro pins s σ H xs us Q I r h
 obtain⟨a,ts,kf,rfl,hq,hn,hT,hN,q⟩:=h
 obtain⟨u,rfl,r1⟩:=vals1 r
 cases (show u=Value.ref a from r1)
 obtain⟨its,rv,pl,hz⟩:=I.list hq
 have ei:=m9 rv
 subst ei
 refine wZ (kf:=S2 kf) pl.isList (fun v hv=>?_) (fun v hv u hu e=>?_) (by rw[Uv];exact hn) fun out c1 c2=>?_
 ·obtain⟨t,ht,rfl⟩:=UC.mp hv
  obtain⟨rest,hr⟩:=hT t ht
  obtain⟨its2,rv2,⟨o,e,c,n,d⟩,_⟩:=I.tuple (iM.of hr)
  cases rv2 with
  | cons r1 r2 =>
   obtain⟨tk,rfl⟩:=r1
   exact⟨t,o,n,tk,_,rfl,e,c,d⟩
 ·obtain⟨t,ht,rfl⟩:=UC.mp hv
  obtain⟨t',ht',rfl⟩:=UC.mp hu
  exact Vk Value.ref (hN t ht t' ht' e)
 ·obtain⟨e,he⟩:=sortedAll_at s.heap (ts.map Value.ref) out
  obtain⟨us2,p1,p2⟩ : ∃us2:List Addr,us2.Perm ts/\out.toList=us2.map Value.ref:=by
   refine⟨out.toList.map fun v=>match v with | .ref a=>a|_=>0,?_,?_⟩
   ·have:=c1.map (fun v=>match v with|Value.ref a=>a|_=>0)
    refine this.trans ?_
    rw[Vo]
    exact List.Perm.of_eq (by simp[Function.comp_def])
   ·rw[Vo]
    refine(List.map_id _).symm.trans (VC fun v hv=>?_)
    obtain⟨t,_,rfl⟩:=UC.mp (c1.mem_iff.mp hv)
    rfl
  have hz2:(us2.map V.ref).length<=sizeLine:=by
   have hline:(63:Nat)<sizeLine:=by decide
   rw[Uv,p1.length_eq];omega
  rw[p2,Ve]at c2
  exact⟨.ref (s.heap.objs.size+1),_,I.laid (t':=s.toks) (fun b o hb=>sortedAll_old hb) (WX _) (o:=.lst (us2.map V.ref)) ⟨hz2,out.toList,e,by rw[p2];exact nH us2,by simpa using he⟩,rfl,q us2 _ p1 c2 (I.hok.fresh (WX _))⟩
end
end L2
namespace PySem
namespace F
theorem plain_upd_loop:plainId "dict.update.loop" = true:=by z_go
theorem entry_upd_loop:entryFor table "dict.update.loop" = some Builtin.«dict.update.loop»:=entryFor_of_fast (by kernel_rfl)
theorem list_no_keys:typeLookup (.type "list") "keys" = pure none:=by rw[typeLookup_type,builtinLookup_eq_fast];kernel_rfl
end F
theorem kY {prog:Program}{w:World}{A:Around}{E:Value->Shared->Prop}{s:Shared}{a:Addr}{o:Obj}{xs:Array Value}{k:Nat}{Q:Option Value->Shared->Prop}
  (hx:s.heap.get? a=some o) (hc:o.cls = .type "list") (hdat:o.data = .seq xs k) (hd:o.dict=none) (hA:A.handled=none)
  (h:∀h' tk,(∀b ob,s.heap.get? b=some ob->h'.get? b=some ob)->Q none { s with heap:=h',toks:=tk }) :
  wpAny (model prog w) A (getAttr? (.ref a) "keys") Q E s:=by
 have hmiss:=F.list_no_keys
 obtain⟨c,dct,dat,sl⟩:=o
 simp only at hc hdat hd
 subst hc hdat hd
 obtain⟨hp,g,d,tk,os⟩:=s
 have hT:∀tk',(⟨hp,g,d,tk',os⟩ : Shared).TypeIs (.ref a) "list" := fun _=>⟨_,hx,rfl⟩
 have f1:=sub_AttributeError
 have f3:=F.slot_list_getattribute.lookup
 have f4:=F.slot_list_getattribute.bind (.ref a)
 have f5:=am_list_getattr_none
 unfold getAttr? getAttrBy? getAttrBy
 repeat (any_goals (first|assumption|exact hT _|((with_reducible show wpAny _ _ (call (Value.builtin "list.__getattribute__") _ _) _ _ _);refine call_meets F.slot_list_getattribute (hT _) am_entry_list_getattribute (F.args_list_getattribute_2 _ _) (meets_getattribute_miss_list a xs k sl "keys" _ hmiss (by z_go) (by z_go)) ⟨hx,hA,fun h' tk' e hx'=>?_⟩)|wp_step))
 obtain⟨t',u',he⟩:=hx'.there
 show wpAny _ _ (getattributeRaised _ _ _ _ _ _ _) _ _ _
 unfold getattributeRaised
 repeat (any_goals (first|assumption|wp_step))
 exact h _ _ hx'.keeps
end PySem
namespace L2
open PySem PySem.Spec PyProof.Rows
section
variable {prog:Program}{w:World}{κ:Type} [DecidableEq κ] {knd:KeyKind prog w κ}{A:Around}{E:Value->Shared->Prop}{s:Shared}
inductive fD (knd:KeyKind prog w κ) (h:Heap):List Value->List (κ×Value)->Prop
 | nil:fD knd h [] []
 | cons {a:Addr}{o:Obj}{n:Nat}{key val:Value}{k:κ}{vs:List Value}{rs:List (κ×Value)}:h.get? a=some o->o.cls = .type "tuple"->o.data = .seq #[key,val] n->knd.is k key=true->fD knd h vs rs->fD knd h (.ref a::vs) ((k,val)::rs)
theorem fD.get {h:Heap}:∀{vs:List Value}{rs:List (κ×Value)}{i:Nat}{v:Value},fD knd h vs rs->vs[i]? = some v->∃a o n key val k,v = .ref a/\h.get? a=some o/\o.cls = .type "tuple"/\o.data = .seq #[key,val] n/\knd.is k key=true/\rs[i]? = some (k,val)
 | _,_,_,_,.nil,e=>by simp at e
 | _,_,0,_,.cons h1 h2 h3 h4 t,e=>by
  rw[List.getElem?_cons_zero]at e
  cases e
  exact⟨_,_,_,_,_,_,rfl,h1,h2,h3,h4,rfl⟩
 | _,_,i+1,_,.cons h1 h2 h3 h4 t,e=>fD.get (i:=i) t (by simpa using e)
theorem fD.len {h:Heap}:∀{vs:List Value}{rs:List (κ×Value)},fD knd h vs rs->vs.length=rs.length
 | _,_,.nil=>rfl
 | _,_,.cons _ _ _ _ t=>Vk (· + 1) t.len
theorem kX {h0:Heap}{l d it:Addr}{items:List Value}{rs:List (κ×Value)}{R:Result->Shared->Prop}(hA:A.in1.handled=none) (hl:h0.IsList l items.toArray) (hP:fD knd h0 items rs) (hd:h0.get? d=none) (hi:h0.get? it=none) (di:d≠it) (hz:items.length<=100000) :
  ∀(k i:Nat) (s:Shared) (vs:List (κ×Value)),items.length-i=k->i<=items.length->vs.length<=i->s.heap.IsListIter it l i->(∀b o,h0.get? b=some o->s.heap.get? b=some o)->s.heap.DictOf knd d vs ->
  (∀s',s'.gens=s.gens->s'.drawn=s.drawn->s'.os=s.os->(∀b o,b≠d->b≠it->s.heap.get? b=some o->s'.heap.get? b=some o)->s'.heap.DictOf knd d (merged vs (rs.drop i))->R (.ok (.ret .none)) s') ->
  codeAny (model prog w) A (.builtin "dict.update.loop" ⟨[.ref d,.ref it,.int i 0,.none],[]⟩) R s:=by
 have hline:(100000:Nat)<sizeLine:=by decide
 have rl:=hP.len
 intro k
 induction k with
 | zero =>
  intro i s vs hk hi' hv hit hb hm hR
  have hin:i=items.length:=by omega
  refine WH F.entry_upd_loop ?_
  rw[Wf F.plain_upd_loop _]
  show wpAny _ A.in1 (pyNext (.ref it) >>= _) _ _ s
  have hl':s.heap.IsList l items.toArray:=by
   obtain⟨o,e,r⟩:=hl
   exact⟨o,hb _ _ e,r⟩
  refine Uw (wpAny_pyNext_list_end hA hit hl' (by simp;omega) fun h' hx=>?_)
  show wpAny _ A.in1 (Builtin.Dict.addKeywords d [] >>= fun _=>ret .none) _ _ _
  refine Uw (UD ?_)
  refine UD (hR _ rfl rfl rfl (fun b o n1 n2 e=>hx b o n2 e) ?_)
  rw[Vf (by omega)]
  exact hm.extBut hx di
 | succ k ih =>
  intro i s vs hk hi' hv hit hb hm hR
  have hlt:i<items.length:=by omega
  obtain⟨x,hx⟩ : ∃x,items[i]? = some x:=⟨_,Uy hlt⟩
  obtain⟨a,o,n,key,val,kk,rfl,g1,c1,d1,k1,r1⟩:=hP.get hx
  refine WH F.entry_upd_loop ?_
  rw[Wf F.plain_upd_loop _]
  show wpAny _ A.in1 (pyNext (.ref it) >>= _) _ _ s
  have hl':s.heap.IsList l items.toArray:=by
   obtain⟨o,e,r⟩:=hl
   exact⟨o,hb _ _ e,r⟩
  refine Uw (wpAny_pyNext_list_item hit hl' (by simpa using hx) fun h' hit' sb=>?_)
  have hb':∀b o,h0.get? b=some o->h'.get? b=some o:=fun b o e=>by
   have nb:b≠it:=fun z=>by rw[z,hi]at e;cases e
   rw[sb.2 b nb];exact hb _ _ e
  have hm':h'.DictOf knd d vs:=hm.sameBut sb di
  have ga:=hb' _ _ g1
  refine Uw (VF ?_)
  refine Uw (wpAny_tryCatch ?_)
  unfold Builtin.Dict.pairItems
  refine Uw (wpAny_typeOf_ref ga ?_)
  rw[c1,UN (by decide)]
  refine Uw (wpAny_seqItems ga d1 ?_)
  refine UD ?_
  show wpAny _ _ (holding [key,val] (dictSet d key val)) _ _ _
  refine VF (wpAny_dictSet_pairs k1 hm' (fun h'' hd'' sb''=>?_) (by omega))
  refine UD ⟨WL F.plain_upd_loop _,?_⟩
  have e:rawInt ((i:Int)+1) = .int ((i+1:Nat):Int) 0:=rfl
  rw[e]
  have sl:(stored vs kk val).length<=i+1:=by
   unfold stored
   split
   ·rw[Uv];omega
   ·rw[Uz,WS];omega
  refine ih (i+1) _ (stored vs kk val) (by omega) hlt sl ?_ (fun b o e=>?_) hd'' fun s' q1 q2 q3 q5 q6=>hR s' q1 q2 q3 (fun b o n1 n2 e=>q5 b o n1 n2 ?_) ?_
  ·obtain⟨oi,ei,ri⟩:=hit'
   exact⟨oi,(sb''.2 it di.symm).trans ei,ri⟩
  ·have nb:b≠d:=fun z=>by rw[z,hd]at e;cases e
   rw[sb''.2 b nb];exact hb' _ _ e
  ·rw[sb''.2 b n1,sb.2 b n2];exact e
  ·have ed:rs.drop i =(kk,val)::rs.drop (i+1):=by
    obtain⟨h1,h2⟩:=Ux.mp r1
    rw[Xr h1,h2]
   rw[ed]
   exact q6
theorem oR {l:Addr}{items:List Value}{rs:List (κ×Value)}{Q:Value->Shared->Prop}(hA:A.handled=none) (hl:s.heap.IsList l items.toArray) (hld:∀o,s.heap.get? l=some o->o.dict=none) (hP:fD knd s.heap items rs) (hz:items.length<=100000)
  (h:∀s',s'.gens=s.gens->s'.drawn=s.drawn->s'.os=s.os->(∀b o,s.heap.get? b=some o->s'.heap.get? b=some o)->s'.heap.DictOf knd s.heap.objs.size (merged [] rs)->Q (.ref s.heap.objs.size) s') :
  wpAny (model prog w) A (call (.type "dict") [.ref l]) Q E s:=by
 refine callType_codes (Q₁:=fun obj s₁=>obj = .ref s.heap.objs.size/\s₁ = { s with heap:=s.heap.push { cls:=.type "dict",data:=.dict #[] } }) F.kt_called_dict (F.kt_typeCall_dict_1 _) F.entry_dict_init (kt_code_dict_new _ ⟨rfl,rfl⟩) ?_
 rintro obj s₁ ⟨rfl,rfl⟩
 have hnew:(s.heap.push { cls:=.type "dict",data:=.dict #[] }).DictOf knd s.heap.objs.size []:=Heap.DictOf.new s.heap
 refine⟨hnew.typeIs,F.args_dict_init_2 _ _,?_⟩
 unfold Builtin.«dict.__init__»
 refine Uw ?_
 unfold Builtin.Dict.selfAndRest
 refine Uw (wpAny_notOrdered_dict hnew.typeIs ?_)
 show wpAny _ _ (pure (s.heap.objs.size,[Value.ref l])) _ _ _
 refine UD ?_
 show wpAny _ _ (Builtin.Dict.updateFrom "dict.__init__" s.heap.objs.size (.ref l) [] .none) _ _ _
 unfold Builtin.Dict.updateFrom
 obtain⟨ol,gl,cl,nl,dl⟩:=id hl
 have gl1:(s.heap.push { cls:=.type "dict",data:=.dict #[] }).get? l=some ol:=UJ _ gl
 refine Uw (wpAny_typeOf_ref gl1 ?_)
 rw[cl,UN (by decide)]
 refine Uw (kY gl1 cl dl (hld _ gl) (show A.handled=none from hA) (fun h' tk kp=>?_))
 rw[UN (show(none:Option Value).isNone=true from rfl)]
 refine Uw (Wi ?_)
 have hl2:h'.IsList l items.toArray:=⟨ol,kp _ _ gl1,cl,nl,dl⟩
 refine Uw (wpAny_pyIter_list (s:={ s with heap:=h',toks:=tk }) hl2 ?_)
 refine UD ⟨WL F.plain_upd_loop _,?_⟩
 have hit0:s.heap.get? h'.objs.size=none:=by
  cases e:s.heap.get? h'.objs.size with
  | none=>rfl
  | some o=>exact absurd (UU (kp _ _ (UJ _ e))) (Wh _)
 obtain⟨od,es,ep,ho,r⟩:=hnew
 have hd2:=kp _ _ ho
 have di:s.heap.objs.size≠h'.objs.size:=UZ (UU hd2)
 refine kX (h0:=s.heap) (knd:=knd) (A:=A.in1) (rs:=rs) hA hl hP (Heap.get?_none_of_le (UE _)) hit0 di hz items.length 0 _ [] rfl (Vj _) (UE _) ⟨_,U4 _ rfl,rfl,rfl⟩ (fun b o e=>UJ _ (kp _ _ (UJ _ e))) ⟨od,es,ep,UJ _ hd2,r⟩ fun s' q1 q2 q3 q5 q6=>?_
 refine⟨rfl,h s' q1 q2 q3 (fun b o e=>?_) q6⟩
 have lt:=UU e
 refine q5 b o (UZ lt) (fun z=>by rw[z,hit0]at e;cases e) ?_
 exact UJ _ (kp _ _ (UJ _ e))
end
section
variable {X:Cx}
def J5 (K:W.Frag):List V->Hp->VK->Prop:=fun xs H Q=>∃(a:Addr) (ts:List Addr) (ps:List (Key×V)),xs=[.ref a]/\aW K H a (ts.map V.ref)/\ts.length<=100000/\ts.length=ps.length/\(∀(i:Nat) (t:Addr) (p:Key×V),ts[i]? = some t->ps[i]? = some p->H t=some (.tup [kV p.1,p.2])) /\
 ∀d,H d=none->Q (.ref d) (upd H d (.dK (fG [] ps)))
theorem xu {pins:List (Addr×Obj)}{σ:St}{H:Hp}{s:Shared}(I:Inv X pins σ H s):∀{ts:List Addr}{ps:List (Key×V)},ts.length=ps.length->(∀(i:Nat) (t:Addr) (p:Key×V),ts[i]? = some t->ps[i]? = some p->H t=some (.tup [kV p.1,p.2]))->∃rs,fD (bO X.prog X.w) s.heap (ts.map Value.ref) rs/\KV ps rs
 | [],[],_,_=>⟨[],.nil,.nil⟩
 | [],_::_,l,_=>by cases l
 | _::_,[],l,_=>by cases l
 | t::ts,p::ps,l,h=>by
  obtain⟨rs,h1,h2⟩:=xu I (ts:=ts) (ps:=ps) (by simpa using l) fun i t p a b=>h (i+1) t p (by simpa using a) (by simpa using b)
  obtain⟨its2,rv2,⟨o,e,c,n,d⟩,_⟩:=I.tuple (iM.of (h 0 t p rfl rfl))
  cases rv2 with
  | cons r1 r2 =>
   cases r2 with
   | cons r3 r4 =>
    cases r4
    exact⟨(p.1,_)::rs,.cons e c d (AI r1) h1,.cons ⟨rfl,r3⟩ h2⟩
theorem qD (hc:X.calm=true):dc X (.type "dict") (J5 X.K):=by
 intro pins s σ H xs us Q I r h
 obtain⟨a,ts,ps,rfl,hq,hn,hl,hp,q⟩:=h
 obtain⟨u,rfl,r1⟩:=vals1 r
 cases (show u=Value.ref a from r1)
 obtain⟨its,rv,pl,hz⟩:=I.list hq
 have ei:=m9 rv
 subst ei
 obtain⟨rs,hP,hk⟩:=xu I hl hp
 have pl':=pl
 obtain⟨o,n,e,c,dn,d⟩:=pl'
 refine oR (I.ok.hd hc) pl.isList (fun o' e'=>by rw[e]at e';cases e';exact dn) hP (by rw[Uv];exact hn) fun s' g1 g2 g3 kp hd=>?_
 obtain⟨h',g',d',t',os'⟩:=s'
 simp only at g1 g2 g3
 subst g1 g2 g3
 have hz2:(fG [] ps).length<=sizeLine:=by
  have h1:=iP ps []
  have hline:(100000:Nat)<sizeLine:=by decide
  rw[List.length_nil]at h1;omega
 exact⟨.ref s.heap.objs.size,_,I.laid (h':=h') (t':=t') kp (UE _) (o:=.dK (fG [] ps)) (Dv hz2 (W4.mpr (Ne.symm (UZ I.big))) (hk.merge .nil) hd),rfl,q _ (I.hok.fresh (UE _))⟩
end
theorem F5 {td ty:TE}{σ:St}{H:Hp}{Q:VK}(h:td σ H fun x H1=>ty σ H1 fun y H2=>∃a v,x = .ref a/\xQ H2 a y (some v)/\Q v H2):IW td ty σ H Q:=h
theorem Ij {P:Program}{w:World}{k:Key}{u:Value}(h:(bO P w).is k u=true):RelV (kV k) u:=by
 rw[zp]at h
 rcases cA h with⟨i,t,rfl,rfl⟩|⟨x,t,rfl,rfl⟩
 ·exact⟨t,rfl⟩
 ·exact⟨t,rfl⟩
section
variable {prog:Program}{w:World}{κ:Type} [DecidableEq κ] {knd:KeyKind prog w κ}{A:Around}{E:Value->Shared->Prop}{s:Shared}
theorem Ca {d:Addr}{kvs:List (κ×Value)}{Q:Bool->Shared->Prop}(hm:s.heap.DictOf knd d kvs) (h:Q false s):wpAny (model prog w) A (Builtin.List.listLengthHint (.ref d)) Q E s:=by
 unfold Builtin.List.listLengthHint
 refine Uw (wpAny_specialOf hm.typeIs F.slot_dict_len.lookup ?_)
 generalize hid:("dict.__len__" : String)=id0
 wp_delta
 rw[show splitId id0=some ("dict", "__len__") from by subst hid;z_go]
 subst hid
 refine Uw (wpAny_isInstance (T := "dict") (b:=true) hm.typeIs (by rw[isSubtype_type];kernel_rfl) ?_)
 refine VN (fun hab=>absurd hab (by decide)) (fun _=>?_)
 refine VN (fun _=>?_) (fun hab=>absurd (by z_go) hab)
 refine Uw (wpAny_typeOf hm.typeIs ?_)
 exact UD h
theorem xr {R:Result->Shared->Prop}{d:Addr}{kvs:List (κ×Value)}(hh:A.handled=none) (hd:(d == sysModules)=false) (hm:s.heap.DictOf knd d kvs) (hlen:kvs.length<=2^24) (S:Addr) (res:Value) (c₀:Nat) (hS:s.heap.get? S=some { cls:=.type "list",data:=.seq #[] c₀ })
  (hR:∀h' tk acc' c',(∀b o,b≠S->s.heap.get? b=some o->h'.get? b=some o)->h'.get? S=some { cls:=.type "list",dict:=none,data:=.seq acc' c',slots:=#[] } ->
   ItemsOf (fun i v=>∃k x,kvs[i]? = some (k,x)/\knd.is k v=true) acc' kvs.length->R (.ok (.ret res)) { s with heap:=h',toks:=tk }) :
  wpAny (model prog w) A.in1 (Builtin.List.listExtendWith (.ref S) (.ref d) res)
   (fun fin s'=>match fin with | .done f=>R (.ok f) s' | .again c'=>c'.quiet=true/\codeAny (model prog w) A c' R s') (fun e s'=>R (.error e) s') s:=by
 obtain⟨ep,hA⟩:=hm.dictAt
 obtain⟨od,es,god,_⟩:=id hA
 have hSd:S≠d:=fun e=>by
  have h1:=hm.typeIs
  rw[<- e]at h1
  obtain⟨o',g',c'⟩:=h1
  rw[hS]at g'
  cases g'
  exact absurd (show Value.type "list" = Value.type "dict" from c') (by decide)
 have hSlt:S<s.heap.objs.size:=UU hS
 have hSI:S≠s.heap.objs.size:=UZ hSlt
 have hdI:d≠s.heap.objs.size:=UZ (UU god)
 have hSf:S ∉ [s.heap.objs.size,d]:=fun hm=>by
  rcases U9.mp hm with z|z
  ·exact hSI z
  ·exact hSd (by simpa using z)
 have W:=(Walks.dictKeys (prog:=prog) (w:=w) (A:=A.in1) (knd:=knd) hh s.heap.objs.size d hdI kvs ep).toS
 have key:∀(h:Heap) (c₁ tk:Nat),(h.IsKeyIter s.heap.objs.size d 0 kvs.length ep/\h.DictAt knd d kvs ep)->(∀b o,b≠S->s.heap.get? b=some o->h.get? b=some o) ->
   h.get? S=some { cls:=.type "list",data:=.seq #[] c₁ }->codeAny (model prog w) A (.builtin "list.extend.loop" ⟨[.ref S,.ref s.heap.objs.size,res],[]⟩) R { s with heap:=h,toks:=tk }:=by
  intro h c₁ tk hit hk hS₁
  refine codeAny_extend_loopS W (by rw[sizeLine_eq];omega) S hSf res kvs.length 0 _ #[] c₁ rfl (Vj _) hit hS₁ (ItemsOf.nil _) fun s' acc' c' hm hS' hacc=>?_
  rw[Moved.eq_with hm]
  refine hR s'.heap s'.toks acc' c' (fun b o hb e=>hm.heap b o (fun hmem=>?_) (hk b o hb e)) hS' hacc
  rcases U9.mp hmem with e'|hmem
  ·exact hb e'
  ·exact absurd (UU e) (by rw[UR.mp hmem];exact Wh _)
 unfold Builtin.List.listExtendWith
 refine Uw (wpAny_typeOf hm.typeIs ?_)
 have h1:Builtin.List.listSameRef (.ref S) (.ref d)=false:=by simp[Builtin.List.listSameRef,hSd]
 have h2:(Value.type "dict" == Value.type "list")=false:=by decide
 have h3:(Value.type "dict" == Value.type "tuple")=false:=by decide
 simp only[h1,h2,h3,Bool.or_false,Bool.false_eq_true,if_false]
 refine Uw (wpAny_pyIter_dict hd hA ?_)
 refine Uw (VF (Ca (hm.push _) ?_))
 have hit₁:(s.heap.push { cls:=.type "dict_keyiterator",data:=.fields #[.ref d,.int 0 0,.int kvs.length 0,.int ep 0] }).IsKeyIter s.heap.objs.size d 0 kvs.length ep:=⟨_,U4 _ rfl,rfl,rfl⟩
 have hA₁:(s.heap.push { cls:=.type "dict_keyiterator",data:=.fields #[.ref d,.int 0 0,.int kvs.length 0,.int ep 0] }).DictAt knd d kvs ep:=hA.at' fun o e=>UJ _ e
 have hS₁:=UJ { cls:=.type "dict_keyiterator",data:=.fields #[.ref d,.int 0 0,.int kvs.length 0,.int ep 0] } hS
 refine VN (fun _=>?_) (fun _=>UD ⟨WL F.plain_extend_loop _,key _ c₀ _ ⟨hit₁,hA₁⟩ (fun b o _ e=>UJ _ e) hS₁⟩)
 refine Uw (Wi ?_)
 refine Uw ?_
 show wpAny _ _ (updateSeq S (·.push .none) >>= fun _=>updateSeq S (·.pop)) _ _ _
 refine Uw (Xz hS₁ rfl ?_)
 have hS₂:=VE (Obj.mapSeq (·.push Value.none)) hS₁ rfl
 refine Xz (hz:=by seq_fits) hS₂ rfl ?_
 have hS₃:=VE (Obj.mapSeq (·.pop)) hS₂ rfl
 have oth:∀b o,b≠S->(s.heap.push { cls:=.type "dict_keyiterator",data:=.fields #[.ref d,.int 0 0,.int kvs.length 0,.int ep 0] }).get? b=some o->(((s.heap.push { cls:=.type "dict_keyiterator",data:=.fields #[.ref d,.int 0 0,.int kvs.length 0,.int ep 0] }).update S (Obj.mapSeq (·.push Value.none))).update S (Obj.mapSeq (·.pop))).get? b=some o:=fun b o hb e=>(V0 _ _ (Ne.symm hb)).trans ((V0 _ _ (Ne.symm hb)).trans e)
 refine UD ⟨WL F.plain_extend_loop _,key _ _ _ ⟨hit₁.at fun o e=>oth _ o (Ne.symm hSI) e,hA₁.at' fun o e=>oth _ o (Ne.symm hSd) e⟩ (fun b o hb e=>oth b o hb (UJ _ e)) hS₃⟩
theorem Ck {R:Result->Shared->Prop}{d:Addr}{kvs:List (κ×Value)}(hh:A.handled=none) (hd:(d == sysModules)=false) (hm:s.heap.DictOf knd d kvs) (hlen:kvs.length<=2^24) (S:Addr) (hS:s.heap.get? S=some { cls:=.type "list",data:=.seq #[] })
  (hR:∀h' tk acc' c',(∀b o,b≠S->s.heap.get? b=some o->h'.get? b=some o)->h'.get? S=some { cls:=.type "list",dict:=none,data:=.seq acc' c',slots:=#[] } ->
   ItemsOf (fun i v=>∃k x,kvs[i]? = some (k,x)/\knd.is k v=true) acc' kvs.length->R (.ok (.ret .none)) { s with heap:=h',toks:=tk }) :
  wpAny (model prog w) A.in1 (Builtin.«list.__init__» ⟨[.ref S,.ref d],[]⟩)
   (fun fin s'=>match fin with | .done f=>R (.ok f) s' | .again c'=>c'.quiet=true/\codeAny (model prog w) A c' R s') (fun e s'=>R (.error e) s') s:=by
 have hSd:S≠d:=fun e=>by
  have h1:=hm.typeIs
  rw[<- e]at h1
  obtain⟨o',g',c'⟩:=h1
  rw[hS]at g'
  cases g'
  exact absurd (show Value.type "list" = Value.type "dict" from c') (by decide)
 show wpAny _ _ (do let old <- Builtin.List.listItems (.ref S);Builtin.List.listUpdate (.ref S) (fun _=>#[]);letGo old.toList.reverse;Builtin.List.listExtendWith (.ref S) (.ref d) .none) _ _ s
 refine Uw ?_
 unfold Builtin.List.listItems
 refine Uw (wpAny_seqItems hS rfl (UD ?_))
 show wpAny _ _ (updateSeq S (fun _=>#[]) >>= fun _=>letGo (#[]:Array Value).toList.reverse >>= fun _=>Builtin.List.listExtendWith (.ref S) (.ref d) .none) _ _ s
 refine Uw (Xz hS rfl ?_)
 have hS₂:=VE (Obj.mapSeq (fun _=>(#[]:Array Value))) hS rfl
 have oth:∀b o,b≠S->s.heap.get? b=some o->(s.heap.update S (Obj.mapSeq (fun _=>(#[]:Array Value)))).get? b=some o :=
  fun b o hb e=>(V0 _ _ (Ne.symm hb)).trans e
 refine Uw (wpAny_letGo ?_)
 obtain⟨od,es,ep,god,r⟩:=id hm
 refine xr (knd:=knd) (kvs:=kvs) hh hd ⟨od,es,ep,oth d _ (Ne.symm hSd) god,r⟩ hlen S .none _ hS₂ fun h' tk acc' c' hk hS' hacc=>?_
 exact hR h' tk acc' c' (fun b o hb e=>hk b o hb (oth b o hb e)) hS' hacc
theorem pJ {Q:Value->Shared->Prop}{d:Addr}{kvs:List (κ×Value)}(hh:A.handled=none) (hd:(d == sysModules)=false) (hm:s.heap.DictOf knd d kvs) (hlen:kvs.length<=2^24)
  (hQ:∀h' tk acc' c',(∀b o,s.heap.get? b=some o->h'.get? b=some o) ->
   h'.get? s.heap.objs.size=some { cls:=.type "list",dict:=none,data:=.seq acc' c',slots:=#[] }->ItemsOf (fun i v=>∃k x,kvs[i]? = some (k,x)/\knd.is k v=true) acc' kvs.length->Q (.ref s.heap.objs.size) { s with heap:=h',toks:=tk }) :
  wpAny (model prog w) A (call (.type "list") [.ref d]) Q E s:=by
 refine callType_codes (Q₁:=fun obj s₁=>obj = .ref s.heap.objs.size/\s₁ = { s with heap:=s.heap.push { cls:=.type "list",data:=.seq #[] } }) F.called_list (F.typeCall_list_1 _) F.entry_list_init
  (code_list_new _ ⟨rfl,rfl⟩) fun obj s₁ h₁=>?_
 obtain⟨rfl,rfl⟩:=h₁
 have hS:(s.heap.push { cls:=.type "list",data:=.seq #[] }).get? s.heap.objs.size=some { cls:=.type "list",data:=.seq #[] }:=U4 _ rfl
 refine⟨⟨_,hS,rfl⟩,F.args_list_init_2 _ _,Ck (A:=A.in1) (knd:=knd) (kvs:=kvs) hh hd (hm.push _) hlen _ hS fun h' tk acc' c' hk hS' hacc=>?_⟩
 exact⟨rfl,hQ h' tk acc' c' (fun b o e=>hk b o (UZ (UU e)) (UJ _ e)) hS' hacc⟩
end
section
variable {X:Cx}
def KY:List V->Hp->VK->Prop:=fun xs H Q=>∃(d:Addr) (kvs:List (Key×V)),xs=[.ref d]/\H d=some (.dK kvs)/\∀l,H l=none->Q (.ref l) (upd H l (.lst (kvs.map fun kv=>kV kv.1)))
theorem t_ {P:Program}{w:World}:∀{kvs:List (Key×V)}{vs:List (Key×Value)}{us:List Value},KV kvs vs->us.length=vs.length->(∀(i:Nat) v,us[i]? = some v->∃k x,vs[i]? = some (k,x)/\(bO P w).is k v=true)->Vals (kvs.map fun kv=>kV kv.1) us
 | _,_,[],.nil,_,_=>.nil
 | _,_,_::_,.nil,l,_=>by cases l
 | _,_,[],.cons _ _,l,_=>by cases l
 | _,_,u::us,.cons (a:=p) (b:=b) r t,l,h=>by
  obtain⟨k,x,h1,h2⟩:=h 0 u rfl
  have e:b =(k,x):=by simpa using h1
  refine .cons ?_ (t_ (P:=P) (w:=w) t (by simpa using l) fun i v hv=>?_)
  ·have:=Ij h2
   show RelV (kV p.1) u
   rw[r.1,e];exact this
  ·obtain⟨k',x',h3,h4⟩:=h (i+1) v (by simpa using hv)
   exact⟨k',x',by simpa using h3,h4⟩
theorem yY (hc:X.calm=true):dc X (.type "list") KY:=by
 intro pins s σ H xs us Q I r h
 obtain⟨d,kvs,rfl,hd,q⟩:=h
 obtain⟨u,rfl,r1⟩:=vals1 r
 cases (show u=Value.ref d from r1)
 obtain⟨hz,lo,vs,rk,hD⟩ : kvs.length<=sizeLine/\(d == sysModules)=false/\∃vs,KV kvs vs/\s.heap.DictOf (bO X.prog X.w) d vs:=I.hok d _ hd
 have hl:kvs.length=vs.length:=XR rk
 refine pJ (I.ok.hd hc) lo hD (by rw[<- hl];exact hz) fun h' tk acc c kp hS hacc=>?_
 have hv:Vals (kvs.map fun kv=>kV kv.1) acc.toList:=t_ (P:=X.prog) (w:=X.w) rk (by rw[<- hacc.1];simp) fun i v e=>hacc.2 i v (by simpa using e)
 have hz2:(kvs.map fun kv=>kV kv.1).length<=sizeLine:=by rw[Uv];exact hz
 exact⟨.ref s.heap.objs.size,_,I.laid (t':=tk) kp (UE _) (o:=.lst (kvs.map fun kv=>kV kv.1)) ⟨hz2,acc.toList,c,hv,by simpa using hS⟩,rfl,q _ (I.hok.fresh (UE _))⟩
end
inductive Mm:Value->Int->Prop
 | int (i:Int) (t:Tok):Mm (.int i t) i
 | bl (b:Bool):Mm (.bool b) (if b=true then(1:Int) else 0)
inductive Num:V->Int->Prop
 | int (i:Int):Num (.int i) i
 | bl (b:Bool):Num (.bl b) (if b=true then(1:Int) else 0)
abbrev wg (elt t1 i1:Expr) (fs1:List Expr) (t2 i2:Expr) (fs2:List Expr) (scope:Scope) (pos:Pos):Expr:=.ListComp elt [⟨t1,i1,fs1,0⟩,⟨t2,i2,fs2,0⟩] scope pos
theorem yl (elt t1 i1:Expr) (fs1:List Expr) (t2 i2:Expr) (fs2:List Expr) (scope:Scope) (pos:Pos) (it acc:Value) (env:Env) :
  compTurn (wg elt t1 i1 fs1 t2 i2 fs2 scope pos) 0 it acc env =(do
   standAt i1.pos
   match <- pyNext it with
   | none=>pure (.done .next)
   | some v =>
    letOwnedTupleGo t1 it v
    assign t1 env v
    let mut ok:=true
    for c in fs1 do
     if ok then ok <- isTrue c env (eval c env)
    if ok then
     let x <- eval i2 env
     standAt i2.pos
     let x <- foldedSetIterable i2 env x
     let _ <- runOwn (.compStart (wg elt t1 i1 fs1 t2 i2 fs2 scope pos) 1 (<- holding [x] (pyIter x)) acc env) env
    again (.compLoop (wg elt t1 i1 fs1 t2 i2 fs2 scope pos) 0 it acc env)):=by rfl
theorem wN (elt t1 i1:Expr) (fs1:List Expr) (t2 i2:Expr) (fs2:List Expr) (scope:Scope) (pos:Pos) (it acc:Value) (env:Env) :
  compTurn (wg elt t1 i1 fs1 t2 i2 fs2 scope pos) 1 it acc env =(do
   standAt i2.pos
   match <- pyNext it with
   | none=>pure (.done .next)
   | some v =>
    letOwnedTupleGo t2 it v
    assign t2 env v
    let mut ok:=true
    for c in fs2 do
     if ok then ok <- isTrue c env (eval c env)
    if ok then
     (do let _ <- call (.builtin "list.append") [acc,<- eval elt env])
    again (.compLoop (wg elt t1 i1 fs1 t2 i2 fs2 scope pos) 1 it acc env)):=by rfl
section
variable {prog:Program}{w:World}{A:Around}{R:Result->Shared->Prop}{s:Shared}{elt t1 i1 t2 i2:Expr}{fs1 fs2:List Expr}{scope:Scope}{pos:Pos}{it acc:Value}{env:Env}
theorem yt (I:Nat->Shared->Prop)
  (turn:∀n s,I n s->wpAny (model prog w) A (pyNext it) (fun r s₁=>match r with
   | none=>R (.ok .next) s₁
   | some v=>wpAny (model prog w) A (letOwnedTupleGo t2 it v) (fun _ s₁'=>wpAny (model prog w) A (assign t2 env v) (fun _ s₂ =>
     wpAny (model prog w) A (forIn fs2 true fun c r=>if r=true then do let ok <- isTrue c env (eval c env);pure (ForInStep.yield ok) else pure (ForInStep.yield r)) (fun ok s₃ =>
      if ok=true then wpAny (model prog w) A (eval elt env) (fun x s₄ =>
       wpAny (model prog w) A (call (.builtin "list.append") [acc,x]) (fun _ s₅=>∃m,m<n/\I m s₅) (fun _ _=>False) s₄) (fun _ _=>False) s₃
      else ∃m,m<n/\I m s₃) (fun _ _=>False) s₂) (fun _ _=>False) s₁') (fun _ _=>False) s₁) (fun _ _=>False) s)
  (n:Nat) (h:I n s) :
  codeAny (model prog w) A (.compLoop (wg elt t1 i1 fs1 t2 i2 fs2 scope pos) 1 it acc env) R s:=by
 refine codeAny_loop rfl I (fun n s hI=>?_) n h
 show wpAny _ A ((compTurn (wg elt t1 i1 fs1 t2 i2 fs2 scope pos) 1 it acc env).onRaise (fun x=>do noteFrame x env;theTreesLotGoes x)) _ _ s
 refine wpAny_noted ?_
 rw[wN]
 refine Uw (W0 (Uw (Vx (turn n s hI) (fun r s₁ h₁=>?_) fun _ _ h'=>h'.elim)))
 cases r with
 | none=>exact UD h₁
 | some v =>
  refine Uw (Vx h₁ (fun _ s₁' h₁'=>?_) fun _ _ h'=>h'.elim)
  refine Uw (Vx h₁' (fun _ s₂ h₂=>Uw (Vx h₂ (fun ok s₃ h₃=>?_) fun _ _ h'=>h'.elim)) fun _ _ h'=>h'.elim)
  cases ok with
  | false=>exact UD ⟨rfl,h₃⟩
  | true =>
   exact Uw (Uw (Vx h₃ (fun x s₄ h₄=>Uw (Vx h₄ (fun _ s₅ h₅=>UD (UD ⟨rfl,h₅⟩)) fun _ _ h'=>h'.elim)) fun _ _ h'=>h'.elim))
theorem wQ (I:Nat->Shared->Prop) (hs:∀x,foldedSetIterable i2 env x=pure x)
  (turn:∀n s,I n s->wpAny (model prog w) A (pyNext it) (fun r s₁=>match r with
   | none=>R (.ok .next) s₁
   | some v=>wpAny (model prog w) A (letOwnedTupleGo t1 it v) (fun _ s₁'=>wpAny (model prog w) A (assign t1 env v) (fun _ s₂ =>
     wpAny (model prog w) A (forIn fs1 true fun c r=>if r=true then do let ok <- isTrue c env (eval c env);pure (ForInStep.yield ok) else pure (ForInStep.yield r)) (fun ok s₃ =>
      if ok=true then wpAny (model prog w) A (eval i2 env) (fun x s₄=>wpAny (model prog w) A (pyIter x) (fun it2 s₅ =>
       codeAny (model prog w) A (.compStart (wg elt t1 i1 fs1 t2 i2 fs2 scope pos) 1 it2 acc env) (fun r s₆=>match r with | .ok _=>∃m,m<n/\I m s₆ | .error _=>False) s₅) (fun _ _=>False) s₄) (fun _ _=>False) s₃
      else ∃m,m<n/\I m s₃) (fun _ _=>False) s₂) (fun _ _=>False) s₁') (fun _ _=>False) s₁) (fun _ _=>False) s)
  (n:Nat) (h:I n s) :
  codeAny (model prog w) A (.compLoop (wg elt t1 i1 fs1 t2 i2 fs2 scope pos) 0 it acc env) R s:=by
 refine codeAny_loop rfl I (fun n s hI=>?_) n h
 show wpAny _ A ((compTurn (wg elt t1 i1 fs1 t2 i2 fs2 scope pos) 0 it acc env).onRaise (fun x=>do noteFrame x env;theTreesLotGoes x)) _ _ s
 refine wpAny_noted ?_
 rw[yl]
 refine Uw (W0 (Uw (Vx (turn n s hI) (fun r s₁ h₁=>?_) fun _ _ h'=>h'.elim)))
 cases r with
 | none=>exact UD h₁
 | some v =>
  refine Uw (Vx h₁ (fun _ s₁' h₁'=>?_) fun _ _ h'=>h'.elim)
  refine Uw (Vx h₁' (fun _ s₂ h₂=>Uw (Vx h₂ (fun ok s₃ h₃=>?_) fun _ _ h'=>h'.elim)) fun _ _ h'=>h'.elim)
  cases ok with
  | false=>exact UD ⟨rfl,h₃⟩
  | true =>
   refine Uw (Vx h₃ (fun x s₄ h₄=>Uw (W0 (Uw (wpAny_of_eq (hs x) (Uw (VF (Vx h₄ (fun it2 s₅ h₅=>Uw (wpAny_runOwn (XD h₅ fun r s₆ h₆=>?_))) fun _ _ h'=>h'.elim))))))) fun _ _ h'=>h'.elim)
   cases r with
   | ok f=>exact UD ⟨rfl,h₆⟩
   | error e=>exact h₆.elim
theorem uQ
  (h0:codeAny (model prog w) A (.compLoop (wg elt t1 i1 fs1 t2 i2 fs2 scope pos) 1 it acc env) R s)
  (h:wpAny (model prog w) A (pyIter it) (fun it' s'=>codeAny (model prog w) A (.compLoop (wg elt t1 i1 fs1 t2 i2 fs2 scope pos) 1 it' acc env) R s')
   (notedBy (model prog w) A env fun x s'=>R (.error x) s') s) :
  codeAny (model prog w) A (.compStart (wg elt t1 i1 fs1 t2 i2 fs2 scope pos) 1 it acc env) R s:=by
 refine codeAny_of_tree ?_
 show wpAny _ _ ((compStart (wg elt t1 i1 fs1 t2 i2 fs2 scope pos) 1 it acc env).onRaise (fun x=>do noteFrame x env;standAt theWindowsPlace)) _ _ s
 refine wpAny_notedAt ?_
 unfold compStart
 show wpAny _ _ (ask >>= _) _ _ s
 refine Uw (WM (wpAny_ite ?_))
 split
 ·first
   | exact Uw (UD (UD (And.intro rfl h0)))
   | exact UD (And.intro rfl h0)
 ·first
   | exact Uw (Wi (Uw (W0 (Uw (Vx h (fun it' s' h'=>UD (And.intro rfl h')) fun _ _ x=>x)))))
   | (refine Uw (Wi ?_);show wpAny _ _ (standAt i2.pos >>= _) _ _ s;exact Uw (W0 (Uw (Vx h (fun it' s' h'=>UD (And.intro rfl h')) fun _ _ x=>x))))
end
def Q3 (wi2:TI) (g2:TG) (tt2:TT) (te:TE) (D:Addr) (ys:List V) (σ:St) (H:Hp) (N0:St->List V->Hp->Prop):Prop:=wi2 σ H fun J H1 =>
 ∃W:Nat->Nat->St->List V->Hp->Prop,(∃m,W 0 m σ ys H1)/\∀i m σ' ys' H',W i m σ' ys' H' ->
  (J.stop i H'/\N0 σ' ys' H') \/(J.go i H'/\∃N:St->List V->Hp->Prop,(∀σ2 zs H2,N σ2 zs H2->∃m',m'<m/\W (i+1) m' σ2 zs H2) /\
   ∀x H2,J.yld i H' x H2->g2 x σ' H2 fun σ3 H3=>tt2 σ3 H3 fun b H4=>if b=true then te σ3 H4 fun y H5=>H5 D=some (.lst ys')/\ys'.length<sizeLine/\N σ3 (ys' ++ [y]) (upd H5 D (.lst (ys' ++ [y]))) else N σ3 ys' H4)
def vc (J:It) (vs:List Str) (js:List Nat) (σ:St) (g1:TG) (tt1:TT) (wi2:TI) (g2:TG) (tt2:TT) (te:TE) (Q:VK) (D:Addr) (H1:Hp):Prop :=
 ∃W:Nat->Nat->St->List V->Hp->Prop,(∃m,W 0 m (jV vs js σ) [] (upd H1 D (.lst [])))/\∀i m σ' ys H',W i m σ' ys H' ->
  (J.stop i H'/\Q (.ref D) H') \/(J.go i H'/\∃N:St->List V->Hp->Prop,(∀σ2 zs H2,N σ2 zs H2->∃m',m'<m/\W (i+1) m' σ2 zs H2) /\
   ∀x H2,J.yld i H' x H2->g1 x σ' H2 fun σ3 H3=>tt1 σ3 H3 fun b H4=>if b=true then Q3 wi2 g2 tt2 te D ys σ3 H4 N else N σ3 ys H4)
def DA (vs:List Str) (js:List Nat) (wi:TI) (g1:TG) (tt1:TT) (wi2:TI) (g2:TG) (tt2:TT) (te:TE):TE:=fun σ H Q=>wi σ H fun J H1=>∀D,H1 D=none->vc J vs js σ g1 tt1 wi2 g2 tt2 te Q D H1
section
variable {X:Cx}{pins:List (Addr×Obj)}{σ:St}{H:Hp}{s:Shared}{scope:Scope}{vs fs:List Str}{js:List Nat}
theorem EU {t1 i1 t2 i2 elt:Expr}{ifs1 ifs2:List Expr}{pos:Pos}{g1 g2:TG}{tt1 tt2:TT}{wi2:TI}{te:TE}(hc:X.calm=true) (B:nV X scope vs fs js)
  (hg:∀C s H ex,PG (bx X scope (vs++fs) C s H ex) t1 g1) (ht:∀C s H ex,uY (bx X scope (vs++fs) C s H ex) ifs1 tt1)
  (hi2:∀C s H ex,PI (bx X scope (vs++fs) C s H ex) t2 i2 wi2) (hs2:∀C x,foldedSetIterable i2 (compEnvC scope (ie X.env scope.names []) C X.env) x=pure x)
  (hg2:∀C s H ex,PG (bx X scope (vs++fs) C s H ex) t2 g2) (ht2:∀C s H ex,uY (bx X scope (vs++fs) C s H ex) ifs2 tt2) (he:∀C s H ex,PE (bx X scope (vs++fs) C s H ex) elt te)
  {it:Addr}{fp:List Addr}{tn:Nat->Heap->Prop}{J:It}{Q:VK}{E:Value->Shared->Prop}(I2:Inv X pins σ H s) (T:Turn X.prog X.w X.K t1 J fp it tn) (st2:tn 0 s.heap) (f2:∀b∈fp,jA X pins H b)
  (hW:∀D,H D=none->vc J vs js σ g1 tt1 wi2 g2 tt2 te Q D H)
  {RR:Value->Addr->Result->Shared->Prop}
  (hR:∀D C H' s',Inv X pins σ H' s'->(∃m,s'.heap.Ns C m)->H' C=none->s.heap.objs.size<=C->Q (.ref D) H'->RR (.ref D) C (.ok .next) s') :
  wpAny (model X.prog X.w) X.A (newList []) (fun acc s₃=>wpAny (model X.prog X.w) X.A (newFunctionEnv scope X.env.globals (ie X.env scope.names []) [] X.env.qual none .none (some X.env)) (fun cenv s₄ =>
   codeAny (model X.prog X.w) X.A (.compStart (wg elt t1 i1 ifs1 t2 i2 ifs2 scope pos) 0 (.ref it) acc { cenv with scope:=relabel scope X.env }) (RR acc cenv.locals) s₄) E s₃) E s:=by
 have hfp:∀b∈fp,b<s.heap.objs.size:=fun b hb=>by
  obtain⟨o,e,_⟩:=T.obj _ _ st2 b hb
  exact UU e
 refine WB (wpAny_newFunctionEnv B.cell (by intro y hy;simp at hy) (fun h₁ hns₁ hsb₁=>?_) B.kind)
 dsimp only at hns₁ hsb₁ ⊢
 generalize hH2:s.heap.push { cls:=.type "list",dict:=none,data:=.seq ([]:List Value).toArray } = HH at hns₁ hsb₁ ⊢
 have hC:HH.objs.size=s.heap.objs.size+1:=by rw[<- hH2,Wz]
 have hlt:s.heap.objs.size<HH.objs.size:=by rw[hC];exact Xp _
 have old:∀b o,s.heap.get? b=some o->h₁.get? b=some o:=fun b o e=>hsb₁.extBut b o (UZ (Nat.lt_trans (UU e) hlt)) (UJ _ (hH2 ▸ UJ _ e))
 have hacc:h₁.get? s.heap.objs.size=some { cls:=.type "list",data:=.seq ([]:List Value).toArray }:=hsb₁.extBut _ _ (UZ hlt) (UJ _ (hH2 ▸ U4 _ rfl))
 have I0:Inv (bx X scope (vs++fs) HH.objs.size s H fp) [] (jV vs js σ) (upd H s.heap.objs.size (.lst [])) { s with heap:=h₁,toks:=s.toks+([]:List (Str×Value)).length }:=sY I2 B f2 hfp hns₁ old rfl hlt hacc
 obtain⟨W,⟨m0,w0⟩,turn⟩:=hW s.heap.objs.size (I2.hok.fresh (UE _))
 have st1:tn 0 h₁:=T.keep _ _ _ st2 fun b hb o e=>old b o e
 have hch:∀b∈fp,(b∈X.ex\/X.s₀.heap.objs.size<=b)/\b≠X.env.locals/\(∀x c,X.env.cells.lookup x=some c->c≠b)/\∀p∈X.pn++pins,p.1≠b:=fun b hb=>by
  obtain⟨_,a2,_,a4,a5,a6⟩:=f2 b hb
  exact⟨a4,a2,a5,a6⟩
 have back:∀{pl:List (Addr×Obj)}{σ':St}{H':Hp}{s':Shared},Inv (bx X scope (vs++fs) HH.objs.size s H fp) pl σ' H' s'->Inv X pins σ H' s':=fun {pl σ' H' s'} J'=>I2.call' (ch:=fp) J'.os J'.base J'.hok J'.bare hch
 have nD:∀b∈fp,b≠s.heap.objs.size:=fun b hb=>UZ (hfp b hb)
 have stat:∀{H':Hp},(∀b∈fp,H' b=none)->∀b∈fp,jA (bx X scope (vs++fs) HH.objs.size s H fp) [] H' b:=fun {H'} hn b hb=>by
  have z:=I0.ok
  refine⟨hn b hb,(z.exf b hb).1,z.exfs b hb,.inl hb,(z.exf b hb).2,fun p hp=>absurd (show p∈([]:List (Addr×Obj)) from hp) (by simp)⟩
 have loop:∀s₃:Shared,s₃ = { s with heap:=h₁,toks:=s.toks+([]:List (Str×Value)).length } ->
   codeAny (model X.prog X.w) X.A (.compLoop (wg elt t1 i1 ifs1 t2 i2 ifs2 scope pos) 0 (.ref it) (.ref s.heap.objs.size) (compEnvC scope (ie X.env scope.names []) HH.objs.size X.env)) (RR (.ref s.heap.objs.size) HH.objs.size) s₃:=by
  rintro s₃ rfl
  refine wQ (fun n s'=>∃i σ' ys H',Inv (bx X scope (vs++fs) HH.objs.size s H fp) [] σ' H' s'/\tn i s'.heap/\(∀b∈fp,H' b=none)/\W i n σ' ys H') (hs2 _) ?_ m0
   ⟨0,_,_,_,I0,st1,fun b hb=>by rw[av (nD b hb)];exact(f2 b hb).1,w0⟩
  rintro n s3 ⟨i,σ3,ys,H3,I3,st3,fr3,w3⟩
  rcases turn i n σ3 ys H3 w3 with⟨stop,q⟩|⟨go,N,hN,step⟩
  ·refine bX (T.done (bx X scope (vs++fs) HH.objs.size s H fp) rfl rfl rfl hc i [] s3 σ3 H3 _ I3 (stat fr3) st3 stop) fun r s4 ⟨hr,I4⟩=>?_
   subst hr
   obtain⟨m,hm,_⟩:=I4.loc
   exact hR _ _ H3 s4 (back I4) ⟨m,hm⟩ I4.free (VT hlt) q
  ·refine bX (T.item (bx X scope (vs++fs) HH.objs.size s H fp) rfl rfl rfl hc i [] s3 σ3 H3 _ I3 (stat fr3) st3 go) fun r s4 ⟨u,hr,h4⟩=>?_
   subst hr
   refine bX h4 fun _ s5 ⟨x,H5,I5,r5,y5,st5,fr5⟩=>?_
   have I5':=I5.pinned (stat fr5) (T.obj _ _ st5)
   have again:∀{σ7:St}{H7:Hp}{s7:Shared}{zs:List V},Inv (bx X scope (vs++fs) HH.objs.size s H fp) ([]++gU fp s5.heap) σ7 H7 s7->N σ7 zs H7->∃m,m<n/\∃i σ' ys H',Inv (bx X scope (vs++fs) HH.objs.size s H fp) [] σ' H' s7/\tn i s7.heap/\(∀b∈fp,H' b=none)/\W i m σ' ys H':=fun {σ7 H7 s7 zs} I7 n7=>by
    obtain⟨m',hm,w7⟩:=hN σ7 zs H7 n7
    refine⟨m',hm,i+1,σ7,zs,H7,I7.unpinned,T.keep _ _ _ st5 fun b hb o e=>(I7.pin (b,o) (UX _ (UX _ (dJ hb e)))).1,fun b hb=>?_,w7⟩
    obtain⟨o,e,d⟩:=T.obj _ _ st5 b hb
    exact(I7.pin (b,o) (UX _ (UX _ (dJ hb e)))).2.1
   refine bX (hg _ _ _ _ _ s5 σ3 H5 x u _ I5' r5 (step x H5 y5)) fun _ s6 ⟨σ6,H6,I6,q6⟩=>?_
   refine bX (ht _ _ _ _ _ s6 σ6 H6 _ I6 q6) fun ok s7 ⟨H7,I7,q7⟩=>?_
   cases ok with
   | false =>
    rw[UM U0]at q7 ⊢
    exact again I7 q7
   | true =>
    rw[UN rfl]at q7 ⊢
    refine bX (hi2 _ _ _ _ _ s7 σ6 H7 _ I7 q7) fun v7 s8 h8=>bX h8 fun itv s9 h9=>?_
    obtain⟨it2,fp2,tn2,J2,H9,e9,I9,T2,st9,f9,W2,⟨m20,w20⟩,turn2⟩:=h9
    subst e9
    have stat2:∀{H':Hp},(∀b∈fp2,H' b=none)->∀b∈fp2,jA (bx X scope (vs++fs) HH.objs.size s H fp) ([]++gU fp s5.heap) H' b:=fun hn b hb=>⟨hn b hb,(f9 b hb).2⟩
    have loop2:codeAny (model X.prog X.w) X.A (.compLoop (wg elt t1 i1 ifs1 t2 i2 ifs2 scope pos) 1 (.ref it2) (.ref s.heap.objs.size) (compEnvC scope (ie X.env scope.names []) HH.objs.size X.env)) (fun r s₆=>match r with | .ok _=>∃m,m<n/\∃i σ' ys H',Inv (bx X scope (vs++fs) HH.objs.size s H fp) [] σ' H' s₆/\tn i s₆.heap/\(∀b∈fp,H' b=none)/\W i m σ' ys H' | .error _=>False) s9:=by
     refine yt (fun n s'=>∃i σ' ys H',Inv (bx X scope (vs++fs) HH.objs.size s H fp) ([]++gU fp s5.heap) σ' H' s'/\tn2 i s'.heap/\(∀b∈fp2,H' b=none)/\W2 i n σ' ys H') ?_ m20 ⟨0,_,_,_,I9,st9,fun b hb=>(f9 b hb).1,w20⟩
     rintro n2 sa ⟨i',σa,yz,Ha,Ia,sta,fra,wa⟩
     rcases turn2 i' n2 σa yz Ha wa with⟨stop,q⟩|⟨go,N2,hN2,step2⟩
     ·refine bX (T2.done (bx X scope (vs++fs) HH.objs.size s H fp) rfl rfl rfl hc i' _ sa σa Ha _ Ia (stat2 fra) sta stop) fun r sb ⟨hr,Ib⟩=>?_
      subst hr
      exact again Ib q
     ·refine bX (T2.item (bx X scope (vs++fs) HH.objs.size s H fp) rfl rfl rfl hc i' _ sa σa Ha _ Ia (stat2 fra) sta go) fun r sb ⟨u2,hr,hb⟩=>?_
      subst hr
      refine bX hb fun _ sc ⟨x2,Hc,Ic,rc,yc,stc,frc⟩=>?_
      have Ic':=Ic.pinned (stat2 frc) (T2.obj _ _ stc)
      have again2:∀{σ7:St}{H7:Hp}{s7:Shared}{zs:List V},Inv (bx X scope (vs++fs) HH.objs.size s H fp) (([]++gU fp s5.heap)++gU fp2 sc.heap) σ7 H7 s7->N2 σ7 zs H7->∃m,m<n2/\∃i σ' ys H',Inv (bx X scope (vs++fs) HH.objs.size s H fp) ([]++gU fp s5.heap) σ' H' s7/\tn2 i s7.heap/\(∀b∈fp2,H' b=none)/\W2 i m σ' ys H':=fun {σ7 H7 s7 zs} I7 n7=>by
       obtain⟨m',hm,w7⟩:=hN2 σ7 zs H7 n7
       refine⟨m',hm,i'+1,σ7,zs,H7,I7.unpinned,T2.keep _ _ _ stc fun b hb o e=>(I7.pin (b,o) (UX _ (UX _ (dJ hb e)))).1,fun b hb=>?_,w7⟩
       obtain⟨o,e,d⟩:=T2.obj _ _ stc b hb
       exact(I7.pin (b,o) (UX _ (UX _ (dJ hb e)))).2.1
      refine bX (hg2 _ _ _ _ _ sc σa Hc x2 u2 _ Ic' rc (step2 x2 Hc yc)) fun _ sd ⟨σd,Hd,Id,qd⟩=>?_
      refine bX (ht2 _ _ _ _ _ sd σd Hd _ Id qd) fun ok se ⟨He,Ie,qe⟩=>?_
      cases ok with
      | false =>
       rw[UM U0]at qe ⊢
       exact again2 Ie qe
      | true =>
       rw[UN rfl]at qe ⊢
       refine bX (he _ _ _ _ _ se σd He _ Ie qe) fun y sf ⟨yv,Hf,If,rf,hDf,hz,nf⟩=>?_
       refine bX (dQ _ sf σd Hf (.ref s.heap.objs.size) [yv] (.ref s.heap.objs.size) [y] (fun _ H9=>N2 σd (yz ++ [yv]) H9) If rfl (.cons rf .nil) ⟨_,yz,yv,rfl,rfl,hDf,hz,nf⟩) fun _ sg ⟨_,Hg,Ig,_,ng⟩=>?_
       exact again2 Ig ng
    exact uQ loop2 (T2.self X.A 0 _ _ _ st9 loop2)
 exact codeAny_compStart_list (loop _ rfl) (T.self X.A 0 _ _ _ st1 (loop _ rfl))
theorem EG {t1 i1 t2 i2 elt:Expr}{ifs1 ifs2:List Expr}{pos:Pos}{wi wi2:TI}{g1 g2:TG}{tt1 tt2:TT}{te:TE}(hc:X.calm=true) (B:nV X scope vs fs js) (hi:PI X t1 i1 wi)
  (hg:∀C s H ex,PG (bx X scope (vs++fs) C s H ex) t1 g1) (ht:∀C s H ex,uY (bx X scope (vs++fs) C s H ex) ifs1 tt1)
  (hi2:∀C s H ex,PI (bx X scope (vs++fs) C s H ex) t2 i2 wi2)
  (hg2:∀C s H ex,PG (bx X scope (vs++fs) C s H ex) t2 g2) (ht2:∀C s H ex,uY (bx X scope (vs++fs) C s H ex) ifs2 tt2) (he:∀C s H ex,PE (bx X scope (vs++fs) C s H ex) elt te)
  (hs:∀x,foldedSetIterable i1 X.env x=pure x:=by intro _;rfl) (hs2:∀C x,foldedSetIterable i2 (compEnvC scope (ie X.env scope.names []) C X.env) x=pure x:=by intro _ _;rfl) :
  PE X (wg elt t1 i1 ifs1 t2 i2 ifs2 scope pos) (DA vs js wi g1 tt1 wi2 g2 tt2 te):=by
 intro pins s σ H Q I h
 rw[eval_ListComp]
 refine Xv (use:=none) rfl hs (kZ fun y hy hf=>I.ok.has y.1 (B.free y hy hf)) B.kind B.names (bX (hi pins s σ H _ I h) fun v s1 h1=>bX h1 fun itv s2 h2=>?_)
 obtain⟨it,fp,tn,J,H2,e,I2,T,st2,f2,hW⟩:=h2
 subst e
 refine EU (RR:=fun acc C=>compPost (model X.prog X.w) X.A X.xe none (EP X pins σ Q) acc C) hc B hg ht hi2 hs2 hg2 ht2 he I2 T st2 f2 hW ?_
 intro D C H' s' I' hn hC hle q
 obtain⟨m,hn⟩:=hn
 exact⟨m,hn,fun h'' hs''=>⟨.ref D,H',I2.goneC I' hC hle hs'',rfl,q⟩⟩
end
section
variable {vs:List Str}{js:List Nat}{σ:St}{H:Hp}{Q:VK}
theorem CH {wi wi2:TI}{g1 g2:TG}{tt1 tt2:TT}{te:TE}(h:wi σ H fun J H1=>∀D,H1 D=none->vc J vs js σ g1 tt1 wi2 g2 tt2 te Q D H1):DA vs js wi g1 tt1 wi2 g2 tt2 te σ H Q:=h
theorem Mt {wi2:TI}{g2:TG}{tt2:TT}{te:TE}{D:Addr}{ys:List V}{N0:St->List V->Hp->Prop}(h:wi2 σ H fun J H1 =>
  ∃W:Nat->Nat->St->List V->Hp->Prop,(∃m,W 0 m σ ys H1)/\∀i m σ' ys' H',W i m σ' ys' H' ->
   (J.stop i H'/\N0 σ' ys' H') \/(J.go i H'/\∃N:St->List V->Hp->Prop,(∀σ2 zs H2,N σ2 zs H2->∃m',m'<m/\W (i+1) m' σ2 zs H2) /\
    ∀x H2,J.yld i H' x H2->g2 x σ' H2 fun σ3 H3=>tt2 σ3 H3 fun b H4=>if b=true then te σ3 H4 fun y H5=>H5 D=some (.lst ys')/\ys'.length<sizeLine/\N σ3 (ys' ++ [y]) (upd H5 D (.lst (ys' ++ [y]))) else N σ3 ys' H4)):Q3 wi2 g2 tt2 te D ys σ H N0:=h
theorem Al {K:W.Frag}{a:Addr}{xs:List V}{wi2:TI}{g1 g2:TG}{tt1 tt2:TT}{te:TE}(Pv:Nat->St->List V->Hp->Prop) (D:Addr) (h0:Pv 0 (jV vs js σ) [] (upd H D (.lst []))) (hl:∀i σ' ys H',i<=xs.length->Pv i σ' ys H'->aW K H' a xs)
  (hs:∀i x σ' ys H',xs[i]? = some x->Pv i σ' ys H'->g1 x σ' H' fun σ3 H3=>tt1 σ3 H3 fun b H4=>if b=true then Q3 wi2 g2 tt2 te D ys σ3 H4 (Pv (i+1)) else Pv (i+1) σ3 ys H4)
  (hd:∀σ' ys H',Pv xs.length σ' ys H'->Q (.ref D) H') :
  vc (Ao K a) vs js σ g1 tt1 wi2 g2 tt2 te Q D H:=by
 refine⟨fun i m σ' ys H'=>m=xs.length-i/\i<=xs.length/\Pv i σ' ys H',⟨xs.length,by simp,Vj _,h0⟩,?_⟩
 rintro i m σ' ys H' ⟨rfl,hi,p⟩
 have q:=hl i σ' ys H' hi p
 by_cases hlt:i<xs.length
 ·refine .inr ⟨⟨xs,xs[i],q,by simp[hlt]⟩,Pv (i+1),fun σ2 zs H2 p'=>⟨xs.length-(i+1),by omega,rfl,hlt,p'⟩,fun x H2 y=>?_⟩
  obtain⟨e,y⟩:=y
  subst e
  exact hs i x σ' ys _ (y xs q) p
 ·have e:i=xs.length:=by omega
  subst e
  exact .inl ⟨⟨xs,q,UE _⟩,hd σ' ys H' p⟩
theorem in_list {K:W.Frag}{g2:TG}{tt2:TT}{te:TE}{D:Addr}{ys:List V}{N0:St->List V->Hp->Prop}{a:Addr}{xs:List V}(Pv:Nat->St->List V->Hp->Prop) (h0:Pv 0 σ ys H) (hl:∀i σ' ys' H',i<=xs.length->Pv i σ' ys' H'->aW K H' a xs)
  (hs:∀i x σ' ys' H',xs[i]? = some x->Pv i σ' ys' H'->g2 x σ' H' fun σ3 H3=>tt2 σ3 H3 fun b H4=>if b=true then te σ3 H4 fun y H5=>H5 D=some (.lst ys')/\ys'.length<sizeLine/\Pv (i+1) σ3 (ys' ++ [y]) (upd H5 D (.lst (ys' ++ [y]))) else Pv (i+1) σ3 ys' H4)
  (hd:∀σ' ys' H',Pv xs.length σ' ys' H'->N0 σ' ys' H') :
  ∃W:Nat->Nat->St->List V->Hp->Prop,(∃m,W 0 m σ ys H)/\∀i m σ' ys' H',W i m σ' ys' H' ->
   ((Ao K a).stop i H'/\N0 σ' ys' H') \/((Ao K a).go i H'/\∃N:St->List V->Hp->Prop,(∀σ2 zs H2,N σ2 zs H2->∃m',m'<m/\W (i+1) m' σ2 zs H2) /\
    ∀x H2,(Ao K a).yld i H' x H2->g2 x σ' H2 fun σ3 H3=>tt2 σ3 H3 fun b H4=>if b=true then te σ3 H4 fun y H5=>H5 D=some (.lst ys')/\ys'.length<sizeLine/\N σ3 (ys' ++ [y]) (upd H5 D (.lst (ys' ++ [y]))) else N σ3 ys' H4):=by
 refine⟨fun i m σ' ys H'=>m=xs.length-i/\i<=xs.length/\Pv i σ' ys H',⟨xs.length,by simp,Vj _,h0⟩,?_⟩
 rintro i m σ' ys H' ⟨rfl,hi,p⟩
 have q:=hl i σ' ys H' hi p
 by_cases hlt:i<xs.length
 ·refine .inr ⟨⟨xs,xs[i],q,by simp[hlt]⟩,Pv (i+1),fun σ2 zs H2 p'=>⟨xs.length-(i+1),by omega,rfl,hlt,p'⟩,fun x H2 y=>?_⟩
  obtain⟨e,y⟩:=y
  subst e
  exact hs i x σ' ys _ (y xs q) p
 ·have e:i=xs.length:=by omega
  subst e
  exact .inl ⟨⟨xs,q,UE _⟩,hd σ' ys H' p⟩
end
def LX (e:Int×V):Key×V:=((Sum.inl e.1:Key),e.2)
section
variable {X:Cx}
def DP (v d:Addr):HO:=.ext fun h=>h.IsItemsView v d
def JM:V->List V->Hp->VK->Prop:=fun x vs H Q=>∃d kvs,x = .ref d/\vs=[]/\H d=some (.dK kvs)/\∀v,H v=none->Q (.ref v) (upd H v (DP v d))
theorem CD:Mf X "dict.items" JM:=by
 intro pins s σ H x xs v us Q I rx rs h
 obtain⟨d,kvs,rfl,rfl,hd,q⟩:=h
 cases rx
 cases rs
 obtain⟨hz,lo,vs,r,hD⟩ : kvs.length<=sizeLine/\(d == sysModules)=false/\∃vs,KV kvs vs/\s.heap.DictOf (bO X.prog X.w) d vs:=I.hok d _ hd
 refine call_meetsIn PySem.F.slot_dict_items hD.typeIs PySem.F.entry_dict_items (PySem.F.args_dict_items_1 _) (meets_dict_items (bO X.prog X.w) d lo) ⟨⟨vs,hD⟩,?_⟩
 exact⟨.ref s.heap.objs.size,_,I.laid (t':=s.toks) (a:=s.heap.objs.size) (o:=DP s.heap.objs.size d) (fun b u q=>UJ _ q) (UE _) ⟨⟨_,U4 _ rfl,rfl,rfl⟩,⟨_,U4 _ rfl⟩,fun h1 h2 ⟨o,ho,r⟩ k=>⟨o,k _ ho,r⟩⟩,rfl,q _ (I.hok.fresh (UE _))⟩
theorem qT:∀{ps:List (Int×V)}{ts:List Addr}{pins:List (Addr×Obj)}{σ:St}{H:Hp}{s:Shared},Inv X pins σ H s->ts.Nodup->ts.length=ps.length->(∀t∈ts,jA X pins H t)->(∀(i:Nat) (t:Addr) (p:Int×V),ts[i]? = some t->ps[i]? = some p->∃its:List Value,Vals [.int p.1,p.2] its/\IsTup s.heap t its.toArray) ->
  ∃H',Inv X pins σ H' s/\aO H H'/\(∀b,b∉ts->H' b=H b)/\∀(i:Nat) (t:Addr) (p:Int×V),ts[i]? = some t->ps[i]? = some p->H' t=some (.tup [.int p.1,p.2])
 | [],[],pins,σ,H,s,I,_,_,_,_=>⟨H,I,fun _ _ e=>e,fun _ _=>rfl,fun i t p e=>by simp at e⟩
 | [],_::_,_,_,_,_,_,_,l,_,_=>by cases l
 | _::_,[],_,_,_,_,_,_,l,_,_=>by cases l
 | p::ps,t::ts,pins,σ,H,s,I,nd,l,f,h=>by
  obtain⟨n1,n2⟩:=Vq.mp nd
  obtain⟨its,rv,tu⟩:=h 0 t p rfl rfl
  have ft:=f t UQ
  have I1:Inv X pins σ (upd H t (.tup [.int p.1,p.2])) { s with heap:=s.heap,toks:=s.toks }:=I.adopt (t':=s.toks) (ch:=[t]) (fun b o _ e=>e) (fun b hb=>by rw[UR.mp hb];exact ft) (by simp) ⟨(by show 2<=sizeLine;decide),its,rv,tu⟩
  obtain⟨H',I',s',k',h'⟩:=qT (ps:=ps) (ts:=ts) I1 n2 (by simpa using l) (fun u hu=>by
   obtain⟨f0,f1⟩:=f u (UK _ hu)
   exact⟨by rw[av (show u≠t from fun z=>n1 (z ▸ hu))];exact f0,f1⟩) fun i u q e1 e2=>h (i+1) u q (by simpa using e1) (by simpa using e2)
  refine⟨H',I',fun b o e=>s' b o (by rw[av (ak e ft.1)];exact e),fun b hb=>?_,fun i u q e1 e2=>?_⟩
  ·rw[k' b (fun z=>hb (UK _ z)),av (show b≠t from fun z=>hb (z ▸ UQ))]
  ·cases i with
   | zero =>
    cases e1;cases e2
    exact s' _ _ ao
   | succ i=>exact h' i u q (by simpa using e1) (by simpa using e2)
end
section
variable {σ:St}{H:Hp}{Q:VK}{D:Ends}
def IsT (R t:TS):Prop:=R=t
theorem Fl {t u:TS}(h:∀R,IsT R u->t { D with nx:=R D } σ H):Mu t u D σ H:=h u rfl
theorem Gr {c:TT}{t u:TS}(h:∀R S,IsT R t->IsT S u->c σ H fun b H1=>if b=true then R D σ H1 else S D σ H1):N3 c t u D σ H:=h t u rfl rfl
theorem F2 {wi:TI}{g:TG}{tb:TS}(h:∀R,IsT R tb->wi σ H fun J H1=>∃W:Nat->Nat->St->Hp->Prop,(∃m,W 0 m σ H1)/\∀i m σ H,W i m σ H ->
 (J.stop i H/\D.nx σ H) \/(J.go i H/\∃N:St->Hp->Prop,(∀σ' H',N σ' H'->∃m',m'<m/\W (i+1) m' σ' H')/\∀x H',J.yld i H x H'->g x σ H' fun σ2 H2=>R { D with nx:=N,ct:=N,bk:=D.nx } σ2 H2)):N9 wi g tb D σ H:=h tb rfl
theorem IK {R t:TS}(e:IsT R t) (h:t D σ H):R D σ H:=by cases e;exact h
def Sa (N I:St->Hp->Prop):Prop:=∀σ H,I σ H->N σ H
def Hw (I:St->Hp->Prop) (t:(St->Hp->Prop)->Prop):Prop:=∀N,Sa N I->t N
theorem GK {I:St->Hp->Prop}{t:(St->Hp->Prop)->Prop}(h:∀N,Sa N I->t N):Hw I t:=h
theorem Dc {N I:St->Hp->Prop}(e:Sa N I) (h:I σ H):N σ H:=e σ H h
theorem Rk {t:TS}(R:St->Hp->Prop) (h:Hw R fun N=>t { D with nx:=N } σ H) (k:∀σ' H',R σ' H'->D.nx σ' H'):Mg t D σ H:=⟨R,h _ fun _ _ z=>z,k⟩
theorem gX {lo:Int}{n:Nat}{g:TG}{tb:TS}(Pv:Nat->St->Hp->Prop) (h0:Pv 0 σ H)
  (hs:∀i σ H,i<n->Pv i σ H->Hw (Pv (i+1)) fun N=>g (.int (lo+i)) σ H fun σ2 H2=>tb { D with nx:=N,ct:=N,bk:=D.nx } σ2 H2) (hd:∀σ H,Pv n σ H->D.nx σ H) :
  ∃W:Nat->Nat->St->Hp->Prop,(∃m,W 0 m σ H)/\∀i m σ H,W i m σ H ->
   ((Cg lo n).stop i H/\D.nx σ H) \/((Cg lo n).go i H/\∃N:St->Hp->Prop,(∀σ' H',N σ' H'->∃m',m'<m/\W (i+1) m' σ' H')/\∀x H',(Cg lo n).yld i H x H'->g x σ H' fun σ2 H2=>tb { D with nx:=N,ct:=N,bk:=D.nx } σ2 H2) :=
 A9 Pv h0 (fun i σ H a b=>hs i σ H a b _ fun _ _ z=>z) hd
theorem fX {K:W.Frag}{a:Addr}{xs:List V}{g:TG}{tb:TS}(Pv:Nat->St->Hp->Prop) (h0:Pv 0 σ H) (hl:∀i σ H,i<=xs.length->Pv i σ H->aW K H a xs)
  (hs:∀i x σ H,xs[i]? = some x->Pv i σ H->Hw (Pv (i+1)) fun N=>g x σ H fun σ2 H2=>tb { D with nx:=N,ct:=N,bk:=D.nx } σ2 H2) (hd:∀σ H,Pv xs.length σ H->D.nx σ H) :
  ∃W:Nat->Nat->St->Hp->Prop,(∃m,W 0 m σ H)/\∀i m σ H,W i m σ H ->
   ((Ao K a).stop i H/\D.nx σ H) \/((Ao K a).go i H/\∃N:St->Hp->Prop,(∀σ' H',N σ' H'->∃m',m'<m/\W (i+1) m' σ' H')/\∀x H',(Ao K a).yld i H x H'->g x σ H' fun σ2 H2=>tb { D with nx:=N,ct:=N,bk:=D.nx } σ2 H2) :=
 Et Pv h0 hl (fun i x σ H a b=>hs i x σ H a b _ fun _ _ z=>z) hd
end
section
variable {K:W.Frag}
def Ga (K:W.Frag) (x:Str) (st:Stmt):Prop:=∃f:Addr,W.nsIn K mainGlobals x=some (some (.ref f))/\∃fd:FuncData,fz K x x st f fd
def Te (K:W.Frag) (x y:Str) (st:Stmt):Prop:=∃f:Addr,W.nsIn K mainGlobals x=some (some (.ref f))/\W.nsIn K mainGlobals y=some (some (.ref f))/\∃fd:FuncData,fz K x x st f fd
def Me (K:W.Frag) (C:Addr) (m q:Str) (st:Stmt):Prop:=∃f:Addr,W.findIn K (.ref C) m=some (some (.ref f))/\W.isFn K (.ref f)=true/\W.keepIn K (.ref f)=true/\∃fd:FuncData,fz K m q st f fd
theorem Ga.elim {x:Str}{st:Stmt}{R:Prop}(g:Ga K x st) (k:∀f,W.nsIn K mainGlobals x=some (some (.ref f))->∀fd,fz K x x st f fd->R):R:=by
 obtain⟨f,a,fd,F⟩:=g
 exact k f a fd F
theorem Ga.mk {x:Str}{st:Stmt}{f:Addr}{oc:Value}{od an:Option Addr}{osl:Array (Option Value)}{kV doc pm cdv ct:Value}(a:W.nsIn K mainGlobals x=some (some (.ref f))) (l:K.lookup f=some ⟨oc,od,.func (W.fnOf x x (fN st) (dU st) (aq st) .none kV doc pm an cdv ct),osl⟩) (c:W.codeIn K cdv x=true) (k:W.keepIn K (.ref f)=true):Ga K x st:=⟨f,a,_,DJ l c k⟩
end
mutual
inductive DW (H:Hp):V->PyData->Prop
 | non:DW H .non .none
 | bl (b:Bool):DW H (.bl b) (.bool b)
 | int (i:Int):DW H (.int i) (.int i)
 | str (x:Str):DW H (.str x) (.str x)
 | lst {a:Addr}{xs:List V}{ds:List PyData}:H a=some (.lst xs)->OZ H xs ds->DW H (.ref a) (.list ds)
 | tup {a:Addr}{xs:List V}{ds:List PyData}:H a=some (.tup xs)->OZ H xs ds->DW H (.ref a) (.tuple ds)
 | dic {a:Addr}:H a=some (.dK [])->DW H (.ref a) (.dict [])
inductive OZ (H:Hp):List V->List PyData->Prop
 | nil:OZ H [] []
 | cons {x:V}{d:PyData}{xs:List V}{ds:List PyData}:DW H x d->OZ H xs ds->OZ H (x::xs) (d::ds)
end
mutual
def Ug:PyData->Bool
 | .list _=>false
 | .tuple xs=>Mv xs
 | _=>true
def Mv:List PyData->Bool
 | []=>true
 | x::xs=>Ug x && Mv xs
end
def Sub (M:Addr->Bool) (H H':Hp):Prop:=∀a o,M a=false->H a=some o->H' a=some o
section
variable {K:W.Frag}{σ:St}{H:Hp}{Q:VK}
theorem Bo {vs:List Str}{js:List Nat}{g:TG}{tt:TT}{te:TE}{a:Addr}{xs:List V}(Pv:Nat->St->List V->Hp->Prop) (D:Addr) (h0:Pv 0 (jV vs js σ) [] (upd H D (.lst []))) (hl:∀i σ' ys H',i<=xs.length->Pv i σ' ys H'->aW K H' a xs)
  (hs:∀(i:Nat) x σ' ys H' t,xs[i]? = some x->Pv i σ' ys H'->H' t=none->g (.ref t) σ' (upd H' t (.tup [.int i,x])) fun σ3 H3=>tt σ3 H3 fun b H4=>if b=true then te σ3 H4 fun y H5=>H5 D=some (.lst ys)/\ys.length<sizeLine/\Pv (i+1) σ3 (ys ++ [y]) (upd H5 D (.lst (ys ++ [y]))) else Pv (i+1) σ3 ys H4)
  (hd:∀σ' ys H',Pv xs.length σ' ys H'->Q (.ref D) H'):uC (JP K a) vs js σ g tt te Q D H:=by
 refine⟨fun i m σ' ys H'=>m=xs.length-i/\i<=xs.length/\Pv i σ' ys H',⟨xs.length,by simp,Vj _,h0⟩,?_⟩
 rintro i m σ' ys H' ⟨rfl,hi,p⟩
 have q:=hl i σ' ys H' hi p
 by_cases lt:i<xs.length
 ·refine .inr ⟨⟨xs,xs[i],q,by simp[lt]⟩,Pv (i+1),fun σ2 zs H2 p2=>⟨xs.length-(i+1),by omega,rfl,lt,p2⟩,fun x H2 y=>?_⟩
  obtain⟨t,u,nt,rfl,rfl,y1⟩:=y
  exact hs i u σ' ys _ t (y1 xs q) p nt
 ·obtain rfl:i=xs.length:=by omega
  exact .inl ⟨⟨xs,q,UE _⟩,hd σ' ys H' p⟩
end
section
variable {X:Cx}{pins:List (Addr×Obj)}{σ:St}{H:Hp}{s:Shared}{a:Addr}{kvs:List (Key×V)}{k:Key}{u r:Value}{A:Around}{E:Value->Shared->Prop}
theorem nJ.of_some {o:Option V}{w:Value}(r:nJ o (some w)):∃x,o=some x/\RelV x w:=by
 cases o with
 | none=>exact absurd r.isSome_eq (by simp)
 | some x=>exact⟨x,rfl,r⟩
theorem Jz {v:V}{Q:Value->Shared->Prop}(I:Inv X pins σ H s) (e:H a=some (.dK kvs)) (ry:RelV (kV k) u) (rv:RelV v r) (hz:kvs.length<sizeLine)
  (h1:∀x w' s',dj kvs k=some x->Inv X pins σ H s'->RelV x w'->Q w' s') (h2:dj kvs k=none->∀s',Inv X pins σ (upd H a (.dK (putK kvs k v))) s'->Q r s'):wpAny (model X.prog X.w) A (call (.builtin "dict.setdefault") [.ref a,u,r]) Q E s:=by
 obtain⟨z,hd,vs,rel,dd⟩:=MX I.hok e
 refine call_meetsIn PySem.F.slot_dict_setdefault dd.typeIs PySem.F.entry_dict_setdefault (PySem.F.args_dict_setdefault_3 _ _ _) (kt_meets_setdefault (bO X.prog X.w) a (AI ry) hd r)
  ⟨vs,dd,by rw[<- rel.length];exact z,fun w' hw=>?_,fun hn h' dd' hs=>?_⟩
 ·obtain⟨x,hx,rx⟩:=nJ.of_some (o:=dj kvs k) (w:=w') (by rw[<- hw];exact rel.val k)
  exact h1 x w' _ hx (I.tok _) rx
 ·have hv:dj kvs k=none:=by
   cases c:dj kvs k with
   | none=>rfl
   | some x =>
    have:=(rel.val k).isSome_eq
    rw[c,hn]at this
    cases this
  have hl:(putK kvs k v).length<=sizeLine:=by have:=oG kvs k v;omega
  have he:∃q,h'.get? a=some q:=let ⟨q,_,_,hq,_⟩:=dd';⟨q,hq⟩
  exact h2 hv _ (G6 I (by rw[e];exact True.intro) hs he (Dv hl hd (rel.put k rv) dd'))
def CM (td ty tx:TE):TE:=fun σ H Q=>td σ H fun x H1=>∃a,x = .ref a/\Rh H1 a/\ty σ H1 fun y H2=>tx σ H2 fun z H3=>∃kvs k,H3 a=some (.dK kvs)/\y=kV k/\kvs.length<sizeLine /\
 (∀v,dj kvs k=some v->Q v H3)/\(dj kvs k=none->Q z (upd H3 a (.dK (putK kvs k z))))
theorem CJ {Q:VK}{td ty tx:TE}(h:td σ H fun x H1=>∃a,x = .ref a/\Rh H1 a/\ty σ H1 fun y H2=>tx σ H2 fun z H3=>∃kvs k,H3 a=some (.dK kvs)/\y=kV k/\kvs.length<sizeLine /\
 (∀v,dj kvs k=some v->Q v H3)/\(dj kvs k=none->Q z (upd H3 a (.dK (putK kvs k z))))):CM td ty tx σ H Q:=h
theorem Ej {o e f:Expr}{apos cpos:Pos}{td ty tx:TE}(ho:PE X o td) (he:PE X e ty) (hf:PE X f tx) (m:M2 X o "setdefault" apos e f cpos):PE X (.Call (.Attribute o "setdefault" apos) [e,f] [] cpos) (CM td ty tx):=by
 intro pins s σ H Q I h
 refine wpAny_Call_method m.base m.few m.line PySem.F.plainAttrs_dict PySem.F.slot_dict_setdefault PySem.F.type_dict_setdefault (bX (ho pins s σ H _ I h) fun u s1 ⟨x,H1,I1,rx,a,ex,d,q1⟩=>?_)
 subst ex
 obtain rfl:u=Value.ref a:=rx
 obtain⟨t1,t2,_⟩:=LK I1 d
 refine⟨t1,t2,?_⟩
 rw[m.trees]
 refine Calls.callWith_builtin rfl (Calls.evalArgs_plain (Calls.spliced_cons (bX (he pins s1 σ H1 _ I1 q1) fun iv s2 ⟨y,H2,I2,ry,q2⟩ =>
  Calls.spliced_cons (bX (hf pins s2 σ H2 _ I2 q2) fun fv s3 ⟨z,H3,I3,rz,kvs,k,ea,ey,hz,q3,q4⟩=>Calls.spliced_nil ?_))))
 subst ey
 exact Jz I3 ea ry rz hz (fun x w' s4 hx I4 rx=>⟨x,H3,I4,rx,q3 x hx⟩) fun hn s4 I4=>⟨z,_,I4,rz,q4 hn⟩
end
section
variable {X:Cx}
def JN:List V->Hp->VK->Prop:=fun xs H Q=>∃(v d:Addr) (kvs:List (Int×V)),xs=[.ref v]/\H v=some (DP v d)/\H d=some (.dK (kvs.map LX)) /\
 ∀(ts:List Addr) (l:Addr) (H':Hp),aO H H'->H l=none->H' l=some (.lst (ts.map V.ref))->ts.length=kvs.length->(∀(i:Nat) (t:Addr) (p:Int×V),ts[i]? = some t->kvs[i]? = some p->H' t=some (.tup [.int p.1,p.2]))->Q (.ref l) H'
theorem z4 (hc:X.calm=true):dc X (.type "list") JN:=by
 intro pins s σ H xs us Q I r h
 obtain⟨v,d,kvs,rfl,hv,hd,q⟩:=h
 obtain⟨u,rfl,r1⟩:=vals1 r
 cases (show u=Value.ref v from r1)
 obtain⟨hz,lo,vs,rk,hD⟩ : (kvs.map LX).length<=sizeLine/\(d == sysModules)=false/\∃vs,KV (kvs.map LX) vs/\s.heap.DictOf (bO X.prog X.w) d vs:=I.hok d _ hd
 have hl:(kvs.map LX).length=vs.length:=XR rk
 have view:s.heap.IsItemsView v d:=(I.hok _ _ hv).1
 obtain⟨ep,hA⟩:=hD.dictAt
 refine PySem.W.kdx_call (knd:=bO X.prog X.w) (kvs:=vs) (ep:=ep) (I.ok.hd hc) view hA (by rw[<- hl];exact hz) fun h' tk acc c as kp hS al G hacc=>?_
 rw[Uv]at hl
 have al':as.length=kvs.length:=by omega
 have nda:as.Nodup:=G.rise.imp fun h=>UZ h
 have pr:∀(i:Nat) (a:Addr) (p:Int×V),as[i]? = some a->kvs[i]? = some p->∃its:List Value,Vals [.int p.1,p.2] its/\IsTup h' a its.toArray:=fun i a p e1 e2=>by
  obtain⟨key,k,x,g1,g2,g3⟩:=G.pairs i a e1
  have e3:(kvs.map LX)[i]? = some (LX p):=by rw[UI,e2];rfl
  obtain⟨u,hu,ru⟩:=KV.get rk e3
  rw[hu]at g1
  cases g1
  obtain⟨t,rfl⟩ : ∃t,key=Value.int p.1 t:=Ij g2
  exact⟨[.int p.1 t,_],.cons ⟨t,rfl⟩ (.cons ru .nil),⟨_,g3,rfl,_,rfl⟩⟩
 have I1:Inv X pins σ H { s with heap:=h',toks:=tk }:=I.kept kp
 obtain⟨H1,I2,s2,k2,h2⟩:=qT (ps:=kvs) (ts:=as) I1 nda al' (fun t ht=>I.fpOk (VT (G.above t ht)) (I.hok.fresh (VT (G.above t ht)))) pr
 have nl:H s.heap.objs.size=none:=I.hok.fresh (UE _)
 have nas:s.heap.objs.size∉as:=fun m=>Wh _ (G.above _ m)
 have nl1:H1 s.heap.objs.size=none:=by rw[k2 _ nas];exact nl
 have f0:jA X pins H s.heap.objs.size:=I.fpOk (UE _) nl
 have f1:jA X pins H1 s.heap.objs.size:=⟨nl1,f0.2⟩
 have hz2:(as.map V.ref).length<=sizeLine:=by rw[Uv,al'];rw[Uv]at hz;exact hz
 have I3:Inv X pins σ (upd H1 s.heap.objs.size (.lst (as.map V.ref))) { s with heap:=h',toks:=tk }:=I2.adopt (t':=tk) (ch:=[s.heap.objs.size]) (fun b o _ e=>e) (fun b hb=>by rw[UR.mp hb];exact f1) (by simp) ⟨hz2,acc.toList,c,by rw[hacc];exact nH as,by simpa using hS⟩
 refine⟨.ref s.heap.objs.size,_,I3,rfl,q as _ _ (fun b o e=>?_) nl ao al' fun i t p e1 e2=>?_⟩
 ·rw[av (ak e nl)];exact s2 _ _ e
 ·have ht:=h2 i t p e1 e2
  rw[av (ak ht nl1)];exact ht
end
theorem Bx {X:Cx}{K:W.Frag}{a:Expr}{ta:TE}(hK:X.K=K) (ha:PE X a ta) (he:∀whole,isTrue a X.env whole =(do let v <- whole;standAt a.pos;holding [v] (truthy v))) :
  PT X a (fun σ H Q=>ta σ H fun x H'=>∃k,JJ K x H' k/\Q k H'):=by
 subst hK;exact xW ha he
theorem qB (xs:Array Nat) (j:Nat) (hs:xs.toList.Pairwise (· < ·)):∀(fuel lo hi:Nat),hi-lo<=fuel->lo<=hi->hi<=xs.size->(∀i,i<lo->xs.getD i j<j)->(∀i,hi<=i->i<xs.size->j<=xs.getD i j) ->
  lo<=SetTable.below.go xs j fuel lo hi/\SetTable.below.go xs j fuel lo hi<=xs.size/\(∀i,i<SetTable.below.go xs j fuel lo hi->xs.getD i j<j)/\∀i,SetTable.below.go xs j fuel lo hi<=i->i<xs.size->j<=xs.getD i j
 | 0,lo,hi,hf,hl,hz,h1,h2=>by
  have:hi=lo:=by omega
  subst this
  exact⟨UE _,hz,h1,h2⟩
 | fuel+1,lo,hi,hf,hl,hz,h1,h2=>by
  have mono:∀a b,a<b->b<xs.size->xs.getD a j<xs.getD b j:=fun a b hab hb=>by
   have ha:a<xs.size:=by omega
   have:=VJ.mp hs a b (by simpa using ha) (by simpa using hb) hab
   simpa [Array.getD,ha,hb] using this
  unfold SetTable.below.go
  by_cases hlt:lo<hi
  ·rw[UN hlt]
   dsimp only
   by_cases hm:xs.getD ((lo+hi) / 2) j<j
   ·rw[UN hm]
    obtain⟨a,b,c,d⟩:=qB xs j hs fuel ((lo+hi) / 2+1) hi (by omega) (by omega) hz (fun i hi'=>by
     by_cases e:i =(lo+hi) / 2
     ·subst e;exact hm
     ·have:=mono i ((lo+hi) / 2) (by omega) (by omega)
      omega) h2
    exact⟨by omega,b,c,d⟩
   ·rw[UM hm]
    exact qB xs j hs fuel lo ((lo+hi) / 2) (by omega) (by omega) (by omega) h1 (fun i hi' hz'=>by
     by_cases e:i =(lo+hi) / 2
     ·subst e;omega
     ·have:=mono ((lo+hi) / 2) i (by omega) hz'
      omega)
  ·rw[UM hlt]
   have:hi=lo:=by omega
   subst this
   exact⟨UE _,hz,h1,h2⟩
theorem wH (xs:Array Nat) (j:Nat) (hs:xs.toList.Pairwise (· < ·)):SetTable.below xs j<=xs.size/\(∀i,i<SetTable.below xs j->xs.getD i j<j)/\∀i,SetTable.below xs j<=i->i<xs.size->j<=xs.getD i j:=by
 obtain⟨_,a,b,c⟩:=qB xs j hs xs.size 0 xs.size (by omega) (by omega) (UE _) (fun i hi=>absurd hi (by omega)) (fun i h1 h2=>absurd h1 (by omega))
 exact⟨a,b,c⟩
theorem yq {xs:Array Nat}{j:Nat}(hs:xs.toList.Pairwise (· < ·)) (hn:xs[SetTable.below xs j]? ≠ some j):(SetTable.insertAt xs (SetTable.below xs j) j).toList.Pairwise (· < ·):=by
 obtain⟨h0,h1,h2⟩:=wH xs j hs
 rw[SetTable.toList_insertAt]
 have h3:∀x∈xs.toList.take (SetTable.below xs j),x<j:=fun x hx=>by
  obtain⟨i,hi,rfl⟩:=List.getElem_of_mem hx
  rw[UH]at hi
  have:=h1 i (by omega)
  have hz:i<xs.size:=by simp at hi;omega
  simpa [Array.getD,hz] using this
 have h4:∀x∈xs.toList.drop (SetTable.below xs j),j<x:=fun x hx=>by
  obtain⟨i,hi,rfl⟩:=List.getElem_of_mem hx
  rw[Vt]at hi
  have hz:SetTable.below xs j+i<xs.size:=by simp at hi;omega
  have h5:=h2 (SetTable.below xs j) (UE _) (by omega)
  have h6:xs.getD (SetTable.below xs j) j≠j:=fun e=>hn (by
   have:SetTable.below xs j<xs.size:=by omega
   rw[V4 this]
   simpa [Array.getD,this] using e)
  have h7:j<xs.getD (SetTable.below xs j+i) j:=by
   by_cases e:i=0
   ·subst e;rw[XF];omega
   ·have ha:SetTable.below xs j<xs.size:=by omega
    have:=VJ.mp hs (SetTable.below xs j) (SetTable.below xs j+i) (by simpa using ha) (by simpa using hz) (by omega)
    have hb:xs.getD (SetTable.below xs j) j<xs.getD (SetTable.below xs j+i) j:=by simpa [Array.getD,ha,hz] using this
    omega
  simpa [Array.getD,hz] using h7
 refine VG.mpr ⟨hs.sublist (Xh ..),WO.mpr ⟨h4,hs.sublist (WY ..)⟩,fun a ha b hb=>?_⟩
 rcases U9.mp hb with rfl|hb
 ·exact h3 a ha
 ·exact Nat.lt_trans (h3 a ha) (h4 b hb)
theorem lB (t:SetTable) (f:Nat->Int) (h:Int):∀(fuel:Nat) (p:SetTable.Probe) (j:Nat) (d:Option Nat),(∀x,p.dummy=some x->t.place[SetTable.below t.place x]? ≠ some x)->SetTable.probe.go t f h fuel p=some (.empty j d)->t.place[SetTable.below t.place (d.getD j)]? ≠ some (d.getD j)
 | 0,p,j,d,hp,e=>by unfold SetTable.probe.go at e;cases e
 | fuel+1,p,j,d,hp,e=>by
  unfold SetTable.probe.go at e
  have adv:∀q:SetTable.Probe,(t.advance q).dummy=q.dummy:=fun q=>by
   unfold SetTable.advance
   split <;> rfl
  split at e
  ·rename_i hs
   cases e
   cases hd:p.dummy with
   | some x=>exact hp x hd
   | none =>
    show t.place[SetTable.below t.place p.j]? ≠ some p.j
    intro z
    unfold SetTable.slot at hs
    simp[z]at hs
  ·rename_i hs
   refine lB t f h fuel _ j d (fun x hx=>?_) e
   rw[adv]at hx
   cases hx
   intro z
   unfold SetTable.slot at hs
   simp[z]at hs
  ·split at e
   ·cases e
   ·exact lB t f h fuel _ j d (fun x hx=>hp x (by rw[adv]at hx;exact hx)) e
def jv (b:Bool) (t:SetTable):Prop:=t.place.toList.Pairwise (· < ·)/\t.led=b
theorem jv.stand {b:Bool}{t:SetTable}(h:jv b t) (n:Nat):jv b (t.standIn n):=⟨by
 show(Array.range n).toList.Pairwise (· < ·)
 rw[Array.toList_range]
 exact List.pairwise_lt_range,h.2⟩
theorem jv.off {b:Bool}{t:SetTable}(h:jv b t) (c:Bool):jv b { t with plain:=c }:=⟨h.1,h.2⟩
theorem jv.lay {b:Bool}{t:SetTable}(hr:jv b t) (es:Array (Int×Value)) (h:Int) (x:Value):jv b (layNew t es h x).2.1:=by
 unfold layNew
 split
 ·rename_i slot wd e
  have hf:t.place[SetTable.below t.place slot]? ≠ some slot:=by
   unfold SetTable.freeSlot at e
   split at e
   ·rename_i j d e2
    cases e
    exact lB t _ h _ _ j d (fun x hx=>by cases hx) e2
   ·cases e
  have h1:jv b (t.put slot).1:=⟨yq hr.1 hf,hr.2⟩
  show jv b (SetTable.orStandIn (t.put slot).1 _)
  unfold SetTable.orStandIn
  split
  ·exact h1
  ·exact h1.stand _
 ·exact hr.stand _
theorem jv.again {b:Bool}{t:SetTable}(hr:jv b t) (es:Array (Int×Value)) (n:Nat):jv b (relayAll t es n).2.1:=by
 unfold relayAll
 split
 ·rename_i t' order e
  dsimp only
  split
  ·unfold SetTable.relaid SetTable.laid at e
   cases ho:SetTable.layClean (SetTable.sizeAbove n-1) (es.map (·.1)) with
   | none=>rw[ho]at e;cases e
   | some owner =>
    rw[ho]at e
    cases e
    refine⟨?_,hr.2⟩
    show(List.map (fun x:Nat×Nat=>x.1) (List.filterMap (fun j=>Option.map (fun x=>(j,x)) (owner.getD j none)) (List.range (SetTable.sizeAbove n-1+1)))).Pairwise (· < ·)
    rw[Ve,List.pairwise_filterMap]
    refine List.pairwise_lt_range.imp fun {a b} hab x hx y hy=>?_
    obtain⟨_,_,rfl⟩:=WK.mp hx
    obtain⟨_,_,rfl⟩:=WK.mp hy
    exact hab
  ·exact hr.stand _
 ·exact hr.stand _
def nB (w:World):Bool:=!w.params.followText "set-order"
def vI:Value->Int
 | .int k _=>k
 | _=>0
def EI (es:List (Int×Value)):Prop:=∀e∈es,∃k u,e =(hashInt k,Value.int k u)
def Cm (es:List (Int×Value)):List Int:=es.map fun e=>vI e.2
def iL (w:World) (h:Heap) (a:Addr) (ns:List Int):Prop:=∃o es ep t,h.get? a=some o/\o.ExactSet/\o.data = .set es ep t/\EI es.toList/\(Cm es.toList).Perm ns/\ns.Nodup/\es.size<scanBound/\t.fits es.size=true/\jv (nB w) t
theorem iL.at {w:World}{h h':Heap}{a:Addr}{ns:List Int}(x:iL w h a ns) (e:∀o,h.get? a=some o->h'.get? a=some o):iL w h' a ns:=let ⟨o,es,ep,t,ho,r⟩:=x;⟨o,es,ep,t,e _ ho,r⟩
theorem EI.perm {l l':List (Int×Value)}(h:EI l) (p:List.Perm l' l):EI l':=fun e he=>h e (p.mem_iff.mp he)
theorem EI.push {l:List (Int×Value)}(h:EI l) (k:Int) (u:Tok):EI (l ++ [(hashInt k,.int k u)]):=fun e he=>by
 rcases UG.mp he with he|he
 ·exact h e he
 ·exact⟨k,u,UR.mp he⟩
theorem EI.mem {l:List (Int×Value)}(h:EI l) (k:Int):k∈Cm l ↔ ∃e∈l,Value.isInt k e.2=true:=by
 unfold Cm
 rw[UC]
 constructor
 ·rintro⟨e,he,rfl⟩
  obtain⟨k,u,rfl⟩:=h e he
  exact⟨_,he,by simp[vI,Value.isInt]⟩
 ·rintro⟨e,he,q⟩
  obtain⟨k',u,rfl⟩:=h e he
  refine⟨_,he,?_⟩
  simp[Value.isInt]at q
  simp[vI,q]
section
variable {prog:Program}{w:World}{A:Around}{E:Value->Shared->Prop}{s:Shared}
theorem EI.elems {l:List (Int×Value)}(h:EI l):ElemsOf (intKind prog w) l:=fun e he=>by
 obtain⟨k,u,rfl⟩:=h e he
 exact⟨⟨k,intKind_is _ _ _ _,rfl⟩,rfl⟩
def jL (ns:List Int) (k:Int):List Int:=if k∈ns then ns else ns ++ [k]
theorem iL.stored {h:Heap}{a:Addr}{o:Obj}{es:Array (Int×Value)}{ep:Nat}{t:SetTable}(ho:h.get? a=some o) (hex:o.ExactSet) (hd:o.data = .set es ep t) {es':Array (Int×Value)}{t':SetTable}{ns:List Int}
  (h1:EI es'.toList) (h2:(Cm es'.toList).Perm ns) (h3:ns.Nodup) (hb:es'.size<scanBound) (hf:t'.fits es'.size=true) (hr:jv (nB w) t') :
  (h.update a (Obj.putSet es' t')).get? a=some { o with data:=.set es' (ep+1) t' }/\iL w (h.update a (Obj.putSet es' t')) a ns:=by
 have hg:(h.update a (Obj.putSet es' t')).get? a=some { o with data:=.set es' (ep+1) t' }:=by
  have:=VE (Obj.putSet es' t') ho (by rw[putSet_of es' t' hd];rfl)
  rw[putSet_of es' t' hd]at this;exact this
 exact⟨hg,_,es',ep+1,t',hg,hex,rfl,h1,h2,h3,hb,hf,hr⟩
theorem wD {g:Bool->Sem Unit}(hg:∀(b:Bool) (s₁:Shared) (Q':Unit->Shared->Prop),Q' () s₁->wpAny (model prog w) A (g b) Q' E s₁)
  {a:Addr}{o:Obj}{es:Array (Int×Value)}{ep:Nat}{t:SetTable}(ho:s.heap.get? a=some o) (hex:o.ExactSet) (hd:o.data = .set es ep t)
  {es1:Array (Int×Value)}{t2:SetTable}{ns:List Int}(h1:EI es1.toList) (h2:(Cm es1.toList).Perm ns) (h3:ns.Nodup)
  (hb1:es1.size<scanBound) (hf2:t2.fits es1.size=true) (hr:jv (nB w) t2) {wasDummy:Bool}{R:Option Bool->Shared->Prop}
  (h:∀h',Heap.SameBut a s.heap h'->iL w h' a ns->R (some true) { s with heap:=h' }) :
  wpAny (model prog w) A (do
    storeSet a es1 t2
    if (!wasDummy && t2.tooFull)=true then do
      g (relayAll t2 es1 (SetTable.grown es1.size)).2.2
      storeSet a (relayAll t2 es1 (SetTable.grown es1.size)).1 (relayAll t2 es1 (SetTable.grown es1.size)).2.1
      pure (some true)
     else pure (some true)) R E s:=by
 refine Uw (wpAny_storeSet_of ho hd ?_ (XH hb1))
 obtain⟨ho1,hS1⟩:=iL.stored (w:=w) ho hex hd h1 h2 h3 hb1 hf2 hr
 have hsb1:=V5 s.heap a (Obj.putSet es1 t2)
 split
 ·have hp:=relayAll_perm t2 es1 (SetTable.grown es1.size)
  have hfr:=relayAll_fits t2 es1 (SetTable.grown es1.size)
  have hrr:=hr.again es1 (SetTable.grown es1.size)
  generalize hRl:relayAll t2 es1 (SetTable.grown es1.size)=Rl at hp hfr hrr ⊢
  obtain⟨es2,t3,gave2⟩:=Rl
  dsimp only at hp hfr hrr ⊢
  have hsz:es2.size=es1.size:=by rw[<- VB,hp.length_eq,VB]
  have hb2:es2.size<scanBound:=by rw[hsz];exact hb1
  refine Uw (hg _ _ _ ?_)
  refine Uw (wpAny_storeSet_of ho1 rfl ?_ (XH hb2))
  obtain⟨_,hS2⟩:=iL.stored (w:=w) ho1 hex rfl (h1.perm hp) ((hp.map _).trans h2) h3 hb2 hfr hrr
  exact UD (h _ (hsb1.trans (V5 _ a _)) hS2)
 ·exact UD (h _ hsb1 hS1)
theorem FW {a:Addr}{ns:List Int}{k:Int}{u:Tok}{Q:Bool->Shared->Prop}(hS:iL w s.heap a ns) (hroom:ns.length+1<scanBound)
  (h:∀b h',Heap.SameBut a s.heap h'->iL w h' a (jL ns k)->Q b { s with heap:=h' }) :
  wpAny (model prog w) A (setAddHashed a (.int k u) (hashInt k)) Q E s:=by
 obtain⟨o,es,ep,t,ho,hex,hd,hel,hpm,hnd,hb,hf,hrs⟩:=hS
 have hn:es.size=ns.length:=by rw[<- hpm.length_eq];simp[Cm]
 have hE:ElemsOf (intKind prog w) es.toList:=hel.elems
 have hkey:(intKind prog w).is k (.int k u)=true:=intKind_is _ _ _ _
 unfold setAddHashed setAddHashedIn
 refine VF (Uw (WZ ho hd hf ?_))
 dsimp only
 rw[byScan_of (knd:=intKind prog w) rfl hb hE]
 simp only[↓reduceIte]
 unfold setAddByScan
 refine Uw ?_
 refine Uw (Wi ?_)
 refine Uw (wpAny_setScan_of (knd:=intKind prog w) hkey ho hd hf hE ?_)
 cases hr:List.findIdx? (fun e=>(intKind prog w).is k e.2) es.toList with
 | some j =>
  dsimp only
  obtain⟨hj,hpj,_⟩:=List.findIdx?_eq_some_iff_getElem.mp hr
  have hk:k∈ns:=hpm.mem_iff.mp ((hel.mem k).mpr ⟨es.toList[j],List.getElem_mem hj,hpj⟩)
  refine UD (UD ?_)
  have e:s = { s with heap:=s.heap }:=by cases s;rfl
  rw[e]
  refine h _ s.heap (Heap.SameBut.refl a s.heap) ⟨o,es,ep,t,ho,hex,hd,hel,?_,?_,hb,hf,hrs⟩
  ·unfold jL;rw[UN hk];exact hpm
  ·unfold jL;rw[UN hk];exact hnd
 | none =>
  dsimp only
  have hk:k∉ns:=fun z=>by
   obtain⟨e,he,q⟩:=(hel.mem k).mp (hpm.mem_iff.mpr z)
   have:=List.findIdx?_eq_none_iff.mp hr e he
   rw[show(intKind prog w).is k e.2=true from q]at this
   exact Bool.noConfusion this
  have hgw:∀(b:Bool) {s₁:Shared}{Q':Unit->Shared->Prop},Q' () s₁->wpAny (model prog w) A (match b with|true=>rule "set.scan.the-table-gave-way" | false=>pure ()) Q' E s₁ :=
   fun b s₁ Q' hq=>by cases b <;> first|exact UD hq|exact Wi hq
  have hperm:=layNew_perm t es (hashInt k) (.int k u)
  have hfits:=layNew_fits t es (hashInt k) (.int k u)
  have hrise:=hrs.lay es (hashInt k) (.int k u)
  show wpAny _ _ _ _ _ _
  generalize hL:layNew t es (hashInt k) (.int k u)=L at hperm hfits hrise ⊢
  obtain⟨es1,t1,wasDummy,gave⟩:=L
  dsimp only at hperm hfits hrise ⊢
  rw[Array.toList_push]at hperm
  have h1:EI es1.toList:=(hel.push k u).perm hperm
  have h2:(Cm es1.toList).Perm (jL ns k):=by
   unfold jL;rw[UM hk]
   refine(hperm.map _).trans ?_
   rw[UB]
   exact hpm.append_right _
  have h3:(jL ns k).Nodup:=by
   unfold jL;rw[UM hk]
   exact Vs.mpr ⟨hnd,by simp,fun x hx y hy=>by rw[UR.mp hy];exact fun z=>hk (z ▸ hx)⟩
  have hb1':es1.size<scanBound:=by rw[<- VB,hperm.length_eq,Uz,VB,hn];simpa using hroom
  refine Uw (hgw _ ?_)
  split
  ·refine Uw ?_
   rw[hashByValue_scannable 8 rfl]
   refine UD ?_
   refine wD ?_ ho hex hd h1 h2 h3 hb1' ?_ ?_ ?_
   ·intro b s₁ Q' hq;cases b <;> first|exact UD hq|exact Wi hq
   ·split
    ·exact hfits
    ·exact SetTable.fits_plain_off hfits
   ·split
    ·exact hrise
    ·exact hrise.off _
   ·intro h' hsb hS';dsimp only;exact UD (h _ h' hsb hS')
  ·refine Uw (UD ?_)
   simp only[↓reduceIte]
   refine wD ?_ ho hex hd h1 h2 h3 hb1' hfits hrise ?_
   ·intro b s₁ Q' hq;cases b <;> first|exact UD hq|exact Wi hq
   ·intro h' hsb hS';dsimp only;exact UD (h _ h' hsb hS')
def jk (ns:List Int):List Int:=ns.foldl jL []
theorem uB (ns:List Int) (k:Int):jk (ns ++ [k])=jL (jk ns) k:=by unfold jk;rw[Vu];rfl
theorem Cs (ns:List Int) (k:Int):(jL ns k).length<=ns.length+1:=by unfold jL;split <;> simp
theorem Eh {ns:List Int}{k x:Int}:x∈jL ns k↔x∈ns\/x=k:=by
 unfold jL
 split
 ·exact⟨.inl,fun h=>h.elim id (fun e=>by rw[e];assumption)⟩
 ·simp
theorem A7 {ns:List Int}{i:Nat}(hi:i<ns.length):jk (ns.take (i+1))=jL (jk (ns.take i)) (ns.getD i 0):=by
 rw[List.take_succ_eq_append_getElem hi,uB]
 simp[List.getD,hi]
theorem pG:∀(n:Nat) (ns:List Int),ns.length=n->(jk ns).length<=n
 | 0,ns,e=>by rw[WC.mp e];exact UE _
 | n+1,ns,e=>by
  have hz:ns ≠ []:=fun z=>by rw[z]at e;exact absurd e (by simp)
  obtain⟨ms,k,rfl⟩ : ∃ms k,ns=ms ++ [k]:=⟨ns.dropLast,ns.getLast hz,(Xf hz).symm⟩
  rw[uB]
  have h1:=Cs (jk ms) k
  have h2:=pG n ms (by simpa using e)
  omega
theorem Dj (x:Int):∀(ns:List Int),x∈jk ns↔x∈ns:=fun ns=>by
 have key:∀(l a:List Int),x∈l.foldl jL a↔x∈a\/x∈l:=fun l=>by
  induction l with
  | nil=>intro a;simp
  | cons k l ih=>intro a;rw[List.foldl_cons,ih,Eh,U9,or_assoc]
 unfold jk
 rw[key]
 simp
section
variable {R:Result->Shared->Prop}{I:Addr}{fp wr:List Addr}{G:Array GenState->Array GenState->Prop}{n:Nat}{P:Nat->Value->Prop}{St:Nat->Shared->Prop}
theorem DU (W:WalksS prog w A.in1 I fp wr G n P St) (S:Addr) (hSf:S∉fp) (ns:List Int) (hn:ns.length=n) (hval:∀i v,P i v->∃u,v = .int (ns.getD i 0) u) (hb:n+1<scanBound) :
  ∀(k i:Nat) (s:Shared),n-i=k->i<=n->St i s->iL w s.heap S (jk (ns.take i))->(∀s',Moved (S::wr) G s s'->iL w s'.heap S (jk ns)->R (.ok (.ret .none)) s') ->
   codeAny (model prog w) A (.builtin "set.update.loop" ⟨[.ref S,.ref I],[]⟩) R s:=by
 have hSw:S∉wr:=fun h=>hSf (W.sub _ h)
 have hsub:∀b∈wr,b∈S::wr:=fun b hb=>UK _ hb
 intro k
 induction k with
 | zero =>
  intro i s hk hi hst hS hR
  have hin:i=n:=by omega
  subst hin
  rw[<- hn,Va]at hS
  refine WH PyProof.Rows.F.entry_set_update_loop ?_
  rw[Wf WI _]
  show wpAny _ A.in1 (pyNext (.ref I) >>= _) _ _ s
  refine Uw (W.done s _ _ hst fun s' hm=>?_)
  show wpAny _ A.in1 (ret Value.none) _ _ s'
  exact UD (hR s' (hm.mono hsub) (hS.at fun o e=>hm.heap S _ hSw e))
 | succ k ih =>
  intro i s hk hi hst hS hR
  have hlt:i<n:=by omega
  refine WH PyProof.Rows.F.entry_set_update_loop ?_
  rw[Wf WI _]
  show wpAny _ A.in1 (pyNext (.ref I) >>= _) _ _ s
  refine Uw (W.item i s _ _ hlt hst fun v s' hP hst' hm=>?_)
  obtain⟨u,rfl⟩:=hval i v hP
  have hS':iL w s'.heap S (jk (ns.take i)):=hS.at fun o e=>hm.heap S _ hSw e
  show wpAny _ A.in1 (holding [Value.int (ns.getD i 0) u] (setAdd S (.int (ns.getD i 0) u)) >>= _) _ _ s'
  refine Uw (VF ?_)
  unfold setAdd
  refine VF ?_
  refine Uw ((intKind prog w).pyHash (k:=ns.getD i 0) (intKind_is _ _ _ _) ?_)
  have hroom:(jk (ns.take i)).length+1<scanBound:=by
   have:=pG _ (ns.take i) rfl
   rw[UH]at this
   omega
  refine FW (s:={ s' with toks:=s'.toks+1 }) (k:=ns.getD i 0) hS' hroom fun b h' hsb hS2=>?_
  rw[<- A7 (by omega)]at hS2
  refine UD ⟨WL WI _,ih (i+1) _ (by omega) hlt (W.frame _ s' _ _ hst' (WX _) fun b hb o e=>?_) hS2 fun s'' hm'' hS''=>?_⟩
  ·rw[hsb.2 b (fun h:b=S=>hSf (by rw[<- h];exact hb))];exact e
  ·refine hR s'' (Moved.trans W.gtrans ((hm.mono hsub).then_heap (WX _) fun b o hb e=>?_) hm'') hS''
   rw[hsb.2 b (fun h:b=S=>hb (by rw[h];exact UQ))];exact e
end
def oH (w:World):Obj:={ cls:=.type "set",dict:=none,data:=.set #[] 0 (.fresh 0 0 (nB w)) }
theorem Gp (a:Value) {Q₁:Value->Shared->Prop}(h:Q₁ (.ref s.heap.objs.size) { s with heap:=s.heap.push (oH w) }) :
  codeAny (model prog w) A (.call (.builtin "set.__new__") ⟨[.type "set",a],[]⟩) (wants Q₁ E) s:=by
 refine codeAny_of_tree ?_
 show wpAny _ A.in1 (do checkBuiltinCall "set.__new__" ⟨[.type "set",a],[]⟩;again (.builtin "set.__new__" ⟨[.type "set",a],[]⟩)) _ _ s
 refine Uw (wpAny_of_eq (PySem.F.newCall_set_1 a) (UD ⟨WL PySem.F.plain_set_new _,WH PySem.F.entry_set_new ?_⟩))
 rw[Wf PySem.F.plain_set_new _]
 unfold Builtin.«set.__new__» Builtin.Frozenset.newClass
 have hsub:=sub_set_self
 obtain⟨hp,g,d,tk,os⟩:=s
 dsimp only
 wp_walk
 refine WM (UD ?_)
 dsimp only
 simp only[newObj]
 refine Uw (wpAny_alloc (UD ?_))
 exact UD h
theorem Hv {h:Heap}{a:Addr}(e:h.get? a=some (oH w)):iL w h a []:=⟨_,#[],0,_,e,⟨rfl,rfl,rfl⟩,rfl,fun e he=>by simp at he,.rfl,.nil,by decide,rfl,.nil,rfl⟩
set_option maxHeartbeats 3200000 in
theorem Bm {l:Addr}{items:Array Value}{ns:List Int}{Q:Value->Shared->Prop}(hh:A.handled=none) (hl:s.heap.IsList l items) (hi:IntsAre items.toList ns) (hb:items.size+1<scanBound)
  (h:∀(h':Heap) (tk:Nat),iL w h' s.heap.objs.size (jk ns)->(∀b o,b<s.heap.objs.size->s.heap.get? b=some o->h'.get? b=some o)->Q (.ref s.heap.objs.size) { s with heap:=h',toks:=tk }) :
  wpAny (model prog w) A (call (.type "set") [.ref l]) Q E s:=by
 obtain⟨c,tl,hmro⟩:=PySem.F.called_set.mro
 have hmade:=PySem.F.called_set.made
 have hsub:=PySem.F.called_set.sub
 refine wpAny_call (codeAny_of_tree ?_)
 show wpAny _ _ (callAny (.type "set") _) _ _ _
 refine UD ⟨Code.quiet_builtin _ (by z_go),WH PySem.F.entry_type_call ?_⟩
 rw[Around.under_plain (weight_type_call_type "set" [.ref l] []) rfl]
 have h1:=PySem.F.called_set.notType
 have h2:=PySem.F.called_set.canCreate
 have hct:=PySem.F.typeCall_set_1 (.ref l)
 repeat (any_goals (first|assumption|wp_step))
 refine XD (Gp (.ref l) (E:=E) (Q₁:=fun obj s₁=>obj = .ref s.heap.objs.size/\s₁ = { s with heap:=s.heap.push (oH w) }) ⟨rfl,rfl⟩) fun r s₁ hr=>?_
 cases r with
 | error e=>exact hr
 | ok fl =>
  cases fl with
  | ret obj =>
   obtain⟨rfl,rfl⟩:=hr
   have hS:(s.heap.push (oH w)).get? s.heap.objs.size=some (oH w):=U4 _ rfl
   have hT:Shared.TypeIs { s with heap:=s.heap.push (oH w) } (.ref s.heap.objs.size) "set" :=⟨_,hS,rfl⟩
   have hli:=PySem.F.called_set.init.lookup
   have hbi:=PySem.F.called_set.init.bind (.ref s.heap.objs.size)
   repeat (any_goals (first|assumption|wp_step))
   refine XD (codeAny_call_builtin (R:=wants (fun r s₂=>r = .none/\∃h' tk,s₂ = { s with heap:=h',toks:=tk }/\iL w h' s.heap.objs.size (jk ns) /\
     (∀b o,b<s.heap.objs.size->s.heap.get? b=some o->h'.get? b=some o)) E) PySem.F.called_set.init.plain PySem.F.entry_set_init (check_set_init_1 hT ?_)) fun r₂ s₂ hr₂=>?_
   ·obtain⟨ol,hol,hcl,nl,hdl⟩:=hl
    obtain⟨ocls,odict,odata,oslots⟩:=ol
    simp only at hcl hdl
    subst hcl;subst hdl
    have hol':(s.heap.push (oH w)).get? l=some { cls:=.type "list",dict:=odict,data:=.seq items nl,slots:=oslots }:=UJ _ hol
    have hsls:=PySem.F.sub_list_set
    have hslf:=PySem.F.sub_list_frozenset
    have hne:(Value.type "list" == Value.type "dict")=false:=by decide
    have hl1:(s.heap.push (oH w)).IsList l items:=⟨_,hol',rfl,nl,rfl⟩
    unfold Builtin.«set.__init__» noKeywords Builtin.Frozenset.updateFrom
    generalize hPI:pyIter=PI
    unfold oH at hS hT hol' ⊢
    wp_walk
    subst hPI
    refine wpAny_pyIter_list hl1 ?_
    refine Uw (wpAny_runValue ?_)
    have hlS:l<s.heap.objs.size:=UU hol
    have hh3:A.in1.in1.in1.handled=none:=by simp[hh]
    have hneI:l≠(s.heap.push (oH w)).objs.size:=by rw[Wz];exact UZ (Wj hlS)
    have hSf:s.heap.objs.size ∉ [(s.heap.push (oH w)).objs.size,l]:=by
     rw[Wz];simp only[List.mem_cons,List.mem_singleton,List.not_mem_nil,or_false,not_or]
     exact⟨UZ (Xp _),Xo hlS⟩
    refine DU ((Walks.list hh3 _ l hneI items).toS) s.heap.objs.size hSf ns (by rw[<- hi.length];simp) (fun i v hv=>IntsAre.int_at hi i v (by rw[Wr];exact hv)) hb (items.size-0) 0 _ (by omega) (Vj _)
     ⟨⟨_,U4 _ rfl,rfl,rfl⟩,(hl1.push _)⟩ (Hv (UJ _ hS)) fun s' hm hS'=>?_
    obtain⟨h',g',d',tk',os'⟩:=s'
    have eg:g'=s.gens:=hm.gens
    have ed:d'=s.drawn:=hm.drawn
    have eo:os'=s.os:=hm.os
    subst eg;subst ed;subst eo
    show wpAny _ _ _ _ _ _
    refine UD ?_
    show wpAny _ _ (ret Value.none) _ _ _
    refine UD ⟨rfl,h',tk',rfl,hS',fun b o hb e=>?_⟩
    have hb1:b≠s.heap.objs.size:=UZ hb
    have hb2:b≠(s.heap.push (oH w)).objs.size:=by rw[Wz];exact UZ (Wj hb)
    exact hm.heap b o (by simp only[List.mem_cons,List.mem_singleton,List.not_mem_nil,or_false,not_or];exact⟨hb1,hb2⟩) (UJ _ (UJ _ e))
   ·cases r₂ with
    | error e=>exact hr₂
    | ok fl₂ =>
     cases fl₂ with
     | ret r =>
      obtain⟨rfl,h',tk,rfl,hS',hk'⟩:=hr₂
      repeat (any_goals (first|assumption|wp_step))
      exact h _ _ hS' hk'
     | _=>exact hr₂.elim
  | _=>exact hr.elim
end
theorem bK:Slot "set_iterator" "__next__" "set_iterator.__next__" :=
 .of (owner := "set_iterator") (n := "__next__") (by rw[typeLookup_type,builtinLookup_eq_fast];kernel_rfl) (by z_go) (by z_go) (by z_go)
  (by first|exact .inl (by z_go)|exact .inr (by z_go)) (by rw[isSubtype_type];kernel_rfl)
theorem fR:entryFor table "set_iterator.__next__" = some Builtin.«set_iterator.__next__»:=entryFor_of_tree (by kernel_rfl)
theorem s_:Manifest.owners.lookup (String.ofList ['r','o','t','a','r','e','t','i','_','t','e','s'].reverse)=some Manifest.sig_set_iterator:=by kernel_rfl
theorem gh (a:Value):argsOk "set_iterator.__next__" ⟨[a],[]⟩:=by
 unfold argsOk;rw[signature?_of (id := "set_iterator.__next__") (n:=['_','_','t','x','e','n','_','_']) (o:=['r','o','t','a','r','e','t','i','_','t','e','s']) (by kernel_rfl) s_];kernel_rfl
theorem kC:Slot "set_iterator" "__iter__" "set_iterator.__iter__" :=
 .of (owner := "set_iterator") (n := "__iter__") (by rw[typeLookup_type,builtinLookup_eq_fast];kernel_rfl) (by z_go) (by z_go) (by z_go)
  (by first|exact .inl (by z_go)|exact .inr (by z_go)) (by rw[isSubtype_type];kernel_rfl)
theorem qC:entryFor table "set_iterator.__iter__" = some Builtin.«dict_keyiterator.__iter__» :=
 entryFor_alias (id' := "dict_keyiterator.__iter__") (by kernel_rfl) rfl (by z_go) (by kernel_rfl)
theorem rM (a:Value):argsOk "set_iterator.__iter__" ⟨[a],[]⟩:=by
 unfold argsOk;rw[signature?_of (id := "set_iterator.__iter__") (n:=['_','_','r','e','t','i','_','_']) (o:=['r','o','t','a','r','e','t','i','_','t','e','s']) (by kernel_rfl) s_];kernel_rfl
theorem rJ:entryFor table "set.__iter__" = some Builtin.«frozenset.__iter__» :=
 entryFor_alias (id' := "frozenset.__iter__") (by kernel_rfl) rfl (by z_go) (by kernel_rfl)
def gp (h:Heap) (it:Addr) (f:Value) (i:Nat) (a:Addr) (n ep:Nat):Prop:=∃o,h.get? it=some o/\o.cls = .type "set_iterator"/\o.data = .fields #[f,.int i 0,.ref a,.int n 0,.int ep 0]
theorem gp.at {h h':Heap}{it:Addr}{f:Value}{i:Nat}{a:Addr}{n ep:Nat}(x:gp h it f i a n ep) (e:∀o,h.get? it=some o->h'.get? it=some o):gp h' it f i a n ep:=let ⟨o,ho,r⟩:=x;⟨o,e _ ho,r⟩
section
variable {prog:Program}{w:World}{A:Around}{E:Value->Shared->Prop}{s:Shared}{it a:Addr}{o:Obj}{es:Array (Int×Value)}{ep i:Nat}{t:SetTable}
theorem gp.ty {f:Value}{n:Nat}(x:gp s.heap it f i a n ep):s.TypeIs (.ref it) "set_iterator" := let ⟨o,ho,c,_⟩:=x;⟨o,ho,c⟩
theorem ya {f:Value}{n:Nat}{Q:Value->Shared->Prop}(hit:gp s.heap it f i a n ep) (h:Q (.ref it) s):wpAny (model prog w) A (pyIter (.ref it)) Q E s:=by
 refine wpAny_pyIter_slot hit.ty kC (We kC hit.ty qC ?_ (rM _))
 show wpAny _ _ (ret (.ref it)) _ _ s
 exact UD ⟨_,rfl, "set_iterator",_,hit.ty,bK.lookup,h⟩
theorem DY {slot nx:Nat}{x:Value}{Q:Option Value->Shared->Prop}(hit:gp s.heap it (.int slot 0) i a es.size ep) (ho:s.heap.get? a=some o) (hd:o.data = .set es ep t) (hf:t.fits es.size=true)
  (hN:∀(A':Around) (Q':Option (Value×Nat)->Shared->Prop) (E':Value->Shared->Prop),Q' (some (x,nx)) s->wpAny (model prog w) A' (setNext a slot i ep) Q' E' s)
  (hQ:∀h',gp h' it (.int nx 0) (i+1) a es.size ep->Heap.SameBut it s.heap h'->Q (some x) { s with heap:=h' }):wpAny (model prog w) A (pyNext (.ref it)) Q E s:=by
 obtain⟨oi,hoi,hc,hdi⟩:=id hit
 unfold pyNext
 refine Uw (Xx (W9 (name:=Str.ofString "__next__") hit.ty bK (We bK hit.ty fR ?_ (gh _))))
 unfold Builtin.«set_iterator.__next__»
 refine Uw (m:=slotArgs _ _ _) (UD ?_)
 refine Uw (wpAny_fieldsOf hoi hdi ?_)
 refine Uw (W6 ho hd hf ?_)
 rw[UM (by simp)]
 refine Uw ?_
 simp only[Int.toNat_natCast]
 refine hN _ _ _ ?_
 dsimp only
 refine Uw (Xm hoi hdi (by simp) ?_)
 have h1:=VE (Obj.mapFields (·.setIfInBounds 0 (rawInt nx))) hoi (Xg (Wb hdi _))
 have hd1:=Wb hdi (·.setIfInBounds 0 (rawInt nx))
 refine Uw (Xm h1 hd1 (by simp) ?_)
 refine UD ⟨_,rfl,UD (hQ _ ⟨_,VE _ h1 (Xg (Wb hd1 _)),(Obj.cls_mapFields ..).trans ((Obj.cls_mapFields ..).trans hc),by
  rw[Wb hd1];simp[rawInt]⟩ ((V5 ..).trans (V5 ..)))⟩
theorem wG {f:Value}{n:Nat}{Q:Option Value->Shared->Prop}(hh:A.handled=none) (hx:∀h',Heap.ExtBut it s.heap h'->Q none { s with heap:=h' }) (h1:Heap) (k1:Heap.ExtBut it s.heap h1) :
  wpAny (model prog w) A.in1 (newExc (.type "StopIteration") [] >>= fun e=>raiseNew e) (fun(fin:Fin) s'=>∃r,fin = .done (.ret r)/\wpAny (model prog w) A (pure (some r)) Q E s')
   (fun e s'=>wpAny (model prog w) A (do if <- isInstance e (.type "StopIteration") then pure none else throw e) Q E s') { s with heap:=h1 }:=by
 refine Uw ?_
 simp only[newExc,newTuple]
 refine Uw (WB ?_ (by size_fits))
 refine Uw (m:=firstArgMember _ _) (wpAny_of_eq (a:=Value.none) (by first|rfl|(simp only[firstArgMember];rfl)) ?_)
 refine WB ?_ (by size_fits)
 simp only[raiseNew]
 refine Uw (wpAny_handled ?_)
 rw[show A.in1.handled=none from hh]
 refine Uw (UD (wpAny_throw ?_))
 refine Uw (wpAny_isInstance (T := "StopIteration") (b:=true) ⟨_,U4 _ rfl,rfl⟩ isSubtype_stop ?_)
 exact UD (hx _ ((k1.push _).push _))
theorem FF {slot:Nat}{Q:Option Value->Shared->Prop}(hh:A.handled=none) (hit:gp s.heap it (.int slot 0) i a es.size ep) (ho:s.heap.get? a=some o) (hd:o.data = .set es ep t) (hf:t.fits es.size=true)
  (hN:∀(A':Around) (Q':Option (Value×Nat)->Shared->Prop) (E':Value->Shared->Prop),Q' none s->wpAny (model prog w) A' (setNext a slot i ep) Q' E' s)
  (hQ:∀h',Heap.ExtBut it s.heap h'->Q none { s with heap:=h' }):wpAny (model prog w) A (pyNext (.ref it)) Q E s:=by
 obtain⟨oi,hoi,hc,hdi⟩:=id hit
 unfold pyNext
 refine Uw (Xx (W9 (name:=Str.ofString "__next__") hit.ty bK (We bK hit.ty fR ?_ (gh _))))
 unfold Builtin.«set_iterator.__next__»
 refine Uw (m:=slotArgs _ _ _) (UD ?_)
 refine Uw (wpAny_fieldsOf hoi hdi ?_)
 refine Uw (W6 ho hd hf ?_)
 rw[UM (by simp)]
 refine Uw ?_
 simp only[Int.toNat_natCast]
 refine hN _ _ _ ?_
 dsimp only
 refine Uw (Xm hoi hdi (by simp) ?_)
 exact wG (f:=.none) (n:=0) hh hQ _ (V5 ..).extBut
def Qu (h:Heap) (T:Addr) (ps:List Nat):Prop:=∃o n,h.get? T=some o/\o.data = .seq (ps.map fun p:Nat=>rawInt (p:Int)).toArray n
theorem B3 {T:Addr}{ps:List Nat}{p:Nat}{x:Value}{hv:Int}{Q:Option Value->Shared->Prop}(hit:gp s.heap it (.ref T) i a es.size ep) (ho:s.heap.get? a=some o) (hd:o.data = .set es ep t) (hf:t.fits es.size=true) (hT:Qu s.heap T ps) (hp:ps[i]? = some p) (hx:es[p]? = some (hv,x))
  (hQ:∀h',gp h' it (.ref T) (i+1) a es.size ep->Heap.SameBut it s.heap h'->Q (some x) { s with heap:=h' }):wpAny (model prog w) A (pyNext (.ref it)) Q E s:=by
 obtain⟨oi,hoi,hc,hdi⟩:=id hit
 obtain⟨oT,nT,hoT,hdT⟩:=hT
 unfold pyNext
 refine Uw (Xx (W9 (name:=Str.ofString "__next__") hit.ty bK (We bK hit.ty fR ?_ (gh _))))
 unfold Builtin.«set_iterator.__next__»
 refine Uw (m:=slotArgs _ _ _) (UD ?_)
 refine Uw (wpAny_fieldsOf hoi hdi ?_)
 refine Uw (W6 ho hd hf ?_)
 rw[UM (by simp)]
 refine Uw (wpAny_seqItems hoT hdT ?_)
 have hg:(ps.map fun p:Nat=>rawInt (p:Int)).toArray[i]? = some (.int (p:Int) 0):=by simp[hp,rawInt]
 simp only[Int.toNat_natCast,hg]
 refine Uw ?_
 unfold setNextDrawn
 refine Uw (WZ ho hd hf ?_)
 dsimp only
 rw[UM (by simp)]
 simp only[hx]
 refine UD ?_
 refine Uw (Xm hoi hdi (by simp) ?_)
 refine UD ⟨_,rfl,UD (hQ _ ⟨_,VE _ hoi (Xg (Wb hdi _)),(Obj.cls_mapFields ..).trans hc,by
  rw[Wb hdi];simp[rawInt]⟩ (V5 ..))⟩
theorem Cw {T:Addr}{ps:List Nat}{Q:Option Value->Shared->Prop}(hh:A.handled=none) (hit:gp s.heap it (.ref T) i a es.size ep) (ho:s.heap.get? a=some o) (hd:o.data = .set es ep t) (hf:t.fits es.size=true) (hT:Qu s.heap T ps) (hp:ps.length=i)
  (hQ:∀h',Heap.ExtBut it s.heap h'->Q none { s with heap:=h' }):wpAny (model prog w) A (pyNext (.ref it)) Q E s:=by
 obtain⟨oi,hoi,hc,hdi⟩:=id hit
 obtain⟨oT,nT,hoT,hdT⟩:=hT
 unfold pyNext
 refine Uw (Xx (W9 (name:=Str.ofString "__next__") hit.ty bK (We bK hit.ty fR ?_ (gh _))))
 unfold Builtin.«set_iterator.__next__»
 refine Uw (m:=slotArgs _ _ _) (UD ?_)
 refine Uw (wpAny_fieldsOf hoi hdi ?_)
 refine Uw (W6 ho hd hf ?_)
 rw[UM (by simp)]
 refine Uw (wpAny_seqItems hoT hdT ?_)
 have hg:(ps.map fun p:Nat=>rawInt (p:Int)).toArray[i]? = none:=by simp;omega
 simp only[Int.toNat_natCast,hg]
 refine Uw (Xm hoi hdi (by simp) ?_)
 have h1:=VE (Obj.mapFields (·.setIfInBounds 0 (rawInt 0))) hoi (Xg (Wb hdi _))
 have hd1:=Wb hdi (·.setIfInBounds 0 (rawInt 0))
 refine Uw (Xm h1 hd1 (by simp) ?_)
 exact wG (f:=.none) (n:=0) hh hQ _ ((V5 ..).trans (V5 ..)).extBut
end
theorem qk {α:Type}{l:List α}{i:Nat}(hi:i<l.length):(l[i]::l.eraseIdx i).Perm l:=by
 rw[List.eraseIdx_eq_take_drop_succ]
 have e:l=l.take i++l[i]::l.drop (i+1):=by rw[<- Xr hi,U1]
 refine List.Perm.trans ?_ (List.Perm.of_eq e.symm)
 exact List.perm_middle.symm
theorem A5 {α:Type}(next:Nat->Nat):∀(fuel k:Nat) (left:List α) (out:Array α),left.length=fuel->(pickOrder.go next fuel k left out).toList.Perm (out.toList++left)
 | 0,k,left,out,e=>by
  rw[WC.mp e,U7];unfold pickOrder.go;exact .rfl
 | fuel+1,k,left,out,e=>by
  unfold pickOrder.go
  have hlt:next k%left.length<left.length:=Nat.mod_lt _ (by omega)
  rw[Uy hlt]
  dsimp only
  refine(A5 next fuel (k+1) _ _ (by rw[List.length_eraseIdx_of_lt hlt];omega)).trans ?_
  rw[Array.toList_push,U5]
  exact WT _ (qk hlt)
theorem Bf {α:Type}(next:Nat->Nat) (xs:Array α):(pickOrder next xs).toList.Perm xs.toList:=by
 have:=A5 next xs.size 0 xs.toList #[] (by simp)
 simpa [pickOrder] using this
section
variable {prog:Program}{w:World}{A:Around}{E:Value->Shared->Prop}{s:Shared}
theorem zy {src:Source}{n:Nat}{Q:Nat->Shared->Prop}(hn:n≠0) (h:∀i d,i<n->Q i { s with drawn:=d }):wpAny (model prog w) A (choose src n) Q E s :=
 fun _ _ _=>⟨hn,h _ _ (Nat.mod_lt _ (by omega))⟩
theorem ua {α:Type}:∀(n:Nat) (xs:List α) (s:Shared) (Q:List α->Shared->Prop),xs.length=n->(∀ys d,ys.Perm xs->Q ys { s with drawn:=d })->wpAny (model prog w) A (drawOrder n xs) Q E s
 | 0,xs,s,Q,e,h=>by
  rw[WC.mp e]at h ⊢
  unfold drawOrder
  exact UD (h [] s.drawn .rfl)
 | n+1,[],s,Q,e,h=>by cases e
 | n+1,x::xs,s,Q,e,h=>by
  unfold drawOrder
  refine Uw (zy (by simp) fun i d hi=>?_)
  rw[Uy hi]
  dsimp only
  refine Uw (ua n _ _ _ (by rw[List.length_eraseIdx_of_lt hi];simpa using e) fun ys d' hp=>?_)
  exact UD (h _ d' ((hp.cons _).trans (qk hi)))
def g_ (t:SetTable):Nat->Nat
 | 0=>0
 | i+1=>t.place.getD i 0+1
theorem xT {t:SetTable}(hs:t.place.toList.Pairwise (· < ·)) {i:Nat}(hi:i<=t.place.size):SetTable.below t.place (g_ t i)=i:=by
 obtain⟨h0,h1,h2⟩:=wH t.place (g_ t i) hs
 have mono:∀a b,a<b->b<t.place.size->t.place.getD a 0<t.place.getD b 0:=fun a b hab hb=>by
  have ha:a<t.place.size:=by omega
  have:=VJ.mp hs a b (by simpa using ha) (by simpa using hb) hab
  simpa [Array.getD,ha,hb] using this
 have hg:∀k j,k<t.place.size->t.place.getD k j=t.place.getD k 0:=fun k j hk=>by simp[Array.getD,hk]
 rcases Nat.lt_trichotomy (SetTable.below t.place (g_ t i)) i with h|h|h
 ·exfalso
  have h3:=h2 (SetTable.below t.place (g_ t i)) (UE _) (by omega)
  rw[hg _ _ (by omega)]at h3
  cases i with
  | zero=>omega
  | succ i =>
   by_cases e:SetTable.below t.place (g_ t (i+1))=i
   ·rw[e]at h3
    have:g_ t (i+1)=t.place.getD i 0+1:=rfl
    omega
   ·have:=mono (SetTable.below t.place (g_ t (i+1))) i (by omega) (by omega)
    have h4:g_ t (i+1)=t.place.getD i 0+1:=rfl
    omega
 ·exact h
 ·exfalso
  have h3:=h1 i h
  rw[hg _ _ (by omega)]at h3
  cases i with
  | zero=>exact absurd h3 (by show ¬(_<0);omega)
  | succ i =>
   have h4:g_ t (i+1)=t.place.getD i 0+1:=rfl
   have:=mono i (i+1) (by omega) (by omega)
   omega
variable {a:Addr}{o:Obj}{es:Array (Int×Value)}{ep:Nat}{t:SetTable}
theorem B6 (ho:s.heap.get? a=some o) (hd:o.data = .set es ep t) (hf:t.fits es.size=true) (hb:nB w=false) (slot i:Nat) {Q:Option (Value×Nat)->Shared->Prop}
  (h:Q (((pickOrder (w.params.setOrder a ep) es)[i]?).map fun e=>(e.2,slot)) s):wpAny (model prog w) A (setNext a slot i ep) Q E s:=by
 have hb':w.params.followText "set-order" = true:=by unfold nB at hb;simpa using hb
 unfold setNext setsByText setWalk setsByText
 refine Uw (WZ ho hd hf ?_)
 dsimp only
 refine Uw (Uw (WM (UD ?_)))
 refine VN (fun _=>?_) (fun z=>absurd hb' z)
 rw[UM (by simp)]
 refine Uw (Uw (WZ ho hd hf ?_))
 dsimp only
 refine Uw (Uw (WM (UD ?_)))
 refine VN (fun _=>?_) (fun z=>absurd hb' z)
 exact Uw (WM (UD (UD h)))
theorem DT (ho:s.heap.get? a=some o) (hd:o.data = .set es ep t) (hf:t.fits es.size=true) (hr:jv (nB w) t) (hb:nB w=true) (hn:(!t.plain && decide (es.size > 1))=false) {i:Nat}(hi:i<=es.size) {Q:Option (Value×Nat)->Shared->Prop}
  (h:Q ((es[i]?).map fun e=>(e.2,g_ t (i+1))) s):wpAny (model prog w) A (setNext a (g_ t i) i ep) Q E s:=by
 have hb':w.params.followText "set-order" = false:=by unfold nB at hb;simpa using hb
 have hz:t.place.size=es.size:=by simp[SetTable.fits]at hf;exact hf.1
 have hl:t.led=true:=hr.2.trans hb
 unfold setNext setsByText
 refine Uw (WZ ho hd hf ?_)
 dsimp only
 refine Uw (Uw (WM (UD ?_)))
 refine VN (fun z=>absurd (hb'.symm.trans z) (by decide)) (fun _=>?_)
 refine VN (fun z=>absurd (hn.symm.trans z) (by decide)) (fun _=>?_)
 refine Uw (m:=if (!t.led && !es.isEmpty)=true then unsupported "set:maker-not-led" else pure ()) ?_
 rw[UM (by rw[hl];simp)]
 refine UD (UD ?_)
 rw[xT hr.1 (by omega)]
 by_cases hlt:i<es.size
 ·rw[V4 hlt]at h ⊢
  rw[V4 (show i<t.place.size by omega)]
  have e:g_ t (i+1)=t.place[i]'(by omega)+1:=by simp[g_,Array.getD,show i<t.place.size by omega]
  rw[e]at h
  exact h
 ·rw[Array.getElem?_eq_none (by omega)]at h ⊢
  exact h
theorem C2:∀{l:List (Int×Value)},EI l->IntsAre (l.map (·.2)) (Cm l)
 | [],_=>.nil
 | e::l,h=>by
  obtain⟨k,u,rfl⟩:=h e UQ
  exact .cons k u (C2 fun e he=>h e (UK _ he))
theorem sR (F:Nat->Nat) (vs:List Value) (hl:vs.length=es.size) {I:Addr}(hne:a≠I) (hA:A.handled=none) (hd:o.data = .set es ep t) (hf:t.fits es.size=true)
  (hN:∀(i:Nat) (s:Shared) (A':Around) (Q':Option (Value×Nat)->Shared->Prop) (E':Value->Shared->Prop),i<=es.size->s.heap.get? a=some o->Q' (vs[i]?.map fun v=>(v,F (i+1))) s->wpAny (model prog w) A' (setNext a (F i) i ep) Q' E' s) :
  Walks prog w A I [I,a] [I] vs.length (fun i v=>vs[i]? = some v) (fun i h=>gp h I (.int (F i) 0) i a es.size ep/\h.get? a=some o) where
 sub:=fun b hb=>by simp at hb;simp[hb]
 frame:=fun _ _ _ st hk=>⟨st.1.at fun o e=>hk I (by simp) o e,hk a (by simp) _ st.2⟩
 item:=fun i s Q E hi st hQ=>by
  obtain⟨v,hv⟩ : ∃v,vs[i]? = some v:=⟨vs[i],by simp[hi]⟩
  refine DY (x:=v) (nx:=F (i+1)) st.1 st.2 hd hf (fun A' Q' E' q=>hN i s A' Q' E' (by omega) st.2 (by rw[hv];exact q)) fun h' hit' hs'=>?_
  exact hQ v h' s.toks hv ⟨hit',by rw[hs'.2 a hne];exact st.2⟩ fun b o hb e=>hs'.extBut b o (fun h=>hb (by simp[h])) e
 done:=fun s Q E st hQ=>FF hA st.1 st.2 hd hf (fun A' Q' E' q=>hN vs.length s A' Q' E' (by omega) st.2 (by rw[UT (UE _)];exact q)) fun h' he'=>hQ h' s.toks fun b o hb e=>he' b o (fun h=>hb (by simp[h])) e
 self:=fun _ _ _ _ st hQ=>ya st.1 hQ
theorem xK (ps:List Nat) (hp:ps.Perm (List.range es.size)) {I T:Addr}(hne:a≠I) (hnT:T≠I) (hA:A.handled=none) (hd:o.data = .set es ep t) (hf:t.fits es.size=true) :
  Walks prog w A I [I,a,T] [I] (ps.map fun p=>(es.getD p (0,.none)).2).length (fun i v=>(ps.map fun p=>(es.getD p (0,.none)).2)[i]? = some v) (fun i h=>gp h I (.ref T) i a es.size ep/\h.get? a=some o/\Qu h T ps) where
 sub:=fun b hb=>by simp at hb;simp[hb]
 frame:=fun _ _ _ st hk=>⟨st.1.at fun o e=>hk I (by simp) o e,hk a (by simp) _ st.2.1,let ⟨u,n,e,r⟩:=st.2.2;⟨u,n,hk T (by simp) _ e,r⟩⟩
 item:=fun i s Q E hi st hQ=>by
  rw[Uv]at hi
  have hm:ps[i]<es.size:=W7.mp (hp.mem_iff.mp (List.getElem_mem hi))
  refine B3 (p:=ps[i]) (hv:=es[ps[i]].1) (x:=es[ps[i]].2) st.1 st.2.1 hd hf st.2.2 (Uy hi) (V4 hm) fun h' hit' hs'=>?_
  exact hQ _ h' s.toks (by rw[UI,Uy hi];simp[Array.getD,hm]) ⟨hit',by rw[hs'.2 a hne];exact st.2.1,let ⟨u,n,e,r⟩:=st.2.2;⟨u,n,by rw[hs'.2 T hnT];exact e,r⟩⟩ fun b o hb e=>hs'.extBut b o (fun h=>hb (by simp[h])) e
 done:=fun s Q E st hQ=>Cw hA st.1 st.2.1 hd hf st.2.2 (by rw[Uv]) fun h' he'=>hQ h' s.toks fun b o hb e=>he' b o (fun h=>hb (by simp[h])) e
 self:=fun _ _ _ _ st hQ=>ya st.1 hQ
set_option maxHeartbeats 1600000 in
theorem C5 {ns:List Int}{Q:Value->Shared->Prop}(hS:iL w s.heap a ns)
  (hQ:∀(h':Heap) (d:Drawn) (I:Addr) (fp:List Addr) (vs:List Value) (ms:List Int) (St:Nat->Heap->Prop),(∀A':Around,A'.handled=none->Walks prog w A' I fp [I] vs.length (fun i v=>vs[i]? = some v) St)->IntsAre vs ms->ms.Perm ns->St 0 h'->s.heap.objs.size<=I->(∀b∈fp,b=a\/s.heap.objs.size<=b)->(∀b o,s.heap.get? b=some o->h'.get? b=some o)->Q (.ref I) { s with heap:=h',drawn:=d }) :
  wpAny (model prog w) A (pyIter (.ref a)) Q E s:=by
 obtain⟨o,es,ep,t,ho,hex,hd,hel,hpm,hnd,hb,hf,hr⟩:=hS
 have hT:s.TypeIs (.ref a) "set" :=⟨o,ho,hex.1⟩
 have hlt:a<s.heap.objs.size:=UU ho
 refine wpAny_pyIter_slot hT PySem.F.slot_set_iter (We PySem.F.slot_set_iter hT rJ ?_ (PySem.F.args_set_iter_1 _))
 unfold Builtin.«frozenset.__iter__» Builtin.Frozenset.slot0 Builtin.Frozenset.sizeOf Builtin.Frozenset.addrOf
 refine Uw (Uw (m:=slotArgs _ _ _) (UD (UD ?_)))
 refine Uw (Uw (W6 ho hd hf (UD ?_)))
 refine Uw ?_
 unfold setDrawn setsByText
 refine Uw (WZ ho hd hf ?_)
 refine Uw (Uw (WM (UD (UD ?_))))
 have fin:∀(h1:Heap) (d:Drawn) (f:Value) (fp:List Addr) (vs:List Value) (ms:List Int) (St:Nat->Heap->Prop),(∀b o,s.heap.get? b=some o->h1.get? b=some o)->(∀A':Around,A'.handled=none->Walks prog w A' h1.objs.size fp [h1.objs.size] vs.length (fun i v=>vs[i]? = some v) St)->IntsAre vs ms->ms.Perm ns->(∀h2,(∀b o,h1.get? b=some o->h2.get? b=some o)->gp h2 h1.objs.size f 0 a es.size ep->St 0 h2)->(∀b∈fp,b=a\/s.heap.objs.size<=b)->s.heap.objs.size<=h1.objs.size ->
   wpAny (model prog w) A.in1 (setEpoch a >>= fun e=>newFields "set_iterator" [f,rawInt 0,.ref a,rawInt es.size,rawInt e] >>= fun r=>ret r) (fun fin s'=>∃v,fin=Fin.done (Flow.ret v)/\∃T' r,s'.TypeIs v T'/\typeLookup (.type T') (Str.ofString "__next__")=pure (some r)/\Q v s') E { s with heap:=h1,drawn:=d }:=by
  intro h1 d f fp vs ms St k W hI hP hst hfp hle
  refine Uw (wpAny_setEpoch_of (k _ _ ho) hd hf ?_)
  refine Uw (WB (UD ⟨_,rfl, "set_iterator",_,⟨_,U4 _ rfl,rfl⟩,bK.lookup,?_⟩))
  exact hQ _ d _ fp vs ms St W hI hP (hst _ (fun b o e=>UJ _ e) ⟨_,U4 _ rfl,rfl,by simp[rawInt]⟩) hle hfp fun b o e=>UJ _ (k b o e)
 have hne:a≠s.heap.objs.size:=UZ hlt
 by_cases hB:nB w=true
 ·have hb':w.params.followText "set-order" = false:=by unfold nB at hB;simpa using hB
  by_cases hn:(!t.plain && decide (es.size > 1))=true
  ·refine VN (fun _=>?_) (fun z=>absurd (by rw[show(⟨(model prog w).prog,(model prog w).w.params⟩ : Setting).params.followText "set-order" = false from hb'];exact hn) z)
   refine Uw (ua _ _ _ _ V6 fun ps d hp=>?_)
   refine Uw (WB ?_ ?_)
   ·refine fin _ d (.ref s.heap.objs.size) [(s.heap.push _).objs.size,a,s.heap.objs.size] (ps.map fun p=>(es.getD p (0,.none)).2) (ps.map fun p=>vI (es.getD p (0,.none)).2) _ (fun b o e=>UJ _ e) (fun A' hA=>xK ps hp ?_ ?_ hA hd hf) ?_ ?_ (fun h2 k2 hit=>⟨hit,k2 _ _ (UJ _ ho),_,_,k2 _ _ (U4 _ rfl),rfl⟩) ?_ ?_
    ·rw[Wz];exact UZ (Wj hlt)
    ·rw[Wz];exact UZ (Xp _)
    ·have hm:∀p∈ps,p<es.size:=fun p h=>W7.mp (hp.mem_iff.mp h)
     clear hp fin
     induction ps with
     | nil=>exact .nil
     | cons p ps ih =>
      have h1:=hm p UQ
      obtain⟨k,u,e⟩:=hel es[p] (by rw[<- Array.getElem_toList];exact List.getElem_mem _)
      have e2:es.getD p (0,Value.none) =(hashInt k,.int k u):=by simp[Array.getD,h1,e]
      rw[Vi,Vi,e2]
      exact .cons k u (ih fun q hq=>hm q (UK _ hq))
    ·refine(hp.map _).trans (List.Perm.trans (List.Perm.of_eq ?_) hpm)
     unfold Cm
     apply List.ext_getElem
     ·simp
     ·intro i h1 h2
      have:i<es.size:=by simpa using h1
      simp[Array.getD,this]
    ·intro b hb
     rw[Wz]at hb
     simp at hb
     rcases hb with rfl|rfl|rfl
     ·exact .inr (WX _)
     ·exact .inl rfl
     ·exact .inr (UE _)
    ·rw[Wz];exact WX _
   ·have h1:=XH hb
    have h2:=hp.length_eq
    rw[V6]at h2
    show(List.map (fun i:Nat=>rawInt i) ps).toArray.size<=sizeLine
    rw[Vc,Uv]
    omega
  ·have hn':(!t.plain && decide (es.size > 1))=false:=by simpa using hn
   refine VN (fun z=>absurd (show(_ && _)=true from z) (by rw[show(⟨(model prog w).prog,(model prog w).w.params⟩ : Setting).params.followText "set-order" = false from hb'];exact hn)) (fun _=>?_)
   refine Uw (UD ?_)
   exact fin s.heap s.drawn (.int 0 0) [s.heap.objs.size,a] (es.toList.map (·.2)) (Cm es.toList) (fun i h=>gp h s.heap.objs.size (.int (g_ t i) 0) i a es.size ep/\h.get? a=some o) (fun b o e=>e)
    (fun A' hA=>sR (g_ t) _ (by simp) hne hA hd hf fun i s A' Q' E' hi ho' q=>DT ho' hd hf hr hB hn' hi (by simpa [Function.comp_def] using q)) (C2 hel) hpm (fun h2 k2 hit=>⟨hit,k2 _ _ ho⟩) (fun b hb=>by simp at hb;rcases hb with rfl|rfl <;> simp) (UE _)
 ·have hB':nB w=false:=by simpa using hB
  have hb':w.params.followText "set-order" = true:=by unfold nB at hB';simpa using hB'
  refine VN (fun z=>absurd (show(_ && _)=true from z) (by rw[show(⟨(model prog w).prog,(model prog w).w.params⟩ : Setting).params.followText "set-order" = true from hb'];simp)) (fun _=>?_)
  refine Uw (UD ?_)
  have hpk:=Bf (w.params.setOrder a ep) es
  exact fin s.heap s.drawn (.int 0 0) [s.heap.objs.size,a] ((pickOrder (w.params.setOrder a ep) es).toList.map (·.2)) (Cm (pickOrder (w.params.setOrder a ep) es).toList) (fun i h=>gp h s.heap.objs.size (.int (0:Nat) 0) i a es.size ep/\h.get? a=some o) (fun b o e=>e)
   (fun A' hA=>sR (fun _=>0) _ (by rw[Uv,hpk.length_eq];simp) hne hA hd hf fun i s A' Q' E' hi ho' q=>B6 ho' hd hf hB' 0 i (by simpa [Function.comp_def] using q)) (C2 (hel.perm hpk)) ((hpk.map _).trans hpm) (fun h2 k2 hit=>⟨hit,k2 _ _ ho⟩) (fun b hb=>by simp at hb;rcases hb with rfl|rfl <;> simp) (UE _)
theorem Df {ns:List Int}{Q:Bool->Shared->Prop}(hT:s.TypeIs (.ref a) "set") (h:Q false s):wpAny (model prog w) A (Builtin.List.listLengthHint (.ref a)) Q E s:=by
 unfold Builtin.List.listLengthHint
 refine Uw (wpAny_specialOf hT PySem.F.slot_set_len.lookup ?_)
 generalize hid:("set.__len__" : String)=id0
 wp_delta
 rw[show splitId id0=some ("set", "__len__") from by subst hid;z_go]
 subst hid
 refine Uw (wpAny_isInstance (T := "set") (b:=true) hT (by rw[isSubtype_type];kernel_rfl) ?_)
 refine VN (fun hab=>absurd hab (by decide)) (fun _=>?_)
 refine VN (fun _=>?_) (fun hab=>absurd (by z_go) hab)
 refine Uw (wpAny_typeOf hT ?_)
 exact UD h
theorem yT {R:Result->Shared->Prop}{ns:List Int}(hh:A.handled=none) (hm:iL w s.heap a ns) (S:Addr) (res:Value) (c₀:Nat) (hS:s.heap.get? S=some { cls:=.type "list",data:=.seq #[] c₀ })
  (hR:∀h' tk d (acc':Array Value) c' ms,(∀b o,b≠S->s.heap.get? b=some o->h'.get? b=some o)->h'.get? S=some { cls:=.type "list",dict:=none,data:=.seq acc' c',slots:=#[] }->IntsAre acc'.toList ms->ms.Perm ns->R (.ok (.ret res)) { s with heap:=h',toks:=tk,drawn:=d }) :
  wpAny (model prog w) A.in1 (Builtin.List.listExtendWith (.ref S) (.ref a) res)
   (fun fin s'=>match fin with | .done f=>R (.ok f) s' | .again c'=>c'.quiet=true/\codeAny (model prog w) A c' R s') (fun e s'=>R (.error e) s') s:=by
 obtain⟨o,es,ep,t,ho,hex,hd,hel,hpm,hnd,hb,hf,hr⟩:=id hm
 have hT:s.TypeIs (.ref a) "set" :=⟨o,ho,hex.1⟩
 have hSd:S≠a:=fun e=>by
  obtain⟨o',g',c'⟩:=hT
  rw[<- e,hS]at g'
  cases g'
  exact absurd (show Value.type "list" = Value.type "set" from c') (by decide)
 have hSlt:S<s.heap.objs.size:=UU hS
 unfold Builtin.List.listExtendWith
 refine Uw (wpAny_typeOf hT ?_)
 have h1:Builtin.List.listSameRef (.ref S) (.ref a)=false:=by simp[Builtin.List.listSameRef,hSd]
 have h2:(Value.type "set" == Value.type "list")=false:=by decide
 have h3:(Value.type "set" == Value.type "tuple")=false:=by decide
 simp only[h1,h2,h3,Bool.or_false,Bool.false_eq_true,if_false]
 refine Uw (C5 hm fun h1 d I fp vs ms St W hI hP hst hle hfp hk=>?_)
 have hSI:S≠I:=UZ (Vd hSlt hle)
 have hSf:S∉fp:=fun z=>by
  rcases hfp S z with z|z
  ·exact hSd z
  ·exact absurd hSlt (Nat.not_lt.mpr z)
 have hlen:vs.length<=sizeLine:=by
  rw[hI.length,hP.length_eq,<- hpm.length_eq]
  have:=XH hb
  simpa [Cm] using this
 have key:∀(h:Heap) (c₁ tk:Nat),St 0 h->(∀b o,b≠S->h1.get? b=some o->h.get? b=some o) ->
   h.get? S=some { cls:=.type "list",data:=.seq #[] c₁ }->codeAny (model prog w) A (.builtin "list.extend.loop" ⟨[.ref S,.ref I,res],[]⟩) R { s with heap:=h,toks:=tk,drawn:=d }:=by
  intro h c₁ tk hit hk1 hS₁
  refine codeAny_extend_loopS ((W A.in1 hh).toS) hlen S hSf res vs.length 0 _ #[] c₁ rfl (Vj _) hit hS₁ (ItemsOf.nil _) fun s' acc' c' hm hS' hacc=>?_
  rw[Moved.eq_with hm]
  have hav:acc'.toList=vs:=by
   apply Vz
   intro i
   by_cases hi:i<vs.length
   ·have hz:i<acc'.size:=by rw[hacc.1];exact hi
    have:=hacc.2 i acc'[i] (V4 hz)
    rw[this,Wr,V4 hz]
   ·rw[UT (l:=acc'.toList) (by rw[VB,hacc.1];omega),UT (l:=vs) (by omega)]
  refine hR s'.heap s'.toks d acc' c' ms (fun b o hb e=>hm.heap b o (fun hmem=>?_) (hk1 b o hb (hk b o e))) hS' (by rw[hav];exact hI) hP
  rcases U9.mp hmem with e'|hmem
  ·exact hb e'
  ·have:=UU e
   rw[UR.mp hmem]at this
   exact absurd this (Nat.not_lt.mpr hle)
 have hS₁:=hk _ _ hS
 have hT1:Shared.TypeIs { s with heap:=h1,drawn:=d } (.ref a) "set" :=⟨o,hk _ _ ho,hex.1⟩
 refine Uw (VF (Df (ns:=ns) hT1 ?_))
 refine VN (fun _=>?_) (fun _=>UD ⟨WL PySem.F.plain_extend_loop _,key _ c₀ _ hst (fun b o _ e=>e) hS₁⟩)
 refine Uw (Wi ?_)
 refine Uw ?_
 show wpAny _ _ (updateSeq S (·.push .none) >>= fun _=>updateSeq S (·.pop)) _ _ _
 refine Uw (Xz hS₁ rfl ?_)
 have hS₂:=VE (Obj.mapSeq (·.push Value.none)) hS₁ rfl
 refine Xz (hz:=by seq_fits) hS₂ rfl ?_
 have hS₃:=VE (Obj.mapSeq (·.pop)) hS₂ rfl
 have oth:∀b o,b≠S->h1.get? b=some o->((h1.update S (Obj.mapSeq (·.push Value.none))).update S (Obj.mapSeq (·.pop))).get? b=some o:=fun b o hb e=>(V0 _ _ (Ne.symm hb)).trans ((V0 _ _ (Ne.symm hb)).trans e)
 refine UD ⟨WL PySem.F.plain_extend_loop _,key _ _ _ ((W A.in1 hh).frame 0 _ _ hst fun b hb o e=>oth b o (fun z=>hSf (z ▸ hb)) e) oth hS₃⟩
theorem xC {Q:List Value->Shared->Prop}{ns:List Int}(hh:A.handled=none) (hm:iL w s.heap a ns)
  (hQ:∀h' tk d vs ms,(∀b o,s.heap.get? b=some o->h'.get? b=some o)->IntsAre vs ms->ms.Perm ns->Q vs { s with heap:=h',toks:=tk,drawn:=d }) :
  wpAny (model prog w) A (collect (.ref a)) Q E s:=by
 unfold collect
 refine Uw (wpAny_runValue (WH PySem.F.entry_proto_collect ?_))
 rw[Wf PySem.F.plain_proto_collect _]
 show wpAny _ A.in1 (newList [] >>= fun l=>again (.builtin "list.__iadd__" ⟨[l,.ref a],[]⟩)) _ _ s
 refine Uw (WB ?_)
 refine UD ⟨WL PySem.F.plain_list_iadd _,WH PySem.F.entry_list_iadd ?_⟩
 rw[Wf PySem.F.plain_list_iadd _]
 have hS:(s.heap.push { cls:=.type "list",data:=.seq ([]:List Value).toArray }).get? s.heap.objs.size=some { cls:=.type "list",data:=.seq ([]:List Value).toArray }:=U4 _ rfl
 show wpAny _ A.in1 (Builtin.List.listExtendWith (.ref s.heap.objs.size) (.ref a) (.ref s.heap.objs.size)) _ _ _
 refine yT (ns:=ns) (R:=fun r s'=>match r with
   | .ok (.ret v)=>wpAny (model prog w) A (match v with
     | .ref a=>do
      let o <- load a
      match o.data with
      | .seq xs _=>pure xs.toList
      | _=>unsupported "internal:collect"
     | _=>unsupported "internal:collect") Q E s'
   | .ok _=>False
   | .error e=>E e s') (s:={ s with heap:=s.heap.push { cls:=.type "list",data:=.seq ([]:List Value).toArray } }) hh (hm.at fun o e=>UJ _ e) s.heap.objs.size _ _ hS fun h' tk d acc' c' ms hk hS' hI hP=>?_
 show wpAny _ A (load s.heap.objs.size >>= _) _ _ _
 refine Uw (wpAny_load hS' ?_)
 exact UD (hQ h' tk d acc'.toList ms (fun b o e=>hk b o (UZ (UU e)) (UJ _ e)) hI hP)
theorem vQ {x:Value}{Q:Value->Shared->Prop}{ns:List Int}(hv:ns.length<=63) (P:Heap->Prop)
  (hC:∀(A':Around) (R:List Value->Shared->Prop) (E':Value->Shared->Prop),A'.handled=A.handled->(∀h' tk d vs ms,P h'->IntsAre vs ms->ms.Perm ns->R vs { s with heap:=h',toks:=tk,drawn:=d })->wpAny (model prog w) A' (collect x) R E' s)
  (hQ:∀(h':Heap) (tk:Nat) (d:Drawn) (out:Array Value) (ms:List Int) (hF:Heap) (e:Nat),P h'->IntsAre out.toList ms->ms.Perm ns->ms.Pairwise (· <= ·)->(∀b o,h'.get? b=some o->hF.get? b=some o)->hF.get? h'.objs.size=some (seqObj "list" out e)->Q (.ref h'.objs.size) { s with heap:=hF,toks:=tk,drawn:=d }) :
  wpAny (model prog w) A (call (.builtin "sorted") [x]) Q E s:=by
 have hline:(63:Nat)<sizeLine:=by decide
 refine(Xq kind_sorted plain_sorted entry_sorted (args_sorted1 _) ?_)
 unfold Builtin.«sorted»
 refine(Uw (m:=checkCount "sorted" 1 1 _) (UD ?_))
 refine(Uw (hC _ _ _ rfl fun h' tk d vs ms0 hP hI hp=>?_))
 have hvl:vs.length<=63:=by rw[hI.length,hp.length_eq];exact hv
 refine(Uw (XS ?_ (by first|omega|(simp;omega))))
 have at1:(h'.push (seqObj "list" vs.toArray 0)).get? h'.objs.size=some (seqObj "list" vs.toArray 0):=U4 _ rfl
 show wpAny _ _ _ _ E { s with heap:=h'.push (seqObj "list" vs.toArray 0),toks:=tk,drawn:=d }
 refine Uw (VF (We slot_list_sort ⟨_,at1,rfl⟩ entry_list_sort (tG at1 hI hvl fun out ms c1 c2 c3=>⟨_,rfl,?_⟩) (args_list_sort _)))
 obtain⟨e,he⟩:=sortedHeap_at (vs:=vs) (out:=out) at1
 exact UD ⟨_,rfl,hQ h' tk d out ms _ e hP c1 (c2.trans hp) c3 (fun b o hb=>by
  have hlt:=UU hb
  refine(sortedHeap_old (UZ hlt) (by rw[XO];exact Wj hlt)).trans ?_
  rw[V7 _ _ _ (UZ hlt)];exact hb) he⟩
end
section
variable {X:Cx}
def Lg (w:World) (a:Addr) (ns:List Int):HO:=.ext fun h=>iL w h a ns
def RV (w:World):List V->Hp->VK->Prop:=fun xs H Q=>∃(l:Addr) (ns:List Int),xs=[.ref l]/\H l=some (.lst (ns.map V.int))/\ns.length<=4000/\∀a,H a=none->Q (.ref a) (upd H a (Lg w a (jk ns)))
theorem ES (hc:X.calm=true):dc X (.type "set") (RV X.w):=by
 intro pins s σ H xs us Q I r h
 obtain⟨l,ns,rfl,hl,hn,q⟩:=h
 obtain⟨u,rfl,r1⟩:=vals1 r
 cases (show u=Value.ref l from r1)
 obtain⟨hz,vs,n,rv,ho⟩ : (ns.map V.int).length<=sizeLine/\∃vs n,Vals (ns.map V.int) vs/\s.heap.get? l=some (seqObj "list" vs.toArray n):=I.hok l _ hl
 have hI:IntsAre vs ns:=intsAre_of rv
 refine Bm (items:=vs.toArray) (ns:=ns) (I.ok.hd hc) ⟨_,ho,rfl,n,rfl⟩ (by simpa using hI) (by
  have h1:scanBound=4096:=rfl
  rw[Vc,hI.length];omega) fun h' tk hS hk=>?_
 have hk':∀b o,s.heap.get? b=some o->h'.get? b=some o:=fun b o e=>hk b o (UU e) e
 exact⟨.ref s.heap.objs.size,_,I.laid (t':=tk) (a:=s.heap.objs.size) (o:=Lg X.w s.heap.objs.size (jk ns)) hk' (UE _) ⟨hS,let ⟨o,_,_,_,ho,_⟩:=hS;⟨o,ho⟩,fun h1 h2 x k=>x.at fun o e=>k _ e⟩,rfl,q _ (I.hok.fresh (UE _))⟩
def J0 (w:World):List V->Hp->VK->Prop:=fun xs H Q=>∃(a:Addr) (ns:List Int),xs=[.ref a]/\H a=some (Lg w a ns)/\ns.length<=63 /\
 ∀(ms:List Int) (l:Addr),ms.Perm ns->ms.Pairwise (· <= ·)->H l=none->Q (.ref l) (upd H l (.lst (ms.map V.int)))
theorem y9 (hc:X.calm=true):dc X (.builtin "sorted") (J0 X.w):=by
 intro pins s σ H xs us Q I r h
 obtain⟨a,ns,rfl,hd,hn,q⟩:=h
 obtain⟨u,rfl,r1⟩:=vals1 r
 cases (show u=Value.ref a from r1)
 have hS:iL X.w s.heap a ns:=(I.hok a _ hd).1
 refine vQ (ns:=ns) (by omega) (fun h'=>∀b o,s.heap.get? b=some o->h'.get? b=some o) (fun A' R E' hA hR=>?_) fun h' tk d out ms hF e hP c1 c2 c3 keep he=>?_
 ·exact xC (hA.trans (I.ok.hd hc)) hS fun h' tk d vs ms kp hI hp=>hR h' tk d vs ms kp hI hp
 ·have I1:Inv X pins σ H { s with heap:=h',toks:=tk }:=I.kept hP
  have hz2:(ms.map V.int).length<=sizeLine:=by
   have hline:(63:Nat)<sizeLine:=by decide
   rw[Uv,c2.length_eq];omega
  have I2:=I1.laid (t':=tk) (h':=hF) keep (UE _) (o:=.lst (ms.map V.int)) ⟨hz2,out.toList,e,j_ c1,by simpa using he⟩
  exact⟨.ref h'.objs.size,_,⟨I2.ok,I2.os,I2.bare,I2.base,I2.loc,I2.cell,I2.free,I2.freeC,I2.pin,I2.hok,I2.len⟩,rfl,q ms _ c2 c3 (I1.hok.fresh (UE _))⟩
end
end L2
set_option maxHeartbeats 4000000
local macro_rules | `(tactic| walk_at"rdc")=>`(tactic| first
  | (show (0:Int) < _; omega)
  | (show (0:Int) <= _; omega)
  | (show (0:Int) < _/\_ < 2 ^ 100; omega)
  | (show (-(2 ^ 64) < _/\_ < 2 ^ 64) \/ (-(2 ^ 64) < _/\_ < 2 ^ 64); omega)
  | (show (0:Int) <= _/\_ <= 1000000/\Int.natAbs _ < 2 ^ 64; omega))
local macro_rules | `(tactic| walk_at"rd1")=>`(tactic| first
  | (with_reducible first|refine' L2.GK (fun _ _=>?_)|refine' L2.Fl (fun _ _=>?_)|refine' L2.J1 ?_) | ((with_reducible refine' L2.D5 ?_); (try dsimp only [List.set_cons_zero,List.set_cons_succ])) | (with_reducible first|refine' L2.JW ?_|refine' L2.rd_retN ?_|refine' L2.Gq ?_|refine' L2.HU ?_|refine' L2.Gr (fun _ _ _ _=>?_)|refine' L2.Pu ?_|refine' L2.Oh ?_|refine' L2.RH ?_) | ((with_reducible refine' L2.J3 ?rdv ?_); (case rdv=>rfl))
  | (with_reducible first|refine' L2.MN ?_|refine' L2.QA ?_|refine' L2.Je ?_|refine' L2.Kx ?_|refine' L2.rd_eqB ?_|refine' L2.rd_neB ?_|refine' L2.G7 ?_|refine' L2.NG ?_|refine' L2.K5 ?_|refine' L2.O8 ?_|refine' L2.Ka ?_|refine' L2.rd_andV ?_|refine' L2.rd_orV ?_|refine' L2.rd_notV ?_|refine' L2.EM ?_|refine' L2.Lx ?_|refine' L2.Kv ?_|refine' L2.FG ?_|refine' L2.E2 ?_|refine' L2.Pd ?_|refine' L2.Ju ?_|refine' L2.Jx ?_|refine' L2.Jt ?_|refine' L2.Pq ?_|refine' L2.F3 ?_) | ((with_reducible refine' L2.Py ?_); (try dsimp only [List.set_cons_zero,List.set_cons_succ])) | ((with_reducible refine' L2.Ly ?rdv ?_); (case rdv=>rfl)) | (with_reducible first|refine' L2.rd_izip ?_|refine' L2.rd_ivals ?_|refine' L2.rd_dget2 ?_|refine' L2.rd_dput ?_|refine' L2.F5 ?_|refine' L2.CL ?_|refine' L2.rd_sortK ?_|refine' L2.rd_sortLam ?_|refine' L2.rd_orG ?_|refine' L2.rd_isB ?_|refine' L2.HZ ?_|refine' L2.rd_meth ?_|refine' L2.rd_make ?_|refine' L2.rd_fld ?_|refine' L2.rd_sfld ?_|refine' L2.rd_din ?_|refine' L2.rd_dnin ?_|refine' L2.rd_idict ?_|refine' L2.rd_dpop ?_|refine' L2.NJ ?_|refine' L2.K1 ?_|refine' L2.GU ?_|refine' L2.Pg ?_|refine' L2.Jl ?_|refine' L2.Gi ?_|refine' L2.GL ?_|refine' L2.Cu ?_|refine' L2.Ez ?_|refine' L2.F2 (fun _ _=>?_)|refine' L2.G3 ?_|refine' L2.GH ?_|refine' L2.Dg ?_|refine' L2.GR ?_|refine' L2.JF ?_|refine' L2.rd_itup ?_|refine' L2.rd_istr ?_|refine' L2.rd_leS ?_|refine' L2.rd_inS ?_|refine' L2.Jb ?_|refine' L2.KD ?_|refine' L2.Jc ?_|refine' L2.BF ?_|refine' L2.Jg ?_|refine' L2.CB ?_|refine' L2.Gu ?_)
  | ((with_reducible refine' L2.cJ (L2.aW.of ?rdh) ?rde ?_); (case rdh=>assumption); (case rde=>rfl))
  | ((with_reducible refine' L2.Fx ?rdh ?_); (case rdh=>assumption))
  | ((with_reducible refine' L2.HW ?rdh ?_); (case rdh=>assumption))
  | ((with_reducible refine' L2.vd ?rdh ?rde ?_); (case rdh=>assumption); (case rde=>rfl))
  | ((with_reducible refine' L2.zC (L2.iM.of ?rdh) ?rde ?_); (case rdh=>assumption); (case rde=>rfl))
  | ((with_reducible refine' L2.E3 (L2.aW.of ?rdh) ?_); (case rdh=>assumption))
  | ((with_reducible refine' L2.Rx ?rdc ?_); (case rdc=>walk_at"rdc"))
  | ((with_reducible refine' L2.IK ?rdt ?_); (case rdt=>assumption); (try dsimp only [List.set_cons_zero,List.set_cons_succ]))
  | (dsimp only; (with_reducible refine' L2.IK ?rdt ?_); (case rdt=>assumption); (try dsimp only [List.set_cons_zero,List.set_cons_succ]))
  | ((with_reducible refine' L2.Dc ?rdt ?_); (case rdt=>assumption); (try dsimp only))
  | (dsimp only; (with_reducible refine' L2.Dc ?rdt ?_); (case rdt=>assumption); (try dsimp only)))
local macro_rules | `(tactic| walk_at"rd")=>`(tactic| repeat walk_at"rd1")
local macro_rules | `(tactic| walk_at"lk")=>`(tactic| first | k_is | ((refine' L2.Ga.mk ?lka ?lkl ?lkc ?lkk); (case lka=>k_is); (case lkl=>k_is); (case lkc=>k_is); (case lkk=>k_is)) | ((refine' L2.Te.mk ?lka ?lkb ?lkl ?lkc ?lkk); (case lka=>k_is); (case lkb=>k_is); (case lkl=>k_is); (case lkc=>k_is); (case lkk=>k_is)) | ((refine' L2.Me.mk ?lka ?lkb ?lkl ?lkc ?lkk); (case lka=>k_is); (case lkb=>k_is); (case lkl=>k_is); (case lkc=>k_is); (case lkk=>k_is)))
theorem L2.zs1:1<=PySem.sizeLine:=by decide
theorem L2.zs2:2<=PySem.sizeLine:=by decide
theorem L2.zs3:3<=PySem.sizeLine:=by decide
theorem L2.zs4:4<=PySem.sizeLine:=by decide
local macro_rules|`(tactic|gn_on)=>`(tactic|exact⟨rfl,rfl,rfl,by z_go,rfl,by z_go,by z_go⟩)
local macro_rules|`(tactic|x_go)=>`(tactic|walk_at"rd")
namespace Law
open PySem PySem.Spec PyProof.Rows L2
abbrev L7:List Str:=["_law_hand", "_law_yard", "_law_entries", "_law_way", "_law_key_here", "_law_steps", "_law_stop", "_law_step", "_law_here", "_law_keys_here", "_law_stood", "_law_due", "_law_k", "_law_many"]
abbrev CA:List Str:=["_law_hand", "_law_many"]
abbrev AY:List Str:=["room", "old", "new"]
abbrev OI:List Str:=["_law_yard", "_law_step", "_law_wide", "_law_rooms", "_law_held", "_law_rows", "_law_some", "_law_last"]
abbrev LZ:List Str:=["_law_yard", "_law_way", "_law_key_here", "_law_thing_here"]
abbrev QJ:List Str:=["_law_yard", "_law_key_here", "_law_wide", "_law_rooms", "_law_held", "_law_room_here", "_law_at", "_law_row", "_law_some"]
abbrev QE:List Str:=["_law_script", "_law_place", "_law_hand", "_law_way", "_law_rooms", "_law_wide", "_law_many", "_law_entries"]
abbrev P8:List Str:=["yard", "wide", "rooms", "held", "room", "new", "own", "goes", "stays", "steps"]
abbrev LU:List Str:=["_law_script", "_law_least", "_law_most"]
abbrev PR:List Str:=["_law_wide", "_law_rooms", "_law_entries", "_law_parts", "_law_entry"]
abbrev Ft:List Str:=["yard", "wide", "rooms", "held", "steps", "room", "rows", "further"]
abbrev iX:List Str:=["rooms"]
abbrev LM:List Str:=["_law_yard", "_law_keys_here", "_law_many", "_law_things_here", "_law_here", "_law_step"]
abbrev Ji:List Str:=["_law_hand", "_law_many", "_law_near_here", "_law_keys_here", "_law_k", "_law_key_here"]
abbrev Kw:List Str:=["_law_wide", "_law_rooms", "_law_entries"]
abbrev ze:List Str:=["_law_yard", "_law_keys_here"]
abbrev zQ:List Str:=["things", "wide"]
abbrev JL:List Str:=["_law_hand", "_law_way", "_law_entries", "_law_keys_here", "_law_key_here"]
abbrev Gx:List Str:=["_law_hand", "_law_many", "_law_near_here"]
abbrev Gz:List Str:=["_law_yard", "_law_keys_here", "_law_many"]
abbrev Hz:List Str:=["_law_hand", "_law_rooms", "_law_entries"]
abbrev r_:List Str:=["rows", "key"]
abbrev Hh:List Str:=["_law_hand", "_law_yard", "_law_entries"]
abbrev yi:List Str:=["_law_hand"]
abbrev KQ:List Str:=["_law_script", "_law_place", "_law_cells", "_law_at", "_law_digits"]
abbrev Hy:List Str:=["_law_hand", "_law_way", "_law_entries"]
abbrev JI:List Str:=["yard", "key", "wide", "rooms", "held", "own", "there", "looks"]
abbrev D9:List Str:=["key", "rooms"]
abbrev Dn:List Str:=["held", "room"]
abbrev LC:List Str:=["_law_key_here", "_law_rooms"]
abbrev G8:List Str:=["wide", "rooms", "entries", "things", "held"]
abbrev LH:List Str:=["_law_yard", "_law_key_here"]
abbrev jx:List Str:=["yard"]
abbrev IY:List Str:=["_law_yard", "_law_step"]
abbrev x_:List Str:=["yard", "key"]
abbrev Oo:List Str:=["yard", "wide", "rooms", "held", "kept", "room", "rows", "key", "thing"]
abbrev HP:List Str:=["_law_script", "_law_place"]
abbrev E9:List Str:=["_law_wide", "_law_entries"]
abbrev GN:List Str:=["_law_one_here", "_law_thing_here"]
abbrev zV:List Str:=["_law_yard"]
abbrev Nv:List Str:=["yard", "key", "thing", "wide", "rooms", "held", "room", "own", "new"]
abbrev NL:List Str:=["_law_hand", "_law_many", "_law_keys_here", "_law_k", "_law_key_here"]
abbrev HJ:List Str:=["wide", "rooms", "entries"]
abbrev Pf:List Str:=["yard", "wide", "rooms", "held", "room", "into", "both", "steps"]
abbrev Ou:List Str:=["yard", "key", "wide", "rooms", "held", "room", "own", "others"]
abbrev MM:List Str:=["_law_hand", "_law_many", "_law_got", "_law_k", "_law_number"]
abbrev Oc:List Str:=["_law_key_here", "_law_rooms", "_law_room_here", "_law_grade"]
abbrev GW:List Str:=["yard", "key", "thing"]
abbrev Be:List Str:=["many", "wide"]
abbrev PJ:List Str:=["_law_wide", "_law_entries", "_law_some", "_law_rows"]
abbrev N1:List Str:=["_law_hand", "_law_rooms", "_law_entries", "_law_way"]
abbrev JY:List Str:=["_law_key_here", "_law_thing_here"]
abbrev OD:List Str:=["_law_one_here", "_law_thing_here", "_law_key_here"]
abbrev Bj:List Str:=["key", "many"]
abbrev M9:List Str:=["_law_hand", "_law_many", "_law_number", "_law_k"]
abbrev Lw:List Str:=["keys", "rooms", "told", "key"]
abbrev Bc:List Str:=["rows"]
abbrev KP:List Str:=["_law_hand", "_law_letters"]
abbrev GJ:List Str:=["room", "rooms"]
abbrev HG:List Str:=["keys", "rooms"]
abbrev EK:List Str:=["_law_key_here"]
def top (i:Nat):Stmt:=PySem.Challenge.pw_tailrooms_k48_whole_mended_again_and_aga.main.body.getD i (.Pass ⟨0,0,0,0⟩)
abbrev jY:Stmt:=top 1
abbrev uP:Stmt:=top 2
abbrev Aj:Stmt:=top 3
abbrev lC:Stmt:=top 4
abbrev nM:Stmt:=top 5
abbrev kL:Stmt:=top 6
abbrev jz:Stmt:=top 7
abbrev lJ:Stmt:=top 13
abbrev jt:Stmt:=top 14
abbrev p_:Stmt:=top 15
abbrev mj:Stmt:=top 17
abbrev i7:Stmt:=top 19
abbrev gx:Stmt:=top 20
abbrev nC:Stmt:=top 21
abbrev oZ:Stmt:=top 22
abbrev gc:Stmt:=top 24
abbrev qw:Stmt:=top 25
abbrev kN:Stmt:=top 26
abbrev gr:Stmt:=top 27
abbrev mX:Stmt:=top 28
abbrev nI:Stmt:=top 29
abbrev lF:Stmt:=top 30
abbrev iI:Stmt:=top 31
abbrev qX:Stmt:=top 33
abbrev i8:Stmt:=top 34
abbrev iE:Stmt:=top 36
abbrev jS:Stmt:=top 37
abbrev lK:Stmt:=top 38
abbrev i_:Stmt:=top 39
abbrev lu:Stmt:=top 40
abbrev gJ:Stmt:=top 41
abbrev jX:Stmt:=top 42
abbrev jO:Stmt:=top 43
abbrev ly:Stmt:=top 44
abbrev fP:Stmt:=top 45
abbrev iG:Stmt:=top 46
abbrev fj:Stmt:=top 47
abbrev gz:Stmt:=top 48
abbrev eu:Stmt:=top 49
abbrev jR:Stmt:=top 50
abbrev gi:Stmt:=top 51
abbrev iA:Stmt:=top 52
abbrev iR:Stmt:=top 53
abbrev gm:Stmt:=top 54
abbrev dW:Stmt:=top 55
abbrev eW:Stmt:=top 56
abbrev kG:Stmt:=top 57
theorem vn:aP Bj Bj (aq jY):=by gn_on
theorem CU:aP iX iX (aq uP):=by gn_on
theorem FJ:aP iX iX (aq Aj):=by gn_on
theorem oz:aP ["room", "rooms", "deep"] GJ (aq lC):=by gn_on
theorem zP:aP D9 D9 (aq nM):=by gn_on
theorem wu:aP iX iX (aq kL):=by gn_on
theorem l8:aP ["rooms", "room"] iX (aq jz):=by gn_on
theorem wC:aP Be Be (aq lJ):=by gn_on
theorem xX:aP zQ zQ (aq jt):=by gn_on
theorem kg:aP ["rows", "key", "looks", "row"] r_ (aq p_):=by gn_on
theorem m6:aP Lw HG (aq mj):=by gn_on
theorem kT:aP G8 HJ (aq i7):=by gn_on
theorem rX:aP Bc Bc (aq gx):=by gn_on
theorem An:aP Dn Dn (aq nC):=by gn_on
theorem gT:aP JI x_ (aq oZ):=by gn_on
theorem qz:aP AY AY (aq gc):=by gn_on
theorem tT:aP ["room", "old", "new", "steps"] AY (aq qw):=by gn_on
theorem yg:aP AY AY (aq kN):=by gn_on
theorem bT:aP P8 jx (aq gr):=by gn_on
theorem dz:aP Pf jx (aq mX):=by gn_on
theorem eY:aP Nv GW (aq nI):=by gn_on
theorem dD:aP Ou x_ (aq lF):=by gn_on
theorem uZ:aP r_ r_ (aq iI):=by gn_on
theorem dS:aP Oo jx (aq qX):=by gn_on
theorem cY:aP Ft jx (aq i8):=by gn_on
theorem d9:aP KQ HP (aq iE):=by gn_on
theorem dP:aP MM CA (aq jS):=by gn_on
theorem iC:aP M9 CA (aq lK):=by gn_on
theorem gk:aP ["_law_many", "_law_number", "_law_k"] ["_law_many"] (aq i_):=by gn_on
theorem jW:aP ["_law_hand", "_law_way", "_law_low"] yi (aq lu):=by gn_on
theorem kF:aP KP yi (aq gJ):=by gn_on
theorem fH:aP NL CA (aq jX):=by gn_on
theorem dY:aP Oc LC (aq jO):=by gn_on
theorem ig:aP PJ E9 (aq ly):=by gn_on
theorem iN:aP PR Kw (aq fP):=by gn_on
theorem vz:aP zV zV (aq iG):=by gn_on
theorem bR:aP OI IY (aq fj):=by gn_on
theorem cz:aP QJ LH (aq gz):=by gn_on
theorem jM:aP LZ LZ (aq eu):=by gn_on
theorem gE:aP N1 Hz (aq jR):=by gn_on
theorem fE:aP JL Hy (aq gi):=by gn_on
theorem fO:aP Ji Gx (aq iA):=by gn_on
theorem qt:aP LU LU (aq iR):=by gn_on
theorem qj:aP ze ze (aq gm):=by gn_on
theorem cM:aP LM Gz (aq dW):=by gn_on
theorem bz:aP L7 Hh (aq eW):=by gn_on
theorem jr:aP QE ["_law_script"] (aq kG):=by gn_on
theorem v5 (x0 x1:V):start Bj [x0,x1]=[some x0,some x1]:=rfl
theorem ER (x0:V):start iX [x0]=[some x0]:=rfl
theorem Hq (x0:V):start iX [x0]=[some x0]:=rfl
theorem wo (x0 x1:V):start ["room", "rooms", "deep"] [x0,x1]=[some x0,some x1,none]:=rfl
theorem yX (x0 x1:V):start D9 [x0,x1]=[some x0,some x1]:=rfl
theorem yH (x0:V):start iX [x0]=[some x0]:=rfl
theorem vJ (x0:V):start ["rooms", "room"] [x0]=[some x0,none]:=rfl
theorem xP (x0 x1:V):start Be [x0,x1]=[some x0,some x1]:=rfl
theorem w4 (x0 x1:V):start zQ [x0,x1]=[some x0,some x1]:=rfl
theorem Ci (x0 x1:V):start ["rows", "key", "looks", "row"] [x0,x1]=[some x0,some x1,none,none]:=rfl
theorem Bg (x0 x1:V):start Lw [x0,x1]=[some x0,some x1,none,none]:=rfl
theorem zb (x0 x1 x2:V):start G8 [x0,x1,x2]=[some x0,some x1,some x2,none,none]:=rfl
theorem rS (x0:V):start Bc [x0]=[some x0]:=rfl
theorem y_ (x0 x1:V):start Dn [x0,x1]=[some x0,some x1]:=rfl
theorem DR (x0 x1:V):start JI [x0,x1]=[some x0,some x1,none,none,none,none,none,none]:=rfl
theorem qY (x0 x1 x2:V):start AY [x0,x1,x2]=[some x0,some x1,some x2]:=rfl
theorem Bw (x0 x1 x2:V):start ["room", "old", "new", "steps"] [x0,x1,x2]=[some x0,some x1,some x2,none]:=rfl
theorem wj (x0 x1 x2:V):start AY [x0,x1,x2]=[some x0,some x1,some x2]:=rfl
theorem uX (x0:V):start P8 [x0]=[some x0,none,none,none,none,none,none,none,none,none]:=rfl
theorem zM (x0:V):start Pf [x0]=[some x0,none,none,none,none,none,none,none]:=rfl
theorem zX (x0 x1 x2:V):start Nv [x0,x1,x2]=[some x0,some x1,some x2,none,none,none,none,none,none]:=rfl
theorem xD (x0 x1:V):start Ou [x0,x1]=[some x0,some x1,none,none,none,none,none,none]:=rfl
theorem vO (x0 x1:V):start r_ [x0,x1]=[some x0,some x1]:=rfl
theorem BG (x0:V):start Oo [x0]=[some x0,none,none,none,none,none,none,none,none]:=rfl
theorem Ak (x0:V):start Ft [x0]=[some x0,none,none,none,none,none,none,none]:=rfl
theorem vY (x0 x1:V):start KQ [x0,x1]=[some x0,some x1,none,none,none]:=rfl
theorem uV (x0 x1:V):start MM [x0,x1]=[some x0,some x1,none,none,none]:=rfl
theorem xJ (x0 x1:V):start M9 [x0,x1]=[some x0,some x1,none,none]:=rfl
theorem sG (x0:V):start ["_law_many", "_law_number", "_law_k"] [x0]=[some x0,none,none]:=rfl
theorem wm (x0:V):start ["_law_hand", "_law_way", "_law_low"] [x0]=[some x0,none,none]:=rfl
theorem sO (x0:V):start KP [x0]=[some x0,none]:=rfl
theorem u_ (x0 x1:V):start NL [x0,x1]=[some x0,some x1,none,none,none]:=rfl
theorem we (x0 x1:V):start Oc [x0,x1]=[some x0,some x1,none,none]:=rfl
theorem xU (x0 x1:V):start PJ [x0,x1]=[some x0,some x1,none,none]:=rfl
theorem rQ (x0 x1 x2:V):start PR [x0,x1,x2]=[some x0,some x1,some x2,none,none]:=rfl
theorem uJ (x0:V):start zV [x0]=[some x0]:=rfl
theorem vC (x0 x1:V):start OI [x0,x1]=[some x0,some x1,none,none,none,none,none,none]:=rfl
theorem sH (x0 x1:V):start QJ [x0,x1]=[some x0,some x1,none,none,none,none,none,none,none]:=rfl
theorem jC (x0 x1 x2 x3:V):start LZ [x0,x1,x2,x3]=[some x0,some x1,some x2,some x3]:=rfl
theorem vG (x0 x1 x2:V):start N1 [x0,x1,x2]=[some x0,some x1,some x2,none]:=rfl
theorem pL (x0 x1 x2:V):start JL [x0,x1,x2]=[some x0,some x1,some x2,none,none]:=rfl
theorem uK (x0 x1 x2:V):start Ji [x0,x1,x2]=[some x0,some x1,some x2,none,none,none]:=rfl
theorem qS (x0 x1 x2:V):start LU [x0,x1,x2]=[some x0,some x1,some x2]:=rfl
theorem qR (x0 x1:V):start ze [x0,x1]=[some x0,some x1]:=rfl
theorem lW (x0 x1 x2:V):start LM [x0,x1,x2]=[some x0,some x1,some x2,none,none,none]:=rfl
theorem yj (x0 x1 x2:V):start L7 [x0,x1,x2]=[some x0,some x1,some x2,none,none,none,none,none,none,none,none,none,none,none]:=rfl
theorem KC (x0:V):start QE [x0]=[some x0,none,none,none,none,none,none,none]:=rfl
structure Bl (mg:Str->Option Value):Prop where
 max:mg "max" = none
 range:mg "range" = none
 len:mg "len" = none
 sorted:mg "sorted" = none
 dict:mg "dict" = none
 list:mg "list" = none
 enumerate:mg "enumerate" = none
 abs:mg "abs" = none
 min:mg "min" = none
 int:mg "int" = none
 set:mg "set" = none
structure Hand (H:Hp) (p:Addr) (N:Nat):Prop where
 ex:∃(l:Addr) (d c:Int) (ns:List Int),H p=some (.lst [.int d,.int c,.ref l])/\H l=some (.lst (ns.map V.int))/\0<=c/\c<=N/\ns ≠ []
theorem Hand.mono {H:Hp}{p:Addr}{N M:Nat}(h:Hand H p N) (hm:N<=M):Hand H p M:=by
 obtain⟨l,d,c,ns,h1,h2,h3,h4,h5⟩:=h.ex
 exact⟨l,d,c,ns,h1,h2,h3,by omega,h5⟩
def cellsOf (H:Hp) (p:Addr):Option Addr:=match H p with
 | some (.lst [_,_,.ref l])=>some l
 | _=>none
theorem i6 {H:Hp}{p l:Addr}{a b:V}(h:H p=some (.lst [a,b,.ref l])):cellsOf H p=some l:=by unfold cellsOf;rw[h]
def Kp (H H':Hp) (p:Addr):Prop:=(∀b o,H b=some o->b≠p->H' b=some o)/\cellsOf H' p=cellsOf H p
theorem Kp.refl (H:Hp) (p:Addr):Kp H H p:=⟨fun _ _ h _=>h,rfl⟩
theorem Kp.trans {H H1 H2:Hp}{p:Addr}(a:Kp H H1 p) (b:Kp H1 H2 p):Kp H H2 p:=⟨fun c o h n=>b.1 c o (a.1 c o h n) n,b.2.trans a.2⟩
theorem Kp.hand {H:Hp}{p l:Addr}{a b a' b':V}(h:H p=some (.lst [a,b,.ref l])):Kp H (upd H p (.lst [a',b',.ref l])) p :=
 ⟨fun b u h n=>by rw[av n];exact h,by rw[i6 ao,i6 h]⟩
theorem Kp.of {H H':Hp}{p:Addr}{N:Nat}(h:aO H H') (hh:Hand H p N):Kp H H' p:=by
 obtain⟨l,d,c,ns,h1,_⟩:=hh.ex
 exact⟨fun b o q _=>h b o q,by rw[i6 h1,i6 (h _ _ h1)]⟩
theorem Kp.new {H H1 H2:Hp}{p:Addr}(a:aO H H1) (n:H p=none) (b:Kp H1 H2 p):aO H H2:=fun c o h=>b.1 c o (a c o h) (ak h n)
theorem Kp.free {H H':Hp}{p l:Addr}(k:Kp H H' p) (n:H' l=none) (h:l≠p):H l=none:=by
 cases e:H l with
 | none=>rfl
 | some o=>rw[k.1 _ _ e h]at n;cases n
theorem Hand.upd {H:Hp}{p c:Addr}{N:Nat}{o:HO}(h:Hand H p N) (n:c≠p) (nl:cellsOf H p≠some c):Hand (L2.upd H c o) p N:=by
 obtain⟨l,d,k,ns,h1,h2,r⟩:=h.ex
 have ne:l≠c:=fun z=>nl (by rw[i6 h1,z])
 exact⟨l,d,k,ns,by rw[av n.symm];exact h1,by rw[av ne];exact h2,r⟩
theorem BZ {H:Hp}{p c:Addr}{N:Nat}(h:Hand H p N) (n:H c=none):cellsOf H p≠some c:=by
 obtain⟨l,d,k,ns,h1,h2,r⟩:=h.ex
 rw[i6 h1]
 intro z
 exact ak h2 n (US z)
theorem A6 {H:Hp}{p c:Addr}{o:HO}(n:c≠p):cellsOf (L2.upd H c o) p=cellsOf H p:=by unfold cellsOf;rw[av n.symm]
theorem Hand.same {H H':Hp}{p:Addr}{N:Nat}(h:Hand H p N) (s:aO H H'):Hand H' p N:=by
 obtain⟨l,d,c,ns,h1,h2,r⟩:=h.ex
 exact⟨l,d,c,ns,s _ _ h1,s _ _ h2,r⟩
theorem Im {ns:List Int}(h:ns ≠ []) (k:Int):∃v,rA (ns.map V.int) (k%((ns.map V.int).length:Int))=some (.int v):=by
 have hl:0<ns.length:=W5.mpr h
 rw[Uv]
 have h0:0<=k%(ns.length:Int):=VL _ (by omega)
 have h1:k%(ns.length:Int)<ns.length:=VA _ (by omega)
 have ek:k%(ns.length:Int) =(((k%(ns.length:Int)).toNat:Nat):Int):=by omega
 have hk:(k%(ns.length:Int)).toNat<ns.length:=by omega
 obtain⟨j,hj⟩ : ∃j:Nat,k%(ns.length:Int) =(j:Int):=⟨_,ek⟩
 have hk2:j<ns.length:=by omega
 refine⟨ns[j],?_⟩
 rw[hj]
 exact jf (by rw[UI,Uy hk2] <;> rfl)
theorem F1 {H:Hp}{p l:Addr}{d c:Int}{ns:List Int}(hp:H p=some (.lst [.int d,.int c,.ref l])) (hl:H l=some (.lst (ns.map V.int))):l≠p:=by
 refine oj hl hp fun z=>?_
 injection z with z
 have q:=Vk (fun x=>x[2]?) z
 rw[UI]at q
 cases e:ns[2]? with
 | none=>rw[e]at q;cases q
 | some v=>rw[e]at q;cases q
theorem len_pos {ns:List Int}(h:ns ≠ []):(0:Int) <((ns.map V.int).length:Int):=by
 rw[Uv]
 have:=W5.mpr h
 omega
theorem gK (a:Nat):(2:Int)^a =((2^a:Nat):Int):=by
 induction a with
 | zero=>rfl
 | succ a ih=>rw[VW,Nat.pow_succ,ih];push_cast;rfl
theorem lS {a b:Nat}(h:a<=b):(2:Int)^a<=2^b:=by
 rw[gK,gK]
 exact Int.ofNat_le.mpr (Nat.pow_le_pow_right (by decide) h)
theorem fM (a:Nat):(0:Int)<2^a:=by
 rw[gK]
 have:=Nat.two_pow_pos a
 omega
theorem bg {H1 H2:Hp}{l:Addr}{o:HO}(n:H1 l=none) (e:L2.upd H1 l o=H2):H2 l=some o/\aO H1 H2:=by
 subst e;exact⟨ao,aI n _⟩
theorem Hand.ne {H:Hp}{p l:Addr}{N:Nat}(hh:Hand H p N) (n:H l=none):l≠p:=by
 obtain⟨l1,d,c,ns,h1,_⟩:=hh.ex
 exact(ak h1 n).symm
structure CK (H0:Hp) (p D:Addr) (N:Nat) (ys:List V) (H':Hp):Prop where
 hh:Hand H' p N
 lat:H' D=some (.lst ys)
 kp:Kp H0 H' p
 n0:H0 D=none
 np:D≠p
 nc:cellsOf H0 p≠some D
theorem CK.start {H0:Hp}{p D:Addr}{N:Nat}(hh:Hand H0 p N) (n:H0 D=none) {ys:List V}:CK H0 p D N ys (L2.upd H0 D (.lst ys)) where
 hh:=hh.same (aI n _)
 lat:=ao
 kp:=Kp.of (aI n _) hh
 n0:=n
 np:=by
  obtain⟨l1,d,c,ns,h1,_⟩:=hh.ex
  exact(ak h1 n).symm
 nc:=BZ hh n
theorem CK.draw {H0 H' H2:Hp}{p D:Addr}{N M:Nat}{ys:List V}(c:CK H0 p D N ys H') (k:Kp H' H2 p) (hh:Hand H2 p M):CK H0 p D M ys H2 :=
 ⟨hh,k.1 _ _ c.lat c.np,c.kp.trans k,c.n0,c.np,c.nc⟩
theorem CK.push {H0 H':Hp}{p D:Addr}{N:Nat}{ys zs:List V}(c:CK H0 p D N ys H'):CK H0 p D N zs (L2.upd H' D (.lst zs)) where
 hh:=c.hh.upd c.np (by rw[c.kp.2];exact c.nc)
 lat:=ao
 kp:=⟨fun b o h n=>by rw[av (ak h c.n0)];exact c.kp.1 _ _ h n,by rw[A6 c.np];exact c.kp.2⟩
 n0:=c.n0
 np:=c.np
 nc:=c.nc
theorem CK.new {H0 H' H2:Hp}{p D l:Addr}{N:Nat}{ys:List V}{o:HO}(c:CK H0 p D N ys H') (n:H' l=none) (e:L2.upd H' l o=H2):CK H0 p D N ys H2/\H2 l=some o/\l≠p/\l≠D:=by
 subst e
 exact⟨⟨c.hh.same (aI n _),aI n _ _ _ c.lat,c.kp.trans (Kp.of (aI n _) c.hh),c.n0,c.np,c.nc⟩,ao,c.hh.ne n,(ak c.lat n).symm⟩
def vm (K:W.Frag):Sp:=fun vs H Q _=>∃(p:Addr) (N:Nat) (n:Int),vs=[.ref p,.int n]/\Hand H p N/\N<2^60/\0<n/\n<2^100 /\
 ∀(r:Int) (H':Hp),0<=r->r<n->Hand H' p (N+1)->Kp H H' p->Q (.int r) H'
def oh (K:W.Frag):Sp:=fun vs H Q _=>∃(p:Addr) (N:Nat) (n:Int),vs=[.ref p,.int n]/\Hand H p N/\N+10<2^60/\0<n/\n<2^100 /\
 ∀(r:Int) (H':Hp),0<=r->r<n->Hand H' p (N+7)->Kp H H' p->Q (.int r) H'
def kH (K:W.Frag):Sp:=fun vs H Q _=>∃(m:Nat),vs=[.int m]/\m<=1000/\Q (.int (2^m)) H
def mH (K:W.Frag):Sp:=fun vs H Q _=>∃(a:Addr) (ns:List Int) (pl:Int),vs=[.ref a,.int pl]/\aW K H a (ns.map V.int)/\ns.length<=63/\0<=pl/\pl<=1000 /\
 ∀(p:Addr) (H':Hp),H p=none->aO H H'->Hand H' p 1100000->Q (.ref p) H'
def wX (K:W.Frag):Sp:=fun vs H Q _=>∃(p:Addr) (N:Nat),vs=[.ref p]/\Hand H p N/\N+30<2^60 /\
 ∀(r:Int) (H':Hp),0<=r->r<2^60->Hand H' p (N+20)->Kp H H' p->Q (.int r) H'
def vv (K:W.Frag):Sp:=fun vs H Q _=>∃(a:Addr) (ns:List Int),vs=[.ref a]/\aW K H a (ns.map V.int)/\ns.length<=63/\∀H',Q (.bl true) H'
theorem sub_len:∀{L K:List Int},L.Nodup->(∀x∈L,x∈K)->L.length<=K.length
 | [],_,_,_=>Vj _
 | a::L,K,hn,hs=>by
  rw[Vq]at hn
  have ha:=hs a UQ
  have ih:=sub_len (L:=L) (K:=K.erase a) hn.2 fun x hx=>by
   have:x≠a:=fun e=>hn.1 (e ▸ hx)
   exact(List.mem_erase_of_ne this).mpr (hs x (UK _ hx))
  rw[List.length_erase_of_mem ha]at ih
  have:=List.length_pos_of_mem ha
  rw[VH];omega
theorem wF {ks:List Int}(hl:ks.length<1000) (v:Int):∃m:Nat,(v+m)%1152921504606846976∉ks:=by
 by_cases c:∃m:Nat,(v+m)%1152921504606846976∉ks
 ·exact c
 ·have all:∀m:Nat,(v+m)%1152921504606846976∈ks:=fun m=>Classical.not_not.mp fun z=>c ⟨m,z⟩
  have hn:((List.range (ks.length+1)).map fun(j:Nat)=>(v+j)%1152921504606846976).Nodup:=by
   rw[VO,Ve]
   refine List.Pairwise.imp_of_mem ?_ List.nodup_range
   intro a b ha hb hab e
   have h1:=W7.mp ha
   have h2:=W7.mp hb
   omega
  have:=sub_len hn (fun x hx=>by
   obtain⟨j,_,rfl⟩:=UC.mp hx
   exact all j)
  rw[Uv,V6]at this
  omega
def mO (K:W.Frag):Sp:=fun vs H Q _=>∃(p:Addr) (N:Nat) (n:Int),vs=[.ref p,.int n]/\Hand H p N/\N+5000<2^60/\0<=n/\n<=125 /\
 ∀(l:Addr) (ns:List Int) (H':Hp),H l=none->H' l=some (.lst (ns.map V.int))->ns.Nodup->(ns.length:Int)=n->(∀k∈ns,0<=k/\k<1152921504606846976)->Hand H' p (N+3000)->Kp H H' p->Q (.ref l) H'
def lg (R:Int):Nat:=R.toNat.log2
theorem Au {R:Int}(h:1<=R):(2:Int)^lg R<=R:=by
 have h1:R.toNat≠0:=by omega
 have h2:=Nat.log2_self_le h1
 rw[gK]
 unfold lg
 omega
theorem Em {R:Int}(h:1<=R):R <(2:Int)^(lg R+1):=by
 have h1:R.toNat≠0:=by omega
 have h2:=(Nat.log2_lt h1).mp (Xp R.toNat.log2)
 rw[gK]
 unfold lg
 have h3:R.toNat<2^(R.toNat.log2+1):=h2
 omega
theorem Az {R:Int}(h:1<=R) (h2:R<=2^60):lg R<=60:=by
 have h1:R.toNat≠0:=by omega
 have h3:R.toNat.log2<61:=(Nat.log2_lt h1).mpr (by omega)
 unfold lg
 omega
theorem IG {R:Int}{m:Nat}(h1:(2:Int)^m<=R) (h2:R <(2:Int)^(m+1)):lg R=m:=by
 have p:=fM m
 have h0:R.toNat≠0:=by omega
 rw[gK]at h1 h2
 unfold lg
 have a1:R.toNat.log2<m+1:=(Nat.log2_lt h0).mpr (by omega)
 have a2:¬ R.toNat.log2<m:=fun z=>by
  have:=(Nat.log2_lt h0).mp z
  omega
 omega
theorem FA {R:Int}(h:1<=R):((Builtin.Int.intBits R:Nat):Int)-1 =(lg R:Int):=by
 unfold Builtin.Int.intBits lg
 have h0:(R == 0)=false:=by
  rw[W4];omega
 rw[h0]
 have e:R.natAbs=R.toNat:=by omega
 rw[e]
 simp
def az (k R:Int):Int:=if R-2^lg R<=k%2^lg R then k%2^lg R else k%2^(lg R+1)
theorem bU {k R:Int}(h:1<=R):0<=az k R/\az k R<R:=by
 have p:=fM (lg R)
 have a:=Au h
 have b:=Em h
 rw[VW]at b
 unfold az
 rw[VW]
 generalize (2:Int)^lg R=w at p a b ⊢
 have m0:=VL k (show w≠0 by omega)
 have m1:=VA k p
 have d0:=VL k (show w*2≠0 by omega)
 have d1:=VA k (show(0:Int)<w*2 by omega)
 have e:k%(w*2)%w=k%w:=Int.emod_emod_of_dvd k ⟨2,rfl⟩
 split
 ·omega
 ·rename_i hn
  refine⟨d0,?_⟩
  by_cases c:k%(w*2)<w
  ·rw[WD d0 c]at e;omega
  ·have e2:k%(w*2)%w=k%(w*2)-w:=by
    have:k%(w*2) =(k%(w*2)-w)+w:=by omega
    rw[this,Int.add_emod_right,WD (by omega) (by omega)]
    omega
   omega
def lR (K:W.Frag):Sp:=fun vs H Q _=>∃(k:Int) (m:Nat),vs=[.int k,.int m]/\m<=100/\Q (.int (k%2^m)) H
def Cq (K:W.Frag):Sp:=fun vs H Q _=>∃(R:Int),vs=[.int R]/\1<=R/\Q (.int (lg R)) H
def Fb (K:W.Frag):Sp:=fun vs H Q _=>∃(R:Int),vs=[.int R]/\1<=R/\R<=2^60/\Q (.int (R-2^lg R)) H
def oq (r R:Int):Nat:=if R-2^lg R<=r/\r<2^lg R then lg R else lg R+1
theorem Aa {k R:Int}:k%2^oq (k%2^lg R) R=az k R:=by
 have lt:=VA k (fM (lg R))
 unfold oq az
 by_cases c:R-2^lg R<=k%2^lg R
 ·rw[UN ⟨c,lt⟩,UN c]
 ·rw[UM (fun z=>c z.1),UM c]
def oF (K:W.Frag):Sp:=fun vs H Q _=>∃(r R:Int),vs=[.int r,.int R]/\1<=R/\R<=2^60/\Q (.int (oq r R)) H
def zu (K:W.Frag):Sp:=fun vs H Q _=>∃(k R:Int),vs=[.int k,.int R]/\1<=R/\R<=2^60/\Q (.int (az k R)) H
theorem Hs (k w:Int) (p:0<w):k%(w*2)=k%w+w*(k / w%2):=by
 have d1:=Int.emod_add_mul_ediv k w
 have d2:=Int.emod_add_mul_ediv (k / w) 2
 have r0:=VL k (show w≠0 by omega)
 have r1:=VA k p
 have b:k / w%2=0\/k / w%2=1:=by omega
 have e:k =(k%w+w*(k / w%2))+(w*2)*(k / w / 2):=by
  have e1:w*2*(k / w / 2)=w*(2*(k / w / 2)):=by rw[Int.mul_assoc]
  rw[e1]
  have e2:w*(k / w%2)+w*(2*(k / w / 2))=w*(k / w):=by rw[<- Int.mul_add,d2]
  omega
 conv=>lhs;rw[e]
 rw[Int.add_mul_emod_self_left]
 refine WD ?_ ?_
 ·rcases b with b|b <;> rw[b] <;> omega
 ·rcases b with b|b <;> rw[b] <;> omega
theorem By (k:Int) {R:Int}(h:1<=R):az k (R+1)=if az k R=R-2^lg R/\k / 2^lg R%2=1 then R else az k R:=by
 have p:=fM (lg R)
 have a:=Au h
 have b:=Em h
 rw[VW]at b
 have mt:=Hs k (2^lg R) p
 have r0:=VL k (show(2:Int)^lg R≠0 by omega)
 have r1:=VA k p
 have bb:k / 2^lg R%2=0\/k / 2^lg R%2=1:=by omega
 have hR:az k R=if R-2^lg R<=k%2^lg R then k%2^lg R else k%(2^lg R*2):=by unfold az;rw[VW]
 have hR1:az k (R+1)=if R+1-2^lg R<=k%2^lg R then k%2^lg R else k%(2^lg R*2):=by
  by_cases c:R+1<2^lg R*2
  ·have e:lg (R+1)=lg R:=IG (by omega) (by rw[VW];exact c)
   unfold az
   rw[e,VW]
  ·have e2:R+1=2^lg R*2:=by omega
   have e:lg (R+1)=lg R+1:=IG (by rw[VW];omega) (by rw[VW,VW];omega)
   unfold az
   rw[e,VW,UN (by rw[e2];have:=VL k (show(2:Int)^lg R*2≠0 by omega);omega),UM (by omega)]
 rw[hR1,hR,mt]
 generalize (2:Int)^lg R=w at *
 generalize k%w=low at *
 generalize k / w%2=bit at *
 rcases bb with rfl|rfl
 ·rw[Int.mul_zero,Int.add_zero]
  simp
 ·rw[Int.mul_one]
  by_cases c1:R-w<=low
  ·rw[UN c1]
   by_cases c2:R+1-w<=low
   ·rw[UN c2,UM (by omega)]
   ·rw[UM c2,UN (by omega)]
    omega
  ·rw[UM c1,UM (by omega),UM (by omega)]
def nY (K:W.Frag):Sp:=fun vs H Q _=>∃(R:Int),vs=[.int R]/\1<=R/\R<=2^60/\∀p,H p=none->Q (.ref p) (upd H p (.tup [.int (R-2^lg R),.int R]))
def lZ (K:W.Frag):Sp:=fun vs H Q _=>∃(R:Int),vs=[.int R]/\1<=R/\R<=2^60/\(R=1->Q .non H)/\(R≠1->∀p,H p=none->Q (.ref p) (upd H p (.tup [.int (R-1),.int (R-1-2^lg (R-1))])))
theorem qE {m w g:Int}(hw:1<=w) (hm:0<=m) (hg:g=max 1 ((m+w-1) / w)):1<=g/\m<=w*g/\(g=1\/w*(g-1)<m):=by
 have h1:=Int.emod_add_mul_ediv (m+w-1) w
 have h2:=VL (m+w-1) (show w≠0 by omega)
 have h3:=VA (m+w-1) (show 0<w by omega)
 generalize (m+w-1) / w=q at h1 hg
 generalize (m+w-1)%w=r at h1 h2 h3
 have e:w*(g-1)=w*g-w:=by rw[Int.mul_sub,Int.mul_one]
 refine⟨by omega,?_,?_⟩
 ·by_cases c:1<=q
  ·have:g=q:=by omega
   rw[this];omega
  ·have:g=1:=by omega
   rw[this,Int.mul_one]
   have:w*q<=0:=Int.mul_nonpos_of_nonneg_of_nonpos (by omega) (by omega)
   omega
 ·by_cases c:2<=q
  ·right
   have:g=q:=by omega
   rw[e,this];omega
  ·left;omega
def eK (m w:Int):Int:=max 1 ((m+w-1) / w)
theorem G_ {xs:List V}{a b:Nat}(h:a<=b):jy xs (some (a:Int)) (some (b:Int)) =(xs.drop a).take (b-a):=by
 unfold jy
 rw[HT.sIx_nat,HT.sIx_nat]
 by_cases c:a<=xs.length
 ·rw[VM c]
  by_cases d:b<=xs.length
  ·rw[VM d]
  ·rw[Nat.min_eq_right (by omega),UW (by rw[Vt];omega),UW (by rw[Vt];omega)]
 ·rw[Vf (by omega),Vf (by omega)]
  simp
def Ls (H:Hp):List Addr->List (List Int)->Prop
 | [],[]=>True
 | a::as,r::rs=>H a=some (.lst (r.map V.int))/\Ls H as rs
 | _,_=>False
theorem Ls.same {H H':Hp}:∀{as:List Addr}{rs:List (List Int)},(∀a∈as,∀o,H a=some o->H' a=some o)->Ls H as rs->Ls H' as rs
 | [],[],_,_=>trivial
 | a::_,_::_,s,⟨h,t⟩=>⟨s a UQ _ h,Ls.same (fun b hb=>s b (UK _ hb)) t⟩
theorem Ls.len {H:Hp}:∀{as:List Addr}{rs:List (List Int)},Ls H as rs->as.length=rs.length
 | [],[],_=>rfl
 | _::_,_::_,⟨_,t⟩=>Vk (· + 1) (Ls.len t)
theorem Ls.snoc {H:Hp}{a:Addr}{r:List Int}(hb:H a=some (.lst (r.map V.int))):∀{as:List Addr}{rs:List (List Int)},Ls H as rs->Ls H (as ++ [a]) (rs ++ [r])
 | [],[],_=>⟨hb,trivial⟩
 | _::_,_::_,⟨h,t⟩=>⟨h,Ls.snoc hb t⟩
theorem Ls.get {H:Hp}:∀{as:List Addr}{rs:List (List Int)}{i:Nat}{a:Addr},Ls H as rs->as[i]? = some a->∃r,rs[i]? = some r/\H a=some (.lst (r.map V.int))
 | [],[],_,_,_,e=>by cases e
 | _::_,r::_,0,_,⟨h,_⟩,e=>by cases e;exact⟨r,rfl,h⟩
 | _::_,_::_,i+1,_,⟨_,t⟩,e=>Ls.get (i:=i) t e
def n_ (K:W.Frag):Sp:=fun vs H Q _=>∃(m w:Int),vs=[.int m,.int w]/\1<=w/\w<=8/\Q (.int (eK m w)) H
def jd (ms:List V) (w n:Nat):List (List V):=(List.range n).map fun i=>(ms.drop (i*w)).take w
theorem nX (ms:List V) (w n:Nat):jd ms w (n+1)=jd ms w n ++ [(ms.drop (n*w)).take w]:=by
 unfold jd;rw[List.range_succ,UB];rfl
theorem dI (ms:List V) (w n:Nat):(jd ms w n).length=n:=by unfold jd;rw[Uv,V6]
def dm (ms:List V) (w:Nat):List (List V):=jd ms w (eK ms.length w).toNat
def EO (H0 H:Hp) (l:Addr) (X:List (List V)):Prop:=∃as:List Addr,H l=some (.lst (as.map V.ref))/\as.length=X.length/\(∀(i:Nat) (a:Addr) (es:List V),as[i]? = some a->X[i]? = some es->H a=some (.lst es))/\as.Nodup/\∀a∈as,H0 a=none/\a≠l
def wM (K:W.Frag):Sp:=fun vs H Q _=>∃(a:Addr) (ms:List V) (w:Nat),vs=[.ref a,.int w]/\H a=some (.lst ms)/\ms.length<=200/\1<=w/\w<=8 /\
 ∀l H',H l=none->EO H H' l (dm ms w)->aO H H'->Q (.ref l) H'
theorem b9 {as:List Addr}{i:Nat}{x:V}(hx:(as.map V.ref)[i]? = some x):∃a,as[i]? = some a/\x = .ref a:=by
 rw[UI]at hx
 cases e:as[i]? with
 | none=>rw[e]at hx;cases hx
 | some a=>rw[e]at hx;exact⟨a,rfl,(US hx).symm⟩
theorem ints_get {ns:List Int}{i:Nat}{x:V}(hx:(ns.map V.int)[i]? = some x):∃z,ns[i]? = some z/\x = .int z:=by
 rw[UI]at hx
 cases e:ns[i]? with
 | none=>rw[e]at hx;cases hx
 | some a=>rw[e]at hx;exact⟨a,rfl,(US hx).symm⟩
theorem mK {α:Type}{xs:List α}{i:Nat}{x:α}(h:xs[i]? = some x):xs.drop i=x::xs.drop (i+1):=by
 obtain⟨hi,e⟩:=Ux.mp h
 rw[Xr hi,e]
theorem aX {α:Type}{xs:List α}{i:Nat}{x:α}(h:xs[i]? = some x):xs.take (i+1)=xs.take i ++ [x]:=by
 obtain⟨hi,e⟩:=Ux.mp h
 rw[List.take_succ_eq_append_getElem hi,e]
theorem Ke {as:List Addr}{i:Nat}{a:Addr}(h:as[i]? = some a):rA (as.map V.ref) (0+(i:Int))=some (.ref a):=by
 rw[XI]
 exact jf (by rw[UI,h];rfl)
theorem gf {as:List Addr}{i:Nat}{a:Addr}(h:as[i]? = some a):rA (as.map V.ref) (i:Int)=some (.ref a) :=
 jf (by rw[UI,h];rfl)
theorem Lp {ns:List Int}{i:Nat}{z:Int}(h:ns[i]? = some z):rA (ns.map V.int) (i:Int)=some (.int z) :=
 jf (by rw[UI,h];rfl)
theorem AN {a:V}{r:List V}:rA (a::r) 0=some a:=jf (j:=0) rfl
theorem Ls.mem {H:Hp}:∀{as:List Addr}{rs:List (List Int)}{a:Addr},Ls H as rs->a∈as->∃r,r∈rs/\H a=some (.lst (r.map V.int))
 | [],[],_,_,h=>by cases h
 | b::as,r::rs,a,⟨h,t⟩,m=>by
  rcases U9.mp m with e|m
  ·exact⟨r,UQ,e ▸ h⟩
  ·obtain⟨q,q1,q2⟩:=Ls.mem t m
   exact⟨q,UK _ q1,q2⟩
def RL (H:Hp) (l:Addr) (rs:List (List Int)):Prop:=∃as:List Addr,H l=some (.lst (as.map V.ref))/\Ls H as rs
theorem FZ {H:Hp}{p a:Addr}{N:Nat}{ns:List Int}(hh:Hand H p N) (h:H a=some (.lst (ns.map V.int))):a≠p:=by
 obtain⟨l,d,c,ms,h1,h2,_⟩:=hh.ex
 intro e
 rw[e,h1]at h
 have q:=Vk (fun x=>x[2]?) (HO.lst.inj (US h))
 rw[UI]at q
 cases z:ns[2]? with
 | none=>rw[z]at q;cases q
 | some v=>rw[z]at q;cases q
theorem iy {H:Hp}{p a:Addr}{N:Nat}{as:List Addr}(hh:Hand H p N) (h:H a=some (.lst (as.map V.ref))):a≠p:=by
 obtain⟨l,d,c,ms,h1,h2,_⟩:=hh.ex
 intro e
 rw[e,h1]at h
 have q:=Vk (fun x=>x[0]?) (HO.lst.inj (US h))
 rw[UI]at q
 cases z:as[0]? with
 | none=>rw[z]at q;cases q
 | some v=>rw[z]at q;cases q
def dR (r:List Int):PyData:=.list (r.map PyData.int)
theorem Ku {K:W.Frag}{H:Hp}{a:Addr}(h:H a=some (.lst [])):DV K H (.ref a) (.list []):=.lst (aW.of h) .nil
theorem HK (r:List Int):decide (r ≠ []) = !(r.map V.int).isEmpty:=by cases r <;> simp
theorem Fj {r:List Int}{y:Int}(h:r.getLast? = some y):rA (r.map V.int) (-1)=some (.int y):=by
 have hn:r ≠ []:=by intro e;rw[e]at h;cases h
 have hl:=W5.mpr hn
 have e:yP (r.map V.int).length (-1)=some (r.length-1):=by
  unfold yP
  rw[Uv,UM (by decide),UN (by omega)]
  congr 1;omega
 unfold rA
 rw[e]
 show(r.map V.int)[r.length-1]? = _
 rw[UI,<- List.getLast?_eq_getElem?,h];rfl
theorem Gm {r:List Int}(h:r ≠ []):∃y,r.getLast? = some y:=⟨_,List.getLast?_eq_some_getLast h⟩
theorem xZ {r:List Int}(h:r.Pairwise (· <= ·)) (n:r.Nodup):r.Pairwise (· < ·):=by
 induction r with
 | nil=>exact .nil
 | cons a r ih =>
  rw[WO]at h
  rw[Vq]at n
  rw[WO]
  exact⟨fun b hb=>by
   have h1:=h.1 b hb
   have h2:a≠b:=fun e=>n.1 (e ▸ hb)
   omega,ih h.2 n.2⟩
def cP (k:Int) (r:List Int):Bool:=match r.getLast? with
 | none=>false
 | some x=>decide (k<=x)
def q_ (k:Int) (r:List Int):Prop:=cP k r=true
theorem yf {k x:Int}{r:List Int}(h:r.getLast? = some x) (d:k<=x):q_ k r:=by
 unfold q_ cP;rw[h];exact U8 d
theorem qK {k:Int}{r:List Int}(h:q_ k r):∃x,r.getLast? = some x/\k<=x:=by
 unfold q_ cP at h
 cases e:r.getLast? with
 | none=>rw[e]at h;cases h
 | some x=>rw[e]at h;exact⟨x,rfl,VV h⟩
def fC (k:Int):List (List Int)->Bool×Int
 | []=>(false,0)
 | r::rs=>if cP k r=true then(decide (k∈r),1) else((fC k rs).1,(fC k rs).2+1)
theorem zH {k:Int}{r:List Int}{rs:List (List Int)}(h:q_ k r):fC k (r::rs) =(decide (k∈r),1):=by
 rw[fC];exact UN h
theorem zq {k:Int}{r:List Int}{rs:List (List Int)}(h:¬ q_ k r):fC k (r::rs) =((fC k rs).1,(fC k rs).2+1):=by
 rw[fC];exact UM h
def uI (K:W.Frag):Sp:=fun vs H Q _=>∃(l:Addr) (k:Int) (rs:List (List Int)),vs=[.ref l,.int k]/\RL H l rs/\rs.length<=500 /\
 ∀t H',H t=none->H' t=some (.tup [.bl (fC k rs).1,.int (fC k rs).2])->aO H H'->Q (.ref t) H'
def bL (ms:List Int) (R:Nat):List (List Int):=(List.range R).map fun(r:Nat)=>ms.filter fun k=>decide (az k R =(r:Int))
theorem cB (ms:List Int) (R:Nat):(bL ms R).length=R:=by unfold bL;rw[Uv,V6]
theorem eU {ms:List Int}{R j:Nat}(h:j<R):(bL ms R)[j]? = some (ms.filter fun k=>decide (az k R =(j:Int))):=by
 unfold bL
 rw[UI,List.getElem?_range h];rfl
theorem xE (R:Nat):bL [] R=List.replicate R []:=by
 refine Vz fun i=>?_
 rw[W8]
 by_cases h:i<R
 ·rw[eU h,UN h];rfl
 ·rw[UM h,UT (by rw[cB];omega)]
theorem vV {ms:List Int}{R j:Nat}{k:Int}(hj:az k R =(j:Int)) (h:j<R):bL (ms ++ [k]) R =(bL ms R).set j ((ms.filter fun k=>decide (az k R =(j:Int))) ++ [k]):=by
 refine Vz fun i=>?_
 rw[XJ,cB]
 by_cases hi:i<R
 ·rw[eU hi,VQ,V2]
  by_cases e:j=i
  ·subst e
   rw[UN rfl,UN hi,UN (U8 hj)];rfl
  ·rw[UM e,eU hi,UM (by rw[hj];simp;omega)]
   simp
 ·rw[UT (by rw[cB];omega)]
  by_cases e:j=i
  ·omega
  ·rw[UM e,UT (by rw[cB];omega)]
theorem Ls.set {H:Hp}{a:Addr}{r:List Int}:∀{as:List Addr}{rs:List (List Int)}{j:Nat},as.Nodup->as[j]? = some a->Ls H as rs->Ls (upd H a (.lst (r.map V.int))) as (rs.set j r)
 | [],_,_,_,h,_=>by simp at h
 | b::as,q::rs,0,hn,h,⟨h1,t⟩=>by
  simp at h;subst h
  rw[Vq]at hn
  exact⟨ao,t.same fun c hc o e=>by rw[av (show c≠b from fun z=>hn.1 (by rw[<- z];exact hc))];exact e⟩
 | b::as,q::rs,j+1,hn,h,⟨h1,t⟩=>by
  rw[Vq]at hn
  have h':as[j]? = some a:=by simpa using h
  have ne:b≠a:=fun z=>hn.1 (by rw[z];exact UA h')
  exact⟨by rw[av ne];exact h1,Ls.set hn.2 h' t⟩
def LN (H0 H:Hp) (l:Addr) (rs:List (List Int)):Prop:=∃as:List Addr,H l=some (.lst (as.map V.ref))/\Ls H as rs/\as.Nodup/\∀a∈as,H0 a=none/\a≠l
theorem Ls.rep {H:Hp}:∀{as:List Addr}{n:Nat},Ls H as (List.replicate n [])->as.length=n:=fun h=>by rw[h.len,VD]
def t8 (K:W.Frag):Sp:=fun vs H Q _=>∃(a:Addr) (ns:List Int) (R:Nat),vs=[.ref a,.int R]/\H a=some (.lst (ns.map V.int))/\ns.length<=63/\1<=R/\R<=200 /\
 ∀ms l H',ms.Perm ns->ms.Pairwise (· <= ·)->H l=none->LN H H' l (bL ms R)->aO H H'->Q (.ref l) H'
def Ma (K:W.Frag):Sp:=fun vs H Q _=>∃(a:Addr) (ns:List Int) (R:Nat),vs=[.ref a,.int R]/\H a=some (.lst (ns.map V.int))/\ns.length<=63/\1<=R/\R<=200 /\
 ∀ms l H',ms.Perm ns->ms.Pairwise (· <= ·)->H l=none->H' l=some (.lst (((bL ms R).map fun r=>(r.length:Int)).map V.int))->aO H H'->Q (.ref l) H'
def rK (H:Hp) (l:Addr) (X:List (List V)):Prop:=∃as:List Addr,H l=some (.lst (as.map V.ref))/\as.length=X.length/\∀(i:Nat) (a:Addr) (es:List V),as[i]? = some a->X[i]? = some es->H a=some (.lst es)
theorem rK.same {H H':Hp}{l:Addr}{X:List (List V)}(h:rK H l X) (s:aO H H'):rK H' l X:=by
 obtain⟨as,h1,h2,h3⟩:=h
 exact⟨as,s _ _ h1,h2,fun i a es e1 e2=>s _ _ (h3 i a es e1 e2)⟩
def rY (K:W.Frag):Sp:=fun vs H Q _=>∃(l:Addr) (X:List (List V)),vs=[.ref l]/\rK H l X/\X.flatten.length<=100000 /\
 ∀(D:Addr) (H':Hp),H D=none->H' D=some (.lst X.flatten)->aO H H'->Q (.ref D) H'
def TJ (H:Hp) (l:Addr) (Y:List (List (List V))):Prop:=∃as:List Addr,H l=some (.lst (as.map V.ref))/\as.length=Y.length/\∀(i:Nat) (a:Addr) (X:List (List V)),as[i]? = some a->Y[i]? = some X->rK H a X
def cg (Y:List (List (List V))):List V:=(Y.map List.flatten).flatten
def C7 (K:W.Frag):Sp:=fun vs H Q _=>∃(t l:Addr) (w r:V) (Y:List (List (List V))),vs=[.ref t]/\H t=some (.tup [w,r,.ref l])/\TJ H l Y/\(cg Y).length<=100000 /\
 ∀(D:Addr) (H':Hp),H D=none->H' D=some (.lst (cg Y))->aO H H'->Q (.ref D) H'
theorem tV {X:List (List V)}{i:Nat}{es:List V}(h:X[i]? = some es):(X.take (i+1)).flatten =(X.take i).flatten++es:=by
 rw[WE,h];simp
theorem C4 {X:List (List V)}{i:Nat}{es:List V}(h:X[i]? = some es):(X.take i).flatten.length+es.length<=X.flatten.length:=by
 have e:=tV h
 have:(X.take (i+1)).flatten.length<=X.flatten.length:=by
  conv=>rhs;rw[<- U1 (i+1) X,Vv,Uz]
  omega
 rw[e,Uz]at this
 exact this
def kf (e:Int×V):Key×V:=((Sum.inl e.1:Key),e.2)
def jw (qs:List (Int×V)) (k:Int) (v:V):List (Int×V):=if (qs.any fun e=>decide (e.1=k))=true then qs.map (fun e=>if e.1=k then(e.1,v) else e) else qs ++ [(k,v)]
def bN (qs ps:List (Int×V)):List (Int×V):=ps.foldl (fun acc e=>jw acc e.1 e.2) qs
theorem EJ {qs:List (Int×V)}{k:Int}{v:V}:putK (qs.map kf) (Sum.inl k) v =(jw qs k v).map kf:=by
 unfold putK jw
 have e:((qs.map kf).any fun kv=>decide (kv.1 =(Sum.inl k:Key)))=qs.any fun e=>decide (e.1=k):=by
  rw[List.any_map]
  congr 1
  funext e
  simp[kf]
 rw[e]
 split
 ·rw[Vo,Vo]
  apply VC
  intro e _
  by_cases c:e.1=k
  ·simp[kf,c]
  ·simp[kf,c]
 ·rw[UB];rfl
theorem kM:∀{ps qs:List (Int×V)},fG (qs.map kf) (ps.map kf) =(bN qs ps).map kf
 | [],qs=>rfl
 | p::ps,qs=>by
  show fG (putK (qs.map kf) (Sum.inl p.1) p.2) (ps.map kf) =(bN (jw qs p.1 p.2) ps).map kf
  rw[EJ,kM]
theorem tS {qs:List (Int×V)}{k:Int}{v:V}:(jw qs k v).map (·.1)=if k∈qs.map (·.1) then qs.map (·.1) else qs.map (·.1) ++ [k]:=by
 unfold jw
 by_cases c:k∈qs.map (·.1)
 ·have e:(qs.any fun e=>decide (e.1=k))=true:=by
   obtain⟨e,h1,h2⟩:=UC.mp c
   exact Xa.mpr ⟨e,h1,U8 h2⟩
  rw[UN e,UN c,Vo]
  apply VC
  intro e _
  by_cases d:e.1=k <;> simp[d]
 ·have e:¬(qs.any fun e=>decide (e.1=k))=true:=fun z=>by
   obtain⟨e,h1,h2⟩:=Xa.mp z
   exact c (UC.mpr ⟨e,h1,VV h2⟩)
  rw[UM e,UM c,UB];rfl
theorem mP:∀{ps qs:List (Int×V)},(qs.map (·.1)).Nodup->((bN qs ps).map (·.1)).Nodup
 | [],qs,h=>h
 | p::ps,qs,h=>by
  show((bN (jw qs p.1 p.2) ps).map (·.1)).Nodup
  apply mP
  rw[tS]
  split
  ·exact h
  ·rename_i c
   rw[Vs]
   refine⟨h,by simp,fun a ha b hb=>?_⟩
   have:b=p.1:=by simpa using hb
   rw[this]
   rintro rfl
   exact c ha
theorem qg {k:Int}:∀{ps qs:List (Int×V)},k∈(bN qs ps).map (·.1)↔k∈qs.map (·.1)\/k∈ps.map (·.1)
 | [],qs=>by simp[bN]
 | p::ps,qs=>by
  show k∈(bN (jw qs p.1 p.2) ps).map (·.1)↔_
  rw[qg,tS,Vi,U9]
  split
  ·rename_i c
   constructor
   ·rintro(h|h)
    ·exact .inl h
    ·exact .inr (.inr h)
   ·rintro(h|h|h)
    ·exact .inl h
    ·exact .inl (h ▸ c)
    ·exact .inr h
  ·constructor
   ·rintro(h|h)
    ·rcases UG.mp h with h|h
     ·exact .inl h
     ·exact .inr (.inl (by simpa using h))
    ·exact .inr (.inr h)
   ·rintro(h|h|h)
    ·exact .inl (Wy _ h)
    ·exact .inl (UX _ (by simp[h]))
    ·exact .inr h
theorem uz:∀{ps qs:List (Int×V)},((qs++ps).map (·.1)).Nodup->bN qs ps=qs++ps
 | [],qs,_=>by simp[bN]
 | p::ps,qs,h=>by
  show bN (jw qs p.1 p.2) ps=_
  have c:p.1∉qs.map (·.1):=fun z=>by
   rw[UB,Vs]at h
   exact h.2.2 p.1 z p.1 (by simp) rfl
  have e:jw qs p.1 p.2=qs ++ [p]:=by
   unfold jw
   rw[UM]
   intro z
   obtain⟨e,h1,h2⟩:=Xa.mp z
   exact c (UC.mpr ⟨e,h1,VV h2⟩)
  rw[e,uz (by rw[U5];exact h),U5];rfl
def ic (qs:List (Int×V)) (k:Int):V:=((qs.find? fun e=>decide (e.1=k)).map (·.2)).getD .non
theorem tH:∀{qs:List (Int×V)}{k:Int},k∈qs.map (·.1)->L2.dj (qs.map kf) (Sum.inl k)=some (ic qs k)
 | [],k,h=>by simp at h
 | e::qs,k,h=>by
  by_cases c:e.1=k
  ·rw[Vi,c_ (by simp[kf,c])]
   unfold ic
   rw[List.find?_cons,U8 c];rfl
  ·rw[Vi,cZ (by simp[kf,c]),tH (by
    rw[Vi,U9]at h
    rcases h with h|h
    ·exact absurd h.symm c
    ·exact h)]
   unfold ic
   rw[List.find?_cons,U6 c]
def Own (H:Hp) (val:Int->V) (d:Addr) (ks:List Int):Prop:=∃ts:List Addr,H d=some (.lst (ts.map V.ref))/\ts.length=ks.length/\∀(i:Nat) (t:Addr) (k:Int),ts[i]? = some t->ks[i]? = some k->H t=some (.tup [.int k,val k])
theorem Own.same {H H':Hp}{val:Int->V}{d:Addr}{ks:List Int}(h:Own H val d ks) (s:aO H H'):Own H' val d ks:=by
 obtain⟨ts,h1,h2,h3⟩:=h
 exact⟨ts,s _ _ h1,h2,fun i t k e1 e2=>s _ _ (h3 i t k e1 e2)⟩
def zB (H:Hp) (val:Int->V) (w:Nat) (r:Addr) (bs:List Addr) (ks:List Int):Prop:=∃ts:List Addr,ts.length=ks.length/\(∀(i:Nat) (t:Addr) (k:Int),ts[i]? = some t->ks[i]? = some k->H t=some (.tup [.int k,val k]))/\H r=some (.lst (bs.map V.ref))/\bs.length =(dm (ts.map V.ref) w).length/\∀(i:Nat) (a:Addr) (es:List V),bs[i]? = some a->(dm (ts.map V.ref) w)[i]? = some es->H a=some (.lst es)
theorem zB.same {H H':Hp}{val:Int->V}{w:Nat}{r:Addr}{bs:List Addr}{ks:List Int}(h:zB H val w r bs ks) (s:aO H H'):zB H' val w r bs ks:=by
 obtain⟨ts,h1,h2,h3,h4,h5⟩:=h
 exact⟨ts,h1,fun i t k e1 e2=>s _ _ (h2 i t k e1 e2),s _ _ h3,h4,fun i a es e1 e2=>s _ _ (h5 i a es e1 e2)⟩
def EX (rs:List Addr) (bss:List (List Addr)):List Addr:=(List.zipWith (fun r bs=>r::bs) rs bss).flatten
theorem wk {rs:List Addr}{bss:List (List Addr)}{r:Addr}{bs:List Addr}(h:rs.length=bss.length):EX (rs ++ [r]) (bss ++ [bs])=EX rs bss++(r::bs):=by
 unfold EX
 rw[List.zipWith_append h,Vv];simp
def Ik (H0 H:Hp) (val:Int->V) (w:Nat) (l:Addr) (owns:List (List Int)):Prop:=∃(rs:List Addr) (bss:List (List Addr)),H l=some (.lst (rs.map V.ref))/\rs.length=owns.length/\bss.length=owns.length/\(∀(j:Nat) (r:Addr) (bs:List Addr) (own:List Int),rs[j]? = some r->bss[j]? = some bs->owns[j]? = some own->zB H val w r bs own)/\(l::EX rs bss).Nodup/\∀b∈l::EX rs bss,H0 b=none
theorem C9 {p:Hp->Addr->List Addr->List Int->Prop}{H:Hp}{ds:List Addr}{bss:List (List Addr)}{owns:List (List Int)}{i:Nat}{d:Addr}{bs:List Addr}{own:List Int}(hl:ds.length=i) (hl2:bss.length=i) (ho:owns[i]? = some own)
  (h:∀(j:Nat) (d:Addr) (bs:List Addr) (own:List Int),ds[j]? = some d->bss[j]? = some bs->owns[j]? = some own->p H d bs own) (hd:p H d bs own):∀(j:Nat) (d':Addr) (bs':List Addr) (own:List Int),(ds ++ [d])[j]? = some d'->(bss ++ [bs])[j]? = some bs'->owns[j]? = some own->p H d' bs' own:=by
 intro j d' bs' own' e1 e3 e2
 by_cases z:j<ds.length
 ·rw[UO z]at e1
  rw[UO (by omega)]at e3
  exact h j d' bs' own' e1 e3 e2
 ·have kl:=(Ux.mp e1).1
  rw[Uz]at kl
  have hk:j=ds.length:=by have:[d].length=1:=rfl;omega
  subst hk
  rw[UL (UE _),Wa]at e1
  rw[UL (by omega),show ds.length-bss.length=0 by omega]at e3
  rw[hl,ho]at e2
  cases e1;cases e2;cases e3
  exact hd
def hid (D:Addr) (H:Hp):Hp:=fun b=>if b=D then none else H b
theorem fL {D b:Addr}{H:Hp}(n:b≠D):hid D H b=H b:=UM n
theorem iw {D:Addr}{H:Hp}{o:HO}:hid D (L2.upd H D o)=hid D H:=by
 funext b
 unfold hid
 by_cases c:b=D
 ·rw[UN c,UN c]
 ·rw[UM c,UM c,av c]
theorem cT {D:Addr}{H H':Hp}(s:aO H H'):aO (hid D H) (hid D H'):=fun b o e=>by
 unfold hid at e ⊢
 by_cases c:b=D
 ·rw[UN c]at e;cases e
 ·rw[UM c]at e ⊢;exact s _ _ e
theorem fJ {D:Addr}{H:Hp}:aO (hid D H) H:=fun b o e=>by
 unfold hid at e
 by_cases c:b=D
 ·rw[UN c]at e;cases e
 ·rw[UM c]at e;exact e
theorem zG {ms own:List Int}{R j:Nat}{k:Int}(h:(bL ms R)[j]? = some own) (hk:k∈own):k∈ms:=by
 have jl:j<R:=by have:=(Ux.mp h).1;rw[cB]at this;exact this
 rw[eU jl]at h
 cases h
 exact(Vm.mp hk).1
theorem ow {ms own:List Int}{R j:Nat}(h:(bL ms R)[j]? = some own):own.length<=ms.length:=by
 have jl:j<R:=by have:=(Ux.mp h).1;rw[cB]at this;exact this
 rw[eU jl]at h
 cases h
 exact UY _ _
def qM (K:W.Frag):Sp:=fun vs H Q _=>∃(a:Addr) (ts:List Addr) (ps:List (Int×V)) (w R:Nat),vs=[.int w,.int R,.ref a]/\H a=some (.lst (ts.map V.ref))/\ts.length=ps.length/\ps.length<=63/\(∀(i:Nat) (t:Addr) (p:Int×V),ts[i]? = some t->ps[i]? = some p->H t=some (.tup [.int p.1,p.2]))/\1<=w/\w<=8/\1<=R/\R<=200 /\
 ∀(ms:List Int) (t h:Addr) (H':Hp),ms.Perm ((bN [] ps).map (·.1))->ms.Pairwise (· <= ·)->H' t=some (.tup [.int w,.int R,.ref h])->Ik H H' (ic (bN [] ps)) w h (bL ms R)->aO H H'->Q (.ref t) H'
theorem Fc {p:Hp->Addr->List Int->Prop}{H:Hp}{ds:List Addr}{owns:List (List Int)}{i:Nat}{d:Addr}{own:List Int}(hl:ds.length=i) (ho:owns[i]? = some own)
  (h:∀(j:Nat) (d:Addr) (own:List Int),ds[j]? = some d->owns[j]? = some own->p H d own) (hd:p H d own):∀(j:Nat) (d':Addr) (own:List Int),(ds ++ [d])[j]? = some d'->owns[j]? = some own->p H d' own:=by
 intro j d' own' e1 e2
 by_cases z:j<ds.length
 ·rw[UO z]at e1
  exact h j d' own' e1 e2
 ·have kl:=(Ux.mp e1).1
  rw[Uz]at kl
  have hk:j=ds.length:=by have:[d].length=1:=rfl;omega
  subst hk
  rw[UL (UE _),Wa]at e1
  rw[hl,ho]at e2
  cases e1;cases e2
  exact hd
def P1 {α:Type}(p:Addr->α->Prop) (as:List Addr) (xs:List α):Prop:=as.length=xs.length/\∀(i:Nat) (a:Addr) (x:α),as[i]? = some a->xs[i]? = some x->p a x
section
variable {α:Type}{p p':Addr->α->Prop}{as bs:List Addr}{xs ys:List α}{a b:Addr}{x y:α}{i:Nat}
theorem P1.imp (f:∀a x,p a x->p' a x) (h:P1 p as xs):P1 p' as xs:=⟨h.1,fun i a x e1 e2=>f a x (h.2 i a x e1 e2)⟩
theorem P1.imp' (f:∀a x,a∈as->x∈xs->p a x->p' a x) (h:P1 p as xs):P1 p' as xs:=⟨h.1,fun i a x e1 e2=>f a x (UA e1) (UA e2) (h.2 i a x e1 e2)⟩
theorem P1.nil:P1 p [] []:=⟨rfl,fun i a x e=>by simp at e⟩
theorem P1.get (h:P1 p as xs) (e:as[i]? = some a):∃x,xs[i]? = some x/\p a x:=by
 have il:=(Ux.mp e).1
 rw[h.1]at il
 exact⟨_,Uy il,h.2 i a _ e (Uy il)⟩
theorem P1.at' (h:P1 p as xs) (e:xs[i]? = some x):∃a,as[i]? = some a/\p a x:=by
 have il:=(Ux.mp e).1
 rw[<- h.1]at il
 exact⟨_,Uy il,h.2 i _ x (Uy il) e⟩
theorem P1.app (h:P1 p as xs) (h':P1 p bs ys):P1 p (as++bs) (xs++ys):=by
 refine⟨by rw[Uz,Uz,h.1,h'.1],fun i a x e1 e2=>?_⟩
 have hl:=h.1
 by_cases z:i<as.length
 ·rw[UO z]at e1
  rw[UO (by omega)]at e2
  exact h.2 i a x e1 e2
 ·rw[UL (by omega)]at e1
  rw[UL (by omega),<- hl]at e2
  exact h'.2 _ a x e1 e2
theorem P1.one (hb:p b y):P1 p [b] [y]:=by
 refine⟨rfl,fun i a x e1 e2=>?_⟩
 cases i with
 | zero=>cases e1;cases e2;exact hb
 | succ i=>simp at e1
theorem P1.snoc (h:P1 p as xs) (hb:p b y):P1 p (as ++ [b]) (xs ++ [y]):=h.app (P1.one hb)
theorem P1.set (h:P1 p as xs) (hb:p b y):P1 p (as.set i b) (xs.set i y):=by
 refine⟨by rw[Xy,Xy,h.1],fun j a x e1 e2=>?_⟩
 have hl:=h.1
 rw[XJ]at e1 e2
 by_cases z:i=j
 ·rw[UN z]at e1 e2
  subst z
  by_cases c:i<as.length
  ·rw[UN c]at e1
   rw[UN (by omega)]at e2
   cases e1;cases e2;exact hb
  ·rw[UM c]at e1;cases e1
 ·rw[UM z]at e1 e2
  exact h.2 j a x e1 e2
theorem P1.take (h:P1 p as xs) (n:Nat):P1 p (as.take n) (xs.take n):=by
 refine⟨by rw[UH,UH,h.1],fun i a x e1 e2=>?_⟩
 rw[Wu]at e1 e2
 split at e1
 ·rename_i c
  rw[UN c]at e2
  exact h.2 i a x e1 e2
 ·cases e1
theorem P1.drop (h:P1 p as xs) (n:Nat):P1 p (as.drop n) (xs.drop n):=by
 refine⟨by rw[Vt,Vt,h.1],fun i a x e1 e2=>?_⟩
 rw[VY]at e1 e2
 exact h.2 _ a x e1 e2
theorem P1.tail (h:P1 p (a::as) (x::xs)):p a x/\P1 p as xs:=by
 refine⟨h.2 0 a x rfl rfl,by have:=h.1;simpa using this,fun i b y e1 e2=>h.2 (i+1) b y (by simpa using e1) (by simpa using e2)⟩
end
def GD (K:W.Frag) (H:Hp) (n:Nat) (v:V) (d:PyData):Prop:=DV K H v d/\PyData.canLay0 d=true/\PyData.depth d<=n
def yO (K:W.Frag) (H:Hp) (n:Nat) (vs:List V) (ds:List PyData):Prop:=z_ K H vs ds/\PyData.canLayAll0 ds=true/\PyData.depthAll ds<=n
section
variable {K:W.Frag}{H:Hp}{n:Nat}{v:V}{d:PyData}{vs:List V}{ds:List PyData}
theorem yO.nil:yO K H n [] []:=⟨.nil,rfl,by simp[PyData.depthAll]⟩
theorem yO.cons (h:GD K H n v d) (t:yO K H n vs ds):yO K H n (v::vs) (d::ds):=by
 refine⟨.cons h.1 t.1,?_,?_⟩
 ·rw[PyData.canLayAll0,h.2.1,t.2.1];rfl
 ·rw[PyData.depthAll];exact Nat.max_le.mpr ⟨h.2.2,t.2.2⟩
theorem GD.lst {a:Addr}(h:H a=some (.lst vs)) (g:yO K H n vs ds):GD K H (n+1) (.ref a) (.list ds) :=
 ⟨.lst (aW.of h) g.1,by rw[PyData.canLay0];exact g.2.1,by rw[PyData.depth];have:=g.2.2;omega⟩
theorem GD.tup {a:Addr}(h:H a=some (.tup vs)) (g:yO K H n vs ds):GD K H (n+1) (.ref a) (.tuple ds) :=
 ⟨.tup (iM.of h) g.1,by rw[PyData.canLay0];exact g.2.1,by rw[PyData.depth];have:=g.2.2;omega⟩
theorem GD.int (i:Int):GD K H n (.int i) (.int i):=⟨.int i,rfl,by simp[PyData.depth]⟩
theorem GD.str {z:Str}(h:PyData.strOk z=true):GD K H n (.str z) (.str z):=⟨.str z,by rw[PyData.canLay0];exact h,by simp[PyData.depth]⟩
theorem GD.shaped (h:GD K H n v d) (l:n<=64):SeqAt.shaped d=true:=by
 have:=h.2.2
 simp[SeqAt.shaped,h.2.1];omega
theorem GD.refl (h:GD K H n v d):PyData.eqv d d=true:=SeqAt.eqv_refl d h.2.1
theorem pC {α:Type}{p:Addr->α->Prop}{f:α->PyData}:∀{as:List Addr}{xs:List α},P1 p as xs->(∀a x,x∈xs->p a x->GD K H n (.ref a) (f x))->yO K H n (as.map V.ref) (xs.map f)
 | [],[],_,_=>yO.nil
 | [],_::_,h,_=>by cases h.1
 | _::_,[],h,_=>by cases h.1
 | a::as,x::xs,h,g=>yO.cons (g a x UQ h.tail.1) (pC h.tail.2 fun a x m=>g a x (UK _ m))
end
def En (H:Hp) (v:V):Prop:=∃t k z,v = .ref t/\H t=some (.tup [.int k,.str z])/\PyData.strOk z=true/\0<=k/\k<1152921504606846976/\z.length<=100
def dE (H:Hp) (v:V):PyData:=match v with
 | .ref t=>(match H t with
  | some (.tup [.int k,.str z])=>.tuple [.int k,.str z]
  | _=>.none)
 | _=>.none
theorem En.gd {K:W.Frag}{H:Hp}{v:V}(h:En H v):GD K H 1 v (dE H v):=by
 obtain⟨t,k,z,rfl,h1,h2⟩:=h
 have e:dE H (.ref t) = .tuple [.int k,.str z]:=by
  show(match H t with|some (.tup [.int k,.str z])=>PyData.tuple [.int k,.str z] | _=>.none)=_
  rw[h1]
 rw[e]
 exact GD.tup h1 (.cons (.int _) (.cons (.str h2.1) .nil))
theorem En.keep {H H':Hp}{v:V}(kt:∀t xs,H t=some (.tup xs)->H' t=some (.tup xs)) (h:En H v):En H' v:=by
 obtain⟨t,k,z,rfl,h1,h2⟩:=h
 exact⟨t,k,z,rfl,kt _ _ h1,h2⟩
theorem mZ {K:W.Frag}{H:Hp}:∀{es:List V},(∀v∈es,En H v)->yO K H 1 es (es.map (dE H))
 | [],_=>yO.nil
 | v::es,h=>yO.cons (h v UQ).gd (mZ fun v m=>h v (UK _ m))
def R1 (S:Addr->Prop) (H:Hp) (a:Addr) (es:List V):Prop:=S a/\H a=some (.lst es)
def R2 (S:Addr->Prop) (H:Hp) (b:Addr) (rows:List (List V)):Prop:=S b/\∃as:List Addr,H b=some (.lst (as.map V.ref))/\P1 (R1 S H) as rows
def R3 (S:Addr->Prop) (H:Hp) (h:Addr) (X:List (List (List V))):Prop:=∃bs:List Addr,H h=some (.lst (bs.map V.ref))/\P1 (R2 S H) bs X
section
variable {S S':Addr->Prop}{H H':Hp}{a b h:Addr}{es:List V}{rows:List (List V)}{X:List (List (List V))}
theorem R1.keep (kl:∀a o,S a->H a=some o->H' a=some o) (r:R1 S H a es):R1 S H' a es:=⟨r.1,kl _ _ r.1 r.2⟩
theorem R2.keep (kl:∀a o,S a->H a=some o->H' a=some o) (r:R2 S H b rows):R2 S H' b rows:=by
 obtain⟨s,as,h1,h2⟩:=r
 exact⟨s,as,kl _ _ s h1,h2.imp fun _ _ r=>r.keep kl⟩
theorem R1.weak (w:∀a,S a->S' a) (r:R1 S H a es):R1 S' H a es:=⟨w _ r.1,r.2⟩
theorem R2.weak (w:∀a,S a->S' a) (r:R2 S H b rows):R2 S' H b rows:=by
 obtain⟨s,as,h1,h2⟩:=r
 exact⟨w _ s,as,h1,h2.imp fun _ _ r=>r.weak w⟩
theorem R3.weak (w:∀a,S a->S' a) (r:R3 S H h X):R3 S' H h X:=by
 obtain⟨bs,h1,h2⟩:=r
 exact⟨bs,h1,h2.imp fun _ _ r=>r.weak w⟩
theorem R3.same (s:aO H H') (r:R3 S H h X):R3 S H' h X:=by
 obtain⟨bs,h1,h2⟩:=r
 exact⟨bs,s _ _ h1,h2.imp fun _ _ r=>r.keep fun _ _ _ e=>s _ _ e⟩
end
theorem R2.mem {S:Addr->Prop}{H:Hp}{b:Addr}{rows:List (List V)}(r:R2 S H b rows):R2 (fun x=>S x/\∃o,H x=some o) H b rows:=by
 obtain⟨s,as,h1,h2⟩:=r
 exact⟨⟨s,_,h1⟩,as,h1,h2.imp fun _ _ r=>⟨⟨r.1,_,r.2⟩,r.2⟩⟩
def f7 (H:Hp) (X:List (List (List V))):Prop:=∀rows∈X,∀es∈rows,∀v∈es,En H v
def LW (X:List (List (List V))):Prop:=X.length<=131/\∀rows∈X,rows.length<=131/\∀es∈rows,es.length<=9
theorem f7.keep {H H':Hp}{X:List (List (List V))}(kt:∀t xs,H t=some (.tup xs)->H' t=some (.tup xs)) (h:f7 H X):f7 H' X:=fun r hr es he v hv=>(h r hr es he v hv).keep kt
theorem f7.same {H H':Hp}{X:List (List (List V))}(s:aO H H') (h:f7 H X):f7 H' X:=h.keep fun _ _ e=>s _ _ e
def Bt (H:Hp) (es:List V):PyData:=.list (es.map (dE H))
def xS (H:Hp) (rows:List (List V)):PyData:=.list (rows.map (Bt H))
def dX (H:Hp) (X:List (List (List V))):PyData:=.list (X.map (xS H))
theorem R3.gd {K:W.Frag}{S:Addr->Prop}{H:Hp}{h:Addr}{X:List (List (List V))}(r:R3 S H h X) (e:f7 H X):GD K H 4 (.ref h) (dX H X):=by
 obtain⟨bs,h1,h2⟩:=r
 refine GD.lst h1 (pC h2 fun b rows hm hb=>?_)
 obtain⟨_,as,h3,h4⟩:=hb
 refine GD.lst h3 (pC h4 fun a es hm2 ha=>?_)
 exact GD.lst ha.2 (mZ fun v hv=>e rows hm es hm2 v hv)
def Yd (H:Hp) (y:Addr) (w R:Int) (X:List (List (List V))):Prop:=∃h,H y=some (.tup [.int w,.int R,.ref h])/\R3 (fun _=>True) H h X/\f7 H X/\LW X
def Qf (X:List (List (List V))):Prop:=X.length<=131/\(∀rows∈X,rows.length<=200)/\(cg X).length<=190
def Yq (H:Hp) (y:Addr) (w R:Int) (X:List (List (List V))):Prop:=∃h,H y=some (.tup [.int w,.int R,.ref h])/\R3 (fun _=>True) H h X/\f7 H X/\Qf X
theorem Yd.same {H H':Hp}{y:Addr}{w R:Int}{X:List (List (List V))}(s:aO H H') (h:Yd H y w R X):Yd H' y w R X:=by
 obtain⟨t,h1,h2,h3,h4⟩:=h
 exact⟨t,s _ _ h1,h2.same s,h3.same s,h4⟩
inductive bV
 | rooms (n:Nat)
 | cut (r m:Nat)
 | row (r a:Nat) (es:List V)
def lM (H:Hp) (s:Addr):bV->Prop
 | .rooms n=>H s=some (.tup [.str "rooms",.int n])/\1<=n/\n<=130
 | .cut r m=>H s=some (.tup [.str "cut",.int r,.int m])/\r<=129/\m<=130
 | .row r a es=>∃l,H s=some (.tup [.str "row",.int r,.int a,.ref l])/\H l=some (.lst es)/\r<=129/\a<=129/\es.length<=8/\∀v∈es,En H v
theorem lM.same {H H':Hp}{s:Addr}{st:bV}(sm:aO H H') (h:lM H s st):lM H' s st:=by
 cases st with
 | rooms n=>exact⟨sm _ _ h.1,h.2⟩
 | cut r m=>exact⟨sm _ _ h.1,h.2⟩
 | row r a es =>
  obtain⟨l,h1,h2,h3,h4,h5,h6⟩:=h
  exact⟨l,sm _ _ h1,sm _ _ h2,h3,h4,h5,fun v hv=>(h6 v hv).keep fun _ _ e=>sm _ _ e⟩
def trim {α:Type}(X:List (List α)):List (List α):=(X.reverse.dropWhile (·.isEmpty)).reverse
theorem BP {α:Type}{X:List (List α)}:trim (X ++ [[]])=trim X:=by
 unfold trim
 rw[Xs];rfl
theorem ue {α:Type}{X:List (List α)}{r:List α}(h:r ≠ []):trim (X ++ [r])=X ++ [r]:=by
 unfold trim
 rw[Xs]
 show(List.dropWhile (·.isEmpty) (r::X.reverse)).reverse=_
 rw[List.dropWhile_cons,UM (by simpa using h),Xi,List.reverse_reverse]
theorem cG {α:Type}{X:List (List α)}:(∀r∈trim X,r∈X)/\(trim X).length<=X.length:=by
 unfold trim
 have s:=List.dropWhile_sublist (l:=X.reverse) (p:=fun r:List α=>r.isEmpty)
 exact⟨fun r hr=>V3.mp (s.subset (V3.mp hr)),by rw[Vg];have:=s.length_le;rw[Vg]at this;exact this⟩
def pad {α:Type}(X:List (List α)) (n:Nat):List (List α):=X++List.replicate (n-X.length) []
theorem iB {α:Type}{X:List (List α)}{n:Nat}:(pad X n).length=max X.length n:=by
 unfold pad;rw[Uz,VD];omega
theorem qI {α:Type}{X:List (List α)}{n:Nat}(h:n<=X.length):pad X n=X:=by
 unfold pad;rw[Nat.sub_eq_zero_of_le h];simp
theorem jh {α:Type}{X:List (List α)}{n:Nat}{r:List α}(h:r∈pad X n):r∈X\/r=[]:=by
 unfold pad at h
 rcases UG.mp h with z|z
 ·exact .inl z
 ·exact .inr (V9 z)
def nh (X:List (List (List V))) (r a:Nat) (es:List V):List (List (List V)):=(pad X (r+1)).modify r fun rows=>(pad rows (a+1)).set a es
def gO (X:List (List (List V))):bV->List (List (List V))
 | .rooms _=>trim X
 | .cut r m=>trim (X.modify r (List.take m))
 | .row r a es=>trim (nh X r a es)
def Cn (R:Int):bV->Int
 | .rooms n=>n
 | _=>R
theorem iJ {α:Type}{X:List α}{r:Nat}{f:α->α}{y:α}(h:y∈X.modify r f):y∈X \/ ∃x∈X,y=f x:=by
 obtain⟨i,hi⟩:=Vb h
 rw[Wg]at hi
 cases e:X[i]? with
 | none=>rw[e]at hi;simp at hi
 | some x =>
  rw[e]at hi
  have hm:=UA e
  by_cases z:r=i
  ·have e2:f x=y:=by simpa [z] using hi
   exact .inr ⟨x,hm,e2.symm⟩
  ·have e2:x=y:=by simpa [z] using hi
   exact .inl (e2 ▸ hm)
theorem AB {α:Type}{X:List α}{r:Nat}{f:α->α}{x:α}(h:X[r]? = some x):X.modify r f=X.set r (f x):=by
 refine Vz fun i=>?_
 rw[Wg,XJ]
 by_cases z:r=i
 ·subst z
  obtain⟨hl,e⟩:=Ux.mp h
  simp[hl,e]
 ·simp[z]
theorem Eg {α:Type}{X:List α}{r:Nat}{f:α->α}(h:X.length<=r):X.modify r f=X:=by
 refine Vz fun i=>?_
 rw[Wg]
 by_cases z:r=i
 ·subst z
  rw[UT h];rfl
 ·simp[z]
def KG (X:List (List (List V))):bV->List (List (List V))
 | .rooms _=>X
 | .cut r m=>X.modify r (List.take m)
 | .row r a es=>nh X r a es
theorem z6 {X:List (List (List V))}{st:bV}:gO X st=trim (KG X st):=by cases st <;> rfl
theorem MJ {X:List (List (List V))}{q:List V->Prop}{st:bV}(h:∀rows∈X,∀es∈rows,q es) (h0:q []) (hs:∀r a es,st = .row r a es->q es):∀rows∈KG X st,∀es∈rows,q es:=by
 cases st with
 | rooms n=>exact h
 | cut r m =>
  intro rows hr es he
  rcases iJ hr with z|⟨x,hx,rfl⟩
  ·exact h rows z es he
  ·exact h x hx es (Vn he)
 | row r a e2 =>
  intro rows hr es he
  have hp:∀rows∈pad X (r+1),∀es∈rows,q es:=fun rows hr es he=>by
   rcases jh hr with z|z
   ·exact h rows z es he
   ·rw[z]at he;cases he
  rcases iJ hr with z|⟨x,hx,rfl⟩
  ·exact hp rows z es he
  ·rcases Wo he with z|z
   ·rcases jh z with w|w
    ·exact hp x hx es w
    ·rw[w];exact h0
   ·rw[z];exact hs r a e2 rfl
theorem AR {X:List (List (List V))}{q:List V->Prop}{st:bV}(h:∀rows∈X,∀es∈rows,q es) (h0:q []) (hs:∀r a es,st = .row r a es->q es):∀rows∈gO X st,∀es∈rows,q es:=by
 cases st with
 | rooms n=>exact fun rows hr=>h rows (cG.1 rows hr)
 | cut r m =>
  intro rows hr es he
  rcases iJ (cG.1 rows hr) with z|⟨x,hx,rfl⟩
  ·exact h rows z es he
  ·exact h x hx es (Vn he)
 | row r a e2 =>
  intro rows hr es he
  have hp:∀rows∈pad X (r+1),∀es∈rows,q es:=fun rows hr es he=>by
   rcases jh hr with z|z
   ·exact h rows z es he
   ·rw[z]at he;cases he
  rcases iJ (cG.1 rows hr) with z|⟨x,hx,rfl⟩
  ·exact hp rows z es he
  ·rcases Wo he with z|z
   ·rcases jh z with w|w
    ·exact hp x hx es w
    ·rw[w];exact h0
   ·rw[z];exact hs r a e2 rfl
theorem LW.step {H:Hp}{s:Addr}{X:List (List (List V))}{st:bV}(h:LW X) (hs:lM H s st):LW (gO X st):=by
 have q:=AR (X:=X) (q:=fun es=>es.length<=9) (st:=st) (fun rows hr es he=>(h.2 rows hr).2 es he) (by simp) (fun r a es e=>by subst e;obtain⟨l,_,_,_,_,h5,_⟩:=hs;omega)
 refine⟨?_,fun rows hr=>⟨?_,q rows hr⟩⟩
 ·have h1:=h.1
  cases st with
  | rooms n=>exact UP cG.2 h1
  | cut r m=>exact UP cG.2 (by rw[WQ];exact h1)
  | row r a es =>
   obtain⟨l,_,_,h3,_⟩:=hs
   refine UP cG.2 ?_
   unfold nh
   rw[WQ,iB];omega
 ·cases st with
  | rooms n=>exact(h.2 rows (cG.1 rows hr)).1
  | cut r m =>
   rcases iJ (cG.1 rows hr) with z|⟨x,hx,rfl⟩
   ·exact(h.2 rows z).1
   ·have:=(h.2 x hx).1
    rw[UH];omega
  | row r a es =>
   obtain⟨l,_,_,h3,h4,_⟩:=hs
   have hp:∀rows∈pad X (r+1),rows.length<=131:=fun rows hr=>by
    rcases jh hr with z|z
    ·exact(h.2 rows z).1
    ·rw[z];simp
   rcases iJ (cG.1 rows hr) with z|⟨x,hx,rfl⟩
   ·exact hp rows z
   ·have:=hp x hx
    rw[Xy,iB];omega
theorem f7.mid {H:Hp}{s:Addr}{X:List (List (List V))}{st:bV}(h:f7 H X) (hs:lM H s st):f7 H (KG X st) :=
 MJ (q:=fun es=>∀v∈es,En H v) h (fun v hv=>by cases hv) fun r a es e=>by subst e;obtain⟨l,_,_,_,_,_,h6⟩:=hs;exact h6
theorem f7.step {H:Hp}{s:Addr}{X:List (List (List V))}{st:bV}(h:f7 H X) (hs:lM H s st):f7 H (gO X st) :=
 AR (q:=fun es=>∀v∈es,En H v) h (fun v hv=>by cases hv) fun r a es e=>by subst e;obtain⟨l,_,_,_,_,_,h6⟩:=hs;exact h6
def T1 (S:Addr->Prop) (h:Addr) (bs:List Addr) (H:Hp) (a:Addr) (es:List V):Prop:=S a/\a≠h/\a∉bs/\H a=some (.lst es)
def T2 (S:Addr->Prop) (h:Addr) (bs:List Addr) (H:Hp) (b:Addr) (rows:List (List V)):Prop:=S b/\∃as:List Addr,H b=some (.lst (as.map V.ref))/\P1 (T1 S h bs H) as rows
def T3 (S:Addr->Prop) (H:Hp) (h:Addr) (bs:List Addr) (X:List (List (List V))):Prop:=S h/\H h=some (.lst (bs.map V.ref))/\bs.Nodup/\h∉bs/\P1 (T2 S h bs H) bs X
def Kq (S:Addr->Prop) (H H':Hp):Prop:=∀b o,¬ S b->H b=some o->H' b=some o
def Fr (S:Addr->Prop) (H:Hp):Prop:=∀e,H e=none->S e
section
variable {S:Addr->Prop}{H H':Hp}{h a b c e:Addr}{bs bs' as:List Addr}{es:List V}{rows:List (List V)}{X:List (List (List V))}{i j m:Nat}
theorem T2.keep (kb:∀o,H b=some o->H' b=some o) (kr:∀a o,a≠h->a∉bs->H a=some o->H' a=some o/\a∉bs') (t:T2 S h bs H b rows):T2 S h bs' H' b rows:=by
 obtain⟨s,as,h1,h2⟩:=t
 refine⟨s,as,kb _ h1,h2.imp fun a es t=>?_⟩
 obtain⟨t1,t2,t3,t4⟩:=t
 obtain⟨k1,k2⟩:=kr a _ t2 t3 t4
 exact⟨t1,t2,k2,k1⟩
theorem T3.has (t:T3 S H h bs X) (hb:b∈bs):∃o,H b=some o:=by
 obtain⟨i,hi⟩:=Vb hb
 obtain⟨rows,_,_,as,h1,_⟩:=t.2.2.2.2.get hi
 exact⟨_,h1⟩
theorem T3.new (t:T3 S H h bs X) (ne:H e=none):e≠h/\e∉bs:=by
 refine⟨fun z=>(by rw[z,t.2.1]at ne;cases ne),fun z=>?_⟩
 obtain⟨o,ho⟩:=t.has z
 rw[ho]at ne;cases ne
theorem T3.add (t:T3 S H h bs X) (hk:∀b o,b≠h->H b=some o->H' b=some o) (hh:H' h=some (.lst ((bs ++ [c]).map V.ref))) (nc:H c=none) (sc:S c) (hc:H' c=some (.lst (as.map V.ref))) (hA:P1 (fun a es=>S a/\H a=none/\a≠c/\H' a=some (.lst es)) as rows):T3 S H' h (bs ++ [c]) (X ++ [rows]):=by
 obtain⟨n1,n2⟩:=t.new nc
 have t0:=t
 obtain⟨sh,h1,h2,h3,h4⟩:=t
 refine⟨sh,hh,?_,?_,(h4.imp' fun b rows hb _ t=>t.keep (fun o e=>hk _ _ (fun z=>h3 (z ▸ hb)) e) fun a o m1 m2 e'=>⟨hk _ _ m1 e',fun z=>?_⟩).snoc ⟨sc,as,hc,hA.imp fun a es t=>?_⟩⟩
 ·rw[Vs]
  refine⟨h2,by simp,fun x hx y hy z=>n2 ?_⟩
  have:y=c:=by simpa using hy
  rw[<- this,<- z];exact hx
 ·intro z
  rcases UG.mp z with w|w
  ·exact h3 w
  ·have:h=c:=by simpa using w
   exact n1 this.symm
 ·obtain⟨m1,m2⟩:=t0.new t.2.1
  refine⟨t.1,m1,fun z=>?_,t.2.2.2⟩
  rcases UG.mp z with w|w
  ·exact m2 w
  ·exact t.2.2.1 (by simpa using w)
 ·rcases UG.mp z with w|w
  ·exact m2 w
  ·have:a=c:=by simpa using w
   rw[this,nc]at e';cases e'
theorem BA {bs:List Addr}{c:Addr}(n:bs.Nodup) (nc:c∉bs):∀{i:Nat},(bs.set i c).Nodup:=by
 intro i
 induction bs generalizing i with
 | nil=>simp
 | cons x bs ih =>
  obtain⟨n1,n2⟩:=Vq.mp n
  cases i with
  | zero=>exact Vq.mpr ⟨fun z=>nc (UK _ z),n2⟩
  | succ i =>
   refine Vq.mpr ⟨fun z=>?_,ih n2 (fun z=>nc (UK _ z))⟩
   rcases Wo z with w|w
   ·exact n1 w
   ·exact nc (w ▸ UQ)
theorem T3.put (t:T3 S H h bs X) (nc:H c=none) (hk:∀b o,b≠h->H b=some o->H' b=some o) (hh:H' h=some (.lst ((bs.set i c).map V.ref))) (hn:T2 S h (bs.set i c) H' c rows):T3 S H' h (bs.set i c) (X.set i rows):=by
 obtain⟨n1,n2⟩:=t.new nc
 obtain⟨sh,h1,h2,h3,h4⟩:=t
 have mem:∀{x},x∈bs.set i c->x∈bs\/x=c:=fun z=>Wo z
 refine⟨sh,hh,BA h2 n2,fun z=>?_,P1.set (h4.imp' fun b rows hb _ t=>t.keep (fun o e=>hk _ _ (fun z=>h3 (z ▸ hb)) e) fun a o m1 m2 e'=>⟨hk _ _ m1 e',fun z=>?_⟩) hn⟩
 ·rcases mem z with w|w
  ·exact h3 w
  ·exact n1 w.symm
 ·rcases mem z with w|w
  ·exact m2 w
  ·rw[w,nc]at e';cases e'
theorem T3.same (s:aO H H') (t:T3 S H h bs X):T3 S H' h bs X:=by
 obtain⟨sh,h1,h2,h3,h4⟩:=t
 exact⟨sh,s _ _ h1,h2,h3,h4.imp fun b rows t=>t.keep (fun o e=>s _ _ e) fun a o m1 m2 e=>⟨s _ _ e,m2⟩⟩
theorem T2.r2 (t:T2 S h bs H b rows):R2 S H b rows:=by
 obtain⟨s,as,h5,h6⟩:=t
 exact⟨s,as,h5,h6.imp fun a es t=>⟨t.1,t.2.2.2⟩⟩
theorem T3.r3S (t:T3 S H h bs X):R3 S H h X:=by
 obtain⟨sh,h1,h2,h3,h4⟩:=t
 refine⟨bs,h1,h4.imp fun b rows t=>?_⟩
 obtain⟨s,as,h5,h6⟩:=t
 exact⟨s,as,h5,h6.imp fun a es t=>⟨t.1,t.2.2.2⟩⟩
end
theorem Ed {n j:Nat}(h:j<n):yP n (j:Int)=some j:=by
 unfold yP
 rw[UN (by omega),UN (by omega),VU]
theorem dO {as:List Addr}{k:Nat}:jy (as.map V.ref) none (some (k:Int)) =(as.take k).map V.ref:=by
 unfold jy
 rw[HT.sIx_nat,HT.sIx_none,Xk,Nat.sub_zero,W3,Uv]
 by_cases h:k<=as.length
 ·rw[VM h]
 ·rw[Nat.min_eq_right (by omega),UW (by rw[Uv];omega),UW (by rw[Uv];omega)]
theorem Ax {α:Type}{xs:List α}(h:xs ≠ []):∃ys y,xs=ys ++ [y]:=⟨xs.dropLast,xs.getLast h,(Xf h).symm⟩
theorem DX {as:List Addr}:decide (as ≠ []) = !(as.map V.ref).isEmpty:=by cases as <;> rfl
def IP (K:W.Frag):Sp:=fun vs H Q _=>∃(S:Addr->Prop) (h:Addr) (bs:List Addr) (X:List (List (List V))) (r m:Nat),vs=[.ref h,.int r,.int m]/\T3 S H h bs X/\Fr S H /\
 ∀bs' H',T3 S H' h bs' (X.modify r (List.take m))->Kq S H H'->Q .non H'
def yN (K:W.Frag):Sp:=fun vs H Q _=>∃(S:Addr->Prop) (h:Addr) (bs:List Addr) (X:List (List (List V))),vs=[.ref h]/\T3 S H h bs X /\
 ∀bs' H',T3 S H' h bs' (trim X)->Kq S H H'->Q .non H'
def Kz (K:W.Frag):Sp:=fun vs H Q _=>∃(S:Addr->Prop) (h:Addr) (bs:List Addr) (X:List (List (List V))) (r a:Nat) (l:Addr) (es:List V),vs=[.ref h,.int r,.int a,.ref l]/\T3 S H h bs X/\Fr S H/\LW X/\r<=129/\a<=129/\¬ S l/\H l=some (.lst es)/\es.length<=9 /\
 ∀bs' H',T3 S H' h bs' (nh X r a es)->Kq S H H'->Q .non H'
def Iw (K:W.Frag):Sp:=fun vs H Q _=>∃(y ss:Addr) (w R:Int) (X:List (List (List V))) (sa:List Addr) (sts:List bV),vs=[.ref y,.ref ss]/\Yd H y w R X/\H ss=some (.lst (sa.map V.ref))/\P1 (lM H) sa sts /\
 ∀y' h' bs' H',H' y'=some (.tup [.int w,.int (sts.foldl Cn R),.ref h'])->T3 (fun b=>H b=none) H' h' bs' (sts.foldl gO X)->aO H H'->Q (.ref y') H'
def Qd (K:W.Frag):Sp:=fun vs H Q _=>∃(y s:Addr) (w R:Int) (X:List (List (List V))) (st:bV),vs=[.ref y,.ref s]/\Yd H y w R X/\lM H s st /\
 ∀y' h' bs' H',H' y'=some (.tup [.int w,.int (Cn R st),.ref h'])->T3 (fun b=>H b=none) H' h' bs' (gO X st)->aO H H'->Q (.ref y') H'
theorem Ge (a b:Str):(a++b).cps=a.cps++b.cps:=rfl
theorem zg (a b:Str):(a++b).length=a.length+b.length:=by
 show(a.cps++b.cps).size=_
 rw[Array.size_append];rfl
theorem GI {a b:Str}(h1:∀c∈a.cps,c<128) (h2:∀c∈b.cps,c<128):∀c∈(a++b).cps,c<128:=by
 intro c hc
 rw[Ge]at hc
 rcases Array.mem_append.mp hc with z|z
 ·exact h1 c z
 ·exact h2 c z
theorem wY:∀ys:List Str,(∀y∈ys,y.length=1/\∀c∈y.cps,c<128)->(Str.join ⟨#[]⟩ ys).length=ys.length/\∀c∈(Str.join ⟨#[]⟩ ys).cps,c<128
 | [],_=>⟨rfl,fun c hc=>absurd hc (by simp[Str.join,Str.empty])⟩
 | y::r,h=>by
  obtain⟨h1,h2⟩:=wY r fun z hz=>h z (UK _ hz)
  obtain⟨g1,g2⟩:=h y UQ
  rw[PyProof.Rows.join_nil_cons]
  refine⟨by rw[zg,h1,g1,VH];omega,GI g2 h2⟩
theorem O5 (ys:List Str):Txt.join (Str.ofString "") ys=Str.join ⟨#[]⟩ ys:=by
 have e:Str.ofString "" =⟨#[]⟩:=by decide
 rw[e]
 exact StrLaws.glued_eq_join _ _
theorem xH:∀ys:List Str,(∀y∈ys,y.length=1/\∀c∈y.cps,c<128)->(ys.map (·.length)).sum=ys.length
 | [],_=>rfl
 | y::r,h=>by
  rw[Vi,List.sum_cons,xH r fun z hz=>h z (UK _ hz),(h y UQ).1,VH];omega
theorem BD {z:Str}(h:∀c∈z.cps,c<128):PyData.strOk z=true:=by
 unfold PyData.strOk
 rw[Array.all_eq_true_iff_forall_mem]
 intro c hc
 have:=h c hc
 simp;omega
def EV (H H':Hp):Hp:=fun b=>match H b with
 | none=>H' b
 | some _=>none
def rL (K:W.Frag):Sp:=fun vs H Q _=>∃(p:Addr) (N:Nat),vs=[.ref p]/\Hand H p N/\N+30<2^60 /\
 ∀(z:Str) (H':Hp),PyData.strOk z=true->z.length<=100->Hand H' p (N+20)->Kp H H' p->Q (.str z) H'
def E1 (K:W.Frag):Sp:=fun vs H Q _=>∃(n:Int),vs=[.int n]/\Q (.bl true) H
def u5 (K:W.Frag):Sp:=fun vs H Q _=>∃(y:Addr) (w R:Int) (X:List (List (List V))),vs=[.ref y]/\Yd H y w R X /\
 ∀y' h' bs' H',H y'=none->H' y'=some (.tup [.int w,.int R,.ref h'])->T3 (fun b=>H b=none) H' h' bs' X->aO H H'->Q (.ref y') H'
theorem iF {H H':Hp}{p:Addr}{N:Nat}(hh:Hand H p N) (k:Kp H H' p):∀t xs,H t=some (.tup xs)->H' t=some (.tup xs):=fun t xs e=>by
 obtain⟨l1,d,c,ns,h1,_⟩:=hh.ex
 exact k.1 _ _ e (oj e h1 (by intro z;cases z))
theorem Mk {r:Int}(h0:0<=r) (h1:r<26):∃c,rA (Str.ofString "abcdefghijklmnopqrstuvwxyz").cps.toList r=some c/\c<128:=by
 obtain⟨n,rfl⟩ : ∃n:Nat,r =(n:Int):=⟨r.toNat,by omega⟩
 have hl:(Str.ofString "abcdefghijklmnopqrstuvwxyz").cps.toList.length=26:=by z_go
 have ha:∀c∈(Str.ofString "abcdefghijklmnopqrstuvwxyz").cps.toList,c<128:=by z_go
 have hi:=Uy (l:=(Str.ofString "abcdefghijklmnopqrstuvwxyz").cps.toList) (i:=n) (by omega)
 exact⟨_,jf hi,ha _ (UA hi)⟩
theorem AV {α:Type}{f:α->PyData}{xs:List α}:PyData.eqv (.list (xs.map f)) (.list [])=decide (xs=[]):=by
 rw[PyData.eqv]
 cases xs with
 | nil=>rfl
 | cons x xs=>rw[Vi,PyData.eqvAll];simp
theorem uG {as:List Addr}{k:Nat}:jy (as.map V.ref) (some (k:Int)) none =(as.drop k).map V.ref:=by
 unfold jy
 rw[HT.sIx_nat,HT.sIx_none,Uv,<- List.map_drop]
 by_cases h:k<=as.length
 ·rw[VM h,UW (by rw[Uv,Vt];omega)]
 ·rw[Vf (by omega:as.length<=min k as.length),Vf (by omega:as.length<=k)]
  simp
theorem F_ {α:Type}{P:List α}{a:Nat}{x:α}(h:a<P.length):P.take a ++ [x]++P.drop (a+1)=P.set a x:=by
 rw[List.set_eq_take_append_cons_drop,UN h,U5];rfl
def eD (H:Hp) (v:V):Int×Str:=match v with
 | .ref t=>(match H t with
  | some (.tup [.int k,.str z])=>(k,z)
  | _=>(0,⟨#[]⟩))
 | _=>(0,⟨#[]⟩)
theorem oA {H:Hp}{t:Addr}{k:Int}{z:Str}(h:H t=some (.tup [.int k,.str z])):eD H (.ref t) =(k,z):=by
 show(match H t with|some (.tup [.int k,.str z])=>(k,z)|_=>(0,⟨#[]⟩))=_
 rw[h]
theorem En.pt {H:Hp}{v:V}(h:En H v):∃t,v = .ref t/\H t=some (.tup [.int (eD H v).1,.str (eD H v).2])/\PyData.strOk (eD H v).2=true/\0 <=(eD H v).1/\(eD H v).1<1152921504606846976/\(eD H v).2.length<=100:=by
 obtain⟨t,k,z,rfl,h1,h2⟩:=h
 rw[oA h1]
 exact⟨t,rfl,h1,h2⟩
theorem En.eD {H H':Hp}{v:V}(kt:∀t xs,H t=some (.tup xs)->H' t=some (.tup xs)) (h:En H v):eD H' v=eD H v:=by
 obtain⟨t,k,z,rfl,h1,h2⟩:=h
 rw[oA h1,oA (kt _ _ h1)]
def aH (H:Hp) (es:List V):List (Int×Str):=es.map (eD H)
def au (H:Hp) (rows:List (List V)):List (List (Int×Str)):=rows.map (aH H)
def qV (rs:List (List (Int×Str))):List (List Int):=rs.map fun r=>r.map (·.1)
def IF (H:Hp) (X:List (List (List V))):Prop:=∀rows∈X,∀es∈rows,((aH H es).map (·.1)).Nodup
theorem bZ {H H':Hp}{es:List V}(kt:∀t xs,H t=some (.tup xs)->H' t=some (.tup xs)) (h:∀v∈es,En H v):aH H' es=aH H es:=VC fun v hv=>(h v hv).eD kt
theorem IF.keep {H H':Hp}{X:List (List (List V))}(kt:∀t xs,H t=some (.tup xs)->H' t=some (.tup xs)) (e:f7 H X) (h:IF H X):IF H' X:=fun rows hr es he=>by
 rw[bZ kt (e rows hr es he)];exact h rows hr es he
theorem gq {H H':Hp}{rows:List (List V)}(kt:∀t xs,H t=some (.tup xs)->H' t=some (.tup xs)) (h:∀es∈rows,∀v∈es,En H v):au H' rows=au H rows:=VC fun es he=>bZ kt (h es he)
def pick (k:Int) (r:List (Int×Str)):Option Str:=(r.find? fun e=>decide (e.1=k)).map (·.2)
def iW (k:Int):List (List (Int×Str))->Option Str×Int
 | []=>(none,0)
 | r::rs=>if cP k (r.map (·.1))=true then(pick k r,1) else((iW k rs).1,(iW k rs).2+1)
theorem mh {k:Int}{r:List (Int×Str)}:(pick k r).isSome=decide (k∈r.map (·.1)):=by
 unfold pick
 rw[Option.isSome_map]
 cases e:r.find? fun e=>decide (e.1=k) with
 | none =>
  have h:=Xd.mp e
  refine(U6 fun hm=>?_).symm
  obtain⟨x,hx,hk⟩:=UC.mp hm
  exact h x hx (by simpa using hk)
 | some x =>
  have h1:=WU e
  have h2:x.1=k:=by simpa using List.find?_some e
  exact(U8 (UC.mpr ⟨x,h1,h2⟩)).symm
theorem xM {k:Int}:∀{rs:List (List (Int×Str))},fC k (qV rs) =((iW k rs).1.isSome,(iW k rs).2)
 | []=>rfl
 | r::rs=>by
  show fC k (r.map (·.1)::qV rs)=_
  rw[fC,iW]
  split
  ·rw[mh]
  ·rw[xM (rs:=rs)]
theorem CT {k:Int}{z:Str}:∀{rs:List (List (Int×Str))},(iW k rs).1=some z->∃(i:Nat) (r:List (Int×Str)),(iW k rs).2=i+1/\rs[i]? = some r/\pick k r=some z
 | [],h=>by cases h
 | r::rs,h=>by
  rw[iW]at h ⊢
  split at h
  ·rename_i c
   rw[UN c]
   exact⟨0,r,rfl,rfl,h⟩
  ·rename_i c
   rw[UM c]
   obtain⟨i,r',h1,h2,h3⟩:=CT (rs:=rs) h
   exact⟨i+1,r',by show(iW k rs).2+1=_;rw[h1];push_cast;rfl,by simpa using h2,h3⟩
def xV:Option Str->V
 | none=>.non
 | some z=>.str z
def bw (X:List (List (List V))) (k R:Int):List (List V):=(X[(az k R).toNat]?).getD []
theorem tN {k:Key}:∀{ps:List (Key×V)}{kvs:List (Key×V)},(∀p∈ps,p.1≠k)->dj (fG kvs ps) k=dj kvs k
 | [],_,_=>rfl
 | p::ps,kvs,h=>by
  show dj (fG (putK kvs p.1 p.2) ps) k=_
  rw[tN fun q hq=>h q (UK _ hq),wL,UM (fun z=>h p UQ z.symm)]
theorem rq {k:Int}{z:Str}:∀{r:List (Int×Str)}{kvs:List (Key×V)},(r.map (·.1)).Nodup->pick k r=some z->dj (fG kvs (r.map fun e=>((Sum.inl e.1:Key),V.str e.2))) (Sum.inl k)=some (.str z)
 | [],_,_,h=>by cases h
 | e::r,kvs,hn,h=>by
  rw[Vi]at hn
  obtain⟨n1,n2⟩:=Vq.mp hn
  show dj (fG (putK kvs (Sum.inl e.1) (.str e.2)) _) _=_
  by_cases c:e.1=k
  ·have hz:e.2=z:=by
    unfold pick at h
    rw[Xe (by simpa using c)]at h
    simpa using h
   rw[tN,wL,UN (by rw[c]),hz]
   intro p hp
   obtain⟨x,hx,rfl⟩:=UC.mp hp
   intro w
   have w':x.1=k:=Sum.inl.inj w
   exact n1 (by rw[c,<- w'];exact UC.mpr ⟨x,hx,rfl⟩)
  ·refine rq n2 ?_
   unfold pick at h ⊢
   rw[List.find?_cons_of_neg (by simpa using c)]at h
   exact h
def u9 (K:W.Frag):Sp:=fun vs H Q _=>∃(k R:Int),vs=[.int k,.int R]/\0<=k/\k<2^61/\1<=R/\R<=2^60/\Q (.int (az k R)) H
def zk (K:W.Frag):Sp:=fun vs H Q _=>∃(h:Addr) (bs:List Addr) (r:Nat),vs=[.ref h,.int r]/\H h=some (.lst (bs.map V.ref))/\∀o H1,aO H H1->(bs[r]? = some o \/(bs.length<=r/\H1 o=some (.lst [])))->Q (.ref o) H1
def yJ (K:W.Frag):Sp:=fun vs H Q _=>∃(y:Addr) (w R k:Int) (X:List (List (List V))),vs=[.ref y,.int k]/\Yd H y w R X/\IF H X/\1<=R/\R<=2^60 /\
 ∀t H',H' t=some (.tup [xV (iW k (au H (bw X k R))).1,.int (iW k (au H (bw X k R))).2])->aO H H'->Q (.ref t) H'
def sI (K:W.Frag):Sp:=fun vs H Q _=>∃(y:Addr) (w R k:Int) (X:List (List (List V))),vs=[.ref y,.int k]/\Yd H y w R X/\0<=k/\k<2^61/\1<=R/\R<=2^60 /\
 ∀t H',H' t=some (.tup [xV (iW k (au H (bw X k R))).1,.int (iW k (au H (bw X k R))).2])->aO H H'->Q (.ref t) H'
theorem CK.mono {H0 H':Hp}{p D:Addr}{N M:Nat}{ys:List V}(c:CK H0 p D N ys H') (h:N<=M):CK H0 p D M ys H':=⟨c.hh.mono h,c.lat,c.kp,c.n0,c.np,c.nc⟩
def Ir (K:W.Frag):Sp:=fun vs H Q _=>∃(p kl:Addr) (N:Nat) (ks:List Int),vs=[.ref p,.ref kl]/\Hand H p N/\N+2000<2^60/\H kl=some (.lst (ks.map V.int))/\kl≠p/\ks ≠ []/\ks.length<=50 /\
 ∀(l:Addr) (es:List V) (H':Hp),H l=none->H' l=some (.lst es)->es.length<=3->(∀v∈es,En (EV H H') v)->((aH H' es).map (·.1)).Nodup->Hand H' p (N+300)->Kp H H' p->Q (.ref l) H'
def jQ (K:W.Frag):Sp:=fun vs H Q _=>∃(a:Addr) (ns:List Int) (l m:Int),vs=[.ref a,.int l,.int m]/\aW K H a (ns.map V.int)/\ns.length<=63/\0<=l/\l<=100/\0<=m/\m<=100 /\
 ∀(n:Nat) (l':Addr) (H':Hp),n<=100->H l'=none->H' l'=some (.lst ((Bq n).map V.int))->aO H H'->Q (.ref l') H'
def kE (H:Hp) (t:Addr):Int:=(eD H (.ref t)).1
theorem fZ {H:Hp}{ts:List Addr}:(aH H (ts.map V.ref)).map (·.1)=ts.map (kE H):=by
 unfold aH kE
 rw[Vo,Vo];rfl
theorem zh {α:Type}{f:Addr->α}{ts:List Addr}(n:(ts.map f).Nodup):∀t∈ts,∀u∈ts,f t=f u->t=u:=fun t ht u hu e=>by
 obtain⟨i,hi⟩:=Vb ht
 obtain⟨j,hj⟩:=Vb hu
 have e1:(ts.map f)[i]? =(ts.map f)[j]?:=by rw[UI,UI,hi,hj];exact Vk some e
 have il:i <(ts.map f).length:=by rw[Uv];exact(Ux.mp hi).1
 have ij:=(List.getElem?_inj il n).mp e1
 subst ij
 rw[hi]at hj
 exact US hj
theorem tw {k:Int}{j:Nat}:k%2^(j+1)=k%2^j+2^j*(k / 2^j%2):=by
 have pp:=fM j
 rw[VW]
 generalize (2:Int)^j=p at *
 have e:k / (p*2)=k / p / 2:=(Int.ediv_ediv_of_nonneg (show 0<=p by omega)).symm
 rw[Int.emod_def k (p*2),Int.emod_def k p,Int.emod_def (k / p) 2,e,Int.mul_sub]
 have a:p*2*(k / p / 2)=p*(2*(k / p / 2)):=Int.mul_assoc _ _ _
 omega
theorem zf {k:Int}{i j:Nat}(h0:0<=k) (h:k / 2^j<=0) (hij:j<=i):k%2^i=k:=by
 have p:=fM j
 have m:=lS hij
 have:k<2^j:=by
  by_cases c:k<2^j
  ·exact c
  ·have:=Int.le_ediv_of_mul_le p (show 1*2^j<=k by omega)
   omega
 exact WD h0 (by omega)
theorem jg {H:Hp}:∀{es:List V},(∀v∈es,En H v)->∃ts:List Addr,es=ts.map V.ref
 | [],_=>⟨[],rfl⟩
 | v::es,h=>by
  obtain⟨t,_,_,rfl,_⟩:=h v UQ
  obtain⟨ts,rfl⟩:=jg fun v hv=>h v (UK _ hv)
  exact⟨t::ts,rfl⟩
theorem yU {k:Int}{r:List (Int×Str)}:((r.filter fun e=>decide (e.1=k)).map (fun e=>V.str e.2) ++ [V.non])[0]? = some (xV (pick k r)):=by
 unfold pick
 rw[<- List.head?_filter]
 cases r.filter fun e=>decide (e.1=k) with
 | nil=>rfl
 | cons x l=>rfl
section
def aD {α:Type}(s:List α) (w:Nat):List (List α):=(List.range (eK s.length w).toNat).map fun i=>(s.drop (i*w)).take w
theorem fk {α:Type}(s:List α) (w:Nat):(aD s w).length =(eK s.length w).toNat:=by unfold aD;rw[Uv,V6]
theorem nO {α β:Type}(f:α->β) (s:List α) (w:Nat):(aD s w).map (List.map f)=aD (s.map f) w:=by
 unfold aD
 rw[Vo,Uv]
 apply VC
 intro i _
 show List.map f ((s.drop (i*w)).take w)=_
 rw[W3,List.map_drop]
theorem kc {α:Type}(s:List α) (w:Nat):∀n:Nat,((List.range n).map fun i=>(s.drop (i*w)).take w).flatten=s.take (n*w)
 | 0=>by simp
 | n+1=>by
  rw[List.range_succ,UB,Vv,kc s w n,Nat.succ_mul,List.take_add]
  simp
theorem bI {α:Type}(s:List α) {w:Nat}(h:1<=w):(aD s w).flatten=s:=by
 unfold aD
 rw[kc]
 obtain⟨g1,g2,_⟩:=qE (g:=eK s.length w) (w:=w) (m:=s.length) (by omega) (by omega) rfl
 apply UW
 have e:(((eK s.length w).toNat*w:Nat):Int)=w*eK s.length w:=by
  rw[Int.natCast_mul,Int.mul_comm]
  congr 1
  omega
 omega
theorem AS {m w:Nat}{i:Nat}(h1:1<=w) (h2:m <=(i+1)*w) (h3:i=0\/i*w<m):(eK m w).toNat=i+1:=by
 obtain⟨g1,g2,g3⟩:=qE (g:=eK m w) (w:=w) (m:=m) (by omega) (by omega) rfl
 obtain⟨g,hg⟩ : ∃g:Nat,eK m w =(g:Int):=⟨(eK m w).toNat,by omega⟩
 rw[hg]at g1 g2 g3 ⊢
 rw[VU]
 have g2':m<=w*g:=by exact_mod_cast g2
 by_cases c:i+1<g
 ·exfalso
  have:(i+1)*w<=w*(g-1):=by rw[Nat.mul_comm w];exact VZ _ (by omega)
  rcases g3 with g3|g3
  ·omega
  ·have e:(w:Int)*((g:Int)-1) =((w*(g-1):Nat):Int):=by
    rw[Int.natCast_mul];congr 1;omega
   omega
 ·by_cases d:g<i+1
  ·exfalso
   have:w*g<=i*w:=by rw[Nat.mul_comm i];exact Nat.mul_le_mul_left _ (by omega)
   omega
  ·omega
variable {τ:Type}
def cH (w R:Nat) (es:List (Int×τ)) (P:List (List (List (Int×τ)))):Prop :=
 P.length=R/\∀(r:Nat) (rows:List (List (Int×τ))),P[r]? = some rows->∃s,s.Perm (es.filter fun e=>decide (az e.1 R =(r:Int)))/\s.Pairwise (fun a b=>a.1<=b.1)/\rows=aD s w
def h_ (P:List (List (List (Int×τ)))):List (Int×τ):=(P.map List.flatten).flatten
theorem AG {s:List (Int×τ)}(h:(s.map (·.1)).Nodup) {a b:Int×τ}(ha:a∈s) (hb:b∈s) (e:a.1=b.1):a=b:=by
 induction s with
 | nil=>cases ha
 | cons x s ih =>
  rw[Vi,Vq]at h
  rcases U9.mp ha with h1|h1
  ·rcases U9.mp hb with h2|h2
   ·rw[h1,h2]
   ·exact absurd (UC.mpr ⟨b,h2,by rw[<- e,h1]⟩) h.1
  ·rcases U9.mp hb with h2|h2
   ·exact absurd (UC.mpr ⟨a,h1,by rw[e,h2]⟩) h.1
   ·exact ih h.2 h1 h2
theorem Eo {s s' l:List (Int×τ)}(hl:(l.map (·.1)).Nodup) (p:s.Perm l) (p':s'.Perm l) (h:s.Pairwise (fun a b=>a.1<=b.1)) (h':s'.Pairwise (fun a b=>a.1<=b.1)):s=s' :=
 List.Perm.eq_of_pairwise (le:=fun a b:Int×τ=>a.1<=b.1) (fun a b ha hb x y=>AG hl (p.mem_iff.mp ha) (p'.mem_iff.mp hb) (by omega)) h h' (p.trans p'.symm)
theorem keys_filter {es:List (Int×τ)}(hn:(es.map (·.1)).Nodup) (f:Int×τ->Bool):((es.filter f).map (·.1)).Nodup:=hn.sublist (List.filter_sublist.map _)
theorem cH.uniq {w R:Nat}{es:List (Int×τ)}{P P':List (List (List (Int×τ)))}(hn:(es.map (·.1)).Nodup) (h:cH w R es P) (h':cH w R es P'):P=P':=by
 refine Vz fun r=>?_
 by_cases c:r<R
 ·have e1:P[r]? = some (P[r]'(by rw[h.1];exact c)):=Uy _
  have e2:P'[r]? = some (P'[r]'(by rw[h'.1];exact c)):=Uy _
  obtain⟨s,p,q,e⟩:=h.2 r _ e1
  obtain⟨s',p',q',e'⟩:=h'.2 r _ e2
  rw[e1,e2,e,e',Eo (keys_filter hn _) p p' q q']
 ·rw[UT (by rw[h.1];omega),UT (by rw[h'.1];omega)]
theorem cH.perm {w R:Nat}{es es':List (Int×τ)}{P:List (List (List (Int×τ)))}(p:es.Perm es') (h:cH w R es P):cH w R es' P:=by
 refine⟨h.1,fun r rows e=>?_⟩
 obtain⟨s,p1,p2,p3⟩:=h.2 r rows e
 exact⟨s,p1.trans (p.filter _),p2,p3⟩
theorem cH.room {w R:Nat}{es:List (Int×τ)}{P:List (List (List (Int×τ)))}(h:cH w R es P) (hw:1<=w) {r:Nat}{rows:List (List (Int×τ))}(e:P[r]? = some rows) (x:Int×τ):x∈rows.flatten↔x∈es/\az x.1 R =(r:Int):=by
 obtain⟨s,p1,p2,p3⟩:=h.2 r rows e
 rw[p3,bI _ hw,p1.mem_iff,Vm]
 simp
theorem cH.mem {w R:Nat}{es:List (Int×τ)}{P:List (List (List (Int×τ)))}(h:cH w R es P) (hw:1<=w) (hR:1<=R) (x:Int×τ):x∈h_ P↔x∈es:=by
 unfold h_
 rw[Vh]
 constructor
 ·rintro⟨l,hl,hx⟩
  obtain⟨rows,hr,rfl⟩:=UC.mp hl
  obtain⟨r,e⟩:=Vb hr
  exact((h.room hw e x).mp hx).1
 ·intro hx
  have b:=bU (k:=x.1) (R:=R) (by omega)
  obtain⟨r,hr,hl⟩ : ∃r:Nat,az x.1 R =(r:Int)/\r<R:=⟨(az x.1 R).toNat,by omega,by omega⟩
  have e1:P[r]? = some (P[r]'(by rw[h.1];exact hl)):=Uy _
  exact⟨_,UC.mpr ⟨_,UA e1,rfl⟩,(h.room hw e1 x).mpr ⟨hx,hr⟩⟩
theorem OM {α:Type}{L:List α}{Q:α->α->Prop}(h:∀(i j:Nat) (a b:α),i<j->L[i]? = some a->L[j]? = some b->Q a b):L.Pairwise Q:=by
 rw[VJ]
 intro i j hi hj hij
 exact h i j _ _ hij (Uy hi) (Uy hj)
theorem cH.nodup {w R:Nat}{es:List (Int×τ)}{P:List (List (List (Int×τ)))}(hn:(es.map (·.1)).Nodup) (h:cH w R es P) (hw:1<=w):((h_ P).map (·.1)).Nodup:=by
 unfold h_
 rw[VO,Ve,List.pairwise_flatten]
 refine⟨fun l hl=>?_,?_⟩
 ·obtain⟨rows,hr,rfl⟩:=UC.mp hl
  obtain⟨r,e⟩:=Vb hr
  obtain⟨s,p1,p2,p3⟩:=h.2 r rows e
  rw[p3,bI _ hw,<- Ve (f:=fun x:Int×τ=>x.1) (R:=fun a b=>a≠b),<- VO]
  exact(p1.map _).nodup_iff.mpr (keys_filter hn _)
 ·rw[Ve]
  refine OM fun i j a b hij ha hb x hx y hy z=>?_
  have h1:=((h.room hw ha x).mp hx).2
  have h2:=((h.room hw hb y).mp hy).2
  rw[z]at h1
  omega
theorem fW {es:List (Int×τ)}(hn:(es.map (·.1)).Nodup):es.Nodup:=by
 rw[VO]at hn ⊢
 rw[Ve]at hn
 exact hn.imp fun h e=>h (by rw[e])
theorem cH.flat {w R:Nat}{es:List (Int×τ)}{P:List (List (List (Int×τ)))}(hn:(es.map (·.1)).Nodup) (h:cH w R es P) (hw:1<=w) (hR:1<=R):(h_ P).Perm es :=
 (Xn (fW (h.nodup hn hw)) (fW hn)).mpr (h.mem hw hR)
end
theorem mJ (ms:List V) (w:Nat):dm ms w=aD ms w:=rfl
theorem cL {α:Type}{s:List α}{w:Nat}{r:List α}{x:α}(hr:r∈aD s w) (hx:x∈r):x∈s:=by
 unfold aD at hr
 obtain⟨i,_,rfl⟩:=UC.mp hr
 exact Vp (Vn hx)
def yD (H:Hp) (X:List (List (List V))):List (List (List (Int×Str))):=X.map (au H)
theorem jm {H H':Hp}{X:List (List (List V))}(kt:∀t xs,H t=some (.tup xs)->H' t=some (.tup xs)) (h:f7 H X):yD H' X=yD H X:=VC fun rows hr=>gq kt (h rows hr)
theorem lU {H H':Hp}{X:List (List (List V))}(s:aO H H') (h:f7 H X):yD H' X=yD H X:=jm (fun _ _ e=>s _ _ e) h
theorem oU {H:Hp}{X:List (List (List V))}:h_ (yD H X) =(cg X).map (eD H):=by
 unfold h_ yD cg
 rw[List.map_flatten,Vo,Vo]
 congr 1
 apply VC
 intro rows _
 show(au H rows).flatten=List.map (eD H) rows.flatten
 rw[List.map_flatten];rfl
def pE (e:Int×Str):PyData:=.tuple [.int e.1,.str e.2]
def zS (r:List (Int×Str)):PyData:=.list (r.map pE)
def Er (r:List (List (Int×Str))):PyData:=.list (r.map zS)
def pX (P:List (List (List (Int×Str)))):PyData:=.list (P.map Er)
def pY (w R:Int) (P:List (List (List (Int×Str)))):PyData:=.tuple [.int w,.int R,pX P]
theorem Ja (a b:Int×Str):PyData.eqv (pE a) (pE b)=decide (a=b):=by
 obtain⟨k,z⟩:=a
 obtain⟨k',z'⟩:=b
 rw[WG]
 simp[pE,PyData.eqv,PyData.eqvAll]
theorem qv {α:Type} [DecidableEq α] {f:α->PyData}(hf:∀a b,PyData.eqv (f a) (f b)=decide (a=b)):∀xs ys:List α,PyData.eqvAll (xs.map f) (ys.map f)=decide (xs=ys)
 | [],[]=>by simp[PyData.eqvAll]
 | [],_::_=>by simp[PyData.eqvAll]
 | _::_,[]=>by simp[PyData.eqvAll]
 | x::xs,y::ys=>by
  rw[Vi,Vi,PyData.eqvAll,hf,qv hf xs ys,WG]
  simp
theorem ED (a b:List (Int×Str)):PyData.eqv (zS a) (zS b)=decide (a=b):=by
 unfold zS;rw[PyData.eqv,qv Ja]
theorem O7 {H:Hp}{v:V}(h:En H v):dE H v=pE (eD H v):=by
 obtain⟨t,k,z,rfl,h1,h2⟩:=h
 rw[oA h1]
 show(match H t with|some (.tup [.int k,.str z])=>PyData.tuple [.int k,.str z] | _=>.none)=_
 rw[h1];rfl
theorem m_ {H:Hp}{es:List V}(h:∀v∈es,En H v):Bt H es=zS (aH H es):=by
 unfold Bt zS aH
 rw[Vo]
 congr 1
 exact VC fun v hv=>O7 (h v hv)
theorem yr {H:Hp}{rows:List (List V)}(h:∀es∈rows,∀v∈es,En H v):xS H rows=Er (au H rows):=by
 unfold xS Er au
 rw[Vo]
 congr 1
 exact VC fun v hv=>m_ (h v hv)
theorem My {H:Hp}{X:List (List (List V))}(h:f7 H X):dX H X=pX (yD H X):=by
 unfold dX pX yD
 rw[Vo]
 congr 1
 exact VC fun v hv=>yr (h v hv)
def EL (H:Hp) (ts:List Addr) (es:List (Int×Str)):Prop:=P1 (fun t e=>H t=some (.tup [.int e.1,.str e.2])/\PyData.strOk e.2=true/\0<=e.1/\e.1<1152921504606846976/\e.2.length<=100) ts es
theorem EL.same {H H':Hp}{ts:List Addr}{es:List (Int×Str)}(s:aO H H') (h:EL H ts es):EL H' ts es:=h.imp fun t e z=>⟨s _ _ z.1,z.2⟩
theorem EL.keep {H H':Hp}{ts:List Addr}{es:List (Int×Str)}(kt:∀t xs,H t=some (.tup xs)->H' t=some (.tup xs)) (h:EL H ts es):EL H' ts es:=h.imp fun t e z=>⟨kt _ _ z.1,z.2⟩
theorem EL.en {H:Hp}{ts:List Addr}{es:List (Int×Str)}(h:EL H ts es):∀v∈ts.map V.ref,En H v:=fun v hv=>by
 obtain⟨t,ht,rfl⟩:=UC.mp hv
 obtain⟨i,hi⟩:=Vb ht
 obtain⟨e,_,h1,h2⟩:=h.get hi
 exact⟨t,e.1,e.2,rfl,h1,h2⟩
theorem EL.row {H:Hp}{ts:List Addr}{es:List (Int×Str)}(h:EL H ts es):aH H (ts.map V.ref)=es:=by
 refine Vz fun i=>?_
 unfold aH
 rw[UI,UI]
 cases c:ts[i]? with
 | none =>
  have:=Wq.mp c
  rw[UT (by rw[<- h.1];exact this)];rfl
 | some t =>
  obtain⟨e,he,h1,_⟩:=h.get c
  rw[he]
  show some (eD H (.ref t))=some e
  rw[oA h1]
theorem EL.of {H:Hp}{vs:List V}(h:∀v∈vs,En H v):∃ts:List Addr,vs=ts.map V.ref/\EL H ts (aH H vs):=by
 obtain⟨ts,rfl⟩:=jg h
 refine⟨ts,rfl,by unfold aH;rw[Uv,Uv],fun i t e e1 e2=>?_⟩
 unfold aH at e2
 rw[UI,UI,e1]at e2
 have e3:eD H (.ref t)=e:=US e2
 obtain⟨t',et,h1,h2⟩:=(h (.ref t) (UC.mpr ⟨t,UA e1,rfl⟩)).pt
 cases et
 rw[<- e3]
 exact⟨h1,h2⟩
theorem tR {α β:Type}:∀{as:List α}{p:Nat->α->β->Prop},(∀i a,as[i]? = some a->∃x,p i a x)->∃xs:List β,xs.length=as.length/\∀i a x,as[i]? = some a->xs[i]? = some x->p i a x
 | [],p,_=>⟨[],rfl,fun i a x e=>by simp at e⟩
 | a::as,p,h=>by
  obtain⟨x,hx⟩:=h 0 a rfl
  obtain⟨xs,hl,hxs⟩:=tR (as:=as) (p:=fun i=>p (i+1)) fun i b e=>h (i+1) b (by simpa using e)
  refine⟨x::xs,by rw[VH,VH,hl],fun i b y e1 e2=>?_⟩
  cases i with
  | zero=>cases e1;cases e2;exact hx
  | succ i=>exact hxs i b y (by simpa using e1) (by simpa using e2)
def KU:V->Str
 | .str z=>z
 | _=>⟨#[]⟩
def vE (e:Int×Str):Int×V:=(e.1,.str e.2)
def uE (e:Int×V):Int×Str:=(e.1,KU e.2)
def Gj (es:List (Int×Str)):List (Int×Str):=(bN [] (es.map vE)).map uE
theorem Ct {p:V->Prop}{qs:List (Int×V)}{k:Int}{v:V}(h:∀e∈qs,p e.2) (hv:p v):∀e∈jw qs k v,p e.2:=fun e he=>by
 unfold jw at he
 split at he
 ·obtain⟨x,hx,rfl⟩:=UC.mp he
  split
  ·exact hv
  ·exact h x hx
 ·rcases UG.mp he with z|z
  ·exact h e z
  ·rw[UR.mp z];exact hv
theorem qf {p:V->Prop}:∀{ps qs:List (Int×V)},(∀e∈qs,p e.2)->(∀e∈ps,p e.2)->∀e∈bN qs ps,p e.2
 | [],qs,h,_=>h
 | x::ps,qs,h,g=>by
  show ∀e∈bN (jw qs x.1 x.2) ps,p e.2
  exact qf (Ct h (g x UQ)) fun e he=>g e (UK _ he)
theorem Dl {qs:List (Int×V)}{k:Int}{v:V}:(jw qs k v).length<=qs.length+1:=by
 unfold jw
 split
 ·rw[Uv];omega
 ·rw[Uz];exact UE _
theorem pP:∀{ps qs:List (Int×V)},(bN qs ps).length<=qs.length+ps.length
 | [],qs=>UE _
 | x::ps,qs=>by
  show(bN (jw qs x.1 x.2) ps).length<=_
  have h1:=pP (ps:=ps) (qs:=jw qs x.1 x.2)
  have h2:=Dl (qs:=qs) (k:=x.1) (v:=x.2)
  rw[VH];omega
theorem CC {es:List (Int×Str)}:(Gj es).map (·.1) =(bN [] (es.map vE)).map (·.1):=by
 unfold Gj;rw[Vo];rfl
theorem Le {es:List (Int×Str)}(h:(es.map (·.1)).Nodup):Gj es=es:=by
 unfold Gj
 rw[uz (by rw[Wn,Vo];exact h),Wn,Vo]
 have:(uE ∘ vE)=id:=rfl
 rw[this,List.map_id]
theorem Gn {es:List (Int×Str)}:(Gj es).length<=es.length:=by
 unfold Gj
 rw[Uv]
 have:=pP (ps:=es.map vE) (qs:=[])
 rw[Uv]at this
 simpa using this
theorem u6:∀{qs:List (Int×V)}{e:Int×V},(qs.map (·.1)).Nodup->e∈qs->ic qs e.1=e.2
 | [],e,_,h=>by cases h
 | x::qs,e,hn,h=>by
  rw[Vi,Vq]at hn
  unfold ic
  by_cases c:x.1=e.1
  ·rw[Xe (by simpa using c)]
   rcases U9.mp h with z|z
   ·rw[z];rfl
   ·exact absurd (UC.mpr ⟨e,z,c.symm⟩) hn.1
  ·rw[List.find?_cons_of_neg (by simpa using c)]
   rcases U9.mp h with z|z
   ·exact absurd (by rw[z]) c
   ·exact u6 hn.2 z
def rowOf (H:Hp) (a:Addr):List V:=match H a with
 | some (.lst es)=>es
 | _=>[]
theorem qx {H:Hp}{a:Addr}{es:List V}(h:H a=some (.lst es)):rowOf H a=es:=by unfold rowOf;rw[h]
def XA (H:Hp) (ass:List (List Addr)):List (List (List V)):=ass.map fun as=>as.map (rowOf H)
structure Sy (S:Addr->Prop) (H:Hp) (h:Addr) (bs:List Addr) (ass:List (List Addr)):Prop where
 hh:H h=some (.lst (bs.map V.ref))
 hb:P1 (fun b (as:List Addr)=>H b=some (.lst (as.map V.ref))) bs ass
 ha:∀a∈ass.flatten,∃es,H a=some (.lst es)
 nd:(h::(bs++ass.flatten)).Nodup
 ns:∀b∈h::(bs++ass.flatten),S b
theorem Sy.r3 {S:Addr->Prop}{H:Hp}{h:Addr}{bs:List Addr}{ass:List (List Addr)}(y:Sy S H h bs ass):R3 (fun _=>True) H h (XA H ass):=by
 refine⟨bs,y.hh,by unfold XA;rw[Uv];exact y.hb.1,fun i b rows e1 e2=>?_⟩
 unfold XA at e2
 rw[UI]at e2
 obtain⟨as,ha,hb⟩:=y.hb.get e1
 rw[ha]at e2
 have e3:as.map (rowOf H)=rows:=US e2
 refine⟨trivial,as,hb,by rw[<- e3,Uv],fun j a es f1 f2=>⟨trivial,?_⟩⟩
 rw[<- e3,UI,f1]at f2
 have f3:rowOf H a=es:=US f2
 obtain⟨es',he⟩:=y.ha a (Vh.mpr ⟨as,UA ha,UA f1⟩)
 rw[qx he]at f3
 rw[he,f3]
theorem zd {H:Hp}{ass:List (List Addr)}:(XA H ass).length=ass.length:=by unfold XA;rw[Uv]
theorem Sy.weak {S S':Addr->Prop}{H:Hp}{h:Addr}{bs:List Addr}{ass:List (List Addr)}(k:∀b,S b->S' b) (y:Sy S H h bs ass):Sy S' H h bs ass:=⟨y.hh,y.hb,y.ha,y.nd,fun b hb=>k b (y.ns b hb)⟩
theorem pW:∀{rs:List Addr}{bss:List (List Addr)},rs.length=bss.length->(EX rs bss).Perm (rs++bss.flatten)
 | [],[],_=>by simp[EX]
 | r::rs,bs::bss,h=>by
  have ih:=pW (rs:=rs) (bss:=bss) (by simpa using h)
  show(r::bs++EX rs bss).Perm (r::(rs++(bs++bss.flatten)))
  rw[List.cons_append]
  refine List.Perm.cons r ?_
  refine(ih.append_left bs).trans ?_
  rw[<- U5,<- U5]
  exact List.perm_append_comm.append_right _
theorem E_ {H0 H:Hp}{es:List (Int×Str)}{ms:List Int}{w R:Nat}{h:Addr}(ok:∀e∈es,PyData.strOk e.2=true/\0<=e.1/\e.1<1152921504606846976/\e.2.length<=100) (hl:es.length<=190) (w1:1<=w) (r1:1<=R) (r2:R<=131)
  (mp:ms.Perm ((bN [] (es.map vE)).map (·.1))) (mo:ms.Pairwise (· <= ·)) (hy:Ik H0 H (ic (bN [] (es.map vE))) w h (bL ms R)) :
  ∃(rs:List Addr) (bss:List (List Addr)),Sy (fun b=>H0 b=none) H h rs bss/\f7 H (XA H bss)/\Qf (XA H bss)/\cH w R (Gj es) (yD H (XA H bss)):=by
 obtain⟨rs,bss,h1,h2,h3,h4,h5,h6⟩:=hy
 rw[cB]at h2 h3
 have mn:((bN [] (es.map vE)).map (·.1)).Nodup:=mP (by simp)
 have mv:∀e∈bN [] (es.map vE),∃z,e.2=V.str z/\PyData.strOk z=true/\z.length<=100:=qf (p:=fun v=>∃z,v=V.str z/\PyData.strOk z=true/\z.length<=100) (fun e he=>by cases he) fun e he=>by
  obtain⟨x,hx,rfl⟩:=UC.mp he
  exact⟨x.2,rfl,(ok x hx).1,(ok x hx).2.2.2⟩
 have mk:∀k∈(bN [] (es.map vE)).map (·.1),0<=k/\k<1152921504606846976:=fun k hk=>by
  rcases qg.mp hk with z|z
  ·cases z
  ·rw[Vo]at z
   obtain⟨x,hx,rfl⟩:=UC.mp z
   exact⟨(ok x hx).2.1,(ok x hx).2.2.1⟩
 have ml:(Gj es).length<=es.length:=Gn
 have mel:Gj es =(bN [] (es.map vE)).map uE:=rfl
 have mk2:=CC (es:=es)
 rw[mel]at ml mk2 ⊢
 generalize bN [] (es.map vE)=m at *
 have sl:∀j,j<R->(bL ms R)[j]? = some (ms.filter fun k=>decide (az k R =(j:Int))):=fun j hj=>eU hj
 obtain⟨tss,tl,hts⟩:=tR (as:=rs) (p:=fun j r (ts:List Addr)=>∀bs,bss[j]? = some bs->ts.length =(ms.filter fun k=>decide (az k R =(j:Int))).length/\(∀(i:Nat) (t:Addr) (k:Int),ts[i]? = some t->(ms.filter fun k=>decide (az k R =(j:Int)))[i]? = some k->H t=some (.tup [.int k,ic m k]))/\H r=some (.lst (bs.map V.ref))/\bs.length =(dm (ts.map V.ref) w).length/\∀(i:Nat) (a:Addr) (es:List V),bs[i]? = some a->(dm (ts.map V.ref) w)[i]? = some es->H a=some (.lst es)) fun j r hr=>by
  have jl:=(Ux.mp hr).1
  have hb:bss[j]? = some (bss[j]'(by omega)):=Uy _
  obtain⟨ts,g1,g2,g3,g4,g5⟩:=h4 j r _ _ hr hb (sl j (by omega))
  refine⟨ts,fun bs e=>?_⟩
  rw[hb]at e
  cases e
  exact⟨g1,g2,g3,g4,g5⟩
 have key:∀(j:Nat) (ts:List Addr),tss[j]? = some ts->j<R/\∃r bs,rs[j]? = some r/\bss[j]? = some bs:=fun j ts e=>by
  have jl:=(Ux.mp e).1
  exact⟨by omega,_,_,Uy (by omega),Uy (by omega)⟩
 have val:∀(j:Nat) (ts:List Addr),tss[j]? = some ts->EL H ts ((ms.filter fun k=>decide (az k R =(j:Int))).map fun k=>(k,KU (ic m k))):=fun j ts e=>by
  obtain⟨jl,r,bs,er,eb⟩:=key j ts e
  obtain⟨g1,g2,_⟩:=hts j r ts er e bs eb
  refine⟨by rw[Uv];exact g1,fun i t x e1 e2=>?_⟩
  rw[UI]at e2
  cases c:(ms.filter fun k=>decide (az k R =(j:Int)))[i]? with
  | none=>rw[c]at e2;cases e2
  | some k =>
   rw[c]at e2
   have e3:(k,KU (ic m k))=x:=US e2
   subst e3
   have km:k∈m.map (·.1):=mp.mem_iff.mp (Vm.mp (UA c)).1
   obtain⟨e,he,hek⟩:=UC.mp km
   have hv:=u6 mn he
   obtain⟨z,hz,hzo,hzl⟩:=mv e he
   have hv2:ic m k=V.str z:=by rw[<- hek,hv,hz]
   have:=g2 i t k e1 c
   rw[hv2]at this ⊢
   exact⟨this,hzo,(mk k km).1,(mk k km).2,hzl⟩
 have hX:XA H bss=tss.map fun ts=>aD (ts.map V.ref) w:=by
  refine Vz fun j=>?_
  unfold XA
  rw[UI,UI]
  cases c:tss[j]? with
  | none=>rw[UT (by have:=Wq.mp c;omega)];rfl
  | some ts =>
   obtain⟨jl,r,bs,er,eb⟩:=key j ts c
   obtain⟨_,_,_,g4,g5⟩:=hts j r ts er c bs eb
   rw[eb]
   show some (bs.map (rowOf H))=some (dm (ts.map V.ref) w)
   congr 1
   refine Vz fun i=>?_
   rw[UI]
   cases d:bs[i]? with
   | none=>rw[UT (by have:=Wq.mp d;omega)];rfl
   | some a =>
    have il:=(Ux.mp d).1
    have e2:(dm (ts.map V.ref) w)[i]? = some ((dm (ts.map V.ref) w)[i]'(by omega)):=Uy _
    rw[e2]
    show some (rowOf H a)=_
    rw[qx (g5 i a _ d e2)]
 have hcl:cH w R (m.map uE) (yD H (XA H bss)):=by
  refine⟨by unfold yD;rw[Uv,zd,h3],fun j rows e=>?_⟩
  rw[hX]at e
  unfold yD at e
  rw[UI,UI]at e
  cases c:tss[j]? with
  | none=>rw[c]at e;cases e
  | some ts =>
   rw[c]at e
   have e2:au H (aD (ts.map V.ref) w)=rows:=US e
   have vr:=(val j ts c).row
   refine⟨(ms.filter fun k=>decide (az k R =(j:Int))).map fun k=>(k,KU (ic m k)),?_,?_,?_⟩
   ·rw[XC]
    have p1:(ms.filter fun k=>decide (az k R =(j:Int))).Perm ((m.map (·.1)).filter fun k=>decide (az k R =(j:Int))):=mp.filter _
    rw[XC]at p1
    refine(p1.map _).trans ?_
    rw[Vo]
    have:((m.filter ((fun k=>decide (az k R =(j:Int))) ∘ fun x=>x.1)).map ((fun k=>(k,KU (ic m k))) ∘ fun x=>x.1)) =(m.filter ((fun e:Int×Str=>decide (az e.1 R =(j:Int))) ∘ uE)).map uE:=by
     have ef:((fun k=>decide (az k R =(j:Int))) ∘ fun x:Int×V=>x.1) =((fun e:Int×Str=>decide (az e.1 R =(j:Int))) ∘ uE):=rfl
     rw[ef]
     apply VC
     intro x hx
     show(x.1,KU (ic m x.1)) =(x.1,KU x.2)
     rw[u6 mn (Vm.mp hx).1]
    rw[this]
   ·rw[Ve]
    exact mo.filter _
   ·rw[<- e2]
    unfold au
    rw[show aH H=List.map (eD H) from rfl,nO]
    congr 1
 have hen:f7 H (XA H bss):=by
  rw[hX]
  intro rows hr es' he v hv
  obtain⟨ts,ht,rfl⟩:=UC.mp hr
  obtain⟨j,hj⟩:=Vb ht
  exact(val j ts hj).en v (cL he hv)
 refine⟨rs,bss,⟨h1,⟨by omega,fun j r bs e1 e2=>?_⟩,fun a ha=>?_,?_,fun b hb=>h6 b ?_⟩,hen,⟨by rw[zd];omega,fun rows hr=>?_,?_⟩,hcl⟩
 ·have e3:tss[j]? = some (tss[j]'(by have:=(Ux.mp e1).1;omega)):=Uy _
  exact(hts j r _ e1 e3 bs e2).2.2.1
 ·obtain⟨bs,hb,ha⟩:=Vh.mp ha
  obtain⟨j,ej⟩:=Vb hb
  have jl:=(Ux.mp ej).1
  have e3:tss[j]? = some (tss[j]'(by omega)):=Uy _
  have e4:rs[j]? = some (rs[j]'(by omega)):=Uy _
  obtain⟨_,_,_,g4,g5⟩:=hts j _ _ e4 e3 bs ej
  obtain⟨i,hi⟩:=Vb ha
  have il:=(Ux.mp hi).1
  exact⟨_,g5 i a _ hi (Uy (by omega))⟩
 ·exact(List.Perm.cons h (pW (by omega))).nodup_iff.mp h5
 ·exact(List.Perm.cons h (pW (by omega))).mem_iff.mpr hb
 ·rw[hX]at hr
  obtain⟨ts,ht,rfl⟩:=UC.mp hr
  obtain⟨j,hj⟩:=Vb ht
  have tl:=(val j ts hj).1
  rw[Uv]at tl
  have l1:=UY (fun k=>decide (az k R =(j:Int))) ms
  have l2:=mp.length_eq
  rw[Uv]at l2 ml
  rw[fk,Uv]
  obtain⟨g1,g2,g3⟩:=qE (g:=eK ts.length w) (w:=w) (m:=ts.length) (by omega) (by omega) rfl
  rcases g3 with z|z
  ·omega
  ·by_cases q:eK ts.length w<=200
   ·omega
   ·have:(1:Int)*(eK ts.length w-1)<=w*(eK ts.length w-1):=Xb (by omega) (by omega)
    omega
 ·have hf:=(hcl.flat (by rw[mk2];exact mn) w1 r1).length_eq
  rw[oU,Uv,Uv]at hf
  rw[Uv]at ml
  omega
def nP (K:W.Frag):Sp:=fun vs H Q _=>∃(w:Nat) (a:Addr) (ts:List Addr) (es:List (Int×Str)),vs=[.int w,.ref a]/\H a=some (.lst (ts.map V.ref))/\EL H ts es/\(es.map (·.1)).Nodup/\es.length<=63/\1<=w/\w<=8 /\
 ∀(l:Addr) (us:List Addr) (H':Hp),H l=none->us.Perm ts->((aH H (us.map V.ref)).Pairwise fun a b=>a.1<=b.1)->EO H H' l (dm (us.map V.ref) w)->aO H H'->Q (.ref l) H'
def sJ (K:W.Frag):Sp:=fun vs H Q _=>∃(w R:Nat) (a:Addr) (ts:List Addr) (es:List (Int×Str)),vs=[.int w,.int R,.ref a]/\H a=some (.lst (ts.map V.ref))/\EL H ts es/\(es.map (·.1)).Nodup/\es.length<=63/\1<=w/\w<=8/\1<=R/\R<=131 /\
 ∀(y:Addr) (X:List (List (List V))) (H':Hp),Yq H' y w R X->cH w R es (yD H' X)->aO H H'->Q (.ref y) H'
theorem cS {α:Type}{s:List α}{w:Nat}(w1:1<=w):(aD s w).length<=s.length+1:=by
 rw[fk]
 obtain⟨g1,g2,g3⟩:=qE (g:=eK s.length w) (w:=w) (m:=s.length) (by omega) (by omega) rfl
 rcases g3 with z|z
 ·omega
 ·by_cases q:eK s.length w<=s.length+1
  ·omega
  ·have:(1:Int)*(eK s.length w-1)<=w*(eK s.length w-1):=Xb (by omega) (by omega)
   omega
theorem GG {α β:Type}{p:Nat->α->β->Prop}{as:List α}{bs:List β}{a:α}{b:β}{i:Nat}(hl:as.length=i) (hl2:bs.length=i) (h:∀j a b,as[j]? = some a->bs[j]? = some b->p j a b) (hd:p i a b):∀j a' b',(as ++ [a])[j]? = some a'->(bs ++ [b])[j]? = some b'->p j a' b':=by
 intro j a' b' e1 e2
 by_cases z:j<as.length
 ·rw[UO z]at e1
  rw[UO (by omega)]at e2
  exact h j a' b' e1 e2
 ·have kl:=(Ux.mp e1).1
  rw[Uz]at kl
  have hk:j=i:=by have:[a].length=1:=rfl;omega
  subst hk
  rw[UL (by omega),show j-as.length=0 by omega]at e1
  rw[UL (by omega),show j-bs.length=0 by omega]at e2
  cases e1;cases e2
  exact hd
theorem EO.rws {H0 H:Hp}{l:Addr}{X:List (List V)}(h:EO H0 H l X):rK H l X:=by
 obtain⟨as,h1,h2,h3,_⟩:=h
 exact⟨as,h1,h2,h3⟩
theorem rK.r2 {H:Hp}{l:Addr}{X:List (List V)}(h:rK H l X):R2 (fun _=>True) H l X:=by
 obtain⟨as,h1,h2,h3⟩:=h
 exact⟨trivial,as,h1,h2,fun i a es e1 e2=>⟨trivial,h3 i a es e1 e2⟩⟩
theorem DQ {H:Hp}{ts:List Addr}{es:List (Int×Str)}{w R:Nat}{h:Addr}{ls:List Addr}{uss:List (List Addr)}(el:EL H ts es) (nd:(es.map (·.1)).Nodup) (hl:es.length<=63) (w1:1<=w) (r1:1<=R) (r2:R<=131)
  (hh:H h=some (.lst (ls.map V.ref))) (l1:ls.length=R) (l2:uss.length=R)
  (hu:∀(j:Nat) (l:Addr) (us:List Addr),ls[j]? = some l->uss[j]? = some us->us.Perm (ts.filter fun t=>decide (az (kE H t) R =(j:Int)))/\((aH H (us.map V.ref)).Pairwise fun a b=>a.1<=b.1)/\rK H l (dm (us.map V.ref) w)) :
  ∃X,R3 (fun _=>True) H h X/\f7 H X/\Qf X/\cH w R es (yD H X):=by
 have er:=el.row
 have hen:f7 H (uss.map fun us=>aD (us.map V.ref) w):=by
  intro rows hr es' he v hv
  obtain⟨us,hm,rfl⟩:=UC.mp hr
  obtain⟨j,hj⟩:=Vb hm
  have jl:=(Ux.mp hj).1
  obtain⟨p1,_,_⟩:=hu j _ us (Uy (by omega)) hj
  obtain⟨t,ht,rfl⟩:=UC.mp (cL he hv)
  exact el.en _ (UC.mpr ⟨t,(Vm.mp (p1.mem_iff.mp ht)).1,rfl⟩)
 have hcl:cH w R es (yD H (uss.map fun us=>aD (us.map V.ref) w)):=by
  refine⟨by unfold yD;rw[Uv,Uv,l2],fun j rows e=>?_⟩
  unfold yD at e
  rw[UI,UI]at e
  cases c:uss[j]? with
  | none=>rw[c]at e;cases e
  | some us =>
   rw[c]at e
   have e2:au H (aD (us.map V.ref) w)=rows:=US e
   have jl:=(Ux.mp c).1
   obtain⟨p1,p2,_⟩:=hu j _ us (Uy (by omega)) c
   refine⟨aH H (us.map V.ref),?_,p2,?_⟩
   ·have p3:=(p1.map V.ref).map (eD H)
    refine p3.trans ?_
    rw[<- er]
    unfold aH
    rw[Vo,Vo,XC]
    exact .refl _
   ·rw[<- e2]
    unfold au
    rw[show aH H=List.map (eD H) from rfl,nO]
 refine⟨_,⟨ls,hh,by rw[Uv];omega,fun j l rows e1 e2=>?_⟩,hen,⟨by rw[Uv];omega,fun rows hr=>?_,?_⟩,hcl⟩
 ·rw[UI]at e2
  cases c:uss[j]? with
  | none=>rw[c]at e2;cases e2
  | some us =>
   rw[c]at e2
   cases e2
   exact(hu j l us e1 c).2.2.r2
 ·obtain⟨us,hm,rfl⟩:=UC.mp hr
  obtain⟨j,hj⟩:=Vb hm
  have jl:=(Ux.mp hj).1
  obtain⟨p1,_,_⟩:=hu j _ us (Uy (by omega)) hj
  have h1:=cS (s:=us.map V.ref) w1
  have h2:=UY (fun t=>decide (az (kE H t) R =(j:Int))) ts
  rw[Uv,p1.length_eq]at h1
  have:=el.1
  omega
 ·have hf:=(hcl.flat nd w1 r1).length_eq
  rw[oU,Uv]at hf
  omega
def vH (K:W.Frag):Sp:=fun vs H Q _=>∃(y s:Addr) (w R:Int) (X:List (List (List V))) (st:bV),vs=[.ref y,.ref s]/\Yd H y w R X/\lM H s st /\
 ∀y' h' H',H y'=none->H' y'=some (.tup [.int w,.int (Cn R st),.ref h'])->H h'=none->R3 (fun b=>H b=none) H' h' (gO X st)->aO H H'->Q (.ref y') H'
def fK (Y:List (List (List V))):Nat->List Int
 | 0=>[]
 | k+1=>fK Y k++(match Y[k]? with
  | some rows=>if rows=[] then [] else [(k:Int)]
  | none=>[])
theorem yw {Y:List (List (List V))}{k:Nat}{rows:List (List V)}(h:Y[k]? = some rows) (c:rows=[]):fK Y (k+1)=fK Y k:=by
 show fK Y k++(match Y[k]? with|some rows=>if rows=[] then [] else [(k:Int)] | none=>[])=_
 rw[h]
 show fK Y k++(if rows=[] then [] else [(k:Int)])=_
 rw[UN c,U7]
theorem tW {Y:List (List (List V))}{k:Nat}{rows:List (List V)}(h:Y[k]? = some rows) (c:rows ≠ []):fK Y (k+1)=fK Y k ++ [(k:Int)]:=by
 show fK Y k++(match Y[k]? with|some rows=>if rows=[] then [] else [(k:Int)] | none=>[])=_
 rw[h]
 show fK Y k++(if rows=[] then [] else [(k:Int)])=_
 rw[UM c]
theorem m8 (Y:List (List (List V))):∀k:Nat,(fK Y k).length<=k
 | 0=>UE 0
 | k+1=>by
  have ih:=m8 Y k
  show(fK Y k++(match Y[k]? with|some rows=>if rows=[] then [] else [(k:Int)] | none=>[])).length<=k+1
  rw[Uz]
  have:(match Y[k]? with|some rows=>if rows=[] then [] else [(k:Int)] | none=>[]).length<=1:=by
   split
   ·split <;> simp
   ·simp
  omega
theorem nG {Y:List (List (List V))}:∀{k:Nat}{i:Int},i∈fK Y k ↔ ∃(j:Nat) (rows:List (List V)),i =(j:Int)/\j<k/\Y[j]? = some rows/\rows ≠ []
 | 0,i=>by
  constructor
  ·intro h;exact absurd h U3
  ·rintro⟨j,_,_,h,_⟩;omega
 | k+1,i=>by
  have ih:=nG (Y:=Y) (k:=k) (i:=i)
  cases e:Y[k]? with
  | none =>
   have e1:fK Y (k+1)=fK Y k:=by
    show fK Y k++(match Y[k]? with|some rows=>if rows=[] then [] else [(k:Int)] | none=>[])=_
    rw[e];exact U7 _
   rw[e1,ih]
   constructor
   ·rintro⟨j,rows,h1,h2,h3,h4⟩;exact⟨j,rows,h1,by omega,h3,h4⟩
   ·rintro⟨j,rows,h1,h2,h3,h4⟩
    by_cases z:j=k
    ·rw[z,e]at h3;cases h3
    ·exact⟨j,rows,h1,by omega,h3,h4⟩
  | some r0 =>
   by_cases c:r0=[]
   ·rw[yw e c,ih]
    constructor
    ·rintro⟨j,rows,h1,h2,h3,h4⟩;exact⟨j,rows,h1,by omega,h3,h4⟩
    ·rintro⟨j,rows,h1,h2,h3,h4⟩
     by_cases z:j=k
     ·rw[z,e]at h3;cases h3;exact absurd c h4
     ·exact⟨j,rows,h1,by omega,h3,h4⟩
   ·rw[tW e c,UG,ih,UR]
    constructor
    ·rintro(⟨j,rows,h1,h2,h3,h4⟩|rfl)
     ·exact⟨j,rows,h1,by omega,h3,h4⟩
     ·exact⟨k,r0,rfl,by omega,e,c⟩
    ·rintro⟨j,rows,h1,h2,h3,h4⟩
     by_cases z:j=k
     ·exact .inr (by rw[h1,z])
     ·exact .inl ⟨j,rows,h1,by omega,h3,h4⟩
theorem nK {α:Type}{X:List (List α)}:∀n:Nat,trim (X++List.replicate n [])=trim X
 | 0=>by rw[List.replicate_zero,U7]
 | n+1=>by rw[List.replicate_succ',<- U5,BP];exact nK n
theorem DB {Y:List (List (List V))}{m:Int}{k:Nat}(h1:m∈(-1::fK Y Y.length)) (h2:∀z∈(-1::fK Y Y.length),z<=m) (hk:m+1 =(k:Int)):trim Y=Y.take k:=by
 have e:trim Y=trim (Y.take k):=by
  have e0:Y.drop k=List.replicate (Y.drop k).length []:=List.eq_replicate_iff.mpr ⟨rfl,fun r hr=>?_⟩
  ·conv=>lhs;rw[<- U1 k Y,e0]
   exact nK _
  obtain⟨i,hi⟩:=Vb hr
  rw[VY]at hi
  by_cases c:r=[]
  ·exact c
  ·have il:=(Ux.mp hi).1
   have:=h2 ((k+i:Nat):Int) (UK _ (nG.mpr ⟨k+i,r,rfl,il,hi,c⟩))
   omega
 rw[e]
 rcases U9.mp h1 with z|z
 ·rw[show k=0 by omega,WA];rfl
 ·obtain⟨j,rows,e1,e2,e3,e4⟩:=nG.mp z
  rw[show k=j+1 by omega,aX e3]
  exact ue e4
theorem BY {K:W.Frag}{S:Addr->Prop}{H:Hp}{b:Addr}{rows:List (List V)}(r:R2 S H b rows) (e:∀es∈rows,∀v∈es,En H v):GD K H 3 (.ref b) (xS H rows):=by
 obtain⟨_,as,h1,h2⟩:=r
 exact GD.lst h1 (pC h2 fun a es m t=>GD.lst t.2 (mZ (e es m)))
theorem GQ {H:Hp}{s:Addr}{X:List (List (List V))}{st:bV}(h:LW X) (hs:lM H s st):(KG X st).length<=262:=by
 have:=h.1
 cases st with
 | rooms n=>show X.length<=262;omega
 | cut r m=>show(X.modify r (List.take m)).length<=262;rw[WQ];omega
 | row r a es =>
  obtain⟨_,_,_,r2,_⟩:=hs
  show(nh X r a es).length<=262
  unfold nh
  rw[WQ]
  have:=iB (X:=X) (n:=r+1)
  omega
def iH (H:Hp) (os:List (List V)) (es:List V) (i:Nat):Bool:=match os[i]? with
 | none=>true
 | some o=>!decide (aH H o=aH H es)
def unl (H:Hp) (r:Nat) (os ns:List (List V)):Nat->List bV
 | 0=>[]
 | k+1=>unl H r os ns k++(match ns[k]? with
  | some es=>if iH H os es k=true then [.row r k es] else []
  | none=>[])
theorem fF {H:Hp}{r:Nat}{os ns:List (List V)}{k:Nat}{es:List V}(h:ns[k]? = some es) (c:iH H os es k=true):unl H r os ns (k+1)=unl H r os ns k ++ [.row r k es]:=by
 show unl H r os ns k++(match ns[k]? with|some es=>if iH H os es k=true then [bV.row r k es] else [] | none=>[])=_
 rw[h]
 show unl H r os ns k++(if iH H os es k=true then [bV.row r k es] else [])=_
 rw[UN c]
theorem m5 {H:Hp}{r:Nat}{os ns:List (List V)}{k:Nat}{es:List V}(h:ns[k]? = some es) (c:iH H os es k=false):unl H r os ns (k+1)=unl H r os ns k:=by
 show unl H r os ns k++(match ns[k]? with|some es=>if iH H os es k=true then [bV.row r k es] else [] | none=>[])=_
 rw[h]
 show unl H r os ns k++(if iH H os es k=true then [bV.row r k es] else [])=_
 rw[UM (by rw[c];exact nofun),U7]
def cV (H:Hp) (X:List (List V)):Prop:=X.length<=130/\∀es∈X,es.length<=8/\∀v∈es,En H v
theorem cV.same {H H':Hp}{X:List (List V)}(s:aO H H') (h:cV H X):cV H' X:=⟨h.1,fun es he=>⟨(h.2 es he).1,fun v hv=>((h.2 es he).2 v hv).keep fun _ _ e=>s _ _ e⟩⟩
theorem Cv {K:W.Frag}{H:Hp}{a:Addr}{es:List V}(h:H a=some (.lst es)) (en:∀v∈es,En H v):GD K H 2 (.ref a) (zS (aH H es)):=by
 rw[<- m_ en]
 exact GD.lst h (mZ en)
def Iu (H:Hp) (b D D0:Addr):Prop:=D0=D \/((∃xs,H D0=some (.lst xs))/\∀bs:List Addr,H b=some (.lst (bs.map V.ref))->D0∉bs)
def IB (H H':Hp) (b D:Addr) (ss:List Addr) (sts:List bV):Prop:=∀D0,Iu H b D D0->P1 (lM (hid D0 (hid D H'))) ss sts
theorem G5 {D:Addr}{H:Hp}:hid D (hid D H)=hid D H:=by
 funext b
 unfold hid
 split <;> rfl
theorem IB.plain {H H':Hp}{b D:Addr}{ss:List Addr}{sts:List bV}(h:IB H H' b D ss sts):P1 (lM (hid D H')) ss sts:=by
 have:=h D (.inl rfl)
 rw[G5]at this;exact this
theorem kh {D D0 x:Addr}{H:Hp}(n:x≠D) (n0:x≠D0):hid D0 (hid D H) x=H x:=by rw[fL n0,fL n]
theorem Iu.new {H H3:Hp}{b D D0 x:Addr}(ok:Iu H b D D0) (s:aO H H3) (n:H3 x=none) (nD:x≠D):x≠D0:=fun z=>by
 rcases ok with e|⟨⟨xs,e⟩,_⟩
 ·exact nD (z.trans e)
 ·rw[z,s _ _ e]at n;cases n
theorem Iu.tup {H:Hp}{b D D0 x:Addr}{xs:List V}(ok:Iu H b D D0) (h:H x=some (.tup xs)) (nD:x≠D):x≠D0:=fun z=>by
 rcases ok with e|⟨⟨xs,e⟩,_⟩
 ·exact nD (z.trans e)
 ·rw[z,e]at h;cases h
theorem Iu.row {H:Hp}{b D D0 x:Addr}{bs:List Addr}(ok:Iu H b D D0) (hb:H b=some (.lst (bs.map V.ref))) (m:x∈bs) (nD:x≠D):x≠D0:=fun z=>by
 rcases ok with e|⟨_,e⟩
 ·exact nD (z.trans e)
 ·exact e bs hb (z ▸ m)
def rC (K:W.Frag):Sp:=fun vs H Q _=>∃(r:Nat) (a b:Addr) (os ns:List (List V)),vs=[.int r,.ref a,.ref b]/\rK H a os/\rK H b ns/\cV H os/\cV H ns/\r<=129 /\
 ∀(D:Addr) (ss:List Addr) (H':Hp),H D=none->H' D=some (.lst (ss.map V.ref))->IB H H' b D ss (unl H r os ns ns.length)->aO H H'->Q (.ref D) H'
def d_ (H:Hp) (r:Nat) (os ns:List (List V)):List bV:=unl H r os ns ns.length++(if os.length > ns.length then [.cut r ns.length] else [])
def BO (K:W.Frag):Sp:=fun vs H Q _=>∃(r:Nat) (a b:Addr) (os ns:List (List V)),vs=[.int r,.ref a,.ref b]/\rK H a os/\rK H b ns/\cV H os/\cV H ns/\r<=129 /\
 ∀(D:Addr) (ss:List Addr) (H':Hp),H D=none->H' D=some (.lst (ss.map V.ref))->IB H H' b D ss (d_ H r os ns)->aO H H'->Q (.ref D) H'
def yC (K:W.Frag):Sp:=fun vs H Q _=>∃(r:Nat) (a b:Addr) (os ns:List (List V)),vs=[.int r,.ref a,.ref b]/\rK H a os/\rK H b ns/\cV H os/\cV H ns/\r<=129 /\
 ∀(D:Addr) (ss:List Addr) (H':Hp),H D=none->H' D=some (.lst (ss.map V.ref))->IB H H' b D ss (unl H r os ns ns.length).reverse->aO H H'->Q (.ref D) H'
def fS (H:Hp) (X:List (List V)) (k:Int):List V:=X.flatten.filter fun v=>!decide ((eD H v).1=k)
def v9 (K:W.Frag):Sp:=fun vs H Q _=>∃(a:Addr) (X:List (List V)) (k:Int),vs=[.ref a,.int k]/\rK H a X/\X.flatten.length<=600/\(∀es∈X,∀v∈es,En H v) /\
 ∀(D:Addr) (H':Hp),H D=none->H' D=some (.lst (fS H X k))->aO H H'->Q (.ref D) H'
theorem jG {H H':Hp}{r:Nat}{os ns:List (List V)}(kt:∀t xs,H t=some (.tup xs)->H' t=some (.tup xs)) (eo:∀es∈os,∀v∈es,En H v) (en:∀es∈ns,∀v∈es,En H v):∀k:Nat,unl H' r os ns k=unl H r os ns k
 | 0=>rfl
 | k+1=>by
  have ih:=jG (r:=r) kt eo en k
  show unl H' r os ns k++(match ns[k]? with|some es=>if iH H' os es k=true then [bV.row r k es] else [] | none=>[])=unl H r os ns k++(match ns[k]? with|some es=>if iH H os es k=true then [bV.row r k es] else [] | none=>[])
  rw[ih]
  cases e:ns[k]? with
  | none=>rfl
  | some es =>
   have eb:iH H' os es k=iH H os es k:=by
    unfold iH
    cases e2:os[k]? with
    | none=>rfl
    | some o =>
     show(!decide (aH H' o=aH H' es)) = !decide (aH H o=aH H es)
     rw[bZ kt (eo o (UA e2)),bZ kt (en es (UA e))]
   show unl H r os ns k++(if iH H' os es k=true then [bV.row r k es] else [])=unl H r os ns k++(if iH H os es k=true then [bV.row r k es] else [])
   rw[eb]
theorem A2 {H H1:Hp}{bs:List Addr}{X:List (List (List V))}{o:Addr}{k R:Int}{r:Nat}(hP:P1 (R2 (fun _=>True) H) bs X) (er:az k R =(r:Int)) (s1:aO H H1) (ho:bs[r]? = some o \/(bs.length<=r/\H1 o=some (.lst []))):rK H1 o (bw X k R):=by
 have ex:(az k R).toNat=r:=by omega
 have bl:=hP.1
 rcases ho with ho|⟨ho,h1⟩
 ·obtain⟨rows,hx,_,as,h2,h3⟩:=hP.get ho
  unfold bw
  rw[ex,hx]
  exact⟨as,s1 _ _ h2,h3.1,fun i a es e1 e2=>s1 _ _ (h3.2 i a es e1 e2).2⟩
 ·unfold bw
  rw[ex,UT (by omega)]
  exact⟨[],h1,rfl,fun i a es e=>by simp at e⟩
theorem vt {H:Hp}{X:List (List V)}{k:Int}(en:∀es∈X,∀v∈es,En H v):∀v∈fS H X k,En H v:=fun v hv=>by
 obtain⟨es,he,hm⟩:=Vh.mp (Vm.mp hv).1
 exact en es he v hm
theorem Jo {H:Hp}{X:List (List V)}{k:Int}:∀v∈fS H X k,(eD H v).1≠k:=fun v hv e=>by
 have:=(Vm.mp hv).2
 rw[e]at this
 simp at this
theorem AM {H:Hp}{X:List (List V)}{k:Int}:(fS H X k).length<=X.flatten.length:=UY _ _
theorem q8 {H:Hp}{us:List V}{w:Nat}(w1:1<=w) (w2:w<=8) (ul:us.length<=120) (en:∀v∈us,En H v):cV H (aD us w):=by
 refine⟨UP (cS w1) (by omega),fun es he=>⟨?_,fun v hv=>en v (cL he hv)⟩⟩
 unfold aD at he
 obtain⟨i,_,rfl⟩:=UC.mp he
 rw[UH];omega
def pZ (K:W.Frag):Sp:=fun vs H Q _=>∃(y:Addr) (w R:Nat) (X:List (List (List V))) (k:Int) (z:Str),vs=[.ref y,.int k,.str z]/\Yd H y w R X/\(0<=k/\k<1152921504606846976)/\(PyData.strOk z=true/\z.length<=100)/\1<=w/\w<=8/\1<=R/\R<=130/\cV H (bw X k R)/\(bw X k R).flatten.length<=60/\((aH H (bw X k R).flatten).map (·.1)).Nodup /\
 ∀(D:Addr) (ss:List Addr) (t:Addr) (us:List V) (H':Hp),H D=none->H' D=some (.lst (ss.map V.ref))->H' t=some (.tup [.int k,.str z])->us.Perm (fS H (bw X k R) k ++ [.ref t])->((aH H' us).Pairwise fun a b=>a.1<b.1)->P1 (lM (hid D H')) ss (unl H' (az k R).toNat (bw X k R) (aD us w) (aD us w).length).reverse->aO H H'->Q (.ref D) H'
def nU (K:W.Frag):Sp:=fun vs H Q _=>∃(y:Addr) (w R:Nat) (X:List (List (List V))) (k:Int),vs=[.ref y,.int k]/\Yd H y w R X/\1<=w/\w<=8/\1<=R/\R<=130/\cV H (bw X k R)/\(bw X k R).flatten.length<=60/\k∈(aH H (bw X k R).flatten).map (·.1) /\
 ∀(D:Addr) (ss:List Addr) (H':Hp),H D=none->H' D=some (.lst (ss.map V.ref))->P1 (lM (hid D H')) ss (d_ H (az k R).toNat (bw X k R) (aD (fS H (bw X k R) k) w))->aO H H'->Q (.ref D) H'
theorem ku {H:Hp}{r:Nat}{os ns:List (List V)}:∀k:Nat,(unl H r os ns k).length<=k
 | 0=>UE 0
 | k+1=>by
  have ih:=ku (H:=H) (r:=r) (os:=os) (ns:=ns) k
  show(unl H r os ns k++(match ns[k]? with|some es=>if iH H os es k=true then [bV.row r k es] else [] | none=>[])).length<=k+1
  rw[Uz]
  have:(match ns[k]? with|some es=>if iH H os es k=true then [bV.row r k es] else [] | none=>[]).length<=1:=by
   split
   ·split <;> simp
   ·simp
  omega
def lP (K:W.Frag):Sp:=fun vs H Q _=>∃(p:Addr) (N:Nat) (n g:Int),vs=[.ref p,.int n,.int g]/\Hand H p N/\N+20000<2^60/\0<=n/\n<=125/\1<=g/\g<=16 /\
 ∀(l:Addr) (ts:List Addr) (es:List (Int×Str)) (H':Hp),H l=none->H' l=some (.lst (ts.map V.ref))->EL H' ts es->(es.map (·.1)).Nodup->(es.length:Int)=n->Hand H' p (N+10000)->Kp H H' p->Q (.ref l) H'
def El (K:W.Frag):Sp:=fun vs H Q _=>∃(p y:Addr) (N w R:Nat) (X:List (List (List V))),vs=[.ref p,.ref y]/\Hand H p N/\N+100<2^60/\Yq H y w R X/\1<=w/\w<=8/\1<=R/\R<=130/\X.length=R/\(∀rows∈X,rows ≠ []/\rows.length<=150)/\(cg X).length<=150/\((h_ (yD H X)).map (·.1)).Nodup /\
 ∀(y':Addr) (w' R':Nat) (X':List (List (List V))) (H':Hp),Yq H' y' w' R' X'->1<=w'->w'<=8->1<=R'->R'<=130->Hand H' p (N+50)->Kp H H' p->Q (.ref y') H'
theorem J_ {ks:List Int}(hl:ks.length<1000) (v:Int):∃m:Nat,(v+16*m)%1152921504606846976∉ks:=by
 by_cases c:∃m:Nat,(v+16*m)%1152921504606846976∉ks
 ·exact c
 ·have all:∀m:Nat,(v+16*m)%1152921504606846976∈ks:=fun m=>Classical.not_not.mp fun z=>c ⟨m,z⟩
  have hn:((List.range (ks.length+1)).map fun(j:Nat)=>(v+16*j)%1152921504606846976).Nodup:=by
   rw[VO,Ve]
   refine List.Pairwise.imp_of_mem ?_ List.nodup_range
   intro a b ha hb hab e
   have h1:=W7.mp ha
   have h2:=W7.mp hb
   omega
  have:=sub_len hn (fun x hx=>by
   obtain⟨j,_,rfl⟩:=UC.mp hx
   exact all j)
  rw[Uv,V6]at this
  omega
theorem rE {k:Int}{r:List (Int×Str)}(h:cP k (r.map (·.1))=true):∃x,r.getLast? = some x/\k<=x.1:=by
 unfold cP at h
 rw[List.getLast?_map]at h
 cases c:r.getLast? with
 | none=>rw[c]at h;cases h
 | some x=>rw[c]at h;exact⟨x,rfl,by simpa using h⟩
theorem zK {k:Int}{r:List (Int×Str)}(h:cP k (r.map (·.1))=false) (s:r.Pairwise fun a b=>a.1<=b.1):∀y∈r,y.1≠k:=fun y hy e=>by
 unfold cP at h
 rw[List.getLast?_map]at h
 cases c:r.getLast? with
 | none=>rw[List.getLast?_eq_none_iff.mp c]at hy;cases hy
 | some x =>
  rw[c]at h
  have hx:¬ k<=x.1:=by simpa using h
  obtain⟨l,hl⟩:=List.getLast?_eq_some_iff.mp c
  rw[hl]at hy s
  rcases UG.mp hy with z|z
  ·have:=(VG.mp s).2.2 y z x (by simp)
   omega
  ·rw[UR.mp z]at e;omega
def Ws (l:List (Int×Str)):Prop:=l.Pairwise fun a b=>a.1<=b.1
def LS (l:List (Int×Str)):Prop:=∀a∈l,∀b∈l,a.1=b.1->a=b
theorem gS {l:List (Int×Str)}(h:LS l) {k:Int}{z:Str}:pick k l=some z↔(k,z)∈l:=by
 unfold pick
 constructor
 ·intro e
  cases c:l.find? fun e=>decide (e.1=k) with
  | none=>rw[c]at e;cases e
  | some x =>
   rw[c]at e
   have h1:=WU c
   have h2:x.1=k:=by simpa using List.find?_some c
   have h3:x.2=z:=by simpa using e
   rw[<- h2,<- h3];exact h1
 ·intro hm
  cases c:l.find? fun e=>decide (e.1=k) with
  | none=>exact absurd (U8 (show(k,z).1=k from rfl)) (by simpa using Xd.mp c (k,z) hm)
  | some x =>
   have h1:=WU c
   have h2:x.1=k:=by simpa using List.find?_some c
   have:=h x h1 (k,z) hm h2
   rw[this];rfl
theorem pV {l m:List (Int×Str)}{k:Int}(h:∀x∈l,x.1≠k):pick k (l++m)=pick k m:=by
 unfold pick
 rw[List.find?_append,Xd.mpr fun x hx=>by simpa using h x hx];rfl
theorem uy {l m:List (Int×Str)}{k:Int}(h:∀x∈m,x.1=k->k∈l.map (·.1)):pick k (l++m)=pick k l:=by
 unfold pick
 rw[List.find?_append]
 cases c:l.find? fun e=>decide (e.1=k) with
 | some x=>rfl
 | none =>
  rw[Option.none_or]
  have nl:k∉l.map (·.1):=fun hm=>by
   obtain⟨x,hx,hk⟩:=UC.mp hm
   exact absurd (U8 hk) (by simpa using Xd.mp c x hx)
  rw[Xd.mpr fun x hx=>by
   have:=fun e=>nl (h x hx e)
   simpa using this]
theorem rg {k:Int}:∀{rs:List (List (Int×Str))},Ws rs.flatten->(iW k rs).1=pick k rs.flatten
 | [],_=>rfl
 | r::rs,h=>by
  rw[Xj]at h ⊢
  obtain⟨h1,h2,h3⟩:=VG.mp h
  rw[iW]
  cases c:cP k (r.map (·.1)) with
  | true =>
   rw[UN rfl]
   obtain⟨x,hx,hk⟩:=rE c
   refine(uy fun y hy e=>?_).symm
   have hm:=List.mem_of_getLast? hx
   have:=h3 x hm y hy
   exact UC.mpr ⟨x,hm,by omega⟩
  | false =>
   rw[UM (by decide)]
   show(iW k rs).1=_
   rw[rg h2]
   exact(pV fun y hy e=>zK c h1 y hy e).symm
theorem JK {l:List (Int×Str)}(h:l.Pairwise fun a b=>a.1<b.1):LS l:=fun a ha b hb e=>by
 obtain⟨i,hi⟩:=Vb ha
 obtain⟨j,hj⟩:=Vb hb
 obtain⟨i1,i2⟩:=Ux.mp hi
 obtain⟨j1,j2⟩:=Ux.mp hj
 rcases Nat.lt_trichotomy i j with c|c|c
 ·have:=VJ.mp h i j i1 j1 c
  rw[i2,j2]at this;omega
 ·subst c
  rw[hi]at hj;exact US hj
 ·have:=VJ.mp h j i j1 i1 c
  rw[i2,j2]at this;omega
theorem gY {α:Type}{s:List α}{w:Nat}(h:1<=w) (j:Nat):((aD s w).take j).flatten=s.take (j*w):=by
 by_cases c:j <=(aD s w).length
 ·unfold aD
  rw[fk]at c
  rw[<- W3,List.take_range,VM c,kc]
 ·rw[UW (by omega),bI s h,UW]
  have e:=Vk List.length (kc s w (eK s.length w).toNat)
  have f:=bI s h
  unfold aD at f
  rw[f,UH]at e
  rw[fk]at c
  have:(eK s.length w).toNat*w<=j*w:=VZ _ (by omega)
  omega
theorem kK {α:Type}{s:List α}{w:Nat}(h:1<=w) (j:Nat):((aD s w).drop j).flatten=s.drop (j*w):=by
 have e:((aD s w).take j).flatten++((aD s w).drop j).flatten=s:=by rw[<- Vv,U1,bI s h]
 rw[gY h]at e
 have f:=U1 (j*w) s
 exact Xc (e.trans f.symm)
theorem lq {α:Type}(Y:List (List α)):∃n:Nat,Y=trim Y++List.replicate n []:=by
 refine⟨(Y.reverse.takeWhile (·.isEmpty)).length,?_⟩
 have e:=List.takeWhile_append_dropWhile (p:=fun r:List α=>r.isEmpty) (l:=Y.reverse)
 have e2:=Vk List.reverse e
 rw[Xs,List.reverse_reverse]at e2
 have e3:(Y.reverse.takeWhile (·.isEmpty)).reverse=List.replicate (Y.reverse.takeWhile (·.isEmpty)).length []:=by
  refine List.eq_replicate_iff.mpr ⟨Vg,fun r hr=>?_⟩
  have:=List.all_eq_true.mp (List.all_takeWhile (p:=fun r:List α=>r.isEmpty) (l:=Y.reverse)) r (V3.mp hr)
  simpa using this
 rw[e3]at e2
 exact e2.symm
theorem uL {α:Type}(Y:List (List α)) (i:Nat):((trim Y)[i]?).getD [] =(Y[i]?).getD []:=by
 obtain⟨n,e⟩:=lq Y
 conv=>rhs;rw[e]
 by_cases c:i <(trim Y).length
 ·rw[UO c]
 ·rw[UT (by omega),UL (by omega),W8]
  split <;> rfl
theorem Cp {α:Type}(Y:List (List α)) (n i:Nat):((pad Y n)[i]?).getD [] =(Y[i]?).getD []:=by
 unfold pad
 by_cases c:i<Y.length
 ·rw[UO c]
 ·rw[UT (l:=Y) (by omega),UL (by omega),W8]
  split <;> rfl
def cQ (rows:List (List V)):bV->List (List V)
 | .rooms _=>rows
 | .cut _ m=>rows.take m
 | .row _ a es=>(pad rows (a+1)).set a es
def dG (r:Nat):bV->Prop
 | .rooms _=>False
 | .cut r' _=>r'=r
 | .row r' _ _=>r'=r
def aT (X:List (List (List V))) (i:Nat):List (List V):=(X[i]?).getD []
theorem IL {X:List (List (List V))}{st:bV}{i r:Nat}(h:dG r st):aT (gO X st) i=if i=r then cQ (aT X i) st else aT X i:=by
 rw[z6]
 unfold aT
 rw[uL]
 cases st with
 | rooms n=>exact h.elim
 | cut r' m =>
  have h:r'=r:=h
  subst h
  show(((X.modify r' (List.take m)))[i]?).getD []=if i=r' then((X[i]?).getD []).take m else _
  rw[Wg]
  by_cases c:i=r'
  ·rw[UN c]
   cases e:X[i]? with
   | none=>simp
   | some x=>simp[c]
  ·rw[UM c]
   cases e:X[i]? with
   | none=>simp
   | some x=>simp[Ne.symm c]
 | row r' a es =>
  have h:r'=r:=h
  subst h
  show(((nh X r' a es))[i]?).getD []=if i=r' then(pad ((X[i]?).getD []) (a+1)).set a es else _
  unfold nh
  rw[Wg]
  by_cases c:i=r'
  ·rw[UN c]
   have pl:=iB (X:=X) (n:=r'+1)
   have e1:=Cp X (r'+1) i
   cases e:(pad X (r'+1))[i]? with
   | none=>exact absurd (Wq.mp e) (by omega)
   | some x =>
    rw[e]at e1
    have e2:x =(X[i]?).getD []:=e1
    rw[<- e2]
    simp[c]
  ·rw[UM c,<- Cp X (r'+1) i]
   cases e:(pad X (r'+1))[i]? with
   | none=>simp
   | some x=>simp[Ne.symm c]
theorem ia {i r:Nat}:∀{sts:List bV}{X:List (List (List V))},(∀st∈sts,dG r st)->aT (sts.foldl gO X) i=if i=r then sts.foldl cQ (aT X i) else aT X i
 | [],X,_=>by
  show aT X i=if _ then aT X i else _
  split <;> rfl
 | st::sts,X,h=>by
  show aT (sts.foldl gO (gO X st)) i=if _ then sts.foldl cQ (cQ (aT X i) st) else _
  rw[ia fun s hs=>h s (UK _ hs),IL (h st (UQ ..))]
  split <;> rfl
theorem aR {H:Hp}{rows:List (List V)}:(au H rows).length=rows.length:=by unfold au;rw[Uv]
theorem j9 {H:Hp}{rows:List (List V)}{i:Nat}:(au H rows)[i]? =(rows[i]?).map (aH H):=by unfold au;rw[UI]
theorem p8 {H:Hp}{r:Nat}{os ns:List (List V)}:∀(p:Nat),∀st∈unl H r os ns p,dG r st
 | 0,st,h=>absurd h U3
 | p+1,st,h=>by
  have ih:=p8 (H:=H) (r:=r) (os:=os) (ns:=ns) p st
  cases e:ns[p]? with
  | none =>
   have e1:unl H r os ns (p+1)=unl H r os ns p:=by
    show unl H r os ns p++(match ns[p]? with|some es=>if iH H os es p=true then [bV.row r p es] else [] | none=>[])=_
    rw[e];exact U7 _
   rw[e1]at h;exact ih h
  | some es =>
   cases c:iH H os es p with
   | false=>rw[m5 e c]at h;exact ih h
   | true =>
    rw[fF e c]at h
    rcases UG.mp h with h|h
    ·exact ih h
    ·rw[UR.mp h];rfl
theorem mL {H:Hp}{r:Nat}{os ns:List (List V)}:∀{n j:Nat},j <(unl H r os ns n).length->∃(p:Nat) (es:List V),p<n/\ns[p]? = some es/\iH H os es p=true/\(unl H r os ns n).take (j+1)=unl H r os ns (p+1)
 | 0,j,h=>absurd h (Nat.not_lt_zero _)
 | n+1,j,h=>by
  cases e:ns[n]? with
  | none =>
   have e1:unl H r os ns (n+1)=unl H r os ns n:=by
    show unl H r os ns n++(match ns[n]? with|some es=>if iH H os es n=true then [bV.row r n es] else [] | none=>[])=_
    rw[e];exact U7 _
   rw[e1]at h ⊢
   obtain⟨p,es,h1,h2⟩:=mL h
   exact⟨p,es,by omega,h2⟩
  | some es =>
   cases c:iH H os es n with
   | false =>
    rw[m5 e c]at h ⊢
    obtain⟨p,es',h1,h2⟩:=mL h
    exact⟨p,es',by omega,h2⟩
   | true =>
    rw[fF e c,Uz]at h
    have l1:[bV.row r n es].length=1:=rfl
    by_cases z:j <(unl H r os ns n).length
    ·obtain⟨p,es',h1,h2,h3,h4⟩:=mL z
     refine⟨p,es',by omega,h2,h3,?_⟩
     rw[fF e c,VI (by omega)]
     exact h4
    ·refine⟨n,es,by omega,e,c,?_⟩
     rw[UW]
     rw[fF e c,Uz];omega
def oK (H:Hp) (r:Nat) (os ns:List (List V)) (p n:Nat):List bV:=(unl H r os ns n).drop (unl H r os ns p).length
theorem As {H:Hp}{r:Nat}{os ns:List (List V)}(p:Nat):∀d:Nat,∃m,unl H r os ns (p+d)=unl H r os ns p++m
 | 0=>⟨[],by rw[U7];rfl⟩
 | d+1=>by
  obtain⟨m,e⟩:=As (H:=H) (r:=r) (os:=os) (ns:=ns) p d
  refine⟨m++(match ns[p+d]? with|some es=>if iH H os es (p+d)=true then [bV.row r (p+d) es] else [] | none=>[]),?_⟩
  rw[<- U5,<- e];rfl
theorem mD {H:Hp}{r:Nat}{os ns:List (List V)}{p n:Nat}(h:p<=n):unl H r os ns n=unl H r os ns p++oK H r os ns p n:=by
 obtain⟨m,e⟩:=As (H:=H) (r:=r) (os:=os) (ns:=ns) p (n-p)
 rw[show p+(n-p)=n by omega]at e
 unfold oK
 rw[e,List.drop_left]
theorem B5 {H:Hp}{r:Nat}{os ns:List (List V)}{n:Nat}:oK H r os ns n n=[]:=by unfold oK;rw[List.drop_length]
theorem xx {H:Hp}{r:Nat}{os ns:List (List V)}{p n:Nat}{es:List V}(h:p<n) (he:ns[p]? = some es) (c:iH H os es p=true):oK H r os ns p n = .row r p es::oK H r os ns (p+1) n:=by
 have e1:=mD (H:=H) (r:=r) (os:=os) (ns:=ns) (show p<=n by omega)
 have e2:=mD (H:=H) (r:=r) (os:=os) (ns:=ns) (show p+1<=n by omega)
 rw[fF he c,U5]at e2
 exact Xc (e1.symm.trans e2)
theorem FL {H:Hp}{r:Nat}{os ns:List (List V)}{p n:Nat}{es:List V}(h:p<n) (he:ns[p]? = some es) (c:iH H os es p=false):oK H r os ns p n=oK H r os ns (p+1) n:=by
 have e1:=mD (H:=H) (r:=r) (os:=os) (ns:=ns) (show p<=n by omega)
 have e2:=mD (H:=H) (r:=r) (os:=os) (ns:=ns) (show p+1<=n by omega)
 rw[m5 he c]at e2
 exact Xc (e1.symm.trans e2)
theorem F4 {H:Hp}{r:Nat}{os ns:List (List V)}{n j:Nat}(h:j <(unl H r os ns n).length):∃(p:Nat) (es:List V),p<n/\ns[p]? = some es/\iH H os es p=true/\(unl H r os ns n).reverse.take (j+1) =(oK H r os ns p n).reverse/\(unl H r os ns p).length+(j+1) =(unl H r os ns n).length:=by
 obtain⟨p,es,h1,h2,h3,h4⟩:=mL (H:=H) (r:=r) (os:=os) (ns:=ns) (n:=n) (j:=(unl H r os ns n).length-1-j) (by omega)
 have e1:=Vk List.length h4
 rw[UH,fF h2 h3,Uz]at e1
 have l1:[bV.row r p es].length=1:=rfl
 refine⟨p,es,h1,h2,h3,?_,by omega⟩
 have e2:=mD (H:=H) (r:=r) (os:=os) (ns:=ns) (show p<=n by omega)
 have l2:=Vk List.length e2
 rw[Uz]at l2
 conv=>lhs;rw[e2,Xs]
 rw[VI (by rw[Vg];omega),UW (by rw[Vg];omega)]
theorem ny {H:Hp}{X:List (List (List V))}{k R:Int}(h:f7 H X):∀es∈bw X k R,∀v∈es,En H v:=fun es he=>by
 unfold bw at he
 cases e:X[(az k R).toNat]? with
 | none=>rw[e]at he;exact absurd he U3
 | some x=>rw[e]at he;exact h x (UA e) es he
def f_ (X:List (List (List V))) (sts:List bV) (j:Nat):List (List (List V)):=(sts.take j).foldl gO X
theorem lX (X:List (List (List V))) (sts:List bV):f_ X sts 0=X:=by unfold f_;rw[WA];rfl
theorem mQ {X:List (List (List V))}{sts:List bV}{j:Nat}{st:bV}(h:sts[j]? = some st):f_ X sts (j+1)=gO (f_ X sts j) st:=by
 unfold f_;rw[aX h,Vu];rfl
theorem mW {l:List (Int×Str)}(h:(l.map (·.1)).Nodup):LS l:=fun _ ha _ hb e=>AG h ha hb e
theorem pQ {l:List (Int×Str)}(h:l.Pairwise fun a b=>a.1<b.1):LS l:=JK h
theorem uR {l l':List (Int×Str)}(h:LS l) (h':LS l') {k:Int}(e:∀z,(k,z)∈l↔(k,z)∈l'):pick k l=pick k l':=by
 refine Option.ext fun z=>?_
 show pick k l=some z↔pick k l'=some z
 rw[gS h,gS h'];exact e z
theorem DZ {l:List (Int×Str)}(h:l.Pairwise fun a b=>a.1<b.1):Ws l:=h.imp fun h=>Int.le_of_lt h
theorem kI {H:Hp}{X:List (List (List V))}{r:Nat}:(yD H X)[r]? =(X[r]?).map (au H):=by unfold yD;rw[UI]
theorem z8 {H:Hp}{X:List (List (List V))}{w R:Nat}{es:List (Int×Str)}{k:Int}(h:cH w R es (yD H X)) (hn:(es.map (·.1)).Nodup) (hR:1<=R):∃s,s.Perm (es.filter fun e=>decide (az e.1 R=az k R))/\(s.Pairwise fun a b=>a.1<b.1)/\au H (bw X k R)=aD s w:=by
 have rb:=bU (k:=k) (R:=(R:Int)) (by omega)
 obtain⟨r,hr⟩ : ∃r:Nat,az k R =(r:Int):=⟨(az k R).toNat,by omega⟩
 have xl:X.length=R:=by have:=h.1;unfold yD at this;rw[Uv]at this;exact this
 obtain⟨rows,hx⟩ : ∃rows,X[r]? = some rows:=⟨_,Uy (by omega)⟩
 obtain⟨s,p1,p2,p3⟩:=h.2 r (au H rows) (by rw[kI,hx];rfl)
 refine⟨s,by rw[hr];exact p1,?_,?_⟩
 ·have nd:(s.map (·.1)).Nodup:=(p1.map _).nodup_iff.mpr (keys_filter hn _)
  exact Ve.mp (xZ (Ve.mpr p2) nd)
 ·unfold bw
  rw[hr,VU,hx];exact p3
theorem ux {s:List (Int×Str)}(h:s.Pairwise fun a b=>a.1<b.1) (k:Int):∃U A W,s=U++A++W/\(∀x∈U,x.1<k)/\(∀x∈W,k<x.1)/\(A=[] \/ ∃x,A=[x]/\x.1=k):=by
 induction s with
 | nil=>exact⟨[],[],[],rfl,fun _ h=>absurd h U3,fun _ h=>absurd h U3,.inl rfl⟩
 | cons e s ih =>
  obtain⟨h1,h2⟩:=WO.mp h
  rcases Int.lt_trichotomy e.1 k with c|c|c
  ·obtain⟨U,A,W,e1,e2,e3,e4⟩:=ih h2
   refine⟨e::U,A,W,by rw[e1];rfl,fun x hx=>?_,e3,e4⟩
   rcases U9.mp hx with rfl|hx
   ·exact c
   ·exact e2 x hx
  ·exact⟨[],[e],s,rfl,fun _ h=>absurd h U3,fun x hx=>by have:=h1 x hx;omega,.inr ⟨e,rfl,c⟩⟩
  ·refine⟨[],[],e::s,rfl,fun _ h=>absurd h U3,fun x hx=>?_,.inl rfl⟩
   rcases U9.mp hx with rfl|hx
   ·exact c
   ·have:=h1 x hx;omega
theorem ki:∀{l l':List (Int×Str)},(l.Pairwise fun a b=>a.1<b.1)->(l'.Pairwise fun a b=>a.1<b.1)->(∀x,x∈l↔x∈l')->l=l'
 | [],[],_,_,_=>rfl
 | [],y::l',_,_,e=>absurd ((e y).mpr (UQ ..)) U3
 | x::l,[],_,_,e=>absurd ((e x).mp (UQ ..)) U3
 | x::l,y::l',h,h',e=>by
  obtain⟨h1,h2⟩:=WO.mp h
  obtain⟨h3,h4⟩:=WO.mp h'
  have exy:x=y:=by
   rcases U9.mp ((e x).mp (UQ ..)) with z|z
   ·exact z
   ·rcases U9.mp ((e y).mpr (UQ ..)) with z2|z2
    ·exact z2.symm
    ·have a:=h3 x z
     have b:=h1 y z2
     omega
  subst exy
  rw[ki h2 h4 fun z=>?_]
  constructor
  ·intro hz
   rcases U9.mp ((e z).mp (UK _ hz)) with q|q
   ·have:=h1 z hz;rw[q]at this;omega
   ·exact q
  ·intro hz
   rcases U9.mp ((e z).mpr (UK _ hz)) with q|q
   ·have:=h3 z hz;rw[q]at this;omega
   ·exact q
theorem E6 {s s':List (Int×Str)}(h:s.Pairwise fun a b=>a.1<b.1) (h':s'.Pairwise fun a b=>a.1<b.1) {k:Int}(e:∀x:Int×Str,x.1≠k->(x∈s↔x∈s')):∃U A B W,s=U++A++W/\s'=U++B++W/\(A=[] \/ ∃x,A=[x]/\x.1=k)/\(B=[] \/ ∃x,B=[x]/\x.1=k)/\∀x∈U++W,x.1≠k:=by
 obtain⟨U,A,W,e1,e2,e3,e4⟩:=ux h k
 obtain⟨U',B,W',f1,f2,f3,f4⟩:=ux h' k
 have inA:∀{A:List (Int×Str)},(A=[] \/ ∃x,A=[x]/\x.1=k)->∀x∈A,x.1=k:=fun {A} h x hx=>by
  rcases h with rfl|⟨y,rfl,e⟩
  ·exact absurd hx U3
  ·rw[UR.mp hx];exact e
 have lt_mem:∀x,x∈U↔x∈U':=fun x=>by
  constructor
  ·intro hx
   have c:=e2 x hx
   have:=(e x (by omega)).mp (by rw[e1];simp[hx])
   rw[f1,UG,UG]at this
   rcases this with(z|z)|z
   ·exact z
   ·have:=inA f4 x z;omega
   ·have:=f3 x z;omega
  ·intro hx
   have c:=f2 x hx
   have:=(e x (by omega)).mpr (by rw[f1];simp[hx])
   rw[e1,UG,UG]at this
   rcases this with(z|z)|z
   ·exact z
   ·have:=inA e4 x z;omega
   ·have:=e3 x z;omega
 have gt_mem:∀x,x∈W↔x∈W':=fun x=>by
  constructor
  ·intro hx
   have c:=e3 x hx
   have:=(e x (by omega)).mp (by rw[e1];simp[hx])
   rw[f1,UG,UG]at this
   rcases this with(z|z)|z
   ·have:=f2 x z;omega
   ·have:=inA f4 x z;omega
   ·exact z
  ·intro hx
   have c:=f3 x hx
   have:=(e x (by omega)).mpr (by rw[f1];simp[hx])
   rw[e1,UG,UG]at this
   rcases this with(z|z)|z
   ·have:=e2 x z;omega
   ·have:=inA e4 x z;omega
   ·exact z
 rw[e1]at h
 rw[f1]at h'
 have uU:U=U':=ki ((VG.mp (VG.mp h).1).1) ((VG.mp (VG.mp h').1).1) lt_mem
 have uW:W=W':=ki (VG.mp h).2.1 (VG.mp h').2.1 gt_mem
 exact⟨U,A,B,W,e1,by rw[f1,uU,uW],e4,f4,fun x hx=>(UG.mp hx).elim (fun h=>by have:=e2 x h;omega) fun h=>by have:=e3 x h;omega⟩
theorem l_ {α:Type}{s:List α}{w i:Nat}(h:i <(aD s w).length):(aD s w)[i]? = some ((s.drop (i*w)).take w):=by
 rw[fk]at h
 unfold aD
 rw[UI,List.getElem?_range h];rfl
theorem Br {U A B:List (Int×Str)}{w i:Nat}(h1:i <(aD (U++A) w).length) (h2:i <(aD (U++B) w).length) (h:(i+1)*w<=U.length):(aD (U++A) w)[i]? =(aD (U++B) w)[i]?:=by
 rw[l_ h1,l_ h2]
 rw[Nat.add_mul,Nat.one_mul]at h
 rw[List.drop_append_of_le_length (by omega),List.drop_append_of_le_length (by omega),VI (by rw[Vt];omega),VI (by rw[Vt];omega)]
theorem xF {α:Type}{s:List α}{w:Nat}(w1:1<=w):s.length <=(aD s w).length*w:=by
 have e:=gY (s:=s) w1 (aD s w).length
 rw[Va,bI _ w1]at e
 have l:=Vk List.length e
 rw[UH]at l
 omega
theorem B4 {m n:Int}{w:Int}(h:m<=n) (w1:1<=w):eK m w<=eK n w:=by
 unfold eK
 have:(m+w-1) / w <=(n+w-1) / w:=Int.ediv_le_ediv (by omega) (by omega)
 omega
theorem ji {α β:Type}{s:List α}{t:List β}{w:Nat}(h:s.length<=t.length) (w1:1<=w):(aD s w).length <=(aD t w).length:=by
 rw[fk,fk]
 have:=B4 (m:=s.length) (n:=t.length) (w:=w) (by omega) (by omega)
 omega
structure CZ (H:Hp) (X:List (List (List V))) (w R:Nat) (k0:Int) (es es':List (Int×Str)) (os ns:List (List V)) (U A B W:List (Int×Str)):Prop where
 cl:cH w R es (yD H X)
 nd:(es.map (·.1)).Nodup
 nd':(es'.map (·.1)).Nodup
 w1:1<=w
 R1:1<=R
 al:∀x:Int×Str,x.1≠k0->(x∈es↔x∈es')
 eo:os=bw X k0 R
 hO:au H os=aD (U++(A++W)) w
 hN:au H ns=aD (U++(B++W)) w
 so:(U++(A++W)).Pairwise fun a b=>a.1<b.1
 sn:(U++(B++W)).Pairwise fun a b=>a.1<b.1
 mn:∀x,x∈U++(B++W)↔x∈es'/\az x.1 R=az k0 R
 mo:∀x,x∈U++(A++W)↔x∈es/\az x.1 R=az k0 R
section
variable {H:Hp}{X:List (List (List V))}{w R:Nat}{k0 k:Int}{es es':List (Int×Str)}{os ns:List (List V)}{U A B W:List (Int×Str)}
theorem ym {α:Type}{s:List α}{w:Nat}:1 <=(aD s w).length:=by
 rw[fk]
 unfold eK
 omega
end
theorem i9 {H:Hp}{rows:List (List V)}:aH H rows.flatten =(au H rows).flatten:=by
 unfold aH au
 rw[List.map_flatten];rfl
theorem CN {H:Hp}{X:List (List (List V))}{w R:Nat}{k0:Int}{es es' s':List (Int×Str)}{ns:List (List V)}(cl:cH w R es (yD H X)) (nd:(es.map (·.1)).Nodup) (nd':(es'.map (·.1)).Nodup) (w1:1<=w) (R1:1<=R) (al:∀x:Int×Str,x.1≠k0->(x∈es↔x∈es'))
  (hN:au H ns=aD s' w) (sn:s'.Pairwise fun a b=>a.1<b.1) (mn:∀x,x∈s'↔x∈es'/\az x.1 R=az k0 R) :
  ∃U A B W,CZ H X w R k0 es es' (bw X k0 R) ns U A B W/\(A=[] \/ ∃x,A=[x]/\x.1=k0)/\(B=[] \/ ∃x,B=[x]/\x.1=k0)/\∀x∈U++W,x.1≠k0:=by
 obtain⟨s,p1,p2,p3⟩:=z8 (k:=k0) cl nd R1
 have mo:∀x,x∈s↔x∈es/\az x.1 R=az k0 R:=fun x=>by rw[p1.mem_iff,Vm,Wk]
 obtain⟨U,A,B,W,e1,e2,hA,hB,hUW⟩:=E6 p2 sn (k:=k0) fun x hx=>by
  rw[mo,mn]
  exact⟨fun h=>⟨(al x hx).mp h.1,h.2⟩,fun h=>⟨(al x hx).mpr h.1,h.2⟩⟩
 rw[U5]at e1 e2
 exact⟨U,A,B,W,⟨cl,nd,nd',w1,R1,al,rfl,by rw[p3,e1],by rw[hN,e2],by rw[<- e1];exact p2,by rw[<- e2];exact sn,fun x=>by rw[<- e2];exact mn x,fun x=>by rw[<- e1];exact mo x⟩,hA,hB,hUW⟩
def tY (es:List (Int×Str)) (k:Int):List (Int×Str):=es.filter fun e=>decide (e.1≠k)
theorem gP {es:List (Int×Str)}{k:Int}{x:Int×Str}:x∈tY es k↔x∈es/\x.1≠k:=by
 unfold tY;rw[Vm,Wk]
def xj (es:List (Int×Str)) (k:Int) (z:Str):List (Int×Str):=if (es.any fun e=>decide (e.1=k))=true then es.map (fun e=>if e.1=k then(e.1,z) else e) else es ++ [(k,z)]
theorem jF {es:List (Int×Str)}{k:Int}{z:Str}{x:Int×Str}:x∈xj es k z↔x =(k,z) \/(x∈es/\x.1≠k):=by
 unfold xj
 split
 ·rename_i a
  obtain⟨y,hy,ey⟩:=Xa.mp a
  have ey:=VV ey
  rw[UC]
  constructor
  ·rintro⟨e,he,rfl⟩
   by_cases c:e.1=k
   ·rw[UN c,c];exact .inl rfl
   ·rw[UM c];exact .inr ⟨he,c⟩
  ·rintro(rfl|⟨h1,h2⟩)
   ·exact⟨y,hy,by rw[UN ey,ey]⟩
   ·exact⟨x,h1,by rw[UM h2]⟩
 ·rename_i a
  have no:∀e∈es,e.1≠k:=fun e he z=>a (Xa.mpr ⟨e,he,U8 z⟩)
  rw[UG,UR]
  constructor
  ·rintro(h|rfl)
   ·exact .inr ⟨h,no x h⟩
   ·exact .inl rfl
  ·rintro(rfl|⟨h,_⟩)
   ·exact .inr rfl
   ·exact .inl h
theorem BJ {es:List (Int×Str)}{k:Int}{z:Str}(h:(es.map (·.1)).Nodup):((xj es k z).map (·.1)).Nodup:=by
 unfold xj
 split
 ·rw[Vo]
  have:((fun x:Int×Str=>x.1) ∘ fun e=>if e.1=k then(e.1,z) else e)=fun x=>x.1:=by
   funext e
   show(if e.1=k then(e.1,z) else e).1=e.1
   split <;> rfl
  rw[this];exact h
 ·rename_i a
  rw[UB]
  refine Vs.mpr ⟨h,by simp,fun x hx y hy e=>?_⟩
  have ey:y=k:=by simpa using hy
  obtain⟨p,hp,rfl⟩:=UC.mp hx
  exact a (Xa.mpr ⟨p,hp,U8 (e.trans ey)⟩)
theorem fT {H:Hp}{r:Nat}{os ns:List (List V)}:∀st∈d_ H r os ns,dG r st:=fun st h=>by
 unfold d_ at h
 rcases UG.mp h with h|h
 ·exact p8 _ st h
 ·split at h
  ·rw[UR.mp h];rfl
  ·exact absurd h U3
theorem qN {H:Hp}{r:Nat}{os ns:List (List V)}:∀(p:Nat) {r' a:Nat}{es:List V},bV.row r' a es∈unl H r os ns p->es∈ns
 | 0,_,_,_,h=>absurd h U3
 | p+1,r',a,es,h=>by
  have ih:=qN (H:=H) (r:=r) (os:=os) (ns:=ns) p (r':=r') (a:=a) (es:=es)
  cases e:ns[p]? with
  | none =>
   have e1:unl H r os ns (p+1)=unl H r os ns p:=by
    show unl H r os ns p++(match ns[p]? with|some es=>if iH H os es p=true then [bV.row r p es] else [] | none=>[])=_
    rw[e];exact U7 _
   rw[e1]at h;exact ih h
  | some e0 =>
   cases c:iH H os e0 p with
   | false=>rw[m5 e c]at h;exact ih h
   | true =>
    rw[fF e c]at h
    rcases UG.mp h with h|h
    ·exact ih h
    ·have:=UR.mp h
     injection this with _ _ z
     rw[z];exact UA e
theorem vg {H:Hp}{r:Nat}{os ns:List (List V)}{r' a:Nat}{es:List V}(h:bV.row r' a es∈d_ H r os ns):es∈ns:=by
 unfold d_ at h
 rcases UG.mp h with h|h
 ·exact qN _ h
 ·split at h
  ·have:=UR.mp h;cases this
  ·exact absurd h U3
theorem jP {q:List V->Prop}(h0:q []):∀{sts:List bV}{X:List (List (List V))},(∀rows∈X,∀es∈rows,q es)->(∀r a es,bV.row r a es∈sts->q es)->∀rows∈sts.foldl gO X,∀es∈rows,q es
 | [],_,h,_=>h
 | st::sts,X,h,hs=>jP h0 (sts:=sts) (X:=gO X st) (AR h h0 fun r a es e=>hs r a es (by rw[e];exact UQ ..)) fun r a es m=>hs r a es (UK _ m)
theorem pR {s:List (Int×Str)}{w:Nat}(h:s.Pairwise fun a b=>a.1<b.1):∀r∈aD s w,(r.map (·.1)).Nodup:=fun r hr=>by
 unfold aD at hr
 obtain⟨i,_,rfl⟩:=UC.mp hr
 refine VO.mpr (Ve.mpr ?_)
 exact(h.sublist ((Xh _ _).trans (WY _ _))).imp fun h=>Int.ne_of_lt h
theorem Mx {H:Hp}{X:List (List (List V))}{w R:Nat}{es:List (Int×Str)}(cl:cH w R es (yD H X)) (nd:(es.map (·.1)).Nodup):IF H X:=fun rows hr e he=>by
 obtain⟨i,hi⟩:=Vb hr
 obtain⟨s,p1,p2,p3⟩:=cl.2 i (au H rows) (by rw[kI,hi];rfl)
 have nds:(s.map (·.1)).Nodup:=(p1.map _).nodup_iff.mpr (keys_filter nd _)
 have lt:s.Pairwise fun a b=>a.1<b.1:=Ve.mp (xZ (Ve.mpr p2) nds)
 refine pR (w:=w) lt (aH H e) ?_
 rw[<- p3]
 exact UC.mpr ⟨e,he,rfl⟩
theorem C8 {H:Hp}{X:List (List (List V))}{w R:Nat}{es:List (Int×Str)}{k:Int}(cl:cH w R es (yD H X)) (nd:(es.map (·.1)).Nodup) (hen:f7 H X) (w1:1<=w) (w2:w<=8) (R1:1<=R) (el:es.length<=60):cV H (bw X k R)/\(bw X k R).flatten.length<=60/\((aH H (bw X k R).flatten).map (·.1)).Nodup/\(aH H (bw X k R).flatten).Pairwise (fun a b=>a.1<b.1)/\∀x,x∈aH H (bw X k R).flatten↔x∈es/\az x.1 R=az k R:=by
 obtain⟨s,p1,p2,p3⟩:=z8 (k:=k) cl nd R1
 have es':aH H (bw X k R).flatten=s:=by rw[i9,p3,bI _ w1]
 have sl:s.length<=es.length:=by rw[p1.length_eq];exact UY _ _
 have lr:=Vk List.length p3
 rw[aR]at lr
 have ln:=Vk List.length es'
 unfold aH at ln
 rw[Uv]at ln
 refine⟨⟨by rw[lr];exact UP (cS w1) (by omega),fun e he=>⟨?_,ny hen e he⟩⟩,by omega,?_,by rw[es'];exact p2,fun x=>?_⟩
 ·have hm:aH H e∈aD s w:=by rw[<- p3];exact UC.mpr ⟨e,he,rfl⟩
  unfold aD at hm
  obtain⟨i,_,hi⟩:=UC.mp hm
  have l:=Vk List.length hi
  unfold aH at l
  rw[UH,Uv]at l
  omega
 ·rw[es'];exact(p1.map _).nodup_iff.mpr (keys_filter nd _)
 ·rw[es',p1.mem_iff,Vm,Wk]
theorem zJ {H:Hp}{X:List (List (List V))}{sa:List Addr}{sts:List bV}(h:f7 H X) (hP:P1 (lM H) sa sts):∀j:Nat,f7 H (f_ X sts j)
 | 0=>by rw[lX];exact h
 | j+1=>by
  have ih:=zJ h hP j
  cases e:sts[j]? with
  | none =>
   have:f_ X sts (j+1)=f_ X sts j:=by
    unfold f_
    rw[WE,e,Option.toList_none,U7]
   rw[this];exact ih
  | some st =>
   obtain⟨a,_,ha⟩:=hP.at' e
   rw[mQ e];exact ih.step ha
def Po (es:List (Int×Str)):Prop:=∀e∈es,PyData.strOk e.2=true/\(0<=e.1/\e.1<1152921504606846976)/\e.2.length<=100
theorem Yd.kp {H H':Hp}{p y:Addr}{N:Nat}{w R:Int}{X:List (List (List V))}(hh:Hand H p N) (k:Kp H H' p) (h:Yd H y w R X):Yd H' y w R X:=by
 obtain⟨t,h1,⟨bs,h2,h3⟩,en,sz⟩:=h
 have kt:=iF hh k
 refine⟨t,kt _ _ h1,⟨bs,k.1 _ _ h2 (iy hh h2),h3.imp' fun b rows _ hm r=>?_⟩,en.keep kt,sz⟩
 obtain⟨_,as,h4,h5⟩:=r
 refine⟨trivial,as,k.1 _ _ h4 (iy hh h4),h5.imp' fun a es _ hm2 r=>⟨trivial,?_⟩⟩
 obtain⟨ts,e⟩:=jg (en rows hm es hm2)
 have r2:=r.2
 rw[e]at r2 ⊢
 exact k.1 _ _ r2 (iy hh r2)
theorem pA {H H':Hp}{r:Nat}{os ns:List (List V)}(kt:∀t xs,H t=some (.tup xs)->H' t=some (.tup xs)) (eo:∀es∈os,∀v∈es,En H v) (en:∀es∈ns,∀v∈es,En H v):d_ H' r os ns=d_ H r os ns:=by
 unfold d_;rw[jG kt eo en]
theorem j3 {H:Hp}{r:Nat}{os ns:List (List V)}:(d_ H r os ns).length<=ns.length+1:=by
 unfold d_
 rw[Uz]
 have:=ku (H:=H) (r:=r) (os:=os) (ns:=ns) ns.length
 have:(if os.length > ns.length then [bV.cut r ns.length] else []).length<=1:=by split <;> simp
 omega
theorem IQ {H:Hp}{y:Addr}{X:List (List (List V))}{w R:Nat}{es:List (Int×Str)}(h:Yq H y w R X) (cl:cH w R es (yD H X)) (w1:1<=w) (w2:w<=8) (R2:R<=130) (el:es.length<=129):Yd H y w R X:=by
 obtain⟨t,h1,h2,en,_⟩:=h
 have xl:X.length=R:=by have:=cl.1;unfold yD at this;rw[Uv]at this;exact this
 refine⟨t,h1,h2,en,by omega,fun rows hr=>?_⟩
 obtain⟨i,hi⟩:=Vb hr
 obtain⟨s,p1,_,p3⟩:=cl.2 i (au H rows) (by rw[kI,hi];rfl)
 have sl:s.length<=es.length:=by rw[p1.length_eq];exact UY _ _
 have lr:=Vk List.length p3
 rw[aR]at lr
 refine⟨by rw[lr];exact UP (cS w1) (by omega),fun e he=>?_⟩
 have hm:aH H e∈aD s w:=by rw[<- p3];exact UC.mpr ⟨e,he,rfl⟩
 unfold aD at hm
 obtain⟨i,_,hi⟩:=UC.mp hm
 have l:=Vk List.length hi
 unfold aH at l
 rw[UH,Uv]at l
 omega
theorem EL.okE {H:Hp}{ts:List Addr}{es:List (Int×Str)}(h:EL H ts es):Po es:=fun e he=>by
 obtain⟨i,hi⟩:=Vb he
 obtain⟨t,_,_,h2,h3,h4,h5⟩:=h.at' hi
 exact⟨h2,⟨h3,h4⟩,h5⟩
theorem qZ {H:Hp}{X:List (List V)}{k:Int}:aH H (fS H X k) =(aH H X.flatten).filter fun e=>!decide (e.1=k):=by
 unfold aH fS
 rw[XC];rfl
theorem rF {k:Int}{B:List (List (Int×Str))}:∀{A:List (List (Int×Str))},(∀r∈A,cP k (r.map (·.1))=false)->(iW k (A++B)).1 =(iW k B).1
 | [],_=>rfl
 | r::A,h=>by
  show(iW k (r::(A++B))).1=_
  rw[iW,UM (by rw[h r (UQ ..)];decide)]
  exact rF fun x hx=>h x (UK _ hx)
theorem wI {k:Int}{B:List (List (Int×Str))}:∀{A:List (List (Int×Str))}{r:List (Int×Str)},r∈A->cP k (r.map (·.1))=true->(iW k (A++B)).1 =(iW k A).1
 | [],_,h,_=>absurd h U3
 | r0::A,r,h,c=>by
  show(iW k (r0::(A++B))).1 =(iW k (r0::A)).1
  rw[iW,iW]
  cases d:cP k (r0.map (·.1)) with
  | true=>rw[UN rfl,UN rfl]
  | false =>
   rw[UM (by decide),UM (by decide)]
   rcases U9.mp h with rfl|h
   ·rw[c]at d;cases d
   ·exact wI h c
theorem yy {k:Int}{r:List (Int×Str)}(h:cP k (r.map (·.1))=false) (s:Ws r):∀y∈r,y.1<k:=fun y hy=>by
 unfold cP at h
 rw[List.getLast?_map]at h
 cases c:r.getLast? with
 | none=>rw[List.getLast?_eq_none_iff.mp c]at hy;cases hy
 | some x =>
  rw[c]at h
  have hx:¬ k<=x.1:=by simpa using h
  obtain⟨l,hl⟩:=List.getLast?_eq_some_iff.mp c
  unfold Ws at s
  rw[hl]at hy s
  rcases UG.mp hy with z|z
  ·have:=(VG.mp s).2.2 y z x (by simp)
   omega
  ·rw[UR.mp z];omega
theorem Ar {H:Hp}{r:Nat}{ns:List (List V)}:∀p:Nat,p<=ns.length->(unl H r [] ns p).foldl cQ []=ns.take p
 | 0,_=>rfl
 | p+1,hp=>by
  obtain⟨es,hes⟩ : ∃es,ns[p]? = some es:=⟨_,Uy (by omega)⟩
  rw[fF hes (by unfold iH;rw[List.getElem?_nil]),Vu,Ar p (by omega),aX hes]
  show(pad (ns.take p) (p+1)).set p es=_
  have tl:(ns.take p).length=p:=by rw[UH];omega
  unfold pad
  rw[tl,show p+1-p=1 by omega,Wt _ _ (by omega),tl,Wa];rfl
theorem Jk {H:Hp}{r:Nat}{ns:List (List V)}:(d_ H r [] ns).foldl cQ []=ns:=by
 unfold d_
 rw[UM (by simp),U7,Ar _ (UE _),Va]
theorem pH {H:Hp}{X:List (List V)}{n:Nat}:au H (pad X n)=pad (au H X) n:=by
 unfold pad au
 rw[UB,List.map_replicate,Uv];rfl
theorem ju {H:Hp}{X:List (List V)}{i:Nat}{es:List V}:au H (X.set i es) =(au H X).set i (aH H es):=by unfold au;rw[List.map_set]
theorem nN {H:Hp}{r:Nat}{os ns:List (List V)}(hl:os.length<=ns.length):∀d:Nat,d<=ns.length->∃m:Nat,au H ((oK H r os ns (ns.length-d) ns.length).reverse.foldl cQ os) =(au H os).take (ns.length-d)++(List.replicate m []++(au H ns).drop (ns.length-d))/\(d=0->m=0)/\(0<d->min os.length (ns.length-d)+m=ns.length-d)
 | 0,_=>by
  refine⟨0,?_,fun _=>rfl,fun h=>absurd h (by omega)⟩
  rw[Nat.sub_zero,B5]
  show au H os=_
  rw[UW (by rw[aR];omega),Vf (by rw[aR];omega)]
  simp
 | d+1,hd=>by
  obtain⟨m,ih,m0,m1⟩:=nN (H:=H) (r:=r) hl d (by omega)
  obtain⟨p,hp⟩ : ∃p,p=ns.length-(d+1):=⟨_,rfl⟩
  rw[show ns.length-d=p+1 by omega]at ih m1
  rw[<- hp]
  obtain⟨es,hes⟩ : ∃es,ns[p]? = some es:=⟨_,Uy (by omega)⟩
  have hn:(au H ns)[p]? = some (aH H es):=by rw[j9,hes];rfl
  rw[mK hn]
  generalize hZ:(oK H r os ns (p+1) ns.length).reverse.foldl cQ os=Z at ih
  by_cases ol:os.length<=p
  ·have ho:os[p]? = none:=UT ol
   have ub:iH H os es p=true:=by unfold iH;rw[ho]
   rw[xx (by omega) hes ub,Xi,Vu,hZ]
   refine⟨p-os.length,?_,fun z=>absurd z (by omega),fun _=>by omega⟩
   show au H ((pad Z (p+1)).set p es)=_
   rw[UW (by rw[aR];omega)]at ih ⊢
   have e1:pad (au H Z) (p+1)=au H os++(List.replicate (p+1-os.length) []++(au H ns).drop (p+1)):=by
    by_cases d0:d=0
    ·have dn:(au H ns).drop (p+1)=[]:=Vf (by rw[aR];omega)
     rw[ih,m0 d0,dn]
     unfold pad
     simp[aR]
    ·have mm:=m1 (by omega)
     rw[ih,qI (by rw[Uz,Uz,aR,VD];omega),show m=p+1-os.length by omega]
   rw[ju,pH,e1,Wt _ _ (by rw[aR];omega),aR,show p+1-os.length =(p-os.length)+1 by omega,List.replicate_succ',U5,Wt _ _ (by rw[VD];exact UE _),VD,Wa];rfl
  ·obtain⟨o,ho⟩ : ∃o,os[p]? = some o:=⟨_,Uy (by omega)⟩
   have hd':(au H os)[p]? = some (aH H o):=by rw[j9,ho];rfl
   have mz:m=0:=by
    by_cases d0:d=0
    ·exact m0 d0
    ·have:=m1 (by omega)
     omega
   subst mz
   refine⟨0,?_,fun _=>rfl,fun _=>by omega⟩
   rw[List.replicate_zero,Wn]at ih ⊢
   have ub:iH H os es p = !decide (aH H o=aH H es):=by unfold iH;rw[ho]
   rw[aX hd',U5]at ih
   by_cases c:aH H o=aH H es
   ·rw[FL (by omega) hes (by rw[ub,U8 c];rfl),hZ,ih,c];rfl
   ·rw[xx (by omega) hes (by rw[ub,U6 c];rfl),Xi,Vu,hZ]
    show au H ((pad Z (p+1)).set p es)=_
    have ll:=Vk List.length ih
    rw[aR,Uz,Uz,UH,Vt,aR,aR]at ll
    have l1:[aH H o].length=1:=rfl
    rw[qI (by omega),ju,ih]
    have tl:((au H os).take p).length=p:=by rw[UH,aR];omega
    rw[Wt _ _ (by omega),tl,Wa];rfl
theorem Bd {H:Hp}{r:Nat}{os ns:List (List V)}{n:Nat}:oK H r os ns 0 n=unl H r os ns n:=rfl
theorem rG {H:Hp}{r:Nat}{os ns:List (List V)}(hl:os.length<=ns.length):au H ((unl H r os ns ns.length).reverse.foldl cQ os)=au H ns:=by
 obtain⟨m,e,m0,m1⟩:=nN (H:=H) (r:=r) hl ns.length (UE _)
 have mz:m=0:=by
  by_cases d0:ns.length=0
  ·exact m0 d0
  ·have:=m1 (by omega)
   omega
 rw[Wa,Bd,mz,WA,Xk]at e
 exact e
def ET (R:Int) (sts:List bV) (j:Nat):Int:=(sts.take j).foldl Cn R
theorem qA {r:Nat}:∀{sts:List bV}{R:Int},(∀st∈sts,dG r st)->sts.foldl Cn R=R
 | [],_,_=>rfl
 | st::sts,R,h=>by
  have e:Cn R st=R:=by
   have:=h st (UQ ..)
   cases st with
   | rooms n=>exact this.elim
   | cut _ _=>rfl
   | row _ _ _=>rfl
  show sts.foldl Cn (Cn R st)=R
  rw[e];exact qA fun s hs=>h s (UK _ hs)
theorem gV {α:Type}{l:List α}{j:Nat}{p:α->Prop}(h:∀x∈l,p x):∀x∈l.take j,p x:=fun x hx=>h x (Vn hx)
section
variable {X:List (List (List V))}{A B:List bV}{a b n:Nat}{R:Int}
theorem vh (hA:∀st∈A,dG a st) {j:Nat}(hj:j<=A.length):f_ X (A ++ .rooms n::B) j =(A.take j).foldl gO X/\ET R (A ++ .rooms n::B) j=R:=by
 unfold f_ ET
 rw[VI hj]
 exact⟨rfl,qA (gV hA)⟩
theorem vL (hA:∀st∈A,dG a st) (hB:∀st∈B,dG b st) (i:Nat):f_ X (A ++ .rooms n::B) (A.length+1+i) =(B.take i).foldl gO (gO (A.foldl gO X) (.rooms n))/\ET R (A ++ .rooms n::B) (A.length+1+i)=n:=by
 have e:(A ++ .rooms n::B).take (A.length+1+i)=A ++ .rooms n::B.take i:=by
  rw[List.take_append,UW (by omega),show A.length+1+i-A.length=i+1 by omega];rfl
 unfold f_ ET
 rw[e,Vu,Vu]
 exact⟨rfl,qA (gV hB)⟩
theorem EA (hA:∀st∈A,dG a st) {j:Nat}(hj:j<=A.length) (i:Nat):aT (f_ X (A ++ .rooms n::B) j) i=if i=a then(A.take j).foldl cQ (aT X i) else aT X i:=by
 rw[(vh (R:=0) hA hj).1];exact ia (gV hA)
theorem C6 (i:Nat):aT (gO X (.rooms n)) i=aT X i:=uL X i
theorem Ep (hA:∀st∈A,dG a st) (hB:∀st∈B,dG b st) (ab:a≠b) (j i:Nat):aT (f_ X (A ++ .rooms n::B) (A.length+1+j)) i=if i=b then(B.take j).foldl cQ (aT X i) else if i=a then A.foldl cQ (aT X i) else aT X i:=by
 rw[(vL (R:=0) hA hB j).1,ia (gV hB),C6,ia hA]
 by_cases c:i=b
 ·rw[UN c,UN c,UM (by omega)]
 ·rw[UM c,UM c]
end
def Fd (H:Hp) (X:List (List (List V))) (R:Int) (es:List (Int×Str)):Prop:=∀k:Int,(iW k (au H (aT X (az k R).toNat))).1=pick k es
theorem EE {α:Type}{Y:List (List α)}{n:Nat}(h:∀i,n<=i->(Y[i]?).getD []=[]):(trim Y).length<=n:=by
 by_cases c:(trim Y).length<=n
 ·exact c
 ·exfalso
  have ne:trim Y ≠ []:=fun z=>by rw[z]at c;simp at c
  have e:=uL Y ((trim Y).length-1)
  rw[h _ (by omega)]at e
  have hl:(trim Y)[(trim Y).length-1]? =(trim Y).getLast?:=by rw[List.getLast?_eq_getElem?]
  rw[hl]at e
  unfold trim at e ne
  rw[List.getLast?_reverse]at e
  have hd:=List.head?_dropWhile_not (fun r:List α=>r.isEmpty) Y.reverse
  cases z:(Y.reverse.dropWhile (·.isEmpty)).head? with
  | none=>rw[List.head?_eq_none_iff]at z;rw[z]at ne;simp at ne
  | some x =>
   rw[z]at e hd
   have:x=[]:=e
   rw[this]at hd
   simp at hd
theorem Dh {H:Hp}{Z:List (List (List V))}{w R:Nat}{es:List (Int×Str)}(zl:Z.length<=R) (h:∀i,i<R->∃s,s.Perm (es.filter fun e=>decide (az e.1 R =(i:Int)))/\(s.Pairwise fun a b=>a.1<=b.1)/\au H (aT Z i)=aD s w):cH w R es (yD H Z):=by
 have ne:∀i,i<R->aT Z i ≠ []:=fun i hi z=>by
  obtain⟨s,_,_,e⟩:=h i hi
  rw[z]at e
  have:=ym (s:=s) (w:=w)
  rw[<- e]at this
  exact absurd this (by simp[au])
 have zl':Z.length=R:=by
  by_cases g:Z.length=R
  ·exact g
  ·exact absurd (by unfold aT;rw[UT (by omega)];rfl) (ne (R-1) (by omega))
 refine⟨by unfold yD;rw[Uv];exact zl',fun i rowsd hi=>?_⟩
 rw[kI]at hi
 cases e:Z[i]? with
 | none=>rw[e]at hi;cases hi
 | some rows =>
  rw[e]at hi
  have hi:au H rows=rowsd:=US hi
  have il:=(Ux.mp e).1
  obtain⟨s,p1,p2,p3⟩:=h i (by omega)
  have ea:aT Z i=rows:=by unfold aT;rw[e];rfl
  rw[ea,hi]at p3
  exact⟨s,p1,p2,p3⟩
theorem IM {H:Hp}{X:List (List (List V))}{w R:Nat}{es:List (Int×Str)}(h:cH w R es (yD H X)) (hn:(es.map (·.1)).Nodup) {i:Nat}(hi:i<R):∃s,s.Perm (es.filter fun e=>decide (az e.1 R =(i:Int)))/\(s.Pairwise fun a b=>a.1<b.1)/\au H (aT X i)=aD s w:=by
 have xl:X.length=R:=by have:=h.1;unfold yD at this;rw[Uv]at this;exact this
 obtain⟨rows,hx⟩ : ∃rows,X[i]? = some rows:=⟨_,Uy (by omega)⟩
 obtain⟨s,p1,p2,p3⟩:=h.2 i (au H rows) (by rw[kI,hx];rfl)
 refine⟨s,p1,?_,?_⟩
 ·have nd:(s.map (·.1)).Nodup:=(p1.map _).nodup_iff.mpr (keys_filter hn _)
  exact Ve.mp (xZ (Ve.mpr p2) nd)
 ·unfold aT;rw[hx];exact p3
def tn (R:Nat):Nat:=((R:Int)-2^lg R).toNat
theorem iU {R:Nat}(h:1<=R):(tn R:Int) =(R:Int)-2^lg (R:Int)/\tn R<R:=by
 have a:=Au (R:=(R:Int)) (by omega)
 have p:=fM (lg (R:Int))
 unfold tn
 omega
theorem l9 (k:Int) {R:Nat}(h:1<=R):(az k ((R+1:Nat):Int) =(R:Int)/\az k R =(tn R:Int))\/az k ((R+1:Nat):Int)=az k R:=by
 have e:=By k (R:=(R:Int)) (by omega)
 rw[<-(iU h).1]at e
 rw[show((R+1:Nat):Int) =(R:Int)+1 by omega,e]
 split
 ·rename_i c;exact .inl ⟨rfl,c.1⟩
 ·exact .inr rfl
theorem Fv {s es:List (Int×Str)}{k:Int}(hs:s.Pairwise fun a b=>a.1<b.1) (hn:(es.map (·.1)).Nodup) (h:∀z,(k,z)∈s↔(k,z)∈es):pick k s=pick k es:=uR (pQ hs) (mW hn) h
structure Base (H:Hp) (X:List (List (List V))) (w R:Nat) (es:List (Int×Str)):Prop where
 cl:cH w R es (yD H X)
 nd:(es.map (·.1)).Nodup
 w1:1<=w
 R1:1<=R
section
variable {H:Hp}{X:List (List (List V))}{w R:Nat}{es:List (Int×Str)}
theorem Base.xl (c:Base H X w R es):X.length=R:=by have:=c.cl.1;unfold yD at this;rw[Uv]at this;exact this
theorem Base.own (c:Base H X w R es) {i:Nat}(hi:i<R):∃s,(s.Pairwise fun a b=>a.1<b.1)/\au H (aT X i)=aD s w/\(∀x,x∈s↔x∈es/\az x.1 R =(i:Int))/\s.Perm (es.filter fun e=>decide (az e.1 R =(i:Int))):=by
 obtain⟨s,p1,p2,p3⟩:=IM c.cl c.nd hi
 exact⟨s,p2,p3,fun x=>by rw[p1.mem_iff,Vm,Wk],p1⟩
def nq (H:Hp) (R:Nat) (os gN sN:List (List V)):List bV:=d_ H R [] gN ++ .rooms (R+1)::d_ H (tn R) os sN
structure BH (H:Hp) (X:List (List (List V))) (w R:Nat) (es:List (Int×Str)) (gN sN:List (List V)) (s g s':List (Int×Str)):Prop extends Base H X w R es where
 so:s.Pairwise fun a b=>a.1<b.1
 hO:au H (aT X (tn R))=aD s w
 mo:∀x,x∈s↔x∈es/\az x.1 R =(tn R:Int)
 eg:g=s.filter fun e=>decide (az e.1 ((R+1:Nat):Int) =(R:Int))
 es':s'=s.filter fun e=>decide (az e.1 ((R+1:Nat):Int) =(tn R:Int))
 hg:au H gN=aD g w
 hs:au H sN=aD s' w
variable {gN sN:List (List V)}{s g s':List (Int×Str)}
theorem BH.mg (c:BH H X w R es gN sN s g s') (x:Int×Str):x∈g↔x∈es/\az x.1 ((R+1:Nat):Int) =(R:Int):=by
 rw[c.eg,Vm,c.mo,Wk]
 have t:=iU c.R1
 have rb:=bU (k:=x.1) (R:=(R:Int)) (by have:=c.R1;omega)
 rcases l9 x.1 c.R1 with h|h
 ·exact⟨fun q=>⟨q.1.1,q.2⟩,fun q=>⟨⟨q.1,h.2⟩,q.2⟩⟩
 ·exact⟨fun q=>⟨q.1.1,q.2⟩,fun q=>absurd q.2 (by omega)⟩
theorem BH.ms (c:BH H X w R es gN sN s g s') (x:Int×Str):x∈s'↔x∈es/\az x.1 ((R+1:Nat):Int) =(tn R:Int):=by
 rw[c.es',Vm,c.mo,Wk]
 have t:=iU c.R1
 rcases l9 x.1 c.R1 with h|h
 ·exact⟨fun q=>⟨q.1.1,q.2⟩,fun q=>⟨⟨q.1,h.2⟩,q.2⟩⟩
 ·exact⟨fun q=>⟨q.1.1,q.2⟩,fun q=>⟨⟨q.1,by omega⟩,q.2⟩⟩
theorem BH.sg (c:BH H X w R es gN sN s g s'):g.Pairwise fun a b=>a.1<b.1:=by rw[c.eg];exact c.so.filter _
theorem BH.ss (c:BH H X w R es gN sN s g s'):s'.Pairwise fun a b=>a.1<b.1:=by rw[c.es'];exact c.so.filter _
theorem BH.none (c:BH H X w R es gN sN s g s'):aT X R=[]:=by unfold aT;rw[UT (by rw[c.xl];exact UE _)];rfl
end
def nF (H:Hp) (R:Nat) (os ns:List (List V)):List bV:=(unl H (tn R) os ns ns.length).reverse ++ .rooms R::[.cut R 0]
structure Hx (H:Hp) (X:List (List (List V))) (w R:Nat) (es:List (Int×Str)) (ns:List (List V)) (s b:List (Int×Str)):Prop extends Base H X w (R+1) es where
 R2:1<=R
 so:s.Pairwise fun a b=>a.1<b.1
 hO:au H (aT X (tn R))=aD s w
 mo:∀x,x∈s↔x∈es/\az x.1 ((R+1:Nat):Int) =(tn R:Int)
 sb:b.Pairwise fun a b=>a.1<b.1
 mb:∀x,x∈b↔x∈es/\(az x.1 ((R+1:Nat):Int) =(tn R:Int)\/az x.1 ((R+1:Nat):Int) =(R:Int))
 hb:au H ns=aD b w
section
variable {H:Hp}{X:List (List (List V))}{w R:Nat}{es:List (Int×Str)}{ns:List (List V)}{s b:List (Int×Str)}
theorem Hx.sub (c:Hx H X w R es ns s b):s.Sublist b:=by
 have e:s=b.filter fun e=>decide (az e.1 ((R+1:Nat):Int) =(tn R:Int)):=ki c.so (c.sb.filter _) fun x=>by
  rw[c.mo,Vm,c.mb,Wk]
  exact⟨fun q=>⟨⟨q.1,.inl q.2⟩,q.2⟩,fun q=>⟨q.1.1,q.2⟩⟩
 rw[e];exact List.filter_sublist
theorem Hx.ll (c:Hx H X w R es ns s b):(aT X (tn R)).length<=ns.length:=by
 have a:=Vk List.length c.hO
 have b:=Vk List.length c.hb
 rw[aR]at a b
 rw[a,b]
 exact ji c.sub.length_le c.w1
theorem Hx.mb' (c:Hx H X w R es ns s b) (x:Int×Str):x∈b↔x∈es/\az x.1 R =(tn R:Int):=by
 rw[c.mb]
 have t:=iU c.R2
 have rb:=bU (k:=x.1) (R:=(R:Int)) (by have:=c.R2;omega)
 rcases l9 x.1 c.R2 with h|h
 ·exact⟨fun q=>⟨q.1,h.2⟩,fun q=>⟨q.1,.inr h.1⟩⟩
 ·rw[h]
  exact⟨fun q=>⟨q.1,q.2.elim id fun z=>absurd z (by omega)⟩,fun q=>⟨q.1,.inl q.2⟩⟩
theorem d8 {H:Hp}{r:Nat}{os ns:List (List V)}{n:Nat}:∀st∈(unl H r os ns n).reverse,dG r st:=fun st h=>p8 _ st (V3.mp h)
theorem nR {r:Nat}:∀st ∈ [bV.cut r 0],dG r st:=fun st h=>by rw[UR.mp h];rfl
end
def sM (H:Hp) (X:List (List V)) (R n:Int):List V:=X.flatten.filter fun v=>decide (az (eD H v).1 R=n)
theorem AZ {H:Hp}{X:List (List V)}{R n:Int}(en:∀es∈X,∀v∈es,En H v):∀v∈sM H X R n,En H v:=fun v hv=>by
 obtain⟨es,he,hm⟩:=Vh.mp (Vm.mp hv).1
 exact en es he v hm
theorem Ea {H:Hp}{X:List (List V)}{R n:Int}:(sM H X R n).length<=X.flatten.length:=UY _ _
theorem lG {H H1:Hp}{bs:List Addr}{X:List (List (List V))}{o:Addr}{r:Nat}(hP:P1 (R2 (fun _=>True) H) bs X) (s1:aO H H1) (ho:bs[r]? = some o \/(bs.length<=r/\H1 o=some (.lst []))):rK H1 o (aT X r):=by
 have bl:=hP.1
 rcases ho with ho|⟨ho,h1⟩
 ·obtain⟨rows,hx,_,as,h2,h3⟩:=hP.get ho
  unfold aT
  rw[hx]
  exact⟨as,s1 _ _ h2,h3.1,fun i a es e1 e2=>s1 _ _ (h3.2 i a es e1 e2).2⟩
 ·unfold aT
  rw[UT (by omega)]
  exact⟨[],h1,rfl,fun i a es e=>by simp at e⟩
def lT (K:W.Frag):Sp:=fun vs H Q _=>∃(y:Addr) (w R:Nat) (X:List (List (List V))),vs=[.ref y]/\Yd H y w R X/\X.length=R/\1<=w/\w<=8/\1<=R/\R<=129/\cV H (aT X (tn R))/\(aT X (tn R)).flatten.length<=60 /\
 ∀(D:Addr) (ss:List Addr) (H':Hp),H D=none->H' D=some (.lst (ss.map V.ref))->P1 (lM (hid D H')) ss (nq H R (aT X (tn R)) (aD (sM H (aT X (tn R)) ((R+1:Nat):Int) R) w) (aD (sM H (aT X (tn R)) ((R+1:Nat):Int) (tn R)) w))->aO H H'->Q (.ref D) H'
def qH (K:W.Frag):Sp:=fun vs H Q _=>∃(y:Addr) (w R:Nat) (X:List (List (List V))),vs=[.ref y]/\Yd H y w ((R+1:Nat):Int) X/\1<=w/\w<=8/\1<=R/\R<=129/\cV H (aT X (tn R))/\cV H (aT X R)/\(aT X (tn R)).flatten.length<=30/\(aT X R).flatten.length<=30/\((aH H ((aT X (tn R)).flatten++(aT X R).flatten)).map (·.1)).Nodup /\
 ∀(D:Addr) (ss:List Addr) (us:List V) (H':Hp),H D=none->H' D=some (.lst (ss.map V.ref))->us.Perm ((aT X (tn R)).flatten++(aT X R).flatten)->((aH H us).Pairwise fun a b=>a.1<b.1)->P1 (lM (hid D H')) ss (nF H R (aT X (tn R)) (aD us w))->aO H H'->Q (.ref D) H'
theorem iT {H:Hp}{us:List V}{w:Nat}:au H (aD us w)=aD (aH H us) w:=by unfold au aH;rw[nO]
section
variable {H:Hp}{X:List (List (List V))}{w R:Nat}{es:List (Int×Str)}
theorem Base.rows (b:Base H X w R es) (hen:f7 H X) (w2:w<=8) (el:es.length<=40) {i:Nat}(hi:i<R):cV H (aT X i)/\(aT X i).flatten.length<=40/\∃s,(s.Pairwise fun a b=>a.1<b.1)/\au H (aT X i)=aD s w/\aH H (aT X i).flatten=s/\∀x,x∈s↔x∈es/\az x.1 R =(i:Int):=by
 obtain⟨s,p2,p3,mo,p1⟩:=b.own hi
 have es':aH H (aT X i).flatten=s:=by rw[i9,p3,bI _ b.w1]
 have sl:s.length<=es.length:=by rw[p1.length_eq];exact UY _ _
 have lr:=Vk List.length p3
 rw[aR]at lr
 have ln:=Vk List.length es'
 unfold aH at ln
 rw[Uv]at ln
 refine⟨⟨by rw[lr];exact UP (cS b.w1) (by omega),fun e he=>⟨?_,fun v hv=>?_⟩⟩,by omega,s,p2,p3,es',mo⟩
 ·have hm:aH H e∈aD s w:=by rw[<- p3];exact UC.mpr ⟨e,he,rfl⟩
  unfold aD at hm
  obtain⟨i,_,hi⟩:=UC.mp hm
  have l:=Vk List.length hi
  unfold aH at l
  rw[UH,Uv]at l
  omega
 ·unfold aT at he
  cases z:X[i]? with
  | none=>rw[z]at he;exact absurd he U3
  | some x=>rw[z]at he;exact hen x (UA z) e he v hv
theorem JV (b:Base H X w (R+1) es) (hen:f7 H X) (w2:w<=8) (el:es.length<=40) (R2:1<=R):((aH H ((aT X (tn R)).flatten++(aT X R).flatten)).map (·.1)).Nodup:=by
 have t:=iU R2
 obtain⟨_,_,s,so,_,ef,mo⟩:=b.rows hen w2 el (i:=tn R) (by omega)
 obtain⟨_,_,s2,so2,_,ef2,mo2⟩:=b.rows hen w2 el (i:=R) (by omega)
 have e:aH H ((aT X (tn R)).flatten++(aT X R).flatten)=s++s2:=by
  rw[<- ef,<- ef2];unfold aH;rw[UB]
 rw[e,UB]
 have n1:∀{s:List (Int×Str)},(s.Pairwise fun a b=>a.1<b.1)->(s.map (·.1)).Nodup:=fun h=>VO.mpr (Ve.mpr (h.imp fun h=>Int.ne_of_lt h))
 refine Vs.mpr ⟨n1 so,n1 so2,fun a ha c hc z=>?_⟩
 obtain⟨x,hx,rfl⟩:=UC.mp ha
 obtain⟨x2,hx2,rfl⟩:=UC.mp hc
 have a1:=((mo x).mp hx).2
 have a2:=((mo2 x2).mp hx2).2
 rw[z]at a1
 omega
end
def Ah (acc:List (Int×Str)) (e:Int×Str):List (Int×Str):=if e.1∈acc.map (·.1) then acc else acc ++ [e]
def cI (R:Int) (i:Nat) (acc:List (Int×Str)) (e:Int×Str):List (Int×Str):=if az e.1 R =(i:Int) then Ah acc e else acc
def e8 (R:Int) (D:List (List (List (Int×Str)))):Nat->List (Int×Str)
 | 0=>[]
 | n+1=>(((D[n]?).getD []).flatten).foldl (cI R n) (e8 R D n)
def stand (R:Nat) (D:List (List (List (Int×Str)))):List (Int×Str):=e8 R D (min R D.length)
theorem DG {R:Int}{i:Nat}{acc:List (Int×Str)}{e:Int×Str}(h:(acc.map (·.1)).Nodup):((cI R i acc e).map (·.1)).Nodup:=by
 unfold cI Ah
 split
 ·split
  ·exact h
  ·rename_i c
   rw[UB]
   refine Vs.mpr ⟨h,by simp,fun a ha b hb z=>c ?_⟩
   have:b=e.1:=by simpa using hb
   rw[<- this,<- z];exact ha
 ·exact h
theorem AA {R:Int}{i:Nat}:∀{l acc:List (Int×Str)},(acc.map (·.1)).Nodup->((l.foldl (cI R i) acc).map (·.1)).Nodup
 | [],_,h=>h
 | e::l,acc,h=>AA (l:=l) (acc:=cI R i acc e) (DG h)
theorem uF {R:Int}{D:List (List (List (Int×Str)))}:∀n:Nat,((e8 R D n).map (·.1)).Nodup
 | 0=>by simp[e8]
 | n+1=>AA (uF n)
theorem CY {p:Int×Str->Prop}{R:Int}{i:Nat}{acc:List (Int×Str)}{e:Int×Str}(h:∀x∈acc,p x) (he:p e):∀x∈cI R i acc e,p x:=by
 unfold cI Ah
 split
 ·split
  ·exact h
  ·intro x hx
   rcases UG.mp hx with z|z
   ·exact h x z
   ·rw[UR.mp z];exact he
 ·exact h
theorem AO {p:Int×Str->Prop}{R:Int}{i:Nat}:∀{l acc:List (Int×Str)},(∀x∈acc,p x)->(∀x∈l,p x)->∀x∈l.foldl (cI R i) acc,p x
 | [],_,h,_=>h
 | e::l,acc,h,hl=>AO (l:=l) (acc:=cI R i acc e) (CY h (hl e (UQ ..))) fun x hx=>hl x (UK _ hx)
theorem tU {p:Int×Str->Prop}{R:Int}{D:List (List (List (Int×Str)))}(h:∀rows∈D,∀r∈rows,∀e∈r,p e):∀n:Nat,∀x∈e8 R D n,p x
 | 0=>fun _ h=>absurd h U3
 | n+1=>AO (tU h n) fun x hx=>by
  obtain⟨r,hr,hx⟩:=Vh.mp hx
  cases e:D[n]? with
  | none=>rw[e]at hr;exact absurd hr U3
  | some rows=>rw[e]at hr;exact h rows (UA e) r hr x hx
theorem qy {R:Int}{i:Nat}:∀{l acc:List (Int×Str)},(l.foldl (cI R i) acc).length<=acc.length+l.length
 | [],_=>UE _
 | e::l,acc=>by
  have ih:=qy (R:=R) (i:=i) (l:=l) (acc:=cI R i acc e)
  have:(cI R i acc e).length<=acc.length+1:=by
   unfold cI Ah
   split
   ·split
    ·omega
    ·rw[Uz];exact UE _
   ·omega
  show(l.foldl (cI R i) (cI R i acc e)).length<=acc.length+(l.length+1)
  omega
theorem pI {R:Int}{D:List (List (List (Int×Str)))}:∀n:Nat,(e8 R D n).length <=(h_ (D.take n)).length
 | 0=>Vj _
 | n+1=>by
  have ih:=pI (R:=R) (D:=D) n
  refine UP (show(e8 R D (n+1)).length<=_ from qy) ?_
  cases e:D[n]? with
  | none =>
   have:D.take (n+1)=D.take n:=by rw[WE,e,Option.toList_none,U7]
   rw[this];exact ih
  | some rows =>
   rw[aX e]
   unfold h_ at ih ⊢
   rw[UB,Vv,Uz]
   show _+rows.flatten.length<=_ + [rows.flatten].flatten.length
   rw[List.flatten_singleton]
   omega
theorem Af {α:Type}{D:List (List (List (Int×α)))}{n:Nat}:(h_ (D.take n)).length <=(h_ D).length:=by
 conv=>rhs;rw[<- U1 n D]
 unfold h_
 rw[UB,Vv,Uz]
 omega
theorem yI {R:Nat}{D:List (List (List (Int×Str)))}:((stand R D).map (·.1)).Nodup:=uF _
def eV (es:List (Int×Str)):List (Key×V):=(es.map vE).map kf
theorem FO {e:Int×Str}{es:List (Int×Str)}:eV (e::es) =((Sum.inl e.1:Key),V.str e.2)::eV es:=rfl
theorem find_some {es:List (Int×Str)}{k:Int}:(L2.dj (eV es) (Sum.inl k:Key)).isSome=decide (k∈es.map (·.1)):=by
 induction es with
 | nil=>rfl
 | cons e es ih =>
  rw[FO]
  unfold L2.dj at ih ⊢
  rw[List.find?_cons]
  by_cases c:e.1=k
  ·rw[U8 (show((Sum.inl e.1:Key)=Sum.inl k) by rw[c]),U8 (by rw[<- c];simp)];rfl
  ·rw[U6 (show ¬((Sum.inl e.1:Key)=Sum.inl k) from fun z=>c (Sum.inl.inj z))]
   show(Option.map _ (List.find? _ (eV es))).isSome=_
   rw[ih,Vi]
   by_cases g:k∈es.map (·.1)
   ·rw[U8 g,U8 (UK _ g)]
   ·rw[U6 g,U6 fun z=>(U9.mp z).elim (fun q=>c q.symm) g]
theorem FU {es:List (Int×Str)}{k:Int}{z:Str}(h:k∉es.map (·.1)):putK (eV es) (Sum.inl k:Key) (.str z)=eV (es ++ [(k,z)]):=by
 have an:((eV es).any fun kv=>decide (kv.1 =(Sum.inl k:Key)))=false:=by
  rw[List.any_eq_false]
  intro kv hkv
  unfold eV at hkv
  obtain⟨e1,he1,rfl⟩:=UC.mp hkv
  obtain⟨e2,he2,rfl⟩:=UC.mp he1
  intro q
  have q:=VV q
  exact h (UC.mpr ⟨e2,he2,Sum.inl.inj q⟩)
 unfold putK
 rw[an]
 unfold eV
 rw[UB,UB];rfl
theorem KH {H:Hp}{X:List (List (List V))}{p:Int×Str->Prop}(h:∀rows∈X,∀es∈rows,∀v∈es,p (eD H v)):∀rows∈yD H X,∀r∈rows,∀e∈r,p e:=fun rows hr r hr2 e he=>by
 unfold yD au aH at hr
 obtain⟨x,hx,rfl⟩:=UC.mp hr
 obtain⟨es,hes,rfl⟩:=UC.mp hr2
 obtain⟨v,hv,rfl⟩:=UC.mp he
 exact h x hx es hes v hv
theorem B9 {H:Hp}{X:List (List (List V))}{R:Nat}(en:f7 H X):Po (stand R (yD H X)):=fun e he=>tU (p:=fun e=>PyData.strOk e.2=true/\(0<=e.1/\e.1<1152921504606846976)/\e.2.length<=100) (KH fun rows hr es he v hv=>by
 obtain⟨_,_,_,h2,h3,h4,h5⟩:=(en rows hr es he v hv).pt
 exact⟨h2,⟨h3,h4⟩,h5⟩) _ e he
def m7 (K:W.Frag):Sp:=fun vs H Q _=>∃(y:Addr) (w R:Nat) (X:List (List (List V))),vs=[.ref y]/\Yd H y w R X/\1<=w/\w<=8/\1<=R/\R<=130/\(cg X).length<=190/\(stand R (yD H X)).length<=63 /\
 ∀(t h:Addr) (rs:List Addr) (bss:List (List Addr)) (H':Hp),H' t=some (.tup [.int w,.int R,.ref h])->Sy (fun b=>H b=none) H' h rs bss->f7 H' (XA H' bss)->Qf (XA H' bss)->cH w R (stand R (yD H X)) (yD H' (XA H' bss))->aO H H'->Q (.ref t) H'
theorem vB {H:Hp}{r:Nat}{os ns:List (List V)}:∀p:Nat,p<=ns.length->au H ((unl H r os ns p).foldl cQ os) =(au H ns).take p++(au H os).drop p
 | 0,_=>by
  show au H os=_
  rw[WA,Xk,Wn]
 | p+1,hp=>by
  have ih:=vB (H:=H) (r:=r) (os:=os) (ns:=ns) p (by omega)
  obtain⟨es,hes⟩ : ∃es,ns[p]? = some es:=⟨_,Uy (by omega)⟩
  have hn:(au H ns)[p]? = some (aH H es):=by rw[j9,hes];rfl
  rw[aX hn,U5]
  have tl:((au H ns).take p).length=p:=by rw[UH,aR];omega
  cases ho:os[p]? with
  | none =>
   have ol:=Wq.mp ho
   rw[fF hes (by unfold iH;rw[ho]),Vu]
   show au H ((pad ((unl H r os ns p).foldl cQ os) (p+1)).set p es)=_
   rw[Vf (by rw[aR];exact ol),U7]at ih
   rw[ju,pH,ih,Vf (by rw[aR];omega),U7]
   unfold pad
   rw[tl,show p+1-p=1 by omega,Wt _ _ (by omega),tl,Wa];rfl
  | some o =>
   have ol:=(Ux.mp ho).1
   have hd:(au H os)[p]? = some (aH H o):=by rw[j9,ho];rfl
   have ub:iH H os es p = !decide (aH H o=aH H es):=by unfold iH;rw[ho]
   rw[mK hd]at ih
   by_cases c:aH H o=aH H es
   ·rw[m5 hes (by rw[ub,U8 c];rfl),ih,c];rfl
   ·rw[fF hes (by rw[ub,U6 c];rfl),Vu]
    show au H ((pad ((unl H r os ns p).foldl cQ os) (p+1)).set p es)=_
    have ll:=Vk List.length ih
    rw[aR,Uz,tl,VH]at ll
    rw[qI (by omega),ju,ih,Wt _ _ (by omega),tl,Wa];rfl
theorem mE {H:Hp}{r:Nat}{os ns:List (List V)}:au H ((d_ H r os ns).foldl cQ os)=au H ns:=by
 have m:=vB (H:=H) (r:=r) (os:=os) ns.length (UE _)
 have e0:(au H ns).take ns.length=au H ns:=UW (by rw[aR];exact UE _)
 rw[e0]at m
 unfold d_
 by_cases g:os.length > ns.length
 ·rw[UN g,Vu]
  show au H (((unl H r os ns ns.length).foldl cQ os).take ns.length)=_
  unfold au at m ⊢
  rw[W3,m,VI (by rw[Uv];exact UE _),UW (by rw[Uv];exact UE _)]
 ·rw[UM g,U7,m,Vf (by rw[aR];omega),U7]
def b_ (H:Hp) (X Z:List (List (List V))):Nat->List bV
 | 0=>[]
 | n+1=>b_ H X Z n++d_ H n (aT X n) (aT Z n)
def lE (X:List (List (List V))) (R:Nat):Nat->List Nat
 | 0=>[]
 | n+1=>lE X R n++(if aT X (R+n)=[] then [] else [R+n])
def mq (l:List Nat):List bV:=l.map fun r=>.cut r 0
def cE (H:Hp) (R:Nat) (X Z:List (List (List V))):List bV:=b_ H X Z R++mq (lE X R (X.length-R)).reverse
theorem mC {X:List (List (List V))}{R i:Nat}:∀{n:Nat},i∈lE X R n↔R<=i/\i<R+n/\aT X i ≠ []
 | 0=>⟨fun h=>absurd h U3,fun h=>absurd h.2.1 (by omega)⟩
 | n+1=>by
  have ih:=mC (X:=X) (R:=R) (i:=i) (n:=n)
  show i∈lE X R n++(if aT X (R+n)=[] then [] else [R+n])↔_
  rw[UG,ih]
  by_cases c:aT X (R+n)=[]
  ·rw[UN c]
   constructor
   ·rintro(h|h)
    ·exact⟨h.1,by omega,h.2.2⟩
    ·exact absurd h U3
   ·rintro⟨h1,h2,h3⟩
    exact .inl ⟨h1,by
     by_cases e:i=R+n
     ·rw[e]at h3;exact absurd c h3
     ·omega,h3⟩
  ·rw[UM c,UR]
   constructor
   ·rintro(h|h)
    ·exact⟨h.1,by omega,h.2.2⟩
    ·rw[h];exact⟨by omega,by omega,c⟩
   ·rintro⟨h1,h2,h3⟩
    by_cases e:i=R+n
    ·exact .inr e
    ·exact .inl ⟨h1,by omega,h3⟩
theorem oV {X:List (List (List V))}{R:Nat}:∀n:Nat,(lE X R n).length<=n
 | 0=>UE _
 | n+1=>by
  have:=oV (X:=X) (R:=R) n
  show(lE X R n++(if aT X (R+n)=[] then [] else [R+n])).length<=n+1
  rw[Uz]
  have:(if aT X (R+n)=[] then [] else [R+n]).length<=1:=by split <;> simp
  omega
theorem mV {H:Hp}{X Z:List (List (List V))}(h:∀i,(aT Z i).length<=130):∀n:Nat,(b_ H X Z n).length<=131*n
 | 0=>Vj _
 | n+1=>by
  have a:=mV (H:=H) (X:=X) h n
  have b:=j3 (H:=H) (r:=n) (os:=aT X n) (ns:=aT Z n)
  have c:=h n
  show(b_ H X Z n++d_ H n (aT X n) (aT Z n)).length<=_
  rw[Uz];omega
theorem tO {H:Hp}{X:List (List (List V))}(en:f7 H X) {i:Nat}:∀es∈aT X i,∀v∈es,En H v:=fun es he v hv=>by
 unfold aT at he
 cases e:X[i]? with
 | none=>rw[e]at he;exact absurd he U3
 | some x=>rw[e]at he;exact en x (UA e) es he v hv
theorem q9 {H H':Hp}{X Z:List (List (List V))}(kt:∀t xs,H t=some (.tup xs)->H' t=some (.tup xs)) (eX:f7 H X) (eZ:f7 H Z):∀n:Nat,b_ H' X Z n=b_ H X Z n
 | 0=>rfl
 | n+1=>by
  show b_ H' X Z n++d_ H' n (aT X n) (aT Z n)=b_ H X Z n++d_ H n (aT X n) (aT Z n)
  rw[q9 kt eX eZ n,pA kt (tO eX) (tO eZ)]
theorem F0 {H:Hp}{Z:List (List (List V))}{w R:Nat}{es:List (Int×Str)}(cl:cH w R es (yD H Z)) (w1:1<=w) (w2:w<=8) (el:es.length<=129) (en:f7 H Z) (i:Nat):cV H (aT Z i):=by
 cases e:Z[i]? with
 | none=>unfold aT;rw[e];exact⟨by show 0<=130;omega,fun _ h=>absurd h U3⟩
 | some rows =>
  obtain⟨s,p1,_,p3⟩:=cl.2 i (au H rows) (by rw[kI,e];rfl)
  have sl:s.length<=es.length:=by rw[p1.length_eq];exact UY _ _
  have lr:=Vk List.length p3
  rw[aR]at lr
  have ea:aT Z i=rows:=by unfold aT;rw[e];rfl
  refine⟨by rw[ea,lr];exact UP (cS w1) (by omega),fun e he=>⟨?_,tO en e he⟩⟩
  rw[ea]at he
  have hm:aH H e∈aD s w:=by rw[<- p3];exact UC.mpr ⟨e,he,rfl⟩
  unfold aD at hm
  obtain⟨i,_,hi⟩:=UC.mp hm
  have l:=Vk List.length hi
  unfold aH at l
  rw[UH,Uv]at l
  omega
def k7 (K:W.Frag):Sp:=fun vs H Q _=>∃(y:Addr) (w R:Nat) (X:List (List (List V))),vs=[.ref y]/\Yd H y w R X/\1<=w/\w<=8/\1<=R/\R<=130/\X.length<=130/\(∀i,cV H (aT X i))/\(cg X).length<=190/\(stand R (yD H X)).length<=63 /\
 ∀(D:Addr) (ss:List Addr) (Z:List (List (List V))) (H':Hp),H D=none->H' D=some (.lst (ss.map V.ref))->f7 H' Z->cH w R (stand R (yD H X)) (yD H' Z)->P1 (lM (hid D H')) ss (cE H' R X Z)->aO H H'->Q (.ref D) H'
theorem Dq {as bs:List Addr}(h:as.map V.ref=bs.map V.ref):as=bs:=by
 have:=Vk (List.map fun v=>match v with|V.ref a=>a|_=>0) h
 rw[Vo,Vo]at this
 simpa [Function.comp_def] using this
theorem uh {H:Hp}{X:List (List (List V))}:(h_ (yD H X)).length =(cg X).length:=by rw[oU,Uv]
theorem xO {X:List (List (List V))}{n:Nat}:cg (pad X n)=cg X:=by
 unfold cg pad
 rw[UB,Vv,List.map_replicate]
 have:(List.replicate (n-X.length) (([]:List (List V)).flatten)).flatten=[]:=by
  induction (n-X.length) with
  | zero=>rfl
  | succ k ih=>rw[List.replicate_succ,Xj,ih];rfl
 rw[this,U7]
theorem yM {rows r:List (List V)}:∀{X:List (List (List V))}{i:Nat},X[i]? = some rows->(cg (X.set i r)).length+rows.flatten.length =(cg X).length+r.flatten.length
 | [],_,h=>by simp at h
 | x::X,0,h=>by
  have e:x=rows:=by simpa using h
  subst e
  show(r.flatten++cg X).length+x.flatten.length =(x.flatten++cg X).length+r.flatten.length
  rw[Uz,Uz];omega
 | x::X,i+1,h=>by
  have ih:=yM (r:=r) (X:=X) (i:=i) (by simpa using h)
  show(x.flatten++cg (X.set i r)).length+rows.flatten.length =(x.flatten++cg X).length+r.flatten.length
  rw[Uz,Uz];omega
theorem ni {X:List (List (List V))}:cg (trim X)=cg X:=by
 obtain⟨n,e⟩:=lq X
 have e2:X=pad (trim X) ((trim X).length+n):=by
  unfold pad
  rw[show(trim X).length+n-(trim X).length=n by omega];exact e
 conv=>rhs;rw[e2]
 rw[xO]
theorem uv {α:Type}{X:List (List α)}:trim (trim X)=trim X:=by
 obtain⟨n,e⟩:=lq X
 conv=>rhs;rw[e]
 rw[nK]
theorem o_ {H:Hp}{X Z:List (List (List V))}{i:Nat}:∀n:Nat,aT ((b_ H X Z n).foldl gO X) i=if i<n then(d_ H i (aT X i) (aT Z i)).foldl cQ (aT X i) else aT X i
 | 0=>by rw[UM (by omega)];rfl
 | n+1=>by
  have ih:=o_ (H:=H) (X:=X) (Z:=Z) (i:=i) n
  show aT ((b_ H X Z n++d_ H n (aT X n) (aT Z n)).foldl gO X) i=_
  rw[Vu,ia fT,ih]
  by_cases c:i=n
  ·subst c
   rw[UN rfl,UM (by omega),UN (by omega)]
  ·rw[UM c]
   by_cases g:i<n
   ·rw[UN g,UN (by omega)]
   ·rw[UM g,UM (by omega)]
theorem Am {i:Nat}:∀{l:List Nat}{Y:List (List (List V))},aT ((mq l).foldl gO Y) i=if i∈l then [] else aT Y i
 | [],Y=>by rw[UM U3];rfl
 | r::l,Y=>by
  show aT ((mq l).foldl gO (gO Y (.cut r 0))) i=_
  rw[Am,IL (r:=r) (show dG r (.cut r 0) from rfl)]
  by_cases c:i∈l
  ·rw[UN c,UN (UK _ c)]
  ·rw[UM c]
   by_cases g:i=r
   ·rw[UN g,UN (by rw[g];exact UQ ..)]
    show List.take 0 (aT Y i)=[]
    exact WA
   ·rw[UM g,UM fun z=>(U9.mp z).elim g c]
theorem uo:∀{sts:List bV}{X:List (List (List V))},trim X=X->trim (sts.foldl gO X)=sts.foldl gO X
 | [],_,h=>h
 | st::sts,X,_=>uo (sts:=sts) (X:=gO X st) (by rw[z6];exact uv)
theorem tE {H:Hp}{X Z:List (List (List V))}:∀n:Nat,∀st∈b_ H X Z n,∀m,st ≠ .rooms m
 | 0,_,h=>absurd h U3
 | n+1,st,h=>by
  rcases UG.mp (show st∈b_ H X Z n++d_ H n (aT X n) (aT Z n) from h) with z|z
  ·exact tE n st z
  ·have:=fT st z
   intro m e
   rw[e]at this;exact this
theorem Cz {H:Hp}{R w:Nat}{X Z:List (List (List V))}{es:List (Int×Str)}(cl:cH w R es (yD H Z)) (tx:trim X=X):cH w R es (yD H ((cE H R X Z).foldl gO X)):=by
 have zl:Z.length=R:=by have:=cl.1;unfold yD at this;rw[Uv]at this;exact this
 have at':∀i,aT ((cE H R X Z).foldl gO X) i=if i∈(lE X R (X.length-R)).reverse then [] else if i<R then(d_ H i (aT X i) (aT Z i)).foldl cQ (aT X i) else aT X i:=fun i=>by
  unfold cE
  rw[Vu,Am,o_]
 have ft:=uo (sts:=cE H R X Z) tx
 refine Dh ?_ fun i hi=>?_
 ·rw[<- ft]
  refine EE fun i hi=>?_
  have:=at' i
  unfold aT at this
  rw[this]
  by_cases c:i∈(lE X R (X.length-R)).reverse
  ·rw[UN c]
  ·rw[UM c,UM (by omega)]
   by_cases g:i<X.length
   ·by_cases e:aT X i=[]
    ·exact e
    ·exact absurd (V3.mpr (mC.mpr ⟨hi,by omega,e⟩)) c
   ·rw[UT (by omega)];rfl
 ·rw[at' i,UM (fun z=>by have:=(mC.mp (V3.mp z)).1;omega),UN hi,mE]
  obtain⟨rows,hx⟩ : ∃rows,Z[i]? = some rows:=⟨_,Uy (by omega)⟩
  obtain⟨s,p1,p2,p3⟩:=cl.2 i (au H rows) (by rw[kI,hx];rfl)
  have ea:aT Z i=rows:=by unfold aT;rw[hx];rfl
  exact⟨s,p1,p2,by rw[ea];exact p3⟩
theorem Gd {H:Hp}{Z:List (List (List V))}{w R:Nat}{es:List (Int×Str)}(cl:cH w R es (yD H Z)) (R1:1<=R):trim Z=Z:=by
 have zl:Z.length=R:=by have:=cl.1;unfold yD at this;rw[Uv]at this;exact this
 obtain⟨Y,rows,rfl⟩:=Ax (xs:=Z) (fun z=>by rw[z]at zl;simp at zl;omega)
 refine ue fun z=>?_
 obtain⟨s,_,_,p3⟩:=cl.2 Y.length (au H rows) (by rw[kI];simp)
 have:=ym (s:=s) (w:=w)
 rw[<- p3,z]at this
 exact absurd this (by simp[au])
theorem uM {K:W.Frag}{S:Addr->Prop}{H:Hp}{y h:Addr}{w R:Int}{X:List (List (List V))}(hy:H y=some (.tup [.int w,.int R,.ref h])) (r:R3 S H h X) (e:f7 H X):GD K H 5 (.ref y) (pY w R (yD H X)):=by
 have g:=r.gd (K:=K) e
 rw[My e]at g
 exact GD.tup hy (.cons (.int _) (.cons (.int _) (.cons g .nil)))
theorem Yd.pd {K:W.Frag}{H:Hp}{y:Addr}{w R:Int}{X:List (List (List V))}(h:Yd H y w R X):GD K H 5 (.ref y) (pY w R (yD H X)):=by
 obtain⟨t,h1,h2,h3,_⟩:=h
 exact uM h1 h2 h3
structure Cc (w:Nat) (P:Int->Prop) (rows:List (List (Int×Str))) (n:List (Int×Str)):Prop where
 so:n.Pairwise fun a b=>a.1<b.1
 ws:∀r∈rows,Ws r
 fd:∀(p:Nat) (k:Int),P k->(∀x∈n.take (p*w),x.1<k)->(iW k (rows.drop p)).1=pick k n
 mm:∀x∈rows.flatten,P x.1->x.1∈n.map (·.1)
theorem qu {n:List (Int×Str)}{w:Nat}(so:n.Pairwise fun a b=>a.1<b.1):∀r∈aD n w,Ws r:=fun r hr=>by
 unfold aD at hr
 obtain⟨i,_,rfl⟩:=UC.mp hr
 exact DZ (so.sublist ((Xh _ _).trans (WY _ _)))
theorem Gf {α:Type}{n:List α}{a b:Nat}{x:α}(h:x∈n) (h1:x∉n.take a) (h2:x∉n.drop b) (ab:a<=b):x∈(n.take b).drop a:=by
 rw[<- U1 b n]at h
 rcases UG.mp h with h|h
 ·rw[<- U1 a (n.take b)]at h
  rcases UG.mp h with h|h
  ·rw[Xl,VM ab]at h;exact absurd h h1
  ·exact h
 ·exact absurd h h2
theorem BI {n:List (Int×Str)}{w q p:Nat}(w1:1<=w):(((aD n w).take q).drop p).flatten =(n.take (q*w)).drop (p*w):=by
 have e:(((aD n w).take q).take p).flatten++(((aD n w).take q).drop p).flatten=n.take (q*w):=by rw[<- Vv,U1,gY w1]
 rw[Xl]at e
 by_cases c:p<=q
 ·rw[VM c,gY w1]at e
  have f:=U1 (p*w) (n.take (q*w))
  rw[Xl,VM (VZ _ c)]at f
  exact Xc (e.trans f.symm)
 ·rw[Vf (by rw[UH];omega),Vf]
  ·rfl
  ·rw[UH]
   have:q*w<=p*w:=VZ _ (by omega)
   omega
theorem Cc.gen {w:Nat}{P:Int->Prop}{n:List (Int×Str)}{B:List (List (Int×Str))}{q m:Nat}(w1:1<=w) (so:n.Pairwise fun a b=>a.1<b.1) (hq:min (aD n w).length q+m=q) (wB:∀r∈B,Ws r) (mB:∀x∈B.flatten,P x.1->x.1∈n.map (·.1))
  (fB:∀(p:Nat) (k:Int),q<=p->P k->(∀x∈n.take (p*w),x.1<k)->(iW k (B.drop (p-q))).1=pick k n):Cc w P ((aD n w).take q++(List.replicate m []++B)) n:=by
 have lA:((aD n w).take q).length=min q (aD n w).length:=UH
 refine⟨so,fun r hr=>?_,fun p k hk ab=>?_,fun x hx hp=>?_⟩
 ·rcases UG.mp hr with h|h
  ·exact qu so r (Vn h)
  ·rcases UG.mp h with h|h
   ·rw[V9 h];exact List.Pairwise.nil
   ·exact wB r h
 ·by_cases c:q<=p
  ·rw[VP,Vf (by rw[lA];omega),Wn,VP,Vf (by rw[VD,lA];omega),Wn,VD,lA,show p-min q (aD n w).length-m=p-q by omega]
   exact fB p k c hk ab
  ·rw[VP,VP]
   have fl:=BI (n:=n) (q:=q) (p:=p) w1
   have ws:∀r∈((aD n w).take q).drop p,Ws r:=fun r hr=>qu so r (Vn (Vp hr))
   have sg:((n.take (q*w)).drop (p*w)).Pairwise fun a b=>a.1<b.1:=so.sublist ((WY _ _).trans (Xh _ _))
   have pq:p*w<=q*w:=VZ _ (by omega)
   by_cases z:∃r∈((aD n w).take q).drop p,cP k (r.map (·.1))=true
   ·obtain⟨r,hr,z⟩:=z
    rw[wI hr z,rg (by rw[fl];exact DZ sg),fl]
    obtain⟨x,hx,kx⟩:=rE z
    have xm:x∈(n.take (q*w)).drop (p*w):=by rw[<- fl];exact Vh.mpr ⟨r,hr,List.mem_of_getLast? hx⟩
    refine uR (pQ sg) (pQ so) fun y=>⟨fun h=>Vn (Vp h),fun h=>Gf h (fun g=>?_) (fun g=>?_) pq⟩
    ·have:=ab _ g
     exact absurd this (by show ¬ k<k;omega)
    ·have h2:=so
     rw[<- U1 (q*w) n]at h2
     have:=(VG.mp h2).2.2 x (Vp xm) _ g
     exact absurd this (by show ¬ x.1<k;omega)
   ·have no:∀r∈((aD n w).take q).drop p,cP k (r.map (·.1))=false:=fun r hr=>by
     cases d:cP k (r.map (·.1)) with
     | false=>rfl
     | true=>exact absurd ⟨r,hr,d⟩ z
    rw[rF no,rF fun r hr=>by rw[V9 (Vp hr)];rfl,VD,lA,show p-min q (aD n w).length-m=q-q by omega]
    refine fB q k (UE _) hk fun x hx=>?_
    by_cases g:x∈n.take (p*w)
    ·exact ab x g
    ·have hm:x∈(n.take (q*w)).drop (p*w):=by
      rw[<- U1 (p*w) (n.take (q*w))]at hx
      rcases UG.mp hx with h|h
      ·rw[Xl,VM pq]at h;exact absurd h g
      ·exact h
     rw[<- fl]at hm
     obtain⟨r,hr,hxr⟩:=Vh.mp hm
     exact yy (no r hr) (ws r hr) x hxr
 ·rw[Vv,Vv]at hx
  rcases UG.mp hx with h|h
  ·rw[gY w1]at h
   exact UC.mpr ⟨x,Vn h,rfl⟩
  ·rcases UG.mp h with h|h
   ·obtain⟨r,hr,h⟩:=Vh.mp h
    rw[V9 hr]at h;cases h
   ·exact mB x h hp
theorem Cc.sub {w:Nat}{P:Int->Prop}{n s:List (Int×Str)}{q m:Nat}(w1:1<=w) (hs:s.Pairwise fun a b=>a.1<b.1) (sub:n.Sublist s) (hq:min (aD n w).length q+m=q) (hk:∀y∈s.drop (q*w),P y.1->y∈n):Cc w P ((aD n w).take q++(List.replicate m []++(aD s w).drop q)) n:=by
 have so:=hs.sublist sub
 refine Cc.gen w1 so hq (fun r hr=>qu hs r (Vp hr)) (fun x hx hp=>?_) fun p k qp hp ab=>?_
 ·rw[kK w1]at hx
  exact UC.mpr ⟨x,hk x hx hp,rfl⟩
 ·rw[XE,show q+(p-q)=p by omega,rg (by rw[kK w1];exact DZ (hs.sublist (WY _ _))),kK w1]
  refine uR (pQ (hs.sublist (WY _ _))) (pQ so) fun z=>⟨fun h=>hk _ ?_ hp,fun h=>?_⟩
  ·have e:s.drop (p*w) =(s.drop (q*w)).drop (p*w-q*w):=by
    rw[XE];congr 1
    have:q*w<=p*w:=VZ _ qp
    omega
   rw[e]at h
   exact Vp h
  ·rw[<- U1 (p*w) n]at h
   rcases UG.mp h with h|h
   ·have:=ab _ h
    exact absurd this (by show ¬ k<k;omega)
   ·exact(sub.drop _).subset h
theorem Cc.full {w:Nat}{P:Int->Prop}{n:List (Int×Str)}(w1:1<=w) (so:n.Pairwise fun a b=>a.1<b.1):Cc w P (aD n w) n:=by
 have:=Cc.sub (P:=P) (q:=0) (m:=0) w1 so (List.Sublist.refl n) (by omega) fun y hy _=>Vp hy
 exact this
theorem Cc.mix {w:Nat}{P:Int->Prop}{rows:List (List (Int×Str))}{n:List (Int×Str)}{q:Nat}(h:Cc w P rows n) (w1:1<=w) (hq:q <=(aD n w).length):Cc w P ((aD n w).take q++rows.drop q) n:=by
 have:=Cc.gen (P:=P) (B:=rows.drop q) (q:=q) (m:=0) w1 h.so (by omega) (fun r hr=>h.ws r (Vp hr)) (fun x hx hp=>h.mm x (by
  obtain⟨r,hr,hx⟩:=Vh.mp hx
  exact Vh.mpr ⟨r,Vp hr,hx⟩) hp) fun p k qp hp ab=>by
   rw[XE,show q+(p-q)=p by omega];exact h.fd p k hp ab
 exact this
theorem tQ {k:Int}{z:Str}:∀{rows:List (List (Int×Str))},(∀r∈rows,Ws r)->(iW k rows).1=some z->pick k rows.flatten=some z
 | [],_,h=>by cases h
 | r::rows,ws,h=>by
  rw[iW]at h
  rw[Xj]
  cases c:cP k (r.map (·.1)) with
  | true =>
   rw[UN c]at h
   have h:pick k r=some z:=h
   have hm:k∈r.map (·.1):=by have:=mh (k:=k) (r:=r);rw[h]at this;exact VV this.symm
   rw[uy fun _ _ _=>hm];exact h
  | false =>
   rw[UM (by rw[c];decide)]at h
   rw[pV fun y hy=>by have:=yy c (ws r (UQ ..)) y hy;omega]
   exact tQ (fun r hr=>ws r (UK _ hr)) h
theorem Cc.flat {w:Nat}{P:Int->Prop}{rows:List (List (Int×Str))}{n:List (Int×Str)}(h:Cc w P rows n) {k:Int}(hk:P k):pick k rows.flatten=pick k n:=by
 have f:=h.fd 0 k hk (fun x hx=>by rw[Nat.zero_mul,WA]at hx;cases hx)
 rw[Xk]at f
 cases e:pick k n with
 | some z=>exact tQ h.ws (f.trans e)
 | none =>
  have nk:k∉n.map (·.1):=fun hm=>by
   have:=mh (k:=k) (r:=n)
   rw[e,U8 hm]at this;cases this
  cases g:pick k rows.flatten with
  | none=>rfl
  | some z =>
   have:=mh (k:=k) (r:=rows.flatten)
   rw[g]at this
   obtain⟨x,hx,rfl⟩:=UC.mp (VV this.symm)
   exact absurd (h.mm x hx hk) nk
theorem wV {R:Int}{i:Nat}(x:Int×Str):∀{l acc:List (Int×Str)},x∈l.foldl (cI R i) acc↔x∈acc \/(az x.1 R =(i:Int)/\x.1∉acc.map (·.1)/\pick x.1 l=some x.2)
 | [],acc=>⟨fun h=>.inl h,fun h=>h.elim id fun h=>by cases h.2.2⟩
 | e::l,acc=>by
  show x∈l.foldl (cI R i) (cI R i acc e)↔_
  rw[wV x]
  have pc:e.1≠x.1->pick x.1 (e::l)=pick x.1 l:=fun n=>pV (l:=[e]) fun y hy=>by rw[UR.mp hy];exact n
  have pe:e.1=x.1->pick x.1 (e::l)=some e.2:=fun c=>by unfold pick;rw[Xe (by simpa using c)];rfl
  unfold cI
  by_cases c:az e.1 R =(i:Int)
  ·rw[UN c]
   unfold Ah
   by_cases d:e.1∈acc.map (·.1)
   ·rw[UN d]
    constructor
    ·rintro(h|⟨h1,h2,h3⟩)
     ·exact .inl h
     ·exact .inr ⟨h1,h2,by rw[pc fun z=>h2 (z ▸ d)];exact h3⟩
    ·rintro(h|⟨h1,h2,h3⟩)
     ·exact .inl h
     ·exact .inr ⟨h1,h2,by rw[pc fun z=>h2 (z ▸ d)]at h3;exact h3⟩
   ·rw[UM d]
    constructor
    ·rintro(h|⟨h1,h2,h3⟩)
     ·rcases UG.mp h with h|h
      ·exact .inl h
      ·rw[UR.mp h]
       exact .inr ⟨c,d,by unfold pick;rw[Xe (by simp)];rfl⟩
     ·rw[UB,UG]at h2
      exact .inr ⟨h1,fun z=>h2 (.inl z),by rw[pc fun z=>h2 (.inr (by simp[z]))];exact h3⟩
    ·rintro(h|⟨h1,h2,h3⟩)
     ·exact .inl (UG.mpr (.inl h))
     ·by_cases g:e.1=x.1
      ·rw[pe g]at h3
       refine .inl (UG.mpr (.inr (UR.mpr ?_)))
       exact Prod.ext g.symm (US h3).symm
      ·refine .inr ⟨h1,fun z=>?_,by rw[pc g]at h3;exact h3⟩
       rw[UB,UG]at z
       rcases z with z|z
       ·exact h2 z
       ·have q:x.1=e.1:=by simpa using z
        exact g q.symm
  ·rw[UM c]
   have ne:az x.1 R =(i:Int)->e.1≠x.1:=fun h z=>c (by rw[z];exact h)
   constructor
   ·rintro(h|⟨h1,h2,h3⟩)
    ·exact .inl h
    ·exact .inr ⟨h1,h2,by rw[pc (ne h1)];exact h3⟩
   ·rintro(h|⟨h1,h2,h3⟩)
    ·exact .inl h
    ·exact .inr ⟨h1,h2,by rw[pc (ne h1)]at h3;exact h3⟩
theorem kP {R:Nat}{D:List (List (List (Int×Str)))}(R1:1<=R) (x:Int×Str):∀n:Nat,x∈e8 R D n↔az x.1 R <(n:Int)/\pick x.1 (((D[(az x.1 R).toNat]?).getD []).flatten)=some x.2
 | 0=>by
  have rb:=bU (k:=x.1) (R:=(R:Int)) (by omega)
  exact⟨fun h=>absurd h U3,fun h=>absurd h.1 (by omega)⟩
 | n+1=>by
  have rb:=bU (k:=x.1) (R:=(R:Int)) (by omega)
  show x∈(((D[n]?).getD []).flatten).foldl (cI R n) (e8 R D n)↔_
  rw[wV,kP R1 x n]
  constructor
  ·rintro(h|⟨h1,h2,h3⟩)
   ·exact⟨by omega,h.2⟩
   ·refine⟨by omega,?_⟩
    rw[show(az x.1 R).toNat=n by omega];exact h3
  ·rintro⟨h1,h2⟩
   by_cases c:az x.1 R <(n:Int)
   ·exact .inl ⟨c,h2⟩
   ·have e:(az x.1 R).toNat=n:=by omega
    rw[e]at h2
    refine .inr ⟨by omega,fun z=>?_,h2⟩
    obtain⟨y,hy,ey⟩:=UC.mp z
    have:=((kP R1 y n).mp hy).1
    rw[ey]at this
    omega
structure Sn (H:Hp) (X:List (List (List V))) (w R:Nat) (es:List (Int×Str)):Prop where
 nd:(es.map (·.1)).Nodup
 w1:1<=w
 R1:1<=R
 at':∀i,i<R->∃s,(∀x,x∈s↔x∈es/\az x.1 R =(i:Int))/\Cc w (fun k=>az k R =(i:Int)) (au H (aT X i)) s
section
variable {H:Hp}{X:List (List (List V))}{w R:Nat}{es:List (Int×Str)}
theorem Sn.own (h:Sn H X w R es) (k:Int):∃(i:Nat) (s:List (Int×Str)),az k R =(i:Int)/\i<R/\(az k R).toNat=i/\pick k s=pick k es/\Cc w (fun k=>az k R =(i:Int)) (au H (aT X i)) s:=by
 have R1:=h.R1
 have rb:=bU (k:=k) (R:=(R:Int)) (by omega)
 obtain⟨i,hi⟩ : ∃i:Nat,az k R =(i:Int):=⟨(az k R).toNat,by omega⟩
 obtain⟨s,m,c⟩:=h.at' i (by omega)
 exact⟨i,s,hi,by omega,by omega,Fv c.so h.nd fun z=>by rw[m];exact⟨fun q=>q.1,fun q=>⟨q,hi⟩⟩,c⟩
theorem Sn.fd (h:Sn H X w R es):Fd H X R es:=fun k=>by
 obtain⟨i,s,hi,il,e,ep,c⟩:=h.own k
 rw[e,<- ep]
 have:=c.fd 0 k hi (fun x hx=>by rw[Nat.zero_mul,WA]at hx;cases hx)
 rw[Xk]at this
 exact this
theorem Sn.stand (h:Sn H X w R es):(stand R (yD H X)).Perm es:=by
 refine(Xn (fW yI) (fW h.nd)).mpr fun x=>?_
 unfold Law.stand
 obtain⟨i,s,hi,il,e,ep,c⟩:=h.own x.1
 rw[kP h.R1,e]
 have ea:(((yD H X)[i]?).getD [])=au H (aT X i):=by
  unfold aT
  rw[kI]
  cases X[i]? with
  | none=>rfl
  | some y=>rfl
 rw[ea,c.flat hi,ep,gS (mW h.nd)]
 constructor
 ·exact fun q=>q.2
 ·refine fun q=>⟨?_,q⟩
  have hm:=(gS (mW h.nd) (k:=x.1) (z:=x.2)).mpr q
  rw[<- ep,<- c.flat hi,<- ea]at hm
  have:(yD H X)[i]? ≠ none:=fun z=>by rw[z]at hm;cases hm
  have il2:i <(yD H X).length:=by
   by_cases z:i <(yD H X).length
   ·exact z
   ·exact absurd (UT (by omega)) this
  rw[hi];omega
theorem Base.sn (c:Base H X w R es):Sn H X w R es:=⟨c.nd,c.w1,c.R1,fun i hi=>by
 obtain⟨s,h1,h2,h3,_⟩:=c.own hi
 exact⟨s,h3,by rw[h2];exact Cc.full c.w1 h1⟩⟩
end
theorem v8 {H:Hp}{r:Nat}{os ns:List (List V)}(j:Nat):(∃q:Nat,q<=ns.length/\au H (((d_ H r os ns).take j).foldl cQ os) =(au H ns).take q++(au H os).drop q)\/au H (((d_ H r os ns).take j).foldl cQ os)=au H ns:=by
 cases j with
 | zero=>exact .inl ⟨0,Vj _,rfl⟩
 | succ j =>
  by_cases c:j <(unl H r os ns ns.length).length
  ·obtain⟨p,es,h1,h2,h3,h4⟩:=mL c
   refine .inl ⟨p+1,by omega,?_⟩
   have e4:(d_ H r os ns).take (j+1)=unl H r os ns (p+1):=by
    unfold d_
    rw[VI (by omega)];exact h4
   rw[e4,vB (p+1) (by omega)]
  ·refine .inr ?_
   rw[UW,mE]
   unfold d_
   rw[Uz]
   have:(if os.length > ns.length then [bV.cut r ns.length] else []).length<=1:=by split <;> simp
   omega
theorem uH {H:Hp}{r:Nat}{os ns:List (List V)}(hl:os.length<=ns.length) (j:Nat):au H (((unl H r os ns ns.length).reverse.take j).foldl cQ os)=au H os \/ ∃q m:Nat,min os.length q+m=q/\au H (((unl H r os ns ns.length).reverse.take j).foldl cQ os) =(au H os).take q++(List.replicate m []++(au H ns).drop q):=by
 cases j with
 | zero=>exact .inl rfl
 | succ j =>
  refine .inr ?_
  by_cases c:j <(unl H r os ns ns.length).length
  ·obtain⟨p,es,h1,h2,h3,h4,h5⟩:=F4 c
   obtain⟨m,e,_,e3⟩:=nN (H:=H) (r:=r) hl (ns.length-p) (by omega)
   rw[show ns.length-(ns.length-p)=p by omega]at e e3
   exact⟨p,m,e3 (by omega),by rw[h4];exact e⟩
  ·refine⟨0,0,by omega,?_⟩
   rw[UW (by rw[Vg];omega),rG hl]
   simp
section
variable {H:Hp}{X:List (List (List V))}{w R:Nat}{es:List (Int×Str)}
theorem CG {a:List (List V)}{s:List (Int×Str)}{w:Nat}{H:Hp}(h:au H a=aD s w):a.length =(aD s w).length:=by rw[<- h,aR]
theorem BH.sn {gN sN:List (List V)}{s g s':List (Int×Str)}(c:BH H X w R es gN sN s g s') {j:Nat}(hj:j <=(nq H R (aT X (tn R)) gN sN).length):∃R':Nat,ET R (nq H R (aT X (tn R)) gN sN) j =(R':Int)/\(R'=R\/R'=R+1)/\Sn H (f_ X (nq H R (aT X (tn R)) gN sN) j) w R' es:=by
 have R1:=c.R1
 have t:=iU R1
 have b:=c.toBase.sn
 unfold nq at hj ⊢
 by_cases pre:j <=(d_ H R [] gN).length
 ·refine⟨R,(vh (X:=X) fT pre).2,.inl rfl,b.nd,b.w1,R1,fun i hi=>?_⟩
  rw[EA fT pre,UM (by omega)]
  exact b.at' i hi
 ·obtain⟨i0,rfl⟩ : ∃i,j =(d_ H R [] gN).length+1+i:=⟨j-(d_ H R [] gN).length-1,by omega⟩
  refine⟨R+1,(vL (X:=X) fT fT i0).2,.inr rfl,b.nd,b.w1,by omega,fun i hi=>?_⟩
  rw[Ep fT fT (by omega)]
  by_cases c1:i=tn R
  ·subst c1
   rw[UN rfl]
   refine⟨s',c.ms,?_⟩
   rcases v8 (H:=H) (r:=tn R) (os:=aT X (tn R)) (ns:=sN) i0 with⟨q,ql,e⟩|e
   ·rw[e,c.hO,c.hs]
    rw[CG c.hs]at ql
    exact Cc.sub (m:=0) (P:=fun k=>az k ((R+1:Nat):Int) =(tn R:Int)) c.w1 c.so (by rw[c.es'];exact List.filter_sublist) (by omega) fun y hy hp=>(c.ms y).mpr ⟨((c.mo y).mp (Vp hy)).1,hp⟩
   ·rw[e,c.hs];exact Cc.full c.w1 c.ss
  ·rw[UM c1]
   by_cases c2:i=R
   ·subst c2
    rw[UN rfl,c.none,Jk,c.hg]
    exact⟨g,c.mg,Cc.full c.w1 c.sg⟩
   ·rw[UM c2]
    obtain⟨u,u1,u2,u3,_⟩:=c.own (i:=i) (by omega)
    refine⟨u,fun x=>?_,by rw[u2];exact Cc.full c.w1 u1⟩
    rw[u3]
    rcases l9 x.1 R1 with h|h
    ·rw[h.1,h.2]
     exact⟨fun q=>absurd q.2 (by omega),fun q=>absurd q.2 (by omega)⟩
    ·rw[h]
theorem Hx.sn {ns:List (List V)}{s b:List (Int×Str)}(c:Hx H X w R es ns s b) {j:Nat}(hj:j <=(nF H R (aT X (tn R)) ns).length):∃R':Nat,ET ((R+1:Nat):Int) (nF H R (aT X (tn R)) ns) j =(R':Int)/\(R'=R+1\/R'=R)/\Sn H (f_ X (nF H R (aT X (tn R)) ns) j) w R' es:=by
 have R1:=c.R2
 have t:=iU R1
 have bs:=c.toBase.sn
 unfold nF at hj ⊢
 by_cases pre:j <=(unl H (tn R) (aT X (tn R)) ns ns.length).reverse.length
 ·refine⟨R+1,(vh (X:=X) d8 pre).2,.inl rfl,bs.nd,bs.w1,by omega,fun i hi=>?_⟩
  rw[EA d8 pre]
  by_cases c1:i=tn R
  ·subst c1
   rw[UN rfl]
   refine⟨s,c.mo,?_⟩
   rcases uH (H:=H) (r:=tn R) c.ll j with e|⟨q,m,qm,e⟩
   ·rw[e,c.hO];exact Cc.full c.w1 c.so
   ·rw[e,c.hO,c.hb]
    rw[CG c.hO]at qm
    exact Cc.sub (P:=fun k=>az k ((R+1:Nat):Int) =(tn R:Int)) c.w1 c.sb c.sub qm fun y hy hp=>(c.mo y).mpr ⟨((c.mb y).mp (Vp hy)).1,hp⟩
  ·rw[UM c1];exact bs.at' i hi
 ·obtain⟨i0,rfl⟩ : ∃i,j =(unl H (tn R) (aT X (tn R)) ns ns.length).reverse.length+1+i:=⟨j-(unl H (tn R) (aT X (tn R)) ns ns.length).reverse.length-1,by omega⟩
  refine⟨R,(vL (X:=X) d8 nR i0).2,.inr rfl,bs.nd,bs.w1,R1,fun i hi=>?_⟩
  rw[Ep d8 nR (by omega),UM (by omega)]
  by_cases c1:i=tn R
  ·subst c1
   rw[UN rfl,rG c.ll,c.hb]
   exact⟨b,c.mb',Cc.full c.w1 c.sb⟩
  ·rw[UM c1]
   obtain⟨u,u1,u2,u3,_⟩:=c.own (i:=i) (by omega)
   refine⟨u,fun x=>?_,by rw[u2];exact Cc.full c.w1 u1⟩
   rw[u3]
   rcases l9 x.1 R1 with h|h
   ·rw[h.1,h.2]
    exact⟨fun q=>absurd q.2 (by omega),fun q=>absurd q.2 (by omega)⟩
   ·rw[h]
theorem CZ.snn {k0:Int}{es' ee:List (Int×Str)}{os ns:List (List V)}{U A B W n:List (Int×Str)}(c:CZ H X w R k0 es es' os ns U A B W) {sts:List bV}{r:Nat}(er:(az k0 R).toNat=r) (ir:∀st∈sts,dG r st) (ne:(ee.map (·.1)).Nodup) (al:∀x:Int×Str,x.1≠k0->(x∈es↔x∈ee)) (mn:∀x,x∈n↔x∈ee/\az x.1 R=az k0 R) (h:Cc w (fun k=>az k R =(r:Int)) (au H (sts.foldl cQ os)) n):Sn H (sts.foldl gO X) w R ee:=by
 have R1:=c.R1
 have rb:=bU (k:=k0) (R:=(R:Int)) (by omega)
 refine⟨ne,c.w1,R1,fun i hi=>?_⟩
 rw[ia ir]
 by_cases g:i=r
 ·subst g
  rw[UN rfl]
  have eo:aT X i=os:=by rw[c.eo,<- er];rfl
  rw[eo]
  exact⟨n,fun x=>by rw[mn,show az k0 R =(i:Int) by omega],h⟩
 ·rw[UM g]
  obtain⟨s,m,cc⟩:=(Base.sn ⟨c.cl,c.nd,c.w1,R1⟩ : Sn H X w R es).at' i hi
  refine⟨s,fun x=>?_,cc⟩
  rw[m]
  constructor
  ·rintro⟨h1,h2⟩
   exact⟨(al x fun z=>by rw[z]at h2;omega).mp h1,h2⟩
  ·rintro⟨h1,h2⟩
   exact⟨(al x fun z=>by rw[z]at h2;omega).mpr h1,h2⟩
end
theorem tZ {H:Hp}{X Z:List (List (List V))}{i:Nat}:∀(n j:Nat),(i<n->(∃q:Nat,q <=(aT Z i).length/\au H (aT (((b_ H X Z n).take j).foldl gO X) i) =(au H (aT Z i)).take q++(au H (aT X i)).drop q)\/au H (aT (((b_ H X Z n).take j).foldl gO X) i)=au H (aT Z i))/\(n<=i->aT (((b_ H X Z n).take j).foldl gO X) i=aT X i)
 | 0,j=>⟨fun h=>absurd h (by omega),fun _=>by
  show aT ((List.take j []).foldl gO X) i=_
  rw[List.take_nil];rfl⟩
 | n+1,j=>by
  obtain⟨a,b⟩:=tZ (H:=H) (X:=X) (Z:=Z) (i:=i) n j
  show(i<n+1->(∃q:Nat,q <=(aT Z i).length/\au H (aT (((b_ H X Z n++d_ H n (aT X n) (aT Z n)).take j).foldl gO X) i)=_)\/au H (aT (((b_ H X Z n++d_ H n (aT X n) (aT Z n)).take j).foldl gO X) i)=_)/\(n+1<=i->aT (((b_ H X Z n++d_ H n (aT X n) (aT Z n)).take j).foldl gO X) i=_)
  rw[List.take_append]
  by_cases c:j <=(b_ H X Z n).length
  ·rw[show j-(b_ H X Z n).length=0 by omega,WA,U7]
   refine⟨fun h=>?_,fun h=>b (by omega)⟩
   by_cases g:i<n
   ·exact a g
   ·refine .inl ⟨0,Vj _,?_⟩
    rw[b (by omega)];rfl
  ·rw[UW (by omega),Vu,ia (gV fT),o_]
   refine⟨fun h=>?_,fun h=>?_⟩
   ·by_cases g:i=n
    ·subst g
     rw[UN rfl,UM (by omega)]
     exact v8 _
    ·rw[UM g,UN (by omega),mE]
     exact .inr rfl
   ·rw[UM (by omega),UM (by omega)]
theorem BW {H:Hp}{X Z:List (List (List V))}{R i j:Nat}(hi:i<R):(∃q:Nat,q <=(aT Z i).length/\au H (aT (f_ X (cE H R X Z) j) i) =(au H (aT Z i)).take q++(au H (aT X i)).drop q)\/au H (aT (f_ X (cE H R X Z) j) i)=au H (aT Z i):=by
 unfold f_ cE
 rw[List.take_append]
 by_cases c:j <=(b_ H X Z R).length
 ·rw[show j-(b_ H X Z R).length=0 by omega,WA,U7]
  exact(tZ R j).1 hi
 ·rw[UW (by omega),Vu]
  have e:(mq (lE X R (X.length-R)).reverse).take (j-(b_ H X Z R).length)=mq ((lE X R (X.length-R)).reverse.take (j-(b_ H X Z R).length)):=by unfold mq;rw[W3]
  rw[e,Am,UM (fun z=>by have:=(mC.mp (V3.mp (Vn z))).1;omega),o_,UN hi,mE]
  exact .inr rfl
theorem Sn.mend {H:Hp}{X Z:List (List (List V))}{w R:Nat}{es:List (Int×Str)}(h:Sn H X w R es) (cl:cH w R es (yD H Z)) (j:Nat):Sn H (f_ X (cE H R X Z) j) w R es:=by
 refine⟨h.nd,h.w1,h.R1,fun i hi=>?_⟩
 obtain⟨s,m,cc⟩:=h.at' i hi
 obtain⟨s',p1,p2,p3⟩:=IM cl h.nd hi
 have es':s'=s:=ki p2 cc.so fun x=>by rw[p1.mem_iff,Vm,m,Wk]
 subst es'
 refine⟨s',m,?_⟩
 rcases BW (H:=H) (X:=X) (Z:=Z) (j:=j) hi with⟨q,ql,e⟩|e
 ·rw[e,p3]
  rw[CG p3]at ql
  exact cc.mix h.w1 ql
 ·rw[e,p3];exact Cc.full h.w1 p2
theorem nQ {U A B:List (Int×Str)}{w q:Nat}(w1:1<=w) (h:q*w<=U.length):(aD (U++A) w).take q =(aD (U++B) w).take q/\q <=(aD (U++A) w).length:=by
 have len:∀C:List (Int×Str),q <=(aD (U++C) w).length:=fun C=>by
  have c:=xF (s:=U++C) w1
  rw[Uz]at c
  have:q*w <=(aD (U++C) w).length*w:=by omega
  exact Nat.le_of_mul_le_mul_right this (by omega)
 refine⟨?_,len A⟩
 apply Vz
 intro i
 by_cases hi:i<q
 ·rw[V8 hi,V8 hi]
  refine Br (by have:=len A;omega) (by have:=len B;omega) ?_
  have:(i+1)*w<=q*w:=VZ _ hi
  omega
 ·rw[UT (by rw[UH];omega),UT (by rw[UH];omega)]
theorem xY {U W:List (Int×Str)}{x y:Int×Str}{w q:Nat}(w1:1<=w) (h:U.length<q*w):(aD (U++([x]++W)) w).drop q =(aD (U++([y]++W)) w).drop q:=by
 have ll:(aD (U++([x]++W)) w).length =(aD (U++([y]++W)) w).length:=Nat.le_antisymm (ji (by simp) w1) (ji (by simp) w1)
 apply Vz
 intro i
 rw[VY,VY]
 by_cases hi:q+i <(aD (U++([x]++W)) w).length
 ·rw[l_ hi,l_ (by omega)]
  have hm:q*w <=(q+i)*w:=VZ _ (by omega)
  congr 2
  rw[VP,VP,VP,VP]
  have:1 <=(q+i)*w-U.length:=by omega
  rw[Wl (show [x].length<=_ from this),Wl (show [y].length<=_ from this)]
  rfl
 ·rw[UT (by omega),UT (by omega)]
section
variable {H:Hp}{X:List (List (List V))}{w R:Nat}{k0:Int}{es es':List (Int×Str)}{os ns:List (List V)}{U A B W:List (Int×Str)}
theorem CZ.al' (c:CZ H X w R k0 es es' os ns U A B W):∀x:Int×Str,x.1≠k0->(x∈es↔x∈es):=fun _ _=>Iff.rfl
theorem CZ.room (c:CZ H X w R k0 es es' os ns U A B W) {r:Nat}(er:(az k0 R).toNat=r):az k0 R =(r:Int):=by
 have R1:=c.R1
 have:=bU (k:=k0) (R:=(R:Int)) (by omega)
 omega
theorem CZ.sput (c:CZ H X w R k0 es es' os ns U A B W) {x:Int×Str}(eA:A=[] \/ ∃y,A=[y]) (eB:B=[x]) {r:Nat}(er:(az k0 R).toNat=r) (j:Nat):∃ee,(ee=es\/ee=es')/\Sn H (f_ X (unl H r os ns ns.length).reverse j) w R ee:=by
 have w1:=c.w1
 have hO:=c.hO
 have hN:=c.hN
 have lO:=Vk List.length hO
 have lN:=Vk List.length hN
 rw[aR]at lO lN
 have rr:=c.room er
 have ir:∀st∈((unl H r os ns ns.length).reverse.take j),dG r st:=fun st h=>d8 st (Vn h)
 have old:Cc w (fun k=>az k R =(r:Int)) (au H (((unl H r os ns ns.length).reverse.take j).foldl cQ os)) (U++(A++W))->Sn H (f_ X (unl H r os ns ns.length).reverse j) w R es:=fun h=>c.snn er ir c.nd c.al' c.mo h
 have new:Cc w (fun k=>az k R =(r:Int)) (au H (((unl H r os ns ns.length).reverse.take j).foldl cQ os)) (U++(B++W))->Sn H (f_ X (unl H r os ns ns.length).reverse j) w R es':=fun h=>c.snn er ir c.nd' c.al c.mn h
 have la:os.length<=ns.length:=by
  rw[lO,lN,eB]
  refine ji ?_ w1
  rcases eA with rfl|⟨y,rfl⟩ <;> simp
 rcases uH (H:=H) (r:=r) la j with e|⟨q,m,qm,e⟩
 ·exact⟨es,.inl rfl,old (by rw[e,hO];exact Cc.full w1 c.so)⟩
 ·rw[hO,hN]at e
  rw[lO]at qm
  by_cases g:q*w<=U.length
  ·obtain⟨t1,t2⟩:=nQ (A:=A++W) (B:=B++W) w1 g
   refine⟨es',.inr rfl,new ?_⟩
   rw[e,t1,show m=0 by omega]
   show Cc w _ (_++([]++_)) _
   rw[Wn,U1]
   exact Cc.full w1 c.sn
  ·refine⟨es,.inl rfl,old ?_⟩
   rw[e]
   rcases eA with rfl|⟨y,rfl⟩
   ·refine Cc.sub w1 c.sn ?_ qm fun z hz hp=>?_
    ·exact List.Sublist.append_left (List.sublist_append_right _ _) _
    ·rw[eB,VP,VP,Wl (show U.length<=_ by omega),Wl (show [x].length<=_ by simp;omega)]at hz
     exact UX _ (UX _ (Vp hz))
   ·rw[eB,xY (x:=x) (y:=y) w1 (by omega)]
    exact Cc.sub w1 c.so (List.Sublist.refl _) qm fun z hz _=>Vp hz
theorem CZ.sdrop (c:CZ H X w R k0 es es' os ns U A B W) {x:Int×Str}(eA:A=[x]) (eB:B=[]) {r:Nat}(er:(az k0 R).toNat=r) (j:Nat):∃ee,(ee=es\/ee=es')/\Sn H (f_ X (d_ H r os ns) j) w R ee:=by
 have w1:=c.w1
 have hO:=c.hO
 have hN:=c.hN
 have lN:=Vk List.length hN
 rw[aR]at lN
 have rr:=c.room er
 have ir:∀st∈((d_ H r os ns).take j),dG r st:=fun st h=>fT st (Vn h)
 have old:Cc w (fun k=>az k R =(r:Int)) (au H (((d_ H r os ns).take j).foldl cQ os)) (U++(A++W))->Sn H (f_ X (d_ H r os ns) j) w R es:=fun h=>c.snn er ir c.nd c.al' c.mo h
 have new:Cc w (fun k=>az k R =(r:Int)) (au H (((d_ H r os ns).take j).foldl cQ os)) (U++(B++W))->Sn H (f_ X (d_ H r os ns) j) w R es':=fun h=>c.snn er ir c.nd' c.al c.mn h
 rcases v8 (H:=H) (r:=r) (os:=os) (ns:=ns) j with⟨q,hq,e⟩|e
 ·rw[hO,hN]at e
  by_cases g:q*w<=U.length
  ·obtain⟨t1,t2⟩:=nQ (A:=B++W) (B:=A++W) w1 g
   refine⟨es,.inl rfl,old ?_⟩
   rw[e,t1,U1]
   exact Cc.full w1 c.so
  ·refine⟨es',.inr rfl,new ?_⟩
   rw[e]
   have:=Cc.sub (P:=fun k=>az k R =(r:Int)) (n:=U++(B++W)) (s:=U++(A++W)) (q:=q) (m:=0) w1 c.so (by rw[eB];exact List.Sublist.append_left (List.sublist_append_right _ _) _) (by omega) fun z hz hp=>by
    rw[eA,VP,VP,Wl (show U.length<=_ by omega),Wl (show [x].length<=_ by simp;omega)]at hz
    exact UX _ (UX _ (Vp hz))
   exact this
 ·exact⟨es',.inr rfl,new (by rw[e,hN];exact Cc.full w1 c.sn)⟩
end
def P7:bV->Nat
 | .row _ _ es=>es.length
 | _=>0
def rls (sts:List bV):Nat:=(sts.map P7).sum
theorem jj (a b:List bV):rls (a++b)=rls a+rls b:=by unfold rls;rw[UB,List.sum_append_nat]
theorem AD (a:List bV):rls a.reverse=rls a:=by unfold rls;rw[XQ,List.sum_reverse]
theorem oS {H:Hp}{r:Nat}{os ns:List (List V)}:∀n:Nat,rls (unl H r os ns n) <=(ns.take n).flatten.length
 | 0=>by show 0<=_;omega
 | n+1=>by
  have ih:=oS (H:=H) (r:=r) (os:=os) (ns:=ns) n
  show rls (unl H r os ns n++_)<=_
  rw[jj,WE]
  cases h:ns[n]? with
  | none =>
   show rls (unl H r os ns n)+0 <=(ns.take n ++ []).flatten.length
   rw[U7];exact ih
  | some es =>
   have:rls (if iH H os es n=true then [bV.row r n es] else [])<=es.length:=by
    split
    ·exact UE _
    ·exact Vj _
   show rls (unl H r os ns n)+rls (if iH H os es n=true then [bV.row r n es] else []) <=(ns.take n ++ [es]).flatten.length
   rw[Vv,Uz,List.flatten_singleton]
   omega
theorem vN {H:Hp}{r:Nat}{os ns:List (List V)}:rls (d_ H r os ns)<=ns.flatten.length:=by
 unfold d_
 rw[jj]
 have:=oS (H:=H) (r:=r) (os:=os) (ns:=ns) ns.length
 rw[Va]at this
 have z:rls (if os.length > ns.length then [bV.cut r ns.length] else [])=0:=by split <;> rfl
 omega
theorem xq:∀l:List Nat,rls (mq l)=0
 | []=>rfl
 | i::l=>by
  have:=xq l
  unfold mq at this ⊢
  rw[Vi]
  show P7 (.cut i 0)+rls _=0
  rw[this];rfl
theorem yb (a b:List (List (List V))):cg (a++b)=cg a++cg b:=by unfold cg;rw[UB,Vv]
theorem ug {H:Hp}{X Z:List (List (List V))}:∀n:Nat,rls (b_ H X Z n) <=(cg (Z.take n)).length
 | 0=>by show 0<=_;omega
 | n+1=>by
  have ih:=ug (H:=H) (X:=X) (Z:=Z) n
  show rls (b_ H X Z n++d_ H n (aT X n) (aT Z n))<=_
  rw[jj,WE]
  have:=vN (H:=H) (r:=n) (os:=aT X n) (ns:=aT Z n)
  unfold aT at this ⊢
  cases h:Z[n]? with
  | none =>
   rw[h]at this
   show _ <=(cg (Z.take n ++ [])).length
   rw[U7]
   have:rls (d_ H n ((X[n]?).getD []) ((none:Option (List (List V))).getD []))<=0:=this
   omega
  | some rows =>
   rw[h]at this
   show _ <=(cg (Z.take n ++ [rows])).length
   rw[yb,Uz]
   have e:cg [rows]=rows.flatten:=by unfold cg;simp
   rw[e]
   have:rls (d_ H n ((X[n]?).getD []) ((some rows).getD []))<=rows.flatten.length:=this
   omega
theorem Bk {H:Hp}{X Z:List (List (List V))}{R:Nat}:rls (cE H R X Z) <=(cg Z).length:=by
 unfold cE
 rw[jj,xq]
 refine UP (ug R) ?_
 conv=>rhs;rw[<- U1 R Z]
 rw[yb,Uz]
 omega
theorem Dr {sts:List bV}{j:Nat}:rls (sts.take j)<=rls sts:=by
 have:=jj (sts.take j) (sts.drop j)
 rw[U1]at this
 omega
theorem yx {X:List (List (List V))}{r n:Nat}{f:List (List V)->List (List V)}(h:∀rows,X[r]? = some rows->(f rows).flatten.length<=rows.flatten.length+n):(cg (X.modify r f)).length <=(cg X).length+n:=by
 cases e:X[r]? with
 | none =>
  have:X.modify r f=X:=by
   apply Vz
   intro i
   rw[Wg]
   split
   ·rename_i z;subst z;rw[e];rfl
   ·simp
  rw[this];omega
 | some rows =>
  have:X.modify r f=X.set r (f rows):=by
   apply Vz
   intro i
   rw[Wg,XJ]
   have hl:=(Ux.mp e).1
   by_cases z:r=i
   ·subst z;rw[e];simp[hl]
   ·simp[z]
  rw[this]
  have:=yM (r:=f rows) e
  have:=h rows e
  omega
theorem wA {es:List V}:∀{rows:List (List V)}{a:Nat},(rows.set a es).flatten.length<=rows.flatten.length+es.length
 | [],_=>by simp
 | x::rows,0=>by simp;omega
 | x::rows,a+1=>by
  have:=wA (es:=es) (rows:=rows) (a:=a)
  simp at this ⊢
  omega
theorem EB {rows:List (List V)}{n:Nat}:(pad rows n).flatten=rows.flatten:=by
 unfold pad
 rw[Vv]
 have:(List.replicate (n-rows.length) ([]:List V)).flatten=[]:=by
  induction (n-rows.length) with
  | zero=>rfl
  | succ k ih=>rw[List.replicate_succ,Xj,ih];rfl
 rw[this,U7]
theorem Fq {X:List (List (List V))}(st:bV):(cg (gO X st)).length <=(cg X).length+P7 st:=by
 cases st with
 | rooms n=>show(cg (trim X)).length<=_;rw[ni];exact UE _
 | cut r m =>
  show(cg (trim (X.modify r (List.take m)))).length<=_
  rw[ni]
  exact yx fun rows _=>by
   have e:=Vk (fun z:List (List V)=>z.flatten.length) (U1 m rows)
   have e:(rows.take m++rows.drop m).flatten.length=rows.flatten.length:=e
   rw[Vv,Uz]at e
   omega
 | row r a es =>
  show(cg (trim (nh X r a es))).length<=_+es.length
  rw[ni]
  unfold nh
  refine UP (yx (n:=es.length) fun rows _=>?_) (by rw[xO];exact UE _)
  refine UP wA ?_
  rw[EB];exact UE _
theorem tK:∀(sts:List bV) (X:List (List (List V))),(cg (sts.foldl gO X)).length <=(cg X).length+rls sts
 | [],X=>by show _<=_+0;exact UE _
 | st::sts,X=>by
  have h1:=tK sts (gO X st)
  have h2:=Fq (X:=X) st
  show(cg (sts.foldl gO (gO X st))).length<=_+(P7 st+rls sts)
  omega
theorem AE {X:List (List (List V))}{sts:List bV}{j:Nat}:(cg (f_ X sts j)).length <=(cg X).length+rls sts:=by
 have h1:=tK (sts.take j) X
 have h2:=Dr (sts:=sts) (j:=j)
 unfold f_
 omega
theorem ID {α:Type} [DecidableEq α]:∀{l m:List α},l.Nodup->(∀x∈l,x∈m)->l.length<=m.length
 | [],_,_,_=>Vj _
 | x::l,m,h,hs=>by
  obtain⟨h1,h2⟩:=Vq.mp h
  have a:=ID (l:=l) (m:=m.erase x) h2 fun y hy=>(List.mem_erase_of_ne (show y≠x from fun z=>h1 (by rw[<- z];exact hy))).mpr (hs y (UK _ hy))
  rw[List.length_erase_of_mem (hs x (UQ ..))]at a
  have:=List.length_pos_of_mem (hs x (UQ ..))
  rw[VH];omega
def Sm (X:List (List (List V))):Prop:=X.length<=14/\∀rows∈X,rows.length<=30/\∀es∈rows,es.length<=3
def w9 (H:Hp) (sts:List bV):Prop:=∀r a es,bV.row r a es∈sts->r<=13/\a<=29/\es.length<=3/\((aH H es).map (·.1)).Nodup
theorem Sm.step {X:List (List (List V))}{st:bV}(h:Sm X) (hs:∀r a es,st = .row r a es->r<=13/\a<=29/\es.length<=3):Sm (gO X st):=by
 have q:=AR (X:=X) (q:=fun es=>es.length<=3) (st:=st) (fun rows hr es he=>(h.2 rows hr).2 es he) (by simp) (fun r a es e=>(hs r a es e).2.2)
 refine⟨?_,fun rows hr=>⟨?_,q rows hr⟩⟩
 ·have h1:=h.1
  cases st with
  | rooms n=>exact UP cG.2 h1
  | cut r m=>exact UP cG.2 (by rw[WQ];exact h1)
  | row r a es =>
   have h3:=(hs r a es rfl).1
   refine UP cG.2 ?_
   unfold nh
   rw[WQ,iB];omega
 ·cases st with
  | rooms n=>exact(h.2 rows (cG.1 rows hr)).1
  | cut r m =>
   rcases iJ (cG.1 rows hr) with z|⟨x,hx,rfl⟩
   ·exact(h.2 rows z).1
   ·have:=(h.2 x hx).1
    rw[UH];omega
  | row r a es =>
   have h4:=(hs r a es rfl).2.1
   have hp:∀rows∈pad X (r+1),rows.length<=30:=fun rows hr=>by
    rcases jh hr with z|z
    ·exact(h.2 rows z).1
    ·rw[z];simp
   rcases iJ (cG.1 rows hr) with z|⟨x,hx,rfl⟩
   ·exact hp rows z
   ·have:=hp x hx
    rw[Xy,iB];omega
theorem Sm.fold {H:Hp}:∀{sts:List bV}{X:List (List (List V))},Sm X->w9 H sts->Sm (sts.foldl gO X)
 | [],_,h,_=>h
 | st::sts,X,h,g=>by
  have h1:Sm (gO X st):=h.step fun r a es e=>by
   obtain⟨a1,a2,a3,_⟩:=g r a es (by rw[e];exact UQ ..)
   exact⟨a1,a2,a3⟩
  exact Sm.fold (H:=H) (sts:=sts) (X:=gO X st) h1 fun r a es m=>g r a es (UK _ m)
theorem w9.take {H:Hp}{sts:List bV}(g:w9 H sts) (j:Nat):w9 H (sts.take j):=fun r a es m=>g r a es (Vn m)
theorem Es {H:Hp}{X:List (List (List V))}{sts:List bV}(h:Sm X) (g:w9 H sts) (j:Nat):Sm (f_ X sts j):=Sm.fold h (g.take j)
theorem DN {H:Hp}{X:List (List (List V))}{sts:List bV}(h:IF H X) (g:w9 H sts) (j:Nat):IF H (f_ X sts j) :=
 jP (q:=fun es:List V=>((aH H es).map fun e:Int×Str=>e.1).Nodup) .nil h fun r a es m=>(g r a es (Vn m)).2.2.2
theorem uT {H:Hp}{r:Nat}{os ns:List (List V)}:∀(p:Nat) {r' a:Nat}{es:List V},bV.row r' a es∈unl H r os ns p->r'=r/\a<p/\es∈ns
 | 0,_,_,_,h=>by cases h
 | p+1,r',a,es,h=>by
  have h:bV.row r' a es∈unl H r os ns p++(match ns[p]? with|some es=>if iH H os es p=true then [bV.row r p es] else [] | none=>[]):=h
  rcases UG.mp h with h|h
  ·obtain⟨a1,a2,a3⟩:=uT p h
   exact⟨a1,by omega,a3⟩
  ·cases e:ns[p]? with
   | none=>rw[e]at h;cases h
   | some x =>
    rw[e]at h
    by_cases c:iH H os x p=true
    ·have h:bV.row r' a es ∈ [bV.row r p x]:=by simpa [c] using h
     cases UR.mp h
     exact⟨rfl,by omega,UA e⟩
    ·have h:bV.row r' a es∈([]:List bV):=by simpa [c] using h
     cases h
theorem Ks {H:Hp}{r:Nat}{os ns:List (List V)}{r' a:Nat}{es:List V}(h:bV.row r' a es∈d_ H r os ns):r'=r/\a<ns.length/\es∈ns:=by
 unfold d_ at h
 rcases UG.mp h with h|h
 ·exact uT _ h
 ·split at h
  ·cases UR.mp h
  ·cases h
def L0 (H:Hp) (ns:List (List V)):Prop:=ns.length<=30/\∀es∈ns,es.length<=3/\((aH H es).map (·.1)).Nodup
theorem qF {H:Hp}{us:List V}{w:Nat}(w1:1<=w) (w2:w<=3) (ul:us.length<=28) (so:(aH H us).Pairwise fun a b=>a.1<b.1):L0 H (aD us w):=by
 refine⟨UP (cS w1) (by omega),fun es he=>⟨?_,?_⟩⟩
 ·unfold aD at he
  obtain⟨i,_,rfl⟩:=UC.mp he
  rw[UH];omega
 ·refine pR so (w:=w) _ ?_
  rw[<- iT]
  exact UC.mpr ⟨es,he,rfl⟩
theorem L0.on {H H0:Hp}{r:Nat}{os ns:List (List V)}(h:L0 H ns) (hr:r<=13):w9 H (d_ H0 r os ns):=fun r' a es m=>by
 obtain⟨rfl,a2,a3⟩:=Ks m
 obtain⟨b1,b2⟩:=h.2 es a3
 exact⟨hr,by have:=h.1;omega,b1,b2⟩
theorem L0.unl {H H0:Hp}{r:Nat}{os ns:List (List V)}(h:L0 H ns) (hr:r<=13):w9 H (unl H0 r os ns ns.length).reverse:=fun r' a es m=>by
 obtain⟨rfl,a2,a3⟩:=uT _ (V3.mp m)
 obtain⟨b1,b2⟩:=h.2 es a3
 exact⟨hr,by have:=h.1;omega,b1,b2⟩
structure Yn (H:Hp) (X:List (List (List V))) (w R:Nat) (ee:List (Int×Str)):Prop where
 sn:Sn H X w R ee
 dk:IF H X
 sm:Sm X
 tr:trim X=X
structure N6 (H:Hp) (X:List (List (List V))) (w R:Nat) (es:List (Int×Str)) (k:Int) (z:Str) (sts:List bV):Prop where
 st:∀j,j<=sts.length->∃(R':Nat) (ee:List (Int×Str)),ET R sts j =(R':Int)/\1<=R'/\R'<=R+1/\Sn H (f_ X sts j) w R' ee/\(ee=es\/ee=xj es k z\/ee=tY es k)
 gs:w9 H sts
 len:sts.length<=100
 rl:rls sts<=50
theorem Sn.keep {H H':Hp}{X:List (List (List V))}{w R:Nat}{es:List (Int×Str)}(kt:∀t xs,H t=some (.tup xs)->H' t=some (.tup xs)) (en:f7 H X) (h:Sn H X w R es):Sn H' X w R es:=⟨h.nd,h.w1,h.R1,fun i hi=>by
 rw[gq kt (tO en)];exact h.at' i hi⟩
theorem w9.keep {H H':Hp}{sts:List bV}(kt:∀t xs,H t=some (.tup xs)->H' t=some (.tup xs)) (en:∀r a es,bV.row r a es∈sts->∀v∈es,En H v) (h:w9 H sts):w9 H' sts:=fun r a es m=>by
 rw[bZ kt (en r a es m)];exact h r a es m
section
variable {H:Hp}{X:List (List (List V))}{w R:Nat}{es:List (Int×Str)}
theorem Base.sm (b:Base H X w R es) (w2:w<=3) (R2:R<=13) (el:es.length<=24):Sm X:=by
 refine⟨by rw[b.xl];omega,fun rows hr=>?_⟩
 obtain⟨i,hi⟩:=Vb hr
 have il:=(Ux.mp hi).1
 rw[b.xl]at il
 obtain⟨s,p2,p3,mo,p1⟩:=b.own il
 have ea:aT X i=rows:=by unfold aT;rw[hi];rfl
 rw[ea]at p3
 have sl:s.length<=24:=by rw[p1.length_eq];exact UP (UY _ _) el
 have lr:=Vk List.length p3
 rw[aR]at lr
 refine⟨by rw[lr];exact UP (cS b.w1) (by omega),fun e he=>?_⟩
 have hm:aH H e∈aD s w:=by rw[<- p3];exact UC.mpr ⟨e,he,rfl⟩
 unfold aD at hm
 obtain⟨i,_,hi⟩:=UC.mp hm
 have l:=Vk List.length hi
 unfold aH at l
 rw[UH,Uv]at l
 omega
theorem LA {H':Hp}{k:Int}{z:Str}(b:Base H X w R es) (hen:f7 H X) (w2:w<=3) (el:es.length<=24) (R2:R<=12) (sm:aO H H'):N6 H' X w R es k z (nq H R (aT X (tn R)) (aD (sM H (aT X (tn R)) ((R+1:Nat):Int) R) w) (aD (sM H (aT X (tn R)) ((R+1:Nat):Int) (tn R)) w)):=by
 have t:=iU b.R1
 obtain⟨ok,fl,s,so,hO,ef,mo⟩:=b.rows hen (by omega) (by omega) t.2
 have sl:s.length<=24:=by
  obtain⟨s2,p2,p3,mo2,p1⟩:=b.own t.2
  have:s=s2:=ki so p2 fun x=>by rw[mo,mo2]
  rw[this,p1.length_eq];exact UP (UY _ _) el
 have gd:∀n:Int,aH H (sM H (aT X (tn R)) ((R+1:Nat):Int) n)=s.filter fun e=>decide (az e.1 ((R+1:Nat):Int)=n):=fun n=>by
  rw[<- ef]
  unfold aH sM
  rw[XC];rfl
 have gl:∀n:Int,(sM H (aT X (tn R)) ((R+1:Nat):Int) n).length<=24:=fun n=>by
  have e:=Vk List.length (gd n)
  unfold aH at e
  rw[Uv]at e
  rw[e];exact UP (UY _ _) sl
 have sp:BH H X w R es (aD (sM H (aT X (tn R)) ((R+1:Nat):Int) R) w) (aD (sM H (aT X (tn R)) ((R+1:Nat):Int) (tn R)) w) s _ _:=⟨b,so,hO,mo,rfl,rfl,by rw[iT,gd],by rw[iT,gd]⟩
 have kt:∀t xs,H t=some (.tup xs)->H' t=some (.tup xs):=fun _ _ e=>sm _ _ e
 have enr:∀es∈aT X (tn R),∀v∈es,En H v:=fun es he=>(ok.2 es he).2
 have g1:=qF (H:=H) b.w1 w2 (UP (gl R) (by omega)) (by rw[gd];exact so.filter _)
 have g2:=qF (H:=H) b.w1 w2 (UP (gl (tn R)) (by omega)) (by rw[gd];exact so.filter _)
 have f1:(aD (sM H (aT X (tn R)) ((R+1:Nat):Int) R) w).flatten.length<=24:=by rw[bI _ b.w1];exact gl _
 have f2:(aD (sM H (aT X (tn R)) ((R+1:Nat):Int) (tn R)) w).flatten.length<=24:=by rw[bI _ b.w1];exact gl _
 have eg:∀e∈aD (sM H (aT X (tn R)) ((R+1:Nat):Int) R) w,∀v∈e,En H v:=fun e he v hv=>AZ enr v (cL he hv)
 have esn:∀e∈aD (sM H (aT X (tn R)) ((R+1:Nat):Int) (tn R)) w,∀v∈e,En H v:=fun e he v hv=>AZ enr v (cL he hv)
 generalize aD (sM H (aT X (tn R)) ((R+1:Nat):Int) R) w=gN at sp g1 f1 eg ⊢
 generalize aD (sM H (aT X (tn R)) ((R+1:Nat):Int) (tn R)) w=sN at sp g2 f2 esn ⊢
 have rowsIn:∀r a e,bV.row r a e∈nq H R (aT X (tn R)) gN sN->bV.row r a e∈d_ H R [] gN\/bV.row r a e∈d_ H (tn R) (aT X (tn R)) sN:=fun r a e m=>by
  unfold nq at m
  rcases UG.mp m with m|m
  ·exact .inl m
  ·rcases U9.mp m with m|m
   ·cases m
   ·exact .inr m
 have enm:∀r a e,bV.row r a e∈nq H R (aT X (tn R)) gN sN->∀v∈e,En H v:=fun r a e m=>by
  rcases rowsIn r a e m with z|z
  ·exact eg e (vg z)
  ·exact esn e (vg z)
 have enj:∀j,f7 H (f_ X (nq H R (aT X (tn R)) gN sN) j):=fun j rows hr e he v hv =>
  jP (q:=fun es:List V=>∀v∈es,En H v) (fun _ h=>absurd h U3) hen (fun r a e m=>enm r a e (Vn m)) rows hr e he v hv
 refine⟨fun j hj=>?_,w9.keep kt enm fun r a e m=>?_,?_,?_⟩
 ·obtain⟨R',e1,e2,e3⟩:=sp.sn hj
  have R1:=b.R1
  exact⟨R',es,e1,by omega,by omega,e3.keep kt (enj j),.inl rfl⟩
 ·rcases rowsIn r a e m with z|z
  ·exact g1.on (by omega) r a e z
  ·exact g2.on (by omega) r a e z
 ·unfold nq
  rw[Uz,VH]
  have:=j3 (H:=H) (r:=R) (os:=[]) (ns:=gN)
  have:=j3 (H:=H) (r:=tn R) (os:=aT X (tn R)) (ns:=sN)
  have:=g1.1
  have:=g2.1
  omega
 ·unfold nq
  rw[jj]
  have a:=vN (H:=H) (r:=R) (os:=[]) (ns:=gN)
  have c:=vN (H:=H) (r:=tn R) (os:=aT X (tn R)) (ns:=sN)
  show _+(0+rls (d_ H (tn R) (aT X (tn R)) sN))<=50
  omega
theorem Lk {H':Hp}{us:List V}{k:Int}{z:Str}(b:Base H X w (R+1) es) (hen:f7 H X) (w2:w<=3) (el:es.length<=24) (R1:1<=R) (R2:R<=11) (pu:us.Perm ((aT X (tn R)).flatten++(aT X R).flatten)) (su:(aH H us).Pairwise fun a b=>a.1<b.1) (sm:aO H H'):N6 H' X w (R+1) es k z (nF H R (aT X (tn R)) (aD us w)):=by
 have t:=iU R1
 obtain⟨ok,_,s,so,hO,ef,mo⟩:=b.rows hen (by omega) (by omega) (i:=tn R) (by omega)
 obtain⟨ok2,_,s2,so2,_,ef2,mo2⟩:=b.rows hen (by omega) (by omega) (i:=R) (by omega)
 have mu:∀x,x∈aH H us↔x∈s\/x∈s2:=fun x=>by
  have:=(pu.map (eD H)).mem_iff (a:=x)
  unfold aH
  rw[this,UB,UG,<- ef,<- ef2];rfl
 have jo:Hx H X w R es (aD us w) s (aH H us):=⟨b,R1,so,hO,mo,su,fun x=>by
  rw[mu,mo,mo2]
  exact⟨fun q=>q.elim (fun z=>⟨z.1,.inl z.2⟩) fun z=>⟨z.1,.inr z.2⟩,fun q=>q.2.elim (fun z=>.inl ⟨q.1,z⟩) fun z=>.inr ⟨q.1,z⟩⟩,iT⟩
 have ul:us.length<=24:=by
  have e:us.length =(aH H us).length:=by unfold aH;rw[Uv]
  rw[e]
  refine UP ?_ el
  have nd:(aH H us).Nodup:=su.imp fun h z=>by rw[z]at h;omega
  exact ID nd fun x hx=>((jo.mb x).mp hx).1
 have kt:∀t xs,H t=some (.tup xs)->H' t=some (.tup xs):=fun _ _ e=>sm _ _ e
 have enu:∀e∈aD us w,∀v∈e,En H v:=fun e he v hv=>by
  rcases UG.mp (pu.mem_iff.mp (cL he hv)) with hv|hv
  ·obtain⟨es,he,hm⟩:=Vh.mp hv
   exact(ok.2 es he).2 v hm
  ·obtain⟨es,he,hm⟩:=Vh.mp hv
   exact(ok2.2 es he).2 v hm
 have g1:=qF (H:=H) b.w1 w2 (UP ul (by omega)) su
 have f1:(aD us w).flatten.length<=24:=by rw[bI _ b.w1];exact ul
 generalize aD us w=ns at jo enu g1 f1 ⊢
 have rowsIn:∀r a e,bV.row r a e∈nF H R (aT X (tn R)) ns->bV.row r a e∈(unl H (tn R) (aT X (tn R)) ns ns.length).reverse:=fun r a e m=>by
  unfold nF at m
  rcases UG.mp m with m|m
  ·exact m
  ·simp at m
 have enm:∀r a e,bV.row r a e∈nF H R (aT X (tn R)) ns->∀v∈e,En H v:=fun r a e m=>enu e (qN _ (V3.mp (rowsIn r a e m)))
 have enj:∀j,f7 H (f_ X (nF H R (aT X (tn R)) ns) j):=fun j rows hr e he v hv =>
  jP (q:=fun es:List V=>∀v∈es,En H v) (fun _ h=>absurd h U3) hen (fun r a e m=>enm r a e (Vn m)) rows hr e he v hv
 refine⟨fun j hj=>?_,w9.keep kt enm fun r a e m=>g1.unl (by omega) r a e (rowsIn r a e m),?_,?_⟩
 ·obtain⟨R',e1,e2,e3⟩:=jo.sn hj
  exact⟨R',es,e1,by omega,by omega,e3.keep kt (enj j),.inl rfl⟩
 ·unfold nF
  rw[Uz,Vg]
  have:=ku (H:=H) (r:=tn R) (os:=aT X (tn R)) (ns:=ns) ns.length
  have:=g1.1
  simp
  omega
 ·unfold nF
  rw[jj,AD]
  have:=oS (H:=H) (r:=tn R) (os:=aT X (tn R)) (ns:=ns) ns.length
  rw[Va]at this
  show _+0<=50
  omega
end
section
variable {H:Hp}{X:List (List (List V))}{w R:Nat}{es:List (Int×Str)}
theorem Dz (cl:cH w R es (yD H X)) (nd:(es.map (·.1)).Nodup) (R1:1<=R) (w1:1<=w) (k:Int):(bw X k R).flatten.length<=es.length:=by
 obtain⟨s,p1,p2,p3⟩:=z8 (k:=k) cl nd R1
 have e:(aH H (bw X k R).flatten).length=s.length:=by rw[i9,p3,bI _ w1]
 unfold aH at e
 rw[Uv]at e
 rw[e,p1.length_eq]
 exact UY _ _
theorem GF {H':Hp}{k:Int}{z:Str}(b:Base H X w R es) (hen:f7 H X) (w2:w<=3) (el:es.length<=24) (R2:R<=12) (hk:k∈es.map (·.1)) (sm:aO H H'):N6 H' X w R es k z (d_ H (az k R).toNat (bw X k R) (aD (fS H (bw X k R) k) w)):=by
 have kt:∀t xs,H t=some (.tup xs)->H' t=some (.tup xs):=fun _ _ e=>sm _ _ e
 obtain⟨rok,rl,rnd,rs,rm⟩:=C8 (k:=k) b.cl b.nd hen b.w1 (by omega) b.R1 (by omega)
 have ol:=Dz b.cl b.nd b.R1 b.w1 k
 have ooe:=vt (k:=k) (ny (k:=k) (R:=R) hen)
 have hN:au H (aD (fS H (bw X k R) k) w)=aD ((aH H (bw X k R).flatten).filter fun e=>!decide (e.1=k)) w:=by
  rw[<- qZ,iT]
 have sn:=rs.filter fun e=>!decide (e.1=k)
 obtain⟨U,A0,B0,W,ch,hA0,hB0,hUW⟩:=CN (es':=tY es k) b.cl b.nd (by unfold tY;exact(List.filter_sublist.map _).nodup b.nd) b.w1 b.R1 (fun x hx=>by rw[gP];exact⟨fun h=>⟨h,hx⟩,fun h=>h.1⟩) hN sn fun x=>by
  rw[Vm,rm,gP]
  simp
  exact⟨fun h=>⟨⟨h.1.1,h.2⟩,h.1.2⟩,fun h=>⟨⟨h.1.1,h.2⟩,h.1.2⟩⟩
 obtain⟨e0,he0,ek0⟩:=UC.mp hk
 obtain⟨x,eA⟩ : ∃x,A0=[x]:=by
  rcases hA0 with z|⟨x,z,_⟩
  ·exfalso
   have i1:=(ch.mo e0).mpr ⟨he0,by rw[ek0]⟩
   have i2:e0∉U++(B0++W):=fun q=>(gP.mp ((ch.mn e0).mp q).1).2 ek0
   rw[z,Wn]at i1
   exact i2 (by rcases UG.mp i1 with q|q <;> simp[q])
  ·exact⟨x,z⟩
 have eB:B0=[]:=by
  rcases hB0 with z|⟨x,z,ex⟩
  ·exact z
  ·exfalso
   have:=(ch.mn x).mp (by rw[z];simp)
   exact(gP.mp this.1).2 ex
 have lo:(fS H (bw X k R) k).length<=24:=by
  have:(fS H (bw X k R) k).length <=(bw X k R).flatten.length:=by unfold fS;exact UY _ _
  omega
 have g:=qF (H:=H) b.w1 w2 (UP lo (by omega)) (by rw[qZ];exact sn)
 have f1:(aD (fS H (bw X k R) k) w).flatten.length<=24:=by rw[bI _ b.w1];exact lo
 have R1:=b.R1
 have rb:=bU (k:=k) (R:=(R:Int)) (by omega)
 have enn:∀e∈aD (fS H (bw X k R) k) w,∀v∈e,En H v:=fun e he v hv=>ooe v (cL he hv)
 generalize aD (fS H (bw X k R) k) w=ns at ch g f1 enn ⊢
 have enm:∀r a e,bV.row r a e∈d_ H (az k R).toNat (bw X k R) ns->∀v∈e,En H v:=fun r a e m=>enn e (vg m)
 have enj:∀j,f7 H (f_ X (d_ H (az k R).toNat (bw X k R) ns) j):=fun j rows hr e he v hv =>
  jP (q:=fun es:List V=>∀v∈es,En H v) (fun _ h=>absurd h U3) hen (fun r a e m=>enm r a e (Vn m)) rows hr e he v hv
 refine⟨fun j hj=>?_,w9.keep kt enm (g.on (by omega)),?_,?_⟩
 ·obtain⟨ee,e1,e2⟩:=ch.sdrop eA eB rfl j
  refine⟨R,ee,?_,R1,by omega,e2.keep kt (enj j),e1.elim .inl fun z=>.inr (.inr z)⟩
  exact qA (gV fT)
 ·have:=j3 (H:=H) (r:=(az k R).toNat) (os:=bw X k R) (ns:=ns)
  have:=g.1
  omega
 ·exact UP vN (by omega)
theorem Eb {H':Hp}{k:Int}{z:Str}{t:Addr}{us:List V}(b:Base H X w R es) (hen:f7 H X) (w2:w<=3) (el:es.length<=24) (R2:R<=12) (sm:aO H H') (ht:H' t=some (.tup [.int k,.str z])) (pu:us.Perm (fS H (bw X k R) k ++ [.ref t])) (su:(aH H' us).Pairwise fun a b=>a.1<b.1):N6 H' X w R es k z (unl H' (az k R).toNat (bw X k R) (aD us w) (aD us w).length).reverse:=by
 have kt:∀t xs,H t=some (.tup xs)->H' t=some (.tup xs):=fun _ _ e=>sm _ _ e
 have cl':cH w R es (yD H' X):=by rw[jm kt hen];exact b.cl
 have ol:=Dz b.cl b.nd b.R1 b.w1 k
 obtain⟨rok,rl,rnd,rs,rm⟩:=C8 (k:=k) b.cl b.nd hen b.w1 (by omega) b.R1 (by omega)
 have ooe:=vt (k:=k) (ny (k:=k) (R:=R) hen)
 have hN:au H' (aD us w)=aD (aH H' us) w:=iT
 have mu:∀x,x∈aH H' us↔x =(k,z) \/(x∈aH H (bw X k R).flatten/\x.1≠k):=fun x=>by
  have e1:(aH H' us).Perm (aH H' (fS H (bw X k R) k ++ [.ref t])):=pu.map _
  have e2:aH H' (fS H (bw X k R) k ++ [.ref t]) =(aH H (bw X k R).flatten).filter (fun e=>!decide (e.1=k)) ++ [(k,z)]:=by
   rw[<- qZ,<- bZ kt ooe]
   unfold aH
   rw[UB]
   show _ ++ [eD H' (.ref t)]=_
   rw[oA ht]
  rw[e1.mem_iff,e2,UG,Vm,UR]
  simp
  exact Or.comm
 obtain⟨U,A0,B0,W,ch,hA0,hB0,hUW⟩:=CN (es':=xj es k z) cl' b.nd (BJ b.nd) b.w1 b.R1 (fun x hx=>by rw[jF];exact⟨fun h=>.inr ⟨h,hx⟩,fun h=>h.elim (fun q=>absurd (by rw[q]) hx) fun h=>h.1⟩) hN su fun x=>by
  rw[mu,rm,jF]
  constructor
  ·rintro(rfl|⟨⟨h1,h2⟩,h3⟩)
   ·exact⟨.inl rfl,rfl⟩
   ·exact⟨.inr ⟨h1,h3⟩,h2⟩
  ·rintro⟨rfl|⟨h1,h3⟩,h2⟩
   ·exact .inl rfl
   ·exact .inr ⟨⟨h1,h2⟩,h3⟩
 obtain⟨x,eB⟩ : ∃x,B0=[x]:=by
  rcases hB0 with q|⟨x,q,_⟩
  ·exfalso
   have i1:=(ch.mn (k,z)).mpr ⟨jF.mpr (.inl rfl),rfl⟩
   rw[q,Wn]at i1
   exact hUW _ i1 rfl
  ·exact⟨x,q⟩
 have eA:A0=[] \/ ∃y,A0=[y]:=hA0.elim .inl fun⟨y,q,_⟩=>.inr ⟨y,q⟩
 have lo:us.length<=25:=by
  have:(fS H (bw X k R) k).length <=(bw X k R).flatten.length:=by unfold fS;exact UY _ _
  rw[pu.length_eq,Uz,WS]
  omega
 have g:=qF (H:=H') b.w1 w2 (UP lo (by omega)) su
 have f1:(aD us w).flatten.length<=25:=by rw[bI _ b.w1];exact lo
 have R1:=b.R1
 have rb:=bU (k:=k) (R:=(R:Int)) (by omega)
 generalize aD us w=ns at ch g f1 ⊢
 refine⟨fun j hj=>?_,g.unl (by omega),?_,?_⟩
 ·obtain⟨ee,e1,e2⟩:=ch.sput eA eB rfl j
  refine⟨R,ee,?_,R1,by omega,e2,e1.elim .inl fun z=>.inr (.inl z)⟩
  exact qA (gV d8)
 ·rw[Vg]
  have:=ku (H:=H') (r:=(az k R).toNat) (os:=bw X k R) (ns:=ns) ns.length
  have:=g.1
  omega
 ·rw[AD]
  have:=oS (H:=H') (r:=(az k R).toNat) (os:=bw X k R) (ns:=ns) ns.length
  rw[Va]at this
  omega
end
def Way (way:Str) (R:Nat) (es:List (Int×Str)) (k:Int):Prop:=way = "split" \/(way = "join"/\2<=R) \/(way = "drop"/\k∈es.map (·.1))\/way = "put" \/ way = "lay"
def gn (K:W.Frag):Sp:=fun vs H Q _=>∃(y:Addr) (w R:Nat) (X:List (List (List V))) (es:List (Int×Str)) (way z:Str) (k:Int),vs=[.ref y,.str way,.int k,.str z]/\Yd H y w R X/\Base H X w R es/\es.length<=24/\w<=3/\R<=12/\(0<=k/\k<1152921504606846976)/\(PyData.strOk z=true/\z.length<=100)/\Way way R es k /\
 ∀(D:Addr) (ss:List Addr) (sts:List bV) (H':Hp),H D=none->H' D=some (.lst (ss.map V.ref))->P1 (lM (hid D H')) ss sts->N6 H' X w R es k z sts->aO H H'->Q (.ref D) H'
theorem F7 {K:W.Frag}{H:Hp}{l:Addr}{ts:List Addr}{ps:List (Int×Str)}(hl:H l=some (.lst (ts.map V.ref))) (el:EL H ts ps):GD K H 2 (.ref l) (.list (ps.map pE)):=by
 have:=GD.lst (K:=K) hl (mZ el.en)
 rw[show PyData.list ((ts.map V.ref).map (dE H))=Bt H (ts.map V.ref) from rfl,m_ el.en,el.row]at this
 exact this
theorem Jq (es:List (Int×Str)):PyData.eqv (.list (es.map pE)) (.list [])=decide (es=[]):=by
 cases es with
 | nil=>rfl
 | cons e es=>rw[Vi,PyData.eqv,U6 (by simp)];rfl
def Cb (way:Str) (R:Int) (es:List (Int×Str)):Prop:=way = "split" \/(way = "join"/\R≠1) \/(way = "drop"/\es ≠ [])\/way = "put" \/(way = "lay"/\es ≠ [])
def lV (K:W.Frag):Sp:=fun vs H Q _=>∃(p l:Addr) (N:Nat) (R:Int) (ts:List Addr) (es:List (Int×Str)),vs=[.ref p,.int R,.ref l]/\Hand H p N/\N+10<2^60/\H l=some (.lst (ts.map V.ref))/\EL H ts es /\
 ∀(way:Str) (H':Hp),Cb way R es->Hand H' p (N+1)->Kp H H' p->Q (.str way) H'
def jD (K:W.Frag):Sp:=fun vs H Q _=>∃(p l:Addr) (N:Nat) (R:Int) (way:Str) (ts:List Addr) (es:List (Int×Str)),vs=[.ref p,.str way,.ref l]/\Hand H p N/\N+100<2^60/\Cb way R es/\H l=some (.lst (ts.map V.ref))/\EL H ts es/\es.length<=63 /\
 ∀(k:Int) (H':Hp),0<=k->k<1152921504606846976->(way = "drop"->k∈es.map (·.1))->Hand H' p (N+50)->Kp H H' p->Q (.int k) H'
def oD:Option Str->PyData
 | none=>.none
 | some z=>.str z
theorem Q2 {K:W.Frag}{H:Hp}{n:Nat}{o:Option Str}(h:∀z,o=some z->PyData.strOk z=true):GD K H n (xV o) (oD o):=by
 cases o with
 | none=>exact⟨.non,by unfold oD;rw[PyData.canLay0],by simp[oD,PyData.depth]⟩
 | some z=>exact GD.str (h z rfl)
theorem AJ {K:W.Frag}{H:Hp}{n:Nat}:∀{os:List (Option Str)},(∀o∈os,∀z,o=some z->PyData.strOk z=true)->yO K H n (os.map xV) (os.map oD)
 | [],_=>.nil
 | o::os,h=>.cons (Q2 (h o (UQ ..))) (AJ fun o ho=>h o (UK _ ho))
theorem FN {es:List (Int×Str)}(ok:Po es) (k:Int):∀z,pick k es=some z->PyData.strOk z=true:=fun z h=>by
 unfold pick at h
 obtain⟨e,he,rfl⟩:=WK.mp h
 exact(ok e (WU he)).1
def jN (K:W.Frag):Sp:=fun vs H Q _=>∃(y l:Addr) (w R:Int) (X:List (List (List V))) (ks:List Int) (ee:List (Int×Str)),vs=[.ref y,.ref l]/\Yd H y w R X/\1<=R/\R<=2^60/\H l=some (.lst (ks.map V.int))/\ks.length<=100/\(∀k∈ks,0<=k/\k<1152921504606846976)/\Fd H X R ee /\
 ∀D H',H D=none->H' D=some (.lst ((ks.map fun k=>pick k ee).map xV))->aO H H'->Q (.ref D) H'
theorem yV {X:List (List (List V))}{sts:List bV}(h:trim X=X):∀j:Nat,trim (f_ X sts j)=f_ X sts j
 | 0=>by rw[lX];exact h
 | j+1=>by
  cases e:sts[j]? with
  | none =>
   have:f_ X sts (j+1)=f_ X sts j:=by
    unfold f_
    rw[WE,e,Option.toList_none,U7]
   rw[this];exact yV h j
  | some st =>
   rw[mQ e]
   cases st <;> exact uv
theorem Yn.keep {H H':Hp}{X:List (List (List V))}{w R:Nat}{ee:List (Int×Str)}(kt:∀t xs,H t=some (.tup xs)->H' t=some (.tup xs)) (en:f7 H X) (h:Yn H X w R ee):Yn H' X w R ee:=⟨h.sn.keep kt en,h.dk.keep kt en,h.sm,h.tr⟩
theorem Sm.ok {H:Hp}{X:List (List (List V))}(h:Sm X) (en:f7 H X) (i:Nat):cV H (aT X i):=by
 cases e:X[i]? with
 | none=>unfold aT;rw[e];exact⟨by show 0<=130;omega,fun _ h=>absurd h U3⟩
 | some rows =>
  have hm:=UA e
  have ea:aT X i=rows:=by unfold aT;rw[e];rfl
  rw[ea]
  obtain⟨a,b⟩:=h.2 rows hm
  exact⟨by omega,fun es he=>⟨by have:=b es he;omega,fun v hv=>en rows hm es he v hv⟩⟩
theorem EW {H:Hp}{X Z:List (List (List V))}{w R:Nat}{ee:List (Int×Str)}(cl:cH w R ee (yD H Z)) (nd:(ee.map (·.1)).Nodup) (w1:1<=w) (w2:w<=3) (R1:1<=R) (R2:R<=13) (el:ee.length<=25):w9 H (cE H R X Z):=by
 have key:∀n,n<=R->w9 H (b_ H X Z n):=fun n=>by
  induction n with
  | zero=>intro _ r a es m;cases m
  | succ n ih =>
   intro hn r a es m
   rcases UG.mp (show bV.row r a es∈b_ H X Z n++d_ H n (aT X n) (aT Z n) from m) with m|m
   ·exact ih (by omega) r a es m
   ·have b:Base H Z w R ee:=⟨cl,nd,w1,R1⟩
    obtain⟨s,p2,p3,mo,p1⟩:=b.own (i:=n) (by omega)
    have sl:s.length<=25:=by rw[p1.length_eq];exact UP (UY _ _) el
    have lr:=Vk List.length p3
    rw[aR]at lr
    have g:L0 H (aT Z n):=by
     refine⟨by rw[lr];exact UP (cS w1) (by omega),fun e he=>?_⟩
     have hm:aH H e∈aD s w:=by rw[<- p3];exact UC.mpr ⟨e,he,rfl⟩
     refine⟨?_,pR p2 _ hm⟩
     unfold aD at hm
     obtain⟨i,_,hi⟩:=UC.mp hm
     have l:=Vk List.length hi
     unfold aH at l
     rw[UH,Uv]at l
     omega
    exact g.on (by omega) r a es m
 intro r a es m
 unfold cE at m
 rcases UG.mp m with m|m
 ·exact key R (UE _) r a es m
 ·unfold mq at m
  obtain⟨_,_,z⟩:=UC.mp m
  cases z
theorem Ba {H:Hp}{X Z:List (List (List V))}{w R:Nat}{ee:List (Int×Str)}(cl:cH w R ee (yD H Z)) (nd:(ee.map (·.1)).Nodup) (w1:1<=w) (R1:1<=R) (R2:R<=13) (el:ee.length<=25) (xl:X.length<=14):(cE H R X Z).length<1000:=by
 have key:∀n,n<=R->(b_ H X Z n).length<=31*n:=fun n=>by
  induction n with
  | zero=>intro _;exact UE _
  | succ n ih =>
   intro hn
   show(b_ H X Z n++d_ H n (aT X n) (aT Z n)).length<=_
   have b:Base H Z w R ee:=⟨cl,nd,w1,R1⟩
   obtain⟨s,p2,p3,mo,p1⟩:=b.own (i:=n) (by omega)
   have sl:s.length<=25:=by rw[p1.length_eq];exact UP (UY _ _) el
   have lr:=Vk List.length p3
   rw[aR]at lr
   have:=cS (s:=s) w1
   have:=j3 (H:=H) (r:=n) (os:=aT X n) (ns:=aT Z n)
   have:=ih (by omega)
   rw[Uz]
   omega
 unfold cE mq
 rw[Uz,Uv,Vg]
 have:=key R (UE _)
 have:=oV (X:=X) (R:=R) (X.length-R)
 omega
theorem GS {H:Hp}{X Z:List (List (List V))}{w R:Nat}{ee:List (Int×Str)}(h:Yn H X w R ee) (cl:cH w R ee (yD H Z)) (w2:w<=3) (R2:R<=13) (el:ee.length<=25) (j:Nat):Yn H (f_ X (cE H R X Z) j) w R ee:=by
 have g:=EW (X:=X) cl h.sn.nd h.sn.w1 w2 h.sn.R1 R2 el
 exact⟨h.sn.mend cl j,DN h.dk g j,Es h.sm g j,yV h.tr j⟩
theorem Du {H:Hp}{X Z:List (List (List V))}{R:Nat}{st:bV}(hm:st∈cE H R X Z) (Q:Int):Cn Q st=Q:=by
 have:∀n,st ≠ .rooms n:=fun n e=>by
  unfold cE at hm
  rcases UG.mp hm with z|z
  ·exact tE R st z n e
  ·unfold mq at z
   obtain⟨_,_,z⟩:=UC.mp z
   rw[<- z]at e;cases e
 cases st with
 | rooms n=>exact absurd rfl (this n)
 | cut _ _=>rfl
 | row _ _ _=>rfl
def iu (K:W.Frag):Sp:=fun vs H Q _=>∃(y l:Addr) (w R n many:Nat) (X:List (List (List V))) (ks:List Int) (ee:List (Int×Str)),vs=[.ref y,.ref l,.int many]/\Yd H y w R X/\Yn H X w R ee/\w<=3/\R<=13/\Po ee/\ee.length<=25/\(cg X).length<=n/\n<=150/\H l=some (.lst (ks.map V.int))/\ks.length<=100/\(∀k∈ks,0<=k/\k<1152921504606846976)/\many<=1000 /\
 ∀(y':Addr) (X':List (List (List V))) (H':Hp),Yd H' y' w R X'->Yn H' X' w R ee->(cg X').length<=n+25->(many=1000->cH w R ee (yD H' X'))->aO H H'->Q (.ref y') H'
theorem yR {R:Int}{sts:List bV}{j:Nat}{st:bV}(h:sts[j]? = some st):ET R sts (j+1)=Cn (ET R sts j) st:=by
 unfold ET;rw[aX h,Vu];rfl
theorem GB (ns:List Int):(jk ns).Nodup:=by
 have key:∀(l a:List Int),a.Nodup->(l.foldl jL a).Nodup:=fun l=>by
  induction l with
  | nil=>exact fun a h=>h
  | cons k l ih =>
   intro a h
   refine ih _ ?_
   unfold jL
   split
   ·exact h
   ·exact Vs.mpr ⟨h,Vq.mpr ⟨U3,WR⟩,fun x hx y hy=>by rw[UR.mp hy];exact fun z=>absurd (z ▸ hx) ‹_›⟩
 exact key ns [] WR
def G4 (ee:List (Int×Str)) (k:Int):List (Int×Str):=match pick k ee with|some z=>[(k,z)] | none=>[]
theorem oY {ee:List (Int×Str)}{k:Int}{x:Int×Str}:x∈G4 ee k↔x.1=k/\pick k ee=some x.2:=by
 unfold G4
 cases e:pick k ee with
 | none=>simp
 | some z =>
  simp only[List.mem_singleton]
  exact⟨fun h=>by rw[h];exact⟨rfl,rfl⟩,fun h=>Prod.ext h.1 (US h.2).symm⟩
theorem qW {ee:List (Int×Str)}:∀{ms:List Int},ms.Nodup->((ms.flatMap (G4 ee)).map (·.1)).Nodup
 | [],_=>WR
 | k::ms,h=>by
  obtain⟨h1,h2⟩:=Vq.mp h
  rw[List.flatMap_cons,UB]
  refine Vs.mpr ⟨?_,qW h2,fun a ha b hb e=>h1 ?_⟩
  ·unfold G4;cases pick k ee <;> simp
  ·obtain⟨x,hx,rfl⟩:=UC.mp ha
   obtain⟨y,hy,rfl⟩:=UC.mp hb
   obtain⟨k',hk',hy⟩:=List.mem_flatMap.mp hy
   rw[<-(oY.mp hx).1,e,(oY.mp hy).1];exact hk'
theorem DM {ee:List (Int×Str)}{ms:List Int}(nd:(ee.map (·.1)).Nodup) (h:ms.Nodup) (hs:∀e∈ee,e.1∈ms):(ms.flatMap (G4 ee)).Perm ee:=by
 refine(Xn (fW (qW h)) (fW nd)).mpr fun x=>?_
 rw[List.mem_flatMap]
 constructor
 ·rintro⟨k,hk,hx⟩
  obtain⟨e1,e2⟩:=oY.mp hx
  have:=(gS (mW nd)).mp e2
  rw[<- e1]at this;exact this
 ·exact fun hx=>⟨x.1,hs x hx,oY.mpr ⟨rfl,(gS (mW nd)).mpr hx⟩⟩
def L1 (ss:List Addr):Nat:=ss.length
def nW (K:W.Frag):Sp:=fun vs H Q _=>∃(p y l:Addr) (N w R:Nat) (X:List (List (List V))) (ts:List Addr) (es:List (Int×Str)),vs=[.ref p,.ref y,.ref l]/\Hand H p N/\N+1000<2^60/\Yd H y w R X/\Base H X w R es/\H l=some (.lst (ts.map V.ref))/\EL H ts es/\es.length<=24/\w<=3/\R<=12 /\
 ∀H',Hand H' p (N+200)->Kp H H' p->Q (.bl true) H'
section
variable (P:Program)(w:World)(K:W.Frag)(mg:Str -> Option Value)(base:Heap)
abbrev FI:=bJ P w K mg base "_law_draw" CA 1 (vm K)
abbrev LO:=bJ P w K mg base "room_of" D9 4 (zu K)
abbrev K3:=bJ P w K mg base "rows_at" Dn 1 (zk K)
abbrev LY:=bJ P w K mg base "entries_in" Bc 1 (rY K)
abbrev L_:=bJ P w K mg base "cut_rows" zQ 2 (wM K)
abbrev Qc:=bJ P w K mg base "_law_thing" yi 2 (rL K)
abbrev PN:=bJ P w K mg base "_law_copy" zV 1 (u5 K)
abbrev PV:=bJ P w K mg base "_law_key" yi 3 (wX K)
abbrev P4:=bJ P w K mg base "onward" AY 2 (BO K)
abbrev Qk:=bJ P w K mg base "level" iX 1 (Cq K)
abbrev GX:=bJ P w K mg base "turn" iX 2 (Fb K)
abbrev Km:=bJ P w K mg base "unlike_rows" AY 1 (rC K)
abbrev JB:=bJ P w K mg base "_law_clean" Kw 2 (sJ K)
abbrev LD:=bJ P w K mg base "_law_found" LH 2 (sI K)
abbrev JC:=bJ P w K mg base "others_in" r_ 2 (v9 K)
abbrev Kc:=bJ P w K mg base "_law_room" LC 1 (u9 K)
abbrev KJ:=bJ P w K mg base "_law_done" IY 2 (vH K)
abbrev KZ:=bJ P w K mg base "backward" AY 2 (yC K)
end
section
variable {P:Program}{w:World}{K:W.Frag}{mg:Str->Option Value}{base:Heap}
theorem ve {f:Addr}{fd:FuncData}(F:fz K "last_bits" "last_bits" jY f fd) (mF:mg "last_bits" = some (.ref f)) (bF:Binds K fd Bj []) (T:Bl mg)  : bJ P w K mg base "last_bits" Bj 1 (lR K):=by
 refine bJ.of F mF bF vn (fun vs H Q E h=>?_) (fun _ A _ _ H vs Q E hr h=>?_)
 ·obtain⟨k,m,rfl,_⟩:=h;rfl
 obtain⟨k,m,rfl,hm,q⟩:=h
 refine⟨_,(ay (aN (aJ cU (pv 0) (aJ zx aj (pv 1))))),?_⟩
 rw[v5]
 have p:=fM m
 x_go
 have e:(1:Int)*2^(m:Int).toNat=2^m:=by rw[Int.one_mul,VU]
 rw[e]
 x_go
 exact q
theorem Di {f:Addr}{fd:FuncData}(F:fz K "level" "level" uP f fd) (mF:mg "level" = some (.ref f)) (bF:Binds K fd iX []) (T:Bl mg)  : Qk P w K mg base:=by
 refine bJ.of F mF bF CU (fun vs H Q E h=>?_) (fun _ A _ _ H vs Q E hr h=>?_)
 ·obtain⟨R,rfl,_⟩:=h;rfl
 obtain⟨R,rfl,h1,q⟩:=h
 refine⟨_,(ay (aN (aJ iQ (CO PySem.F.plainAttrs_int PySem.F.slot_int_bit_length PySem.F.type_int_bit_length B7 (pv 0)) aj))),?_⟩
 rw[ER]
 x_go
 refine⟨rfl,?_⟩
 x_go
 rw[FA h1]
 exact q
theorem G9 {f:Addr}{fd:FuncData}(F:fz K "turn" "turn" Aj f fd) (mF:mg "turn" = some (.ref f)) (bF:Binds K fd iX []) (T:Bl mg) (gH:Qk P w K mg base):GX P w K mg base:=by
 refine bJ.of F mF bF FJ (fun vs H Q E h=>?_) (fun _ A _ _ H vs Q E hr h=>?_)
 ·obtain⟨R,rfl,_⟩:=h;rfl
 obtain⟨R,rfl,h1,h2,q⟩:=h
 have hl:=Az h1 h2
 refine⟨_,(ay (aN (aJ iQ (pv 0) (aJ zx aj (bP gH hr.mo (aa (pv 0) ah af)))))),?_⟩
 rw[Hq]
 x_go
 refine⟨R,rfl,h1,?_⟩
 x_go
 have e:(1:Int)*2^(lg R:Int).toNat=2^lg R:=by rw[Int.one_mul,VU]
 rw[e]
 exact q
theorem wW {f:Addr}{fd:FuncData}(F:fz K "bits_for" "bits_for" lC f fd) (mF:mg "bits_for" = some (.ref f)) (bF:Binds K fd GJ []) (T:Bl mg) (gH:Qk P w K mg base) (jc:GX P w K mg base):bJ P w K mg base "bits_for" GJ 3 (oF K):=by
 refine bJ.of F mF bF oz (fun vs H Q E h=>?_) (fun _ A _ _ H vs Q E hr h=>?_)
 ·obtain⟨r,R,rfl,_⟩:=h;rfl
 obtain⟨r,R,rfl,h1,h2,q⟩:=h
 have hl:=Az h1 h2
 refine⟨_,(ai (aG (i:=2) oz.nd rfl (Or.inl rfl) (bP gH hr.mo (aa (pv 1) ah af)))
   (ai (bY (CQ MV qb (bP jc hr.mo (aa (pv 1) ah af)) (pv 0) (aJ zx aj (pv 2))) (ay (aN (pv 2))) bh)
   (ay (aN (aJ bB (pv 2) aj))))),?_⟩
 rw[wo]
 x_go
 refine⟨R,rfl,h1,?_⟩
 x_go
 refine⟨R,rfl,h1,h2,?_⟩
 x_go
 have e:(1:Int)*2^(lg R:Int).toNat=2^lg R:=by rw[Int.one_mul,VU]
 refine bM (fun c=>?_) (fun c=>?_)
 ·x_go
  rw[e]
  refine bM (fun d=>?_) (fun d=>?_)
  ·x_go
   unfold oq at q
   rw[UN ⟨c,d⟩]at q
   exact q
  ·x_go
   unfold oq at q
   rw[UM (fun z=>d z.2)]at q
   exact q
 ·x_go
  unfold oq at q
  rw[UM (fun z=>c z.1)]at q
  exact q
theorem z7 {f:Addr}{fd:FuncData}(F:fz K "room_of" "room_of" nM f fd) (mF:mg "room_of" = some (.ref f)) (bF:Binds K fd D9 []) (T:Bl mg) (iD:bJ P w K mg base "last_bits" Bj 1 (lR K)) (kW:bJ P w K mg base "bits_for" GJ 3 (oF K)) (gH:Qk P w K mg base):LO P w K mg base:=by
 refine bJ.of F mF bF zP (fun vs H Q E h=>?_) (fun _ A _ _ H vs Q E hr h=>?_)
 ·obtain⟨k,R,rfl,_⟩:=h;rfl
 obtain⟨k,R,rfl,h1,h2,q⟩:=h
 have hl:=Az h1 h2
 refine⟨_,(ay (aN (bP iD hr.mo (aa (pv 0) (aa (bP kW hr.mo (aa (bP iD hr.mo (aa (pv 0) (aa (bP gH hr.mo (aa (pv 1) ah af)) ah aQ) af)) (aa (pv 1) ah af) aQ)) ah aQ) af)))),?_⟩
 rw[yX]
 x_go
 refine⟨R,rfl,h1,?_⟩
 x_go
 refine⟨k,lg R,rfl,by omega,?_⟩
 x_go
 refine⟨_,R,rfl,h1,h2,?_⟩
 x_go
 refine⟨k,oq (k%2^lg R) R,rfl,by unfold oq;split <;> omega,?_⟩
 rw[Aa]
 exact q
theorem w6 {f:Addr}{fd:FuncData}(F:fz K "split_of" "split_of" kL f fd) (mF:mg "split_of" = some (.ref f)) (bF:Binds K fd iX []) (T:Bl mg) (jc:GX P w K mg base):bJ P w K mg base "split_of" iX 3 (nY K):=by
 refine bJ.of F mF bF wu (fun vs H Q E h=>?_) (fun _ A _ _ H vs Q E hr h=>?_)
 ·obtain⟨R,rfl,_⟩:=h;rfl
 obtain⟨R,rfl,h1,h2,q⟩:=h
 refine⟨_,(ay (aN (bW (aa (bP jc hr.mo (aa (pv 0) ah af)) (aa (pv 0) ah af) aQ)))),?_⟩
 rw[yH]
 x_go
 refine⟨R,rfl,h1,h2,?_⟩
 x_go
 exact⟨zs2,q⟩
theorem vP {f:Addr}{fd:FuncData}(F:fz K "joined_of" "joined_of" jz f fd) (mF:mg "joined_of" = some (.ref f)) (bF:Binds K fd iX []) (T:Bl mg) (jc:GX P w K mg base):bJ P w K mg base "joined_of" iX 3 (lZ K):=by
 refine bJ.of F mF bF l8 (fun vs H Q E h=>?_) (fun _ A _ _ H vs Q E hr h=>?_)
 ·obtain⟨R,rfl,_⟩:=h;rfl
 obtain⟨R,rfl,h1,h2,q1,q2⟩:=h
 refine⟨_,(ai (bY (aL dF (pv 0) aj (aU _)) (ay (aN jZ)) bh)
   (ai (aG (i:=1) l8.nd rfl (Or.inl rfl) (aJ iQ (pv 0) aj))
   (ay (aN (bW (aa (pv 1) (aa (bP jc hr.mo (aa (pv 1) ah af)) ah aQ) af)))))),?_⟩
 rw[vJ]
 x_go
 refine bM (fun c=>?_) (fun c=>?_)
 ·x_go
  exact q1 c
 ·x_go
  refine⟨R-1,rfl,by omega,by omega,?_⟩
  x_go
  exact⟨zs2,q2 c⟩
theorem yh {f:Addr}{fd:FuncData}(F:fz K "rows_for" "rows_for" lJ f fd) (mF:mg "rows_for" = some (.ref f)) (bF:Binds K fd Be []) (T:Bl mg)  : bJ P w K mg base "rows_for" Be 1 (n_ K):=by
 refine bJ.of F mF bF wC (fun vs H Q E h=>?_) (fun _ A _ _ H vs Q E hr h=>?_)
 ·obtain⟨m,w,rfl,_⟩:=h;rfl
 obtain⟨m,w,rfl,h1,h2,q⟩:=h
 refine⟨_,(ay (aN (aV (uq rfl) rfl T.max zA (aa aj (aa (aJ iZ (aJ iQ (aJ bB (pv 0) (pv 1)) aj) (pv 1)) ah br) aB)))),?_⟩
 rw[xP]
 x_go
 exact q
theorem xw {f:Addr}{fd:FuncData}(F:fz K "cut_rows" "cut_rows" jt f fd) (mF:mg "cut_rows" = some (.ref f)) (bF:Binds K fd zQ []) (T:Bl mg) (lI:bJ P w K mg base "rows_for" Be 1 (n_ K)):L_ P w K mg base:=by
 refine bJ.of F mF bF xX (fun vs H Q E h=>?_) (fun _ A _ _ H vs Q E hr h=>?_)
 ·obtain⟨a,ms,w,rfl,_⟩:=h;rfl
 obtain⟨a,ms,w,rfl,ha,hl,w1,w2,q⟩:=h
 refine⟨_,(ay (aN (b7 rfl (cF (sc:=aq jt) (N:=zQ) (vs:=["at"]) (fs:=zQ) (js:=[0,1]) (by z_go) rfl rfl) (cK rfl T.range (aa (bP lI hr.mo (aa (aV aZ rfl T.len cj (aa (pv 0) ah af)) (aa (pv 1) ah af) aQ)) ah aQ)) (fun _ _ _ _=>aC (i:=0) (show(["at", "things", "wide"]:List Str).Nodup by z_go) rfl (Or.inl rfl)) (fun _ _ _ _=>gu) (fun _ _ _ _=>(cC (Dw (K:=K) rfl) (pv 1) (cR (aJ fQ (pv 0) (pv 2))) (cR (aJ fQ (aJ bB (pv 0) aj) (pv 2)))))))),?_⟩
 rw[w4]
 x_go
 refine⟨_,w,rfl,by omega,by omega,?_⟩
 obtain⟨g1,g2,g3⟩:=qE (g:=eK ms.length w) (w:=w) (m:=ms.length) (by omega) (by omega) rfl
 have gb:eK (ms.length:Int) w<=201:=by
  rcases g3 with z|z
  ·omega
  ·by_cases q:eK (ms.length:Int) w<=201
   ·exact q
   ·have:(1:Int)*(eK ms.length w-1)<=w*(eK ms.length w-1):=Xb (by omega) (by omega)
    omega
 refine⟨_,rfl,by omega,by omega,fun D nD=>?_⟩
 unfold dm at q
 have n201:(eK (ms.length:Int) w).toNat<=201:=by omega
 generalize (eK (ms.length:Int) w).toNat=n at q n201 ⊢
 refine dB (n:=n) (fun i σ' ys H'=>(∃x,σ'=[x,some (.ref a),some (.int w)])/\(∃as:List Addr,ys=as.map V.ref/\as.length=i/\(∀(k:Nat) (b:Addr) (es:List V),as[k]? = some b->(jd ms w i)[k]? = some es->H' b=some (.lst es))/\(as.Nodup/\∀b∈as,∃o,H' b=some o)/\∀b∈as,H b=none/\b≠D)/\aO H H'/\H' D=some (.lst ys)) D ?_ ?_ ?_
 ·exact⟨⟨_,rfl⟩,⟨[],rfl,rfl,fun k b es e _=>by simp at e,⟨.nil,fun b hb=>by cases hb⟩,fun b hb=>by cases hb⟩,aI nD _,ao⟩
 ·rintro i σ' ys H' hi ⟨⟨x,rfl⟩,⟨as,rfl,al,hL,⟨hN,hS⟩,hn⟩,s1,hD⟩
  have ha':=s1 _ _ ha
  x_go
  have e1:(0+(i:Int))*w =((i*w:Nat):Int):=by rw[XI,Int.natCast_mul]
  have e2:(0+(i:Int)+1)*w =(((i+1)*w:Nat):Int):=by rw[XI,Int.natCast_mul];rfl
  have e3:(i+1)*w=i*w+w:=Nat.succ_mul i w
  rw[e1,e2]
  refine e_ (aW.of ha') fun b nb=>?_
  rw[G_ (by omega),show(i+1)*w-i*w=w by omega]
  generalize hE:upd H' b _=H1
  obtain⟨hb1,s2⟩:=bg nb hE
  clear hE
  have bD:b≠D:=by intro e;rw[e,hD]at nb;cases nb
  refine⟨s2 _ _ hD,by rw[Uv];exact aE (by omega),⟨_,rfl⟩,⟨as ++ [b],by rw[UB];rfl,by rw[Uz,al];rfl,?_,⟨?_,fun c hc=>?_⟩,fun c hc=>?_⟩,fun c o e=>?_,ao⟩
  ·intro k c es e1 e2
   rw[nX]at e2
   by_cases z:k<as.length
   ·rw[UO z]at e1
    rw[UO (by rw[dI];omega)]at e2
    rw[av (hn c (UA e1)).2];exact s2 _ _ (hL k c es e1 e2)
   ·have kl:=(Ux.mp e1).1
    rw[Uz]at kl
    have hk:k=as.length:=by have:[b].length=1:=rfl;omega
    subst hk
    rw[UL (UE _),Wa]at e1
    rw[UL (by rw[dI];omega),dI,al,Wa]at e2
    have ec:b=c:=US e1
    have ee:(ms.drop (i*w)).take w=es:=US e2
    subst ec ee
    rw[av bD];exact hb1
  ·rw[Vs]
   refine⟨hN,by simp,fun x hx y hy z=>?_⟩
   rw[UR.mp hy]at z
   obtain⟨o,ho⟩:=hS x hx
   rw[z,nb]at ho;cases ho
  ·rcases UG.mp hc with z|z
   ·obtain⟨o,ho⟩:=hS c z
    exact⟨o,by rw[av (hn c z).2];exact s2 _ _ ho⟩
   ·rw[UR.mp z];exact⟨_,by rw[av bD];exact hb1⟩
  ·rcases UG.mp hc with z|z
   ·exact hn c z
   ·rw[UR.mp z];exact⟨s1.free nb,bD⟩
  ·rw[av (ak e nD)];exact s2 _ _ (s1 _ _ e)
 ·rintro σ' ys H' ⟨⟨x,rfl⟩,⟨as,rfl,al,hL,⟨hN,hS⟩,hn⟩,s1,hD⟩
  exact q D H' nD ⟨as,hD,by rw[al,dI],hL,hN,hn⟩ s1
theorem Bs {f:Addr}{fd:FuncData}(F:fz K "looked" "looked" p_ f fd) (mF:mg "looked" = some (.ref f)) (bF:Binds K fd r_ []) (T:Bl mg)  : bJ P w K mg base "looked" r_ 1 (uI K):=by
 refine bJ.of F mF bF kg (fun vs H Q E h=>?_) (fun _ A _ _ H vs Q E hr h=>?_)
 ·obtain⟨l,k,rs,rfl,_⟩:=h;rfl
 obtain⟨l,k,rs,rfl,⟨as,hl,hL⟩,hz,q⟩:=h
 refine⟨_,(ai (aG (i:=2) kg.nd rfl (Or.inl rfl) aj)
   (ai (eS Vr rfl (bu (pv 0)) (aC (i:=3) kg.nd rfl (Or.inl rfl)) (ai (EF (i:=2) kg.nd rfl (Or.inl rfl) aj CV)
   (ay (bY (PW.pt (jH (xW (pv 3) (fun _=>rfl)) (iz (aL yo (aY bG (pv 3) (CW zF aj) (fun _ _=>rfl)) (pv 1) (aU _))))) (ay (aN (bW (aa (vf gM (pv 1) (pv 3) (by with_unfolding_all rfl)) (aa (pv 2) ah af) oE)))) bh))))
   (ay (aN (bW (aa yL (aa (pv 2) ah af) aB)))))),?_⟩
 rw[Ci]
 x_go
 refine⟨l,rfl,⟨_,aW.of hl⟩,?_⟩
 refine fX (xs:=as.map V.ref) (fun i σ H'=>(∃x,σ=[some (.ref l),some (.int k),some (.int i),x])/\H'=H/\fC k rs =((fC k (rs.drop i)).1,(fC k (rs.drop i)).2+i)) ⟨⟨_,rfl⟩,rfl,by simp⟩ (fun i σ H' _ h=>by rw[h.2.1];exact aW.of hl) ?_ ?_
 ·rintro i x σ H' hx ⟨⟨x1,rfl⟩,rfl,hk⟩
  obtain⟨a,ha,rfl⟩:=b9 hx
  obtain⟨r,hr1,har⟩:=hL.get ha
  rw[mK hr1]at hk
  x_go
  have pass:¬ q_ k r->fC k rs =((fC k (rs.drop (i+1))).1,(fC k (rs.drop (i+1))).2+((i+1:Nat):Int)):=fun z=>by
   rw[hk,zq z]
   show(_,_) =(_,_)
   congr 1;omega
  refine⟨decide (r ≠ []),.inl ⟨_,aW.of har,HK r⟩,?_⟩
  refine bM (fun c=>?_) (fun c=>?_)
  ·obtain⟨y,hy⟩:=Gm c
   x_go
   refine cJ (aW.of har) (Fj hy) ?_
   x_go
   refine bM (fun d=>?_) (fun d=>?_)
   ·x_go
    refine vK (aW.of har) ?_
    x_go
    refine⟨zs2,fun t nt=>q t _ nt ?_ (aI nt _)⟩
    rw[ao,hk,zH (yf hy d)]
    show some (HO.tup [V.bl _,V.int ((i:Int)+1)])=some (HO.tup [V.bl _,V.int (1+(i:Int))])
    rw[Int.add_comm]
   ·x_go
    refine⟨⟨_,rfl⟩,rfl,pass fun z=>?_⟩
    obtain⟨x,hx,hkx⟩:=qK z
    rw[hy]at hx
    cases hx
    exact d hkx
  ·x_go
   refine⟨⟨_,rfl⟩,rfl,pass fun z=>c fun e=>?_⟩
   obtain⟨x,hx,_⟩:=qK z
   rw[e]at hx;cases hx
 ·rintro σ H' ⟨⟨x1,rfl⟩,rfl,hk⟩
  x_go
  refine⟨zs2,fun t nt=>q t _ nt ?_ (aI nt _)⟩
  rw[Uv,hL.len,List.drop_length]at hk
  rw[ao,hk,Uv,hL.len]
  show some (HO.tup [V.bl false,V.int (rs.length:Int)])=some (HO.tup [V.bl false,V.int (0+(rs.length:Int))])
  rw[XI]
theorem Cd {f:Addr}{fd:FuncData}(F:fz K "spread" "spread" mj f fd) (mF:mg "spread" = some (.ref f)) (bF:Binds K fd HG []) (T:Bl mg) (bA:LO P w K mg base):bJ P w K mg base "spread" HG 5 (t8 K):=by
 refine bJ.of F mF bF m6 (fun vs H Q E h=>?_) (fun _ A _ _ H vs Q E hr h=>?_)
 ·obtain⟨a,ns,R,rfl,_⟩:=h;rfl
 obtain⟨a,ns,R,rfl,ha,hl,r1,r2,q⟩:=h
 refine⟨_,(ai (eN (i:=2) m6.nd rfl rfl rfl (cF (sc:=aq mj) (N:=Lw) (vs:=["room"]) (fs:=[]) (js:=[]) (by z_go) rfl rfl) (cK rfl T.range (aa (pv 1) ah af)) (fun _ _ _ _=>aC (i:=0) (show(["room"]:List Str).Nodup by z_go) rfl (Or.inl rfl)) (fun _ _ _ _=>gu) (fun _ _ _ _=>(cy ah)))
   (ai (eS Vr rfl (bu (aV zZ rfl T.sorted iV (aa (pv 0) ah af))) (aC (i:=3) m6.nd rfl (Or.inl rfl)) (ay (iK (oB VX VR VS dQ (aY bG (pv 2) (bP bA hr.mo (aa (pv 3) (aa (pv 1) ah af) af)) (fun _ _=>rfl)) (aa (pv 3) ah af)))))
   (ay (aN (pv 2))))),?_⟩
 rw[Bg]
 x_go
 refine⟨R,rfl,by omega,by omega,fun D nD=>?_⟩
 rw[VU]
 refine dB (n:=R) (fun i σ' ys H'=>(∃x,σ'=[x])/\aO H H'/\∃as:List Addr,ys=as.map V.ref/\H' D=some (.lst ys)/\Ls H' as (List.replicate i [])/\as.Nodup/\∀b∈as,H b=none/\b≠D) D ⟨⟨_,rfl⟩,aI nD _,[],rfl,ao,trivial,WR,fun _ h=>by(cases h)⟩ ?_ ?_
 ·rintro i σ' ys H1 hi ⟨⟨x,rfl⟩,s1,as,rfl,hD,hL,hn,h4⟩
  x_go
  refine⟨by decide,fun b nb=>?_⟩
  generalize hE:upd H1 b _=H2
  obtain⟨hb,s2⟩:=bg nb hE
  clear hE
  have bD:b≠D:=by intro e;rw[e,hD]at nb;cases nb
  have bas:b∉as:=fun m=>by
   obtain⟨r,_,e⟩:=hL.mem m
   rw[e]at nb;cases nb
  have al:=hL.rep
  refine⟨s2 _ _ hD,by rw[Uv,al];exact aE (by omega),⟨_,rfl⟩,fun c o e=>?_,as ++ [b],by rw[UB];rfl,ao,?_,?_⟩
  ·rw[av (ak e nD)];exact s2 _ _ (s1 _ _ e)
  ·rw[List.replicate_succ']
   exact Ls.snoc (r:=[]) (by rw[av bD];exact hb) (hL.same fun c hc o e=>by rw[av (h4 c hc).2];exact s2 _ _ e)
  ·refine⟨?_,fun c hc=>?_⟩
   ·rw[Vs]
    exact⟨hn,by simp,fun x hx y hy e=>by simp at hy;rw[hy]at e;exact bas (e ▸ hx)⟩
   ·rcases UG.mp hc with m|m
    ·exact h4 c m
    ·rw[UR.mp m];exact⟨s1.free nb,bD⟩
 ·rintro σ' ys H1 ⟨⟨x,rfl⟩,s1,as,rfl,hD,hL,hn,h4⟩
  have hL:Ls H1 as (bL [] R):=by rw[xE];exact hL
  x_go
  refine C0 (aW.of (s1 _ _ ha)) (by omega) fun ms e p1 p2 ne=>?_
  generalize hE:upd H1 e _=H2
  obtain⟨he,s2⟩:=bg ne hE
  clear hE
  have eas:∀b∈as,b≠e:=fun b m z=>by
   obtain⟨r,_,hb⟩:=hL.mem m
   rw[z,ne]at hb;cases hb
  have ml:ms.length<=63:=by rw[p1.length_eq];exact hl
  have eD:D≠e:=fun z=>by rw[<- z,hD]at ne;cases ne
  refine⟨e,rfl,⟨_,aW.of he⟩,?_⟩
  refine fX (xs:=ms.map V.int) (fun i σ H'=>(∃x,σ=[some (.ref a),some (.int R),some (.ref D),x])/\aO H H'/\H' e=some (.lst (ms.map V.int))/\H' D=some (.lst (as.map V.ref))/\Ls H' as (bL (ms.take i) R)) ⟨⟨_,rfl⟩,s1.trans s2,he,s2 _ _ hD,hL.same fun b _ o=>s2 b o⟩ (fun _ _ _ _ h=>aW.of h.2.2.1) ?_ ?_
  ·rintro i x σ H3 hx ⟨⟨x1,rfl⟩,s3,he3,hD3,hL3⟩
   obtain⟨k,hk,rfl⟩:=ints_get hx
   have il:=(Ux.mp hk).1
   have rb:=bU (k:=k) (R:=R) (by omega)
   obtain⟨j,hj,jl⟩ : ∃j:Nat,az k R =(j:Int)/\j<R:=⟨(az k R).toNat,by omega,by omega⟩
   obtain⟨b,hb⟩ : ∃b,as[j]? = some b:=⟨_,Uy (show j<as.length by rw[hL3.len,cB];exact jl)⟩
   obtain⟨r,hr1,hbr⟩:=hL3.get hb
   have hr2:r =(ms.take i).filter fun k=>decide (az k R =(j:Int)):=by
    rw[eU jl]at hr1
    exact(US hr1).symm
   have hm:=UA hb
   x_go
   refine⟨k,R,rfl,by omega,by omega,?_⟩
   rw[hj]
   refine cJ (aW.of hD3) (gf hb) ?_
   x_go
   refine⟨.inl ⟨rfl,_,aW.of hbr⟩,?_⟩
   x_go
   refine⟨b,_,_,rfl,rfl,hbr,?_,?_⟩
   ·rw[Uv,hr2]
    refine aE (UP (UY _ _) ?_)
    rw[UH];omega
   x_go
   refine⟨⟨_,rfl⟩,fun c o e=>?_,?_,?_,?_⟩
   ·rw[av (ak e (h4 b hm).1)];exact s3 _ _ e
   ·rw[av (eas b hm).symm];exact he3
   ·rw[av (h4 b hm).2.symm];exact hD3
   ·rw[aX hk,vV hj jl,<- hr2]
    have:=hL3.set (r:=r ++ [k]) hn hb
    rw[UB]at this
    exact this
  ·rintro σ H3 ⟨⟨x1,rfl⟩,s3,he3,hD3,hL3⟩
   rw[Uv,Va]at hL3
   x_go
   exact q ms D H3 p1 p2 nD ⟨as,hD3,hL3,hn,h4⟩ s3
theorem zU {f:Addr}{fd:FuncData}(F:fz K "yard_of" "yard_of" i7 f fd) (mF:mg "yard_of" = some (.ref f)) (bF:Binds K fd HJ []) (T:Bl mg) (qJ:bJ P w K mg base "spread" HG 5 (t8 K)) (bC:L_ P w K mg base):bJ P w K mg base "yard_of" HJ 6 (qM K):=by
 refine bJ.of F mF bF kT (fun vs H Q E h=>?_) (fun _ A _ _ H vs Q E hr h=>?_)
 ·obtain⟨a,ts,ps,w,R,rfl,_⟩:=h;rfl
 obtain⟨a,ts,ps,w,R,rfl,ha,tl,pl,hT,w1,w2,r1,r2,q⟩:=h
 have hu:=hr.units
 have hu1:=Eu hr
 refine⟨_,(ai (aG (i:=3) kT.nd rfl (Or.inr rfl) (dg (qD rfl) rfl T.dict AH (aa (pv 2) ah af)))
   (ai (eN (i:=4) kT.nd rfl rfl rfl (cF (sc:=aq i7) (N:=G8) (vs:=["own"]) (fs:=["things"]) (js:=[3]) (by z_go) rfl rfl) (bu (bP qJ hr.mo (aa (dg (yY rfl) rfl T.list l7 (aa (pv 3) ah af)) (aa (pv 1) ah af) aQ))) (fun _ _ _ _=>aC (i:=0) (show(["own", "things"]:List Str).Nodup by z_go) rfl (Or.inl rfl)) (fun _ _ _ _=>gu) (fun _ _ _ _=>(b7 rfl (yZ (N:=["own", "things"]) (vs:=["key"]) (fs:=["things"]) (js:=[1]) rfl rfl (by kernel_rfl)) (mw (K:=K) rfl (pv 0)) (fun _ _ _ _=>aC (i:=0) (show(["key", "things"]:List Str).Nodup by z_go) rfl (Or.inl rfl)) (fun _ _ _ _=>gu) (fun _ _ _ _=>(bW (aa (pv 0) (aa (AK hu1 (pv 1) (pv 0) (fun _ _=>rfl)) ah aM) af))))))
   (ay (aN (bW (aa (pv 0) (aa (pv 1) (aa (b7 rfl (cF (sc:=aq i7) (N:=G8) (vs:=["own"]) (fs:=["wide"]) (js:=[0]) (by z_go) rfl rfl) (bu (pv 4)) (fun _ _ _ _=>aC (i:=0) (show(["own", "wide"]:List Str).Nodup by z_go) rfl (Or.inl rfl)) (fun _ _ _ _=>gu) (fun _ _ _ _=>(bP bC hr.mo (aa (pv 0) (aa (pv 1) ah af) af)))) ah dN) af) af)))))),?_⟩
 rw[zb]
 x_go
 refine⟨a,ts,ps.map kf,rfl,aW.of ha,by omega,by rw[Uv];exact tl,fun i t p e1 e2=>?_,fun d nd=>?_⟩
 ·rw[UI]at e2
  cases e:ps[i]? with
  | none=>rw[e]at e2;cases e2
  | some p'=>rw[e]at e2;cases e2;exact hT i t p' e1 e
 rw[show fG [] (ps.map kf) =(bN [] ps).map kf from kM (qs:=[])]
 generalize hE:upd H d _=H1
 obtain⟨hd,s1⟩:=bg nd hE
 clear hE
 have ql:(bN [] ps).length<=63:=by
  have h1:=iP (ps.map kf) []
  rw[show fG [] (ps.map kf) =(bN [] ps).map kf from kM (qs:=[]),Uv,Uv]at h1
  simp at h1;omega
 generalize bN [] ps=qs at hd q ql
 x_go
 refine⟨d,_,rfl,hd,fun l nl=>?_⟩
 rw[Vo,show(qs.map ((fun kv:Key×V=>kV kv.1) ∘ kf)) =(qs.map (·.1)).map V.int by rw[Vo];rfl]
 generalize hE:upd H1 l _=H2
 obtain⟨hl,s2⟩:=bg nl hE
 clear hE
 x_go
 refine⟨l,_,R,rfl,hl,by rw[Uv];exact ql,r1,r2,fun ms sp H3 mp mo nsp LNs s3=>?_⟩
 obtain⟨as,hsp,hLs,_,hnew⟩:=LNs
 have al:=hLs.len
 refine⟨sp,rfl,⟨_,aW.of hsp⟩,fun D nD=>?_⟩
 have hd3:=s3 _ _ (s2 _ _ hd)
 have ml:ms.length<=63:=by rw[mp.length_eq,Uv];exact ql
 refine bf (xs:=as.map V.ref) (fun i σ' ys H'=>(∃x,σ'=[x,some (.ref d)])/\aO H3 H'/\(∃ds:List Addr,ys=ds.map V.ref/\ds.length=i/\∀(j:Nat) (dd:Addr) (own:List Int),ds[j]? = some dd->(bL ms R)[j]? = some own->Own (hid D H') (ic qs) dd own)/\H' D=some (.lst ys)) D ⟨⟨_,rfl⟩,aI nD _,⟨[],rfl,rfl,fun j dd own e=>by simp at e⟩,ao⟩ (fun i σ' ys H' _ h=>aW.of (h.2.1 _ _ hsp)) ?_ ?_
 ·rintro i x σ' ys H4 hx ⟨⟨x1,rfl⟩,s4,⟨ds,rfl,dl,hds⟩,hD⟩
  obtain⟨b,hb,rfl⟩ : ∃b,as[i]? = some b/\x=V.ref b:=by
   rw[UI]at hx
   cases e:as[i]? with
   | none=>rw[e]at hx;cases hx
   | some b=>rw[e]at hx;exact⟨b,rfl,(US hx).symm⟩
  obtain⟨own,ho,hob⟩:=hLs.get hb
  have il:i<200:=by have:=(Ux.mp ho).1;rw[cB]at this;omega
  have ol:=ow ho
  have hb4:=s4 _ _ hob
  have hd4:=s4 _ _ hd3
  x_go
  refine⟨b,rfl,⟨_,aW.of hb4⟩,fun D2 nD2=>?_⟩
  have D2D:D2≠D:=fun z=>by rw[z,hD]at nD2;cases nD2
  refine bf (xs:=own.map V.int) (fun k σ' ys H'=>(∃x,σ'=[x,some (.ref d)])/\aO H4 H'/\(∃us:List Addr,ys=us.map V.ref/\us.length=k/\(∀u∈us,u≠D/\u≠D2)/\∀(n:Nat) (u:Addr) (key:Int),us[n]? = some u->own[n]? = some key->H' u=some (.tup [.int key,ic qs key]))/\H' D2=some (.lst ys)) D2 ⟨⟨_,rfl⟩,aI nD2 _,⟨[],rfl,rfl,fun u hu=>by simp at hu,fun n u key e=>by simp at e⟩,ao⟩ (fun i σ' ys H' _ h=>aW.of (h.2.1 _ _ hb4)) ?_ ?_
  ·rintro k x σ' ys H5 hx2 ⟨⟨x2,rfl⟩,s5,⟨us,rfl,ul,hne,hus⟩,hD2⟩
   obtain⟨key,hkey,rfl⟩:=ints_get hx2
   have kl:=(Ux.mp hkey).1
   have hd5:=s5 _ _ hd4
   have km:key∈qs.map (·.1):=mp.mem_iff.mp (zG ho (UA hkey))
   x_go
   refine⟨d,_,rfl,by rw[<- tH km];exact xQ.k (k:=Sum.inl key) hd5,?_⟩
   x_go
   refine⟨zs2,fun u nu=>?_⟩
   generalize hE:upd H5 u _=H6
   obtain⟨hu6,s6⟩:=bg nu hE
   clear hE
   have uD2:u≠D2:=fun z=>by rw[z,hD2]at nu;cases nu
   have uD:u≠D:=fun z=>by rw[z,s5 _ _ hD]at nu;cases nu
   refine⟨s6 _ _ hD2,by rw[Uv];exact aE (by omega),⟨_,rfl⟩,fun c o e=>?_,⟨us ++ [u],by rw[UB];rfl,by rw[Uz,ul];rfl,fun v hv=>?_,fun n v kk e1 e2=>?_⟩,ao⟩
   ·rw[av (ak e nD2)];exact s6 _ _ (s5 _ _ e)
   ·rcases UG.mp hv with z|z
    ·exact hne v z
    ·rw[UR.mp z];exact⟨uD,uD2⟩
   ·by_cases z:n<us.length
    ·rw[UO z]at e1
     rw[av (hne v (UA e1)).2];exact s6 _ _ (hus n v kk e1 e2)
    ·have nl:=(Ux.mp e1).1
     rw[Uz]at nl
     have hk:n=us.length:=by have:[u].length=1:=rfl;omega
     subst hk
     rw[UL (UE _),Wa]at e1
     rw[ul,hkey]at e2
     have ev:u=v:=US e1
     have ek:key=kk:=US e2
     subst ev ek
     rw[av uD2];exact hu6
  ·rintro σ' ys H5 ⟨⟨x2,rfl⟩,s5,⟨us,rfl,ul,hne,hus⟩,hD2⟩
   rw[Uv]at ul
   have hO:Own (hid D H5) (ic qs) D2 own:=⟨us,by rw[fL D2D];exact hD2,ul,fun n u kk e1 e2=>by rw[fL (hne u (UA e1)).1];exact hus n u kk e1 e2⟩
   refine⟨s5 _ _ hD,by rw[Uv];exact aE (by omega),⟨_,rfl⟩,fun c o e=>?_,⟨ds ++ [D2],by rw[UB];rfl,by rw[Uz,dl];rfl,?_⟩,ao⟩
   ·rw[av (ak e nD)];exact s5 _ _ (s4 _ _ e)
   ·rw[iw]
    exact Fc (p:=fun H d own=>Own H (ic qs) d own) dl ho (fun j dd own' e1 e2=>(hds j dd own' e1 e2).same (cT s5)) hO
 ·rintro σ' ys H4 ⟨⟨x1,rfl⟩,s4,⟨ds,rfl,dl,hds⟩,hD⟩
  rw[Uv,al]at dl
  have hds':∀(j:Nat) (dd:Addr) (own:List Int),ds[j]? = some dd->(bL ms R)[j]? = some own->Own H4 (ic qs) dd own:=fun j dd own e1 e2=>(hds j dd own e1 e2).same fJ
  clear hds
  have sA:=((s1.trans s2).trans s3).trans s4
  x_go
  refine⟨D,rfl,⟨_,aW.of hD⟩,fun E' nE=>?_⟩
  refine bf (xs:=ds.map V.ref) (fun i σ' ys H'=>(∃x,σ'=[x,some (.int w)])/\aO H4 H'/\(∃(rs:List Addr) (bss:List (List Addr)),ys=rs.map V.ref/\rs.length=i/\bss.length=i/\(∀(j:Nat) (r:Addr) (bs:List Addr) (own:List Int),rs[j]? = some r->bss[j]? = some bs->(bL ms R)[j]? = some own->zB (hid E' H') (ic qs) w r bs own)/\(EX rs bss).Nodup/\∀b∈EX rs bss,H4 b=none/\b≠E'/\∃o,H' b=some o)/\H' E'=some (.lst ys)) E' ⟨⟨_,rfl⟩,aI nE _,⟨[],[],rfl,rfl,rfl,fun j r bs own e=>by simp at e,.nil,fun b hb=>by cases hb⟩,ao⟩ (fun i σ' ys H' _ h=>aW.of (h.2.1 _ _ hD)) ?_ ?_
  ·rintro i x σ' ys H5 hx ⟨⟨x1,rfl⟩,s5,⟨rs,bss,rfl,rl,bl,hrs,hnd,hpl⟩,hE'⟩
   obtain⟨dd,hdd,rfl⟩ : ∃b,ds[i]? = some b/\x=V.ref b:=by
    rw[UI]at hx
    cases e:ds[i]? with
    | none=>rw[e]at hx;cases hx
    | some b=>rw[e]at hx;exact⟨b,rfl,(US hx).symm⟩
   have il:i <(bL ms R).length:=by rw[<- dl];exact(Ux.mp hdd).1
   have ho:(bL ms R)[i]? = some (bL ms R)[i]:=Uy il
   generalize (bL ms R)[i]=own at ho
   have ol:=ow ho
   rw[cB]at il
   obtain⟨us,hu1',ul,hus⟩:=hds' i dd own hdd ho
   x_go
   refine⟨dd,us.map V.ref,w,rfl,s5 _ _ hu1',by rw[Uv];omega,w1,w2,fun l6 H6 nl6 RN s6=>?_⟩
   obtain⟨as6,h1,h2,h3,hN6,h4⟩:=RN
   have l6E:l6≠E':=fun z=>by rw[z,hE']at nl6;cases nl6
   have hO:zB (hid E' H6) (ic qs) w l6 as6 own:=by
    refine⟨us,ul,fun n u kk e1 e2=>?_,by rw[fL l6E];exact h1,h2,fun n b es e1 e2=>?_⟩
    ·have hu4:=hus n u kk e1 e2
     rw[fL (ak hu4 nE)]
     exact s6 _ _ (s5 _ _ hu4)
    ·have nb:=(h4 b (UA e1)).1
     rw[fL (fun z=>by rw[z,hE']at nb;cases nb)]
     exact h3 n b es e1 e2
   refine⟨s6 _ _ hE',by rw[Uv];exact aE (by omega),⟨_,rfl⟩,fun c o e=>?_,⟨rs ++ [l6],bss ++ [as6],by rw[UB];rfl,by rw[Uz,rl];rfl,by rw[Uz,bl];rfl,?_,?_,fun b hb=>?_⟩,ao⟩
   ·rw[av (ak e nE)];exact s6 _ _ (s5 _ _ e)
   ·rw[iw]
    exact C9 (p:=fun H r bs own=>zB H (ic qs) w r bs own) rl bl ho (fun j dd bs own' e1 e3 e2=>(hrs j dd bs own' e1 e3 e2).same (cT s6)) hO
   ·rw[wk (by omega),Vs]
    refine⟨hnd,Vq.mpr ⟨fun z=>(h4 l6 z).2 rfl,hN6⟩,fun x hx y hy z=>?_⟩
    obtain⟨o,hox⟩:=(hpl x hx).2.2
    have:H5 y=none:=by
     rcases U9.mp hy with c|c
     ·rw[c];exact nl6
     ·exact(h4 y c).1
    rw[z,this]at hox;cases hox
   ·rw[wk (by omega)]at hb
    rcases UG.mp hb with z|z
    ·obtain⟨g1,g2,o,g3⟩:=hpl b z
     exact⟨g1,g2,o,by rw[av g2];exact s6 _ _ g3⟩
    ·have n5:H5 b=none:=by
      rcases U9.mp z with c|c
      ·rw[c];exact nl6
      ·exact(h4 b c).1
     have bE:b≠E':=fun c=>by rw[c,hE']at n5;cases n5
     refine⟨s5.free n5,bE,?_⟩
     rw[av bE]
     rcases U9.mp z with c|c
     ·rw[c];exact⟨_,h1⟩
     ·obtain⟨n,hn⟩:=Vb c
      have nl:=(Ux.mp hn).1
      rw[h2]at nl
      exact⟨_,h3 n b _ hn (Uy nl)⟩
  ·rintro σ' ys H5 ⟨⟨x1,rfl⟩,s5,⟨rs,bss,rfl,rl,bl,hrs,hnd,hpl⟩,hE'⟩
   rw[Uv,dl]at rl bl
   x_go
   refine⟨zs3,fun t nt=>?_⟩
   generalize hE:upd H5 t _=H6
   obtain⟨ht,s6⟩:=bg nt hE
   clear hE
   exact q ms t E' H6 mp mo ht ⟨rs,bss,s6 _ _ hE',rl,bl,fun j r bs own e1 e3 e2=>((hrs j r bs own e1 e3 e2).same fJ).same s6,Vq.mpr ⟨fun z=>(hpl E' z).2.1 rfl,hnd⟩,fun b hb=>sA.free (by
    rcases U9.mp hb with c|c
    ·rw[c];exact nE
    ·exact(hpl b c).1)⟩ ((sA.trans s5).trans s6)
theorem rP {f:Addr}{fd:FuncData}(F:fz K "entries_in" "entries_in" gx f fd) (mF:mg "entries_in" = some (.ref f)) (bF:Binds K fd Bc []) (T:Bl mg)  : LY P w K mg base:=by
 refine bJ.of F mF bF rX (fun vs H Q E h=>?_) (fun _ A _ _ H vs Q E hr h=>?_)
 ·obtain⟨l,X,rfl,_⟩:=h;rfl
 obtain⟨l,X,rfl,⟨as,hl,al,hr2⟩,hz,q⟩:=h
 refine⟨_,(ay (aN (EG rfl (cF (sc:=aq gx) (N:=Bc) (vs:=["row", "entry"]) (fs:=[]) (js:=[]) (by z_go) rfl rfl) (bu (pv 0)) (fun _ _ _ _=>aC (i:=0) (show(["row", "entry"]:List Str).Nodup by z_go) rfl (Or.inl rfl)) (fun _ _ _ _=>gu) (fun _ _ _ _=>(mw (K:=K) rfl (pv 0))) (fun _ _ _ _=>aC (i:=1) (show(["row", "entry"]:List Str).Nodup by z_go) rfl (Or.inl rfl)) (fun _ _ _ _=>gu) (fun _ _ _ _=>(pv 1))))),?_⟩
 rw[rS]
 x_go
 refine CH ?_
 x_go
 refine⟨l,rfl,⟨_,aW.of hl⟩,fun D nD=>?_⟩
 refine Al (xs:=as.map V.ref) (fun i σ' ys H'=>(∃x y,σ'=[x,y])/\aO H H'/\ys =(X.take i).flatten/\H' D=some (.lst ys)) D ⟨⟨_,_,rfl⟩,aI nD _,rfl,ao⟩ (fun i σ' ys H' _ h=>aW.of (h.2.1 _ _ hl)) ?_ ?_
 ·rintro i x σ' ys H1 hx ⟨⟨x1,y1,rfl⟩,s1,rfl,hD⟩
  obtain⟨a,ha,rfl⟩ : ∃a,as[i]? = some a/\x=V.ref a:=by
   rw[UI]at hx
   cases e:as[i]? with
   | none=>rw[e]at hx;cases hx
   | some a=>rw[e]at hx;exact⟨a,rfl,(US hx).symm⟩
  have il:i<X.length:=by rw[<- al];exact(Ux.mp ha).1
  have hes:=hr2 i a _ ha (Uy il)
  have hX:X[i]? = some X[i]:=Uy il
  generalize X[i]=es at hes hX
  have fl:=C4 hX
  x_go
  refine Mt ?_
  x_go
  refine⟨a,rfl,⟨_,aW.of (s1 _ _ hes)⟩,?_⟩
  refine in_list (xs:=es) (fun j σ' ys' H'=>(∃x y,σ'=[x,y])/\aO H H'/\ys' =(X.take i).flatten++es.take j/\H' D=some (.lst ys')) ⟨⟨_,_,rfl⟩,s1,by simp,hD⟩ (fun j σ' ys' H' _ h=>aW.of (h.2.1 _ _ hes)) ?_ ?_
  ·rintro j z σ' ys' H2 hz' ⟨⟨x2,y2,rfl⟩,s2,rfl,hD2⟩
   have jl:=(Ux.mp hz').1
   x_go
   refine⟨hD2,?_,⟨_,_,rfl⟩,fun c o e=>?_,?_,ao⟩
   ·rw[Uz,UH,sizeLine_eq];omega
   ·rw[av (ak e nD)];exact s2 _ _ e
   ·rw[WE,hz',<- U5];rfl
  ·rintro σ' ys' H2 ⟨⟨x2,y2,rfl⟩,s2,rfl,hD2⟩
   rw[Va]at hD2
   refine⟨⟨_,_,rfl⟩,s2,by rw[Va,tV hX],?_⟩
   rw[Va];exact hD2
 ·rintro σ' ys H1 ⟨⟨x1,y1,rfl⟩,s1,rfl,hD⟩
  rw[Uv,al,Va]at hD
  exact q D H1 nD hD s1
theorem za {f:Addr}{fd:FuncData}(F:fz K "rows_at" "rows_at" nC f fd) (mF:mg "rows_at" = some (.ref f)) (bF:Binds K fd Dn []) (T:Bl mg)  : K3 P w K mg base:=by
 refine bJ.of F mF bF An (fun vs H Q E h=>?_) (fun _ A _ _ H vs Q E hr h=>?_)
 ·obtain⟨h,bs,r,rfl,_⟩:=h;rfl
 obtain⟨h,bs,r,rfl,hh,q⟩:=h
 refine⟨_,(ay (aN (C_ (aL qb (pv 1) (aV aZ rfl T.len cj (aa (pv 0) ah af)) (aU _)) (aY bG (pv 0) (pv 1) (fun _ _=>rfl)) (cy ah)))),?_⟩
 rw[y_]
 x_go
 refine bM (fun c=>?_) (fun c=>?_)
 ·rw[Uv]at c
  have hb:=Uy (show r<bs.length by omega)
  x_go
  refine cJ (aW.of hh) (gf hb) ?_
  exact q _ H (aO.refl H) (.inl hb)
 ·rw[Uv]at c
  x_go
  exact⟨by decide,fun e ne=>q e _ (aI ne _) (.inr ⟨by omega,ao⟩)⟩
theorem DL {f:Addr}{fd:FuncData}(F:fz K "found" "found" oZ f fd) (mF:mg "found" = some (.ref f)) (bF:Binds K fd x_ []) (T:Bl mg) (bq:K3 P w K mg base) (pK:bJ P w K mg base "looked" r_ 1 (uI K)) (bA:LO P w K mg base):bJ P w K mg base "found" x_ 5 (yJ K):=by
 refine bJ.of F mF bF gT (fun vs H Q E h=>?_) (fun _ A _ _ H vs Q E hr h=>?_)
 ·obtain⟨y,w,R,k,X,rfl,_⟩:=h;rfl
 obtain⟨y,w,R,k,X,rfl,⟨h0,hy,⟨bs0,hh0,hP0⟩,hen,sz⟩,hdk,r1,r2,q⟩:=h
 have hu1:=Eu hr
 refine⟨_,(ai (eO (pv 0) (dM rfl (aK (aC (i:=2) gT.nd rfl (Or.inl rfl)) (aK (aC (i:=3) gT.nd rfl (Or.inl rfl)) (aK (aC (i:=4) gT.nd rfl (Or.inl rfl)) b6)))))
   (ai (aG (i:=5) gT.nd rfl (Or.inl rfl) (bP bq hr.mo (aa (pv 4) (aa (bP bA hr.mo (aa (pv 1) (aa (pv 3) ah af) af)) ah aQ) af)))
   (ai (eO (bP pK hr.mo (aa (b7 rfl (cF (sc:=aq oZ) (N:=JI) (vs:=["row"]) (fs:=[]) (js:=[]) (by z_go) rfl rfl) (bu (pv 5)) (fun _ _ _ _=>aC (i:=0) (show(["row"]:List Str).Nodup by z_go) rfl (Or.inl rfl)) (fun _ _ _ _=>gu) (fun _ _ _ _=>(b7 rfl (yZ (N:=["row"]) (vs:=["entry"]) (fs:=[]) (js:=[]) rfl rfl (by kernel_rfl)) (mw (K:=K) rfl (pv 0)) (fun _ _ _ _=>aC (i:=0) (show(["entry"]:List Str).Nodup by z_go) rfl (Or.inl rfl)) (fun _ _ _ _=>gu) (fun _ _ _ _=>(aY (gG (K:=K) rfl) (pv 0) aj (fun _ _=>rfl)))))) (aa (pv 1) ah af) dN)) (dM rfl (aK (aC (i:=6) gT.nd rfl (Or.inl rfl)) (aK (aC (i:=7) gT.nd rfl (Or.inl rfl)) b6))))
   (ai (bY (Dy (D_ (pv 6))) (ay (aN (bW (aa jZ (aa (pv 7) ah af) aB)))) bh)
   (ay (aN (bW (aa (AK hu1 (dg (qD rfl) rfl T.dict AH (aa (aY bG (pv 5) (aJ iQ (pv 7) aj) (fun _ _=>rfl)) ah aM)) (pv 1) (fun _ _=>rfl)) (aa (pv 7) ah af) aM)))))))),?_⟩
 rw[DR]
 x_go
 refine⟨y,_,rfl,iM.of hy,rfl,_,_,rfl,_,_,rfl,_,_,rfl,rfl,?_⟩
 x_go
 refine⟨k,R,rfl,r1,r2,?_⟩
 have rb:=bU (k:=k) r1
 obtain⟨r,hr0⟩ : ∃r:Nat,az k R =(r:Int):=⟨(az k R).toNat,by omega⟩
 rw[hr0]
 x_go
 have bl0:=hP0.1
 have szl:=sz.1
 have own_at:∀(o:Addr) (H1:Hp),aO H H1->(bs0[r]? = some o \/(bs0.length<=r/\H1 o=some (.lst [])))->∃as:List Addr,H1 o=some (.lst (as.map V.ref))/\P1 (R1 (fun _=>True) H1) as (bw X k R):=fun o H1 s1 ho=>by
  have ex:(az k R).toNat=r:=by omega
  rcases ho with ho|⟨ho,h1⟩
  ·obtain⟨rows,hx,_,as,h2,h3⟩:=hP0.get ho
   refine⟨as,s1 _ _ h2,?_⟩
   unfold bw
   rw[ex,hx]
   exact h3.imp fun a es t=>t.keep fun _ _ _ e=>s1 _ _ e
  ·refine⟨[],h1,?_⟩
   unfold bw
   rw[ex,UT (by omega)]
   exact P1.nil
 have own_in:bw X k R=[]\/bw X k R∈X:=by
  unfold bw
  cases e:X[(az k R).toNat]? with
  | none=>exact .inl rfl
  | some x=>exact .inr (UA e)
 have own_ok:(bw X k R).length<=131/\∀es∈bw X k R,es.length<=9/\(∀v∈es,En H v)/\((aH H es).map (·.1)).Nodup:=by
  rcases own_in with e|e
  ·rw[e];exact⟨by simp,fun es he=>by cases he⟩
  ·exact⟨(sz.2 _ e).1,fun es he=>⟨(sz.2 _ e).2 es he,hen _ e es he,hdk _ e es he⟩⟩
 refine⟨h0,bs0,r,rfl,hh0,fun o H1 s1 ho=>?_⟩
 obtain⟨as,ho1,hA⟩:=own_at o H1 s1 ho
 obtain⟨rl,hrow⟩:=own_ok
 generalize bw X k R=rows at hA rl hrow q
 have al:=hA.1
 x_go
 refine⟨o,rfl,⟨_,aW.of ho1⟩,fun D nD=>?_⟩
 refine bf (xs:=as.map V.ref) (fun i σ' ys H'=>(∃x,σ'=[x])/\aO H1 H'/\∃cs:List Addr,ys=cs.map V.ref/\H' D=some (.lst ys)/\(∀c∈cs,c≠D)/\Ls H' cs (qV ((au H rows).take i))) D ⟨⟨_,rfl⟩,aI nD _,[],rfl,ao,(fun _ h=>by cases h),trivial⟩ (fun i σ' ys H' _ h=>aW.of (h.2.1 _ _ ho1)) ?_ ?_
 ·rintro i x σ' ys H2 hx ⟨⟨x1,rfl⟩,s2,cs,rfl,hD,hcD,hC⟩
  obtain⟨a,ha,rfl⟩:=b9 hx
  obtain⟨es,hes,_,ha1⟩:=hA.get ha
  have il:=(Ux.mp ha).1
  obtain⟨el,hen2,_⟩:=hrow es (UA hes)
  have s12:=s1.trans s2
  have cl:=hC.len
  unfold qV au at cl
  rw[Uv,UH,Uv]at cl
  x_go
  refine⟨a,rfl,⟨_,aW.of (s2 _ _ ha1)⟩,fun D' nD'=>?_⟩
  have DD:D'≠D:=fun z=>by rw[z,hD]at nD';cases nD'
  refine bf (xs:=es) (fun j σ' ys H'=>(∃x,σ'=[x])/\aO H2 H'/\ys =((aH H es).take j).map (fun e=>V.int e.1)/\H' D'=some (.lst ys)) D' ⟨⟨_,rfl⟩,aI nD' _,rfl,ao⟩ (fun i σ' ys H' _ h=>aW.of (h.2.1 _ _ (s2 _ _ ha1))) ?_ ?_
  ·rintro j x σ' ys H3 hx ⟨⟨x2,rfl⟩,s3,rfl,hD'⟩
   obtain⟨t,et,ht,_⟩:=(hen2 x (UA hx)).pt
   have jl:=(Ux.mp hx).1
   have ht3:=s3 _ _ (s12 _ _ ht)
   have hxd:(aH H es)[j]? = some (eD H x):=by unfold aH;rw[UI,hx];rfl
   rw[et]
   x_go
   refine⟨hD',by rw[Uv,UH];exact aE (by omega),⟨_,rfl⟩,fun b o e=>by rw[av (ak e nD')];exact s3 _ _ e,?_,ao⟩
   rw[aX hxd,UB];rfl
  ·rintro σ' ys H3 ⟨⟨x2,rfl⟩,s3,rfl,hD'⟩
   rw[UW (by unfold aH;rw[Uv];exact UE _)]at hD'
   have hxr:(au H rows)[i]? = some (aH H es):=by unfold au;rw[UI,hes];rfl
   refine⟨s3 _ _ hD,by rw[Uv];exact aE (by omega),⟨_,rfl⟩,fun b o e=>by rw[av (ak e nD)];exact s3 _ _ (s2 _ _ e),cs ++ [D'],by rw[UB];rfl,ao,fun c hc=>?_,?_⟩
   ·rcases UG.mp hc with z|z
    ·exact hcD c z
    ·have e:c=D':=by simpa using z
     rw[e];exact DD
   ·rw[aX hxr]
    unfold qV
    rw[UB]
    refine Ls.snoc ?_ (hC.same fun c hc o e=>by rw[av (hcD c hc)];exact s3 _ _ e)
    rw[av DD,hD',Vo];rfl
 ·rintro σ' ys H2 ⟨⟨x1,rfl⟩,s2,cs,rfl,hD,hcD,hC⟩
  have rdl:(au H rows).length=rows.length:=Uv _
  rw[Uv,al,<- rdl,Va]at hC
  have s12:=s1.trans s2
  x_go
  refine⟨D,k,qV (au H rows),rfl,⟨cs,hD,hC⟩,by unfold qV;rw[Uv,rdl];omega,fun t1 H3 nt1 ht1 s3=>?_⟩
  rw[xM]at ht1
  have s13:=s12.trans s3
  cases hf:(iW k (au H rows)).1 with
  | none =>
   rw[hf]at q
   have ht2:H3 t1=some (.tup [.bl false,.int (iW k (au H rows)).2]):=by rw[ht1,hf];rfl
   refine⟨t1,_,rfl,iM.of ht2,rfl,_,_,rfl,_,_,rfl,rfl,?_⟩
   x_go
   refine⟨zs2,fun t nt=>?_⟩
   generalize hE:upd H3 t _=H4
   obtain⟨ht,s4⟩:=bg nt hE
   clear hE
   exact q t H4 ht (s13.trans s4)
  | some z =>
   rw[hf]at q
   obtain⟨i,rw',e1,e2,e3⟩:=CT hf
   rw[e1]at q
   have ht2:H3 t1=some (.tup [.bl true,.int ((i:Int)+1)]):=by rw[ht1,hf,e1];rfl
   refine⟨t1,_,rfl,iM.of ht2,rfl,_,_,rfl,_,_,rfl,rfl,?_⟩
   unfold au at e2
   rw[UI]at e2
   obtain⟨es,hes,rfl⟩:=WK.mp e2
   obtain⟨a,ha,_,ha1⟩:=hA.at' hes
   obtain⟨el,hen2,hnd⟩:=hrow es (UA hes)
   have ho3:=s3 _ _ (s2 _ _ ho1)
   have ha3:=s3 _ _ (s2 _ _ ha1)
   obtain⟨ts,ets⟩:=jg hen2
   x_go
   rw[show(i:Int)+1-1 =(i:Int) by omega]
   refine cJ (aW.of ho3) (gf ha) ?_
   x_go
   rw[ets]at ha3
   have tl:ts.length=es.length:=by rw[ets,Uv]
   refine⟨a,ts,(aH H es).map (fun e=>((Sum.inl e.1:Key),V.str e.2)),rfl,aW.of ha3,by omega,by unfold aH;rw[Uv,Uv];exact tl,fun j t p ej ep=>?_,fun d nd=>?_⟩
   ·have hv:es[j]? = some (.ref t):=by rw[ets,UI,ej];rfl
    obtain⟨t',et,ht',_⟩:=(hen2 _ (UA hv)).pt
    have ep2:p =((Sum.inl (eD H (.ref t)).1:Key),V.str (eD H (.ref t)).2):=by
     unfold aH at ep
     rw[UI,UI,hv]at ep
     simpa using ep.symm
    cases et
    rw[ep2]
    exact s13 _ _ ht'
   generalize hE:upd H3 d _=H4
   obtain⟨hd,s4⟩:=bg nd hE
   clear hE
   x_go
   have hg:=xQ.k (k:=Sum.inl k) hd
   rw[rq hnd e3]at hg
   refine⟨d,.str z,rfl,hg,?_⟩
   x_go
   refine⟨zs2,fun t nt=>?_⟩
   generalize hE:upd H4 t _=H5
   obtain⟨ht,s5⟩:=bg nt hE
   clear hE
   exact q t H5 ht ((s13.trans s4).trans s5)
theorem qU {f:Addr}{fd:FuncData}(F:fz K "unlike_rows" "unlike_rows" gc f fd) (mF:mg "unlike_rows" = some (.ref f)) (bF:Binds K fd AY []) (T:Bl mg)  : Km P w K mg base:=by
 refine bJ.of F mF bF qz (fun vs H Q E h=>?_) (fun _ A _ _ H vs Q E hr h=>?_)
 ·obtain⟨r,a,b,os,ns,rfl,_⟩:=h;rfl
 obtain⟨r,a,b,os,ns,rfl,⟨as,ha,al,hA⟩,⟨bs,hb,bl,hB⟩,oO,oN,r1,q⟩:=h
 have hu:=hr.units
 refine⟨_,(ay (aN (b7 rfl (cF (sc:=aq gc) (N:=AY) (vs:=["at", "row"]) (fs:=["old", "room"]) (js:=[1,0]) (by z_go) rfl rfl) (pD rfl T.enumerate (aa (pv 2) ah af)) (fun _ _ _ _=>oX (K:=K) (n:=2) rfl rfl (aK (aC (i:=0) (show(["at", "row", "old", "room"]:List Str).Nodup by z_go) rfl (Or.inl rfl)) (aK (aC (i:=1) (show(["at", "row", "old", "room"]:List Str).Nodup by z_go) rfl (Or.inl rfl)) b6))) (fun _ _ _ _=>vj (PW.pt (DI (aL yo (pv 0) (aV (yQ (K:=K) rfl) rfl T.len cj (aa (pv 2) ah af)) (aU _)) (Ac (aL (Ay (K:=K) rfl hu) (aY (qc (K:=K) rfl) (pv 2) (pv 0) (fun _ _=>rfl)) (pv 1) (aU _)))))) (fun _ _ _ _=>(bW (aa bQ (aa (pv 3) (aa (pv 0) (aa (pv 1) ah af) af) af) aB)))))),?_⟩
 rw[qY]
 x_go
 refine⟨b,rfl,⟨_,aW.of hb⟩,fun D nD=>?_⟩
 refine Bo (xs:=bs.map V.ref) (fun k σ' ys H'=>(∃x y,σ'=[x,y,some (.ref a),some (.int r)])/\aO H H'/\H' D=some (.lst ys)/\∃ss:List Addr,ys=ss.map V.ref/\ss.length<=k/\IB H H' b D ss (unl H r os ns k)) D ⟨⟨_,_,rfl⟩,aI nD _,ao,[],rfl,UE _,fun _ _=>P1.nil⟩ (fun k σ' ys H' _ h=>aW.of (h.2.1 _ _ hb)) ?_ ?_
 ·rintro k x σ' ys H1 t hx ⟨⟨x1,y1,rfl⟩,s1,hD,ss,rfl,sl,hP⟩ nt
  obtain⟨c,hc,rfl⟩:=b9 hx
  have kl:=(Ux.mp hc).1
  obtain⟨es,hes⟩ : ∃es,ns[k]? = some es:=⟨_,Uy (by omega)⟩
  have hce:=hB k c es hc hes
  have oes:=oN.2 es (UA hes)
  have nk:=oN.1
  generalize hE:upd H1 t _=H2
  obtain⟨ht,s2⟩:=bg nt hE
  clear hE
  have s02:=s1.trans s2
  have ha2:=s02 _ _ ha
  have hD2:=s2 _ _ hD
  have fin:iH H os es k=true->∀(s3:Addr) (H3 H4:Hp),aO H2 H3->H3 s3=none->upd H3 s3 (.tup [.str "row",.int r,.int k,.ref c])=H4->H4 D=some (.lst (ss.map V.ref))/\(ss.map V.ref).length<sizeLine/\(∃x y,[some (V.int k),some (.ref c),some (.ref a),some (.int r)]=[x,y,some (.ref a),some (.int r)])/\aO H (upd H4 D (.lst (ss.map V.ref ++ [.ref s3])))/\upd H4 D (.lst (ss.map V.ref ++ [.ref s3])) D=some (.lst (ss.map V.ref ++ [.ref s3]))/\∃ss':List Addr,ss.map V.ref ++ [.ref s3]=ss'.map V.ref/\ss'.length<=k+1/\IB H (upd H4 D (.lst (ss.map V.ref ++ [.ref s3]))) b D ss' (unl H r os ns (k+1)):=fun u s3 H3 H4 s23 n3 e=>by
   obtain⟨h3,s34⟩:=bg n3 e
   have s24:=s23.trans s34
   have s04:=s02.trans s24
   have hD4:=s24 _ _ hD2
   have n3D:s3≠D:=fun z=>by
    rw[z,s23 _ _ hD2]at n3;cases n3
   refine⟨hD4,by rw[Uv];exact aE (by omega),⟨_,_,rfl⟩,fun x o e=>by rw[av (ak e nD)];exact s04 _ _ e,ao,ss ++ [s3],by rw[UB];rfl,by rw[Uz];exact Nat.add_le_add_right sl 1,fun D0 ok0=>?_⟩
   rw[iw,fF hes u]
   have n30:=ok0.new (s02.trans s23) n3 n3D
   have cD:c≠D:=ak hce nD
   refine((hP D0 ok0).imp fun s st h=>h.same (cT (cT (s2.trans s24)))).snoc ⟨c,by rw[kh n3D n30];exact h3,?_,r1,by omega,oes.1,fun v hv=>?_⟩
   ·rw[kh cD (ok0.row hb (UA hc) cD)];exact s04 _ _ hce
   ·obtain⟨t',k',z',rfl,h1,h2⟩:=oes.2 v hv
    have tD:t'≠D:=ak h1 nD
    exact⟨t',k',z',rfl,by rw[kh tD (ok0.tup h1 tD)];exact s04 _ _ h1,h2⟩
  refine⟨t,_,rfl,iM.of ht,rfl,_,_,rfl,_,_,rfl,rfl,?_⟩
  x_go
  rw[Uv]
  refine bM (fun g=>?_) (fun g=>?_)
  ·have u:iH H os es k=true:=by
    unfold iH
    rw[UT (by omega)]
   x_go
   refine⟨zs4,fun s3 n3=>?_⟩
   exact fin u s3 H2 _ (fun _ _ e=>e) n3 rfl
  ·have ko:k<os.length:=by omega
   obtain⟨c2,hc2⟩ : ∃c2,as[k]? = some c2:=⟨_,Uy (by omega)⟩
   obtain⟨o,ho⟩ : ∃o,os[k]? = some o:=⟨_,Uy ko⟩
   have hco:=hA k c2 o hc2 ho
   have oo:=oO.2 o (UA ho)
   have kt:∀t xs,H t=some (.tup xs)->H2 t=some (.tup xs):=fun _ _ e=>s02 _ _ e
   x_go
   refine cJ (aW.of ha2) (gf hc2) ?_
   x_go
   have g1:=Cv (K:=K) (s02 _ _ hco) fun v hv=>(oo.2 v hv).keep kt
   have g2:=Cv (K:=K) (s02 _ _ hce) fun v hv=>(oes.2 v hv).keep kt
   refine⟨_,_,g1.1,g2.1,g1.shaped (by omega),g2.shaped (by omega),?_⟩
   rw[ED,bZ kt oo.2,bZ kt oes.2]
   have ub:iH H os es k = !decide (aH H o=aH H es):=by unfold iH;rw[ho]
   by_cases e:aH H o=aH H es
   ·rw[U8 e]at ub ⊢
    x_go
    refine⟨⟨_,_,rfl⟩,s02,hD2,ss,rfl,by omega,fun D0 ok0=>?_⟩
    rw[m5 hes ub]
    exact(hP D0 ok0).imp fun s st h=>h.same (cT (cT s2))
   ·rw[U6 e]at ub ⊢
    x_go
    refine⟨zs4,fun s3 n3=>?_⟩
    exact fin ub s3 H2 _ (fun _ _ e=>e) n3 rfl
 ·rintro σ' ys H1 ⟨⟨x1,y1,rfl⟩,s1,hD,ss,rfl,sl,hP⟩
  rw[Uv,bl]at hP
  exact q D ss H1 nD hD hP s1
theorem Bb {f:Addr}{fd:FuncData}(F:fz K "onward" "onward" qw f fd) (mF:mg "onward" = some (.ref f)) (bF:Binds K fd AY []) (T:Bl mg) (dh:Km P w K mg base):P4 P w K mg base:=by
 refine bJ.of F mF bF tT (fun vs H Q E h=>?_) (fun _ A _ _ H vs Q E hr h=>?_)
 ·obtain⟨r,a,b,os,ns,rfl,_⟩:=h;rfl
 obtain⟨r,a,b,os,ns,rfl,hO,hN,oO,oN,r1,q⟩:=h
 refine⟨_,(ai (aG (i:=3) tT.nd rfl (Or.inl rfl) (bP dh hr.mo (aa (pv 0) (aa (pv 1) (aa (pv 2) ah af) af) af)))
   (ai (je (bY (aL xR (aV aZ rfl T.len cj (aa (pv 1) ah af)) (aV aZ rfl T.len cj (aa (pv 2) ah af)) (aU _)) (ay (iK (oB VX VR VS dQ (pv 3) (aa (bW (aa bQ (aa (pv 0) (aa (aV aZ rfl T.len cj (aa (pv 2) ah af)) ah aQ) af) aB)) ah iY)))) bh))
   (ay (aN (pv 3))))),?_⟩
 rw[Bw]
 x_go
 refine⟨r,a,b,os,ns,rfl,hO,hN,oO,oN,r1,fun D ss H1 nD hD hP s1=>?_⟩
 obtain⟨as,ha,al,_⟩:=hO
 obtain⟨bs,hb,bl,_⟩:=id hN
 have ha1:=s1 _ _ ha
 have hb1:=s1 _ _ hb
 have nk:=oN.1
 have ls:ss.length<=130:=by rw[hP.plain.1];exact UP (ku _) nk
 x_go
 refine⟨fun σ H2=>∃ss':List Addr,σ=[some (.int r),some (.ref a),some (.ref b),some (.ref D)]/\H2 D=some (.lst (ss'.map V.ref))/\IB H H2 b D ss' (d_ H r os ns)/\aO H H2,?_,?_⟩
 ·x_go
  rw[Uv,Uv]
  refine bM (fun g=>?_) (fun g=>?_)
  ·x_go
   refine⟨.inl ⟨rfl,_,aW.of hD⟩,?_⟩
   x_go
   rw[Uv]
   refine⟨zs3,fun s3 n3=>?_⟩
   generalize hE:upd H1 s3 _=H2
   obtain⟨h3,s2⟩:=bg n3 hE
   clear hE
   have n3D:s3≠D:=fun z=>by rw[z,hD]at n3;cases n3
   refine⟨D,_,_,rfl,rfl,s2 _ _ hD,by rw[Uv];exact aE (by omega),?_⟩
   x_go
   refine⟨ss ++ [s3],rfl,by rw[ao,UB];rfl,fun D0 ok0=>?_,fun x o e=>by rw[av (ak e nD)];exact s2 _ _ (s1 _ _ e)⟩
   rw[iw]
   unfold d_
   rw[UN (by omega)]
   refine((hP D0 ok0).imp fun s st h=>h.same (cT (cT s2))).snoc ⟨?_,r1,nk⟩
   rw[kh n3D (ok0.new s1 n3 n3D),h3,bl]
  ·x_go
   refine⟨ss,rfl,hD,?_,s1⟩
   unfold d_
   rw[UM (by omega),U7]
   exact hP
 ·rintro σ H2 ⟨ss',rfl,hD2,hP2,s2⟩
  x_go
  exact q D ss' _ nD hD2 hP2 s2
theorem w5 {f:Addr}{fd:FuncData}(F:fz K "backward" "backward" kN f fd) (mF:mg "backward" = some (.ref f)) (bF:Binds K fd AY []) (T:Bl mg) (dh:Km P w K mg base):KZ P w K mg base:=by
 refine bJ.of F mF bF yg (fun vs H Q E h=>?_) (fun _ A _ _ H vs Q E hr h=>?_)
 ·obtain⟨r,a,b,os,ns,rfl,_⟩:=h;rfl
 obtain⟨r,a,b,os,ns,rfl,hO,hN,oO,oN,r1,q⟩:=h
 refine⟨_,(ay (aN (EH (bP dh hr.mo (aa (pv 0) (aa (pv 1) (aa (pv 2) ah af) af) af))))),?_⟩
 rw[wj]
 x_go
 refine⟨r,a,b,os,ns,rfl,hO,hN,oO,oN,r1,fun D ss H1 nD hD hP s1=>?_⟩
 x_go
 refine⟨D,_,rfl,aW.of hD,fun L nL=>?_⟩
 generalize hE:upd H1 L _=H2
 obtain⟨hL,s2⟩:=bg nL hE
 clear hE
 have nLD:L≠D:=fun z=>by rw[z,hD]at nL;cases nL
 refine q L ss.reverse H2 (s1.free nL) (by rw[hL,XQ]) (fun D0 ok0=>?_) (s1.trans s2)
 have hP2:P1 (lM (hid D0 (hid L H2))) ss (unl H r os ns ns.length):=by
  rcases ok0 with e|ok0
  ·refine hP.plain.imp fun s st h=>h.same fun x o e1=>?_
   have e1:=fJ _ _ e1
   have xL:x≠L:=ak e1 nL
   rw[kh xL (by rw[e];exact xL)];exact s2 _ _ e1
  ·refine(hP D0 (.inr ok0)).imp fun s st h=>h.same fun x o e1=>?_
   by_cases c:x=D0
   ·rw[c]at e1
    unfold hid at e1
    rw[UN rfl]at e1;cases e1
   ·have e1:=fJ _ _ (fJ _ _ e1)
    rw[kh (ak e1 nL) c];exact s2 _ _ e1
 refine⟨by rw[Vg,Vg];exact hP2.1,fun i x y e1 e2=>?_⟩
 have il:=(Ux.mp e1).1
 rw[Vg]at il
 rw[List.getElem?_reverse (by omega)]at e1
 rw[List.getElem?_reverse (by rw[<- hP2.1];omega),<- hP2.1]at e2
 exact hP2.2 _ x y e1 e2
theorem vq {f:Addr}{fd:FuncData}(F:fz K "splitting" "splitting" gr f fd) (mF:mg "splitting" = some (.ref f)) (bF:Binds K fd jx []) (T:Bl mg) (kQ:bJ P w K mg base "split_of" iX 3 (nY K)) (a_:LY P w K mg base) (eL:P4 P w K mg base) (bq:K3 P w K mg base) (bC:L_ P w K mg base) (bA:LO P w K mg base):bJ P w K mg base "splitting" jx 5 (lT K):=by
 refine bJ.of F mF bF bT (fun vs H Q E h=>?_) (fun _ A _ _ H vs Q E hr h=>?_)
 ·obtain⟨y,w,R,X,rfl,_⟩:=h;rfl
 obtain⟨y,w,R,X,rfl,hY,xl,w1,w2,R1,R2,ok,sz,q⟩:=h
 obtain⟨h,hy,⟨bs,hh,hbs⟩,en,szx⟩:=hY
 have t:=iU R1
 have eR:((R+1:Nat):Int) =(R:Int)+1:=by omega
 refine⟨_,(ai (eO (pv 0) (dM rfl (aK (aC (i:=1) bT.nd rfl (Or.inl rfl)) (aK (aC (i:=2) bT.nd rfl (Or.inr rfl)) (aK (aC (i:=3) bT.nd rfl (Or.inl rfl)) b6)))))
   (ai (eO (bP kQ hr.mo (aa (pv 2) ah af)) (dM rfl (aK (aC (i:=4) bT.nd rfl (Or.inr rfl)) (aK (aC (i:=5) bT.nd rfl (Or.inr rfl)) b6))))
   (ai (aG (i:=6) bT.nd rfl (Or.inl rfl) (bP a_ hr.mo (aa (bP bq hr.mo (aa (pv 3) (aa (pv 4) ah af) af)) ah aQ)))
   (ai (eN (i:=7) bT.nd rfl rfl rfl (cF (sc:=aq gr) (N:=P8) (vs:=["entry"]) (fs:=["rooms", "new"]) (js:=[2,5]) (by z_go) rfl rfl) (bu (pv 6)) (fun _ _ _ _=>aC (i:=0) (show(["entry", "rooms", "new"]:List Str).Nodup by z_go) rfl (Or.inl rfl)) (fun _ _ _ _=>vj (aL dF (bP bA hr.mo (aa (aY (gG (K:=K) rfl) (pv 0) aj (fun _ _=>rfl)) (aa (aJ bB (pv 1) aj) ah br) aM)) (pv 2) (aU _))) (fun _ _ _ _=>(pv 0)))
   (ai (eN (i:=8) bT.nd rfl rfl rfl (cF (sc:=aq gr) (N:=P8) (vs:=["entry"]) (fs:=["rooms", "room"]) (js:=[2,4]) (by z_go) rfl rfl) (bu (pv 6)) (fun _ _ _ _=>aC (i:=0) (show(["entry", "rooms", "room"]:List Str).Nodup by z_go) rfl (Or.inl rfl)) (fun _ _ _ _=>vj (aL dF (bP bA hr.mo (aa (aY (gG (K:=K) rfl) (pv 0) aj (fun _ _=>rfl)) (aa (aJ bB (pv 1) aj) ah br) aM)) (pv 2) (aU _))) (fun _ _ _ _=>(pv 0)))
   (ai (aG (i:=9) bT.nd rfl (Or.inl rfl) (bP eL hr.mo (aa (pv 5) (aa (bP bq hr.mo (aa (pv 3) (aa (pv 5) ah af) af)) (aa (bP bC hr.mo (aa (pv 7) (aa (pv 1) ah af) af)) ah aQ) aQ) af)))
   (ai (iK (oB VX VR VS dQ (pv 9) (aa (bW (aa bQ (aa (aJ bB (pv 2) aj) ah br) aB)) ah iY)))
   (ay (aN (aJ fV (pv 9) (bP eL hr.mo (aa (pv 4) (aa (bP bq hr.mo (aa (pv 3) (aa (pv 4) ah af) af)) (aa (bP bC hr.mo (aa (pv 8) (aa (pv 1) ah af) af)) ah aQ) aQ) af)))))))))))),?_⟩
 rw[uX]
 x_go
 refine⟨y,_,rfl,iM.of hy,rfl,_,_,rfl,_,_,rfl,_,_,rfl,rfl,?_⟩
 x_go
 refine⟨(R:Int),rfl,by omega,by omega,fun pt npt=>?_⟩
 rw[<- t.1]
 generalize hE:upd H pt _=H1
 obtain⟨hpt,s1⟩:=bg npt hE
 clear hE
 refine⟨pt,_,rfl,iM.of hpt,rfl,_,_,rfl,_,_,rfl,rfl,?_⟩
 x_go
 refine⟨h,bs,tn R,rfl,s1 _ _ hh,fun o H2 s2 ho=>?_⟩
 have s02:=s1.trans s2
 have hO:=lG hbs s02 ho
 generalize eos:aT X (tn R)=os at hO ok sz q
 have enr:∀es∈os,∀v∈es,En H v:=fun es he=>(ok.2 es he).2
 x_go
 refine⟨o,os,rfl,hO,by omega,fun L H3 nL hL s3=>?_⟩
 have s03:=s02.trans s3
 x_go
 refine⟨L,rfl,⟨_,aW.of hL⟩,fun D nD=>?_⟩
 refine bf (xs:=os.flatten) (fun j σ' ys H'=>(∃x,σ'=[x,some (.int (R:Int)),some (.int (R:Int))])/\aO H3 H'/\ys =(os.flatten.take j).filter (fun v=>decide (az (eD H v).1 ((R+1:Nat):Int) =(R:Int)))/\H' D=some (.lst ys)) D ⟨⟨_,rfl⟩,aI nD _,rfl,ao⟩ (fun i σ' ys H' _ h=>aW.of (h.2.1 _ _ hL)) ?_ ?_
 ·rintro j x σ' ys Ha hx ⟨⟨z1,rfl⟩,sa,rfl,hD⟩
  have jl:=(Ux.mp hx).1
  obtain⟨es,he,hv⟩:=Vh.mp (UA hx)
  obtain⟨tt,rfl,htt,_⟩:=(enr es he x hv).pt
  have ht2:=(s03.trans sa) _ _ htt
  x_go
  refine⟨_,(R:Int)+1,rfl,by omega,by omega,?_⟩
  rw[<- eR]
  x_go
  refine bM (fun c=>?_) (fun c=>?_)
  ·x_go
   refine⟨hD,?_,⟨_,rfl⟩,fun b o e=>by rw[av (ak e nD)];exact sa _ _ e,?_,ao⟩
   ·refine aE (UP (UY _ _) ?_)
    rw[UH];omega
   ·rw[aX hx,VQ,V2,UN (by simpa using c)];rfl
  ·refine⟨⟨_,rfl⟩,sa,?_,hD⟩
   rw[aX hx,VQ,V2,UM (by simpa using c)]
   simp
 rintro σ' ys H4 ⟨⟨z1,rfl⟩,s4,rfl,hD⟩
 rw[Va]at hD
 have hD:H4 D=some (.lst (sM H os ((R+1:Nat):Int) R)):=hD
 have hL4:=s4 _ _ hL
 have s04:=s03.trans s4
 have gl:=Ea (H:=H) (X:=os) (R:=((R+1:Nat):Int)) (n:=(R:Int))
 have gen:=AZ (R:=((R+1:Nat):Int)) (n:=(R:Int)) enr
 generalize sM H os ((R+1:Nat):Int) R=gv at hD gl gen q
 clear z1
 x_go
 refine⟨L,rfl,⟨_,aW.of hL4⟩,fun D2 nD2=>?_⟩
 refine bf (xs:=os.flatten) (fun j σ' ys H'=>(∃x,σ'=[x,some (.int (R:Int)),some (.int (tn R:Int))])/\aO H4 H'/\ys =(os.flatten.take j).filter (fun v=>decide (az (eD H v).1 ((R+1:Nat):Int) =(tn R:Int)))/\H' D2=some (.lst ys)) D2 ⟨⟨_,rfl⟩,aI nD2 _,rfl,ao⟩ (fun i σ' ys H' _ h=>aW.of (h.2.1 _ _ hL4)) ?_ ?_
 ·rintro j x σ' ys Ha hx ⟨⟨z1,rfl⟩,sa,rfl,hD⟩
  have jl:=(Ux.mp hx).1
  obtain⟨es,he,hv⟩:=Vh.mp (UA hx)
  obtain⟨tt,rfl,htt,_⟩:=(enr es he x hv).pt
  have ht2:=(s04.trans sa) _ _ htt
  x_go
  refine⟨_,(R:Int)+1,rfl,by omega,by omega,?_⟩
  rw[<- eR]
  x_go
  refine bM (fun c=>?_) (fun c=>?_)
  ·x_go
   refine⟨hD,?_,⟨_,rfl⟩,fun b o e=>by rw[av (ak e nD2)];exact sa _ _ e,?_,ao⟩
   ·refine aE (UP (UY _ _) ?_)
    rw[UH];omega
   ·rw[aX hx,VQ,V2,UN (by simpa using c)];rfl
  ·refine⟨⟨_,rfl⟩,sa,?_,hD⟩
   rw[aX hx,VQ,V2,UM (by simpa using c)]
   simp
 rintro σ' ys H5 ⟨⟨z1,rfl⟩,s5,rfl,hD2⟩
 rw[Va]at hD2
 have hD2:H5 D2=some (.lst (sM H os ((R+1:Nat):Int) (tn R))):=hD2
 have s05:=s04.trans s5
 have sl:=Ea (H:=H) (X:=os) (R:=((R+1:Nat):Int)) (n:=(tn R:Int))
 have sen:=AZ (R:=((R+1:Nat):Int)) (n:=(tn R:Int)) enr
 generalize sM H os ((R+1:Nat):Int) (tn R)=sv at hD2 sl sen q
 clear z1
 have hD5:=s5 _ _ hD
 x_go
 refine⟨h,bs,R,rfl,s05 _ _ hh,fun o2 H6 s6 ho2=>?_⟩
 have s06:=s05.trans s6
 have hO2:=lG hbs s06 ho2
 rw[show aT X R=[] by unfold aT;rw[UT (by omega)];rfl]at hO2
 x_go
 refine⟨D,gv,w,rfl,s6 _ _ hD5,by omega,w1,by omega,fun l2 H7 nl2 hR s7=>?_⟩
 have s07:=s06.trans s7
 have kt7:∀t xs,H t=some (.tup xs)->H7 t=some (.tup xs):=fun _ _ e=>s07 _ _ e
 have okg:=q8 (H:=H7) w1 (by omega) (us:=gv) (by omega) fun v hv=>(gen v hv).keep kt7
 x_go
 refine⟨R,o2,l2,[],_,rfl,hO2.same s7,hR.rws,⟨by decide,fun _ h=>absurd h U3⟩,okg,by omega,fun D3 ss H8 nD3 hD3 hP s8=>?_⟩
 replace hP:=hP.plain
 rw[mJ,pA kt7 (fun _ h=>absurd h U3) fun es he v hv=>gen v (cL he hv)]at hP
 have s08:=s07.trans s8
 have nD30:=s07.free nD3
 have sln:ss.length<=130:=by
  rw[hP.1]
  refine UP j3 ?_
  have:=cS (s:=gv) w1
  omega
 x_go
 refine⟨.inl ⟨rfl,_,aW.of hD3⟩,?_⟩
 x_go
 refine⟨zs2,fun s3 n3=>?_⟩
 generalize hE:upd H8 s3 _=H9
 obtain⟨h3,s9⟩:=bg n3 hE
 clear hE
 have n3D:s3≠D3:=fun z=>by rw[z,hD3]at n3;cases n3
 refine⟨D3,_,_,rfl,rfl,s9 _ _ hD3,by rw[Uv];exact aE (by omega),?_⟩
 rw[show ss.map V.ref ++ [V.ref s3] =(ss ++ [s3]).map V.ref by rw[UB];rfl]
 generalize hE:upd H9 D3 _=HA
 have hPA:P1 (lM (hid D3 HA)) (ss ++ [s3]) (d_ H R [] (aD gv w) ++ [.rooms (R+1)]):=by
  rw[<- hE,iw]
  refine(hP.imp fun s st h=>h.same (cT s9)).snoc ⟨?_,by omega,by omega⟩
  rw[fL n3D,h3,eR]
 have hDA:HA D3=some (.lst ((ss ++ [s3]).map V.ref)):=by rw[<- hE,ao]
 have s0A:aO H HA:=fun x o e=>by rw[<- hE,av (ak e nD30)];exact s9 _ _ (s08 _ _ e)
 have hDA2:HA D2=some (.lst sv):=by
  have e2:=s8 _ _ (s7 _ _ (s6 _ _ hD2))
  rw[<- hE,av (fun z=>by rw[<- z,s7 _ _ (s6 _ _ hD2)]at nD3;cases nD3)]
  exact s9 _ _ e2
 clear hE hP hD3 s9 h3 n3
 x_go
 refine⟨h,bs,tn R,rfl,s0A _ _ hh,fun o3 HB sB ho3=>?_⟩
 have s0B:=s0A.trans sB
 have hO3:=lG hbs s0B ho3
 rw[eos]at hO3
 x_go
 refine⟨D2,sv,w,rfl,sB _ _ hDA2,by omega,w1,by omega,fun l3 HC nl3 hR3 sC=>?_⟩
 have s0C:=s0B.trans sC
 have ktC:∀t xs,H t=some (.tup xs)->HC t=some (.tup xs):=fun _ _ e=>s0C _ _ e
 have oks:=q8 (H:=HC) w1 (by omega) (us:=sv) (by omega) fun v hv=>(sen v hv).keep ktC
 x_go
 refine⟨tn R,o3,l3,os,_,rfl,hO3.same sC,hR3.rws,ok.same s0C,oks,by omega,fun D4 ss2 HD nD4 hD4 hP4 sD=>?_⟩
 replace hP4:=hP4.plain
 rw[mJ,pA ktC enr fun es he v hv=>sen v (cL he hv)]at hP4
 have sAD:=(sB.trans sC).trans sD
 have sl2:ss2.length<=130:=by
  rw[hP4.1]
  refine UP j3 ?_
  have:=cS (s:=sv) w1
  omega
 x_go
 refine⟨D3,D4,_,_,rfl,rfl,sAD _ _ hDA,hD4,UP (show _<=400 by rw[Uv,Uv,Uz];simp;omega) (by decide),fun L3 nL3=>?_⟩
 generalize hE:upd HD L3 _=HF
 obtain⟨hL3,sF⟩:=bg nL3 hE
 clear hE
 refine q L3 (ss ++ [s3]++ss2) HF ((s0A.trans sAD).free nL3) (by rw[hL3,UB (l₁:=ss ++ [s3])]) ?_ ((s0A.trans sAD).trans sF)
 have up:∀{s st},lM HD s st->lM (hid L3 HF) s st:=fun h=>h.same fun x o e=>by rw[fL (ak e nL3)];exact sF _ _ e
 unfold nq
 have e1:d_ H R [] (aD gv w)++bV.rooms (R+1)::d_ H (tn R) os (aD sv w) =(d_ H R [] (aD gv w) ++ [bV.rooms (R+1)])++d_ H (tn R) os (aD sv w):=by rw[U5];rfl
 rw[e1]
 exact(hPA.imp fun s st h=>up ((h.same fJ).same sAD)).app (hP4.imp fun s st h=>up (h.same fJ))
theorem zj {f:Addr}{fd:FuncData}(F:fz K "joining" "joining" mX f fd) (mF:mg "joining" = some (.ref f)) (bF:Binds K fd jx []) (T:Bl mg) (jU:bJ P w K mg base "joined_of" iX 3 (lZ K)) (fU:KZ P w K mg base) (bq:K3 P w K mg base) (bC:L_ P w K mg base) (a_:LY P w K mg base):bJ P w K mg base "joining" jx 4 (qH K):=by
 refine bJ.of F mF bF dz (fun vs H Q E h=>?_) (fun _ A _ _ H vs Q E hr h=>?_)
 ·obtain⟨y,w,R,X,rfl,_⟩:=h;rfl
 obtain⟨y,w,R,X,rfl,hY,w1,w2,R1,R2,ok,ok2,sz,sz2,nd,q⟩:=h
 obtain⟨h,hy,⟨bs,hh,hbs⟩,en,szx⟩:=hY
 have t:=iU R1
 have eR:((R+1:Nat):Int)-1 =(R:Int):=by omega
 refine⟨_,(ai (eO (pv 0) (dM rfl (aK (aC (i:=1) dz.nd rfl (Or.inl rfl)) (aK (aC (i:=2) dz.nd rfl (Or.inl rfl)) (aK (aC (i:=3) dz.nd rfl (Or.inl rfl)) b6)))))
   (ai (bY (aL dF (pv 2) aj (aU _)) (ay Aw) bh)
   (ai (eO (bP jU hr.mo (aa (pv 2) ah af)) (dM rfl (aK (aC (i:=4) dz.nd rfl (Or.inl rfl)) (aK (aC (i:=5) dz.nd rfl (Or.inl rfl)) b6))))
   (ai (aG (i:=6) dz.nd rfl (Or.inl rfl) (aV kR rfl T.sorted iV (aa (aJ fV (bP a_ hr.mo (aa (bP bq hr.mo (aa (pv 3) (aa (pv 5) ah af) af)) ah aQ)) (bP a_ hr.mo (aa (bP bq hr.mo (aa (pv 3) (aa (pv 4) ah af) af)) ah aQ))) ah br)))
   (ai (aG (i:=7) dz.nd rfl (Or.inl rfl) (bP fU hr.mo (aa (pv 5) (aa (bP bq hr.mo (aa (pv 3) (aa (pv 5) ah af) af)) (aa (bP bC hr.mo (aa (pv 6) (aa (pv 1) ah af) af)) ah aQ) aQ) af)))
   (ay (aN (aJ fV (pv 7) (cy (aa (bW (aa bQ (aa (aJ iQ (pv 2) aj) ah br) aB)) (aa (bW (aa bQ (aa (pv 4) (aa aj ah aB) af) aB)) ah iY) iY)))))))))),?_⟩
 rw[zM]
 x_go
 refine⟨y,_,rfl,iM.of hy,rfl,_,_,rfl,_,_,rfl,_,_,rfl,rfl,?_⟩
 x_go
 refine bM (fun c=>absurd c (by omega)) (fun _=>?_)
 x_go
 refine⟨((R+1:Nat):Int),rfl,by omega,by omega,fun c=>absurd c (by omega),fun _ pt npt=>?_⟩
 rw[eR,<- t.1]
 generalize hE:upd H pt _=H1
 obtain⟨hpt,s1⟩:=bg npt hE
 clear hE
 refine⟨pt,_,rfl,iM.of hpt,rfl,_,_,rfl,_,_,rfl,rfl,?_⟩
 x_go
 refine⟨h,bs,tn R,rfl,s1 _ _ hh,fun o H2 s2 ho=>?_⟩
 have s02:=s1.trans s2
 have hO:=lG hbs s02 ho
 generalize eos:aT X (tn R)=os at hO ok sz nd q
 have enr:∀es∈os,∀v∈es,En H v:=fun es he=>(ok.2 es he).2
 x_go
 refine⟨o,os,rfl,hO,by omega,fun L H3 nL hL s3=>?_⟩
 have s03:=s02.trans s3
 x_go
 refine⟨h,bs,R,rfl,s03 _ _ hh,fun o2 H4 s4 ho2=>?_⟩
 have s04:=s03.trans s4
 have hO2:=lG hbs s04 ho2
 generalize aT X R=os2 at hO2 ok2 sz2 nd q
 have enr2:∀es∈os2,∀v∈es,En H v:=fun es he=>(ok2.2 es he).2
 x_go
 refine⟨o2,os2,rfl,hO2,by omega,fun L2 H5 nL2 hL2 s5=>?_⟩
 have s05:=s04.trans s5
 have enf:∀v∈os.flatten++os2.flatten,En H v:=fun v hv=>by
  rcases UG.mp hv with hv|hv
  ·obtain⟨es,he,hm⟩:=Vh.mp hv
   exact enr es he v hm
  ·obtain⟨es,he,hm⟩:=Vh.mp hv
   exact enr2 es he v hm
 x_go
 refine⟨L,L2,_,_,rfl,rfl,(s4.trans s5) _ _ hL,hL2,UP (show _<=200 by omega) (by decide),fun L3 nL3=>?_⟩
 have fl:(os.flatten++os2.flatten).length<=60:=by rw[Uz];omega
 generalize os.flatten++os2.flatten=ff at nd enf q fl
 generalize hE:upd H5 L3 _=H6
 obtain⟨hL3,s6⟩:=bg nL3 hE
 clear hE
 have s06:=s05.trans s6
 obtain⟨ts,rfl⟩:=jg enf
 have kt6:∀t xs,H t=some (.tup xs)->H6 t=some (.tup xs):=fun _ _ e=>s06 _ _ e
 rw[Uv]at fl
 have nd6:(ts.map (kE H6)).Nodup:=by
  rw[<- fZ,bZ kt6 enf];exact nd
 x_go
 refine⟨L3,ts,kE H6,rfl,aW.of hL3,by omega,fun u hu=>?_,zh nd6,fun us l p1 p2 nl=>?_⟩
 ·obtain⟨t',et,ht',_⟩:=((enf (.ref u) (UC.mpr ⟨u,hu,rfl⟩)).keep kt6).pt
  cases et
  exact⟨_,ht'⟩
 generalize hE:upd H6 l _=H7
 obtain⟨hl,s7⟩:=bg nl hE
 clear hE
 have s07:=s06.trans s7
 have ul:us.length<=110:=by rw[p1.length_eq];omega
 have enu:∀v∈us.map V.ref,En H v:=fun v hv=>by
  obtain⟨u,hu,rfl⟩:=UC.mp hv
  exact enf _ (UC.mpr ⟨u,p1.mem_iff.mp hu,rfl⟩)
 have pw:(aH H (us.map V.ref)).Pairwise fun a b=>a.1<b.1:=by
  rw[<- bZ kt6 enu]
  have ndu:(us.map (kE H6)).Nodup:=(p1.map (kE H6)).nodup_iff.mpr nd6
  have p3:(us.map (kE H6)).Pairwise (· <= ·):=Ve.mpr p2
  have p4:=xZ p3 ndu
  rw[<- fZ]at p4
  exact Ve.mp p4
 x_go
 refine⟨h,bs,tn R,rfl,s07 _ _ hh,fun o3 H8 s8 ho3=>?_⟩
 have s08:=s07.trans s8
 have hO3:=lG hbs s08 ho3
 rw[eos]at hO3
 x_go
 refine⟨l,us.map V.ref,w,rfl,s8 _ _ hl,by rw[Uv];omega,w1,by omega,fun l2 H9 nl2 hR s9=>?_⟩
 have s09:=s08.trans s9
 have kt9:∀t xs,H t=some (.tup xs)->H9 t=some (.tup xs):=fun _ _ e=>s09 _ _ e
 have okb:=q8 (H:=H9) w1 (by omega) (us:=us.map V.ref) (by rw[Uv];omega) fun v hv=>(enu v hv).keep kt9
 x_go
 refine⟨tn R,o3,l2,os,_,rfl,hO3.same s9,hR.rws,ok.same s09,okb,by omega,fun D ss HA nD hD hP sA=>?_⟩
 replace hP:=hP.plain
 rw[mJ,jG kt9 enr fun es he v hv=>enu v (cL he hv)]at hP
 have s0A:=s09.trans sA
 have sln:ss.length<=130:=by
  rw[hP.1,Vg]
  refine UP (ku _) ?_
  have:=cS (s:=us.map V.ref) w1
  rw[Uv]at this
  omega
 x_go
 refine⟨zs2,fun s3 n3=>?_⟩
 generalize hE:upd HA s3 _=HB
 obtain⟨h3,sB⟩:=bg n3 hE
 clear hE
 rw[eR]at h3
 x_go
 refine⟨zs3,fun s5 n5=>?_⟩
 generalize hE:upd HB s5 _=HC
 obtain⟨h5,sC⟩:=bg n5 hE
 clear hE
 x_go
 refine⟨zs2,fun L5 nL5=>?_⟩
 generalize hE:upd HC L5 _=HD
 obtain⟨hL5,sD⟩:=bg nL5 hE
 clear hE
 have sAD:=(sB.trans sC).trans sD
 x_go
 refine⟨D,L5,_,_,rfl,rfl,sAD _ _ hD,hL5,UP (show _<=400 by rw[Uv];simp;omega) (by decide),fun L6 nL6=>?_⟩
 generalize hE:upd HD L6 _=HF
 obtain⟨hL6,sF⟩:=bg nL6 hE
 clear hE
 refine q L6 (ss ++ [s3,s5]) (us.map V.ref) HF ((s0A.trans sAD).free nL6) (by rw[hL6,UB];rfl) (p1.map V.ref) pw ?_ ((s0A.trans sAD).trans sF)
 have up:∀{s st},lM HD s st->lM (hid L6 HF) s st:=fun h=>h.same fun x o e=>by rw[fL (ak e nL6)];exact sF _ _ e
 unfold nF
 refine(hP.imp fun s st h=>up ((h.same fJ).same sAD)).app ((P1.one (up (st:=.rooms R) ⟨(sC.trans sD) _ _ h3,by omega,by omega⟩)).snoc (up (st:=.cut R 0) ⟨sD _ _ h5,by omega,by omega⟩))
theorem Ad {f:Addr}{fd:FuncData}(F:fz K "putting" "putting" nI f fd) (mF:mg "putting" = some (.ref f)) (bF:Binds K fd GW []) (T:Bl mg) (bA:LO P w K mg base) (bq:K3 P w K mg base) (fU:KZ P w K mg base) (bC:L_ P w K mg base) (fq:JC P w K mg base):bJ P w K mg base "putting" GW 5 (pZ K):=by
 refine bJ.of F mF bF eY (fun vs H Q E h=>?_) (fun _ A _ _ H vs Q E hr h=>?_)
 ·obtain⟨y,w,R,X,k,z,rfl,_⟩:=h;rfl
 obtain⟨y,w,R,X,k,z,rfl,hY,kk,zz,w1,w2,R1,R2,ok,sz,nd,q⟩:=h
 obtain⟨h,hy,⟨bs,hh,hbs⟩,en,szx⟩:=hY
 have rb:=bU (k:=k) (R:=(R:Int)) (by omega)
 obtain⟨r,hr0⟩ : ∃r:Nat,az k R =(r:Int):=⟨(az k R).toNat,by omega⟩
 have er:(az k R).toNat=r:=by omega
 refine⟨_,(ai (eO (pv 0) (dM rfl (aK (aC (i:=3) eY.nd rfl (Or.inl rfl)) (aK (aC (i:=4) eY.nd rfl (Or.inl rfl)) (aK (aC (i:=5) eY.nd rfl (Or.inl rfl)) b6)))))
   (ai (aG (i:=6) eY.nd rfl (Or.inl rfl) (bP bA hr.mo (aa (pv 1) (aa (pv 4) ah af) af)))
   (ai (aG (i:=7) eY.nd rfl (Or.inl rfl) (bP bq hr.mo (aa (pv 5) (aa (pv 6) ah af) af)))
   (ai (aG (i:=8) eY.nd rfl (Or.inl rfl) (aV kR rfl T.sorted iV (aa (aJ fV (bP fq hr.mo (aa (pv 7) (aa (pv 1) ah af) af)) (cy (aa (bW (aa (pv 1) (aa (pv 2) ah af) af)) ah iY))) ah br)))
   (ay (aN (bP fU hr.mo (aa (pv 6) (aa (pv 7) (aa (bP bC hr.mo (aa (pv 8) (aa (pv 3) ah af) af)) ah aQ) af) af)))))))),?_⟩
 rw[zX]
 x_go
 refine⟨y,_,rfl,iM.of hy,rfl,_,_,rfl,_,_,rfl,_,_,rfl,rfl,?_⟩
 x_go
 refine⟨k,R,rfl,by omega,by omega,?_⟩
 rw[hr0]
 x_go
 refine⟨h,bs,r,rfl,hh,fun o H1 s1 ho=>?_⟩
 have hO:=A2 hbs hr0 s1 ho
 rw[er]at q
 generalize bw X k R=rows at hO ok sz nd q
 have enr:∀es∈rows,∀v∈es,En H v:=fun es he=>(ok.2 es he).2
 x_go
 refine⟨o,rows,k,rfl,hO,by omega,fun es he v hv=>(enr es he v hv).keep fun _ _ e=>s1 _ _ e,fun L H2 nL hL s2=>?_⟩
 have s02:=s1.trans s2
 have eo:fS H1 rows k=fS H rows k:=XM fun v hv=>by
  obtain⟨es,he,hm⟩:=Vh.mp hv
  rw[(enr es he v hm).eD fun _ _ e=>s1 _ _ e]
 rw[eo]at hL
 have oen:=vt (k:=k) enr
 have one:=Jo (H:=H) (X:=rows) (k:=k)
 have ol:=AM (H:=H) (X:=rows) (k:=k)
 have ond:((aH H (fS H rows k)).map (·.1)).Nodup:=by
  refine List.Nodup.sublist ?_ nd
  unfold aH
  exact(List.filter_sublist.map _).map _
 generalize fS H rows k=ov at hL oen one ol ond q
 obtain⟨ts,rfl⟩:=jg oen
 x_go
 refine⟨zs2,fun t nt=>?_⟩
 generalize hE:upd H2 t _=H3
 obtain⟨ht,s3⟩:=bg nt hE
 clear hE
 x_go
 refine⟨zs1,fun L2 nL2=>?_⟩
 generalize hE:upd H3 L2 _=H4
 obtain⟨hL2,s4⟩:=bg nL2 hE
 clear hE
 x_go
 rw[Uv]at ol
 refine⟨L,L2,_,_,rfl,rfl,(s3.trans s4) _ _ hL,hL2,UP (show _<=200 by rw[Uv];simp;omega) (by decide),fun L3 nL3=>?_⟩
 generalize hE:upd H4 L3 _=H5
 obtain⟨hL3,s5⟩:=bg nL3 hE
 clear hE
 have s05:=((s02.trans s3).trans s4).trans s5
 have ht5:=s5 _ _ (s4 _ _ ht)
 have kt5:∀t xs,H t=some (.tup xs)->H5 t=some (.tup xs):=fun _ _ e=>s05 _ _ e
 have en5:∀v∈(ts ++ [t]).map V.ref,En H5 v:=fun v hv=>by
  rw[UB]at hv
  rcases UG.mp hv with hv|hv
  ·exact(oen v hv).keep kt5
  ·rw[UR.mp hv];exact⟨t,k,z,rfl,ht5,zz.1,kk.1,kk.2,zz.2⟩
 have row5:aH H5 ((ts ++ [t]).map V.ref)=aH H (ts.map V.ref) ++ [(k,z)]:=by
  rw[UB]
  unfold aH
  rw[UB]
  congr 1
  ·exact VC fun v hv=>(oen v hv).eD kt5
  ·show [eD H5 (.ref t)]=_
   rw[oA ht5]
 have nd5:((ts ++ [t]).map (kE H5)).Nodup:=by
  rw[<- fZ,row5,UB]
  refine Vs.mpr ⟨ond,by simp,fun a ha b hb e=>?_⟩
  have eb:b=k:=by simpa using hb
  obtain⟨p,hp,rfl⟩:=UC.mp ha
  unfold aH at hp
  obtain⟨v,hv,rfl⟩:=UC.mp hp
  exact one v hv (e.trans eb)
 rw[show ts.map V.ref ++ [V.ref t] =(ts ++ [t]).map V.ref by rw[UB];rfl]at hL3
 x_go
 refine⟨L3,ts ++ [t],kE H5,rfl,aW.of hL3,by rw[Uz];simp;omega,fun u hu=>?_,zh nd5,fun us l p1 p2 nl=>?_⟩
 ·obtain⟨t',et,ht',_⟩:=(en5 (.ref u) (UC.mpr ⟨u,hu,rfl⟩)).pt
  cases et
  exact⟨_,ht'⟩
 generalize hE:upd H5 l _=H6
 obtain⟨hl,s6⟩:=bg nl hE
 clear hE
 have ul:us.length<=110:=by rw[p1.length_eq,Uz];simp;omega
 have enu:∀v∈us.map V.ref,En H5 v:=fun v hv=>by
  obtain⟨u,hu,rfl⟩:=UC.mp hv
  exact en5 _ (UC.mpr ⟨u,p1.mem_iff.mp hu,rfl⟩)
 have pw:(aH H5 (us.map V.ref)).Pairwise fun a b=>a.1<b.1:=by
  have ndu:(us.map (kE H5)).Nodup:=(p1.map (kE H5)).nodup_iff.mpr nd5
  have p3:(us.map (kE H5)).Pairwise (· <= ·):=Ve.mpr p2
  have p4:=xZ p3 ndu
  rw[<- fZ]at p4
  exact Ve.mp p4
 x_go
 refine⟨l,us.map V.ref,w,rfl,hl,by rw[Uv];omega,w1,by omega,fun l2 H7 nl2 hR s7=>?_⟩
 have s57:=s6.trans s7
 have s07:=s05.trans s57
 have s17:aO H1 H7:=(((s2.trans s3).trans s4).trans s5).trans s57
 have kt57:∀t xs,H5 t=some (.tup xs)->H7 t=some (.tup xs):=fun _ _ e=>s57 _ _ e
 have enu7:∀v∈us.map V.ref,En H7 v:=fun v hv=>(enu v hv).keep kt57
 have ok2:=q8 w1 (by omega) (by rw[Uv];omega) enu7
 x_go
 refine⟨r,o,l2,rows,_,rfl,hO.same s17,hR.rws,ok.same s07,ok2,by omega,fun D ss H8 nD hD hP s8=>?_⟩
 replace hP:=hP.plain
 have kt8:∀t xs,H7 t=some (.tup xs)->H8 t=some (.tup xs):=fun _ _ e=>s8 _ _ e
 refine q D ss t (us.map V.ref) H8 (s07.free nD) hD (s8 _ _ (s57 _ _ ht5)) ?_ ?_ ?_ (s07.trans s8)
 ·have:=p1.map V.ref
  rw[UB]at this
  exact this
 ·rw[bZ kt8 enu7,bZ kt57 enu];exact pw
 ·rw[jG kt8 (fun es he v hv=>(enr es he v hv).keep fun _ _ e=>s07 _ _ e) fun es he v hv=>enu7 v (cL he hv)]
  exact hP
theorem wz {f:Addr}{fd:FuncData}(F:fz K "dropping" "dropping" lF f fd) (mF:mg "dropping" = some (.ref f)) (bF:Binds K fd x_ []) (T:Bl mg) (bA:LO P w K mg base) (bq:K3 P w K mg base) (fq:JC P w K mg base) (eL:P4 P w K mg base) (bC:L_ P w K mg base) (a_:LY P w K mg base):bJ P w K mg base "dropping" x_ 5 (nU K):=by
 refine bJ.of F mF bF dD (fun vs H Q E h=>?_) (fun _ A _ _ H vs Q E hr h=>?_)
 ·obtain⟨y,w,R,X,k,rfl,_⟩:=h;rfl
 obtain⟨y,w,R,X,k,rfl,hY,w1,w2,R1,R2,ok,sz,hk,q⟩:=h
 obtain⟨h,hy,⟨bs,hh,hbs⟩,en,szx⟩:=hY
 have rb:=bU (k:=k) (R:=(R:Int)) (by omega)
 obtain⟨r,hr0⟩ : ∃r:Nat,az k R =(r:Int):=⟨(az k R).toNat,by omega⟩
 have er:(az k R).toNat=r:=by omega
 refine⟨_,(ai (eO (pv 0) (dM rfl (aK (aC (i:=2) dD.nd rfl (Or.inl rfl)) (aK (aC (i:=3) dD.nd rfl (Or.inl rfl)) (aK (aC (i:=4) dD.nd rfl (Or.inl rfl)) b6)))))
   (ai (aG (i:=5) dD.nd rfl (Or.inl rfl) (bP bA hr.mo (aa (pv 1) (aa (pv 3) ah af) af)))
   (ai (aG (i:=6) dD.nd rfl (Or.inl rfl) (bP bq hr.mo (aa (pv 4) (aa (pv 5) ah af) af)))
   (ai (aG (i:=7) dD.nd rfl (Or.inl rfl) (bP fq hr.mo (aa (pv 6) (aa (pv 1) ah af) af)))
   (ai (bY (aL dF (aV aZ rfl T.len cj (aa (pv 7) ah af)) (aV aZ rfl T.len cj (aa (bP a_ hr.mo (aa (pv 6) ah af)) ah aQ)) (aU _)) (ay Aw) bh)
   (ay (aN (bP eL hr.mo (aa (pv 5) (aa (pv 6) (aa (bP bC hr.mo (aa (pv 7) (aa (pv 2) ah af) af)) ah aQ) af) af))))))))),?_⟩
 rw[xD]
 x_go
 refine⟨y,_,rfl,iM.of hy,rfl,_,_,rfl,_,_,rfl,_,_,rfl,rfl,?_⟩
 x_go
 refine⟨k,R,rfl,by omega,by omega,?_⟩
 rw[hr0]
 x_go
 refine⟨h,bs,r,rfl,hh,fun o H1 s1 ho=>?_⟩
 have hO:=A2 hbs hr0 s1 ho
 rw[er]at q
 generalize bw X k R=rows at hO ok sz hk q
 have enr:∀es∈rows,∀v∈es,En H v:=fun es he=>(ok.2 es he).2
 x_go
 refine⟨o,rows,k,rfl,hO,by omega,fun es he v hv=>(enr es he v hv).keep fun _ _ e=>s1 _ _ e,fun L H2 nL hL s2=>?_⟩
 have s02:=s1.trans s2
 have eo:fS H1 rows k=fS H rows k:=XM fun v hv=>by
  obtain⟨es,he,hm⟩:=Vh.mp hv
  rw[(enr es he v hm).eD fun _ _ e=>s1 _ _ e]
 rw[eo]at hL
 have oen:=vt (k:=k) enr
 have ol:=AM (H:=H) (X:=rows) (k:=k)
 have less:(fS H rows k).length<rows.flatten.length:=by
  obtain⟨p,hp,e⟩:=UC.mp hk
  unfold aH at hp
  obtain⟨v,hv,rfl⟩:=UC.mp hp
  exact List.length_filter_lt_length_iff_exists.mpr ⟨v,hv,by simp[e]⟩
 x_go
 refine⟨o,rows,rfl,hO.same s2,by omega,fun L2 H3 nL2 hL2 s3=>?_⟩
 have s03:=s02.trans s3
 x_go
 refine bM (fun g=>absurd g (by omega)) (fun _=>?_)
 x_go
 refine⟨L,_,w,rfl,s3 _ _ hL,by omega,w1,by omega,fun l2 H7 nl2 hR s7=>?_⟩
 have s07:=s03.trans s7
 have kt7:∀t xs,H t=some (.tup xs)->H7 t=some (.tup xs):=fun _ _ e=>s07 _ _ e
 have ok2:=q8 (H:=H7) w1 (by omega) (us:=fS H rows k) (by omega) fun v hv=>(oen v hv).keep kt7
 x_go
 refine⟨r,o,l2,rows,_,rfl,hO.same ((s2.trans s3).trans s7),hR.rws,ok.same s07,ok2,by omega,fun D ss H8 nD hD hP s8=>?_⟩
 replace hP:=hP.plain
 refine q D ss H8 (s07.free nD) hD ?_ (s07.trans s8)
 rw[mJ]at hP
 unfold d_ at hP ⊢
 rw[jG kt7 enr fun es he v hv=>oen v (cL he hv)]at hP
 exact hP
theorem vA {f:Addr}{fd:FuncData}(F:fz K "others_in" "others_in" iI f fd) (mF:mg "others_in" = some (.ref f)) (bF:Binds K fd r_ []) (T:Bl mg) (a_:LY P w K mg base):JC P w K mg base:=by
 refine bJ.of F mF bF uZ (fun vs H Q E h=>?_) (fun _ A _ _ H vs Q E hr h=>?_)
 ·obtain⟨a,X,k,rfl,_⟩:=h;rfl
 obtain⟨a,X,k,rfl,hX,hz,en,q⟩:=h
 refine⟨_,(ay (aN (b7 rfl (cF (sc:=aq iI) (N:=r_) (vs:=["entry"]) (fs:=["key"]) (js:=[1]) (by z_go) rfl rfl) (bu (bP a_ hr.mo (aa (pv 0) ah af))) (fun _ _ _ _=>aC (i:=0) (show(["entry", "key"]:List Str).Nodup by z_go) rfl (Or.inl rfl)) (fun _ _ _ _=>vj (aL PK (aY (gG (K:=K) rfl) (pv 0) aj (fun _ _=>rfl)) (pv 1) (aU _))) (fun _ _ _ _=>(pv 0))))),?_⟩
 rw[vO]
 x_go
 refine⟨a,X,rfl,hX,by omega,fun L H1 nL hL s1=>?_⟩
 refine⟨L,rfl,⟨_,aW.of hL⟩,fun D nD=>?_⟩
 refine bf (xs:=X.flatten) (fun j σ' ys H'=>(∃x,σ'=[x,some (.int k)])/\aO H1 H'/\ys =(X.flatten.take j).filter (fun v=>!decide ((eD H v).1=k))/\H' D=some (.lst ys)) D ⟨⟨_,rfl⟩,aI nD _,rfl,ao⟩ (fun i σ' ys H' _ h=>aW.of (h.2.1 _ _ hL)) ?_ ?_
 ·rintro j x σ' ys H2 hx ⟨⟨z1,rfl⟩,s2,rfl,hD⟩
  have jl:=(Ux.mp hx).1
  obtain⟨es,he,hv⟩:=Vh.mp (UA hx)
  obtain⟨t,rfl,ht,_⟩:=(en es he x hv).pt
  have ht2:=s2 _ _ (s1 _ _ ht)
  x_go
  refine Kl (fun c=>?_) (fun c=>?_)
  ·x_go
   refine⟨hD,?_,⟨_,rfl⟩,fun b o e=>by rw[av (ak e nD)];exact s2 _ _ e,?_,ao⟩
   ·refine aE (UP (UY _ _) ?_)
    rw[UH];omega
   ·rw[aX hx,VQ,V2,UN (by simp[c])];rfl
  ·refine⟨⟨_,rfl⟩,s2,?_,hD⟩
   rw[aX hx,VQ,V2,UM (by simp[c])]
   simp
 ·rintro σ' ys H2 ⟨⟨z1,rfl⟩,s2,rfl,hD⟩
  rw[Va]at hD
  exact q D H2 (s1.free nD) hD (s1.trans s2)
theorem A8 {f:Addr}{fd:FuncData}(F:fz K "mended" "mended" qX f fd) (mF:mg "mended" = some (.ref f)) (bF:Binds K fd jx []) (T:Bl mg) (mY:bJ P w K mg base "yard_of" HJ 6 (qM K)) (a_:LY P w K mg base) (bA:LO P w K mg base):bJ P w K mg base "mended" jx 7 (m7 K):=by
 refine bJ.of F mF bF dS (fun vs H Q E h=>?_) (fun _ A _ _ H vs Q E hr h=>?_)
 ·obtain⟨y,w,R,X,rfl,_⟩:=h;rfl
 obtain⟨y,w,R,X,rfl,hY,w1,w2,R1,R2,sz,sl,q⟩:=h
 obtain⟨h,hy,⟨bs,hh,hbs⟩,en,szx⟩:=hY
 have hu:=hr.units
 have bl:=hbs.1
 have okE:=B9 (R:=R) en
 have flen:(h_ (yD H X)).length<=190:=by rw[oU,Uv];exact sz
 refine⟨_,(ai (eO (pv 0) (dM rfl (aK (aC (i:=1) dS.nd rfl (Or.inl rfl)) (aK (aC (i:=2) dS.nd rfl (Or.inl rfl)) (aK (aC (i:=3) dS.nd rfl (Or.inl rfl)) b6)))))
   (ai (aG (i:=4) dS.nd rfl (Or.inl rfl) Co)
   (ai (eS Vr rfl (pD rfl T.enumerate (aa (cC cX (pv 3) dw (cR (pv 2))) ah aM)) (dM rfl (aK (aC (i:=5) dS.nd rfl (Or.inl rfl)) (aK (aC (i:=6) dS.nd rfl (Or.inl rfl)) b6))) (ay (eS Vr rfl (bu (bP a_ hr.mo (aa (pv 6) ah af))) (dM rfl (aK (aC (i:=7) dS.nd rfl (Or.inl rfl)) (aK (aC (i:=8) dS.nd rfl (Or.inl rfl)) b6))) (ay (bY (aL dF (bP bA hr.mo (aa (pv 7) (aa (pv 2) ah af) af)) (pv 5) (aU _)) (ay (iK (Ej (pv 4) (pv 7) (pv 8) ⟨rfl,rfl,rfl,rfl⟩))) bh)))))
   (ay (aN (bP mY hr.mo (aa (pv 1) (aa (pv 2) (aa (dg (z4 rfl) rfl T.list l7 (aa (CO PySem.F.plainAttrs_dict PySem.F.slot_dict_items PySem.F.type_dict_items CD (pv 4)) ah aQ)) ah aQ) af) af))))))),?_⟩
 rw[BG]
 x_go
 refine⟨y,_,rfl,iM.of hy,rfl,_,_,rfl,_,_,rfl,_,_,rfl,rfl,?_⟩
 x_go
 intro d nd
 generalize hE:upd H d _=H1
 obtain⟨hd,s1⟩:=bg nd hE
 clear hE
 x_go
 refine e_ (aW.of (s1 _ _ hh)) fun L nL=>?_
 rw[dO]
 generalize hE:upd H1 L _=H2
 obtain⟨hL,s2⟩:=bg nL hE
 clear hE
 have Ld:L≠d:=fun z=>by rw[z,hd]at nL;cases nL
 refine⟨L,rfl,⟨_,aW.of hL⟩,?_⟩
 refine qo (xs:=(bs.take R).map V.ref) (fun i σ H'=>(∃x5 x6 x7 x8,σ=[some (.ref y),some (.int w),some (.int R),some (.ref h),some (.ref d),x5,x6,x7,x8])/\aO H H'/\H' L=some (.lst ((bs.take R).map V.ref))/\H' d=some (.dK (eV (e8 R (yD H X) i)))) ⟨⟨_,_,_,_,rfl⟩,s1.trans s2,hL,s2 _ _ hd⟩ (fun _ _ _ _ h=>aW.of h.2.2.1) ?_ ?_
 ·rintro i x σ H3 u hx ⟨⟨x5,x6,x7,x8,rfl⟩,s3,hL3,hd3⟩ nu
  obtain⟨b,hb,rfl⟩:=b9 hx
  have il:=(Ux.mp hb).1
  rw[UH]at il
  rw[V8 (by omega)]at hb
  obtain⟨rows,hxr,_,as,hb1,hA⟩:=hbs.get hb
  have rm:=UA hxr
  have enr:∀es∈rows,∀v∈es,En H v:=en rows rm
  have rl:rows.flatten.length<=190:=by
   refine UP (List.Sublist.length_le ?_) sz
   unfold cg
   exact List.sublist_flatten_of_mem (UC.mpr ⟨rows,rm,rfl⟩)
  have e1:e8 R (yD H X) (i+1) =(aH H rows.flatten).foldl (cI R i) (e8 R (yD H X) i):=by
   show((((yD H X)[i]?).getD []).flatten).foldl _ _=_
   rw[kI,hxr,i9];rfl
  have a1:(e8 R (yD H X) i).length<=190:=UP (pI i) (UP Af flen)
  generalize hE:upd H3 u _=H4
  obtain⟨hu4,s4⟩:=bg nu hE
  clear hE
  refine⟨u,_,rfl,iM.of hu4,rfl,_,_,rfl,_,_,rfl,rfl,?_⟩
  have s04:=s3.trans s4
  x_go
  refine⟨b,rows,rfl,⟨as,s04 _ _ hb1,hA.1,fun i a es e1 e2=>s04 _ _ (hA.2 i a es e1 e2).2⟩,by omega,fun L2 H5 nL2 hL2 s5=>?_⟩
  have hd5:=s5 _ _ (s4 _ _ hd3)
  have L2d:L2≠d:=fun z=>by rw[z,s4 _ _ hd3]at nL2;cases nL2
  rw[e1]
  have rdl:(aH H rows.flatten).length=rows.flatten.length:=by unfold aH;rw[Uv]
  generalize e8 R (yD H X) i=acc0 at hd5 a1
  refine⟨L2,rfl,⟨_,aW.of hL2⟩,?_⟩
  refine fX (xs:=rows.flatten) (fun j σ H'=>(∃x7 x8,σ=[some (.ref y),some (.int w),some (.int R),some (.ref h),some (.ref d),some (.int i),some (.ref b),x7,x8])/\aO H H'/\H' L=some (.lst ((bs.take R).map V.ref))/\H' L2=some (.lst rows.flatten)/\H' d=some (.dK (eV (((aH H rows.flatten).take j).foldl (cI R i) acc0)))) ⟨⟨_,_,rfl⟩,s04.trans s5,s5 _ _ (s4 _ _ hL3),hL2,hd5⟩ (fun _ _ _ _ h=>aW.of h.2.2.2.1) ?_ ?_
  ·rintro j x σ H6 hx2 ⟨⟨x7,x8,rfl⟩,s6,hL6,hL26,hd6⟩
   obtain⟨es,he,hv⟩:=Vh.mp (UA hx2)
   have hxd:(aH H rows.flatten)[j]? = some (eD H x):=by unfold aH;rw[UI,hx2];rfl
   obtain⟨t,rfl,ht,_⟩:=(enr es he x hv).pt
   have nx:((aH H rows.flatten).take (j+1)).foldl (cI R i) acc0=cI R i (((aH H rows.flatten).take j).foldl (cI R i) acc0) (eD H (.ref t)):=by rw[aX hxd,Vu];rfl
   have al:(((aH H rows.flatten).take j).foldl (cI R i) acc0).length<=400:=by
    refine UP qy ?_
    rw[UH];omega
   rw[nx]
   generalize ((aH H rows.flatten).take j).foldl (cI R i) acc0=acc at hd6 al
   generalize eD H (.ref t)=e at ht
   x_go
   refine⟨t,_,rfl,iM.of (s6 _ _ ht),rfl,_,_,rfl,_,_,rfl,rfl,?_⟩
   x_go
   refine⟨e.1,R,rfl,by omega,by omega,?_⟩
   x_go
   refine bM (fun c=>?_) (fun c=>?_)
   ·x_go
    refine CJ ?_
    x_go
    refine⟨d,rfl,.inl ⟨_,.inl hd6⟩,?_⟩
    x_go
    refine⟨_,Sum.inl e.1,hd6,rfl,by unfold eV;rw[Uv,Uv];exact aE (by omega),fun v hv=>?_,fun hn=>?_⟩
    ·have hm:e.1∈acc.map (·.1):=by
      have:=find_some (es:=acc) (k:=e.1)
      rw[hv]at this
      exact VV this.symm
     x_go
     refine⟨⟨_,_,rfl⟩,s6,hL6,hL26,?_⟩
     unfold cI Ah
     rw[UN c,UN hm];exact hd6
    ·have hm:e.1∉acc.map (·.1):=by
      have:=find_some (es:=acc) (k:=e.1)
      rw[hn]at this
      exact Wv this.symm
     x_go
     refine⟨⟨_,_,rfl⟩,fun b o e=>by rw[av (ak e nd)];exact s6 _ _ e,by rw[av Ld];exact hL6,by rw[av L2d];exact hL26,?_⟩
     unfold cI Ah
     rw[UN c,UM hm,ao,FU hm]
   ·x_go
    refine⟨⟨_,_,rfl⟩,s6,hL6,hL26,?_⟩
    unfold cI
    rw[UM c];exact hd6
  ·rintro σ H6 ⟨⟨x7,x8,rfl⟩,s6,hL6,hL26,hd6⟩
   rw[<- rdl,Va]at hd6
   x_go
   exact⟨⟨_,_,_,_,rfl⟩,s6,hL6,hd6⟩
 ·rintro σ H3 ⟨⟨x5,x6,x7,x8,rfl⟩,s3,hL3,hd3⟩
  have el:e8 R (yD H X) ((bs.take R).map V.ref).length=stand R (yD H X):=by
   unfold stand yD
   rw[Uv,UH,Uv,bl]
  rw[el]at hd3
  have snd:=yI (R:=R) (D:=yD H X)
  generalize stand R (yD H X)=es at hd3 okE sl snd q
  x_go
  refine⟨.inr (.inr (.inl ⟨rfl,.inl ⟨_,hd3⟩⟩)),?_⟩
  refine⟨d,_,rfl,rfl,hd3,fun v nv=>?_⟩
  generalize hE:upd H3 v _=H4
  obtain⟨hv,s4⟩:=bg nv hE
  clear hE
  x_go
  refine⟨v,d,es.map vE,rfl,hv,s4 _ _ hd3,fun ts l H5 s5 nl hl tl ht=>?_⟩
  have s05:=(s3.trans s4).trans s5
  x_go
  refine⟨l,ts,es.map vE,w,R,rfl,hl,tl,by rw[Uv];omega,ht,w1,w2,R1,by omega,fun ms t h' H6 mp mo ht6 hyn s6=>?_⟩
  have s06:=s05.trans s6
  obtain⟨rs,bss,sy,ex,sq,cl⟩:=E_ (es:=es) (fun e he=>⟨(okE e he).1,(okE e he).2.1.1,(okE e he).2.1.2,(okE e he).2.2⟩) (by omega) w1 R1 (by omega) mp mo hyn
  rw[Le snd]at cl
  exact q t h' rs bss H6 ht6 (sy.weak fun b hb=>s05.free hb) ex sq cl s06
theorem zR {f:Addr}{fd:FuncData}(F:fz K "mending" "mending" i8 f fd) (mF:mg "mending" = some (.ref f)) (bF:Binds K fd jx []) (T:Bl mg) (eL:P4 P w K mg base) (gW:bJ P w K mg base "mended" jx 7 (m7 K)) (bq:K3 P w K mg base):bJ P w K mg base "mending" jx 8 (k7 K):=by
 refine bJ.of F mF bF cY (fun vs H Q E h=>?_) (fun _ A _ _ H vs Q E hr h=>?_)
 ·obtain⟨y,w,R,X,rfl,_⟩:=h;rfl
 obtain⟨y,w,R,X,rfl,hY,w1,w2,R1,R2,xl,rok,sz,sl,q⟩:=h
 obtain⟨h,hy,⟨bs,hh,hbs⟩,en,szx⟩:=id hY
 have bl:=hbs.1
 refine⟨_,(ai (eO (pv 0) (dM rfl (aK (aC (i:=1) cY.nd rfl (Or.inl rfl)) (aK (aC (i:=2) cY.nd rfl (Or.inl rfl)) (aK (aC (i:=3) cY.nd rfl (Or.inr rfl)) b6)))))
   (ai (aG (i:=4) cY.nd rfl (Or.inl rfl) (cy ah))
   (ai (eS Vr rfl (pD rfl T.enumerate (aa (aY b8 (bP gW hr.mo (aa (pv 0) ah af)) aj (fun _ _=>rfl)) ah aM)) (dM rfl (aK (aC (i:=5) cY.nd rfl (Or.inl rfl)) (aK (aC (i:=6) cY.nd rfl (Or.inl rfl)) b6))) (ay (EF (i:=4) cY.nd rfl (Or.inl rfl) (bP eL hr.mo (aa (pv 5) (aa (bP bq hr.mo (aa (pv 3) (aa (pv 5) ah af) af)) (aa (pv 6) ah af) aQ) af)) La)))
   (ai (eN (i:=7) cY.nd rfl rfl rfl (cF (sc:=aq i8) (N:=Ft) (vs:=["room"]) (fs:=["held"]) (js:=[3]) (by z_go) rfl rfl) (Cj rfl T.range (aa (pv 2) (aa (aV aZ rfl T.len cj (aa (pv 3) ah af)) ah aQ) af)) (fun _ _ _ _=>aC (i:=0) (show(["room", "held"]:List Str).Nodup by z_go) rfl (Or.inl rfl)) (fun _ _ _ _=>vj (Bx (K:=K) rfl (aY (qc (K:=K) rfl) (pv 1) (pv 0) (fun _ _=>rfl)) (fun _=>rfl))) (fun _ _ _ _=>(pv 0)))
   (ay (aN (aJ fV (pv 4) (b7 rfl (cF (sc:=aq i8) (N:=Ft) (vs:=["room"]) (fs:=[]) (js:=[]) (by z_go) rfl rfl) (bu (EH (pv 7))) (fun _ _ _ _=>aC (i:=0) (show(["room"]:List Str).Nodup by z_go) rfl (Or.inl rfl)) (fun _ _ _ _=>gu) (fun _ _ _ _=>(bW (aa bQ (aa (pv 0) (aa aj ah aB) af) aB))))))))))),?_⟩
 rw[Ak]
 x_go
 refine⟨y,_,rfl,iM.of hy,rfl,_,_,rfl,_,_,rfl,_,_,rfl,rfl,?_⟩
 x_go
 refine⟨by decide,fun D nD=>?_⟩
 generalize hE:upd H D _=H1
 obtain⟨hD,s1⟩:=bg nD hE
 clear hE
 x_go
 refine⟨y,w,R,X,rfl,hY.same s1,w1,w2,R1,R2,sz,by rw[lU s1 en];exact sl,fun t h' rs bss H2 ht sy ez sq cl s2=>?_⟩
 rw[lU s1 en]at cl
 have s02:=s1.trans s2
 have sdl:(stand R (yD H X)).length<=129:=by omega
 have zok:=F0 cl w1 w2 sdl ez
 have zl:(XA H2 bss).length=R:=by have:=cl.1;unfold yD at this;rw[Uv]at this;exact this
 have hD2:=s2 _ _ hD
 have neD:∀b,H1 b=none->b≠D:=fun b hb z=>by rw[z,hD]at hb;cases hb
 have rsl:rs.length=R:=by rw[sy.hb.1];rw[zd]at zl;exact zl
 have hZ:∀(i:Nat) (r:Addr),rs[i]? = some r->∀H3:Hp,(∀b o,H2 b=some o->b≠D->H3 b=some o)->rK H3 r (aT (XA H2 bss) i):=fun i r hr H3 k3=>by
  obtain⟨bsi,hbi,h1⟩:=sy.hb.get hr
  have ea:aT (XA H2 bss) i=bsi.map (rowOf H2):=by unfold aT XA;rw[UI,hbi];rfl
  rw[ea]
  refine⟨bsi,k3 _ _ h1 (neD r (sy.ns r (UK _ (Wy _ (UA hr))))),by rw[Uv],fun j a es e1 e2=>?_⟩
  rw[UI,e1]at e2
  have e2:rowOf H2 a=es:=US e2
  have am:a∈bss.flatten:=Vh.mpr ⟨bsi,UA hbi,UA e1⟩
  obtain⟨es',he⟩:=sy.ha a am
  rw[qx he]at e2
  rw[<- e2]
  exact k3 _ _ he (neD a (sy.ns a (UK _ (UX _ am))))
 have hZb:∀(i:Nat) (r:Addr),rs[i]? = some r->∃bsi:List Addr,H2 r=some (.lst (bsi.map V.ref))/\r≠D/\D∉bsi:=fun i r hr=>by
  obtain⟨bsi,hbi,h1⟩:=sy.hb.get hr
  exact⟨bsi,h1,neD r (sy.ns r (UK _ (Wy _ (UA hr)))),fun m=>neD D (sy.ns D (UK _ (UX _ (Vh.mpr ⟨bsi,UA hbi,m⟩)))) rfl⟩
 have hhr:=sy.hh
 have h'D:h'≠D:=neD h' (sy.ns h' (UQ ..))
 generalize XA H2 bss=Z at ez cl zok zl hZ
 x_go
 refine⟨h',rfl,⟨_,aW.of hhr⟩,?_⟩
 have kt02:∀t xs,H t=some (.tup xs)->H2 t=some (.tup xs):=fun _ _ e=>s02 _ _ e
 have en2:=en.keep kt02
 refine qo (xs:=rs.map V.ref) (fun i σ H'=>(∃x5 x6,σ=[some (.ref y),some (.int w),some (.int R),some (.ref h),some (.ref D),x5,x6,none])/\(∀b o,H2 b=some o->b≠D->H' b=some o)/\∃ss:List Addr,H' D=some (.lst (ss.map V.ref))/\P1 (lM (hid D H')) ss (b_ H2 X Z i)) ⟨⟨_,_,rfl⟩,fun _ _ e _=>e,[],hD2,P1.nil⟩ (fun _ _ _ _ h=>aW.of (h.2.1 _ _ hhr h'D)) ?_ ?_
 ·rintro i x σ H3 u hx ⟨⟨x5,x6,rfl⟩,k3,ss,hD3,hP3⟩ nu
  obtain⟨r,hr2,rfl⟩:=b9 hx
  have il:=(Ux.mp hr2).1
  have s03:aO H H3:=fun b o e=>k3 _ _ (s02 _ _ e) (ak e nD)
  generalize hE:upd H3 u _=H4
  obtain⟨hu4,s4⟩:=bg nu hE
  clear hE
  have s04:=s03.trans s4
  have k4:∀b o,H2 b=some o->b≠D->H4 b=some o:=fun b o e n=>s4 _ _ (k3 b o e n)
  refine⟨u,_,rfl,iM.of hu4,rfl,_,_,rfl,_,_,rfl,rfl,?_⟩
  x_go
  refine⟨h,bs,i,rfl,s04 _ _ hh,fun o H5 s5 ho=>?_⟩
  have s05:=s04.trans s5
  have hO:=lG hbs s05 ho
  have k5:∀b o,H2 b=some o->b≠D->H5 b=some o:=fun b o e n=>s5 _ _ (k4 b o e n)
  have kt5:∀t xs,H2 t=some (.tup xs)->H5 t=some (.tup xs):=fun t xs e=>k5 t _ e (fun z=>by rw[z,hD2]at e;cases e)
  x_go
  refine⟨i,o,r,aT X i,aT Z i,rfl,hO,hZ i r hr2 H5 k5,(rok i).same s05,⟨(zok i).1,fun es he=>⟨((zok i).2 es he).1,fun v hv=>(((zok i).2 es he).2 v hv).keep kt5⟩⟩,by omega,fun D2 ss2 H6 nD2 hD6 hP6 s6=>?_⟩
  rw[pA kt5 (tO en2) (tO ez)]at hP6
  obtain⟨bsi,hbi,rD,Dbi⟩:=hZb i r hr2
  have okD:Iu H5 r D2 D:=.inr ⟨⟨_,s5 _ _ (s4 _ _ hD3)⟩,fun bs2 hb2 m=>by
   rw[k5 _ _ hbi rD]at hb2
   have:bsi.map V.ref=bs2.map V.ref:=by injection hb2 with hb2;injection hb2
   exact Dbi (Dq this ▸ m)⟩
  have hDv:=s6 _ _ (s5 _ _ (s4 _ _ hD3))
  have D2D:D2≠D:=fun z=>by rw[z,s5 _ _ (s4 _ _ hD3)]at nD2;cases nD2
  have l1:ss.length<=131*i:=by rw[hP3.1];exact mV (fun i=>(zok i).1) i
  have l2:ss2.length<=131:=by
   rw[hP6.plain.1]
   exact UP j3 (by have:=(zok i).1;omega)
  x_go
  refine⟨D,D2,_,_,rfl,rfl,hDv,hD6,UP (show _<=100000 by rw[Uv,Uv];omega) (by decide),?_⟩
  rw[<- UB]
  x_go
  refine⟨⟨_,_,rfl⟩,fun b o e n=>by rw[av n];exact s6 _ _ (k5 b o e n),ss++ss2,ao,?_⟩
  rw[iw]
  show P1 _ _ (b_ H2 X Z i++d_ H2 i (aT X i) (aT Z i))
  exact(hP3.imp fun s st h=>h.same (cT ((s4.trans s5).trans s6))).app ((hP6 D okD).imp fun s st h=>h.same (cT fJ))
 ·rintro σ H3 ⟨⟨x5,x6,rfl⟩,k3,ss,hD3,hP3⟩
  rw[Uv,rsl]at hP3
  have s03:aO H H3:=fun b o e=>k3 _ _ (s02 _ _ e) (ak e nD)
  have kt3:∀t xs,H2 t=some (.tup xs)->H3 t=some (.tup xs):=fun t xs e=>k3 t _ e (fun z=>by rw[z,hD2]at e;cases e)
  have hh3:=s03 _ _ hh
  x_go
  rw[Uv,bl]
  refine⟨_,_,rfl,by omega,fun D2 nD2=>?_⟩
  have nn:((X.length:Int)-(R:Int)).toNat=X.length-R:=by omega
  rw[nn]
  refine dB (n:=X.length-R) (fun i σ' ys H'=>(∃x,σ'=[x,some (.ref h)])/\aO H3 H'/\ys =((lE X R i).map (fun(r:Nat)=>(r:Int))).map V.int/\H' D2=some (.lst ys)) D2 ⟨⟨_,rfl⟩,aI nD2 _,rfl,ao⟩ ?_ ?_
  ·rintro i σ' ys H4 hi ⟨⟨x1,rfl⟩,s4,rfl,hD4⟩
   have hb:=Uy (show R+i<bs.length by omega)
   generalize bs[R+i]=b at hb
   obtain⟨rows,hx,_,as,hb1,hA⟩:=hbs.get hb
   have ea:aT X (R+i)=rows:=by unfold aT;rw[hx];rfl
   have s04:=s03.trans s4
   x_go
   rw[show(R:Int)+(i:Int) =((R+i:Nat):Int) by omega]
   refine cJ (aW.of (s04 _ _ hh)) (gf hb) ?_
   refine⟨decide (as ≠ []),.inl ⟨_,aW.of (s04 _ _ hb1),DX⟩,?_⟩
   have fl:=oV (X:=X) (R:=R) i
   have aA:=hA.1
   by_cases c:as=[]
   ·have re:rows=[]:=List.eq_nil_of_length_eq_zero (by rw[<- aA,c];rfl)
    rw[U6 (by simpa using c),UM U0]
    refine⟨⟨_,rfl⟩,s4,?_,hD4⟩
    show _ =((lE X R i++(if aT X (R+i)=[] then [] else [R+i])).map _).map _
    rw[ea,UN re,U7]
   ·have re:rows ≠ []:=fun z=>c (List.eq_nil_of_length_eq_zero (by rw[aA,z];rfl))
    rw[U8 c,UN rfl]
    x_go
    refine⟨hD4,by rw[Uv,Uv];exact aE (by omega),⟨_,rfl⟩,fun b o e=>by rw[av (ak e nD2)];exact s4 _ _ e,?_,ao⟩
    show _ =((lE X R i++(if aT X (R+i)=[] then [] else [R+i])).map _).map _
    rw[ea,UM re,UB,UB];rfl
  ·rintro σ' ys H4 ⟨⟨x1,rfl⟩,s4,rfl,hD4⟩
   have fm:=fun i=>mC (X:=X) (R:=R) (i:=i) (n:=X.length-R)
   have fl:=oV (X:=X) (R:=R) (X.length-R)
   have em:cE H2 R X Z=b_ H2 X Z R++mq (lE X R (X.length-R)).reverse:=rfl
   generalize lE X R (X.length-R)=fu at hD4 fm fl em
   have hD34:=s4 _ _ hD3
   x_go
   refine⟨D2,_,rfl,aW.of hD4,fun L nL=>?_⟩
   rw[<- XQ,<- XQ]
   generalize hE:upd H4 L _=H5
   obtain⟨hL,s5⟩:=bg nL hE
   clear hE
   refine⟨L,rfl,⟨_,aW.of hL⟩,fun D3 nD3=>?_⟩
   refine bf (xs:=(fu.reverse.map (fun(r:Nat)=>(r:Int))).map V.int) (fun j σ' ys H'=>(∃x,σ'=[x])/\aO H5 H'/\H' D3=some (.lst ys)/\∃ss3:List Addr,ys=ss3.map V.ref/\ss3.length=j/\j<=fu.length/\P1 (lM (hid D3 H')) ss3 (mq (fu.reverse.take j))) D3 ⟨⟨_,rfl⟩,aI nD3 _,ao,[],rfl,rfl,Vj _,P1.nil⟩ (fun i σ' ys H' _ h=>aW.of (h.2.1 _ _ hL)) ?_ ?_
   ·rintro j x σ' ys H6 hx ⟨⟨x1,rfl⟩,s6,hD6,ss3,rfl,sl3,_,hP6⟩
    obtain⟨z,hz,rfl⟩:=ints_get hx
    rw[UI]at hz
    cases ez:fu.reverse[j]? with
    | none=>rw[ez]at hz;cases hz
    | some r =>
     rw[ez]at hz
     have hz:(r:Int)=z:=US hz
     subst hz
     have jl:=(Ux.mp ez).1
     rw[Vg]at jl
     have rb:=(fm r).mp (V3.mp (UA ez))
     x_go
     refine⟨zs3,fun s3 n3=>?_⟩
     generalize hE:upd H6 s3 _=H7
     obtain⟨h3,s7⟩:=bg n3 hE
     clear hE
     have n3D:s3≠D3:=fun z=>by rw[z,hD6]at n3;cases n3
     refine⟨s7 _ _ hD6,by rw[Uv];exact aE (by omega),⟨_,rfl⟩,fun b o e=>by rw[av (ak e nD3)];exact s7 _ _ (s6 _ _ e),ao,ss3 ++ [s3],by rw[UB];rfl,by rw[Uz,sl3];rfl,by omega,?_⟩
     rw[iw,aX ez]
     unfold mq at hP6 ⊢
     rw[UB]
     refine(hP6.imp fun s st h=>h.same (cT s7)).snoc ⟨?_,by omega,by omega⟩
     rw[fL n3D];exact h3
   ·rintro σ' ys H6 ⟨⟨x1,rfl⟩,s6,hD6,ss3,rfl,sl3,_,hP6⟩
    rw[UW (by simp)]at hP6
    have s36:=(s4.trans s5).trans s6
    have s06:=s03.trans s36
    have l1:ss.length<=131*R:=by rw[hP3.1];exact mV (fun i=>(zok i).1) R
    have sl3':ss3.length<=130:=by
     rw[sl3,Uv,Uv,Vg];omega
    x_go
    refine⟨D,D3,_,_,rfl,rfl,s36 _ _ hD3,hD6,UP (show _<=100000 by rw[Uv,Uv];omega) (by decide),fun L4 nL4=>?_⟩
    rw[<- UB]
    generalize hE:upd H6 L4 _=H7
    obtain⟨hL4,s7⟩:=bg nL4 hE
    clear hE
    have up:∀{s st},lM H6 s st->lM (hid L4 H7) s st:=fun h=>h.same fun x o e=>by rw[fL (ak e nL4)];exact s7 _ _ e
    have kt7:∀t xs,H2 t=some (.tup xs)->H7 t=some (.tup xs):=fun t xs e=>s7 _ _ (s36 _ _ (kt3 _ _ e))
    refine q L4 (ss++ss3) Z H7 (s06.free nL4) hL4 (ez.keep kt7) (by rw[jm kt7 ez];exact cl) ?_ (s06.trans s7)
    have e7:cE H7 R X Z=cE H2 R X Z:=by unfold cE;rw[q9 kt7 en2 ez]
    rw[e7,em]
    exact(hP3.imp fun s st h=>up ((h.same fJ).same s36)).app (hP6.imp fun s st h=>up (h.same fJ))
theorem uO {f:Addr}{fd:FuncData}(F:fz K "_law_open" "_law_open" iE f fd) (mF:mg "_law_open" = some (.ref f)) (bF:Binds K fd HP []) (T:Bl mg)  : bJ P w K mg base "_law_open" HP 1 (mH K):=by
 refine bJ.of F mF bF d9 (fun vs H Q E h=>?_) (fun _ A _ _ H vs Q E hr h=>?_)
 ·obtain⟨a,ns,pl,rfl,_⟩:=h;rfl
 obtain⟨a,ns,pl,rfl,hS,hlen,h0,h1,q⟩:=h
 have hu:=hr.units
 refine⟨_,(ai (eN (i:=2) d9.nd rfl rfl rfl (cF (sc:=aq iE) (N:=KQ) (vs:=["_law_cell"]) (fs:=[]) (js:=[]) (by z_go) rfl rfl) (bu (cC cX (pv 0) dw (cR aj))) (fun _ _ _ _=>aC (i:=0) (show(["_law_cell"]:List Str).Nodup by z_go) rfl (Or.inl rfl)) (fun _ _ _ _=>gu) (fun _ _ _ _=>(aV B_ rfl T.abs IX (aa (pv 0) ah af))))
   (ai (je (bY (aL (Ab hu) (pv 2) (cy ah) (aU _)) (ay (aG (i:=2) d9.nd rfl (Or.inl rfl) (cy (aa aj ah aB)))) bh))
   (ai (aG (i:=3) d9.nd rfl (Or.inl rfl) (aJ cU (pv 1) (aV aZ rfl T.len cj (aa (pv 2) ah af))))
   (ai (aG (i:=4) d9.nd rfl (Or.inl rfl) aj)
   (ai (je (bY (PW.pt (jH (aL yo (aY bG (pv 2) (pv 3) (fun _ _=>rfl)) (gj (c:=1000000000000000000) (by z_go) ⟨by decide,by decide,by decide⟩) (aU _)) (iz (aL qb (pv 1) (aV aZ rfl T.len cj (aa (pv 2) ah af)) (aU _))))) (ay (aG (i:=4) d9.nd rfl (Or.inl rfl) (aY bG (pv 2) (pv 3) (fun _ _=>rfl)))) bh))
   (ay (aN (cy (aa (pv 4) (aa (aJ bB aj (aJ fQ aj (pv 1))) (aa (aJ fV (cC cX (pv 2) (cR (pv 3)) dw) (cC cX (pv 2) dw (cR (pv 3)))) ah br) br) af))))))))),?_⟩
 rw[vY]
 x_go
 refine e_ hS fun p1 n1=>?_
 have hcut:jy (ns.map V.int) none (some 63)=ns.map V.int:=by
  have:=C3 (ms:=ns) (k:=63)
  rw[UW hlen]at this
  exact this
 rw[hcut]
 have s1:=aI n1 (.lst (ns.map V.int))
 have hp1:(upd H p1 (.lst (ns.map V.int))) p1=some (.lst (ns.map V.int)):=ao
 generalize upd H p1 (.lst (ns.map V.int))=H1 at s1 hp1 ⊢
 refine⟨p1,rfl,⟨_,aW.of hp1⟩,fun D nD=>?_⟩
 have nD0:H D=none:=s1.free nD
 have npD:p1≠D:=ak hp1 nD
 refine bf (xs:=ns.map V.int) (fun i σ' ys H'=>(∃x,σ'=[x])/\(∃ms:List Int,ys=ms.map V.int/\ms.length=i)/\aO H H'/\H' p1=some (.lst (ns.map V.int))/\H' D=some (.lst ys)) D ?_ (fun i σ' ys H' _ h=>aW.of h.2.2.2.1) ?_ ?_
 ·exact⟨⟨_,rfl⟩,⟨[],rfl,rfl⟩,s1.trans (aI nD _),by rw[av npD];exact hp1,ao⟩
 ·rintro i x σ' ys H' hx ⟨⟨y,rfl⟩,⟨ms,rfl,hms⟩,g1,g2,g3⟩
  have hil:i <(ns.map V.int).length:=(Ux.mp hx).1
  rw[Uv]at hil
  obtain⟨z,rfl⟩ : ∃z,x=V.int z:=by
   rw[UI]at hx
   cases e:ns[i]? with
   | none=>rw[e]at hx;cases hx
   | some z=>rw[e]at hx;exact⟨z,(US hx).symm⟩
  x_go
  refine⟨g3,by rw[Uv];exact aE (by omega),⟨_,rfl⟩,⟨ms ++ [_],(by rw[UB];rfl),by rw[Uz,hms];rfl⟩,fun b o e=>?_,?_,ao⟩
  ·rw[av (ak e nD0)];exact g1 _ _ e
  ·rw[av npD];exact g2
 ·rintro σ' ys H' ⟨⟨y,rfl⟩,⟨ms,rfl,hms⟩,g1,g2,g3⟩
  x_go
  refine⟨fun σ H2=>∃C ms,σ=[some (.ref a),some (.int pl),some (.ref C),none,none]/\ms ≠ []/\ms.length<=63/\H2 C=some (.lst (List.map V.int ms))/\aO H H2,?_,?_⟩
  ·x_go
   refine⟨by decide,fun p2 n2=>?_⟩
   refine⟨.list (ms.map PyData.int),.list [],DV.lst (aW.of (by rw[av (ak g3 n2)];exact g3)) (z_.ints ms),DV.lst (aW.of ao) .nil,shaped_ints ms,rfl,?_⟩
   have e:PyData.eqv (.list (ms.map PyData.int)) (.list [])=decide (ms=[]):=by
    have:=wK ms []
    rw[<- this,PyData.eqv];rfl
   rw[e]
   have s2:=g1.trans (aI n2 (.lst []))
   have g32:(upd H' p2 (.lst [])) D=some (.lst (ms.map V.int)):=by rw[av (ak g3 n2)];exact g3
   generalize upd H' p2 (.lst [])=H2 at s2 g32 ⊢
   x_go
   refine bM (fun h=>?_) (fun h=>?_)
   ·x_go
    refine⟨by decide,fun p3 n3=>?_⟩
    x_go
    exact⟨p3,[0],rfl,by simp,by simp,ao,s2.trans (aI n3 _)⟩
   ·x_go
    exact⟨D,ms,rfl,h,by rw[hms,Uv];exact hlen,g32,s2⟩
  ·rintro σ H2 ⟨C,ms,rfl,hne,hml,hC,s2⟩
   have hnl:=len_pos hne
   obtain⟨v,hv⟩:=Im hne pl
   x_go
   refine⟨fun σ H3=>H3=H2/\∃d,σ=[some (.ref a),some (.int pl),some (.ref C),some (.int (pl%((ms.map V.int).length:Int))),some (.int d)],?_,?_⟩
   ·x_go
    refine cJ (aW.of hC) hv ?_
    x_go
    refine bM (fun h=>?_) (fun h=>?_)
    ·x_go
     refine bM (fun h=>?_) (fun h=>?_)
     ·x_go
      refine cJ (aW.of hC) hv ?_
      x_go
      exact⟨rfl,_,rfl⟩
     ·x_go
      exact⟨rfl,_,rfl⟩
    ·x_go
     exact⟨rfl,_,rfl⟩
   ·rintro σ H3 ⟨rfl,d,rfl⟩
    obtain⟨k,hk,hk2⟩ : ∃k:Nat,pl%((ms.map V.int).length:Int) =(k:Int)/\k<ms.length:=by
     have z0:=VL pl (show((ms.map V.int).length:Int)≠0 by omega)
     have z1:=VA pl hnl
     rw[Uv]at z0 z1 ⊢
     exact⟨(pl%(ms.length:Int)).toNat,by omega,by omega⟩
    rw[hk]
    x_go
    refine e_ (aW.of hC) fun p4 n4=>?_
    x_go
    have hC4:(upd H3 p4 (.lst (jy (ms.map V.int) (some (k:Int)) none))) C=some (.lst (ms.map V.int)):=by rw[av (ak hC n4)];exact hC
    refine e_ (aW.of hC4) fun p5 n5=>?_
    rw[CI,C3]
    rw[CI]at hC4 n5
    have s4:=s2.trans (aI n4 (.lst ((ms.drop k).map V.int)))
    have hp4:(upd H3 p4 (.lst ((ms.drop k).map V.int))) p4=some (.lst ((ms.drop k).map V.int)):=ao
    generalize upd H3 p4 (.lst ((ms.drop k).map V.int))=H4 at s4 hp4 hC4 n5 ⊢
    have s5:=s4.trans (aI n5 (.lst ((ms.take k).map V.int)))
    have hp5:(upd H4 p5 (.lst ((ms.take k).map V.int))) p5=some (.lst ((ms.take k).map V.int)):=ao
    have hp45:(upd H4 p5 (.lst ((ms.take k).map V.int))) p4=some (.lst ((ms.drop k).map V.int)):=by rw[av (ak hp4 n5)];exact hp4
    generalize upd H4 p5 (.lst ((ms.take k).map V.int))=H5 at s5 hp5 hp45 ⊢
    refine⟨p4,p5,_,_,rfl,rfl,hp45,hp5,(by rw[Uv,Uv,Vt,UH];exact VT (aE (by omega))),fun p6 n6=>?_⟩
    x_go
    refine⟨zs3,fun p7 n7=>?_⟩
    have s6:=s5.trans (aI n6 (.lst ((ms.drop k).map V.int++(ms.take k).map V.int)))
    refine q p7 _ (s6.free n7) (s6.trans (aI n7 _)) ⟨p6,d,1+1009*pl,ms.drop k++ms.take k,ao,?_,by omega,by omega,?_⟩
    ·rw[av (ak ao n7),ao,UB]
    ·intro e
     have:=Vk List.length e
     rw[Uz,Vt]at this
     simp at this
     omega
theorem vD {f:Addr}{fd:FuncData}(F:fz K "_law_draw" "_law_draw" jS f fd) (mF:mg "_law_draw" = some (.ref f)) (bF:Binds K fd CA []) (T:Bl mg)  : FI P w K mg base:=by
 refine bJ.of F mF bF dP (fun vs H Q E h=>?_) (fun _ A _ _ H vs Q E hr h=>?_)
 ·obtain⟨p,N,n,rfl,_⟩:=h;rfl
 obtain⟨p,N,n,rfl,hh,hN,hn,hn2,q⟩:=h
 obtain⟨l,d,c,ns,hp,hl,hc0,hcN,hns⟩:=hh.ex
 have npl:l≠p:=F1 hp hl
 have hnl:=len_pos hns
 refine⟨_,(ai (bY (aL xR (aY bG (pv 0) aj (fun _ _=>rfl)) aj (aU _)) (ai (aG (i:=2) dP.nd rfl (Or.inl rfl) (aJ cU (aY bG (pv 0) aj (fun _ _=>rfl)) (pv 1)))
   (ai (eO (aJ iZ (aY bG (pv 0) aj (fun _ _=>rfl)) (pv 1)) (zW (pv 0) aj set_list))
   (ay (aN (pv 2))))) bh)
   (ai (Ff (pv 0) aj DS aj CV set_list)
   (ai (aG (i:=3) dP.nd rfl (Or.inl rfl) (aY bG (pv 0) aj (fun _ _=>rfl)))
   (ai (aG (i:=4) dP.nd rfl (Or.inl rfl) (aJ cU (aJ bB (aJ cU (aY bG (aY bG (pv 0) aj (fun _ _=>rfl)) (aJ cU (pv 3) (aV aZ rfl T.len cj (aa (aY bG (pv 0) aj (fun _ _=>rfl)) ah aM))) (fun _ _=>rfl)) aj) (aJ fQ aj (pv 3))) aj))
   (ai (aG (i:=4) dP.nd rfl (Or.inl rfl) (aJ cU (aJ bB (aJ bB (aJ Ae (pv 4) aj) (aJ fQ (aJ fQ aj (pv 3)) (pv 3))) aj) aj))
   (ai (aG (i:=4) dP.nd rfl (Or.inl rfl) (aJ cU (aJ bB (aJ fQ (aJ Ae (pv 4) aj) (aJ bB (aJ fQ aj (pv 3)) aj)) aj) aj))
   (ay (aN (aJ cU (aJ iZ (aJ cU (aJ fQ (pv 4) aj) aj) aj) (pv 1)))))))))),?_⟩
 rw[uV]
 x_go
 refine bM (fun h=>?_) (fun h=>?_)
 ·x_go
  refine q _ _ (VL _ (by omega)) (VA _ hn) ⟨l,d / n,c,ns,ao,?_,hc0,by omega,hns⟩ (Kp.hand hp)
  rw[av npl];exact hl
 ·x_go
  have hp1:(upd H p (.lst [V.int d,.int (c+1),.ref l])) p=some (.lst [.int d,.int (c+1),.ref l]):=ao
  have hl1:(upd H p (.lst [V.int d,.int (c+1),.ref l])) l=some (.lst (ns.map V.int)):=by rw[av npl];exact hl
  have k1:Kp H (upd H p (.lst [V.int d,.int (c+1),.ref l])) p:=Kp.hand hp
  generalize upd H p (.lst [V.int d,.int (c+1),.ref l])=H1 at hp1 hl1 k1 ⊢
  x_go
  obtain⟨v,hv⟩:=Im hns (c+1)
  refine cJ (aW.of hl1) hv ?_
  x_go
  have hn0:n≠0:=by omega
  exact q _ _ (VL _ hn0) (VA _ hn) ⟨l,d,c+1,ns,hp1,hl1,by omega,by omega,hns⟩ k1
theorem yK {f:Addr}{fd:FuncData}(F:fz K "_law_far" "_law_far" lK f fd) (mF:mg "_law_far" = some (.ref f)) (bF:Binds K fd CA []) (T:Bl mg) (aF:FI P w K mg base):bJ P w K mg base "_law_far" CA 2 (oh K):=by
 refine bJ.of F mF bF iC (fun vs H Q E h=>?_) (fun _ A _ _ H vs Q E hr h=>?_)
 ·obtain⟨p,N,n,rfl,_⟩:=h;rfl
 obtain⟨p,N,n,rfl,hh,hN,hn,hn2,q⟩:=h
 obtain⟨l,d,c,ns,hp,hl,hc0,hcN,hns⟩:=hh.ex
 refine⟨_,(ai (bY (aL xR (aY bG (pv 0) aj (fun _ _=>rfl)) aj (aU _)) (ay (aN (bP aF hr.mo (aa (pv 0) (aa (pv 1) ah af) af)))) bh)
   (ai (aG (i:=2) iC.nd rfl (Or.inl rfl) aj)
   (ai (eS Vr rfl (cK rfl T.range (aa aj ah aB)) (aC (i:=3) iC.nd rfl (Or.inl rfl)) (ay (aG (i:=2) iC.nd rfl (Or.inl rfl) (aJ bB (aJ fQ (pv 2) (gj (c:=1000000) (by z_go) ⟨by decide,by decide,by decide⟩)) (bP aF hr.mo (aa (pv 0) (aa (gj (c:=1000000) (by z_go) ⟨by decide,by decide,by decide⟩) ah br) af))))))
   (ay (aN (aJ cU (pv 2) (pv 1))))))),?_⟩
 rw[xJ]
 x_go
 refine bM (fun h=>?_) (fun h=>?_)
 ·x_go
  exact⟨p,N,n,rfl,hh,by omega,hn,hn2,fun r H' h0 h1 h2 h3=>q r H' h0 h1 (h2.mono (by omega)) h3⟩
 ·x_go
  refine⟨7,rfl,by omega,by omega,?_⟩
  refine gX (n:=7) (fun i σ H'=>(∃v x,σ=[some (.ref p),some (.int n),some (.int v),x])/\Hand H' p (N+i)/\Kp H H' p/\i<=7) ⟨⟨_,_,rfl⟩,hh,Kp.refl _ _,by omega⟩ ?_ ?_
  ·rintro i σ H' hi ⟨⟨v,x,rfl⟩,h1,h2,h3⟩
   x_go
   exact⟨p,N+i,_,rfl,h1,by omega,by decide,by decide,fun r H2 h0 h4 h5 h6=>by
    x_go
    exact⟨⟨_,_,rfl⟩,h5,h2.trans h6,by omega⟩⟩
  ·rintro σ H' ⟨⟨v,x,rfl⟩,h1,h2,h3⟩
   x_go
   exact q _ _ (VL _ (by omega)) (VA _ hn) h1 h2
theorem sQ {f:Addr}{fd:FuncData}(F:fz K "_law_power" "_law_power" i_ f fd) (mF:mg "_law_power" = some (.ref f)) (bF:Binds K fd ["_law_many"] []) (T:Bl mg)  : bJ P w K mg base "_law_power" ["_law_many"] 1 (kH K):=by
 refine bJ.of F mF bF gk (fun vs H Q E h=>?_) (fun _ A _ _ H vs Q E hr h=>?_)
 ·obtain⟨m,rfl,_⟩:=h;rfl
 obtain⟨m,rfl,hm,q⟩:=h
 refine⟨_,(ai (aG (i:=1) gk.nd rfl (Or.inl rfl) aj)
   (ai (eS Vr rfl (cK rfl T.range (aa (pv 0) ah af)) (aC (i:=2) gk.nd rfl (Or.inl rfl)) (ay (aG (i:=1) gk.nd rfl (Or.inl rfl) (aJ fQ (pv 1) aj))))
   (ay (aN (pv 1))))),?_⟩
 rw[sG]
 x_go
 refine⟨(m:Int),rfl,by omega,by omega,?_⟩
 rw[show((m:Int)).toNat=m from by omega]
 refine gX (n:=m) (fun i σ H'=>(∃x,σ=[some (.int m),some (.int (2^i)),x])/\H'=H) ⟨⟨_,rfl⟩,rfl⟩ ?_ ?_
 ·rintro i σ H' hi ⟨⟨x,rfl⟩,rfl⟩
  x_go
  exact⟨⟨_,by rw[VW]⟩,rfl⟩
 ·rintro σ H' ⟨⟨x,rfl⟩,rfl⟩
  x_go
  exact q
theorem xg {f:Addr}{fd:FuncData}(F:fz K "_law_key" "_law_key" lu f fd) (mF:mg "_law_key" = some (.ref f)) (bF:Binds K fd yi []) (T:Bl mg) (aF:FI P w K mg base) (jn:bJ P w K mg base "_law_far" CA 2 (oh K)) (jq:bJ P w K mg base "_law_power" ["_law_many"] 1 (kH K)):PV P w K mg base:=by
 refine bJ.of F mF bF jW (fun vs H Q E h=>?_) (fun _ A _ _ H vs Q E hr h=>?_)
 ·obtain⟨p,N,rfl,_⟩:=h;rfl
 obtain⟨p,N,rfl,hh,hN,q⟩:=h
 refine⟨_,(ai (aG (i:=1) jW.nd rfl (Or.inl rfl) (bP aF hr.mo (aa (pv 0) (aa aj ah aB) af)))
   (ai (aG (i:=2) jW.nd rfl (Or.inl rfl) (bP aF hr.mo (aa (pv 0) (aa (aY bG (cy (aa aj (aa aj (aa aj ah aB) aB) aB)) (bP aF hr.mo (aa (pv 0) (aa aj ah aB) af)) (fun _ _=>rfl)) ah aM) af)))
   (ai (bY (aL qb (pv 1) aj (aU _)) (ay (aN (pv 2))) bh)
   (ai (bY (aL dF (pv 1) aj (aU _)) (ay (aN (aJ iQ (aJ iQ (gj (c:=1152921504606846976) (by z_go) ⟨by decide,by decide,by decide⟩) aj) (pv 2)))) bh)
   (ai (bY (aL dF (pv 1) aj (aU _)) (ay (aN (aJ bB (pv 2) (bP jq hr.mo (aa (aJ bB aj (bP aF hr.mo (aa (pv 0) (aa aj ah aB) af))) ah br))))) bh)
   (ai (bY (aL dF (pv 1) aj (aU _)) (ay (aN (aJ bB (aJ cU (pv 2) aj) (aJ fQ aj (bP jn hr.mo (aa (pv 0) (aa (gj (c:=72057594037927936) (by z_go) ⟨by decide,by decide,by decide⟩) ah br) af)))))) bh)
   (ay (aN (bP jn hr.mo (aa (pv 0) (aa (gj (c:=1152921504606846976) (by z_go) ⟨by decide,by decide,by decide⟩) ah br) af)))))))))),?_⟩
 rw[wm]
 x_go
 refine⟨p,N,7,rfl,hh,by omega,by decide,by decide,fun way H1 w0 w1 hh1 k1=>?_⟩
 x_go
 refine⟨zs3,fun l nl=>?_⟩
 x_go
 have k2:=k1.trans (Kp.of (aI nl (.lst [V.int 4,V.int 16,V.int 200])) hh1)
 have hh2:=hh1.same (aI nl (.lst [V.int 4,V.int 16,V.int 200]))
 have hl:(upd H1 l (.lst [V.int 4,V.int 16,V.int 200])) l=some (.lst [V.int 4,V.int 16,V.int 200]):=ao
 have nlp:l≠p:=by
  obtain⟨l1,d,c,ns,h1,_⟩:=hh1.ex
  exact(ak h1 nl).symm
 generalize upd H1 l (.lst [V.int 4,V.int 16,V.int 200])=H2 at k2 hh2 hl ⊢
 refine⟨p,N+1,3,rfl,hh2,by omega,by decide,by decide,fun r H3 r0 r1 hh3 k3=>?_⟩
 have hl3:=k3.1 _ _ hl nlp
 obtain⟨b,hb,b0,b1⟩ : ∃b:Int,rA [V.int 4,V.int 16,V.int 200] r=some (.int b)/\0<b/\b<=200:=by
  have:r=0\/r=1\/r=2:=by omega
  rcases this with rfl|rfl|rfl
  ·exact⟨4,rfl,by decide,by decide⟩
  ·exact⟨16,rfl,by decide,by decide⟩
  ·exact⟨200,rfl,by decide,by decide⟩
 refine cJ (aW.of hl3) hb ?_
 x_go
 refine⟨p,N+1+1,b,rfl,hh3,by omega,b0,by omega,fun low H4 l0 l1 hh4 k4=>?_⟩
 have k5:=(k2.trans k3).trans k4
 x_go
 refine bM (fun c1=>?_) (fun c1=>?_)
 ·x_go
  exact q _ _ l0 (by omega) (hh4.mono (by omega)) k5
 x_go
 refine bM (fun c2=>?_) (fun c2=>?_)
 ·x_go
  exact q _ _ (by omega) (by omega) (hh4.mono (by omega)) k5
 x_go
 refine bM (fun c3=>?_) (fun c3=>?_)
 ·x_go
  refine⟨p,N+1+1+1,52,rfl,hh4,by omega,by decide,by decide,fun e H5 e0 e1 hh5 k6=>?_⟩
  x_go
  obtain⟨m,rfl⟩ : ∃m:Nat,e =(m:Int):=⟨e.toNat,by omega⟩
  refine⟨8+m,(by show [V.int (8+(m:Int))]=[V.int ((8+m:Nat):Int)];rw[show(8+(m:Int)) =((8+m:Nat):Int) by omega]),by omega,?_⟩
  x_go
  have h1:(2:Int)^(8+m)<=2^59:=lS (by omega)
  have h2:(0:Int)<2^(8+m):=Int.pow_pos (by decide)
  have h3:(2:Int)^59=576460752303423488:=by decide
  exact q _ _ (by omega) (by omega) (hh5.mono (by omega)) (k5.trans k6)
 x_go
 refine bM (fun c4=>?_) (fun c4=>?_)
 ·x_go
  refine⟨p,N+1+1+1,_,rfl,hh4,by omega,by decide,by decide,fun e H5 e0 e1 hh5 k6=>?_⟩
  x_go
  exact q _ _ (by omega) (by omega) (hh5.mono (by omega)) (k5.trans k6)
 ·x_go
  exact⟨p,N+1+1+1,_,rfl,hh4,by omega,by decide,by decide,fun e H5 e0 e1 hh5 k6=>q _ _ e0 e1 (hh5.mono (by omega)) (k5.trans k6)⟩
theorem rV {f:Addr} {fd:FuncData} (F:fz K "_law_thing" "_law_thing" gJ f fd) (mF:mg "_law_thing" = some (.ref f)) (bF:Binds K fd yi []) (T:Bl mg) (aF:FI P w K mg base) : Qc P w K mg base:=by
  refine bJ.of F mF bF kF (fun vs H Q E h=>?_) (fun _ A _ _ H vs Q E hr h=>?_)
  · obtain ⟨p,N,rfl,_⟩:=h; rfl
  obtain ⟨p,N,rfl,hh,hN,q⟩:=h
  refine ⟨_,(ai (aG (i:=1) kF.nd rfl (Or.inr rfl) bQ)
      (ay (aN (oB PySem.F.plainAttrs_str PySem.F.slot_str_join PySem.F.type_str_join GA bQ (aa (b7 rfl (cF (sc:=aq gJ) (N:=KP) (vs:=["_law_k"]) (fs:=["_law_letters", "_law_hand"]) (js:=[1,0]) (by z_go) rfl rfl) (cK rfl T.range (aa (aJ bB aj (bP aF hr.mo (aa (pv 0) (aa aj ah aB) af))) ah br)) (fun _ _ _ _=>aC (i:=0) (show (["_law_k", "_law_letters", "_law_hand"] : List Str).Nodup by z_go) rfl (Or.inl rfl)) (fun _ _ _ _=>gu) (fun _ _ _ _=>(aY LJ (pv 1) (bP aF hr.mo (aa (pv 2) (aa aj ah aB) af)) (fun _ _=>rfl)))) ah dN))))),?_⟩
  rw [sO]
  x_go
  refine ⟨rfl,?_⟩
  x_go
  refine ⟨p,_,8,rfl,hh,by omega,by decide,by decide,fun n H1 n0 n1 hh1 k1=>?_⟩
  x_go
  refine ⟨_,rfl,by omega,by omega,fun D nD=>?_⟩
  refine dB (n:=(1 + n).toNat) (fun j σ' ys H'=>(∃ x,σ' = [x,some (.str (Str.ofString "abcdefghijklmnopqrstuvwxyz")),some (.ref p)])/\(∃ zs:List Str,ys = zs.map V.str/\zs.length = j/\∀ y ∈ zs,y.length = 1/\∀ c ∈ y.cps,c < 128)/\j <= 8/\CK H1 p D (N + 1 + j) ys H') D ⟨⟨_,rfl⟩,⟨[],rfl,rfl,fun _ h=>(by cases h)⟩,by omega,CK.start hh1 nD⟩ ?_ ?_
  · rintro j σ' ys H2 hj ⟨⟨x,rfl⟩,⟨zs,rfl,zl,zc⟩,j8,ck⟩
    x_go
    refine ⟨p,_,26,rfl,ck.hh,by omega,by decide,by decide,fun v H3 v0 v1 hh3 k3=>?_⟩
    have ck:=ck.draw k3 hh3
    obtain ⟨c,hc,c1⟩:=Mk v0 v1
    refine Lj (by z_go) hc ?_
    refine ⟨ck.lat,by rw [Uv]; exact aE (by omega),⟨_,rfl⟩,⟨zs ++ [⟨#[c]⟩],by rw [UB]; rfl,by rw [Uz,zl]; rfl,fun y hy=>?_⟩,by omega,ck.push⟩
    rcases UG.mp hy with h | h
    · exact zc y h
    · have e:y = ⟨#[c]⟩:=by simpa using h
      subst e
      exact ⟨rfl, fun d hd => by have : d = c := by simpa using hd
                                 omega⟩
  · rintro σ' ys H2 ⟨⟨x,rfl⟩,⟨zs,rfl,zl,zc⟩,j8,ck⟩
    x_go
    refine ⟨_,D,zs,rfl,rfl,aW.of ck.lat,?_,?_⟩
    · rw [xH zs zc,show (Str.ofString "").length = 0 by decide]; omega
    obtain ⟨w1,w2⟩:=wY zs zc
    rw [O5]
    exact q _ _ (BD w2) (by rw [w1]; omega) (ck.hh.mono (by omega)) (k1.trans ck.kp)
theorem vZ {f:Addr}{fd:FuncData}(F:fz K "_law_keys" "_law_keys" jX f fd) (mF:mg "_law_keys" = some (.ref f)) (bF:Binds K fd CA []) (T:Bl mg) (cW:PV P w K mg base):bJ P w K mg base "_law_keys" CA 4 (mO K):=by
 refine bJ.of F mF bF fH (fun vs H Q E h=>?_) (fun _ A _ _ H vs Q E hr h=>?_)
 ·obtain⟨p,N,n,rfl,_⟩:=h;rfl
 obtain⟨p,N,n,rfl,hh,hN,n0,n1,q⟩:=h
 have e60:(2:Int)^60=1152921504606846976:=by decide
 refine⟨_,(ai (aG (i:=2) fH.nd rfl (Or.inl rfl) (cy ah))
   (ai (eS Vr rfl (cK rfl T.range (aa (pv 1) ah af)) (aC (i:=3) fH.nd rfl (Or.inl rfl)) (ai (aG (i:=4) fH.nd rfl (Or.inl rfl) (bP cW hr.mo (aa (pv 0) ah af)))
   (ai (jT Vr (aL gM (pv 4) (pv 2) (by with_unfolding_all rfl)) (ay (aG (i:=4) fH.nd rfl (Or.inl rfl) (aJ cU (aJ bB (pv 4) aj) (gj (c:=1152921504606846976) (by z_go) ⟨by decide,by decide,by decide⟩)))))
   (ay (iK (oB VX VR VS dQ (pv 2) (aa (pv 4) ah af)))))))
   (ay (aN (pv 2))))),?_⟩
 rw[u_]
 x_go
 refine⟨by decide,fun D nD=>?_⟩
 have ck:=CK.start (ys:=[]) hh nD
 generalize upd H D _=H1 at ck ⊢
 x_go
 refine⟨n,rfl,by omega,by omega,?_⟩
 refine gX (n:=n.toNat) (fun i σ H'=>(∃x1 x2,σ=[some (.ref p),some (.int n),some (.ref D),x1,x2])/\∃ns:List Int,ns.Nodup/\(∀k∈ns,0<=k/\k<1152921504606846976)/\ns.length=i/\CK H p D (N+20*i) (ns.map V.int) H') ⟨⟨_,_,rfl⟩,[],WR,by simp,rfl,ck⟩ ?_ ?_
 ·rintro i σ H2 hi ⟨⟨x1,x2,rfl⟩,ns,nd,bd,len,ck⟩
  x_go
  refine⟨p,_,rfl,ck.hh,by omega,fun v H3 v0 v1 hh3 k3=>?_⟩
  have ck:=ck.draw k3 hh3
  have hD:=ck.lat
  x_go
  obtain⟨m0,hm0⟩:=wF (ks:=ns) (by omega) v
  refine⟨fun m σ H'=>H'=H3/\∃v,σ=[some (.ref p),some (.int n),some (.ref D),some (.int (0+i)),some (.int v)]/\0<=v/\v<1152921504606846976/\(v+m)%1152921504606846976∉ns,⟨m0,rfl,v,rfl,v0,by omega,hm0⟩,?_⟩
  rintro m σ H' ⟨rfl,v,rfl,u0,u1,hm⟩
  x_go
  refine vK (aW.of hD) ?_
  x_go
  refine bM (fun c=>?_) (fun c=>?_)
  ·refine⟨_,fun σ' H'' h=>h,?_⟩
   x_go
   have hm1:m≠0:=fun e=>by
    subst e
    rw[show((0:Nat):Int)=0 from rfl,Int.add_zero,WD u0 u1]at hm
    exact hm c
   refine⟨m-1,by omega,rfl,(v+1)%1152921504606846976,rfl,by omega,by omega,?_⟩
   have e:((v+1)%1152921504606846976+((m-1:Nat):Int))%1152921504606846976 =(v+m)%1152921504606846976:=by omega
   rw[e];exact hm
  ·x_go
   refine⟨.inl ⟨rfl,_,aW.of hD⟩,?_⟩
   x_go
   refine⟨D,_,_,rfl,rfl,hD,by rw[Uv];exact aE (by omega),?_⟩
   x_go
   refine⟨⟨_,_,rfl⟩,ns ++ [v],?_,fun k hk=>?_,by rw[Uz,len];rfl,?_⟩
   ·rw[Vs]
    exact⟨nd,by simp,fun a ha b hb e=>by simp at hb;rw[hb]at e;exact c (e ▸ ha)⟩
   ·rcases UG.mp hk with z|z
    ·exact bd k z
    ·simp at z;rw[z];exact⟨u0,u1⟩
   ·rw[UB]
    exact ck.push
 ·rintro σ H2 ⟨⟨x1,x2,rfl⟩,ns,nd,bd,len,ck⟩
  x_go
  exact q D ns _ nD ck.lat nd (by omega) bd (ck.hh.mono (by omega)) ck.kp
theorem vp {f:Addr}{fd:FuncData}(F:fz K "_law_room" "_law_room" jO f fd) (mF:mg "_law_room" = some (.ref f)) (bF:Binds K fd LC []) (T:Bl mg)  : Kc P w K mg base:=by
 refine bJ.of F mF bF dY (fun vs H Q E h=>?_) (fun _ A _ _ H vs Q E hr h=>?_)
 ·obtain⟨k,R,rfl,_⟩:=h;rfl
 obtain⟨k,R,rfl,k0,k1,h1,h2,q⟩:=h
 have hl:=Az h1 h2
 have gl:=Au h1
 have gt:=Em h1
 refine⟨_,(ai (aG (i:=2) dY.nd rfl (Or.inl rfl) aj)
   (ai (aG (i:=3) dY.nd rfl (Or.inl rfl) aj)
   (ai (jT Vr (PW.pt (jH (aL xR (pv 0) aj (aU _)) (iz (aL qb (pv 3) (pv 1) (aU _))))) (ai (je (bY (PW.pt (jH (aL dF (aJ cU (pv 0) aj) aj (aU _)) (iz (aL qb (aJ bB (pv 2) (pv 3)) (pv 1) (aU _))))) (ay (aG (i:=2) dY.nd rfl (Or.inl rfl) (aJ bB (pv 2) (pv 3)))) bh))
   (ai (aG (i:=0) dY.nd rfl (Or.inl rfl) (aJ iZ (pv 0) aj))
   (ay (aG (i:=3) dY.nd rfl (Or.inl rfl) (aJ fQ (pv 3) aj))))))
   (ay (aN (pv 2)))))),?_⟩
 rw[we]
 x_go
 refine⟨fun m σ H'=>H'=H/\((∃j:Nat,σ=[some (.int (k / 2^j)),some (.int R),some (.int (k%2^j)),some (.int (2^j))]/\j<=lg R/\m=lg R+1-j) \/(σ=[some (.int (k / 2^(lg R+1))),some (.int R),some (.int (az k R)),some (.int (2^(lg R+1)))]/\m=0)),⟨lg R+1,rfl,.inl ⟨0,by simp,by omega,by omega⟩⟩,?_⟩
 rintro m σ H' ⟨rfl,⟨j,rfl,hj,rfl⟩|⟨rfl,rfl⟩⟩
 ·have pj:=fM j
  have pl:=lS hj
  have lo1:=VL k (b:=2^j) (by omega)
  have lo2:=VA k pj
  x_go
  refine bM (fun c=>?_) (fun c=>?_)
  ·x_go
   refine bM (fun c2=>?_) (fun c2=>?_)
   ·refine⟨_,fun σ' H'' h=>h,?_⟩
    have hp:=tw (k:=k) (j:=j)
    have hpl:=tw (k:=k) (j:=lg R)
    have ep:(2:Int)^(j+1)=2^j*2:=VW 2 j
    have small:j<lg R->(2:Int)^(j+1)<=2^lg R:=fun h=>lS h
    have fin:∀v:Int,v =(if j=lg R then az k R else k%2^(j+1))->∃m',m'<lg R+1-j/\(H'=H'/\((∃j':Nat,[some (V.int (k / 2^j / 2)),some (V.int R),some (V.int v),some (V.int (2^j*2))]=[some (.int (k / 2^j')),some (.int R),some (.int (k%2^j')),some (.int (2^j'))]/\j'<=lg R/\m'=lg R+1-j') \/([some (V.int (k / 2^j / 2)),some (V.int R),some (V.int v),some (V.int (2^j*2))]=[some (.int (k / 2^(lg R+1))),some (.int R),some (.int (az k R)),some (.int (2^(lg R+1)))]/\m'=0))):=fun v hv=>by
     have ed:k / 2^j / 2=k / 2^(j+1):=by rw[ep];exact Int.ediv_ediv_of_nonneg (show(0:Int)<=2^j by omega)
     rw[ed,<- ep,hv]
     by_cases z:j=lg R
     ·rw[UN z]
      exact⟨0,by omega,rfl,.inr ⟨by rw[z],rfl⟩⟩
     ·rw[UM z]
      exact⟨lg R+1-(j+1),by omega,rfl,.inl ⟨j+1,rfl,by omega,rfl⟩⟩
    x_go
    refine⟨fun σ' H''=>H''=H'/\σ'=[some (.int (k / 2^j)),some (.int R),some (.int (if j=lg R then az k R else k%2^(j+1))),some (.int (2^j))],?_,?_⟩
    ·x_go
     refine bM (fun b1=>?_) (fun b1=>?_)
     ·rw[b1,Int.mul_one]at hp
      x_go
      refine bM (fun b2=>?_) (fun b2=>?_)
      ·x_go
       refine⟨rfl,?_⟩
       have ev:k%2^j+2^j =(if j=lg R then az k R else k%2^(j+1)):=by
        split
        ·rename_i z
         unfold az
         rw[UM (by rw[<- z];omega),<- z,hp]
        ·exact hp.symm
       rw[ev]
      ·x_go
       refine⟨rfl,?_⟩
       have z:j=lg R:=by
        by_cases z:j=lg R
        ·exact z
        ·have:=small (by omega)
         omega
       have ev:k%2^j =(if j=lg R then az k R else k%2^(j+1)):=by
        rw[UN z]
        unfold az
        rw[UN (by rw[<- z];omega),<- z]
       rw[<- ev]
     ·have b0:k / 2^j%2=0:=by omega
      rw[b0,Int.mul_zero,Int.add_zero]at hp
      x_go
      refine⟨rfl,?_⟩
      have ev:k%2^j =(if j=lg R then az k R else k%2^(j+1)):=by
       split
       ·rename_i z
        unfold az
        split
        ·rw[z]
        ·rw[<- z,hp]
       ·exact hp.symm
      rw[<- ev]
    ·rintro σ' H'' ⟨rfl,rfl⟩
     x_go
     exact fin _ rfl
   ·x_go
    have z:j=lg R:=by
     by_cases z:j=lg R
     ·exact z
     ·have m:=lS (show j+1<=lg R by omega)
      rw[VW]at m
      omega
    unfold az at q
    rw[UN (by rw[<- z];omega),<- z]at q
    exact q
  ·x_go
   have e1:=zf (i:=j) (j:=j) k0 (by omega) (UE _)
   have e2:=zf (i:=lg R) (j:=j) k0 (by omega) hj
   have e3:=zf (i:=lg R+1) (j:=j) k0 (by omega) (by omega)
   unfold az at q
   rw[e2,e3]at q
   rw[e1]
   split at q <;> exact q
 ·x_go
  refine bM (fun c=>?_) (fun c=>?_)
  ·x_go
   refine bM (fun c2=>absurd c2 (by omega)) (fun c2=>?_)
   x_go
   exact q
  ·x_go
   exact q
theorem yG {f:Addr}{fd:FuncData}(F:fz K "_law_cut" "_law_cut" ly f fd) (mF:mg "_law_cut" = some (.ref f)) (bF:Binds K fd E9 []) (T:Bl mg)  : bJ P w K mg base "_law_cut" E9 1 (nP K):=by
 refine bJ.of F mF bF ig (fun vs H Q E h=>?_) (fun _ A _ _ H vs Q E hr h=>?_)
 ·obtain⟨w,a,ts,es,rfl,_⟩:=h;rfl
 obtain⟨w,a,ts,es,rfl,ha,el,nd,esl,w1,w2,q⟩:=h
 have tl:=el.1
 have er:=el.row
 refine⟨_,(ai (aG (i:=2) ig.nd rfl (Or.inl rfl) (aV kR rfl T.sorted iV (aa (pv 1) ah af)))
   (ai (aG (i:=3) ig.nd rfl (Or.inl rfl) (cy (aa (cC cX (pv 2) dw (cR (pv 0))) ah aM)))
   (ai (jT Vr (aL xR (aV aZ rfl T.len cj (aa (pv 2) ah af)) (pv 0) (aU _)) (ai (aG (i:=2) ig.nd rfl (Or.inl rfl) (cC cX (pv 2) (cR (pv 0)) dw))
   (ay (iK (oB VX VR VS dQ (pv 3) (aa (cC cX (pv 2) dw (cR (pv 0))) ah aM))))))
   (ay (aN (pv 3)))))),?_⟩
 rw[xU]
 x_go
 have hNd:(ts.map (kE H)).Nodup:=by rw[<- fZ,er];exact nd
 refine⟨a,ts,kE H,rfl,aW.of ha,by omega,fun t ht=>?_,zh hNd,fun us l p1 p2 nl=>?_⟩
 ·obtain⟨t',et,ht',_⟩:=(el.en (.ref t) (UC.mpr ⟨t,ht,rfl⟩)).pt
  cases et
  exact⟨_,ht'⟩
 generalize hE:upd H l _=H1
 obtain⟨hl,s1⟩:=bg nl hE
 clear hE
 have ul:us.length<=190:=by rw[p1.length_eq];omega
 x_go
 refine e_ (aW.of hl) fun r0 nr0=>?_
 rw[dO]
 generalize hE:upd H1 r0 _=H2
 obtain⟨hr0,s2⟩:=bg nr0 hE
 clear hE
 x_go
 refine⟨zs1,fun D nD=>?_⟩
 generalize hE:upd H2 D _=H3
 obtain⟨hD,s3⟩:=bg nD hE
 clear hE
 have s03:=(s1.trans s2).trans s3
 have q':∀(l:Addr) (H':Hp),H l=none->EO H H' l (dm (us.map V.ref) w)->aO H H'->Q (.ref l) H':=fun l H' n1 n2 n3=>q l us H' n1 p1 (by
  have:(us.map V.ref).map (eD H)=us.map (fun t=>eD H (.ref t)):=by rw[Vo];rfl
  unfold aH
  rw[this,Ve]
  exact p2) n2 n3
 clear q
 have D0:H D=none:=(s1.trans s2).free nD
 x_go
 refine⟨fun m σ H'=>∃(i:Nat) (b:Addr) (as:List Addr),σ=[some (.int w),some (.ref a),some (.ref b),some (.ref D)]/\aO H H'/\m=us.length-i*w/\H' b=some (.lst ((us.drop (i*w)).map V.ref))/\H' D=some (.lst (as.map V.ref))/\b≠D/\as.length=i+1/\(∀(k:Nat) (c:Addr) (es:List V),as[k]? = some c->(jd (us.map V.ref) w (i+1))[k]? = some es->H' c=some (.lst es))/\as.Nodup/\(∀c∈as,H c=none/\c≠D/\∃o,H' c=some o)/\(i=0\/i*w<us.length),?_,?_⟩
 ·refine⟨_,0,l,[r0],rfl,s03,rfl,by simpa using (s2.trans s3) _ _ hl,hD,?_,rfl,?_,by simp,?_,.inl rfl⟩
  ·intro z;rw[z]at hl;rw[s2 _ _ hl]at nD;cases nD
  ·intro k c es e1 e2
   cases k with
   | zero =>
    cases e1
    unfold jd at e2
    simp at e2
    rw[<- e2,<- W3]
    exact s3 _ _ hr0
   | succ k=>simp at e1
  ·intro c hc
   rw[UR.mp hc]
   exact⟨s1.free nr0,(fun z=>by rw[z]at hr0;rw[hr0]at nD;cases nD),_,s3 _ _ hr0⟩
 ·rintro m σ H' ⟨i,b,as,rfl,s4,rfl,hb,hD4,bD,al,hrow,hnd,hnew,hi⟩
  have dl:((us.drop (i*w)).map V.ref).length=us.length-i*w:=by rw[Uv,Vt]
  have mulw:(i+1)*w=i*w+w:=Nat.succ_mul i w
  have mulw2:(i+2)*w=i*w+w+w:=by rw[Nat.succ_mul (i+1) w,mulw]
  x_go
  rw[dl]
  refine bM (fun c=>?_) (fun c=>?_)
  ·refine⟨_,fun σ' H'' h=>h,?_⟩
   have c':w<us.length-i*w:=by omega
   x_go
   refine e_ (aW.of hb) fun b2 nb2=>?_
   rw[uG,XE]
   generalize hE:upd H' b2 _=H5
   obtain⟨hb2,s5⟩:=bg nb2 hE
   clear hE
   x_go
   refine⟨.inl ⟨rfl,_,aW.of (s5 _ _ hD4)⟩,?_⟩
   x_go
   refine e_ (aW.of hb2) fun r nr=>?_
   rw[dO]
   generalize hE:upd H5 r _=H6
   obtain⟨hr6,s6⟩:=bg nr hE
   clear hE
   have hD6:=s6 _ _ (s5 _ _ hD4)
   have ib:i<190:=by
    have:i*1<=i*w:=Nat.mul_le_mul_left _ w1
    omega
   x_go
   refine⟨D,_,_,rfl,rfl,hD6,by rw[Uv];exact aE (by omega),?_⟩
   have rD:r≠D:=fun z=>by rw[z]at nr;rw[s5 _ _ hD4]at nr;cases nr
   have b2D:b2≠D:=fun z=>by rw[z,hD4]at nb2;cases nb2
   have rn:H r=none:=(s4.trans s5).free nr
   x_go
   refine⟨_,?_,i+1,b2,as ++ [r],rfl,fun c o e=>?_,rfl,?_,?_,b2D,by rw[Uz,al];rfl,?_,?_,?_,.inr (by omega)⟩
   ·omega
   ·rw[av (ak e D0)];exact s6 _ _ (s5 _ _ (s4 _ _ e))
   ·rw[av b2D,mulw];exact s6 _ _ hb2
   ·rw[ao,UB];rfl
   ·intro k c es e1 e2
    rw[nX]at e2
    by_cases z:k<as.length
    ·rw[UO z]at e1
     rw[UO (by rw[dI];omega)]at e2
     rw[av (hnew c (UA e1)).2.1];exact s6 _ _ (s5 _ _ (hrow k c es e1 e2))
    ·have kl:=(Ux.mp e1).1
     rw[Uz]at kl
     have hk:k=as.length:=by have:[r].length=1:=rfl;omega
     subst hk
     rw[UL (UE _),Wa]at e1
     rw[UL (by rw[dI];omega),dI,al,Wa]at e2
     have ec:r=c:=US e1
     have ee:=US e2
     subst ec
     rw[av rD,<- ee,hr6,W3,List.map_drop,mulw]
   ·rw[Vs]
    refine⟨hnd,by simp,fun x hx y hy z=>?_⟩
    rw[UR.mp hy]at z
    obtain⟨o,ho⟩:=(hnew x hx).2.2
    rw[z]at ho;rw[s5 _ _ ho]at nr;cases nr
   ·intro c hc
    rcases UG.mp hc with z|z
    ·obtain⟨g1,g2,o,g3⟩:=hnew c z
     exact⟨g1,g2,o,by rw[av g2];exact s6 _ _ (s5 _ _ g3)⟩
    ·rw[UR.mp z]
     exact⟨rn,rD,_,by rw[av rD];exact hr6⟩
  ·x_go
   refine q' D H' D0 ⟨as,hD4,?_,?_,hnd,fun c hc=>⟨(hnew c hc).1,(hnew c hc).2.1⟩⟩ s4
   ·unfold dm
    rw[dI,Uv,AS w1 (i:=i) (by omega) hi,al]
   ·unfold dm
    rw[Uv,AS w1 (i:=i) (by omega) hi]
    exact hrow
theorem r9 {f:Addr}{fd:FuncData}(F:fz K "_law_clean" "_law_clean" fP f fd) (mF:mg "_law_clean" = some (.ref f)) (bF:Binds K fd Kw []) (T:Bl mg) (lH:bJ P w K mg base "_law_cut" E9 1 (nP K)) (fc:Kc P w K mg base):JB P w K mg base:=by
 refine bJ.of F mF bF iN (fun vs H Q E h=>?_) (fun _ A _ _ H vs Q E hr h=>?_)
 ·obtain⟨w,R,a,ts,es,rfl,_⟩:=h;rfl
 obtain⟨w,R,a,ts,es,rfl,ha,el,nd,esl,w1,w2,r1,r2,q⟩:=h
 have tl:=el.1
 refine⟨_,(ai (eN (i:=3) iN.nd rfl rfl rfl (cF (sc:=aq fP) (N:=PR) (vs:=["_law_k"]) (fs:=[]) (js:=[]) (by z_go) rfl rfl) (cK rfl T.range (aa (pv 1) ah af)) (fun _ _ _ _=>aC (i:=0) (show(["_law_k"]:List Str).Nodup by z_go) rfl (Or.inl rfl)) (fun _ _ _ _=>gu) (fun _ _ _ _=>(cy ah)))
   (ai (eS Vr rfl (bu (pv 2)) (aC (i:=4) iN.nd rfl (Or.inl rfl)) (ay (iK (oB VX VR VS dQ (aY bG (pv 3) (bP fc hr.mo (aa (aY b8 (pv 4) aj (fun _ _=>rfl)) (aa (pv 1) ah af) aM)) (fun _ _=>rfl)) (aa (pv 4) ah af)))))
   (ay (aN (bW (aa (pv 0) (aa (pv 1) (aa (b7 rfl (cF (sc:=aq fP) (N:=PR) (vs:=["_law_part"]) (fs:=["_law_wide"]) (js:=[0]) (by z_go) rfl rfl) (bu (pv 3)) (fun _ _ _ _=>aC (i:=0) (show(["_law_part", "_law_wide"]:List Str).Nodup by z_go) rfl (Or.inl rfl)) (fun _ _ _ _=>gu) (fun _ _ _ _=>(bP lH hr.mo (aa (pv 1) (aa (pv 0) ah af) af)))) ah dN) af) af)))))),?_⟩
 rw[rQ]
 x_go
 refine⟨R,rfl,by omega,by omega,fun D nD=>?_⟩
 rw[VU]
 refine dB (n:=R) (fun i σ' ys H'=>(∃x,σ'=[x])/\aO H H'/\∃as:List Addr,ys=as.map V.ref/\H' D=some (.lst ys)/\as.length=i/\(∀b∈as,H' b=some (.lst []))/\as.Nodup/\∀b∈as,H b=none/\b≠D) D ⟨⟨_,rfl⟩,aI nD _,[],rfl,ao,rfl,fun _ h=>by(cases h),WR,fun _ h=>by(cases h)⟩ ?_ ?_
 ·rintro i σ' ys H1 hi ⟨⟨x,rfl⟩,s1,as,rfl,hD,al,hL,hn,h4⟩
  x_go
  refine⟨by decide,fun b nb=>?_⟩
  generalize hE:upd H1 b _=H2
  obtain⟨hb,s2⟩:=bg nb hE
  clear hE
  have bD:b≠D:=by intro e;rw[e,hD]at nb;cases nb
  have bas:b∉as:=fun m=>by rw[hL b m]at nb;cases nb
  refine⟨s2 _ _ hD,by rw[Uv,al];exact aE (by omega),⟨_,rfl⟩,fun c o e=>?_,as ++ [b],by rw[UB];rfl,ao,by rw[Uz,al];rfl,fun c hc=>?_,?_,fun c hc=>?_⟩
  ·rw[av (ak e nD)];exact s2 _ _ (s1 _ _ e)
  ·rcases UG.mp hc with m|m
   ·rw[av (h4 c m).2];exact s2 _ _ (hL c m)
   ·rw[UR.mp m,av bD];exact hb
  ·rw[Vs]
   exact⟨hn,by simp,fun x hx y hy e=>by simp at hy;rw[hy]at e;exact bas (e ▸ hx)⟩
  ·rcases UG.mp hc with m|m
   ·exact h4 c m
   ·rw[UR.mp m];exact⟨s1.free nb,bD⟩
 ·rintro σ' ys H1 ⟨⟨x,rfl⟩,s1,as,rfl,hD,al,hL,hn,h4⟩
  x_go
  refine⟨a,rfl,⟨_,aW.of (s1 _ _ ha)⟩,?_⟩
  have aas:∀b∈as,b≠a:=fun b m z=>by have:=(h4 b m).1;rw[z,ha]at this;cases this
  refine fX (xs:=ts.map V.ref) (fun i σ H'=>(∃x,σ=[some (.int w),some (.int R),some (.ref a),some (.ref D),x])/\aO H H'/\H' D=some (.lst (as.map V.ref))/\∀(j:Nat) (b:Addr),as[j]? = some b->H' b=some (.lst (((ts.take i).filter fun t=>decide (az (kE H t) R =(j:Int))).map V.ref))) ⟨⟨_,rfl⟩,s1,hD,fun j b e=>by simpa using hL b (UA e)⟩ (fun _ _ _ _ h=>aW.of (h.2.1 _ _ ha)) ?_ ?_
  ·rintro i x σ H3 hx ⟨⟨x1,rfl⟩,s3,hD3,hL3⟩
   obtain⟨t,ht,rfl⟩:=b9 hx
   have il:=(Ux.mp ht).1
   obtain⟨e,he,het,_,k0,k1,_⟩:=el.get ht
   have hk:kE H t=e.1:=by unfold kE;rw[oA het]
   have rb:=bU (k:=e.1) (R:=R) (by omega)
   obtain⟨j,hj,jl⟩ : ∃j:Nat,az e.1 R =(j:Int)/\j<R:=⟨(az e.1 R).toNat,by omega,by omega⟩
   obtain⟨b,hb⟩ : ∃b,as[j]? = some b:=⟨_,Uy (show j<as.length by omega)⟩
   have hm:=UA hb
   have hbr:=hL3 j b hb
   x_go
   refine zC (iM.of (s3 _ _ het)) AN ?_
   x_go
   refine⟨e.1,R,rfl,k0,by omega,by omega,by omega,?_⟩
   rw[hj]
   refine cJ (aW.of hD3) (gf hb) ?_
   x_go
   refine⟨.inl ⟨rfl,_,aW.of hbr⟩,?_⟩
   x_go
   refine⟨b,_,_,rfl,rfl,hbr,?_,?_⟩
   ·rw[Uv]
    refine aE (UP (UY _ _) ?_)
    rw[UH];omega
   x_go
   refine⟨⟨_,rfl⟩,fun c o e=>?_,?_,fun j' b' e'=>?_⟩
   ·rw[av (ak e (h4 b hm).1)];exact s3 _ _ e
   ·rw[av (h4 b hm).2.symm];exact hD3
   ·rw[aX ht,VQ,V2,hk,hj]
    by_cases z:j=j'
    ·subst z
     have:b=b':=by rw[hb]at e';exact US e'
     subst this
     rw[ao,UN (U8 rfl),UB];rfl
    ·have:b'≠b:=fun w=>by
      subst w
      exact z ((List.getElem?_inj (Ux.mp hb).1 hn).mp (hb.trans e'.symm))
     rw[av this,UM (by simp;omega)]
     simpa using hL3 j' b' e'
  ·rintro σ H3 ⟨⟨x1,rfl⟩,s3,hD3,hL3⟩
   rw[Uv,Va]at hL3
   have el3:=el.same s3
   have kk:∀t∈ts,kE H3 t=kE H t:=fun t ht=>by
    unfold kE
    rw[(el.en (.ref t) (UC.mpr ⟨t,ht,rfl⟩)).eD fun _ _ e=>s3 _ _ e]
   have hL3':∀(j:Nat) (b:Addr),as[j]? = some b->H3 b=some (.lst ((ts.filter fun t=>decide (az (kE H3 t) R =(j:Int))).map V.ref)):=fun j b e=>by
    rw[hL3 j b e]
    congr 3
    apply XM
    intro t ht
    rw[kk t ht]
   clear hL3 kk
   x_go
   refine⟨D,rfl,⟨_,aW.of hD3⟩,fun D2 nD2=>?_⟩
   refine bf (xs:=as.map V.ref) (fun i σ' ys H'=>(∃x,σ'=[x,some (.int w)])/\aO H3 H'/\H' D2=some (.lst ys)/\∃(ls:List Addr) (uss:List (List Addr)),ys=ls.map V.ref/\ls.length=i/\uss.length=i/\∀(j:Nat) (l:Addr) (us:List Addr),ls[j]? = some l->uss[j]? = some us->us.Perm (ts.filter fun t=>decide (az (kE H3 t) R =(j:Int)))/\((aH H3 (us.map V.ref)).Pairwise fun a b=>a.1<=b.1)/\rK (hid D2 H') l (dm (us.map V.ref) w)) D2 ⟨⟨_,rfl⟩,aI nD2 _,ao,[],[],rfl,rfl,rfl,fun j l us e=>by simp at e⟩ (fun i σ' ys H' _ h=>aW.of (h.2.1 _ _ hD3)) ?_ ?_
   ·rintro i x σ' ys H4 hx ⟨⟨x1,rfl⟩,s4,hD2,ls,uss,rfl,ll,ul,hu⟩
    obtain⟨b,hb,rfl⟩:=b9 hx
    have il:=(Ux.mp hb).1
    have hb4:=s4 _ _ (hL3' i b hb)
    have el4:=el3.same s4
    have enf:∀v∈(ts.filter fun t=>decide (az (kE H3 t) R =(i:Int))).map V.ref,En H4 v:=fun v hv=>by
     obtain⟨t,ht,rfl⟩:=UC.mp hv
     exact el4.en _ (UC.mpr ⟨t,(Vm.mp ht).1,rfl⟩)
    obtain⟨ts',e1,e2⟩:=EL.of enf
    have et:ts'=ts.filter fun t=>decide (az (kE H3 t) R =(i:Int)):=(List.map_inj_right (fun a b e=>by cases e;rfl)).mp e1.symm
    subst et
    have fl:(ts.filter fun t=>decide (az (kE H3 t) R =(i:Int))).length<=63:=UP (UY _ _) (by omega)
    have fn:((aH H4 ((ts.filter fun t=>decide (az (kE H3 t) R =(i:Int))).map V.ref)).map (·.1)).Nodup:=by
     rw[fZ]
     have:(ts.map (kE H4)).Nodup:=by rw[<- fZ,el4.row];exact nd
     exact this.sublist (List.filter_sublist.map _)
    x_go
    refine⟨w,b,_,_,rfl,hb4,e2,fn,by rw[<- e2.1];exact fl,w1,w2,fun l us H5 nl p1 p2 rn s5=>?_⟩
    have lD:l≠D2:=fun z=>by rw[z,hD2]at nl;cases nl
    have hid5:rK (hid D2 H5) l (dm (us.map V.ref) w):=by
     obtain⟨as5,g1,g2,g3,_,g4⟩:=rn
     exact⟨as5,by rw[fL lD];exact g1,g2,fun k c es c1 c2=>by
      have nb:=(g4 c (UA c1)).1
      rw[fL (fun z=>by rw[z,hD2]at nb;cases nb)]
      exact g3 k c es c1 c2⟩
    have p2':(aH H3 (us.map V.ref)).Pairwise fun a b=>a.1<=b.1:=by
     rw[bZ (fun _ _ e=>s4 _ _ e) (fun v hv=>by
      obtain⟨t,ht,rfl⟩:=UC.mp hv
      exact el3.en _ (UC.mpr ⟨t,(Vm.mp (p1.mem_iff.mp ht)).1,rfl⟩))]at p2
     exact p2
    refine⟨s5 _ _ hD2,by rw[Uv];exact aE (by omega),⟨_,rfl⟩,fun c o e=>?_,ao,ls ++ [l],uss ++ [us],by rw[UB];rfl,by rw[Uz,ll];rfl,by rw[Uz,ul];rfl,?_⟩
    ·rw[av (ak e nD2)];exact s5 _ _ (s4 _ _ e)
    ·rw[iw]
     exact GG (p:=fun j l us=>us.Perm (ts.filter fun t=>decide (az (kE H3 t) R =(j:Int)))/\((aH H3 (us.map V.ref)).Pairwise fun a b=>a.1<=b.1)/\rK (hid D2 H5) l (dm (us.map V.ref) w)) ll ul (fun j l us c1 c2=>by
      obtain⟨g1,g2,g3⟩:=hu j l us c1 c2
      exact⟨g1,g2,g3.same (cT s5)⟩) ⟨p1,p2',hid5⟩
   ·rintro σ' ys H4 ⟨⟨x1,rfl⟩,s4,hD2,ls,uss,rfl,ll,ul,hu⟩
    rw[Uv,al]at ll ul
    x_go
    refine⟨zs3,fun t nt=>?_⟩
    generalize hE:upd H4 t _=H5
    obtain⟨ht,s5⟩:=bg nt hE
    clear hE
    have s35:=s4.trans s5
    have kk:∀t∈ts,kE H5 t=kE H3 t:=fun t ht=>by
     unfold kE
     rw[(el3.en (.ref t) (UC.mpr ⟨t,ht,rfl⟩)).eD fun _ _ e=>s35 _ _ e]
    obtain⟨X,x1,x2,x3,x4⟩:=DQ (H:=H5) (h:=D2) (ls:=ls) (uss:=uss) (el3.same s35) nd esl w1 r1 r2 (s5 _ _ hD2) ll ul fun j l us c1 c2=>by
     obtain⟨g1,g2,g3⟩:=hu j l us c1 c2
     refine⟨?_,?_,(g3.same fJ).same s5⟩
     ·rw[show(ts.filter fun t=>decide (az (kE H5 t) R =(j:Int)))=ts.filter fun t=>decide (az (kE H3 t) R =(j:Int)) from XM fun t ht=>by rw[kk t ht]]
      exact g1
     ·rw[bZ (fun _ _ e=>s35 _ _ e) (fun v hv=>by
       obtain⟨t,ht,rfl⟩:=UC.mp hv
       exact el3.en _ (UC.mpr ⟨t,(Vm.mp (g1.mem_iff.mp ht)).1,rfl⟩))]
      exact g2
    exact q t X H5 ⟨D2,ht,x1,x2,x3⟩ x4 (s3.trans s35)
theorem wc {f:Addr}{fd:FuncData}(F:fz K "_law_copy" "_law_copy" iG f fd) (mF:mg "_law_copy" = some (.ref f)) (bF:Binds K fd zV []) (T:Bl mg)  : PN P w K mg base:=by
 refine bJ.of F mF bF vz (fun vs H Q E h=>?_) (fun _ A _ _ H vs Q E hr h=>?_)
 ·obtain⟨y,w,R,X,rfl,_⟩:=h;rfl
 obtain⟨y,w,R,X,rfl,⟨h0,hy,⟨bs0,hh0,hP0⟩,hen,sz⟩,q⟩:=h
 refine⟨_,(ay (aN (bW (aa (aY b8 (pv 0) aj (fun _ _=>rfl)) (aa (aY b8 (pv 0) aj (fun _ _=>rfl)) (aa (b7 rfl (cF (sc:=aq iG) (N:=zV) (vs:=["_law_rows"]) (fs:=[]) (js:=[]) (by z_go) rfl rfl) (bu (aY b8 (pv 0) aj (fun _ _=>rfl))) (fun _ _ _ _=>aC (i:=0) (show(["_law_rows"]:List Str).Nodup by z_go) rfl (Or.inl rfl)) (fun _ _ _ _=>gu) (fun _ _ _ _=>(b7 rfl (yZ (N:=["_law_rows"]) (vs:=["_law_row"]) (fs:=[]) (js:=[]) rfl rfl (by kernel_rfl)) (mw (K:=K) rfl (pv 0)) (fun _ _ _ _=>aC (i:=0) (show(["_law_row"]:List Str).Nodup by z_go) rfl (Or.inl rfl)) (fun _ _ _ _=>gu) (fun _ _ _ _=>(dg (rO (K:=K) rfl) rfl T.list l7 (aa (pv 0) ah af)))))) ah dN) aM) aM)))),?_⟩
 rw[uJ]
 x_go
 refine⟨h0,rfl,⟨_,aW.of hh0⟩,fun D nD=>?_⟩
 refine bf (xs:=bs0.map V.ref) (fun i σ' ys H'=>(∃x,σ'=[x])/\aO H H'/\∃cs:List Addr,ys=cs.map V.ref/\T3 (fun b=>H b=none) H' D cs (X.take i)) D ⟨⟨_,rfl⟩,aI nD _,[],rfl,nD,ao,WR,(fun z=>by cases z),P1.nil⟩ (fun i σ' ys H' _ h=>aW.of (h.2.1 _ _ hh0)) ?_ ?_
 ·rintro i x σ' ys H1 hx ⟨⟨x1,rfl⟩,s1,cs,rfl,t1⟩
  obtain⟨b,hb,rfl⟩:=b9 hx
  obtain⟨rows,hxi,_,as,hb1,hA⟩:=hP0.get hb
  have il:=(Ux.mp hb).1
  have bl0:=hP0.1
  have szr:=(sz.2 rows (UA hxi)).1
  have al:=hA.1
  have hD1:=t1.2.1
  x_go
  refine⟨b,rfl,⟨_,aW.of (s1 _ _ hb1)⟩,fun D' nD'=>?_⟩
  obtain⟨nDD,_⟩:=t1.new nD'
  refine bf (xs:=as.map V.ref) (fun j σ' ys H'=>(∃x,σ'=[x])/\aO H1 H'/\∃cs':List Addr,ys=cs'.map V.ref/\H' D'=some (.lst ys)/\P1 (fun a es=>H1 a=none/\a≠D'/\H' a=some (.lst es)) cs' (rows.take j)) D' ⟨⟨_,rfl⟩,aI nD' _,[],rfl,ao,P1.nil⟩ (fun i σ' ys H' _ h=>aW.of (h.2.1 _ _ (s1 _ _ hb1))) ?_ ?_
  ·rintro j x σ' ys H2 hx ⟨⟨x2,rfl⟩,s2,cs',rfl,hD',hC⟩
   obtain⟨a,ha,rfl⟩:=b9 hx
   obtain⟨es,hes,_,ha1⟩:=hA.get ha
   have jl:=(Ux.mp ha).1
   have cl:=hC.1
   rw[UH]at cl
   x_go
   refine BL (aW.of (s2 _ _ (s1 _ _ ha1))) fun e ne=>?_
   generalize hE:upd H2 e _=H3
   obtain⟨he,s3⟩:=bg ne hE
   clear hE
   have eD:e≠D':=fun z=>by rw[z,hD']at ne;cases ne
   refine⟨s3 _ _ hD',by rw[Uv];exact aE (by omega),⟨_,rfl⟩,fun c o e=>by rw[av (ak e nD')];exact s3 _ _ (s2 _ _ e),cs' ++ [e],by rw[UB];rfl,ao,?_⟩
   rw[aX hes]
   refine(hC.imp fun a es t=>⟨t.1,t.2.1,?_⟩).snoc ⟨s2.free ne,eD,?_⟩
   ·rw[av eD];exact he
   ·rw[av t.2.1];exact s3 _ _ t.2.2
  ·rintro σ' ys H2 ⟨⟨x2,rfl⟩,s2,cs',rfl,hD',hC⟩
   rw[Uv,al,Va]at hC
   have hD2:=s2 _ _ hD1
   have cl:=t1.2.2.2.2.1
   rw[UH]at cl
   x_go
   refine⟨hD2,by rw[Uv];exact aE (by have:=sz.1;omega),⟨_,rfl⟩,fun c o e=>by rw[av (ak e nD)];exact s2 _ _ (s1 _ _ e),cs ++ [D'],by rw[UB];rfl,?_⟩
   rw[aX hxi]
   refine t1.add (fun b o n e=>by rw[av n];exact s2 _ _ e) (by rw[ao,UB];rfl) nD' (s1.free nD') (by rw[av nDD];exact hD') (hC.imp fun a es t=>⟨s1.free t.1,t.1,t.2.1,?_⟩)
   rw[av (t1.new t.1).1];exact t.2.2
 rintro σ' ys H1 ⟨⟨x1,rfl⟩,s1,cs,rfl,t1⟩
 rw[Uv,hP0.1,Va]at t1
 x_go
 refine⟨zs3,fun t nt=>?_⟩
 generalize hE:upd H1 t _=H2
 obtain⟨ht,s2⟩:=bg nt hE
 clear hE
 exact q t D cs H2 (s1.free nt) ht (t1.same s2) (s1.trans s2)
theorem u7 {f:Addr}{fd:FuncData}(F:fz K "_law_done" "_law_done" fj f fd) (mF:mg "_law_done" = some (.ref f)) (bF:Binds K fd IY []) (T:Bl mg) (cN:PN P w K mg base):KJ P w K mg base:=by
 refine bJ.of F mF bF bR (fun vs H Q E h=>?_) (fun _ A _ _ H vs Q E hr h=>?_)
 ·obtain⟨y,s0,w,R,X,st,rfl,_⟩:=h;rfl
 obtain⟨y,s0,w,R,X,st,rfl,hy,hs,q⟩:=h
 have hu:=hr.units
 obtain⟨_,_,_,hen,sz⟩:=id hy
 have henM:=hen.mid hs
 refine⟨_,(ai (eO (bP cN hr.mo (aa (pv 0) ah af)) (dM rfl (aK (aC (i:=2) bR.nd rfl (Or.inl rfl)) (aK (aC (i:=3) bR.nd rfl (Or.inl rfl)) (aK (aC (i:=4) bR.nd rfl (Or.inr rfl)) b6)))))
   (ai (je (bY (aL dF (aY b8 (pv 1) aj (fun _ _=>rfl)) bQ (aU _)) (ay (aG (i:=3) bR.nd rfl (Or.inl rfl) (aY b8 (pv 1) aj (fun _ _=>rfl)))) (ay (bY (PW.pt (jH (aL dF (aY b8 (pv 1) aj (fun _ _=>rfl)) bQ (aU _)) (iz (aL qb (aY b8 (pv 1) aj (fun _ _=>rfl)) (aV aZ rfl T.len cj (aa (pv 4) ah af)) (aU _))))) (ay (eO (cC cX (aY bG (pv 4) (aY b8 (pv 1) aj (fun _ _=>rfl)) (fun _ _=>rfl)) dw (cR (aY b8 (pv 1) aj (fun _ _=>rfl)))) (zW (pv 4) (aY b8 (pv 1) aj (fun _ _=>rfl)) set_list))) (ay (bY (aL dF (aY b8 (pv 1) aj (fun _ _=>rfl)) bQ (aU _)) (ai (aG (i:=4) bR.nd rfl (Or.inr rfl) (aJ fV (pv 4) (b7 rfl (cF (sc:=aq fj) (N:=OI) (vs:=["_law_k"]) (fs:=[]) (js:=[]) (by z_go) rfl rfl) (cK rfl T.range (aa (aJ iQ (aJ bB (aY b8 (pv 1) aj (fun _ _=>rfl)) aj) (aV aZ rfl T.len cj (aa (pv 4) ah af))) ah br)) (fun _ _ _ _=>aC (i:=0) (show(["_law_k"]:List Str).Nodup by z_go) rfl (Or.inl rfl)) (fun _ _ _ _=>gu) (fun _ _ _ _=>(cy ah)))))
   (ai (aG (i:=5) bR.nd rfl (Or.inl rfl) (aY bG (pv 4) (aY b8 (pv 1) aj (fun _ _=>rfl)) (fun _ _=>rfl)))
   (ai (aG (i:=5) bR.nd rfl (Or.inl rfl) (aJ fV (pv 5) (b7 rfl (cF (sc:=aq fj) (N:=OI) (vs:=["_law_k"]) (fs:=[]) (js:=[]) (by z_go) rfl rfl) (cK rfl T.range (aa (aJ iQ (aJ bB (aY b8 (pv 1) aj (fun _ _=>rfl)) aj) (aV aZ rfl T.len cj (aa (pv 5) ah af))) ah br)) (fun _ _ _ _=>aC (i:=0) (show(["_law_k"]:List Str).Nodup by z_go) rfl (Or.inl rfl)) (fun _ _ _ _=>gu) (fun _ _ _ _=>(cy ah)))))
   (ay (eO (aJ fV (aJ fV (cC cX (pv 5) dw (cR (aY b8 (pv 1) aj (fun _ _=>rfl)))) (cy (aa (dg l5 rfl T.list l7 (aa (aY b8 (pv 1) aj (fun _ _=>rfl)) ah aM)) ah aQ))) (cC cX (pv 5) (cR (aJ bB (aY b8 (pv 1) aj (fun _ _=>rfl)) aj)) dw)) (zW (pv 4) (aY b8 (pv 1) aj (fun _ _=>rfl)) set_list)))))) bh))))))
   (ai (eN (i:=6) bR.nd rfl rfl rfl (cF (sc:=aq fj) (N:=OI) (vs:=["_law_at"]) (fs:=["_law_held"]) (js:=[4]) (by z_go) rfl rfl) (cK rfl T.range (aa (aV aZ rfl T.len cj (aa (pv 4) ah af)) ah aQ)) (fun _ _ _ _=>aC (i:=0) (show(["_law_at", "_law_held"]:List Str).Nodup by z_go) rfl (Or.inl rfl)) (fun _ _ _ _=>vj (aL (Ay (K:=K) rfl hu) (aY (qc (K:=K) rfl) (pv 1) (pv 0) (fun _ _=>rfl)) (cy ah) (aU _))) (fun _ _ _ _=>(pv 0)))
   (ai (aG (i:=7) bR.nd rfl (Or.inl rfl) (aJ bB (aV (BS rfl) rfl T.max zA (aa (aJ fV (cy (aa (CW zF aj) ah ye)) (pv 6)) ah br)) aj))
   (ay (aN (bW (aa (pv 2) (aa (pv 3) (aa (cC cX (pv 4) dw (cR (pv 7))) ah aM) af) af)))))))),?_⟩
 rw[vC]
 x_go
 refine⟨y,w,R,X,rfl,hy,fun y1 h1 bs1 H1 ny1 hy1 t1 s1=>?_⟩
 refine⟨y1,_,rfl,iM.of hy1,rfl,_,_,rfl,_,_,rfl,_,_,rfl,rfl,?_⟩
 obtain⟨sh1,hh1,nd1,hn1,hP1⟩:=id t1
 have bl1:=hP1.1
 have hs1:=hs.same s1
 have szl:=sz.1
 have fr1:∀{H':Hp}{e:Addr},aO H H'->H' e=none->H e=none:=fun s n=>s.free n
 x_go
 refine⟨fun σ' H'=>∃h2 x5,σ'=[some (.ref y),some (.ref s0),some (.int w),some (.int (Cn R st)),some (.ref h2),x5,none,none]/\aO H H'/\H h2=none/\R3 (fun b=>H b=none) H' h2 (KG X st),?_,?_⟩
 ·cases st with
  | rooms n =>
   obtain⟨e1,e2⟩:=id hs1
   x_go
   refine⟨rfl,?_⟩
   rw[U8 rfl]
   x_go
   exact⟨h1,_,rfl,s1,sh1,t1.r3S⟩
  | cut r m =>
   obtain⟨e1,e2⟩:=id hs1
   x_go
   refine⟨rfl,?_⟩
   rw[show decide (V.str "cut" = V.str "rooms")=false from by z_go]
   x_go
   refine⟨rfl,?_⟩
   rw[U8 rfl]
   x_go
   refine bM (fun c=>?_) (fun c=>?_)
   ·rw[Uv]at c
    have rl:r<bs1.length:=by omega
    have hb:=Uy rl
    generalize bs1[r]=b at hb
    obtain⟨rows,hx,sb,as,hb2,hA⟩:=hP1.get hb
    x_go
    refine cJ (aW.of hh1) (gf hb) ?_
    x_go
    refine e_ (aW.of hb2) fun e ne=>?_
    rw[dO]
    generalize hE:upd H1 e _=H2
    obtain⟨he,s2⟩:=bg ne hE
    clear hE
    have e12:=s2 _ _ e1
    x_go
    refine vd (s2 _ _ hh1) (by rw[Uv];exact Ed rl) ?_
    rw[show(bs1.map V.ref).set r (V.ref e) =(bs1.set r e).map V.ref from List.map_set.symm]
    obtain⟨n1,n2⟩:=t1.new ne
    have hk:∀b o,b≠h1->H1 b=some o->(upd H2 h1 (.lst ((bs1.set r e).map V.ref))) b=some o:=fun b o n e=>by rw[av n];exact s2 _ _ e
    refine⟨h1,_,rfl,fun b o e=>hk _ _ (ak e sh1) (s1 _ _ e),sh1,?_⟩
    show R3 _ _ h1 (X.modify r (List.take m))
    rw[AB hx]
    refine(t1.put ne hk ao ⟨s1.free ne,as.take m,by rw[av n1];exact he,(hA.take m).imp fun a es t=>⟨t.1,t.2.1,fun z=>?_,hk _ _ t.2.1 t.2.2.2⟩⟩).r3S
    rcases Wo z with w|w
    ·exact t.2.2.1 w
    ·have:=t.2.2.2
     rw[w,ne]at this;cases this
   ·rw[Uv]at c
    x_go
    refine⟨rfl,?_⟩
    rw[show decide (V.str "cut" = V.str "row")=false from by z_go]
    x_go
    refine⟨h1,_,rfl,s1,sh1,?_⟩
    show R3 _ _ h1 (X.modify r (List.take m))
    rw[Eg (by omega)];exact t1.r3S
  | row r a es =>
   obtain⟨l,e1,e2,r2,a2,el,_⟩:=id hs1
   x_go
   refine⟨rfl,?_⟩
   rw[show decide (V.str "row" = V.str "rooms")=false from by z_go]
   x_go
   refine⟨rfl,?_⟩
   rw[show decide (V.str "row" = V.str "cut")=false from by z_go]
   x_go
   refine⟨rfl,?_⟩
   rw[U8 rfl]
   x_go
   have lm1:(bs1.map V.ref).length=bs1.length:=Uv _
   refine⟨_,rfl,by omega,by omega,fun D nD=>?_⟩
   refine dB (n:=((r:Int)+1-((bs1.map V.ref).length:Nat)).toNat) (fun i σ' ys H'=>(∃x,σ'=[x])/\aO H1 H'/\∃cs:List Addr,ys=cs.map V.ref/\cs.length=i/\i<=131/\H' D=some (.lst ys)/\∀c∈cs,H1 c=none/\c≠D/\H' c=some (.lst [])) D ⟨⟨_,rfl⟩,aI nD _,[],rfl,rfl,by omega,ao,fun _ h=>by cases h⟩ ?_ ?_
   ·rintro j σ' ys G1 hj ⟨⟨x,rfl⟩,g1,cs,rfl,cl,HN,gD,gC⟩
    x_go
    refine⟨by decide,fun e ne=>?_⟩
    generalize hE:upd G1 e _=G2
    obtain⟨he,g2⟩:=bg ne hE
    clear hE
    have eD:e≠D:=fun z=>by rw[z,gD]at ne;cases ne
    refine⟨g2 _ _ gD,by rw[Uv];exact aE (by omega),⟨_,rfl⟩,fun b o e=>by rw[av (ak e nD)];exact g2 _ _ (g1 _ _ e),cs ++ [e],by rw[UB];rfl,by rw[Uz,cl];rfl,by omega,ao,fun c hc=>?_⟩
    rcases UG.mp hc with z|z
    ·obtain⟨c1,c2,c3⟩:=gC c z
     exact⟨c1,c2,by rw[av c2];exact g2 _ _ c3⟩
    ·have z2:c=e:=by simpa using z
     rw[z2]
     exact⟨g1.free ne,eD,by rw[av eD];exact he⟩
   rintro σ' ys H2 ⟨⟨x,rfl⟩,s2,cs,rfl,cl,HN,hD,hC⟩
   have hh2:=s2 _ _ hh1
   refine⟨h1,D,_,_,rfl,rfl,hh2,hD,by rw[Uv,Uv];exact VT (aE (by omega)),fun h2 nh2=>?_⟩
   have hB:P1 (R2 (fun b=>H b=none/\b≠h2) H2) (bs1++cs) (pad X (r+1)):=by
    refine P1.app (ys:=List.replicate (r+1-X.length) []) ((hP1.imp fun b rows t=>(t.r2.keep fun _ _ _ e=>s2 _ _ e).mem).imp fun b rows t=>t.weak fun x z=>⟨z.1,?_⟩) ⟨by rw[VD];omega,fun i c rows ec er=>?_⟩
    ·have e0:=V9 (UA er)
     subst e0
     obtain⟨c1,c2,c3⟩:=hC c (UA ec)
     exact⟨⟨s1.free c1,ak c3 nh2⟩,[],c3,P1.nil⟩
    ·obtain⟨_,o,e⟩:=z
     exact ak e nh2
   generalize hE:upd H2 h2 _=H3
   obtain⟨hh3,s3⟩:=bg nh2 hE
   clear hE
   rw[<- UB]at hh3
   have hB3:=hB.imp fun b rows t=>t.keep (H':=H3) fun _ _ _ e=>s3 _ _ e
   have s13:=s2.trans s3
   have s03:=s1.trans s13
   have e13:=s13 _ _ e1
   have pl:=iB (X:=X) (n:=r+1)
   have rl:r <(bs1++cs).length:=by rw[hB3.1];omega
   have hb:=Uy rl
   generalize (bs1++cs)[r]=b at hb
   obtain⟨rows,hx,sb,as,hb2,hA⟩:=hB3.get hb
   have al:=hA.1
   have rwl:rows.length<=131:=by
    rcases jh (UA hx) with z|z
    ·exact(sz.2 rows z).1
    ·rw[z];simp
   have lm2:(as.map V.ref).length=as.length:=Uv _
   x_go
   refine cJ (aW.of hh3) (gf hb) ?_
   x_go
   refine⟨_,rfl,by omega,by omega,fun D2 nD2=>?_⟩
   refine dB (n:=((a:Int)+1-((as.map V.ref).length:Nat)).toNat) (fun i σ' ys H'=>(∃x,σ'=[x])/\aO H3 H'/\∃cs:List Addr,ys=cs.map V.ref/\cs.length=i/\i<=131/\H' D2=some (.lst ys)/\∀c∈cs,H3 c=none/\c≠D2/\H' c=some (.lst [])) D2 ⟨⟨_,rfl⟩,aI nD2 _,[],rfl,rfl,by omega,ao,fun _ h=>by cases h⟩ ?_ ?_
   ·rintro j σ' ys G1 hj ⟨⟨x,rfl⟩,g1,cs,rfl,cl,HN,gD,gC⟩
    x_go
    refine⟨by decide,fun e ne=>?_⟩
    generalize hE:upd G1 e _=G2
    obtain⟨he,g2⟩:=bg ne hE
    clear hE
    have eD:e≠D2:=fun z=>by rw[z,gD]at ne;cases ne
    refine⟨g2 _ _ gD,by rw[Uv];exact aE (by omega),⟨_,rfl⟩,fun b o e=>by rw[av (ak e nD2)];exact g2 _ _ (g1 _ _ e),cs ++ [e],by rw[UB];rfl,by rw[Uz,cl];rfl,by omega,ao,fun c hc=>?_⟩
    rcases UG.mp hc with z|z
    ·obtain⟨c1,c2,c3⟩:=gC c z
     exact⟨c1,c2,by rw[av c2];exact g2 _ _ c3⟩
    ·have z2:c=e:=by simpa using z
     rw[z2]
     exact⟨g1.free ne,eD,by rw[av eD];exact he⟩
   rintro σ' ys H4 ⟨⟨x,rfl⟩,s4,ds,rfl,dl,d131,hD2,hC2⟩
   refine⟨b,D2,_,_,rfl,rfl,s4 _ _ hb2,hD2,by rw[Uv,Uv];exact VT (aE (by omega)),fun b2 nb2=>?_⟩
   generalize hE:upd H4 b2 _=H5
   obtain⟨hb5,s5⟩:=bg nb2 hE
   clear hE
   rw[<- UB]at hb5
   have s35:=s4.trans s5
   have hA5:P1 (R1 (fun b=>H b=none/\b≠h2) H5) (as++ds) (pad rows (a+1)):=by
    refine P1.app (ys:=List.replicate (a+1-rows.length) []) (hA.imp fun a es t=>t.keep fun _ _ _ e=>s35 _ _ e) ⟨by rw[VD];omega,fun i c es ec er=>?_⟩
    have e0:=V9 (UA er)
    subst e0
    obtain⟨c1,c2,c3⟩:=hC2 c (UA ec)
    exact⟨⟨s03.free c1,fun z=>by rw[z,hh3]at c1;cases c1⟩,s5 _ _ c3⟩
   have pl2:=iB (X:=rows) (n:=a+1)
   have al5:=hA5.1
   generalize as++ds=as2 at hb5 hA5 al5
   have e15:=s35 _ _ e13
   x_go
   refine e_ (aW.of hb5) fun f1 nf1=>?_
   rw[dO]
   generalize hE:upd H5 f1 _=H6
   obtain⟨hf1,s6⟩:=bg nf1 hE
   clear hE
   have e16:=s6 _ _ e15
   have s16:=(s13.trans s35).trans s6
   x_go
   refine⟨l,_,rfl,.inl (aW.of (s16 _ _ e2)),fun l2 nl2=>?_⟩
   generalize hE:upd H6 l2 _=H7
   obtain⟨hl2,s7⟩:=bg nl2 hE
   clear hE
   x_go
   refine⟨zs1,fun l3 nl3=>?_⟩
   generalize hE:upd H7 l3 _=H8
   obtain⟨hl3,s8⟩:=bg nl3 hE
   clear hE
   x_go
   refine⟨f1,l3,_,_,rfl,rfl,s8 _ _ (s7 _ _ hf1),hl3,by rw[Uv,UH];exact VT (aE (by show _+1<=1000;omega)),fun f4 nf4=>?_⟩
   generalize hE:upd H8 f4 _=H9
   obtain⟨hf4,s9⟩:=bg nf4 hE
   clear hE
   have s69:=(s7.trans s8).trans s9
   have e19:=s69 _ _ e16
   x_go
   refine e_ (aW.of (s69 _ _ (s6 _ _ hb5))) fun f5 nf5=>?_
   rw[show((a:Int)+1) =((a+1:Nat):Int) by omega,uG]
   generalize hE:upd H9 f5 _=H10
   obtain⟨hf5,s10⟩:=bg nf5 hE
   clear hE
   x_go
   refine⟨f4,f5,_,_,rfl,rfl,s10 _ _ hf4,hf5,by rw[Uz,Uv,Uv,UH,Vt];exact VT (aE (by show _+1+_<=1000;omega)),fun f6 nf6=>?_⟩
   generalize hE:upd H10 f6 _=H11
   obtain⟨hf6,s11⟩:=bg nf6 hE
   clear hE
   have s6b:=(s69.trans s10).trans s11
   have s3b:=(s35.trans s6).trans s6b
   have e1b:=s6b _ _ e16
   have hh11:=s3b _ _ hh3
   x_go
   refine vd hh11 (by rw[Uv];exact Ed rl) ?_
   rw[show((bs1++cs).map V.ref).set r (V.ref f6) =((bs1++cs).set r f6).map V.ref from List.map_set.symm]
   have hk:∀b o,b≠h2->H11 b=some o->(upd H11 h2 (.lst (((bs1++cs).set r f6).map V.ref))) b=some o:=fun b o n e=>by rw[av n];exact e
   have nh2H:H h2=none:=(s1.trans s2).free nh2
   have s0b:=s03.trans s3b
   refine⟨h2,_,rfl,fun b o e=>hk _ _ (ak e nh2H) (s0b _ _ e),nh2H,?_⟩
   show R3 _ _ h2 (nh X r a es)
   unfold nh
   rw[AB hx]
   refine⟨(bs1++cs).set r f6,ao,(P1.set (hB3.imp fun b rows t=>(t.keep fun _ _ _ e=>s3b _ _ e).keep fun b o n e=>hk b o n.2 e) ?_).imp fun b rows t=>t.weak fun x n=>n.1⟩
   have h11n:∀{e:Addr},H10 e=none->e≠h2:=fun n z=>by rw[z,s10 _ _ (s69 _ _ (s6 _ _ (s35 _ _ hh3)))]at n;cases n
   have h6n:∀{e:Addr},H6 e=none->e≠h2:=fun n z=>by rw[z,s6 _ _ (s35 _ _ hh3)]at n;cases n
   have s06:=s1.trans s16
   have s0a:=(s06.trans s69).trans s10
   refine⟨⟨s0a.free nf6,h11n nf6⟩,as2.take a ++ [l2]++as2.drop (a+1),?_,?_⟩
   ·rw[av (h11n nf6),hf6,UB,UB];rfl
   ·rw[<- F_ (P:=pad rows (a+1)) (a:=a) (x:=es) (by omega)]
    have hA11:=(hA5.imp fun a es t=>(t.keep fun _ _ _ e=>s6b _ _ (s6 _ _ e)).keep fun b o n e=>hk b o n.2 e)
    refine((hA11.take a).app (P1.one ⟨⟨s06.free nl2,h6n nl2⟩,?_⟩)).app (hA11.drop (a+1))
    rw[av (h6n nl2)]
    exact s11 _ _ (s10 _ _ (s9 _ _ (s8 _ _ hl2)))
 ·rintro σ' H2 ⟨h2,x5,rfl,s2,nh2,hR⟩
  have hE2:f7 H2 (KG X st):=henM.same s2
  have szM:=GQ sz hs
  rw[z6]at q
  generalize KG X st=Y at hR hE2 q szM
  obtain⟨bs,hb,hP⟩:=id hR
  have bl:=hP.1
  x_go
  rw[Uv]
  refine⟨_,rfl,by omega,by omega,fun D nD=>?_⟩
  refine dB (n:=((bs.length:Nat):Int).toNat) (fun i σ' ys H'=>(∃x,σ'=[x,some (.ref h2)])/\aO H2 H'/\ys =(fK Y i).map V.int/\H' D=some (.lst ys)) D ⟨⟨_,rfl⟩,aI nD _,rfl,ao⟩ ?_ ?_
  ·rintro j σ' ys H3 hj ⟨⟨x,rfl⟩,s3,rfl,hD⟩
   have jb:j<bs.length:=by omega
   have hbj:=Uy jb
   generalize bs[j]=b at hbj
   obtain⟨rows,hx,hR2⟩:=hP.get hbj
   have hb3:=s3 _ _ hb
   have fl:=m8 Y j
   x_go
   refine cJ (aW.of hb3) (Ke hbj) ?_
   x_go
   refine⟨by decide,fun d nd=>?_⟩
   generalize hE:upd H3 d _=H4
   obtain⟨hd,s4⟩:=bg nd hE
   clear hE
   have s24:=s3.trans s4
   have hD4:=s4 _ _ hD
   have g4:=BY (K:=K) (hR2.keep fun _ _ _ e=>s24 _ _ e) fun es he v hv=>(hE2 rows (UA hx) es he v hv).keep fun _ _ e=>s24 _ _ e
   x_go
   refine⟨_,_,g4.1,(GD.lst (K:=K) (n:=0) hd yO.nil).1,g4.shaped (by omega),rfl,?_⟩
   rw[show PyData.eqv (xS H4 rows) (.list [])=decide (rows=[]) from AV]
   by_cases c:rows=[]
   ·rw[U8 c]
    x_go
    refine⟨⟨_,rfl⟩,s24,?_,hD4⟩
    rw[yw hx c]
   ·rw[U6 c]
    x_go
    refine⟨hD4,by rw[Uv];exact aE (by omega),⟨_,rfl⟩,fun b o e=>by rw[av (ak e nD)];exact s24 _ _ e,?_,ao⟩
    rw[tW hx c,UB]
    show _ ++ [V.int (0+(j:Int))]=_ ++ [V.int (j:Int)]
    rw[XI]
  ·rintro σ' ys H3 ⟨⟨x,rfl⟩,s3,rfl,hD⟩
   rw[VU]at hD
   have fl:=m8 Y bs.length
   x_go
   refine⟨zs1,fun d nd=>?_⟩
   generalize hE:upd H3 d _=H4
   obtain⟨hd,s4⟩:=bg nd hE
   clear hE
   x_go
   refine⟨d,D,_,_,rfl,rfl,hd,s4 _ _ hD,UP (show _<=900 by rw[Uv];simp;omega) (by decide),fun d2 nd2=>?_⟩
   generalize hE:upd H4 d2 _=H5
   obtain⟨hd2,s5⟩:=bg nd2 hE
   clear hE
   have hd2:H5 d2=some (.lst ((-1::fK Y bs.length).map V.int)):=hd2
   x_go
   refine Gw (aW.of hd2) (by simp) fun m hm1 hm2=>?_
   have s25:=(s3.trans s4).trans s5
   have hb5:=s25 _ _ hb
   have m1:-1<=m:=hm2 (-1) (by simp)
   obtain⟨k,hk⟩ : ∃k:Nat,m+1 =(k:Int):=⟨(m+1).toNat,by omega⟩
   x_go
   rw[hk]
   refine e_ (aW.of hb5) fun h3 nh3=>?_
   rw[dO]
   generalize hE:upd H5 h3 _=H6
   obtain⟨hh3,s6⟩:=bg nh3 hE
   clear hE
   x_go
   refine⟨zs3,fun t nt=>?_⟩
   have st2:=aI nt (.tup [.int w,.int (Cn R st),.ref h3])
   have s06:=(s2.trans s25).trans s6
   refine q t h3 _ (s06.free nt) ao ((s2.trans s25).free nh3) ?_ (s06.trans st2)
   rw[DB (by rw[<- bl];exact hm1) (by rw[<- bl];exact hm2) hk]
   refine⟨bs.take k,st2 _ _ hh3,(hP.take k).imp fun b rows t=>t.keep fun _ _ _ e=>st2 _ _ (s6 _ _ (s25 _ _ e))⟩
theorem sr {f:Addr}{fd:FuncData}(F:fz K "_law_found" "_law_found" gz f fd) (mF:mg "_law_found" = some (.ref f)) (bF:Binds K fd LH []) (T:Bl mg) (fc:Kc P w K mg base):LD P w K mg base:=by
 refine bJ.of F mF bF cz (fun vs H Q E h=>?_) (fun _ A _ _ H vs Q E hr h=>?_)
 ·obtain⟨y,w,R,k,X,rfl,_⟩:=h;rfl
 obtain⟨y,w,R,k,X,rfl,⟨h0,hy,⟨bs0,hh0,hP0⟩,hen,sz⟩,k0,k1,r1,r2,q⟩:=h
 have hu:=hr.units
 refine⟨_,(ai (eO (pv 0) (dM rfl (aK (aC (i:=2) cz.nd rfl (Or.inl rfl)) (aK (aC (i:=3) cz.nd rfl (Or.inl rfl)) (aK (aC (i:=4) cz.nd rfl (Or.inl rfl)) b6)))))
   (ai (aG (i:=5) cz.nd rfl (Or.inl rfl) (bP fc hr.mo (aa (pv 1) (aa (pv 3) ah af) af)))
   (ai (bY (aL yo (pv 5) (aV aZ rfl T.len cj (aa (pv 4) ah af)) (aU _)) (ay (aN (bW (aa jZ (aa aj ah aB) aB)))) bh)
   (ai (eS Vr rfl (pD rfl T.enumerate (aa (aY bG (pv 4) (pv 5) (fun _ _=>rfl)) ah aM)) (dM rfl (aK (aC (i:=6) cz.nd rfl (Or.inl rfl)) (aK (aC (i:=7) cz.nd rfl (Or.inl rfl)) b6))) (ay (bY (PW.pt (jH (aL (mU hu) (pv 7) (cy ah) (aU _)) (iz (aL yo (aY b8 (aY bG (pv 7) (CW zF aj) (fun _ _=>rfl)) aj (fun _ _=>rfl)) (pv 1) (aU _))))) (ai (eN (i:=8) cz.nd rfl rfl rfl (cF (sc:=aq gz) (N:=QJ) (vs:=GN) (fs:=EK) (js:=[1]) (by z_go) rfl rfl) (bu (pv 7)) (fun _ _ _ _=>oX (K:=K) (n:=2) rfl rfl (aK (aC (i:=0) (show(OD:List Str).Nodup by z_go) rfl (Or.inl rfl)) (aK (aC (i:=1) (show(OD:List Str).Nodup by z_go) rfl (Or.inl rfl)) b6))) (fun _ _ _ _=>vj (aL dF (pv 0) (pv 2) (aU _))) (fun _ _ _ _=>(pv 1)))
   (ay (aN (bW (aa (aY bG (aJ fV (pv 8) (cy (aa jZ ah aB))) aj (fun _ _=>rfl)) (aa (aJ bB (pv 6) aj) ah br) aM))))) bh)))
   (ay (aN (bW (aa jZ (aa (aV aZ rfl T.len cj (aa (aY bG (pv 4) (pv 5) (fun _ _=>rfl)) ah aM)) ah aQ) aB)))))))),?_⟩
 rw[sH]
 x_go
 refine⟨y,_,rfl,iM.of hy,rfl,_,_,rfl,_,_,rfl,_,_,rfl,rfl,?_⟩
 x_go
 refine⟨k,R,rfl,k0,k1,r1,r2,?_⟩
 have rb:=bU (k:=k) r1
 obtain⟨r,hr0⟩ : ∃r:Nat,az k R =(r:Int):=⟨(az k R).toNat,by omega⟩
 have ex:(az k R).toNat=r:=by omega
 have bl0:=hP0.1
 have szl:=sz.1
 rw[hr0]
 x_go
 refine bM (fun c=>?_) (fun c=>?_)
 ·rw[Uv]at c
  have eo:bw X k R=[]:=by
   unfold bw
   rw[ex,UT (by omega)];rfl
  rw[eo]at q
  x_go
  refine⟨zs2,fun t nt=>?_⟩
  exact q t _ ao (aI nt _)
 ·rw[Uv]at c
  have hb:=Uy (show r<bs0.length by omega)
  generalize bs0[r]=b at hb
  obtain⟨rows,hx,_,as,hb1,hA⟩:=hP0.get hb
  have eo:bw X k R=rows:=by
   unfold bw
   rw[ex,hx];rfl
  rw[eo]at q
  have hrm:=UA hx
  have al:=hA.1
  obtain⟨rwl,rww⟩:=sz.2 _ hrm
  have hen2:=hen _ hrm
  x_go
  refine cJ (aW.of hh0) (gf hb) ?_
  refine⟨b,rfl,⟨_,aW.of hb1⟩,?_⟩
  refine qo (xs:=as.map V.ref) (fun i σ H'=>(∃x6 x7 x8,σ=[some (.ref y),some (.int k),some (.int w),some (.int R),some (.ref h0),some (.int r),x6,x7,x8])/\aO H H'/\iW k (au H rows) =((iW k ((au H rows).drop i)).1,(iW k ((au H rows).drop i)).2+i)) ⟨⟨_,_,_,rfl⟩,aO.refl H,by simp⟩ (fun _ _ _ _ h=>aW.of (h.2.1 _ _ hb1)) ?_ ?_
  ·rintro i x σ H1 u hx ⟨⟨x6,x7,x8,rfl⟩,s1,hk⟩ nu
   obtain⟨a,ha,rfl⟩:=b9 hx
   obtain⟨es,hes,_,ha1⟩:=hA.get ha
   have hem:=UA hes
   have hen3:=hen2 es hem
   have el:=rww es hem
   have hxr:(au H rows)[i]? = some (aH H es):=by unfold au;rw[UI,hes];rfl
   rw[mK hxr]at hk
   have pass:cP k ((aH H es).map (·.1))≠true->iW k (au H rows) =((iW k ((au H rows).drop (i+1))).1,(iW k ((au H rows).drop (i+1))).2+((i+1:Nat):Int)):=fun z=>by
    rw[hk,iW,UM z]
    show(_,_) =(_,_)
    congr 1;omega
   generalize hE:upd H1 u _=H2
   obtain⟨hu2,s2⟩:=bg nu hE
   clear hE
   refine⟨u,_,rfl,iM.of hu2,rfl,_,_,rfl,_,_,rfl,rfl,?_⟩
   have s12:=s1.trans s2
   x_go
   refine⟨by decide,fun d nd=>?_⟩
   generalize hE:upd H2 d _=H3
   obtain⟨hd,s3⟩:=bg nd hE
   clear hE
   have s13:=s12.trans s3
   have ha3:=s13 _ _ ha1
   have g3:GD K H3 2 (.ref a) (Bt H3 es):=GD.lst ha3 (mZ fun v hv=>(hen3 v hv).keep fun _ _ e=>s13 _ _ e)
   x_go
   refine⟨_,_,g3.1,(GD.lst (K:=K) (n:=0) hd yO.nil).1,g3.shaped (by omega),rfl,?_⟩
   rw[show PyData.eqv (Bt H3 es) (.list [])=decide (es=[]) from AV]
   by_cases c:es=[]
   ·rw[U8 c]
    x_go
    refine⟨⟨_,_,_,rfl⟩,s13,pass ?_⟩
    rw[c];exact U0
   ·rw[U6 c]
    obtain⟨es',v,rfl⟩:=Ax c
    obtain⟨t,et,ht,_⟩:=(hen3 v (by simp)).pt
    have ht3:=s13 _ _ ht
    have lastk:((aH H (es' ++ [v])).map (·.1)).getLast? = some (eD H v).1:=by
     unfold aH
     rw[UB,UB]
     simp
    x_go
    refine cJ (aW.of ha3) (v:=v) (Dd _ _) ?_
    rw[et]at ht3
    rw[et]
    x_go
    refine bM (fun c2=>?_) (fun c2=>?_)
    ·have st:cP k ((aH H (es' ++ [v])).map (·.1))=true:=yf lastk (by rw[et];exact c2)
     rw[iW,UN st]at hk
     rw[hk]at q
     x_go
     refine⟨a,rfl,⟨_,aW.of ha3⟩,fun D nD=>?_⟩
     generalize es' ++ [v]=es at *
     refine bf (xs:=es) (fun j σ' ys H'=>(∃x x',σ'=[x,x',some (.int k)])/\aO H3 H'/\ys =(((aH H es).take j).filter fun e=>decide (e.1=k)).map (fun e=>V.str e.2)/\H' D=some (.lst ys)) D ⟨⟨_,_,rfl⟩,aI nD _,rfl,ao⟩ (fun i σ' ys H' _ h=>aW.of (h.2.1 _ _ ha3)) ?_ ?_
     ·rintro j x σ' ys H4 hx ⟨⟨z1,z2,rfl⟩,s4,rfl,hD⟩
      obtain⟨t',et',ht',_⟩:=(hen3 x (UA hx)).pt
      have jl:=(Ux.mp hx).1
      have ht4:=s4 _ _ (s13 _ _ ht')
      have hxd:(aH H es)[j]? = some (eD H x):=by unfold aH;rw[UI,hx];rfl
      rw[et']
      refine⟨t',_,rfl,iM.of ht4,rfl,_,_,rfl,_,_,rfl,rfl,?_⟩
      x_go
      refine bM (fun c1=>?_) (fun c1=>?_)
      ·x_go
       refine⟨hD,?_,⟨_,_,rfl⟩,fun b o e=>by rw[av (ak e nD)];exact s4 _ _ e,?_,ao⟩
       ·rw[Uv]
        refine aE (UP (UY _ _) ?_)
        rw[UH];omega
       ·rw[aX hxd,VQ,UB,V2,UN (U8 c1)];rfl
      ·refine⟨⟨_,_,rfl⟩,s4,?_,hD⟩
       rw[aX hxd,VQ,UB,V2,UM (by simp[c1])]
       simp
     ·rintro σ' ys H4 ⟨⟨z1,z2,rfl⟩,s4,rfl,hD⟩
      rw[UW (by unfold aH;rw[Uv];exact UE _)]at hD
      x_go
      refine⟨zs1,fun g ng=>?_⟩
      generalize hE:upd H4 g _=H5
      obtain⟨hg,s5⟩:=bg ng hE
      clear hE
      refine⟨D,g,_,_,rfl,rfl,s5 _ _ hD,hg,?_,fun f nf=>?_⟩
      ·rw[Uv]
       have h1:=UY (fun e:Int×Str=>decide (e.1=k)) (aH H es)
       have h2:(aH H es).length=es.length:=by unfold aH;rw[Uv]
       exact VT (aE (by show _+1<=1000;omega))
      generalize hE:upd H5 f _=H6
      obtain⟨hf,s6⟩:=bg nf hE
      clear hE
      x_go
      refine cJ (aW.of hf) (v:=xV (pick k (aH H es))) (jf (j:=0) yU) ?_
      x_go
      refine⟨zs2,fun t9 nt9=>?_⟩
      generalize hE:upd H6 t9 _=H7
      obtain⟨ht9,s7⟩:=bg nt9 hE
      clear hE
      refine q t9 H7 ?_ ((((s13.trans s4).trans s5).trans s6).trans s7)
      rw[ht9,Int.add_comm]
    ·x_go
     refine⟨⟨_,_,_,rfl⟩,s13,pass fun z=>?_⟩
     obtain⟨x,hx,hkx⟩:=qK z
     rw[lastk]at hx
     cases hx
     rw[et]at hkx
     exact c2 hkx
  ·rintro σ H1 ⟨⟨x6,x7,x8,rfl⟩,s1,hk⟩
   rw[Uv,al,Vf (by unfold au;rw[Uv];exact UE _)]at hk
   rw[hk]at q
   x_go
   refine cJ (aW.of (s1 _ _ hh0)) (gf hb) ?_
   have hb2:=s1 _ _ hb1
   x_go
   refine⟨zs2,fun t nt=>?_⟩
   generalize hE:upd H1 t _=H2
   obtain⟨ht,s2⟩:=bg nt hE
   clear hE
   refine q t H2 ?_ (s1.trans s2)
   rw[ht,Uv,al]
   show some (HO.tup [V.non,V.int (rows.length:Int)])=some (HO.tup [V.non,V.int (0+(rows.length:Int))])
   rw[XI]
theorem j5 {f:Addr}{fd:FuncData}(F:fz K "_law_asked_change" "_law_asked_change" eu f fd) (mF:mg "_law_asked_change" = some (.ref f)) (bF:Binds K fd LZ []) (T:Bl mg) (nj:bJ P w K mg base "putting" GW 5 (pZ K)) (j4:bJ P w K mg base "splitting" jx 5 (lT K)) (nA:bJ P w K mg base "joining" jx 4 (qH K)) (kU:bJ P w K mg base "dropping" x_ 5 (nU K)):bJ P w K mg base "_law_asked_change" LZ 6 (gn K):=by
 refine bJ.of F mF bF jM (fun vs H Q E h=>?_) (fun _ A _ _ H vs Q E hr h=>?_)
 ·obtain⟨y,w,R,X,es,way,z,k,rfl,_⟩:=h;rfl
 obtain⟨y,w,R,X,es,way,z,k,rfl,hY,b,el,w2,R2,⟨k0,k1⟩,⟨z0,z1⟩,hw,q⟩:=h
 have hen:f7 H X:=hY.choose_spec.2.2.1
 have w1:=b.w1
 have R1:=b.R1
 obtain⟨rok,rl,rnd,rs,rm⟩:=C8 (k:=k) b.cl b.nd hen w1 (by omega) R1 (by omega)
 refine⟨_,(ai (bY (aL dF (pv 1) bQ (aU _)) (ay (aN (bP j4 hr.mo (aa (pv 0) ah af)))) bh)
   (ai (bY (aL dF (pv 1) bQ (aU _)) (ay (aN (bP nA hr.mo (aa (pv 0) ah af)))) bh)
   (ai (bY (aL dF (pv 1) bQ (aU _)) (ay (aN (bP kU hr.mo (aa (pv 0) (aa (pv 2) ah af) af)))) bh)
   (ay (aN (bP nj hr.mo (aa (pv 0) (aa (pv 2) (aa (pv 3) ah af) af) af))))))),?_⟩
 rw[jC]
 rcases hw with rfl|⟨rfl,r2⟩|⟨rfl,hk⟩|rfl|rfl
 ·x_go
  refine⟨rfl,?_⟩
  rw[U8 rfl]
  x_go
  have t:=iU R1
  obtain⟨ok,fl,_⟩:=b.rows hen (by omega) (by omega) t.2
  refine⟨y,w,R,X,rfl,hY,b.xl,w1,by omega,R1,by omega,ok,by omega,fun D ss H' nD hD hP sm=>?_⟩
  x_go
  exact q D ss _ H' nD hD hP (LA b hen w2 el R2 sm) sm
 ·obtain⟨R0,rfl⟩ : ∃n,R=n+1:=⟨R-1,by omega⟩
  x_go
  refine⟨rfl,?_⟩
  rw[show decide (V.str "join" = V.str "split")=false from by z_go]
  x_go
  refine⟨rfl,?_⟩
  rw[U8 rfl]
  x_go
  have t:=iU (show 1<=R0 by omega)
  obtain⟨ok,fl,_⟩:=b.rows hen (by omega) (by omega) (i:=tn R0) (by omega)
  obtain⟨ok2,fl2,_⟩:=b.rows hen (by omega) (by omega) (i:=R0) (by omega)
  have ln:∀i,i<R0+1->(aT X i).flatten.length<=24:=fun i hi=>by
   obtain⟨s,p2,p3,mo,p1⟩:=b.own hi
   have e:(aH H (aT X i).flatten).length=s.length:=by rw[i9,p3,bI _ b.w1]
   unfold aH at e
   rw[Uv]at e
   rw[e,p1.length_eq]
   exact UP (UY _ _) el
  have l1:=ln (tn R0) (by omega)
  have l2:=ln R0 (by omega)
  refine⟨y,w,R0,X,rfl,hY,w1,by omega,by omega,by omega,ok,ok2,by omega,by omega,JV b hen (by omega) (by omega) (by omega),fun D ss us H' nD hD pu su hP sm=>?_⟩
  x_go
  exact q D ss _ H' nD hD hP (Lk b hen w2 el (by omega) (by omega) pu su sm) sm
 ·x_go
  refine⟨rfl,?_⟩
  rw[show decide (V.str "drop" = V.str "split")=false from by z_go]
  x_go
  refine⟨rfl,?_⟩
  rw[show decide (V.str "drop" = V.str "join")=false from by z_go]
  x_go
  refine⟨rfl,?_⟩
  rw[U8 rfl]
  x_go
  have hk':k∈(aH H (bw X k R).flatten).map (·.1):=by
   obtain⟨e,he,rfl⟩:=UC.mp hk
   exact UC.mpr ⟨e,(rm e).mpr ⟨he,rfl⟩,rfl⟩
  refine⟨y,w,R,X,k,rfl,hY,w1,by omega,R1,by omega,rok,rl,hk',fun D ss H' nD hD hP sm=>?_⟩
  x_go
  exact q D ss _ H' nD hD hP (GF b hen w2 el R2 hk sm) sm
 ·x_go
  refine⟨rfl,?_⟩
  rw[show decide (V.str "put" = V.str "split")=false from by z_go]
  x_go
  refine⟨rfl,?_⟩
  rw[show decide (V.str "put" = V.str "join")=false from by z_go]
  x_go
  refine⟨rfl,?_⟩
  rw[show decide (V.str "put" = V.str "drop")=false from by z_go]
  x_go
  refine⟨y,w,R,X,k,z,rfl,hY,⟨k0,k1⟩,⟨z0,z1⟩,w1,by omega,R1,by omega,rok,rl,rnd,fun D ss t us H' nD hD ht pu su hP sm=>?_⟩
  x_go
  exact q D ss _ H' nD hD hP (Eb b hen w2 el R2 sm ht pu su) sm
 ·x_go
  refine⟨rfl,?_⟩
  rw[show decide (V.str "lay" = V.str "split")=false from by z_go]
  x_go
  refine⟨rfl,?_⟩
  rw[show decide (V.str "lay" = V.str "join")=false from by z_go]
  x_go
  refine⟨rfl,?_⟩
  rw[show decide (V.str "lay" = V.str "drop")=false from by z_go]
  x_go
  refine⟨y,w,R,X,k,z,rfl,hY,⟨k0,k1⟩,⟨z0,z1⟩,w1,by omega,R1,by omega,rok,rl,rnd,fun D ss t us H' nD hD ht pu su hP sm=>?_⟩
  x_go
  exact q D ss _ H' nD hD hP (Eb b hen w2 el R2 sm ht pu su) sm
theorem v_ {f:Addr}{fd:FuncData}(F:fz K "_law_ways" "_law_ways" jR f fd) (mF:mg "_law_ways" = some (.ref f)) (bF:Binds K fd Hz []) (T:Bl mg) (aF:FI P w K mg base):bJ P w K mg base "_law_ways" Hz 2 (lV K):=by
 refine bJ.of F mF bF gE (fun vs H Q E h=>?_) (fun _ A _ _ H vs Q E hr h=>?_)
 ·obtain⟨p,l,N,R,ts,es,rfl,_⟩:=h;rfl
 obtain⟨p,l,N,R,ts,es,rfl,hh,hN,hl,hE,q⟩:=h
 have hu:=hr.units
 refine⟨_,(ai (aG (i:=3) gE.nd rfl (Or.inl rfl) (aY bG (cy (aa bQ (aa bQ (aa bQ (aa bQ (aa bQ ah aB) aB) aB) aB) aB)) (bP aF hr.mo (aa (pv 0) (aa aj ah aB) af)) (fun _ _=>rfl)))
   (ai (je (bY (PW.pt (jH (aL dF (pv 3) bQ (aU _)) (iz (aL dF (pv 1) aj (aU _))))) (ay (aG (i:=3) gE.nd rfl (Or.inl rfl) bQ)) bh))
   (ai (je (bY (PW.pt (jH (aL gM (pv 3) (bW (aa bQ (aa bQ ah aB) aB)) (by with_unfolding_all rfl)) (iz (aL (Ab hu) (pv 2) (cy ah) (aU _))))) (ay (aG (i:=3) gE.nd rfl (Or.inl rfl) bQ)) bh))
   (ay (aN (pv 3)))))),?_⟩
 rw[vG]
 x_go
 refine⟨by decide,fun L nL=>?_⟩
 generalize hEq:upd H L _=H1
 obtain⟨hL,s1⟩:=bg nL hEq
 clear hEq
 have hh1:=hh.same s1
 have nLp:=hh.ne nL
 x_go
 refine⟨p,_,5,rfl,hh1,by omega,by decide,by decide,fun v H2 v0 v1 hh2 k2=>?_⟩
 have hL2:=k2.1 _ _ hL nLp
 have k02:Kp H H2 p:=(Kp.of s1 hh).trans k2
 have nlp:=iy hh hl
 have kt:=iF hh k02
 have hl2:=k02.1 _ _ hl nlp
 have hE2:=hE.keep kt
 have fin:∀(way:Str) (H3:Hp),Cb way R es->aO H2 H3->Q (.str way) H3:=fun way H3 hw s3=>q way H3 hw (hh2.same s3) (k02.trans (Kp.of s3 hh2))
 obtain⟨way0,hw0,hg⟩ : ∃way0:Str,rA [V.str "split",.str "join",.str "put",.str "drop",.str "lay"] v=some (V.str way0)/\(way0 = "split" \/ way0 = "join" \/ way0 = "put" \/ way0 = "drop" \/ way0 = "lay"):=by
  rcases(show v=0\/v=1\/v=2\/v=3\/v=4 by omega) with rfl|rfl|rfl|rfl|rfl
  ·exact⟨"split",rfl,.inl rfl⟩
  ·exact⟨"join",rfl,.inr (.inl rfl)⟩
  ·exact⟨"put",rfl,.inr (.inr (.inl rfl))⟩
  ·exact⟨"drop",rfl,.inr (.inr (.inr (.inl rfl)))⟩
  ·exact⟨"lay",rfl,.inr (.inr (.inr (.inr rfl)))⟩
 refine cJ (aW.of hL2) hw0 ?_
 x_go
 refine⟨fun σ H'=>∃way:Str,σ=[some (.ref p),some (.int R),some (.ref l),some (.str way)]/\H'=H2/\(way = "split" \/(way = "join"/\R≠1)\/way = "put" \/ way = "drop" \/ way = "lay"),?_,?_⟩
 ·rcases hg with rfl|rfl|rfl|rfl|rfl
  ·x_go
   refine⟨rfl,?_⟩
   rw[show decide (V.str "split" = V.str "join")=false from by z_go]
   x_go
   exact⟨_,rfl,rfl,.inl rfl⟩
  ·x_go
   refine⟨rfl,?_⟩
   rw[U8 rfl]
   x_go
   refine bM (fun c=>?_) (fun c=>?_)
   ·x_go
    exact⟨_,rfl,rfl,.inl rfl⟩
   ·x_go
    exact⟨_,rfl,rfl,.inr (.inl ⟨rfl,c⟩)⟩
  ·x_go
   refine⟨rfl,?_⟩
   rw[show decide (V.str "put" = V.str "join")=false from by z_go]
   x_go
   exact⟨_,rfl,rfl,.inr (.inr (.inl rfl))⟩
  ·x_go
   refine⟨rfl,?_⟩
   rw[show decide (V.str "drop" = V.str "join")=false from by z_go]
   x_go
   exact⟨_,rfl,rfl,.inr (.inr (.inr (.inl rfl)))⟩
  ·x_go
   refine⟨rfl,?_⟩
   rw[show decide (V.str "lay" = V.str "join")=false from by z_go]
   x_go
   exact⟨_,rfl,rfl,.inr (.inr (.inr (.inr rfl)))⟩
 ·rintro σ H3 ⟨way,rfl,rfl,hg⟩
  x_go
  refine⟨fun σ H'=>∃way:Str,σ=[some (.ref p),some (.int R),some (.ref l),some (.str way)]/\aO H3 H'/\Cb way R es,?_,?_⟩
  ·x_go
   refine⟨by decide,fun T nT=>?_⟩
   generalize hEq:upd H3 T _=H4
   obtain⟨hT,s4⟩:=bg nT hEq
   clear hEq
   obtain⟨b,hb,hbw⟩ : ∃b,Ey (V.str way) [V.str "drop",V.str "lay"]=b/\(b=false->Cb way R es)/\(b=true->es ≠ []->Cb way R es):=by
    rcases hg with rfl|⟨rfl,c⟩|rfl|rfl|rfl
    ·exact⟨false,by z_go,fun _=>.inl rfl,fun z=>absurd z (by decide)⟩
    ·exact⟨false,by z_go,fun _=>.inr (.inl ⟨rfl,c⟩),fun z=>absurd z (by decide)⟩
    ·exact⟨false,by z_go,fun _=>.inr (.inr (.inr (.inl rfl))),fun z=>absurd z (by decide)⟩
    ·exact⟨true,by z_go,fun z=>absurd z (by decide),fun _ e=>.inr (.inr (.inl ⟨rfl,e⟩))⟩
    ·exact⟨true,by z_go,fun z=>absurd z (by decide),fun _ e=>.inr (.inr (.inr (.inr ⟨rfl,e⟩)))⟩
   refine⟨T,_,rfl,.inr (iM.of hT),rfl,rfl,?_⟩
   have hb2:(if (false:Bool)=true then !Ey (V.str way) [V.str "drop",V.str "lay"] else Ey (V.str way) [V.str "drop",V.str "lay"])=b:=hb
   rw[hb2]
   cases b with
   | false =>
    x_go
    exact⟨way,rfl,s4,hbw.1 rfl⟩
   | true =>
    x_go
    refine⟨by decide,fun d nd=>?_⟩
    generalize hEq:upd H4 d _=H5
    obtain⟨hd,s5⟩:=bg nd hEq
    clear hEq
    have s35:=s4.trans s5
    have g:=F7 (K:=K) (s35 _ _ hl2) (hE2.same s35)
    x_go
    refine⟨_,_,g.1,Ku hd,g.shaped (by omega),rfl,?_⟩
    rw[Jq]
    by_cases c:es=[]
    ·rw[U8 c]
     x_go
     exact⟨_,rfl,s35,.inr (.inr (.inr (.inl rfl)))⟩
    ·rw[U6 c]
     x_go
     exact⟨way,rfl,s35,hbw.2 rfl c⟩
  ·rintro σ H4 ⟨way',rfl,s4,hw⟩
   x_go
   exact fin way' H4 hw s4
theorem rB {f:Addr}{fd:FuncData}(F:fz K "_law_key_of" "_law_key_of" gi f fd) (mF:mg "_law_key_of" = some (.ref f)) (bF:Binds K fd Hy []) (T:Bl mg) (cW:PV P w K mg base) (aF:FI P w K mg base):bJ P w K mg base "_law_key_of" Hy 4 (jD K):=by
 refine bJ.of F mF bF fE (fun vs H Q E h=>?_) (fun _ A _ _ H vs Q E hr h=>?_)
 ·obtain⟨p,l,N,R,way,ts,es,rfl,_⟩:=h;rfl
 obtain⟨p,l,N,R,way,ts,es,rfl,hh,hN,hw,hl,el,esl,q⟩:=h
 have nlp:l≠p:=iy hh hl
 refine⟨_,(ai (eN (i:=3) fE.nd rfl rfl rfl (cF (sc:=aq gi) (N:=JL) (vs:=JY) (fs:=[]) (js:=[]) (by z_go) rfl rfl) (bu (pv 2)) (fun _ _ _ _=>oX (K:=K) (n:=2) rfl rfl (aK (aC (i:=0) (show(JY:List Str).Nodup by z_go) rfl (Or.inl rfl)) (aK (aC (i:=1) (show(JY:List Str).Nodup by z_go) rfl (Or.inl rfl)) b6))) (fun _ _ _ _=>gu) (fun _ _ _ _=>(pv 0)))
   (ai (bY (aL gM (pv 1) (bW (aa bQ (aa bQ ah aB) aB)) (by with_unfolding_all rfl)) (ay (aN (aY bG (pv 3) (aJ cU (bP aF hr.mo (aa (pv 0) (aa aj ah aB) af)) (aV aZ rfl T.len cj (aa (pv 3) ah af))) (fun _ _=>rfl)))) bh)
   (ai (aG (i:=4) fE.nd rfl (Or.inl rfl) (bP cW hr.mo (aa (pv 0) ah af)))
   (ai (jT Vr (aL gM (pv 4) (pv 3) (by with_unfolding_all rfl)) (ay (aG (i:=4) fE.nd rfl (Or.inl rfl) (aJ cU (aJ bB (pv 4) aj) (gj (c:=1152921504606846976) (by z_go) ⟨by decide,by decide,by decide⟩)))))
   (ay (aN (pv 4))))))),?_⟩
 rw[pL]
 x_go
 refine⟨l,rfl,⟨_,aW.of hl⟩,fun D nD=>?_⟩
 refine bf (xs:=ts.map V.ref) (fun j σ' ys H'=>(∃x x',σ'=[x,x'])/\aO H H'/\ys =((es.take j).map (·.1)).map V.int/\H' D=some (.lst ys)) D ⟨⟨_,_,rfl⟩,aI nD _,rfl,ao⟩ (fun i σ' ys H' _ h=>aW.of (h.2.1 _ _ hl)) ?_ ?_
 ·rintro j x σ' ys H1 hx ⟨⟨z1,z2,rfl⟩,s1,rfl,hD⟩
  obtain⟨tt,htt,rfl⟩:=b9 hx
  obtain⟨e,he,h1,_⟩:=el.get htt
  have jl:=(Ux.mp he).1
  refine⟨tt,_,rfl,iM.of (s1 _ _ h1),rfl,_,_,rfl,_,_,rfl,rfl,?_⟩
  x_go
  refine⟨hD,?_,⟨_,_,rfl⟩,fun b o e=>by rw[av (ak e nD)];exact s1 _ _ e,?_,ao⟩
  ·rw[Uv,Uv,UH]
   exact aE (by omega)
  ·rw[aX he,UB,UB];rfl
 rintro σ' ys H1 ⟨⟨z1,z2,rfl⟩,s1,rfl,hD⟩
 rw[Uv,el.1,Va]at hD
 have kb:∀k∈es.map (·.1),0<=k/\k<1152921504606846976:=fun k hk=>by
  obtain⟨e,he,rfl⟩:=UC.mp hk
  exact((el.okE e he).2.1)
 have kl:(es.map (·.1)).length<=63:=by rw[Uv];exact esl
 have ke:es ≠ []->0 <(es.map (·.1)).length:=fun z=>by rw[Uv];exact W5.mpr z
 generalize es.map (·.1)=kk at hD kb kl q ke
 have hh1:=hh.same s1
 have nDp:D≠p:=hh.ne nD
 have k01:Kp H H1 p:=Kp.of s1 hh
 x_go
 refine⟨by decide,fun T nT=>?_⟩
 generalize hEq:upd H1 T _=H2
 obtain⟨hT,s2⟩:=bg nT hEq
 clear hEq
 have hh2:=hh1.same s2
 have hD2:=s2 _ _ hD
 have k02:Kp H H2 p:=k01.trans (Kp.of s2 hh1)
 obtain⟨b,hb,hbt,hbf⟩ : ∃b,Ey (V.str way) [V.str "drop",V.str "lay"]=b/\(b=true->es ≠ [])/\(b=false->way ≠ "drop"):=by
  rcases hw with rfl|⟨rfl,c⟩|⟨rfl,c⟩|rfl|⟨rfl,c⟩
  ·exact⟨false,by z_go,fun z=>absurd z (by decide),fun _=>by z_go⟩
  ·exact⟨false,by z_go,fun z=>absurd z (by decide),fun _=>by z_go⟩
  ·exact⟨true,by z_go,fun _=>c,fun z=>absurd z (by decide)⟩
  ·exact⟨false,by z_go,fun z=>absurd z (by decide),fun _=>by z_go⟩
  ·exact⟨true,by z_go,fun _=>c,fun z=>absurd z (by decide)⟩
 refine⟨T,_,rfl,.inr (iM.of hT),rfl,rfl,?_⟩
 have hb2:(if (false:Bool)=true then !Ey (V.str way) [V.str "drop",V.str "lay"] else Ey (V.str way) [V.str "drop",V.str "lay"])=b:=hb
 rw[hb2]
 cases b with
 | true =>
  have kp:=ke (hbt rfl)
  x_go
  refine⟨p,_,500,rfl,hh2,by omega,by decide,by decide,fun v H3 v0 v1 hh3 k3=>?_⟩
  have hD3:=k3.1 _ _ hD2 nDp
  x_go
  rw[Uv]
  x_go
  have z0:0<=v%(kk.length:Int):=VL _ (by omega)
  have z1:v%(kk.length:Int)<kk.length:=VA _ (by omega)
  obtain⟨j,hj⟩ : ∃j:Nat,v%(kk.length:Int) =(j:Int):=⟨(v%(kk.length:Int)).toNat,by omega⟩
  rw[hj]
  have hv:=Uy (show j<kk.length by omega)
  generalize kk[j]=kv at hv
  have km:=UA hv
  obtain⟨g0,g1⟩:=kb kv km
  refine cJ (aW.of hD3) (Lp hv) ?_
  x_go
  exact q kv H3 g0 g1 (fun _=>km) (hh3.mono (by omega)) (k02.trans k3)
 | false =>
  have nd:=hbf rfl
  x_go
  refine⟨p,_,rfl,hh2,by omega,fun v0 H3 v00 v01 hh3 k3=>?_⟩
  have hD3:=k3.1 _ _ hD2 nDp
  have k03:=k02.trans k3
  x_go
  obtain⟨m0,hm0⟩:=wF (ks:=kk) (by omega) v0
  refine⟨fun m σ H'=>H'=H3/\∃v,σ=[some (.ref p),some (.str way),some (.ref l),some (.ref D),some (.int v)]/\0<=v/\v<1152921504606846976/\(v+m)%1152921504606846976∉kk,⟨m0,rfl,v0,rfl,v00,by omega,hm0⟩,?_⟩
  rintro m σ H' ⟨rfl,v,rfl,u0,u1,hm⟩
  x_go
  refine vK (aW.of hD3) ?_
  x_go
  refine bM (fun c=>?_) (fun c=>?_)
  ·refine⟨_,fun σ' H'' h=>h,?_⟩
   x_go
   have hm1:m≠0:=fun e=>by
    subst e
    rw[show((0:Nat):Int)=0 from rfl,Int.add_zero,WD u0 u1]at hm
    exact hm c
   refine⟨m-1,by omega,rfl,(v+1)%1152921504606846976,rfl,by omega,by omega,?_⟩
   have e:((v+1)%1152921504606846976+((m-1:Nat):Int))%1152921504606846976 =(v+m)%1152921504606846976:=by omega
   rw[e];exact hm
  ·x_go
   exact q v _ u0 u1 (fun z=>absurd z nd) (hh3.mono (by omega)) k03
theorem vM {f:Addr}{fd:FuncData}(F:fz K "_law_near" "_law_near" iA f fd) (mF:mg "_law_near" = some (.ref f)) (bF:Binds K fd Gx []) (T:Bl mg) (aF:FI P w K mg base) (cu:Qc P w K mg base) (cW:PV P w K mg base):bJ P w K mg base "_law_near" Gx 4 (lP K):=by
 refine bJ.of F mF bF fO (fun vs H Q E h=>?_) (fun _ A _ _ H vs Q E hr h=>?_)
 ·obtain⟨p,N,n,g,rfl,_⟩:=h;rfl
 obtain⟨p,N,n,g,rfl,hh,hN,n0,n1,g0,g1,q⟩:=h
 have e60:(2:Int)^60=1152921504606846976:=by decide
 refine⟨_,(ai (aG (i:=3) fO.nd rfl (Or.inl rfl) (cy ah))
   (ai (eS Vr rfl (cK rfl T.range (aa (pv 1) ah af)) (aC (i:=4) fO.nd rfl (Or.inl rfl)) (ai (aG (i:=5) fO.nd rfl (Or.inl rfl) (aJ bB (aJ fQ (aJ iZ (bP cW hr.mo (aa (pv 0) ah af)) aj) aj) (bP aF hr.mo (aa (pv 0) (aa (pv 2) ah af) af))))
   (ai (jT Vr (aL gM (pv 5) (pv 3) (by with_unfolding_all rfl)) (ay (aG (i:=5) fO.nd rfl (Or.inl rfl) (aJ cU (aJ bB (pv 5) aj) (gj (c:=1152921504606846976) (by z_go) ⟨by decide,by decide,by decide⟩)))))
   (ay (iK (oB VX VR VS dQ (pv 3) (aa (pv 5) ah af)))))))
   (ay (aN (b7 rfl (cF (sc:=aq iA) (N:=Ji) (vs:=EK) (fs:=yi) (js:=[0]) (by z_go) rfl rfl) (bu (pv 3)) (fun _ _ _ _=>aC (i:=0) (show(["_law_key_here", "_law_hand"]:List Str).Nodup by z_go) rfl (Or.inl rfl)) (fun _ _ _ _=>gu) (fun _ _ _ _=>(bW (aa (pv 0) (aa (bP cu hr.mo (aa (pv 1) ah af)) ah aQ) af)))))))),?_⟩
 rw[uK]
 x_go
 refine⟨by decide,fun D nD=>?_⟩
 have ck:=CK.start (ys:=[]) hh nD
 generalize upd H D _=H1 at ck ⊢
 x_go
 refine⟨n,rfl,by omega,by omega,?_⟩
 refine gX (n:=n.toNat) (fun i σ H'=>(∃x1 x2,σ=[some (.ref p),some (.int n),some (.int g),some (.ref D),x1,x2])/\∃ns:List Int,ns.Nodup/\(∀k∈ns,0<=k/\k<1152921504606846976)/\ns.length=i/\CK H p D (N+30*i) (ns.map V.int) H') ⟨⟨_,_,rfl⟩,[],WR,by simp,rfl,ck⟩ ?_ ?_
 ·rintro i σ H2 hi ⟨⟨x1,x2,rfl⟩,ns,nd,bd,len,ck⟩
  x_go
  refine⟨p,_,rfl,ck.hh,by omega,fun v0 H3 v00 v01 hh3 k3=>?_⟩
  have ck:=ck.draw k3 hh3
  x_go
  refine⟨p,_,g,rfl,ck.hh,by omega,by omega,by omega,fun dd H3b d0 d1 hh3b k3b=>?_⟩
  have ck:=ck.draw k3b hh3b
  have hD:=ck.lat
  x_go
  have v0':0<=v0 / 16*16+dd:=by omega
  have v1':v0 / 16*16+dd<1152921504606846976:=by omega
  generalize v0 / 16*16+dd=v at v0' v1' ⊢
  obtain⟨m0,hm0⟩:=J_ (ks:=ns) (by omega) v
  refine⟨fun m σ H'=>H'=H3b/\∃v,σ=[some (.ref p),some (.int n),some (.int g),some (.ref D),some (.int (0+i)),some (.int v)]/\0<=v/\v<1152921504606846976/\(v+16*m)%1152921504606846976∉ns,⟨m0,rfl,v,rfl,v0',v1',hm0⟩,?_⟩
  rintro m σ H' ⟨rfl,v,rfl,u0,u1,hm⟩
  x_go
  refine vK (aW.of hD) ?_
  x_go
  refine bM (fun c=>?_) (fun c=>?_)
  ·refine⟨_,fun σ' H'' h=>h,?_⟩
   x_go
   have hm1:m≠0:=fun e=>by
    subst e
    rw[show 16*((0:Nat):Int)=0 from rfl,Int.add_zero,WD u0 u1]at hm
    exact hm c
   refine⟨m-1,by omega,rfl,(v+16)%1152921504606846976,rfl,by omega,by omega,?_⟩
   have e:((v+16)%1152921504606846976+16*((m-1:Nat):Int))%1152921504606846976 =(v+16*m)%1152921504606846976:=by omega
   rw[e];exact hm
  ·x_go
   refine⟨.inl ⟨rfl,_,aW.of hD⟩,?_⟩
   x_go
   refine⟨D,_,_,rfl,rfl,hD,by rw[Uv];exact aE (by omega),?_⟩
   x_go
   have ck:=ck.mono (M:=N+30*(i+1)) (by omega)
   refine⟨⟨_,_,rfl⟩,ns ++ [v],?_,fun k hk=>?_,by rw[Uz,len];rfl,?_⟩
   ·rw[Vs]
    exact⟨nd,by simp,fun a ha b hb e=>by simp at hb;rw[hb]at e;exact c (e ▸ ha)⟩
   ·rcases UG.mp hk with z|z
    ·exact bd k z
    ·simp at z;rw[z];exact⟨u0,u1⟩
   ·rw[UB]
    exact ck.push
 ·rintro σ H2 ⟨⟨x1,x2,rfl⟩,ns,nd,bd,len,ck⟩
  have ck:=ck.mono (M:=N+4000) (by omega)
  have hD:=ck.lat
  have k02:=ck.kp
  x_go
  refine⟨D,rfl,⟨_,aW.of hD⟩,fun D2 nD2=>?_⟩
  refine bf (xs:=ns.map V.int) (fun j σ' ys H'=>(∃x,σ'=[x,some (.ref p)])/\j<=ns.length/\∃(ts:List Addr) (es:List (Int×Str)),ys=ts.map V.ref/\CK H2 p D2 (N+4000+30*j) ys H'/\EL H' ts es/\es.map (·.1)=ns.take j) D2 ⟨⟨_,rfl⟩,Vj _,[],[],rfl,CK.start ck.hh nD2,P1.nil,rfl⟩ (fun i σ' ys H' _ h=>by
   obtain⟨_,_,ts,es,_,c,_⟩:=h
   exact aW.of (c.kp.1 _ _ hD ck.np)) ?_ ?_
  ·rintro j x σ' ys H4 hx ⟨⟨z1,rfl⟩,jl,ts,es,rfl,ck4,el4,ek⟩
   obtain⟨k,hk,rfl⟩:=ints_get hx
   have jl2:=(Ux.mp hk).1
   have kb:=bd k (UA hk)
   have tl:ts.length=j:=by
    rw[el4.1,<- Uv (f:=fun x:Int×Str=>x.1),ek,UH];omega
   x_go
   refine⟨p,_,rfl,ck4.hh,by omega,fun z H5 zo zl hh5 k5=>?_⟩
   have kt5:=iF ck4.hh k5
   have ck5:=ck4.draw k5 hh5
   x_go
   refine⟨zs2,fun t nt=>?_⟩
   generalize hE7:upd H5 t _=H7
   have s7:=(bg nt hE7).2
   obtain⟨ck7,ht,tp,tD⟩:=ck5.new nt hE7
   clear hE7
   have kt8:∀t' xs,H7 t'=some (.tup xs)->(upd H7 D2 (.lst (ts.map V.ref ++ [V.ref t]))) t'=some (.tup xs):=fun t' xs e=>by rw[av (oj e ck7.lat (by intro z;cases z))];exact e
   have ck8:=(ck7.mono (M:=N+4000+30*(j+1)) (by omega)).push (zs:=ts.map V.ref ++ [V.ref t])
   refine⟨ck7.lat,by rw[Uv];exact aE (by omega),⟨_,rfl⟩,by omega,ts ++ [t],es ++ [(k,z)],by rw[UB];rfl,ck8,?_,?_⟩
   ·exact P1.snoc (el4.keep fun t' xs e=>kt8 _ _ (s7 _ _ (kt5 _ _ e))) ⟨kt8 _ _ ht,zo,kb.1,kb.2,zl⟩
   ·rw[UB,ek,aX hk];rfl
  ·rintro σ' ys H4 ⟨⟨z1,rfl⟩,jl,ts,es,rfl,ck4,el4,ek⟩
   rw[Uv,Va]at ek
   have ll:es.length=ns.length:=by rw[<- ek,Uv]
   exact q D2 ts es H4 (k02.free nD2 (ck.hh.ne nD2)) ck4.lat el4 (by rw[ek];exact nd) (by omega) (ck4.hh.mono (by rw[Uv];omega)) (k02.trans ck4.kp)
theorem pT {f:Addr}{fd:FuncData}(F:fz K "_law_places" "_law_places" iR f fd) (mF:mg "_law_places" = some (.ref f)) (bF:Binds K fd LU []) (T:Bl mg)  : bJ P w K mg base "_law_places" LU 1 (jQ K):=by
 refine bJ.of F mF bF qt (fun vs H Q E h=>?_) (fun _ A _ _ H vs Q E hr h=>?_)
 ·obtain⟨a,ns,l,m,rfl,_⟩:=h;rfl
 obtain⟨a,ns,l,m,rfl,ha,hl,l0,l1,m0,m1,q⟩:=h
 refine⟨_,(ay (aN (dg (zN rfl) rfl T.list l7 (aa (dg BU rfl T.range CF (aa (aV (uq rfl) rfl T.max zA (aa (pv 1) (aa (aV (B8 rfl) rfl T.min Lf (aa (aV aZ rfl T.len cj (aa (pv 0) ah af)) (aa (pv 2) ah af) aQ)) ah aQ) af)) ah aQ)) ah aQ)))),?_⟩
 rw[qS]
 x_go
 refine⟨a,_,rfl,.inl ha,?_⟩
 rw[Uv]
 x_go
 refine GZ fun r nr=>?_
 generalize hE:upd H r _=H1
 obtain⟨hr1,s1⟩:=bg nr hE
 clear hE
 x_go
 refine⟨r,_,rfl,hr1,by omega,by omega,fun l' nl'=>?_⟩
 exact q _ l' _ (by omega) (s1.free nl') ao (s1.trans (aI nl' _))
theorem qi {f:Addr}{fd:FuncData}(F:fz K "_law_things" "_law_things" gm f fd) (mF:mg "_law_things" = some (.ref f)) (bF:Binds K fd ze []) (T:Bl mg) (dZ:LD P w K mg base):bJ P w K mg base "_law_things" ze 3 (jN K):=by
 refine bJ.of F mF bF qj (fun vs H Q E h=>?_) (fun _ A _ _ H vs Q E hr h=>?_)
 ·obtain⟨y,l,w,R,X,ks,ee,rfl,_⟩:=h;rfl
 obtain⟨y,l,w,R,X,ks,ee,rfl,hY,R1,R2,hl,kl,kb,fd,q⟩:=h
 have hen:f7 H X:=hY.choose_spec.2.2.1
 refine⟨_,(ay (aN (b7 rfl (cF (sc:=aq gm) (N:=ze) (vs:=EK) (fs:=zV) (js:=[0]) (by z_go) rfl rfl) (bu (pv 1)) (fun _ _ _ _=>aC (i:=0) (show(["_law_key_here", "_law_yard"]:List Str).Nodup by z_go) rfl (Or.inl rfl)) (fun _ _ _ _=>gu) (fun _ _ _ _=>(aY (gG (K:=K) rfl) (bP dZ hr.mo (aa (pv 1) (aa (pv 0) ah af) af)) aj (fun _ _=>rfl)))))),?_⟩
 rw[qR]
 x_go
 refine⟨l,rfl,⟨_,aW.of hl⟩,fun D nD=>?_⟩
 refine bf (xs:=ks.map V.int) (fun j σ' ys H'=>(∃x,σ'=[x,some (.ref y)])/\aO H H'/\ys =((ks.take j).map fun k=>pick k ee).map xV/\H' D=some (.lst ys)) D ⟨⟨_,rfl⟩,aI nD _,rfl,ao⟩ (fun i σ' ys H' _ h=>aW.of (h.2.1 _ _ hl)) ?_ ?_
 ·rintro j x σ' ys H1 hx ⟨⟨z1,rfl⟩,s1,rfl,hD⟩
  obtain⟨k,hk,rfl⟩:=ints_get hx
  obtain⟨k0,k1⟩:=kb k (UA hk)
  have jl:=(Ux.mp hk).1
  x_go
  refine⟨y,w,R,k,X,rfl,hY.same s1,k0,by omega,R1,R2,fun t H2 ht s2=>?_⟩
  rw[gq (fun _ _ e=>s1 _ _ e) (ny hen),show bw X k R=aT X (az k R).toNat from rfl,fd k]at ht
  x_go
  refine⟨s2 _ _ hD,?_,⟨_,rfl⟩,fun b o e=>by rw[av (ak e nD)];exact s2 _ _ (s1 _ _ e),?_,ao⟩
  ·rw[Uv,Uv,UH]
   exact aE (by omega)
  ·rw[aX hk,UB,UB];rfl
 rintro σ' ys H1 ⟨⟨z1,rfl⟩,s1,rfl,hD⟩
 rw[Uv,Va]at hD
 x_go
 exact q D H1 nD hD s1
theorem lQ {f:Addr}{fd:FuncData}(F:fz K "_law_mended_to" "_law_mended_to" dW f fd) (mF:mg "_law_mended_to" = some (.ref f)) (bF:Binds K fd Gz []) (T:Bl mg) (gg:bJ P w K mg base "_law_things" ze 3 (jN K)) (cN:PN P w K mg base) (gQ:bJ P w K mg base "mending" jx 8 (k7 K)) (fh:KJ P w K mg base) (vS:bJ P w K mg base "found" x_ 5 (yJ K)):bJ P w K mg base "_law_mended_to" Gz 9 (iu K):=by
 refine bJ.of F mF bF cM (fun vs H Q E h=>?_) (fun _ A _ _ H vs Q E hr h=>?_)
 ·obtain⟨y,l,w,R,n,many,X,ks,ee,rfl,_⟩:=h;rfl
 obtain⟨y,l,w,R,n,many,X,ks,ee,rfl,hY,yn,w2,R2,ok,el,al,n2,hl,kl,kb,m2,q⟩:=h
 have hu:=hr.units
 obtain⟨_,_,_,hen,sz⟩:=id hY
 have w1:=yn.sn.w1
 have R1:=yn.sn.R1
 have e60:(2:Int)^60=1152921504606846976:=by decide
 refine⟨_,(ai (aG (i:=3) cM.nd rfl (Or.inl rfl) (bP gg hr.mo (aa (pv 0) (aa (pv 1) ah af) af)))
   (ai (aG (i:=4) cM.nd rfl (Or.inr rfl) (bP cN hr.mo (aa (pv 0) ah af)))
   (ai (eS Vr rfl (bu (cC cX (bP gQ hr.mo (aa (pv 0) ah af)) dw (cR (pv 2)))) (aC (i:=5) cM.nd rfl (Or.inl rfl)) (ai (aG (i:=4) cM.nd rfl (Or.inr rfl) (bP fh hr.mo (aa (pv 4) (aa (pv 5) ah af) af)))
   (ay (bY (PW.pt (DI (aL (mU hu) (bP gg hr.mo (aa (pv 4) (aa (pv 1) ah af) af)) (pv 3) (aU _)) (Ac (aL (mU hu) (b7 rfl (cF (sc:=aq dW) (N:=LM) (vs:=EK) (fs:=["_law_here"]) (js:=[4]) (by z_go) rfl rfl) (bu (pv 1)) (fun _ _ _ _=>aC (i:=0) (show(["_law_key_here", "_law_here"]:List Str).Nodup by z_go) rfl (Or.inl rfl)) (fun _ _ _ _=>gu) (fun _ _ _ _=>(aY (gG (K:=K) rfl) (bP vS hr.mo (aa (pv 1) (aa (pv 0) ah af) af)) aj (fun _ _=>rfl)))) (pv 3) (aU _))))) (ay (aN jZ)) bh))))
   (ay (aN (pv 4)))))),?_⟩
 rw[lW]
 x_go
 refine⟨y,l,w,R,X,ks,ee,rfl,hY,by omega,by omega,hl,kl,kb,yn.sn.fd,fun D1 H1 nD1 hD1 s1=>?_⟩
 x_go
 refine⟨y,w,R,X,rfl,hY.same s1,fun y1 h1 bs1 H2 ny1 hy1 t1 s2=>?_⟩
 have s02:=s1.trans s2
 have hY2:Yd H2 y1 w R X:=⟨h1,hy1,(t1.r3S).weak (fun _ _=>trivial),hen.same s02,sz⟩
 x_go
 have st0:=yn.sn.stand.length_eq
 refine⟨y,w,R,X,rfl,hY.same s02,w1,by omega,R1,by omega,by have:=yn.sm.1;omega,fun i=>(yn.sm.ok hen i).same s02,by omega,by rw[lU s02 hen];omega,fun D ss Z H3 nD hD ez cl hP s3=>?_⟩
 have s03:=s02.trans s3
 rw[lU s02 hen]at cl
 have cl:=cl.perm yn.sn.stand
 have hP:=hP.imp fun s st h=>h.same fJ
 have kt3:∀t xs,H t=some (.tup xs)->H3 t=some (.tup xs):=fun _ _ e=>s03 _ _ e
 have yn3:=yn.keep kt3 hen
 have hen3:=hen.keep kt3
 have rl:=Bk (H:=H3) (X:=X) (Z:=Z) (R:=R)
 have zl:(cg Z).length<=25:=by rw[<- uh (H:=H3),(cH.flat yn.sn.nd cl w1 R1).length_eq];exact el
 have ynj:=GS (Z:=Z) yn3 cl w2 R2 el
 have enj:=zJ hen3 hP
 have hfin:f_ X (cE H3 R X Z) (cE H3 R X Z).length =(cE H3 R X Z).foldl gO X:=by unfold f_;rw[Va]
 have clf:cH w R ee (yD H3 (f_ X (cE H3 R X Z) (cE H3 R X Z).length)):=by rw[hfin];exact Cz cl yn3.tr
 have dR:=fun st (hm:st∈cE H3 R X Z)=>Du hm
 have alj:∀j,(cg (f_ X (cE H3 R X Z) j)).length<=n+25:=fun j=>UP AE (by omega)
 have sl:(cE H3 R X Z).length<1000:=Ba cl yn.sn.nd w1 R1 R2 el yn.sm.1
 generalize cE H3 R X Z=sts at hP ynj enj clf dR alj sl
 x_go
 refine e_ (aW.of hD) fun L nL=>?_
 rw[dO]
 generalize hEq:upd H3 L _=H4
 obtain⟨hL,s4⟩:=bg nL hEq
 clear hEq
 refine⟨L,rfl,⟨_,aW.of hL⟩,?_⟩
 have oks:∀o∈ks.map (fun k=>pick k ee),∀z,o=some z->PyData.strOk z=true:=fun o ho z hz=>by
  obtain⟨k,_,rfl⟩:=UC.mp ho
  exact FN ok k z hz
 refine fX (xs:=(ss.take many).map V.ref) (fun i σ H'=>(∃y' x5,σ=[some (.ref y),some (.ref l),some (.int many),some (.ref D1),some (.ref y'),x5]/\Yd H' y' w R (f_ X sts i))/\aO H4 H') ⟨⟨_,_,rfl,by rw[lX];exact hY2.same (s3.trans s4)⟩,aO.refl _⟩ (fun _ _ _ _ h=>aW.of (h.2 _ _ hL)) ?_ ?_
 ·rintro i x σ H5 hx ⟨⟨y',x5,rfl,hY5⟩,s5⟩
  obtain⟨sj,hsj,rfl⟩:=b9 hx
  have il:=(Ux.mp hsj).1
  rw[UH]at il
  rw[V8 (by omega)]at hsj
  obtain⟨st,hst,hsa⟩:=hP.get hsj
  have s35:aO H3 H5:=s4.trans s5
  have hsa5:=hsa.same s35
  obtain⟨_,_,_,hen5,sz5⟩:=id hY5
  x_go
  refine⟨y',sj,w,R,_,st,rfl,hY5,hsa5,fun y3 h3 H6 ny3 hy3 nh3 r3 s6=>?_⟩
  rw[dR st (UA hst)]at hy3
  have hY6:Yd H6 y3 w R (f_ X sts (i+1)):=by
   rw[mQ hst]
   exact⟨h3,hy3,r3.weak (fun _ _=>trivial),(hen5.step hsa5).same s6,sz5.step hsa5⟩
  have s36:=s35.trans s6
  have s06:=s03.trans s36
  have kt36:∀t xs,H3 t=some (.tup xs)->H6 t=some (.tup xs):=fun _ _ e=>s36 _ _ e
  have yn6:=(ynj (i+1)).keep kt36 (enj (i+1))
  have en6:=(enj (i+1)).keep kt36
  x_go
  refine⟨y3,l,w,R,_,ks,ee,rfl,hY6,by omega,by omega,s06 _ _ hl,kl,kb,yn6.sn.fd,fun D7 H7 nD7 hD7 s7=>?_⟩
  have s07:=s06.trans s7
  have gA:∀{H':Hp},aO H1 H'->GD K H' 2 (.ref D1) (.list ((ks.map fun k=>pick k ee).map oD)):=fun s=>GD.lst (s _ _ hD1) (AJ oks)
  have s17:aO H1 H7:=((s2.trans s3).trans s36).trans s7
  have gB:GD K H7 2 (.ref D7) (.list ((ks.map fun k=>pick k ee).map oD)):=GD.lst hD7 (AJ oks)
  x_go
  refine⟨_,_,gB.1,(gA s17).1,gB.shaped (by omega),(gA s17).shaped (by omega),?_⟩
  rw[gB.refl]
  x_go
  refine⟨l,rfl,⟨_,aW.of (s07 _ _ hl)⟩,fun D8 nD8=>?_⟩
  refine bf (xs:=ks.map V.int) (fun j σ' ys H'=>(∃x,σ'=[x,some (.ref y3)])/\aO H7 H'/\ys =((ks.take j).map fun k=>pick k ee).map xV/\H' D8=some (.lst ys)) D8 ⟨⟨_,rfl⟩,aI nD8 _,rfl,ao⟩ (fun i σ' ys H' _ h=>aW.of (h.2.1 _ _ (s07 _ _ hl))) ?_ ?_
  ·rintro j x σ' ys H8 hx2 ⟨⟨z1,rfl⟩,s8,rfl,hD8⟩
   obtain⟨k,hk,rfl⟩:=ints_get hx2
   obtain⟨k0,k1⟩:=kb k (UA hk)
   have jl:=(Ux.mp hk).1
   have s68:=s7.trans s8
   x_go
   refine⟨y3,w,R,k,_,rfl,hY6.same s68,yn6.dk.keep (fun _ _ e=>s68 _ _ e) en6,by omega,by omega,fun t H9 ht s9=>?_⟩
   rw[gq (fun _ _ e=>s68 _ _ e) (ny en6),show bw (f_ X sts (i+1)) k R=aT (f_ X sts (i+1)) (az k R).toNat from rfl,yn6.sn.fd k]at ht
   x_go
   refine⟨s9 _ _ hD8,?_,⟨_,rfl⟩,fun b o e=>by rw[av (ak e nD8)];exact s9 _ _ (s8 _ _ e),?_,ao⟩
   ·rw[Uv,Uv,UH]
    exact aE (by omega)
   ·rw[aX hk,UB,UB];rfl
  rintro σ' ys H8 ⟨⟨z1,rfl⟩,s8,rfl,hD8⟩
  rw[Uv,Va]at hD8
  have gC:GD K H8 2 (.ref D8) (.list ((ks.map fun k=>pick k ee).map oD)):=GD.lst hD8 (AJ oks)
  have s18:=s17.trans s8
  x_go
  refine⟨_,_,gC.1,(gA s18).1,gC.shaped (by omega),(gA s18).shaped (by omega),?_⟩
  rw[gC.refl]
  x_go
  exact⟨⟨_,_,rfl,hY6.same (s7.trans s8)⟩,s5.trans (s6.trans (s7.trans s8))⟩
 ·rintro σ H5 ⟨⟨y',x5,rfl,hY5⟩,s5⟩
  have s35:aO H3 H5:=s4.trans s5
  have kt35:∀t xs,H3 t=some (.tup xs)->H5 t=some (.tup xs):=fun _ _ e=>s35 _ _ e
  x_go
  refine q _ _ _ hY5 ((ynj _).keep kt35 (enj _)) (alj _) (fun e=>?_) (s03.trans s35)
  rw[jm kt35 (enj _),Uv,UH,hP.1]
  rw[show min many sts.length=sts.length by omega]
  exact clf
theorem yu {f:Addr}{fd:FuncData}(F:fz K "_law_one" "_law_one" eW f fd) (mF:mg "_law_one" = some (.ref f)) (bF:Binds K fd Hh []) (T:Bl mg) (jB:bJ P w K mg base "_law_ways" Hz 2 (lV K)) (iS:bJ P w K mg base "_law_key_of" Hy 4 (jD K)) (eE:bJ P w K mg base "_law_asked_change" LZ 6 (gn K)) (cN:PN P w K mg base) (d7:JB P w K mg base) (cu:Qc P w K mg base) (aF:FI P w K mg base) (fh:KJ P w K mg base) (gW:bJ P w K mg base "mended" jx 7 (m7 K)) (fY:bJ P w K mg base "_law_mended_to" Gz 9 (iu K)) (dZ:LD P w K mg base) (gQ:bJ P w K mg base "mending" jx 8 (k7 K)):bJ P w K mg base "_law_one" Hh 10 (nW K):=by
 refine bJ.of F mF bF bz (fun vs H Q E h=>?_) (fun _ A _ _ H vs Q E hr h=>?_)
 ·obtain⟨p,y,l,N,w,R,X,ts,es,rfl,_⟩:=h;rfl
 obtain⟨p,y,l,N,w,R,X,ts,es,rfl,hh,hN,hY,b,hl,el,esl,w2,R2,q⟩:=h
 have hu:=hr.units
 have hu1:=Eu hr
 obtain⟨h0,hy,_,hen,sz⟩:=id hY
 have w1:=b.w1
 have R1:=b.R1
 have nlp:=iy hh hl
 refine⟨_,(ai (aG (i:=3) bz.nd rfl (Or.inl rfl) (bP jB hr.mo (aa (pv 0) (aa (aY b8 (pv 1) aj (fun _ _=>rfl)) (aa (pv 2) ah af) aM) af)))
   (ai (aG (i:=4) bz.nd rfl (Or.inl rfl) (bP iS hr.mo (aa (pv 0) (aa (pv 3) (aa (pv 2) ah af) af) af)))
   (ai (aG (i:=5) bz.nd rfl (Or.inl rfl) (bP eE hr.mo (aa (pv 1) (aa (pv 3) (aa (pv 4) (aa (bP cu hr.mo (aa (pv 0) ah af)) ah aQ) af) af) af)))
   (ai (aG (i:=6) bz.nd rfl (Or.inl rfl) (aJ cU (bP aF hr.mo (aa (pv 0) (aa aj ah aB) af)) (aJ bB (aV aZ rfl T.len cj (aa (pv 5) ah af)) aj)))
   (ai (je (bY (aL dF (bP aF hr.mo (aa (pv 0) (aa aj ah aB) af)) aj (aU _)) (ay (aG (i:=6) bz.nd rfl (Or.inl rfl) (aV aZ rfl T.len cj (aa (cC cX (b7 rfl (cF (sc:=aq eW) (N:=L7) (vs:=["_law_step"]) (fs:=[]) (js:=[]) (by z_go) rfl rfl) (bu (pv 5)) (fun _ _ _ _=>aC (i:=0) (show(["_law_step"]:List Str).Nodup by z_go) rfl (Or.inl rfl)) (fun _ _ _ _=>vj (aL dF (aY (gG (K:=K) rfl) (pv 0) aj (fun _ _=>rfl)) bQ (aU _))) (fun _ _ _ _=>(pv 0))) dw (cR (pv 6))) ah aM)))) bh))
   (ai (aG (i:=8) bz.nd rfl (Or.inr rfl) (bP cN hr.mo (aa (pv 1) ah af)))
   (ai (eS Vr rfl (bu (cC cX (pv 5) dw (cR (pv 6)))) (aC (i:=7) bz.nd rfl (Or.inl rfl)) (ay (aG (i:=8) bz.nd rfl (Or.inr rfl) (bP fh hr.mo (aa (pv 8) (aa (pv 7) ah af) af)))))
   (ai (aG (i:=9) bz.nd rfl (Or.inl rfl) (aJ fV (b7 rfl (cF (sc:=aq eW) (N:=L7) (vs:=GN) (fs:=[]) (js:=[]) (by z_go) rfl rfl) (bu (pv 2)) (fun _ _ _ _=>oX (K:=K) (n:=2) rfl rfl (aK (aC (i:=0) (show(GN:List Str).Nodup by z_go) rfl (Or.inl rfl)) (aK (aC (i:=1) (show(GN:List Str).Nodup by z_go) rfl (Or.inl rfl)) b6))) (fun _ _ _ _=>gu) (fun _ _ _ _=>(pv 0))) (cy (aa (pv 4) (aa (aJ cU (aJ bB (pv 4) aj) (gj (c:=1152921504606846976) (by z_go) ⟨by decide,by decide,by decide⟩)) (aa (aJ iZ (pv 4) aj) (aa (bP aF hr.mo (aa (pv 0) (aa aj ah aB) af)) ah aQ) br) br) af))))
   (ai (eN (i:=10) bz.nd rfl rfl rfl (cF (sc:=aq eW) (N:=L7) (vs:=["_law_one_here"]) (fs:=["_law_here"]) (js:=[8]) (by z_go) rfl rfl) (bu (aV (y9 rfl) rfl T.sorted iV (aa (dg (ES rfl) rfl T.set Lc (aa (pv 9) ah af)) ah aQ))) (fun _ _ _ _=>aC (i:=0) (show(["_law_one_here", "_law_here"]:List Str).Nodup by z_go) rfl (Or.inl rfl)) (fun _ _ _ _=>gu) (fun _ _ _ _=>(bW (aa (pv 0) (aa (aY (gG (K:=K) rfl) (bP dZ hr.mo (aa (pv 1) (aa (pv 0) ah af) af)) aj (fun _ _=>rfl)) ah aM) af))))
   (ai (aG (i:=11) bz.nd rfl (Or.inl rfl) (bP d7 hr.mo (aa (aY b8 (pv 1) aj (fun _ _=>rfl)) (aa (aY b8 (pv 8) aj (fun _ _=>rfl)) (aa (b7 rfl (cF (sc:=aq eW) (N:=L7) (vs:=["_law_entry"]) (fs:=[]) (js:=[]) (by z_go) rfl rfl) (bu (pv 10)) (fun _ _ _ _=>aC (i:=0) (show(["_law_entry"]:List Str).Nodup by z_go) rfl (Or.inl rfl)) (fun _ _ _ _=>vj (aL Fi (aY (gG (K:=K) rfl) (pv 0) aj (fun _ _=>rfl)) jZ (aU _))) (fun _ _ _ _=>(pv 0))) ah dN) aM) aM)))
   (ai (bY (aL (mU hu) (bP gW hr.mo (aa (pv 8) ah af)) (pv 11) (aU _)) (ay (aN yL)) bh)
   (ai (eS Vr rfl (cK rfl T.range (aa aj ah aB)) (aC (i:=12) bz.nd rfl (Or.inl rfl)) (ai (aG (i:=13) bz.nd rfl (Or.inl rfl) (aY bG (cy (aa (aJ cU (bP aF hr.mo (aa (pv 0) (aa aj ah aB) af)) (aJ bB aj (aV aZ rfl T.len cj (aa (bP gQ hr.mo (aa (pv 8) ah af)) ah aQ)))) (aa aj ah aB) br)) (dg BN rfl T.int JX (aa (vf dF (pv 12) aj (aU _)) ah oE)) (fun _ _=>rfl)))
   (ai (aG (i:=8) bz.nd rfl (Or.inr rfl) (bP fY hr.mo (aa (pv 8) (aa (pv 9) (aa (pv 13) ah af) af) af)))
   (ay (bY (PW.pt (DI (aL Jj (pv 8) jZ (aU _)) (Ac (aL (mU hu) (bP gW hr.mo (aa (pv 8) ah af)) (pv 11) (aU _))))) (ay (aN yL)) bh)))))
   (ay (aN (vf (Ab hu) (pv 8) (pv 11) (aU _)))))))))))))))),?_⟩
 rw[yj]
 x_go
 refine⟨p,l,N,R,ts,es,rfl,hh,by omega,hl,el,fun way H1 hw hh1 k1=>?_⟩
 have kt1:=iF hh k1
 have hl1:=k1.1 _ _ hl nlp
 have el1:=el.keep kt1
 x_go
 refine⟨p,l,_,R,way,ts,es,rfl,hh1,by omega,hw,hl1,el1,by omega,fun key H2 a0 a1 kd hh2 k2=>?_⟩
 have k02:=k1.trans k2
 x_go
 refine⟨p,_,rfl,hh2,by omega,fun z H3 zok zl hh3 k3=>?_⟩
 have k03:=k02.trans k3
 have kt3:=iF hh k03
 have hY3:=hY.kp hh k03
 have hen3:=hen.keep kt3
 have b3:Base _ X w R es:=⟨by rw[jm kt3 hen];exact b.cl,b.nd,w1,R1⟩
 have hl3:=k03.1 _ _ hl nlp
 have el3:=el.keep kt3
 have hw':Way way R es key:=by
  rcases hw with h|⟨h,c⟩|⟨h,c⟩|h|⟨h,c⟩
  ·exact .inl h
  ·exact .inr (.inl ⟨h,by omega⟩)
  ·exact .inr (.inr (.inl ⟨h,kd h⟩))
  ·exact .inr (.inr (.inr (.inl h)))
  ·exact .inr (.inr (.inr (.inr h)))
 x_go
 refine⟨y,w,R,X,es,way,z,key,rfl,hY3,b3,esl,w2,R2,⟨a0,a1⟩,⟨zok,zl⟩,hw',fun D ss sts H4 nD hD hP stp s4=>?_⟩
 have hP:=hP.imp fun s st h=>h.same fJ
 have hh4:=hh3.same s4
 have nDp:=hh3.ne nD
 have k04:=k03.trans (Kp.of s4 hh3)
 have sl:=hP.1
 x_go
 refine⟨p,_,500,rfl,hh4,by omega,by decide,by decide,fun v H5 v0 v1 hh5 k5=>?_⟩
 have hD5:=k5.1 _ _ hD nDp
 x_go
 rw[Uv]
 x_go
 have d0:0<=v%((L1 ss:Int)+1):=VL _ (by unfold L1;omega)
 have d1:v%((L1 ss:Int)+1) <(L1 ss:Int)+1:=VA _ (by unfold L1;omega)
 unfold L1 at d0 d1
 generalize v%((ss.length:Int)+1)=j0 at d0 d1 ⊢
 obtain⟨j1,rfl⟩ : ∃j:Nat,j0 =(j:Int):=⟨j0.toNat,by omega⟩
 refine⟨fun σ H'=>∃stop:Nat,σ=[some (.ref p),some (.ref y),some (.ref l),some (.str way),some (.int key),some (.ref D),some (.int stop),none,none,none,none,none,none,none]/\stop<=sts.length/\Hand H' p (N+80)/\Kp H5 H' p,?_,?_⟩
 ·x_go
  refine⟨p,_,4,rfl,hh5,by omega,by decide,by decide,fun u H6 u0 u1 hh6 k6=>?_⟩
  have hD6:=k6.1 _ _ hD5 nDp
  x_go
  refine bM (fun c=>?_) (fun c=>?_)
  ·x_go
   refine⟨D,rfl,⟨_,aW.of hD6⟩,fun D7 nD7=>?_⟩
   have k46:=k5.trans k6
   have stA:∀{H':Hp},aO H6 H'->∀(i:Nat) (a:Addr),ss[i]? = some a->∃nm xs,H' a=some (.tup (V.str nm::xs)):=fun sm i a e=>by
    obtain⟨st,_,h⟩:=hP.get e
    have h6:=iF hh4 k46
    cases st with
    | rooms n=>exact⟨_,_,sm _ _ (h6 _ _ h.1)⟩
    | cut r m=>exact⟨_,_,sm _ _ (h6 _ _ h.1)⟩
    | row r a2 es2=>obtain⟨l2,h1,_⟩:=h;exact⟨_,_,sm _ _ (h6 _ _ h1)⟩
   refine bf (xs:=ss.map V.ref) (fun j σ' ys H'=>(∃x,σ'=[x])/\aO H6 H'/\(∃as:List Addr,ys=as.map V.ref/\as.length<=j)/\j<=ss.length/\H' D7=some (.lst ys)) D7 ⟨⟨_,rfl⟩,aI nD7 _,⟨[],rfl,UE _⟩,Vj _,ao⟩ (fun i σ' ys H' _ h=>aW.of (h.2.1 _ _ hD6)) ?_ ?_
   ·rintro j x σ' ys H7 hx ⟨⟨z1,rfl⟩,s7,⟨as,rfl,al⟩,jl,hD7⟩
    obtain⟨sj,hsj,rfl⟩:=b9 hx
    have il:=(Ux.mp hsj).1
    obtain⟨nm,xs,htup⟩:=stA s7 j sj hsj
    x_go
    refine zC (iM.of htup) AN ?_
    x_go
    refine⟨rfl,?_⟩
    have lz:(as.map V.ref).length<sizeLine:=by rw[Uv];exact aE (by have:=stp.len;omega)
    by_cases g:V.str nm=V.str "row"
    ·rw[U8 g]
     x_go
     refine⟨hD7,lz,⟨_,rfl⟩,fun b o e=>by rw[av (ak e nD7)];exact s7 _ _ e,⟨as ++ [sj],by rw[UB];rfl,by rw[Uz,WS];omega⟩,by omega,ao⟩
    ·rw[U6 g]
     x_go
     exact⟨⟨_,rfl⟩,s7,⟨as,rfl,by omega⟩,by omega,hD7⟩
   ·rintro σ' ys H7 ⟨⟨z1,rfl⟩,s7,⟨as,rfl,al⟩,jl,hD7⟩
    rw[Uv]at al
    x_go
    refine e_ (aW.of hD7) fun L8 nL8=>?_
    rw[dO]
    generalize hEq:upd H7 L8 _=H8
    obtain⟨hL8,s8⟩:=bg nL8 hEq
    clear hEq
    x_go
    refine⟨(as.take j1).length,?_,?_,(hh6.same (s7.trans s8)).mono (by omega),k6.trans (Kp.of (s7.trans s8) hh6)⟩
    ·rw[Uv]
    ·rw[UH];omega
  ·x_go
   exact⟨j1,rfl,by omega,hh6.mono (by omega),k6⟩
 ·rintro σ H6 ⟨stop,rfl,hst,hh6,k56⟩
  have k46:=k5.trans k56
  have k06:=k04.trans k46
  have kt6:=iF hh k06
  have kt46:=iF hh4 k46
  have hY6:=hY.kp hh k06
  have hD6:=k46.1 _ _ hD nDp
  x_go
  refine⟨y,w,R,X,rfl,hY6,fun y7 h7 bs7 H7 ny7 hy7 t7 s7=>?_⟩
  have hen6:=hen.keep kt6
  have hY7:Yd H7 y7 w R X:=⟨h7,hy7,(t7.r3S).weak (fun _ _=>trivial),hen6.same s7,sz⟩
  x_go
  refine e_ (aW.of (s7 _ _ hD6)) fun L nL=>?_
  rw[dO]
  generalize hEq:upd H7 L _=H8
  obtain⟨hL,s8⟩:=bg nL hEq
  clear hEq
  have kt48:∀t xs,H4 t=some (.tup xs)->H8 t=some (.tup xs):=fun _ _ e=>s8 _ _ (s7 _ _ (kt46 _ _ e))
  have hen4:f7 H4 X:=hen3.same s4
  have hP6:P1 (lM H6) ss sts:=hP.imp fun s st h=>by
   cases st with
   | rooms n=>exact⟨kt46 _ _ h.1,h.2⟩
   | cut r m=>exact⟨kt46 _ _ h.1,h.2⟩
   | row r a2 es2 =>
    obtain⟨l2,h1,h2,h3,h4,h5,h6⟩:=h
    obtain⟨us,e⟩:=jg h6
    refine⟨l2,kt46 _ _ h1,?_,h3,h4,h5,fun v hv=>(h6 v hv).keep kt46⟩
    rw[e]at h2 ⊢
    exact k46.1 _ _ h2 (iy hh4 h2)
  refine⟨L,rfl,⟨_,aW.of hL⟩,?_⟩
  refine fX (xs:=(ss.take stop).map V.ref) (fun i σ H'=>(∃y' x7,σ=[some (.ref p),some (.ref y),some (.ref l),some (.str way),some (.int key),some (.ref D),some (.int stop),x7,some (.ref y'),none,none,none,none,none]/\Yd H' y' w (ET R sts i) (f_ X sts i))/\aO H8 H') ⟨⟨_,_,rfl,by rw[lX];exact hY7.same s8⟩,aO.refl _⟩ (fun _ _ _ _ h=>aW.of (h.2 _ _ hL)) ?_ ?_
  ·rintro i x σ H9 hx ⟨⟨y',x7,rfl,hY9⟩,s9⟩
   obtain⟨sj,hsj,rfl⟩:=b9 hx
   have il:=(Ux.mp hsj).1
   rw[UH]at il
   rw[V8 (by omega)]at hsj
   obtain⟨st,hst',hsa⟩:=hP6.get hsj
   have hsa9:=hsa.same ((s7.trans s8).trans s9)
   obtain⟨_,_,_,hen9,sz9⟩:=id hY9
   x_go
   refine⟨y',sj,w,_,_,st,rfl,hY9,hsa9,fun y3 h3 Ha ny3 hy3 nh3 r3 sa=>?_⟩
   x_go
   refine⟨⟨_,_,rfl,?_⟩,s9.trans sa⟩
   rw[mQ hst',yR hst']
   exact⟨h3,hy3,r3.weak (fun _ _=>trivial),(hen9.step hsa9).same sa,sz9.step hsa9⟩
  ·rintro σ H9 ⟨⟨y',x7,rfl,hY9⟩,s9⟩
   rw[Uv,UH,show min stop ss.length=stop by omega]at hY9
   obtain⟨R',ee,eR,R'1,R'2,sn,hee⟩:=stp.st stop hst
   rw[eR]at hY9
   x_go
   have s69:=(s7.trans s8).trans s9
   have hl9:=s69 _ _ (k06.1 _ _ hl nlp)
   have el9:=(el.keep kt6).same s69
   have hh9:=hh6.same s69
   refine⟨l,rfl,⟨_,aW.of hl9⟩,fun Dk nDk=>?_⟩
   refine bf (xs:=ts.map V.ref) (fun j σ' ys H'=>(∃x x',σ'=[x,x'])/\aO H9 H'/\ys =((es.take j).map (·.1)).map V.int/\H' Dk=some (.lst ys)) Dk ⟨⟨_,_,rfl⟩,aI nDk _,rfl,ao⟩ (fun i σ' ys H' _ h=>aW.of (h.2.1 _ _ hl9)) ?_ ?_
   ·rintro j x σ' ys Ha hx ⟨⟨z1,z2,rfl⟩,sa,rfl,hDa⟩
    obtain⟨tt,htt,rfl⟩:=b9 hx
    obtain⟨e,he,h1,_⟩:=el9.get htt
    have jl:=(Ux.mp he).1
    refine⟨tt,_,rfl,iM.of (sa _ _ h1),rfl,_,_,rfl,_,_,rfl,rfl,?_⟩
    x_go
    refine⟨hDa,?_,⟨_,_,rfl⟩,fun b o e=>by rw[av (ak e nDk)];exact sa _ _ e,?_,ao⟩
    ·rw[Uv,Uv,UH]
     exact aE (by omega)
    ·rw[aX he,UB,UB];rfl
   rintro σ' ys Ha ⟨⟨z1,z2,rfl⟩,sa,rfl,hDk⟩
   rw[Uv,el9.1,Va]at hDk
   have hha:=hh9.same sa
   have nDkp:=hh9.ne nDk
   x_go
   refine⟨p,_,12,rfl,hha,by omega,by decide,by decide,fun u Hb u0 u1 hhb kb=>?_⟩
   have hDkb:=kb.1 _ _ hDk nDkp
   x_go
   refine⟨zs4,fun L4 nL4=>?_⟩
   generalize hEq:upd Hb L4 _=Hc
   obtain⟨hL4,sc⟩:=bg nL4 hEq
   clear hEq
   x_go
   refine⟨Dk,L4,_,_,rfl,rfl,sc _ _ hDkb,hL4,by rw[Uv];exact UP (show _<=100 by simp;omega) (by decide),fun KL nKL=>?_⟩
   generalize hEq:upd Hc KL _=Hd
   obtain⟨hKL,sd⟩:=bg nKL hEq
   clear hEq
   obtain⟨ks,hKL,hks,ksl,ksm,ksk⟩ : ∃ks:List Int,Hd KL=some (.lst (ks.map V.int))/\(∀k∈ks,0<=k/\k<1152921504606846976)/\ks.length<=28/\(∀e∈es,e.1∈ks)/\key∈ks:=by
    refine⟨es.map (·.1) ++ [key,(key+1)%1152921504606846976,key / 2,u],by rw[hKL,UB];rfl,fun k hk=>?_,by simp;omega,fun e he=>Wy _ (UC.mpr ⟨e,he,rfl⟩),UX _ (UQ ..)⟩
    rcases UG.mp hk with hk|hk
    ·obtain⟨e,he,rfl⟩:=UC.mp hk
     exact(el.okE e he).2.1
    ·simp at hk
     rcases hk with rfl|rfl|rfl|rfl <;> omega
   x_go
   refine⟨KL,ks,rfl,hKL,by omega,fun S nS=>?_⟩
   generalize hEq:upd Hd S _=He
   obtain⟨hS,se⟩:=bg nS hEq
   clear hEq
   x_go
   have mlen:=pG _ ks rfl
   refine⟨S,jk ks,rfl,hS,by omega,fun ms Lm pm om nLm=>?_⟩
   generalize hEq:upd He Lm _=Hf
   obtain⟨hLm,sf⟩:=bg nLm hEq
   clear hEq
   have msm:∀k,k∈ms↔k∈ks:=fun k=>by rw[pm.mem_iff,Dj]
   x_go
   have k9a:Kp H9 Hb p:=(Kp.of sa hh9).trans kb
   have hhf:=hhb.same (((sc.trans sd).trans se).trans sf)
   have sbf:=((sc.trans sd).trans se).trans sf
   have k9f:Kp H9 Hf p:=k9a.trans (Kp.of sbf hhb)
   have hYf:=hY9.kp hh9 k9f
   have kt4f:∀t xs,H4 t=some (.tup xs)->Hf t=some (.tup xs):=fun _ _ e=>iF hh9 k9f _ _ (s9 _ _ (kt48 _ _ e))
   have enS:f7 H4 (f_ X sts stop):=zJ hen4 hP stop
   have ynf:Yn Hf (f_ X sts stop) w R' ee:=Yn.keep kt4f enS ⟨sn,DN (Mx (by rw[jm (fun _ _ e=>s4 _ _ e) hen3];exact b3.cl) b.nd) stp.gs stop,Es (b.sm w2 (by omega) esl) stp.gs stop,yV (Gd b.cl R1) stop⟩
   have enf:=enS.keep kt4f
   refine⟨Lm,rfl,⟨_,aW.of hLm⟩,fun Ds nDs=>?_⟩
   have eeL:ee.length<=25:=by
    rcases hee with rfl|rfl|rfl
    ·omega
    ·have:(xj es key z).length<=es.length+1:=by unfold xj;split <;> simp
     omega
    ·have:(tY es key).length<=es.length:=UY _ _
     omega
   have okes:=el.okE
   have eeO:Po ee:=by
    rcases hee with rfl|rfl|rfl
    ·exact okes
    ·intro e he
     rcases jF.mp he with rfl|h
     ·exact⟨zok,⟨a0,a1⟩,by show z.length<=100;omega⟩
     ·exact okes e h.1
    ·exact fun e he=>okes e (gP.mp he).1
   have eeK:∀e∈ee,e.1∈ms:=fun e he=>by
    rw[msm]
    rcases hee with rfl|rfl|rfl
    ·exact ksm e he
    ·rcases jF.mp he with rfl|h
     ·exact ksk
     ·exact ksm e h.1
    ·exact ksm e (gP.mp he).1
   have msnd:ms.Nodup:=pm.nodup_iff.mpr (GB ks)
   have msl:ms.length<=28:=by rw[pm.length_eq];omega
   have eeP:=DM sn.nd msnd eeK
   have msb:∀k∈ms,0<=k/\k<1152921504606846976:=fun k hk=>hks k ((msm k).mp hk)
   have hyf:Hf y=some (.tup [.int w,.int R,.ref h0]):=iF hh9 k9f _ _ (s69 _ _ (kt6 _ _ hy))
   have e60:(2:Int)^60=1152921504606846976:=by decide
   have e61:(2:Int)^61=2305843009213693952:=by decide
   refine bf (xs:=ms.map V.int) (fun j σ' ys H'=>(∃x,σ'=[x,some (.ref y')])/\aO Hf H'/\(∃us:List Addr,ys=us.map V.ref/\P1 (fun t k=>H' t=some (.tup [.int k,xV (pick k ee)])) us (ms.take j))/\H' Ds=some (.lst ys)) Ds ⟨⟨_,rfl⟩,aI nDs _,⟨[],rfl,P1.nil⟩,ao⟩ (fun i σ' ys H' _ h=>aW.of (h.2.1 _ _ hLm)) ?_ ?_
   ·rintro j x σ' ys Hg hx ⟨⟨z1,rfl⟩,sg,⟨us,rfl,hPu⟩,hDs⟩
    obtain⟨k,hk,rfl⟩:=ints_get hx
    obtain⟨k0,k1⟩:=msb k (UA hk)
    have jl:=(Ux.mp hk).1
    x_go
    refine⟨y',w,R',k,_,rfl,hYf.same sg,k0,by omega,by omega,by omega,fun t Hi ht si=>?_⟩
    rw[gq (fun _ _ e=>sg _ _ e) (ny enf),show bw (f_ X sts stop) k R'=aT (f_ X sts stop) (az k R').toNat from rfl,ynf.sn.fd k]at ht
    x_go
    refine⟨zs2,fun T nT=>?_⟩
    generalize hEq:upd Hi T _=Hj
    obtain⟨hT,sj⟩:=bg nT hEq
    clear hEq
    x_go
    have hDj:=sj _ _ (si _ _ hDs)
    have ul:=hPu.1
    rw[UH]at ul
    refine⟨hDj,?_,⟨_,rfl⟩,fun b o e=>by rw[av (ak e nDs)];exact sj _ _ (si _ _ (sg _ _ e)),⟨us ++ [T],by rw[UB];rfl,?_⟩,ao⟩
    ·rw[Uv];exact aE (by omega)
    ·rw[aX hk]
     refine P1.snoc (hPu.imp fun t k h=>?_) ?_
     ·have h':=sj _ _ (si _ _ h)
      rw[av (oj h' hDj (by intro z;cases z))];exact h'
     ·rw[av (oj hT hDj (by intro z;cases z))];exact hT
   rintro σ' ys Hg ⟨⟨z1,rfl⟩,sg,⟨us,rfl,hPu⟩,hDs⟩
   rw[Uv,Va]at hPu
   have hYg:=hYf.same sg
   have hyg:=sg _ _ hyf
   have yng:=ynf.keep (fun _ _ e=>sg _ _ e) enf
   have eng:=enf.same sg
   have hhg:=hhf.same sg
   obtain⟨h9,hy9,_⟩:=id hYg
   x_go
   refine⟨Ds,rfl,⟨_,aW.of hDs⟩,fun De nDe=>?_⟩
   refine bf (xs:=us.map V.ref) (fun j σ' ys H'=>(∃x,σ'=[x])/\aO Hg H'/\(∃as:List Addr,ys=as.map V.ref/\as.length<=j/\EL H' as ((ms.take j).flatMap (G4 ee)))/\H' De=some (.lst ys)) De ⟨⟨_,rfl⟩,aI nDe _,⟨[],rfl,UE _,P1.nil⟩,ao⟩ (fun i σ' ys H' _ h=>aW.of (h.2.1 _ _ hDs)) ?_ ?_
   ·rintro j x σ' ys Hi hx ⟨⟨z1,rfl⟩,si,⟨as,rfl,al,hPa⟩,hDe⟩
    obtain⟨tt,htt,rfl⟩:=b9 hx
    obtain⟨k,hk,ht⟩:=hPu.get htt
    obtain⟨k0,k1⟩:=msb k (UA hk)
    have jl:=(Ux.mp hk).1
    have hti:=si _ _ ht
    rw[aX hk,List.flatMap_append,show [k].flatMap (G4 ee)=G4 ee k by simp]
    x_go
    refine⟨rfl,?_⟩
    unfold G4
    cases ep:pick k ee with
    | none =>
     x_go
     exact⟨⟨_,rfl⟩,si,⟨as,rfl,by omega,by rw[U7];exact hPa⟩,hDe⟩
    | some zz =>
     rw[ep]at hti
     have hti:Hi tt=some (.tup [.int k,.str zz]):=hti
     rw[show(!decide (xV (some zz)=V.non))=true by rw[U6 (by intro z;cases z)];rfl]
     x_go
     refine⟨hDe,by rw[Uv];exact aE (by omega),⟨_,rfl⟩,fun b o e=>by rw[av (ak e nDe)];exact si _ _ e,⟨as ++ [tt],by rw[UB];rfl,by rw[Uz,WS];omega,?_⟩,ao⟩
     refine P1.snoc (hPa.imp fun t e h=>⟨?_,h.2⟩) ⟨?_,?_⟩
     ·rw[av (oj h.1 hDe (by intro z;cases z))];exact h.1
     ·rw[av (oj hti hDe (by intro z;cases z))];exact hti
     ·obtain⟨q1,q2,q3⟩:=eeO _ ((gS (mW sn.nd)).mp ep)
      exact⟨q1,k0,k1,q3⟩
   rintro σ' ys Hi ⟨⟨z1,rfl⟩,si,⟨as,rfl,_,hPa⟩,hDe⟩
   rw[Uv,hPu.1,Va]at hPa
   x_go
   refine⟨w,R',De,as,_,rfl,hDe,hPa,qW msnd,by rw[eeP.length_eq];omega,w1,by omega,R'1,by omega,fun yd Z Hj hYq cl sj=>?_⟩
   have cl:=cl.perm eeP
   have sgj:=si.trans sj
   have hZ:=IQ hYq cl w1 (by omega) (by omega) (by omega)
   have hYj:=hYg.same sgj
   have ynj:=yng.keep (fun _ _ e=>sgj _ _ e) eng
   have enj:=eng.same sgj
   have hhj:=hhg.same sgj
   have ezj:f7 Hj Z:=hZ.choose_spec.2.2.1
   have kj:Kp Hf Hj p:=Kp.of (sg.trans sgj) hhf
   have nKLp:KL≠p:=(hhb.same sc).ne nKL
   have hKLj:=kj.1 _ _ (sf _ _ (se _ _ hKL)) nKLp
   have cleq:∀{H':Hp}{Z':List (List (List V))},(∀t xs,Hj t=some (.tup xs)->H' t=some (.tup xs))->cH w R' ee (yD H' Z')->yD H' Z'=yD H' Z:=fun {H'}{Z'} kt c=>by
    rw[jm kt ezj];exact c.uniq sn.nd cl
   have alS:(cg (f_ X sts stop)).length<=74:=by
    have a1:=AE (X:=X) (sts:=sts) (j:=stop)
    have a2:=stp.rl
    have a3:(cg X).length=es.length:=by rw[<- uh (H:=H),(cH.flat b.nd b.cl w1 R1).length_eq]
    omega
   x_go
   refine⟨y',w,R',_,rfl,hYj,w1,by omega,R'1,by omega,by omega,by rw[ynj.sn.stand.length_eq];omega,fun t ht rs bss Hk htF sy ez sq clF sk=>?_⟩
   have eF:=cleq (fun _ _ e=>sk _ _ e) (clF.perm ynj.sn.stand)
   have gF:=uM (K:=K) htF sy.r3 ez
   have gZ:=(hZ.same sk).pd (K:=K)
   rw[eF]at gF
   x_go
   refine⟨_,_,gF.1,gZ.1,gF.shaped (by omega),gZ.shaped (by omega),?_⟩
   rw[gF.refl]
   x_go
   refine⟨3,rfl,by omega,by omega,?_⟩
   refine gX (n:=3) (fun i σ H'=>∃(y1:Addr) (X1:List (List (List V))) (x12 x13:Option V),σ=[some (.ref p),some (.ref y),some (.ref l),some (.str way),some (.int key),some (.ref D),some (.int stop),x7,some (.ref y1),some (.ref KL),some (.ref Ds),some (.ref yd),x12,x13]/\Yd H' y1 w R' X1/\Yn H' X1 w R' ee/\(cg X1).length<=74+25*i/\(i=3->cH w R' ee (yD H' X1))/\Hand H' p (N+90+i)/\Kp Hj H' p) ⟨y',_,_,_,rfl,hYj.same sk,ynj.keep (fun _ _ e=>sk _ _ e) enj,by omega,fun z=>by omega,(hhj.same sk).mono (by omega),Kp.of sk hhj⟩ ?_ ?_
   ·rintro i σ Hl hi ⟨y1,X1,x12,x13,rfl,hY1,yn1,al1,_,hhl,kl⟩
    have en1:f7 Hl X1:=hY1.choose_spec.2.2.1
    x_go
    refine⟨p,_,500,rfl,hhl,by omega,by decide,by decide,fun dv H10 dv0 dv1 hh10 k10=>?_⟩
    have kt10:=iF hhl k10
    have hY10:=hY1.kp hhl k10
    have yn10:=yn1.keep kt10 en1
    have en10:=en1.keep kt10
    x_go
    refine⟨y1,w,R',X1,rfl,hY10,w1,by omega,R'1,by omega,by have:=yn1.sm.1;omega,fun i=>yn1.sm.ok en10 i,by omega,by rw[yn10.sn.stand.length_eq];omega,fun Dm sm' Zm H11 nDm hDm ezm clm hPm s11=>?_⟩
    x_go
    rw[Uv]
    x_go
    refine⟨zs2,fun L5 nL5=>?_⟩
    obtain⟨dn,hdn,dn1⟩ : ∃n:Nat,dv%(1+(sm'.length:Int)) =(n:Int)/\n<=500:=by
     obtain⟨dvn,rfl⟩ : ∃n:Nat,dv =(n:Int):=⟨dv.toNat,by omega⟩
     refine⟨dvn%(1+sm'.length),by simp,?_⟩
     have:=Nat.mod_le dvn (1+sm'.length)
     omega
    rw[hdn]
    generalize hEq:upd H11 L5 _=H12
    obtain⟨hL5,s12⟩:=bg nL5 hEq
    clear hEq
    obtain⟨many,hm,hm2,hm3⟩ : ∃many:Nat,rA [V.int dn,V.int 1000] (if decide ((0+(i:Int))=2)=true then 1 else 0)=some (V.int many)/\many<=1000/\(i=2->many=1000):=by
     by_cases c:i=2
     ·subst c;exact⟨1000,rfl,by omega,fun _=>rfl⟩
     ·rw[UM (by simp;omega)];exact⟨dn,rfl,by omega,fun z=>absurd z c⟩
    have s1012:=s11.trans s12
    have hKL12:=s1012 _ _ (k10.1 _ _ (kl.1 _ _ hKLj nKLp) nKLp)
    x_go
    refine cJ (aW.of hL5) hm ?_
    x_go
    refine⟨y1,KL,w,R',74+25*i,many,X1,ks,ee,rfl,hY10.same s1012,yn10.keep (fun _ _ e=>s1012 _ _ e) en10,w2,by omega,eeO,eeL,al1,by omega,hKL12,by omega,hks,hm2,fun y2 X2 H13 hY2 yn2 al2 cl2 s13=>?_⟩
    have s1013:=s1012.trans s13
    have hh13:=hh10.same s1013
    have kj13:Kp Hj H13 p:=(kl.trans k10).trans (Kp.of s1013 hh10)
    have en2:f7 H13 X2:=hY2.choose_spec.2.2.1
    x_go
    refine⟨rfl,?_⟩
    rw[U6 (by intro z;cases z)]
    x_go
    refine⟨y2,w,R',X2,rfl,hY2,w1,by omega,R'1,by omega,by omega,by rw[yn2.sn.stand.length_eq];omega,fun t2 h2 rs2 bss2 H14 ht2 sy2 ez2 sq2 clF2 s14=>?_⟩
    have kj14:=kj13.trans (Kp.of s14 hh13)
    have eF2:=cleq (iF hhj kj14) (clF2.perm yn2.sn.stand)
    have gF2:=uM (K:=K) ht2 sy2.r3 ez2
    have gZ2:=(hZ.kp hhj kj14).pd (K:=K)
    rw[eF2]at gF2
    x_go
    refine⟨_,_,gF2.1,gZ2.1,gF2.shaped (by omega),gZ2.shaped (by omega),?_⟩
    rw[gF2.refl]
    x_go
    exact⟨y2,X2,_,_,rfl,hY2.same s14,yn2.keep (fun _ _ e=>s14 _ _ e) en2,by omega,fun z=>by rw[lU s14 en2];exact cl2 (hm3 (by omega)),(hh13.same s14).mono (by omega),kj14⟩
   ·rintro σ Hl ⟨y1,X1,x12,x13,rfl,hY1,yn1,al1,clf,hhl,kl⟩
    have gF:=hY1.pd (K:=K)
    have gZ:=(hZ.kp hhj kl).pd (K:=K)
    rw[cleq (iF hhj kl) (clf rfl)]at gF
    x_go
    refine⟨_,_,gF.1,gZ.1,gF.shaped (by omega),gZ.shaped (by omega),?_⟩
    rw[gF.refl]
    x_go
    exact q Hl (hhl.mono (by omega)) ((((k06.trans (Kp.of s69 hh6)).trans k9f).trans kj).trans kl)
theorem LG {f:Addr}{fd:FuncData}(F:fz K "law" "law" kG f fd) (T:Bl mg) (iO:bJ P w K mg base "_law_places" LU 1 (jQ K)) (j7:bJ P w K mg base "_law_open" HP 1 (mH K)) (aF:FI P w K mg base) (jE:bJ P w K mg base "_law_near" Gx 4 (lP K)) (k_:bJ P w K mg base "_law_one" Hh 10 (nW K)) (d7:JB P w K mg base) (cu:Qc P w K mg base) (j6:bJ P w K mg base "_law_keys" CA 4 (mO K)):sP P w K mg base Hu 11 f fd ["_law_script"] (vv K):=by
 refine F.ok jr (fun vs H Q E h=>?_) (fun _ A _ _ H vs Q E hr h=>?_)
 ·obtain⟨a,ns,rfl,_⟩:=h;rfl
 obtain⟨a,ms,rfl,hS,hlen,q⟩:=h
 have hu:=hr.units
 refine⟨_,(ai (eS Vr rfl (bu (bP iO hr.mo (aa (pv 0) (aa aj (aa aj ah aB) aB) af))) (aC (i:=1) jr.nd rfl (Or.inl rfl)) (ai (aG (i:=2) jr.nd rfl (Or.inr rfl) (bP j7 hr.mo (aa (pv 0) (aa (pv 1) ah af) af)))
   (ai (aG (i:=3) jr.nd rfl (Or.inl rfl) (bP aF hr.mo (aa (pv 2) (aa aj ah aB) af)))
   (ai (aG (i:=4) jr.nd rfl (Or.inl rfl) (aJ bB aj (bP aF hr.mo (aa (pv 2) (aa aj ah aB) af))))
   (ai (aG (i:=5) jr.nd rfl (Or.inl rfl) (aJ bB aj (bP aF hr.mo (aa (pv 2) (aa aj ah aB) af))))
   (ai (aG (i:=6) jr.nd rfl (Or.inl rfl) (bP aF hr.mo (aa (pv 2) (aa aj ah aB) af)))
   (ai (aG (i:=7) jr.nd rfl (Or.inl rfl) (bP jE hr.mo (aa (pv 2) (aa (pv 6) (aa (aJ bB aj (pv 3)) ah br) af) af)))
   (ai (je (bY (aL dF (pv 3) aj (aU _)) (ay (eN (i:=7) jr.nd rfl rfl rfl (cF (sc:=aq kG) (N:=QE) (vs:=EK) (fs:=yi) (js:=[2]) (by z_go) rfl rfl) (bu (bP j6 hr.mo (aa (pv 2) (aa (pv 6) ah af) af))) (fun _ _ _ _=>aC (i:=0) (show(["_law_key_here", "_law_hand"]:List Str).Nodup by z_go) rfl (Or.inl rfl)) (fun _ _ _ _=>gu) (fun _ _ _ _=>(bW (aa (pv 0) (aa (bP cu hr.mo (aa (pv 1) ah af)) ah aQ) af))))) bh))
   (ay (bY (Dy (D_ (bP k_ hr.mo (aa (pv 2) (aa (bP d7 hr.mo (aa (pv 5) (aa (pv 4) (aa (pv 7) ah af) af) af)) (aa (pv 7) ah af) aQ) af)))) (ay (aN yL)) bh))))))))))
   (ay (aN yL))),?_⟩
 rw[KC]
 x_go
 refine⟨a,ms,4,8,rfl,hS,hlen,by omega,by omega,by omega,by omega,fun np' pl H15 npl nplH hpl s15=>?_⟩
 x_go
 refine⟨pl,rfl,⟨_,aW.of hpl⟩,?_⟩
 refine fX (xs:=(Bq np').map V.int) (fun i σ H'=>(∃y1 y2 y3 y4 y5 y6 y7,σ=[some (.ref a),y1,y2,y3,y4,y5,y6,y7])/\aO H15 H') ⟨⟨_,_,_,_,_,_,_,rfl⟩,aO.refl H15⟩ (fun _ _ _ _ h=>aW.of (h.2 _ _ hpl)) ?_ ?_
 ·rintro i x σ H1 hx ⟨⟨y1,y2,y3,y4,y5,y6,y7,rfl⟩,sm⟩
  obtain⟨iln,rfl⟩:=Gy hx
  x_go
  refine⟨a,ms,i,rfl,(s15.trans sm).seq hS,hlen,by omega,by omega,fun p H2 np s2 hh2=>?_⟩
  x_go
  refine⟨p,_,3,rfl,hh2,by decide,by decide,by decide,fun way H3 f0 f1 hh3 k3=>?_⟩
  x_go
  refine⟨p,_,12,rfl,hh3,by decide,by decide,by decide,fun r0 H5 r00 r01 hh5 k5=>?_⟩
  x_go
  obtain⟨R0,hR⟩ : ∃R:Nat,1+r0 =(R:Int):=⟨(1+r0).toNat,by omega⟩
  have R1:1<=R0:=by omega
  have R2:R0<=12:=by omega
  rw[hR]
  refine⟨p,_,3,rfl,hh5,by omega,by decide,by decide,fun v0 H6 v00 v01 hh6 k6=>?_⟩
  x_go
  obtain⟨w,hw⟩ : ∃w:Nat,1+v0 =(w:Int):=⟨(1+v0).toNat,by omega⟩
  have w1:1<=w:=by omega
  have w2:w<=3:=by omega
  rw[hw]
  refine⟨p,_,25,rfl,hh6,by omega,by omega,by omega,fun many H8 m0 m1 hh8 k8=>?_⟩
  have k28:=((k3.trans k5).trans k6).trans k8
  x_go
  refine⟨p,_,many,1+way,rfl,hh8,by omega,m0,by omega,by omega,by omega,fun le ts0 es0 H9 nle hle el0 nd0 elen hh9 k9=>?_⟩
  have k29:=k28.trans k9
  x_go
  refine Rk (fun σ H'=>∃(l:Addr) (ts:List Addr) (es:List (Int×Str)),σ=[some (.ref a),some (.int i),some (.ref p),some (.int way),some (.int R0),some (.int w),some (.int many),some (.ref l)]/\H' l=some (.lst (ts.map V.ref))/\EL H' ts es/\(es.map (·.1)).Nodup/\es.length<=24/\Hand H' p 1200000/\Kp H2 H' p) ?_ ?_
  ·x_go
   refine bM (fun c=>?_) (fun c=>?_)
   ·x_go
    refine⟨p,_,many,rfl,hh9,by omega,m0,by omega,fun D ns HA nD hD nd len bd hhA kA=>?_⟩
    have Dp:D≠p:=FZ hhA hD
    refine⟨D,rfl,⟨_,aW.of hD⟩,fun D2 nD2=>?_⟩
    refine bf (xs:=ns.map V.int) (fun j σ' ys H'=>(∃x,σ'=[x,some (.ref p)])/\j<=ns.length/\∃(ts:List Addr) (es:List (Int×Str)),ys=ts.map V.ref/\CK HA p D2 (1130000+30*j) ys H'/\EL H' ts es/\es.map (·.1)=ns.take j) D2 ⟨⟨_,rfl⟩,Vj _,[],[],rfl,(CK.start hhA nD2).mono (by omega),P1.nil,rfl⟩ (fun i σ' ys H' _ h=>by
     obtain⟨_,_,ts,es,_,c,_⟩:=h
     exact aW.of (c.kp.1 _ _ hD Dp)) ?_ ?_
    ·rintro j x σ' ys HB hx ⟨⟨z1,rfl⟩,jl,ts,es,rfl,ck4,el4,ek⟩
     obtain⟨k,hk,rfl⟩:=ints_get hx
     have jl2:=(Ux.mp hk).1
     have kb:=bd k (UA hk)
     have tl:ts.length=j:=by
      rw[el4.1,<- Uv (f:=fun x:Int×Str=>x.1),ek,UH];omega
     x_go
     refine⟨p,_,rfl,ck4.hh,by omega,fun z HC zo zl hh5 k5=>?_⟩
     have kt5:=iF ck4.hh k5
     have ck5:=ck4.draw k5 hh5
     x_go
     refine⟨zs2,fun t nt=>?_⟩
     generalize hE7:upd HC t _=HD
     have s7:=(bg nt hE7).2
     obtain⟨ck7,ht,tp,tD⟩:=ck5.new nt hE7
     clear hE7
     have kt8:∀t' xs,HD t'=some (.tup xs)->(upd HD D2 (.lst (ts.map V.ref ++ [V.ref t]))) t'=some (.tup xs):=fun t' xs e=>by rw[av (oj e ck7.lat (by intro z;cases z))];exact e
     have ck8:=(ck7.mono (M:=1130000+30*(j+1)) (by omega)).push (zs:=ts.map V.ref ++ [V.ref t])
     refine⟨ck7.lat,by rw[Uv];exact aE (by omega),⟨_,rfl⟩,by omega,ts ++ [t],es ++ [(k,z)],by rw[UB];rfl,ck8,?_,?_⟩
     ·exact P1.snoc (el4.keep fun t' xs e=>kt8 _ _ (s7 _ _ (kt5 _ _ e))) ⟨kt8 _ _ ht,zo,kb.1,kb.2,zl⟩
     ·rw[UB,ek,aX hk];rfl
    ·rintro σ' ys HB ⟨⟨z1,rfl⟩,jl,ts,es,rfl,ck4,el4,ek⟩
     rw[Uv,Va]at ek
     have ll:es.length=ns.length:=by rw[<- ek,Uv]
     x_go
     exact⟨D2,ts,es,rfl,ck4.lat,el4,by rw[ek];exact nd,by omega,ck4.hh.mono (by rw[Uv];omega),(k29.trans kA).trans ck4.kp⟩
   ·x_go
    exact⟨le,ts0,es0,rfl,hle,el0,nd0,by omega,hh9.mono (by omega),k29⟩
  clear hle el0 nd0 elen hh9 k9 k29
  rintro σ HA ⟨l,ts,es,rfl,hl,el,nd,esl,hhA,k2A⟩
  have lp:l≠p:=iy hhA hl
  x_go
  refine⟨w,R0,l,ts,es,rfl,hl,el,nd,by omega,w1,by omega,R1,by omega,fun yd X HC hYd cl sC=>?_⟩
  have hYC:=IQ hYd cl w1 (by omega) (by omega) (by omega)
  have hhC:=hhA.same sC
  x_go
  refine⟨p,yd,l,_,w,R0,X,ts,es,rfl,hhC,by omega,hYC,⟨cl,nd,w1,R1⟩,sC _ _ hl,el.same sC,esl,w2,R2,fun HD hhD kD=>?_⟩
  x_go
  exact⟨⟨_,_,_,_,_,_,_,rfl⟩,sm.trans (Kp.new s2 np ((k2A.trans (Kp.of sC hhA)).trans kD))⟩
 ·rintro σ HE ⟨_,sm⟩
  x_go
  exact q _
end
section
variable {K:PySem.W.Frag} {x q:Str} {st:Stmt} {f:Addr} {fd:FuncData} {a b c d e g:Str}
theorem Us (F:fz K x q st f fd) (h:∀ k l m n o r u0,bindArgs (PySem.W.fnOf x q (fN st) (dU st) (aq st) .none k l m n o r) ⟨[u0],[]⟩=pure ([a].zip [u0])):Binds K fd [a] []:=F.binds fun k l m n o r us hl=>match us,hl with|[u0],_=>h k l m n o r u0
theorem S0 (F:fz K x q st f fd) (h:∀ k l m n o r u0 u1,bindArgs (PySem.W.fnOf x q (fN st) (dU st) (aq st) .none k l m n o r) ⟨[u0,u1],[]⟩=pure ([a,b].zip [u0,u1])):Binds K fd [a,b] []:=F.binds fun k l m n o r us hl=>match us,hl with|[u0,u1],_=>h k l m n o r u0 u1
theorem Tr (F:fz K x q st f fd) (h:∀ k l m n o r u0 u1 u2,bindArgs (PySem.W.fnOf x q (fN st) (dU st) (aq st) .none k l m n o r) ⟨[u0,u1,u2],[]⟩=pure ([a,b,c].zip [u0,u1,u2])):Binds K fd [a,b,c] []:=F.binds fun k l m n o r us hl=>match us,hl with|[u0,u1,u2],_=>h k l m n o r u0 u1 u2
theorem S6 (F:fz K x q st f fd) (h:∀ k l m n o r u0 u1 u2 u3,bindArgs (PySem.W.fnOf x q (fN st) (dU st) (aq st) .none k l m n o r) ⟨[u0,u1,u2,u3],[]⟩=pure ([a,b,c,d].zip [u0,u1,u2,u3])):Binds K fd [a,b,c,d] []:=F.binds fun k l m n o r us hl=>match us,hl with|[u0,u1,u2,u3],_=>h k l m n o r u0 u1 u2 u3
end
local macro_rules|`(tactic|w_up)=>`(tactic|first|exact Us (by assumption) fun _ _ _ _ _ _ _=>rfl|exact S0 (by assumption) fun _ _ _ _ _ _ _ _=>rfl|exact Tr (by assumption) fun _ _ _ _ _ _ _ _ _=>rfl|exact S6 (by assumption) fun _ _ _ _ _ _ _ _ _ _=>rfl)
theorem all_mk {l:PySem.W.OpenLaw}{w:World}{K:W.Frag}{h:Heap}{mg:Str->Option Value}{fa:Addr}(X:K.In h) (G:h.Ns mainGlobals mg) (hfa:mg "law" = some (.ref fa))
  (g0:Ga K "last_bits" jY)
  (g1:Ga K "level" uP)
  (g2:Ga K "turn" Aj)
  (g3:Ga K "bits_for" lC)
  (g4:Ga K "room_of" nM)
  (g5:Ga K "split_of" kL)
  (g6:Ga K "joined_of" jz)
  (g7:Ga K "rows_for" lJ)
  (g8:Ga K "cut_rows" jt)
  (g9:Ga K "looked" p_)
  (g10:Ga K "spread" mj)
  (g11:Ga K "yard_of" i7)
  (g12:Ga K "entries_in" gx)
  (g13:Ga K "rows_at" nC)
  (g14:Ga K "found" oZ)
  (g15:Ga K "unlike_rows" gc)
  (g16:Ga K "onward" qw)
  (g17:Ga K "backward" kN)
  (g18:Ga K "splitting" gr)
  (g19:Ga K "joining" mX)
  (g20:Ga K "putting" nI)
  (g21:Ga K "dropping" lF)
  (g22:Ga K "others_in" iI)
  (g23:Ga K "mended" qX)
  (g24:Ga K "mending" i8)
  (g25:Ga K "_law_open" iE)
  (g26:Ga K "_law_draw" jS)
  (g27:Ga K "_law_far" lK)
  (g28:Ga K "_law_power" i_)
  (g29:Ga K "_law_key" lu)
  (g30:Ga K "_law_thing" gJ)
  (g31:Ga K "_law_keys" jX)
  (g32:Ga K "_law_room" jO)
  (g33:Ga K "_law_cut" ly)
  (g34:Ga K "_law_clean" fP)
  (g35:Ga K "_law_copy" iG)
  (g36:Ga K "_law_done" fj)
  (g37:Ga K "_law_found" gz)
  (g38:Ga K "_law_asked_change" eu)
  (g39:Ga K "_law_ways" jR)
  (g40:Ga K "_law_key_of" gi)
  (g41:Ga K "_law_near" iA)
  (g42:Ga K "_law_places" iR)
  (g43:Ga K "_law_things" gm)
  (g44:Ga K "_law_mended_to" dW)
  (g45:Ga K "_law_one" eW)
  {f46:Addr}{od46 an46:Option Addr}{sl46:Array (Option Value)}{oc46 kV46 dc46 pm46 cd46 ct46:Value}(a46:W.nsIn K mainGlobals "law" = some (some (.ref f46))) (l46:K.lookup f46=some ⟨oc46,od46,.func (W.fnOf "law" "law" (fN kG) (dU kG) (aq kG) .none kV46 dc46 pm46 an46 cd46 ct46),sl46⟩) (NX:W.codeIn K cd46 "law" = true) (k46:W.keepIn K (.ref f46)=true)
  (z_max:W.nsIn K mainGlobals "max" = some none)
  (z_range:W.nsIn K mainGlobals "range" = some none)
  (z_len:W.nsIn K mainGlobals "len" = some none)
  (z_sorted:W.nsIn K mainGlobals "sorted" = some none)
  (z_dict:W.nsIn K mainGlobals "dict" = some none)
  (z_list:W.nsIn K mainGlobals "list" = some none)
  (z_enumerate:W.nsIn K mainGlobals "enumerate" = some none)
  (z_abs:W.nsIn K mainGlobals "abs" = some none)
  (z_min:W.nsIn K mainGlobals "min" = some none)
  (z_int:W.nsIn K mainGlobals "int" = some none)
  (z_set:W.nsIn K mainGlobals "set" = some none)
  : ∃fd:FuncData,(∀(s:Shared) (v:Value),BindsTo s fd ⟨[v],[]⟩ [("_law_script",v)])/\∀base:Heap,K.In base->base.Ns mainGlobals mg->sP l.prog w K mg base Hu 11 fa fd ["_law_script"] (vv K):=by
 have e:=hfa.symm.trans (Vw X G a46)
 cases e
 have T:Bl mg:=⟨Wx X G z_max,Wx X G z_range,Wx X G z_len,Wx X G z_sorted,Wx X G z_dict,Wx X G z_list,Wx X G z_enumerate,Wx X G z_abs,Wx X G z_min,Wx X G z_int,Wx X G z_set⟩
 refine⟨W.fnOf "law" "law" (fN kG) (dU kG) (aq kG) .none kV46 dc46 pm46 an46 cd46 ct46,fun s v=>.of_eq rfl,fun base _ _=>?_⟩
 have iD:=g0.elim fun f a fd F=>ve (P:=l.prog) (w:=w) (base:=base) F (Vw X G a) (by w_up) T
 have gH:=g1.elim fun f a fd F=>Di (P:=l.prog) (w:=w) (base:=base) F (Vw X G a) (by w_up) T
 have lI:=g7.elim fun f a fd F=>yh (P:=l.prog) (w:=w) (base:=base) F (Vw X G a) (by w_up) T
 have pK:=g9.elim fun f a fd F=>Bs (P:=l.prog) (w:=w) (base:=base) F (Vw X G a) (by w_up) T
 have a_:=g12.elim fun f a fd F=>rP (P:=l.prog) (w:=w) (base:=base) F (Vw X G a) (by w_up) T
 have bq:=g13.elim fun f a fd F=>za (P:=l.prog) (w:=w) (base:=base) F (Vw X G a) (by w_up) T
 have dh:=g15.elim fun f a fd F=>qU (P:=l.prog) (w:=w) (base:=base) F (Vw X G a) (by w_up) T
 have j7:=g25.elim fun f a fd F=>uO (P:=l.prog) (w:=w) (base:=base) F (Vw X G a) (by w_up) T
 have aF:=g26.elim fun f a fd F=>vD (P:=l.prog) (w:=w) (base:=base) F (Vw X G a) (by w_up) T
 have jq:=g28.elim fun f a fd F=>sQ (P:=l.prog) (w:=w) (base:=base) F (Vw X G a) (by w_up) T
 have fc:=g32.elim fun f a fd F=>vp (P:=l.prog) (w:=w) (base:=base) F (Vw X G a) (by w_up) T
 have lH:=g33.elim fun f a fd F=>yG (P:=l.prog) (w:=w) (base:=base) F (Vw X G a) (by w_up) T
 have cN:=g35.elim fun f a fd F=>wc (P:=l.prog) (w:=w) (base:=base) F (Vw X G a) (by w_up) T
 have iO:=g42.elim fun f a fd F=>pT (P:=l.prog) (w:=w) (base:=base) F (Vw X G a) (by w_up) T
 have jc:=g2.elim fun f a fd F=>G9 (P:=l.prog) (w:=w) (base:=base) F (Vw X G a) (by w_up) T gH
 have bC:=g8.elim fun f a fd F=>xw (P:=l.prog) (w:=w) (base:=base) F (Vw X G a) (by w_up) T lI
 have eL:=g16.elim fun f a fd F=>Bb (P:=l.prog) (w:=w) (base:=base) F (Vw X G a) (by w_up) T dh
 have fU:=g17.elim fun f a fd F=>w5 (P:=l.prog) (w:=w) (base:=base) F (Vw X G a) (by w_up) T dh
 have fq:=g22.elim fun f a fd F=>vA (P:=l.prog) (w:=w) (base:=base) F (Vw X G a) (by w_up) T a_
 have jn:=g27.elim fun f a fd F=>yK (P:=l.prog) (w:=w) (base:=base) F (Vw X G a) (by w_up) T aF
 have cu:=g30.elim fun f a fd F=>rV (P:=l.prog) (w:=w) (base:=base) F (Vw X G a) (by w_up) T aF
 have d7:=g34.elim fun f a fd F=>r9 (P:=l.prog) (w:=w) (base:=base) F (Vw X G a) (by w_up) T lH fc
 have fh:=g36.elim fun f a fd F=>u7 (P:=l.prog) (w:=w) (base:=base) F (Vw X G a) (by w_up) T cN
 have dZ:=g37.elim fun f a fd F=>sr (P:=l.prog) (w:=w) (base:=base) F (Vw X G a) (by w_up) T fc
 have jB:=g39.elim fun f a fd F=>v_ (P:=l.prog) (w:=w) (base:=base) F (Vw X G a) (by w_up) T aF
 have kW:=g3.elim fun f a fd F=>wW (P:=l.prog) (w:=w) (base:=base) F (Vw X G a) (by w_up) T gH jc
 have kQ:=g5.elim fun f a fd F=>w6 (P:=l.prog) (w:=w) (base:=base) F (Vw X G a) (by w_up) T jc
 have jU:=g6.elim fun f a fd F=>vP (P:=l.prog) (w:=w) (base:=base) F (Vw X G a) (by w_up) T jc
 have cW:=g29.elim fun f a fd F=>xg (P:=l.prog) (w:=w) (base:=base) F (Vw X G a) (by w_up) T aF jn jq
 have gg:=g43.elim fun f a fd F=>qi (P:=l.prog) (w:=w) (base:=base) F (Vw X G a) (by w_up) T dZ
 have bA:=g4.elim fun f a fd F=>z7 (P:=l.prog) (w:=w) (base:=base) F (Vw X G a) (by w_up) T iD kW gH
 have nA:=g19.elim fun f a fd F=>zj (P:=l.prog) (w:=w) (base:=base) F (Vw X G a) (by w_up) T jU fU bq bC a_
 have j6:=g31.elim fun f a fd F=>vZ (P:=l.prog) (w:=w) (base:=base) F (Vw X G a) (by w_up) T cW
 have iS:=g40.elim fun f a fd F=>rB (P:=l.prog) (w:=w) (base:=base) F (Vw X G a) (by w_up) T cW aF
 have jE:=g41.elim fun f a fd F=>vM (P:=l.prog) (w:=w) (base:=base) F (Vw X G a) (by w_up) T aF cu cW
 have qJ:=g10.elim fun f a fd F=>Cd (P:=l.prog) (w:=w) (base:=base) F (Vw X G a) (by w_up) T bA
 have vS:=g14.elim fun f a fd F=>DL (P:=l.prog) (w:=w) (base:=base) F (Vw X G a) (by w_up) T bq pK bA
 have j4:=g18.elim fun f a fd F=>vq (P:=l.prog) (w:=w) (base:=base) F (Vw X G a) (by w_up) T kQ a_ eL bq bC bA
 have nj:=g20.elim fun f a fd F=>Ad (P:=l.prog) (w:=w) (base:=base) F (Vw X G a) (by w_up) T bA bq fU bC fq
 have kU:=g21.elim fun f a fd F=>wz (P:=l.prog) (w:=w) (base:=base) F (Vw X G a) (by w_up) T bA bq fq eL bC a_
 have mY:=g11.elim fun f a fd F=>zU (P:=l.prog) (w:=w) (base:=base) F (Vw X G a) (by w_up) T qJ bC
 have eE:=g38.elim fun f a fd F=>j5 (P:=l.prog) (w:=w) (base:=base) F (Vw X G a) (by w_up) T nj j4 nA kU
 have gW:=g23.elim fun f a fd F=>A8 (P:=l.prog) (w:=w) (base:=base) F (Vw X G a) (by w_up) T mY a_ bA
 have gQ:=g24.elim fun f a fd F=>zR (P:=l.prog) (w:=w) (base:=base) F (Vw X G a) (by w_up) T eL gW bq
 have fY:=g44.elim fun f a fd F=>lQ (P:=l.prog) (w:=w) (base:=base) F (Vw X G a) (by w_up) T gg cN gQ fh vS
 have k_:=g45.elim fun f a fd F=>yu (P:=l.prog) (w:=w) (base:=base) F (Vw X G a) (by w_up) T jB iS eE cN d7 cu aF fh gW fY dZ gQ
 exact LG (DJ (st:=kG) l46 NX k46) T iO j7 aF jE k_ d7 cu j6
theorem walk {l:PySem.W.OpenLaw}{q:Program}{loose:List Str}{XP:(Str->Option Value)->Heap->Prop}{YP:World->Heap->Prop}{d:DefRec}{K:Params->W.Frag}(hn:l.most=some 63) (hdf:d.params.defaults=[])
  (hY:∀(w:World) (h:Heap),YP w h->(K w.params).In h)
  (F:∀(w:World) (mg:Str->Option Value) (fa:Addr) (h:Heap),(K w.params).In h->h.Ns mainGlobals mg->mg d.name=some (.ref fa) ->
   ∃fd:FuncData,(∀(s:Shared) (u:Value),BindsTo s fd ⟨[u],[]⟩ [("_law_script",u)])/\∀base:Heap,(K w.params).In base->base.Ns mainGlobals mg->sP l.prog w (K w.params) mg base Hu 11 fa fd ["_law_script"] (vv (K w.params))) :
  PySem.W.WalkO q loose XP YP l.row.toRowW d [] (fun f vs=>PySem.call f vs) :=
 L2.Ho (n:=63) (k:=11) (x := "_law_script") (CX:=fun _=>Hu) (sp:=fun w=>vv (K w.params)) hn (by decide) hdf ⟨rfl,by decide,by decide,rfl⟩ hY F (fun _ _ a ns hl _ hS=>⟨a,ns,rfl,hS,hl,fun _=>rfl⟩) fun _ _ _ _ _ z=>z
end Law
noncomputable def PySem.W.Fast.tw10508712030028416608:PySem.Program:=PySem.Challenge.pw_tailrooms_k48_whole_mended_again_and_aga
theorem PySem.W.Fast.te10508712030028416608:PySem.Challenge.pw_tailrooms_k48_whole_mended_again_and_aga=PySem.W.Fast.tw10508712030028416608:=rfl
noncomputable section
namespace HD
abbrev zD:=List PySem.DictEntry
abbrev zL:=List PySem.Value
abbrev zO:=List PySem.Obj
def zT(a b:Int)(c:Nat)(r:zL):zL:=(.int a 0)::(.int b 0)::(.ref c)::r
open PySem PySem.W PySem.PyData
def pB:List Stmt:=PySem.Challenge.pw_tailrooms_k48_whole_mended_again_and_aga.main.body
def nS:List Stmt->Nat->Stmt
 | s::_,0=>s
 | _::r,n+1=>nS r n
 | [],_=>.Pass ⟨0,0,0,0⟩
def bS:Stmt->List Stmt
 | .FunctionDef _ _ b ..=>b
 | .ClassDef _ _ _ b ..=>b
 | _=>[]
def aS:Stmt->Arguments
 | .FunctionDef _ a ..=>a
 | _=>⟨[],[],none,[],[],none,[]⟩
def sS:Stmt->Scope
 | .FunctionDef _ _ _ _ _ _ s ..=>s
 | _=>⟨.function,[],false,false,[]⟩
def f (i:Nat):Stmt:=nS pB i
def m (i j:Nat):Stmt:=nS (bS (f i)) j
abbrev O:=Params->Obj
def E (P:Params) (x:Str) (n:Nat) (v:Value):DictEntry:=⟨keyHash P x,.str x n,v⟩
abbrev B:=Params->BT
def n (o:O) (l r:B):B:=fun P=>.node (o P) (l P) (r P)
def w (o:O):B:=fun P=>.node (o P) .nil .nil
def u:B:=fun _=>.nil
def c0 (P:Params)(r:zD):zD:=(E P "__name__" 165 (.str "law_tailrooms_k48_whole_mended_again_and_aga" 480))::(E P "__doc__" 166 .none)::(E P "__package__" 167 .none)::(E P "__loader__" 168 (.builtin "__main__.__loader__#opaque"))::(E P "__spec__" 169 .none)::(E P "__annotations__" 170 (.ref 6))::(E P "__builtins__" 171 (.ref 4))::(E P "__file__" 173 (.str "/claim/cut.py" 172))::r
def c1 (P:Params)(r:zD):zD:=(E P "__cached__" 174 .none)::(E P "last_bits" 196 (.ref 21))::(E P "level" 203 (.ref 28))::(E P "turn" 210 (.ref 35))::(E P "bits_for" 219 (.ref 42))::(E P "room_of" 227 (.ref 49))::(E P "split_of" 234 (.ref 56))::(E P "joined_of" 242 (.ref 63))::r
def c2 (P:Params)(r:zD):zD:=(E P "TailError" 262 (.ref 73))::(E P "NoRoom" 287 (.ref 93))::(E P "Lacking" 312 (.ref 112))::(E P "rows_for" 322 (.ref 121))::(E P "cut_rows" 328 (.ref 126))::(E P "looked" 338 (.ref 133))::(E P "spread" 346 (.ref 138))::(E P "yard_of" 354 (.ref 143))::r
def c3 (P:Params)(r:zD):zD:=(E P "entries_in" 360 (.ref 148))::(E P "rows_at" 368 (.ref 155))::(E P "found" 374 (.ref 160))::(E P "unlike_rows" 382 (.ref 165))::(E P "onward" 392 (.ref 172))::(E P "backward" 401 (.ref 179))::(E P "splitting" 407 (.ref 184))::(E P "joining" 421 (.ref 191))::r
def c4 (P:Params)(r:zD):zD:=(E P "putting" 436 (.ref 198))::(E P "dropping" 450 (.ref 205))::(E P "others_in" 456 (.ref 210))::(E P "mended" 473 (.ref 217))::(E P "mending" 479 (.ref 222))::(E P "_law_open" 487 (.ref 227))::(E P "_law_draw" 498 (.ref 234))::(E P "_law_far" 508 (.ref 241))::r
def c5 (P:Params)(r:zD):zD:=(E P "_law_power" 517 (.ref 248))::(E P "_law_key" 526 (.ref 255))::(E P "_law_thing" 532 (.ref 260))::(E P "_law_keys" 543 (.ref 267))::(E P "_law_room" 553 (.ref 274))::(E P "_law_cut" 563 (.ref 281))::(E P "_law_clean" 569 (.ref 286))::(E P "_law_copy" 575 (.ref 291))::r
def c6 (P:Params)(r:zD):zD:=(E P "_law_done" 581 (.ref 296))::(E P "_law_found" 587 (.ref 301))::(E P "_law_asked_change" 597 (.ref 308))::(E P "_law_ways" 607 (.ref 315))::(E P "_law_key_of" 613 (.ref 320))::(E P "_law_near" 619 (.ref 325))::(E P "_law_places" 628 (.ref 332))::(E P "_law_things" 634 (.ref 337))::r
def c7 (P:Params)(r:zD):zD:=(E P "_law_mended_to" 640 (.ref 342))::(E P "_law_one" 646 (.ref 347))::(E P "law" 652 (.ref 352))::r
def c8 (P:Params)(r:zL):zL:=zT 2 0 20<|zT 4 0 27<|zT 6 0 34<|zT 8 0 41<|zT 13 0 48<|zT 15 0 55<|r
def c9 (P:Params)(r:zL):zL:=zT 17 0 62<|zT 23 0 69<|zT 25 0 82<|zT 29 0 101<|zT 34 0 120<|zT 36 0 125<|r
def Qx (P:Params)(r:zL):zL:=zT 38 0 132<|zT 46 0 137<|zT 52 0 142<|zT 56 0 147<|zT 58 0 154<|zT 60 0 159<|r
def Sf (P:Params)(r:zL):zL:=zT 68 0 164<|zT 70 0 171<|zT 75 0 178<|zT 77 0 183<|zT 86 0 190<|zT 94 0 197<|r
def c12 (P:Params)(r:zL):zL:=zT 100 0 204<|zT 108 0 209<|zT 111 0 216<|zT 119 0 221<|zT 127 0 226<|zT 136 0 233<|r
def Sw (P:Params)(r:zL):zL:=zT 147 0 240<|zT 154 0 247<|zT 159 0 254<|zT 171 0 259<|zT 174 0 266<|zT 182 0 273<|r
def SS (P:Params)(r:zL):zL:=zT 191 0 280<|zT 198 0 285<|zT 203 0 290<|zT 205 0 295<|zT 219 0 300<|zT 229 0 307<|r
def Up (P:Params)(r:zL):zL:=zT 237 0 314<|zT 244 0 319<|zT 252 0 324<|zT 260 0 331<|zT 262 0 336<|zT 264 0 341<|r
def Ud (P:Params)(r:zL):zL:=zT 272 0 346<|zT 293 0 351<|r
def TX (P:Params)(r:zD):zD:=(E P "__name__" 165 (.str "tailrooms.mends" 457))::(E P "__doc__" 166 .none)::(E P "__package__" 167 .none)::(E P "__loader__" 168 (.builtin "__main__.__loader__#opaque"))::(E P "__spec__" 169 .none)::(E P "__annotations__" 170 (.ref 6))::(E P "__builtins__" 171 (.ref 4))::(E P "__file__" 173 (.str "/claim/cut.py" 172))::r
def Ul (P:Params)(r:zD):zD:=(E P "putting" 436 (.ref 198))::(E P "dropping" 450 (.ref 205))::(E P "others_in" 456 (.ref 210))::r
def TQ (P:Params)(r:zL):zL:=zT 100 0 204<|zT 108 0 209<|r
def Td (P:Params)(r:zL):zL:=zT 191 0 280<|zT 198 0 285<|zT 203 0 290<|r
def Tu (P:Params)(r:zD):zD:=(E P "__name__" 165 (.str "tailrooms.yards" 347))::(E P "__doc__" 166 .none)::(E P "__package__" 167 .none)::(E P "__loader__" 168 (.builtin "__main__.__loader__#opaque"))::(E P "__spec__" 169 .none)::(E P "__annotations__" 170 (.ref 6))::(E P "__builtins__" 171 (.ref 4))::(E P "__file__" 173 (.str "/claim/cut.py" 172))::r
def Uu (P:Params)(r:zD):zD:=(E P "TailError" 262 (.ref 73))::(E P "NoRoom" 287 (.ref 93))::(E P "Lacking" 312 (.ref 112))::(E P "rows_for" 322 (.ref 121))::(E P "cut_rows" 328 (.ref 126))::(E P "looked" 338 (.ref 133))::(E P "spread" 346 (.ref 138))::r
def SV (P:Params)(r:zL):zL:=zT 38 0 132<|zT 46 0 137<|r
def gy (a0:Str) (a1:Str) (a2:Stmt) (P:Params):Obj:=⟨.none,none,(.func ⟨a0,a1,(aS a2),(.stmts (bS a2)),(sS a2),0,[],.none,.none,.none,.none,none,.none,.none,0⟩),#[]⟩
def P5 (a0:Str) (a1:Nat) (a2:Int) (a3:Nat) (a4:Int) (P:Params):Obj:=⟨(.type "code"),none,(.fields #[(.str a0 a1),(.str a0 (a1+1)),(.str "/claim/cut.py" (a1+2)),(.int a2 0),(.int 0 0),(.int 0 0),(.int 0 0),(.int 0 0),(.ref a3),(.bool .false),(.int 181 0),(.ref (a3+1)),.none,.none,.none,.none,(.int a4 0),(.int a2 0),(.str "/claim/cut.py" (a1+4))]),#[]⟩
def Mz (a0:Str) (a1:Nat) (a2:Str) (a3:Str) (P:Params):Obj:=⟨(.type "tuple"),none,(.seq #[(.str a0 a1),(.str a2 (a1+1)),(.str a3 (a1+2))] 0),#[]⟩
def Rp (a0:Nat) (P:Params):Obj:=⟨(.type "super"),none,(.fields #[(.ref a0),(.ref a0),(.ref a0)]),#[]⟩
def RE (a0:Nat) (P:Params):Obj:=⟨(.type "builtin_function_or_method"),none,(.fields #[(.builtin "object.__init_subclass__"),(.ref a0)]),#[]⟩
def gI (a0:Str) (a1:Str) (a2:Stmt) (a3:Str) (a4:Nat) (a5:Nat) (P:Params):Obj:=⟨(.type "function"),none,(.func ⟨a0,a1,(aS a2),(.stmts (bS a2)),(sS a2),3,[],.none,.none,.none,(.str a3 a4),none,(.ref a5),.none,0⟩),#[]⟩
def Ko (a0:Str) (a1:Nat) (a2:Str) (a3:Str) (a4:Str) (P:Params):Obj:=⟨(.type "tuple"),none,(.seq #[(.str a0 a1),(.str a2 (a1+1)),(.str a3 (a1+2)),(.str a4 (a1+3))] 0),#[]⟩
def mR (a0:Str) (a1:Nat) (a2:Str) (a3:Int) (a4:Int) (a5:Nat) (a6:Int) (a7:Nat) (P:Params):Obj:=⟨(.type "code"),none,(.fields #[(.str a0 a1),(.str a2 (a1+1)),(.str "/claim/cut.py" (a1+2)),(.int a3 0),(.int a4 0),(.int 0 0),(.int 0 0),(.int 3 0),(.ref a5),(.bool .true),(.int 181 0),(.ref (a5+1)),.none,(.ref (a5+2)),(.ref (a5+3)),(.ref (a5+4)),(.int a6 0),(.int a3 0),(.str "/claim/cut.py" a7)]),#[]⟩
def sL (a0:Str) (a1:Nat) (a2:Int) (a3:Int) (a4:Nat) (a5:Int) (P:Params):Obj:=⟨(.type "code"),none,(.fields #[(.str a0 a1),(.str a0 (a1+1)),(.str "/claim/cut.py" (a1+2)),(.int a2 0),(.int a3 0),(.int 0 0),(.int 0 0),(.int 3 0),(.ref a4),(.bool .true),(.int 181 0),(.ref (a4+1)),.none,.none,.none,(.ref (a4+2)),(.int a5 0),(.int a2 0),(.str "/claim/cut.py" (a1+4))]),#[]⟩
def P6 (a0:Nat) (a1:Nat) (a2:Str) (a3:Nat) (P:Params):Obj:=⟨(.type "frame"),none,.plain,#[(some (.ref a0)),(some (.ref 3)),(some (.ref a1)),none,(some (.str a2 a3)),none,(some (.ref 0))]⟩
def Rf (a0:Nat) (a1:Int) (a2:Str) (a3:Nat) (a4:Nat) (a5:Str) (a6:Nat) (a7:Nat) (P:Params):Obj:=⟨(.type "dict"),none,(.dict #[(E P "__module__" a0 (.str "tailrooms.errors" 243)),(E P "__firstlineno__" (a0+4) (.int a1 (a0+3))),(E P a2 a3 (.ref a4)),(E P a5 (a3+2) (.ref a6)),(E P "__doc__" (a3+3) .none)] a7),#[]⟩
def NQ (a0:Str) (a1:Nat) (P:Params):Obj:=⟨(.type "tuple"),none,(.seq #[(.str a0 a1)] 0),#[]⟩
def Jh (a0:Str) (a1:Nat) (a2:Str) (P:Params):Obj:=⟨(.type "tuple"),none,(.seq #[(.str a0 a1),(.str a2 (a1+1))] 0),#[]⟩
noncomputable def o0:O:=fun P=>⟨(.type "dict"),none,(.dict (c0 P (c1 P (c2 P (c3 P (c4 P (c5 P (c6 P (c7 P [])))))))).toArray 59),#[]⟩
noncomputable def o1:O:=fun P=>⟨(.type "tuple"),none,(.seq #[] 0),#[]⟩
noncomputable def o2:O:=fun P=>⟨.none,none,(.fields (c8 P (c9 P (Qx P (Sf P (c12 P (Sw P (SS P (Up P (Ud P []))))))))).toArray),#[]⟩
noncomputable def o3:O:=P5 "<module>" 182 1 11 185
noncomputable def o4:O:=P6 13 3 "__main__" 164
noncomputable def o5:O:=fun P=>⟨.none,none,(.fields #[]),#[]⟩
noncomputable def o6:O:=Jh "key" 192 "many"
noncomputable def o7:O:=gy "last_bits" "last_bits" (f 1)
noncomputable def o8:O:=mR "last_bits" 189 "last_bits" 2 2 15 194 195
noncomputable def o9:O:=gI "last_bits" "last_bits" (f 1) "tailrooms.bits" 187 20
noncomputable def Nz:O:=NQ "rooms" 200
noncomputable def NR:O:=gy "level" "level" (f 2)
noncomputable def Ph:O:=mR "level" 197 "level" 4 1 22 201 202
noncomputable def O4:O:=gI "level" "level" (f 2) "tailrooms.bits" 187 27
noncomputable def NK:O:=NQ "rooms" 207
noncomputable def NW:O:=gy "turn" "turn" (f 3)
noncomputable def NZ:O:=mR "turn" 204 "turn" 6 1 29 208 209
noncomputable def OS:O:=gI "turn" "turn" (f 3) "tailrooms.bits" 187 34
noncomputable def Ng:O:=Mz "room" 214 "rooms" "deep"
noncomputable def Ow:O:=gy "bits_for" "bits_for" (f 4)
noncomputable def Nm:O:=mR "bits_for" 211 "bits_for" 8 2 36 217 218
noncomputable def Mw:O:=gI "bits_for" "bits_for" (f 4) "tailrooms.bits" 187 41
noncomputable def NV:O:=Jh "key" 223 "rooms"
noncomputable def Nd:O:=gy "room_of" "room_of" (f 5)
noncomputable def NP:O:=mR "room_of" 220 "room_of" 13 2 43 225 226
noncomputable def Pp:O:=gI "room_of" "room_of" (f 5) "tailrooms.bits" 187 48
noncomputable def NF:O:=NQ "rooms" 231
noncomputable def Ob:O:=gy "split_of" "split_of" (f 6)
noncomputable def Mc:O:=mR "split_of" 228 "split_of" 15 1 50 232 233
noncomputable def MA:O:=gI "split_of" "split_of" (f 6) "tailrooms.bits" 187 55
noncomputable def OP:O:=Jh "rooms" 238 "room"
noncomputable def N7:O:=gy "joined_of" "joined_of" (f 7)
noncomputable def MP:O:=mR "joined_of" 235 "joined_of" 17 1 57 240 241
noncomputable def O0:O:=gI "joined_of" "joined_of" (f 7) "tailrooms.bits" 187 62
noncomputable def OJ:O:=fun P=>⟨(.type "tuple"),none,(.seq #[(.type "ValueError")] 0),#[]⟩
noncomputable def z3:O:=fun P=>⟨(.type "builtin_function_or_method"),none,(.fields #[(.builtin "type.__prepare__"),(.type "type")]),#[]⟩
noncomputable def OU:O:=fun P=>⟨(.type "dict"),none,(.dict #[(E P "__module__" 252 (.str "tailrooms.errors" 243)),(E P "__qualname__" 254 (.str "TailError" 253)),(E P "__firstlineno__" 256 (.int 23 255)),(E P "__static_attributes__" 257 (.ref 71))] 4),#[]⟩
noncomputable def Mp:O:=P5 "TailError" 247 23 67 250
noncomputable def M0:O:=P6 69 66 "tailrooms.errors" 243
noncomputable def OE:O:=Rf 252 23 "__static_attributes__" 257 71 "__weakref__" 74 3
noncomputable def ME:O:=fun P=>⟨(.type "type"),none,(.cls ⟨"TailError",[(.type "ValueError")],[(.ref 73),(.type "ValueError"),(.type "Exception"),(.type "BaseException"),(.type "object")],72,"TailError",.true,[],[(.ref 93),(.ref 112)],.false,none,.false⟩),#[(some (.ref 64)),none,(some (.str "TailError" 245)),(some (.str "TailError" 253)),(some (.builtin "ValueError.__new__")),(some (.bool .true))]⟩
noncomputable def N8:O:=fun P=>⟨(.type "getset_descriptor"),none,(.fields #[(.str "__weakref__" 258),(.ref 73),(.builtin "ExceptionGroup.__weakref__"),.none]),#[]⟩
noncomputable def MO:O:=Rp 73
noncomputable def OB:O:=RE 73
noncomputable def EY:O:=fun P=>⟨(.type "tuple"),none,(.seq #[(.ref 73)] 0),#[]⟩
noncomputable def O6:O:=fun P=>⟨(.type "dict"),none,(.dict #[(E P "__module__" 270 (.str "tailrooms.errors" 243)),(E P "__qualname__" 272 (.str "NoRoom" 271)),(E P "__firstlineno__" 274 (.int 25 273)),(E P "__init__" 282 (.ref 90)),(E P "__static_attributes__" 284 (.ref 91))] 5),#[]⟩
noncomputable def Oi:O:=fun P=>⟨.none,none,(.fields #[(.int 27 0),(.int 4 0),(.ref 89)]),#[]⟩
noncomputable def OH:O:=P5 "NoRoom" 265 25 80 268
noncomputable def Pr:O:=P6 82 79 "tailrooms.errors" 243
noncomputable def Ol:O:=Jh "self" 278 "number"
noncomputable def MT:O:=gy "__init__" "NoRoom.__init__" (m 10 0)
noncomputable def Nj:O:=mR "__init__" 275 "NoRoom.__init__" 27 2 84 280 281
noncomputable def NY:O:=gI "__init__" "NoRoom.__init__" (m 10 0) "tailrooms.errors" 243 89
noncomputable def MQ:O:=NQ "number" 283
noncomputable def NH:O:=Rf 270 25 "__init__" 282 90 "__static_attributes__" 91 2
noncomputable def NU:O:=fun P=>⟨(.type "type"),none,(.cls ⟨"NoRoom",[(.ref 73)],[(.ref 93),(.ref 73),(.type "ValueError"),(.type "Exception"),(.type "BaseException"),(.type "object")],92,"NoRoom",.true,[],[],.false,none,.false⟩),#[(some (.ref 77)),none,(some (.str "NoRoom" 263)),(some (.str "NoRoom" 271)),(some (.builtin "ValueError.__new__")),(some (.bool .true))]⟩
noncomputable def M7:O:=Rp 93
noncomputable def Nq:O:=RE 93
noncomputable def MS:O:=fun P=>⟨(.type "dict"),none,(.dict #[(E P "__module__" 295 (.str "tailrooms.errors" 243)),(E P "__qualname__" 297 (.str "Lacking" 296)),(E P "__firstlineno__" 299 (.int 29 298)),(E P "__init__" 307 (.ref 109)),(E P "__static_attributes__" 309 (.ref 110))] 5),#[]⟩
noncomputable def O_:O:=fun P=>⟨.none,none,(.fields #[(.int 31 0),(.int 4 0),(.ref 108)]),#[]⟩
noncomputable def N5:O:=P5 "Lacking" 290 29 99 293
noncomputable def Od:O:=P6 101 98 "tailrooms.errors" 243
noncomputable def Mh:O:=Jh "self" 303 "key"
noncomputable def Ov:O:=gy "__init__" "Lacking.__init__" (m 11 0)
noncomputable def NO:O:=mR "__init__" 300 "Lacking.__init__" 31 2 103 305 306
noncomputable def ML:O:=gI "__init__" "Lacking.__init__" (m 11 0) "tailrooms.errors" 243 108
noncomputable def Oz:O:=NQ "key" 308
noncomputable def MI:O:=Rf 295 29 "__init__" 307 109 "__static_attributes__" 110 2
noncomputable def Nc:O:=fun P=>⟨(.type "type"),none,(.cls ⟨"Lacking",[(.ref 73)],[(.ref 112),(.ref 73),(.type "ValueError"),(.type "Exception"),(.type "BaseException"),(.type "object")],111,"Lacking",.true,[],[],.false,none,.false⟩),#[(some (.ref 96)),none,(some (.str "Lacking" 288)),(some (.str "Lacking" 296)),(some (.builtin "ValueError.__new__")),(some (.bool .true))]⟩
noncomputable def N_:O:=Rp 112
noncomputable def Pc:O:=RE 112
noncomputable def M8:O:=Jh "many" 318 "wide"
noncomputable def MW:O:=gy "rows_for" "rows_for" (f 13)
noncomputable def Ny:O:=mR "rows_for" 315 "rows_for" 34 2 115 320 321
noncomputable def M4:O:=gI "rows_for" "rows_for" (f 13) "tailrooms.rows" 313 120
noncomputable def M3:O:=gy "cut_rows" "cut_rows" (f 14)
noncomputable def OC:O:=sL "cut_rows" 323 36 2 122 326
noncomputable def OY:O:=gI "cut_rows" "cut_rows" (f 14) "tailrooms.rows" 313 125
noncomputable def NB:O:=Ko "rows" 332 "key" "looks" "row"
noncomputable def Px:O:=gy "looked" "looked" (f 15)
noncomputable def Oa:O:=mR "looked" 329 "looked" 38 2 127 336 337
noncomputable def OA:O:=gI "looked" "looked" (f 15) "tailrooms.rows" 313 132
noncomputable def Nl:O:=gy "spread" "spread" (f 17)
noncomputable def Nx:O:=sL "spread" 341 46 2 134 344
noncomputable def Og:O:=gI "spread" "spread" (f 17) "tailrooms.spread" 339 137
noncomputable def Qj:O:=gy "yard_of" "yard_of" (f 19)
noncomputable def P9:O:=sL "yard_of" 349 52 3 139 352
noncomputable def Qi:O:=gI "yard_of" "yard_of" (f 19) "tailrooms.yards" 347 142
noncomputable def Ql:O:=gy "entries_in" "entries_in" (f 20)
noncomputable def Qe:O:=sL "entries_in" 355 56 1 144 358
noncomputable def PZ:O:=gI "entries_in" "entries_in" (f 20) "tailrooms.yards" 347 147
noncomputable def PM:O:=Jh "held" 364 "room"
noncomputable def PY:O:=gy "rows_at" "rows_at" (f 21)
noncomputable def PL:O:=mR "rows_at" 361 "rows_at" 58 2 149 366 367
noncomputable def PU:O:=gI "rows_at" "rows_at" (f 21) "tailrooms.yards" 347 154
noncomputable def Qa:O:=gy "found" "found" (f 22)
noncomputable def P0:O:=sL "found" 369 60 2 156 372
noncomputable def P_:O:=gI "found" "found" (f 22) "tailrooms.yards" 347 159
noncomputable def Qm:O:=gy "unlike_rows" "unlike_rows" (f 24)
noncomputable def Qg:O:=sL "unlike_rows" 377 68 3 161 380
noncomputable def GC:O:=gI "unlike_rows" "unlike_rows" (f 24) "tailrooms.changes" 375 164
noncomputable def Gv:O:=Ko "room" 386 "old" "new" "steps"
noncomputable def HL:O:=gy "onward" "onward" (f 25)
noncomputable def Fg:O:=mR "onward" 383 "onward" 70 3 166 390 391
noncomputable def Fo:O:=gI "onward" "onward" (f 25) "tailrooms.changes" 375 171
noncomputable def Gb:O:=Mz "room" 396 "old" "new"
noncomputable def GV:O:=gy "backward" "backward" (f 26)
noncomputable def HY:O:=mR "backward" 393 "backward" 75 3 173 399 400
noncomputable def E8:O:=gI "backward" "backward" (f 26) "tailrooms.changes" 375 178
noncomputable def GP:O:=gy "splitting" "splitting" (f 27)
noncomputable def HS:O:=sL "splitting" 402 77 1 180 405
noncomputable def Gk:O:=gI "splitting" "splitting" (f 27) "tailrooms.changes" 375 183
noncomputable def E4:O:=fun P=>⟨(.type "tuple"),none,(.seq #[(.str "yard" 411),(.str "wide" 412),(.str "rooms" 413),(.str "held" 414),(.str "room" 415),(.str "into" 416),(.str "both" 417),(.str "steps" 418)] 0),#[]⟩
noncomputable def FD:O:=gy "joining" "joining" (f 28)
noncomputable def Gg:O:=mR "joining" 408 "joining" 86 1 185 419 420
noncomputable def FQ:O:=gI "joining" "joining" (f 28) "tailrooms.changes" 375 190
noncomputable def HQ:O:=fun P=>⟨(.type "tuple"),none,(.seq #[(.str "yard" 425),(.str "key" 426),(.str "thing" 427),(.str "wide" 428),(.str "rooms" 429),(.str "held" 430),(.str "room" 431),(.str "own" 432),(.str "new" 433)] 0),#[]⟩
noncomputable def FP:O:=gy "putting" "putting" (f 29)
noncomputable def GO:O:=mR "putting" 422 "putting" 94 3 192 434 435
noncomputable def Fw:O:=gI "putting" "putting" (f 29) "tailrooms.changes" 375 197
noncomputable def FE:O:=fun P=>⟨(.type "tuple"),none,(.seq #[(.str "yard" 440),(.str "key" 441),(.str "wide" 442),(.str "rooms" 443),(.str "held" 444),(.str "room" 445),(.str "own" 446),(.str "others" 447)] 0),#[]⟩
noncomputable def F9:O:=gy "dropping" "dropping" (f 30)
noncomputable def Hr:O:=mR "dropping" 437 "dropping" 100 2 199 448 449
noncomputable def F8:O:=gI "dropping" "dropping" (f 30) "tailrooms.changes" 375 204
noncomputable def HX:O:=gy "others_in" "others_in" (f 31)
noncomputable def HR:O:=sL "others_in" 451 108 2 206 454
noncomputable def Fy:O:=gI "others_in" "others_in" (f 31) "tailrooms.changes" 375 209
noncomputable def Li:O:=fun P=>⟨(.type "tuple"),none,(.seq #[(.str "yard" 462),(.str "wide" 463),(.str "rooms" 464),(.str "held" 465),(.str "kept" 466),(.str "room" 467),(.str "rows" 468),(.str "key" 469),(.str "thing" 470)] 0),#[]⟩
noncomputable def Ll:O:=gy "mended" "mended" (f 33)
noncomputable def JR:O:=mR "mended" 459 "mended" 111 1 211 471 472
noncomputable def Lh:O:=gI "mended" "mended" (f 33) "tailrooms.mends" 457 216
noncomputable def Kg:O:=gy "mending" "mending" (f 34)
noncomputable def KI:O:=sL "mending" 474 119 1 218 477
noncomputable def I_:O:=gI "mending" "mending" (f 34) "tailrooms.mends" 457 221
noncomputable def Ky:O:=gy "_law_open" "_law_open" (f 36)
noncomputable def Jf:O:=sL "_law_open" 482 127 2 223 485
noncomputable def Lr:O:=gI "_law_open" "_law_open" (f 36) "law_tailrooms_k48_whole_mended_again_and_aga" 480 226
noncomputable def JU:O:=fun P=>⟨(.type "tuple"),none,(.seq #[(.str "_law_hand" 491),(.str "_law_many" 492),(.str "_law_got" 493),(.str "_law_k" 494),(.str "_law_number" 495)] 0),#[]⟩
noncomputable def Ln:O:=gy "_law_draw" "_law_draw" (f 37)
noncomputable def K8:O:=mR "_law_draw" 488 "_law_draw" 136 2 228 496 497
noncomputable def Jp:O:=gI "_law_draw" "_law_draw" (f 37) "law_tailrooms_k48_whole_mended_again_and_aga" 480 233
noncomputable def Jr:O:=Ko "_law_hand" 502 "_law_many" "_law_number" "_law_k"
noncomputable def K7:O:=gy "_law_far" "_law_far" (f 38)
noncomputable def JZ:O:=mR "_law_far" 499 "_law_far" 147 2 235 506 507
noncomputable def KA:O:=gI "_law_far" "_law_far" (f 38) "law_tailrooms_k48_whole_mended_again_and_aga" 480 240
noncomputable def JS:O:=Mz "_law_many" 512 "_law_number" "_law_k"
noncomputable def Lv:O:=gy "_law_power" "_law_power" (f 39)
noncomputable def K9:O:=mR "_law_power" 509 "_law_power" 154 1 242 515 516
noncomputable def Kh:O:=gI "_law_power" "_law_power" (f 39) "law_tailrooms_k48_whole_mended_again_and_aga" 480 247
noncomputable def K0:O:=Mz "_law_hand" 521 "_law_way" "_law_low"
noncomputable def Jw:O:=gy "_law_key" "_law_key" (f 40)
noncomputable def LB:O:=mR "_law_key" 518 "_law_key" 159 1 249 524 525
noncomputable def JG:O:=gI "_law_key" "_law_key" (f 40) "law_tailrooms_k48_whole_mended_again_and_aga" 480 254
noncomputable def Lb:O:=gy "_law_thing" "_law_thing" (f 41)
noncomputable def K2:O:=sL "_law_thing" 527 171 1 256 530
noncomputable def Jy:O:=gI "_law_thing" "_law_thing" (f 41) "law_tailrooms_k48_whole_mended_again_and_aga" 480 259
noncomputable def KN:O:=fun P=>⟨(.type "tuple"),none,(.seq #[(.str "_law_hand" 536),(.str "_law_many" 537),(.str "_law_keys_here" 538),(.str "_law_k" 539),(.str "_law_key_here" 540)] 0),#[]⟩
noncomputable def J6:O:=gy "_law_keys" "_law_keys" (f 42)
noncomputable def LQ:O:=mR "_law_keys" 533 "_law_keys" 174 2 261 541 542
noncomputable def K4:O:=gI "_law_keys" "_law_keys" (f 42) "law_tailrooms_k48_whole_mended_again_and_aga" 480 266
noncomputable def J9:O:=Ko "_law_key_here" 547 "_law_rooms" "_law_room_here" "_law_grade"
noncomputable def JO:O:=gy "_law_room" "_law_room" (f 43)
noncomputable def Lu:O:=mR "_law_room" 544 "_law_room" 182 2 268 551 552
noncomputable def J7:O:=gI "_law_room" "_law_room" (f 43) "law_tailrooms_k48_whole_mended_again_and_aga" 480 273
noncomputable def KO:O:=Ko "_law_wide" 557 "_law_entries" "_law_some" "_law_rows"
noncomputable def LI:O:=gy "_law_cut" "_law_cut" (f 44)
noncomputable def Lo:O:=mR "_law_cut" 554 "_law_cut" 191 2 275 561 562
noncomputable def JD:O:=gI "_law_cut" "_law_cut" (f 44) "law_tailrooms_k48_whole_mended_again_and_aga" 480 280
noncomputable def KS:O:=gy "_law_clean" "_law_clean" (f 45)
noncomputable def Lq:O:=sL "_law_clean" 564 198 3 282 567
noncomputable def JH:O:=gI "_law_clean" "_law_clean" (f 45) "law_tailrooms_k48_whole_mended_again_and_aga" 480 285
noncomputable def LP:O:=gy "_law_copy" "_law_copy" (f 46)
noncomputable def LR:O:=sL "_law_copy" 570 203 1 287 573
noncomputable def JT:O:=gI "_law_copy" "_law_copy" (f 46) "law_tailrooms_k48_whole_mended_again_and_aga" 480 290
noncomputable def O3:O:=gy "_law_done" "_law_done" (f 47)
noncomputable def Pn:O:=sL "_law_done" 576 205 2 292 579
noncomputable def MD:O:=gI "_law_done" "_law_done" (f 47) "law_tailrooms_k48_whole_mended_again_and_aga" 480 295
noncomputable def Om:O:=gy "_law_found" "_law_found" (f 48)
noncomputable def OG:O:=sL "_law_found" 582 219 2 297 585
noncomputable def O2:O:=gI "_law_found" "_law_found" (f 48) "law_tailrooms_k48_whole_mended_again_and_aga" 480 300
noncomputable def Ml:O:=Ko "_law_yard" 591 "_law_way" "_law_key_here" "_law_thing_here"
noncomputable def M1:O:=gy "_law_asked_change" "_law_asked_change" (f 49)
noncomputable def Nu:O:=mR "_law_asked_change" 588 "_law_asked_change" 229 4 302 595 596
noncomputable def PD:O:=gI "_law_asked_change" "_law_asked_change" (f 49) "law_tailrooms_k48_whole_mended_again_and_aga" 480 307
noncomputable def Nh:O:=Ko "_law_hand" 601 "_law_rooms" "_law_entries" "_law_way"
noncomputable def Nt:O:=gy "_law_ways" "_law_ways" (f 50)
noncomputable def Oe:O:=mR "_law_ways" 598 "_law_ways" 237 3 309 605 606
noncomputable def MF:O:=gI "_law_ways" "_law_ways" (f 50) "law_tailrooms_k48_whole_mended_again_and_aga" 480 314
noncomputable def ND:O:=gy "_law_key_of" "_law_key_of" (f 51)
noncomputable def M5:O:=sL "_law_key_of" 608 244 3 316 611
noncomputable def OW:O:=gI "_law_key_of" "_law_key_of" (f 51) "law_tailrooms_k48_whole_mended_again_and_aga" 480 319
noncomputable def OF:O:=gy "_law_near" "_law_near" (f 52)
noncomputable def OX:O:=sL "_law_near" 614 252 3 321 617
noncomputable def OR:O:=gI "_law_near" "_law_near" (f 52) "law_tailrooms_k48_whole_mended_again_and_aga" 480 324
noncomputable def Ox:O:=Mz "_law_script" 623 "_law_least" "_law_most"
noncomputable def Ot:O:=gy "_law_places" "_law_places" (f 53)
noncomputable def Ni:O:=mR "_law_places" 620 "_law_places" 260 3 326 626 627
noncomputable def Mn:O:=gI "_law_places" "_law_places" (f 53) "law_tailrooms_k48_whole_mended_again_and_aga" 480 331
noncomputable def MY:O:=gy "_law_things" "_law_things" (f 54)
noncomputable def Pz:O:=sL "_law_things" 629 262 2 333 632
noncomputable def Mq:O:=gI "_law_things" "_law_things" (f 54) "law_tailrooms_k48_whole_mended_again_and_aga" 480 336
noncomputable def MB:O:=gy "_law_mended_to" "_law_mended_to" (f 55)
noncomputable def OQ:O:=sL "_law_mended_to" 635 264 3 338 638
noncomputable def Pk:O:=gI "_law_mended_to" "_law_mended_to" (f 55) "law_tailrooms_k48_whole_mended_again_and_aga" 480 341
noncomputable def OT:O:=gy "_law_one" "_law_one" (f 56)
noncomputable def MH:O:=sL "_law_one" 641 272 3 343 644
noncomputable def Nb:O:=gI "_law_one" "_law_one" (f 56) "law_tailrooms_k48_whole_mended_again_and_aga" 480 346
noncomputable def O1:O:=gy "law" "law" (f 57)
noncomputable def MR:O:=sL "law" 647 293 1 348 650
noncomputable def M_:O:=gI "law" "law" (f 57) "law_tailrooms_k48_whole_mended_again_and_aga" 480 351
noncomputable def QL:O:=fun P=>⟨(.type "dict"),none,(.dict (TX P (c1 P (c2 P (c3 P (Ul P []))))).toArray 35),#[]⟩
noncomputable def QG:O:=fun P=>⟨.none,none,(.fields (c8 P (c9 P (Qx P (Sf P (TQ P []))))).toArray),#[]⟩
noncomputable def QU:O:=fun P=>⟨(.type "dict"),none,(.dict (c0 P (c1 P (c2 P (c3 P (c4 P (c5 P [])))))).toArray 48),#[]⟩
noncomputable def Q7:O:=fun P=>⟨.none,none,(.fields (c8 P (c9 P (Qx P (Sf P (c12 P (Sw P (Td P []))))))).toArray),#[]⟩
noncomputable def R7:O:=fun P=>⟨(.type "dict"),none,(.dict (Tu P (c1 P (Uu P []))).toArray 23),#[]⟩
noncomputable def Q4:O:=fun P=>⟨.none,none,(.fields (c8 P (c9 P (SV P []))).toArray),#[]⟩
def S3:B:=n NK (n O0 (n o1 (w JG) u) (n FQ (w M5) u)) (n Nq (n P0 (w o1) u) (n o1 (w MR) u))
def TZ:B:=n Nd (n O6 (n Qi (w o1) u) (n o5 (w MY) u)) (n MI (n Gb (w o5) u) (w K7))
def Ue:B:=n o1 (n o1 (n o5 (w KN) u) (n o1 (w o5) u)) (n o1 (n o5 (w Pn) u) (w o1))
def T7:B:=n Mc (n o1 (n PM (w LI) u) (n Ll (w o1) u)) (n MW (n HS (w Nh) u) (w K9))
def S_:B:=n OS (n o1 (n Px (w K2) u) (n o1 (w OF) u)) (n o1 (n Qm (w JT) u) (w Lr))
def Tv:B:=n o5 (n Pr (n Qe (w o1) u) (n o1 (w o5) u)) (n o1 (n E8 (w Nu) u) (w o5))
def Tt:B:=n o1 (n MO (n o1 (w K4) u) (n F9 (w Ni) u)) (n Ov (n Fg (w Om) u) (w o1))
def Um:B:=n OP (n MQ (n PU (w o5) u) (n o5 (w Nb) u)) (n o5 (n E4 (w MF) u) (w K0))
def Tp:B:=n NW (n z3 (n NB (w o5) u) (n o5 (w o1) u)) (n z3 (n o1 (w LP) u) (w Ky))
def NX:B:=n Pp (n Oi (n o5 (w Lu) u) (n HR (w Mq) u)) (n N_ (n GV (w o1) u) (w KA))
def TL:B:=n Nm (n ME (n Nx (w J6) u) (n FE (w o1) u)) (n Mh (n o1 (w o1) u) (w K8))
def S1:B:=n o1 (n Nj (n PY (w JD) u) (n Lh (w OT) u)) (n M4 (n o1 (w Nt) u) (w o1))
def TV:B:=n o5 (n Mp (n OA (w o1) u) (n GO (w OR) u)) (n N5 (n GC (w o5) u) (w o5))
def S5:B:=n o1 (n o5 (n o1 (w KO) u) (n Li (w OQ) u)) (n M8 (n o5 (w o1) u) (w o1))
def SJ:B:=n NV (n EY (n Qj (w o5) u) (n F8 (w o1) u)) (n ML (n o1 (w O2) u) (w Jr))
def Uq:B:=n N7 (n NU (n o5 (w Lq) u) (n KI (w o5) u)) (n OC (n FD (w o5) u) (w Jw))
def TR:B:=n o1 (n OJ (n o5 (w o1) u) (n o1 (w OW) u)) (n EY (n P_ (w o5) u) (n o5 (w M_) u))
def To:B:=n NP (n o1 (n o1 (w JO) u) (n HX (w Pz) u)) (n Nc (n o1 (w Ml) u) (w JZ))
def TY:B:=n Ow (n OE (n Nl (w o1) u) (n o5 (w Ox) u)) (n o5 (n Gv (w MD) u) (w Ln))
def Uh:B:=n MA (n MT (n o1 (w Lo) u) (n JR (w o5) u)) (n Ny (n Gk (w o1) u) (w Kh))
def SK:B:=n o1 (n o5 (n Oa (w Jy) u) (n FP (w OX) u)) (n O_ (n Qg (w o1) u) (w o1))
def TU:B:=n NF (n o1 (n PZ (w o5) u) (n o5 (w MB) u)) (n o5 (n o1 (w PD) u) (w JS))
def S7:B:=n o5 (n OB (n o5 (w o1) u) (n Hr (w Mn) u)) (n NO (n Fo (w OG) u) (w o5))
def S9:B:=n o1 (n NH (n o1 (w KS) u) (n Kg (w o1) u)) (n M3 (n o1 (w o1) u) (w o1))
def Tc:B:=n NZ (n OU (n o1 (w Lb) u) (n HQ (w o5) u)) (n MS (n o5 (w LR) u) (w Jf))
def Tw:B:=n o1 (n OH (n Ql (w J7) u) (n Fy (w o1) u)) (n Pc (n HY (w M1) u) (w o1))
def Uo:B:=n Mw (n N8 (n Og (w LQ) u) (n o1 (w Ot) u)) (n o1 (n HL (w o5) u) (w Jp))
def SY:B:=n o5 (n NY (n PL (w o1) u) (n o1 (w MH) u)) (n o1 (n o5 (w Oe) u) (w o5))
def SN:B:=n Ng (n M0 (n o1 (w o5) u) (n Fw (w o1) u)) (n Od (n o1 (w O3) u) (w JU))
def SO:B:=n Ob (n Ol (n o5 (w o1) u) (n o1 (w Pk) u)) (n o1 (n GP (w o5) u) (w Lv))
def T4:B:=n o1 (n z3 (n P9 (w J9) u) (n o1 (w o5) u)) (n Oz (n o5 (w o1) u) (w o1))
def Ut:B:=n MP (n M7 (n Qa (w JH) u) (n I_ (w O1) u)) (n OY (n Gg (w ND) u) (w LB))
def qG:Params->BT:=(n boot_o_0 (n boot_o_1 (n o0 (n boot_o_7 (n o1 S3 TZ) (n o5 Ue T7)) (n o1 (n o7 S_ Tv) (n Ph Tt Um))) (n boot_o_5 (n boot_o_9 (n o6 Tp NX) (n o1 TL S1)) (n o3 (n o9 TV S5) (n o1 SJ Uq)))) (n boot_o_2 (n boot_o_4 (n boot_o_8 (n o5 TR To) (n Nz TY Uh)) (n o2 (n o8 SK TU) (n O4 S7 S9))) (n boot_o_6 (n boot_o_10 (n o1 Tc Tw) (n NR Uo SY)) (n o4 (n o1 SN SO) (n o5 T4 Ut)))))
def Uj:B:=n NK (n O0 (w o1) (w FQ)) (n Nq (w P0) u)
def T5:B:=n Nd (n O6 (w Qi) (w o5)) (n MI (w Gb) u)
def Tf:B:=n o1 (n o1 (w o5) (w o1)) (n o1 (w o5) u)
def Tq:B:=n Mc (n o1 (w PM) u) (n MW (w HS) u)
def T8:B:=n OS (n o1 (w Px) (w o1)) (n o1 (w Qm) u)
def SM:B:=n o5 (n Pr (w Qe) u) (n o1 (w E8) u)
def SW:B:=n o1 (n MO (w o1) (w F9)) (n Ov (w Fg) u)
def SR:B:=n OP (n MQ (w PU) u) (n o5 (w E4) u)
def SI:B:=n NW (n z3 (w NB) (w o5)) (n z3 (w o1) u)
def Tn:B:=n Pp (n Oi (w o5) (w HR)) (n N_ (w GV) u)
def Uk:B:=n Nm (n ME (w Nx) (w FE)) (n Mh (w o1) u)
def Ua:B:=n o1 (n Nj (w PY) u) (n M4 (w o1) u)
def Ui:B:=n o5 (n Mp (w OA) (w GO)) (n N5 (w GC) u)
def Ti:B:=n o1 (n o5 (w o1) u) (n M8 (w o5) u)
def Tj:B:=n NV (n EY (w Qj) (w F8)) (n ML (w o1) u)
def SX:B:=n N7 (n NU (w o5) u) (n OC (w FD) u)
def TF:B:=n o1 (n OJ (w o5) (w o1)) (n EY (w P_) u)
def S8:B:=n NP (n o1 (w o1) (w HX)) (n Nc (w o1) u)
def Tg:B:=n Ow (n OE (w Nl) (w o5)) (n o5 (w Gv) u)
def T_:B:=n MA (n MT (w o1) u) (n Ny (w Gk) u)
def SQ:B:=n o1 (n o5 (w Oa) (w FP)) (n O_ (w Qg) u)
def Tz:B:=n NF (n o1 (w PZ) u) (n o5 (w o1) u)
def Th:B:=n o5 (n OB (w o5) (w Hr)) (n NO (w Fo) u)
def Ub:B:=n o1 (n NH (w o1) u) (n M3 (w o1) u)
def T6:B:=n NZ (n OU (w o1) (w HQ)) (n MS (w o5) u)
def Ur:B:=n o1 (n OH (w Ql) (w Fy)) (n Pc (w HY) u)
def SH:B:=n Mw (n N8 (w Og) (w o1)) (n o1 (w HL) u)
def Uc:B:=n o5 (n NY (w PL) u) (n o1 (w o5) u)
def T9:B:=n Ng (n M0 (w o1) (w Fw)) (n Od (w o1) u)
def S4:B:=n Ob (n Ol (w o5) u) (n o1 (w GP) u)
def TH:B:=n o1 (n z3 (w P9) (w o1)) (n Oz (w o5) u)
def Se:B:=n MP (n M7 (w Qa) u) (n OY (w Gg) u)
def qh:Params->BT:=(n boot_o_0 (n boot_o_1 (n QL (n boot_o_7 (n o1 Uj T5) (n o5 Tf Tq)) (n o1 (n o7 T8 SM) (n Ph SW SR))) (n boot_o_5 (n boot_o_9 (n o6 SI Tn) (n o1 Uk Ua)) (n o3 (n o9 Ui Ti) (n o1 Tj SX)))) (n boot_o_2 (n boot_o_4 (n boot_o_8 (n o5 TF S8) (n Nz Tg T_)) (n QG (n o8 SQ Tz) (n O4 Th Ub))) (n boot_o_6 (n boot_o_10 (n o1 T6 Ur) (n NR SH Uc)) (n o4 (n o1 T9 S4) (n o5 TH Se)))))
def uw:List Stmt:=[f 47,f 48,f 49,f 50,f 51,f 52,f 53,f 54,f 55,f 56,f 57]
def tX:List Stmt:=[f 19,f 20,f 21,f 22,f 23,f 24,f 25,f 26,f 27,f 28,f 29,f 30,f 31,f 32]
def QK:B:=n NK (n O0 (n o1 (w JG) u) (w FQ)) (n Nq (n P0 (w o1) u) (w o1))
def Ra:B:=n Nd (n O6 (n Qi (w o1) u) (w o5)) (n MI (w Gb) (w K7))
def Si:B:=n o1 (n o1 (n o5 (w KN) u) (w o1)) (n o1 (w o5) (w o1))
def RA:B:=n Mc (n o1 (n PM (w LI) u) (w Ll)) (n MW (w HS) (w K9))
def RX:B:=n OS (n o1 (n Px (w K2) u) (w o1)) (n o1 (n Qm (w JT) u) (w Lr))
def QW:B:=n o5 (n Pr (n Qe (w o1) u) (w o1)) (n o1 (w E8) (w o5))
def Qn:B:=n o1 (n MO (n o1 (w K4) u) (w F9)) (n Ov (w Fg) (w o1))
def Ro:B:=n OP (n MQ (n PU (w o5) u) (w o5)) (n o5 (w E4) (w K0))
def Ru:B:=n NW (n z3 (n NB (w o5) u) (w o5)) (n z3 (n o1 (w LP) u) (w Ky))
def QN:B:=n Pp (n Oi (n o5 (w Lu) u) (w HR)) (n N_ (w GV) (w KA))
def Rc:B:=n Nm (n ME (n Nx (w J6) u) (w FE)) (n Mh (w o1) (w K8))
def RC:B:=n o1 (n Nj (n PY (w JD) u) (w Lh)) (n M4 (w o1) (w o1))
def Rg:B:=n o5 (n Mp (n OA (w o1) u) (w GO)) (n N5 (w GC) (w o5))
def Q9:B:=n o1 (n o5 (n o1 (w KO) u) (w Li)) (n M8 (w o5) (w o1))
def RU:B:=n NV (n EY (n Qj (w o5) u) (w F8)) (n ML (w o1) (w Jr))
def RB:B:=n N7 (n NU (n o5 (w Lq) u) (w KI)) (n OC (w FD) (w Jw))
def Qy:B:=n o1 (n OJ (n o5 (w o1) u) (w o1)) (n EY (n P_ (w o5) u) (w o5))
def QB:B:=n NP (n o1 (n o1 (w JO) u) (w HX)) (n Nc (w o1) (w JZ))
def R8:B:=n Ow (n OE (n Nl (w o1) u) (w o5)) (n o5 (w Gv) (w Ln))
def Rm:B:=n MA (n MT (n o1 (w Lo) u) (w JR)) (n Ny (w Gk) (w Kh))
def QH:B:=n o1 (n o5 (n Oa (w Jy) u) (w FP)) (n O_ (w Qg) (w o1))
def RS:B:=n NF (n o1 (n PZ (w o5) u) (w o5)) (n o5 (w o1) (w JS))
def QY:B:=n o5 (n OB (n o5 (w o1) u) (w Hr)) (n NO (w Fo) (w o5))
def QM:B:=n o1 (n NH (n o1 (w KS) u) (w Kg)) (n M3 (w o1) (w o1))
def Sb:B:=n NZ (n OU (n o1 (w Lb) u) (w HQ)) (n MS (n o5 (w LR) u) (w Jf))
def RM:B:=n o1 (n OH (n Ql (w J7) u) (w Fy)) (n Pc (w HY) (w o1))
def Rq:B:=n Mw (n N8 (n Og (w LQ) u) (w o1)) (n o1 (w HL) (w Jp))
def RG:B:=n o5 (n NY (n PL (w o1) u) (w o1)) (n o1 (w o5) (w o5))
def QS:B:=n Ng (n M0 (n o1 (w o5) u) (w Fw)) (n Od (w o1) (w JU))
def QT:B:=n Ob (n Ol (n o5 (w o1) u) (w o1)) (n o1 (w GP) (w Lv))
def HN:B:=n o1 (n z3 (n P9 (w J9) u) (w o1)) (n Oz (w o5) (w o1))
def Rv:B:=n MP (n M7 (n Qa (w JH) u) (w I_)) (n OY (w Gg) (w LB))
def qL:Params->BT:=(n boot_o_0 (n boot_o_1 (n QU (n boot_o_7 (n o1 QK Ra) (n o5 Si RA)) (n o1 (n o7 RX QW) (n Ph Qn Ro))) (n boot_o_5 (n boot_o_9 (n o6 Ru QN) (n o1 Rc RC)) (n o3 (n o9 Rg Q9) (n o1 RU RB)))) (n boot_o_2 (n boot_o_4 (n boot_o_8 (n o5 Qy QB) (n Nz R8 Rm)) (n Q7 (n o8 QH RS) (n O4 QY QM))) (n boot_o_6 (n boot_o_10 (n o1 Sb RM) (n NR Rq RG)) (n o4 (n o1 QS QT) (n o5 HN Rv)))))
def uf:Program:={ PySem.Challenge.pw_tailrooms_k48_whole_mended_again_and_aga with main:={ PySem.Challenge.pw_tailrooms_k48_whole_mended_again_and_aga.main with body:=[f 1,f 2,f 3,f 4,f 5,f 6,f 7,f 9,f 10,f 11,f 13,f 14,f 15,f 17,f 19,f 20,f 21,f 22,f 24,f 25,f 26,f 27,f 28,f 29,f 30,f 31,f 33,f 34,f 36,f 37,f 38,f 39,f 40,f 41,f 42,f 43,f 44,f 45,f 46,f 47,f 48,f 49,f 50,f 51,f 52,f 53,f 54,f 55,f 56,f 57] } }
def tF:List Stmt:=[f 33,f 34,f 35,f 36,f 37,f 38,f 39,f 40,f 41,f 42,f 43,f 44,f 45,f 46]
def sW:List Stmt:=[f 11,f 12,f 13,f 14,f 15,f 16,f 17,f 18]
def R_ (P:Params)(r:zO):zO:=boot_o_0 P::boot_o_1 P::boot_o_2 P::o0 P::boot_o_4 P::boot_o_5 P::boot_o_6 P::boot_o_7 P::boot_o_8 P::boot_o_9 P::boot_o_10 P::o1 P::o2 P::o3 P::o4 P::o1 P::r
def Qt (P:Params)(r:zO):zO:=o5 P::o6 P::o1 P::o7 P::o8 P::o9 P::o1 P::o5 P::Nz P::o1 P::NR P::Ph P::O4 P::o1 P::o5 P::NK P::r
def Rz (P:Params)(r:zO):zO:=o1 P::NW P::NZ P::OS P::o1 P::o5 P::Ng P::o1 P::Ow P::Nm P::Mw P::o1 P::o5 P::NV P::o1 P::Nd P::r
def QX (P:Params)(r:zO):zO:=NP P::Pp P::o1 P::o5 P::NF P::o1 P::Ob P::Mc P::MA P::o1 P::o5 P::OP P::o1 P::N7 P::MP P::O0 P::r
def R6 (P:Params)(r:zO):zO:=OJ P::z3 P::OU P::o1 P::o5 P::Mp P::M0 P::o1 P::OE P::ME P::N8 P::MO P::OB P::EY P::z3 P::O6 P::r
def QF (P:Params)(r:zO):zO:=o1 P::Oi P::OH P::Pr P::o1 P::o5 P::Ol P::o1 P::MT P::Nj P::NY P::MQ P::NH P::NU P::M7 P::Nq P::r
def Qq (P:Params)(r:zO):zO:=EY P::z3 P::MS P::o1 P::O_ P::N5 P::Od P::o1 P::o5 P::Mh P::o1 P::Ov P::NO P::ML P::Oz P::MI P::r
def Rb (P:Params)(r:zO):zO:=Nc P::N_ P::Pc P::o1 P::o5 P::M8 P::o1 P::MW P::Ny P::M4 P::o1 P::o5 P::M3 P::OC P::OY P::o1 P::r
def QV (P:Params)(r:zO):zO:=o5 P::NB P::o1 P::Px P::Oa P::OA P::o1 P::o5 P::Nl P::Nx P::Og P::o1 P::o5 P::Qj P::P9 P::Qi P::r
def R9 (P:Params)(r:zO):zO:=o1 P::o5 P::Ql P::Qe P::PZ P::o1 P::o5 P::PM P::o1 P::PY P::PL P::PU P::o1 P::o5 P::Qa P::P0 P::r
def RY (P:Params)(r:zO):zO:=P_ P::o1 P::o5 P::Qm P::Qg P::GC P::o1 P::o5 P::Gv P::o1 P::HL P::Fg P::Fo P::o1 P::o5 P::Gb P::r
def RJ (P:Params)(r:zO):zO:=o1 P::GV P::HY P::E8 P::o1 P::o5 P::GP P::HS P::Gk P::o1 P::o5 P::E4 P::o1 P::FD P::Gg P::FQ P::r
def Q_ (P:Params)(r:zO):zO:=o1 P::o5 P::HQ P::o1 P::FP P::GO P::Fw P::o1 P::o5 P::FE P::o1 P::F9 P::Hr P::F8 P::o1 P::o5 P::r
def Sg (P:Params)(r:zO):zO:=HX P::HR P::Fy P::o1 P::o5 P::Li P::o1 P::Ll P::JR P::Lh P::o1 P::o5 P::Kg P::KI P::I_ P::o1 P::r
def QD (P:Params)(r:zO):zO:=o5 P::Ky P::Jf P::Lr P::o1 P::o5 P::JU P::o1 P::Ln P::K8 P::Jp P::o1 P::o5 P::Jr P::o1 P::K7 P::r
def RQ (P:Params)(r:zO):zO:=JZ P::KA P::o1 P::o5 P::JS P::o1 P::Lv P::K9 P::Kh P::o1 P::o5 P::K0 P::o1 P::Jw P::LB P::JG P::r
def Qo (P:Params)(r:zO):zO:=o1 P::o5 P::Lb P::K2 P::Jy P::o1 P::o5 P::KN P::o1 P::J6 P::LQ P::K4 P::o1 P::o5 P::J9 P::o1 P::r
def Qz (P:Params)(r:zO):zO:=JO P::Lu P::J7 P::o1 P::o5 P::KO P::o1 P::LI P::Lo P::JD P::o1 P::o5 P::KS P::Lq P::JH P::o1 P::r
def Qp (P:Params)(r:zO):zO:=o5 P::LP P::LR P::JT P::o1 P::o5 P::O3 P::Pn P::MD P::o1 P::o5 P::Om P::OG P::O2 P::o1 P::o5 P::r
def RO (P:Params)(r:zO):zO:=Ml P::o1 P::M1 P::Nu P::PD P::o1 P::o5 P::Nh P::o1 P::Nt P::Oe P::MF P::o1 P::o5 P::ND P::M5 P::r
def QI (P:Params)(r:zO):zO:=OW P::o1 P::o5 P::OF P::OX P::OR P::o1 P::o5 P::Ox P::o1 P::Ot P::Ni P::Mn P::o1 P::o5 P::MY P::r
def Q0 (P:Params)(r:zO):zO:=Pz P::Mq P::o1 P::o5 P::MB P::OQ P::Pk P::o1 P::o5 P::OT P::MH P::Nb P::o1 P::o5 P::O1 P::MR P::r
def Q5 (P:Params)(r:zO):zO:=M_ P::r
def qQ:Params->Heap:=fun P=>⟨⟨(R_ P (Qt P (Rz P (QX P (R6 P (QF P (Qq P (Rb P (QV P (R9 P (RY P (RJ P (Q_ P (Sg P (QD P (RQ P (Qo P (Qz P (Qp P (RO P (QI P (Q0 P (Q5 P [])))))))))))))))))))))))⟩,⟨[],[],[],0,[],[],.false,#[],[],0,.false,.false,.false,0,[2000,10,10],.false,0,.true,[],[],0,.false⟩⟩
def RK:B:=n NK (n O0 (w o1) u) (w Nq)
def Rt:B:=n o1 (n o1 (w o5) u) (w o1)
def R5:B:=n OS (n o1 (w Px) u) (w o1)
def RP:B:=n NW (n z3 (w NB) u) (w z3)
def Rn:B:=n Nm (n ME (w Nx) u) (w Mh)
def Qw:B:=n o5 (n Mp (w OA) u) (w N5)
def RZ:B:=n o1 (n OJ (w o5) u) (w EY)
def RW:B:=n Ow (n OE (w Nl) u) (w o5)
def Sd:B:=n o1 (n o5 (w Oa) u) (w O_)
def Ry:B:=n NZ (n OU (w o1) u) (w MS)
def Qs:B:=n Mw (n N8 (w Og) u) (w o1)
def QZ:B:=n Ng (n M0 (w o1) u) (w Od)
def pO:Params->BT:=(n boot_o_0 (n boot_o_1 (n R7 (n boot_o_7 (n o1 RK (n Nd (w O6) (w MI))) (n o5 Rt (n Mc (w o1) (w MW)))) (n o1 (n o7 R5 (n o5 (w Pr) (w o1))) (n Ph (n o1 (w MO) (w Ov)) (n OP (w MQ) (w o5))))) (n boot_o_5 (n boot_o_9 (n o6 RP (n Pp (w Oi) (w N_))) (n o1 Rn (n o1 (w Nj) (w M4)))) (n o3 (n o9 Qw (n o1 (w o5) (w M8))) (n o1 (n NV (w EY) (w ML)) (n N7 (w NU) (w OC)))))) (n boot_o_2 (n boot_o_4 (n boot_o_8 (n o5 RZ (n NP (w o1) (w Nc))) (n Nz RW (n MA (w MT) (w Ny)))) (n Q4 (n o8 Sd (n NF (w o1) (w o5))) (n O4 (n o5 (w OB) (w NO)) (n o1 (w NH) (w M3))))) (n boot_o_6 (n boot_o_10 (n o1 Ry (n o1 (w OH) (w Pc))) (n NR Qs (n o5 (w NY) (w o1)))) (n o4 (n o1 QZ (n Ob (w Ol) (w o1))) (n o5 (n o1 (w z3) (w Oz)) (n MP (w M7) (w OY)))))))
end HD
def PySem.W.Fast.tw8146653771725369855:PySem.Params->PySem.W.BT:=HD.qG
theorem PySem.W.Fast.te8146653771725369855:HD.qG=PySem.W.Fast.tw8146653771725369855:=rfl
def PySem.W.Fast.tw15322274666194151288:Nat:=0
theorem PySem.W.Fast.te15322274666194151288:True:=trivial
def PySem.W.Fast.tw4115787667685097762:PySem.Params->PySem.W.BT:=HD.qh
theorem PySem.W.Fast.te4115787667685097762:HD.qh=PySem.W.Fast.tw4115787667685097762:=rfl
def PySem.W.Fast.tw8678069324026336308:List PySem.Stmt:=HD.uw
theorem PySem.W.Fast.te8678069324026336308:HD.uw=PySem.W.Fast.tw8678069324026336308:=rfl
def PySem.W.Fast.tw1610189913130786271:List PySem.Stmt:=HD.tX
theorem PySem.W.Fast.te1610189913130786271:HD.tX=PySem.W.Fast.tw1610189913130786271:=rfl
def PySem.W.Fast.tw226451725097218155:PySem.Params->PySem.W.BT:=HD.qL
theorem PySem.W.Fast.te226451725097218155:HD.qL=PySem.W.Fast.tw226451725097218155:=rfl
def PySem.W.Fast.tw2307719539780247389:PySem.Program:=HD.uf
theorem PySem.W.Fast.te2307719539780247389:HD.uf=PySem.W.Fast.tw2307719539780247389:=rfl
def PySem.W.Fast.tw9163516700577784008:List PySem.Stmt:=HD.tF
theorem PySem.W.Fast.te9163516700577784008:HD.tF=PySem.W.Fast.tw9163516700577784008:=rfl
def PySem.W.Fast.tw14930984557807571803:List PySem.Stmt:=HD.sW
theorem PySem.W.Fast.te14930984557807571803:HD.sW=PySem.W.Fast.tw14930984557807571803:=rfl
def PySem.W.Fast.tw3661429257831082606:PySem.Params->PySem.Heap:=HD.qQ
theorem PySem.W.Fast.te3661429257831082606:HD.qQ=PySem.W.Fast.tw3661429257831082606:=rfl
def PySem.W.Fast.tw3438040694539462413:PySem.Params->PySem.W.BT:=HD.pO
theorem PySem.W.Fast.te3438040694539462413:HD.pO=PySem.W.Fast.tw3438040694539462413:=rfl
end
open PySem PySem.W PyProof.Rows
set_option maxRecDepth 100000 in
set_option maxHeartbeats 0 in
theorem PySem.Challenge.cw_tailrooms_k48_whole_mended_again_and_aga_holds : PySem.Challenge.rw_tailrooms_k48_whole_mended_again_and_aga.Holds := by
  w_on; o_law; k_head; (case hw=>w_witness2)
  k_fill
  refine Law.walk (l:=PySem.Challenge.rw_tailrooms_k48_whole_mended_again_and_aga) rfl rfl (fun w h Y=>PySem.W.kIn_of Y) ?F
  case F =>
    intro w mg fa h KX G hmg
    refine' Law.all_mk KX G hmg ?ga0 ?ga1 ?ga2 ?ga3 ?ga4 ?ga5 ?ga6 ?ga7 ?ga8 ?ga9 ?ga10 ?ga11 ?ga12 ?ga13 ?ga14 ?ga15 ?ga16 ?ga17 ?ga18 ?ga19 ?ga20 ?ga21 ?ga22 ?ga23 ?ga24 ?ga25 ?ga26 ?ga27 ?ga28 ?ga29 ?ga30 ?ga31 ?ga32 ?ga33 ?ga34 ?ga35 ?ga36 ?ga37 ?ga38 ?ga39 ?ga40 ?ga41 ?ga42 ?ga43 ?ga44 ?ga45 ?a46 ?l46 ?NX ?k46 ?z_max ?z_range ?z_len ?z_sorted ?z_dict ?z_list ?z_enumerate ?z_abs ?z_min ?z_int ?z_set
    (case ga0=>walk_at"lk")
    (case ga1=>walk_at"lk")
    (case ga2=>walk_at"lk")
    (case ga3=>walk_at"lk")
    (case ga4=>walk_at"lk")
    (case ga5=>walk_at"lk")
    (case ga6=>walk_at"lk")
    (case ga7=>walk_at"lk")
    (case ga8=>walk_at"lk")
    (case ga9=>walk_at"lk")
    (case ga10=>walk_at"lk")
    (case ga11=>walk_at"lk")
    (case ga12=>walk_at"lk")
    (case ga13=>walk_at"lk")
    (case ga14=>walk_at"lk")
    (case ga15=>walk_at"lk")
    (case ga16=>walk_at"lk")
    (case ga17=>walk_at"lk")
    (case ga18=>walk_at"lk")
    (case ga19=>walk_at"lk")
    (case ga20=>walk_at"lk")
    (case ga21=>walk_at"lk")
    (case ga22=>walk_at"lk")
    (case ga23=>walk_at"lk")
    (case ga24=>walk_at"lk")
    (case ga25=>walk_at"lk")
    (case ga26=>walk_at"lk")
    (case ga27=>walk_at"lk")
    (case ga28=>walk_at"lk")
    (case ga29=>walk_at"lk")
    (case ga30=>walk_at"lk")
    (case ga31=>walk_at"lk")
    (case ga32=>walk_at"lk")
    (case ga33=>walk_at"lk")
    (case ga34=>walk_at"lk")
    (case ga35=>walk_at"lk")
    (case ga36=>walk_at"lk")
    (case ga37=>walk_at"lk")
    (case ga38=>walk_at"lk")
    (case ga39=>walk_at"lk")
    (case ga40=>walk_at"lk")
    (case ga41=>walk_at"lk")
    (case ga42=>walk_at"lk")
    (case ga43=>walk_at"lk")
    (case ga44=>walk_at"lk")
    (case ga45=>walk_at"lk")
    (case a46=>walk_at"lk")
    (case l46=>walk_at"lk")
    (case NX=>walk_at"lk")
    (case k46=>walk_at"lk")
    (case z_max=>walk_at"lk")
    (case z_range=>walk_at"lk")
    (case z_len=>walk_at"lk")
    (case z_sorted=>walk_at"lk")
    (case z_dict=>walk_at"lk")
    (case z_list=>walk_at"lk")
    (case z_enumerate=>walk_at"lk")
    (case z_abs=>walk_at"lk")
    (case z_min=>walk_at"lk")
    (case z_int=>walk_at"lk")
    (case z_set=>walk_at"lk")
