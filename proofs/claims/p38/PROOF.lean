import PyProof.Rows.All
import Wide.All
import OpenK.AllK
import Wide.FinOn
import Lean
import PyProof.EqAt
import PyProof.EqKinds
import PyProof.TupleCall
import PyProof.DictTruth
import PyProof.Conv_int_bool
import PySem.Challenge.RW_weblayers_k38_cores_told
set_option Elab.async false
set_option linter.all false
set_option maxRecDepth 100000
set_option maxHeartbeats 4000000
set_option genSizeOf false
set_option genSizeOfSpec false
section
open PySem PySem.Spec PyProof.Rows Spec
def w1:=@List.length_nil
def wd:=@List.contains_iff_mem
def wh:=@PySem.W.kia_one
def wi:=@PyProof.Rows.callWith_type1
def ws:=@List.getElem?_cons_zero
def vT:=@wpAny_mono
def vU:=@List.all_eq_true
def vV:=@wpAny_truthy_bool
def vW:=@wpAny_setState_of
def vX:=@wpAny_field
def vY:=@of_decide_eq_true
def vZ:=@PySem.mem_of_lookup
def v0:=@List.replicate_succ
def v4:=@List.map_congr_left
def v5:=@List.getElem_of_mem
def v6:=@wpAny_standAt
def v7:=@wpAny_attempt
def v8:=@decide_eq_true
def v9:=@List.foldl_cons
def va:=@List.append_nil
def vb:=@wpAny_rule
def vc:=@if_false
def vd:=@if_true
def ve:=@List.not_mem_nil
def vf:=@List.lookup_cons
def vg:=@List.any_eq_true
def vh:=@F.plain_sum_loop
def vi:=@List.mem_of_mem_take
def vk:=@List.any_cons
def vl:=@F.slot_dict_keyiterator_next
def vm:=@wpAny_setField
def vn:=@Int.toNat_natCast
def vo:=@F.plain_list_iadd
def vq:=@List.getElem?_set_self
def vr:=@Array.getElem?_eq_none
def vt:=@List.length_filter_le
def vu:=@Int.fmod_lt_of_pos
def vw:=@Calls.spliced_cons
def vz:=@Nat.le_succ
def uA:=@List.mem_range
def uB:=@beq_iff_eq
def uC:=@List.nodup_append
def uD:=@List.map_append
def uE:=@List.forIn_cons
def uF:=@List.ext_getElem?
def uG:=@List.append_assoc
def uH:=@Int.mul_le_mul_of_nonneg_right
def uI:=@wpAny_of_eq
def uJ:=@List.pairwise_singleton
def uK:=@List.getElem?_replicate
def uL:=@wpAny_typeNameOfWhole_keyiter
def uM:=@Nat.lt_succ_self
def uN:=@wpAny_fieldsOf
def uO:=@isSubtype_type
def uP:=@wpAny_setField_rec
def uQ:=@List.zip_cons_cons
def uR:=@wpAny_typeOf
def uS:=@wpAny_passesOwn
def uT:=@Obj.isFreed_of_fields
def uU:=@List.nodup_cons
def uV:=@List.length_singleton
def uW:=@List.eq_nil_or_concat
def uX:=@List.concat_eq_append
def uY:=@Int.fdiv_nonneg
def uZ:=@Calls.spliced_nil
def u3:=@Bool.not_eq_true'
def u4:=@Int.fdiv_eq_ediv_of_nonneg
def u5:=@F.slot_tuple_iterator_next
def u6:=@List.pairwise_iff_getElem
def u7:=@List.drop_eq_getElem_cons
def u8:=@List.filter_cons
def u9:=@wpAny_setEntries_of
def ua:=@wpAny_typeNameOf_keyiter
def ub:=@PySem.F.args_tuple_add_2
def uc:=@List.getElem?_take_of_lt
def ud:=@F.called_set
def ue:=@wpAny_ite_split
def uf:=@get?_update_seq
def ug:=@codeAny_of_tree
def uh:=@PySem.F.entry_tuple_add
def ui:=@List.find?_cons
def uj:=@Bool.eq_iff_iff
def uk:=@PySem.F.slot_tuple_add
def ul:=@List.drop_of_length_le
def um:=@wpAny_pyIter_list
def uo:=@wpAny_letGo
def uq:=@F.called_tuple
def ur:=@codeAny_mono
def ut:=@PyProof.Rows.callWith_builtin1
def uu:=@Nat.le_of_lt
def uv:=@F.plain_proto_collect
def uw:=@F.entry_proto_collect
def ux:=@wpAny_askSetting
def uy:=@Nat.le_add_right
def uz:=@List.prefix_refl
def xA:=@List.getElem_mem
def xB:=@List.eq_nil_of_length_eq_zero
def xC:=@Int.mul_le_mul_of_nonneg_left
def xD:=@List.pairwise_append
def xE:=@List.getElem?_set_ne
def xF:=@Array.toArray_toList
def xG:=@Array.getElem_toList
def xH:=@List.all_cons
def xI:=@typeIs_int
def xJ:=@List.getElem?_range
def xK:=@List.drop_succ_cons
def xL:=@Array.getElem_setIfInBounds
def xM:=@wpAny_pyIter_tuple
def xN:=@wpAny_Call_Name_kw
def xO:=@Nat.lt_or_eq_of_le
def xP:=@Nat.lt_of_lt_of_eq
def xQ:=@Nat.lt_of_le_of_lt
def xR:=@List.map_nil
def xS:=@wpAny_runValue
def xT:=@isSubtype_stop
def xU:=@List.drop_zero
def xV:=@Calls.call_function_entry
def xW:=@wpAny_dictEntries
def xX:=@fits_of_scanBound
def xY:=@bne_self_eq_false
def xZ:=@Obj.cls_mapFields
def xa:=@List.length_erase_of_mem
def xb:=@List.foldl_append
def xc:=@F.slot_list_getattribute
def xf:=@F.plain_tuple_new
def xg:=@F.entry_list_iadd
def xh:=@Array.toList_push
def xi:=@wpAny_handled
def xj:=@or_false
def xk:=@decide_eq_false_iff_not
def xl:=@List.sum_cons
def xm:=@List.getElem?_cons_succ
def xn:=@F.plain_set_update_loop
def xo:=@noFill_tuple_add
def xp:=@Option.bind_none
def xq:=@List.take_length
def xr:=@List.length_drop
def xt:=@List.getElem_inj
def xu:=@Heap.size_update
def xw:=@Option.map_eq_some_iff
def xx:=@wpAny_specialOf
def xy:=@builtinLookup_eq_fast
def xz:=@F.slot_zip_next
def gA:=@F.slot_int_rmul
def gB:=@call_meets
def gC:=@wpAny_updateSeq_pair
def gD:=@List.getElem_toArray
def gE:=@Bool.or_eq_false_iff
def gF:=@wpAny_tryCatch
def gG:=@List.forIn_nil
end
section
open PySem PySem.Spec PyProof.Rows Spec
def wA:=@wpAny_bind
def wB:=@Heap.get?_push_of_some
def wC:=@wpAny_pure
def wD:=@List.getElem?_eq_getElem
def wE:=@Heap.get?_push_size
def wF:=@Heap.lt_size
def wG:=@Nat.le_refl
def wH:=@List.mem_cons_self
def wI:=@List.mem_cons_of_mem
def wJ:=@List.size_toArray
def wK:=@if_neg
def wL:=@if_pos
def wM:=@List.mem_singleton
def wN:=@List.mem_cons
def wO:=@List.getElem?_eq_some_iff
def wP:=@List.length_map
def wQ:=@Heap.get?_update_other
def wR:=@List.map_cons
def wS:=@wpAny_newObj_type
def wT:=@Nat.ne_of_lt
def wU:=@List.mem_append_right
def wV:=@Bool.and_eq_true
def wW:=@Option.bind_some
def wX:=@List.length_cons
def wY:=@Bool.false_ne_true
def wZ:=@Around.under_plainId
def w4:=@List.getElem?_map
def w5:=@List.getElem?_append_left
def w6:=@Nat.lt_of_lt_of_le
def w8:=@Heap.get?_update_self
def w9:=@List.length_eq_zero_iff
def wa:=@codeAny_builtin
def wb:=@wpAny_callSpecial?_slot
def wc:=@List.mem_append_left
def we:=@List.length_append
def wf:=@wpAny_call_entry
def wg:=@List.mem_append
def wj:=@Bool.false_eq_true
def wk:=@Array.length_toList
def wm:=@wpAny_holding
def wn:=@List.getElem?_append_right
def wo:=@plainId_quiet
def wp:=@Array.getElem?_eq_getElem
def wq:=@Option.map_some
def wt:=@Heap.size_push
def wu:=@Int.fmod_nonneg_of_pos
def wv:=@List.getD_eq_getElem?_getD
def ww:=@decide_eq_false
def wx:=@List.pairwise_cons
def wy:=@List.mem_of_getElem?
def wz:=@decide_eq_true_eq
def vA:=@List.flatten_cons
def vB:=@Array.getElem?_toList
def vC:=@beq_eq_false_iff_ne
def vD:=@List.mem_filter
def vE:=@List.length_take
def vF:=@Nat.ne_of_gt
def vG:=@List.mem_map
def vH:=@Nat.zero_le
def vI:=@Nat.lt_irrefl
def vJ:=@sizeLine_eq
def vK:=@Nat.le_trans
def vL:=@List.map_map
def vM:=@List.getElem?_eq_none
def vN:=@wpAny_seqItems
def vO:=@wpAny_isInstance
def vP:=@PyProof.Rows.slot_tuple_getitem
def vQ:=@Nat.lt_succ_of_lt
def vR:=@Obj.data_mapFields
def vS:=@wpAny_updateSeq
end
namespace L2
open PySem PySem.Spec PyProof.Rows
noncomputable abbrev Key:=Sum Int Str
noncomputable def keyIs:Key->Value->Bool
 | .inl k,v=>Value.isInt k v
 | .inr x,v=>Value.isStrOf x v
noncomputable def keyH(w:World):Key->Int
 | .inl k=>hashInt k
 | .inr x=>hashStr w x
theorem keyIs_shape:∀{k:Key} {v:Value},keyIs k v=true->(∃i t,k=Sum.inl i/\v=Value.int i t)\/(∃x t,k=Sum.inr x/\v=Value.str x t)
 | .inl i,v,h=>by
  obtain⟨t,e⟩:=Value.isInt_shape (k:=i) (v:=v) h
  exact .inl ⟨i,t,rfl,e⟩
 | .inr x,v,h=>by
  obtain⟨t,e⟩:=Value.isStrOf_shape (x:=x) (v:=v) h
  exact .inr ⟨x,t,rfl,e⟩
theorem qef(i:Int)(t:Tok):keyIs (.inl i) (.int i t)=true:=by simp[keyIs,Value.isInt]
theorem qeg(x:Str)(t:Tok):keyIs (.inr x) (.str x t)=true:=by simp[keyIs,Value.isStrOf]
theorem qjf(a b:Int):decide ((Sum.inl a:Key)=Sum.inl b)=(a == b):=by
 by_cases e:a=b
 .subst e;simp
 .have h:¬(Sum.inl a:Key)=Sum.inl b:=λq=>e (Sum.inl.inj q)
  rw[ww h]
  exact(vC.mpr e).symm
theorem qjg(a b:Str):decide ((Sum.inr a:Key)=Sum.inr b)=decide (a=b):=by
 by_cases e:a=b
 .subst e;simp
 .have h:¬(Sum.inr a:Key)=Sum.inr b:=λq=>e (Sum.inr.inj q)
  rw[ww h,ww e]
theorem qjh(a:Int)(b:Str):decide ((Sum.inl a:Key)=Sum.inr b)=false:=ww (λq=>nomatch q)
theorem qji(a:Str)(b:Int):decide ((Sum.inr a:Key)=Sum.inl b)=false:=ww (λq=>nomatch q)
noncomputable def mixKind(prog:Program)(w:World):PySem.KeyKind prog w Key where
 is:=keyIs
 hash:=keyH w
 inj:=λv a b ha d=>by
  rcases keyIs_shape ha with ⟨i,t,rfl,rfl⟩|⟨x,t,rfl,rfl⟩
  .rcases keyIs_shape d with ⟨j,u,rfl,e⟩|⟨y,u,rfl,e⟩
   .injection e with e1 _;rw[e1]
   .exact nomatch e
  .rcases keyIs_shape d with ⟨j,u,rfl,e⟩|⟨y,u,rfl,e⟩
   .exact nomatch e
   .injection e with e1 _;rw[e1]
 byValue:=λk v h=>by
  rcases keyIs_shape h with ⟨i,t,rfl,rfl⟩|⟨x,t,rfl,rfl⟩ <;> rfl
 pyHash:=λc h=>by
  rcases keyIs_shape c with ⟨i,t,rfl,rfl⟩|⟨x,t,rfl,rfl⟩
  .exact wpAny_pyHash_int h
  .exact wpAny_pyHash_str h
 eqBool:=λf c h=>by
  rcases keyIs_shape f with ⟨i,t,rfl,rfl⟩|⟨x,t,rfl,rfl⟩
  .rcases keyIs_shape c with ⟨j,u,rfl,rfl⟩|⟨y,u,rfl,rfl⟩
   .rw [qjf]at h;exact wpAny_eqBool_int h
   .rw [qjh]at h;exact SeqAt.EqAt.int_str i t y u _ _ _ _ h
  .rcases keyIs_shape c with ⟨j,u,rfl,rfl⟩|⟨y,u,rfl,rfl⟩
   .rw [qji]at h;exact SeqAt.EqAt.str_int x t j u _ _ _ _ h
   .rw [qjg]at h;exact wpAny_eqBool_str h
 «strs»:=λk x t v h=>by
  rcases keyIs_shape h with ⟨i,u,rfl,e⟩|⟨y,u,rfl,e⟩
  .exact nomatch e
  .injection e with e1 _
   subst e1
   cases v <;> rfl
theorem qbr(prog:Program)(w:World)(i:Int)(t:Tok):(mixKind prog w).is (.inl i) (.int i t)=true:=qef i t
theorem qbs(prog:Program)(w:World)(x:Str)(t:Tok):(mixKind prog w).is (.inr x) (.str x t)=true:=qeg x t
end L2
namespace L2
open PySem PySem.Spec PyProof.Rows
inductive V where
 |non|bl (b:Bool)|int (i:Int)|str (x:Str)|byt (b:Array UInt8)|flt (b:UInt64)|ref (a:Addr)|ty (n:String)
 deriving DecidableEq
def RelV:V->Value->Prop
 | .non,u=>u=Value.none
 | .bl b,u=>u=Value.bool b
 | .int i,u=>∃t,u=Value.int i t
 | .str x,u=>∃t,u=Value.str x t
 | .byt b,u=>∃t,u=Value.bytes b t
 | .flt b,u=>∃t,u=Value.float b t
 | .ref a,u=>u=Value.ref a
 | .ty n,u=>u=Value.type n
noncomputable abbrev Vals:List V->List Value->Prop:=Paired RelV
theorem Vals.length{xs:List V}{us:List Value}(r:Vals xs us):xs.length=us.length:=Paired.length r
theorem Vals.get:∀{xs:List V} {us:List Value} {i:Nat} {x:V},Vals xs us->xs[i]?=some x->∃u,us[i]?=some u/\RelV x u
 |_,_,_,_,.nil,e=>by simp at e
 |_,_,0,_,.cons r _,e=>by simp at e;subst e;exact⟨_,rfl,r⟩
 |_,_,i+1,x,.cons _ t,e=>by
  obtain⟨u,a,b⟩:=Vals.get (i:=i) (x:=x) t (by simpa using e)
  exact⟨u,by simpa using a,b⟩
theorem Vals.set{x:V}{u:Value}(r:RelV x u):∀{xs:List V} {us:List Value} (i:Nat),Vals xs us->Vals (xs.set i x) (us.set i u)
 |_,_,_,.nil=>.nil
 |_,_,0,.cons _ t=>.cons r t
 |_,_,i+1,.cons q t=>.cons q (Vals.set r i t)
theorem Vals.append:∀{xs ys:List V} {us a:List Value},Vals xs us->Vals ys a->Vals (xs++ys) (us++a)
 |_,_,_,_,.nil,s=>s
 |_,_,_,_,.cons r t,s=>.cons r (Vals.append t s)
theorem Vals.take:∀{xs:List V} {us:List Value} (n:Nat),Vals xs us->Vals (xs.take n) (us.take n)
 |_,_,0,_=>.nil
 |_,_,_+1,.nil=>.nil
 |_,_,n+1,.cons r t=>.cons r (Vals.take n t)
theorem Vals.drop:∀{xs:List V} {us:List Value} (n:Nat),Vals xs us->Vals (xs.drop n) (us.drop n)
 |_,_,0,r=>r
 |_,_,_+1,.nil=>.nil
 |_,_,n+1,.cons _ t=>Vals.drop n t
def RelO:Option V->Option Value->Prop
 |some v,some u=>RelV v u
 |none,none=>True
 |_,_=>False
noncomputable def KV{κ:Type}:List (κ×V)->List (κ×Value)->Prop:=Paired λ(p:κ×V) (q:κ×Value)=>p.1=q.1/\RelV p.2 q.2
noncomputable def kV:Key->V
 | .inl i=>.int i
 | .inr x=>.str x
inductive HO where
 |lst (xs:List V)
 |tup (xs:List V)
 |dK (kvs:List (Key×V))|dT (kvs:List (List Key×V))
 |set (S:Int->Bool) (n:Nat)
 |ins (C dx:Addr) (fs:List (Str×V))
 |own (x:Addr)
 |xd (fs:List (Str×V))
 |met (f x:Addr)
 |rng (lo hi:Int)
 |frz (o:Obj) (u:HO)
 |tbl (ps:Array Value)
 |ext (φ:Heap->Prop)
noncomputable abbrev Hp:=Addr->Option HO
noncomputable def upd(H:Hp)(a:Addr)(o:HO):Hp:=λb=>if b=a then some o else H b
theorem ql{H:Hp}{a:Addr}{o:HO}:upd H a o a=some o:=by unfold upd;rw[wL rfl]
theorem qj{H:Hp}{a b:Addr}{o:HO}(h:b≠a):upd H a o b=H b:=by unfold upd;rw[wK h]
theorem qhs{H:Hp}{a:Addr}{o u:HO}:upd (upd H a o) a u=upd H a u:=by
 funext b;unfold upd;split <;> rfl
theorem qk0{H:Hp}{a b:Addr}{o u:HO}(h:H a=some o)(h':H b=some u)(d:o≠u):a≠b:=by
 intro e;subst e;rw[h]at h';exact d (Option.some.inj h')
theorem za{H:Hp}{a b:Addr}{o:HO}(h:H a=some o)(h':H b=none):a≠b:=by
 intro e;subst e;rw[h]at h';cases h'
theorem yp(h:Heap)(its:Array Value):∀o,(h.push {cls:=.type "tuple",data:=.seq its}).get? h.objs.size=some o->o.dict=none:=λo q=>by
 rw[wE _ rfl]at q;cases q;rfl
section
variable(P:Program)(w:World)
def ObjOk(H:Hp)(h:Heap)(a:Addr):HO->Prop
 | .lst xs=>xs.length<=sizeLine/\∃(its:List Value) (n:Nat),Vals xs its/\h.get? a=some {cls:=.type "list",data:=.seq its.toArray n}
 | .tup xs=>xs.length<=sizeLine/\∃its:List Value,Vals xs its/\IsTup h a its.toArray/\∀o,h.get? a=some o->o.dict=none
 | .dK kvs=>kvs.length<=sizeLine/\(a == sysModules)=false/\∃vs,KV kvs vs/\h.DictOf (mixKind P w) a vs
 | .dT kvs=>kvs.length<=sizeLine/\(a == sysModules)=false/\∃xs:List (List Key×Addr×Value),
   Paired (λ(p:List Key×V) (q:List Key×Addr×Value)=>p.1=q.1/\H q.2.1=some (.tup (p.1.map kV))/\RelV p.2 q.2.2) kvs xs /\
   ∃o es ep,h.get? a=some o/\o.ExactDict/\o.data=.dict es ep/\es.toList=xs.map (entryOfKey (tupleKind (mixKind P w)))/\(xs.map (·.1)).Nodup
 | .set S n=>h.SetOf (intKind P w) a S n
 | .ins C dx fs=>H dx=some (.own a)/\fs.length<=1000/\dx≠a/\h.get? a=some (PySem.W.instObj C dx) /\
   ∃mA,h.Ns1 dx mA/\(∀f,RelO (fs.lookup f) (mA f))/\PySem.Within mA (fs.map (·.1))
 | .own _=>∃o,h.get? a=some o
 | .xd fs=>∃mA,h.Ns1 a mA/\∀f,RelO (fs.lookup f) (mA f)
 | .rng lo hi=>∃t u v,h.get? a=some {cls:=.type "range",data:=.fields #[.int lo t,.int hi u,.int 1 v]}
 | .frz o u=>h.get? a=some o/\ObjOk H h a u
 | .tbl ps=>h.get? a=some {cls:=.none,data:=.fields ps}/\TriplesOk ps.toList
 | .met f x=>h.get? a=some (PySem.W.methodObj (.ref f) (.ref x))
 | .ext b=>b h/\(∃o,h.get? a=some o)/\∀c d:Heap,b c->(∀o,c.get? a=some o->d.get? a=some o)->b d
def HOk(H:Hp)(h:Heap):Prop:=∀a o,H a=some o->ObjOk P w H h a o
end
section
variable{P:Program}{w:World}{H H':Hp}{h h':Heap}{a:Addr}{o:HO}
theorem ObjOk.lt(x:ObjOk P w H h a o):a<h.objs.size:=by
 cases o with
 |lst xs=>obtain⟨_,_,_,_,e⟩:=x;exact wF e
 |tup xs=>obtain⟨_,_,_,p,_⟩:=x;exact p.lt
 |dK kvs=>obtain⟨_,_,_,_,o,_,_,e,_⟩:=x;exact wF e
 |dT kvs=>obtain⟨_,_,_,_,o,_,_,e,_⟩:=x;exact wF e
 |set S n=>obtain⟨o,_,_,_,e,_⟩:=x;exact wF e
 |ins C dx fs=>obtain⟨_,_,_,e,_⟩:=x;exact wF e
 |own y=>obtain⟨_,e⟩:=x;exact wF e
 |xd fs=>obtain⟨_,⟨_,_,_,e,_⟩,_⟩:=x;exact wF e
 |rng lo hi=>obtain⟨_,_,_,e⟩:=x;exact wF e
 |frz ob u=>obtain⟨e,_⟩:=x;exact wF e
 |tbl ps=>exact wF (show h.get? a=some _ from x.1)
 |met f y=>exact wF (show h.get? a=some _ from x)
 |ext b=>obtain⟨_,⟨_,e⟩,_⟩:=x;exact wF e
theorem Paired.mapP{e i:Type}{F G:e->i->Prop}:∀{c:List e} {d:List i},Paired F c d->(∀a b,F a b->G a b)->Paired G c d
 |_,_,.nil,_=>.nil
 |_,_,.cons r t,f=>.cons (f _ _ r) (Paired.mapP t f)
theorem ObjOk.stay(x:ObjOk P w H h a o)(k:∀b u,(b=a\/H b=some (.own a))->h.get? b=some u->h'.get? b=some u)(i:∀b,H b=some (.own a)->H' b=some (.own a))(j:∀b xs,H b=some (.tup xs)->H' b=some (.tup xs)):ObjOk P w H' h' a o:=by
 induction o with
 |lst xs=>obtain⟨z,its,n,r,e⟩:=x;exact⟨z,its,n,r,k _ _ (.inl rfl) e⟩
 |tup xs=>obtain⟨z,its,r,⟨ob,e,c⟩,nd⟩:=x;exact⟨z,its,r,⟨ob,k _ _ (.inl rfl) e,c⟩,λo q=>by rw[k _ _ (.inl rfl) e]at q;cases q;exact nd _ e⟩
 |dK kvs=>obtain⟨z,y,vs,r,ob,es,ep,e,c⟩:=x;exact⟨z,y,vs,r,ob,es,ep,k _ _ (.inl rfl) e,c⟩
 |dT kvs =>
  obtain⟨z,y,xs,r,ob,es,ep,e,c⟩:=x
  exact⟨z,y,xs,Paired.mapP r λp q z=>⟨z.1,j _ _ z.2.1,z.2.2⟩,ob,es,ep,k _ _ (.inl rfl) e,c⟩
 |set S n=>obtain⟨ob,es,ep,t,e,c⟩:=x;exact⟨ob,es,ep,t,k _ _ (.inl rfl) e,c⟩
 |ins C dx fs =>
  obtain⟨d,z,ne,e,mA,⟨od,es,ep,l,c⟩,r⟩:=x
  exact⟨i _ d,z,ne,k _ _ (.inl rfl) e,mA,⟨od,es,ep,k _ _ (.inr d) l,c⟩,r⟩
 |own y=>obtain⟨ob,e⟩:=x;exact⟨ob,k _ _ (.inl rfl) e⟩
 |xd fs=>obtain⟨mA,⟨od,es,ep,e,c⟩,r⟩:=x;exact⟨mA,⟨od,es,ep,k _ _ (.inl rfl) e,c⟩,r⟩
 |rng lo hi=>obtain⟨t,u,v,e⟩:=x;exact⟨t,u,v,k _ _ (.inl rfl) e⟩
 |frz ob u m=>obtain⟨e,q⟩:=x;exact⟨k _ _ (.inl rfl) e,m q⟩
 |tbl ps =>
  obtain⟨e,z⟩:=x
  exact⟨k a _ (.inl rfl) e,z⟩
 |met f y =>
  have e:h.get? a=some (PySem.W.methodObj (.ref f) (.ref y)):=x
  show h'.get? a=some (PySem.W.methodObj (.ref f) (.ref y))
  exact k a _ (.inl rfl) e
 |ext s=>obtain⟨p,⟨o,e⟩,st⟩:=x;exact⟨st _ _ p λo q=>k _ _ (.inl rfl) q,⟨o,k _ _ (.inl rfl) e⟩,st⟩
theorem HOk.lt(x:HOk P w H h)(e:H a=some o):a<h.objs.size:=(x a o e).lt
theorem HOk.fresh(x:HOk P w H h)(e:h.objs.size<=a):H a=none:=by
 cases q:H a with
 |none=>rfl
 |some u=>exact absurd (w6 (x.lt q) e) (vI _)
theorem HOk.kept(x:HOk P w H h)(k:∀b u,h.get? b=some u->h'.get? b=some u):HOk P w H h':=λa o e =>
 (x a o e).stay (λb u _ q=>k b u q) (λ_ q=>q) λ_ _ q=>q
theorem HOk.laid(x:HOk P w H h)(k:∀b u,h.get? b=some u->h'.get? b=some u)(f:h.objs.size<=a)(new:ObjOk P w (upd H a o) h' a o):HOk P w (upd H a o) h':=λb u e=>by
 have hn:=x.fresh f
 by_cases d:b=a
 .subst d;rw[ql]at e;cases e;exact new
 .rw [qj d]at e
  exact(x b u e).stay (λc v _ q=>k c v q) (λc q=>by rw[qj (za q hn)];exact q) λc xs q=>by rw[qj (za q hn)];exact q
end
def Rd(H:Hp)(a:Addr)(u:HO):Prop:=H a=some u\/∃o,H a=some (.frz o u)
theorem Rd.ok{P:Program}{w:World}{H:Hp}{h:Heap}{a:Addr}{u:HO}(r:Rd H a u)(x:HOk P w H h):ObjOk P w H h a u:=by
 rcases r with r|⟨o,r⟩
 .exact x a u r
 .obtain ⟨_,q⟩:=x a _ r
  exact q
def Mut:Option HO->Prop
 |some (.lst _)=>True
 |some (.dK _)=>True
 |some (.dT _)=>True
 |some (.set _ _)=>True
 |some (.ins _ _ _)=>True
 |some (.ext _)=>True
 |_=>False
section
variable{P:Program}{w:World}{H:Hp}{h h':Heap}{x e:Addr}{o':HO}
theorem HOk.write(ok:HOk P w H h)(i:Mut (H x))(n:e=x\/H e=some (.own x))(k:∀b u,b≠e->h.get? b=some u->h'.get? b=some u)(m:∃u,h'.get? e=some u)(new:ObjOk P w (upd H x o') h' x o'):HOk P w (upd H x o') h':=λb u q=>by
 have d:∀c y,H c=some (.own y)->c≠x:=λc y r z=>by subst z;rw[r]at i;exact i
 have f:∀c xs,H c=some (.tup xs)->c≠x:=λc xs r z=>by subst z;rw[r]at i;exact i
 by_cases j:b=x
 .subst j;rw[ql]at q;cases q;exact new
 .rw [qj j]at q
  by_cases a:b=e
  .have o:H b=some (.own x):=by
    rcases n with z|z
    .exact absurd (a.trans z) j
    .rw [a];exact z
   rw[q]at o;cases o
   obtain⟨v,p⟩:=m
   exact⟨v,by rw[a];exact p⟩
  .refine (ok b u q).stay (λc v l r=>k c v ?_ r) (λc r=>by rw[qj (d c b r)];exact r) λc xs r=>by rw[qj (f c xs r)];exact r
   rcases l with rfl|l
   .exact a
   .rintro rfl
    rcases n with z|z
    .exact d c b l z
    .rw [l]at z;cases z;exact j rfl
end
structure Un (fs ex:List Addr) (H H':Hp) (h h':Heap):Prop where
 keep:∀b o,h.get? b=some o->H b=none->b∉fs->b∉ex->h'.get? b=some o
 slot:∀b o,h.get? b=some o->H b=none->b∈fs->b∉ex->∃sl,h'.get? b=some {o with slots:=sl}
 free:∀b o,h.get? b=some o->H b=none->b∉ex->H' b=none
 there:∀b o,h.get? b=some o->b∉ex->∃o',h'.get? b=some o'
 tups:∀b xs,H b=some (.tup xs)->H' b=some (.tup xs)
 frzs:∀b o u,H b=some (.frz o u)->H' b=some (.frz o u)
 tbls:∀b ps,H b=some (.tbl ps)->∃more,H' b=some (.tbl (ps++more))
section
variable{fs fs' ex ex':List Addr}{H H1 H2:Hp}{h h1 h2 h':Heap}{a x e:Addr}{o:HO}
theorem Un.any(u:Un fs ex H H1 h h1){b:Addr}{ob:Obj}(q:h.get? b=some ob)(n:H b=none)(hx:b∉ex):∃sl,h1.get? b=some {ob with slots:=sl}:=by
 by_cases c:b∈fs
 .exact u.slot b ob q n c hx
 .exact ⟨ob.slots,u.keep b ob q n c hx⟩
theorem Un.kept(k:∀b u,h.get? b=some u->h'.get? b=some u):Un fs ex H H h h' :=
 ⟨λb ob q _ _ _=>k b ob q,λb ob q _ _ _=>⟨ob.slots,k b ob q⟩,λ_ _ _ n _=>n,λb ob q _=>⟨ob,k b ob q⟩,λ_ _ q=>q,λ_ _ _ q=>q,λ_ ps q=>⟨#[],by rw[q];simp⟩⟩
theorem Un.refl:Un fs ex H H h h:=Un.kept λ_ _ q=>q
theorem Un.laid(k:∀b u,h.get? b=some u->h'.get? b=some u)(c:h.objs.size<=a)(hn:H a=none):Un fs ex H (upd H a o) h h' where
 keep:=λb u q _ _ _=>k b u q
 slot:=λb u q _ _ _=>⟨u.slots,k b u q⟩
 free:=λb u q n _=>by rw[qj (wT (w6 (wF q) c))];exact n
 there:=λb u q _=>⟨u,k b u q⟩
 tups:=λb xs q=>by rw[qj (za q hn)];exact q
 frzs:=λb u xs q=>by rw[qj (za q hn)];exact q
 tbls:=λb ps q=>⟨#[],by rw[qj (za q hn),q];simp⟩
theorem Un.write(d:Mut (H x))(j:e=x\/H e=some (.own x))(k:∀b u,b≠e->h.get? b=some u->h'.get? b=some u)(f:∃u,h'.get? e=some u):Un fs ex H (upd H x o) h h':=by
 have hx:∀b,H b=none->b≠x:=λb n z=>by subst z;rw[n]at d;exact d
 have i:∀b,H b=none->b≠e:=λb n z=>by
  subst z
  rcases j with r|r
  .exact hx b n r
  .rw [n]at r;cases r
 have hm:∀b u,H b=some u->¬Mut (some u)->b≠x:=λb u q nm z=>by subst z;rw[q]at d;exact nm d
 refine⟨λb u q n _ _=>k b u (i b n) q,λb u q n _ _=>⟨u.slots,k b u (i b n) q⟩,λb u q n _=>by rw[qj (hx b n)];exact n,λb u q _=>?_,
  λb xs q=>by rw[qj (hm b _ q λz=>z)];exact q,λb u xs q=>by rw[qj (hm b _ q λz=>z)];exact q,λb ps q=>⟨#[],by rw[qj (hm b _ q λz=>z),q];simp⟩⟩
 by_cases c:b=e
 .subst c;exact f
 .exact ⟨u,k b u c q⟩
end
structure GK (g g':Array GenState):Prop where
 bare:AllBare g'
 sz:g.size<=g'.size
 old:∀i,i<g.size->g'[i]?=g[i]?
theorem GK.refl{g:Array GenState}(b:AllBare g):GK g g:=⟨b,wG _,λ_ _=>rfl⟩
theorem GK.self{g g':Array GenState}(x:GK g g'):GK g' g':=GK.refl x.bare
theorem GK.trans{g c d:Array GenState}(a:GK g c)(b:GK c d):GK g d:=⟨b.bare,vK a.sz b.sz,λi hi=>(b.old i (w6 hi a.sz)).trans (a.old i hi)⟩
noncomputable def codeTab(K:PySem.W.Frag)(c T:Addr):Bool:=match K.lookup c with
 |some ⟨cls,_,.fields vs,_⟩=>(cls == .type "code")&&(match(vs.getD 11 Value.none:Value),(vs[11]?:Option Value),(vs.getD 18 Value.none:Value),(vs.getD 7 Value.none:Value),(vs.getD 9 Value.none:Value),(vs.getD 10 Value.none:Value)with
  | .ref a,some (.ref b),.str _ _,.int _ _,.bool _,.int _ _=>a == T&&b == T&&c != T
  |_,_,_,_,_,_=>false)
 |_=>false
noncomputable def trk(h:Heap)(H:Hp):List Addr:=(List.range h.objs.size).filter λa=>(H a).isSome
noncomputable def hidT(h:Heap)(H:Hp):Heap:=PySem.W.hideAll h (trk h H)
theorem qeh(h:Heap)(H:Hp):(hidT h H).objs.size=h.objs.size:=PySem.W.hideAll_size _ _
theorem qeZ{h:Heap}{H:Hp}{b:Addr}{o:Obj}(e:h.get? b=some o)(n:H b=none):(hidT h H).get? b=some o :=
 PySem.W.hideAll_get _ e λhm=>by
  have q:(H b).isSome=true:=(vD.mp hm).2
  rw[n]at q;simp at q
theorem qht{h:Heap}{H:Hp}{b:Addr}{o:Obj}(e:(hidT h H).get? b=some o):h.get? b=some o/\H b=none:=by
 have a:h.get? b=some o:=PySem.W.of_hideAll (trk h H) e
 refine⟨a,?_⟩
 cases q:H b with
 |none=>rfl
 |some x =>
  have hm:b∈trk h H:=vD.mpr ⟨uA.mpr (wF a),by simp[q]⟩
  have z:(hidT h H).get? b=none:=PySem.W.hideAll_none (trk h H) hm
  rw[z]at e;cases e
noncomputable def allNews(g h:Heap)(L:Addr):List (Addr×Obj):=(List.range h.objs.size).filterMap λa=>if a=L\/(g.get? a).isSome=true then none else(h.get? a).map λo=>(a,o)
noncomputable def rest(g h:Heap)(L d:Addr):List (Addr×Obj):=(allNews g h L).filter λp=>decide (p.1≠d)
end L2
namespace L2
open PySem PySem.Spec PyProof.Rows
structure Mod (K:PySem.W.Frag) (mg:Str->Option Value) (base:Heap):Prop where
 kin:K.In base
 glob:base.Ns mainGlobals mg
 blt:∃mb,base.Ns builtinsNs mb/\∀x:Str,x≠"__name__"->mb x=bootBuiltins x
 nolimit:base.NoLimit
 bmod:∃bm ob,mg "__builtins__"=some (.ref bm)/\bm≠builtinsNs/\base.get? bm=some ob/\ob.cls=.type "module"/\ob.dict=some builtinsNs/\ob.data=.plain
structure Cx where
 prog:Program
 w:World
 K:PySem.W.Frag
 mg:Str->Option Value
 base:Heap
 A:Around
 N:List Str
 s₀:Shared
 H₀:Hp
 env:Env
 outer:List Env
 stack:List Env
 ex:List Addr
 fn:Str->Bool
 calm:Bool
 pn:List (Addr×Obj)
 xe:Value->Shared->Prop
noncomputable def frs(l:List Env):List Addr:=l.filterMap (·.frame)
noncomputable abbrev Cx.fs(X:Cx):List Addr:=frs X.outer
def Vis(sc:Scope)(x:Str):Prop:=sc.names.lookup x=some .local\/sc.names.lookup x=some .cell\/sc.names.lookup x=some .free
def Loc(sc:Scope)(x:Str):Prop:=sc.names.lookup x=some .local\/sc.names.lookup x=some .cell
noncomputable def Look(env:Env)(h:Heap)(m:Str->Option Value)(x:Str)(u:Value):Prop :=
 (env.kindOf x=some .local/\m x=some u)\/((env.kindOf x=some .cell\/env.kindOf x=some .free)/\∃c,env.cells.lookup x=some c/\h.IsCell c (some u))
structure Cx.Ok (X:Cx):Prop where
 mod:Mod X.K X.mg X.base
 kind:X.env.scope.kind=.function
 glob:X.env.globals=mainGlobals
 blt:X.env.builtins=builtinsNs
 above:X.s₀.heap.objs.size<=X.env.locals
 inj:∀x y c,X.env.cells.lookup x=some c->X.env.cells.lookup y=some c->x=y
 has:∀x,(X.env.kindOf x=some .cell\/X.env.kindOf x=some .free)->∃c,X.env.cells.lookup x=some c
 cab:∀x c,X.fn x=true->X.env.cells.lookup x=some c->X.s₀.heap.objs.size<=c
 hd:X.calm=true->X.A.handled=none
 frames:X.A.frames=some X.stack
 stk:X.stack=X.outer\/(X.stack=X.env::X.outer/\X.env.frame=some X.env.locals)
 exf:∀b∈X.ex,b≠X.env.locals/\∀x c,X.env.cells.lookup x=some c->c≠b
 bs:∀b o,X.base.get? b=some o->X.s₀.heap.get? b=some o/\X.H₀ b=none
 bsz:X.base.objs.size<=X.s₀.heap.objs.size
 noex:∀b o,X.base.get? b=some o->b∉X.ex
 exfs:∀b∈X.ex,b∉X.fs
 funs:X.s₀.heap.FunFrames X.base X.outer
 frf:∀b∈X.fs,X.H₀ b=none
 tab:∀c T,codeTab X.K c T=true->∃ps,X.H₀ T=some (.tbl ps)
structure Inv (X:Cx) (pins:List (Addr×Obj)) (σ:List (Option V)) (H:Hp) (s:Shared):Prop where
 ok:X.Ok
 os:s.os=X.s₀.os
 bare:GK X.s₀.gens s.gens
 base:Un X.fs X.ex X.H₀ H X.s₀.heap s.heap
 loc:∃m,s.heap.Ns X.env.locals m/\∀(i:Nat) (x:Str) (v:V),X.N[i]?=some x->σ[i]?=some (some v)->Vis X.env.scope x->∃u,RelV v u/\Look X.env s.heap m x u
 cell:∀x c,X.env.cells.lookup x=some c->∃v,s.heap.IsCell c v
 free:H X.env.locals=none
 freeC:∀x c,X.env.cells.lookup x=some c->H c=none
 pin:∀p∈X.pn++pins,s.heap.get? p.1=some p.2/\H p.1=none/\p.1≠X.env.locals/\p.1∉X.fs/\∀v,p.2.data≠.cell v
 hok:HOk X.prog X.w H s.heap
 len:σ.length=X.N.length
section
variable{X:Cx}{pins:List (Addr×Obj)}{σ:List (Option V)}{H H':Hp}{s:Shared}{h':Heap}
theorem Cx.Ok.nofr(ok:X.Ok){b:Addr}{o:Obj}(e:X.base.get? b=some o):b∉X.fs:=λa=>by
 have:=(ok.funs.mem a).1
 rw[e]at this;cases this
theorem Inv.bs(I:Inv X pins σ H s):∀b o,X.base.get? b=some o->s.heap.get? b=some o/\H b=none:=λb o e =>
 ⟨I.base.keep b o (I.ok.bs b o e).1 (I.ok.bs b o e).2 (I.ok.nofr e) (I.ok.noex b o e),I.base.free b o (I.ok.bs b o e).1 (I.ok.bs b o e).2 (I.ok.noex b o e)⟩
theorem Inv.bk(I:Inv X pins σ H s):∀b o,X.base.get? b=some o->s.heap.get? b=some o:=λb o e=>(I.bs b o e).1
theorem Inv.mod(I:Inv X pins σ H s):Mod X.K X.mg X.base:=I.ok.mod
theorem Inv.kIn(I:Inv X pins σ H s):X.K.In s.heap:=I.ok.mod.kin.keeps I.bk
theorem Inv.nolimit(I:Inv X pins σ H s):s.heap.NoLimit:=I.ok.mod.nolimit.keeps I.bk
theorem Inv.lt(I:Inv X pins σ H s):X.env.locals<s.heap.objs.size:=let ⟨_,hn,_⟩:=I.loc;hn.lt
theorem Inv.sz(I:Inv X pins σ H s):X.s₀.heap.objs.size<=s.heap.objs.size:=vK I.ok.above (uu I.lt)
theorem Inv.nofs(I:Inv X pins σ H s){a:Addr}(h:s.heap.objs.size<=a):a∉X.fs:=λb=>by
 obtain⟨_,o,c,_⟩:=I.ok.funs.mem b
 exact absurd (w6 (wF c) (vK I.sz h)) (vI _)
theorem Inv.cne(I:Inv X pins σ H s):∀x c,X.env.cells.lookup x=some c->c≠X.env.locals:=λx c e z=>by
 obtain⟨v,o,d,hd⟩:=I.cell x c e
 obtain⟨m,⟨o',es,ep,a,b,_⟩,_⟩:=I.loc
 rw[z,a]at d;cases d;rw[b]at hd;cases hd
theorem Inv.funs(I:Inv X pins σ H s):s.heap.FunFrames X.base X.outer:=by
 have all:∀(l:List Env),(∀b∈frs l,b∈X.fs)->X.s₀.heap.FunFrames X.base l->s.heap.FunFrames X.base l:=by
  intro l
  induction l with
  |nil=>intro _ _;trivial
  |cons env r h =>
   intro f i
   obtain⟨j,⟨L,o,a,hn,m,hd⟩,n⟩:=i
   have c:L∈X.fs:=f L (by unfold frs;rw[List.filterMap_cons,a];exact wH)
   obtain⟨sl,e⟩:=I.base.slot L o m (I.ok.frf L c) c λz=>I.ok.exfs L z c
   exact⟨j,⟨L,_,a,hn,e,hd⟩,h (λb d=>f b (by unfold frs;rw[List.filterMap_cons,a];exact wI _ d)) n⟩
 exact all X.outer (λ_ d=>d) I.ok.funs
theorem Inv.stack(I:Inv X pins σ H s):s.heap.FunFrames X.base X.stack:=by
 rcases I.ok.stk with e|⟨e,hf⟩
 .rw [e];exact I.funs
 .rw [e]
  obtain⟨m,hn,_⟩:=I.loc
  refine .cons (by rw[I.ok.kind];decide) hf hn ?_ I.funs
  exact Heap.get?_none_of_le (vK I.ok.bsz I.ok.above)
theorem Inv.stkSub(I:Inv X pins σ H s):∀b∈frs X.stack,b∈X.env.locals::X.fs:=λb a=>by
 rcases I.ok.stk with e|⟨e,hf⟩
 .rw [e]at a;exact wI _ a
 .rw [e]at a
  unfold frs at a
  rw[List.filterMap_cons,hf]at a
  exact a
theorem Inv.stkFree(I:Inv X pins σ H s):∀b∈frs X.stack,H b=none:=λb a=>by
 rcases wN.mp (I.stkSub b a)with e|a
 .rw [e];exact I.free
 .obtain ⟨_,o,c,_⟩:=I.ok.funs.mem a
  exact I.base.free b o c (I.ok.frf b a) λz=>I.ok.exfs b z a
theorem Inv.step{g':Array GenState}{t':Nat}{d':Drawn}{ch:List Addr}(I:Inv X pins σ H s)(a:∀b∈ch,(b∈X.ex\/X.s₀.heap.objs.size<=b)/\b≠X.env.locals/\(∀x c,X.env.cells.lookup x=some c->c≠b)/\∀p∈X.pn++pins,p.1≠b)(keep:∀b o,b≠X.env.locals->b∉X.fs->b∉ch->s.heap.get? b=some o->H b=none->h'.get? b=some o)(slot:∀b o,b≠X.env.locals->b∈X.fs->b∉ch->s.heap.get? b=some o->H b=none->∃sl,h'.get? b=some {o with slots:=sl})(free:∀b o,b∉ch->s.heap.get? b=some o->H b=none->H' b=none)(there:∀b o,b∉ch->s.heap.get? b=some o->∃o',h'.get? b=some o')(tups:∀b xs,H b=some (.tup xs)->H' b=some (.tup xs))(frzs:∀b o u,H b=some (.frz o u)->H' b=some (.frz o u))(tbls:∀b ps,H b=some (.tbl ps)->∃more,H' b=some (.tbl (ps++more)))(ns:∀m,s.heap.Ns X.env.locals m->h'.Ns X.env.locals m)(hok:HOk X.prog X.w H' h')(L:GK s.gens g'):
  Inv X pins σ H' {s with heap:=h',gens:=g',drawn:=d',toks:=t' }:=by
 have B:∀b o,X.s₀.heap.get? b=some o->b≠X.env.locals:=λb o e=>wT (w6 (wF e) I.ok.above)
 have j:∀b o,X.s₀.heap.get? b=some o->b∉X.ex->b∉ch:=λb o e hx y=>by
  rcases(a b y).1 with z|z
  .exact hx z
  .exact absurd (w6 (wF e) z) (vI _)
 have f:∀x c,X.env.cells.lookup x=some c->∀v,s.heap.IsCell c v->h'.IsCell c v:=λx c e v ⟨o,A,hd⟩=>by
  have h:c∉ch:=λz=>(a c z).2.2.1 x c e rfl
  by_cases F:c∈X.fs
  .obtain ⟨sl,q⟩:=slot c o (I.cne x c e) F h A (I.freeC x c e)
   exact⟨_,q,hd⟩
  .exact ⟨o,keep c o (I.cne x c e) F h A (I.freeC x c e),hd⟩
 refine⟨I.ok,I.os,I.bare.trans L,⟨λb o e n y hx=>?_,λb o e n y hx=>?_,λb o e n hx=>?_,λb o e hx=>?_,λb xs e=>tups b xs (I.base.tups b xs e),λb o xs e=>frzs b o xs (I.base.frzs b o xs e),λb ps e=>?_⟩,?_,λx c e=>?_,?_,λx c e=>?_,λp J=>?_,hok,I.len⟩
 .exact keep b o (B b o e) y (j b o e hx) (I.base.keep b o e n y hx) (I.base.free b o e n hx)
 .obtain ⟨sl,e1⟩:=I.base.slot b o e n y hx
  obtain⟨E,C⟩:=slot b _ (B b o e) y (j b o e hx) e1 (I.base.free b o e n hx)
  exact⟨E,C⟩
 .obtain ⟨o',e1⟩:=I.base.there b o e hx
  exact free b o' (j b o e hx) e1 (I.base.free b o e n hx)
 .obtain ⟨o',e1⟩:=I.base.there b o e hx
  exact there b o' (j b o e hx) e1
 .obtain ⟨m1,e1⟩:=I.base.tbls b ps e
  obtain⟨m2,C⟩:=tbls b _ e1
  exact⟨m1++m2,by rw[C,Array.append_assoc]⟩
 .obtain ⟨m,hn,M⟩:=I.loc
  refine⟨m,ns m hn,λi x v e1 C N=>?_⟩
  obtain⟨u,r,l⟩:=M i x v e1 C N
  refine⟨u,r,?_⟩
  rcases l with l|⟨k,c,e,z⟩
  .exact .inl l
  .exact .inr ⟨k,c,e,f x c e _ z⟩
 .obtain ⟨v,z⟩:=I.cell x c e
  exact⟨v,f x c e v z⟩
 .obtain ⟨m,⟨o,_,_,A,_⟩,_⟩:=I.loc
  exact free _ o (λz=>(a _ z).2.1 rfl) A I.free
 .obtain ⟨v,o,A,hd⟩:=I.cell x c e
  exact free c o (λz=>(a c z).2.2.1 x c e rfl) A (I.freeC x c e)
 .obtain ⟨e,n,ne,K,d⟩:=I.pin p J
  have h:p.1∉ch:=λz=>(a p.1 z).2.2.2 p J rfl
  exact⟨keep p.1 p.2 ne K h e n,free p.1 p.2 h e n,ne,K,d⟩
theorem Inv.un{t':Nat}(I:Inv X pins σ H s)(u:Un X.fs [] H H' s.heap h')(hok:HOk X.prog X.w H' h'):Inv X pins σ H' {s with heap:=h',toks:=t' }:=by
 obtain⟨m,⟨o,es,ep,f,r⟩,_⟩:=id I.loc
 obtain⟨sl,h⟩:=u.any f I.free (by simp)
 exact I.step (g':=s.gens) (d':=s.drawn) (ch:=[]) (λ_ z=>nomatch z) (λb o _ c _ e n=>u.keep b o e n c (by simp)) (λb o _ c _ e n=>u.slot b o e n c (by simp)) (λb o _ e n=>u.free b o e n (by simp)) (λb o _ e=>u.there b o e (by simp)) u.tups u.frzs u.tbls (λj hm=>by
  obtain⟨o',es',d,a,i⟩:=hm
  rw[f]at a;cases a
  exact⟨_,es',d,h,i⟩) hok I.bare.self
theorem Inv.call{g':Array GenState}{t':Nat}{d':Drawn}{ch:List Addr}(I:Inv X pins σ H s)(u:Un (frs X.stack) ch H H' s.heap h')(hok:HOk X.prog X.w H' h')(l:GK s.gens g')(d:∀b∈ch,(b∈X.ex\/X.s₀.heap.objs.size<=b)/\b≠X.env.locals/\(∀x c,X.env.cells.lookup x=some c->c≠b)/\∀p∈X.pn++pins,p.1≠b):
  Inv X pins σ H' {s with heap:=h',gens:=g',drawn:=d',toks:=t' }:=by
 obtain⟨m,⟨o,es,ep,j,r⟩,_⟩:=id I.loc
 obtain⟨sl,h⟩:=u.any j I.free λz=>(d _ z).2.1 rfl
 exact I.step (ch:=ch) d (λb o h q a e n=>u.keep b o e n (λz=>(wN.mp (I.stkSub b z)).elim h q) a) (λb o _ _ a e n=>u.any e n a) (λb o a e n=>u.free b o e n a) (λb o a e=>u.there b o e a) u.tups u.frzs u.tbls (λy hm=>by
  obtain⟨o',es',i,f,v⟩:=hm
  rw[j]at f;cases f
  exact⟨_,es',i,h,v⟩) hok l
theorem Inv.turned{t':Nat}{it:Addr}(I:Inv X pins σ H s)(k:∀b o,b≠it->s.heap.get? b=some o->h'.get? b=some o)(hn:H it=none)(f:it≠X.env.locals)(h:it∈X.ex\/X.s₀.heap.objs.size<=it)(i:∀x c,X.env.cells.lookup x=some c->c≠it)(j:∀p∈X.pn++pins,p.1≠it):Inv X pins σ H {s with heap:=h',toks:=t' }:=by
 have d:∀b u,H b=some u->b≠it:=λb u e z=>by rw[z,hn]at e;cases e
 refine I.step (g':=s.gens) (d':=s.drawn) (ch:=[it]) (λb l=>?_) (λb o _ _ a e _=>k b o (λz=>a (by simp[z])) e) (λb o _ _ a e _=>⟨o.slots,k b o (λz=>a (by simp[z])) e⟩) (λ_ _ _ _ n=>n)
  (λb o a e=>⟨o,k b o (λz=>a (by simp[z])) e⟩) (λ_ _ e=>e) (λ_ _ _ e=>e) (λb ps e=>⟨#[],by rw[e];simp⟩) (λm hm=>?_) (λb u e=>?_) I.bare.self
 .have e:b=it:=by simpa using l
  subst e
  exact⟨h,f,i,j⟩
 .obtain ⟨o,es,ep,w,r⟩:=hm
  exact⟨o,es,ep,k _ o (Ne.symm f) w,r⟩
 .refine (I.hok b u e).stay (λc v a q=>k c v ?_ q) (λ_ q=>q) λ_ _ q=>q
  rcases a with z|z
  .rw [z];exact d b u e
  .exact d c _ z
theorem Inv.tok(I:Inv X pins σ H s)(t:Nat):Inv X pins σ H {s with toks:=t}:=I.un (h':=s.heap) (t':=t) Un.refl I.hok
theorem Inv.kept{t':Nat}(I:Inv X pins σ H s)(k:∀b u,s.heap.get? b=some u->h'.get? b=some u):Inv X pins σ H {s with heap:=h',toks:=t' }:=I.un (Un.kept k) (I.hok.kept k)
theorem Inv.laid{a:Addr}{o:HO}{t':Nat}(I:Inv X pins σ H s)(k:∀b u,s.heap.get? b=some u->h'.get? b=some u)(c:s.heap.objs.size<=a)(new:ObjOk X.prog X.w (upd H a o) h' a o):
  Inv X pins σ (upd H a o) {s with heap:=h',toks:=t' }:=I.un (Un.laid k c (I.hok.fresh c)) (I.hok.laid k c new)
theorem Inv.write{x e:Addr}{o:HO}{t':Nat}(I:Inv X pins σ H s)(c:Mut (H x))(d:e=x\/H e=some (.own x))(k:∀b u,b≠e->s.heap.get? b=some u->h'.get? b=some u)(a:∃u,h'.get? e=some u)(new:ObjOk X.prog X.w (upd H x o) h' x o):Inv X pins σ (upd H x o) {s with heap:=h',toks:=t' }:=I.un (Un.write c d k a) (I.hok.write c d k a new)
theorem Inv.pins_of{a:List (Addr×Obj)}(I:Inv X pins σ H s)(h:∀p∈a,s.heap.get? p.1=some p.2/\H p.1=none/\p.1≠X.env.locals/\p.1∉X.fs/\∀v,p.2.data≠.cell v):Inv X a σ H s :=
 ⟨I.ok,I.os,I.bare,I.base,I.loc,I.cell,I.free,I.freeC,λp b=>(wg.mp b).elim (λz=>I.pin p (wc _ z)) (h p),I.hok,I.len⟩
theorem qbt{N:List Str}(c:N.Nodup){i j:Nat}{x:Str}(a:N[i]?=some x)(b:N[j]?=some x):i=j:=by
 obtain⟨e,e1⟩:=wO.mp a
 obtain⟨f,d⟩:=wO.mp b
 exact(xt c).mp (e1.trans d.symm)
theorem y8{M:Model}{A:Around}{E:Value->Shared->Prop}{i:Nat}{x:Str}{v:V}{u:Value}{Q:Unit->Shared->Prop}(I:Inv X pins σ H s)(hN:X.N.Nodup)(hi:X.N[i]?=some x)(hx:Loc X.env.scope x)(r:RelV v u)(h:∀s',Inv X pins (σ.set i (some v)) H s'->(∃a,Heap.SameBut a s.heap s'.heap/\(a=X.env.locals\/X.env.cells.lookup x=some a))->Q () s')(hf:X.fn x=true\/X.env.scope.names.lookup x=some .local:=by first|exact .inl rfl|exact .inr rfl|assumption):wpAny M A (storeName X.env x u) Q E s:=by
 obtain⟨m,hn,hl⟩:=id I.loc
 have R:(X.env.scope.kind == .class || (X.env.scope.kind == .module&&X.env.locals != X.env.globals))=false:=by rw[I.ok.kind];rfl
 have J:i<σ.length:=by rw[I.len];exact(wO.mp hi).1
 have cne:=I.cne
 have l:∀{a:Addr} {h':Heap},(∃o,s.heap.get? a=some o/\H a=none)->Heap.SameBut a s.heap h'->HOk X.prog X.w H h':=λ{a h'} ha f b ob e=>by
  obtain⟨_,_,C⟩:=ha
  refine(I.hok b ob e).stay (λc Z B q=>(f.2 c ?_).trans q) (λ_ q=>q) λ_ _ q=>q
  rintro rfl
  rcases B with rfl|B
  .rw [C]at e;cases e
  .rw [C]at B;cases B
 rcases hx with K|K
 .refine wpAny_storeName_local K hn (λh' a0 f=>?_) R
  obtain⟨oL,_,_,a1,_⟩:=id hn
  refine h _ ⟨I.ok,I.os,I.bare,⟨λb o e n L hx=>?_,λb o e n L hx=>?_,I.base.free,λb o e hx=>?_,I.base.tups,I.base.frzs,I.base.tbls⟩,⟨_,a0,λj y v' e1 F e3=>?_⟩,λy c e=>?_,I.free,I.freeC,λp hp=>?_,l ⟨oL,a1,I.free⟩ f,by simpa using I.len⟩ ⟨_,f,.inl rfl⟩
  .exact (f.2 b (wT (w6 (wF e) I.ok.above))).trans (I.base.keep b o e n L hx)
  .obtain ⟨sl,e1⟩:=I.base.slot b o e n L hx
   exact⟨sl,(f.2 b (wT (w6 (wF e) I.ok.above))).trans e1⟩
  .obtain ⟨o',e1⟩:=I.base.there b o e hx
   exact⟨o',(f.2 b (wT (w6 (wF e) I.ok.above))).trans e1⟩
  .by_cases O:j=i
   .subst O
    rw[hi]at e1;cases e1
    rw[vq J]at F
    cases F
    exact⟨u,r,.inl ⟨K,by simp⟩⟩
   .rw [xE (Ne.symm O)]at F
    obtain⟨u',r',q⟩:=hl j y v' e1 F e3
    refine⟨u',r',?_⟩
    rcases q with ⟨k,e⟩|⟨k,c,e,z⟩
    .refine .inl ⟨k,?_⟩
     have:y≠x:=λe=>O (qbt hN e1 (e ▸ hi))
     simp[this,e]
    .exact .inr ⟨k,c,e,z.sameBut f (cne y c e)⟩
  .obtain ⟨Z,z⟩:=I.cell y c e
   exact⟨Z,z.sameBut f (cne y c e)⟩
  .obtain ⟨e,n,ne,nf,d⟩:=I.pin p hp
   exact⟨(f.2 p.1 ne).trans e,n,ne,nf,d⟩
 .have P:X.fn x=true:=by
   rcases hf with z|z
   .exact z
   .rw [z]at K;cases K
  obtain⟨c,B⟩:=I.ok.has x (.inl K)
  obtain⟨Z,z⟩:=I.cell x c B
  refine wpAny_storeName_cell I.ok.kind K B z (λh' S f=>?_)
  obtain⟨oc,U,W⟩:=id z
  refine h {s with heap:=h' } ⟨I.ok,I.os,I.bare,⟨λb o e n L hx=>?_,λb o e n L hx=>?_,I.base.free,λb o e hx=>?_,I.base.tups,I.base.frzs,I.base.tbls⟩,⟨m,hn.sameBut f (Ne.symm (cne x c B)),λj y v' e1 F e3=>?_⟩,λy c' e=>?_,I.free,I.freeC,λp hp=>?_,l ⟨oc,U,I.freeC x c B⟩ f,by simpa using I.len⟩ ⟨c,f,.inr B⟩
  .exact (f.2 b (wT (w6 (wF e) (I.ok.cab x c P B)))).trans (I.base.keep b o e n L hx)
  .obtain ⟨sl,e1⟩:=I.base.slot b o e n L hx
   exact⟨sl,(f.2 b (wT (w6 (wF e) (I.ok.cab x c P B)))).trans e1⟩
  .obtain ⟨o',e1⟩:=I.base.there b o e hx
   exact⟨o',(f.2 b (wT (w6 (wF e) (I.ok.cab x c P B)))).trans e1⟩
  .by_cases O:j=i
   .subst O
    rw[hi]at e1;cases e1
    rw[vq J]at F
    cases F
    exact⟨u,r,.inr ⟨.inl K,c,B,S⟩⟩
   .rw [xE (Ne.symm O)]at F
    obtain⟨u',r',q⟩:=hl j y v' e1 F e3
    refine⟨u',r',?_⟩
    rcases q with q|⟨k,c',e,z'⟩
    .exact .inl q
    .refine .inr ⟨k,c',e,z'.sameBut f ?_⟩
     rintro rfl
     exact O (qbt hN e1 (I.ok.inj _ _ _ e B ▸ hi))
  .by_cases Y:c'=c
   .subst Y;exact⟨_,S⟩
   .obtain ⟨w2,z2⟩:=I.cell y c' e
    exact⟨w2,z2.sameBut f Y⟩
  .obtain ⟨e,n,ne,nf,d⟩:=I.pin p hp
   refine⟨(f.2 p.1 ?_).trans e,n,ne,nf,d⟩
   intro q
   rw[q,U]at e
   have q':oc=p.2:=Option.some.inj e
   exact d Z (by rw[<-q'];exact W)
theorem yI{M:Model}{A:Around}{E:Value->Shared->Prop}{i:Nat}{x:Str}{v:V}{u:Value}{Q:Unit->Shared->Prop}(I:Inv X pins σ H s)(a:X.N.Nodup)(hi:X.N[i]?=some x)(hx:Loc X.env.scope x)(r:RelV v u)(h:∀s',Inv X pins (σ.set i (some v)) H s'->Q () s')(b:X.fn x=true\/X.env.scope.names.lookup x=some .local:=by first|exact .inl rfl|exact .inr rfl|assumption):wpAny M A (storeName X.env x u) Q E s :=
 y8 I a hi hx r (λs' c _=>h s' c) b
theorem Inv.call'{s':Shared}{ch:List Addr}(I:Inv X pins σ H s)(d:s'.os=s.os)(u:Un (frs X.stack) ch H H' s.heap s'.heap)(hok:HOk X.prog X.w H' s'.heap)(f:GK s.gens s'.gens)(a:∀b∈ch,(b∈X.ex\/X.s₀.heap.objs.size<=b)/\b≠X.env.locals/\(∀x c,X.env.cells.lookup x=some c->c≠b)/\∀p∈X.pn++pins,p.1≠b):Inv X pins σ H' s':=by
 obtain⟨h',g',d',t',o'⟩:=s'
 have e:o'=s.os:=d
 subst e
 exact I.call (g':=g') (t':=t') (d':=d') u hok f a
end
noncomputable abbrev XK:=Value->Option Addr->Hp->Prop
noncomputable abbrev St:=List (Option V)
noncomputable abbrev VK:=V->Hp->Prop
noncomputable abbrev TE:=St->Hp->VK->Prop
noncomputable abbrev TT:=St->Hp->(Bool->Hp->Prop)->Prop
noncomputable abbrev TA:=St->Hp->(List V->Hp->Prop)->Prop
structure Ends where
 nx:St->Hp->Prop
 rt:VK
 bk:St->Hp->Prop:=λ_ _=>False
 ct:St->Hp->Prop:=λ_ _=>False
noncomputable abbrev TS:=Ends->St->Hp->Prop
def EP(X:Cx)(pins:List (Addr×Obj))(a:St)(Q:VK)(u:Value)(s':Shared):Prop:=∃v H',Inv X pins a H' s'/\RelV v u/\Q v H'
def TP(X:Cx)(pins:List (Addr×Obj))(a:St)(Q:Bool->Hp->Prop)(b:Bool)(s':Shared):Prop:=∃H',Inv X pins a H' s'/\Q b H'
def AP(X:Cx)(pins:List (Addr×Obj))(a:St)(Q:List V->Hp->Prop)(us:List Value)(s':Shared):Prop:=∃vs H',Inv X pins a H' s'/\Vals vs us/\Q vs H'
noncomputable def SP(X:Cx)(pins:List (Addr×Obj))(D:Ends)(f:Flow)(s':Shared):Prop :=
 match f with
 | .next=>∃a H',Inv X pins a H' s'/\D.nx a H'
 | .brk=>∃a H',Inv X pins a H' s'/\D.bk a H'
 | .cont=>∃a H',Inv X pins a H' s'/\D.ct a H'
 | .ret u=>∃v a H',Inv X pins a H' s'/\RelV v u/\D.rt v H'
noncomputable def PE(X:Cx)(e:Expr)(t:TE):Prop :=
 ∀(pins:List (Addr×Obj)) (s:Shared) (a:St) (H:Hp) (Q:VK),Inv X pins a H s->t a H Q->wpAny (model X.prog X.w) X.A (eval e X.env) (EP X pins a Q) X.xe s
noncomputable def PT(X:Cx)(e:Expr)(t:TT):Prop :=
 ∀(pins:List (Addr×Obj)) (s:Shared) (a:St) (H:Hp) (Q:Bool->Hp->Prop),Inv X pins a H s->t a H Q->wpAny (model X.prog X.w) X.A (isTrue e X.env (eval e X.env)) (TP X pins a Q) X.xe s
noncomputable def PW(X:Cx)(e:Expr)(t:TT):Prop :=
 ∀(a:Sem Value) (pins:List (Addr×Obj)) (s:Shared) (b:St) (H:Hp) (Q:Bool->Hp->Prop),Inv X pins b H s->t b H Q->wpAny (model X.prog X.w) X.A (isTrue e X.env a) (TP X pins b Q) X.xe s
theorem PW.pt{X:Cx}{e:Expr}{t:TT}(h:PW X e t):PT X e t:=h _
noncomputable def PA(X:Cx)(es:List Expr)(t:TA):Prop :=
 ∀(pos:Pos) (pins:List (Addr×Obj)) (s:Shared) (a:St) (H:Hp) (Q:List V->Hp->Prop),Inv X pins a H s->t a H Q->wpAny (model X.prog X.w) X.A (spliced (backTo pos (starEach es X.env))) (AP X pins a Q) X.xe s
noncomputable def PS(X:Cx)(st:Stmt)(t:TS):Prop :=
 ∀(pins:List (Addr×Obj)) (s:Shared) (a:St) (H:Hp) (D:Ends),Inv X pins a H s->t D a H->wpAny (model X.prog X.w) X.A (exec st X.env) (SP X pins D) X.xe s
noncomputable def PSs(X:Cx)(st:List Stmt)(t:TS):Prop :=
 ∀(pins:List (Addr×Obj)) (s:Shared) (a:St) (H:Hp) (D:Ends),Inv X pins a H s->t D a H->wpAny (model X.prog X.w) X.A (execs st X.env) (SP X pins D) X.xe s
theorem thn{b:Type}{t:Sem b}{Q Q':b->Shared->Prop}{M:Model}{A:Around}{E:Value->Shared->Prop}{s:Shared}(h:wpAny M A t Q E s)(c:∀a s,Q a s->Q' a s):wpAny M A t Q' E s:=vT h c λ_ _ x=>x
end L2
namespace L2
open PySem PySem.Spec PyProof.Rows
section
variable{X:Cx}
theorem bin{a b:Expr}{j l:TE}(ha:PE X a j)(n:PE X b l){pins:List (Addr×Obj)}{s:Shared}{c:St}{H:Hp}{R:V->V->Hp->Prop}(I:Inv X pins c H s)(h:j c H λx i=>l c i λy H2=>R x y H2){m:Type}{Q:m->Shared->Prop}{f:Value->Value->Sem m}(o:∀v u s2 x y H2,Inv X pins c H2 s2->RelV x v->RelV y u->R x y H2->wpAny (model X.prog X.w) X.A (f v u) Q X.xe s2):
  wpAny (model X.prog X.w) X.A (eval a X.env) (λv d=>wpAny (model X.prog X.w) X.A (eval b X.env) (λu e=>wpAny (model X.prog X.w) X.A (f v u) Q X.xe e) X.xe d) X.xe s:=by
 refine thn (ha pins s c H _ I h) λv s1 ⟨x,i,p,q,q1⟩=>?_
 refine thn (n pins s1 c i _ p q1) λu s2 ⟨y,H2,r,z,q2⟩=>?_
 exact o v u s2 x y H2 r q z q2
noncomputable def tVar(i:Nat):TE:=λa H Q=>∃v,a[i]?=some (some v)/\Q v H
noncomputable def tC(v:V):TE:=λ_ H Q=>Q v H
theorem qe0{i:Nat}{x:Str}{pos:Pos}(d:X.N[i]?=some x)(f:Vis X.env.scope x)(hd:(x == ("__debug__":Str))=false:=by decide)(b:(x == ("__classdict__":Str))=false:=by decide):PE X (.Name x pos) (tVar i):=by
 intro pins s j H Q I h
 obtain⟨v,e,h⟩:=h
 obtain⟨m,hn,n⟩:=I.loc
 obtain⟨u,r,l⟩:=n i x v d e f
 have fin:EP X pins j Q u s:=⟨v,H,I,r,h⟩
 rcases l with ⟨a,hm⟩|⟨a,c,hc,hcell⟩
 .exact wpAny_Name (wpAny_loadName_local I.ok.kind a hn hm fin) hd
 .rcases a with a|a
  .exact wpAny_Name (wpAny_loadName_cell I.ok.kind a hc hcell fin) hd
  .exact wpAny_Name (wpAny_loadName_free I.ok.kind a hc hcell fin b) hd
theorem qe1{i j pos}:PE X (.Constant (.int i) j pos) (tC (.int i)):=λ_ _ _ H _ I h=>wpAny_Constant_int ⟨.int i,H,I.tok _,⟨_,rfl⟩,h⟩
theorem qk1{b j pos}:PE X (.Constant (.bool b) j pos) (tC (.bl b)):=λ_ _ _ H _ I h=>Constant_bool ⟨.bl b,H,I,rfl,h⟩
theorem qjj{j pos}:PE X (.Constant .none j pos) (tC .non):=λ_ _ _ H _ I h=>Constant_none ⟨.non,H,I,rfl,h⟩
def Gl(X:Cx)(x:Str):Prop:=X.env.kindOf x=some .globalImplicit
theorem qc9{E:Value->Shared->Prop}{pins:List (Addr×Obj)}{s:Shared}{a:St}{H:Hp}{x:Str}{u:Value}{pos:Pos}{Q:Value->Shared->Prop}(I:Inv X pins a H s)(b:Gl X x)(hm:X.mg x=some u)(h:Q u s)(hd:(x == ("__debug__":Str))=false:=by decide):wpAny (model X.prog X.w) X.A (eval (.Name x pos) X.env) Q E s :=
 Calls.Name_function_global I.ok.kind b (Calls.loadGlobal_global (by rw[I.ok.glob];exact I.mod.glob.keeps I.bk) hm h) hd
theorem zI{E:Value->Shared->Prop}{pins:List (Addr×Obj)}{s:Shared}{a:St}{H:Hp}{x:Str}{u:Value}{pos:Pos}{Q:Value->Shared->Prop}(I:Inv X pins a H s)(b:Gl X x)(hm:X.mg x=none)(c:bootBuiltins x=some u)(h:Q u s)(hn:x≠"__name__":=by decide)(hd:(x == ("__debug__":Str))=false:=by decide):wpAny (model X.prog X.w) X.A (eval (.Name x pos) X.env) Q E s:=by
 obtain⟨mb,d,e⟩:=I.mod.blt
 exact Calls.Name_function_global I.ok.kind b (Calls.loadGlobal_builtin (by rw[I.ok.glob];exact I.mod.glob.keeps I.bk) hm (by rw[I.ok.blt];exact d.keeps I.bk) ((e x hn).trans c) h) hd
theorem qhu{x:Str}{v:V}{u:Value}{pos:Pos}(a:Gl X x)(hm:X.mg x=some u)(r:RelV v u)(hd:(x == ("__debug__":Str))=false:=by decide):PE X (.Name x pos) (tC v) :=
 λ_ _ _ H _ I h=>qc9 I a hm ⟨v,H,I,r,h⟩ hd
theorem qhv{x:Str}{v:V}{u:Value}{pos:Pos}(a:Gl X x)(hm:X.mg x=none)(b:bootBuiltins x=some u)(r:RelV v u)(hn:x≠"__name__":=by decide)(hd:(x == ("__debug__":Str))=false:=by decide):PE X (.Name x pos) (tC v) :=
 λ_ _ _ H _ I h=>zI I a hm b ⟨v,H,I,r,h⟩ hn hd
variable{a b:Expr}{ta tb:TE}{pos:Pos}
variable{tA tB':TT}{rest:List Expr}
noncomputable def tAnd(t u:TT):TT:=λd H Q=>t d H λc e=>if c=true then u d e Q else Q false e
noncomputable def tOr(t u:TT):TT:=λd H Q=>t d H λc e=>if c=true then Q true e else u d e Q
noncomputable def tNot(t:TT):TT:=λd H Q=>t d H λc e=>Q (!c) e
theorem qhw(ha:PT X a tA):PW X (.BoolOp .And [a] pos) tA:=by
 intro f pins s d H Q I h
 refine isTrue_and (thn (ha pins s d H Q I h) λc s1 e=>?_)
 cases c with
 |true=>exact isTrue_and_nil e
 |false=>exact e
theorem qjk(ha:PT X a tA):PW X (.BoolOp .Or [a] pos) tA:=by
 intro f pins s d H Q I h
 refine isTrue_or (thn (ha pins s d H Q I h) λc s1 e=>?_)
 cases c with
 |false=>exact isTrue_or_nil e
 |true=>exact e
theorem qjl(ha:PT X a tA)(i:PW X (.BoolOp .And (b::rest) pos) tB'):PW X (.BoolOp .And (a::b::rest) pos) (tAnd tA tB'):=by
 intro j pins s d H Q I h
 refine isTrue_and (thn (ha pins s d H _ I h) λc s1 ⟨e,f,q1⟩=>?_)
 cases c with
 |true=>exact i j pins s1 d e Q f q1
 |false=>exact⟨e,f,q1⟩
theorem qk2(ha:PT X a tA)(i:PW X (.BoolOp .Or (b::rest) pos) tB'):PW X (.BoolOp .Or (a::b::rest) pos) (tOr tA tB'):=by
 intro j pins s d H Q I h
 refine isTrue_or (thn (ha pins s d H _ I h) λc s1 ⟨e,f,q1⟩=>?_)
 cases c with
 |true=>exact⟨e,f,q1⟩
 |false=>exact i j pins s1 d e Q f q1
theorem qjm(ha:PT X a tA):PT X (.UnaryOp .Not a pos) (tNot tA):=by
 intro pins s d H Q I h
 exact isTrue_not (ha pins s d H (λc e=>Q (!c) e) I h)
noncomputable def tAndV(ta tb:TE):TE:=λd H Q=>ta d H λx e=>∃c,x=.bl c/\if c=true then tb d e Q else Q (.bl false) e
noncomputable def tNotV(ta:TE):TE:=λd H Q=>ta d H λx e=>∃c,x=.bl c/\Q (.bl (!c)) e
theorem qjn{op}{t:TE}(h:PE X a t):PE X (.BoolOp op [a] pos) t:=λpins s c H Q I d=>BoolOp_one (h pins s c H Q I d)
theorem qjo(ha:PE X a ta)(i:PE X (.BoolOp .And (b::rest) pos) tb):PE X (.BoolOp .And (a::b::rest) pos) (tAndV ta tb):=by
 intro pins s d H Q I h
 refine BoolOp_and (thn (ha pins s d H _ I h) λv s1 ⟨x,e,f,j,q1⟩=>?_)
 obtain⟨c,rfl,q1⟩:=q1
 cases j
 refine vV ?_
 cases c with
 |true=>exact i pins s1 d e Q f q1
 |false=>exact⟨.bl false,e,f,rfl,q1⟩
theorem qjp(ha:PE X a ta):PE X (.UnaryOp .Not a pos) (tNotV ta):=by
 intro pins s d H Q I h
 refine UnaryOp_ (thn (ha pins s d H _ I h) λv s1 ⟨x,e,f,i,q1⟩=>?_)
 obtain⟨c,rfl,q1⟩:=q1
 cases i
 exact not_of (vV ⟨.bl (!c),e,f,rfl,q1⟩)
end
end L2
namespace L2
open PySem PySem.Spec PyProof.Rows
noncomputable def SqL(K:PySem.W.Frag)(H:Hp)(a:Addr)(xs:List V):Prop :=
 Rd H a (.lst xs) \/
  ∃(o:Obj) (its:Array Value) (n:Nat),K.lookup a=some o/\o.cls=.type "list"/\o.dict=none/\o.data=.seq its n/\its.size<=sizeLine/\Vals xs its.toList
noncomputable def SqT(K:PySem.W.Frag)(H:Hp)(a:Addr)(xs:List V):Prop :=
 Rd H a (.tup xs) \/
  ∃(o:Obj) (its:Array Value) (n:Nat),K.lookup a=some o/\o.cls=.type "tuple"/\o.data=.seq its n/\its.size<=sizeLine/\Vals xs its.toList
noncomputable def absV:Value->Option V
 | .none=>some .non
 | .bool b=>some (.bl b)
 | .int i _=>some (.int i)
 | .str x _=>some (.str x)
 | .bytes b _=>some (.byt b)
 | .float b _=>some (.flt b)
 | .ref a=>some (.ref a)
 | .type n=>some (.ty n)
 |_=>none
theorem RelV.abs{x:V}{u:Value}(r:RelV x u):absV u=some x:=by
 cases x with
 |non=>cases r;rfl
 |bl _=>cases r;rfl
 |int _=>obtain⟨t,rfl⟩:=r;rfl
 |str _=>obtain⟨t,rfl⟩:=r;rfl
 |byt _=>obtain⟨t,rfl⟩:=r;rfl
 |flt _=>obtain⟨t,rfl⟩:=r;rfl
 |ref _=>cases r;rfl
 |ty _=>cases r;rfl
theorem RelV.inj{x y:V}{u:Value}(r:RelV x u)(q:RelV y u):x=y:=Option.some.inj (r.abs.symm.trans q.abs)
theorem Vals.inj:∀{xs ys:List V} {us:List Value},Vals xs us->Vals ys us->xs=ys
 |_,_,_,.nil,.nil=>rfl
 |_,_,_,.cons r t,.cons r' t'=>by rw[r.inj r',Vals.inj t t']
section
variable{X:Cx}{pins:List (Addr×Obj)}{σ:St}{H:Hp}{s:Shared}{a:Addr}{xs ys:List V}
theorem Inv.list(I:Inv X pins σ H s)(h:SqL X.K H a xs):∃its:List Value,Vals xs its/\PlainL s.heap a its.toArray/\xs.length<=sizeLine:=by
 rcases h with h|⟨o,its,n,hk,hc,hd,hs,hz,r⟩
 .obtain ⟨z,its,n,r,e⟩:=h.ok I.hok
  exact⟨its,r,⟨_,n,e,rfl,rfl,rfl⟩,z⟩
 .refine ⟨its.toList,r,⟨o,n,I.kIn a o hk,hc,hd,by simpa using hs⟩,?_⟩
  have e:=r.length
  simp only[wk]at e
  lia
theorem Inv.tuple(I:Inv X pins σ H s)(h:SqT X.K H a xs):∃its:List Value,Vals xs its/\IsTup s.heap a its.toArray/\xs.length<=sizeLine:=by
 rcases h with h|⟨o,its,n,hk,hc,hs,hz,r⟩
 .obtain ⟨z,its,r,p,_⟩:=h.ok I.hok
  exact⟨its,r,p,z⟩
 .refine ⟨its.toList,r,⟨o,I.kIn a o hk,hc,n,by simpa using hs⟩,?_⟩
  have e:=r.length
  simp only[wk]at e
  lia
theorem Inv.list_inj(I:Inv X pins σ H s)(h:SqL X.K H a xs)(h':SqL X.K H a ys):xs=ys:=by
 obtain⟨its,r,⟨o,n,e,_,_,d⟩,_⟩:=I.list h
 obtain⟨its',c,⟨o',f,b,_,_,d'⟩,_⟩:=I.list h'
 rw[e]at b;cases b
 rw[d]at d'
 injection d' with d1 _
 have:its=its':=by simpa using congrArg Array.toList d1
 subst this
 exact r.inj c
theorem Inv.tuple_inj(I:Inv X pins σ H s)(h:SqT X.K H a xs)(h':SqT X.K H a ys):xs=ys:=by
 obtain⟨its,r,⟨o,e,_,n,d⟩,_⟩:=I.tuple h
 obtain⟨its',c,⟨o',b,_,f,d'⟩,_⟩:=I.tuple h'
 rw[e]at b;cases b
 rw[d]at d'
 injection d' with d1 _
 have:its=its':=by simpa using congrArg Array.toList d1
 subst this
 exact r.inj c
end
noncomputable abbrev Cx.wish(X:Cx)(E:Value->Shared->Prop):Cx:={X with xe:=E}
noncomputable abbrev Cx.nox(X:Cx):Cx:=X.wish λ_ _=>False
theorem Cx.Ok.wish{X:Cx}(ok:X.Ok)(E:Value->Shared->Prop):(X.wish E).Ok :=
 ⟨ok.mod,ok.kind,ok.glob,ok.blt,ok.above,ok.inj,ok.has,ok.cab,ok.hd,ok.frames,ok.stk,ok.exf,ok.bs,ok.bsz,ok.noex,ok.exfs,ok.funs,ok.frf,ok.tab⟩
theorem Cx.Ok.unwish{X:Cx}{E:Value->Shared->Prop}(ok:(X.wish E).Ok):X.Ok :=
 ⟨ok.mod,ok.kind,ok.glob,ok.blt,ok.above,ok.inj,ok.has,ok.cab,ok.hd,ok.frames,ok.stk,ok.exf,ok.bs,ok.bsz,ok.noex,ok.exfs,ok.funs,ok.frf,ok.tab⟩
section
variable{X:Cx}{pins:List (Addr×Obj)}{σ:St}{H:Hp}{s:Shared}{E:Value->Shared->Prop}
theorem Inv.wish(I:Inv X pins σ H s)(E:Value->Shared->Prop):Inv (X.wish E) pins σ H s:=⟨I.ok.wish E,I.os,I.bare,I.base,I.loc,I.cell,I.free,I.freeC,I.pin,I.hok,I.len⟩
theorem Inv.unwish(I:Inv (X.wish E) pins σ H s):Inv X pins σ H s:=⟨I.ok.unwish,I.os,I.bare,I.base,I.loc,I.cell,I.free,I.freeC,I.pin,I.hok,I.len⟩
theorem SP.unwish{D:Ends}{f:Flow}{s':Shared}(h:SP (X.wish E) pins D f s'):SP X pins D f s':=by
 cases f with
 |next=>obtain⟨a,H',I,q⟩:=h;exact⟨a,H',I.unwish,q⟩
 |brk=>obtain⟨a,H',I,q⟩:=h;exact⟨a,H',I.unwish,q⟩
 |cont=>obtain⟨a,H',I,q⟩:=h;exact⟨a,H',I.unwish,q⟩
 |ret u=>obtain⟨v,a,H',I,r,q⟩:=h;exact⟨v,a,H',I.unwish,r,q⟩
theorem PSs.nox{st:List Stmt}{t:TS}(h:PSs X.nox st t):PSs X st t:=λpins s σ H D I a =>
 vT (h pins s σ H D (I.wish _) a) (λ_ _ q=>q.unwish) λ_ _ z=>False.elim z
end
section
variable{X:Cx}{st:Stmt}{rest:List Stmt}{t u:TS}{e:Expr}{te:TE}{pos:Pos}
noncomputable def tNext:TS:=λD a H=>D.nx a H
noncomputable def tSeq(t u:TS):TS:=λD a H=>t {D with nx:=u D} a H
theorem qhx:PSs X [] tNext:=λ_ _ a H _ I h=>wpAny_execs_nil ⟨a,H,I,h⟩
theorem qe2(b:PS X st t)(c:PSs X rest u):PSs X (st::rest) (tSeq t u):=by
 intro pins s d H D I h
 refine wpAny_execs_cons (thn (b pins s d H {D with nx:=u D} I h) λf s1 q=>?_)
 cases f with
 |next =>
  obtain⟨a,H',i,q⟩:=q
  exact c pins s1 a H' D i q
 |ret v=>exact q
 |brk=>exact q
 |cont=>exact q
theorem Inv.quiet{pins:List (Addr×Obj)}{a:St}{H:Hp}{s:Shared}(I:Inv X pins a H s):interactive X.env=false:=by simp[interactive,I.ok.kind]
noncomputable def tDrop(te:TE):TS:=λD a H=>te a H λ_ b=>D.nx a b
theorem qhy(b:PE X e te)(c:swapsWith e none pos.line X.env=pure false:=by rfl):PS X (.Expr e pos) (tDrop te):=by
 intro pins s a H D I h
 exact wpAny_Expr_any (thn (b pins s a H _ I h) λv s1 ⟨x,d,f,i,q1⟩=>⟨a,d,f,q1⟩) I.quiet c
noncomputable def tRet(te:TE):TS:=λD a H=>te a H D.rt
theorem qjq(b:PE X e te):PS X (.Return (some e) pos) (tRet te):=by
 intro pins s a H D I h
 exact wpAny_Return_some (thn (b pins s a H _ I h) λv s1 ⟨x,c,d,f,q1⟩=>⟨x,a,c,d,f,q1⟩)
noncomputable def tIfS(c:TT)(t u:TS):TS:=λD a H=>c a H λb d=>if b=true then t D a d else u D a d
theorem qk3{c:Expr}{a b:List Stmt}{i:TT}(m:PT X c i)(ha:PSs X a t)(n:PSs X b u):PS X (.If c a b pos) (tIfS i t u):=by
 intro pins s f H D I h
 refine wpAny_If (thn (m pins s f H _ I h) λd s1 ⟨j,l,q1⟩=>?_)
 cases d with
 |true=>exact ha pins s1 f j D l q1
 |false=>exact n pins s1 f j D l q1
noncomputable def tNever:TS:=λ_ _ _=>False
theorem qe3:PS X st tNever:=λ_ _ _ _ _ _ h=>h.elim
end
noncomputable abbrev TG:=V->St->Hp->(St->Hp->Prop)->Prop
noncomputable abbrev TGs:=List V->St->Hp->(St->Hp->Prop)->Prop
noncomputable def PG(X:Cx)(a:Expr)(t:TG):Prop :=
 ∀(pins:List (Addr×Obj)) (s:Shared) (c:St) (H:Hp) (v:V) (u:Value) (Q:St->Hp->Prop),Inv X pins c H s->RelV v u->t v c H Q ->
  wpAny (model X.prog X.w) X.A (assign a X.env u) (λ_ s'=>∃b H',Inv X pins b H' s'/\Q b H') X.xe s
noncomputable def PGs(X:Cx)(ts:List Expr)(t:TGs):Prop :=
 ∀(pins:List (Addr×Obj)) (s:Shared) (b:St) (H:Hp) (vs:List V) (us:List Value) (Q:St->Hp->Prop),Inv X pins b H s->Vals vs us->t vs b H Q ->
  wpAny (model X.prog X.w) X.A (assignInOrder ((assignEach ts X.env).map (·.2)) us) (λ_ s'=>∃a H',Inv X pins a H' s'/\Q a H') X.xe s
noncomputable abbrev TSet:=V->V->V->Hp->(Hp->Prop)->Prop
noncomputable def PSet(X:Cx)(t:TSet):Prop :=
 ∀(pins:List (Addr×Obj)) (s:Shared) (a:St) (H:Hp) (o i v:V) (b c u:Value) (Q:Hp->Prop),Inv X pins a H s->RelV o b->RelV i c->RelV v u->t o i v H Q ->
  wpAny (model X.prog X.w) X.A (setItem b c u) (λ_ s'=>∃H',Inv X pins a H' s'/\Q H') X.xe s
noncomputable abbrev TIp:=V->V->Hp->VK->Prop
noncomputable def PIp(X:Cx)(op:Operator)(t:TIp):Prop :=
 ∀(pins:List (Addr×Obj)) (s:Shared) (a:St) (H:Hp) (x y:V) (v u:Value) (Q:VK),Inv X pins a H s->RelV x v->RelV y u->t x y H Q ->
  wpAny (model X.prog X.w) X.A (inplaceOp op v u) (EP X pins a Q) X.xe s
section
variable{X:Cx}{pos:Pos}
noncomputable def gName(i:Nat):TG:=λv a H Q=>Q (a.set i (some v)) H
theorem qda{i:Nat}{x:Str}(a:X.N.Nodup)(hi:X.N[i]?=some x)(hx:Loc X.env.scope x)(b:X.fn x=true\/X.env.scope.names.lookup x=some .local:=by first|exact .inl rfl|exact .inr rfl|assumption):PG X (.Name x pos) (gName i):=by
 intro pins s d H v u Q I r h
 exact wpAny_assign_Name (yI I a hi hx r (λs' c=>⟨_,H,c,h⟩) b)
noncomputable def gNil:TGs:=λvs a H Q=>vs=[]/\Q a H
noncomputable def gCons(t:TG)(u:TGs):TGs:=λvs b H Q=>∃v r,vs=v::r/\t v b H λa H'=>u r a H' Q
theorem qhz:PGs X [] gNil:=by
 intro pins s a H vs us Q I r h
 obtain⟨e,h⟩:=h
 subst e
 cases r
 exact assignInOrder_nil ⟨a,H,I,h⟩
theorem qe4{e:Expr}{es:List Expr}{t:TG}{u:TGs}(b:PG X e t)(c:PGs X es u)(d:(assignEach (e::es) X.env).map (·.2)=assign e X.env::(assignEach es X.env).map (·.2):=by rfl):PGs X (e::es) (gCons t u):=by
 intro pins s f H vs us Q I r h
 obtain⟨v,m,e1,h⟩:=h
 subst e1
 cases r with
 |cons r i =>
  rw[d]
  refine assignInOrder_cons (thn (b pins s f H _ _ _ I r h) λ_ s1 ⟨a,j,l,q1⟩=>?_)
  exact c pins s1 a j _ _ Q l i q1
noncomputable def gTup(K:PySem.W.Frag)(n:Nat)(t:TGs):TG:=λv b H Q=>∃a xs,v=.ref a/\SqT K H a xs/\xs.length=n/\t xs b H Q
theorem qjr{es:List Expr}{k:Nat}{t:TGs}{n:Nat}(j:X.calm=true)(h:PGs X es t)(hn:(assignEach es X.env).length=n:=by rfl)(c:(assignEach es X.env).findIdx? (·.1)=none:=by rfl):PG X (.Tuple es k pos) (gTup X.K n t):=by
 intro pins s f H v u Q I r d
 obtain⟨a,xs,e1,l,m,d⟩:=d
 subst e1
 cases r
 obtain⟨its,i,p,hz⟩:=I.tuple l
 refine assign_Tuple_tuple (I.ok.hd j) p (by simp[hn,<-m,i.length]) c λh' hx=>?_
 have q:Inv X pins f H {s with heap:=h' }:=I.kept (t':=s.toks) λb o e=>hx b o (wT (wF e)) e
 exact h pins _ f H xs _ Q q (by simpa using i) d
noncomputable def gSub(b ti:TE)(t:TSet):TG:=λv a H Q=>b a H λo c=>ti a c λi H2=>t o i v H2 λH3=>Q a H3
theorem qjs{o i:Expr}{d ti:TE}{t:TSet}(e:PE X o d)(hi:PE X i ti)(f:PSet X t)(ha:∀v,assign (.Subscript o i pos) X.env v=(do
   let a <-holding [v] (eval o X.env)
   let b <-holding [v,a] (eval i X.env)
   standAt pos
   holding [v,a,b] (setItem a b v)
   release [v,a,b] []):=by intro _;rfl):PG X (.Subscript o i pos) (gSub d ti t):=by
 intro pins s c H v u Q I r h
 rw[ha]
 refine wA (wm (thn (e pins s c H _ I h) λa s1 ⟨x,j,l,m,q1⟩=>?_))
 refine wA (wm (thn (hi pins s1 c j _ l q1) λb s2 ⟨y,H2,n,p,q2⟩=>?_))
 refine wA (v6 (wA (wm (thn (f pins s2 c H2 x y v a b u _ n m p r q2) λ_ z ⟨H3,q,w⟩=>?_))))
 exact wpAny_release ⟨c,H3,q,w⟩
noncomputable def tAsg(b:TE)(g:TG):TS:=λD a H=>b a H λx c=>g x a c D.nx
theorem qjt{tg e:Expr}{a:TE}{g:TG}(c:PE X e a)(d:PG X tg g)(f:swapsWithSole [tg] e pos.line X.env=pure false:=by rfl)(i:swappedStores [tg] e X.env=pure none:=by rfl)(j:(assignEach [tg] X.env).map (·.2)=[assign tg X.env]:=by rfl):PS X (.Assign [tg] e pos) (tAsg a g):=by
 intro pins s b H D I h
 refine wpAny_Assign_stores (thn (c pins s b H _ I h) λv s1 ⟨x,l,m,n,q1⟩=>?_) f i
 rw[j]
 exact thn (d pins s1 b l x v _ m n q1) λ_ s2 q=>q
theorem qju{i:Nat}{x:Str}{e:Expr}{b:TE}{a:Pos}(c:X.N.Nodup)(hi:X.N[i]?=some x)(hx:Loc X.env.scope x)(d:PE X e b)(f:swapsWith e (some (.Name x a)) pos.line X.env=pure false:=by rfl)(j:X.fn x=true\/X.env.scope.names.lookup x=some .local:=by first|exact .inl rfl|exact .inr rfl|assumption):
  PS X (.Assign [.Name x a] e pos) (tAsg b (gName i)):=by
 intro pins s l H D I h
 refine wpAny_Assign_Name (thn (d pins s l H _ I h) λv s1 ⟨y,m,n,o,q1⟩=>?_) f
 exact yI n c hi hx o (λs2 p=>⟨_,m,p,q1⟩) j
noncomputable def tPar(i j:Nat)(b:TA):TS:=λD a H=>b a H λvs c=>∃v w,vs=[v,w]/\D.nx ((a.set i (some v)).set j (some w)) c
theorem qjv{i j:Nat}{x y:Str}{a b:Expr}{u:TA}{f l pt:Pos}{kt k2 pt2}(J:X.calm=true)(z:X.N.Nodup)(hi:X.N[i]?=some x)(K:X.N[j]?=some y)(m:i≠j)(hx:X.env.scope.names.lookup x=some .local)(B:X.env.scope.names.lookup y=some .local)(ha:PA X [a,b] u)(L:swappedStores [.Tuple [.Name x f,.Name y l] kt pt] (.Tuple [a,b] k2 pt2) X.env=pure (some [x,y]))(M:swapsWithSole [.Tuple [.Name x f,.Name y l] kt pt] (.Tuple [a,b] k2 pt2) pos.line X.env=pure false:=by rfl):
  PS X (.Assign [.Tuple [.Name x f,.Name y l] kt pt] (.Tuple [a,b] k2 pt2) pos) (tPar i j u):=by
 intro pins s C H D I h
 rw[exec_Assign_arm]
 refine wA (v6 ?_)
 rw[M]
 refine wA (wC ?_)
 rw[wK (by decide)]
 refine wA (Tuple_ (thn (ha _ pins s C H _ I h) λus s1 ⟨vs,E,O,P,q1⟩=>?_))
 obtain⟨v,w,e1,q1⟩:=q1
 subst e1
 obtain⟨c,d,rfl,Q,n⟩:∃c d,us=[c,d]/\RelV v c/\RelV w d:=by
  cases P with
  |cons p q =>
   cases q with
   |cons R S =>
    cases S
    exact⟨_,_,rfl,p,R⟩
 refine wS ?_ (by show 2<=sizeLine;decide)
 have U:Inv X pins C E {s1 with heap:=s1.heap.push {cls:=.type "tuple",data:=.seq [c,d].toArray}}:=O.kept (t':=s1.toks) λb o e=>wB _ e
 rw[L]
 refine wA (wC ?_)
 show wpAny (model X.prog X.w) X.A (do rule "assign.swapped-stores";let items <-unpackItems (.ref s1.heap.objs.size) 2 none;assignInOrder [λv=>bindName X.env y v,λv=>bindName X.env x v] items.reverse;pure Flow.next) _ _ _
 refine wA (vb (wA (unpackItems_tuple (items:=#[c,d]) (I.ok.hd J) (IsTup.new s1.heap _) λh' r=>?_)))
 have W:=U.kept (h':=h') (t':=s1.toks) λb o e=>r b o (wT (wF e)) e
 show wpAny _ _ (assignInOrder [λv=>bindName X.env y v,λv=>bindName X.env x v] [d,c] >>= λ_=>pure Flow.next) _ _ _
 refine wA (assignInOrder_cons (wpAny_bindName (yI W z K (.inl B) n (λs2 Y=>?_) (.inr B))))
 refine assignInOrder_cons (wpAny_bindName (yI Y z hi (.inl hx) Q (λZ F=>assignInOrder_nil (wC ?_)) (.inr hx)))
 rw[List.set_comm _ _ (Ne.symm m)]at F
 exact⟨_,E,F,q1⟩
noncomputable def tAugS(e ti f:TE)(a:V->V->Hp->VK->Prop)(d:TIp)(b:TSet):TS:=λD c H=>e c H λo h=>ti c h λi H2=>a o i H2 λx H3=>f c H3 λy j=>d x y j λz l=>b o i z l λm=>D.nx c m
noncomputable def PGet(X:Cx)(t:V->V->Hp->VK->Prop):Prop :=
 ∀(pins:List (Addr×Obj)) (s:Shared) (a:St) (H:Hp) (o i:V) (b c:Value) (Q:VK),Inv X pins a H s->RelV o b->RelV i c->t o i H Q ->
  wpAny (model X.prog X.w) X.A (getItem b c) (EP X pins a Q) X.xe s
theorem qhA{o i e:Expr}{m ti n:TE}{a:V->V->Hp->VK->Prop}{j:TIp}{b:TSet}{op:Operator}{l:Pos}(w:PE X o m)(hi:PE X i ti)(x:PGet X a)(y:PE X e n)(z:PIp X op j)(A:PSet X b)(ha:∀c d new,augStore i c d new=(do holding [new,c,d] (setItem c d new);release [new,c,d] [];pure .next):=by intros;rfl):PS X (.AugAssign (.Subscript o i l) op e pos) (tAugS m ti n a j b):=by
 intro pins s f H D I h
 refine wpAny_AugAssign_SubscriptAny (thn (w pins s f H _ I h) λc s1 ⟨p,B,C,q,q1⟩=>?_) ha
 refine thn (hi pins s1 f B _ C q1) λd s2 ⟨r,H2,E,u,q2⟩=>?_
 refine thn (x pins s2 f H2 p r c d _ E q u q2) λold F ⟨J,H3,K,L,M⟩=>?_
 refine thn (y pins F f H3 _ K M) λv N ⟨O,P,Q,R,S⟩=>?_
 refine thn (z pins N f P J O old v _ Q L R S) λnew U ⟨x5,W,Y,Z,q5⟩=>?_
 exact thn (A pins U f W p r x5 c d new _ Y q u Z q5) λ_ s6 ⟨H6,I6,q6⟩=>⟨f,H6,I6,q6⟩
noncomputable def ipI(f:Int->Int->Int):TIp:=λx y H Q=>∃i j,x=.int i/\y=.int j/\Q (.int (f i j)) H
theorem qjw:PIp X .Add (ipI λi j=>i+j):=by
 intro pins s d H x y v u Q I a b h
 obtain⟨i,j,e1,c,q⟩:=h
 subst e1;subst c
 obtain⟨t,rfl⟩:=a
 obtain⟨t',rfl⟩:=b
 exact iadd_int ⟨.int _,H,I.tok _,⟨_,rfl⟩,q⟩
end
section
variable{X:Cx}{pos:Pos}
noncomputable def tWhile(c:TT)(h:TS):TS:=λD a H=>∃W:Nat->St->Hp->Prop,(∃m,W m a H)/\∀m a H,W m a H ->
 c a H λb e=>if b=true then ∃N:St->Hp->Prop,(∀d H',N d H'->∃f,f<m/\W f d H')/\h {D with nx:=N,ct:=N,bk:=D.nx} a e else D.nx a e
theorem qe5{c:Expr}{body:List Stmt}{q:TT}{r:TS}(u:PassesOwn (model X.prog X.w) X.A X.env X.xe)(B:PT X c q)(C:PSs X body r):PS X (.While c body [] pos) (tWhile q r):=by
 intro pins s E H D I h
 obtain⟨W,⟨F,J⟩,e⟩:=h
 refine wpAny_While (codeAny_whileLoop (λn s'=>∃i H',Inv X pins i H' s'/\W n i H') ?_ F ⟨E,H,I,J⟩)
 rintro n s1 ⟨d,x,K,L⟩
 refine uS u (thn (B pins s1 d x _ K (e n d x L)) λb s2 ⟨H2,y,q2⟩=>?_)
 cases b with
 |true =>
  obtain⟨N,z,q2⟩:=q2
  rw[wL rfl]
  refine uS u (thn (C pins s2 d H2 _ y q2) λf M j=>?_)
  cases f with
  |next =>
   obtain⟨a,H3,l,m⟩:=j
   obtain⟨o,hm,p⟩:=z a H3 m
   exact⟨o,hm,a,H3,l,p⟩
  |cont =>
   obtain⟨a,H3,l,m⟩:=j
   obtain⟨o,hm,p⟩:=z a H3 m
   exact⟨o,hm,a,H3,l,p⟩
  |brk=>exact j
  |ret v=>exact j
 |false =>
  rw[wK wY]
  exact wpAny_execs_nil ⟨d,H2,y,q2⟩
end
structure It where
 go:Nat->Hp->Prop
 yld:Nat->Hp->V->Hp->Prop
 stop:Nat->Hp->Prop
noncomputable def FpOk(X:Cx)(pins:List (Addr×Obj))(H:Hp)(b:Addr):Prop :=
 H b=none/\b≠X.env.locals/\b∉X.fs/\(b∈X.ex\/X.s₀.heap.objs.size<=b)/\(∀x c,X.env.cells.lookup x=some c->c≠b)/\∀p∈X.pn++pins,p.1≠b
theorem Inv.fpOk{X:Cx}{pins:List (Addr×Obj)}{d:St}{H H':Hp}{s:Shared}{b:Addr}(I:Inv X pins d H s)(a:s.heap.objs.size<=b)(hn:H' b=none):FpOk X pins H' b:=by
 refine⟨hn,vF (w6 I.lt a),I.nofs a,.inr (vK I.sz a),λx c e z=>?_,λp f z=>?_⟩
 .obtain ⟨v,q⟩:=I.cell x c e
  exact absurd (w6 q.lt (by rw[z];exact a)) (vI _)
 .exact absurd (w6 (wF (I.pin p f).1) (by rw[z];exact a)) (vI _)
structure Turn (P:Program) (w:World) (K:PySem.W.Frag) (tg:Expr) (J:It) (fp:List Addr) (it:Addr) (tn:Nat->Heap->Prop):Prop where
 mem:it∈fp
 obj:∀i h,tn i h->∀b∈fp,∃o,h.get? b=some o/\∀v,o.data≠.cell v
 keep:∀i h h',tn i h->(∀b∈fp,∀o,h.get? b=some o->h'.get? b=some o)->tn i h'
 item:∀(X:Cx),X.prog=P->X.w=w->X.K=K->X.calm=true->∀(i:Nat) (pins:List (Addr×Obj)) (s:Shared) (σ:St) (H:Hp) (E:Value->Shared->Prop),Inv X pins σ H s->(∀b∈fp,FpOk X pins H b)->tn i s.heap->J.go i H ->
  wpAny (model P w) X.A (pyNext (.ref it)) (λr s1=>∃u,r=some u /\
   wpAny (model P w) X.A (letOwnedTupleGo tg (.ref it) u) (λ_ s2=>∃x H',Inv X pins σ H' s2/\RelV x u/\J.yld i H x H'/\tn (i+1) s2.heap/\∀b∈fp,H' b=none) E s1) E s
 done:∀(X:Cx),X.prog=P->X.w=w->X.K=K->X.calm=true->∀(i:Nat) (pins:List (Addr×Obj)) (s:Shared) (σ:St) (H:Hp) (E:Value->Shared->Prop),Inv X pins σ H s->(∀b∈fp,FpOk X pins H b)->tn i s.heap->J.stop i H ->
  wpAny (model P w) X.A (pyNext (.ref it)) (λr s1=>r=none/\Inv X pins σ H s1) E s
 self:∀(A:Around) (i:Nat) (s:Shared) (Q:Value->Shared->Prop) (E:Value->Shared->Prop),tn i s.heap->Q (.ref it) s->wpAny (model P w) A (pyIter (.ref it)) Q E s
noncomputable abbrev TI:=St->Hp->(It->Hp->Prop)->Prop
noncomputable def PIE(X:Cx)(pins:List (Addr×Obj))(c:St)(tg:Expr)(R:It->Hp->Prop)(a:Value)(s2:Shared):Prop :=
 ∃(it:Addr) (fp:List Addr) (tn:Nat->Heap->Prop) (J:It) (H':Hp),a=.ref it/\Inv X pins c H' s2/\Turn X.prog X.w X.K tg J fp it tn/\tn 0 s2.heap/\(∀b∈fp,FpOk X pins H' b)/\R J H'
noncomputable def PI(X:Cx)(tg iter:Expr)(b:TI):Prop :=
 ∀(pins:List (Addr×Obj)) (s:Shared) (a:St) (H:Hp) (R:It->Hp->Prop),Inv X pins a H s->b a H R ->
  wpAny (model X.prog X.w) X.A (eval iter X.env) (λv s1=>wpAny (model X.prog X.w) X.A (pyIter v) (PIE X pins a tg R) X.xe s1) X.xe s
theorem qe6{M:Model}{A:Around}{E:Value->Shared->Prop}{s:Shared}{tg:Expr}{it:Addr}{u:Value}{o:Obj}{n:String}{vs:Array Value}{Q:Unit->Shared->Prop}(b:s.heap.get? it=some o)(c:o.cls=.type n)(hd:o.data=.fields vs)(hn:["enumerate","zip","dict_itemiterator","dict_reverseitemiterator","odict_iterator","itertools.zip_longest","itertools.pairwise"].contains n=false)(a:Q () s):wpAny M A (letOwnedTupleGo tg (.ref it) u) Q E s:=by
 unfold letOwnedTupleGo
 cases tg <;> first
  |exact wC a
  | (cases u <;> first
    |exact wC a
    | (refine wA (wpAny_load b ?_)
       rw[c,hd]
       show wpAny M A (if(["enumerate","zip","dict_itemiterator","dict_reverseitemiterator","odict_iterator","itertools.zip_longest","itertools.pairwise"].contains n&&vs[0]? == some (rawInt _))=true then _ else _) Q E s
       rw[wK (by intro h;rw[hn,Bool.false_and]at h;cases h)]
       exact wC a))
noncomputable def Itl(K:PySem.W.Frag)(a:Addr):It :=
 ⟨λi H=>∃xs x,SqL K H a xs/\xs[i]?=some x,λi H x H'=>H'=H/\∀xs,SqL K H a xs->xs[i]?=some x,λi H=>∃xs,SqL K H a xs/\xs.length<=i⟩
noncomputable def Itt(K:PySem.W.Frag)(a:Addr):It :=
 ⟨λi H=>∃xs x,SqT K H a xs/\xs[i]?=some x,λi H x H'=>H'=H/\∀xs,SqT K H a xs->xs[i]?=some x,λi H=>∃xs,SqT K H a xs/\xs.length<=i⟩
theorem qei{P:Program}{w:World}{K:PySem.W.Frag}{tg:Expr}(a it:Addr):Turn P w K tg (Itl K a) [it] it (λi h=>h.IsListIter it a i) where
 mem:=by simp
 obj:=λi h st b f=>by
  have e:b=it:=by simpa using f
  subst e
  obtain⟨o,e,c,d⟩:=st
  exact⟨o,e,λv z=>by rw[d]at z;cases z⟩
 keep:=λi h h' st k=>st.at λo e=>k it (by simp) o e
 item:=by
  intro X n q r M i pins s N H E I l st y
  subst n q r
  obtain⟨xs,x,m,hx⟩:=y
  obtain⟨its,A,p,hz⟩:=I.list m
  obtain⟨u,O,Q⟩:=A.get hx
  obtain⟨B,C,R,F,J,L⟩:=l it (by simp)
  refine wpAny_pyNext_list_item st p.isList (x:=u) (by simpa using O) λh' j S=>?_
  have U:Inv X pins N H {s with heap:=h' }:=I.turned (t':=s.toks) (λb o f e=>(S.2 b f).trans e) B C F J L
  obtain⟨o,e,c,d⟩:=id j
  exact⟨u,rfl,qe6 (s:={s with heap:=h' }) e c d (by decide) ⟨x,H,U,Q,⟨rfl,λys Y=>by rw[I.list_inj Y m];exact hx⟩,j,λb f=>(l b f).1⟩⟩
 done:=by
  intro X n q r M i pins s N H E I l st y
  subst n q r
  obtain⟨xs,m,hx⟩:=y
  obtain⟨its,A,p,hz⟩:=I.list m
  obtain⟨B,C,R,F,J,L⟩:=l it (by simp)
  have hl:=A.length
  exact wpAny_pyNext_list_end (I.ok.hd M) st p.isList (by simp;lia) λh' Z=>⟨rfl,I.turned (t':=s.toks) (λb o f e=>Z b o f e) B C F J L⟩
 self:=λ_ _ _ _ _ st h=>wpAny_pyIter_listiter st h
theorem qcq{P:Program}{w:World}{K:PySem.W.Frag}{tg:Expr}(a it:Addr):Turn P w K tg (Itt K a) [it] it (λi h=>h.IsTupleIter it a i) where
 mem:=by simp
 obj:=λi h st b f=>by
  have e:b=it:=by simpa using f
  subst e
  obtain⟨o,e,c,d⟩:=st
  exact⟨o,e,λv z=>by rw[d]at z;cases z⟩
 keep:=λi h h' st k=>st.at λo e=>k it (by simp) o e
 item:=by
  intro X n q r M i pins s N H E I l st y
  subst n q r
  obtain⟨xs,x,m,hx⟩:=y
  obtain⟨its,A,p,hz⟩:=I.tuple m
  obtain⟨u,O,Q⟩:=A.get hx
  obtain⟨B,C,R,F,J,L⟩:=l it (by simp)
  refine wpAny_pyNext_tuple_item st (show s.heap.IsTuple a its.toArray from p) (x:=u) (by simpa using O) λh' j S=>?_
  have U:Inv X pins N H {s with heap:=h' }:=I.turned (t':=s.toks) (λb o f e=>(S.2 b f).trans e) B C F J L
  obtain⟨o,e,c,d⟩:=id j
  exact⟨u,rfl,qe6 (s:={s with heap:=h' }) e c d (by decide) ⟨x,H,U,Q,⟨rfl,λys Y=>by rw[I.tuple_inj Y m];exact hx⟩,j,λb f=>(l b f).1⟩⟩
 done:=by
  intro X n q r M i pins s N H E I l st y
  subst n q r
  obtain⟨xs,m,hx⟩:=y
  obtain⟨its,A,p,hz⟩:=I.tuple m
  obtain⟨B,C,R,F,J,L⟩:=l it (by simp)
  have hl:=A.length
  exact wpAny_pyNext_tuple_end (I.ok.hd M) st (show s.heap.IsTuple a its.toArray from p) (by simp;lia) λh' Z=>⟨rfl,I.turned (t':=s.toks) (λb o f e=>Z b o f e) B C F J L⟩
 self:=λ_ _ _ _ _ st h=>wpAny_pyIter_tupleiter st h
end L2
namespace L2
open PySem PySem.Spec PyProof.Rows
section
variable{X:Cx}{tg:Expr}
noncomputable def tFor(e:TI)(g:TG)(f:TS):TS:=λD a H=>e a H λJ h=>∃W:Nat->Nat->St->Hp->Prop,(∃m,W 0 m a h)/\∀i m a H,W i m a H ->
 (J.stop i H/\D.nx a H)\/(J.go i H/\∃N:St->Hp->Prop,(∀b H',N b H'->∃d,d<m/\W (i+1) d b H')/\∀x H',J.yld i H x H'->g x a H' λc H2=>f {D with nx:=N,ct:=N,bk:=D.nx} c H2)
noncomputable def pinsAt(fp:List Addr)(h:Heap):List (Addr×Obj):=fp.filterMap λb=>(h.get? b).map λo=>(b,o)
theorem qU{fp:List Addr}{h:Heap}{b:Addr}{o:Obj}(a:b∈fp)(e:h.get? b=some o):(b,o)∈pinsAt fp h:=List.mem_filterMap.mpr ⟨b,a,by rw[e];rfl⟩
theorem qej{fp:List Addr}{h:Heap}{p:Addr×Obj}(a:p∈pinsAt fp h):p.1∈fp/\h.get? p.1=some p.2:=by
 obtain⟨b,c,e⟩:=List.mem_filterMap.mp a
 cases q:h.get? b with
 |none=>rw[q]at e;cases e
 |some o =>
  rw[q]at e
  have d:(b,o)=p:=Option.some.inj e
  subst d
  exact⟨c,q⟩
theorem Inv.pinned{pins:List (Addr×Obj)}{a:St}{H:Hp}{s:Shared}{fp:List Addr}(I:Inv X pins a H s)(h:∀b∈fp,FpOk X pins H b)(i:∀b∈fp,∃o,s.heap.get? b=some o/\∀v,o.data≠.cell v):Inv X (pins++pinsAt fp s.heap) a H s :=
 I.pins_of λp j=>(wg.mp j).elim (λz=>I.pin p (wU _ z)) λz=>by
  obtain⟨c,e⟩:=qej z
  obtain⟨l,m,n,_⟩:=h p.1 c
  obtain⟨o,f,d⟩:=i p.1 c
  rw[e]at f;cases f
  exact⟨e,l,m,n,d⟩
theorem Inv.unpinned{pins pl:List (Addr×Obj)}{a:St}{H:Hp}{s:Shared}(I:Inv X (pins++pl) a H s):Inv X pins a H s:=I.pins_of λp b=>I.pin p (wU _ (wc _ b))
theorem qjx{iter:Expr}{body:List Stmt}{Y:TI}{g:TG}{Z:TS}{pos:Pos}(E:PassesOwn (model X.prog X.w) X.A X.env X.xe)(hc:X.calm=true)(hi:PI X tg iter Y)(hg:PG X tg g)(c:PSs X body Z)(hs:∀x,foldedSetIterable iter X.env x=pure x:=by intro _;rfl):PS X (.For tg iter body [] pos) (tFor Y g Z):=by
 intro pins s σ H D I h
 refine wpAny_For (thn (hi pins s σ H _ I h) λv s1 h1=>thn h1 λa0 s2 h2=>?_) hs
 obtain⟨it,fp,tn,J,H2,e,I2,T,O,f2,W,⟨m0,w0⟩,F⟩:=h2
 subst e
 have j:∀{H':Hp},(∀b∈fp,H' b=none)->∀b∈fp,FpOk X pins H' b:=λhn b c=>⟨hn b c,(f2 b c).2⟩
 refine codeAny_forLoop_any (λn s'=>∃i l H',Inv X pins l H' s'/\tn i s'.heap/\(∀b∈fp,H' b=none)/\W i n l H') ?_ m0 ⟨0,σ,H2,I2,O,λb c=>(f2 b c).1,w0⟩
 rintro n s3 ⟨i,p,H3,I3,K,L,w3⟩
 rcases F i n p H3 w3 with ⟨stop,qn⟩|⟨go,N,hN,step⟩
 .refine uS E (thn (T.done X rfl rfl rfl hc i pins s3 p H3 X.xe I3 (j L) K stop) λr s4 ⟨P,I4⟩=>?_)
  subst P
  exact wpAny_execs_nil ⟨p,H3,I4,qn⟩
 .refine uS E (thn (T.item X rfl rfl rfl hc i pins s3 p H3 X.xe I3 (j L) K go) λr s4 ⟨u,P,h4⟩=>?_)
  subst P
  refine uS E (thn h4 λ_ s5 ⟨x,H5,I5,r5,y5,C,Q⟩=>?_)
  have R:=I5.pinned (j Q) (T.obj _ _ C)
  refine uS E (thn (hg _ s5 p H5 x u _ R r5 (step x H5 y5)) λ_ s6 ⟨S,H6,I6,q6⟩=>?_)
  refine uS E (thn (c _ s6 S H6 _ I6 q6) λf U B=>?_)
  have q:∀{a:St} {y:Hp},Inv X (pins++pinsAt fp s5.heap) a y U->N a y->∃m,m<n/\∃i l H',Inv X pins l H' U/\tn i U.heap/\(∀b∈fp,H' b=none)/\W i m l H':=λ{a y} z M=>by
   obtain⟨m',hm,w7⟩:=hN a y M
   refine⟨m',hm,i+1,a,y,z.unpinned,T.keep _ _ _ C λb c o e=>(z.pin (b,o) (wU _ (wU _ (qU c e)))).1,λb c=>?_,w7⟩
   obtain⟨o,e,d⟩:=T.obj _ _ C b c
   exact(z.pin (b,o) (wU _ (wU _ (qU c e)))).2.1
  cases f with
  |next=>obtain⟨a,y,z,M⟩:=B;exact q z M
  |cont=>obtain⟨a,y,z,M⟩:=B;exact q z M
  |brk=>obtain⟨a,y,z,B⟩:=B;exact⟨a,y,z.unpinned,B⟩
  |ret v=>obtain⟨x7,a,y,z,r7,B⟩:=B;exact⟨x7,a,y,z.unpinned,r7,B⟩
end
end L2
namespace L2
open PySem PySem.Spec PyProof.Rows
noncomputable abbrev R2:=V->V->Hp->VK->Prop
noncomputable def OpR(X:Cx)(f:Value->Value->Sem Value)(r:R2):Prop :=
 ∀(pins:List (Addr×Obj)) (s:Shared) (a:St) (H:Hp) (x y:V) (v u:Value) (Q:VK),Inv X pins a H s->RelV x v->RelV y u->r x y H Q ->
  wpAny (model X.prog X.w) X.A (f v u) (EP X pins a Q) X.xe s
noncomputable def UnR(X:Cx)(f:Value->Sem Value)(r:V->Hp->VK->Prop):Prop :=
 ∀(pins:List (Addr×Obj)) (s:Shared) (a:St) (H:Hp) (x:V) (v:Value) (Q:VK),Inv X pins a H s->RelV x v->r x H Q ->
  wpAny (model X.prog X.w) X.A (f v) (EP X pins a Q) X.xe s
noncomputable def CallR(X:Cx)(f:Value)(r:List V->Hp->VK->Prop):Prop :=
 ∀(pins:List (Addr×Obj)) (s:Shared) (a:St) (H:Hp) (xs:List V) (us:List Value) (Q:VK),Inv X pins a H s->Vals xs us->r xs H Q ->
  wpAny (model X.prog X.w) X.A (call f us) (EP X pins a Q) X.xe s
noncomputable def TruR(X:Cx)(r:V->Hp->(Bool->Hp->Prop)->Prop):Prop :=
 ∀(pins:List (Addr×Obj)) (s:Shared) (a:St) (H:Hp) (x:V) (v:Value) (Q:Bool->Hp->Prop),Inv X pins a H s->RelV x v->r x H Q ->
  wpAny (model X.prog X.w) X.A (truthy v) (TP X pins a Q) X.xe s
noncomputable def tOp(r:R2)(b c:TE):TE:=λa H Q=>b a H λx d=>c a d λy H2=>r x y H2 Q
noncomputable def tUn(r:V->Hp->VK->Prop)(a:TE):TE:=λb H Q=>a b H λx c=>r x c Q
noncomputable def rI(C:Int->Int->Prop)(g:Int->Int->V):R2:=λx y H Q=>∃i j,x=.int i/\y=.int j/\C i j/\Q (g i j) H
noncomputable def rI0(g:Int->Int->V):R2:=λx y H Q=>∃i j,x=.int i/\y=.int j/\Q (g i j) H
def rU(g:Int->V):V->Hp->VK->Prop:=λx H Q=>∃i,x=.int i/\Q (g i) H
section
variable{X:Cx}{a b c:Expr}{ta tb tc:TE}{pos:Pos}
theorem binT(ha:PE X a ta)(l:PE X b tb){pins:List (Addr×Obj)}{s:Shared}{d:St}{H:Hp}{R:V->V->Hp->Prop}(I:Inv X pins d H s)(h:ta d H λx j=>tb d j λy H2=>R x y H2){Q:Value->Shared->Prop}{f:Value->Value->Sem Value}(m:∀v u s2 x y H2,Inv X pins d H2 s2->RelV x v->RelV y u->R x y H2->wpAny (model X.prog X.w) X.A (f v u) Q X.xe s2):
  wpAny (model X.prog X.w) X.A (eval a X.env) (λv e=>wpAny (model X.prog X.w) X.A (eval b X.env) (λu i=>wpAny (model X.prog X.w) X.A (f v u) Q X.xe i) X.xe e) X.xe s:=by
 refine thn (ha pins s d H _ I h) λv s1 ⟨x,j,n,o,q1⟩=>?_
 refine thn (l pins s1 d j _ n q1) λu s2 ⟨y,H2,p,q,q2⟩=>?_
 exact m v u s2 x y H2 p o q q2
theorem qk4{op:Operator}{r:R2}(d:OpR X (binaryOp op) r)(ha:PE X a ta)(e:PE X b tb):PE X (.BinOp a op b pos) (tOp r ta tb):=by
 intro pins s f H Q I h
 exact wpAny_BinOp (binT ha e I h λv u s2 x y H2 i rx j q=>d pins s2 f H2 x y v u Q i rx j q)
theorem qk5{op:UnaryOp}{r:V->Hp->VK->Prop}(e:UnR X (unaryOp op) r)(ha:PE X a ta):PE X (.UnaryOp op a pos) (tUn r ta):=by
 intro pins s d H Q I h
 exact UnaryOp_ (thn (ha pins s d H _ I h) λv s1 ⟨x,f,i,j,q1⟩=>e pins s1 d f x v Q i j q1)
theorem opI{f:Value->Value->Sem Value}{C:Int->Int->Prop}{g:Int->Int->Int}(d:∀(i j:Int) (t u:Tok) (s:Shared) (Q:Value->Shared->Prop) (E:Value->Shared->Prop),C i j->Q (.int (g i j) s.toks) {s with toks:=s.toks+1}->wpAny (model X.prog X.w) X.A (f (.int i t) (.int j u)) Q E s):
  OpR X f (rI C λi j=>.int (g i j)):=by
 intro pins s m H x y v u Q I rx e h
 obtain⟨i,j,rfl,rfl,l,q⟩:=h
 obtain⟨t,rfl⟩:=rx
 obtain⟨t',rfl⟩:=e
 exact d i j t t' s _ _ l ⟨.int (g i j),H,I.tok _,⟨_,rfl⟩,q⟩
theorem opB0{f:Value->Value->Sem Value}{g:Int->Int->Bool}(d:∀(i j:Int) (t u:Tok) (s:Shared) (Q:Value->Shared->Prop) (E:Value->Shared->Prop),Q (.bool (g i j)) s->wpAny (model X.prog X.w) X.A (f (.int i t) (.int j u)) Q E s):
  OpR X f (rI0 λi j=>.bl (g i j)):=by
 intro pins s l H x y v u Q I rx e h
 obtain⟨i,j,rfl,rfl,q⟩:=h
 obtain⟨t,rfl⟩:=rx
 obtain⟨t',rfl⟩:=e
 exact d i j t t' s _ _ ⟨.bl (g i j),H,I,rfl,q⟩
theorem qcr(k:Nat):(0:Int)<=2^k:=by
 rw[two_pow_cast]
 exact Int.natCast_nonneg _
theorem qjy:OpR X (binaryOp .RShift) (rI (λ_ j=>0<=j) λi j=>.int (i / 2^j.toNat)):=opI λi j _ _ _ _ _ d q =>
 rshift_int d (by rw[u4 i (qcr _)];exact q)
theorem unI{f:Value->Sem Value}{g:Int->Int}(d:∀(i:Int) (t:Tok) (s:Shared) (Q:Value->Shared->Prop) (E:Value->Shared->Prop),Q (.int (g i) s.toks) {s with toks:=s.toks+1}->wpAny (model X.prog X.w) X.A (f (.int i t)) Q E s):
  UnR X f (rU λi=>.int (g i)):=by
 intro pins s e H x v Q I rx h
 obtain⟨i,rfl,q⟩:=h
 obtain⟨t,rfl⟩:=rx
 exact d i t s _ _ ⟨.int (g i),H,I.tok _,⟨_,rfl⟩,q⟩
theorem qjz:UnR X (unaryOp .USub) (rU λi=>.int (-i)):=unI λ_ _ _ _ _ q=>neg_int q
end
section
variable{X:Cx}{a b c:Expr}{ta tb tc:TE}{pos:Pos}
theorem qe7{pins:List (Addr×Obj)}{d:St}{H:Hp}{s:Shared}{Q:VK}{k f:Bool}(I:Inv X pins d H s)(q:Q (.bl k) H)(e:k=f):EP X pins d Q (.bool f) s:=by
 subst e
 exact⟨.bl k,H,I,rfl,q⟩
theorem qk6:OpR X (compareOp .Lt) (rI0 λi j=>.bl (decide (i<j))):=opB0 λ_ _ _ _ _ _ _ q=>lt_int q
theorem qk7:OpR X (compareOp .LtE) (rI0 λi j=>.bl (decide (i<=j))):=opB0 λ_ _ _ _ _ _ _ q=>le_int q
theorem qk8:OpR X (compareOp .Gt) (rI0 λi j=>.bl (decide (j<i))):=opB0 λ_ _ _ _ _ _ _ q=>gt_int q
theorem qk9:OpR X (compareOp .GtE) (rI0 λi j=>.bl (decide (j<=i))):=opB0 λ_ _ _ _ _ _ _ q=>ge_int q
theorem qjA:OpR X (compareOp .Is) (λx y H Q=>y=.non/\Q (.bl (decide (x=.non))) H):=by
 intro pins s e H x y v u Q I rx d h
 obtain⟨rfl,q⟩:=h
 cases d
 refine is_none_gen (qe7 I q ?_)
 cases x <;> first
  | (cases rx;rfl)
  | (obtain⟨t,rfl⟩:=rx;rfl)
theorem qhB:OpR X (compareOp .IsNot) (λx y H Q=>y=.non/\Q (.bl (!decide (x=.non))) H):=by
 intro pins s e H x y v u Q I rx d h
 obtain⟨rfl,q⟩:=h
 cases d
 refine isnot_none_gen (qe7 I q ?_)
 cases x <;> first
  | (cases rx;rfl)
  | (obtain⟨t,rfl⟩:=rx;rfl)
theorem qhC{op:CmpOp}{r:R2}(d:OpR X (compareOp op) r)(ha:PE X a ta)(e:PE X b tb)(hm:behindInMarks op b=false):PE X (.Compare a [op] [b] pos) (tOp r ta tb):=by
 intro pins s f H Q I h
 exact wpAny_Compare1 (binT ha e I h λv u s2 x y H2 i rx j q=>d pins s2 f H2 x y v u Q i rx j q) hm
noncomputable def tTest(t:TE):TT:=λd H Q=>t d H λx H'=>∃k,x=.bl k/\Q k H'
theorem qhD{op:CmpOp}{r:R2}(f:OpR X (compareOp op) r)(ha:PE X a ta)(i:PE X b tb)(hm:behindInMarks op b=false):PT X (.Compare a [op] [b] pos) (tTest (tOp r ta tb)):=by
 intro pins s d H Q I h
 refine wpAny_isTrue_Compare1 (thn (ha pins s d H _ I h) λv s1 ⟨x,j,l,m,q1⟩=>thn (i pins s1 d j _ l q1) λu s2 ⟨y,H2,n,o,q2⟩ =>
  thn (f pins s2 d H2 x y v u _ n m o q2) λc A ⟨z,H3,p,q,k,e,w⟩=>?_) hm
 subst e
 cases q
 exact vV ⟨H3,p,w⟩
noncomputable def tChain(r e:R2)(ta tb tc:TE):TE:=λd H Q=>ta d H λx f=>tb d f λy H2=>r x y H2 λz H3=>∃k,z=.bl k /\
 (if k=true then tc d H3 λh i=>e y h i Q else Q (.bl false) H3)
theorem qe8{op f:CmpOp}{r l:R2}(p:OpR X (compareOp op) r)(j:OpR X (compareOp f) l)(ha:PE X a ta)(q:PE X b tb)(w:PE X c tc)(hm:lastMarks [op,f] [b,c]=false:=by with_unfolding_all rfl):PE X (.Compare a [op,f] [b,c] pos) (tChain r l ta tb tc):=by
 intro pins s i H Q I h
 refine Compare_chain (thn (ha pins s i H _ I h) λv s1 ⟨x,A,B,C,q1⟩=>chain_link (thn (q pins s1 i A _ B q1) λu s2 ⟨y,H2,E,m,q2⟩ =>
  thn (p pins s2 i H2 x y v u _ E C m q2) λd F ⟨z,H3,n,J,k,e,o⟩=>?_)) hm
 subst e
 cases J
 refine vV ?_
 cases k with
 |false=>exact ite_ff ⟨.bl false,H3,n,rfl,o⟩
 |true=>exact ite_tt (chain_last (thn (w pins F i H3 _ n o) λK L ⟨M,N,O,P,R⟩=>j pins L i N y M u K Q O m P R))
theorem qe9{op f:CmpOp}{r l:R2}(p:OpR X (compareOp op) r)(j:OpR X (compareOp f) l)(ha:PE X a ta)(q:PE X b tb)(w:PE X c tc)(hm:lastMarks [op,f] [b,c]=false:=by with_unfolding_all rfl):PT X (.Compare a [op,f] [b,c] pos) (tTest (tChain r l ta tb tc)):=by
 intro pins s i H Q I h
 refine isTrue_chain (thn (ha pins s i H _ I h) λv s1 ⟨x,A,B,C,q1⟩=>test_link (thn (q pins s1 i A _ B q1) λu s2 ⟨y,H2,E,m,q2⟩ =>
  thn (p pins s2 i H2 x y v u _ E C m q2) λd F ⟨z,H3,n,J,k,e,o⟩=>?_)) hm
 subst e
 cases J
 refine vV ?_
 cases k with
 |false =>
  obtain⟨k',K,L⟩:=o
  cases K
  exact ite_ff ⟨H3,n,L⟩
 |true =>
  refine ite_tt (test_last (thn (w pins F i H3 _ n o) λM N ⟨O,P,R,S,U⟩=>thn (j pins N i P y O u M _ R m S U) λd' s5 ⟨z2,W,Y,Z,k2,e2,q5⟩=>?_))
  subst e2
  cases Z
  exact vV ⟨W,Y,q5⟩
noncomputable def TruV(K:PySem.W.Frag)(x:V)(H:Hp)(k:Bool):Prop :=
 match x with
 | .non=>k=false
 | .bl b=>k=b
 | .int i=>k=(i != 0)
 | .str y=>y.length<=sizeLine/\k=((y.length:Int) != 0)
 | .byt y=>y.size<=sizeLine/\k=((y.size:Int) != 0)
 | .ref p=>(∃xs,SqL K H p xs/\k=!xs.isEmpty)\/(∃xs,SqT K H p xs/\k=!xs.isEmpty)\/∃kvs,H p=some (.dK kvs)/\k=!kvs.isEmpty
 |_=>False
theorem qcs{κ:Type}{kvs:List (κ×V)}{vs:List (κ×Value)}(r:KV kvs vs):(!vs.isEmpty)=!kvs.isEmpty:=by
 cases r <;> rfl
theorem jz{xs:List V}{its:List Value}(r:Vals xs its):(!its.toArray.isEmpty)=!xs.isEmpty:=by
 cases r <;> simp
theorem line63:(sizeLine:Nat)<2^63:=by rw[vJ];decide
theorem qjB:TruR X (λx H Q=>∃k,TruV X.K x H k/\Q k H):=by
 intro pins s n H x v Q I rx h
 obtain⟨k,e,q⟩:=h
 have o:=line63
 have u:sizeLine=16777216:=vJ
 cases x with
 |non =>
  cases rx
  have d:k=false:=e
  subst d
  exact truthy_none ⟨H,I,q⟩
 |bl b =>
  cases rx
  have d:k=b:=e
  subst d
  exact vV ⟨H,I,q⟩
 |int i =>
  obtain⟨t,rfl⟩:=rx
  have d:k=(i != 0):=e
  subst d
  exact PySem.P.truthy_int ⟨H,I,q⟩
 |str y =>
  obtain⟨t,rfl⟩:=rx
  obtain⟨j,d⟩:y.length<=sizeLine/\k=((y.length:Int) != 0):=e
  subst d
  exact PySem.P.truthy_str (by lia) ⟨H,I.tok _,q⟩
 |byt y =>
  obtain⟨t,rfl⟩:=rx
  obtain⟨j,d⟩:y.size<=sizeLine/\k=((y.size:Int) != 0):=e
  subst d
  exact PySem.W.truthy_bytes (by lia) ⟨H,I.tok _,q⟩
 |ref p =>
  cases rx
  have d:(∃xs,SqL X.K H p xs/\k=!xs.isEmpty)\/(∃xs,SqT X.K H p xs/\k=!xs.isEmpty)\/∃kvs,H p=some (.dK kvs)/\k=!kvs.isEmpty:=e
  rcases d with ⟨xs,hx,d⟩|⟨xs,hx,d⟩|⟨kvs,hx,d⟩
  .subst d
   obtain⟨its,r,pl,hz⟩:=I.list hx
   have f:=r.length
   exact wpAny_truthy_list pl.isList (by simp only[wJ];lia) ⟨H,I.tok _,by rw[jz r];exact q⟩
  .subst d
   obtain⟨its,r,pl,hz⟩:=I.tuple hx
   have f:=r.length
   exact truthy_tuple pl (by simp only[wJ];lia) ⟨H,I.tok _,by rw[jz r];exact q⟩
  .subst d
   obtain⟨hz,l,vs,r,m⟩:kvs.length<=sizeLine/\(p == sysModules)=false/\∃vs,KV kvs vs/\s.heap.DictOf (mixKind X.prog X.w) p vs:=I.hok p _ hx
   have f:kvs.length=vs.length:=Paired.length r
   exact wpAny_truthy_dict l m (by lia) ⟨H,I.tok _,by rw[qcs r];exact q⟩
 |_=>exact(show False from e).elim
theorem qfa(ha:PE X a ta)(f:∀d,isTrue a X.env d=(do let v <-d;standAt a.pos;holding [v] (truthy v))):
  PT X a (λe H Q=>ta e H λx H'=>∃k,TruV X.K x H' k/\Q k H'):=by
 intro pins s e H Q I h
 exact isTrue_plain (thn (ha pins s e H _ I h) λv s1 ⟨x,i,j,l,q1⟩=>qjB pins s1 e i x v Q j l q1) (f _)
theorem qct:OpR X (binaryOp .Add) (λx y H Q=>∃i j,x=.str i/\y=.str j/\i.length+j.length<=sizeLine/\Q (.str (i++j)) H):=by
 intro pins s e H x y v u Q I rx d h
 obtain⟨i,j,rfl,rfl,hz,q⟩:=h
 obtain⟨t,rfl⟩:=rx
 obtain⟨t',rfl⟩:=d
 exact add_str (λt' tk=>⟨.str (i++j),H,I.tok _,⟨_,rfl⟩,q⟩) hz
theorem vals1{x:V}{us:List Value}(r:Vals [x] us):∃u,us=[u]/\RelV x u:=by
 cases r with
 |cons d e=>cases e;exact⟨_,rfl,d⟩
theorem vals2{x y:V}{us:List Value}(r:Vals [x,y] us):∃u d,us=[u,d]/\RelV x u/\RelV y d:=by
 cases r with
 |cons e f =>
  cases f with
  |cons h i=>cases i;exact⟨_,_,rfl,e,h⟩
theorem qfb:CallR X (.builtin "abs") (λxs H Q=>∃i,xs=[.int i]/\Q (.int (if i<0 then -i else i)) H):=by
 intro pins s d H xs us Q I r h
 obtain⟨i,rfl,q⟩:=h
 obtain⟨u,rfl,t,rfl⟩:=vals1 r
 exact call_abs_int λu tk=>⟨.int (if i<0 then -i else i),H,I.tok _,⟨_,rfl⟩,q⟩
theorem qek(e:X.calm=true):CallR X (.builtin "max") (λxs H Q=>∃i j,xs=[.int i,.int j]/\Q (.int (if j>i then j else i)) H):=by
 intro pins s f H xs us Q I r h
 obtain⟨i,j,rfl,q⟩:=h
 obtain⟨u,l,rfl,⟨t,rfl⟩,⟨t',rfl⟩⟩:=vals2 r
 refine max_two_ints (I.ok.hd e) λh' tk k=>⟨_,H,I.kept k,?_,q⟩
 by_cases d:j>i
 .rw [wL d,wL d];exact⟨_,rfl⟩
 .rw [wK d,wK d];exact⟨_,rfl⟩
theorem qel(e:X.calm=true):CallR X (.builtin "min") (λxs H Q=>∃i j,xs=[.int i,.int j]/\Q (.int (if j<i then j else i)) H):=by
 intro pins s f H xs us Q I r h
 obtain⟨i,j,rfl,q⟩:=h
 obtain⟨u,l,rfl,⟨t,rfl⟩,⟨t',rfl⟩⟩:=vals2 r
 refine min_two_ints (I.ok.hd e) λh' tk k=>⟨_,H,I.kept k,?_,q⟩
 by_cases d:j<i
 .rw [wL d,wL d];exact⟨_,rfl⟩
 .rw [wK d,wK d];exact⟨_,rfl⟩
noncomputable def LenV(K:PySem.W.Frag)(x:V)(H:Hp)(n:Nat):Prop :=
 match x with
 | .str y=>y.length<=sizeLine/\n=y.length
 | .byt y=>y.size<=sizeLine/\n=y.size
 | .ref p=>(∃xs,SqL K H p xs/\n=xs.length)\/∃xs,SqT K H p xs/\n=xs.length
 |_=>False
theorem qfc:CallR X (.builtin "len") (λxs H Q=>∃x n,xs=[x]/\LenV X.K x H n/\Q (.int n) H):=by
 intro pins s l H xs us Q I r h
 obtain⟨x,n,rfl,e,q⟩:=h
 obtain⟨u,rfl,rx⟩:=vals1 r
 have m:=line63
 have o:sizeLine=16777216:=vJ
 cases x with
 |str y =>
  obtain⟨t,rfl⟩:=rx
  obtain⟨j,f⟩:y.length<=sizeLine/\n=y.length:=e
  subst f
  exact len_str (by lia) ⟨.int _,H,I.tok _,⟨_,rfl⟩,q⟩
 |byt y =>
  obtain⟨t,rfl⟩:=rx
  obtain⟨j,f⟩:y.size<=sizeLine/\n=y.size:=e
  subst f
  exact PySem.W.len_bytes (by lia) ⟨.int _,H,I.tok _,⟨_,rfl⟩,q⟩
 |ref p =>
  cases rx
  have f:(∃xs,SqL X.K H p xs/\n=xs.length)\/∃xs,SqT X.K H p xs/\n=xs.length:=e
  rcases f with ⟨xs,hx,f⟩|⟨xs,hx,f⟩
  .subst f
   obtain⟨its,i,pl,hz⟩:=I.list hx
   have d:=i.length
   exact Calls.call_len_list pl.isList (by simp only[wJ];lia) ⟨.int xs.length,H,I.tok _,⟨_,by simp only[wJ];rw[d]⟩,q⟩
  .subst f
   obtain⟨its,i,pl,hz⟩:=I.tuple hx
   have d:=i.length
   exact len_tuple pl (by simp only[wJ];lia) ⟨.int xs.length,H,I.tok _,⟨_,by simp only[wJ];rw[d]⟩,q⟩
 |_=>exact(show False from e).elim
end
end L2
namespace L2
open PySem PySem.Spec PyProof.Rows
structure ObjM (h:Heap) (x dx C:Addr) (mA:Str->Option Value):Prop where
 obj:h.get? x=some (PySem.W.instObj C dx)
 ns:h.Ns1 dx mA
 ne:dx≠x
theorem qem{h:Heap}{dx:Addr}{mA:Str->Option Value}(n:h.Ns1 dx mA):∃od,h.get? dx=some od/\∀name,PySem.W.lookIn name od=some (mA name):=by
 obtain⟨o,es,ep,c,hd,d,_,hm⟩:=n
 refine⟨o,c,λname=>?_⟩
 have e:=hm name
 unfold nsFind findBy at e
 rw[<-Array.find?_toList]at e
 unfold PySem.W.lookIn
 rw[hd]
 dsimp only
 split
 .rename_i y q
  rw[q]at e
  exact congrArg some e
 .rename_i q
  rw[q]at e
  have a:es.toList.any (·.refKey)=false:=by
   rw[List.any_eq_false]
   intro y f
   obtain⟨z,t,b⟩:=d y (Array.mem_toList_iff.mp f)
   simp[DictEntry.refKey,b]
  have i:¬es.toList.any (·.refKey)=true:=by rw[a];exact wY
  rw[wK i]
  exact congrArg some e
theorem ObjM.look{h:Heap}{x dx C:Addr}{mA:Str->Option Value}(I:ObjM h x dx C mA):∃od,PySem.W.InstAt h x (PySem.W.instObj C dx) C (some od)/\∀name,PySem.W.lookIn name od=some (mA name) :=
 let ⟨od,a,b⟩:=qem I.ns
 ⟨od,⟨I.obj,rfl,rfl,a⟩,b⟩
theorem RelO.some_of{v:V}{o:Option Value}(r:RelO (some v) o):∃u,o=some u/\RelV v u:=by
 cases o with
 |none=>exact(show False from r).elim
 |some u=>exact⟨u,rfl,r⟩
section
variable{P:Program}{w:World}{H H':Hp}{h h':Heap}{a C dx:Addr}{fs fs':List (Str×V)}
theorem qhE(hok:HOk P w H h)(e:H a=some (.ins C dx fs)):∃mA,ObjM h a dx C mA/\(∀f,RelO (fs.lookup f) (mA f))/\PySem.Within mA (fs.map (·.1))/\fs.length<=1000/\H dx=some (.own a):=by
 obtain⟨d,z,ne,ob,mA,n,r,q⟩:=(show ObjOk P w H h a (.ins C dx fs)from hok a _ e)
 exact⟨mA,⟨ob,n,ne⟩,r,q,z,d⟩
end
structure Cls (K:PySem.W.Frag) (C:Addr):Prop where
 pg:PySem.W.plainGet K C Str.empty=true
 hd:PySem.W.hasDictIn K C=true
 po:PySem.W.plainOver K C=true
 sa:PySem.W.findIn K (.ref C) "__setattr__"=some (some (.builtin "object.__setattr__"))
theorem Cls.get{K:PySem.W.Frag}{C:Addr}(c:Cls K C)(f:Str):PySem.W.plainGet K C f=true:=c.pg
section
variable{X:Cx}{pins:List (Addr×Obj)}{σ:St}{H:Hp}{s:Shared}{A:Around}{E:Value->Shared->Prop}{Q:Value->Shared->Prop}{c:Value}{b:Bool}
inductive TyOf (K:PySem.W.Frag) (H:Hp):V->Value->Prop where
 |non:TyOf K H .non (.type "NoneType")
 |bl (x:Bool):TyOf K H (.bl x) (.type "bool")
 |int (i:Int):TyOf K H (.int i) (.type "int")
 |str (x:Str):TyOf K H (.str x) (.type "str")
 |flt (x:UInt64):TyOf K H (.flt x) (.type "float")
 |lst {a:Addr} {xs:List V} (e:H a=some (.lst xs)):TyOf K H (.ref a) (.type "list")
 |frz {a:Addr} {o:Obj} {xs:List V} (e:H a=some (.frz o (.lst xs))):TyOf K H (.ref a) (.type "list")
 |tup {a:Addr} {xs:List V} (e:H a=some (.tup xs)):TyOf K H (.ref a) (.type "tuple")
 |dK {a:Addr} {kvs:List (Key×V)} (e:H a=some (.dK kvs)):TyOf K H (.ref a) (.type "dict")
 |dT {a:Addr} {kvs:List (List Key×V)} (e:H a=some (.dT kvs)):TyOf K H (.ref a) (.type "dict")
 |ins {a C dx:Addr} {fs:List (Str×V)} (e:H a=some (.ins C dx fs)) (cl:Cls K C) (ha:PySem.W.findIn K (.ref C) "__class__"=some (some (.builtin "object.__class__")))
   (hn:PySem.W.specialIn K (.builtin "object.__class__") "__get__"=some (some (.builtin "getset_descriptor.__get__"))) (htk:PySem.W.takesIn K (.builtin "object.__class__")=some true)
   (hm:PySem.W.mroIn K C (.type "object")=some true):TyOf K H (.ref a) (.ref C)
theorem qen{x:V}{u t:Value}(I:Inv X pins σ H s)(rx:RelV x u)(ty:TyOf X.K H x t)(e:PySem.W.kitOne X.K t c=some b)(h:∀tk,Q (.bool b) {s with toks:=tk}):
  wpAny (model X.prog X.w) A (call (.builtin "isinstance") [u,c]) Q E s:=by
 cases ty with
 |non=>cases (show u=Value.none from rx);exact wh PySem.W.kitx_none I.kIn True.intro e (λz=>nomatch z) h
 |bl y=>cases (show u=Value.bool y from rx);exact wh PySem.W.kitx_bool I.kIn True.intro e (λz=>nomatch z) h
 |int i=>obtain⟨t,q⟩:=(show ∃t,u=Value.int i t from rx);cases q;exact wh PySem.W.kitx_int I.kIn True.intro e (λz=>nomatch z) h
 |str y=>obtain⟨t,q⟩:=(show ∃t,u=Value.str y t from rx);cases q;exact wh PySem.W.kitx_str I.kIn True.intro e (λz=>nomatch z) h
 |flt y=>obtain⟨t,q⟩:=(show ∃t,u=Value.float y t from rx);cases q;exact wh PySem.W.kitx_float I.kIn True.intro e (λz=>nomatch z) h
 | @lst a xs d =>
  cases (show u=Value.ref a from rx)
  obtain⟨_,_,n,_,f⟩:=(show ObjOk X.prog X.w H s.heap a (.lst xs)from I.hok a _ d)
  exact wh PySem.W.kitx_list I.kIn ⟨_,f,rfl⟩ e (λz=>nomatch z) h
 | @frz a ob xs d =>
  cases (show u=Value.ref a from rx)
  obtain⟨_,_,_,n,_,f⟩:=(show ObjOk X.prog X.w H s.heap a (.frz ob (.lst xs))from I.hok a _ d)
  exact wh PySem.W.kitx_list I.kIn ⟨_,f,rfl⟩ e (λz=>nomatch z) h
 | @tup a xs d =>
  cases (show u=Value.ref a from rx)
  obtain⟨_,_,_,p,_⟩:=(show ObjOk X.prog X.w H s.heap a (.tup xs)from I.hok a _ d)
  obtain⟨o,f,j,_⟩:=p
  exact wh PySem.W.kitx_tuple I.kIn ⟨o,f,j⟩ e (λz=>nomatch z) h
 | @dK a kvs d =>
  cases (show u=Value.ref a from rx)
  obtain⟨_,_,vs,_,p⟩:=(show ObjOk X.prog X.w H s.heap a (.dK kvs)from I.hok a _ d)
  obtain⟨o,es,ep,f,j,_⟩:=p
  exact wh PySem.W.kitx_dict I.kIn ⟨o,f,j.1⟩ e (λz=>nomatch z) h
 | @dT a kvs d =>
  cases (show u=Value.ref a from rx)
  obtain⟨_,_,xs,_,o,es,ep,f,j,_⟩:=(show ObjOk X.prog X.w H s.heap a (.dT kvs)from I.hok a _ d)
  exact wh PySem.W.kitx_dict I.kIn ⟨o,f,j.1⟩ e (λz=>nomatch z) h
 | @ins a C dx fs d cl ha hn htk hm =>
  cases (show u=Value.ref a from rx)
  obtain⟨mA,O,_⟩:=qhE I.hok d
  obtain⟨od,J,_⟩:=O.look
  exact wh (PySem.W.kitx_own (cl.get _) cl.hd ha hn htk hm) I.kIn J e (λz=>nomatch z) h
end
end L2
namespace L2
open PySem PySem.Spec PyProof.Rows
structure Room (k:Nat) (A:Around):Prop where
 hd:A.handled=none
 dp:A.depth+3*k+5<recursionLimit
 un:A.units+16*k+200<cLine
theorem Room.mono{j k:Nat}{A:Around}(r:Room k A)(h:j<=k):Room j A:=⟨r.hd,by have:=r.dp;lia,by have:=r.un;lia⟩
theorem Room.deeper{k:Nat}{A:Around}(r:Room (k+1) A)(env:Env):Room k (A.deeper env) :=
 ⟨r.hd,by have:=r.dp;show A.depth+1+3*k+5<_;lia,by have:=r.un;show A.units+3+16*k+200<_;lia⟩
theorem Room.depth{k:Nat}{A:Around}(r:Room k A):A.depth<recursionLimit:=by have:=r.dp;lia
theorem Room.units{k:Nat}{A:Around}(r:Room k A):A.units+64<cLine:=by have:=r.un;lia
noncomputable def tNil:TA:=λ_ H Q=>Q [] H
noncomputable def tCons(b:TE)(tr:TA):TA:=λa H Q=>b a H λx c=>tr a c λxs H2=>Q (x::xs) H2
section
variable{X:Cx}{e:Expr}{es:List Expr}{te:TE}{t:TA}{pos:Pos}
theorem qcu:PA X [] tNil:=λ_ _ _ _ H Q I h=>uZ ⟨[],H,I,.nil,h⟩
theorem js(ha:PE X e te)(b:PA X es t)(c:starEach (e::es) X.env=(false,eval e X.env)::starEach es X.env:=by rfl):PA X (e::es) (tCons te t):=by
 intro pos pins s a H Q I h
 rw[c]
 show wpAny _ _ (spliced ((false,eval e X.env)::backTo pos (starEach es X.env))) _ _ s
 refine vw (thn (ha pins s a H _ I h) λu s1 ⟨x,d,f,i,q1⟩=>?_)
 exact thn (b pos pins s1 a d _ f q1) λus s2 ⟨xs,H2,j,l,q2⟩=>⟨x::xs,H2,j,.cons i l,q2⟩
noncomputable def tTup(t:TA):TE:=λb H Q=>t b H λxs a=>xs.length<=sizeLine/\∀p,a p=none->Q (.ref p) (upd a p (.tup xs))
noncomputable def tLst(t:TA):TE:=λb H Q=>t b H λxs a=>xs.length<=sizeLine/\∀p,a p=none->Q (.ref p) (upd a p (.lst xs))
theorem qjC{x1}(h:PA X es t):PE X (.Tuple es x1 pos) (tTup t):=by
 intro pins s d H Q I f
 refine wpAny_Tuple_spliced (thn (h pos pins s d H _ I f) λus s1 ⟨xs,a,c,r,z,q⟩=>⟨by rw[<-r.length];exact z,?_⟩)
 have i:a s1.heap.objs.size=none:=c.hok.fresh (wG _)
 refine⟨.ref s1.heap.objs.size,upd a s1.heap.objs.size (.tup xs),c.laid (t':=s1.toks) (λb u e=>wB _ e) (wG _) ?_,rfl,q _ i⟩
 exact⟨z,us,r,⟨_,wE _ rfl,rfl,_,rfl⟩,yp _ _⟩
theorem qjD(h:PA X es t):PE X (.List es pos) (tLst t):=by
 intro pins s d H Q I f
 refine wpAny_List_spliced (thn (h pos pins s d H _ I f) λus s1 ⟨xs,a,c,r,z,q⟩=>⟨by rw[<-r.length];exact z,?_⟩)
 have i:a s1.heap.objs.size=none:=c.hok.fresh (wG _)
 refine⟨.ref s1.heap.objs.size,upd a s1.heap.objs.size (.lst xs),c.laid (t':=s1.toks) (λb u e=>wB _ e) (wG _) ?_,rfl,q _ i⟩
 exact⟨z,us,0,r,wE _ rfl⟩
end
noncomputable abbrev Sp:=List V->Hp->VK->XK->Prop
noncomputable abbrev CXT:=List Env->Hp->Shared->XK->Value->Shared->Prop
structure Env0 (P:Program) (w:World) (K:PySem.W.Frag) (mg:Str->Option Value) (base:Heap) (A:Around) (outer:List Env) (s:Shared) (H:Hp):Prop where
 frames:A.frames=some outer
 mod:Mod K mg base
 bs:∀b o,base.get? b=some o->s.heap.get? b=some o/\H b=none
 bsz:base.objs.size<=s.heap.objs.size
 funs:s.heap.FunFrames base outer
 frf:∀b∈frs outer,H b=none
 hok:HOk P w H s.heap
 bare:AllBare s.gens
 tab:∀c T,codeTab K c T=true->∃ps,H T=some (.tbl ps)
noncomputable def CE(outer:List Env)(P:Program)(w:World)(H:Hp)(s:Shared)(Q:VK)(u:Value)(s':Shared):Prop :=
 ∃v H',s'.os=s.os/\GK s.gens s'.gens/\Un (frs outer) [] H H' s.heap s'.heap/\HOk P w H' s'.heap/\RelV v u/\Q v H'
noncomputable def CR(CX:CXT)(outer:List Env)(P:Program)(w:World)(H:Hp)(s:Shared)(Q:VK)(E:XK)(r:Result)(s':Shared):Prop :=
 match r with
 | .ok (.ret u)=>CE outer P w H s Q u s'
 | .ok _=>False
 | .error e=>CX outer H s E e s'
structure FnOk (P:Program) (w:World) (K:PySem.W.Frag) (mg:Str->Option Value) (base:Heap) (CX:CXT) (k:Nat) (f:Addr) (fd:FuncData) (ps:List Str) (sp:Sp):Prop where
 len:∀vs H Q E,sp vs H Q E->vs.length=ps.length
 run:∀(A:Around) (outer:List Env) (s:Shared) (H:Hp) (args:Args) (us:List Value) (vs:List V) (Q:VK) (E:XK),Room k A->Env0 P w K mg base A outer s H->BindsTo s fd args (ps.zip us)->Vals vs us->sp vs H Q E ->
  codeAny (model P w) A (.call (.ref f) args) (CR CX outer P w H s Q E) s
section
variable{X:Cx}{pins:List (Addr×Obj)}{σ:St}{H:Hp}{s s':Shared}
theorem Inv.env0(I:Inv X pins σ H s):Env0 X.prog X.w X.K X.mg X.base X.A X.stack s H :=
 ⟨I.ok.frames,I.ok.mod,I.bs,vK I.ok.bsz I.sz,I.stack,I.stkFree,I.hok,I.bare.bare,λc T z=>let ⟨ps,e⟩:=I.ok.tab c T z;let ⟨m,a⟩:=I.base.tbls _ _ e;⟨_,a⟩⟩
theorem Inv.after{Q:VK}{u:Value}(I:Inv X pins σ H s)(h:CE X.stack X.prog X.w H s Q u s'):EP X pins σ Q u s':=by
 obtain⟨v,H',os,bare,un,hok,r,q⟩:=h
 obtain⟨c,g,d,t,a⟩:=s'
 obtain rfl:a=s.os:=os
 exact⟨v,H',I.call (h':=c) (g':=g) (d':=d) (t':=t) (ch:=[]) un hok bare (λb z=>absurd z (by simp)),r,q⟩
end
noncomputable def tCall(sp:Sp)(dvs:List V)(E:XK)(t:TA):TE:=λa H Q=>t a H λvs b=>sp (vs++dvs) b Q E
noncomputable def Binds(K:PySem.W.Frag)(fd:FuncData)(ps:List Str)(ds:List Value):Prop :=
 ∀(s:Shared) (us:List Value),K.In s.heap->(us++ds).length=ps.length->BindsTo s fd ⟨us,[]⟩ (ps.zip (us++ds))
theorem Binds.all{K:PySem.W.Frag}{fd:FuncData}{ps:List Str}(h:∀us:List Value,us.length=ps.length->bindArgs fd ⟨us,[]⟩=pure (ps.zip us)):Binds K fd ps []:=λs us _ a=>by
 rw[va]at a ⊢
 exact .of_eq (h us a)
def Passes(CX:CXT)(X:Cx)(E:XK):Prop:=∀(pins:List (Addr×Obj)) (a:St) (H:Hp) (s:Shared) (e:Value) (s':Shared),Inv X pins a H s->CX X.stack H s E e s'->X.xe e s'
section
variable{X:Cx}{CX:CXT}{k:Nat}{f C:Addr}{fd:FuncData}{ps:List Str}{sp:Sp}{dvs:List V}{ds:List Value}{E:XK}{x m:Str}{p pos apos:Pos}{e o:Expr}{es:List Expr}{ta:TE}{t:TA}
theorem qjE{pins:List (Addr×Obj)}{b:St}{H:Hp}{s:Shared}{Q:VK}{us:List Value}{vs:List V}(F:FnOk X.prog X.w X.K X.mg X.base CX k f fd ps sp)(d:Room k X.A)(i:Binds X.K fd ps ds)(hd:Vals dvs ds)(hx:Passes CX X E)(I:Inv X pins b H s)(r:Vals vs us)(h:sp (vs++dvs) H Q E):wpAny (model X.prog X.w) X.A (call (.ref f) us) (EP X pins b Q) X.xe s:=by
 have c:Vals (vs++dvs) (us++ds):=r.append hd
 have j:(us++ds).length=ps.length:=by rw[<-c.length];exact F.len _ _ _ _ h
 refine wpAny_call (ur (F.run X.A X.stack s H ⟨us,[]⟩ (us++ds) (vs++dvs) Q E d I.env0 (i s us I.kIn j) c h) λr s' a=>?_)
 cases r with
 |error e=>exact hx pins b H s e s' I a
 |ok l =>
  cases l with
  |ret u=>exact I.after a
  |next=>exact False.elim a
  |brk=>exact False.elim a
  |cont=>exact False.elim a
theorem qhF(F:FnOk X.prog X.w X.K X.mg X.base CX k f fd ps sp)(d:Room k X.A)(i:Gl X x)(hm:X.mg x=some (.ref f))(j:PySem.W.keepIn X.K (.ref f)=true)(l:Binds X.K fd ps ds)(hd:Vals dvs ds)(hx:Passes CX X E)(ha:PA X (e::es) t)(a:(x == ("__debug__":Str))=false:=by decide)(n:starEach (e::es) X.env=(false,eval e X.env)::starEach es X.env:=by rfl)(b:(backTo pos (starEach es X.env)).any (·.1)=false:=by rfl):
  PE X (.Call (.Name x p) (e::es) [] pos) (tCall sp dvs E t):=by
 intro pins s u H Q I h
 refine xN (qc9 I i hm ?_ a)
 refine PySem.W.callWith_K (h₀:=X.base) I.ok.mod.kin j (thn (ha pos pins s u H _ I h) λus s1 ⟨vs,v,c,r,q⟩=>⟨c.kIn,?_⟩) n b
 exact qjE F d l hd hx c r q
end
structure FnScope (N P:List Str) (sc:Scope):Prop where
 kind:sc.kind=.function
 co:sc.isCoroutine=false
 gen:sc.isGenerator=false
 nd:N.Nodup
 pre:N.take P.length=P
 par:∀x∈P,sc.names.lookup x=some .local\/sc.names.lookup x=some .cell
 nofree:∀y∈sc.names,y.2≠.free
theorem qap{kindOf:Str->Option NameKind}{x:Str}:∀{a:List (Str×Value)} {m:Str->Option Value},(∀v,(x,v)∉a)->bindL kindOf a m x=m x
 |[],_,_=>rfl
 | (n,v)::r,m,h=>by
  unfold bindL
  rw[qap λw b=>h w (wI _ b)]
  split
  .have:x≠n:=by rintro rfl;exact h v wH
   simp[this]
  .rfl
theorem qaq{kindOf:Str->Option NameKind}{x:Str}:∀{a:List (Str×Value)} {m:Str->Option Value},(∀v,(x,v)∉a)->bindC kindOf a m x=m x
 |[],_,_=>rfl
 | (n,v)::r,m,h=>by
  unfold bindC
  rw[qaq λw b=>h w (wI _ b)]
  split
  .rfl
  .have:x≠n:=by rintro rfl;exact h v wH
   simp[this]
theorem qar{kindOf:Str->Option NameKind}{x:Str}{v:Value}:∀{P:List Str} {vs:List Value} {i:Nat} {m:Str->Option Value},P.Nodup->P[i]?=some x->vs[i]?=some v->kindOf x=some .local ->
  bindL kindOf (P.zip vs) m x=some v
 |[],_,_,_,_,h,_,_=>by simp at h
 |_::_,[],_,_,_,_,h,_=>by simp at h
 |p::P,w::vs,0,m,nd,h1,h2,hk=>by
  simp at h1 h2;subst h1;subst h2
  show bindL kindOf ((p,w)::P.zip vs) m p=_
  unfold bindL
  rw[qap λv a=>(uU.mp nd).1 (List.of_mem_zip a).1,wL hk]
  simp
 |p::P,w::vs,i+1,m,nd,h1,h2,hk=>by
  show bindL kindOf ((p,w)::P.zip vs) m x=_
  unfold bindL
  exact qar (i:=i) (uU.mp nd).2 (by simpa using h1) (by simpa using h2) hk
theorem qas{kindOf:Str->Option NameKind}{x:Str}{v:Value}:∀{P:List Str} {vs:List Value} {i:Nat} {m:Str->Option Value},P.Nodup->P[i]?=some x->vs[i]?=some v->kindOf x≠some .local ->
  bindC kindOf (P.zip vs) m x=some v
 |[],_,_,_,_,h,_,_=>by simp at h
 |_::_,[],_,_,_,_,h,_=>by simp at h
 |p::P,w::vs,0,m,nd,h1,h2,hk=>by
  simp at h1 h2;subst h1;subst h2
  show bindC kindOf ((p,w)::P.zip vs) m p=_
  unfold bindC
  rw[qaq λv a=>(uU.mp nd).1 (List.of_mem_zip a).1,wK hk]
  simp
 |p::P,w::vs,i+1,m,nd,h1,h2,hk=>by
  show bindC kindOf ((p,w)::P.zip vs) m x=_
  unfold bindC
  exact qas (i:=i) (uU.mp nd).2 (by simpa using h1) (by simpa using h2) hk
noncomputable def start(N:List Str)(vs:List V):St:=vs.map some++List.replicate (N.length-vs.length) none
noncomputable def cxOf(CX:CXT)(P:Program)(w:World)(K:PySem.W.Frag)(mg:Str->Option Value)(base:Heap)(N:List Str)(a:Str)(scope:Scope)(f:Addr)(c:Value)(A:Around)(outer:List Env)(s:Shared)(H:Hp)(E:XK):Cx where
 prog:=P
 w:=w
 K:=K
 mg:=mg
 base:=base
 A:=A.deeper (envOfC a scope s.heap.objs.size f c)
 N:=N
 s₀:=s
 H₀:=H
 env:=envOfC a scope s.heap.objs.size f c
 outer:=outer
 stack:=envOfC a scope s.heap.objs.size f c::outer
 ex:=[]
 calm:=true
 fn:=λ_=>true
 pn:=[]
 xe:=λe s'=>wpAny (model P w) (A.deeper (envOfC a scope s.heap.objs.size f c)) (leaving (envOfC a scope s.heap.objs.size f c) e) (λ_ b=>CX outer H s E e b) (λd b=>CX outer H s E d b) s'
theorem qbu{sc:Scope}{n:Nat}{x:Str}(h:sc.names.lookup x=some .cell):∃c,(cellsFrom n sc.names []).lookup x=some c:=by
 have q:=PySem.W.cellsFrom_some sc.names n [] (.inl h)
 exact Option.isSome_iff_exists.mp q
theorem qeo{CX:CXT}{P:Program}{w:World}{K:PySem.W.Frag}{mg:Str->Option Value}{base:Heap}{N ps:List Str}{d:Str}{scope:Scope}{f:Addr}{F:Value}{A:Around}{outer:List Env}{s s1:Shared}{H:Hp}{E:XK}{us:List Value}{vs:List V}(S:FnScope N ps scope)(hd:A.handled=none)(l:Env0 P w K mg base A outer s H)(Q:vs.length=ps.length)(r:Vals vs us)(x:InCallC s s.heap.objs.size (bindL (envOfC d scope s.heap.objs.size f F).kindOf (ps.zip us) λ_=>none) (cellsFrom (s.heap.objs.size+1) scope.names []) (bindC (envOfC d scope s.heap.objs.size f F).kindOf (ps.zip us) λ_=>none) s1):
  Inv (cxOf CX P w K mg base N d scope f F A outer s H E) [] (start N vs) H s1:=by
 have M:ps.length<=N.length:=by have:=congrArg List.length S.pre;rw[vE]at this;lia
 obtain⟨I,tk,rfl,J⟩:=x.done
 have m:∀b:Addr,b∉(cxOf CX P w K mg base N d scope f F A outer s H E).ex:=λb z=>absurd (show b∈([]:List Addr)from z) (by simp)
 refine⟨⟨l.mod,S.kind,rfl,rfl,wG _,λy z c I j=>?_,λy o=>?_,λy c _ h=>?_,λ_=>hd,Around.frames_deeper l.frames,.inr ⟨rfl,rfl⟩,λb z=>absurd z (m b),l.bs,l.bsz,λb _ _=>m b,λb z=>absurd z (m b),l.funs,l.frf,l.tab⟩,
  rfl,GK.refl l.bare,Un.kept J,⟨_,x.toInCall.ns,λi y v I j R=>?_⟩,λy c h=>⟨_,x.cell y c h⟩,l.hok.fresh (wG _),λy c h=>?_,λp B=>absurd (show p∈([]:List (Addr×Obj))from B) (by simp),l.hok.kept J,?_⟩
 .exact name_of_addr x.apart (vZ I) (vZ j)
 .have o:scope.names.lookup y=some .cell\/scope.names.lookup y=some .free:=o
  rcases o with o|o
  .exact qbu o
  .exact absurd rfl (S.nofree _ (vZ o))
 .exact uu (x.above y c (vZ h))
 .have hi:i<vs.length:=by
   unfold start at j
   by_cases hi:i<vs.length
   .exact hi
   .rw [wn (by simpa using hi)]at j
    rw[uK]at j
    split at j <;> cases j
  have ha:vs[i]?=some v:=by
   unfold start at j
   rw[w5 (by simpa using hi),w4]at j
   cases e:vs[i]? with
   |none=>rw[e]at j;cases j
   |some a=>rw[e]at j;cases j;rfl
  obtain⟨u,L,O⟩:=r.get ha
  have B:ps[i]?=some y:=by
   rw[<-S.pre,uc (by lia)];exact I
  have C:ps.Nodup:=by rw[<-S.pre];exact S.nd.sublist (List.take_sublist _ _)
  refine⟨u,O,?_⟩
  rcases S.par y (wy B)with k|k
  .exact .inl ⟨k,qar C B L k⟩
  .obtain ⟨c,e⟩:=qbu (n:=s.heap.objs.size+1) k
   refine .inr ⟨.inl k,c,e,?_⟩
   have q:=x.cell y c e
   rw[qas C B L (by show scope.names.lookup y≠_;rw[k];decide)]at q
   exact q
 .exact l.hok.fresh (uu (x.above y c (vZ h)))
 .unfold start
  show _=N.length
  rw[we,wP,List.length_replicate]
  lia
theorem qla{CX:CXT}{P:Program}{w:World}{K:PySem.W.Frag}{mg:Str->Option Value}{base:Heap}{k:Nat}{f:Addr}{name a:Str}{d:Arguments}{body:List Stmt}{scope:Scope}{L kV doc pm c ct oc:Value}{an od:Option Addr}{osl:Array (Option Value)}{N ps:List Str}{sp:Sp}(O:K.lookup f=some ⟨oc,od,.func (PySem.W.fnOf name a d body scope L kV doc pm an c ct),osl⟩)(z:PySem.W.codeIn K c a=true)(S:FnScope N ps scope)(len:∀vs H Q E,sp vs H Q E->vs.length=ps.length)(i:∀(A:Around) (outer:List Env) (s:Shared) (H:Hp) (vs:List V) (Q:VK) (E:XK),Room k (A.deeper (envOfC a scope s.heap.objs.size f c))->sp vs H Q E ->
   ∃t,PSs (cxOf CX P w K mg base N a scope f c A outer s H E) body t/\t {nx:=λ_ H'=>Q .non H',rt:=Q} (start N vs) H):
  FnOk P w K mg base CX (k+1) f (PySem.W.fnOf name a d body scope L kV doc pm an c ct) ps sp:=by
 refine⟨len,λA outer s H args us vs Q E B m R r p=>?_⟩
 have U:=len _ _ _ _ p
 have M:K.In s.heap:=m.mod.kin.keeps λb o e=>(m.bs b o e).1
 have C:s.heap.NoLimit:=m.mod.nolimit.keeps λb o e=>(m.bs b o e).1
 have j:∀y∈ps.zip us,scope.names.lookup y.1=some .local\/(scope.names.lookup y.1=some .cell/\((cellsFrom (s.heap.objs.size+1) scope.names []).lookup y.1).isSome=true):=λ⟨n,v⟩ X=>by
  rcases S.par n (List.of_mem_zip X).1 with q|q
  .exact .inl q
  .exact .inr ⟨q,PySem.W.cellsFrom_some _ _ _ (.inl q)⟩
 refine codeAny_call_function B.depth (M _ _ O) rfl S.co S.gen rfl (PySem.W.codeRec_of M z) (R _ _ _ _ ?_)
 refine wpAny_newFunctionEnv_cells S.kind j λenv Y s1 x=>?_
 subst Y
 refine⟨C.keeps x.toInCall.keep,codeAny_func ?_⟩
 obtain⟨t,Z,hq⟩:=i A outer s H vs Q E (B.deeper _) p
 have I:Inv (cxOf CX P w K mg base N a scope f c A outer s H E) [] (start N vs) H s1:=qeo S B.hd m U r x
 refine vT (Z [] s1 (start N vs) H _ I hq) (λfl s' l=>?_) λe s' l=>l
 have fin:∀{h:St} {H':Hp} {v:V} {u:Value},Inv (cxOf CX P w K mg base N a scope f c A outer s H E) [] h H' s'->RelV v u->Q v H'->CE outer P w H s Q u s' :=
  λ{h H' v u} J F q=>⟨v,H',J.os,J.bare,J.base,J.hok,F,q⟩
 cases fl with
 |ret u =>
  obtain⟨v,h,H',J,F,q⟩:=l
  exact fin J F q
 |next =>
  obtain⟨h,H',J,q⟩:=l
  exact fin (v:=V.non) (u:=Value.none) J rfl q
 |brk =>
  obtain⟨_,_,_,q⟩:=l
  exact False.elim q
 |cont =>
  obtain⟨_,_,_,q⟩:=l
  exact False.elim q
end L2
namespace L2
open PySem PySem.Spec PyProof.Rows
section
variable{X:Cx}{x:Str}{p pos:Pos}{e:Expr}{es:List Expr}{t:TA}{id T:String}{r:List V->Hp->VK->Prop}
noncomputable def tCB(r:List V->Hp->VK->Prop)(t:TA):TE:=λa H Q=>t a H λvs b=>r vs b Q
theorem qbv(d:CallR X (.builtin id) r)(f:Gl X x)(hm:X.mg x=none)(i:bootBuiltins x=some (.builtin id))(ha:PA X (e::es) t)(hn:x≠"__name__":=by decide)(a:(x == ("__debug__":Str))=false:=by decide)(j:starEach (e::es) X.env=(false,eval e X.env)::starEach es X.env:=by rfl)(b:(backTo pos (starEach es X.env)).any (·.1)=false:=by rfl):PE X (.Call (.Name x p) (e::es) [] pos) (tCB r t):=by
 intro pins s c H Q I h
 refine xN (zI I f hm i ?_ hn a)
 exact ut (thn (ha pos pins s c H _ I h) λus s1 ⟨vs,l,m,n,q1⟩=>d pins s1 c l vs us Q m n q1) j b
theorem qep(d:CallR X (.type T) r)(f:Gl X x)(hm:X.mg x=none)(i:bootBuiltins x=some (.type T))(ha:PA X (e::es) t)(hn:x≠"__name__":=by decide)(a:(x == ("__debug__":Str))=false:=by decide)(j:starEach (e::es) X.env=(false,eval e X.env)::starEach es X.env:=by rfl)(b:(backTo pos (starEach es X.env)).any (·.1)=false:=by rfl):PE X (.Call (.Name x p) (e::es) [] pos) (tCB r t):=by
 intro pins s c H Q I h
 refine xN (zI I f hm i ?_ hn a)
 exact wi (thn (ha pos pins s c H _ I h) λus s1 ⟨vs,l,m,n,q1⟩=>d pins s1 c l vs us Q m n q1) j b
end
end L2
namespace HT
open PySem PyProof.Rows
noncomputable def lexLt:List Int->List Int->Bool
 |[],[]=>false
 |[],_::_=>true
 |_::_,[]=>false
 |x::xs,y::ys=>if x=y then lexLt xs ys else decide (x<y)
theorem qV(x y:Int)(xs ys:List Int):lexLt (x::xs) (y::ys)=if x=y then lexLt xs ys else decide (x<y):=rfl
theorem yB:lexLt [] []=false:=rfl
theorem zY(y:Int)(ys:List Int):lexLt [] (y::ys)=true:=rfl
theorem zZ(x:Int)(xs:List Int):lexLt (x::xs) []=false:=rfl
theorem qbw(A:Around)(s:Shared)(a:Int)(t:Tok)(c:Int)(u:Tok):∃e,SeqAt.EqAt A s (.int a t) (.int c u) e/\(e=true ↔ a=c) :=
 ⟨(a == c),SeqAt.EqAt.int_int a t c u,by simp⟩
theorem qfd(A:Around)(s:Shared)(a:Int)(t:Tok)(c:Int)(u:Tok)(prog:Program)(w:World)(E:Value->Shared->Prop)(Q:Value->Shared->Prop)(h:Q (.bool (decide (a<c))) s):
  wpAny (model prog w) A (richCompare .Lt (.int a t) (.int c u)) Q E s :=
 (PyProof.Rows.lt_int h:wpAny (model prog w) A (compareOp .Lt (.int a t) (.int c u)) Q E s)
section
open PySem.SeqAt
open PySem.AutoSeq1 (wpAny_loadPart')
open PySem.MeetsSeq PySem.MeetsSeq2 PySem.MeetsSeq3
theorem qaj(l b:Addr)(items f:Array Value)(n O:Nat)(P I:Option Addr)(sl J:Array (Option Value))(ns E:List Int)(hi:IntsAre items.toList ns)(M:IntsAre f.toList E):
  Meets (Builtin.«tuple.__lt__» ⟨[.ref l,.ref b],[]⟩)
   (λ_ R s=>s.heap.get? l=some {cls:=.type "tuple",dict:=P,data:=.seq items n,slots:=sl}/\s.heap.get? b=some {cls:=.type "tuple",dict:=I,data:=.seq f O,slots:=J} /\
    R (.ok (.ret (.bool (lexLt ns E)))) s) :=
 .of_wp λprog w A R s h=>by
  obtain⟨F,g,d,tk,os⟩:=s;obtain⟨Q,S,h⟩:=h
  have Y:=AutoSeq1.sub_tuple_tuple
  have Z:items.size=ns.length:=by rw[<-hi.length];simp
  have z2:f.size=E.length:=by rw[<-M.length];simp
  wp_walk using wpAny_loadPart' Q,wpAny_loadPart' S,wpAny_forIn_list _ (λrest b s'=>b.1=none/\s'=⟨F,g,d,tk,os⟩/\∃(vs H:List Value) (j m:List Int),rest=vs.zip H /\
   IntsAre vs j/\IntsAre H m/\j.length+f.size=m.length+items.size/\R (.ok (.ret (.bool (lexLt j m)))) ⟨F,g,d,tk,os⟩) _
  case turn =>
   rintro⟨y,x⟩ rest b s' ⟨v,rfl,vs,H,j,m,hz,z,o,i,p⟩
   cases z with
   |nil=>rw[List.zip_nil_left]at hz;cases hz
   |cons a t B =>
    cases o with
    |nil=>rw[List.zip_nil_right]at hz;cases hz
    |cons c u C =>
     rw[uQ]at hz
     injection hz with K hrest
     injection K with U hx
     subst U hx
     rw[qV]at p
     simp only[wX]at i
     obtain⟨e,W,r⟩:=qbw A.in1 ⟨F,g,d,tk,os⟩ a t c u
     refine wA (W prog w _ _ ?_)
     cases e with
     |true =>
      rw[wL (r.mp rfl)]at p
      wp_walk
      exact⟨rfl,rfl,_,_,_,_,hrest,B,C,by lia,p⟩
     |false =>
      rw[wK (λq=>absurd (r.mpr q) wY)]at p
      have L:=qfd A.in1 ⟨F,g,d,tk,os⟩ a t c u prog w
      wp_walk using L
      exact⟨_,rfl,by simpa using p⟩
  case fin =>
   rintro⟨b1,b2⟩ s' ⟨v,rfl,vs,H,j,m,hz,z,o,i,p⟩
   simp only at v
   subst v
   have N:lexLt j m=decide (items.size<f.size):=by
    cases z with
    |nil =>
     cases o with
     |nil =>
      simp only[w1]at i
      rw[yB]
      exact(ww (by lia)).symm
     |cons c u X =>
      simp only[w1,wX]at i
      rw[zY]
      exact(v8 (by lia)).symm
    |cons a t N =>
     cases o with
     |nil =>
      simp only[w1,wX]at i
      rw[zZ]
      exact(ww (by lia)).symm
     |cons c u X =>
      rw[uQ]at hz
      cases hz
   rw[N]at p
   wp_walk
   exact⟨_,rfl,by simpa[Builtin.Tuple.tupleCompareSizes]using p⟩
  case h =>
   exact⟨rfl,rfl,items.toList,f.toList,ns,E,rfl,hi,M,by lia,h⟩
end
section
variable{prog:Program}{w:World}{A:Around}{E:Value->Shared->Prop}{s:Shared}
theorem qcv{l b:Addr}{items a:Array Value}{ns c:List Int}{Q:Value->Shared->Prop}(r:IsTup s.heap l items)(u:IsTup s.heap b a)(hi:IntsAre items.toList ns)(v:IntsAre a.toList c)(y:A.units<cLine)(h:Q (.bool (lexLt ns c)) s):wpAny (model prog w) A (compareOp .Lt (.ref l) (.ref b)) Q E s:=by
 obtain⟨⟨cls,z,data,sl⟩,o,p,n,hd⟩:=id r
 obtain⟨⟨q,i,j,m⟩,d,e,B,f⟩:=id u
 simp only at p hd e f
 subst p hd e f
 exact richCompare_meets_room (op:=.Lt) ⟨_,o,rfl⟩ ⟨_,d,rfl⟩ PySem.F.slot_tuple_lt PySem.F.entry_tuple_lt (PySem.F.args_tuple_lt_2 _ _) (qaj l b items a n B z i sl m ns c hi v)
  ⟨o,d,show Value.bool (lexLt ns c)≠Value.notImplemented/\Q (.bool (lexLt ns c)) s from⟨(λx=>nomatch x),h⟩⟩ y
theorem qdb{t b:Addr}{vs a:List Value}{Q:Value->Shared->Prop}(v:IsTup s.heap t vs.toArray)(x:IsTup s.heap b a.toArray)(o:vs≠[])(y:a=[]->Q (.ref t) s)(z:a≠[]->Q (.ref s.heap.objs.size) {s with heap:=s.heap.push {cls:=.type "tuple",data:=.seq (vs++a).toArray}})(hsz:vs.length+a.length<=sizeLine):wpAny (model prog w) A (binaryOp .Add (.ref t) (.ref b)) Q E s:=by
 obtain⟨⟨cls,p,data,sl⟩,j,q,n,hd⟩:=id v
 obtain⟨⟨r,d,m,f⟩,c,h,u,i⟩:=id x
 simp only at q hd h i
 subst q hd h i
 have e:vs.toArray++a.toArray=(vs++a).toArray:=by simp
 by_cases l:a=[]
 .exact concat_meets ⟨_,j,rfl⟩ ⟨_,c,rfl⟩ xo seq_tuple_add uk uh (ub _ _)
   (tuple_addW1 t b vs.toArray a.toArray n u p d sl f (by simpa using o) (by simp[l])) ⟨j,c,y l⟩
 .refine concat_meets ⟨_,j,rfl⟩ ⟨_,c,rfl⟩ xo seq_tuple_add uk uh (ub _ _)
   (tuple_addW2 t b vs.toArray a.toArray n u p d sl f (by simpa using o) (by simpa using l) (by rw[wJ,wJ];exact hsz)) ⟨j,c,?_⟩
  rw[e]
  exact z l
noncomputable def sIx(n d:Nat):Option Int->Nat
 |none=>d
 |some v=>if v<0 then(v+(n:Int)).toNat else min v.toNat n
theorem qjF(n d:Nat)(hd:d<=n)(o:Option Int):sIx n d o<=n:=by
 cases o with
 |none=>exact hd
 |some v =>
  show(if v<0 then(v+(n:Int)).toNat else min v.toNat n)<=n
  by_cases a:v<0
  .rw [wL a];lia
  .rw [wK a];exact Nat.min_le_right _ _
theorem qdc(v:Int)(n d:Nat):(if v<0 then max (v+(n:Int)) 0 else min v (n:Int))=((sIx n d (some v):Nat):Int):=by
 show(if v<0 then max (v+(n:Int)) 0 else min v (n:Int))=(((if v<0 then(v+(n:Int)).toNat else min v.toNat n):Nat):Int)
 by_cases a:v<0
 .simp only[wL a];lia
 .simp only[wK a];lia
theorem qcw(lo hi:Option Int)(n:Nat):Builtin.Slice.sliceAdjust lo hi 1 (n:Int)=(((sIx n 0 lo:Nat):Int),((sIx n n hi:Nat):Int)):=by
 have a:¬((1:Int)<0):=by lia
 unfold Builtin.Slice.sliceAdjust
 simp only[a,vc]
 refine Prod.ext ?_ ?_
 .cases lo with
  |none=>rfl
  |some v=>exact qdc v n 0
 .cases hi with
  |none=>rfl
  |some v=>exact qdc v n n
theorem qcx(i j:Nat):Builtin.Slice.slicePlaces (i:Int) (j:Int) 1=j-i:=by
 unfold Builtin.Slice.slicePlaces
 have a:(1:Int)>0:=by lia
 simp only[a,vd,Int.ediv_one]
 split <;> lia
theorem jA{v:Value}{o:Option Int}{Q:Option Int->Shared->Prop}(p:IsPart v o)(h:Q o s):wpAny (model prog w) A (Builtin.Slice.slicePartIndex v) Q E s:=by
 cases p with
 |none=>exact slicePart_none h
 |int i t=>exact slicePart_int h
theorem zK{sl:Addr}{c d:Value}{lo hi:Option Int}{n:Nat}{Q:Int×Int×Nat->Shared->Prop}(e:s.heap.IsSliceOf sl c d .none)(pl:IsPart c lo)(f:IsPart d hi)(h:Q (((sIx n 0 lo:Nat):Int),1,sIx n n hi-sIx n 0 lo) s):wpAny (model prog w) A (Builtin.Slice.sliceApplied (.ref sl) (pure (n:Int))) Q E s:=by
 obtain⟨os,a,i,b⟩:=id e
 unfold Builtin.Slice.sliceApplied Builtin.Slice.sliceFields
 refine wA (wA (vX a b (x:=c) rfl (wA (vX a b (x:=d) rfl (wA (vX a b (x:=.none) rfl (wC ?_)))))))
 refine wA (slicePart_none ?_)
 show wpAny _ _ (if((1:Int) == 0)=true then _ else _) _ _ s
 rw[wK (by decide)]
 refine wA (jA pl (wA (jA f (wA (wC ?_)))))
 show wpAny _ _ (match Builtin.Slice.sliceAdjust lo hi 1 (n:Int)with|(lo,hi)=>pure (lo,(1:Int),Builtin.Slice.slicePlaces lo hi 1)) _ _ s
 rw[qcw lo hi n]
 show wpAny _ _ (pure (((sIx n 0 lo:Nat):Int),(1:Int),Builtin.Slice.slicePlaces ((sIx n 0 lo:Nat):Int) ((sIx n n hi:Nat):Int) 1)) _ _ s
 rw[qcx]
 exact wC h
theorem qfe(xs:Array Value)(i k:Nat):((List.range k).filterMap λ(m:Nat)=>xs[((i:Int)+(m:Int)*1).toNat]?).toArray=((xs.toList.drop i).take k).toArray:=by
 have e:(λ(m:Nat)=>xs[((i:Int)+(m:Int)*1).toNat]?)=λm=>xs[i+m]?:=by
  funext m
  have:((i:Int)+(m:Int)*1).toNat=i+m:=by lia
  rw[this]
 rw[e]
 have:=pick_run xs i k
 rw[List.filterMap_map]at this
 have a:((λx=>xs[x]?)∘λx=>i+x)=λm=>xs[i+m]?:=rfl
 rw[a]at this
 rw[this]
theorem yJ{t sl:Addr}{items:Array Value}{i j:Value}{lo hi:Option Int}{Q:Value->Shared->Prop}(b:IsTup s.heap t items)(l:s.heap.IsSliceOf sl i j .none)(pl:IsPart i lo)(n:IsPart j hi)(o:¬(sIx items.size 0 lo=0/\sIx items.size items.size hi=items.size))(h:Q (.ref s.heap.objs.size) {s with heap:=s.heap.push {cls:=.type "tuple",data:=.seq ((items.toList.drop (sIx items.size 0 lo)).take (sIx items.size items.size hi-sIx items.size 0 lo)).toArray}})(hsz:items.size<=sizeLine):wpAny (model prog w) A (getItem (.ref t) (.ref sl)) Q E s:=by
 have a:sizeOk (.seq ((items.toList.drop (sIx items.size 0 lo)).take (sIx items.size items.size hi-sIx items.size 0 lo)).toArray):=by
  show((items.toList.drop (sIx items.size 0 lo)).take (sIx items.size items.size hi-sIx items.size 0 lo)).toArray.size<=sizeLine
  rw[wJ,vE,xr,wk]
  lia
 have r:sIx items.size items.size hi<=items.size:=qjF _ _ (wG _) hi
 obtain⟨os,c,d,p⟩:=id l
 have e:s.TypeIs (.ref sl) "slice":=⟨os,c,d⟩
 unfold getItem
 try with_reducible refine wm ?_
 first|refine wA (wC ?_)|skip
 refine wA (wpAny_sequenceKey b.typeIs (by decide) ?_)
 refine wA (wb (name:=Str.ofString "__getitem__") b.typeIs vP
  (wf vP b.typeIs entry_tuple_getitem ?_ (args_tuple_getitem _ _)))
 show wpAny _ _ (Builtin.Tuple.tupleItemsOf (.ref t) >>= _) _ _ s
 refine wA (tupleItemsOf_ b ?_)
 refine wA (uR e ?_)
 rw[wL (by decide)]
 refine wA (zK l pl n ?_)
 have f:¬((((sIx items.size 0 lo:Nat):Int) == 0&&(1:Int) == 1&&(sIx items.size items.size hi-sIx items.size 0 lo) == items.size)=true):=by
  intro q
  rw[wV,wV]at q
  have q1:((sIx items.size 0 lo:Nat):Int)=0:=eq_of_beq q.1.1
  have q2:sIx items.size items.size hi-sIx items.size 0 lo=items.size:=eq_of_beq q.2
  exact o ⟨by lia,by lia⟩
 show wpAny _ _ (if(((sIx items.size 0 lo:Nat):Int) == 0&&(1:Int) == 1&&(sIx items.size items.size hi-sIx items.size 0 lo) == items.size)=true then _ else _) _ _ s
 rw[wK f,qfe]
 first
  |exact wA (m:=Builtin.Tuple.tupleExact _) (wS (wC ⟨_,rfl,wC h⟩) a)
  |exact wA (m:=Builtin.Tuple.tupleExact _) (wS (wA (wC (wC ⟨_,rfl,wC h⟩))) a)
  |exact wA (wA (m:=Builtin.Tuple.tupleExact _) (wS (wC (wC ⟨_,rfl,wC h⟩)) a))
  |exact wA (wA (m:=Builtin.Tuple.tupleExact _) (wS (wC ⟨_,rfl,wC h⟩) a))
end
end HT
namespace L2
open PySem PySem.Spec PyProof.Rows
noncomputable abbrev TO:=St->Hp->(Option Int->Hp->Prop)->Prop
noncomputable def PO(X:Cx)(e:Option Expr)(t:TO):Prop :=
 ∀(pins:List (Addr×Obj)) (s:Shared) (a:St) (H:Hp) (Q:Option Int->Hp->Prop),Inv X pins a H s->t a H Q ->
  wpAny (model X.prog X.w) X.A (evalPart e X.env) (λu s'=>∃o H',Inv X pins a H' s'/\IsPart u o/\Q o H') X.xe s
noncomputable def tNoPart:TO:=λ_ H Q=>Q none H
noncomputable def tPart(t:TE):TO:=λa H Q=>t a H λx b=>∃i,x=.int i/\Q (some i) b
theorem qW{ns:List Int}:∀{us:List Value},Vals (ns.map V.int) us->IntsAre us ns:=by
 induction ns with
 |nil=>intro us r;rw[xR]at r;cases r;exact .nil
 |cons n ns a =>
  intro us r
  rw[wR]at r
  cases r with
  |cons b c =>
   obtain⟨t,e⟩:=b
   subst e
   exact .cons n t (a c)
section
variable{X:Cx}{e:Expr}{te:TE}{lo hi:Option Expr}{tl th:TO}{pos p2:Pos}
theorem qhG:PO X none tNoPart:=by
 intro pins s a H Q I h
 rw[evalPart_none]
 exact wC ⟨none,H,I,.none,h⟩
theorem qhH(h:PE X e te):PO X (some e) (tPart te):=by
 intro pins s a H Q I b
 rw[evalPart_some]
 refine thn (h pins s a H _ I b) λu s1 ⟨x,c,d,f,q1⟩=>?_
 obtain⟨i,rfl,q⟩:=q1
 obtain⟨t,rfl⟩:=f
 exact⟨some i,c,d,.int i t,q⟩
noncomputable def SlR(X:Cx)(r:V->Option Int->Option Int->Hp->VK->Prop):Prop :=
 ∀(pins:List (Addr×Obj)) (s:Shared) (a:St) (H:Hp) (x:V) (v b c:Value) (lo hi:Option Int) (sl:Addr) (Q:VK),Inv X pins a H s->RelV x v->s.heap.IsSliceOf sl b c .none->IsPart b lo->IsPart c hi->r x lo hi H Q ->
  ∃T id,typeLookup (.type T) "__getitem__"=pure (some (.builtin id))/\s.TypeIs v T/\wpAny (model X.prog X.w) X.A (getItem v (.ref sl)) (EP X pins a Q) X.xe s
theorem SlR.or{r a:V->Option Int->Option Int->Hp->VK->Prop}(h:SlR X r)(h':SlR X a):SlR X (λx lo hi H Q=>r x lo hi H Q\/a x lo hi H Q):=by
 intro pins s b H x v c d lo hi sl Q I rx f pl i q
 rcases q with q|q
 .exact h pins s b H x v c d lo hi sl Q I rx f pl i q
 .exact h' pins s b H x v c d lo hi sl Q I rx f pl i q
noncomputable def tSl(r:V->Option Int->Option Int->Hp->VK->Prop)(te:TE)(tl th:TO):TE:=λa H Q=>te a H λx b=>tl a b λl H2=>th a H2 λu H3=>r x l u H3 Q
theorem qff{r:V->Option Int->Option Int->Hp->VK->Prop}(i:SlR X r)(j:PE X e te)(m:PO X lo tl)(n:PO X hi th):PE X (.Subscript e (.Slice lo hi none p2) pos) (tSl r te tl th):=by
 intro pins s c H Q I h
 refine Subscript_ (thn (j pins s c H _ I h) λv s1 ⟨x,o,p,y,q1⟩=>?_)
 refine wpAny_Slice (thn (m pins s1 c o _ p q1) λd s2 ⟨l,H2,z,pl,q2⟩=>thn (n pins s2 c H2 _ z q2) λf a ⟨u,H3,B,C,E⟩=>?_)
 rw[evalPart_none]
 refine wC ?_
 have F:Inv X pins c H3 {a with heap:=a.heap.push {cls:=.type "slice",data:=.fields #[d,f,.none]}}:=B.kept (t':=a.toks) λb ob q=>wB _ q
 obtain⟨T,id,J,K,L⟩:=i pins {a with heap:=a.heap.push {cls:=.type "slice",data:=.fields #[d,f,.none]}} c H3 x v d f l u a.heap.objs.size Q F y (Heap.IsSliceOf.new ..) pl C E
 show wpAny (model X.prog X.w) X.A (subscriptTail e (.Slice lo hi none p2) v (.ref a.heap.objs.size)) (EP X pins c Q) X.xe {a with heap:=a.heap.push {cls:=.type "slice",data:=.fields #[d,f,.none]}}
 exact tail_any (ops:=[.ref a.heap.objs.size,v]) K J L (by with_unfolding_all rfl)
noncomputable def cutV(xs:List V)(lo hi:Option Int):List V:=(xs.drop (HT.sIx xs.length 0 lo)).take (HT.sIx xs.length xs.length hi-HT.sIx xs.length 0 lo)
theorem jk(xs:List V)(lo hi:Option Int):(cutV xs lo hi).length<=xs.length:=by
 unfold cutV
 rw[vE,xr]
 lia
def rSlT(K:PySem.W.Frag):V->Option Int->Option Int->Hp->VK->Prop:=λx lo hi H Q=>∃a xs,x=.ref a/\SqT K H a xs /\
 ¬(HT.sIx xs.length 0 lo=0/\HT.sIx xs.length xs.length hi=xs.length)/\∀p,H p=none->Q (.ref p) (upd H p (.tup (cutV xs lo hi)))
theorem qjG:SlR X (rSlT X.K):=by
 intro pins s l H x v m n lo hi sl Q I rx f pl i h
 obtain⟨a,xs,rfl,hx,j,q⟩:=h
 cases rx
 obtain⟨its,r,d,hz⟩:=I.tuple hx
 have c:its.toArray.size=xs.length:=by rw[wJ];exact r.length.symm
 refine⟨"tuple",_,vP.lookup,d.typeIs,?_⟩
 refine HT.yJ d f pl i (by rw[c];exact j) ?_ (by rw[c];exact hz)
 rw[c]
 refine⟨.ref s.heap.objs.size,_,I.laid (t':=s.toks) (o:=.tup (cutV xs lo hi)) (λb ob q=>wB _ q) (wG _) ?_,rfl,q _ (I.hok.fresh (wG _))⟩
 exact⟨vK (jk xs lo hi) hz,_,(r.drop (HT.sIx xs.length 0 lo)).take (HT.sIx xs.length xs.length hi-HT.sIx xs.length 0 lo),IsTup.new _ _,yp _ _⟩
noncomputable def rLtT(K:PySem.W.Frag):R2:=λx y H Q=>∃a b ns c,x=.ref a/\y=.ref b/\SqT K H a (ns.map V.int)/\SqT K H b (c.map V.int)/\Q (.bl (HT.lexLt ns c)) H
theorem qjH(f:X.A.units<cLine):OpR X (compareOp .Lt) (rLtT X.K):=by
 intro pins s o H x y v u Q I rx i h
 obtain⟨a,b,ns,d,rfl,rfl,ha,j,q⟩:=h
 cases rx
 cases i
 obtain⟨its,l,m,_⟩:=I.tuple ha
 obtain⟨c,n,p2,_⟩:=I.tuple j
 have i1:IntsAre its.toArray.toList ns:=qW l
 have i2:IntsAre c.toArray.toList d:=qW n
 exact HT.qcv m p2 i1 i2 f ⟨.bl (HT.lexLt ns d),H,I,rfl,q⟩
noncomputable def rCatT(K:PySem.W.Frag):R2:=λx y H Q=>∃a b xs ys,x=.ref a/\y=.ref b/\SqT K H a xs/\SqT K H b ys/\xs≠[]/\xs.length+ys.length<=sizeLine /\
 (ys=[]->Q (.ref a) H)/\(ys≠[]->∀p,H p=none->Q (.ref p) (upd H p (.tup (xs++ys))))
theorem Vals.nil_iff{xs:List V}{us:List Value}(r:Vals xs us):us=[] ↔ xs=[]:=by
 cases r with
 |nil=>simp
 |cons _ _=>simp
theorem qhI:OpR X (binaryOp .Add) (rCatT X.K):=by
 intro pins s m H x y v u Q I rx i h
 obtain⟨a,b,xs,ys,rfl,rfl,ha,j,hx,hz,q1,q2⟩:=h
 cases rx
 cases i
 obtain⟨its,d,l,_⟩:=I.tuple ha
 obtain⟨f,c,p2,_⟩:=I.tuple j
 refine HT.qdb l p2 (λz=>hx (d.nil_iff.mp z)) (λz=>⟨.ref a,H,I,rfl,q1 (c.nil_iff.mp z)⟩) (λz=>?_) (by rw[<-d.length,<-c.length];exact hz)
 refine⟨.ref s.heap.objs.size,_,I.laid (t':=s.toks) (o:=.tup (xs++ys)) (λb ob q=>wB _ q) (wG _) ?_,rfl,q2 (λw=>z (c.nil_iff.mpr w)) _ (I.hok.fresh (wG _))⟩
 exact⟨by rw[we];exact hz,_,d.append c,IsTup.new _ _,yp _ _⟩
end
end L2
namespace L2
open PySem PySem.Spec PyProof.Rows
noncomputable def ixN(n:Nat)(i:Int):Option Nat:=if 0<=i then(if i<n then some i.toNat else none)else if -(n:Int)<=i then some (i+n).toNat else none
noncomputable def atI{a:Type}(xs:List a)(i:Int):Option a:=(ixN xs.length i).bind λj=>xs[j]?
theorem qdd{n:Nat}{i:Int}{j:Nat}(h:ixN n i=some j):seqIndex? i n=some j/\j<n/\-(n:Int)<=i/\i<n:=by
 unfold ixN at h
 by_cases h0:0<=i
 .rw [wL h0]at h
  by_cases a:i<n
  .rw [wL a]at h
   have e:i.toNat=j:=Option.some.inj h
   exact⟨by rw[seqIndex_of h0 a,e],by lia,by lia,a⟩
  .rw [wK a]at h;cases h
 .rw [wK h0]at h
  by_cases a:-(n:Int)<=i
  .rw [wL a]at h
   have e:(i+n).toNat=j:=Option.some.inj h
   exact⟨by rw[seqIndex_neg (by lia) a,e],by lia,a,by lia⟩
  .rw [wK a]at h;cases h
theorem qde{a:Type}{xs:List a}{i:Int}{v:a}(h:atI xs i=some v):∃j,seqIndex? i xs.length=some j/\xs[j]?=some v/\j<xs.length/\-(xs.length:Int)<=i/\i<xs.length:=by
 unfold atI at h
 cases e:ixN xs.length i with
 |none=>rw[e]at h;cases h
 |some j =>
  rw[e]at h
  obtain⟨b,c,d,f⟩:=qdd e
  exact⟨j,b,h,c,d,f⟩
def PlainIx(b:Expr):Prop:=∀o i,subscripted b false o i=operate [o,i] (getItem o i)
noncomputable def IxR(X:Cx)(r:R2):Prop :=
 ∀(b a:Expr) (pins:List (Addr×Obj)) (s:Shared) (c:St) (H:Hp) (x y:V) (v u:Value) (Q:VK),Inv X pins c H s->RelV x v->RelV y u->r x y H Q ->
  subscripted a false v u=operate [v,u] (getItem v u)->wpAny (model X.prog X.w) X.A (subscriptTail b a v u) (EP X pins c Q) X.xe s
noncomputable def MtR(X:Cx)(id:String)(r:V->List V->Hp->VK->Prop):Prop :=
 ∀(pins:List (Addr×Obj)) (s:Shared) (a:St) (H:Hp) (x:V) (xs:List V) (v:Value) (us:List Value) (Q:VK),Inv X pins a H s->RelV x v->Vals xs us->r x xs H Q ->
  wpAny (model X.prog X.w) X.A (call (.builtin id) (v::us)) (EP X pins a Q) X.xe s
section
variable{X:Cx}{a b:Expr}{ta tb:TE}{pos:Pos}
theorem IxR.or{r e:R2}(h:IxR X r)(h':IxR X e):IxR X (λx y H Q=>r x y H Q\/e x y H Q):=by
 intro c d pins s f H x y v u Q I rx i q j
 rcases q with q|q
 .exact h c d pins s f H x y v u Q I rx i q j
 .exact h' c d pins s f H x y v u Q I rx i q j
theorem qiV{r:R2}(c:IxR X r)(ha:PE X a ta)(d:PE X b tb)(e:PlainIx b):PE X (.Subscript a b pos) (tOp r ta tb):=by
 intro pins s f H Q I h
 exact Subscript_ (binT ha d I h λv u s2 x y H2 i rx j q=>c a b pins s2 f H2 x y v u Q i rx j q (e _ _))
noncomputable def rIxL(K:PySem.W.Frag):R2:=λx y H Q=>∃p xs i v,x=.ref p/\y=.int i/\SqL K H p xs/\atI xs i=some v/\Q v H
noncomputable def rIxT(K:PySem.W.Frag):R2:=λx y H Q=>∃p xs i v,x=.ref p/\y=.int i/\SqT K H p xs/\atI xs i=some v/\Q v H
theorem qhJ:IxR X (rIxL X.K):=by
 intro d e pins s m H x y v u Q I rx A h n
 obtain⟨p,xs,i,z,rfl,rfl,B,C,q⟩:=h
 cases rx
 obtain⟨t,rfl⟩:=A
 obtain⟨its,r,pl,hz⟩:=I.list B
 obtain⟨j,c,E,M,F,J⟩:=qde C
 obtain⟨w,o,f⟩:=r.get E
 have L:=r.length
 have hn:=line63
 have fin:EP X pins m Q w s:=⟨z,H,I,f,q⟩
 by_cases h0:0<=i
 .have l:i.toNat=j:=by
   rw[seqIndex_of h0 J]at c
   exact Option.some.inj c
  exact item_listR pl.isList h0 (by lia) (by rw[l];simpa using o) fin n
 .have l:(i+(its.toArray.size:Int)).toNat=j:=by
   rw[seqIndex_neg (by lia) F]at c
   rw[wJ,<-L]
   exact Option.some.inj c
  exact subscriptTail_builtinR (x:=w) pl.isList.typeIs slot_list_getitem.lookup
   (wpAny_getItem_list_neg (Q:=λr s'=>r=w/\EP X pins m Q r s') pl.isList (by lia) (by rw[wJ] <;> lia) (by lia) (by rw[l];simpa using o) ⟨rfl,fin⟩) n
theorem qjI:IxR X (rIxT X.K):=by
 intro c d pins s f H x y v u Q I rx l h m
 obtain⟨p,xs,i,z,rfl,rfl,n,o,q⟩:=h
 cases rx
 obtain⟨t,rfl⟩:=l
 obtain⟨its,r,pl,hz⟩:=I.tuple n
 obtain⟨j,A,B,F,J,L⟩:=qde o
 obtain⟨w,C,e⟩:=r.get B
 have E:=r.length
 have hn:=line63
 have fin:EP X pins f Q w s:=⟨z,H,I,e,q⟩
 exact subscriptTail_builtinR (x:=w) pl.typeIs slot_tuple_getitem.lookup
  (getItem_tuple (j:=j) (Q:=λr s'=>r=w/\EP X pins f Q r s') pl (by lia) (by lia) (by rw[wJ,<-E];exact A) (by simpa using C) ⟨rfl,fin⟩) m
theorem qcy(its:List Value)(n j:Nat)(u:Value):Obj.mapSeq (·.setIfInBounds j u) {cls:=.type "list",data:=.seq its.toArray n}={cls:=.type "list",data:=.seq (its.set j u).toArray n}:=by
 simp[Obj.mapSeq]
theorem Inv.lst{pins:List (Addr×Obj)}{c:St}{H:Hp}{s:Shared}{p:Addr}{xs:List V}(I:Inv X pins c H s)(h:H p=some (.lst xs)):
  ∃(its:List Value) (n:Nat),Vals xs its/\s.heap.get? p=some {cls:=.type "list",data:=.seq its.toArray n}/\xs.length<=sizeLine:=by
 obtain⟨z,its,n,r,e⟩:=I.hok p _ h
 exact⟨its,n,r,e,z⟩
theorem Inv.lstUpd{pins:List (Addr×Obj)}{d:St}{H:Hp}{s:Shared}{p:Addr}{xs ys:List V}{its its':List Value}{n c:Nat}{f:Obj->Obj}(I:Inv X pins d H s)(h:H p=some (.lst xs))(j:s.heap.get? p=some {cls:=.type "list",data:=.seq its.toArray n})(i:f {cls:=.type "list",data:=.seq its.toArray n}={cls:=.type "list",data:=.seq its'.toArray c})(r:Vals ys its')(hz:ys.length<=sizeLine)(t:Nat):
  Inv X pins d (upd H p (.lst ys)) {s with heap:=s.heap.update p f,toks:=t}:=by
 have e:(s.heap.update p f).get? p=some {cls:=.type "list",data:=.seq its'.toArray c}:=by
  rw[w8 f j (by rw[i] <;> rfl),i]
 refine I.write (x:=p) (e:=p) (by rw[h];trivial) (.inl rfl) (λb u l q=>(wQ _ _ (Ne.symm l)).trans q) ⟨_,e⟩ ?_
 exact⟨hz,its',c,r,e⟩
noncomputable def rSetL:V->V->V->Hp->(Hp->Prop)->Prop:=λo i v H Q=>∃p xs k j,o=.ref p/\i=.int k/\H p=some (.lst xs)/\ixN xs.length k=some j/\Q (upd H p (.lst (xs.set j v)))
theorem qfg:PSet X rSetL:=by
 intro pins s y H o i v C E u Q I z ri A h
 obtain⟨p,xs,k,j,rfl,rfl,l,B,q⟩:=h
 cases z
 obtain⟨t,rfl⟩:=ri
 obtain⟨its,n,r,d,hz⟩:=I.lst l
 obtain⟨c,F,m,w⟩:=qdd B
 have e:=r.length
 have hn:=line63
 have x:Inv X pins y (upd H p (.lst (xs.set j v))) {s with heap:=s.heap.update p (Obj.mapSeq (·.setIfInBounds j u))} :=
  I.lstUpd l d (qcy its n j u) (r.set A j) (by rw[List.length_set];exact hz) s.toks
 by_cases h0:0<=k
 .have f:k.toNat=j:=by
   rw[seqIndex_of h0 w]at c
   exact Option.some.inj c
  exact PySem.W.ki_setAt d h0 (by lia) (by rw[wJ,<-e];exact w) (by rw[f];exact⟨_,x,q⟩)
 .have f:(k+(its.toArray.size:Int)).toNat=j:=by
   rw[seqIndex_neg (by lia) m]at c
   rw[wJ,<-e]
   exact Option.some.inj c
  exact PySem.W.ki_setBack d (by lia) (by rw[wJ,<-e];exact m) (by lia) (by rw[f];exact⟨_,x,q⟩)
theorem qaO(lo hi:Option Int)(n:Nat):(sliceBounds lo hi none n).1=((HT.sIx n 0 lo:Nat):Int)/\(sliceBounds lo hi none n).2.1=((HT.sIx n n hi:Nat):Int)/\(sliceBounds lo hi none n).2.2=1:=by
 refine⟨?_,?_,rfl⟩
 .cases lo with
  |none=>simp[sliceBounds,HT.sIx]
  |some i =>
   simp only[sliceBounds,HT.sIx,Option.getD_none,show(1:Int)>0 by decide,vd]
   by_cases h:i<0
   .simp only[h,vd] <;> lia
   .simp only[h,vc] <;> lia
 .cases hi with
  |none=>simp[sliceBounds,HT.sIx]
  |some i =>
   simp only[sliceBounds,HT.sIx,Option.getD_none,show(1:Int)>0 by decide,vd]
   by_cases h:i<0
   .simp only[h,vd] <;> lia
   .simp only[h,vc] <;> lia
theorem qak(its:List Value)(lo hi:Option Int):slicePick its.toArray lo hi none=((its.drop (HT.sIx its.length 0 lo)).take (HT.sIx its.length its.length hi-HT.sIx its.length 0 lo)).toArray:=by
 obtain⟨c,d,e⟩:=qaO lo hi its.toArray.size
 unfold slicePick
 rw[c,d,e]
 simp only[sliceRange_one,pick_run,wJ] <;> rfl
def rSlL(K:PySem.W.Frag):V->Option Int->Option Int->Hp->VK->Prop:=λx lo hi H Q=>∃a xs,x=.ref a/\SqL K H a xs/\∀p,H p=none->Q (.ref p) (upd H p (.lst (cutV xs lo hi)))
theorem qhK:SlR X (rSlL X.K):=by
 intro pins s i H x v j l lo hi sl Q I rx e pl f h
 obtain⟨a,xs,rfl,hx,q⟩:=h
 cases rx
 obtain⟨its,r,d,hz⟩:=I.list hx
 have c:=r.length
 refine⟨"list",_,slot_list_getitem.lookup,d.isList.typeIs,?_⟩
 refine wpAny_getItem_list_slice d.isList e pl f .none (by simp) ?_ (by rw[wJ] <;> lia)
 rw[qak,<-c]
 refine⟨.ref s.heap.objs.size,_,I.laid (t':=s.toks) (o:=.lst (cutV xs lo hi)) (λb ob q=>wB _ q) (wG _) ?_,rfl,q _ (I.hok.fresh (wG _))⟩
 exact⟨vK (jk xs lo hi) hz,_,0,(r.drop (HT.sIx xs.length 0 lo)).take (HT.sIx xs.length xs.length hi-HT.sIx xs.length 0 lo),wE _ rfl⟩
noncomputable def flatV:V->Bool
 | .non=>true
 | .bl _=>true
 | .int _=>true
 | .str _=>true
 |_=>false
noncomputable def eqV:V->V->Bool
 | .non,.non=>true
 | .bl a,.bl b=>a == b
 | .bl a,.int b=>(if a then 1 else 0) == b
 | .int a,.bl b=>a == (if b then 1 else 0)
 | .int a,.int b=>a == b
 | .str a,.str b=>a == b
 |_,_=>false
theorem qjJ{A:Around}{s:Shared}{y x:V}{u v:Value}(c:RelV y u)(rx:RelV x v)(e:flatV y=true)(d:flatV x=true):SeqAt.EqAt A s u v (eqV y x):=by
 cases y with
 |non =>
  cases c
  cases x with
  |non=>cases rx;exact SeqAt.EqAt.same _
  |bl b=>cases rx;exact SeqAt.EqAt.none_bool b
  |int b=>obtain⟨t,rfl⟩:=rx;exact SeqAt.EqAt.none_int b t
  |str b=>obtain⟨t,rfl⟩:=rx;exact SeqAt.EqAt.none_str b t
  |_=>exact absurd (show false=true from d) wY
 |bl a =>
  cases c
  cases x with
  |non=>cases rx;exact SeqAt.EqAt.bool_none a
  |bl b=>cases rx;exact SeqAt.EqAt.bool_bool a b
  |int b=>obtain⟨t,rfl⟩:=rx;exact SeqAt.EqAt.bool_int a b t
  |str b=>obtain⟨t,rfl⟩:=rx;exact SeqAt.EqAt.bool_str a b t
  |_=>exact absurd (show false=true from d) wY
 |int a =>
  obtain⟨t',rfl⟩:=c
  cases x with
  |non=>cases rx;exact SeqAt.EqAt.int_none a t'
  |bl b=>cases rx;exact SeqAt.EqAt.int_bool a t' b
  |int b=>obtain⟨t,rfl⟩:=rx;exact SeqAt.EqAt.int_int a t' b t
  |str b=>obtain⟨t,rfl⟩:=rx;exact SeqAt.EqAt.int_str a t' b t
  |_=>exact absurd (show false=true from d) wY
 |str a =>
  obtain⟨t',rfl⟩:=c
  cases x with
  |non=>cases rx;exact SeqAt.EqAt.str_none a t'
  |bl b=>cases rx;exact SeqAt.EqAt.str_bool a t' b
  |int b=>obtain⟨t,rfl⟩:=rx;exact SeqAt.EqAt.str_int a t' b t
  |str b=>obtain⟨t,rfl⟩:=rx;exact SeqAt.EqAt.str_str a t' b t
  |_=>exact absurd (show false=true from d) wY
 |_=>exact absurd (show false=true from e) wY
noncomputable def eqU(x:V)(u:Value):Bool:=match u with
 | .none=>eqV .non x
 | .bool b=>eqV (.bl b) x
 | .int i _=>eqV (.int i) x
 | .str z _=>eqV (.str z) x
 |_=>false
theorem qfh{x y:V}{u:Value}(r:RelV y u)(f:flatV y=true):eqU x u=eqV y x:=by
 cases y with
 |non=>cases r;rfl
 |bl b=>cases r;rfl
 |int i=>obtain⟨t,rfl⟩:=r;rfl
 |str z=>obtain⟨t,rfl⟩:=r;rfl
 |_=>exact absurd (show false=true from f) wY
theorem yK{x:V}:∀{xs:List V} {us:List Value},Vals xs us->xs.all flatV=true->us.any (eqU x)=xs.any λy=>eqV y x
 |_,_,.nil,_=>rfl
 |y::xs,u::us,.cons r t,f=>by
  rw[xH,wV]at f
  rw[vk,vk,qfh r f.1,yK t f.2]
theorem z0{A:Around}{s:Shared}{x:V}{v:Value}(rx:RelV x v)(d:flatV x=true):∀{xs:List V} {us:List Value},Vals xs us->xs.all flatV=true->∀u∈us,SeqAt.EqAt A s u v (eqU x u)
 |_,_,.nil,_=>λu c=>by cases c
 |y::xs,u::us,.cons r t,f=>λe c=>by
  rw[xH,wV]at f
  rcases wN.mp c with rfl|c
  .rw [qfh r f.1];exact qjJ r rx f.1 d
  .exact z0 rx d t f.2 e c
noncomputable def inV(x:V)(xs:List V):Bool:=xs.any λy=>eqV y x
noncomputable def rIn(K:PySem.W.Frag)(c:Bool):R2:=λx y H Q=>∃p xs,y=.ref p/\(SqL K H p xs\/SqT K H p xs)/\flatV x=true/\xs.all flatV=true/\Q (.bl (if c then !inV x xs else inV x xs)) H
theorem qeq:OpR X (compareOp .In) (rIn X.K false):=by
 intro pins s i H x y v u Q I rx f h
 obtain⟨p,xs,rfl,c,e,fs,q⟩:=h
 cases f
 rcases c with c|c
 .obtain ⟨its,r,pl,hz⟩:=I.list c
  refine SeqAt.in_listAt (eqU x) pl.isList (λw d=>z0 rx e r fs w (by simpa using d)) ⟨.bl _,H,I,rfl,?_⟩
  rw[show its.toArray.any (eqU x)=its.any (eqU x) by simp,yK r fs]
  exact q
 .obtain ⟨its,r,pl,hz⟩:=I.tuple c
  refine SeqAt.in_tupleAt (eqU x) pl (λw d=>z0 rx e r fs w (by simpa using d)) ⟨.bl _,H,I,rfl,?_⟩
  rw[show its.toArray.any (eqU x)=its.any (eqU x) by simp,yK r fs]
  exact q
theorem qaP:OpR X (compareOp .NotIn) (rIn X.K true):=by
 intro pins s i H x y v u Q I rx f h
 obtain⟨p,xs,rfl,c,e,fs,q⟩:=h
 cases f
 rcases c with c|c
 .obtain ⟨its,r,pl,hz⟩:=I.list c
  refine SeqAt.notIn_listAt (eqU x) pl.isList (λw d=>z0 rx e r fs w (by simpa using d)) ⟨.bl _,H,I,rfl,?_⟩
  rw[show its.toArray.any (eqU x)=its.any (eqU x) by simp,yK r fs]
  exact q
 .obtain ⟨its,r,pl,hz⟩:=I.tuple c
  refine SeqAt.notIn_tupleAt (eqU x) pl (λw d=>z0 rx e r fs w (by simpa using d)) ⟨.bl _,H,I,rfl,?_⟩
  rw[show its.toArray.any (eqU x)=its.any (eqU x) by simp,yK r fs]
  exact q
theorem CallR.or{f:Value}{r c:List V->Hp->VK->Prop}(h:CallR X f r)(h':CallR X f c):CallR X f (λxs H Q=>r xs H Q\/c xs H Q):=by
 intro pins s d H xs us Q I e q
 rcases q with q|q
 .exact h pins s d H xs us Q I e q
 .exact h' pins s d H xs us Q I e q
theorem qal:CallR X (.type "tuple") (λxs H Q=>∃p ys,xs=[.ref p]/\((SqL X.K H p ys/\∀l,H l=none->Q (.ref l) (upd H l (.tup ys)))\/(SqT X.K H p ys/\Q (.ref p) H))):=by
 intro pins s f H xs us Q I r h
 obtain⟨p,ys,rfl,h⟩:=h
 obtain⟨u,rfl,rx⟩:=vals1 r
 cases rx
 rcases h with ⟨c,q⟩|⟨c,q⟩
 .obtain ⟨its,d,pl,hz⟩:=I.list c
  have i:=d.length
  refine call_tuple_list pl.isList (λh' kp=>?_) (by simp only[wJ] <;> lia)
  have j:Inv X pins f H {s with heap:=h' }:=I.kept (t':=s.toks) kp
  have m:Inv X pins f (upd H h'.objs.size (.tup ys)) {s with heap:=h'.push {cls:=.type "tuple",data:=.seq its.toArray}} :=
   j.laid (t':=s.toks) (λb o e=>wB _ e) (wG _) (show ObjOk X.prog X.w _ _ _ (.tup ys)from⟨hz,its,d,IsTup.new _ _,yp _ _⟩)
  exact⟨.ref h'.objs.size,_,m,rfl,q _ (j.hok.fresh (wG _))⟩
 .obtain ⟨its,d,pl,hz⟩:=I.tuple c
  exact call_tuple_same pl ⟨.ref p,H,I,rfl,q⟩
def tyV(K:PySem.W.Frag)(T:String)(x:V)(H:Hp):Prop:=match x with
 | .str _=>T="str"
 | .int _=>T="int"
 | .ref p=>(T="list"/\∃xs,SqL K H p xs)\/(T="tuple"/\∃o,K.lookup p=some o/\o.cls=.type "tuple"/\o.dict=none) \/
   (T="dict"/\((∃kvs,H p=some (.dK kvs))\/∃kvs,H p=some (.dT kvs)))\/(T="set"/\∃S n,H p=some (.set S n))
 |_=>False
theorem qjK{pins:List (Addr×Obj)}{h:St}{H:Hp}{s:Shared}{T:String}{x:V}{v:Value}(I:Inv X pins h H s)(r:RelV x v)(ty:tyV X.K T x H):
  s.TypeIs v T/\∀a,v=.ref a->∃ob,s.heap.get? a=some ob/\ob.dict=none:=by
 cases x with
 |str z =>
  obtain⟨t,rfl⟩:=r
  cases (show T="str" from ty)
  exact⟨typeIs_str s z t,λ_ e=>nomatch e⟩
 |int i =>
  obtain⟨t,rfl⟩:=r
  cases (show T="int" from ty)
  exact⟨xI s i t,λ_ e=>nomatch e⟩
 |ref p =>
  cases r
  rcases ty with ⟨rfl,xs,j⟩|⟨rfl,o,d,hc,hd⟩|⟨rfl,d⟩|⟨rfl,S,n,d⟩
  .obtain ⟨its,_,pl,_⟩:=I.list j
   refine⟨pl.isList.typeIs,λa e=>?_⟩
   cases e
   obtain⟨o,n,e,c,hd,_⟩:=pl
   exact⟨o,e,hd⟩
  .refine ⟨⟨o,I.kIn p o d,hc⟩,λa e=>?_⟩
   cases e
   exact⟨o,I.kIn _ o d,hd⟩
  .have z:∃o,s.heap.get? p=some o/\o.ExactDict:=by
    rcases d with ⟨kvs,d⟩|⟨kvs,d⟩
    .obtain ⟨_,_,_,_,o,_,_,e,ex,_⟩:=I.hok p _ d
     exact⟨o,e,ex⟩
    .obtain ⟨_,_,_,_,o,_,_,e,ex,_⟩:=I.hok p _ d
     exact⟨o,e,ex⟩
   obtain⟨o,e,ex⟩:=z
   refine⟨⟨o,e,ex.1⟩,λa f=>?_⟩
   cases f
   exact⟨o,e,ex.2.1⟩
  .obtain ⟨o,_,_,_,e,ex,_⟩:=I.hok p _ d
   refine⟨⟨o,e,ex.1⟩,λa f=>?_⟩
   cases f
   exact⟨o,e,ex.2.1⟩
 |_=>exact False.elim ty
noncomputable def tBM(K:PySem.W.Frag)(T:String)(r:V->List V->Hp->VK->Prop)(e:TE)(t:TA):TE:=λc H Q=>e c H λx d=>tyV K T x d/\t c d λxs H2=>r x xs H2 Q
variable{o e:Expr}{es:List Expr}{to:TE}{t:TA}{name:Str}{apos cpos:Pos}{T id:String}{r:V->List V->Hp->VK->Prop}
theorem qlb(q:PlainAttrs T)(slot:Slot T name id)(j:typeOf (.builtin id)=pure (.type "method_descriptor"))(hm:MtR X id r)(u:PE X o to)(ha:PA X (e::es) t)(d:attributeBase o name X.env (eval o X.env)=eval o X.env:=by rfl)(i:((backTo cpos (starEach (e::es) X.env)).all (λx=>!x.1)&&(backToKw cpos (keywordEach [] X.env)).all (λx=>x.1.isSome)
   && decide ((e::es).length+([]:List Keyword).length+(if([]:List Keyword).isEmpty then 0 else 1)<30))=true:=by rfl)(f:(apos.endLine == cpos.line)=true:=by rfl)(w:starEach (e::es) X.env=(false,eval e X.env)::starEach es X.env:=by rfl)(c:(backTo cpos (starEach es X.env)).any (·.1)=false:=by rfl):
  PE X (.Call (.Attribute o name apos) (e::es) [] cpos) (tBM X.K T r to t):=by
 intro pins s l H Q I h
 refine wpAny_Call_method_late d i f rfl (thn (u pins s l H _ I h) λv s1 ⟨x,y,m,n,ty,q1⟩=>?_)
 obtain⟨z,A⟩:=qjK m n ty
 refine⟨T,id,q,slot,j,z,A,?_⟩
 have p:=ha cpos pins s1 l y _ m q1
 rw[w]at p ⊢
 refine Calls.callWith_builtin (by show(false || (backTo cpos (starEach es X.env)).any (·.1))=false;rw[c] <;> rfl) (Calls.evalArgs_plain ?_)
 exact thn p λus s2 ⟨vs,H2,B,C,q2⟩=>hm pins s2 l H2 x vs v us Q B n C q2
/- xs.append(e),list.index on a module's tuple .. are MtR facts of 06m -/
end
end L2
namespace L2
open PySem PySem.Spec PyProof.Rows
noncomputable def MtM(X:Cx)(id:String)(r:V->List V->Hp->VK->Prop):Prop :=
 ∀(pins:List (Addr×Obj)) (s:Shared) (a:St) (H:Hp) (x:V) (xs:List V) (v:Value) (us:List Value) (Q:VK),Inv X pins a H s->RelV x v->Vals xs us->r x xs H Q ->
  wpAny (model X.prog X.w) X.A (call (.builtin id) (v::us)) (EP X pins a Q) X.xe s
theorem Vals.one:∀{x:V} {us:List Value},Vals [x] us->∃u,us=[u]/\RelV x u
 |_,_,.cons r .nil=>⟨_,rfl,r⟩
theorem Vals.eraseIdx:∀{xs:List V} {us:List Value} (i:Nat),Vals xs us->Vals (xs.eraseIdx i) (us.eraseIdx i)
 |_,_,_,.nil=>.nil
 |_,_,0,.cons _ t=>t
 |_,_,i+1,.cons r t=>.cons r (Vals.eraseIdx i t)
theorem Vals.rep{xs:List V}{us:List Value}(h:Vals xs us):∀k:Nat,Vals (List.replicate k xs).flatten (List.replicate k us).flatten
 |0=>.nil
 |k+1=>by
  rw[v0,v0,vA,vA]
  exact Vals.append h (Vals.rep h k)
theorem qat{a:Type}:∀(l:List a) (i:Nat),(l.eraseIdx i).length<=l.length
 |[],_=>wG _
 |_::_,0=>vz _
 |_::r,i+1=>Nat.succ_le_succ (qat r i)
theorem y9(its:List Value):∀(k:Nat) (a:List Value),
  List.foldl (λb c=>b++c) a.toArray (List.replicate k its.toArray)=(a++(List.replicate k its).flatten).toArray
 |0,a=>by simp
 |k+1,a=>by
  have e:a.toArray++its.toArray=(a++its).toArray:=by simp
  have d:(a++its)++(List.replicate k its).flatten=a++(List.replicate (k+1) its).flatten:=by
   rw[v0,vA,uG]
  rw[<-d,<-y9 its k (a++its),<-e,v0,v9]
section
variable{X:Cx}{pins:List (Addr×Obj)}{σ:St}{H:Hp}{s:Shared}{l b:Addr}{xs ys zs:List V}
theorem Inv.lset{its its':List Value}{n:Nat}{f:Array Value->Array Value}{t':Nat}(I:Inv X pins σ H s)(a:H l=some (.lst xs))(e:s.heap.get? l=some {cls:=.type "list",data:=.seq its.toArray n})(c:f its.toArray=its'.toArray)(d:Vals ys its')(hz:ys.length<=sizeLine):
  Inv X pins σ (upd H l (.lst ys)) {s with heap:=s.heap.update l (Obj.mapSeq f),toks:=t' }:=by
 have q:=PySem.IsL.update e f
 rw[c]at q
 refine I.write (x:=l) (e:=l) (by rw[a];exact trivial) (.inl rfl) (λj u h i=>(wQ s.heap (Obj.mapSeq f) (Ne.symm h)).trans i) ⟨_,q⟩ ?_
 exact⟨hz,its',_,d,q⟩
theorem Inv.lnew{its:List Value}{t':Nat}(I:Inv X pins σ H s)(a:Vals ys its)(hz:ys.length<=sizeLine):
  Inv X pins σ (upd H s.heap.objs.size (.lst ys)) {s with heap:=s.heap.push {cls:=.type "list",data:=.seq its.toArray},toks:=t' } :=
 I.laid (λ_ _ q=>wB _ q) (wG _) ⟨hz,its,0,a,wE _ rfl⟩
theorem Inv.fresh(I:Inv X pins σ H s):H s.heap.objs.size=none:=I.hok.fresh (wG _)
theorem Inv.lstM(I:Inv X pins σ H s)(a:H l=some (.lst xs)):xs.length<=sizeLine/\∃(its:List Value) (n:Nat),Vals xs its/\xs.length=its.length/\s.heap.get? l=some {cls:=.type "list",data:=.seq its.toArray n}:=by
 obtain⟨z,its,n,r,e⟩:=I.hok l _ a
 exact⟨z,its,n,r,r.length,e⟩
theorem notLongL{n:Nat}(h:n<=sizeLine):Builtin.List.listTooLong n=false:=by
 unfold Builtin.List.listTooLong
 exact ww (by lia)
end
section
variable{X:Cx}
def rAppend:V->List V->Hp->VK->Prop:=λx vs H Q=>∃l xs y,x=.ref l/\vs=[y]/\H l=some (.lst xs)/\xs.length<sizeLine/\Q .non (upd H l (.lst (xs++[y])))
theorem qau:MtM X "list.append" rAppend:=by
 intro pins s d H x vs v us Q I rx b h
 obtain⟨l,xs,y,rfl,rfl,a,hz,q⟩:=h
 cases rx
 obtain⟨u,rfl,c⟩:=b.one
 obtain⟨z,its,n,r,f,e⟩:=I.lstM a
 refine gB F.slot_list_append ⟨_,e,rfl⟩ F.entry_list_append (F.args_list_append_2 _ _) (PySem.list_append l its.toArray n u (by rw[wJ];lia)) ⟨e,?_⟩
 refine⟨.non,_,I.lset (its':=its++[u]) a e (by simp) (r.append (.cons c .nil)) ?_,rfl,q⟩
 rw[we,uV]
 lia
def rPopAt:V->List V->Hp->VK->Prop:=λx vs H Q=>∃l xs i k y,x=.ref l/\vs=[.int i]/\H l=some (.lst xs)/\-(2^63)<=i/\i<2^63/\seqIndex? i xs.length=some k/\xs[k]?=some y/\Q y (upd H l (.lst (xs.eraseIdx k)))
theorem qfi:MtM X "list.pop" rPopAt:=by
 intro pins s B H x vs v us Q I rx c h
 obtain⟨l,xs,i,k,y,rfl,rfl,b,d,f,j,m,q⟩:=h
 cases rx
 obtain⟨u,rfl,o⟩:=c.one
 obtain⟨t,rfl⟩:=o
 obtain⟨z,its,n,r,p,e⟩:=I.lstM b
 obtain⟨w,A,a⟩:=r.get m
 refine gB F.slot_list_pop ⟨_,e,rfl⟩ F.entry_list_pop (F.args_list_pop_2 _ _)
  (MeetsSeq.list_pop_at l its.toArray n i t k w (fitsIndex_both d f) (by rw[wJ,<-p];exact j) (by rw[<-vB];exact A) (by rw[wJ];lia)) ⟨e,?_⟩
 refine⟨y,_,I.lset (its':=its.eraseIdx k) b e ?_ (r.eraseIdx k) ?_,a,q⟩
 .show its.toArray.eraseIdxIfInBounds k=(its.eraseIdx k).toArray
  rw[List.eraseIdxIfInBounds_toArray]
 .have:=qat xs k
  lia
theorem qaQ{a:Type}(xs:List a)(k:Nat):(List.replicate k xs).flatten.length=k*xs.length:=by
 induction k with
 |zero=>simp
 |succ k b=>rw[v0,vA,we,b,Nat.succ_mul,Nat.add_comm]
end
section
variable{prog:Program}{w:World}{A:Around}{E:Value->Shared->Prop}{s:Shared}
set_option maxRecDepth 100000 in
end
end L2
namespace L2
open PySem PySem.Spec PyProof.Rows
section
variable{κ:Type}[DecidableEq κ]
noncomputable def valV(kvs:List (κ×V))(k:κ):Option V:=(kvs.find? λa=>decide (a.1=k)).map (·.2)
noncomputable def putK(kvs:List (κ×V))(k:κ)(v:V):List (κ×V) :=
 if(kvs.any λa=>decide (a.1=k))=true then kvs.map (λa=>if a.1=k then(a.1,v)else a)else kvs++[(k,v)]
theorem yL{p:κ×V}{r:List (κ×V)}{k:κ}(e:p.1=k):valV (p::r) k=some p.2:=by simp[valV,ui,e]
theorem yM{p:κ×V}{r:List (κ×V)}{k:κ}(e:¬p.1=k):valV (p::r) k=valV r k:=by simp[valV,ui,e]
theorem qbx(k:κ):∀kvs:List (κ×V),(kvs.any λa=>decide (a.1=k))=(valV kvs k).isSome
 |[]=>rfl
 |p::r=>by
  rw[vk]
  by_cases e:p.1=k
  .simp only[yL e,v8 e,Bool.true_or,Option.isSome_some]
  .rw [yM e,ww e,Bool.false_or];exact qbx k r
theorem zg(kvs:List (κ×V))(k:κ)(v:V):(putK kvs k v).length<=kvs.length+1:=by
 unfold putK
 split
 .rw [wP];lia
 .rw [we,wX,w1];lia
theorem RelO.isSome_eq{o:Option V}{u:Option Value}(r:RelO o u):o.isSome=u.isSome:=by
 cases o with
 |none=>cases u with
  |none=>rfl
  |some _=>exact(show False from r).elim
 |some _=>cases u with
  |none=>exact(show False from r).elim
  |some _=>rfl
theorem KV.val{kvs:List (κ×V)}{vs:List (κ×Value)}(r:KV kvs vs)(k:κ):RelO (valV kvs k) (valueAt vs k):=by
 unfold KV at r
 induction r with
 |nil=>exact True.intro
 | @cons p q ps a h t f =>
  obtain⟨d,i⟩:=h
  by_cases e:p.1=k
  .have c:q.1=k:=d.symm.trans e
   have b:valueAt (q::a) k=some q.2:=by simp[valueAt,ui,c]
   rw[yL e,b];exact i
  .have c:¬q.1=k:=λz=>e (d.trans z)
   have b:valueAt (q::a) k=valueAt a k:=by simp[valueAt,ui,c]
   rw[yM e,b];exact f
theorem KV.any{kvs:List (κ×V)}{vs:List (κ×Value)}(r:KV kvs vs)(k:κ):(kvs.any λa=>decide (a.1=k))=vs.any λa=>decide (a.1=k):=by
 unfold KV at r
 induction r with
 |nil=>rfl
 |cons h t b=>rw[vk,vk,b,h.1]
theorem KV.repl{kvs:List (κ×V)}{vs:List (κ×Value)}(r:KV kvs vs)(k:κ){y:V}{u:Value}(c:RelV y u):
  KV (kvs.map λa=>if a.1=k then(a.1,y)else a) (vs.map λa=>if a.1=k then(a.1,u)else a):=by
 unfold KV at r ⊢
 induction r with
 |nil=>exact .nil
 | @cons p q ps i h t d =>
  rw[wR,wR]
  refine .cons ?_ d
  obtain⟨b,f⟩:=h
  by_cases e:p.1=k
  .rw [wL e,wL (b.symm.trans e)];exact⟨b,c⟩
  .rw [wK e,wK (λz=>e (b.trans z))];exact⟨b,f⟩
theorem KV.put{kvs:List (κ×V)}{vs:List (κ×Value)}(r:KV kvs vs)(k:κ){y:V}{u:Value}(a:RelV y u):KV (putK kvs k y) (stored vs k u):=by
 unfold putK stored
 rw[r.any k]
 by_cases e:(vs.any λb=>decide (b.1=k))=true
 .rw [wL e,wL e];exact r.repl k a
 .rw [wK e,wK e];exact Paired.snoc r ⟨rfl,a⟩
theorem KV.length{kvs:List (κ×V)}{vs:List (κ×Value)}(r:KV kvs vs):kvs.length=vs.length:=Paired.length r
end
theorem qdf{P:Program}{w:World}{k:Key}{u:Value}(r:RelV (kV k) u):(mixKind P w).is k u=true:=by
 cases k with
 |inl i=>obtain⟨t,e⟩:=(show ∃t,u=Value.int i t from r);subst e;exact qbr P w i t
 |inr x=>obtain⟨t,e⟩:=(show ∃t,u=Value.str x t from r);subst e;exact qbs P w x t
theorem qav{P:Program}{w:World}:∀{ks:List Key} {us:List Value},Vals (ks.map kV) us->ItemsAre (mixKind P w) ks us
 |[],_,r=>by rw[xR]at r;cases r;exact .nil
 |k::ks,_,r=>by
  rw[wR]at r
  cases r with
  |cons h t=>exact .cons (qdf h) (qav t)
noncomputable abbrev KT(H:Hp):List (List Key×V)->List (List Key×Addr×Value)->Prop:=Paired λp q=>p.1=q.1/\H q.2.1=some (.tup (p.1.map kV))/\RelV p.2 q.2.2
theorem KT.val{H:Hp}{kvs:List (List Key×V)}{xs:List (List Key×Addr×Value)}(r:KT H kvs xs)(k:List Key):RelO (valV kvs k) ((atKey xs k).map (·.2)):=by
 induction r with
 |nil=>exact True.intro
 | @cons p q ps a h t f =>
  obtain⟨d,_,i⟩:=h
  by_cases e:p.1=k
  .have c:q.1=k:=d.symm.trans e
   have b:atKey (q::a) k=some q.2:=by simp[atKey,ui,c]
   rw[yL e,b];exact i
  .have c:¬q.1=k:=λz=>e (d.trans z)
   have b:atKey (q::a) k=atKey a k:=by simp[atKey,ui,c]
   rw[yM e,b];exact f
theorem KT.repl{H:Hp}{kvs:List (List Key×V)}{xs:List (List Key×Addr×Value)}(r:KT H kvs xs)(k:List Key){y:V}{u:Value}(d:RelV y u):
  KT H (kvs.map λb=>if b.1=k then(b.1,y)else b) (xs.map (putAt k u)):=by
 induction r with
 |nil=>exact .nil
 | @cons p q ps j h t f =>
  rw[wR,wR]
  refine .cons ?_ f
  obtain⟨a,c,i⟩:=h
  unfold putAt
  by_cases e:p.1=k
  .rw [wL e,wL (a.symm.trans e)];exact⟨a,c,d⟩
  .rw [wK e,wK (λz=>e (a.trans z))];exact⟨a,c,i⟩
theorem KT.put{H:Hp}{kvs:List (List Key×V)}{xs:List (List Key×Addr×Value)}(r:KT H kvs xs)(k:List Key){b:Addr}{y:V}{u:Value}(c:H b=some (.tup (k.map kV)))(a:RelV y u):
  KT H (putK kvs k y) (storedH xs k b u):=by
 have e:(kvs.any λd=>decide (d.1=k))=(atKey xs k).isSome:=by
  rw[qbx,(r.val k).isSome_eq,Option.isSome_map]
 unfold putK storedH
 rw[e]
 by_cases q:(atKey xs k).isSome=true
 .rw [wL q,wL q];exact r.repl k a
 .rw [wK q,wK q];exact Paired.snoc r ⟨rfl,c,a⟩
theorem KT.keeps{H H':Hp}{kvs:List (List Key×V)}{xs:List (List Key×Addr×Value)}(r:KT H kvs xs)(a:∀b ys,H b=some (.tup ys)->H' b=some (.tup ys)):KT H' kvs xs :=
 Paired.mapP r λ_ _ z=>⟨z.1,a _ _ z.2.1,z.2.2⟩
section
variable{P:Program}{w:World}{H:Hp}{h:Heap}{a:Addr}
theorem qiW{u:HO}(ok:HOk P w H h)(e:Rd H a u):ObjOk P w H h a u:=e.ok ok
theorem qdg{kvs:List (Key×V)}(ok:HOk P w H h)(e:Rd H a (.dK kvs)):kvs.length<=sizeLine/\(a == sysModules)=false/\∃vs,KV kvs vs/\h.DictOf (mixKind P w) a vs :=
 show ObjOk P w H h a (.dK kvs)from qiW ok e
theorem qiX{kvs:List (Key×V)}(ok:HOk P w H h)(e:H a=some (.dK kvs)):kvs.length<=sizeLine/\(a == sysModules)=false/\∃vs,KV kvs vs/\h.DictOf (mixKind P w) a vs:=qdg ok (.inl e)
theorem qaR{ks:List Key}(ok:HOk P w H h)(e:H a=some (.tup (ks.map kV))):(tupleKind (mixKind P w)).is h ks a:=by
 obtain⟨_,its,r,⟨o,b,c,n,d⟩,_⟩:=(show ObjOk P w H h a (.tup (ks.map kV))from ok a _ e)
 exact⟨o,its.toArray,n,b,c,d,by simpa using qav r⟩
theorem qdh{kvs:List (List Key×V)}(ok:HOk P w H h)(e:Rd H a (.dT kvs)):kvs.length<=sizeLine/\(a == sysModules)=false /\
  ∃xs,KT H kvs xs/\h.DictOfH (tupleKind (mixKind P w)) a xs:=by
 obtain⟨z,y,xs,r,o,es,ep,c,d,f,i,j⟩:=(show ObjOk P w H h a (.dT kvs)from qiW ok e)
 refine⟨z,y,xs,r,o,es,ep,c,d,f,i,λx hx=>?_,j⟩
 have all:∀{l:List (List Key×V)} {m:List (List Key×Addr×Value)},KT H l m->∀x∈m,(tupleKind (mixKind P w)).is h x.1 x.2.1:=by
  intro l m q
  induction q with
  |nil=>intro x hx;exact nomatch hx
  | @cons p q ps s b t n =>
   intro x hx
   rcases wN.mp hx with e|hx
   .subst e
    exact qaR ok (by rw[<-b.1];exact b.2.1)
   .exact n x hx
 exact all r x hx
theorem qlc{kvs:List (List Key×V)}(ok:HOk P w H h)(e:H a=some (.dT kvs)):kvs.length<=sizeLine/\(a == sysModules)=false /\
  ∃xs,KT H kvs xs/\h.DictOfH (tupleKind (mixKind P w)) a xs:=qdh ok (.inl e)
end
noncomputable def DGet(H:Hp)(a:Addr)(y:V)(r:Option V):Prop :=
 (∃kvs k,Rd H a (.dK kvs)/\y=kV k/\r=valV kvs k)\/∃kvs k b,Rd H a (.dT kvs)/\y=.ref b/\H b=some (.tup (k.map kV))/\r=valV kvs k
noncomputable def DPut(H:Hp)(a:Addr)(y v:V)(H':Hp):Prop :=
 (∃kvs k,H a=some (.dK kvs)/\y=kV k/\kvs.length<sizeLine/\H'=upd H a (.dK (putK kvs k v))) \/
 ∃kvs k b,H a=some (.dT kvs)/\y=.ref b/\H b=some (.tup (k.map kV))/\kvs.length<sizeLine/\H'=upd H a (.dT (putK kvs k v))
theorem DGet.k{H:Hp}{a:Addr}{kvs:List (Key×V)}{k:Key}(e:H a=some (.dK kvs)):DGet H a (kV k) (valV kvs k):=.inl ⟨kvs,k,.inl e,rfl,rfl⟩
theorem DGet.t{H:Hp}{a b:Addr}{kvs:List (List Key×V)}{k:List Key}(e:H a=some (.dT kvs))(c:H b=some (.tup (k.map kV))):DGet H a (.ref b) (valV kvs k):=.inr ⟨kvs,k,b,.inl e,rfl,c,rfl⟩
theorem DPut.k{H:Hp}{a:Addr}{kvs:List (Key×V)}{k:Key}{v:V}(e:H a=some (.dK kvs))(b:kvs.length<sizeLine):DPut H a (kV k) v (upd H a (.dK (putK kvs k v))):=.inl ⟨kvs,k,e,rfl,b,rfl⟩
theorem DPut.t{H:Hp}{a b:Addr}{kvs:List (List Key×V)}{k:List Key}{v:V}(e:H a=some (.dT kvs))(c:H b=some (.tup (k.map kV)))(d:kvs.length<sizeLine):
  DPut H a (.ref b) v (upd H a (.dT (putK kvs k v))):=.inr ⟨kvs,k,b,e,rfl,c,d,rfl⟩
section
variable{X:Cx}{pins:List (Addr×Obj)}{σ:St}{H:Hp}{s:Shared}{a:Addr}{y v:V}{u r:Value}{o:Option V}{A:Around}{E:Value->Shared->Prop}
theorem Inv.big(I:Inv X pins σ H s):sysModules<s.heap.objs.size:=by
 have h:mainGlobals<s.heap.objs.size:=(I.mod.glob.keeps I.bk).lt
 exact Nat.lt_trans (by decide) h
theorem qaw{Q:Value->Shared->Prop}(x:A.units+1<cLine)(I:Inv X pins σ H s)(g:DGet H a y (some v))(q:RelV y u)(h:∀f s',Inv X pins σ H s'->RelV v f->Q f s'):
  wpAny (model X.prog X.w) A (getItem (.ref a) u) Q E s:=by
 rcases g with ⟨kvs,k,e,i,l⟩|⟨kvs,k,b,e,i,eb,l⟩
 .subst i
  obtain⟨z,hd,vs,c,j⟩:=qdg I.hok e
  obtain⟨f,m,d⟩:=RelO.some_of (v:=v) (o:=valueAt vs k) (by rw[l];exact c.val k)
  exact wpAny_getItem_of (qdf q) j.mapOf m (h f _ (I.tok _) d)
 .subst i
  cases (show u=Value.ref b from q)
  obtain⟨z,hd,xs,c,j⟩:=qdh I.hok e
  obtain⟨f,m,d⟩:=RelO.some_of (v:=v) (o:=(atKey xs k).map (·.2)) (by rw[l];exact c.val k)
  obtain⟨p,B,n⟩:=xw.mp m
  refine wpAny_getItem_heap (tupleKind_room_in1 x) (qaR I.hok eb) j B ?_
  rw[n]
  exact h f _ (I.tok _) d
theorem qaS{h':Heap}{t':Nat}{ob:HO}(I:Inv X pins σ H s)(c:Mut (H a))(d:Heap.SameBut a s.heap h')(f:∃q,h'.get? a=some q)(new:ObjOk X.prog X.w (upd H a ob) h' a ob):
  Inv X pins σ (upd H a ob) {s with heap:=h',toks:=t' } :=
 I.write (x:=a) (e:=a) c (.inl rfl) (λb q h z=>(d.2 b h).trans z) f new
theorem qfj{P:Program}{w:World}{H':Hp}{h':Heap}{kvs:List (Key×V)}{vs:List (Key×Value)}(z:kvs.length<=sizeLine)(hd:(a == sysModules)=false)(b:KV kvs vs)(c:h'.DictOf (mixKind P w) a vs):
  ObjOk P w H' h' a (.dK kvs):=⟨z,hd,vs,b,c⟩
theorem qer{H':Hp}{Q:Unit->Shared->Prop}(J:A.units+1<cLine)(I:Inv X pins σ H s)(g:DPut H a y v H')(B:RelV y u)(C:RelV v r)(h:∀s',Inv X pins σ H' s'->Q () s'):
  wpAny (model X.prog X.w) A (setItem (.ref a) u r) Q E s:=by
 rcases g with ⟨kvs,k,e,j,l,m⟩|⟨kvs,k,b,e,j,eb,l,m⟩
 .subst j m
  obtain⟨z,hd,vs,d,n⟩:=qiX I.hok e
  have hz:vs.length<=sizeLine:=by rw[<-d.length];exact z
  have p:(putK kvs k v).length<=sizeLine:=by have:=zg kvs k v;lia
  refine wpAny_setItem_pairs (hsz:=hz) (qdf B) n λh' f x=>h _ ?_
  have K:∃q,h'.get? a=some q:=let ⟨q,_,_,i,_⟩:=f;⟨q,i⟩
  exact qaS I (by rw[e];exact True.intro) x K (qfj p hd (d.put k C) f)
 .subst j m
  cases (show u=Value.ref b from B)
  obtain⟨z,hd,xs,d,n⟩:=qlc I.hok e
  have hz:xs.length<=sizeLine:=by rw[<-Paired.length d];exact z
  have p:(putK kvs k v).length<=sizeLine:=by have:=zg kvs k v;lia
  refine wpAny_setItem_heap (hsz:=hz) (tupleKind_room_in1 J) (qaR I.hok eb) n λh' f x=>h _ ?_
  obtain⟨q,es,ep,i,L,M,N,_,O⟩:=f
  refine qaS I (by rw[e];exact True.intro) x ⟨q,i⟩ ⟨p,hd,_,(d.put k eb C).keeps λc ys F=>?_,q,es,ep,i,L,M,N,O⟩
  rw[qj (qk0 F e (λz=>nomatch z))]
  exact F
end
theorem qby{X:Cx}{pins:List (Addr×Obj)}{d:St}{H:Hp}{s:Shared}{a:Addr}{y:V}{o:Option V}(I:Inv X pins d H s)(g:DGet H a y o):s.TypeIs (.ref a) "dict":=by
 rcases g with ⟨kvs,k,e,_,_⟩|⟨kvs,k,b,e,_,_,_⟩
 .obtain ⟨_,_,vs,_,c⟩:=qdg I.hok e
  exact c.typeIs
 .obtain ⟨_,_,xs,_,c⟩:=qdh I.hok e
  exact c.typeIs
theorem qbz{P:Program}{w:World}{H:Hp}(h:Heap)(a:sysModules<h.objs.size):ObjOk P w H (h.push {cls:=.type "dict",data:=.dict #[]}) h.objs.size (.dK []) :=
 ⟨vH _,vC.mpr (Ne.symm (wT a)),[],.nil,Heap.DictOf.new h⟩
theorem qfk{P:Program}{w:World}{H:Hp}(h:Heap)(a:sysModules<h.objs.size):ObjOk P w H (h.push {cls:=.type "dict",data:=.dict #[]}) h.objs.size (.dT []) :=
 ⟨vH _,vC.mpr (Ne.symm (wT a)),[],.nil,_,#[],0,wE _ rfl,⟨rfl,rfl,rfl⟩,rfl,rfl,List.nodup_nil⟩
noncomputable def tDNewK:TE:=λ_ H Q=>∀p,H p=none->Q (.ref p) (upd H p (.dK []))
noncomputable def tDNewT:TE:=λ_ H Q=>∀p,H p=none->Q (.ref p) (upd H p (.dT []))
section
variable{X:Cx}{pos:Pos}
theorem qbA:PE X (.Dict [] [] pos) tDNewK:=λpins s b H Q I h =>
 wpAny_Dict_empty ⟨.ref s.heap.objs.size,_,I.laid (a:=s.heap.objs.size) (o:=.dK []) (t':=s.toks) (λ_ _ q=>wB _ q) (wG _) (qbz s.heap I.big),rfl,h _ (I.hok.fresh (wG _))⟩
theorem qfl:PE X (.Dict [] [] pos) tDNewT:=λpins s b H Q I h =>
 wpAny_Dict_empty ⟨.ref s.heap.objs.size,_,I.laid (a:=s.heap.objs.size) (o:=.dT []) (t':=s.toks) (λ_ _ q=>wB _ q) (wG _) (qfk s.heap I.big),rfl,h _ (I.hok.fresh (wG _))⟩
end
def IsD(H:Hp)(a:Addr):Prop:=(∃kvs,Rd H a (.dK kvs))\/∃kvs,Rd H a (.dT kvs)
theorem qjL{X:Cx}{pins:List (Addr×Obj)}{i:St}{H:Hp}{s:Shared}{a:Addr}(I:Inv X pins i H s)(d:IsD H a):
  s.TypeIs (.ref a) "dict"/\(∀b,Value.ref a=.ref b->∃ob,s.heap.get? b=some ob/\ob.dict=none)/\(a == sysModules)=false:=by
 rcases d with ⟨kvs,e⟩|⟨kvs,e⟩
 .obtain ⟨_,hd,vs,_,c⟩:=qdg I.hok e
  refine⟨c.typeIs,λb q=>?_,hd⟩
  cases q
  obtain⟨ob,_,_,f,h,_⟩:=c
  exact⟨ob,f,h.2.1⟩
 .obtain ⟨_,hd,xs,_,c⟩:=qdh I.hok e
  refine⟨c.typeIs,λb q=>?_,hd⟩
  cases q
  obtain⟨ob,_,_,f,h,_⟩:=c
  exact⟨ob,f,h.2.1⟩
end L2
namespace Att
open PySem PySem.W PySem.Calls PyProof.Rows
theorem jr{P:Params}{h:Heap}:∀(ns:List Int) (vs:List Value),WellAll P h vs (ns.map WData.int)->IntsAre vs ns:=by
 intro ns
 induction ns with
 |nil =>
  intro vs w
  rw[xR]at w
  cases w
  exact .nil
 |cons n ns c =>
  intro vs w
  rw[wR]at w
  cases w with
  |cons a b =>
   cases a
   exact .cons _ _ (c _ b)
theorem qes{l:OpenLaw}{n:Nat}(hn:l.most=some n){P:Params}{h:Heap}{args:List WData}{b:List Value}(c:l.row.toRowW.claim.pre args=true)(m:WellAll P h b args):
  ∃a vs ns,b=[Value.ref a]/\args=[WData.list (ns.map WData.int)]/\h.get? a=some {cls:=.type "list",data:=.seq vs.toArray}/\IntsAre vs ns/\ns.length<=n:=by
 have o:WShape.hasAll [] args [.list .int]=true:=(pre_splitW c).1
 have p:l.pre.holds [] {args:=args}=true:=(pre_splitW c).2
 obtain⟨d,r,rfl,s,u⟩:=hasAllW_cons o
 obtain rfl:=hasAllW_nil u
 obtain⟨xs,rfl,v⟩:=hasW_list s
 obtain⟨ns,rfl⟩:=items_int v
 have e:ns.length<=n:=by
  unfold OpenLaw.pre at p
  have i:(WTm.not (.lt (.lit (.int (n:Int))) (.len (.arg 0)))).holds [] {args:=[.list (ns.map .int)]}=true:=by
   have i:=(holds_andW p).1
   rw[hn]at i
   exact i
  have j:=condW_of i (w_not (w_lt w_lit (w_len_list (w_arg rfl))))
  rw[wP]at j
  refine Nat.le_of_not_lt λq=>?_
  have w:(n:Int)<((ns.length:Nat):Int):=by omega
  first
   | (rw[v8 w]at j;exact absurd j (by decide))
   | (simp at j;omega)
 cases m with
 |cons x y =>
  cases y
  cases x with
  |list z f=>exact⟨_,_,ns,rfl,rfl,z,jr ns _ f,e⟩
theorem qet(l:OpenLaw)(args:List WData):l.row.toRowW.claim.post args (.bool true) args=true :=
 postW_of (r:=l.row.toRowW) (X:=(true == true))
  (show WShape.has [] (.bool true) .bool=true by first|rfl|decide|simp[WShape.has,WShape.arms,WShape.armsAll])
  (show(WTm.eq .res (.lit (.bool true))).value [] {args:=args,res:=some (.bool true),after:=args}=some (.bool (true == true))from w_eq_bool (w_res rfl) w_lit) rfl
theorem attach_call{l:OpenLaw}{n:Nat}{q:Program}{c:List Str}{y:(Str->Option Value)->Heap->Prop}{z:World->Heap->Prop}{d:DefRec}(hn:l.most=some n)(s:d.params.defaults=[])(call:∀(w:World) (s₀ b:Shared) (mg mb:Str->Option Value) (h:Addr) (o:Obj) (pm p doc:Value) (a:Addr) (vs:List Value) (ns:List Int),
   Ground q c [] y w s₀ mg mb b.heap->z w b.heap ->
   b.heap.get? h=some o->o.data=.func (docDef d.name d.params d.body d.scope pm p doc)->b.heap.CodeRec p d.name->mg d.name=some (.ref h) ->
   b.heap.get? a=some {cls:=.type "list",data:=.seq vs.toArray}->IntsAre vs ns->ns.length<=n->b.gens=#[] ->
   codeAny (model l.prog w) callerA (.call (.ref h) ⟨[.ref a],[]⟩) (λr s'=>r=.ok (.ret (.bool true))/\OldK b.heap s'.heap/\s'.os=b.os/\AllBare s'.gens) b):
  WalkO q c y z l.row.toRowW d [] (λf vs=>PySem.call f vs):=by
 intro w s₀ b mg mb G Y h o pm p doc E kV F hd u A v H args B O i C I x J
 obtain rfl:E=.none:=Dflts.none A s
 obtain rfl:kV=.none:=Dflts.noKw A
 obtain⟨a,vs,ns,rfl,rfl,j,e,m⟩:=qes hn i x
 refine enter_call (ur (call w s₀ b mg mb h o pm p doc a vs ns G Y F (fd_plain hd) u v j e m H) λr s' K=>?_)
 obtain⟨rfl,L,M,N⟩:=K
 exact⟨.inl ⟨.bool true,.bool true,[],rfl,λ_=>rfl,.bool true,qet l _,λ_=>⟨List.Pairwise.nil,λ_ hm=>(nomatch hm)⟩⟩,L,M,N⟩
end Att
namespace L2
open PySem PySem.Spec PyProof.Rows
theorem vals_ints:∀{vs:List Value} {ns:List Int},IntsAre vs ns->Vals (ns.map V.int) vs
 |_,_,.nil=>.nil
 |_,_,.cons n t h=>.cons ⟨t,rfl⟩ (vals_ints h)
end L2
namespace L2
open PySem PySem.Spec PyProof.Rows
noncomputable def defArgs(s:Stmt):Arguments:=match s with
 | .FunctionDef _ a _ _ _ _ _ _ _ _=>a
 |_=>{posonlyargs:=[],args:=[],vararg:=none,kwonlyargs:=[],kw_defaults:=[],kwarg:=none,defaults:=[]}
noncomputable def defBody(s:Stmt):List Stmt:=match s with
 | .FunctionDef _ _ b _ _ _ _ _ _ _=>b
 |_=>[]
noncomputable def defScope(s:Stmt):Scope:=match s with
 | .FunctionDef _ _ _ _ _ _ sc _ _ _=>sc
 |_=>{kind:=.function,names:=[],isGenerator:=false,isCoroutine:=false}
noncomputable abbrev CX0:CXT:=λ_ _ _ _ _ _=>False
noncomputable abbrev E0:XK:=λ_ _ _=>False
theorem pass0{X:Cx}:Passes CX0 X E0:=λ_ _ _ _ _ _ _ h=>h.elim
theorem qdi{A:Around}{k:Nat}(a:Room k A):A.units+1<cLine:=xQ (Nat.add_le_add_left (by decide:1<=64) _) a.units
end L2
namespace HT
open PySem PySem.Spec PyProof.Rows
section
variable{prog:Program}{w:World}{A:Around}{E:Value->Shared->Prop}{s:Shared}
theorem qam{t:Addr}{items:Array Value}{Q:Bool->Shared->Prop}(a:IsTup s.heap t items)(h:Q true s):wpAny (model prog w) A (Builtin.Tuple.tupleIsExact (.ref t)) Q E s:=by
 unfold Builtin.Tuple.tupleIsExact
 refine wA (uR a.typeIs ?_)
 exact wC h
theorem yA{t sl:Addr}{items:Array Value}{f i:Value}{lo hi:Option Int}{Q:Value->Shared->Prop}(a:IsTup s.heap t items)(j:s.heap.IsSliceOf sl f i .none)(pl:IsPart f lo)(m:IsPart i hi)(l:sIx items.size 0 lo=0/\sIx items.size items.size hi=items.size)(h:Q (.ref t) s):wpAny (model prog w) A (getItem (.ref t) (.ref sl)) Q E s:=by
 obtain⟨os,c,d,n⟩:=id j
 have e:s.TypeIs (.ref sl) "slice":=⟨os,c,d⟩
 unfold getItem
 try with_reducible refine wm ?_
 first|refine wA (wC ?_)|skip
 refine wA (wpAny_sequenceKey a.typeIs (by decide) ?_)
 refine wA (wb (name:=Str.ofString "__getitem__") a.typeIs vP
  (wf vP a.typeIs entry_tuple_getitem ?_ (args_tuple_getitem _ _)))
 show wpAny _ _ (Builtin.Tuple.tupleItemsOf (.ref t) >>= _) _ _ s
 refine wA (tupleItemsOf_ a ?_)
 refine wA (uR e ?_)
 rw[wL (by decide)]
 refine wA (zK j pl m ?_)
 have b:(((sIx items.size 0 lo:Nat):Int) == 0&&(1:Int) == 1&&(sIx items.size items.size hi-sIx items.size 0 lo) == items.size)=true:=by
  rw[l.1,l.2];simp
 show wpAny _ _ (if(((sIx items.size 0 lo:Nat):Int) == 0&&(1:Int) == 1&&(sIx items.size items.size hi-sIx items.size 0 lo) == items.size)=true then _ else _) _ _ s
 rw[wL b]
 refine wA (qam a ?_)
 rw[wL rfl]
 refine wA (vb ?_)
 exact wA (wC (wC ⟨_,rfl,wC h⟩))
end
end HT
namespace HT
open PySem PySem.Spec PyProof.Rows
theorem ja:fillsNumberSlot (.type "tuple") "mul"=pure false :=
 PySem.fillsNumberSlot_seq (id:="tuple.__mul__") (r:=some (.builtin "tuple.__rmul__")) F.slot_tuple_mul.lookup (by decide +kernel) F.slot_tuple_rmul.lookup (by decide +kernel)
theorem qaT:seqRepeat? (.type "tuple")=pure (some (.builtin "tuple.__mul__")):=by
 unfold seqRepeat?
 rw[PySem.seqSlot_of (T:="tuple") (name:="__mul__") (id:="tuple.__mul__") F.slot_tuple_mul.lookup (by decide +kernel),PySem.seqSlot_of (T:="tuple") (name:="__rmul__") (id:="tuple.__rmul__") F.slot_tuple_rmul.lookup (by decide +kernel)]
 rfl
section
variable{prog:Program}{w:World}{A:Around}{E:Value->Shared->Prop}{s:Shared}
theorem qfm{a:Int}{t:Tok}{l:Addr}{items:Array Value}{Q:_->Shared->Prop}(b:IsTup s.heap l items)(h:Q (.done (.ret Value.notImplemented)) s):wpAny (model prog w) A (Builtin.«int.__rmul__» ⟨[.int a t,.ref l],[]⟩) Q E s:=by
 obtain⟨o,f,e,n,hd⟩:=b
 obtain⟨i,g,d,tk,os⟩:=s
 obtain⟨c,j,m,sl⟩:=o
 cases e
 cases hd
 wp_walk
 exact h
theorem qhL{l:Addr}{items:Array Value}{k:Int}{t:Tok}{Q:_->Shared->Prop}(p:IsTup s.heap l items)(F:-(2^63)<=k)(H:k<2^63)(hz:items.size*k.toNat<=sizeLine)(r:(items=#[]\/k=1)->Q (.done (.ret (.ref l))) s)(hn:(¬(items=#[]\/k=1))->Q (.done (.ret (.ref s.heap.objs.size))) {s with heap:=s.heap.push {cls:=.type "tuple",data:=.seq ((List.replicate k.toNat items.toList).flatten).toArray}}):
  wpAny (model prog w) A (Builtin.«tuple.__mul__» ⟨[.ref l,.int k t],[]⟩) Q E s:=by
 obtain⟨o,I,u,n,hd⟩:=p
 obtain⟨J,g,d,tk,os⟩:=s
 obtain⟨c,K,L,sl⟩:=o
 cases u
 cases hd
 have b:(decide (k < -(2^63)) || decide (k>=2^63))=false:=by simp;lia
 by_cases z:items=#[]\/k=1
 .have f:(items.isEmpty || k == 1)=true:=by
   rcases z with z|z
   .rw [z];rfl
   .rw [z];simp
  wp_walk
  rw[wK (by rw[b];exact wY)]
  wp_walk
  exact r z
 .have f:(items.isEmpty || k == 1)=false:=by
   simp only[gE,vC]
   exact⟨by rw[<-Bool.not_eq_true];intro q;exact z (.inl (by simpa using q)),λq=>z (.inr q)⟩
  wp_walk
  rw[wK (by rw[b];exact wY)]
  wp_walk
  have ne:items.isEmpty=false:=(gE.mp f).1
  by_cases h:k<=0
  .have a:(decide (k<=0) || items.isEmpty)=true:=by rw[v8 h];rfl
   rw[wL a]
   wp_walk
   have e:k.toNat=0:=by lia
   have:=hn z
   rw[e]at this
   exact this
  .have a:(decide (k<=0) || items.isEmpty)=false:=by rw[ww h,ne];rfl
   rw[wK (by rw[a];exact wY)]
   have i:(items.size:Int)*k=((items.size*k.toNat:Nat):Int):=by
    rw[Int.natCast_mul];congr 1;lia
   have v:¬((items.size:Int)*k>(2^63-1) / 8):=by
    rw[i]
    have:((sizeLine:Nat):Int)<=(2^63-1) / 8:=by decide
    lia
   have x:Builtin.Tuple.tupleTooMany ((items.size:Int)*k)=false:=by
    unfold Builtin.Tuple.tupleTooMany
    rw[i,ww]
    lia
   have y:List.foldl (λB C=>B++C) #[] (List.replicate k.toNat items)=(List.replicate k.toNat items.toList).flatten.toArray:=by
    have:=L2.y9 items.toList k.toNat []
    rw[List.nil_append]at this
    simpa using this
   rw[wK v]
   wp_walk
   rw[y]
   rw[wK (by rw[x];exact wY)]
   have j:sizeOk (.seq (List.replicate k.toNat items.toList).flatten.toArray):=by
    show(List.replicate k.toNat items.toList).flatten.toArray.size<=sizeLine
    rw[wJ,L2.qaQ,wk,Nat.mul_comm]
    exact hz
   show wpAny _ _ (Builtin.Tuple.tupleExact _ >>= _) _ _ _
   first
    |exact wA (m:=Builtin.Tuple.tupleExact _) (wS (wC (hn z)) j)
    |exact wA (m:=Builtin.Tuple.tupleExact _) (wS (hn z) j)
end
end HT
namespace L2
open PySem PySem.Spec PyProof.Rows
section
variable{X:Cx}
def rSlW(K:PySem.W.Frag):V->Option Int->Option Int->Hp->VK->Prop:=λx lo hi H Q=>∃a xs,x=.ref a/\SqT K H a xs /\
 (HT.sIx xs.length 0 lo=0/\HT.sIx xs.length xs.length hi=xs.length)/\Q x H
theorem qhM:SlR X (rSlW X.K):=by
 intro pins s i H x v j l lo hi sl Q I rx d pl e h
 obtain⟨a,xs,rfl,hx,f,q⟩:=h
 cases rx
 obtain⟨its,r,c,hz⟩:=I.tuple hx
 have b:its.toArray.size=xs.length:=by rw[wJ];exact r.length.symm
 refine⟨"tuple",_,vP.lookup,c.typeIs,?_⟩
 exact HT.yA c d pl e (by rw[b];exact f) ⟨.ref a,H,I,rfl,q⟩
noncomputable def rRepT(K:PySem.W.Frag):R2:=λx y H Q=>∃a k xs,x=.ref a/\y=.int k/\SqT K H a xs/\-(2^63)<=k/\k<2^63/\xs.length*k.toNat<=sizeLine /\
 ((xs=[]\/k=1)->Q x H)/\((¬(xs=[]\/k=1))->∀p,H p=none->Q (.ref p) (upd H p (.tup (List.replicate k.toNat xs).flatten)))
theorem qhN:OpR X (binaryOp .Mult) (rRepT X.K):=by
 intro pins s m H x y v u Q I rx f h
 obtain⟨a,k,xs,rfl,rfl,hx,i,j,hz,q1,q2⟩:=h
 cases rx
 obtain⟨t,rfl⟩:=f
 obtain⟨its,r,e,l⟩:=I.tuple hx
 have c:its.length=xs.length:=r.length.symm
 have d:(its.toArray=#[]\/k=1) ↔ (xs=[]\/k=1):=by
  constructor
  .rintro (z|z)
   .left
    have:its=[]:=by simpa using z
    rw[this]at c;exact w9.mp (by simpa using c.symm)
   .exact .inr z
  .rintro (z|z)
   .left
    rw[z]at c
    have:its=[]:=w9.mp (by simpa using c)
    rw[this]
   .exact .inr z
 refine wpAny_binaryOp_repeat_ref (T:="tuple") (U:="int") (by decide) e.typeIs (λs'=>xI s' k t) HT.ja F.fills_int_mul gA HT.qaT F.slot_int_index.lookup ?_
 refine wf gA (xI s k t) F.entry_int_rmul (HT.qfm e ⟨_,rfl,rfl,e.typeIs,?_⟩) (F.args_int_rmul_2 _ _)
 refine wf F.slot_tuple_mul e.typeIs F.entry_tuple_mul (HT.qhL e i j (by rw[wJ,c];exact hz) (λz=>⟨_,rfl,.ref a,H,I,rfl,q1 (d.mp z)⟩) λz=>⟨_,rfl,?_⟩) (F.args_tuple_mul_2 _ _)
 refine⟨.ref s.heap.objs.size,_,I.laid (t':=s.toks) (o:=.tup (List.replicate k.toNat xs).flatten) (λb ob q=>wB _ q) (wG _) ?_,rfl,q2 (λy=>z (d.mpr y)) _ (I.hok.fresh (wG _))⟩
 exact⟨by rw[qaQ,Nat.mul_comm];exact hz,_,r.rep k.toNat,IsTup.new _ _,yp _ _⟩
end
end L2
namespace HT
open PySem PyProof.Rows
theorem qfn(A:Around)(s:Shared)(a:Int)(t:Tok)(c:Int)(u:Tok)(prog:Program)(w:World)(E:Value->Shared->Prop)(Q:Value->Shared->Prop)(h:Q (.bool (decide (c<=a))) s):
  wpAny (model prog w) A (richCompare .GtE (.int a t) (.int c u)) Q E s :=
 (PyProof.Rows.ge_int h:wpAny (model prog w) A (compareOp .GtE (.int a t) (.int c u)) Q E s)
theorem qfo(a c:Int):(!decide (a<c))=decide (c<=a):=by rw[uj];simp
theorem qfp(a c:Nat):(!decide (a<c))=decide (c<=a):=by rw[uj];simp
section
open PySem.SeqAt
open PySem.AutoSeq1 (wpAny_loadPart')
open PySem.MeetsSeq PySem.MeetsSeq2 PySem.MeetsSeq3
theorem qan(l b:Addr)(items f:Array Value)(n O:Nat)(P I:Option Addr)(sl J:Array (Option Value))(ns E:List Int)(hi:IntsAre items.toList ns)(M:IntsAre f.toList E):
  Meets (Builtin.«tuple.__ge__» ⟨[.ref l,.ref b],[]⟩)
   (λ_ R s=>s.heap.get? l=some {cls:=.type "tuple",dict:=P,data:=.seq items n,slots:=sl}/\s.heap.get? b=some {cls:=.type "tuple",dict:=I,data:=.seq f O,slots:=J} /\
    R (.ok (.ret (.bool (!lexLt ns E)))) s) :=
 .of_wp λprog w A R s h=>by
  obtain⟨F,g,d,tk,os⟩:=s;obtain⟨Q,S,h⟩:=h
  have Y:=AutoSeq1.sub_tuple_tuple
  have Z:items.size=ns.length:=by rw[<-hi.length];simp
  have z2:f.size=E.length:=by rw[<-M.length];simp
  wp_walk using wpAny_loadPart' Q,wpAny_loadPart' S,wpAny_forIn_list _ (λrest b s'=>b.1=none/\s'=⟨F,g,d,tk,os⟩/\∃(vs H:List Value) (j m:List Int),rest=vs.zip H /\
   IntsAre vs j/\IntsAre H m/\j.length+f.size=m.length+items.size/\R (.ok (.ret (.bool (!lexLt j m)))) ⟨F,g,d,tk,os⟩) _
  case turn =>
   rintro⟨y,x⟩ rest b s' ⟨v,rfl,vs,H,j,m,hz,z,o,i,p⟩
   cases z with
   |nil=>rw[List.zip_nil_left]at hz;cases hz
   |cons a t B =>
    cases o with
    |nil=>rw[List.zip_nil_right]at hz;cases hz
    |cons c u C =>
     rw[uQ]at hz
     injection hz with K hrest
     injection K with U hx
     subst U hx
     rw[qV]at p
     simp only[wX]at i
     obtain⟨e,W,r⟩:=qbw A.in1 ⟨F,g,d,tk,os⟩ a t c u
     refine wA (W prog w _ _ ?_)
     cases e with
     |true =>
      rw[wL (r.mp rfl)]at p
      wp_walk
      exact⟨rfl,rfl,_,_,_,_,hrest,B,C,by lia,p⟩
     |false =>
      rw[wK (λq=>absurd (r.mpr q) wY)]at p
      have L:=qfn A.in1 ⟨F,g,d,tk,os⟩ a t c u prog w
      rw[qfo]at p
      wp_walk using L
      exact⟨_,rfl,by simpa using p⟩
  case fin =>
   rintro⟨b1,b2⟩ s' ⟨v,rfl,vs,H,j,m,hz,z,o,i,p⟩
   simp only at v
   subst v
   have N:lexLt j m=decide (items.size<f.size):=by
    cases z with
    |nil =>
     cases o with
     |nil =>
      simp only[w1]at i
      rw[yB]
      exact(ww (by lia)).symm
     |cons c u X =>
      simp only[w1,wX]at i
      rw[zY]
      exact(v8 (by lia)).symm
    |cons a t N =>
     cases o with
     |nil =>
      simp only[w1,wX]at i
      rw[zZ]
      exact(ww (by lia)).symm
     |cons c u X =>
      rw[uQ]at hz
      cases hz
   rw[N,qfp]at p
   wp_walk
   exact⟨_,rfl,by simpa[Builtin.Tuple.tupleCompareSizes]using p⟩
  case h =>
   exact⟨rfl,rfl,items.toList,f.toList,ns,E,rfl,hi,M,by lia,h⟩
end
section
variable{prog:Program}{w:World}{A:Around}{E:Value->Shared->Prop}{s:Shared}
theorem qcz{l b:Addr}{items a:Array Value}{ns c:List Int}{Q:Value->Shared->Prop}(r:IsTup s.heap l items)(u:IsTup s.heap b a)(hi:IntsAre items.toList ns)(v:IntsAre a.toList c)(y:A.units<cLine)(h:Q (.bool (!lexLt ns c)) s):wpAny (model prog w) A (compareOp .GtE (.ref l) (.ref b)) Q E s:=by
 obtain⟨⟨cls,z,data,sl⟩,o,p,n,hd⟩:=id r
 obtain⟨⟨q,i,j,m⟩,d,e,B,f⟩:=id u
 simp only at p hd e f
 subst p hd e f
 exact richCompare_meets_room (op:=.GtE) ⟨_,o,rfl⟩ ⟨_,d,rfl⟩ PySem.F.slot_tuple_ge PySem.F.entry_tuple_ge (PySem.F.args_tuple_ge_2 _ _) (qan l b items a n B z i sl m ns c hi v)
  ⟨o,d,show Value.bool (!lexLt ns c)≠Value.notImplemented/\Q (.bool (!lexLt ns c)) s from⟨(λx=>nomatch x),h⟩⟩ y
end
end HT
namespace L2
open PySem PySem.Spec PyProof.Rows
section
variable{X:Cx}{e:Expr}{te:TE}{pos p2 p3 p4:Pos}
noncomputable def rGeT(K:PySem.W.Frag):R2:=λx y H Q=>∃a b ns c,x=.ref a/\y=.ref b/\SqT K H a (ns.map V.int)/\SqT K H b (c.map V.int)/\Q (.bl (!HT.lexLt ns c)) H
theorem qjM(f:X.A.units<cLine):OpR X (compareOp .GtE) (rGeT X.K):=by
 intro pins s o H x y v u Q I rx i h
 obtain⟨a,b,ns,d,rfl,rfl,ha,j,q⟩:=h
 cases rx
 cases i
 obtain⟨its,l,m,_⟩:=I.tuple ha
 obtain⟨c,n,p2,_⟩:=I.tuple j
 have i1:IntsAre its.toArray.toList ns:=qW l
 have i2:IntsAre c.toArray.toList d:=qW n
 exact HT.qcz m p2 i1 i2 f ⟨.bl (!HT.lexLt ns d),H,I,rfl,q⟩
end
end L2
namespace HT
open PySem PyProof.Rows
section
variable{prog:Program}{w:World}{A:Around}{E:Value->Shared->Prop}{s:Shared}
def Many(h:Heap)(d:Addr)(n:Nat):Prop:=∃o es ep,h.get? d=some o/\o.data=.dict es ep/\es.size=n
theorem qcA{d:Addr}{n:Nat}(hd:(d == sysModules)=false):
  MeetsIn prog w (Builtin.«dict.__len__» ⟨[.ref d],[]⟩) (λ_ R s=>Many s.heap d n/\R (.ok (.ret (.int n s.toks))) {s with toks:=s.toks+1}):=by
 refine .of_wp λA R s b=>?_
 obtain⟨⟨o,es,ep,c,a,rfl⟩,h⟩:=b
 have size:∀{A:Around} {E:Value->Shared->Prop},wpAny (model prog w) A (dictSize d) (λk s'=>k=es.size/\s'=s) E s:=by
  intro A E;unfold dictSize;exact wA (xW c a (wC ⟨rfl,rfl⟩))
 refine wA (m:=dictSize d) (vT size (λk s' ks=>?_) λ_ _ z=>z)
 obtain⟨e1,e⟩:=ks
 subst e1 e
 exact wA (wpAny_pendingCount_other hd (wpAny_ret_mkInt h))
theorem qeu{d:Addr}{n:Nat}{Q:Value->Shared->Prop}(hd:(d == sysModules)=false)(hm:Many s.heap d n)(b:s.TypeIs (.ref d) "dict")(c:(n:Int)<2^63)(h:Q (.int n (s.toks+1)) {s with toks:=s.toks+1+1}):wpAny (model prog w) A (call (.builtin "len") [.ref d]) Q E s:=by
 have low:¬((n:Nat):Int)<0:=by lia
 have a:¬((n:Nat):Int)>=2^63:=by lia
 have slot:∀{A:Around} {Q:Value->Shared->Prop},Q (.int n s.toks) {s with toks:=s.toks+1}->wpAny (model prog w) A (call (.builtin "dict.__len__") [.ref d]) Q E s:=λq =>
  call_meetsIn F.slot_dict_len b F.entry_dict_len (F.args_dict_len_1 _) (qcA (n:=n) hd) ⟨hm,q⟩
 refine xV kind_len plain_len entry_len (args_len1 _) ?_
 unfold Builtin.«len»
 refine wA (m:=oneArg "len" _) (wC (wA (wb (name:=Str.ofString "__len__") b F.slot_dict_len (slot ?_))))
 refine wA (wm (wC (wA (uo ?_))))
 show wpAny _ _ (if((n:Nat):Int)<0 then _ else if((n:Nat):Int)>=2^63 then _ else _) _ _ _
 rw[wK low,wK a];exact wA (wpAny_mkInt (wC ⟨_,rfl,h⟩))
end
end HT
namespace L2
open PySem PySem.Spec PyProof.Rows
section
variable{X:Cx}
theorem qev:CallR X (.builtin "len") (λxs H Q=>∃a kvs,xs=[V.ref a]/\H a=some (.dT kvs)/\Q (.int kvs.length) H):=by
 intro pins s j H xs us Q I r h
 obtain⟨a,kvs,rfl,ha,q⟩:=h
 obtain⟨u,rfl,d⟩:=vals1 r
 cases d
 obtain⟨z,y,ys,c,o,es,ep,e,l,f,i,m⟩:=(show ObjOk X.prog X.w H s.heap a (.dT kvs)from I.hok a _ ha)
 have hn:es.size=kvs.length:=by
  have e1:=congrArg List.length i
  rw[wP,wk]at e1
  rw[e1,c.length]
 have b:((kvs.length:Nat):Int)<2^63:=by rw[vJ]at z;lia
 exact HT.qeu y ⟨o,es,ep,e,f,hn⟩ (qjL I (.inr ⟨kvs,.inl ha⟩)).1 b ⟨.int kvs.length,H,I.tok _,⟨_,rfl⟩,q⟩
end
end L2
namespace R
open PySem PySem.Spec L2
open PyProof.Rows hiding St
namespace DN
theorem jB:mroOf (.type "dict")=pure [.type "dict",.type "object"]:=by rw[mroOf_type];kernel_rfl
theorem qcB:typeLookup (.type "dict") "__new__"=pure (some (.builtin "dict.__new__")):=by rw[typeLookup_type,xy];kernel_rfl
theorem called:TypeCalled "dict" "dict.__new__" "dict.__init__":=⟨by decide +kernel,by decide +kernel,⟨_,_,jB⟩,madeBy_type jB qcB (by decide +kernel),by decide +kernel,by rw[uO];kernel_rfl,F.slot_dict_init⟩
theorem typeCall1(a:Value):checkTypeCall "dict" ⟨[a],[]⟩=pure ():=by kernel_rfl
theorem newCall1(a:Value):checkBuiltinCall "dict.__new__" ⟨[.type "dict",a],[]⟩=pure ():=by kernel_rfl
theorem qew:entryFor table "dict.__new__"=some Builtin.«dict.__new__»:=entryFor_of_tree (by kernel_rfl)
theorem qax:plainId "dict.__new__"=true:=by decide +kernel
theorem jC:entryFor table "dict.update.loop"=some Builtin.«dict.update.loop»:=entryFor_of_tree (by kernel_rfl)
theorem zP:plainId "dict.update.loop"=true:=by decide +kernel
theorem qfq:isSubtype (.type "dict") (.type "dict")=pure true:=by rw[uO];kernel_rfl
section
variable{prog:Program}{w:World}{A:Around}{E:Value->Shared->Prop}{s:Shared}
theorem code_new(a:Value){Q₁:Value->Shared->Prop}(h:Q₁ (.ref s.heap.objs.size) {s with heap:=s.heap.push {cls:=.type "dict",data:=.dict #[]}}):
  codeAny (model prog w) A (.call (.builtin "dict.__new__") ⟨[.type "dict",a],[]⟩) (wants Q₁ E) s:=by
 refine ug ?_
 show wpAny _ A.in1 (do checkBuiltinCall "dict.__new__" ⟨[.type "dict",a],[]⟩;again (.builtin "dict.__new__" ⟨[.type "dict",a],[]⟩)) _ _ s
 refine wA (uI (newCall1 a) (wC ⟨wo qax _,wa qew ?_⟩))
 rw[wZ qax _]
 unfold Builtin.«dict.__new__»
 have b:=qfq
 have hm:=jB
 obtain⟨c,g,d,tk,os⟩:=s
 dsimp only
 wp_walk
 exact h
theorem qcC{K:Type}[DecidableEq K]{P:K->Addr->Prop}{xs:List (K×Addr×Value)}{k:K}{a:Addr}{v:Value}(h:∀x∈xs,P x.1 x.2.1)(c:P k a):∀x∈storedH xs k a v,P x.1 x.2.1:=by
 intro x hx
 unfold storedH at hx
 split at hx
 .obtain ⟨y,b,rfl⟩:=vG.mp hx
  unfold putAt
  split
  .exact h y b
  .exact h y b
 .rcases wg.mp hx with z|z
  .exact h x z
  .simp at z;subst z;exact c
noncomputable abbrev Kp(h0 h:Heap):Prop:=∀b o,h0.get? b=some o->h.get? b=some o
noncomputable def dOf{K:Type}[DecidableEq K](its:List (K×Addr×Value)):List (K×Addr×Value):=its.foldl (λxs p=>storedH xs p.1 p.2.1 p.2.2) []
theorem qfr{K:Type}[DecidableEq K](its:List (K×Addr×Value))(p:K×Addr×Value):dOf (its++[p])=storedH (dOf its) p.1 p.2.1 p.2.2:=by unfold dOf;rw[xb];rfl
theorem qdj{K:Type}[DecidableEq K]{P:K->Addr->Prop}:∀(its xs:List (K×Addr×Value)),(∀x∈its,P x.1 x.2.1)->(∀x∈xs,P x.1 x.2.1)->∀x∈its.foldl (λxs p=>storedH xs p.1 p.2.1 p.2.2) xs,P x.1 x.2.1
 |[],xs,_,h=>h
 |p::r,xs,h1,h=>qdj r _ (λx hx=>h1 x (wI _ hx)) (qcC h (h1 p wH))
theorem qcD{K:Type}[DecidableEq K](xs:List (K×Addr×Value))(k:K)(a:Addr)(v:Value):(storedH xs k a v).length<=xs.length+1:=by
 unfold storedH
 split <;> simp
theorem qhO{K:Type}[DecidableEq K](its:List (K×Addr×Value)):(dOf its).length<=its.length:=by
 have a:∀(its xs:List (K×Addr×Value)),(its.foldl (λxs p=>storedH xs p.1 p.2.1 p.2.2) xs).length<=xs.length+its.length:=by
  intro its
  induction its with
  |nil=>intro xs;simp
  |cons p r b =>
   intro xs
   have:=b (storedH xs p.1 p.2.1 p.2.2)
   have:=qcD xs p.1 p.2.1 p.2.2
   rw[v9,wX];lia
 have:=a its []
 rw[w1,Nat.zero_add]at this
 exact this
variable{K:Type}[DecidableEq K]{knd:HeapKind prog w K}
noncomputable def Raw(knd:HeapKind prog w K)(h:Heap)(d:Addr)(xs:List (K×Addr×Value)):Prop :=
 ∃o es ep,h.get? d=some o/\o.ExactDict/\o.data=.dict es ep/\es.toList=xs.map (entryOfKey knd)/\(xs.map (·.1)).Nodup
theorem Raw.full{h:Heap}{d:Addr}{xs:List (K×Addr×Value)}(r:Raw knd h d xs)(a:∀x∈xs,knd.is h x.1 x.2.1):h.DictOfH knd d xs :=
 let ⟨o,es,ep,b,c,e,f,i⟩:=r;⟨o,es,ep,b,c,e,f,a,i⟩
theorem Raw.of{h:Heap}{d:Addr}{xs:List (K×Addr×Value)}(r:h.DictOfH knd d xs):Raw knd h d xs :=
 let ⟨o,es,ep,a,b,c,e,_,f⟩:=r;⟨o,es,ep,a,b,c,e,f⟩
theorem Raw.stay{h h':Heap}{d:Addr}{xs:List (K×Addr×Value)}(r:Raw knd h d xs)(k:∀o,h.get? d=some o->h'.get? d=some o):Raw knd h' d xs :=
 let ⟨o,es,ep,a,b⟩:=r;⟨o,es,ep,k o a,b⟩
end
end DN
end R
namespace R
open PySem PySem.Spec L2
open PyProof.Rows hiding St
namespace SN
def Good(t:SetTable):Prop:=t.plain=true->t.place.toList.Pairwise (· < ·)/\t.dummies=#[]
theorem jD{xs:Array Nat}{j:Nat}(h:xs.toList.Pairwise (· < ·)):∀(f lo hi:Nat),hi<=xs.size->lo<=hi->hi-lo<=f->(∀i,i<lo->xs.getD i j<j)->(∀i,hi<=i->i<xs.size->j<=xs.getD i j) ->
  SetTable.below.go xs j f lo hi<=xs.size/\(∀i,i<SetTable.below.go xs j f lo hi->xs.getD i j<j)/\∀i,SetTable.below.go xs j f lo hi<=i->i<xs.size->j<=xs.getD i j
 |0,lo,hi,h1,h2,h3,h4,h5=>by
  have e:lo=hi:=by omega
  subst e
  unfold SetTable.below.go
  exact⟨h1,h4,h5⟩
 |f+1,lo,hi,h1,h2,h3,h4,h5=>by
  unfold SetTable.below.go
  by_cases o:lo<hi
  .rw [wL o]
   dsimp only
   have c:lo<=(lo+hi) / 2:=by omega
   have l:(lo+hi) / 2<hi:=by omega
   generalize (lo+hi) / 2=m at c l ⊢
   have mono:∀a b,a<=b->b<xs.size->xs.getD a j<=xs.getD b j:=λa b n p=>by
    have ha:a<xs.size:=by omega
    rw[show xs.getD a j=xs[a] by simp[Array.getD,ha],show xs.getD b j=xs[b] by simp[Array.getD,p]]
    rcases xO n with q|q
    .have:=(u6.mp h) a b (by simpa using ha) (by simpa using p) q
     simpa using uu this
    .subst q;exact wG _
   by_cases q:xs.getD m j<j
   .rw [wL q]
    exact jD h f (m+1) hi h1 (by omega) (by omega) (λi d=>xQ (mono i m (by omega) (by omega)) q) h5
   .rw [wK q]
    exact jD h f lo m (by omega) c (by omega) h4 (λi d r=>vK (by omega) (mono m i d r))
  .rw [wK o]
   have e:lo=hi:=by omega
   subst e
   exact⟨h1,h4,h5⟩
theorem qbB{xs:Array Nat}(j:Nat)(h:xs.toList.Pairwise (· < ·)):SetTable.below xs j<=xs.size/\(∀i,i<SetTable.below xs j->xs.getD i j<j)/\∀i,SetTable.below xs j<=i->i<xs.size->j<=xs.getD i j:=by
 unfold SetTable.below
 exact jD h xs.size 0 xs.size (wG _) (vH _) (by omega) (λi hi=>absurd hi (Nat.not_lt_zero _)) (λi b a=>absurd a (by omega))
theorem zw{xs:Array Nat}{i j:Nat}(h:i<xs.size):xs.getD i j=xs[i]:=by simp[Array.getD,h]
theorem qex{xs:Array Nat}{j:Nat}(h:xs.toList.Pairwise (· < ·))(n:xs[SetTable.below xs j]?≠some j):(SetTable.insertAt xs (SetTable.below xs j) j).toList.Pairwise (· < ·):=by
 obtain⟨b1,b2,f⟩:=qbB j h
 generalize SetTable.below xs j=p at b1 b2 f n ⊢
 rw[SetTable.toList_insertAt,xD]
 have gt:∀i,p<=i->(hi:i<xs.size)->j<xs[i]:=λi l hi=>by
  have m:=f p (wG _) (by omega)
  rw[zw (by omega)]at m
  have o:xs[p]≠j:=λe=>n (by rw[wp (by omega),e])
  rcases xO l with q|q
  .have:=(u6.mp h) p i (by simp;omega) (by simpa using hi) q
   simp only[xG]at this
   omega
  .subst q;omega
 refine⟨h.sublist (List.take_sublist _ _),wx.mpr ⟨λx hx=>?_,h.sublist (List.drop_sublist _ _)⟩,λa ha b c=>?_⟩
 .obtain ⟨i,hi,e⟩:=v5 hx
  simp only[xr,wk]at hi
  rw[List.getElem_drop,xG]at e
  rw[<-e];exact gt (p+i) (by omega) (by omega)
 .have d:a<j:=by
   obtain⟨i,hi,e⟩:=v5 ha
   simp only[vE,wk]at hi
   rw[List.getElem_take,xG]at e
   have:=b2 i (by omega)
   rw[zw (by omega),e]at this;exact this
  rcases wN.mp c with rfl|c
  .exact d
  .obtain ⟨i,hi,e⟩:=v5 c
   simp only[xr,wk]at hi
   rw[List.getElem_drop,xG]at e
   have:=gt (p+i) (by omega) (by omega)
   omega
theorem qdk(j:Nat):SetTable.has #[] j=false:=by unfold SetTable.has;simp
theorem qbC{t:SetTable}{h:Int}(hd:t.dummies=#[]):∀(f:Nat) (p:SetTable.Probe),p.dummy=none->∀j d,SetTable.probe.go t (λ_=>h+1) h f p=some (.empty j d)->d=none/\t.slot j=.empty
 |0,p,_,j,d,e=>by unfold SetTable.probe.go at e;exact nomatch e
 |f+1,p,hp,j,d,e=>by
  have nd:t.slot p.j≠.dummy:=by
   unfold SetTable.slot
   dsimp only
   rw[hd,qdk]
   split <;> simp
  have a:∀q:SetTable.Probe,(t.advance q).dummy=q.dummy:=λq=>by
   unfold SetTable.advance;split <;> rfl
  unfold SetTable.probe.go at e
  cases z:t.slot p.j with
  |empty =>
   rw[z]at e
   dsimp only at e
   cases e
   exact⟨hp,z⟩
  |dummy=>exact absurd z nd
  |live i =>
   rw[z]at e
   have b:((h+1:Int) == h)=false:=by rw[vC];omega
   simp only[b,wj,vc]at e
   exact qbC hd f _ ((a p).trans hp) j d e
theorem qcE{t:SetTable}{j:Nat}(h:t.slot j=.empty):t.place[SetTable.below t.place j]?≠some j:=λe=>by
 unfold SetTable.slot at h
 dsimp only at h
 rw[e]at h
 simp at h
theorem qey{t:SetTable}{h:Int}{j:Nat}{b:Bool}(hd:t.dummies=#[])(e:t.freeSlot h=some (j,b)):t.place[SetTable.below t.place j]?≠some j:=by
 unfold SetTable.freeSlot SetTable.probe at e
 split at e
 .rename_i c d z
  obtain⟨rfl,a⟩:=qbC hd _ _ rfl _ _ z
  cases e
  exact qcE a
 .exact nomatch e
theorem qfs{t:SetTable}{h:Int}{j:Nat}{b:Bool}(g:Good t)(e:t.freeSlot h=some (j,b)):Good (t.put j).1:=λd=>by
 have a:t.plain=true:=d
 obtain⟨f,c⟩:=g a
 refine⟨qex f (qey c e),?_⟩
 show(if SetTable.has t.dummies j then _ else t.dummies)=#[]
 rw[c,qdk];rfl
theorem zx(t:SetTable)(n:Nat):Good (t.standIn n):=λa=>nomatch a
theorem jE{t:SetTable}{n:Nat}(g:Good t):Good (t.orStandIn n):=by
 unfold SetTable.orStandIn;split
 .exact g
 .exact zx _ _
theorem qao{t:SetTable}{n:Nat}:(t.orStandIn n).led=t.led:=by
 unfold SetTable.orStandIn;split <;> rfl
theorem qbD{t:SetTable}{es:Array (Int×Value)}{h:Int}{x:Value}(g:Good t):Good (layNew t es h x).2.1/\(layNew t es h x).2.1.led=t.led:=by
 unfold layNew
 split
 .rename_i slot a z
  exact⟨jE (qfs g z),qao⟩
 .exact ⟨zx _ _,rfl⟩
theorem qez{c d f:Nat}{led plain:Bool}{i:Array Int}{t:SetTable}{o:Array Nat}(e:SetTable.laid c d f led plain i=some (t,o)):Good t/\t.led=led:=by
 unfold SetTable.laid at e
 cases z:SetTable.layClean c i with
 |none=>rw[z]at e;exact nomatch e
 |some l =>
  rw[z]at e
  simp only[Option.bind_eq_bind,wW,Option.pure_def,Option.some.injEq,Prod.mk.injEq]at e
  obtain⟨rfl,_⟩:=e
  refine⟨λ_=>⟨?_,rfl⟩,rfl⟩
  show(((List.range (c+1)).filterMap λj=>(l.getD j none).map (j,·)).map (·.1)).Pairwise (· < ·)
  rw[List.pairwise_map,List.pairwise_filterMap]
  refine List.Pairwise.imp ?_ List.pairwise_lt_range
  intro a b h x hx y m
  obtain⟨u,_,rfl⟩:=xw.mp hx
  obtain⟨v,_,rfl⟩:=xw.mp m
  exact h
theorem qcF{t:SetTable}{es:Array (Int×Value)}{n:Nat}:Good (relayAll t es n).2.1/\(relayAll t es n).2.1.led=t.led:=by
 unfold relayAll
 split
 .rename_i t' a z
  dsimp only
  split
  .exact qez z
  .exact ⟨zx _ _,rfl⟩
 .exact ⟨zx _ _,rfl⟩
noncomputable def setO(es:Array (Int×Value))(ep:Nat)(t:SetTable):Obj:={cls:=.type "set",dict:=none,data:=.set es ep t}
structure SetD (led:Bool) (ks:List Int) (es:Array (Int×Value)) (t:SetTable):Prop where
 hash:∀e∈es.toList,∃k tk,e.2=.int k tk/\e.1=hashInt k
 nums:∃ns,IntsAre (es.toList.map (·.2)) ns/\ns.Perm ks
 few:es.size<scanBound
 fits:t.fits es.size=true
 led:t.led=led
 good:Good t
def SetL(h:Heap)(a:Addr)(led:Bool)(ks:List Int):Prop:=∃es ep t,h.get? a=some (setO es ep t)/\SetD led ks es t
section
variable{prog:Program}{w:World}{A:Around}{E:Value->Shared->Prop}{s:Shared}
theorem SetL.at{h h':Heap}{a:Addr}{led:Bool}{ks:List Int}(x:SetL h a led ks)(e:∀o,h.get? a=some o->h'.get? a=some o):SetL h' a led ks :=
 let ⟨es,ep,t,b,d⟩:=x;⟨es,ep,t,e _ b,d⟩
theorem SetD.elems{led:Bool}{ks:List Int}{es:Array (Int×Value)}{t:SetTable}(d:SetD led ks es t):ElemsOf (intKind prog w) es.toList:=λe a=>by
 obtain⟨k,tk,e1,b⟩:=d.hash e a
 rw[e1]
 exact⟨⟨k,intKind_is _ _ _ _,b⟩,rfl⟩
theorem SetD.len{led:Bool}{ks:List Int}{es:Array (Int×Value)}{t:SetTable}(d:SetD led ks es t):es.size=ks.length:=by
 obtain⟨ns,a,b⟩:=d.nums
 have:=a.length
 rw[wP,wk]at this
 rw[this,b.length_eq]
theorem qay{k n:Int}{t:Tok}:(Value.int n t).isInt k=true ↔ k=n:=by simp only[Value.isInt,uB];exact eq_comm
theorem qaU{ks:List Int}{led:Bool}{es:Array (Int×Value)}{t:SetTable}(d:SetD led ks es t)(k:Int):(∃e∈es.toList,(intKind prog w).is k e.2=true) ↔ k∈ks:=by
 obtain⟨ns,f,i⟩:=d.nums
 rw[<-i.mem_iff]
 have:∀{vs:List Value} {ns:List Int},IntsAre vs ns->((∃v∈vs,(intKind prog w).is k v=true) ↔ k∈ns):=λ{vs ns} h=>by
  induction h with
  |nil=>simp
  |cons n t r j =>
   rw[wN,<-j]
   constructor
   .rintro ⟨v,b,a⟩
    rcases wN.mp b with rfl|b
    .exact .inl ((qay (t:=t)).mp a)
    .exact .inr ⟨v,b,a⟩
   .rintro (e|⟨v,b,a⟩)
    .exact ⟨_,wH,(qay (t:=t)).mpr e⟩
    .exact ⟨v,wI _ b,a⟩
 rw[<-this f]
 constructor
 .rintro ⟨e,c,a⟩;exact⟨e.2,List.mem_map_of_mem c,a⟩
 .rintro ⟨v,b,a⟩;obtain⟨e,c,rfl⟩:=vG.mp b;exact⟨e,c,a⟩
theorem zQ{vs a:List Value}(p:a.Perm vs):∀{ns:List Int},IntsAre vs ns->∃b,IntsAre a b/\b.Perm ns:=by
 induction p with
 |nil=>intro ns h;cases h;exact⟨_,.nil,.refl _⟩
 |cons x q i =>
  intro ns h
  cases h with
  |cons n t r=>obtain⟨m,c,d⟩:=i r;exact⟨_,.cons n t c,d.cons _⟩
 |swap x y l =>
  intro ns h
  cases h with
  |cons n t r =>
   cases r with
   |cons m u j=>exact⟨_,.cons _ _ (.cons _ _ j),.swap _ _ _⟩
 |trans p q e f =>
  intro ns h
  obtain⟨m,c,d⟩:=f h
  obtain⟨o,v,z⟩:=e c
  exact⟨o,v,z.trans d⟩
theorem yN:∀{vs:List Value} {ns:List Int} {k:Int} {tk:Tok},IntsAre vs ns->IntsAre (vs++[.int k tk]) (ns++[k])
 |_,_,k,tk,.nil=>.cons k tk .nil
 |_,_,_,_,.cons n t r=>.cons n t (yN r)
theorem SetD.perm{led:Bool}{ks:List Int}{es es':Array (Int×Value)}{t t':SetTable}(d:SetD led ks es t)(p:es'.toList.Perm es.toList)(a:t'.fits es'.size=true)(b:t'.led=t.led)(c:Good t'):SetD led ks es' t' where
 hash:=λe f=>d.hash e (p.mem_iff.mp f)
 nums:=by
  obtain⟨ns,h,i⟩:=d.nums
  obtain⟨m,j,l⟩:=zQ (p.map (·.2)) h
  exact⟨m,j,l.trans i⟩
 few:=by have:=p.length_eq;simp only[wk]at this;rw[this];exact d.few
 fits:=a
 led:=b.trans d.led
 good:=c
theorem SetD.add{led:Bool}{ks:List Int}{es:Array (Int×Value)}{t t':SetTable}{k:Int}{tk:Tok}{es':Array (Int×Value)}(d:SetD led ks es t)(p:es'.toList.Perm (es.push (hashInt k,.int k tk)).toList)(a:ks.length+1<scanBound)(b:t'.fits es'.size=true)(c:t'.led=t.led)(f:Good t'):SetD led (ks++[k]) es' t' where
 hash:=λe i=>by
  have:=p.mem_iff.mp i
  rw[xh]at this
  rcases wg.mp this with h|h
  .exact d.hash e h
  .rw [wM]at h;subst h;exact⟨k,tk,rfl,rfl⟩
 nums:=by
  obtain⟨ns,j,l⟩:=d.nums
  rw[xh]at p
  have q:=p.map (·.2)
  rw[uD]at q
  obtain⟨m,n,o⟩:=zQ q (yN j)
  exact⟨m,n,o.trans (l.append_right _)⟩
 few:=by have:=p.length_eq;simp only[wk,Array.size_push]at this;rw[this,d.len];exact a
 fits:=b
 led:=c.trans d.led
 good:=f
theorem qbE{h:Heap}{a:Addr}{es es':Array (Int×Value)}{ep:Nat}{t t':SetTable}(b:h.get? a=some (setO es ep t)):(h.update a (Obj.putSet es' t')).get? a=some (setO es' (ep+1) t'):=by
 have:=w8 (Obj.putSet es' t') b (by rw[putSet_of es' t' rfl];rfl)
 rw[putSet_of es' t' rfl]at this
 exact this
theorem qbF{g:Bool->Sem Unit}(u:∀(b:Bool) (f:Shared) (Q':Unit->Shared->Prop),Q' () f->wpAny (model prog w) A (g b) Q' E f){a:Addr}{es:Array (Int×Value)}{ep:Nat}{t:SetTable}(r:s.heap.get? a=some (setO es ep t)){led:Bool}{ks:List Int}{c:Array (Int×Value)}{t2:SetTable}(d:SetD led ks c t2){e:Bool}{R:Option Bool->Shared->Prop}(h:∀h',Heap.SameBut a s.heap h'->SetL h' a led ks->R (some true) {s with heap:=h' }):
  wpAny (model prog w) A (do
    storeSet a c t2
    if(!e&&t2.tooFull)=true then do
      g (relayAll t2 c (SetTable.grown c.size)).2.2
      storeSet a (relayAll t2 c (SetTable.grown c.size)).1 (relayAll t2 c (SetTable.grown c.size)).2.1
      pure (some true)
     else pure (some true)) R E s:=by
 refine wA (wpAny_storeSet_of r rfl ?_ (xX d.few))
 have j:=qbE (es':=c) (t':=t2) r
 have i:=Heap.SameBut.update s.heap a (Obj.putSet c t2)
 split
 .have m:=relayAll_perm t2 c (SetTable.grown c.size)
  have l:=relayAll_fits t2 c (SetTable.grown c.size)
  obtain⟨o,p⟩:=qcF (t:=t2) (es:=c) (n:=SetTable.grown c.size)
  generalize relayAll t2 c (SetTable.grown c.size)=Rl at m l o p ⊢
  obtain⟨v,t3,q⟩:=Rl
  dsimp only at m l o p ⊢
  have d2:=d.perm m l p o
  refine wA (u _ _ _ ?_)
  refine wA (wpAny_storeSet_of j rfl ?_ (xX d2.few))
  exact wC (h _ (i.trans (Heap.SameBut.update _ a _)) ⟨_,_,_,qbE j,d2⟩)
 .exact wC (h _ i ⟨_,_,_,j,d⟩)
theorem qjN{a:Addr}{led:Bool}{ks:List Int}{k:Int}{tk:Tok}{Q:Bool->Shared->Prop}(M:SetL s.heap a led ks)(J:ks.length+1<scanBound)(h:∀h',Heap.SameBut a s.heap h'->SetL h' a led (step_dedup ks k)->∀b,Q b {s with heap:=h' }):
  wpAny (model prog w) A (setAddHashed a (.int k tk) (hashInt k)) Q E s:=by
 obtain⟨es,ep,t,r,d⟩:=M
 have u:ElemsOf (intKind prog w) es.toList:=d.elems
 have hd:(setO es ep t).data=.set es ep t:=rfl
 have v:=intKind_is prog w k tk
 unfold setAddHashed setAddHashedIn
 refine wm (wA (vW r hd d.fits ?_))
 dsimp only
 rw[byScan_of (knd:=intKind prog w) rfl d.few u]
 simp only[↓reduceIte]
 unfold setAddByScan
 refine wA ?_
 refine wA (vb ?_)
 refine wA (wpAny_setScan_of (knd:=intKind prog w) v r hd d.fits u ?_)
 have hm:=qaU (prog:=prog) (w:=w) d k
 cases hr':List.findIdx? (λe=>(intKind prog w).is k e.2) es.toList with
 |some j =>
  dsimp only
  obtain⟨N,B,_⟩:=List.findIdx?_eq_some_iff_getElem.mp hr'
  have C:k∈ks:=hm.mp ⟨es.toList[j],xA N,B⟩
  refine wC (wC ?_)
  have e:s={s with heap:=s.heap}:=by cases s;rfl
  have F:step_dedup ks k=ks:=by unfold step_dedup;rw[wL (vg.mpr ⟨k,C,by simp⟩)]
  have:=h s.heap (Heap.SameBut.refl a s.heap) (by rw[F];exact⟨es,ep,t,r,d⟩) false
  rw[e];exact this
 |none =>
  dsimp only
  have C:k∉ks:=λq=>by
   obtain⟨e,O,P⟩:=hm.mpr q
   have:=List.findIdx?_eq_none_iff.mp hr' e O
   rw[P]at this;exact Bool.noConfusion this
  have F:step_dedup ks k=ks++[k]:=by
   unfold step_dedup
   rw[wK]
   intro q
   obtain⟨x,hx,H⟩:=vg.mp q
   have:x=k:=by simpa using H
   exact C (this ▸ hx)
  have I:∀(b:Bool) {i:Shared} {Q':Unit->Shared->Prop},Q' () i->wpAny (model prog w) A (match b with|true=>rule "set.scan.the-table-gave-way" |false=>pure ()) Q' E i :=
   λb i Q' l=>by cases b <;> first|exact wC l|exact vb l
  have c:=layNew_perm t es (hashInt k) (.int k tk)
  have f:=layNew_fits t es (hashInt k) (.int k tk)
  obtain⟨y,z⟩:=qbD (es:=es) (h:=hashInt k) (x:=.int k tk) d.good
  generalize layNew t es (hashInt k) (.int k tk)=L at c f y z ⊢
  obtain⟨R,t1,p,K⟩:=L
  dsimp only at c f y z ⊢
  refine wA (I _ ?_)
  have m:∀h',Heap.SameBut a s.heap h'->SetL h' a led (ks++[k])->Q true {s with heap:=h' }:=λh' H S=>h h' H (by rw[F];exact S) true
  split
  .refine wA ?_
   rw[hashByValue_scannable 8 (show(Value.int k tk).scannable=true from rfl)]
   refine wC ?_
   refine qbF ?_ r (d.add c J f z y) ?_
   .intro b i Q' l;cases b <;> first|exact wC l|exact vb l
   .intro h' n o;dsimp only;exact wC (m h' n o)
  .refine wA (wC ?_)
   simp only[↓reduceIte]
   refine qbF ?_ r (d.add c J f z y) ?_
   .intro b i Q' l;cases b <;> first|exact wC l|exact vb l
   .intro h' n o;dsimp only;exact wC (m h' n o)
end
section
variable{prog:Program}{w:World}{A:Around}{R:Result->Shared->Prop}{I:Addr}{fp wr:List Addr}{G:Array GenState->Array GenState->Prop}{n:Nat}{P:Nat->Value->Prop}{St:Nat->Shared->Prop}
theorem loop(W:WalksS prog w A.in1 I fp wr G n P St)(S:Addr)(j:S∉fp)(led:Bool)(val:Nat->Int)(l:∀i v,P i v->∃t,v=.int (val i) t)(f:n+1<scanBound):
  ∀(k i:Nat) (s:Shared),n-i=k->i<=n->St i s->SetL s.heap S led (firstMet val i) ->
   (∀s',Moved (S::wr) G s s'->SetL s'.heap S led (firstMet val n)->R (.ok (.ret .none)) s') ->
   codeAny (model prog w) A (.builtin "set.update.loop" ⟨[.ref S,.ref I],[]⟩) R s:=by
 have m:S∉wr:=λh=>j (W.sub _ h)
 have a:∀b∈wr,b∈S::wr:=λb f=>wI _ f
 intro k
 induction k with
 |zero =>
  intro i s K hi c y z
  have B:i=n:=by omega
  subst B
  refine wa F.entry_set_update_loop ?_
  rw[wZ xn _]
  show wpAny _ A.in1 (pyNext (.ref I) >>= _) _ _ s
  refine wA (W.done s _ _ c λs' hm=>?_)
  show wpAny _ A.in1 (ret Value.none) _ _ s'
  exact wC (z s' (hm.mono a) (y.at λo e=>hm.heap S o m e))
 |succ k L =>
  intro i s K hi c y z
  have p:i<n:=by omega
  refine wa F.entry_set_update_loop ?_
  rw[wZ xn _]
  show wpAny _ A.in1 (pyNext (.ref I) >>= _) _ _ s
  refine wA (W.item i s _ _ p c λv s' M q hm=>?_)
  obtain⟨t,rfl⟩:=l i v M
  have C:SetL s'.heap S led (firstMet val i):=y.at λo e=>hm.heap S o m e
  show wpAny _ A.in1 (holding [Value.int (val i) t] (setAdd S (.int (val i) t)) >>= _) _ _ s'
  refine wA (wm ?_)
  unfold setAdd
  refine wm ?_
  refine wA ((intKind prog w).pyHash (k:=val i) (intKind_is _ _ _ _) ?_)
  have d:(firstMet val i).length+1<scanBound:=by have:=firstMet_length_le val i;omega
  refine qjN (s:={s' with toks:=s'.toks+1}) C d λh' r E _=>?_
  have H:SetL h' S led (firstMet val (i+1)):=by rw[firstMet_succ];exact E
  refine wC ⟨wo xn _,L (i+1) _ (by omega) p (W.frame _ s' _ _ q (vz _) λb f o e=>?_) H λJ u x=>?_⟩
  .rw [r.2 b (λh:b=S=>j (by rw[<-h];exact f))];exact e
  .refine z J (Moved.trans W.gtrans ((hm.mono a).then_heap (vz _) λb o f e=>?_) u) x
   rw[r.2 b (λh:b=S=>f (by rw[h];exact wH))];exact e
end
theorem qbG:isSubtype (.type "tuple") (.type "set")=pure false:=by rw[uO];kernel_rfl
theorem yO:isSubtype (.type "tuple") (.type "frozenset")=pure false:=by rw[uO];kernel_rfl
section
variable{prog:Program}{w:World}{A:Around}{E:Value->Shared->Prop}{s:Shared}
noncomputable abbrev ledW(w:World):Bool:=!w.params.followText "set-order"
theorem code_new(a:Value){Q₁:Value->Shared->Prop}(h:Q₁ (.ref s.heap.objs.size) {s with heap:=s.heap.push (setO #[] 0 (.fresh 0 0 (ledW w)))}):
  codeAny (model prog w) A (.call (.builtin "set.__new__") ⟨[.type "set",a],[]⟩) (wants Q₁ E) s:=by
 refine ug ?_
 show wpAny _ A.in1 (do checkBuiltinCall "set.__new__" ⟨[.type "set",a],[]⟩;again (.builtin "set.__new__" ⟨[.type "set",a],[]⟩)) _ _ s
 refine wA (uI (F.newCall_set_1 a) (wC ⟨wo F.plain_set_new _,wa F.entry_set_new ?_⟩))
 rw[wZ F.plain_set_new _]
 unfold Builtin.«set.__new__» Builtin.Frozenset.newClass
 have b:=sub_set_self
 obtain⟨c,g,d,tk,os⟩:=s
 dsimp only
 wp_walk
 refine ux (wC ?_)
 dsimp only
 simp only[newObj]
 refine wA (wpAny_alloc (wC ?_))
 exact wC h
theorem qft(led:Bool):SetD led [] #[] (.fresh 0 0 led) where
 hash:=λe a=>by simp at a
 nums:=⟨[],.nil,.refl _⟩
 few:=by decide
 fits:=rfl
 led:=rfl
 good:=λ_=>⟨by show([]:List Nat).Pairwise _;exact .nil,rfl⟩
set_option maxHeartbeats 3200000 in
theorem set_tup{l:Addr}{items:Array Value}{ns:List Int}{Q:Value->Shared->Prop}(hh:A.handled=none)(hl:s.heap.IsTuple l items)(hi:IntsAre items.toList ns)(J:items.size+1<scanBound)(h:∀(h':Heap) (tk:Nat),SetL h' s.heap.objs.size (ledW w) (firstMet (λi=>ns.getD i 0) items.size) ->
   (∀b o,b<s.heap.objs.size->s.heap.get? b=some o->h'.get? b=some o)->Q (.ref s.heap.objs.size) {s with heap:=h',toks:=tk}):
  wpAny (model prog w) A (call (.type "set") [.ref l]) Q E s:=by
 obtain⟨c,tl,Z⟩:=ud.mro
 have K:=ud.made
 have a0:=ud.sub
 refine wpAny_call (ug ?_)
 show wpAny _ _ (callAny (.type "set") _) _ _ _
 refine wC ⟨Code.quiet_builtin _ (by decide +kernel),wa F.entry_type_call ?_⟩
 rw[Around.under_plain (weight_type_call_type "set" [.ref l] []) rfl]
 have h1:=ud.notType
 have h2:=ud.canCreate
 have a4:=F.typeCall_set_1 (.ref l)
 repeat (any_goals (first|assumption|wp_step))
 refine ur (code_new (.ref l) (E:=E) (Q₁:=λobj f=>obj=.ref s.heap.objs.size/\f={s with heap:=s.heap.push (setO #[] 0 (.fresh 0 0 (ledW w)))}) ⟨rfl,rfl⟩) λr f L=>?_
 cases r with
 |error e=>exact L
 |ok fl =>
  cases fl with
  |ret obj =>
   obtain⟨rfl,rfl⟩:=L
   have hS:(s.heap.push (setO #[] 0 (.fresh 0 0 (ledW w)))).get? s.heap.objs.size=some (setO #[] 0 (.fresh 0 0 (ledW w))):=wE _ rfl
   have hT:Shared.TypeIs {s with heap:=s.heap.push (setO #[] 0 (.fresh 0 0 (ledW w)))} (.ref s.heap.objs.size) "set":=⟨_,hS,rfl⟩
   have a5:=ud.init.lookup
   have a6:=ud.init.bind (.ref s.heap.objs.size)
   repeat (any_goals (first|assumption|wp_step))
   refine ur (codeAny_call_builtin (R:=wants (λr j=>r=.none/\∃h' tk,j={s with heap:=h',toks:=tk} /\
     SetL h' s.heap.objs.size (ledW w) (firstMet (λi=>ns.getD i 0) items.size) /\
     (∀b o,b<s.heap.objs.size->s.heap.get? b=some o->h'.get? b=some o)) E) ud.init.plain F.entry_set_init (check_set_init_1 hT ?_)) λq j a=>?_
   .obtain ⟨ol,u,x,nl,y⟩:=hl
    obtain⟨a1,m,M,d⟩:=ol
    simp only at x y
    subst x;subst y
    have z:(s.heap.push (setO #[] 0 (.fresh 0 0 (ledW w)))).get? l=some {cls:=.type "tuple",dict:=m,data:=.seq items nl,slots:=d}:=wB _ u
    have a2:=qbG
    have a3:=yO
    have a7:(Value.type "tuple" == Value.type "dict")=false:=by decide
    have B:(s.heap.push (setO #[] 0 (.fresh 0 0 (ledW w)))).IsTuple l items:=⟨_,z,rfl,nl,rfl⟩
    unfold Builtin.«set.__init__» noKeywords Builtin.Frozenset.updateFrom
    generalize N:pyIter=PI
    wp_walk
    subst N
    refine xM B ?_
    refine wA (xS ?_)
    have C:l<s.heap.objs.size:=wF u
    have O:A.in1.in1.in1.handled=none:=by simp[hh]
    have H:l≠(s.heap.push (setO #[] 0 (.fresh 0 0 (ledW w)))).objs.size:=by
     rw[wt];exact wT (vQ C)
    have P:s.heap.objs.size∉[(s.heap.push (setO #[] 0 (.fresh 0 0 (ledW w)))).objs.size,l]:=by
     rw[wt];simp only[wN,wM,ve,xj,not_or]
     exact⟨wT (uM _),vF C⟩
    have I:∀(i:Nat) (v:Value),items[i]?=some v->∃t,v=.int ((λi=>ns.getD i 0) i) t:=λi v hv =>
     IntsAre.int_at hi i v (by rw[vB];exact hv)
    refine loop ((Walks.tuple O _ l H items).toS) s.heap.objs.size
     P (ledW w) (λi=>ns.getD i 0) I J (items.size-0) 0 _ (by omega) (vH _)
     ⟨⟨_,wE _ rfl,rfl,rfl⟩,(B.push _)⟩ ?hS0 ?hR
    case hS0 =>
     exact⟨_,_,_,wB _ hS,qft _⟩
    case hR =>
     intro s' hm n
     obtain⟨h',g',d',S,U⟩:=s'
     have eg:g'=s.gens:=hm.gens
     have ed:d'=s.drawn:=hm.drawn
     have eo:U=s.os:=hm.os
     subst eg;subst ed;subst eo
     show wpAny _ _ _ _ _ _
     refine wC ?_
     show wpAny _ _ (ret Value.none) _ _ _
     refine wC ⟨rfl,h',S,rfl,n,λb o J e=>?_⟩
     have W:b≠s.heap.objs.size:=wT J
     have X:b≠(s.heap.push (setO #[] 0 (.fresh 0 0 (ledW w)))).objs.size:=by
      rw[wt];exact wT (vQ J)
     exact hm.heap b o (by simp only[wN,wM,ve,xj,not_or];exact⟨W,X⟩) (wB _ (wB _ e))
   .cases q with
    |error e=>exact a
    |ok p =>
     cases p with
     |ret r =>
      obtain⟨rfl,h',tk,rfl,n,Y⟩:=a
      repeat (any_goals (first|assumption|wp_step))
      exact h _ _ n Y
     |_=>exact a.elim
  |_=>exact L.elim
end
end SN
end R
section
set_option maxHeartbeats 400000
namespace R
open PySem PySem.Spec L2
open PyProof.Rows hiding St
namespace SN
theorem qcG:entryFor table "set.__iter__"=some Builtin.«frozenset.__iter__» :=
 entryFor_alias (id':="frozenset.__iter__") (by kernel_rfl) rfl (by decide +kernel) (by kernel_rfl)
theorem qI:Slot "set_iterator" "__next__" "set_iterator.__next__" :=
 .of (owner:="set_iterator") (n:="__next__") (by rw[typeLookup_type,xy];kernel_rfl) (by decide +kernel) (by decide +kernel) (by decide +kernel)
  (by first|exact .inl (by decide +kernel)|exact .inr (by decide +kernel)) (by rw[uO];kernel_rfl)
theorem zR:entryFor table "set_iterator.__next__"=some Builtin.«set_iterator.__next__»:=entryFor_of_tree (by kernel_rfl)
theorem yq(a:Value):argsOk "set_iterator.__next__" ⟨[a],[]⟩:=by unfold argsOk;kernel_rfl
theorem jF{a:Type}{l:List a}{i:Nat}(h:i<l.length):(l[i]::l.eraseIdx i).Perm l:=by
 rw[List.eraseIdx_eq_take_drop_succ]
 have e:l=l.take i++l[i]::l.drop (i+1):=by rw[<-u7 h,List.take_append_drop]
 exact List.perm_middle.symm.trans (by rw[<-e])
theorem qdl{b:Type}(next:Nat->Nat):∀(f k:Nat) (left:List b) (a:Array b),left.length<=f->(pickOrder.go next f k left a).toList.Perm (a.toList++left)
 |0,k,left,a,h=>by
  have:left=[]:=xB (by omega)
  subst this
  unfold pickOrder.go;simp
 |f+1,k,left,a,h=>by
  unfold pickOrder.go
  by_cases c:left=[]
  .subst c;simp
  .have d:0<left.length:=List.length_pos_iff.mpr c
   have hi:next k % left.length<left.length:=Nat.mod_lt _ d
   rw[wD hi]
   dsimp only
   refine(qdl next f _ _ _ (by rw[List.length_eraseIdx_of_lt hi];omega)).trans ?_
   rw[xh,uG]
   exact List.Perm.append_left _ (jF hi)
theorem jb{a:Type}(next:Nat->Nat)(xs:Array a):(pickOrder next xs).toList.Perm xs.toList:=by
 unfold pickOrder
 have:=qdl next xs.size 0 xs.toList #[] (by simp)
 simpa using this
section
variable{prog:Program}{w:World}{A:Around}{E:Value->Shared->Prop}{s:Shared}
theorem qaV{src:Source}{n:Nat}{Q:Nat->Shared->Prop}(hn:n≠0)(h:∀i,i<n->∀d',Q i {s with drawn:=d' }):wpAny (model prog w) A (choose src n) Q E s :=
 λ_ _ _=>by unfold choose;rw[Sem.wp_choose];exact⟨hn,h _ (Nat.mod_lt _ (Nat.pos_of_ne_zero hn)) _⟩
theorem qdm{b:Type}:∀(n:Nat) (xs:List b) (s:Shared) {Q:List b->Shared->Prop},(n=xs.length)->(∀ys d',ys.Perm xs->Q ys {s with drawn:=d' })->wpAny (model prog w) A (drawOrder n xs) Q E s
 |0,xs,s,Q,hn,h=>by
  have:xs=[]:=xB hn.symm
  subst this
  unfold drawOrder
  have e:s={s with drawn:=s.drawn}:=by cases s;rfl
  rw[e];exact wC (h [] _ (.refl _))
 |n+1,[],s,Q,hn,h=>by simp at hn
 |n+1,x::r,s,Q,hn,h=>by
  unfold drawOrder
  refine wA (qaV (by simp) λi hi d'=>?_)
  rw[wD hi]
  dsimp only
  refine wA (qdm n _ _ (by rw[List.length_eraseIdx_of_lt hi];simp at hn ⊢;exact hn) λys a c=>wC ?_)
  exact h _ a ((c.cons _).trans (jF hi))
theorem zb{Q:Bool->Shared->Prop}(h:Q (w.params.followText "set-order") s):wpAny (model prog w) A setsByText Q E s:=by
 unfold setsByText
 exact wA (ux (wC h))
def ItO(h:Heap)(I a:Addr)(n ep:Nat)(first:Value)(i:Nat):Prop:=∃o,h.get? I=some o/\o.cls=.type "set_iterator"/\o.data=.fields #[first,.int i 0,.ref a,.int n 0,.int ep 0]
theorem ItO.at{h h':Heap}{I a:Addr}{n ep:Nat}{first:Value}{i:Nat}(x:ItO h I a n ep first i)(e:∀o,h.get? I=some o->h'.get? I=some o):ItO h' I a n ep first i:=let ⟨o,b,r⟩:=x;⟨o,e o b,r⟩
theorem ItO.typeIs{s:Shared}{I a:Addr}{n ep:Nat}{first:Value}{i:Nat}(x:ItO s.heap I a n ep first i):s.TypeIs (.ref I) "set_iterator":=let ⟨o,b,c,_⟩:=x;⟨o,b,c⟩
theorem ItO.set{h:Heap}{I a:Addr}{n ep:Nat}{first:Value}{i j:Nat}(x:ItO h I a n ep first i):ItO (h.update I (Obj.mapFields (·.setIfInBounds 1 (rawInt j)))) I a n ep first j:=by
 obtain⟨o,b,c,hd⟩:=x
 exact⟨_,w8 _ b (uT (vR hd _)),(xZ ..).trans c,by rw[vR hd];simp[rawInt]⟩
theorem ItO.first{h:Heap}{I a:Addr}{n ep:Nat}{first:Value}{i j:Nat}(x:ItO h I a n ep first i):ItO (h.update I (Obj.mapFields (·.setIfInBounds 0 (rawInt j)))) I a n ep (.int j 0) i:=by
 obtain⟨o,b,c,hd⟩:=x
 exact⟨_,w8 _ b (uT (vR hd _)),(xZ ..).trans c,by rw[vR hd];simp[rawInt]⟩
theorem qbH{I a:Addr}{es:Array (Int×Value)}{t:SetTable}{ep slot slot' i:Nat}{x:Value}{Q:Option Value->Shared->Prop}(c:ItO s.heap I a es.size ep (.int slot 0) i)(ha:s.heap.get? a=some (setO es ep t))(p:t.fits es.size=true)(hn:∀(q:Around) (r:Value->Shared->Prop) (Q':Option (Value×Nat)->Shared->Prop),Q' (some (x,slot')) s->wpAny (model prog w) q (setNext a slot i ep) Q' r s)(u:∀h',ItO h' I a es.size ep (.int slot' 0) (i+1)->(∀b o,b≠I->s.heap.get? b=some o->h'.get? b=some o)->Q (some x) {s with heap:=h' }):wpAny (model prog w) A (pyNext (.ref I)) Q E s:=by
 have h:=c.typeIs
 obtain⟨o,l,z,hd⟩:=id c
 unfold pyNext
 refine wA (v7 (wb (name:=Str.ofString "__next__") h qI (wf qI h zR ?_ (yq _))))
 unfold Builtin.«set_iterator.__next__»
 refine wA (wC (wA (uN l hd ?_)))
 dsimp only
 refine wA (u9 ha rfl p ?_)
 rw[wK (by simp)]
 simp only[vn]
 refine wA (hn _ _ _ ?_)
 dsimp only
 refine wA (vm l hd (by simp) ?_)
 have m:=c.first (j:=slot')
 obtain⟨B,d,v,f⟩:=id m
 refine wA (vm d f (by simp) ?_)
 have y:=m.set (j:=i+1)
 refine wC ⟨_,rfl,wC (u _ y λb o n e=>?_)⟩
 exact(wQ _ _ (Ne.symm n)).trans ((wQ _ _ (Ne.symm n)).trans e)
theorem yP{I a:Addr}{es:Array (Int×Value)}{t:SetTable}{ep slot i:Nat}{Q:Option Value->Shared->Prop}(h:A.handled=none)(c:ItO s.heap I a es.size ep (.int slot 0) i)(ha:s.heap.get? a=some (setO es ep t))(j:t.fits es.size=true)(hn:∀(l:Around) (n:Value->Shared->Prop) (Q':Option (Value×Nat)->Shared->Prop),Q' none s->wpAny (model prog w) l (setNext a slot i ep) Q' n s)(p:∀h',(∀b o,b≠I->s.heap.get? b=some o->h'.get? b=some o)->Q none {s with heap:=h' }):wpAny (model prog w) A (pyNext (.ref I)) Q E s:=by
 have d:=c.typeIs
 obtain⟨o,f,r,hd⟩:=id c
 unfold pyNext
 refine wA (v7 (wb (name:=Str.ofString "__next__") d qI (wf qI d zR ?_ (yq _))))
 unfold Builtin.«set_iterator.__next__»
 refine wA (wC (wA (uN f hd ?_)))
 dsimp only
 refine wA (u9 ha rfl j ?_)
 rw[wK (by simp)]
 simp only[vn]
 refine wA (hn _ _ _ ?_)
 dsimp only
 refine wA (m:=setField (.ref I) 2 .none) (vm f hd (by simp) (?_:wpAny _ _ (newExc (.type "StopIteration") [] >>= _) _ _ _))
 refine wA ?_
 unfold newExc newTuple
 refine wA (wS (wA (uI (t:=firstArgMember _ _) (a:=Value.none) (by first|rfl|(simp only[firstArgMember];rfl)) (wS ?_ (by size_fits)))) (by size_fits))
 unfold raiseNew
 refine wA (xi ?_)
 rw[show A.in1.handled=none from h]
 refine wA (wC (wpAny_throw ?_))
 refine wA (vO (T:="StopIteration") (b:=true) ⟨_,wE _ rfl,rfl⟩ xT ?_)
 exact wC (p _ λb o q e=>(((Heap.SameBut.update ..).extBut.push _).push _) b o q e)
theorem qhP{I a T:Addr}{es:Array (Int×Value)}{t:SetTable}{ep i p:Nat}{pl:List Nat}{x:Value}{hx:Int}{Q:Option Value->Shared->Prop}(c:ItO s.heap I a es.size ep (.ref T) i)(ha:s.heap.get? a=some (setO es ep t))(m:t.fits es.size=true)(d:s.heap.IsTuple T (pl.map λ(k:Nat)=>rawInt k).toArray)(r:pl[i]?=some p)(f:es[p]?=some (hx,x))(u:∀h',ItO h' I a es.size ep (.ref T) (i+1)->(∀b o,b≠I->s.heap.get? b=some o->h'.get? b=some o)->Q (some x) {s with heap:=h' }):wpAny (model prog w) A (pyNext (.ref I)) Q E s:=by
 have n:=c.typeIs
 obtain⟨o,q,z,hd⟩:=id c
 obtain⟨B,h,_,C,l⟩:=d
 unfold pyNext
 refine wA (v7 (wb (name:=Str.ofString "__next__") n qI (wf qI n zR ?_ (yq _))))
 unfold Builtin.«set_iterator.__next__»
 refine wA (wC (wA (uN q hd ?_)))
 dsimp only
 refine wA (u9 ha rfl m ?_)
 rw[wK (by simp)]
 refine wA (vN h l ?_)
 have e1:(pl.map λ(k:Nat)=>Value.int (k:Int) 0).toArray[i]?=some (Value.int p 0):=by simp[r]
 simp only[vn,rawInt,e1]
 unfold setNextDrawn
 refine wA (wA (vW ha rfl m ?_))
 dsimp only
 rw[wK (by simp)]
 rw[f]
 refine wC ?_
 refine wA (vm q hd (by simp) ?_)
 have v:=c.set (j:=i+1)
 refine wC ⟨_,rfl,wC (u _ v λb o y e=>?_)⟩
 exact(wQ _ _ (Ne.symm y)).trans e
theorem qbI{I a T:Addr}{es:Array (Int×Value)}{t:SetTable}{ep i:Nat}{pl:List Nat}{Q:Option Value->Shared->Prop}(r:A.handled=none)(c:ItO s.heap I a es.size ep (.ref T) i)(ha:s.heap.get? a=some (setO es ep t))(u:t.fits es.size=true)(d:s.heap.IsTuple T (pl.map λ(k:Nat)=>rawInt k).toArray)(v:pl[i]?=none)(x:∀h',(∀b o,b≠I->s.heap.get? b=some o->h'.get? b=some o)->Q none {s with heap:=h' }):wpAny (model prog w) A (pyNext (.ref I)) Q E s:=by
 have p:=c.typeIs
 obtain⟨o,f,y,hd⟩:=id c
 obtain⟨z,h,_,B,j⟩:=d
 unfold pyNext
 refine wA (v7 (wb (name:=Str.ofString "__next__") p qI (wf qI p zR ?_ (yq _))))
 unfold Builtin.«set_iterator.__next__»
 refine wA (wC (wA (uN f hd ?_)))
 dsimp only
 refine wA (u9 ha rfl u ?_)
 rw[wK (by simp)]
 refine wA (vN h j ?_)
 have e1:(pl.map λ(k:Nat)=>Value.int (k:Int) 0).toArray[i]?=none:=by simpa using v
 simp only[vn,rawInt,e1]
 refine wA (vm f hd (by simp) ?_)
 have l:=w8 (Obj.mapFields (·.setIfInBounds 0 (Value.int 0 0))) f (uT (vR hd _))
 have n:=vR hd (·.setIfInBounds 0 (Value.int 0 0))
 refine wA (m:=setField (.ref I) 2 .none) (vm l n (by simp) (?_:wpAny _ _ (newExc (.type "StopIteration") [] >>= _) _ _ _))
 refine wA ?_
 unfold newExc newTuple
 refine wA (wS (wA (uI (t:=firstArgMember _ _) (a:=Value.none) (by first|rfl|(simp only[firstArgMember];rfl)) (wS ?_ (by size_fits)))) (by size_fits))
 unfold raiseNew
 refine wA (xi ?_)
 rw[show A.in1.handled=none from r]
 refine wA (wC (wpAny_throw ?_))
 refine wA (vO (T:="StopIteration") (b:=true) ⟨_,wE _ rfl,rfl⟩ xT ?_)
 exact wC (x _ λb o q e=>wB _ (wB _ ((wQ _ _ (Ne.symm q)).trans ((wQ _ _ (Ne.symm q)).trans e))))
end
end SN
end R
end
section
set_option maxHeartbeats 400000
namespace R
open PySem PySem.Spec L2
open PyProof.Rows hiding St
namespace SN
section
variable{prog:Program}{w:World}{A:Around}{E:Value->Shared->Prop}{s:Shared}
theorem qdn:Slot "set_iterator" "__iter__" "set_iterator.__iter__" :=
 .of (owner:="set_iterator") (n:="__iter__") (by rw[typeLookup_type,xy];kernel_rfl) (by decide +kernel) (by decide +kernel) (by decide +kernel)
  (by first|exact .inl (by decide +kernel)|exact .inr (by decide +kernel)) (by rw[uO];kernel_rfl)
theorem qfu:entryFor table "set_iterator.__iter__"=some Builtin.«dict_keyiterator.__iter__»:=entryFor_alias (id':="dict_keyiterator.__iter__") (by kernel_rfl) rfl (by decide +kernel) (by kernel_rfl)
theorem qhQ(a:Value):argsOk "set_iterator.__iter__" ⟨[a],[]⟩:=by unfold argsOk;kernel_rfl
theorem qaW{I a:Addr}{n ep i:Nat}{first:Value}{Q:Value->Shared->Prop}(b:ItO s.heap I a n ep first i)(h:Q (.ref I) s):wpAny (model prog w) A (pyIter (.ref I)) Q E s:=by
 refine wpAny_pyIter_slot b.typeIs qdn (wf qdn b.typeIs qfu ?_ (qhQ _))
 show wpAny _ _ (ret (.ref I)) _ _ s
 exact wC ⟨_,rfl,"set_iterator",_,b.typeIs,qI.lookup,h⟩
theorem qfv(r:A.handled=none)(I a:Addr)(p:a≠I){es:Array (Int×Value)}{ep:Nat}{t:SetTable}(l:t.fits es.size=true)(d:w.params.followText "set-order"=true):
  Walks prog w A I [I,a] [I] es.size (λi v=>((pickOrder (w.params.setOrder a ep) es).toList.map (·.2))[i]?=some v) (λi h=>(∃slot:Nat,ItO h I a es.size ep (.int slot 0) i)/\h.get? a=some (setO es ep t)) where
 sub:=λb d=>by simp at d;simp[d]
 frame:=λ_ _ _ st f=>⟨let ⟨k,x⟩:=st.1;⟨k,x.at λo e=>f I (by simp) o e⟩,f a (by simp) _ st.2⟩
 item:=λi s Q E hi st m=>by
  obtain⟨⟨slot,c⟩,ha⟩:=st
  have u:(pickOrder (w.params.setOrder a ep) es).size=es.size:=by
   have:=(jb (w.params.setOrder a ep) es).length_eq
   simpa using this
  have hx:(pickOrder (w.params.setOrder a ep) es)[i]?=some (pickOrder (w.params.setOrder a ep) es)[i]:=wp (by omega)
  refine qbH (slot':=slot) (x:=((pickOrder (w.params.setOrder a ep) es)[i]'(by omega)).2) c ha l (λy B Q' q=>?_) λh' n f=>?_
  .unfold setNext
   refine wA (vW ha rfl l ?_)
   dsimp only
   refine wA (zb ?_)
   rw[d]
   simp only[vd,xY,wj,vc]
   unfold setWalk
   refine wA (wA (vW ha rfl l ?_))
   dsimp only
   refine wA (zb ?_)
   rw[d]
   simp only[vd]
   refine wA (ux (wC ?_))
   refine wC ?_
   show Q' (((pickOrder (w.params.setOrder a ep) es)[i]?).map λe=>(e.2,slot)) _
   rw[hx];exact q
  .refine m _ h' s.toks ?_ ⟨⟨slot,n⟩,f a _ p ha⟩ λb o j e=>f b o (λz=>j (by simp[z])) e
   rw[w4,vB,hx];rfl
 done:=λs Q E st m=>by
  obtain⟨⟨slot,c⟩,ha⟩:=st
  have u:(pickOrder (w.params.setOrder a ep) es).size=es.size:=by
   have:=(jb (w.params.setOrder a ep) es).length_eq
   simpa using this
  refine yP r c ha l (λy B Q' q=>?_) λh' f=>m h' s.toks λb o j e=>f b o (λz=>j (by simp[z])) e
  unfold setNext
  refine wA (vW ha rfl l ?_)
  dsimp only
  refine wA (zb ?_)
  rw[d]
  simp only[vd,xY,wj,vc]
  unfold setWalk
  refine wA (wA (vW ha rfl l ?_))
  dsimp only
  refine wA (zb ?_)
  rw[d]
  simp only[vd]
  refine wA (ux (wC ?_))
  refine wC ?_
  show Q' (((pickOrder (w.params.setOrder a ep) es)[es.size]?).map λe=>(e.2,slot)) _
  rw[vr (by omega)];exact q
 self:=λ_ s Q E st m=>by
  obtain⟨⟨slot,c⟩,_⟩:=st
  exact qaW c m
noncomputable def slotAt(t:SetTable)(i:Nat):Nat:=if i=0 then 0 else t.place.getD (i-1) 0+1
theorem jG{t:SetTable}(h:t.place.toList.Pairwise (· < ·)){i:Nat}(hi:i<=t.place.size):SetTable.below t.place (slotAt t i)=i:=by
 obtain⟨b1,b2,e⟩:=qbB (slotAt t i) h
 generalize f:SetTable.below t.place (slotAt t i)=b at b1 b2 e
 have lt:∀x y,x<y->(c:y<t.place.size)->t.place.getD x 0<t.place.getD y 0:=λx y d c=>by
  have:=(u6.mp h) x y (by simp;omega) (by simpa using c) d
  rw[zw (show x<t.place.size by omega),zw c]
  simpa using this
 rcases Nat.lt_trichotomy b i with q|q|q
 .exfalso
  have a:=e b (wG _) (by omega)
  unfold slotAt at a
  rw[wK (by omega),zw (show b<t.place.size by omega),<-zw (j:=0) (show b<t.place.size by omega)]at a
  rcases xO (show b<=i-1 by omega)with r|r
  .have:=lt b (i-1) r (by omega);omega
  .rw [r]at a;omega
 .exact q
 .exfalso
  have a:=b2 i q
  rw[zw (show i<t.place.size by omega),<-zw (j:=0) (show i<t.place.size by omega)]at a
  unfold slotAt at a
  by_cases z:i=0
  .rw [wL z]at a;omega
  .rw [wK z]at a
   have:=lt (i-1) i (by omega) (by omega);omega
theorem qfw(J:A.handled=none)(I a:Addr)(y:a≠I){es:Array (Int×Value)}{ep:Nat}{t:SetTable}(d:t.fits es.size=true)(n:w.params.followText "set-order"=false)(C:t.led=true)(F:t.plain=true\/es.size<=1)(H:t.place.toList.Pairwise (· < ·)):
  Walks prog w A I [I,a] [I] es.size (λi v=>(es.toList.map (·.2))[i]?=some v) (λi h=>i<=es.size/\ItO h I a es.size ep (.int (slotAt t i) 0) i/\h.get? a=some (setO es ep t)) where
 sub:=λb n=>by simp at n;simp[n]
 frame:=λ_ _ _ st f=>⟨st.1,st.2.1.at λo e=>f I (by simp) o e,f a (by simp) _ st.2.2⟩
 item:=λi s Q E hi st r=>by
  obtain⟨_,j,ha⟩:=st
  have B:t.place.size=es.size:=by simp[SetTable.fits]at d;exact d.1
  refine qbH (slot':=slotAt t (i+1)) (x:=es[i].2) j ha d (λK L Q' q=>?_) λh' u f=>?_
  .unfold setNext
   refine wA (vW ha rfl d ?_)
   dsimp only
   refine wA (zb ?_)
   rw[n]
   simp only[wj,vc]
   refine ue (λl=>?_) (λ_=>?_)
   .have c:(!t.plain&&decide (es.size>1))=true:=l
    simp only[wV,u3,wz]at c
    rcases F with p|p
    .rw [p]at c;exact absurd c.1 (by decide)
    .omega
   refine wA ?_
   show wpAny _ _ (if(!t.led&&!es.isEmpty)=true then _ else _) _ _ _
   rw[wK (by rw[C];simp)]
   refine wC ?_
   rw[jG H (by omega)]
   have e1:es[i]?=some es[i]:=wp hi
   have M:t.place[i]?=some (t.place[i]'(by omega)):=wp (by omega)
   have N:slotAt t (i+1)=t.place[i]'(by omega)+1:=by
    unfold slotAt;rw[wK (by omega),Nat.add_sub_cancel,zw (by omega)]
   rw[e1,M]
   dsimp only
   rw[N]at q
   exact wC q
  .refine r _ h' s.toks ?_ ⟨hi,u,f a _ y ha⟩ λb o m e=>f b o (λz=>m (by simp[z])) e
   rw[w4,vB,wp hi];rfl
 done:=λs Q E st r=>by
  obtain⟨_,j,ha⟩:=st
  have B:t.place.size=es.size:=by simp[SetTable.fits]at d;exact d.1
  refine yP J j ha d (λK L Q' q=>?_) λh' f=>r h' s.toks λb o m e=>f b o (λz=>m (by simp[z])) e
  unfold setNext
  refine wA (vW ha rfl d ?_)
  dsimp only
  refine wA (zb ?_)
  rw[n]
  simp only[wj,vc]
  refine ue (λl=>?_) (λ_=>?_)
  .have c:(!t.plain&&decide (es.size>1))=true:=l
   simp only[wV,u3,wz]at c
   rcases F with p|p
   .rw [p]at c;exact absurd c.1 (by decide)
   .omega
  refine wA ?_
  show wpAny _ _ (if(!t.led&&!es.isEmpty)=true then _ else _) _ _ _
  rw[wK (by rw[C];simp)]
  refine wC ?_
  rw[jG H (by omega),vr (wG _)]
  exact wC q
 self:=λ_ s Q E st r=>qaW st.2.1 r
theorem qhR(y:A.handled=none)(I a T:Addr)(n:a≠I)(p:T≠I){es:Array (Int×Value)}{ep:Nat}{t:SetTable}(r:t.fits es.size=true){pl:List Nat}(q:pl.Perm (List.range es.size)):
  Walks prog w A I [I,a,T] [I] es.size (λi v=>(pl.map λk=>(es.getD k (0,.none)).2)[i]?=some v) (λi h=>ItO h I a es.size ep (.ref T) i/\h.get? a=some (setO es ep t)/\h.IsTuple T (pl.map λ(k:Nat)=>rawInt k).toArray) where
 sub:=λb u=>by simp at u;simp[u]
 frame:=λ_ _ _ st c=>⟨st.1.at λo e=>c I (by simp) o e,c a (by simp) _ st.2.1,st.2.2.at λo e=>c T (by simp) o e⟩
 item:=λi s Q E hi st j=>by
  obtain⟨d,ha,m⟩:=st
  have B:pl.length=es.size:=by have:=q.length_eq;simpa using this
  have e1:pl[i]?=some (pl[i]'(by omega)):=wD (by omega)
  have c:pl[i]'(by omega)<es.size:=by
   have:pl[i]'(by omega)∈List.range es.size:=q.mem_iff.mp (xA _)
   exact uA.mp this
  refine qhP (x:=(es[pl[i]'(by omega)]'c).2) (hx:=(es[pl[i]'(by omega)]'c).1) d ha r m e1 (wp c) λh' l kp=>?_
  refine j _ h' s.toks ?_ ⟨l,kp a _ n ha,m.at λo e=>kp T o p e⟩ λb o f e=>kp b o (λz=>f (by simp[z])) e
  rw[w4,e1,wq]
  rw[show es.getD (pl[i]'(by omega)) (0,.none)=es[pl[i]'(by omega)]'c by simp[Array.getD,c]]
 done:=λs Q E st j=>by
  obtain⟨d,ha,m⟩:=st
  have B:pl.length=es.size:=by have:=q.length_eq;simpa using this
  exact qbI y d ha r m (vM (by omega)) λh' c=>j h' s.toks λb o f e=>c b o (λz=>f (by simp[z])) e
 self:=λ_ s Q E st j=>qaW st.1 j
theorem qcH{es:Array (Int×Value)}{pl:List Nat}(a:pl.Perm (List.range es.size)):(pl.map λk=>(es.getD k (0,.none)).2).Perm (es.toList.map (·.2)):=by
 refine(a.map _).trans ?_
 have:(List.range es.size).map (λk=>(es.getD k (0,.none)).2)=es.toList.map (·.2):=by
  apply uF
  intro i
  rw[w4,w4,show es.toList[i]?=es[i]? from vB]
  by_cases h:i<es.size
  .rw [xJ h,wp h]
   simp[Array.getD,h]
  .rw [vM (by simpa using h),vr (by omega)];rfl
 rw[this]
theorem qbJ{t:SetTable}{n:Nat}(g:Good t)(b:t.fits n=true)(d:t.plain=true\/n<=1):t.place.toList.Pairwise (· < ·):=by
 rcases d with p|p
 .exact (g p).1
 .have a:t.place.size=n:=by simp[SetTable.fits]at b;exact b.1
  have c:t.place.toList.length<=1:=by simpa[a]using p
  match h:t.place.toList with
  |[]=>exact .nil
  |[_]=>exact uJ _ _
  |_::_::_=>rw[h]at c;simp at c
theorem qfx{a:Addr}{ks:List Int}{es:Array (Int×Value)}{ep:Nat}{t:SetTable}{Q:Value->Shared->Prop}(ha:s.heap.get? a=some (setO es ep t))(d:SetD (ledW w) ks es t)(x:Around)(y:x.handled=none)(B:∀(h':Heap) (d':_) (I:Addr) (fp:List Addr) (St:Nat->Heap->Prop) (ord:List Value),(∀b o,s.heap.get? b=some o->h'.get? b=some o)->s.heap.objs.size<=h'.objs.size->s.heap.objs.size<=I->(∀b∈fp,b=a\/s.heap.objs.size<=b)->ord.Perm (es.toList.map (·.2)) ->
   Walks prog w x I fp [I] ord.length (λi v=>ord[i]?=some v) St->St 0 h'->Q (.ref I) {s with heap:=h',drawn:=d' }):wpAny (model prog w) A (pyIter (.ref a)) Q E s:=by
 have H:s.TypeIs (.ref a) "set":=⟨_,ha,rfl⟩
 have m:=d.fits
 have p:a<s.heap.objs.size:=wF ha
 refine wpAny_pyIter_slot H F.slot_set_iter (wf F.slot_set_iter H qcG ?_ (F.args_set_iter_1 _))
 unfold Builtin.«frozenset.__iter__» Builtin.Frozenset.slot0 Builtin.Frozenset.sizeOf
 refine wA (wA (wC (wC (wA (wA (u9 ha rfl m (wC (wA ?_))))))))
 unfold setDrawn
 refine wA (vW ha rfl m ?_)
 dsimp only
 refine wA (zb (wC ?_))
 have C:∀h',({s with heap:=h' }:Shared)={s with heap:=h',drawn:=s.drawn}:=λh'=>by cases s;rfl
 refine ue (λhd=>?_) (λhd=>?_)
 .refine wA (qdm es.size _ _ (by simp) λpl d' f=>?_)
  have u:pl.length=es.size:=by have:=f.length_eq;simpa using this
  have J:es.size<=sizeLine:=xX d.few
  unfold newTuple
  refine wA (wS ?_ (by show(pl.map λ(i:Nat)=>rawInt i).toArray.size<=sizeLine;simpa[u]using J))
  have r:=wB {cls:=.type "tuple",data:=.seq (pl.map λ(i:Nat)=>rawInt i).toArray} ha
  refine wA (wpAny_setEpoch_of r rfl m ?_)
  refine wA (wS ?_)
  have hsz:(s.heap.push {cls:=.type "tuple",data:=.seq (pl.map λ(i:Nat)=>rawInt i).toArray}).objs.size=s.heap.objs.size+1:=by rw[wt]
  have q:=wE (o:={cls:=.type "set_iterator",data:=.fields #[.ref s.heap.objs.size,rawInt 0,.ref a,rawInt es.size,rawInt ep]}) (s.heap.push {cls:=.type "tuple",data:=.seq (pl.map λ(i:Nat)=>rawInt i).toArray}) rfl
  refine wC ⟨_,rfl,"set_iterator",_,⟨_,q,rfl⟩,qI.lookup,?_⟩
  have W:=qhR (prog:=prog) (w:=w) y (s.heap.objs.size+1) a s.heap.objs.size (wT (vQ p)) (wT (uM _)) (ep:=ep) m f
  have c:(pl.map λk=>(es.getD k (0,.none)).2).length=es.size:=by rw[wP,u]
  rw[<-c]at W
  have:=B ((s.heap.push {cls:=.type "tuple",data:=.seq (pl.map λ(i:Nat)=>rawInt i).toArray}).push {cls:=.type "set_iterator",data:=.fields #[.ref s.heap.objs.size,rawInt 0,.ref a,rawInt es.size,rawInt ep]}) d' (s.heap.objs.size+1) _ _ _ (λb o e=>wB _ (wB _ e)) (by rw[wt,wt];exact uy _ 2) (vz _) (λb j=>by
   rcases wN.mp j with rfl|j
   .exact .inr (vz _)
   .rcases wN.mp j with rfl|j
    .exact .inl rfl
    .rw [wM.mp j];exact .inr (wG _)) (qcH f) W ⟨⟨_,by rw[<-hsz];exact q,rfl,by rw[c];rfl⟩,wB _ r,⟨_,wB _ (wE _ rfl),rfl,0,rfl⟩⟩
  rw[<-hsz]at this
  exact this
 .refine wA (wC ?_)
  refine wA (wpAny_setEpoch_of ha rfl m ?_)
  refine wA (wS ?_)
  have q:=wE (o:={cls:=.type "set_iterator",data:=.fields #[rawInt 0,rawInt 0,.ref a,rawInt es.size,rawInt ep]}) s.heap rfl
  refine wC ⟨_,rfl,"set_iterator",_,⟨_,q,rfl⟩,qI.lookup,?_⟩
  rw[C]
  have n:∀b∈[s.heap.objs.size,a],b=a\/s.heap.objs.size<=b:=λb j=>by
   rcases wN.mp j with rfl|j
   .exact .inr (wG _)
   .exact .inl (wM.mp j)
  cases hft:w.params.followText "set-order" with
  |true =>
   have W:=qfv (prog:=prog) (w:=w) y s.heap.objs.size a (wT p) (ep:=ep) m hft
   have f:=(jb (w.params.setOrder a ep) es).map (·.2)
   have c:((pickOrder (w.params.setOrder a ep) es).toList.map (·.2)).length=es.size:=by rw[f.length_eq,wP,wk]
   rw[<-c]at W
   exact B (s.heap.push {cls:=.type "set_iterator",data:=.fields #[rawInt 0,rawInt 0,.ref a,rawInt es.size,rawInt ep]}) s.drawn s.heap.objs.size _ _ _ (λb o e=>wB _ e) (by rw[wt];exact vz _) (wG _) n f W ⟨⟨0,_,q,rfl,by rw[c];rfl⟩,wB _ ha⟩
  |false =>
   have u:t.led=true:=by rw[d.led];show(!w.params.followText "set-order")=true;rw[hft];rfl
   have f:t.plain=true\/es.size<=1:=by
    have l:¬((!w.params.followText "set-order"&&(!t.plain&&decide (es.size>1)))=true):=hd
    rw[hft]at l
    cases z:t.plain with
    |true=>exact .inl rfl
    |false =>
     rw[z]at l
     simp at l
     exact .inr l
   have W:=qfw (prog:=prog) (w:=w) y s.heap.objs.size a (wT p) (ep:=ep) m hft u f (qbJ d.good m f)
   have c:(es.toList.map (·.2)).length=es.size:=by rw[wP,wk]
   have K:Walks prog w x s.heap.objs.size [s.heap.objs.size,a] [s.heap.objs.size] (es.toList.map (·.2)).length (λi v=>(es.toList.map (·.2))[i]?=some v) (λi h=>i<=es.size/\ItO h s.heap.objs.size a es.size ep (.int (slotAt t i) 0) i/\h.get? a=some (setO es ep t)):=by rw[c];exact W
   exact B (s.heap.push {cls:=.type "set_iterator",data:=.fields #[rawInt 0,rawInt 0,.ref a,rawInt es.size,rawInt ep]}) s.drawn s.heap.objs.size _ _ _ (λb o e=>wB _ e) (by rw[wt];exact vz _) (wG _) n (.refl _) K ⟨vH _,⟨_,q,rfl,rfl⟩,wB _ ha⟩
end
end SN
end R
end
section
set_option maxHeartbeats 400000
namespace R
open PySem PySem.Spec L2
open PyProof.Rows hiding St
namespace SN
section
variable{prog:Program}{w:World}{A:Around}{E:Value->Shared->Prop}{s:Shared}
theorem qfy{r:Addr}{Q:Bool->Shared->Prop}(d:s.TypeIs (.ref r) "set")(h:Q false s):wpAny (model prog w) A (Builtin.List.listLengthHint (.ref r)) Q E s:=by
 unfold Builtin.List.listLengthHint
 refine wA (xx d PySem.F.slot_set_len.lookup ?_)
 generalize c:("set.__len__":String)=id0
 wp_delta
 rw[show splitId id0=some ("set","__len__")from by subst c;decide +kernel]
 subst c
 refine wA (vO (T:="set") (b:=true) d (by rw[uO];kernel_rfl) ?_)
 refine ue (λa=>absurd a (by decide)) (λ_=>?_)
 refine ue (λ_=>?_) (λa=>absurd (by decide +kernel) a)
 refine wA (uR d ?_)
 exact wC h
theorem qcI{a:Addr}{ks:List Int}{es:Array (Int×Value)}{ep:Nat}{t:SetTable}{R:Result->Shared->Prop}(X:A.handled=none)(ha:s.heap.get? a=some (setO es ep t))(d:SetD (ledW w) ks es t)(S:Addr)(y:S≠a)(res:Value)(n:Nat)(P:s.heap.get? S=some {cls:=.type "list",data:=.seq #[] n})(Y:∀h' tk d' c x,(∀b o,b≠S->s.heap.get? b=some o->h'.get? b=some o)->h'.get? S=some {cls:=.type "list",dict:=none,data:=.seq c x,slots:=#[]}->c.toList.Perm (es.toList.map (·.2))->R (.ok (.ret res)) {s with heap:=h',toks:=tk,drawn:=d' }):
  wpAny (model prog w) A.in1 (Builtin.List.listExtendWith (.ref S) (.ref a) res)
   (λfin s'=>match fin with|.done f=>R (.ok f) s'|.again x=>x.quiet=true/\codeAny (model prog w) A x R s') (λe s'=>R (.error e) s') s:=by
 have Q:∀s':Shared,s'.heap.get? a=some (setO es ep t)->s'.TypeIs (.ref a) "set":=λs' h=>⟨_,h,rfl⟩
 have B:=wF P
 unfold Builtin.List.listExtendWith
 refine wA (uR (T:="set") (Q s ha) ?_)
 have q:Builtin.List.listSameRef (.ref S) (.ref a)=false:=by simp[Builtin.List.listSameRef,y]
 have Z:(Value.type "set" == Value.type "list")=false:=by decide
 have h3:(Value.type "set" == Value.type "tuple")=false:=by decide
 simp only[q,Z,h3,Bool.or_false,wj,vc]
 refine wA (qfx ha d A.in1 X λq d1 I fp St ord L a0 C M U W st=>?_)
 have hn:ord.length<=sizeLine:=by rw[U.length_eq,wP,wk];exact xX d.few
 have H:S∉fp:=λhm=>(M S hm).elim y (λz=>absurd B (Nat.not_lt.mpr z))
 have a1:S≠I:=λe=>absurd B (Nat.not_lt.mpr (e ▸ C))
 have J:∀(h:Heap) (c₁ tk:Nat),St 0 h->(∀b o,b≠S->q.get? b=some o->h.get? b=some o)->q.objs.size<=h.objs.size ->
   h.get? S=some {cls:=.type "list",data:=.seq #[] c₁}->codeAny (model prog w) A (.builtin "list.extend.loop" ⟨[.ref S,.ref I,res],[]⟩) R {s with heap:=h,toks:=tk,drawn:=d1}:=by
  intro h c₁ tk N hk hsz j
  refine codeAny_extend_loopS W.toS hn S H res ord.length 0 _ #[] c₁ rfl (vH _) N j (ItemsOf.nil _) λs' c x hm O p=>?_
  rw[Moved.eq_with hm]
  have keep:∀b o,b≠S->s.heap.get? b=some o->s'.heap.get? b=some o:=λb o r e=>hm.heap b o (λl=>by
   rcases wN.mp l with e'|l
   .exact r e'
   .exact absurd (wF e) (by rw[wM.mp l];exact Nat.not_lt.mpr C)) (hk b o r (L b o e))
  refine Y s'.heap s'.toks d1 c x keep O ?_
  .have e:c.toList=ord:=by
    apply uF
    intro i
    rw[vB]
    cases z:c[i]? with
    |none =>
     have q:c.size<=i:=by simpa using z
     rw[p.1]at q
     exact(vM q).symm
    |some v=>exact(p.2 i v z).symm
   rw[e];exact U
 have j:=L S _ P
 refine wA (wm (qfy (Q _ (L a _ ha)) ?_))
 refine ue (λ_=>?_) (λ_=>wC ⟨wo PySem.F.plain_extend_loop _,J _ n _ st (λb o _ e=>e) (wG _) j⟩)
 refine wA (vb ?_)
 refine wA ?_
 show wpAny _ _ (updateSeq S (·.push .none) >>= λ_=>updateSeq S (·.pop)) _ _ _
 refine wA (vS j rfl ?_)
 have m:=w8 (Obj.mapSeq (·.push Value.none)) j rfl
 refine vS (hz:=by seq_fits) m rfl ?_
 have u:=w8 (Obj.mapSeq (·.pop)) m rfl
 refine wC ⟨wo PySem.F.plain_extend_loop _,J _ _ _ ?_ (λb o r e=>?_) ?_ u⟩
 .refine W.frame 0 _ _ st λb r o e=>?_
  have K:b≠S:=λh=>H (h ▸ r)
  exact(wQ _ _ (Ne.symm K)).trans ((wQ _ _ (Ne.symm K)).trans e)
 .exact (wQ _ _ (Ne.symm r)).trans ((wQ _ _ (Ne.symm r)).trans e)
 .rw [xu,xu];exact wG _
theorem qfz{a:Addr}{ks:List Int}{Q:List Value->Shared->Prop}(n:A.handled=none)(f:SetL s.heap a (ledW w) ks)(p:∀(h':Heap) (tk:Nat) (d':Drawn) (h:List Value) (ns:List Int),s.heap.objs.size<=h'.objs.size->(∀b o,s.heap.get? b=some o->h'.get? b=some o)->IntsAre h ns->ns.Perm ks->Q h {s with heap:=h',toks:=tk,drawn:=d' }):wpAny (model prog w) A (collect (.ref a)) Q E s:=by
 obtain⟨es,ep,t,ha,d⟩:=f
 have hd:s.heap.objs.size≠a:=vF (wF ha)
 have i:∀R:Result->Shared->Prop,(∀(h':Heap) (tk:Nat) (d':Drawn) (c:Array Value) (j:Nat),(∀b o,s.heap.get? b=some o->h'.get? b=some o)->h'.get? s.heap.objs.size=some {cls:=.type "list",dict:=none,data:=.seq c j,slots:=#[]}->c.toList.Perm (es.toList.map (·.2)) ->
   R (.ok (.ret (.ref s.heap.objs.size))) {s with heap:=h',toks:=tk,drawn:=d' })->codeAny (model prog w) A (.builtin "proto.collect" ⟨[.ref a],[]⟩) R s:=by
  intro R q
  refine wa uw ?_
  rw[wZ uv]
  refine wA (m:=newList []) (wS (wC ⟨wo vo _,wa xg ?_⟩))
  rw[wZ vo]
  have h0:(s.heap.push {cls:=.type "list",data:=.seq ([]:List Value).toArray}).get? s.heap.objs.size=some {cls:=.type "list",data:=.seq #[] 0}:=wE _ rfl
  exact qcI (R:=R) (s:={s with heap:=s.heap.push {cls:=.type "list",data:=.seq ([]:List Value).toArray}}) n (wB _ ha) d s.heap.objs.size hd (.ref s.heap.objs.size) 0 h0 (λh' tk d' c j l f hi =>
   q h' tk d' c j (λb o e=>l b o (wT (wF e)) (wB _ e)) f hi)
 unfold collect
 refine wA (xS (i _ λh' tk d' c j l f hi=>?_))
 refine wA (m:=load s.heap.objs.size) (wpAny_load f (wC ?_))
 obtain⟨ns,r,u⟩:=d.nums
 obtain⟨m,v,x⟩:=zQ hi r
 exact p h' tk d' _ _ (uu (wF f)) l v (x.trans u)
theorem sorted_set{a:Addr}{ks:List Int}{Q:Value->Shared->Prop}(q:A.in1.handled=none)(r:SetL s.heap a (ledW w) ks)(u:ks.length<64)(h:∀(h':Heap) (tk:Nat) (d':Drawn) (D:Addr) (d:Array Value) (c:Nat) (f:List Int),s.heap.objs.size<=D->(∀b o,s.heap.get? b=some o->h'.get? b=some o)->IntsAre d.toList f->f.Perm ks->f.Pairwise (·<=·)->h'.get? D=some (seqObj "list" d c)->Q (.ref D) {s with heap:=h',toks:=tk,drawn:=d' }):
  wpAny (model prog w) A (call (.builtin "sorted") [.ref a]) Q E s:=by
 refine xV kind_sorted plain_sorted entry_sorted (args_sorted1 _) ?_
 unfold Builtin.«sorted»
 refine wA (m:=checkCount "sorted" 1 1 _) (wC (wA (qfz q r λi tk d' vs ns sz n i1 j=>wA (wpAny_newList ?_ (by have:=i1.length;have:=j.length_eq;rw[vJ];omega)))))
 have v:vs.length<64:=by have:=i1.length;have:=j.length_eq;omega
 have l:(i.push (seqObj "list" vs.toArray 0)).get? i.objs.size=some (seqObj "list" vs.toArray 0):=wE _ rfl
 show wpAny _ _ _ _ _ {s with heap:=i.push (seqObj "list" vs.toArray 0),toks:=tk,drawn:=d' }
 refine wA (wm (wf slot_list_sort ⟨_,l,rfl⟩ entry_list_sort (list_sort_tree (s:={s with heap:=i.push (seqObj "list" vs.toArray 0),toks:=tk,drawn:=d' }) l i1 v λd f x y z=>⟨_,rfl,?_⟩) (args_list_sort _)))
 refine wC ⟨_,rfl,?_⟩
 obtain⟨c,at'⟩:∃c,(sortedHeap (i.push (seqObj "list" vs.toArray 0)) i.objs.size vs d).get? i.objs.size=some (seqObj "list" d c):=by
  unfold sortedHeap
  have e1:=uf l λ_=>(#[]:Array Value)
  have B:=wB (seqObj "list" #[] 0) (wB (seqObj "tuple" vs.toArray 0) e1)
  exact⟨_,uf B λ_=>d⟩
 refine h _ tk d' _ d c f sz (λb o e=>?_) x (y.trans j) z at'
 have p:b≠i.objs.size:=wT (wF (n b o e))
 unfold sortedHeap
 exact(wQ _ _ (Ne.symm p)).trans (wB _ (wB _ ((wQ _ _ (Ne.symm p)).trans (wB _ (n b o e)))))
end
end SN
end R
end
namespace R
open PySem PySem.Spec L2
open PyProof.Rows hiding St
namespace DL
open DN
theorem keys_miss:typeLookup (.type "list") "keys"=pure none:=am_miss_of_fast (by decide +kernel)
section
variable{prog:Program}{w:World}{A:Around}{E:Value->Shared->Prop}{s:Shared}
theorem no_keys{a:Addr}{o:Obj}{xs:Array Value}{k:Nat}{Q:Option Value->Shared->Prop}(hx:s.heap.get? a=some o)(j:o.cls=.type "list")(b:o.data=.seq xs k)(hd:o.dict=none)(m:A.handled=none)(h:∀h' tk e,Heap.NewExcOf s.heap h' e "AttributeError"->Q none {s with heap:=h',toks:=tk}):
  wpAny (model prog w) A (getAttr? (.ref a) "keys") Q E s:=by
 obtain⟨c,n,p,sl⟩:=o
 simp only at j b hd
 subst j b hd
 obtain⟨q,g,d,tk,os⟩:=s
 have l:∀f,(⟨q,g,d,f,os⟩:Shared).TypeIs (.ref a) "list":=λ_=>⟨_,hx,rfl⟩
 have r:=sub_AttributeError
 have u:=xc.lookup
 have v:=xc.bind (.ref a)
 have x:=am_list_getattr_none
 unfold getAttr? getAttrBy? getAttrBy
 repeat (any_goals (first|assumption|exact l _|((with_reducible show wpAny _ _ (call (Value.builtin "list.__getattribute__") _ _) _ _ _);refine gB xc (l _) am_entry_list_getattribute (F.args_list_getattribute_2 _ _) (meets_getattribute_miss_list a xs k sl "keys" _ DL.keys_miss (by decide +kernel) (by size_fits)) ⟨hx,m,λh' f e i=>?_⟩)|wp_step))
 obtain⟨t',y,z⟩:=i.there
 show wpAny _ _ (getattributeRaised _ _ _ _ _ _ _) _ _ _
 unfold getattributeRaised
 repeat (any_goals (first|assumption|wp_step))
 exact h _ _ _ i.of
variable{K:Type}[DecidableEq K]{knd:HeapKind prog w K}
theorem loop{h0:Heap}{R:Result->Shared->Prop}{d I t:Addr}{items:Array Value}{its:List (K×Addr×Value)}(hh:A.in1.handled=none)(hu:knd.room A.in1)(H:t≠I)(m:d≠I)(J:d≠t)(L:h0.get? d=none)(u:h0.get? I=none)(hl:its.length=items.size)(hz:items.size<=sizeLine)(hv:∀(i:Nat) (p:K×Addr×Value),its[i]?=some p->∃b,items[i]?=some (.ref b)/\h0.IsTuple b #[.ref p.2.1,p.2.2])(hk:∀p∈its,∀h,Kp h0 h->knd.is h p.1 p.2.1){tk:Tok}:
  ∀(k i:Nat) (s:Shared) (tk:Tok),items.size-i=k->i<=items.size->s.heap.IsListIter I t i->s.heap.IsList t items->Kp h0 s.heap->Raw knd s.heap d (dOf (its.take i)) ->
   (∀h' f,Kp h0 h'->Raw knd h' d (dOf its)->R (.ok (.ret .none)) {s with heap:=h',toks:=f}) ->
   codeAny (model prog w) A (.builtin "dict.update.loop" ⟨[.ref d,.ref I,.int i tk,.none],[]⟩) R s:=by
 intro k
 have W:=Walks.list (prog:=prog) (w:=w) hh I t H items
 induction k with
 |zero =>
  intro i s tk M hi n N q C O
  have Q:i=items.size:=by lia
  subst Q
  refine wa jC ?_
  rw[wZ zP _]
  show wpAny _ A.in1 (pyNext (.ref I) >>= _) _ _ s
  refine wA (W.done s _ _ ⟨n,N⟩ λh' f hm=>?_)
  show wpAny _ A.in1 (Builtin.Dict.addKeywords d [] >>= _) _ _ _
  unfold Builtin.Dict.addKeywords
  refine wA ?_
  have e:its.take items.size=its:=List.take_of_length_le (by lia)
  rw[e]at C
  have fin:=O h' f (λb o e=>hm b o (by simp;rintro rfl;rw[u]at e;cases e) (q b o e)) (C.stay λo e=>hm d o (by simpa using m) e)
  exact wC (wC fin)
 |succ k ih =>
  intro i s tk M hi n N q C O
  have S:i<items.size:=by lia
  refine wa jC ?_
  rw[wZ zP _]
  show wpAny _ A.in1 (pyNext (.ref I) >>= _) _ _ s
  refine wA (W.item i s _ _ S ⟨n,N⟩ λv h' f F y hm=>?_)
  obtain⟨p,U⟩:∃p,its[i]?=some p:=⟨_,wD (by lia)⟩
  obtain⟨b,hb,X⟩:=hv i p U
  have F:items[i]?=some v:=F
  rw[hb]at F
  cases F
  have j:Kp h0 h':=λb o e=>hm b o (by simp;rintro rfl;rw[u]at e;cases e) (q b o e)
  have Y:Raw knd h' d (dOf (its.take i)):=C.stay λo e=>hm d o (by simpa using m) e
  obtain⟨ob,Z,a0,nb,a1⟩:=X
  have l:=j _ _ Z
  have a2:p∈its:=wy U
  have z:∀x∈dOf (its.take i),∀h,Kp h0 h->knd.is h x.1 x.2.1:=qdj (P:=λk a=>∀h,Kp h0 h->knd.is h k a) _ [] (λx hx=>hk x (vi hx)) (λx hx=>by simp at hx)
  have B:=qhO (its.take i)
  rw[vE]at B
  show wpAny _ A.in1 (holding [Value.ref b] _ >>= _) _ _ _
  refine wA (wm (wA (gF ?_)))
  unfold Builtin.Dict.pairItems
  refine wA (uR (T:="tuple") ⟨ob,l,a0⟩ ?_)
  rw[wL (by decide)]
  refine wA (vN l a1 (wC ?_))
  show wpAny _ A.in1 (holding [Value.ref p.2.1,p.2.2] (dictSet d (.ref p.2.1) p.2.2)) _ _ _
  refine wm (wpAny_dictSet_heap (hsz:=by lia) hu (hk p a2 h' j) (Y.full λx hx=>z x hx h' j) λh2 a3 r=>?_)
  refine wC ⟨wo zP _,?_⟩
  have a4:Kp h0 h2:=λc o e=>by
   rw[r.2 c (by rintro rfl;rw[L]at e;cases e)];exact j c o e
  have e1:its.take (i+1)=its.take i++[p]:=by rw[List.take_add_one,U];rfl
  have r2:=Raw.of a3
  rw[<-qfr,<-e1]at r2
  obtain⟨⟨oi,i1,i2⟩,⟨ot,t1,t2⟩⟩:=y
  have:=ih (i+1) {s with heap:=h2,toks:=f+knd.draws p.1} 0 (by lia) (by lia) ⟨oi,(r.2 I (Ne.symm m)).trans i1,i2⟩ ⟨ot,(r.2 t (Ne.symm J)).trans t1,t2⟩ a4 r2 O
  exact this
set_option maxHeartbeats 4000000 in
theorem call_pairs{t:Addr}{o:Obj}{items:Array Value}{n:Nat}{its:List (K×Addr×Value)}{Q:Value->Shared->Prop}(hh:A.handled=none)(hu:knd.room A.in1.in1)(hx:s.heap.get? t=some o)(B:o.cls=.type "list")(f:o.data=.seq items n)(hd:o.dict=none)(hl:its.length=items.size)(hz:items.size<=sizeLine)(hv:∀(i:Nat) (p:K×Addr×Value),its[i]?=some p->∃b,items[i]?=some (.ref b)/\s.heap.IsTuple b #[.ref p.2.1,p.2.2])(hk:∀p∈its,∀h,Kp s.heap h->knd.is h p.1 p.2.1)(h:∀h' tk,Kp s.heap h'->Raw knd h' s.heap.objs.size (dOf its)->Q (.ref s.heap.objs.size) {s with heap:=h',toks:=tk}):
  wpAny (model prog w) A (call (.type "dict") [.ref t]) Q E s:=by
 obtain⟨c,tl,a1⟩:=called.mro
 have C:=called.made
 have a2:=called.sub
 refine wpAny_call (ug ?_)
 show wpAny _ _ (callAny (.type "dict") _) _ _ _
 refine wC ⟨Code.quiet_builtin _ (by decide +kernel),wa F.entry_type_call ?_⟩
 rw[Around.under_plain (weight_type_call_type "dict" [.ref t] []) rfl]
 have h1:=called.notType
 have h2:=called.canCreate
 have a3:=typeCall1 (.ref t)
 repeat (any_goals (first|assumption|wp_step))
 refine ur (code_new (.ref t) (E:=E) (Q₁:=λobj l=>obj=.ref s.heap.objs.size/\l={s with heap:=s.heap.push {cls:=.type "dict",data:=.dict #[]}}) ⟨rfl,rfl⟩) λr l H=>?_
 cases r with
 |error e=>exact H
 |ok fl =>
  cases fl with
  |ret obj =>
   obtain⟨rfl,rfl⟩:=H
   have hS:(s.heap.push {cls:=.type "dict",data:=.dict #[]}).get? s.heap.objs.size=some {cls:=.type "dict",data:=.dict #[]}:=wE _ rfl
   have hT:Shared.TypeIs {s with heap:=s.heap.push {cls:=.type "dict",data:=.dict #[]}} (.ref s.heap.objs.size) "dict":=⟨_,hS,rfl⟩
   have a4:=called.init.lookup
   have a5:=called.init.bind (.ref s.heap.objs.size)
   repeat (any_goals (first|assumption|wp_step))
   refine ur (codeAny_call_builtin (R:=wants (λr m=>r=.none/\∃h' tk,m={s with heap:=h',toks:=tk}/\Kp s.heap h'/\Raw knd h' s.heap.objs.size (dOf its)) E) called.init.plain F.entry_dict_init (F.slot_dict_init.check _ _ _ _ _ _ _ _ hT (F.args_dict_init_2 _ _) ?_)) λx m a=>?_
   .have y:(s.heap.push {cls:=.type "dict",data:=.dict #[]}).get? t=some o:=wB _ hx
    have J:∀tk:Nat,Shared.TypeIs {s with heap:=s.heap.push {cls:=.type "dict",data:=.dict #[]},toks:=tk} (.ref t) "list":=λ_=>⟨o,y,B⟩
    have a6:=J s.toks
    have a7:(Value.type "list" != Value.type "dict")=true:=by decide
    unfold Builtin.«dict.__init__» Builtin.Dict.updateCommon Builtin.Dict.updateFrom Builtin.Dict.selfAndRest
    generalize L:pyIter=PI
    generalize M:getAttr?=GA
    repeat (any_goals (first|assumption|wp_step))
    subst M
    subst L
    have z:A.in1.in1.handled=none:=by simp[hh]
    refine DL.no_keys (s:={s with heap:=s.heap.push {cls:=.type "dict",data:=.dict #[]}}) y B f hd z λh' tk e N=>?_
    have j:Kp s.heap h':=λb o e=>N.keeps _ _ (wB _ e)
    have O:h'.IsList t items:=⟨o,j _ _ hx,B,n,f⟩
    have P:t≠h'.objs.size:=wT (wF (j _ _ hx))
    have S:s.heap.objs.size≠h'.objs.size:=wT (wF (N.keeps _ _ hS))
    have U:s.heap.objs.size≠t:=vF (wF hx)
    have W:s.heap.get? s.heap.objs.size=none:=by
     cases q:s.heap.get? s.heap.objs.size with
     |none=>rfl
     |some u=>exact absurd (wF q) (vI _)
    have X:s.heap.get? h'.objs.size=none:=by
     cases q:s.heap.get? h'.objs.size with
     |none=>rfl
     |some u=>exact absurd (wF (j _ _ q)) (vI _)
    rw[wL (show(Option.none:Option Value).isNone=true from rfl)]
    refine wA (vb ?_)
    refine wA (um (s:={s with heap:=h',toks:=tk}) O ?_)
    refine wC ⟨wo zP _,?_⟩
    refine DL.loop (A:=A.in1) (knd:=knd) (h0:=s.heap) (d:=s.heap.objs.size) (I:=h'.objs.size) (t:=t) (items:=items) (its:=its) (tk:=0) z hu P S U W X hl hz hv hk (items.size-0) 0 _ 0 (by lia) (vH _) ⟨_,wE _ rfl,rfl,rfl⟩ ⟨o,wB _ (j _ _ hx),B,n,f⟩ (λb o e=>wB _ (j b o e)) ((Raw.of (knd:=knd) (Heap.DictOfH.new s.heap)).stay λo e=>wB _ (N.keeps _ _ e)) λh2 Y k2 r2=>⟨rfl,h2,Y,rfl,k2,r2⟩
   .cases x with
    |error e=>exact a
    |ok v =>
     cases v with
     |ret r =>
      obtain⟨rfl,h',tk,rfl,Z,a0⟩:=a
      repeat (any_goals (first|assumption|wp_step))
      exact h _ _ Z a0
     |_=>exact a.elim
  |_=>exact H.elim
end
end DL
end R
section
set_option maxHeartbeats 400000
namespace R
open PySem PySem.Spec L2 HT
open PyProof.Rows hiding St
namespace TS
theorem qeA(a b:Value):argsOk "sum" ⟨[a,b],[]⟩:=by unfold argsOk;kernel_rfl
theorem yQ:isSubtype (.type "tuple") (.type "bytearray")=pure false:=by rw[uO];kernel_rfl
noncomputable def pre(val:Nat->List Value)(i:Nat):List Value:=((List.range i).map val).flatten
theorem q8(val:Nat->List Value)(i:Nat):pre val (i+1)=pre val i++val i:=by
 unfold pre;rw[List.range_succ,uD,List.flatten_append];simp
section
variable{prog:Program}{w:World}{A:Around}{E:Value->Shared->Prop}{s:Shared}
theorem qhS{t b:Addr}{vs a:List Value}{Q:Value->Shared->Prop}(l:IsTup s.heap t vs.toArray)(m:IsTup s.heap b a.toArray)(h0:vs=[]->Q (.ref b) s)(r:a=[]->Q (.ref t) s)(u:Q (.ref s.heap.objs.size) {s with heap:=s.heap.push {cls:=.type "tuple",data:=.seq (vs++a).toArray}})(hsz:vs.length+a.length<=sizeLine):wpAny (model prog w) A (binaryOp .Add (.ref t) (.ref b)) Q E s:=by
 by_cases f:vs=[]
 .obtain ⟨⟨cls,v,data,sl⟩,o,p,n,hd⟩:=id l
  obtain⟨⟨q,h,i,j⟩,c,d,x,e⟩:=id m
  simp only at p hd d e
  subst p hd d e
  exact concat_meets ⟨_,o,rfl⟩ ⟨_,c,rfl⟩ xo seq_tuple_add uk uh (ub _ _)
   (tuple_addW0 t b _ a.toArray n x v h sl j (by simpa using f)) ⟨o,c,h0 f⟩
 .exact qdb l m f r (λ_=>u) hsz
structure Acc (Old:Addr->List Value->Prop) (h0:Heap) (S:Addr) (wr:List Addr) (h:Heap) (c:Addr) (vs:List Value):Prop where
 tup:IsTup h c vs.toArray
 nS:c≠S
 nW:c∉wr
 old:Old c vs\/(h0.objs.size<=c/\h.get? c=some {cls:=.type "tuple",data:=.seq vs.toArray})
theorem Acc.stay{Old:Addr->List Value->Prop}{h0 h h':Heap}{S c:Addr}{wr:List Addr}{vs:List Value}(a:Acc Old h0 S wr h c vs)(k:∀o,h.get? c=some o->h'.get? c=some o):Acc Old h0 S wr h' c vs :=
 ⟨let ⟨o,b,r⟩:=a.tup;⟨o,k o b,r⟩,a.nS,a.nW,a.old.imp id λz=>⟨z.1,k _ z.2⟩⟩
end
section
variable{prog:Program}{w:World}{A:Around}{R:Result->Shared->Prop}{I:Addr}{fp wr:List Addr}{n:Nat}{P:Nat->Value->Prop}{St:Nat->Heap->Prop}
theorem loop(W:Walks prog w A.in1 I fp wr n P St){h0:Heap}{Old:Addr->List Value->Prop}(val:Nat->List Value)(K:∀i v,P i v->∃b,v=.ref b/\IsTup h0 b (val i).toArray/\Old b (val i))(S:Addr)(L:S∉fp)(M:h0.get? S=none)(B:∀b∈wr,h0.get? b=none)(a2:h0.objs.size<=S)(N:∀i h,St i h->∀b∈wr,b<h.objs.size)(hsz:(pre val n).length<=sizeLine):
  ∀(k i:Nat) (s:Shared) (c:Addr) (cn:Nat),n-i=k->i<=n->St i s.heap->s.heap.get? S=some {cls:=.type "list",dict:=none,data:=.seq #[.ref c] cn,slots:=#[]}->(∀b o,h0.get? b=some o->s.heap.get? b=some o) ->
   Acc Old h0 S wr s.heap c (pre val i) ->
   (∀h' tk O,(∀b o,h0.get? b=some o->h'.get? b=some o)->Acc Old h0 S wr h' O (pre val n)->R (.ok (.ret (.ref O))) {s with heap:=h',toks:=tk}) ->
   codeAny (model prog w) A (.builtin "sum.loop" ⟨[.ref I,.ref S,rawInt 2,rawInt 0],[]⟩) R s:=by
 have a3:S∉wr:=λh=>L (W.sub _ h)
 intro k
 induction k with
 |zero =>
  intro i s c cn hk hi C hS E a hR
  have a4:i=n:=by omega
  subst a4
  refine wa F.entry_sum_loop ?_
  rw[wZ vh _]
  show wpAny _ A.in1 (seqItems? (.ref S) >>= _) _ _ s
  refine wA (vN hS rfl ?_)
  show wpAny _ A.in1 (tryCatch (pyNext (.ref I)) _ >>= _) _ _ s
  refine wA (gF (W.done s _ _ C λh' tk j=>?_))
  refine wC (hR h' tk c (λb o e=>j b o (λJ=>?_) (E b o e)) (a.stay λo e=>j c o a.nW e))
  rw[B b J]at e;cases e
 |succ k ih =>
  intro i s c cn hk hi C hS E a hR
  have Q:i<n:=by omega
  refine wa F.entry_sum_loop ?_
  rw[wZ vh _]
  show wpAny _ A.in1 (seqItems? (.ref S) >>= _) _ _ s
  refine wA (vN hS rfl ?_)
  show wpAny _ A.in1 (tryCatch (pyNext (.ref I)) _ >>= _) _ _ s
  refine wA (gF (W.item i s _ _ Q C λv h' tk hP p j=>?_))
  obtain⟨b,rfl,J,a5⟩:=K i v hP
  have l:=j S _ a3 hS
  have U:∀b o,h0.get? b=some o->h'.get? b=some o:=λb o e=>j b o (λJ=>by rw[B b J]at e;cases e) (E b o e)
  have d:Acc Old h0 S wr h' c (pre val i):=a.stay λo e=>j c o a.nW e
  have X:IsTup h' b (val i).toArray:=let ⟨o,ho,r⟩:=J;⟨o,U _ _ ho,r⟩
  have Y:∃o,h0.get? b=some o:=let ⟨o,ho,_⟩:=J;⟨o,ho⟩
  have a6:b≠S:=by rintro rfl;obtain⟨o,e⟩:=Y;rw[M]at e;cases e
  have a7:b∉wr:=λh=>by obtain⟨o,e⟩:=Y;rw[B b h]at e;cases e
  have Z:(pre val i).length+(val i).length<=sizeLine:=by
   have e1:(pre val (i+1)).length=(pre val i).length+(val i).length:=by rw[q8,we]
   have mono:∀m,i+1<=m->(pre val (i+1)).length<=(pre val m).length:=by
    intro m hm
    induction m with
    |zero=>omega
    |succ m a8 =>
     rcases xO hm with q|q
     .have:=a8 (by omega)
      rw[q8 val m,we];omega
     .rw [q];exact wG _
   have:=mono n (by omega)
   omega
  have next:∀(u:Heap) (r:Addr),u.get? S=some {cls:=.type "list",dict:=none,data:=.seq #[.ref c] cn,slots:=#[]}->(∀b o,h'.get? b=some o->u.get? b=some o)->h'.objs.size<=u.objs.size->Acc Old h0 S wr u r (pre val (i+1)) ->
    wpAny (model prog w) A.in1 (do updateSeq S λ_=>#[Value.ref r];letGo [Value.ref c,Value.ref b];updateSeq S λ_=>#[Value.ref r];again (.builtin "sum.loop" ⟨[.ref I,.ref S,rawInt 2,rawInt 0],[]⟩))
     (λfin s'=>match fin with|.done f=>R (.ok f) s'|.again O=>O.quiet=true/\codeAny (model prog w) A O R s') (λe s'=>R (.error e) s') {s with heap:=u,toks:=tk}:=by
   intro u r a0 k2 a9 y
   refine wA (vS a0 rfl ?_)
   refine wA (uo ?_)
   have o1:=w8 (Obj.mapSeq λ_=>#[Value.ref r]) a0 rfl
   refine wA (vS o1 rfl ?_)
   have o2:=w8 (Obj.mapSeq λ_=>#[Value.ref r]) o1 rfl
   have H:∀x o,x≠S->u.get? x=some o->((u.update S (Obj.mapSeq λ_=>#[Value.ref r])).update S (Obj.mapSeq λ_=>#[Value.ref r])).get? x=some o:=λx o hx e =>
    (wQ _ _ (Ne.symm hx)).trans ((wQ _ _ (Ne.symm hx)).trans e)
   refine wC ⟨wo vh _,?_⟩
   exact ih (i+1) _ r _ (by omega) Q (W.frame _ _ _ p λx hx o e=>H x o (λz=>L (z ▸ hx)) (k2 x o e)) o2 (λx o e=>H x o (λz=>by rw[z,M]at e;cases e) (k2 x o (U x o e))) (y.stay λo e=>H r o y.nS e) hR
  show wpAny _ A.in1 (do
   match <-(holding [Value.ref b] (binaryOp .Add (.ref c) (.ref b))).attempt with
   | .ok r=>do updateSeq S λ_=>#[r];letGo [Value.ref c,Value.ref b];updateSeq S λ_=>#[r];again (.builtin "sum.loop" ⟨[.ref I,.ref S,rawInt 2,rawInt 0],[]⟩)
   | .error e=>do updateSeq S λ_=>#[];letGo [Value.ref c,Value.ref b] [e];throw e) _ _ _
  refine wA (v7 (wm (qhS (s:={s with heap:=h',toks:=tk}) d.tup X (λe0=>?_) (λe1=>?_) ?_ Z)))
  .refine next h' b l (λ_ _ e=>e) (wG _) ⟨?_,a6,a7,.inl ?_⟩
   .rw [q8,e0];exact X
   .rw [q8,e0];exact a5
  .refine next h' c l (λ_ _ e=>e) (wG _) ⟨?_,d.nS,d.nW,d.old.imp (λz=>?_) λz=>⟨z.1,?_⟩⟩
   .rw [q8,e1,va];exact d.tup
   .rw [q8,e1,va];exact z
   .rw [q8,e1,va];exact z.2
  .have o2:(h'.push {cls:=.type "tuple",data:=.seq (pre val i++val i).toArray}).get? h'.objs.size=some {cls:=.type "tuple",data:=.seq (pre val i++val i).toArray}:=wE _ rfl
   have a1:=wF l
   refine next _ h'.objs.size (wB _ l) (λ_ _ e=>wB _ e) (by rw[wt];exact vz _) ⟨?_,vF a1,λhm=>absurd (N _ _ p _ hm) (vI _),.inr ⟨uu (xQ a2 a1),?_⟩⟩
   .rw [q8];exact⟨_,o2,rfl,0,rfl⟩
   .rw [q8];exact o2
end
section
variable{prog:Program}{w:World}{A:Around}{E:Value->Shared->Prop}{s:Shared}
theorem sum_tups{l m:Addr}{items:List Value}{val:Nat->List Value}{Old:Addr->List Value->Prop}{Q:Value->Shared->Prop}(K:A.handled=none)(y:s.heap.IsList l items.toArray)(L:IsTup s.heap m ([]:List Value).toArray)(z:Old m [])(M:∀(i:Nat) (v:Value),items[i]?=some v->∃b,v=.ref b/\IsTup s.heap b (val i).toArray/\Old b (val i))(hsz:(pre val items.length).length<=sizeLine)(N:∀(h':Heap) (tk:Nat) (c:Addr),(∀b o,s.heap.get? b=some o->h'.get? b=some o)->IsTup h' c (pre val items.length).toArray->(Old c (pre val items.length)\/(s.heap.objs.size<=c/\h'.get? c=some {cls:=.type "tuple",data:=.seq (pre val items.length).toArray}))->Q (.ref c) {s with heap:=h',toks:=tk}):
  wpAny (model prog w) A (call (.builtin "sum") [.ref l,.ref m]) Q E s:=by
 have p:l<s.heap.objs.size:=let ⟨_,B,_⟩:=y;wF B
 obtain⟨J,f,r,nt,C⟩:=id L
 have d:∀{x:Addr},s.heap.objs.size<=x->s.heap.get? x=none:=λ{x} hx=>by
  cases q:s.heap.get? x with
  |none=>rfl
  |some o=>exact absurd (wF q) (Nat.not_lt.mpr hx)
 refine call_function_tree F.kind_sum F.plain_sum F.entry_sum (qeA _ _) ?_
 unfold Builtin.«sum»
 simp only[wX,w1]
 rw[wK (by decide)]
 refine wA (uI (show Builtin.Builtins.bindParams "sum" ["start"] 0 ⟨[.ref m],[]⟩=pure [some (.ref m)]from rfl) ?_)
 refine wA (um y ?_)
 refine wA (wC ?_)
 have n:Shared.TypeIs {s with heap:=s.heap.push {cls:=.type "list_iterator",data:=.fields #[.ref l,.int 0 0]}} (.ref m) "tuple":=⟨J,wB _ f,r⟩
 simp only[uE,gG]
 refine wA (wA (wA (vO (T:="tuple") (b:=false) n F.sub_tuple_str ?_)))
 simp only[wj,vc]
 refine wC (wA (wA (vO (T:="tuple") (b:=false) n F.sub_tuple_bytes ?_)))
 simp only[wj,vc]
 refine wC (wA (wA (vO (T:="tuple") (b:=false) n yQ ?_)))
 simp only[wj,vc]
 refine wC (wC ?_)
 refine wA (wS ?_)
 have j:(s.heap.push {cls:=.type "list_iterator",data:=.fields #[.ref l,.int 0 0]}).objs.size=s.heap.objs.size+1:=wt ..
 have H:l≠s.heap.objs.size:=wT p
 have W:=Walks.list (prog:=prog) (w:=w) (A:=A.in1) K s.heap.objs.size l H items.toArray
 have u:items.toArray.size=items.length:=wJ ..
 rw[u]at W
 have O:=y.push {cls:=.type "list_iterator",data:=.fields #[.ref l,.int 0 0]}
 refine wC ⟨wo vh _,loop W (h0:=s.heap) val (λi v P=>M i v (by simpa using P)) _ ?_ (by rw[j];exact d (vz _)) (λb I=>by rw[wM.mp I];exact d (wG _))
  (by rw[j];exact vz _) (λi h st b I=>by rw[wM.mp I];obtain⟨o,B,_⟩:=st.1;exact wF B) hsz items.length 0 _ m 0 (by omega) (vH _)
  ⟨⟨_,wB _ (wE _ rfl),rfl,rfl⟩,O.push _⟩ (wE _ rfl) (λb o e=>wB _ (wB _ e)) ⟨⟨J,wB _ (wB _ f),r,nt,C⟩,?_,?_,.inl z⟩ λh' tk R k a=>N h' tk R k a.tup a.old⟩
 .rw [j]
  intro hm
  rcases wN.mp hm with e|hm
  .exact absurd e (vF (uM _))
  .exact absurd (wM.mp hm) (vF (vQ p))
 .rw [j];exact wT (vQ (wF f))
 .intro hm
  exact absurd (wM.mp hm) (wT (wF f))
end
end TS
end R
end
namespace R
open PySem PySem.Spec PyProof.Rows L2
inductive D where
 |non|bl (b:Bool)|int (i:Int)|str (x:Str)
 |tup (l:List D)|lst (l:List D)|emp
 |ref (n:Nat)
mutual
def Den(ι:List Addr)(H:Hp):D->V->Prop
 | .non,v=>v=.non
 | .bl b,v=>v=.bl b
 | .int i,v=>v=.int i
 | .str x,v=>v=.str x
 | .tup ds,v=>∃a xs,v=.ref a/\a∉ι/\H a=some (.tup xs)/\Dens ι H ds xs
 | .lst ds,v=>∃a xs,v=.ref a/\a∉ι/\Rd H a (.lst xs)/\Dens ι H ds xs
 | .emp,v=>∃a,v=.ref a/\a∉ι/\H a=some (.dK [])
 | .ref n,v=>∃a,v=.ref a/\ι[n]?=some a
def Dens(ι:List Addr)(H:Hp):List D->List V->Prop
 |[],xs=>xs=[]
 |d::ds,xs=>∃x r,xs=x::r/\Den ι H d x/\Dens ι H ds r
end
def NT:HO->Prop
 | .tbl _=>False
 |_=>True
structure Stp (ι:List Addr) (H:Hp) (ι':List Addr) (H':Hp):Prop where
 pre:ι <+: ι'
 new:∀a∈ι',a∈ι\/H a=none
 keep:∀a o,H a=some o->a∉ι->NT o->H' a=some o
 there:∀a,H a≠none->H' a≠none
theorem Stp.refl(ι:List Addr)(H:Hp):Stp ι H ι H:=⟨uz _,λ_ h=>.inl h,λ_ _ h _ _=>h,λ_ h=>h⟩
theorem Stp.notin{ι b:List Addr}{H H':Hp}(s:Stp ι H b H'){a:Addr}{o:HO}(h:H a=some o)(n:a∉ι):a∉b:=λm=>by
 rcases s.new a m with z|z
 .exact n z
 .rw [h]at z;cases z
theorem Stp.trans{ι b c:List Addr}{H d H2:Hp}(s:Stp ι H b d)(t:Stp b d c H2):Stp ι H c H2 where
 pre:=s.pre.trans t.pre
 new:=λa m=>by
  rcases t.new a m with z|z
  .exact s.new a z
  .cases q:H a with
   |none=>exact .inr rfl
   |some o=>exact absurd z (s.there a (by rw[q];simp))
 keep:=λa o h n z=>t.keep a o (s.keep a o h n z) (s.notin h n) z
 there:=λa h=>t.there a (s.there a h)
theorem Stp.get{ι b:List Addr}{H H':Hp}(s:Stp ι H b H'){n:Nat}{a:Addr}(h:ι[n]?=some a):b[n]?=some a:=by
 obtain⟨t,rfl⟩:=s.pre
 rw[w5 (wO.mp h).1]
 exact h
theorem Stp.rd{ι b:List Addr}{H H':Hp}(s:Stp ι H b H'){a:Addr}{u:HO}(h:Rd H a u)(n:a∉ι)(z:NT u:=by trivial):Rd H' a u/\a∉b:=by
 rcases h with h|⟨o,h⟩
 .exact ⟨.inl (s.keep _ _ h n z),s.notin h n⟩
 .exact ⟨.inr ⟨o,s.keep _ _ h n trivial⟩,s.notin h n⟩
mutual
theorem Den.mono{ι ι':List Addr}{H H':Hp}(s:Stp ι H ι' H'):∀(d:D) {v:V},Den ι H d v->Den ι' H' d v
 | .non,_,h=>h
 | .bl _,_,h=>h
 | .int _,_,h=>h
 | .str _,_,h=>h
 | .tup ds,_,h=>by
  obtain⟨a,xs,e,n,ha,r⟩:=h
  exact⟨a,xs,e,s.notin ha n,s.keep _ _ ha n trivial,Dens.mono s ds r⟩
 | .lst ds,_,h=>by
  obtain⟨a,xs,e,n,ha,r⟩:=h
  exact⟨a,xs,e,(s.rd ha n).2,(s.rd ha n).1,Dens.mono s ds r⟩
 | .emp,_,h=>by
  obtain⟨a,e,n,ha⟩:=h
  exact⟨a,e,s.notin ha n,s.keep _ _ ha n trivial⟩
 | .ref _,_,h=>by
  obtain⟨a,e,ha⟩:=h
  exact⟨a,e,s.get ha⟩
theorem Dens.mono{ι ι':List Addr}{H H':Hp}(s:Stp ι H ι' H'):∀(ds:List D) {xs:List V},Dens ι H ds xs->Dens ι' H' ds xs
 |[],_,h=>h
 |d::ds,_,h=>by
  obtain⟨x,r,e,h1,h2⟩:=h
  exact⟨x,r,e,Den.mono s d h1,Dens.mono s ds h2⟩
end
theorem Dens.length{ι:List Addr}{H:Hp}:∀{ds:List D} {xs:List V},Dens ι H ds xs->ds.length=xs.length
 |[],_,h=>by cases (show _=[]from h);rfl
 |d::ds,_,h=>by
  obtain⟨x,r,rfl,_,a⟩:=h
  simp[Dens.length a]
theorem Dens.append{ι:List Addr}{H:Hp}:∀{ds es:List D} {xs ys:List V},Dens ι H ds xs->Dens ι H es ys->Dens ι H (ds++es) (xs++ys)
 |[],_,_,_,h,k=>by cases (show _=[]from h);exact k
 |d::ds,_,_,_,h,k=>by
  obtain⟨x,r,rfl,a,b⟩:=h
  exact⟨x,_,rfl,a,Dens.append b k⟩
theorem Dens.get{ι:List Addr}{H:Hp}:∀{ds:List D} {xs:List V} {i:Nat} {d:D},Dens ι H ds xs->ds[i]?=some d->∃x,xs[i]?=some x/\Den ι H d x
 |[],_,_,_,_,e=>by simp at e
 |d::ds,_,0,_,h,e=>by
  obtain⟨x,r,rfl,a,b⟩:=h
  simp at e;subst e
  exact⟨x,rfl,a⟩
 |d::ds,_,i+1,_,h,e=>by
  obtain⟨x,r,rfl,a,b⟩:=h
  obtain⟨y,e1,c⟩:=Dens.get (i:=i) b (by simpa using e)
  exact⟨y,by simpa using e1,c⟩
theorem Dens.take{ι:List Addr}{H:Hp}:∀{ds:List D} {xs:List V} (n:Nat),Dens ι H ds xs->Dens ι H (ds.take n) (xs.take n)
 |_,_,0,_=>by simp[Dens]
 |[],_,n+1,h=>by cases (show _=[]from h);simp[Dens]
 |d::ds,_,n+1,h=>by
  obtain⟨x,r,rfl,a,b⟩:=h
  exact⟨x,_,rfl,a,Dens.take n b⟩
theorem Dens.drop{ι:List Addr}{H:Hp}:∀{ds:List D} {xs:List V} (n:Nat),Dens ι H ds xs->Dens ι H (ds.drop n) (xs.drop n)
 |_,_,0,h=>by simpa using h
 |[],_,n+1,h=>by cases (show _=[]from h);simp[Dens]
 |d::ds,_,n+1,h=>by
  obtain⟨x,r,rfl,b,a⟩:=h
  exact Dens.drop n a
theorem Dens.set{ι:List Addr}{H:Hp}{d:D}{x:V}(hd:Den ι H d x):∀{ds:List D} {xs:List V} (i:Nat),Dens ι H ds xs->Dens ι H (ds.set i d) (xs.set i x)
 |[],_,_,h=>by cases (show _=[]from h);simp[Dens]
 |d::ds,_,0,h=>by
  obtain⟨x,r,rfl,b,a⟩:=h
  exact⟨_,_,rfl,hd,a⟩
 |d::ds,_,i+1,h=>by
  obtain⟨x,r,rfl,b,a⟩:=h
  exact⟨_,_,rfl,b,Dens.set hd i a⟩
theorem Dens.snoc{ι:List Addr}{H:Hp}{d:D}{x:V}{ds:List D}{xs:List V}(h:Dens ι H ds xs)(hd:Den ι H d x):Dens ι H (ds++[d]) (xs++[x]) :=
 h.append ⟨x,[],rfl,hd,rfl⟩
mutual
noncomputable def refsLt(n:Nat):D->Bool
 | .ref k=>decide (k<n)
 | .tup l=>refsLts n l
 | .lst l=>refsLts n l
 |_=>true
noncomputable def refsLts(n:Nat):List D->Bool
 |[]=>true
 |d::r=>refsLt n d&&refsLts n r
end
theorem z9(n:Nat):∀(a b:List D),refsLts n (a++b)=(refsLts n a&&refsLts n b)
 |[],b=>by simp[refsLts]
 |d::r,b=>by simp only[List.cons_append,refsLts,z9 n r b,Bool.and_assoc]
theorem zh{n:Nat}:∀{l:List D} {d:D},refsLts n l=true->d∈l->refsLt n d=true
 |[],_,_,h=>by cases h
 |x::r,d,h,m=>by
  simp only[refsLts,wV]at h
  rcases wN.mp m with z|z
  .rw [z];exact h.1
  .exact zh h.2 z
theorem zS{n:Nat}:∀{l:List D},(∀d∈l,refsLt n d=true)->refsLts n l=true
 |[],_=>rfl
 |x::r,h=>by
  simp only[refsLts,wV]
  exact⟨h x wH,zS λd m=>h d (wI _ m)⟩
mutual
theorem Den.less{ι:List Addr}{H:Hp}{n:Nat}:∀(d:D) {v:V},refsLt n d=true->Den ι H d v->Den (ι.take n) H d v
 | .non,_,_,h=>h
 | .bl _,_,_,h=>h
 | .int _,_,_,h=>h
 | .str _,_,_,h=>h
 | .tup ds,_,r,h=>by
  obtain⟨a,xs,e,m,ha,q⟩:=h
  exact⟨a,xs,e,λz=>m (vi z),ha,Dens.less ds r q⟩
 | .lst ds,_,r,h=>by
  obtain⟨a,xs,e,m,ha,q⟩:=h
  exact⟨a,xs,e,λz=>m (vi z),ha,Dens.less ds r q⟩
 | .emp,_,_,h=>by
  obtain⟨a,e,m,ha⟩:=h
  exact⟨a,e,λz=>m (vi z),ha⟩
 | .ref k,_,r,h=>by
  obtain⟨a,e,ha⟩:=h
  exact⟨a,e,by rw[uc (vY r)];exact ha⟩
theorem Dens.less{ι:List Addr}{H:Hp}{n:Nat}:∀(ds:List D) {xs:List V},refsLts n ds=true->Dens ι H ds xs->Dens (ι.take n) H ds xs
 |[],_,_,h=>h
 |d::ds,_,r,h=>by
  obtain⟨x,t,e,h1,h2⟩:=h
  simp only[refsLts,wV]at r
  exact⟨x,t,e,Den.less d r.1 h1,Dens.less ds r.2 h2⟩
end
mutual
theorem zk{n:Nat}:∀(d:D),refsLt 0 d=true->refsLt n d=true
 | .non,_=>rfl
 | .bl _,_=>rfl
 | .int _,_=>rfl
 | .str _,_=>rfl
 | .tup ds,h=>qL ds h
 | .lst ds,h=>qL ds h
 | .emp,_=>rfl
 | .ref k,h=>absurd (vY (show decide (k<0)=true from h)) (Nat.not_lt_zero _)
theorem qL{n:Nat}:∀(ds:List D),refsLts 0 ds=true->refsLts n ds=true
 |[],_=>rfl
 |d::ds,h=>by
  simp only[refsLts,wV]at h ⊢
  exact⟨zk d h.1,qL ds h.2⟩
end
mutual
theorem qeB{m n:Nat}(h:m<=n):∀(d:D),refsLt m d=true->refsLt n d=true
 | .non,_=>rfl
 | .bl _,_=>rfl
 | .int _,_=>rfl
 | .str _,_=>rfl
 | .tup ds,q=>zT h ds q
 | .lst ds,q=>zT h ds q
 | .emp,_=>rfl
 | .ref k,q=>v8 (w6 (vY (show decide (k<m)=true from q)) h)
theorem zT{m n:Nat}(h:m<=n):∀(ds:List D),refsLts m ds=true->refsLts n ds=true
 |[],_=>rfl
 |d::ds,q=>by
  simp only[refsLts,wV]at q ⊢
  exact⟨qeB h d q.1,zT h ds q.2⟩
end
inductive SO where
 |lst (l:List D)
 |dic (l:List (List Int×D))
 |dis (l:List (Key×D))
noncomputable def keyT(k:List Int):List Key:=k.map Sum.inl
noncomputable def DGs{κ K:Type}(f:κ->K)(ι:List Addr)(H:Hp):List (κ×D)->List (K×V)->Prop
 |[],kvs=>kvs=[]
 |p::l,kvs=>∃v r,kvs=(f p.1,v)::r/\Den ι H p.2 v/\DGs f ι H l r
theorem DGs.mono{κ K:Type}{f:κ->K}{ι a:List Addr}{H H':Hp}(s:Stp ι H a H'):∀{l:List (κ×D)} {kvs:List (K×V)},DGs f ι H l kvs->DGs f a H' l kvs
 |[],_,h=>h
 |_::_,_,h=>let ⟨v,r,e,b,c⟩:=h;⟨v,r,e,Den.mono s _ b,DGs.mono s c⟩
theorem DGs.length{κ K:Type}{f:κ->K}{ι:List Addr}{H:Hp}:∀{l:List (κ×D)} {kvs:List (K×V)},DGs f ι H l kvs->l.length=kvs.length
 |[],_,h=>by cases (show _=[]from h);rfl
 |_::_,_,h=>by obtain⟨v,r,rfl,_,a⟩:=h;simp[DGs.length a]
theorem DGs.less{κ K:Type}{f:κ->K}{ι:List Addr}{H:Hp}{n:Nat}:∀{l:List (κ×D)} {kvs:List (K×V)},refsLts n (l.map (·.2))=true->DGs f ι H l kvs->DGs f (ι.take n) H l kvs
 |[],_,_,h=>h
 |_::_,_,r,h=>by
  obtain⟨v,t,e,a,b⟩:=h
  simp only[wR,refsLts,wV]at r
  exact⟨v,t,e,Den.less _ r.1 a,DGs.less r.2 b⟩
def SOk(ι:List Addr)(H:Hp)(a:Addr):SO->Prop
 | .lst ds=>(∃j,ι[j]?=some a/\refsLts j ds=true)/\∃xs,H a=some (.lst xs)/\Dens ι H ds xs
 | .dic l=>refsLts 0 (l.map (·.2))=true/\∃kvs,H a=some (.dT kvs)/\DGs keyT ι H l kvs
 | .dis l=>refsLts 0 (l.map (·.2))=true/\∃kvs,H a=some (.dK kvs)/\DGs id ι H l kvs
structure Sto (ι:List Addr) (H:Hp) (S:List SO):Prop where
 len:ι.length=S.length
 nd:ι.Nodup
 obj:∀(n:Nat) (a:Addr) (so:SO),ι[n]?=some a->S[n]?=some so->SOk ι H a so
theorem SOk.some{ι:List Addr}{H:Hp}{a:Addr}:∀{so:SO},SOk ι H a so->H a≠none
 | .lst _,⟨_,_,h,_⟩=>by rw[h];simp
 | .dic _,⟨_,_,h,_⟩=>by rw[h];simp
 | .dis _,⟨_,_,h,_⟩=>by rw[h];simp
theorem Sto.there{ι:List Addr}{H:Hp}{S:List SO}(s:Sto ι H S){a:Addr}(m:a∈ι):H a≠none:=by
 obtain⟨n,hn,e⟩:=v5 m
 have b:n<S.length:=by rw[<-s.len];exact hn
 exact(s.obj n a S[n] (by rw[wD hn,e]) (wD b)).some
theorem Sto.fresh{ι:List Addr}{H:Hp}{S:List SO}(s:Sto ι H S){a:Addr}(h:H a=none):a∉ι:=λm=>s.there m h
theorem SOk.mono{ι b:List Addr}{H H':Hp}(s:Stp ι H b H'){a:Addr}(c:H' a=H a):∀{so:SO},SOk ι H a so->SOk b H' a so
 | .lst ds,⟨⟨j,e,f⟩,xs,h,r⟩=>⟨⟨j,s.get e,f⟩,xs,by rw[c];exact h,Dens.mono s _ r⟩
 | .dic l,⟨f,vs,h,r⟩=>⟨f,vs,by rw[c];exact h,DGs.mono s r⟩
 | .dis l,⟨f,vs,h,r⟩=>⟨f,vs,by rw[c];exact h,DGs.mono s r⟩
theorem Stp.laid{ι:List Addr}{H:Hp}{p:Addr}(h:H p=none)(o:HO):Stp ι H ι (upd H p o) where
 pre:=uz _
 new:=λ_ m=>.inl m
 keep:=λa u e _ _=>by rw[qj (za e h)];exact e
 there:=λa e=>by
  by_cases z:a=p
  .subst z;rw[ql];simp
  .rw [qj z];exact e
theorem Sto.laid{ι:List Addr}{H:Hp}{S:List SO}(s:Sto ι H S){p:Addr}(h:H p=none)(o:HO):Sto ι (upd H p o) S where
 len:=s.len
 nd:=s.nd
 obj:=λn a so e1 b=>(s.obj n a so e1 b).mono (Stp.laid h o) (by
  rw[qj];intro z;subst z;exact s.there (wy e1) h)
theorem Stp.grow{ι:List Addr}{H:Hp}{p:Addr}(h:H p=none)(o:HO):Stp ι H (ι++[p]) (upd H p o) where
 pre:=List.prefix_append _ _
 new:=λa m=>by
  rcases wg.mp m with z|z
  .exact .inl z
  .rw [wM.mp z];exact .inr h
 keep:=(Stp.laid (ι:=ι) h o).keep
 there:=(Stp.laid (ι:=ι) h o).there
theorem Sto.grow{ι:List Addr}{H:Hp}{S:List SO}(s:Sto ι H S){p:Addr}(h:H p=none){o:HO}{so:SO}(k:SOk (ι++[p]) (upd H p o) p so):Sto (ι++[p]) (upd H p o) (S++[so]) where
 len:=by simp[s.len]
 nd:=by
  rw[uC]
  refine⟨s.nd,by simp,λa ha b d e=>?_⟩
  rw[wM.mp d]at e;subst e
  exact s.fresh h ha
 obj:=λn a x e1 c=>by
  by_cases hn:n<ι.length
  .rw [w5 hn]at e1
   rw[w5 (by rw[<-s.len];exact hn)]at c
   exact(s.obj n a x e1 c).mono (Stp.grow h o) (by
    rw[qj];intro z;subst z;exact s.there (wy e1) h)
  .rw [wn (by lia)]at e1
   rw[wn (by rw[<-s.len];lia)]at c
   have z:n-ι.length=0:=by
    have:=(wO.mp e1).1
    simp at this;lia
   rw[z]at e1
   rw[<-s.len,z]at c
   simp at e1 c
   subst e1 c
   exact k
theorem Stp.put{ι:List Addr}{H:Hp}{p:Addr}(m:p∈ι)(o:HO):Stp ι H ι (upd H p o) where
 pre:=uz _
 new:=λ_ m=>.inl m
 keep:=λa u e n _=>by rw[qj (λz=>n (by rw[z];exact m))];exact e
 there:=λa e=>by
  by_cases z:a=p
  .subst z;rw[ql];simp
  .rw [qj z];exact e
theorem zd{ι:List Addr}(c:ι.Nodup){i j:Nat}{x:Addr}(a:ι[i]?=some x)(b:ι[j]?=some x):i=j:=by
 obtain⟨e,e1⟩:=wO.mp a
 obtain⟨f,d⟩:=wO.mp b
 exact(xt c).mp (e1.trans d.symm)
theorem Sto.put{ι:List Addr}{H:Hp}{S:List SO}(s:Sto ι H S){n:Nat}{p:Addr}(b:ι[n]?=some p){o:HO}{so:SO}(k:SOk ι (upd H p o) p so):Sto ι (upd H p o) (S.set n so) where
 len:=by rw[List.length_set];exact s.len
 nd:=s.nd
 obj:=λj a x e1 c=>by
  by_cases d:j=n
  .subst d
   rw[b]at e1
   obtain rfl:=Option.some.inj e1
   have e:j<S.length:=by rw[<-s.len];exact(wO.mp b).1
   rw[vq e]at c
   obtain rfl:=Option.some.inj c
   exact k
  .rw [xE (Ne.symm d)]at c
   refine(s.obj j a x e1 c).mono (Stp.put (wy b) o) ?_
   rw[qj]
   intro z;subst z
   exact d (zd s.nd e1 b)
theorem Sto.less{ι:List Addr}{H:Hp}{S:List SO}(s:Sto ι H S)(n:Nat):Sto (ι.take n) H (S.take n) where
 len:=by rw[vE,vE,s.len]
 nd:=s.nd.sublist (List.take_sublist _ _)
 obj:=λj a so e1 b=>by
  have c:ι[j]?=some a:=by
   have:=(wO.mp e1).1
   rw[vE]at this
   rw[uc (by lia)]at e1;exact e1
  have d:S[j]?=some so:=by
   have:=(wO.mp b).1
   rw[vE]at this
   rw[uc (by lia)]at b;exact b
  have k:=s.obj j a so c d
  cases so with
  |lst ds =>
   obtain⟨⟨i,e,f⟩,xs,h,r⟩:=k
   have m:j<(ι.take n).length:=(wO.mp e1).1
   rw[vE]at m
   obtain rfl:i=j:=zd s.nd e c
   exact⟨⟨i,e1,f⟩,xs,h,Dens.less ds (zT (by lia) ds f) r⟩
  |dic l =>
   obtain⟨f,kvs,h,r⟩:=k
   exact⟨f,kvs,h,DGs.less (qL _ f) r⟩
  |dis l =>
   obtain⟨f,kvs,h,r⟩:=k
   exact⟨f,kvs,h,DGs.less (qL _ f) r⟩
theorem Stp.less{ι a:List Addr}{H H':Hp}(s:Stp ι H a H'):Stp ι H (a.take ι.length) H':=by
 have e:a.take ι.length=ι:=by
  obtain⟨t,rfl⟩:=s.pre
  simp
 rw[e]
 exact⟨uz _,λ_ m=>.inl m,s.keep,s.there⟩
theorem Stp.take_eq{ι a:List Addr}{H H':Hp}(s:Stp ι H a H'):a.take ι.length=ι:=by
 obtain⟨t,rfl⟩:=s.pre
 simp
end R
namespace R
open PySem PySem.Spec PyProof.Rows L2
noncomputable abbrev Sr:=List SO
noncomputable abbrev En:=List (Option D)
inductive Res (α:Type) where
 |ok (a:α) (S:Sr)|err (x:D) (S:Sr)|no
@[reducible] noncomputable def Res.bind{α β:Type}(r:Res α)(f:α->Sr->Res β):Res β:=match r with
 | .ok a S=>f a S
 | .err x S=>.err x S
 | .no=>.no
@[simp] theorem Res.bind_ok{α β:Type}(a:α)(S:Sr)(f:α->Sr->Res β):(Res.ok a S).bind f=f a S:=rfl
@[simp] theorem Res.bind_err{α β:Type}(x:D)(S:Sr)(f:α->Sr->Res β):(Res.err x S).bind f=.err x S:=rfl
@[simp] theorem Res.bind_no{α β:Type}(f:α->Sr->Res β):(Res.no:Res α).bind f=.no:=rfl
noncomputable def ofO{b:Type}(o:Option b)(S:Sr):Res b:=match o with
 |some a=>.ok a S
 |none=>.no
@[simp] theorem qld{α:Type}(a:α)(S:Sr):ofO (some a) S=.ok a S:=rfl
@[simp] theorem qle{α:Type}(S:Sr):(ofO none S:Res α)=.no:=rfl
inductive BOp where|add|sub|mul|fdiv|mod|pow|shl|shr|band
inductive COp where|eq|ne|lt|le|gt|ge|is|isn|inn|nin
inductive Ty where|int|bool|tuple|list|str|dict
noncomputable def Ty.nm:Ty->String
 | .int=>"int" | .bool=>"bool" | .tuple=>"tuple" | .list=>"list" | .str=>"str" | .dict=>"dict"
noncomputable def mulOk(a b:Int):Bool:=!((decide (Builtin.Int.intBits a>shortFactorBits)&&decide (Builtin.Int.intBits b>shortFactorBits)&&Builtin.Int.intTooBig (Builtin.Int.intBits a+Builtin.Int.intBits b)))
noncomputable def divOk(a b:Int):Bool:=!(b == 0)&&!(Builtin.divisionGoesByPylong a b)
noncomputable def lstOf(S:Sr):D->Option (List D)
 | .lst l=>some l
 | .ref n=>match S[n]? with|some (.lst l)=>some l|_=>none
 |_=>none
noncomputable def binI:BOp->Int->Int->Option Int
 | .add,i,j=>some (i+j)
 | .sub,i,j=>some (i-j)
 | .mul,i,j=>if mulOk i j then some (i*j)else none
 | .fdiv,i,j=>if divOk i j then some (i.fdiv j)else none
 | .mod,i,j=>if j=0 then none else some (i.fmod j)
 | .pow,i,j=>if 0<=j/\j<=1000000/\i.natAbs<2^64 then some (i^j.toNat)else none
 | .shl,i,j=>if 0<=j/\j<=1000000/\i.natAbs<2^64 then some (i*2^j.toNat)else none
 | .shr,i,j=>if 0<=j then some (i / 2^j.toNat)else none
 | .band,i,j=>some (Builtin.bitAnd i j)
noncomputable def catOk{c:Type}(a b:List c):Bool:=decide (a.length+b.length<=sizeLine)
noncomputable def repOk{b:Type}(a:List b)(k:Int):Bool:=decide (-(2^63)<=k/\k<2^63/\a.length*k.toNat<=sizeLine)
noncomputable def rep{b:Type}(a:List b)(k:Int):List b:=(List.replicate k.toNat a).flatten
noncomputable def binD(o:BOp)(x y:D)(S:Sr):Option D :=
 match x,y with
 | .int i,.int j=>(binI o i j).map .int
 | .str a,.str b=>match o with
  | .add=>if a.length+b.length<=sizeLine then some (.str (a++b))else none
  |_=>none
 | .tup a,.tup b=>match o with
  | .add=>if catOk a b then some (.tup (a++b))else none
  |_=>none
 | .tup a,.int k=>match o with
  | .mul=>if repOk a k then some (.tup (rep a k))else none
  |_=>none
 |x,.int k=>match o with
  | .mul=>match lstOf S x with
   |some a=>if repOk a k then some (.lst (rep a k))else none
   |none=>none
  |_=>none
 |x,y=>match o with
  | .add=>match lstOf S x,lstOf S y with
   |some a,some b=>if catOk a b then some (.lst (a++b))else none
   |_,_=>none
  |_=>none
noncomputable def eqL(f:D->D->Option Bool):List D->List D->Option Bool
 |[],[]=>some true
 |[],_::_=>some false
 |_::_,[]=>some false
 |a::r,b::t=>match f a b,eqL f r t with
  |some x,some y=>some (x&&y)
  |_,_=>none
noncomputable def eqD:Nat->D->D->Option Bool
 |0,_,_=>none
 |n+1,x,y=>match x,y with
  | .non,.non=>some true
  | .bl a,.bl b=>some (a == b)
  | .int a,.int b=>some (a == b)
  | .str a,.str b=>some (a == b)
  | .bl a,.int b=>some ((if a then 1 else 0) == b)
  | .int a,.bl b=>some (a == (if b then 1 else 0))
  | .tup a,.tup b=>eqL (eqD n) a b
  | .lst a,.lst b=>if a.length=b.length then eqL (eqD n) a b else some false
  | .emp,_=>none
  |_,.emp=>none
  | .ref _,_=>none
  |_,.ref _=>none
  |_,_=>some false
noncomputable def intsOf:List D->Option (List Int)
 |[]=>some []
 | .int i::r=>(intsOf r).map (i::·)
 |_=>none
noncomputable def flatD:D->Bool
 | .non|.bl _|.int _|.str _=>true
 |_=>false
noncomputable def eqF:D->D->Bool
 | .non,.non=>true
 | .bl a,.bl b=>decide (a=b)
 | .int i,.int j=>decide (i=j)
 | .bl a,.int j=>decide ((if a then 1 else 0)=j)
 | .int i,.bl b=>decide (i=(if b then 1 else 0))
 | .str a,.str b=>decide (a=b)
 |_,_=>false
noncomputable def inD(x:D)(l:List D):Option Bool:=if flatD x&&l.all flatD then some (l.any λy=>eqF y x)else none
noncomputable def seqOf(S:Sr):D->Option (List D)
 | .tup l=>some l
 |d=>lstOf S d
noncomputable def cmpD(o:COp)(x y:D)(S:Sr):Option Bool:=match o with
 | .eq=>eqD 20 x y
 | .ne=>(eqD 20 x y).map (!·)
 | .lt=>match x,y with
  | .int i,.int j=>some (decide (i<j))
  | .tup a,.tup b=>match intsOf a,intsOf b with
   |some m,some n=>some (HT.lexLt m n)
   |_,_=>none
  |_,_=>none
 | .le=>match x,y with|.int i,.int j=>some (decide (i<=j))|_,_=>none
 | .gt=>match x,y with|.int i,.int j=>some (decide (j<i))|_,_=>none
 | .ge=>match x,y with
  | .int i,.int j=>some (decide (j<=i))
  | .tup a,.tup b=>match intsOf a,intsOf b with
   |some m,some n=>some (!HT.lexLt m n)
   |_,_=>none
  |_,_=>none
 | .is=>match y with
  | .non=>some (match x with|.non=>true|_=>false)
  | .bl b=>match x with|.bl a=>some (a == b)|.non=>some false|_=>none
  |_=>none
 | .isn=>match y with
  | .non=>some (match x with|.non=>false|_=>true)
  | .bl b=>match x with|.bl a=>some (!(a == b))|.non=>some true|_=>none
  |_=>none
 | .inn=>(seqOf S y).bind (inD x)
 | .nin=>(seqOf S y).bind λl=>(inD x l).map (!·)
noncomputable def truD(S:Sr):D->Option Bool
 | .non=>some false
 | .bl b=>some b
 | .int i=>some (i != 0)
 | .str x=>if x.length<=sizeLine then some ((x.length:Int) != 0)else none
 | .tup l=>some (!l.isEmpty)
 | .emp=>some false
 |d=>(lstOf S d).map λl=>!l.isEmpty
noncomputable def isiD(S:Sr)(t:Ty):D->Option Bool
 | .non=>some false
 | .bl _=>some (match t with|.int=>true|.bool=>true|_=>false)
 | .int _=>some (match t with|.int=>true|_=>false)
 | .str _=>some (match t with|.str=>true|_=>false)
 | .tup _=>some (match t with|.tuple=>true|_=>false)
 | .lst _=>some (match t with|.list=>true|_=>false)
 | .emp=>some (match t with|.dict=>true|_=>false)
 | .ref n=>match S[n]? with
  |some (.lst _)=>some (match t with|.list=>true|_=>false)
  |some (.dic _)=>some (match t with|.dict=>true|_=>false)
  |some (.dis _)=>some (match t with|.dict=>true|_=>false)
  |none=>none
noncomputable def keyD:D->Option Key
 | .int i=>some (.inl i)
 | .str x=>some (.inr x)
 |_=>none
noncomputable def lookT{κ:Type}[DecidableEq κ](k:κ):List (κ×D)->Option D
 |[]=>none
 | (j,d)::r=>if j=k then some d else lookT k r
noncomputable def putT{κ:Type}[DecidableEq κ](k:κ)(d:D)(l:List (κ×D)):List (κ×D) :=
 if l.any (λp=>decide (p.1=k))then l.map (λp=>if p.1=k then(p.1,d)else p)else l++[(k,d)]
noncomputable def idxD(S:Sr)(x i:D):Option D:=match i with
 | .int k=>(seqOf S x).bind λl=>atI l k
 | .tup ks=>match x with
  | .ref n=>match S[n]? with
   |some (.dic l)=>(intsOf ks).bind λk=>lookT k l
   |_=>none
  |_=>none
 |_=>none
noncomputable def cutD(l:List D)(lo hi:Option Int):List D:=(l.drop (HT.sIx l.length 0 lo)).take (HT.sIx l.length l.length hi-HT.sIx l.length 0 lo)
noncomputable def slcD(S:Sr)(x:D)(lo hi:Option Int):Option D:=match x with
 | .tup l=>some (.tup (cutD l lo hi))
 |d=>(lstOf S d).map λl=>.lst (cutD l lo hi)
noncomputable def rngL(a b s:Int):List D:=(List.range ((b-a+s-1) / s).toNat).map λ(k:Nat)=>D.int (a+s*k)
noncomputable def insI(x:Int):List Int->List Int
 |[]=>[x]
 |y::r=>if x<=y then x::y::r else y::insI x r
noncomputable def sortI(l:List Int):List Int:=l.foldr insI []
noncomputable def insT(x:List Int):List (List Int)->List (List Int)
 |[]=>[x]
 |y::r=>if HT.lexLt y x then y::insT x r else x::y::r
noncomputable def sortT(l:List (List Int)):List (List Int):=l.foldr insT []
noncomputable def tupsOf:List D->Option (List (List Int))
 |[]=>some []
 | .tup a::r=>(intsOf a).bind λm=>(tupsOf r).map (m::·)
 |_=>none
noncomputable def tupI(m:List Int):D:=.tup (m.map .int)
noncomputable def sortL(l:List D):Option (List D) :=
 if l.length<64 then
  match intsOf l with
  |some ns=>some ((sortI ns).map .int)
  |none=>(tupsOf l).bind λts=>if ts.Nodup/\∀t∈ts,t≠[]then some ((sortT ts).map tupI)else none
 else none
noncomputable def walkD(S:Sr):D->Option (List D)
 | .lst l=>some l
 | .emp=>some []
 | .ref n=>match S[n]? with
  |some (.lst l)=>some l
  |some (.dic l)=>some (l.map λp=>tupI p.1)
  |_=>none
 |_=>none
inductive Blt where|len|abs|min2|max2|divmod|list (m:Bool)|tuple|sorted (m:Bool)|all|any|sum|str|int|sortp (m:Bool)|dict|sset (m:Bool)|dictL|sumT
noncomputable def newL(m:Bool)(l:List D)(S:Sr):Res D:=if m then(if refsLts 0 l then .ok (.ref S.length) (S++[.lst l])else .no)else .ok (.lst l) S
noncomputable def binM(o:BOp)(x y:D)(S:Sr):Res D:=match o with
 | .add=>match lstOf S x,lstOf S y with
  |some a,some b=>if catOk a b then newL true (a++b) S else .no
  |_,_=>.no
 | .mul=>match lstOf S x,y with
  |some a,.int k=>if repOk a k then newL true (rep a k) S else .no
  |_,_=>.no
 |_=>.no
noncomputable def lenD(S:Sr):D->Option Nat
 | .str x=>if x.length<=sizeLine then some x.length else none
 | .ref n=>match S[n]? with
  |some (.lst l)=>some l.length
  |some (.dic l)=>some l.length
  |some (.dis _)=>none
  |none=>none
 | .tup l=>some l.length
 | .lst l=>some l.length
 |_=>none
noncomputable def boolsOf:List D->Option (List Bool)
 |[]=>some []
 | .bl b::r=>(boolsOf r).map (b::·)
 |_=>none
noncomputable def one(f:D->Sr->Res D)(xs:List D)(S:Sr):Res D:=match xs with
 |[x]=>f x S
 |_=>.no
noncomputable def two(f:D->D->Sr->Res D)(xs:List D)(S:Sr):Res D:=match xs with
 |[x,y]=>f x y S
 |_=>.no
noncomputable def bLen(x:D)(S:Sr):Res D:=ofO ((lenD S x).map λn=>.int n) S
noncomputable def bAbs(x:D)(S:Sr):Res D:=match x with
 | .int i=>.ok (.int (if i<0 then -i else i)) S
 |_=>.no
noncomputable def bMin(x y:D)(S:Sr):Res D:=match x,y with
 | .int i,.int j=>.ok (.int (if j<i then j else i)) S
 |_,_=>.no
noncomputable def bMax(x y:D)(S:Sr):Res D:=match x,y with
 | .int i,.int j=>.ok (.int (if j>i then j else i)) S
 |_,_=>.no
noncomputable def bDivmod(x y:D)(S:Sr):Res D:=match x,y with
 | .int i,.int j=>if divOk i j then .ok (.tup [.int (i.fdiv j),.int (i.fmod j)]) S else .no
 |_,_=>.no
noncomputable def bList(m:Bool)(x:D)(S:Sr):Res D:=match seqOf S x with
 |some l=>newL m l S
 |none=>.no
noncomputable def bTuple(x:D)(S:Sr):Res D:=ofO ((seqOf S x).map .tup) S
noncomputable def bSorted(m:Bool)(x:D)(S:Sr):Res D:=match(walkD S x).bind sortL with
 |some l=>newL m l S
 |none=>.no
noncomputable def pairsD:List D->Option (List (List Int×Int))
 |[]=>some []
 | .tup [.tup a,.int i]::r=>(intsOf a).bind λm=>(pairsD r).map ((m,i)::·)
 |_=>none
noncomputable def pairD(p:List Int×Int):D:=.tup [tupI p.1,.int p.2]
noncomputable def atP(k:List Int):List (List Int×Int)->Int
 |[]=>0
 |p::r=>if p.1=k then p.2 else atP k r
noncomputable def sortP(ps:List (List Int×Int)):List (List Int×Int):=(sortT (ps.map (·.1))).map λk=>(k,atP k ps)
noncomputable def bSortp(m:Bool)(x:D)(S:Sr):Res D:=match(lstOf S x).bind pairsD with
 |some ps=>if ps.length<64/\(ps.map (·.1)).Nodup then newL m ((sortP ps).map pairD) S else .no
 |none=>.no
noncomputable def bAll(x:D)(S:Sr):Res D:=ofO (((seqOf S x).bind boolsOf).map λl=>.bl (l.all id)) S
noncomputable def bAny(x:D)(S:Sr):Res D:=ofO (((seqOf S x).bind boolsOf).map λl=>.bl (l.any id)) S
noncomputable def bSum(x:D)(S:Sr):Res D:=ofO (((seqOf S x).bind intsOf).map λl=>.int l.sum) S
noncomputable def bStr(x:D)(S:Sr):Res D:=match x with
 | .int i=>if i.natAbs.log2<1920 then .ok (.str (toString i)) S else .no
 |_=>.no
noncomputable def joinD(x y z:D):Option D:=match x,y,z with
 | .str a,.str b,.str c=>if a.length+b.length+c.length<=sizeLine then some (.str (a++b++c))else none
 |_,_,_=>none
noncomputable def bInt(x:D)(S:Sr):Res D:=match x with
 | .bl b=>.ok (.int (if b then 1 else 0)) S
 |_=>.no
noncomputable def pairsV:List D->Option (List (List Int×D))
 |[]=>some []
 | .tup [.tup a,v]::r=>if refsLt 0 v then(intsOf a).bind λm=>(pairsV r).map ((m,v)::·)else none
 |_=>none
noncomputable def dicL(ps:List (List Int×D)):List (List Int×D):=ps.foldl (λl p=>putT p.1 p.2 l) []
noncomputable def bDict(x:D)(S:Sr):Res D:=match x with
 | .tup l=>match pairsV l with
  |some ps=>.ok (.ref S.length) (S++[.dic (dicL ps)])
  |none=>.no
 |_=>.no
noncomputable def ddI(l:List Int):List Int:=l.foldl PyProof.Rows.step_dedup []
noncomputable def bSset(m:Bool)(x:D)(S:Sr):Res D:=match x with
 | .tup l=>match intsOf l with
  |some ns=>if ns.length<4000/\(ddI ns).length<64 then newL m ((sortI (ddI ns)).map .int) S else .no
  |none=>.no
 |_=>.no
noncomputable def bDictL(x:D)(S:Sr):Res D:=match x with
 | .lst l=>match pairsV l with
  |some ps=>.ok (.ref S.length) (S++[.dic (dicL ps)])
  |none=>.no
 |_=>.no
noncomputable def tupLs:List D->Option (List (List D))
 |[]=>some []
 | .tup a::r=>(tupLs r).map (a::·)
 |_=>none
noncomputable def bSumT(x y:D)(S:Sr):Res D:=match x,y with
 | .lst l,.tup []=>match tupLs l with
  |some ts=>if ts.flatten.length<=4000 then .ok (.tup ts.flatten) S else .no
  |none=>.no
 |_,_=>.no
noncomputable def bltD:Blt->List D->Sr->Res D
 | .len=>one bLen|.abs=>one bAbs|.min2=>two bMin|.max2=>two bMax|.divmod=>two bDivmod|.list m=>one (bList m)|.tuple=>one bTuple
 | .sorted m=>one (bSorted m)|.all=>one bAll|.any=>one bAny|.sum=>one bSum|.str=>one bStr|.int=>one bInt|.sortp m=>one (bSortp m)|.dict=>one bDict|.sset m=>one (bSset m)|.dictL=>one bDictL|.sumT=>two bSumT
noncomputable def walkF:D->Option (List D)
 | .tup l=>some l
 | .lst l=>some l
 |_=>none
inductive GW where|all|any|sum|tuple
mutual
inductive CE where
 |var (i:Nat)|cst (d:D)
 |bin (o:BOp) (a b:CE)|neg (a:CE)
 |cmp (o:COp) (a b:CE)|chain (o o':COp) (a b c:CE)
 |and (a b:CE)|or (a b:CE)|not (a:CE)|ife (c:CB) (a b:CE)
 |tup (es:CEs)|lst (m:Bool) (es:CEs)|dic (m:Bool)|dis|fmt (a:CE)|join3 (a b c:CE)
 |call (f:Nat) (es:CEs)|blt (b:Blt) (es:CEs)|isi (t:Ty) (a:CE)
 |popAt (o i:CE)|neF (a b:CE)|rem (o e:CE)|dcK (d:Int) (e:CE)|idk (a i:CE)|lls (e:CE)|app (o e:CE)|ext (o e:CE)|binM (o:BOp) (a b:CE)|get (o k e:CE)
 |idx (a i:CE)|slc (a:CE) (lo hi:CO)|rev (a:CE)
 |rng (k:Option Bool) (es:CEs)
 |lc (m:Bool) (fr:List Nat) (nt:Nat) (elt:CE) (tg:CT) (it:CI) (ifs:CBs)
 |lcR (m:Bool) (fr:List Nat) (nt:Nat) (elt:CE) (tg:CT) (e:CE) (ifs:CBs)
 |gen (w:GW) (fr:List Nat) (nt:Nat) (elt:CE) (tg:CT) (it:CI) (ifs:CBs)
 |lcX (m:Bool) (fr:List Nat) (nt:Nat) (elt:CE) (tg:CT) (e:CE) (ifs:CBs)
 |genX (w:GW) (fr:List Nat) (nt:Nat) (elt:CE) (tg:CT) (e:CE) (ifs:CBs)
inductive CEs where|nil|cons (e:CE) (r:CEs)
inductive CB where|val (e:CE)|and (a b:CB)|or (a b:CB)|not (a:CB)
inductive CBs where|nil|cons (e:CB) (r:CBs)
inductive CO where|none|some (e:CE)
inductive CI where|seq (e:CE)|rng (es:CEs)|zip (a b:CE)
inductive CT where|var (i:Nat)|tup (r:CTs)|sub (o i:CE)
inductive CTs where|nil|cons (t:CT) (r:CTs)
end
noncomputable abbrev Fs:=Nat->List D->Sr->Res D
noncomputable def varE(ρ:En)(i:Nat)(S:Sr):Res D:=match ρ[i]? with|some (some d)=>.ok d S|_=>.no
noncomputable def putN(S:Sr)(n:Nat)(i v:D):Option Sr:=match S[n]? with
 |some (.lst l)=>match i with
  | .int k=>(ixN l.length k).map λj=>S.set n (.lst (l.set j v))
  |_=>none
 |some (.dic l)=>match i with
  | .tup ks=>(intsOf ks).bind λk=>if l.length<1000 then some (S.set n (.dic (putT k v l)))else none
  |_=>none
 |some (.dis l)=>(keyD i).bind λk=>if l.length<1000 then some (S.set n (.dis (putT k v l)))else none
 |none=>none
noncomputable def putE(S:Sr)(o i v:D):Option Sr:=if refsLt 0 v then(match o with
 | .ref n=>putN S n i v
 |_=>none)else none
noncomputable def isLst(S:Sr):D->Bool
 | .ref n=>match S[n]? with|some (.lst _)=>true|_=>false
 |_=>false
noncomputable def isDic(S:Sr):D->Bool
 | .ref n=>match S[n]? with|some (.dic _)=>true|some (.dis _)=>true|_=>false
 |_=>false
noncomputable def getD(S:Sr)(x y z:D):Option D:=match x,y with
 | .ref n,.tup ks=>match S[n]? with
  |some (.dic l)=>(intsOf ks).map λk=>(lookT k l).getD z
  |_=>none
 | .ref n,.str t=>match S[n]? with
  |some (.dis l)=>some ((lookT (.inr t) l).getD z)
  |_=>none
 |_,_=>none
noncomputable def popD(S:Sr)(o i:D):Res D:=match o,i with
 | .ref n,.int k=>match S[n]? with
  |some (.lst l)=>if 0<=k/\k<2^62 then(match l[k.toNat]? with
   |some d=>.ok d (S.set n (.lst (l.eraseIdx k.toNat)))
   |none=>.no)else .no
  |_=>.no
 |_,_=>.no
noncomputable def appD(S:Sr)(o e:D):Res D:=match o with
 | .ref n=>match S[n]? with
  |some (.lst l)=>if l.length<sizeLine/\refsLt 0 e=true then .ok .non (S.set n (.lst (l++[e])))else .no
  |_=>.no
 |_=>.no
noncomputable def remD(S:Sr)(o i:D):Res D:=match o,i with
 | .ref n,.int k=>match S[n]? with
  |some (.lst l)=>match intsOf l with
   |some ns=>if k∈ns then .ok .non (S.set n (.lst ((ns.erase k).map .int)))else .no
   |none=>.no
  |_=>.no
 |_,_=>.no
noncomputable def neFD(S:Sr)(x y:D):Option Bool:=match x with
 | .ref n=>match S[n]? with
  |some (.lst l)=>if refsLt n y then(eqD 20 (.lst l) y).map (!·)else none
  |_=>none
 |_=>none
noncomputable def idkD(S:Sr)(x i:D):Option D:=match x with
 | .ref n=>match S[n]? with
  |some (.dis l)=>(keyD i).bind λk=>lookT k l
  |_=>none
 |_=>none
noncomputable def dcKL(d:Int)(ns:List Int):List (Key×D):=ns.foldl (λl k=>putT (.inl k:Key) (.int d) l) []
noncomputable def extD(S:Sr)(o e:D):Res D:=match o,e with
 | .ref n,.lst z=>match S[n]? with
  |some (.lst l)=>if l.length+z.length<=sizeLine/\refsLts 0 z=true then .ok .non (S.set n (.lst (l++z)))else .no
  |_=>.no
 |_,_=>.no
noncomputable def rngD:List D->Option (List D)
 |[.int b]=>if -(2^62)<=b/\b<2^62 then some (rngL 0 b 1)else none
 |[.int a,.int b]=>if -(2^62)<=a/\a<2^62/\-(2^62)<=b/\b<2^62 then some (rngL a b 1)else none
 |[.int a,.int b,.int s]=>if -(2^62)<=a/\a<2^62/\-(2^62)<=b/\b<2^62/\0<s/\s<2^62 then some (rngL a b s)else none
 |_=>none
noncomputable def frE(ρ:En)(fr:List Nat)(nt:Nat):En:=fr.map (λi=>(ρ[i]?).getD none)++List.replicate nt none
noncomputable def lcLoop(n:Nat)(bind:D->En->Sr->Res En)(test:En->Sr->Res Bool)(elt:En->Sr->Res D):List D->En->Sr->Res En
 |[],ρ,S=>.ok ρ S
 |d::r,ρ,S=>(bind d ρ S).bind λρ1 S1=>(test ρ1 S1).bind λb S2 =>
   if b then(elt ρ1 S2).bind λv a=>(appD a (.ref n) v).bind λ_ c=>lcLoop n bind test elt r ρ1 c
   else lcLoop n bind test elt r ρ1 S2
noncomputable def lcEnd(m:Bool)(n:Nat)(S:Sr):Res D :=
 if m then .ok (.ref n) S
 else if S.length=n+1 then(match S[n]? with
  |some (.lst l)=>.ok (.lst l) (S.take n)
  |_=>.no)else .no
def own(n:Nat)(l:List D)(S:Sr):Prop:=S[n]?=some (.lst l)
noncomputable def grd{a:Type}(gd:Sr->Prop)(S:Sr)(r:Res a):Res a:=@ite _ (gd S) (Classical.propDecidable _) r .no
theorem zq{a:Type}{gd:Sr->Prop}{S:Sr}(h:gd S)(r:Res a):grd gd S r=r:=wL h
theorem yd{a:Type}{gd:Sr->Prop}{S:Sr}(h:¬gd S)(r:Res a):grd gd S r=.no:=wK h
noncomputable def refX(x:D)(S:Sr):Option (List D×(Sr->Prop)):=match x with
 | .ref n=>match S[n]? with
  |some (.lst l)=>some (l,own n l)
  |_=>none
 | .tup l=>some (l,λ_=>True)
 | .lst l=>some (l,λ_=>True)
 |_=>none
noncomputable def refL(x:D)(S:Sr):Option (Nat×List D):=match x with
 | .ref n=>match S[n]? with
  |some (.lst l)=>some (n,l)
  |_=>none
 |_=>none
noncomputable def genLoop{a:Type}(bind:D->En->Sr->Res En)(test:En->Sr->Res Bool)(elt:En->Sr->Res D)(step:a->D->Option (a ⊕ D))(fin:a->Option D):List D->En->a->Sr->Res D
 |[],_,b,S=>ofO (fin b) S
 |d::r,ρ,b,S=>(bind d ρ S).bind λρ1 S1=>(test ρ1 S1).bind λt S2 =>
   if t then(elt ρ1 S2).bind λv c=>match step b v with
    |some (.inl b')=>genLoop bind test elt step fin r ρ1 b' c
    |some (.inr x)=>.ok x c
    |none=>.no
   else genLoop bind test elt step fin r ρ1 b S2
noncomputable def genLoopG{a:Type}(gd:Sr->Prop)(bind:D->En->Sr->Res En)(test:En->Sr->Res Bool)(elt:En->Sr->Res D)(step:a->D->Option (a ⊕ D))(fin:a->Option D):List D->En->a->Sr->Res D
 |[],_,b,S=>grd gd S (ofO (fin b) S)
 |d::r,ρ,b,S=>grd gd S ((bind d ρ S).bind λρ1 S1=>(test ρ1 S1).bind λt S2 =>
   if t then(elt ρ1 S2).bind λv c=>match step b v with
    |some (.inl b')=>genLoopG gd bind test elt step fin r ρ1 b' c
    |some (.inr x)=>.ok x c
    |none=>.no
   else genLoopG gd bind test elt step fin r ρ1 b S2)
theorem ye{a:Type}{bind:D->En->Sr->Res En}{test:En->Sr->Res Bool}{elt:En->Sr->Res D}{step:a->D->Option (a ⊕ D)}{fin:a->Option D}:∀(l:List D) (ρ:En) (b:a) (S:Sr),genLoopG (λ_=>True) bind test elt step fin l ρ b S=genLoop bind test elt step fin l ρ b S
 |[],_,_,_=>zq trivial _
 |d::r,ρ,b,S=>by
  unfold genLoopG genLoop
  rw[zq trivial]
  congr 1;funext ρ1 S1
  congr 1;funext t S2
  cases t
  .exact ye r ρ1 b S2
  .simp only[vd]
   congr 1;funext v S3
   cases step b v with
   |none=>rfl
   |some x=>cases x with
    |inl c=>exact ye r ρ1 c S3
    |inr x=>rfl
noncomputable def newLls(k:Nat)(S:Sr):Res D:=if k<=sizeLine then .ok (.ref (S.length+k)) (S++List.replicate k (.lst [])++[.lst ((List.range k).map λi=>.ref (S.length+i))])else .no
noncomputable def stepG(w:GW)(b:D)(v:D):Option (D ⊕ D):=match w,b,v with
 | .all,_,.bl true=>some (.inl .non)
 | .all,_,.bl false=>some (.inr (.bl false))
 | .any,_,.bl false=>some (.inl .non)
 | .any,_,.bl true=>some (.inr (.bl true))
 | .sum,.int i,.int j=>some (.inl (.int (i+j)))
 | .tuple,.tup l,v=>if l.length<sizeLine then some (.inl (.tup (l++[v])))else none
 |_,_,_=>none
noncomputable def startG:GW->D
 | .all=>.non|.any=>.non|.sum=>.int 0|.tuple=>.tup []
noncomputable def finG(w:GW)(b:D):Option D:=match w with
 | .all=>some (.bl true)
 | .any=>some (.bl false)
 | .sum=>some b
 | .tuple=>some b
mutual
noncomputable def ev(F:Fs):CE->En->Sr->Res D
 | .var i,ρ,S=>varE ρ i S
 | .cst d,_,S=>.ok d S
 | .bin o a b,ρ,S=>(ev F a ρ S).bind λx S1=>(ev F b ρ S1).bind λy S2=>ofO (binD o x y S2) S2
 | .neg a,ρ,S=>(ev F a ρ S).bind λx S1=>match x with|.int i=>.ok (.int (-i)) S1|_=>.no
 | .cmp o a b,ρ,S=>(ev F a ρ S).bind λx S1=>(ev F b ρ S1).bind λy S2=>ofO ((cmpD o x y S2).map .bl) S2
 | .chain o o' a b c,ρ,S=>(ev F a ρ S).bind λx S1=>(ev F b ρ S1).bind λy S2=>match cmpD o x y S2 with
  |some true=>(ev F c ρ S2).bind λz S3=>ofO ((cmpD o' y z S3).map .bl) S3
  |some false=>.ok (.bl false) S2
  |none=>.no
 | .and a b,ρ,S=>(ev F a ρ S).bind λx S1=>match x with
  | .bl true=>ev F b ρ S1
  | .bl false=>.ok (.bl false) S1
  |_=>.no
 | .or a b,ρ,S=>(ev F a ρ S).bind λx S1=>match x with
  | .bl true=>.ok (.bl true) S1
  | .bl false=>ev F b ρ S1
  |_=>.no
 | .not a,ρ,S=>(ev F a ρ S).bind λx S1=>match x with
  | .bl b=>.ok (.bl (!b)) S1
  |_=>.no
 | .ife c a b,ρ,S=>(tst F c ρ S).bind λt S1=>if t then ev F a ρ S1 else ev F b ρ S1
 | .tup es,ρ,S=>(evs F es ρ S).bind λl S1=>if l.length<=sizeLine then .ok (.tup l) S1 else .no
 | .lst m es,ρ,S=>(evs F es ρ S).bind λl S1=>if l.length<=sizeLine then newL m l S1 else .no
 | .dic m,_,S=>if m then .ok (.ref S.length) (S++[.dic []])else .ok .emp S
 | .dis,_,S=>.ok (.ref S.length) (S++[.dis []])
 | .fmt a,ρ,S=>(ev F a ρ S).bind λx S1=>bStr x S1
 | .join3 a b c,ρ,S=>(ev F a ρ S).bind λx S1=>(ev F b ρ S1).bind λy S2=>(ev F c ρ S2).bind λz S3=>ofO (joinD x y z) S3
 | .call f es,ρ,S=>(evs F es ρ S).bind λl S1=>F f l S1
 | .blt b es,ρ,S=>(evs F es ρ S).bind λl S1=>bltD b l S1
 | .isi t a,ρ,S=>(ev F a ρ S).bind λx S1=>ofO ((isiD S1 t x).map .bl) S1
 | .binM o a b,ρ,S=>(ev F a ρ S).bind λx S1=>(ev F b ρ S1).bind λy S2=>R.binM o x y S2
 | .popAt o i,ρ,S=>(ev F o ρ S).bind λx S1=>if isLst S1 x then(ev F i ρ S1).bind λy S2=>popD S2 x y else .no
 | .app o e,ρ,S=>(ev F o ρ S).bind λx S1=>if isLst S1 x then(ev F e ρ S1).bind λy S2=>appD S2 x y else .no
 | .ext o e,ρ,S=>(ev F o ρ S).bind λx S1=>if isLst S1 x then(ev F e ρ S1).bind λy S2=>extD S2 x y else .no
 | .get o k e,ρ,S=>(ev F o ρ S).bind λx S1=>if isDic S1 x then(ev F k ρ S1).bind λy S2=>(ev F e ρ S2).bind λz S3=>ofO (getD S3 x y z) S3 else .no
 | .idx a i,ρ,S=>(ev F a ρ S).bind λx S1=>(ev F i ρ S1).bind λy S2=>ofO (idxD S2 x y) S2
 | .slc a lo hi,ρ,S=>(ev F a ρ S).bind λx S1=>(evO F lo ρ S1).bind λl S2=>(evO F hi ρ S2).bind λh S3=>ofO (slcD S3 x l h) S3
 | .rev a,ρ,S=>(ev F a ρ S).bind λx S1=>match x with
  | .tup l=>.ok (.tup l.reverse) S1
  |_=>.no
 | .rng k es,ρ,S=>(evs F es ρ S).bind λl S1=>match rngD l with
  |some ds=>if ds.length<=1000000 then(match k with
   |some m=>newL m ds S1
   |none=>.ok (.tup ds) S1)else .no
  |none=>.no
 | .lc m fr nt elt tg it ifs,ρ,S=>(evI F it ρ S).bind λds S1 =>
   (lcLoop S1.length (λd ρ S=>asg F tg d ρ S) (λρ S=>tsts F ifs ρ S) (λρ S=>ev F elt ρ S) ds (frE ρ fr nt) (S1++[.lst []])).bind λ_ S2=>lcEnd m S1.length S2
 | .lcR m fr nt elt tg e ifs,ρ,S=>(ev F e ρ S).bind λx S1=>match refL x S1 with
  |some p=>(lcLoop S1.length (λd ρ S=>grd (own p.1 p.2) S (asg F tg d ρ S)) (λρ S=>tsts F ifs ρ S) (λρ S=>ev F elt ρ S) p.2 (frE ρ fr nt) (S1++[.lst []])).bind λ_ S2=>grd (own p.1 p.2) S2 (lcEnd m S1.length S2)
  |none=>.no
 | .lcX m fr nt elt tg e ifs,ρ,S=>(ev F e ρ S).bind λx S1=>match refX x S1 with
  |some p=>(lcLoop S1.length (λd ρ S=>grd p.2 S (asg F tg d ρ S)) (λρ S=>tsts F ifs ρ S) (λρ S=>ev F elt ρ S) p.1 (frE ρ fr nt) (S1++[.lst []])).bind λ_ S2=>grd p.2 S2 (lcEnd m S1.length S2)
  |none=>.no
 | .genX w fr nt elt tg e ifs,ρ,S=>(ev F e ρ S).bind λx S1=>match refX x S1 with
  |some p=>genLoopG p.2 (λd ρ S=>asg F tg d ρ S) (λρ S=>tsts F ifs ρ S) (λρ S=>ev F elt ρ S) (stepG w) (finG w) p.1 (frE ρ fr nt) (startG w) S1
  |none=>.no
 | .neF a b,ρ,S=>(ev F a ρ S).bind λx S1=>(ev F b ρ S1).bind λy S2=>ofO ((neFD S2 x y).map .bl) S2
 | .rem o i,ρ,S=>(ev F o ρ S).bind λx S1=>if isLst S1 x then(ev F i ρ S1).bind λy S2=>remD S2 x y else .no
 | .idk a i,ρ,S=>(ev F a ρ S).bind λx S1=>(ev F i ρ S1).bind λy S2=>ofO (idkD S2 x y) S2
 | .dcK d e,ρ,S=>(ev F e ρ S).bind λx S1=>match refX x S1 with
  |some p=>match intsOf p.1 with
   |some ns=>if ns.length<1000 then .ok (.ref S1.length) (S1++[.dis (dcKL d ns)])else .no
   |none=>.no
  |none=>.no
 | .lls e,ρ,S=>(ev F e ρ S).bind λx S1=>match x with
  | .tup l=>newLls l.length S1
  |_=>.no
 | .gen w fr nt elt tg it ifs,ρ,S=>(evI F it ρ S).bind λds S1 =>
   genLoop (λd ρ S=>asg F tg d ρ S) (λρ S=>tsts F ifs ρ S) (λρ S=>ev F elt ρ S) (stepG w) (finG w) ds (frE ρ fr nt) (startG w) S1
noncomputable def evs(F:Fs):CEs->En->Sr->Res (List D)
 | .nil,_,S=>.ok [] S
 | .cons e r,ρ,S=>(ev F e ρ S).bind λx S1=>(evs F r ρ S1).bind λl S2=>.ok (x::l) S2
noncomputable def evO(F:Fs):CO->En->Sr->Res (Option Int)
 | .none,_,S=>.ok none S
 | .some e,ρ,S=>(ev F e ρ S).bind λx S1=>match x with|.int i=>.ok (some i) S1|_=>.no
noncomputable def evI(F:Fs):CI->En->Sr->Res (List D)
 | .seq e,ρ,S=>(ev F e ρ S).bind λx S1=>match x with
  | .tup l=>.ok l S1
  | .lst l=>.ok l S1
  |_=>.no
 | .rng es,ρ,S=>(evs F es ρ S).bind λl S1=>ofO (rngD l) S1
 | .zip a b,ρ,S=>(ev F a ρ S).bind λx S1=>(ev F b ρ S1).bind λy S2=>match walkF x,walkF y with
  |some l,some m=>.ok ((l.zip m).map λp=>.tup [p.1,p.2]) S2
  |_,_=>.no
noncomputable def asg(F:Fs):CT->D->En->Sr->Res En
 | .var i,d,ρ,S=>.ok (ρ.set i (some d)) S
 | .tup r,d,ρ,S=>match d with
  | .tup l=>asgs F r l ρ S
  |_=>.no
 | .sub o i,d,ρ,S=>(ev F o ρ S).bind λx S1=>(ev F i ρ S1).bind λy S2=>match putE S2 x y d with
  |some S3=>.ok ρ S3
  |none=>.no
noncomputable def asgs(F:Fs):CTs->List D->En->Sr->Res En
 | .nil,l,ρ,S=>match l with|[]=>.ok ρ S|_=>.no
 | .cons t r,l,ρ,S=>match l with
  |d::m=>(asg F t d ρ S).bind λρ1 S1=>asgs F r m ρ1 S1
  |[]=>.no
noncomputable def tst(F:Fs):CB->En->Sr->Res Bool
 | .val e,ρ,S=>(ev F e ρ S).bind λx S1=>ofO (truD S1 x) S1
 | .and a b,ρ,S=>(tst F a ρ S).bind λt S1=>if t then tst F b ρ S1 else .ok false S1
 | .or a b,ρ,S=>(tst F a ρ S).bind λt S1=>if t then .ok true S1 else tst F b ρ S1
 | .not a,ρ,S=>(tst F a ρ S).bind λt S1=>.ok (!t) S1
noncomputable def tsts(F:Fs):CBs->En->Sr->Res Bool
 | .nil,_,S=>.ok true S
 | .cons e r,ρ,S=>(tst F e ρ S).bind λt S1=>if t then tsts F r ρ S1 else .ok false S1
end
mutual
inductive CS where
 |expr (e:CE)|ret (e:CE)|retN|set (t:CT) (e:CE)|par (i j:Nat) (a b:CE)
 |aug (i:Nat) (o:BOp) (e:CE)|augK (o i e:CE)
 |ifs (c:CB) (a b:CSs)|forS (t:CT) (it:CI) (body:CSs)|forR (t:CT) (e:CE) (body:CSs)|forX (t:CT) (e:CE) (body:CSs)|whileS (c:CB) (body:CSs)
 |pass|brk|cont|never
inductive CSs where|nil|cons (s:CS) (r:CSs)
end
inductive Fl where|nx (ρ:En)|bk (ρ:En)|ct (ρ:En)|rt (d:D)
noncomputable def forLoop(body:D->En->Sr->Res Fl):List D->En->Sr->Res Fl
 |[],ρ,S=>.ok (.nx ρ) S
 |d::r,ρ,S=>(body d ρ S).bind λf S1=>match f with
  | .nx ρ1=>forLoop body r ρ1 S1
  | .ct ρ1=>forLoop body r ρ1 S1
  | .bk ρ1=>.ok (.nx ρ1) S1
  | .rt d=>.ok (.rt d) S1
noncomputable def endG(gd:Sr->Prop)(r:Res Fl):Res Fl:=r.bind λf S=>match f with
 | .rt d=>.ok (.rt d) S
 |f=>grd gd S (.ok f S)
noncomputable def whileLoop(test:En->Sr->Res Bool)(body:En->Sr->Res Fl):Nat->En->Sr->Res Fl
 |0,_,_=>.no
 |n+1,ρ,S=>(test ρ S).bind λt S1=>if t then(body ρ S1).bind λf S2=>(match f with
   | .nx ρ1=>whileLoop test body n ρ1 S2
   | .ct ρ1=>whileLoop test body n ρ1 S2
   | .bk ρ1=>.ok (.nx ρ1) S2
   | .rt d=>.ok (.rt d) S2)
  else .ok (.nx ρ) S1
mutual
noncomputable def ex(F:Fs)(N:Nat):CS->En->Sr->Res Fl
 | .expr e,ρ,S=>(ev F e ρ S).bind λ_ S1=>.ok (.nx ρ) S1
 | .ret e,ρ,S=>(ev F e ρ S).bind λd S1=>.ok (.rt d) S1
 | .retN,_,S=>.ok (.rt .non) S
 | .set t e,ρ,S=>(ev F e ρ S).bind λd S1=>(asg F t d ρ S1).bind λρ1 S2=>.ok (.nx ρ1) S2
 | .par i j a b,ρ,S=>(ev F a ρ S).bind λx S1=>(ev F b ρ S1).bind λy S2=>.ok (.nx ((ρ.set i (some x)).set j (some y))) S2
 | .aug i o e,ρ,S=>(varE ρ i S).bind λx S0=>(ev F e ρ S0).bind λy S1=>match x,y with
  | .int a,.int b=>match o with
   | .add=>.ok (.nx (ρ.set i (some (.int (a+b))))) S1
   | .sub=>.ok (.nx (ρ.set i (some (.int (a-b))))) S1
   |_=>.no
  |_,_=>.no
 | .augK o i e,ρ,S=>(ev F o ρ S).bind λx S1=>(ev F i ρ S1).bind λy S2=>match idkD S2 x y with
  |some (.int a)=>(ev F e ρ S2).bind λz S3=>match z with
   | .int b=>match putE S3 x y (.int (a+b))with
    |some S4=>.ok (.nx ρ) S4
    |none=>.no
   |_=>.no
  |_=>.no
 | .ifs c a b,ρ,S=>(tst F c ρ S).bind λt S1=>if t then exs F N a ρ S1 else exs F N b ρ S1
 | .forS t it body,ρ,S=>(evI F it ρ S).bind λds S1=>forLoop (λd ρ S=>(asg F t d ρ S).bind λρ1 S1=>exs F N body ρ1 S1) ds ρ S1
 | .forX t e body,ρ,S=>(ev F e ρ S).bind λx S1=>match refX x S1 with
  |some p=>endG p.2 (forLoop (λd ρ S=>(grd p.2 S (asg F t d ρ S)).bind λρ1 S1=>exs F N body ρ1 S1) p.1 ρ S1)
  |none=>.no
 | .forR t e body,ρ,S=>(ev F e ρ S).bind λx S1=>match refL x S1 with
  |some p=>endG (own p.1 p.2) (forLoop (λd ρ S=>(grd (own p.1 p.2) S (asg F t d ρ S)).bind λρ1 S1=>exs F N body ρ1 S1) p.2 ρ S1)
  |none=>.no
 | .whileS c body,ρ,S=>whileLoop (λρ S=>tst F c ρ S) (λρ S=>exs F N body ρ S) N ρ S
 | .pass,ρ,S=>.ok (.nx ρ) S
 | .brk,ρ,S=>.ok (.bk ρ) S
 | .cont,ρ,S=>.ok (.ct ρ) S
 | .never,_,_=>.no
noncomputable def exs(F:Fs)(N:Nat):CSs->En->Sr->Res Fl
 | .nil,ρ,S=>.ok (.nx ρ) S
 | .cons s r,ρ,S=>(ex F N s ρ S).bind λf S1=>match f with
  | .nx ρ1=>exs F N r ρ1 S1
  |f=>.ok f S1
end
structure CF where
 np:Nat
 nn:Nat
 keeps:Bool
 body:CSs
mutual
noncomputable def frz(S:Sr)(n:Nat):D->Option D
 | .tup l=>(frzs S n l).map .tup
 | .lst l=>(frzs S n l).map .lst
 | .ref m=>if m<n then some (.ref m)else match S[m]? with
  |some (.lst l)=>if refsLts n l then some (.lst l)else none
  |_=>none
 | .non=>some .non|.bl b=>some (.bl b)|.int i=>some (.int i)|.str x=>some (.str x)|.emp=>some .emp
noncomputable def frzs(S:Sr)(n:Nat):List D->Option (List D)
 |[]=>some []
 |d::r=>match frz S n d,frzs S n r with
  |some d',some r'=>some (d'::r')
  |_,_=>none
end
noncomputable def leave(keeps:Bool)(n:Nat)(d:D)(S:Sr):Res D :=
 if keeps then .ok d S
 else if S.length=n then .ok d S
 else if refsLt n d then .ok d (S.take n)else match frz S n d with
  |some d'=>.ok d' (S.take n)
  |none=>.no
noncomputable def callC(F:Fs)(N:Nat)(c:CF)(l:List D)(S:Sr):Res D :=
 if l.length=c.np then
  (exs F N c.body (l.map some++List.replicate (c.nn-c.np) none) S).bind λf S1=>match f with
   | .nx _=>leave c.keeps S.length .non S1
   | .rt d=>leave c.keeps S.length d S1
   |_=>.no
 else .no
noncomputable def run(P:List CF)(N:Nat):Nat->Fs
 |0,_,_,_=>.no
 |k+1,f,l,S=>match P[f]? with
  |some c=>callC (run P N k) N c l S
  |none=>.no
end R
namespace R
open PySem PySem.Spec L2
open PyProof.Rows hiding St
structure EnR (ι:List Addr) (H:Hp) (ρ:En) (σ:St):Prop where
 len:ρ.length=σ.length
 get:∀(i:Nat) (d:D),ρ[i]?=some (some d)->∃v,σ[i]?=some (some v)/\Den ι H d v
theorem EnR.mono{ι c:List Addr}{H H':Hp}{ρ:En}{f:St}(e:EnR ι H ρ f)(s:Stp ι H c H'):EnR c H' ρ f :=
 ⟨e.len,λi d h=>let ⟨v,a,b⟩:=e.get i d h;⟨v,a,Den.mono s d b⟩⟩
theorem EnR.set{ι:List Addr}{H:Hp}{ρ:En}{a:St}(e:EnR ι H ρ a){i:Nat}{d:D}{v:V}(h:Den ι H d v):EnR ι H (ρ.set i (some d)) (a.set i (some v)):=by
 refine⟨by simp[e.len],λj x q=>?_⟩
 by_cases z:i=j
 .subst z
  have b:i<ρ.length:=by
   have:=(wO.mp q).1
   simpa using this
  rw[vq b]at q
  cases q
  exact⟨v,vq (by rw[<-e.len];exact b),h⟩
 .rw [xE z]at q ⊢
  exact e.get j x q
def Pst{d e:Type}(R:List Addr->Hp->d->e->Prop)(r:Res d)(ι:List Addr)(H:Hp)(Q:e->Hp->Prop):Prop:=match r with
 | .ok a f=>∀b c H',Stp ι H c H'->Sto c H' f->R c H' a b->Q b H'
 | .err _ _=>False
 | .no=>False
theorem Pst.from{e f:Type}{R:List Addr->Hp->e->f->Prop}{r:Res e}{ι c:List Addr}{H H':Hp}{Q:f->Hp->Prop}(h:Pst R r ι H Q)(s:Stp ι H c H'):Pst R r c H' Q:=by
 cases r with
 |ok a S=>exact λb d H2 t st q=>h b d H2 (s.trans t) st q
 |err=>exact h
 |no=>exact h
theorem Pst.bind{d i j l:Type}{R:List Addr->Hp->d->i->Prop}{m:List Addr->Hp->j->l->Prop}{r:Res d}{f:d->Sr->Res j}{ι:List Addr}{H:Hp}{Q:l->Hp->Prop}{K:i->Hp->Prop}(h:Pst m (r.bind f) ι H Q)(k:∀a n c H' b,Stp ι H c H'->Sto c H' n->R c H' a b->Pst m (f a n) c H' Q->K b H'):Pst R r ι H K:=by
 cases r with
 |ok a S=>exact λb e H2 t st q=>k a S e H2 b t st q (Pst.from h t)
 |err=>exact h
 |no=>exact h
theorem Pst.ofO{d e:Type}{R:List Addr->Hp->d->e->Prop}{o:Option d}{S:Sr}{ι:List Addr}{H:Hp}{Q:e->Hp->Prop}(h:Pst R (ofO o S) ι H Q)(st:Sto ι H S):∃a,o=some a/\∀b c H',Stp ι H c H'->Sto c H' S->R c H' a b->Q b H':=by
 cases o with
 |none=>exact h.elim
 |some a=>exact⟨a,rfl,h⟩
noncomputable def TG{a b:Type}(R:List Addr->Hp->a->b->Prop)(m:En->Sr->Res a):St->Hp->(b->Hp->Prop)->Prop:=λc H Q=>∃ι S ρ,EnR ι H ρ c/\Sto ι H S/\Pst R (m ρ S) ι H Q
noncomputable abbrev T(m:En->Sr->Res D):TE:=TG Den m
noncomputable abbrev TL(m:En->Sr->Res (List D)):TA:=TG Dens m
def EqR{c:Type}(_:List Addr)(_:Hp)(a b:c):Prop:=a=b
noncomputable abbrev TB(m:En->Sr->Res Bool):TT:=TG EqR m
noncomputable abbrev TOp(m:En->Sr->Res (Option Int)):TO:=TG EqR m
theorem TG.b1{d l n o:Type}{R:List Addr->Hp->d->l->Prop}{q:List Addr->Hp->n->o->Prop}{m:En->Sr->Res d}{f:En->d->Sr->Res n}{e:St}{H:Hp}{Q:o->Hp->Prop}{K:l->Hp->Prop}(h:TG q (λρ S=>(m ρ S).bind λa S1=>f ρ a S1) e H Q)(k:∀ι S ρ a b c,EnR ι c ρ e->Sto ι c S->R ι c a b->Pst q (f ρ a S) ι c Q->K b c):TG R m e H K:=by
 obtain⟨ι,S,ρ,r,st,h⟩:=h
 exact⟨ι,S,ρ,r,st,Pst.bind h λa u i H' b s j v p=>k i u ρ a b H' (r.mono s) j v p⟩
theorem Pst.tg{e l n o:Type}{R:List Addr->Hp->e->l->Prop}{q:List Addr->Hp->n->o->Prop}{m:En->Sr->Res e}{ρ:En}{S:Sr}{f:e->Sr->Res n}{ι:List Addr}{i:St}{H:Hp}{Q:o->Hp->Prop}{K:l->Hp->Prop}(h:Pst q ((m ρ S).bind f) ι H Q)(r:EnR ι H ρ i)(st:Sto ι H S)(k:∀a d c H' b,Stp ι H c H'->EnR c H' ρ i->Sto c H' d->R c H' a b->Pst q (f a d) c H' Q->K b H'):TG R m i H K :=
 ⟨ι,S,ρ,r,st,Pst.bind h λa d c H' b s j u p=>k a d c H' b s (r.mono s) j u p⟩
theorem PEimp{X:Cx}{e:Expr}{t t':TE}(h:PE X e t)(k:∀a H Q,t' a H Q->t a H Q):PE X e t':=λpins s a H Q I b=>h pins s a H Q I (k a H Q b)
theorem PTimp{X:Cx}{e:Expr}{t t':TT}(h:PT X e t)(k:∀a H Q,t' a H Q->t a H Q):PT X e t':=λpins s a H Q I b=>h pins s a H Q I (k a H Q b)
theorem PAimp{X:Cx}{e:List Expr}{t t':TA}(h:PA X e t)(k:∀a H Q,t' a H Q->t a H Q):PA X e t':=λpos pins s a H Q I b=>h pos pins s a H Q I (k a H Q b)
section
variable{ι:List Addr}{H:Hp}{S:Sr}{v:V}
theorem qY(st:Sto ι H S):∀{d:D} {l:List D},lstOf S d=some l->Den ι H d v->∃a xs,v=.ref a/\Rd H a (.lst xs)/\Dens ι H l xs
 | .lst b,l,h,hd=>by
  cases h
  obtain⟨a,xs,e,_,r,q⟩:=hd
  exact⟨a,xs,e,r,q⟩
 | .ref n,l,h,hd=>by
  obtain⟨a,e,ha⟩:=hd
  simp only[lstOf]at h
  split at h
  .rename_i b c
   cases h
   obtain⟨_,xs,f,i⟩:=st.obj n a _ ha c
   exact⟨a,xs,e,.inl f,i⟩
  .cases h
 | .non,_,h,_=>by cases h
 | .bl _,_,h,_=>by cases h
 | .int _,_,h,_=>by cases h
 | .str _,_,h,_=>by cases h
 | .tup _,_,h,_=>by cases h
 | .emp,_,h,_=>by cases h
theorem zm{m:Bool}{l:List D}{xs:List V}{Q:V->Hp->Prop}(st:Sto ι H S)(c:Dens ι H l xs)(h:Pst Den (newL m l S) ι H Q):∀p,H p=none->Q (.ref p) (upd H p (.lst xs)):=by
 intro p a
 unfold newL at h
 cases m with
 |true =>
  rw[wL rfl]at h
  by_cases b:refsLts 0 l=true
  .rw [wL b]at h
   have g:=Stp.grow (ι:=ι) a (.lst xs)
   have ep:(ι++[p])[ι.length]?=some p:=by simp
   refine h (.ref p) _ _ g (st.grow a ⟨⟨_,ep,qL l b⟩,xs,ql,Dens.mono g l c⟩) ⟨p,rfl,?_⟩
   rw[<-st.len];exact ep
  .rw [wK b]at h;exact h.elim
 |false =>
  have g:=Stp.laid (ι:=ι) a (.lst xs)
  exact h (.ref p) _ _ g (st.laid a _) ⟨p,xs,rfl,st.fresh a,.inl ql,Dens.mono g l c⟩
theorem qR{l:List D}{xs:List V}{Q:V->Hp->Prop}(st:Sto ι H S)(c:Dens ι H l xs)(h:∀v a H',Stp ι H a H'->Sto a H' S->Den a H' (.tup l) v->Q v H'):∀p,H p=none->Q (.ref p) (upd H p (.tup xs)):=by
 intro p b
 have g:=Stp.laid (ι:=ι) b (.tup xs)
 exact h (.ref p) _ _ g (st.laid b _) ⟨p,xs,rfl,st.fresh b,ql,Dens.mono g l c⟩
end
section
variable{X:Cx}
theorem qlf{i:Nat}{x:Str}{pos:Pos}(h:PE X (.Name x pos) (tVar i)):PE X (.Name x pos) (T λρ S=>varE ρ i S):=PEimp h λf H Q a=>by
 obtain⟨ι,S,ρ,b,st,p⟩:=a
 dsimp only[varE]at p
 split at p
 .rename_i d hd
  obtain⟨v,c,e⟩:=b.get i d hd
  exact⟨v,c,p v ι H (Stp.refl _ _) st e⟩
 .exact p.elim
theorem qdo{e:Expr}{d:D}{v:V}(h:PE X e (tC v))(hd:∀ι H,Den ι H d v):PE X e (T λ_ S=>.ok d S):=PEimp h λb H Q a=>by
 obtain⟨ι,S,ρ,c,st,p⟩:=a
 exact p v ι H (Stp.refl _ _) st (hd ι H)
theorem qjO{e:Expr}{d:D}{v:V}(h:PE X e (λ_ H Q=>Q v H))(hd:∀ι H,Den ι H d v):PE X e (T λ_ S=>.ok d S):=qdo h hd
theorem qlg:PA X [] (TL λ_ S=>.ok [] S):=PAimp qcu λb H Q a=>by
 obtain⟨ι,S,ρ,c,st,p⟩:=a
 exact p [] ι H (Stp.refl _ _) st rfl
theorem qjP{e:Expr}{es:List Expr}{m:En->Sr->Res D}{f:En->Sr->Res (List D)}(h:PE X e (T m))(i:PA X es (TL f))(j:starEach (e::es) X.env=(false,eval e X.env)::starEach es X.env):
  PA X (e::es) (TL λρ S=>(m ρ S).bind λx S1=>(f ρ S1).bind λl S2=>.ok (x::l) S2):=PAimp (js h i j) λv H Q n=>by
 refine TG.b1 n λι S ρ a b w o st q p=>Pst.tg p o st λl S2 c H2 xs s2 r d s u=>?_
 exact u _ c H2 (Stp.refl _ _) d ⟨b,xs,rfl,Den.mono s2 a q,s⟩
noncomputable def G2(g:D->D->Sr->Res D):R2:=λx y H Q=>∃ι S dx a,Sto ι H S/\Den ι H dx x/\Den ι H a y/\Pst Den (g dx a S) ι H Q
theorem T2{f mb:En->Sr->Res D}{g:D->D->Sr->Res D}{i:St}{H:Hp}{Q:VK}(h:T (λρ S=>(f ρ S).bind λx S1=>(mb ρ S1).bind λy S2=>g x y S2) i H Q):tOp (G2 g) (T f) (T mb) i H Q :=
 TG.b1 h λι S ρ a b q j st l p=>Pst.tg p j st λm S2 c H2 b2 s2 n d e o=>⟨c,S2,a,m,d,Den.mono s2 a l,e,o⟩
theorem qlh{a b:Expr}{op:Operator}{pos:Pos}{c mb:En->Sr->Res D}{g:D->D->Sr->Res D}(d:OpR X (binaryOp op) (G2 g))(ha:PE X a (T c))(e:PE X b (T mb)):
  PE X (.BinOp a op b pos) (T λρ S=>(c ρ S).bind λx S1=>(mb ρ S1).bind λy S2=>g x y S2):=PEimp (qk4 d ha e) λf H Q=>T2
theorem qli{a b:Expr}{op:CmpOp}{pos:Pos}{c mb:En->Sr->Res D}{g:D->D->Sr->Res D}(d:OpR X (compareOp op) (G2 g))(ha:PE X a (T c))(e:PE X b (T mb))(hm:behindInMarks op b=false):
  PE X (.Compare a [op] [b] pos) (T λρ S=>(c ρ S).bind λx S1=>(mb ρ S1).bind λy S2=>g x y S2):=PEimp (qhC d ha e hm) λf H Q=>T2
theorem qcJ{pins:List (Addr×Obj)}{a:St}{H:Hp}{s:Shared}{l:Addr}{xs:List V}(I:Inv X pins a H s)(b:Rd H l (.lst xs)):xs.length<=sizeLine/\∃(its:List Value) (n:Nat),Vals xs its/\xs.length=its.length/\s.heap.get? l=some {cls:=.type "list",data:=.seq its.toArray n}:=by
 obtain⟨z,its,n,r,e⟩:=b.ok I.hok
 exact⟨z,its,n,r,r.length,e⟩
theorem qhT:OpR X (binaryOp .Add) (λx y H Q=>∃l b xs c,x=.ref l/\y=.ref b/\Rd H l (.lst xs)/\Rd H b (.lst c)/\xs.length+c.length<=sizeLine/\∀p,H p=none->Q (.ref p) (upd H p (.lst (xs++c)))):=by
 intro pins s A H x y v u Q I rx d h
 obtain⟨l,b,xs,c,rfl,rfl,f,i,hz,q⟩:=h
 cases rx
 cases d
 obtain⟨z,its,n,r,B,e⟩:=qcJ I f
 obtain⟨C,a,E,j,m,o⟩:=qcJ I i
 refine PySem.P.add_list e o ?_ (by rw[wJ,wJ];lia)
 have w:its.toArray++a.toArray=(its++a).toArray:=by simp
 rw[w]
 exact⟨.ref _,_,I.lnew (t':=s.toks) (r.append j) (by rw[we];lia),rfl,q _ I.fresh⟩
theorem qhU:OpR X (binaryOp .Mult) (λx y H Q=>∃l k xs,x=.ref l/\y=.int k/\Rd H l (.lst xs)/\-(2^63)<=k/\k<2^63/\xs.length*k.toNat<=sizeLine /\
 ∀p,H p=none->Q (.ref p) (upd H p (.lst (List.replicate k.toNat xs).flatten))):=by
 intro pins s K H x y v u Q I rx w h
 obtain⟨l,k,xs,rfl,rfl,A,B,C,hz,q⟩:=h
 cases rx
 obtain⟨t,rfl⟩:=w
 obtain⟨z,its,n,r,E,e⟩:=qcJ I A
 have c:its.toArray.size*k.toNat<=sizeLine:=by rw[wJ,<-E];exact hz
 have d:¬its.toArray.size*k.toNat>(2^63-1) / 8:=by
  have:(sizeLine:Nat)<=(2^63-1) / 8:=by decide
  lia
 have f:¬(!Builtin.List.listFitsIndex k)=true:=by
  rw[fitsIndex_both B C]
  exact wY
 have b:¬Builtin.List.listTooLong (its.toArray.size*k.toNat)=true:=by
  rw[notLongL c]
  exact wY
 have i:List.foldl (λj o=>j++o) #[] (List.replicate (if its.toArray.isEmpty=true then 0 else k.toNat) its.toArray)=(List.replicate k.toNat its).flatten.toArray:=by
  have J:∀m:Nat,List.foldl (λj o=>j++o) #[] (List.replicate m its.toArray)=(List.replicate m its).flatten.toArray:=λm=>by
   have:=y9 its m []
   rw[List.nil_append]at this
   exact this
  rw[J]
  cases its with
  |nil=>simp
  |cons a L=>rw[wK (by simp)]
 refine wpAny_binaryOp_repeat_ref (T:="list") (U:="int") (by decide) ⟨_,e,rfl⟩ (λs'=>xI s' k t) noFill_list_mul F.fills_int_mul gA repeat_list F.slot_int_index.lookup
  (gB gA (xI s k t) F.entry_int_rmul (F.args_int_rmul_2 _ _) (int___rmul___int_list k t l its.toArray n)
   ⟨e,rfl,⟨_,e,rfl⟩,gB F.slot_list_mul ⟨_,e,rfl⟩ F.entry_list_mul (F.args_list_mul_2 _ _) (AutoListH.list___mul___list_int_3 l its.toArray n k t f d b) ⟨e,?_⟩⟩)
 rw[i]
 exact⟨.ref _,_,I.lnew (t':=s.toks) (r.rep k.toNat) (by rw[qaQ,Nat.mul_comm];exact hz),rfl,q _ I.fresh⟩
noncomputable def opOf:BOp->Operator
 | .add=>.Add|.sub=>.Sub|.mul=>.Mult|.fdiv=>.FloorDiv|.mod=>.Mod|.pow=>.Pow|.shl=>.LShift|.shr=>.RShift|.band=>.BitAnd
theorem qjQ(o:BOp):OpR X (binaryOp (opOf o)) (λx y H Q=>∃i j r,x=.int i/\y=.int j/\binI o i j=some r/\Q (.int r) H):=by
 intro pins s b H x y v u Q I rx c h
 obtain⟨i,j,r,rfl,rfl,e,q⟩:=h
 have fin:∀{a:Int} {t:Tok} {tk:Nat},r=a->EP X pins b Q (.int a t) {s with toks:=tk}:=λ{a t tk} z=>by subst z;exact⟨.int r,H,I.tok _,⟨_,rfl⟩,q⟩
 obtain⟨d,rfl⟩:=rx
 obtain⟨f,rfl⟩:=c
 cases o with
 |add=>exact add_int (fin (by cases e;rfl))
 |sub=>exact sub_int (fin (by cases e;rfl))
 |mul =>
  simp only[binI]at e
  split at e
  .rename_i hm
   exact mul_int (fin (by cases e;rfl)) (by unfold mulOk at hm;unfold IntMulOk;intro z;rw[z]at hm;exact absurd hm (by decide))
  .cases e
 |fdiv =>
  simp only[binI]at e
  split at e
  .rename_i hm
   simp only[divOk,wV,u3,vC]at hm
   exact floordiv_int hm.1 (fin (by cases e;rfl)) (.inl hm.2)
  .cases e
 |mod =>
  simp only[binI]at e
  split at e
  .cases e
  .rename_i hm
   exact mod_int' hm (fin (by cases e;rfl))
 |pow =>
  simp only[binI]at e
  split at e
  .rename_i hm
   exact pow_int_small hm.1 hm.2.1 hm.2.2 (fin (by cases e;rfl))
  .cases e
 |shl =>
  simp only[binI]at e
  split at e
  .rename_i hm
   exact lshift_int_small hm.1 hm.2.1 hm.2.2 (fin (by cases e;rfl))
  .cases e
 |shr =>
  simp only[binI]at e
  split at e
  .rename_i hm
   exact qjy pins s b H (.int i) (.int j) _ _ Q I ⟨d,rfl⟩ ⟨f,rfl⟩ ⟨i,j,rfl,rfl,hm,by cases e;exact q⟩
  .cases e
 |band=>exact and_int (fin (by cases e;rfl))
end
end R
namespace R
open PySem PySem.Spec L2 SeqAt
open PyProof.Rows hiding St
theorem qbK{f:D->D->Option Bool}:∀{a b:List D} {r:Bool},eqL f a b=some r ->
  (∀(j:Nat) (x y:D),a[j]?=some x->b[j]?=some y->∃c,f x y=some c) /\
  r=((List.range (min a.length b.length)).all (λj=>match a[j]?,b[j]? with|some x,some y=>(f x y).getD false|_,_=>false)&&a.length == b.length)
 |[],[],r,h=>by cases h;exact⟨λj x y h _=>by simp at h,by simp⟩
 |[],_::_,r,h=>by cases h;exact⟨λj x y h _=>by simp at h,by simp⟩
 |_::_,[],r,h=>by cases h;exact⟨λj x y _ h=>by simp at h,by simp⟩
 |a::p,b::q,r,h=>by
  simp only[eqL]at h
  split at h
  .rename_i x y hx m
   obtain⟨d,i⟩:=qbK m
   cases h
   refine⟨λj z w hz l=>?_,?_⟩
   .cases j with
    |zero=>simp at hz l;subst hz l;exact⟨x,hx⟩
    |succ j=>exact d j z w (by simpa using hz) (by simpa using l)
   .have e:min (a::p).length (b::q).length=min p.length q.length+1:=by simp only[wX];lia
    rw[e,List.range_succ_eq_map,xH,List.all_map]
    simp only[ws,hx,Option.getD_some]
    rw[i,Bool.and_assoc]
    congr 1
    congr 1
    simp only[wX]
    rw[uj,uB,uB];lia
  .cases h
section
variable{ι:List Addr}{H:Hp}
theorem jH{a:Addr}{xs ys:List V}(h:H a=some (.tup xs))(k:Rd H a (.lst ys)):False:=by
 rcases k with k|⟨o,k⟩ <;> (rw[h]at k;cases k)
theorem rd_inj{a:Addr}{xs ys:List V}(h:Rd H a (.lst xs))(k:Rd H a (.lst ys)):xs=ys:=by
 rcases h with h|⟨o,h⟩ <;> rcases k with k|⟨o',k⟩ <;> (rw[h]at k;first|(cases k;done)|(cases k;rfl))
theorem jI{f:D->D->Option Bool}(c:∀x y v b,Den ι H x v->Den ι H y v->f x y=some b->b=true):∀{a b:List D} {xs:List V} {r:Bool},Dens ι H a xs->Dens ι H b xs->eqL f a b=some r->r=true
 |[],[],_,r,_,_,h=>by cases h;rfl
 |[],_::_,_,r,h1,h2,h=>by
  cases (show _=[]from h1)
  obtain⟨x,r,e,_⟩:=h2
  cases e
 |_::_,[],_,r,h1,h2,h=>by
  cases (show _=[]from h2)
  obtain⟨x,r,e,_⟩:=h1
  cases e
 |a::p,b::q,_,r,h1,h2,h=>by
  obtain⟨x,t,rfl,d1,e1⟩:=h1
  obtain⟨j,t',e,d2,d⟩:=h2
  cases e
  simp only[eqL]at h
  split at h
  .rename_i y z i hz
   cases h
   rw[c a b x y d1 d2 i,jI c e1 d hz]
   all_goals rfl
  .cases h
theorem jJ:∀(n:Nat) (x y:D) (v:V) (b:Bool),Den ι H x v->Den ι H y v->eqD n x y=some b->b=true
 |0,_,_,_,_,_,_,h=>by cases h
 |n+1,x,y,v,b,hx,hy,h=>by
  cases x <;> cases y <;> simp only[eqD,Den]at h hx hy <;> first
   | (cases h;rfl)
   | (cases h;subst hx;first|(cases hy;done)|(cases hy;simp;done))
   | (obtain⟨a,xs,rfl,_⟩:=hx;cases hy;done)
   | (obtain⟨a,xs,rfl,_⟩:=hy;cases hx;done)
   | (obtain⟨a,rfl,_⟩:=hx;cases h;done)
   | (obtain⟨a,rfl,_⟩:=hy;cases h;done)
   | (obtain⟨a,xs,rfl,_,ha,r⟩:=hx
      obtain⟨j,f,e,_,c,d⟩:=hy
      cases e
      first
        | (rw[ha]at c;cases c;exact jI (λx y v b=>jJ n x y v b) r d h)
        | (cases rd_inj ha c
           have i:_=_:=r.length.trans d.length.symm
           rw[wL i]at h
           exact jI (λx y v b=>jJ n x y v b) r d h)
        |exact(jH ha c).elim
        |exact(jH c ha).elim)
end
section
variable{X:Cx}{pins:List (Addr×Obj)}{σ:St}{H:Hp}{s:Shared}{ι:List Addr}
theorem Vals.at{xs:List V}{us:List Value}(r:Vals xs us){j:Nat}(h:j<us.length):∃x,xs[j]?=some x/\RelV x us[j]:=by
 have c:=r.length
 obtain⟨u,a,b⟩:=r.get (i:=j) (x:=xs[j]'(by lia)) (wD (by lia))
 rw[wD h]at a
 cases a
 exact⟨_,wD (by lia),b⟩
theorem Dens.at{ds:List D}{xs:List V}{j:Nat}{x:V}(h:Dens ι H ds xs)(e:xs[j]?=some x):∃d,ds[j]?=some d/\Den ι H d x:=by
 have c:=h.length
 have f:=(wO.mp e).1
 obtain⟨y,a,b⟩:=h.get (i:=j) (d:=ds[j]'(by lia)) (wD (by lia))
 rw[e]at a;cases a
 exact⟨_,wD (by lia),b⟩
theorem yf(I:Inv X pins σ H s){a:Addr}{xs:List V}(h:H a=some (.tup xs)):∃its:List Value,Vals xs its/\IsTup s.heap a its.toArray/\xs.length<=sizeLine:=by
 obtain⟨z,its,r,p,_⟩:=I.hok a _ h
 exact⟨its,r,p,z⟩
theorem jK(I:Inv X pins σ H s){a:Addr}{xs:List V}(h:Rd H a (.lst xs)):∃its:List Value,Vals xs its/\s.heap.IsList a its.toArray/\xs.length<=sizeLine:=by
 obtain⟨z,its,n,r,e⟩:=h.ok I.hok
 exact⟨its,r,⟨_,e,rfl,n,rfl⟩,z⟩
def EqAll(A:Around)(s:Shared)(v u:Value)(b:Bool):Prop:=RcAt A s v u b/\RcNeAt A s v u (!b)/\EqAt A s v u b
theorem yD{v:V}{i:Int}{u:Value}(h:Den ι H (.int i) v)(r:RelV v u):∃t,u=.int i t:=by cases (show v=_ from h);exact r
theorem yE{v:V}{i:Str}{u:Value}(h:Den ι H (.str i) v)(r:RelV v u):∃t,u=.str i t:=by cases (show v=_ from h);exact r
theorem vs_bl{v:V}{i:Bool}{u:Value}(h:Den ι H (.bl i) v)(r:RelV v u):u=.bool i:=by cases (show v=_ from h);exact r
theorem vs_non{v:V}{u:Value}(h:Den ι H .non v)(r:RelV v u):u=.none:=by cases (show v=_ from h);exact r
theorem yF(I:Inv X pins σ H s){v:V}{l:List D}{u:Value}(h:Den ι H (.tup l) v)(r:RelV v u):∃a its xs,v=.ref a/\u=.ref a/\Vals xs its/\Dens ι H l xs/\s.heap.IsTuple a its.toArray/\H a=some (.tup xs):=by
 obtain⟨a,xs,rfl,_,ha,d⟩:=h
 cases r
 obtain⟨its,b,p,_⟩:=yf I ha
 exact⟨a,its,xs,rfl,rfl,b,d,p,ha⟩
theorem yG(I:Inv X pins σ H s){v:V}{l:List D}{u:Value}(h:Den ι H (.lst l) v)(r:RelV v u):∃a its xs,v=.ref a/\u=.ref a/\Vals xs its/\Dens ι H l xs/\s.heap.IsList a its.toArray/\Rd H a (.lst xs):=by
 obtain⟨a,xs,rfl,_,ha,d⟩:=h
 cases r
 obtain⟨its,b,p,_⟩:=jK I ha
 exact⟨a,its,xs,rfl,rfl,b,d,p,ha⟩
theorem qfA{f:D->D->Option Bool}{A:Around}{a b:List D}{xs ys:List V}{its d:List Value}{r:Bool}(K:∀x y c v u i l,f x y=some c->Den ι H x v->Den ι H y u->RelV v i->RelV u l->EqAt A s i l c)(h:eqL f a b=some r)(m:Dens ι H a xs)(n:Dens ι H b ys)(o:Vals xs its)(p:Vals ys d):
  ∃e:Nat->Bool,(∀j (q:j<its.toArray.size) (w:j<d.toArray.size),EqAt A s its.toArray[j] d.toArray[j] (e j))/\r=((List.range (min its.toArray.size d.toArray.size)).all e&&its.toArray.size == d.toArray.size) /\
   a.length=its.length/\b.length=d.length:=by
 obtain⟨q,w⟩:=qbK h
 have z:a.length=its.length:=m.length.trans o.length
 have B:b.length=d.length:=n.length.trans p.length
 refine⟨_,λj C E=>?_,by rw[wJ,wJ,<-z,<-B];exact w,z,B⟩
 simp only[wJ]at C E
 obtain⟨x,e1,L⟩:=Vals.at o C
 obtain⟨y,M,N⟩:=Vals.at p E
 obtain⟨d1,F,O⟩:=m.at e1
 obtain⟨d2,I,P⟩:=n.at M
 obtain⟨c,J⟩:=q j d1 d2 F I
 simp only[F,I,J,Option.getD_some,gD]
 exact K d1 d2 c x y _ _ J O P L N
theorem qcK(I:Inv X pins σ H s):∀(n:Nat) (A:Around) (x y:D) (b:Bool) (v u:V) (m o:Value),eqD n x y=some b->Den ι H x v->Den ι H y u->RelV v m->RelV u o->A.units+n<cLine->EqAll A s m o b
 |0,_,_,_,_,_,_,_,_,h,_,_,_,_,_=>by cases h
 |n+1,A,x,y,b,v,u,m,o,h,hx,hy,rx,ry,hu=>by
  have f:A.units<cLine:=by lia
  have q:=jJ (ι:=ι) (H:=H) (n+1) x y
  have M:∀x y c v u m o,eqD n x y=some c->Den ι H x v->Den ι H y u->RelV v m->RelV u o->EqAt A.in1 s m o c:=λx y c v u m o P Q S U W =>
   (qcK I n A.in1 x y c v u m o P Q S U W (by show A.units+1+n<cLine;lia)).2.2
  cases x with
  |ref k=>cases y <;> cases h
  |emp=>cases y <;> cases h
  |non =>
   cases vs_non hx rx
   cases y with
   |ref k=>cases h
   |emp=>cases h
   |non=>cases vs_non hy ry;cases h;exact⟨RcAt.none_none,RcNeAt.none_none,EqAt.same _⟩
   |bl c=>cases vs_bl hy ry;cases h;exact⟨RcAt.none_bool _,RcNeAt.none_bool _,EqAt.none_bool _⟩
   |int c=>obtain⟨t,rfl⟩:=yD hy ry;cases h;exact⟨RcAt.none_int _ _,RcNeAt.none_int _ _,EqAt.none_int _ _⟩
   |str c=>obtain⟨t,rfl⟩:=yE hy ry;cases h;exact⟨RcAt.none_str _ _,RcNeAt.none_str _ _,EqAt.none_str _ _⟩
   |tup l=>obtain⟨a,its,xs,_,rfl,_,_,p,_⟩:=yF I hy ry;cases h;exact⟨RcAt.none_tuple p f,RcNeAt.none_tuple p f,EqAt.none_tuple p f⟩
   |lst l=>obtain⟨a,its,xs,_,rfl,_,_,p,_⟩:=yG I hy ry;cases h;exact⟨RcAt.none_list p f,RcNeAt.none_list p f,EqAt.none_list p f⟩
  |bl d =>
   cases vs_bl hx rx
   cases y with
   |ref k=>cases h
   |emp=>cases h
   |non=>cases vs_non hy ry;cases h;exact⟨RcAt.bool_none _,RcNeAt.bool_none _,EqAt.bool_none _⟩
   |bl c=>cases vs_bl hy ry;cases h;exact⟨RcAt.bool_bool _ _,RcNeAt.bool_bool _ _,EqAt.bool_bool _ _⟩
   |int c=>obtain⟨t,rfl⟩:=yD hy ry;cases h;exact⟨RcAt.bool_int _ _ _,RcNeAt.bool_int _ _ _,EqAt.bool_int _ _ _⟩
   |str c=>obtain⟨t,rfl⟩:=yE hy ry;cases h;exact⟨RcAt.bool_str _ _ _,RcNeAt.bool_str _ _ _,EqAt.bool_str _ _ _⟩
   |tup l=>obtain⟨a,its,xs,_,rfl,_,_,p,_⟩:=yF I hy ry;cases h;exact⟨RcAt.bool_tuple _ p f,RcNeAt.bool_tuple _ p f,EqAt.bool_tuple _ p f⟩
   |lst l=>obtain⟨a,its,xs,_,rfl,_,_,p,_⟩:=yG I hy ry;cases h;exact⟨RcAt.bool_list _ p f,RcNeAt.bool_list _ p f,EqAt.bool_list _ p f⟩
  |int d =>
   obtain⟨Y,rfl⟩:=yD hx rx
   cases y with
   |ref k=>cases h
   |emp=>cases h
   |non=>cases vs_non hy ry;cases h;exact⟨RcAt.int_none _ _,RcNeAt.int_none _ _,EqAt.int_none _ _⟩
   |bl c=>cases vs_bl hy ry;cases h;exact⟨RcAt.int_bool _ _ _,RcNeAt.int_bool _ _ _,EqAt.int_bool _ _ _⟩
   |int c=>obtain⟨t,rfl⟩:=yD hy ry;cases h;exact⟨RcAt.int_int _ _ _ _,RcNeAt.int_int _ _ _ _,EqAt.int_int _ _ _ _⟩
   |str c=>obtain⟨t,rfl⟩:=yE hy ry;cases h;exact⟨RcAt.int_str _ _ _ _,RcNeAt.int_str _ _ _ _,EqAt.int_str _ _ _ _⟩
   |tup l=>obtain⟨a,its,xs,_,rfl,_,_,p,_⟩:=yF I hy ry;cases h;exact⟨RcAt.int_tuple _ _ p f,RcNeAt.int_tuple _ _ p f,EqAt.int_tuple _ _ p f⟩
   |lst l=>obtain⟨a,its,xs,_,rfl,_,_,p,_⟩:=yG I hy ry;cases h;exact⟨RcAt.int_list _ _ p f,RcNeAt.int_list _ _ p f,EqAt.int_list _ _ p f⟩
  |str d =>
   obtain⟨Y,rfl⟩:=yE hx rx
   cases y with
   |ref k=>cases h
   |emp=>cases h
   |non=>cases vs_non hy ry;cases h;exact⟨RcAt.str_none _ _,RcNeAt.str_none _ _,EqAt.str_none _ _⟩
   |bl c=>cases vs_bl hy ry;cases h;exact⟨RcAt.str_bool _ _ _,RcNeAt.str_bool _ _ _,EqAt.str_bool _ _ _⟩
   |int c=>obtain⟨t,rfl⟩:=yD hy ry;cases h;exact⟨RcAt.str_int _ _ _ _,RcNeAt.str_int _ _ _ _,EqAt.str_int _ _ _ _⟩
   |str c=>obtain⟨t,rfl⟩:=yE hy ry;cases h;exact⟨RcAt.str_str _ _ _ _,RcNeAt.str_str _ _ _ _,EqAt.str_str _ _ _ _⟩
   |tup l=>obtain⟨a,its,xs,_,rfl,_,_,p,_⟩:=yF I hy ry;cases h;exact⟨RcAt.str_tuple _ _ p f,RcNeAt.str_tuple _ _ p f,EqAt.str_tuple _ _ p f⟩
   |lst l=>obtain⟨a,its,xs,_,rfl,_,_,p,_⟩:=yG I hy ry;cases h;exact⟨RcAt.str_list _ _ p f,RcNeAt.str_list _ _ p f,EqAt.str_list _ _ p f⟩
  |tup d =>
   obtain⟨j,its',J,e1,rfl,w,B,i,ha⟩:=yF I hx rx
   cases y with
   |ref k=>cases h
   |emp=>cases h
   |non=>cases vs_non hy ry;cases h;exact⟨RcAt.tuple_none i f,RcNeAt.tuple_none i f,EqAt.tuple_none i f⟩
   |bl c=>cases vs_bl hy ry;cases h;exact⟨RcAt.tuple_bool _ i f,RcNeAt.tuple_bool _ i f,EqAt.tuple_bool _ i f⟩
   |int c=>obtain⟨t,rfl⟩:=yD hy ry;cases h;exact⟨RcAt.tuple_int _ _ i f,RcNeAt.tuple_int _ _ i f,EqAt.tuple_int _ _ i f⟩
   |str c=>obtain⟨t,rfl⟩:=yE hy ry;cases h;exact⟨RcAt.tuple_str _ _ i f,RcNeAt.tuple_str _ _ i f,EqAt.tuple_str _ _ i f⟩
   |tup l =>
    obtain⟨a,its,xs,K,rfl,C,E,p,Z⟩:=yF I hy ry
    have h0:eqL (eqD n) d l=some b:=h
    obtain⟨e,r,F,_⟩:=qfA M h0 B E w C
    have N:RcAt A s (.ref j) (.ref a) b:=by rw[F];exact RcAt.tuples i p f r
    have R2:RcNeAt A s (.ref j) (.ref a) (!b):=by rw[F];exact RcNeAt.tuples i p f r
    refine⟨N,R2,?_⟩
    by_cases z:j=a
    .subst z
     rw[q (.ref j) b (e1 ▸ hx) (K ▸ hy) h]
     exact EqAt.same _
    .exact EqAt.of_refs z N
   |lst l=>obtain⟨a,its,xs,_,rfl,_,_,p,_⟩:=yG I hy ry;cases h;exact⟨RcAt.tuple_list i p f,RcNeAt.tuple_list i p f,EqAt.tuple_list i p f⟩
  |lst d =>
   obtain⟨j,its',J,e1,rfl,w,B,i,ha⟩:=yG I hx rx
   cases y with
   |ref k=>cases h
   |emp=>cases h
   |non=>cases vs_non hy ry;cases h;exact⟨RcAt.list_none i f,RcNeAt.list_none i f,EqAt.list_none i f⟩
   |bl c=>cases vs_bl hy ry;cases h;exact⟨RcAt.list_bool _ i f,RcNeAt.list_bool _ i f,EqAt.list_bool _ i f⟩
   |int c=>obtain⟨t,rfl⟩:=yD hy ry;cases h;exact⟨RcAt.list_int _ _ i f,RcNeAt.list_int _ _ i f,EqAt.list_int _ _ i f⟩
   |str c=>obtain⟨t,rfl⟩:=yE hy ry;cases h;exact⟨RcAt.list_str _ _ i f,RcNeAt.list_str _ _ i f,EqAt.list_str _ _ i f⟩
   |tup l=>obtain⟨a,its,xs,_,rfl,_,_,p,_⟩:=yF I hy ry;cases h;exact⟨RcAt.list_tuple i p f,RcNeAt.list_tuple i p f,EqAt.list_tuple i p f⟩
   |lst l =>
    obtain⟨a,its,xs,K,rfl,C,E,p,Z⟩:=yG I hy ry
    have h0:(if d.length=l.length then eqL (eqD n) d l else some false)=some b:=h
    have la:d.length=its'.length:=B.length.trans w.length
    have lb:l.length=its.length:=E.length.trans C.length
    have R:RcAt A s (.ref j) (.ref a) b/\RcNeAt A s (.ref j) (.ref a) (!b):=by
     by_cases O:d.length=l.length
     .rw [wL O]at h0
      obtain⟨e,r,F,_⟩:=qfA M h0 B E w C
      have hsz:its'.toArray.size=its.toArray.size:=by rw[wJ,wJ];lia
      have L:b=(List.range its'.toArray.size).all e:=by
       rw[F,hsz];simp
      rw[L]
      exact⟨RcAt.lists i p hsz f r,RcNeAt.lists i p hsz f r⟩
     .rw [wK O]at h0
      cases h0
      have hsz:(its'.toArray.size != its.toArray.size)=true:=by
       rw[wJ,wJ];simp;lia
      exact⟨RcAt.lists_lengths i p hsz f,RcNeAt.lists_lengths i p hsz f⟩
    refine⟨R.1,R.2,?_⟩
    by_cases z:j=a
    .subst z
     rw[q (.ref j) b (e1 ▸ hx) (K ▸ hy) h]
     exact EqAt.same _
    .exact EqAt.of_refs z R.1
end
end R
namespace R
open PySem PySem.Spec L2 SeqAt
open PyProof.Rows hiding St
section
variable{X:Cx}
theorem Dens.rep{ι:List Addr}{H:Hp}{ds:List D}{xs:List V}(h:Dens ι H ds xs):∀k:Nat,Dens ι H (List.replicate k ds).flatten (List.replicate k xs).flatten
 |0=>by simp[Dens]
 |k+1=>by
  simp only[v0,vA]
  exact h.append (Dens.rep h k)
theorem qfB:OpR X (binaryOp .Add) (λx y H Q=>∃a b xs ys,x=.ref a/\y=.ref b/\H a=some (.tup xs)/\H b=some (.tup ys)/\xs.length+ys.length<=sizeLine /\
  (xs=[]->Q (.ref b) H)/\(xs≠[]->ys=[]->Q (.ref a) H)/\(xs≠[]->ys≠[]->∀p,H p=none->Q (.ref p) (upd H p (.tup (xs++ys))))):=by
 intro pins s z H x y v u Q I rx m h
 obtain⟨a,b,xs,ys,rfl,rfl,ha,o,hz,A,q1,q2⟩:=h
 by_cases hx:xs=[]
 .subst hx
  cases rx
  cases m
  obtain⟨its,B,C,_⟩:=yf I ha
  obtain⟨c,M,E,_⟩:=yf I o
  obtain⟨⟨cls,J,data,sl⟩,q,r,n,hd⟩:=id C
  obtain⟨⟨w,i,j,l⟩,d,e,K,f⟩:=id E
  simp only at r hd e f
  subst r hd e f
  have L:its=[]:=B.nil_iff.mpr rfl
  subst L
  exact concat_meets ⟨_,q,rfl⟩ ⟨_,d,rfl⟩ xo seq_tuple_add uk uh (ub _ _)
   (tuple_addW0 a b _ c.toArray n K J i sl l (by simp)) ⟨q,d,⟨.ref b,H,I,rfl,A rfl⟩⟩
 .exact qhI pins s z H _ _ v u Q I rx m ⟨a,b,xs,ys,rfl,rfl,.inl (.inl ha),.inl (.inl o),hx,hz,q1 hx,q2 hx⟩
theorem qhV(o:BOp):OpR X (binaryOp (opOf o)) (G2 λx y S=>ofO (binD o x y S) S):=by
 intro pins s n H x y v u Q I rx w h
 obtain⟨ι,S,dx,M,st,hx,A,p⟩:=h
 obtain⟨d,e,q⟩:=Pst.ofO p st
 have B:∀v,Den ι H d v->Q v H:=λv J=>q v ι H (Stp.refl _ _) st J
 unfold binD at e
 split at e
 .rename_i i j
  cases (show x=_ from hx)
  cases (show y=_ from A)
  cases C:binI o i j with
  |none=>rw[C]at e;cases e
  |some r =>
   rw[C]at e;cases e
   exact qjQ o pins s n H _ _ v u Q I rx w ⟨i,j,r,rfl,rfl,C,B _ rfl⟩
 .rename_i a b
  cases o <;> try (cases e;done)
  dsimp only at e
  split at e
  .rename_i c
   cases e
   cases (show x=_ from hx)
   cases (show y=_ from A)
   exact qct pins s n H _ _ v u Q I rx w ⟨a,b,rfl,rfl,c,B _ rfl⟩
  .cases e
 .rename_i a b
  cases o <;> try (cases e;done)
  dsimp only at e
  split at e
  .rename_i c
   cases e
   obtain⟨l,xs,rfl,F,f,d1⟩:=hx
   obtain⟨m,ys,rfl,K,E,d2⟩:=A
   have hz:xs.length+ys.length<=sizeLine:=by
    have:=vY c
    rw[d1.length,d2.length]at this;exact this
   refine qfB pins s n H _ _ v u Q I rx w ⟨l,m,xs,ys,rfl,rfl,f,E,hz,λz=>?_,λ_ z=>?_,λ_ _=>qR st (d1.append d2) q⟩
   .subst z
    have:a=[]:=w9.mp (by rw[d1.length];rfl)
    subst this
    exact B _ ⟨m,ys,rfl,K,E,by simpa using d2⟩
   .subst z
    have:b=[]:=w9.mp (by rw[d2.length];rfl)
    subst this
    exact B _ ⟨l,xs,rfl,F,f,by simpa using d1⟩
  .cases e
 .rename_i a k
  cases o <;> try (cases e;done)
  dsimp only at e
  split at e
  .rename_i c
   cases e
   obtain⟨l,xs,rfl,F,f,d1⟩:=hx
   cases (show y=_ from A)
   obtain⟨c1,c2,c3⟩:=vY c
   refine qhN pins s n H _ _ v u Q I rx w ⟨l,k,xs,rfl,rfl,.inl (.inl f),c1,c2,by rw[<-d1.length];exact c3,λz=>?_,λ_=>qR st (d1.rep _) q⟩
   have L:rep a k=a:=by
    unfold rep
    rcases z with z|z
    .subst z
     have:a=[]:=w9.mp (by rw[d1.length];rfl)
     subst this
     simp
    .subst z;simp
   rw[L]at B
   exact B _ ⟨l,xs,rfl,F,f,d1⟩
  .cases e
 .rename_i k _ _
  cases o <;> try (cases e;done)
  dsimp only at e
  split at e
  .rename_i a ha
   split at e
   .rename_i c
    cases e
    obtain⟨l,xs,rfl,f,d1⟩:=qY st ha hx
    cases (show y=_ from A)
    obtain⟨c1,c2,c3⟩:=vY c
    exact qhU pins s n H _ _ v u Q I rx w ⟨l,k,xs,rfl,rfl,f,c1,c2,by rw[<-d1.length];exact c3,zm (m:=false) st (d1.rep _) q⟩
   .cases e
  .cases e
 .cases o <;> try (cases e;done)
  dsimp only at e
  split at e
  .rename_i a b ha C
   split at e
   .rename_i c
    cases e
    obtain⟨l,xs,rfl,f,d1⟩:=qY st ha hx
    obtain⟨m,ys,rfl,E,d2⟩:=qY st C A
    have hz:xs.length+ys.length<=sizeLine:=by
     have:=vY c
     rw[d1.length,d2.length]at this;exact this
    exact qhT pins s n H _ _ v u Q I rx w ⟨l,m,xs,ys,rfl,rfl,f,E,hz,zm (m:=false) st (d1.append d2) q⟩
   .cases e
  .cases e
theorem intsOf_eq:∀{l:List D} {m:List Int},intsOf l=some m->l=m.map .int
 |[],m,h=>by cases h;rfl
 | .int i::r,m,h=>by
  simp only[intsOf]at h
  cases e:intsOf r with
  |none=>rw[e]at h;cases h
  |some a=>rw[e]at h;cases h;rw[intsOf_eq e];rfl
 | .non::_,_,h=>by cases h
 | .bl _::_,_,h=>by cases h
 | .str _::_,_,h=>by cases h
 | .tup _::_,_,h=>by cases h
 | .lst _::_,_,h=>by cases h
 | .emp::_,_,h=>by cases h
 | .ref _::_,_,h=>by cases h
theorem dens_ints{ι:List Addr}{H:Hp}:∀{m:List Int} {xs:List V},Dens ι H (m.map .int) xs->xs=m.map .int
 |[],xs,h=>h
 |i::m,xs,h=>by
  obtain⟨x,r,rfl,a,b⟩:=h
  rw[dens_ints b,show x=_ from a];rfl
noncomputable def cOf:COp->CmpOp
 | .eq=>.Eq|.ne=>.NotEq|.lt=>.Lt|.le=>.LtE|.gt=>.Gt|.ge=>.GtE|.is=>.Is|.isn=>.IsNot|.inn=>.In|.nin=>.NotIn
theorem jL{ι:List Addr}{H:Hp}:∀{d:D} {v:V},flatD d=true->Den ι H d v->flatV v=true
 | .non,_,_,h=>by cases (show _=_ from h);rfl
 | .bl _,_,_,h=>by cases (show _=_ from h);rfl
 | .int _,_,_,h=>by cases (show _=_ from h);rfl
 | .str _,_,_,h=>by cases (show _=_ from h);rfl
 | .tup _,_,h,_=>by cases h
 | .lst _,_,h,_=>by cases h
 | .emp,_,h,_=>by cases h
 | .ref _,_,h,_=>by cases h
theorem qhW{ι:List Addr}{H:Hp}{d e:D}{v u:V}(fd:flatD d=true)(a:flatD e=true)(h:Den ι H d v)(k:Den ι H e u):eqV v u=eqF d e:=by
 cases d <;> cases e <;> first
  | (cases fd;done)
  | (cases a;done)
  | (cases (show v=_ from h);cases (show u=_ from k);simp[eqV,eqF,Bool.beq_eq_decide_eq];done)
theorem qcL{ι:List Addr}{H:Hp}{x:D}{v:V}(a:flatD x=true)(hx:Den ι H x v):∀{l:List D} {xs:List V},l.all flatD=true->Dens ι H l xs->xs.all flatV=true/\inV v xs=l.any λy=>eqF y x
 |[],xs,_,h=>by cases (show _=[]from h);exact⟨rfl,rfl⟩
 |d::l,xs,hf,h=>by
  obtain⟨y,r,rfl,b,c⟩:=h
  simp only[xH,wV]at hf
  obtain⟨i1,i2⟩:=qcL a hx hf.2 c
  refine⟨by simp[jL hf.1 b,i1],?_⟩
  unfold inV at i2 ⊢
  rw[vk,vk,qhW hf.1 a b hx,i2]
theorem yr{ι:List Addr}{H:Hp}{S:Sr}{v:V}(st:Sto ι H S){d:D}{l:List D}(h:seqOf S d=some l)(hd:Den ι H d v):∃a xs,v=.ref a/\(Rd H a (.lst xs)\/H a=some (.tup xs))/\Dens ι H l xs:=by
 unfold seqOf at h
 split at h
 .cases h
  obtain⟨a,xs,e,_,ha,r⟩:=hd
  exact⟨a,xs,e,.inr ha,r⟩
 .obtain ⟨a,xs,e,ha,r⟩:=qY st h hd
  exact⟨a,xs,e,.inl ha,r⟩
theorem qhX{a b:Bool}{M:Model}{A:Around}{E:Value->Shared->Prop}{s:Shared}{Q:Value->Shared->Prop}(h:Q (.bool (a == b)) s):wpAny M A (compareOp .Is (.bool a) (.bool b)) Q E s :=
 wpAny_is_plain (by rfl) (by cases a <;> cases b <;> exact h)
theorem qfC{a b:Bool}{M:Model}{A:Around}{E:Value->Shared->Prop}{s:Shared}{Q:Value->Shared->Prop}(h:Q (.bool (!(a == b))) s):wpAny M A (compareOp .IsNot (.bool a) (.bool b)) Q E s :=
 wpAny_isNot_plain (by rfl) (by cases a <;> cases b <;> exact h)
theorem yt(o:COp)(N:X.A.units+30<cLine):OpR X (compareOp (cOf o)) (G2 λx y S=>ofO ((cmpD o x y S).map .bl) S):=by
 intro pins s r H x y v u Q I rx f h
 obtain⟨ι,S,dx,B,st,hx,i,p⟩:=h
 obtain⟨d,e,q⟩:=Pst.ofO p st
 obtain⟨b,M,rfl⟩:∃b,cmpD o dx B S=some b/\d=.bl b:=by
  cases z:cmpD o dx B S with
  |none=>rw[z]at e;cases e
  |some b=>rw[z]at e;cases e;exact⟨b,rfl,rfl⟩
 clear e p
 have e:=M
 clear M
 have j:Q (.bl b) H:=q (.bl b) ι H (Stp.refl _ _) st rfl
 have fin:EP X pins r Q (.bool b) s:=⟨.bl b,H,I,rfl,j⟩
 cases o with
 |eq=>exact(qcK I 20 X.A dx B b x y v u e hx i rx f (by lia)).1 _ _ _ _ fin
 |ne =>
  cases z:eqD 20 dx B with
  |none=>simp only[cmpD,z]at e;cases e
  |some c =>
   simp only[cmpD,z]at e;cases e
   exact(qcK I 20 X.A dx B c x y v u z hx i rx f (by lia)).2.1 _ _ _ _ fin
 |lt =>
  simp only[cmpD]at e
  split at e
  .cases (show x=_ from hx);cases (show y=_ from i);cases e
   exact qk6 pins s r H _ _ v u Q I rx f ⟨_,_,rfl,rfl,j⟩
  .split at e
   .rename_i m n hm hn
    cases e
    cases intsOf_eq hm
    cases intsOf_eq hn
    obtain⟨C,xs,rfl,_,E,d1⟩:=hx
    obtain⟨F,ys,rfl,_,J,d2⟩:=i
    cases dens_ints d1
    cases dens_ints d2
    exact qjH (by lia) pins s r H _ _ v u Q I rx f ⟨C,F,m,n,rfl,rfl,.inl (.inl E),.inl (.inl J),j⟩
   .cases e
  .cases e
 |le =>
  simp only[cmpD]at e
  split at e
  .cases (show x=_ from hx);cases (show y=_ from i);cases e
   exact qk7 pins s r H _ _ v u Q I rx f ⟨_,_,rfl,rfl,j⟩
  .cases e
 |gt =>
  simp only[cmpD]at e
  split at e
  .cases (show x=_ from hx);cases (show y=_ from i);cases e
   exact qk8 pins s r H _ _ v u Q I rx f ⟨_,_,rfl,rfl,j⟩
  .cases e
 |ge =>
  simp only[cmpD]at e
  split at e
  .cases (show x=_ from hx);cases (show y=_ from i);cases e
   exact qk9 pins s r H _ _ v u Q I rx f ⟨_,_,rfl,rfl,j⟩
  .split at e
   .rename_i m n hm hn
    cases e
    cases intsOf_eq hm
    cases intsOf_eq hn
    obtain⟨C,xs,rfl,_,E,d1⟩:=hx
    obtain⟨F,ys,rfl,_,J,d2⟩:=i
    cases dens_ints d1
    cases dens_ints d2
    exact qjM (by lia) pins s r H _ _ v u Q I rx f ⟨C,F,m,n,rfl,rfl,.inl (.inl E),.inl (.inl J),j⟩
   .cases e
  .cases e
 |is =>
  simp only[cmpD]at e
  split at e
  .cases (show y=_ from i)
   refine qjA pins s r H _ _ v u Q I rx f ⟨rfl,?_⟩
   cases dx <;> simp only[Option.some.injEq]at e <;> subst e <;> first
    | (cases (show x=_ from hx);exact j)
    | (obtain⟨a,_,rfl,_⟩:=hx;exact j)
    | (obtain⟨a,rfl,_⟩:=hx;exact j)
  .split at e
   .cases (show x=_ from hx);cases (show y=_ from i);cases e
    cases rx;cases f
    exact qhX fin
   .cases (show x=_ from hx);cases (show y=_ from i);cases e
    cases rx;cases f
    exact wpAny_is_other (by rfl) (by intro z;cases z) fin
   .cases e
  .cases e
 |isn =>
  simp only[cmpD]at e
  split at e
  .cases (show y=_ from i)
   refine qhB pins s r H _ _ v u Q I rx f ⟨rfl,?_⟩
   cases dx <;> simp only[Option.some.injEq]at e <;> subst e <;> first
    | (cases (show x=_ from hx);exact j)
    | (obtain⟨a,_,rfl,_⟩:=hx;exact j)
    | (obtain⟨a,rfl,_⟩:=hx;exact j)
  .split at e
   .cases (show x=_ from hx);cases (show y=_ from i);cases e
    cases rx;cases f
    exact qfC fin
   .cases (show x=_ from hx);cases (show y=_ from i);cases e
    cases rx;cases f
    exact wpAny_isNot_other (by rfl) (by intro z;cases z) fin
   .cases e
  .cases e
 |inn =>
  simp only[cmpD]at e
  cases z:seqOf S B with
  |none=>rw[z]at e;cases e
  |some l =>
   rw[z]at e
   have e:inD dx l=some b:=e
   unfold inD at e
   split at e
   .rename_i w
    simp only[wV]at w
    cases e
    obtain⟨a,xs,rfl,K,L⟩:=yr st z i
    obtain⟨i1,i2⟩:=qcL w.1 hx w.2 L
    refine qeq pins s r H _ _ v u Q I rx f ⟨a,xs,rfl,K.elim (λz=>.inl (.inl z)) (λz=>.inr (.inl (.inl z))),jL w.1 hx,i1,?_⟩
    rw[wK (by decide),i2];exact j
   .cases e
 |nin =>
  simp only[cmpD]at e
  cases z:seqOf S B with
  |none=>rw[z]at e;cases e
  |some l =>
   rw[z]at e
   have e:(inD dx l).map (!·)=some b:=e
   unfold inD at e
   split at e
   .rename_i w
    simp only[wV]at w
    cases e
    obtain⟨a,xs,rfl,K,L⟩:=yr st z i
    obtain⟨i1,i2⟩:=qcL w.1 hx w.2 L
    refine qaP pins s r H _ _ v u Q I rx f ⟨a,xs,rfl,K.elim (λz=>.inl (.inl z)) (λz=>.inr (.inl (.inl z))),jL w.1 hx,i1,?_⟩
    rw[wL (by decide),i2];exact j
   .cases e
end
end R
namespace R
open PySem PySem.Spec L2 SeqAt
open PyProof.Rows hiding St
section
variable{X:Cx}{pos:Pos}
theorem qhY{ι:List Addr}{H:Hp}{S:Sr}{K:PySem.W.Frag}(st:Sto ι H S){d:D}{v:V}{b:Bool}(h:truD S d=some b)(hd:Den ι H d v):TruV K v H b:=by
 have e:∀{l:List D},lstOf S d=some l->b=(!l.isEmpty)->TruV K v H b:=λ{l} hl hb=>by
  obtain⟨a,xs,rfl,j,f⟩:=qY st hl hd
  refine .inl ⟨xs,.inl j,?_⟩
  rw[hb];have:=f.length
  cases l <;> cases xs <;> first|rfl|(simp at this;done)
 cases d with
 |non=>cases h;cases (show v=_ from hd);exact(rfl:false=false)
 |bl c=>cases h;cases (show v=_ from hd);exact(show b=b from rfl)
 |int i=>cases h;cases (show v=_ from hd);exact(rfl:(i != 0)=(i != 0))
 |str x =>
  cases (show v=_ from hd)
  simp only[truD]at h
  split at h
  .cases h;exact⟨by assumption,rfl⟩
  .cases h
 |tup l =>
  cases h
  obtain⟨a,xs,rfl,_,ha,f⟩:=hd
  refine .inr (.inl ⟨xs,.inl (.inl ha),?_⟩)
  have:=f.length
  cases l <;> cases xs <;> first|rfl|(simp at this;done)
 |emp =>
  cases h
  obtain⟨a,rfl,_,ha⟩:=hd
  exact .inr (.inr ⟨[],ha,rfl⟩)
 |lst l =>
  simp only[truD,lstOf,wq,Option.some.injEq]at h
  exact e rfl h.symm
 |ref n =>
  simp only[truD]at h
  cases z:lstOf S (.ref n)with
  |none=>rw[z]at h;cases h
  |some l=>rw[z]at h;cases h;exact e z rfl
noncomputable def mVal(m:En->Sr->Res D):En->Sr->Res Bool:=λρ S=>(m ρ S).bind λx S1=>ofO (truD S1 x) S1
theorem qjR{e:Expr}{m:En->Sr->Res D}(h:PE X e (T m))(d:∀c,isTrue e X.env c=(do let v <-c;standAt e.pos;holding [v] (truthy v))):PT X e (TB (mVal m)) :=
 PTimp (qfa h d) λl H Q f=>TG.b1 f λι S ρ a b i n st j p=>by
  obtain⟨k,e1,q⟩:=Pst.ofO p st
  exact⟨k,qhY st e1 j,q k ι i (Stp.refl _ _) st rfl⟩
def IsB(m:En->Sr->Res D):Prop:=∀ρ S d a,m ρ S=.ok d a->∃c,d=.bl c
theorem toTest{m:En->Sr->Res D}(j:IsB m){h:St}{H:Hp}{Q:Bool->Hp->Prop}(l:TB (mVal m) h H Q):tTest (T m) h H Q:=by
 obtain⟨ι,S,ρ,n,st,p⟩:=l
 refine⟨ι,S,ρ,n,st,?_⟩
 dsimp only[mVal]at p ⊢
 cases z:m ρ S with
 |no=>rw[z]at p;exact p
 |err x i=>rw[z]at p;exact p
 |ok d i =>
  rw[z]at p
  obtain⟨c,rfl⟩:=j ρ S d i z
  intro b a H' s' e f
  cases (show b=_ from f)
  exact⟨c,rfl,p c a H' s' e rfl⟩
theorem qhZ{a mb:En->Sr->Res D}{g:D->D->Sr->Option Bool}:IsB (λρ S=>(a ρ S).bind λx S1=>(mb ρ S1).bind λy S2=>ofO ((g x y S2).map D.bl) S2):=by
 intro ρ S d b z
 dsimp only at z
 cases z1:a ρ S with
 |no=>rw[z1]at z;cases z
 |err=>rw[z1]at z;cases z
 |ok x S1 =>
  rw[z1,Res.bind_ok]at z
  cases z2:mb ρ S1 with
  |no=>rw[z2]at z;cases z
  |err=>rw[z2]at z;cases z
  |ok y S2 =>
   rw[z2,Res.bind_ok]at z
   cases z3:g x y S2 with
   |none=>rw[z3]at z;cases z
   |some c=>rw[z3]at z;cases z;exact⟨c,rfl⟩
theorem qjS{a b:Expr}{op:CmpOp}{c mb:En->Sr->Res D}{g:D->D->Sr->Option Bool}(d:OpR X (compareOp op) (G2 λx y S=>ofO ((g x y S).map D.bl) S))(ha:PE X a (T c))(e:PE X b (T mb))(hm:behindInMarks op b=false):
  PT X (.Compare a [op] [b] pos) (TB (mVal λρ S=>(c ρ S).bind λx S1=>(mb ρ S1).bind λy S2=>ofO ((g x y S2).map D.bl) S2)) :=
 PTimp (qhD d ha e hm) λh H Q f=>T2 (toTest qhZ f)
noncomputable def mChain(g g':D->D->Sr->Option Bool)(b mb c:En->Sr->Res D):En->Sr->Res D:=λρ S=>(b ρ S).bind λx S1=>(mb ρ S1).bind λy S2=>match g x y S2 with
 |some true=>(c ρ S2).bind λz a=>ofO ((g' y z a).map D.bl) a
 |some false=>.ok (.bl false) S2
 |none=>.no
theorem qdp{u mb w:En->Sr->Res D}{g g':D->D->Sr->Option Bool}{A:St}{H:Hp}{Q:VK}(h:T (mChain g g' u mb w) A H Q):
  tChain (G2 λx y S=>ofO ((g x y S).map D.bl) S) (G2 λx y S=>ofO ((g' x y S).map D.bl) S) (T u) (T mb) (T w) A H Q:=by
 refine TG.b1 h λι S ρ a b M B st C p=>Pst.tg p B st λd S2 l H2 b2 s2 m n e f=>?_
 refine⟨l,S2,a,d,n,Den.mono s2 a C,e,?_⟩
 cases z:g a d S2 with
 |none=>rw[z]at f;exact f.elim
 |some c =>
  rw[z]at f
  show Pst Den (ofO (Option.map D.bl (g a d S2)) S2) _ _ _
  rw[z]
  intro v o H3 j i E
  cases (show v=_ from E)
  refine⟨c,rfl,?_⟩
  cases c with
  |false=>rw[wK (by decide)];exact f _ o H3 j i rfl
  |true =>
   rw[wL rfl]
   refine Pst.tg (ρ:=ρ) (Pst.from f j) (m.mono j) i λF I q N O J K r s L=>?_
   exact⟨q,I,d,F,r,Den.mono (j.trans J) d e,s,L⟩
theorem qeC{a mb b:En->Sr->Res D}{g g':D->D->Sr->Option Bool}:IsB (mChain g g' a mb b):=by
 intro ρ S d f z
 dsimp only[mChain]at z
 cases z1:a ρ S with
 |no=>rw[z1]at z;cases z
 |err=>rw[z1]at z;cases z
 |ok x S1 =>
  rw[z1,Res.bind_ok]at z
  cases z2:mb ρ S1 with
  |no=>rw[z2]at z;cases z
  |err=>rw[z2]at z;cases z
  |ok y S2 =>
   rw[z2,Res.bind_ok]at z
   cases z3:g x y S2 with
   |none=>rw[z3]at z;cases z
   |some c =>
    rw[z3]at z
    cases c with
    |false=>cases z;exact⟨_,rfl⟩
    |true =>
     dsimp only at z
     cases z4:b ρ S2 with
     |no=>rw[z4]at z;cases z
     |err=>rw[z4]at z;cases z
     |ok w e =>
      rw[z4,Res.bind_ok]at z
      cases z5:g' y w e with
      |none=>rw[z5]at z;cases z
      |some c=>rw[z5]at z;cases z;exact⟨_,rfl⟩
theorem qh0{a b c:Expr}{op d:CmpOp}{f mb h:En->Sr->Res D}{g g':D->D->Sr->Option Bool}(i:OpR X (compareOp op) (G2 λx y S=>ofO ((g x y S).map D.bl) S))(e:OpR X (compareOp d) (G2 λx y S=>ofO ((g' x y S).map D.bl) S))(ha:PE X a (T f))(j:PE X b (T mb))(l:PE X c (T h))(hm:lastMarks [op,d] [b,c]=false):PE X (.Compare a [op,d] [b,c] pos) (T (mChain g g' f mb h)) :=
 PEimp (qe8 i e ha j l hm) λm H Q=>qdp
theorem qfD{a b c:Expr}{op d:CmpOp}{f mb h:En->Sr->Res D}{g g':D->D->Sr->Option Bool}(i:OpR X (compareOp op) (G2 λx y S=>ofO ((g x y S).map D.bl) S))(e:OpR X (compareOp d) (G2 λx y S=>ofO ((g' x y S).map D.bl) S))(ha:PE X a (T f))(j:PE X b (T mb))(l:PE X c (T h))(hm:lastMarks [op,d] [b,c]=false):PT X (.Compare a [op,d] [b,c] pos) (TB (mVal (mChain g g' f mb h))) :=
 PTimp (qe9 i e ha j l hm) λn H Q m=>qdp (toTest qeC m)
theorem qjT{a:Expr}{b:Expr}{rest:List Expr}{c mb:En->Sr->Res Bool}(ha:PT X a (TB c))(d:PW X (.BoolOp .And (b::rest) pos) (TB mb)):
  PW X (.BoolOp .And (a::b::rest) pos) (TB λρ S=>(c ρ S).bind λt S1=>if t then mb ρ S1 else .ok false S1):=λe pins s f H Q I h=>by
 refine qjl ha d e pins s f H Q I (TG.b1 h λι S ρ x y i j st l p=>?_)
 cases (show x=y from l)
 cases x with
 |true=>rw[wL rfl];exact⟨ι,S,ρ,j,st,p⟩
 |false=>rw[wK (by decide)];exact p false ι i (Stp.refl _ _) st rfl
theorem qlj{a:Expr}{b:Expr}{rest:List Expr}{c mb:En->Sr->Res Bool}(ha:PT X a (TB c))(d:PW X (.BoolOp .Or (b::rest) pos) (TB mb)):
  PW X (.BoolOp .Or (a::b::rest) pos) (TB λρ S=>(c ρ S).bind λt S1=>if t then .ok true S1 else mb ρ S1):=λe pins s f H Q I h=>by
 refine qk2 ha d e pins s f H Q I (TG.b1 h λι S ρ x y i j st l p=>?_)
 cases (show x=y from l)
 cases x with
 |true=>rw[wL rfl];exact p true ι i (Stp.refl _ _) st rfl
 |false=>rw[wK (by decide)];exact⟨ι,S,ρ,j,st,p⟩
theorem qjU{a:Expr}{b:En->Sr->Res Bool}(ha:PT X a (TB b)):PT X (.UnaryOp .Not a pos) (TB λρ S=>(b ρ S).bind λt S1=>.ok (!t) S1) :=
 PTimp (qjm ha) λf H Q c=>TG.b1 c λι S ρ x y d h st e p=>by
  cases (show x=y from e)
  exact p _ ι d (Stp.refl _ _) st rfl
theorem qlk{a:Expr}{b:Expr}{rest:List Expr}{d mb:En->Sr->Res D}(ha:PE X a (T d))(e:PE X (.BoolOp .And (b::rest) pos) (T mb)):
  PE X (.BoolOp .And (a::b::rest) pos) (T λρ S=>(d ρ S).bind λx S1=>match x with|.bl true=>mb ρ S1|.bl false=>.ok (.bl false) S1|_=>.no) :=
 PEimp (qjo ha e) λl H Q f=>TG.b1 f λι S ρ x y h i st j p=>by
  cases x with
  |bl c =>
   cases (show y=_ from j)
   refine⟨c,rfl,?_⟩
   cases c with
   |true=>rw[wL rfl];exact⟨ι,S,ρ,i,st,p⟩
   |false=>rw[wK (by decide)];exact p _ ι h (Stp.refl _ _) st rfl
  |_=>exact p.elim
theorem qll{a:Expr}{d:En->Sr->Res D}(ha:PE X a (T d)):PE X (.UnaryOp .Not a pos) (T λρ S=>(d ρ S).bind λx S1=>match x with|.bl b=>.ok (.bl (!b)) S1|_=>.no) :=
 PEimp (qjp ha) λi H Q e=>TG.b1 e λι S ρ x y f j st h p=>by
  cases x with
  |bl c =>
   cases (show y=_ from h)
   exact⟨c,rfl,p _ ι f (Stp.refl _ _) st rfl⟩
  |_=>exact p.elim
theorem qlm{a:Expr}{b:En->Sr->Res D}(ha:PE X a (T b)):PE X (.UnaryOp .USub a pos) (T λρ S=>(b ρ S).bind λx S1=>match x with|.int i=>.ok (.int (-i)) S1|_=>.no) :=
 PEimp (qk5 qjz ha) λf H Q c=>TG.b1 c λι S ρ x y d h st e p=>by
  cases x with
  |int i =>
   cases (show y=_ from e)
   exact⟨i,rfl,p _ ι d (Stp.refl _ _) st rfl⟩
  |_=>exact p.elim
theorem qln{es:List Expr}{k:Nat}{b:En->Sr->Res (List D)}(h:PA X es (TL b)):PE X (.Tuple es k pos) (T λρ S=>(b ρ S).bind λl S1=>if l.length<=sizeLine then .ok (.tup l) S1 else .no) :=
 PEimp (qjC h) λe H Q d=>TG.b1 d λι S ρ x y f i st c p=>by
  by_cases a:x.length<=sizeLine
  .rw [wL a]at p
   exact⟨by rw[<-c.length];exact a,qR st c p⟩
  .rw [wK a]at p;exact p.elim
theorem qlo{es:List Expr}{m:Bool}{b:En->Sr->Res (List D)}(h:PA X es (TL b)):PE X (.List es pos) (T λρ S=>(b ρ S).bind λl S1=>if l.length<=sizeLine then newL m l S1 else .no) :=
 PEimp (qjD h) λe H Q d=>TG.b1 d λι S ρ x y f i st c p=>by
  by_cases a:x.length<=sizeLine
  .rw [wL a]at p
   exact⟨by rw[<-c.length];exact a,zm st c p⟩
  .rw [wK a]at p;exact p.elim
theorem qlp{m:Bool}:PE X (.Dict [] [] pos) (T λ_ S=>if m then .ok (.ref S.length) (S++[.dic []])else .ok .emp S):=by
 cases m with
 |true =>
  refine PEimp qfl λc H Q b=>?_
  obtain⟨ι,S,ρ,d,st,p⟩:=b
  intro q a
  have g:=Stp.grow (ι:=ι) a (.dT [])
  refine p (.ref q) _ _ g (st.grow a ⟨rfl,[],ql,rfl⟩) ⟨q,rfl,?_⟩
  rw[<-st.len];simp
 |false =>
  refine PEimp qbA λc H Q b=>?_
  obtain⟨ι,S,ρ,d,st,p⟩:=b
  intro q a
  have g:=Stp.laid (ι:=ι) a (.dK [])
  exact p (.ref q) _ _ g (st.laid a _) ⟨q,rfl,st.fresh a,ql⟩
theorem qlq:PE X (.Dict [] [] pos) (T λ_ S=>.ok (.ref S.length) (S++[.dis []])):=by
 refine PEimp qbA λc H Q b=>?_
 obtain⟨ι,S,ρ,d,st,p⟩:=b
 intro q a
 have g:=Stp.grow (ι:=ι) a (.dK [])
 refine p (.ref q) _ _ g (st.grow a ⟨rfl,[],ql,rfl⟩) ⟨q,rfl,?_⟩
 rw[<-st.len];simp
theorem key_den{ι:List Addr}{H:Hp}{d:D}{v:V}{k:Key}(h:keyD d=some k)(hd:Den ι H d v):v=kV k:=by
 cases d <;> simp only[keyD]at h <;> cases h <;> exact hd
theorem qh1{ι:List Addr}{H:Hp}{l:List D}{xs:List V}{k:Int}{d:D}(a:Dens ι H l xs)(h:atI l k=some d):∃v,atI xs k=some v/\Den ι H d v:=by
 unfold atI at h ⊢
 rw[<-a.length]
 cases z:ixN l.length k with
 |none=>rw[z]at h;cases h
 |some j =>
  rw[z]at h
  exact a.get h
theorem jM{a b:List Int}:keyT a=keyT b ↔ a=b:=by
 refine⟨λh=>?_,λh=>by rw[h]⟩
 unfold keyT at h
 exact(List.map_inj_right (λx y h=>Sum.inl.inj h)).mp h
theorem qaX(k:List Int):(keyT k).map kV=k.map V.int:=by
 unfold keyT;rw[vL];rfl
theorem jN{κ K:Type}[DecidableEq κ][DecidableEq K]{f:κ->K}(c:∀{a b},f a=f b ↔ a=b){ι:List Addr}{H:Hp}{k:κ}:∀{l:List (κ×D)} {kvs:List (K×V)} {d:D},DGs f ι H l kvs->lookT k l=some d->∃v,valV kvs (f k)=some v/\Den ι H d v
 |[],_,_,_,h=>by cases h
 |p::l,_,d,hk,h=>by
  obtain⟨v,r,rfl,i,m⟩:=hk
  obtain⟨j,e⟩:=p
  simp only[lookT]at h
  by_cases z:j=k
  .rw [wL z]at h;cases h
   exact⟨v,yL (by simp[z]),i⟩
  .rw [wK z]at h
   obtain⟨w,e1,n⟩:=jN c m h
   exact⟨w,by rw[yM (by simpa[c]using z)];exact e1,n⟩
theorem qdq{κ K:Type}[DecidableEq κ][DecidableEq K]{f:κ->K}(c:∀{a b},f a=f b ↔ a=b){ι:List Addr}{H:Hp}{k:κ}:∀{l:List (κ×D)} {kvs:List (K×V)},DGs f ι H l kvs->(kvs.any λd=>decide (d.1=f k))=l.any λp=>decide (p.1=k)
 |[],_,h=>by cases (show _=[]from h);rfl
 |p::l,_,h=>by
  obtain⟨v,r,rfl,i,e⟩:=h
  rw[vk,vk,qdq c e]
  simp[c]
theorem yR{κ:Type}[DecidableEq κ]{k:κ}{d:D}(hd:refsLt 0 d=true):∀{l:List (κ×D)},refsLts 0 (l.map (·.2))=true->refsLts 0 ((putT k d l).map (·.2))=true:=by
 intro l c
 refine zS λx hx=>?_
 obtain⟨p,a,rfl⟩:=vG.mp hx
 unfold putT at a
 split at a
 .obtain ⟨q,f,e⟩:=vG.mp a
  have b:=zh c (vG.mpr ⟨q,f,rfl⟩)
  split at e
  .subst e;exact hd
  .subst e;exact b
 .rcases wg.mp a with z|z
  .exact zh c (vG.mpr ⟨p,z,rfl⟩)
  .rw [wM.mp z];exact hd
theorem jt{κ K:Type}[DecidableEq κ][DecidableEq K]{f:κ->K}(j:∀{a b},f a=f b ↔ a=b){ι:List Addr}{H:Hp}{k:κ}{d:D}{v:V}(hd:Den ι H d v){l:List (κ×D)}{kvs:List (K×V)}(h:DGs f ι H l kvs):DGs f ι H (putT k d l) (putK kvs (f k) v):=by
 unfold putT putK
 rw[qdq j h]
 split
 .rename_i hz
  clear hz
  induction l generalizing kvs with
  |nil=>cases (show _=[]from h);exact(rfl:_=_)
  |cons p l c =>
   obtain⟨w,r,rfl,i,e⟩:=h
   rw[wR,wR]
   by_cases z:p.1=k
   .rw [wL z,wL (by simp[z])]
    exact⟨v,_,rfl,hd,c e⟩
   .rw [wK z,wK (by simpa[j]using z)]
    exact⟨w,_,rfl,i,c e⟩
 .rename_i hz
  clear hz
  induction l generalizing kvs with
  |nil=>cases (show _=[]from h);exact⟨v,[],rfl,hd,rfl⟩
  |cons p l c =>
   obtain⟨w,r,rfl,i,e⟩:=h
   exact⟨w,_,rfl,i,c e⟩
theorem qdr(i:X.A.units+1<cLine):IxR X (λx y H Q=>∃a v,x=.ref a/\DGet H a y (some v)/\Q v H):=by
 intro b c pins s j H x y v u Q I rx l h m
 obtain⟨a,z,rfl,g,q⟩:=h
 cases rx
 have f:=qby I g
 unfold subscriptTail
 refine wA ?_
 rw[getitemInPython_of_ne f.not_modules]
 refine wA (xx f PySem.F.slot_dict_getitem.lookup ?_)
 have fin:wpAny (model X.prog X.w) X.A (subscripted c false (.ref a) u) (λr d=>wpAny (model X.prog X.w) X.A (letTemporaryGo b (.ref a) r >>= λ_=>pure r) (EP X pins j Q) X.xe d) X.xe s:=by
  rw[m]
  exact wpAny_operating (qaw i I g l λo p n e=>wA (wpAny_letTemporaryGo (wC ⟨z,H,n,e,q⟩)))
 first
  |exact wC (wA fin)
  |exact wA fin
theorem qlr{a b:Expr}{o mb:En->Sr->Res D}(s:X.A.units+1<cLine)(ha:PE X a (T o))(j:PE X b (T mb))(f:PlainIx b):
  PE X (.Subscript a b pos) (T λρ S=>(o ρ S).bind λx S1=>(mb ρ S1).bind λy S2=>ofO (idxD S2 x y) S2) :=
 PEimp (qiV (qhJ.or (qjI.or (qdr s))) ha j f) λM H Q u=>by
  refine TG.b1 u λι S ρ a b N w st r p=>Pst.tg p w st λO S2 h H2 b2 s2 B c i C=>?_
  obtain⟨d,e,q⟩:=Pst.ofO C c
  unfold idxD at e
  split at e
  .rename_i k
   cases (show b2=_ from i)
   cases z:seqOf S2 a with
   |none=>rw[z]at e;cases e
   |some l =>
    rw[z]at e
    obtain⟨p,xs,rfl,f,E⟩:=yr c z (Den.mono s2 a r)
    obtain⟨v,e1,m⟩:=qh1 E e
    have fin:=q v h H2 (Stp.refl _ _) c m
    rcases f with f|f
    .exact .inl ⟨p,xs,k,v,rfl,rfl,.inl f,e1,fin⟩
    .exact .inr (.inl ⟨p,xs,k,v,rfl,rfl,.inl (.inl f),e1,fin⟩)
  .rename_i ks
   split at e
   .rename_i n
    split at e
    .rename_i l F
     cases z:intsOf ks with
     |none=>rw[z]at e;cases e
     |some k =>
      rw[z]at e
      cases intsOf_eq z
      obtain⟨p,I,hn⟩:=Den.mono s2 _ r
      subst I
      obtain⟨_,kvs,J,K⟩:=c.obj n p _ hn F
      obtain⟨v,e1,m⟩:=jN jM K e
      obtain⟨b,xs,rfl,_,j,L⟩:=i
      cases dens_ints L
      refine .inr (.inr ⟨p,v,rfl,?_,q v h H2 (Stp.refl _ _) c m⟩)
      rw[<-e1]
      exact DGet.t J (by rw[qaX];exact j)
    .cases e
   .cases e
  .cases e
end
end R
namespace R
open PySem PySem.Spec L2 SeqAt
open PyProof.Rows hiding St
section
variable{X:Cx}{pos:Pos}
theorem qjV{ι:List Addr}{H:Hp}{S:Sr}{K:PySem.W.Frag}(st:Sto ι H S)(t:Ty):∀{d:D} {v:V} {b:Bool},isiD S t d=some b->Den ι H d v->∃ty,TyOf K H v ty/\PySem.W.kitOne K ty (.type t.nm)=some b
 | .non,v,b,h,hd=>by
  cases (show v=_ from hd);cases h
  exact⟨_,.non,by cases t <;> (first|rfl|decide +kernel)⟩
 | .bl c,v,b,h,hd=>by
  cases (show v=_ from hd)
  cases t <;> cases h <;> exact⟨_,.bl c,by first|rfl|decide +kernel⟩
 | .int c,v,b,h,hd=>by
  cases (show v=_ from hd)
  cases t <;> cases h <;> exact⟨_,.int c,by first|rfl|decide +kernel⟩
 | .str c,v,b,h,hd=>by
  cases (show v=_ from hd)
  cases t <;> cases h <;> exact⟨_,.str c,by first|rfl|decide +kernel⟩
 | .tup l,v,b,h,hd=>by
  obtain⟨a,xs,rfl,_,ha,_⟩:=hd
  cases t <;> cases h <;> exact⟨_,.tup ha,by first|rfl|decide +kernel⟩
 | .lst l,v,b,h,hd=>by
  obtain⟨a,xs,rfl,_,ha,_⟩:=hd
  rcases ha with ha|⟨o,ha⟩
  .cases t <;> cases h <;> exact⟨_,.lst ha,by first|rfl|decide +kernel⟩
  .cases t <;> cases h <;> exact⟨_,.frz ha,by first|rfl|decide +kernel⟩
 | .emp,v,b,h,hd=>by
  obtain⟨a,rfl,_,ha⟩:=hd
  cases t <;> cases h <;> exact⟨_,.dK ha,by first|rfl|decide +kernel⟩
 | .ref n,v,b,h,hd=>by
  obtain⟨a,rfl,ha⟩:=hd
  simp only[isiD]at h
  split at h
  .rename_i l e
   obtain⟨_,xs,f,_⟩:=st.obj n a _ ha e
   cases t <;> cases h <;> exact⟨_,.lst f,by first|rfl|decide +kernel⟩
  .rename_i l e
   obtain⟨_,xs,f,_⟩:=st.obj n a _ ha e
   cases t <;> cases h <;> exact⟨_,.dT f,by first|rfl|decide +kernel⟩
  .rename_i l e
   obtain⟨_,xs,f,_⟩:=st.obj n a _ ha e
   cases t <;> cases h <;> exact⟨_,.dK f,by first|rfl|decide +kernel⟩
  .cases h
theorem qfE:CallR X (.builtin "isinstance") (λxs H Q=>∃x n ty b,xs=[x,.ty n]/\TyOf X.K H x ty/\PySem.W.kitOne X.K ty (.type n)=some b/\Q (.bl b) H):=by
 intro pins s f H xs us Q I r h
 obtain⟨x,n,ty,b,rfl,a,c,q⟩:=h
 obtain⟨u,i,rfl,d,e⟩:=vals2 r
 cases e
 exact qen I d a c λtk=>⟨.bl b,H,I.tok _,rfl,q⟩
theorem qh2(t:Ty):bootBuiltins (Str.ofString t.nm)=some (.type t.nm):=by cases t <;> decide +kernel
theorem qfF:bootBuiltins "isinstance"=some (.builtin "isinstance"):=by decide +kernel
theorem qls{a:Expr}{p f:Pos}{m:En->Sr->Res D}{t:Ty}(o:Gl X "isinstance")(hm:X.mg "isinstance"=none)(h:Gl X (Str.ofString t.nm))(i:X.mg (Str.ofString t.nm)=none)(ha:PE X a (T m))(n:starEach [a,.Name (Str.ofString t.nm) f] X.env=(false,eval a X.env)::starEach [.Name (Str.ofString t.nm) f] X.env)(j:starEach [.Name (Str.ofString t.nm) f] X.env=(false,eval (.Name (Str.ofString t.nm) f) X.env)::starEach [] X.env)(l:(backTo pos (starEach [.Name (Str.ofString t.nm) f] X.env)).any (·.1)=false):
  PE X (.Call (.Name "isinstance" p) [a,.Name (Str.ofString t.nm) f] [] pos) (T λρ S=>(m ρ S).bind λx S1=>ofO ((isiD S1 t x).map .bl) S1):=by
 have hn:(Str.ofString t.nm)≠"__name__":=by cases t <;> decide
 have hd:((Str.ofString t.nm) == ("__debug__":Str))=false:=by cases t <;> decide
 have r:PE X (.Name (Str.ofString t.nm) f) (λ_ H Q=>Q (.ty t.nm) H):=qhv (v:=.ty t.nm) h i (qh2 t) rfl hn hd
 refine PEimp (qbv qfE o hm qfF (js ha (js r qcu j) n) (by decide) (by decide) n l) λB H Q s=>?_
 refine TG.b1 s λι S ρ a b u C st w p=>?_
 obtain⟨d,e,q⟩:=Pst.ofO p st
 cases z:isiD S t a with
 |none=>rw[z]at e;cases e
 |some c =>
  rw[z]at e;cases e
  obtain⟨ty,y,A⟩:=qjV (K:=X.K) st t z w
  exact⟨b,t.nm,ty,c,rfl,y,A,q _ ι u (Stp.refl _ _) st rfl⟩
theorem Dens.cut{ι:List Addr}{H:Hp}{l:List D}{xs:List V}(h:Dens ι H l xs)(lo hi:Option Int):Dens ι H (cutD l lo hi) (cutV xs lo hi):=by
 unfold cutD cutV
 rw[h.length]
 exact(h.drop _).take _
theorem qfG{e:Expr}{m:En->Sr->Res D}(h:PE X e (T m)):PO X (some e) (TOp λρ S=>(m ρ S).bind λx S1=>match x with|.int i=>.ok (some i) S1|_=>.no):=by
 intro pins s c H Q I d
 refine qhH h pins s c H Q I (TG.b1 d λι S ρ a b f l st j p=>?_)
 cases a with
 |int i =>
  cases (show b=_ from j)
  exact⟨i,rfl,p _ ι f (Stp.refl _ _) st rfl⟩
 |_=>exact p.elim
theorem qfH:PO X none (TOp λ_ S=>.ok none S):=by
 intro pins s a H Q I b
 obtain⟨ι,S,ρ,c,st,p⟩:=b
 exact qhG pins s a H Q I (p _ ι H (Stp.refl _ _) st rfl)
theorem qlt{e:Expr}{lo hi:Option Expr}{r:Pos}{m:En->Sr->Res D}{C E:En->Sr->Res (Option Int)}(F:PE X e (T m))(I:PO X lo (TOp C))(J:PO X hi (TOp E)):
  PE X (.Subscript e (.Slice lo hi none r) pos) (T λρ S=>(m ρ S).bind λx S1=>(C ρ S1).bind λl S2=>(E ρ S2).bind λh o=>ofO (slcD o x l h) o) :=
 PEimp (qff (qhK.or (qjG.or qhM)) F I J) λσ H Q K=>by
  refine TG.b1 K λι S ρ a b H1 L st M p=>Pst.tg p L st λs S2 N H2 O s2 u v w r=>Pst.tg r u v λy o A H3 P R U f B W=>?_
  cases (show s=O from w)
  cases (show y=P from B)
  obtain⟨d,e,q⟩:=Pst.ofO W f
  have j:=Den.mono (s2.trans R) a M
  unfold slcD at e
  split at e
  .rename_i l
   cases e
   obtain⟨c,xs,rfl,Y,n,i⟩:=j
   by_cases hn:HT.sIx xs.length 0 s=0/\HT.sIx xs.length xs.length y=xs.length
   .refine .inr (.inr ⟨c,xs,rfl,.inl (.inl n),hn,?_⟩)
    have Z:cutD l s y=l:=by
     unfold cutD
     rw[i.length,hn.1,hn.2,xU,Nat.sub_zero,<-i.length,xq]
    rw[Z]at q
    exact q _ A H3 (Stp.refl _ _) f ⟨c,xs,rfl,Y,n,i⟩
   .exact .inr (.inl ⟨c,xs,rfl,.inl (.inl n),hn,qR f (i.cut _ _) q⟩)
  .cases z:lstOf o a with
   |none=>rw[z]at e;cases e
   |some l =>
    rw[z]at e;cases e
    obtain⟨c,xs,rfl,n,i⟩:=qY f z j
    exact .inl ⟨c,xs,rfl,.inl n,zm (m:=false) f (i.cut _ _) q⟩
def Gn(g:List D->Sr->Res D):List V->Hp->VK->Prop:=λxs H Q=>∃ι S ds,Sto ι H S/\Dens ι H ds xs/\Pst Den (g ds S) ι H Q
theorem qh3{x:Str}{id:String}{e:Expr}{es:List Expr}{p:Pos}{g:List D->Sr->Res D}{f:En->Sr->Res (List D)}(h:CallR X (.builtin id) (Gn g))(i:Gl X x)(hm:X.mg x=none)(j:bootBuiltins x=some (.builtin id))(ha:PA X (e::es) (TL f))(hn:x≠"__name__")(c:(x == ("__debug__":Str))=false)(m:starEach (e::es) X.env=(false,eval e X.env)::starEach es X.env)(d:(backTo pos (starEach es X.env)).any (·.1)=false):
  PE X (.Call (.Name x p) (e::es) [] pos) (T λρ S=>(f ρ S).bind λl S1=>g l S1) :=
 PEimp (qbv h i hm j ha hn c m d) λq H Q n=>TG.b1 n λι S ρ a b r s st o p=>⟨ι,S,a,st,o,p⟩
theorem qfI{x:Str}{ty:String}{e:Expr}{es:List Expr}{p:Pos}{g:List D->Sr->Res D}{f:En->Sr->Res (List D)}(h:CallR X (.type ty) (Gn g))(i:Gl X x)(hm:X.mg x=none)(j:bootBuiltins x=some (.type ty))(ha:PA X (e::es) (TL f))(hn:x≠"__name__")(c:(x == ("__debug__":Str))=false)(m:starEach (e::es) X.env=(false,eval e X.env)::starEach es X.env)(d:(backTo pos (starEach es X.env)).any (·.1)=false):
  PE X (.Call (.Name x p) (e::es) [] pos) (T λρ S=>(f ρ S).bind λl S1=>g l S1) :=
 PEimp (qep h i hm j ha hn c m d) λq H Q n=>TG.b1 n λι S ρ a b r s st o p=>⟨ι,S,a,st,o,p⟩
noncomputable def SpD(np:Nat)(g:List D->Sr->Res D):Sp:=λvs H Q _=>vs.length=np/\∃ι S ds,Sto ι H S/\Dens ι H ds vs/\Pst Den (g ds S) ι H Q
theorem qjW{CX:CXT}{k:Nat}{f:Addr}{fd:FuncData}{ps:List Str}{g:List D->Sr->Res D}{x:Str}{p:Pos}{e:Expr}{es:List Expr}{b:En->Sr->Res (List D)}{E:XK}(F:FnOk X.prog X.w X.K X.mg X.base CX k f fd ps (SpD ps.length g))(m:Room k X.A)(n:Gl X x)(hm:X.mg x=some (.ref f))(o:PySem.W.keepIn X.K (.ref f)=true)(q:Binds X.K fd ps [])(hx:Passes CX X E)(ha:PA X (e::es) (TL b))(a:∀ρ S l r,b ρ S=.ok l r->l.length=ps.length)(c:(x == ("__debug__":Str))=false)(s:starEach (e::es) X.env=(false,eval e X.env)::starEach es X.env)(d:(backTo pos (starEach es X.env)).any (·.1)=false):
  PE X (.Call (.Name x p) (e::es) [] pos) (T λρ S=>(b ρ S).bind λl S1=>g l S1) :=
 PEimp (qhF F m n hm o q (dvs:=[]) .nil hx ha c s d) λy H Q u=>by
  obtain⟨ι,S,ρ,v,st,p⟩:=u
  refine⟨ι,S,ρ,v,st,?_⟩
  dsimp only at p ⊢
  cases z:b ρ S with
  |no=>rw[z]at p;exact p
  |err=>rw[z]at p;exact p
  |ok l S1 =>
   rw[z]at p
   intro xs h B s1 i j
   refine⟨?_,h,S1,l,i,by simpa using j,Pst.from p s1⟩
   rw[va,<-j.length]
   exact a ρ S l S1 z
end
end R
namespace R
open PySem PySem.Spec L2 SeqAt
open PyProof.Rows hiding St
section
variable{X:Cx}{pos:Pos}
theorem dens1{ι:List Addr}{H:Hp}{d:D}{xs:List V}(h:Dens ι H [d] xs):∃x,xs=[x]/\Den ι H d x:=by
 obtain⟨x,r,rfl,a,b⟩:=h
 cases (show r=[]from b)
 exact⟨x,rfl,a⟩
theorem dens2{ι:List Addr}{H:Hp}{d e:D}{xs:List V}(h:Dens ι H [d,e] xs):∃x y,xs=[x,y]/\Den ι H d x/\Den ι H e y:=by
 obtain⟨x,r,rfl,a,b⟩:=h
 obtain⟨y,rfl,c⟩:=dens1 b
 exact⟨x,y,rfl,a,c⟩
theorem CallRimp{f:Value}{r a:List V->Hp->VK->Prop}(h:CallR X f r)(k:∀xs H Q,a xs H Q->r xs H Q):CallR X f a:=λpins s b H xs us Q I c q=>h pins s b H xs us Q I c (k xs H Q q)
theorem jO{g:D->Sr->Res D}{ds:List D}{S:Sr}{ι:List Addr}{H:Hp}{Q:VK}(p:Pst Den (one g ds S) ι H Q):∃d,ds=[d]/\Pst Den (g d S) ι H Q:=by
 cases ds with
 |nil=>exact(show False from p).elim
 |cons d r =>
  cases r with
  |nil=>exact⟨d,rfl,p⟩
  |cons e r=>exact(show False from p).elim
theorem qfJ{g:D->D->Sr->Res D}{ds:List D}{S:Sr}{ι:List Addr}{H:Hp}{Q:VK}(p:Pst Den (two g ds S) ι H Q):∃d e,ds=[d,e]/\Pst Den (g d e S) ι H Q:=by
 cases ds with
 |nil=>exact(show False from p).elim
 |cons d r =>
  cases r with
  |nil=>exact(show False from p).elim
  |cons e r =>
   cases r with
   |nil=>exact⟨d,e,rfl,p⟩
   |cons f r=>exact(show False from p).elim
theorem qfK{f:Value}{g:D->Sr->Res D}{r:V->Hp->VK->Prop}(h:CallR X f (λxs H Q=>∃x,xs=[x]/\r x H Q))(k:∀ι S d x H Q,Sto ι H S->Den ι H d x->Pst Den (g d S) ι H Q->r x H Q):CallR X f (Gn (one g)):=CallRimp h λxs H Q a=>by
 obtain⟨ι,S,ds,st,hd,p⟩:=a
 obtain⟨d,rfl,p⟩:=jO p
 .skip
  obtain⟨x,rfl,hx⟩:=dens1 hd
  exact⟨x,rfl,k ι S d x H Q st hx p⟩
theorem qfL{f:Value}{g:D->D->Sr->Res D}{r:V->V->Hp->VK->Prop}(h:CallR X f (λxs H Q=>∃x y,xs=[x,y]/\r x y H Q))(k:∀ι S d e x y H Q,Sto ι H S->Den ι H d x->Den ι H e y->Pst Den (g d e S) ι H Q->r x y H Q):CallR X f (Gn (two g)):=CallRimp h λxs H Q a=>by
 obtain⟨ι,S,ds,st,hd,p⟩:=a
 obtain⟨d,e,rfl,p⟩:=qfJ p
 .skip
  obtain⟨x,y,rfl,hx,b⟩:=dens2 hd
  exact⟨x,y,rfl,k ι S d e x y H Q st hx b p⟩
theorem qlu:CallR X (.builtin "len") (Gn (one bLen)) :=
 qfK (r:=λx H Q=>(∃n,LenV X.K x H n/\Q (.int n) H)\/∃a kvs,x=V.ref a/\H a=some (.dT kvs)/\Q (.int kvs.length) H) (CallRimp (qfc.or qev) λxs H Q ⟨x,e,h⟩=>h.elim (λ⟨n,b,f⟩=>.inl ⟨x,n,e,b,f⟩) λ⟨a,kvs,b,f,j⟩=>.inr ⟨a,kvs,by rw[e,b],f,j⟩) λι S d x H Q st hx p=>by
  obtain⟨r,e,q⟩:=Pst.ofO p st
  cases z:lenD S d with
  |none=>rw[z]at e;cases e
  |some n =>
   rw[z]at e;cases e
   have fin:=q _ ι H (Stp.refl _ _) st rfl
   cases d with
   |str y =>
    cases (show x=_ from hx)
    simp only[lenD]at z
    split at z
    .cases z;exact .inl ⟨_,⟨by assumption,rfl⟩,fin⟩
    .cases z
   |tup l =>
    cases z
    obtain⟨a,xs,rfl,_,ha,c⟩:=hx
    exact .inl ⟨_,.inr ⟨xs,.inl (.inl ha),c.length⟩,fin⟩
   |lst l =>
    cases z
    obtain⟨a,xs,rfl,_,ha,c⟩:=hx
    exact .inl ⟨_,.inl ⟨xs,.inl ha,c.length⟩,fin⟩
   |ref k =>
    simp only[lenD]at z
    split at z
    .rename_i l i
     cases z
     obtain⟨a,rfl,ha⟩:=hx
     obtain⟨_,xs,b,c⟩:=st.obj k a _ ha i
     exact .inl ⟨_,.inl ⟨xs,.inl (.inl b),c.length⟩,fin⟩
    .rename_i l i
     cases z
     obtain⟨a,rfl,ha⟩:=hx
     obtain⟨_,kvs,b,c⟩:=st.obj k a _ ha i
     exact .inr ⟨a,kvs,rfl,b,by rw[<-c.length];exact fin⟩
    .cases z
    .cases z
   |_=>cases z
theorem qlv:CallR X (.builtin "abs") (Gn (one bAbs)) :=
 qfK (r:=λx H Q=>∃i,x=.int i/\Q (.int (if i<0 then -i else i)) H) (CallRimp qfb λxs H Q ⟨x,e,i,a,b⟩=>⟨i,by rw[e,a],b⟩) λι S d x H Q st hx p=>by
  cases d with
  |int i=>cases (show x=_ from hx);exact⟨i,rfl,p _ ι H (Stp.refl _ _) st rfl⟩
  |_=>exact p.elim
theorem qlw(a:X.calm=true):CallR X (.builtin "min") (Gn (two bMin)) :=
 qfL (r:=λx y H Q=>∃i j,x=.int i/\y=.int j/\Q (.int (if j<i then j else i)) H) (CallRimp (qel a) λxs H Q ⟨x,y,e,i,j,b,c,f⟩=>⟨i,j,by rw[e,b,c],f⟩) λι S d e x y H Q st hx h p=>by
  cases d with
  |int i =>
   cases e with
   |int j=>cases (show x=_ from hx);cases (show y=_ from h);exact⟨i,j,rfl,rfl,p _ ι H (Stp.refl _ _) st rfl⟩
   |_=>exact p.elim
  |_=>exact p.elim
theorem qlx(a:X.calm=true):CallR X (.builtin "max") (Gn (two bMax)) :=
 qfL (r:=λx y H Q=>∃i j,x=.int i/\y=.int j/\Q (.int (if j>i then j else i)) H) (CallRimp (qek a) λxs H Q ⟨x,y,e,i,j,b,c,f⟩=>⟨i,j,by rw[e,b,c],f⟩) λι S d e x y H Q st hx h p=>by
  cases d with
  |int i =>
   cases e with
   |int j=>cases (show x=_ from hx);cases (show y=_ from h);exact⟨i,j,rfl,rfl,p _ ι H (Stp.refl _ _) st rfl⟩
   |_=>exact p.elim
  |_=>exact p.elim
theorem qaY:CallR X (.builtin "divmod") (λxs H Q=>∃x y,xs=[x,y]/\∃i j,x=.int i/\y=.int j/\divOk i j=true/\∀p,H p=none->Q (.ref p) (upd H p (.tup [.int (i.fdiv j),.int (i.fmod j)]))):=by
 intro pins s a H xs us Q I r h
 obtain⟨x,y,rfl,i,j,rfl,rfl,hd,q⟩:=h
 obtain⟨u,c,rfl,⟨t,rfl⟩,⟨t',rfl⟩⟩:=vals2 r
 simp only[divOk,wV,u3,vC]at hd
 refine divmod_int hd.1 ?_ (.inl hd.2)
 have hn:H s.heap.objs.size=none:=I.hok.fresh (wG _)
 refine⟨.ref s.heap.objs.size,_,?_,rfl,q _ hn⟩
 refine I.laid (λb o e=>wB _ e) (wG _) ⟨by simp only[wX,w1];rw[vJ];decide,[.int (i.fdiv j) s.toks,.int (i.fmod j) (s.toks+1)],.cons ⟨_,rfl⟩ (.cons ⟨_,rfl⟩ .nil),?_⟩
 exact⟨⟨_,wE s.heap rfl,rfl,0,rfl⟩,yp _ _⟩
theorem qfM:CallR X (.builtin "divmod") (Gn (two bDivmod)) :=
 qfL qaY λι S d e x y H Q st hx a p=>by
  cases d with
  |int i =>
   cases e with
   |int j =>
    cases (show x=_ from hx);cases (show y=_ from a)
    simp only[bDivmod]at p
    split at p
    .rename_i hd
     exact⟨i,j,rfl,rfl,hd,qR (l:=[.int (i.fdiv j),.int (i.fmod j)]) (xs:=[.int (i.fdiv j),.int (i.fmod j)]) st ⟨_,_,rfl,rfl,_,_,rfl,rfl,rfl⟩ p⟩
    .exact p.elim
   |_=>exact p.elim
  |_=>exact p.elim
theorem qh4:CallR X (.type "tuple") (Gn (one bTuple)) :=
 qfK (r:=λx H Q=>∃p ys,x=.ref p/\((SqL X.K H p ys/\∀l,H l=none->Q (.ref l) (upd H l (.tup ys)))\/(SqT X.K H p ys/\Q (.ref p) H))) (CallRimp qal λxs H Q ⟨x,e,p,ys,c,f⟩=>⟨p,ys,by rw[e,c],f⟩) λι S d x H Q st hx p=>by
  obtain⟨r,e,q⟩:=Pst.ofO p st
  cases z:seqOf S d with
  |none=>rw[z]at e;cases e
  |some l =>
   rw[z]at e;cases e
   cases d with
   |tup h =>
    cases z
    obtain⟨a,xs,rfl,hn,ha,b⟩:=hx
    exact⟨a,xs,rfl,.inr ⟨.inl (.inl ha),q _ ι H (Stp.refl _ _) st ⟨a,xs,rfl,hn,ha,b⟩⟩⟩
   |lst h =>
    cases z
    obtain⟨a,xs,rfl,hn,ha,b⟩:=hx
    exact⟨a,xs,rfl,.inl ⟨.inl ha,qR st b q⟩⟩
   |ref k =>
    obtain⟨a,xs,rfl,i,b⟩:=qY st (show lstOf S (.ref k)=some l from z) hx
    exact⟨a,xs,rfl,.inl ⟨.inl i,qR st b q⟩⟩
   |_=>cases z
theorem qfN{pins:List (Addr×Obj)}{p:St}{H:Hp}{s:Shared}{A:Around}{a:Addr}{xs:List V}(I:Inv X pins p H s)(r:A.handled=none)(j:Rd H a (.lst xs)\/H a=some (.tup xs)):
  ∃its:List Value,Vals xs its/\∀(E:Value->Shared->Prop) (Q:Value->Shared->Prop),
   (∀(It:Addr) (fp wr:List Addr) (l:Nat->Heap->Prop) (c:Shared),Walks X.prog X.w A It fp wr its.length (λi v=>its[i]?=some v) l->l 0 c.heap->(∀b∈fp,b<c.heap.objs.size) ->
    (∀h' tk,(∀b o,b∉wr->c.heap.get? b=some o->h'.get? b=some o)->Inv X pins p H {c with heap:=h',toks:=tk})->Q (.ref It) c) ->
   wpAny (model X.prog X.w) A (pyIter (.ref a)) Q E s:=by
 have base:∀(o:Obj) (h':Heap) (tk:Nat),(∀b x,b∉[s.heap.objs.size]->(s.heap.push o).get? b=some x->h'.get? b=some x)->Inv X pins p H {s with heap:=h',toks:=tk}:=λo h' tk m =>
  I.kept λb u e=>m b u (λhm=>by rw[wM.mp hm]at e;exact vI _ (wF e)) (wB _ e)
 rcases j with j|j
 .obtain ⟨its,q,f,hz⟩:=jK I j
  refine⟨its,q,λE Q k=>um f ?_⟩
  have d:a<s.heap.objs.size:=by obtain⟨_,e,_⟩:=f;exact wF e
  have W:=Walks.list (prog:=X.prog) (w:=X.w) (A:=A) r s.heap.objs.size a (wT d) its.toArray
  refine k s.heap.objs.size [s.heap.objs.size,a] [s.heap.objs.size] (λi h=>h.IsListIter s.heap.objs.size a i/\h.IsList a its.toArray) _ (by simpa using W) ⟨⟨_,wE _ rfl,rfl,rfl⟩,f.push _⟩ (λb n=>?_) (λh' tk m=>base _ h' tk m)
  simp only[wN,ve,xj]at n
  have e1:=wt s.heap
  rcases n with rfl|rfl
  .exact xP (uM _) (e1 _).symm
  .exact xP (vQ d) (e1 _).symm
 .obtain ⟨its,q,f,hz⟩:=yf I j
  refine⟨its,q,λE Q k=>xM f ?_⟩
  have d:a<s.heap.objs.size:=by obtain⟨_,e,_⟩:=f;exact wF e
  have W:=Walks.tuple (prog:=X.prog) (w:=X.w) (A:=A) r s.heap.objs.size a (wT d) its.toArray
  refine k s.heap.objs.size [s.heap.objs.size,a] [s.heap.objs.size] (λi h=>h.IsTupleIter s.heap.objs.size a i/\h.IsTuple a its.toArray) _ (by simpa using W) ⟨⟨_,wE _ rfl,rfl,rfl⟩,f.push _⟩ (λb n=>?_) (λh' tk m=>base _ h' tk m)
  simp only[wN,ve,xj]at n
  have e1:=wt s.heap
  rcases n with rfl|rfl
  .exact xP (uM _) (e1 _).symm
  .exact xP (vQ d) (e1 _).symm
theorem qaz{ι:List Addr}{H:Hp}:∀{l:List D} {xs:List V} {its:List Value} {bs:List Bool},boolsOf l=some bs->Dens ι H l xs->Vals xs its->its=bs.map .bool
 |[],xs,its,b,h,hd,r=>by
  cases h;cases (show xs=[]from hd);cases r;rfl
 | .bl c::l,xs,its,b,h,hd,r=>by
  obtain⟨x,t,rfl,a,d⟩:=hd
  cases (show x=_ from a)
  simp only[boolsOf]at h
  cases z:boolsOf l with
  |none=>rw[z]at h;cases h
  |some bs =>
   rw[z]at h;cases h
   cases r with
   |cons e rt=>cases e;rw[qaz z d rt];rfl
 | .non::_,_,_,_,h,_,_=>by cases h
 | .int _::_,_,_,_,h,_,_=>by cases h
 | .str _::_,_,_,_,h,_,_=>by cases h
 | .tup _::_,_,_,_,h,_,_=>by cases h
 | .lst _::_,_,_,_,h,_,_=>by cases h
 | .emp::_,_,_,_,h,_,_=>by cases h
 | .ref _::_,_,_,_,h,_,_=>by cases h
theorem qcM(bs:List Bool):((List.range bs.length).all λi=>(bs[i]?).getD true)=bs.all id:=by
 rw[uj,vU,vU]
 constructor
 .intro h b c
  obtain⟨i,hi,e⟩:=v5 c
  have:=h i (uA.mpr hi)
  simpa[wD hi,e]using this
 .intro h i hi
  have a:=uA.mp hi
  simpa[wD a]using h _ (xA a)
theorem qbL{prog:Program}{w:World}{A:Around}{bs:List Bool}{its:List Value}(e:its=bs.map .bool)(d:Bool):TruthOf prog w A (λi v=>its[i]?=some v) (λi=>(bs[i]?).getD d):=λi v s Q E a f=>by
 subst e
 rw[w4]at a
 cases z:bs[i]? with
 |none=>rw[z]at a;cases a
 |some b =>
  have c:Q ((bs[i]?).getD d) s:=f
  rw[z]at a c
  cases a
  exact vV c
theorem qly(i:X.calm=true):CallR X (.builtin "all") (Gn (one bAll)):=by
 intro pins s C H xs us Q I r h
 obtain⟨ι,S,ds,st,hd,p⟩:=h
 obtain⟨d,rfl,p⟩:=jO p
 .skip
  obtain⟨x,rfl,hx⟩:=dens1 hd
  obtain⟨u,rfl,j⟩:=vals1 r
  obtain⟨E,e,q⟩:=Pst.ofO p st
  cases z:seqOf S d with
  |none=>rw[z]at e;cases e
  |some l =>
   rw[z]at e
   cases z2:boolsOf l with
   |none=>rw[wW,z2]at e;cases e
   |some bs =>
    rw[wW,z2]at e;cases e
    obtain⟨a,xs,rfl,m,n⟩:=yr st z hx
    cases j
    obtain⟨its,o,w⟩:=qfN (A:=X.A.in1) I (I.ok.hd i) m
    have c:=qaz z2 n o
    refine call_all_walk (w _ _ λIt fp wr b f W h0 F v=>⟨It,fp,wr,_,_,b,_,rfl,W,h0,qbL c true,λh' tk y=>?_⟩)
    have B:its.length=bs.length:=by rw[c,wP]
    rw[B,qcM]
    exact⟨.bl (bs.all id),H,v h' tk y,rfl,q _ ι H (Stp.refl _ _) st rfl⟩
end
end R
namespace R
open PySem PySem.Spec L2 SeqAt
open PyProof.Rows hiding St
section
variable{X:Cx}{pos:Pos}
theorem Dens.erase{ι:List Addr}{H:Hp}:∀{ds:List D} {xs:List V} (i:Nat),Dens ι H ds xs->Dens ι H (ds.eraseIdx i) (xs.eraseIdx i)
 |[],_,_,h=>by cases (show _=[]from h);exact(rfl:_=_)
 |d::ds,_,0,h=>by
  obtain⟨x,r,rfl,b,a⟩:=h
  exact a
 |d::ds,_,i+1,h=>by
  obtain⟨x,r,rfl,b,a⟩:=h
  exact⟨x,_,rfl,b,Dens.erase i a⟩
theorem ju{ι:List Addr}{H:Hp}{S:Sr}{n:Nat}{a:Addr}{l:List D}{xs:List V}(st:Sto ι H S)(ha:ι[n]?=some a)(f:refsLts n l=true)(b:Dens ι H l xs):Stp ι H ι (upd H a (.lst xs))/\Sto ι (upd H a (.lst xs)) (S.set n (.lst l)):=by
 have g:=Stp.put (H:=H) (wy ha) (.lst xs)
 exact⟨g,st.put ha ⟨⟨n,ha,f⟩,xs,ql,Dens.mono g l b⟩⟩
theorem qeD{ι:List Addr}{H:Hp}{S:Sr}{x:D}{v:V}{K:PySem.W.Frag}(st:Sto ι H S)(h:isLst S x=true)(hx:Den ι H x v):tyV K "list" v H:=by
 cases x with
 |ref n =>
  obtain⟨a,rfl,ha⟩:=hx
  simp only[isLst]at h
  split at h
  .rename_i l b
   obtain⟨_,xs,c,_⟩:=st.obj n a _ ha b
   exact .inl ⟨rfl,xs,.inl (.inl c)⟩
  .cases h
 |_=>cases h
theorem qcN{o e:Expr}{name:Str}{id:String}{b:Pos}{mo me:En->Sr->Res D}{g:Sr->D->D->Res D}{r:V->List V->Hp->VK->Prop}(slot:Slot "list" name id)(i:typeOf (.builtin id)=pure (.type "method_descriptor"))(hm:MtM X id r)(n:∀ι S x y v u H Q,Sto ι H S->Den ι H x v->Den ι H y u->Pst Den (g S x y) ι H Q->r v [u] H Q)(q:PE X o (T mo))(s:PE X e (T me))(f:starEach [e] X.env=(false,eval e X.env)::starEach [] X.env)(c:attributeBase o name X.env (eval o X.env)=eval o X.env)(d:(b.endLine == pos.line)=true)(h:((backTo pos (starEach [e] X.env)).all (λx=>!x.1)&&(backToKw pos (keywordEach [] X.env)).all (λx=>x.1.isSome)&&decide ([e].length+([]:List Keyword).length+(if([]:List Keyword).isEmpty then 0 else 1)<30))=true)(a:(backTo pos (starEach [] X.env)).any (·.1)=false):
  PE X (.Call (.Attribute o name b) [e] [] pos) (T λρ S=>(mo ρ S).bind λx S1=>if isLst S1 x then(me ρ S1).bind λy S2=>g S2 x y else .no) :=
 PEimp (qlb PySem.F.plainAttrs_list slot i hm q (js s qcu f) c h d f a) λE H Q w=>by
  refine TG.b1 w λι S ρ x v I z st rx p=>?_
  by_cases j:isLst S x=true
  .rw [wL j]at p
   refine⟨qeD st j rx,Pst.tg p z st λy S2 l H2 u s2 A m B C=>?_⟩
   exact n l S2 x y v u H2 Q m (Den.mono s2 x rx) B C
  .rw [wK j]at p;exact p.elim
theorem qlz{ι:List Addr}{S:Sr}{x y:D}{v u:V}{H:Hp}{Q:VK}(st:Sto ι H S)(hx:Den ι H x v)(e:Den ι H y u)(p:Pst Den (popD S x y) ι H Q):rPopAt v [u] H Q:=by
 unfold popD at p
 split at p
 .rename_i n k
  split at p
  .rename_i l f
   split at p
   .rename_i h
    split at p
    .rename_i d hd
     obtain⟨a,rfl,ha⟩:=hx
     cases (show u=_ from e)
     obtain⟨⟨i,j,o⟩,xs,q,c⟩:=st.obj n a _ ha f
     obtain rfl:i=n:=zd st.nd j ha
     obtain⟨z,e1,r⟩:=c.get hd
     have s:k.toNat<xs.length:=(wO.mp e1).1
     obtain⟨g,b⟩:=ju st ha (zS λd m=>zh o (List.mem_of_mem_eraseIdx m)) (Dens.erase k.toNat c)
     refine⟨a,xs,k,k.toNat,z,rfl,rfl,q,?_,?_,?_,e1,p z ι _ g b (Den.mono g d r)⟩
     .lia
     .lia
     .exact seqIndex_of h.1 (by lia)
    .exact p.elim
   .exact p.elim
  .exact p.elim
 .exact p.elim
theorem qiY{ι:List Addr}{S:Sr}{x y:D}{v u:V}{H:Hp}{Q:VK}(st:Sto ι H S)(hx:Den ι H x v)(d:Den ι H y u)(p:Pst Den (appD S x y) ι H Q):rAppend v [u] H Q:=by
 unfold appD at p
 split at p
 .rename_i n
  split at p
  .rename_i l e
   split at p
   .rename_i hz
    obtain⟨a,rfl,ha⟩:=hx
    obtain⟨⟨f,h,i⟩,xs,j,c⟩:=st.obj n a _ ha e
    obtain rfl:f=n:=zd st.nd h ha
    obtain⟨g,b⟩:=ju st ha (by rw[z9,i];simp[refsLts,zk _ hz.2]) (c.snoc d)
    exact⟨a,xs,u,rfl,rfl,j,by rw[<-c.length];exact hz.1,p .non ι _ g b rfl⟩
   .exact p.elim
  .exact p.elim
 .exact p.elim
noncomputable def TGt(m:D->En->Sr->Res En):L2.TG:=λv a H Q=>∃ι S ρ d,EnR ι H ρ a/\Sto ι H S/\Den ι H d v/\Pst EnR (m d ρ S) ι H Q
noncomputable def TGts(m:List D->En->Sr->Res En):TGs:=λvs a H Q=>∃ι S ρ ds,EnR ι H ρ a/\Sto ι H S/\Dens ι H ds vs/\Pst EnR (m ds ρ S) ι H Q
theorem PGimp{tg:Expr}{t t':L2.TG}(h:PG X tg t)(k:∀v a H Q,t' v a H Q->t v a H Q):PG X tg t':=λpins s a H v u Q I r b=>h pins s a H v u Q I r (k v a H Q b)
theorem PGsimp{ts:List Expr}{t t':TGs}(h:PGs X ts t)(k:∀v a H Q,t' v a H Q->t v a H Q):PGs X ts t':=λpins s a H v u Q I r b=>h pins s a H v u Q I r (k v a H Q b)
theorem qlA{i:Nat}{tg:Expr}(h:PG X tg (gName i)):PG X tg (TGt λd ρ S=>.ok (ρ.set i (some d)) S):=PGimp h λv c H Q a=>by
 obtain⟨ι,S,ρ,d,b,st,hd,p⟩:=a
 exact p _ ι H (Stp.refl _ _) st (b.set hd)
theorem qlB:PGs X [] (TGts λl ρ S=>match l with|[]=>.ok ρ S|_=>.no):=PGsimp qhz λvs c H Q a=>by
 obtain⟨ι,S,ρ,ds,b,st,hd,p⟩:=a
 cases ds with
 |nil=>exact⟨hd,p _ ι H (Stp.refl _ _) st b⟩
 |cons=>exact p.elim
theorem qjX{e:Expr}{es:List Expr}{m:D->En->Sr->Res En}{f:List D->En->Sr->Res En}(h:PG X e (TGt m))(i:PGs X es (TGts f))(j:(assignEach (e::es) X.env).map (·.2)=assign e X.env::(assignEach es X.env).map (·.2)):
  PGs X (e::es) (TGts λl ρ S=>match l with|d::r=>(m d ρ S).bind λρ1 S1=>f r ρ1 S1|[]=>.no):=PGsimp (qe4 h i j) λvs y H Q n=>by
 obtain⟨ι,S,ρ,ds,o,st,hd,p⟩:=n
 cases ds with
 |nil=>exact p.elim
 |cons d r =>
  obtain⟨v,q,rfl,s,u⟩:=hd
  refine⟨v,q,rfl,ι,S,ρ,d,o,st,s,Pst.bind p λρ1 S1 a z w s1 b c x=>?_⟩
  exact⟨a,S1,ρ1,r,c,b,Dens.mono s1 r u,x⟩
theorem qlC{es:List Expr}{k n:Nat}{c:List D->En->Sr->Res En}(j:X.calm=true)(h:PGs X es (TGts c))(hn:(assignEach es X.env).length=n)(e:(assignEach es X.env).findIdx? (·.1)=none)(m:∀l ρ S b f,c l ρ S=.ok b f->l.length=n):PG X (.Tuple es k pos) (TGt λd ρ S=>match d with|.tup l=>c l ρ S|_=>.no):=PGimp (qjr j h hn e) λv r H Q o=>by
 obtain⟨ι,S,ρ,d,q,st,hd,p⟩:=o
 cases d with
 |tup l =>
  obtain⟨a,xs,rfl,_,ha,i⟩:=hd
  refine⟨a,xs,rfl,.inl (.inl ha),?_,ι,S,ρ,l,q,st,i,p⟩
  rw[<-i.length]
  cases z:c l ρ S with
  |ok b f=>exact m l ρ S b f z
  |no=>simp only[z]at p;exact p.elim
  |err=>simp only[z]at p;exact p.elim
 |_=>exact p.elim
theorem qbM(b:X.A.units+1<cLine):PSet X (λo i v H Q=>∃a H',o=.ref a/\DPut H a i v H'/\Q H'):=by
 intro pins s f H o i v j l u Q I c ri d h
 obtain⟨a,H',rfl,g,q⟩:=h
 cases c
 exact qer b I g ri d λm e=>⟨H',e,q⟩
theorem qfO(P:X.A.units+1<cLine){pins:List (Addr×Obj)}{s:Shared}{p:St}{H:Hp}{a:Addr}{i v:V}{r B u:Value}{Q:Hp->Prop}{ι:List Addr}{S R:Sr}{n:Nat}{y d:D}(I:Inv X pins p H s)(K:RelV (.ref a) r)(ri:RelV i B)(L:RelV v u)(st:Sto ι H S)(ha:ι[n]?=some a)(h:refsLt 0 d=true)(M:Den ι H y i)(hd:Den ι H d v)(e:putN S n y d=some R)(q:∀C H',Stp ι H C H'->Sto C H' R->Q H'):wpAny (model X.prog X.w) X.A (setItem r B u) (λ_ s'=>∃H',Inv X pins p H' s'/\Q H') X.xe s:=by
 unfold putN at e
 split at e
 .rename_i l E
  obtain⟨⟨U,W,F⟩,xs,J,c⟩:=st.obj n a _ ha E
  obtain rfl:U=n:=zd st.nd W ha
  split at e
  .rename_i k
   cases (show i=_ from M)
   cases z:ixN l.length k with
   |none=>rw[z]at e;cases e
   |some j =>
    rw[z]at e;cases e
    obtain⟨g,N⟩:=ju st ha (zS λx m=>(List.mem_or_eq_of_mem_set m).elim (λz=>zh F z) λz=>z ▸ zk _ h) (c.set hd j)
    exact qfg pins s p H _ _ v r B u Q I K ri L ⟨a,xs,k,j,rfl,rfl,J,by rw[<-c.length];exact z,q ι _ g N⟩
  .cases e
 .rename_i l E
  obtain⟨F,kvs,J,c⟩:=st.obj n a _ ha E
  split at e
  .rename_i ks
   cases z:intsOf ks with
   |none=>rw[z]at e;cases e
   |some k =>
    rw[z,wW]at e
    split at e
    .rename_i o
     cases e
     cases intsOf_eq z
     obtain⟨b,ys,rfl,_,Y,Z⟩:=M
     cases dens_ints Z
     have g:=Stp.put (H:=H) (wy ha) (.dT (putK kvs (keyT k) v))
     refine qbM P pins s p H _ _ v r B u Q I K ri L ⟨a,_,rfl,DPut.t (k:=keyT k) J (by rw[qaX];exact Y) ?_,q ι _ g (st.put ha ⟨yR h F,_,ql,jt jM (Den.mono g d hd) (DGs.mono g c)⟩)⟩
     have O:kvs.length<1000:=by rw[<-c.length];exact o
     exact w6 O (by rw[vJ];decide)
    .cases e
  .cases e
 .rename_i l E
  obtain⟨F,kvs,J,c⟩:=st.obj n a _ ha E
  cases z:keyD y with
  |none=>rw[z]at e;cases e
  |some k =>
   rw[z,wW]at e
   split at e
   .rename_i o
    cases e
    cases key_den z M
    have g:=Stp.put (H:=H) (wy ha) (.dK (putK kvs k v))
    refine qbM P pins s p H _ _ v r B u Q I K ri L ⟨a,_,rfl,DPut.k (k:=k) J ?_,q ι _ g (st.put ha ⟨yR h F,_,ql,jt (f:=id) Iff.rfl (Den.mono g d hd) (DGs.mono g c)⟩)⟩
    have O:kvs.length<1000:=by rw[<-c.length];exact o
    exact w6 O (by rw[vJ];decide)
   .cases e
 .cases e
theorem qds(j:X.A.units+1<cLine):PSet X (λo i v H Q=>∃ι S x y d f,Sto ι H S/\Den ι H x o/\Den ι H y i/\Den ι H d v/\putE S x y d=some f/\∀c H',Stp ι H c H'->Sto c H' f->Q H'):=by
 intro pins s r H o i v w z u Q I l ri m h
 obtain⟨ι,S,x,y,d,f,st,hx,p,hd,e,q⟩:=h
 unfold putE at e
 by_cases b:refsLt 0 d=true
 .rw [wL b]at e
  split at e
  .rename_i n
   obtain⟨a,rfl,ha⟩:=hx
   exact qfO j I l ri m st ha b p hd e q
  .cases e
 .rw [wK b]at e;cases e
theorem qlD{o i:Expr}{mo mi:En->Sr->Res D}(r:X.A.units+1<cLine)(s:PE X o (T mo))(hi:PE X i (T mi))(ha:∀v,assign (.Subscript o i pos) X.env v=(do
   let a <-holding [v] (eval o X.env)
   let c <-holding [v,a] (eval i X.env)
   standAt pos
   holding [v,a,c] (setItem a c v)
   release [v,a,c] [])):
  PG X (.Subscript o i pos) (TGt λd ρ S=>(mo ρ S).bind λx S1=>(mi ρ S1).bind λy S2=>match putE S2 x y d with|some e=>.ok ρ e|none=>.no):=PGimp (qjs s hi (qds r) ha) λv u H Q w=>by
 obtain⟨ι,S,ρ,d,B,st,hd,p⟩:=w
 refine Pst.tg (ρ:=ρ) p B st λx S1 C I J s1 f h rx E=>Pst.tg (ρ:=ρ) E f h λy S2 j H2 K s2 l m F b=>?_
 cases z:putE S2 x y d with
 |none=>rw[z]at b;exact b.elim
 |some e =>
  rw[z]at b
  exact⟨j,S2,x,y,d,e,m,Den.mono s2 x rx,F,Den.mono (s1.trans s2) d hd,z,λn H' g q=>b u n H' g q (l.mono g)⟩
def FlOk(f:Fl)(ι:List Addr)(H:Hp)(D:Ends):Prop:=match f with
 | .nx ρ=>∀a,EnR ι H ρ a->D.nx a H
 | .bk ρ=>∀a,EnR ι H ρ a->D.bk a H
 | .ct ρ=>∀a,EnR ι H ρ a->D.ct a H
 | .rt d=>∀v,Den ι H d v->D.rt v H
def PsF(r:Res Fl)(ι:List Addr)(H:Hp)(D:Ends):Prop:=match r with
 | .ok f b=>∀a H',Stp ι H a H'->Sto a H' b->FlOk f a H' D
 | .err _ _=>False
 | .no=>False
theorem PsF.from{r:Res Fl}{ι a:List Addr}{H H':Hp}{D:Ends}(h:PsF r ι H D)(s:Stp ι H a H'):PsF r a H' D:=by
 cases r with
 |ok f S=>exact λb H2 t st=>h b H2 (s.trans t) st
 |err=>exact h
 |no=>exact h
theorem PsF.bind{d i:Type}{R:List Addr->Hp->d->i->Prop}{r:Res d}{f:d->Sr->Res Fl}{ι:List Addr}{H:Hp}{D:Ends}{K:i->Hp->Prop}(h:PsF (r.bind f) ι H D)(k:∀a j c H' b,Stp ι H c H'->Sto c H' j->R c H' a b->PsF (f a j) c H' D->K b H'):Pst R r ι H K:=by
 cases r with
 |ok a S=>exact λb e H2 t st q=>k a S e H2 b t st q (PsF.from h t)
 |err=>exact h
 |no=>exact h
noncomputable def TSm(m:En->Sr->Res Fl):TS:=λD a H=>∃ι S ρ,EnR ι H ρ a/\Sto ι H S/\PsF (m ρ S) ι H D
theorem PSimp{st:Stmt}{t t':TS}(h:PS X st t)(k:∀D a H,t' D a H->t D a H):PS X st t':=λpins s a H D I b=>h pins s a H D I (k D a H b)
theorem PSsimp{st:List Stmt}{t t':TS}(h:PSs X st t)(k:∀D a H,t' D a H->t D a H):PSs X st t':=λpins s a H D I b=>h pins s a H D I (k D a H b)
theorem qlE:PSs X [] (TSm λρ S=>.ok (.nx ρ) S):=PSsimp qhx λD a H b=>by
 obtain⟨ι,S,ρ,c,st,p⟩:=b
 exact p ι H (Stp.refl _ _) st a c
theorem qjY{st:Stmt}{rest:List Stmt}{m i:En->Sr->Res Fl}(j:PS X st (TSm m))(l:PSs X rest (TSm i)):
  PSs X (st::rest) (TSm λρ S=>(m ρ S).bind λf S1=>match f with|.nx ρ1=>i ρ1 S1|f=>.ok f S1):=PSsimp (qe2 j l) λD r H n=>by
 obtain⟨ι,S,ρ,o,st,p⟩:=n
 refine⟨ι,S,ρ,o,st,?_⟩
 dsimp only at p
 cases z:m ρ S with
 |no=>rw[z]at p;exact p
 |err=>rw[z]at p;exact p
 |ok f S1 =>
  rw[z]at p
  intro b h s1 c
  cases f with
  |nx ρ1=>exact λe a=>⟨b,S1,ρ1,a,c,PsF.from p s1⟩
  |bk ρ1=>exact λe a=>p b h s1 c e a
  |ct ρ1=>exact λe a=>p b h s1 c e a
  |rt d=>exact λv q=>p b h s1 c v q
theorem qjZ{e:Expr}{m:En->Sr->Res D}(h:PE X e (T m))(i:swapsWith e none pos.line X.env=pure false):PS X (.Expr e pos) (TSm λρ S=>(m ρ S).bind λ_ S1=>.ok (.nx ρ) S1):=PSimp (qhy h i) λD j H l=>by
 obtain⟨ι,S,ρ,f,st,p⟩:=l
 exact⟨ι,S,ρ,f,st,PsF.bind p λa S1 c n b s1 d q o=>o c n (Stp.refl _ _) d j (f.mono s1)⟩
theorem qlF{e:Expr}{m:En->Sr->Res D}(h:PE X e (T m)):PS X (.Return (some e) pos) (TSm λρ S=>(m ρ S).bind λd S1=>.ok (.rt d) S1):=PSimp (qjq h) λD q H i=>by
 obtain⟨ι,S,ρ,j,st,p⟩:=i
 exact⟨ι,S,ρ,j,st,PsF.bind p λa S1 c l b s1 f n o=>o c l (Stp.refl _ _) f b n⟩
theorem qh5{st:Stmt}:PS X st (TSm λ_ _=>.no):=PSimp qe3 λD b H a=>by
 obtain⟨ι,S,ρ,c,st,p⟩:=a
 exact p
theorem s_if{c:Expr}{a b:List Stmt}{h:En->Sr->Res Bool}{i mb:En->Sr->Res Fl}(l:PT X c (TB h))(ha:PSs X a (TSm i))(m:PSs X b (TSm mb)):
  PS X (.If c a b pos) (TSm λρ S=>(h ρ S).bind λt S1=>if t then i ρ S1 else mb ρ S1):=PSimp (qk3 l ha m) λD q H n=>by
 obtain⟨ι,S,ρ,f,st,p⟩:=n
 refine⟨ι,S,ρ,f,st,PsF.bind p λa S1 d r b s1 e o j=>?_⟩
 cases (show a=b from o)
 cases a with
 |true=>rw[wL rfl];exact⟨d,S1,ρ,f.mono s1,e,j⟩
 |false=>rw[wK (by decide)];exact⟨d,S1,ρ,f.mono s1,e,j⟩
theorem qiZ{tg e:Expr}{m:En->Sr->Res D}{g:D->En->Sr->Res En}(h:PS X (.Assign [tg] e pos) (tAsg (T m) (TGt g))):
  PS X (.Assign [tg] e pos) (TSm λρ S=>(m ρ S).bind λd S1=>(g d ρ S1).bind λρ1 S2=>.ok (.nx ρ1) S2):=PSimp h λD r H n=>by
 obtain⟨ι,S,ρ,l,st,p⟩:=n
 refine⟨ι,S,ρ,l,st,PsF.bind p λd S1 a s v s1 b rd o=>?_⟩
 refine⟨a,S1,ρ,d,l.mono s1,b,rd,PsF.bind o λρ1 S2 c H2 f s2 i j q=>?_⟩
 exact q c H2 (Stp.refl _ _) i f j
theorem qh6{c:Expr}{body:List Stmt}{n:En->Sr->Res Bool}{mb:En->Sr->Res Fl}{N:Nat}(x:PassesOwn (model X.prog X.w) X.A X.env X.xe)(y:PT X c (TB n))(B:PSs X body (TSm mb)):
  PS X (.While c body [] pos) (TSm λρ S=>whileLoop n mb N ρ S):=PSimp (qe5 x y B) λD u H C=>by
 obtain⟨ι,S,ρ,o,st,p⟩:=C
 refine⟨λm u H=>∃ι S ρ,EnR ι H ρ u/\Sto ι H S/\PsF (whileLoop n mb m ρ S) ι H D,⟨N,ι,S,ρ,o,st,p⟩,?_⟩
 rintro m u H ⟨ι,S,ρ,o,st,p⟩
 cases m with
 |zero=>exact p.elim
 |succ m =>
  refine⟨ι,S,ρ,o,st,PsF.bind (show PsF ((n ρ S).bind _) ι H D from p) λa S1 q E b s1 r F h=>?_⟩
  cases (show a=b from F)
  cases a with
  |false=>exact h q E (Stp.refl _ _) r u (o.mono s1)
  |true =>
   refine⟨λs H'=>∃ι S ρ,EnR ι H' ρ s/\Sto ι H' S/\PsF (whileLoop n mb m ρ S) ι H' D,λs H' h'=>⟨m,uM _,h'⟩,q,S1,ρ,o.mono s1,r,?_⟩
   cases z:mb ρ S1 with
   |no=>simp only[z,vd]at h;exact h
   |err=>simp only[z,vd]at h;exact h
   |ok f S2 =>
    simp only[z,vd,Res.bind_ok]at h
    intro i H2 s2 j
    cases f with
    |nx ρ1=>exact λl e=>⟨i,S2,ρ1,e,j,PsF.from h s2⟩
    |ct ρ1=>exact λl e=>⟨i,S2,ρ1,e,j,PsF.from h s2⟩
    |bk ρ1=>exact λl e=>h i H2 s2 j l e
    |rt d=>exact λv I=>h i H2 s2 j v I
end
end R
namespace R
open PySem PySem.Spec L2 SeqAt
open PyProof.Rows hiding St
structure ItOk (ι:List Addr) (H:Hp) (J:It) (ds:List D):Prop where
 go:∀(i:Nat) (d:D) (ι2:List Addr) (H2:Hp),Stp ι H ι2 H2->ds[i]?=some d->J.go i H2/\∀x H3,J.yld i H2 x H3->Stp ι2 H2 ι2 H3/\∀S,Sto ι2 H2 S->Sto ι2 H3 S/\Den ι2 H3 d x
 stop:∀(ι2:List Addr) (H2:Hp),Stp ι H ι2 H2->J.stop ds.length H2
theorem qfP{ι:List Addr}{H:Hp}{K:PySem.W.Frag}{a:Addr}{xs:List V}{ds:List D}(n:a∉ι)(h:Rd H a (.lst xs))(f:Dens ι H ds xs):ItOk ι H (Itl K a) ds where
 go:=λi d b H2 s e=>by
  obtain⟨x,e1,l⟩:=(Dens.mono s ds f).get e
  obtain⟨j,m⟩:=s.rd h n
  refine⟨⟨xs,x,.inl j,e1⟩,λy H3 c=>?_⟩
  obtain⟨rfl,c⟩:=c
  have:=c xs (.inl j)
  rw[e1]at this;cases this
  exact⟨Stp.refl _ _,λ_ z=>⟨z,l⟩⟩
 stop:=λb H2 s=>⟨xs,.inl (s.rd h n).1,Nat.le_of_eq f.length.symm⟩
theorem qfQ{ι:List Addr}{H:Hp}{K:PySem.W.Frag}{a:Addr}{xs:List V}{ds:List D}(n:a∉ι)(h:H a=some (.tup xs))(f:Dens ι H ds xs):ItOk ι H (Itt K a) ds where
 go:=λi d b H2 s e=>by
  obtain⟨x,e1,l⟩:=(Dens.mono s ds f).get e
  have j:=s.keep _ _ h n trivial
  refine⟨⟨xs,x,.inl (.inl j),e1⟩,λy H3 c=>?_⟩
  obtain⟨rfl,c⟩:=c
  have:=c xs (.inl (.inl j))
  rw[e1]at this;cases this
  exact⟨Stp.refl _ _,λ_ z=>⟨z,l⟩⟩
 stop:=λb H2 s=>⟨xs,.inl (.inl (s.keep _ _ h n trivial)),Nat.le_of_eq f.length.symm⟩
structure ItG (ι:List Addr) (H:Hp) (J:It) (ds:List D) (gd:Sr->Prop):Prop where
 go:∀(i:Nat) (d:D) (ι2:List Addr) (H2:Hp) (S2:Sr),Stp ι H ι2 H2->Sto ι2 H2 S2->gd S2->ds[i]?=some d->J.go i H2/\∀x H3,J.yld i H2 x H3->Stp ι2 H2 ι2 H3/\∀S,Sto ι2 H2 S->Sto ι2 H3 S/\Den ι2 H3 d x
 stop:∀(ι2:List Addr) (H2:Hp) (S2:Sr),Stp ι H ι2 H2->Sto ι2 H2 S2->gd S2->J.stop ds.length H2
theorem ItG.mono{ι b:List Addr}{H H':Hp}{J:It}{ds:List D}{gd:Sr->Prop}(h:ItG ι H J ds gd)(s:Stp ι H b H'):ItG b H' J ds gd :=
 ⟨λi d a H2 S2 t st g e=>h.go i d a H2 S2 (s.trans t) st g e,λa H2 S2 t st g=>h.stop a H2 S2 (s.trans t) st g⟩
theorem ItOk.g{ι:List Addr}{H:Hp}{J:It}{ds:List D}(h:ItOk ι H J ds):ItG ι H J ds λ_=>True :=
 ⟨λi d a H2 _ t _ _ e=>h.go i d a H2 t e,λa H2 _ t _ _=>h.stop a H2 t⟩
theorem qh7{ι:List Addr}{H:Hp}{K:PySem.W.Frag}{a:Addr}{n:Nat}{l:List D}(h:ι[n]?=some a):ItG ι H (Itl K a) l (own n l) where
 go:=λi d b H2 S2 s st g e=>by
  obtain⟨_,xs,ha,c⟩:=st.obj n a _ (s.get h) g
  obtain⟨x,e1,j⟩:=c.get e
  refine⟨⟨xs,x,.inl (.inl ha),e1⟩,λy H3 f=>?_⟩
  obtain⟨rfl,f⟩:=f
  have:=f xs (.inl (.inl ha))
  rw[e1]at this;cases this
  exact⟨Stp.refl _ _,λ_ z=>⟨z,j⟩⟩
 stop:=λb H2 S2 s st g=>by
  obtain⟨_,xs,ha,c⟩:=st.obj n a _ (s.get h) g
  exact⟨xs,.inl (.inl ha),Nat.le_of_eq c.length.symm⟩
noncomputable def TIg(m:En->Sr->Res (List D×(Sr->Prop))):TI:=λb H R=>∃ι S ρ,EnR ι H ρ b/\Sto ι H S/\match m ρ S with
 | .ok p c=>∀a H' J,Stp ι H a H'->Sto a H' c->ItG a H' J p.1 p.2->R J H'
 | .err _ _=>False
 | .no=>False
noncomputable def TIt(m:En->Sr->Res (List D)):TI:=λb H R=>∃ι S ρ,EnR ι H ρ b/\Sto ι H S/\match m ρ S with
 | .ok ds c=>∀a H' J,Stp ι H a H'->Sto a H' c->ItOk a H' J ds->R J H'
 | .err _ _=>False
 | .no=>False
section
variable{X:Cx}{pos:Pos}{tg:Expr}
theorem PIimp{iter:Expr}{t t':TI}(h:PI X tg iter t)(k:∀a H R,t' a H R->t a H R):PI X tg iter t':=λpins s a H R I b=>h pins s a H R I (k a H R b)
theorem qcO{l:Expr}{tl:TE}(n:PE X l tl):PI X tg l (λf H R=>tl f H λx d=>(∃a,x=.ref a/\(∃xs,SqL X.K d a xs)/\R (Itl X.K a) d)\/(∃a,x=.ref a/\(∃xs,SqT X.K d a xs)/\R (Itt X.K a) d)):=by
 intro pins s f H R I h
 refine thn (n pins s f H _ I h) λv s1 ⟨x,d,c,m,q1⟩=>?_
 rcases q1 with ⟨a,e,⟨xs,i⟩,q⟩|⟨a,e,⟨xs,i⟩,q⟩
 .subst e
  cases m
  obtain⟨its,r,p,hz⟩:=c.list i
  refine um p.isList ?_
  refine⟨s1.heap.objs.size,[s1.heap.objs.size],_,_,d,rfl,c.kept (t':=s1.toks) λb o e=>wB _ e,qei a _,⟨_,wE _ rfl,rfl,rfl⟩,λb j=>?_,q⟩
  have e:b=s1.heap.objs.size:=by simpa using j
  subst e
  exact c.fpOk (wG _) (c.hok.fresh (wG _))
 .subst e
  cases m
  obtain⟨its,r,p,hz⟩:=c.tuple i
  refine xM (show s1.heap.IsTuple a its.toArray from p) ?_
  refine⟨s1.heap.objs.size,[s1.heap.objs.size],_,_,d,rfl,c.kept (t':=s1.toks) λb o e=>wB _ e,qcq a _,⟨_,wE _ rfl,rfl,rfl⟩,λb j=>?_,q⟩
  have e:b=s1.heap.objs.size:=by simpa using j
  subst e
  exact c.fpOk (wG _) (c.hok.fresh (wG _))
noncomputable def mSeq(m:En->Sr->Res D):En->Sr->Res (List D):=λρ S=>(m ρ S).bind λx S1=>match x with
 | .tup l=>.ok l S1
 | .lst l=>.ok l S1
 |_=>.no
theorem qlG{e:Expr}{m:En->Sr->Res D}(h:PE X e (T m)):PI X tg e (TIt (mSeq m)):=PIimp (qcO h) λq H R n=>by
 obtain⟨ι,S,ρ,o,st,p⟩:=n
 refine⟨ι,S,ρ,o,st,?_⟩
 dsimp only[mSeq]at p
 cases z:m ρ S with
 |no=>rw[z]at p;exact p
 |err=>rw[z]at p;exact p
 |ok d S1 =>
  rw[z,Res.bind_ok]at p
  intro v b i s1 c j
  cases d with
  |tup l =>
   obtain⟨a,xs,rfl,hn,ha,f⟩:=j
   exact .inr ⟨a,rfl,⟨xs,.inl (.inl ha)⟩,p b i _ s1 c (qfQ hn ha f)⟩
  |lst l =>
   obtain⟨a,xs,rfl,hn,ha,f⟩:=j
   exact .inl ⟨a,rfl,⟨xs,.inl ha⟩,p b i _ s1 c (qfP hn ha f)⟩
  |_=>exact p.elim
theorem qj0{iter:Expr}{body:List Stmt}{mi:En->Sr->Res (List D×(Sr->Prop))}{g:D->En->Sr->Res En}{mb:En->Sr->Res Fl}(hp:PassesOwn (model X.prog X.w) X.A X.env X.xe)(hc:X.calm=true)(hi:PI X tg iter (TIg mi))(hg:PG X tg (TGt g))(hb:PSs X body (TSm mb))(hs:∀x,foldedSetIterable iter X.env x=pure x):
  PS X (.For tg iter body [] pos) (TSm λρ S=>(mi ρ S).bind λp S1=>endG p.2 (forLoop (λd ρ S=>(grd p.2 S (g d ρ S)).bind λρ1 S1=>mb ρ1 S1) p.1 ρ S1)):=PSimp (qjx hp hc hi hg hb hs) λD K H hw=>by
 obtain⟨ι,S,ρ,U,st,p⟩:=hw
 refine⟨ι,S,ρ,U,st,?_⟩
 dsimp only at p
 cases z:mi ρ S with
 |no=>rw[z]at p;exact p
 |err=>rw[z]at p;exact p
 |ok dg S1 =>
  obtain⟨ds,gd⟩:=dg
  rw[z,Res.bind_ok]at p
  dsimp only at p
  intro q W J s1 L y
  refine⟨λi m K H=>m=ds.length-i/\i<=ds.length/\∃ι S ρ,Stp q W ι H/\EnR ι H ρ K/\Sto ι H S/\PsF (endG gd (forLoop (λd ρ S=>(grd gd S (g d ρ S)).bind λρ1 S1=>mb ρ1 S1) (ds.drop i) ρ S)) ι H D,
   ⟨_,rfl,vH _,q,S1,ρ,Stp.refl _ _,U.mono s1,L,by simpa using PsF.from p s1⟩,?_⟩
  rintro i m K H ⟨rfl,hi,ι,S,ρ,s2,B,h,j⟩
  by_cases r:i<ds.length
  .have hd:ds[i]?=some ds[i]:=wD r
   rw[u7 r]at j
   have b:gd S:=by
    apply Classical.byContradiction
    intro hn
    simp only[forLoop,yd hn,Res.bind_no,endG]at j
    exact j
   obtain⟨go,yl⟩:=y.go i _ ι H S s2 h b hd
   refine .inr ⟨go,λC H'=>∃ι S ρ,Stp q W ι H'/\EnR ι H' ρ C/\Sto ι H' S/\PsF (endG gd (forLoop (λd ρ S=>(grd gd S (g d ρ S)).bind λρ1 S1=>mb ρ1 S1) (ds.drop (i+1)) ρ S)) ι H' D,λC H' h'=>⟨_,by omega,rfl,r,h'⟩,λx H3 hy=>?_⟩
   obtain⟨M,N⟩:=yl x H3 hy
   obtain⟨k3,d3⟩:=N S h
   refine⟨ι,S,ρ,ds[i],B.mono M,k3,d3,?_⟩
   have s:=PsF.from j M
   simp only[forLoop,zq b]at s
   cases z2:g ds[i] ρ S with
   |no=>simp only[z2,endG,Res.bind_no]at s;exact s
   |err=>simp only[z2,endG,Res.bind_err]at s;exact s
   |ok E Y =>
    rw[z2,Res.bind_ok]at s
    intro a0 O H4 Z P Q
    refine⟨O,Y,E,Q,P,?_⟩
    have a:=PsF.from s Z
    cases z3:mb E Y with
    |no=>simp only[z3,endG,Res.bind_no]at a;exact a
    |err=>simp only[z3,endG,Res.bind_err]at a;exact a
    |ok f R =>
     rw[z3,Res.bind_ok]at a
     intro l H5 F n
     have tot:=((s2.trans M).trans Z).trans F
     cases f with
     |nx o=>exact λu c=>⟨l,R,o,tot,c,n,PsF.from a F⟩
     |ct o=>exact λu c=>⟨l,R,o,tot,c,n,PsF.from a F⟩
     |bk o =>
      by_cases I:gd R
      .simp only[endG,Res.bind_ok,zq I]at a
       exact λu c=>a l H5 F n u c
      .simp only[endG,Res.bind_ok,yd I]at a
       exact a.elim
     |rt d=>exact λv hv=>a l H5 F n v hv
  .have e:i=ds.length:=by omega
   subst e
   rw[ul (wG _)]at j
   have b:gd S:=by
    apply Classical.byContradiction
    intro hn
    simp only[forLoop,Res.bind_ok,endG,yd hn]at j
    exact j
   simp only[forLoop,Res.bind_ok,endG,zq b]at j
   refine .inl ⟨y.stop ι H S s2 h b,?_⟩
   exact j ι H (Stp.refl _ _) h K B
theorem pi_g{iter:Expr}{mi:En->Sr->Res (List D)}(h:PI X tg iter (TIt mi)):PI X tg iter (TIg λρ S=>(mi ρ S).bind λds S1=>.ok (ds,λ_=>True) S1):=PIimp h λe H R c=>by
 obtain⟨ι,S,ρ,d,st,p⟩:=c
 refine⟨ι,S,ρ,d,st,?_⟩
 dsimp only at p
 cases z:mi ρ S with
 |no=>rw[z]at p;exact p
 |err=>rw[z]at p;exact p
 |ok ds S1 =>
  rw[z,Res.bind_ok]at p
  exact λa H' J s1 b ok=>p a H' J s1 b ok.g
theorem qcP{a:Type}(S:Sr)(r:Res a):grd (λ_=>True) S r=r:=zq (gd:=λ_=>True) trivial r
theorem qh8(r:Res Fl):endG (λ_=>True) r=r:=by
 cases r with
 |ok f S=>cases f <;> simp only[endG,Res.bind_ok,qcP]
 |err=>rfl
 |no=>rfl
theorem qlH{iter:Expr}{body:List Stmt}{mi:En->Sr->Res (List D)}{g:D->En->Sr->Res En}{mb:En->Sr->Res Fl}(a:PassesOwn (model X.prog X.w) X.A X.env X.xe)(b:X.calm=true)(hi:PI X tg iter (TIt mi))(c:PG X tg (TGt g))(f:PSs X body (TSm mb))(i:∀x,foldedSetIterable iter X.env x=pure x):
  PS X (.For tg iter body [] pos) (TSm λρ S=>(mi ρ S).bind λds S1=>forLoop (λd ρ S=>(g d ρ S).bind λρ1 S1=>mb ρ1 S1) ds ρ S1):=by
 have h:=qj0 (pos:=pos) a b (pi_g hi) c f i
 have e:(λ(ρ:En) (S:Sr)=>((mi ρ S).bind λds S1=>.ok (ds,λ_=>True) S1:Res (List D×(Sr->Prop))).bind λp S1=>endG p.2 (forLoop (λd ρ S=>(grd p.2 S (g d ρ S)).bind λρ1 S1=>mb ρ1 S1) p.1 ρ S1))=λρ S=>(mi ρ S).bind λds S1=>forLoop (λd ρ S=>(g d ρ S).bind λρ1 S1=>mb ρ1 S1) ds ρ S1:=by
  funext ρ S
  cases mi ρ S with
  |ok ds S1 =>
   show endG (λ_=>True) (forLoop (λd ρ S=>(grd (λ_=>True) S (g d ρ S)).bind λρ1 S1=>mb ρ1 S1) ds ρ S1)=_
   rw[qh8]
   simp only[qcP]
  |err=>rfl
  |no=>rfl
 rw[<-e];exact h
end
end R
namespace R
open PySem PySem.Spec L2 SeqAt
open PyProof.Rows hiding St
noncomputable def compCx(X:Cx)(sc:Scope)(cl:List (Str×Addr))(C:Addr)(N':List Str)(fp:List Addr)(s:Shared)(H:Hp):Cx :=
 {X with N:=N',s₀:=s,H₀:=H,env:=compEnvC sc cl C X.env,outer:=X.stack,ex:=fp,fn:=λ_=>false,pn:=[],xe:=λ_ _=>False}
structure Clos (X:Cx) (sc:Scope) (cl:List (Str×Addr)):Prop where
 eq:closureFor sc X.env=pure cl
 sub:∀x c,cl.lookup x=some c->X.env.cells.lookup x=some c
 all:∀x,sc.names.lookup x=some .free->∃c,cl.lookup x=some c
theorem qaZ{env:Env}:∀(names:List (Str×NameKind)) (b:List (Str×Addr)),(∀x∈names,x.2=.free->∃c,env.cells.lookup x.1=some c) ->
  ∃cl,(forIn names b λ(p:Str×NameKind) (cs:List (Str×Addr))=>(if p.2 == NameKind.free then(do let a <-cellOf env p.1;pure (ForInStep.yield ((p.1,a)::cs)))else pure (ForInStep.yield cs):Sem (ForInStep (List (Str×Addr)))))=pure cl /\
   (∀x c,cl.lookup x=some c->env.cells.lookup x=some c\/b.lookup x=some c)/\(∀x c,b.lookup x=some c->(∃d,cl.lookup x=some d))/\(∀x∈names,x.2=.free->∃c,cl.lookup x.1=some c)
 |[],b,_=>⟨b,rfl,λx c h=>.inr h,λx c h=>⟨c,h⟩,λx h=>by cases h⟩
 | (n,k)::r,b,h=>by
  by_cases i:k=.free
  .subst i
   obtain⟨c,l⟩:=h (n,.free) wH rfl
   obtain⟨cl,e,i1,i2,j⟩:=qaZ r ((n,c)::b) λx hx=>h x (wI _ hx)
   have e1:cellOf env n=pure c:=by unfold cellOf;rw[l]
   refine⟨cl,?_,λx d hx=>?_,λx d hx=>?_,λx hx f=>?_⟩
   .rw [uE]
    simp only[beq_self_eq_true,vd,e1,pure_bind]
    exact e
   .rcases i1 x d hx with z|z
    .exact .inl z
    .rw [vf]at z
     cases q:x == n with
     |true=>rw[q]at z;cases z;rw[uB.mp q];exact .inl l
     |false=>rw[q]at z;exact .inr z
   .cases q:x == n with
    |true=>exact i2 x c (by rw[vf,q])
    |false=>exact i2 x d (by rw[vf,q];exact hx)
   .rcases wN.mp hx with z|z
    .subst z;exact i2 n c (by simp[vf])
    .exact j x z f
  .have m:(k == NameKind.free)=false:=by simpa using i
   obtain⟨cl,e,i1,i2,j⟩:=qaZ r b λx hx=>h x (wI _ hx)
   refine⟨cl,?_,i1,i2,λx hx f=>?_⟩
   .rw [uE]
    simp only[m,wj,vc,pure_bind]
    exact e
   .rcases wN.mp hx with z|z
    .subst z;exact absurd f i
    .exact j x z f
theorem qa0{X:Cx}{sc:Scope}(h:∀x∈sc.names,x.2=.free->∃c,X.env.cells.lookup x.1=some c):∃cl,Clos X sc cl:=by
 obtain⟨cl,e,i1,i2,a⟩:=qaZ (env:=X.env) sc.names [] h
 refine⟨cl,⟨?_,λx c hx=>?_,λx hx=>?_⟩⟩
 .unfold closureFor
  show(forIn sc.names [] _ >>= λr=>pure r)=_
  rw[bind_pure]
  exact e
 .rcases i1 x c hx with z|z
  .exact z
  .cases z
 .exact a (x,.free) (vZ hx) rfl
theorem zA{env:Env}:∀{names:List (Str×NameKind)} {x:Str},(names.map λ(n,k)=>if(k == NameKind.free&&env.scope.kind == .function&&env.kindOf n == some .cell)then(n,NameKind.cell)else(n,k)).lookup x =
  (names.lookup x).map λk=>if(k == NameKind.free&&env.scope.kind == .function&&env.kindOf x == some .cell)then NameKind.cell else k
 |[],_=>rfl
 | (n,k)::r,x=>by
  show List.lookup x ((if(k == NameKind.free&&env.scope.kind == .function&&env.kindOf n == some .cell)=true then(n,NameKind.cell)else(n,k))::_)=_
  have c:=@zA env r x
  cases hx:x == n with
  |true =>
   have b:=uB.mp hx
   subst b
   by_cases a:(k == NameKind.free&&env.scope.kind == .function&&env.kindOf x == some .cell)=true
   .rw [wL a];simp only[vf,hx,wq,wL a]
   .rw [wK a];simp only[vf,hx,wq,wK a]
  |false =>
   by_cases a:(k == NameKind.free&&env.scope.kind == .function&&env.kindOf n == some .cell)=true
   .rw [wL a];simp only[vf,hx];exact c
   .rw [wK a];simp only[vf,hx];exact c
section
variable{X:Cx}{pos:Pos}
theorem qeE{sc:Scope}{cl:List (Str×Addr)}{N':List Str}{fp:List Addr}{pins:List (Addr×Obj)}{j:St}{H:Hp}{s:Shared}(I:Inv X pins j H s)(l:sc.kind=.function)(a:∀y∈sc.names,y.2≠.cell)(f:Clos X sc cl)(i:∀b∈fp,FpOk X pins H b)(n:∀b∈fp,b<s.heap.objs.size):(compCx X sc cl s.heap.objs.size N' fp s H).Ok where
 mod:=I.ok.mod
 kind:=l
 glob:=I.ok.glob
 blt:=I.ok.blt
 above:=wG _
 inj:=λx y c p q=>I.ok.inj x y c (f.sub x c p) (f.sub y c q)
 has:=λx hx=>by
  have hx:(relabel sc X.env).names.lookup x=some .cell\/(relabel sc X.env).names.lookup x=some .free:=hx
  have e:(relabel sc X.env).names.lookup x=_:=zA (env:=X.env) (names:=sc.names) (x:=x)
  rw[e]at hx
  cases z:sc.names.lookup x with
  |none=>rw[z]at hx;simp at hx
  |some k =>
   cases k with
   |free=>exact f.all x z
   |cell=>exact absurd rfl (a _ (vZ z))
   |_=>rw[z]at hx;simp at hx
 cab:=λx c h _=>by cases h
 hd:=I.ok.hd
 frames:=I.ok.frames
 stk:=.inl rfl
 exf:=λb d=>⟨wT (n b d),λx c h=>(i b d).2.2.2.2.1 x c (f.sub x c h)⟩
 bs:=I.bs
 bsz:=vK I.ok.bsz I.sz
 noex:=λb o e d=>by
  rcases(i b d).2.2.2.1 with z|z
  .exact I.ok.noex b o e z
  .exact absurd (w6 (wF e) (vK I.ok.bsz z)) (vI _)
 exfs:=λb d r=>by
  rcases wN.mp (I.stkSub b r)with z|z
  .exact (i b d).2.1 z
  .exact (i b d).2.2.1 z
 funs:=I.stack
 frf:=I.stkFree
 tab:=λc T z=>let ⟨ps,e⟩:=I.ok.tab c T z;let ⟨m,u⟩:=I.base.tbls _ _ e;⟨_,u⟩
structure Frs (X:Cx) (sc:Scope) (fr:List Nat) (xs ts:List Str):Prop where
 len:fr.length=xs.length
 at':∀(i j:Nat) (x:Str),fr[i]?=some j->xs[i]?=some x->X.N[j]?=some x
 kd:∀x∈xs,sc.names.lookup x=some .free/\(X.env.kindOf x=some .cell\/X.env.kindOf x=some .free)
 tl:∀x∈ts,sc.names.lookup x=some .local
 nd:(xs++ts).Nodup
noncomputable def frS(a:St)(fr:List Nat)(nt:Nat):St:=fr.map (λi=>(a[i]?).getD none)++List.replicate nt none
theorem qdt{ι:List Addr}{H:Hp}{ρ:En}{a:St}(e:EnR ι H ρ a)(fr:List Nat)(nt:Nat):EnR ι H (frE ρ fr nt) (frS a fr nt):=by
 refine⟨by simp[frE,frS],λi d h=>?_⟩
 unfold frE at h
 unfold frS
 by_cases hi:i<fr.length
 .rw [w5 (by simpa using hi),w4,wD hi]at h
  rw[w5 (by simpa using hi),w4,wD hi]
  simp only[wq,Option.some.injEq]at h ⊢
  cases z:ρ[fr[i]]? with
  |none=>rw[z]at h;cases h
  |some o =>
   rw[z]at h
   cases h
   obtain⟨v,b,c⟩:=e.get _ d z
   exact⟨v,by rw[b];rfl,c⟩
 .rw [wn (by simpa using hi),uK]at h
  split at h <;> cases h
theorem jP{sc:Scope}{cl:List (Str×Addr)}{fp:List Addr}{pins:List (Addr×Obj)}{h:St}{H:Hp}{s:Shared}{fr:List Nat}{xs ts:List Str}(I:Inv X pins h H s)(M:sc.kind=.function)(f:∀y∈sc.names,y.2≠.cell)(j:Clos X sc cl)(N:∀b∈fp,FpOk X pins H b)(O:∀b∈fp,b<s.heap.objs.size)(F:Frs X sc fr xs ts){h':Heap}{m:Str->Option Value}{tk:Nat}(hn:h'.Ns s.heap.objs.size m)(a:∀b o,s.heap.get? b=some o->h'.get? b=some o):
  Inv (compCx X sc cl s.heap.objs.size (xs++ts) fp s H) [] (frS h fr ts.length) H {s with heap:=h',toks:=tk}:=by
 refine⟨qeE I M f j N O,rfl,GK.refl I.bare.bare,Un.kept a,⟨m,hn,λi x v n d Y=>?_⟩,λx c e=>?_,I.hok.fresh (wG _),λx c e=>I.freeC x c (j.sub x c e),λp P=>absurd (show p∈([]:List (Addr×Obj))from P) (by simp),I.hok.kept a,?_⟩
 .have n:(xs++ts)[i]?=some x:=n
  have d:(frS h fr ts.length)[i]?=some (some v):=d
  unfold frS at d
  by_cases hi:i<fr.length
  .rw [w5 (by simpa using hi),w4,wD hi]at d
   rw[w5 (by rw[<-F.len];exact hi)]at n
   simp only[wq,Option.some.injEq]at d
   have Q:=F.at' i fr[i] x (wD hi) n
   have B:h[fr[i]]?=some (some v):=by
    cases z:h[fr[i]]? with
    |none=>rw[z]at d;cases d
    |some o=>rw[z]at d;simp at d;rw[d]
   obtain⟨E,J⟩:=F.kd x (wy n)
   obtain⟨Z,R,C⟩:=I.loc
   have w:Vis X.env.scope x:=by
    rcases J with z|z
    .exact .inr (.inl z)
    .exact .inr (.inr z)
   obtain⟨u,r,l⟩:=C fr[i] x v Q B w
   refine⟨u,r,.inr ?_⟩
   have S:∃c,X.env.cells.lookup x=some c/\s.heap.IsCell c (some u):=by
    rcases l with ⟨z,_⟩|⟨_,c,e1,A⟩
    .rcases J with q|q <;> (rw[z]at q;cases q)
    .exact ⟨c,e1,A⟩
   obtain⟨c,e1,o,A,U⟩:=S
   obtain⟨W,K⟩:=j.all x E
   have L:=j.sub x W K
   rw[e1]at L;cases L
   refine⟨?_,c,K,o,a _ _ A,U⟩
   have e:(relabel sc X.env).names.lookup x=_:=zA (env:=X.env) (names:=sc.names) (x:=x)
   show(relabel sc X.env).names.lookup x=some .cell\/(relabel sc X.env).names.lookup x=some .free
   rw[e,E]
   simp only[wq]
   split
   .exact .inl rfl
   .exact .inr rfl
  .rw [wn (by simpa using hi),uK]at d
   split at d <;> cases d
 .obtain ⟨v,o,e1,A⟩:=I.cell x c (j.sub x c e)
  exact⟨v,o,a _ _ e1,A⟩
 .show (frS h fr ts.length).length=(xs++ts).length
  simp[frS,F.len]
theorem jQ{sc:Scope}{cl:List (Str×Addr)}{N':List Str}{fp:List Addr}{pins:List (Addr×Obj)}{j i:St}{H H':Hp}{s s':Shared}{h':Heap}(I:Inv X pins j H s)(d:∀b∈fp,FpOk X pins H b)(J:Inv (compCx X sc cl s.heap.objs.size N' fp s H) [] i H' s')(m:Heap.SameBut s.heap.objs.size s'.heap h'):Inv X pins j H' {s' with heap:=h' }:=by
 have l:H' s.heap.objs.size=none:=J.free
 have u:=J.base
 have f:∀b o,b≠s.heap.objs.size->s'.heap.get? b=some o->h'.get? b=some o:=λb o a e=>m.extBut b o a e
 have ne:∀b o,s.heap.get? b=some o->b≠s.heap.objs.size:=λb o e=>wT (wF e)
 have un:Un (frs X.stack) fp H H' s.heap h':=⟨λb o e n a hx=>f b o (ne b o e) (u.keep b o e n a hx),λb o e n a hx=>by
   obtain⟨sl,q⟩:=u.slot b o e n a hx
   exact⟨sl,f b _ (ne b o e) q⟩,λb o e n hx=>u.free b o e n hx,λb o e hx=>by
   obtain⟨o',q⟩:=u.there b o e hx
   exact⟨o',f b o' (ne b o e) q⟩,u.tups,u.frzs,u.tbls⟩
 have hok:HOk X.prog X.w H' h':=λb o e=>(J.hok b o e).stay (λc w p q=>f c w (λz=>by
   subst z
   rcases p with h|h
   .rw [<-h,l]at e;cases e
   .rw [l]at h;cases h) q) (λ_ q=>q) λ_ _ q=>q
 exact I.call' (s':={s' with heap:=h' }) (ch:=fp) J.os un hok J.bare λb a=>⟨(d b a).2.2.2.1,(d b a).2.1,(d b a).2.2.2.2.1,(d b a).2.2.2.2.2⟩
end
end R
namespace R
open PySem PySem.Spec L2 SeqAt
open PyProof.Rows hiding St
theorem thnF{b:Type}{t:Sem b}{Q Q':b->Shared->Prop}{M:Model}{A:Around}{E:Value->Shared->Prop}{s:Shared}(h:wpAny M A t Q (λ_ _=>False) s)(c:∀a s,Q a s->Q' a s):wpAny M A t Q' E s:=vT h c λ_ _ x=>x.elim
section
variable{X:Cx}{pos:Pos}
def PTl(X:Cx)(ifs:List Expr)(t:TT):Prop:=∀(pins:List (Addr×Obj)) (s:Shared) (a:St) (H:Hp) (Q:Bool->Hp->Prop),Inv X pins a H s->t a H Q ->
 wpAny (model X.prog X.w) X.A (forIn ifs true λc r=>(if r=true then do let ok <-isTrue c X.env (eval c X.env);pure (ForInStep.yield ok)else pure (ForInStep.yield r):Sem (ForInStep Bool))) (TP X pins a Q) X.xe s
theorem qj1:PTl X [] (TB λ_ S=>.ok true S):=λpins s a H Q I h=>by
 obtain⟨ι,S,ρ,b,st,p⟩:=h
 exact wC ⟨H,I,p true ι H (Stp.refl _ _) st rfl⟩
theorem qbN{M:Model}{A:Around}{E:Value->Shared->Prop}{s:Shared}{env:Env}{Q:Bool->Shared->Prop}:∀(ifs:List Expr),Q false s->wpAny M A (forIn ifs false λc r=>(if r=true then do let ok <-isTrue c env (eval c env);pure (ForInStep.yield ok)else pure (ForInStep.yield r):Sem (ForInStep Bool))) Q E s
 |[],h=>wC h
 |c::r,h=>by
  rw[uE]
  refine wA ?_
  rw[wK (by decide)]
  exact wC (qbN r h)
theorem qh9{c:Expr}{ifs:List Expr}{m h:En->Sr->Res Bool}(o:PT X c (TB m))(q:PTl X ifs (TB h)):PTl X (c::ifs) (TB λρ S=>(m ρ S).bind λt S1=>if t then h ρ S1 else .ok false S1):=λpins s i H Q I r=>by
 rw[uE]
 refine wA ?_
 rw[wL rfl]
 obtain⟨ι,S,ρ,u,st,p⟩:=r
 refine wA (thn (o pins s i H _ I (Pst.tg (ρ:=ρ) p u st (K:=λb d=>if b=true then TB h i d Q else Q false d) λa S1 e d b s1 j f v l=>?_)) λb s1 ⟨d,n,q1⟩=>?_)
 .cases (show a=b from v)
  cases a with
  |true=>rw[wL rfl];exact⟨e,S1,ρ,j,f,l⟩
  |false=>rw[wK (by decide)];exact l false e d (Stp.refl _ _) f rfl
 .refine wC ?_
  cases b with
  |true=>rw[wL rfl]at q1;exact q pins s1 i d Q n q1
  |false=>rw[wK (by decide)]at q1;exact qbN ifs ⟨d,n,q1⟩
theorem qia{tg elt iter:Expr}{ifs:List Expr}{sc:Scope}{J:It}{fp:List Addr}{it Dl:Addr}{tn:Nat->Heap->Prop}{g:D->En->Sr->Res En}{mt:En->Sr->Res Bool}{me:En->Sr->Res D}{n:Nat}{ds:List D}{gd:Sr->Prop}{R:Result->Shared->Prop}(O:X.xe=λ_ _=>False)(hc:X.calm=true)(a4:X.ex=fp)(a5:X.pn=[])(T':Turn X.prog X.w X.K tg J fp it tn)(hg:PG X tg (TGt g))(ht:PTl X ifs (TB mt))(he:PE X elt (T me))(a6:∀d ρ S,¬gd S->g d ρ S=.no){ι:List Addr}{H:Hp}{S:Sr}{ρ P:En}{Sf:Sr}{σ:St}{s:Shared}(hD:ι[n]?=some Dl)(ok:ItG ι H J ds gd)(I:Inv X [] σ H s)(h0:tn 0 s.heap)(a7:∀b∈fp,H b=none)(er:EnR ι H ρ σ)(st:Sto ι H S)(e:lcLoop n g mt me ds ρ S=.ok P Sf)(a8:gd Sf)(fin:∀(l:St) (H':Hp) (a:List Addr) (s':Shared),Inv X [] l H' s'->Stp ι H a H'->Sto a H' Sf->R (.ok .next) s'):
  codeAny (model X.prog X.w) X.A (.compLoop (.ListComp elt [⟨tg,iter,ifs,0⟩] sc pos) 0 (.ref it) (.ref Dl) X.env) R s:=by
 refine codeAny_loop rfl (λk s'=>∃(i:Nat) (l:St) (H':Hp) (a:List Addr) (S':Sr) (F:En),k=ds.length-i/\i<=ds.length/\Inv X [] l H' s'/\tn i s'.heap/\(∀b∈fp,H' b=none)/\Stp ι H a H'/\EnR a H' F l/\Sto a H' S'/\lcLoop n g mt me (ds.drop i) F S'=.ok P Sf) ?_
  ds.length ⟨0,σ,H,ι,S,ρ,by simp,vH _,I,h0,a7,Stp.refl _ _,er,st,by simpa using e⟩
 rintro k s1 ⟨i,Q,H1,B,S1,ρ1,rfl,hi,I1,t1,f1,p1,a9,U,e1⟩
 have L:∀{H':Hp},(∀b∈fp,H' b=none)->∀b∈fp,FpOk X [] H' b:=λhn b hb=>by
  have W:b∈X.ex:=by rw[a4];exact hb
  exact⟨hn b hb,(I.ok.exf b W).1,λz=>I.ok.exfs b W z,.inl W,(I.ok.exf b W).2,λp hp=>by rw[a5]at hp;exact absurd hp (by simp)⟩
 show wpAny _ X.A ((compTurn (.ListComp elt [⟨tg,iter,ifs,0⟩] sc pos) 0 (.ref it) (.ref Dl) X.env).onRaise (λx=>do noteFrame x X.env;theTreesLotGoes x)) _ _ s1
 refine wpAny_noted ?_
 rw[compTurn_list]
 refine wA (v6 (wA ?_))
 by_cases a0:i<ds.length
 .have hd:ds[i]?=some ds[i]:=wD a0
  rw[u7 a0]at e1
  have aa:gd S1:=by
   apply Classical.byContradiction
   intro hn
   simp only[lcLoop,a6 _ _ _ hn,Res.bind_no]at e1
   cases e1
  obtain⟨go,yl⟩:=ok.go i _ B H1 S1 p1 U aa hd
  refine thnF (T'.item X rfl rfl rfl hc i [] s1 Q H1 _ I1 (L f1) t1 go) λr s2 ⟨u,hr,h2⟩=>?_
  subst hr
  refine wA (thnF h2 λ_ s3 ⟨x,H3,I3,r3,y3,t3,f3⟩=>?_)
  obtain⟨q3,ab⟩:=yl x H3 y3
  obtain⟨k3,d3⟩:=ab S1 U
  have ac:=I3.pinned (L f3) (T'.obj _ _ t3)
  simp only[lcLoop]at e1
  cases z1:g ds[i] ρ1 S1 with
  |no=>rw[z1]at e1;cases e1
  |err=>rw[z1]at e1;cases e1
  |ok f S2 =>
   rw[z1,Res.bind_ok]at e1
   refine wA (vT (hg _ s3 Q H3 x u (λC H4=>∃h,Stp B H3 h H4/\Sto h H4 S2/\EnR h H4 f C) ac r3 ⟨B,S1,ρ1,ds[i],a9.mono q3,k3,d3,?_⟩) (λ_ s4 ⟨C,H4,I4,h,q4,a1,E⟩=>?_) λ_ _ z=>by rw[O]at z;exact z.elim)
   .rw [z1];exact λC h H4 q4 a1 E=>⟨h,q4,a1,E⟩
   cases z2:mt f S2 with
   |no=>rw[z2]at e1;cases e1
   |err=>rw[z2]at e1;cases e1
   |ok b S3 =>
    rw[z2,Res.bind_ok]at e1
    refine wA (vT (ht _ s4 C H4 (λb' H5=>b'=b/\∃q,Stp h H4 q H5/\Sto q H5 S3) I4 ⟨h,S2,f,E,a1,?_⟩) (λb' s5 ⟨H5,I5,eb,q,q5,Y⟩=>?_) λ_ _ z=>by rw[O]at z;exact z.elim)
    .rw [z2];exact λb' q H5 q5 Y eb=>⟨(show b=b' from eb).symm,q,q5,Y⟩
    subst eb
    have M:∀{Z:St} {N:Hp} {s7:Shared} {c:List Addr} {S7:Sr},Inv X ([]++pinsAt fp s3.heap) Z N s7->Stp B H1 c N->EnR c N f Z->Sto c N S7->lcLoop n g mt me (ds.drop (i+1)) f S7=.ok P Sf ->
      ∃m,m<ds.length-i/\∃(i:Nat) (l:St) (H':Hp) (a:List Addr) (S':Sr) (F:En),m=ds.length-i/\i<=ds.length/\Inv X [] l H' s7/\tn i s7.heap/\(∀b∈fp,H' b=none)/\Stp ι H a H'/\EnR a H' F l/\Sto a H' S'/\lcLoop n g mt me (ds.drop i) F S'=.ok P Sf:=by
     intro Z N s7 c S7 I7 q7 ad a2 e7
     refine⟨ds.length-(i+1),by omega,i+1,Z,N,c,S7,f,rfl,a0,I7.unpinned,T'.keep _ _ _ t3 λb hb o eo=>(I7.pin (b,o) (wU _ (wU _ (qU hb eo)))).1,λb hb=>?_,p1.trans q7,ad,a2,e7⟩
     obtain⟨o,eo,_⟩:=T'.obj _ _ t3 b hb
     exact(I7.pin (b,o) (wU _ (wU _ (qU hb eo)))).2.1
    cases b' with
    |false =>
     rw[wK (by decide)]at e1
     exact wC ⟨rfl,M I5 ((q3.trans q4).trans q5) (E.mono q5) Y e1⟩
    |true =>
     rw[wL rfl]at e1
     cases z3:me f S3 with
     |no=>rw[z3]at e1;cases e1
     |err=>rw[z3]at e1;cases e1
     |ok v S4 =>
      rw[z3,Res.bind_ok]at e1
      refine wA (wA (vT (he _ s5 C H5 (λy H6=>∃j,Stp q H5 j H6/\Sto j H6 S4/\Den j H6 v y) I5 ⟨q,S3,f,E.mono q5,Y,?_⟩) (λy' s6 ⟨y,H6,I6,ry,j,q6,a3,dv⟩=>?_) λ_ _ z=>by rw[O]at z;exact z.elim))
      .rw [z3];exact λy j H6 q6 a3 dv=>⟨j,q6,a3,dv⟩
      cases z4:appD S4 (.ref n) v with
      |no=>rw[z4]at e1;cases e1
      |err=>rw[z4]at e1;cases e1
      |ok w S5 =>
       rw[z4,Res.bind_ok]at e1
       have tot:=((q3.trans q4).trans q5).trans q6
       have ae:j[n]?=some Dl:=(p1.trans tot).get hD
       refine wA (vT (qau (X:=X) _ s6 C H6 (.ref Dl) [y] (.ref Dl) [y'] (λ_ N=>∃c,Stp j H6 c N/\Sto c N S5) I6 rfl (.cons ry .nil) (qiY (x:=.ref n) a3 ⟨Dl,rfl,ae⟩ dv ?_)) (λ_ s7 ⟨_,N,I7,_,c,q7,a2⟩=>?_) λ_ _ z=>by rw[O]at z;exact z.elim)
       .rw [z4];exact λb a H' s' af _=>⟨a,s',af⟩
       .exact wC (wC ⟨rfl,M I7 (tot.trans q7) ((E.mono (q5.trans q6)).mono q7) a2 e1⟩)
 .have ag:i=ds.length:=by omega
  subst ag
  rw[ul (wG _)]at e1
  cases e1
  refine thnF (T'.done X rfl rfl rfl hc _ [] s1 Q H1 _ I1 (L f1) t1 (ok.stop B H1 _ p1 U a8)) λr s2 ⟨hr,I2⟩=>?_
  subst hr
  exact wC (fin Q H1 B s2 I2 p1 U)
structure Blk (X:Cx) (sc:Scope) (N':List Str) (tg:Expr) (ifs:List Expr) (elt:Expr) (g:D->En->Sr->Res En) (mt:En->Sr->Res Bool) (me:En->Sr->Res D):Prop where
 tg:∀cl C fp s H,PG (compCx X sc cl C N' fp s H) tg (TGt g)
 ifs:∀cl C fp s H,PTl (compCx X sc cl C N' fp s H) ifs (TB mt)
 elt:∀cl C fp s H,PE (compCx X sc cl C N' fp s H) elt (T me)
structure CSc (X:Cx) (sc:Scope) (fr:List Nat) (xs ts:List Str):Prop where
 kind:sc.kind=.function
 nocell:∀y∈sc.names,y.2≠.cell
 names:∀x∈sc.names,x.2=.local->sc.names.lookup x.1=some .local
 frees:∀x∈sc.names,x.2=.free->X.env.kindOf x.1=some .cell\/X.env.kindOf x.1=some .free
 frs:Frs X sc fr xs ts
noncomputable def mLc(m:Bool)(fr:List Nat)(nt:Nat)(mi:En->Sr->Res (List D))(g:D->En->Sr->Res En)(mt:En->Sr->Res Bool)(me:En->Sr->Res D):En->Sr->Res D:=λρ S=>(mi ρ S).bind λds S1 =>
 (lcLoop S1.length g mt me ds (frE ρ fr nt) (S1++[.lst []])).bind λ_ S2=>lcEnd m S1.length S2
noncomputable def mLcG(m:Bool)(fr:List Nat)(nt:Nat)(mi:En->Sr->Res (List D×(Sr->Prop)))(g:D->En->Sr->Res En)(mt:En->Sr->Res Bool)(me:En->Sr->Res D):En->Sr->Res D:=λρ S=>(mi ρ S).bind λp S1 =>
 (lcLoop S1.length (λd ρ S=>grd p.2 S (g d ρ S)) mt me p.1 (frE ρ fr nt) (S1++[.lst []])).bind λ_ S2=>grd p.2 S2 (lcEnd m S1.length S2)
theorem qi0{m:Bool}{fr:List Nat}{nt:Nat}{mi:En->Sr->Res (List D)}{g:D->En->Sr->Res En}{mt:En->Sr->Res Bool}{me:En->Sr->Res D}:mLcG m fr nt (λρ S=>(mi ρ S).bind λds S1=>.ok (ds,λ_=>True) S1) g mt me=mLc m fr nt mi g mt me:=by
 funext ρ S
 unfold mLcG mLc
 dsimp only
 cases mi ρ S with
 |ok ds S1 =>
  show((lcLoop S1.length (λd ρ S=>grd (λ_=>True) S (g d ρ S)) mt me ds (frE ρ fr nt) (S1++[.lst []])).bind λ_ S2=>grd (λ_=>True) S2 (lcEnd m S1.length S2))=_
  simp only[qcP]
 |err=>rfl
 |no=>rfl
theorem qj2{tg:Expr}{g:D->En->Sr->Res En}{gd:Sr->Prop}(h:PG X tg (TGt g)):PG X tg (TGt λd ρ S=>grd gd S (g d ρ S)):=PGimp h λv e H Q b=>by
 obtain⟨ι,S,ρ,d,c,st,hd,p⟩:=b
 refine⟨ι,S,ρ,d,c,st,hd,?_⟩
 dsimp only at p
 by_cases a:gd S
 .rw [zq a]at p;exact p
 .rw [yd a]at p;exact p.elim
theorem qdu{tg elt iter:Expr}{ifs:List Expr}{sc:Scope}{fr:List Nat}{xs ts:List Str}{mi:En->Sr->Res (List D×(Sr->Prop))}{g:D->En->Sr->Res En}{mt:En->Sr->Res Bool}{me:En->Sr->Res D}{mm:Bool}(hc:X.calm=true)(hi:PI X tg iter (TIg mi))(hs:∀x,foldedSetIterable iter X.env x=pure x)(E:CSc X sc fr xs ts)(B:Blk X sc (xs++ts) tg ifs elt g mt me){pins:List (Addr×Obj)}{s:Shared}{L:St}{H:Hp}{Q:VK}{use:Option (Value->Sem Unit)}{Q':Value->Shared->Prop}(I:Inv X pins L H s)(hw:T (mLcG mm fr ts.length mi g mt me) L H Q)(fin:∀(D C:Addr) (H':Hp) (s':Shared) (m:Str->Option Value),s'.heap.Ns C m->C≠X.env.locals->(∀x c,X.env.cells.lookup x=some c->c≠C)->(H' C=none/\X.s₀.heap.objs.size<=C/\∀p∈X.pn++pins,p.1≠C)->(∀h',Heap.SameBut C s'.heap h'->Inv X pins L H' {s' with heap:=h' })->Q (.ref D) H'->compPost (model X.prog X.w) X.A X.xe use Q' (.ref D) C (.ok .next) s'):
  wpAny (model X.prog X.w) X.A (comprehension (.ListComp elt [⟨tg,iter,ifs,0⟩] sc pos) sc X.env (firstIterPos [⟨tg,iter,ifs,0⟩] pos) (newList []) false (eval iter X.env) use) Q' X.xe s:=by
 obtain⟨ι,S,ρ,er,st,p⟩:=hw
 dsimp only[mLcG]at p
 cases z:mi ρ S with
 |no=>rw[z]at p;exact p.elim
 |err=>rw[z]at p;exact p.elim
 |ok dg S1 =>
 obtain⟨ds,gd⟩:=dg
 rw[z,Res.bind_ok]at p
 dsimp only at p
 cases z2:lcLoop S1.length (λd ρ S=>grd gd S (g d ρ S)) mt me ds (frE ρ fr ts.length) (S1++[.lst []])with
 |no=>rw[z2]at p;exact p.elim
 |err=>rw[z2]at p;exact p.elim
 |ok ab Sf =>
 rw[z2,Res.bind_ok]at p
 have M:gd Sf:=by
  apply Classical.byContradiction
  intro hn
  rw[yd hn]at p
  exact p
 rw[zq M]at p
 obtain⟨cl,CL⟩:=qa0 (X:=X) (sc:=sc) λx hx hf=>I.ok.has x.1 (E.frees x hx hf)
 refine wpAny_comprehension_free rfl hs CL.eq E.kind E.names ?_
 refine thn (hi pins s L H (λJ H2=>∃a,Stp ι H a H2/\Sto a H2 S1/\ItG a H2 J ds gd) I ⟨ι,S,ρ,er,st,?_⟩) λxv s1 Z=>thn Z λac s2 h2=>?_
 .rw [z];exact λh H' J q f ok=>⟨h,q,f,ok⟩
 obtain⟨it,fp,tn,J,H2,e,I2,T',t2,f2,a,q2,F,a0⟩:=h2
 subst e
 refine wS ?_
 have N:H2 s2.heap.objs.size=none:=I2.hok.fresh (wG _)
 have O:∀b∈fp,b<s2.heap.objs.size:=λb i=>by
  obtain⟨o,n,_⟩:=T'.obj _ _ t2 b i
  exact wF n
 have K:Inv X pins L (upd H2 s2.heap.objs.size (.lst [])) {s2 with heap:=s2.heap.push {cls:=.type "list",dict:=none,data:=.seq ([]:List Value).toArray}} :=
  I2.laid (t':=s2.toks) (λb o e=>wB _ e) (wG _) ⟨vH _,[],0,.nil,wE _ rfl⟩
 have f3:∀b∈fp,FpOk X pins (upd H2 s2.heap.objs.size (.lst [])) b:=λb i=>⟨by rw[qj (wT (O b i))];exact(f2 b i).1,(f2 b i).2⟩
 have Y:=Stp.grow (ι:=a) N (.lst [])
 have a1:Sto (a++[s2.heap.objs.size]) (upd H2 s2.heap.objs.size (.lst [])) (S1++[.lst []]):=F.grow N ⟨⟨a.length,by simp,rfl⟩,[],ql,rfl⟩
 have P:(a++[s2.heap.objs.size])[S1.length]?=some s2.heap.objs.size:=by rw[<-F.len];simp
 generalize R:({s2 with heap:=s2.heap.push {cls:=.type "list",dict:=none,data:=.seq ([]:List Value).toArray}}:Shared)=s3 at K ⊢
 have U:∀b∈fp,b<s3.heap.objs.size:=λb i=>by
  rw[<-R]
  show b<(s2.heap.push _).objs.size
  rw[wt];exact vQ (O b i)
 have t3:tn 0 s3.heap:=T'.keep _ _ _ t2 λb i o n=>by rw[<-R];exact wB _ n
 refine wpAny_newFunctionEnv E.nocell (by intro y hy;simp at hy) (λh4 a2 a3=>?_) E.kind
 have r:∀b o,s3.heap.get? b=some o->h4.get? b=some o:=λb o n=>a3.extBut b o (wT (wF n)) (wB _ n)
 have I4:=jP (tk:=s3.toks+([]:List (Str×Value)).length) K E.kind E.nocell CL f3 U E.frs a2 r
 have t4:tn 0 h4:=T'.keep _ _ _ t3 λb i o n=>r b o n
 have a4:EnR (a++[s2.heap.objs.size]) (upd H2 s2.heap.objs.size (.lst [])) (frE ρ fr ts.length) (frS L fr ts.length):=(qdt er fr ts.length).mono (q2.trans Y)
 have loop:codeAny (model X.prog X.w) X.A (.compLoop (.ListComp elt [⟨tg,iter,ifs,0⟩] sc pos) 0 (.ref it) (.ref s2.heap.objs.size) (compEnvC sc cl s3.heap.objs.size X.env)) (compPost (model X.prog X.w) X.A X.xe use Q' (.ref s2.heap.objs.size) s3.heap.objs.size) {s3 with heap:=h4,toks:=s3.toks+([]:List (Str×Value)).length}:=by
  refine qia (X:=compCx X sc cl s3.heap.objs.size (xs++ts) fp s3 (upd H2 s2.heap.objs.size (.lst []))) (pos:=pos) rfl hc rfl rfl T' (qj2 (gd:=gd) (B.tg _ _ _ _ _)) (B.ifs _ _ _ _ _) (B.elt _ _ _ _ _) (λd ρ S hn=>yd hn _) P (a0.mono Y) I4 t4 (λb i=>(f3 b i).1) a4 a1 z2 M λad H' h s' J' q' f=>?_
  obtain⟨m',a5,_⟩:=J'.loc
  refine fin s2.heap.objs.size s3.heap.objs.size H' s' m' a5 (vF K.lt) (λx c ec ez=>?_) ⟨J'.free,K.sz,λq hq ez=>by have:=wF (K.pin q hq).1;rw[ez]at this;exact absurd this (vI _)⟩ (λh5 a6=>jQ K f3 J' a6) ?_
  .obtain ⟨v,o,n,_⟩:=K.cell x c ec
   rw[ez]at n
   exact absurd (wF n) (vI _)
  .have u:h[S1.length]?=some s2.heap.objs.size:=q'.get P
   unfold lcEnd at p
   cases mm with
   |true =>
    rw[wL rfl]at p
    exact p _ h H' ((q2.trans Y).trans q') f ⟨_,rfl,u⟩
   |false =>
    rw[wK (by decide)]at p
    by_cases hl:Sf.length=S1.length+1
    .rw [wL hl]at p
     split at p
     .rename_i l a7
      obtain⟨⟨n',a8,a9⟩,ys,Z,dl⟩:=f.obj _ _ _ u a7
      obtain rfl:n'=S1.length:=zd f.nd a8 u
      have en:S1.length=a.length:=F.len.symm
      have qq:Stp ι H (h.take S1.length) H':=by rw[en];exact q2.trans (Y.trans q').less
      have W:=f.less S1.length
      refine p (.ref s2.heap.objs.size) _ H' qq W ⟨_,ys,rfl,λhm=>?_,.inl Z,Dens.less l a9 dl⟩
      obtain⟨j,hj,ej⟩:=v5 hm
      rw[vE]at hj
      have aa:h[j]?=some s2.heap.objs.size:=by
       rw[List.getElem_take]at ej
       rw[wD (by omega),ej]
      have:=zd f.nd aa u
      omega
     .exact p.elim
    .rw [wK hl]at p;exact p.elim
 exact codeAny_compStart_list loop (T'.self _ 0 _ _ _ t4 loop)
theorem qlI{tg elt iter:Expr}{ifs:List Expr}{sc:Scope}{fr:List Nat}{xs ts:List Str}{mi:En->Sr->Res (List D×(Sr->Prop))}{g:D->En->Sr->Res En}{mt:En->Sr->Res Bool}{me:En->Sr->Res D}{b:Bool}(c:X.calm=true)(hi:PI X tg iter (TIg mi))(d:∀x,foldedSetIterable iter X.env x=pure x)(e:CSc X sc fr xs ts)(B:Blk X sc (xs++ts) tg ifs elt g mt me):
  PE X (.ListComp elt [⟨tg,iter,ifs,0⟩] sc pos) (T (mLcG b fr ts.length mi g mt me)):=λpins s i H Q I f=>by
 rw[eval_ListComp]
 refine qdu c hi d e B I f λD C H' s' m hn _ _ _ h q=>⟨m,hn,λh' a=>⟨.ref D,H',h h' a,rfl,q⟩⟩
theorem qfR{tg elt iter:Expr}{ifs:List Expr}{sc:Scope}{fr:List Nat}{xs ts:List Str}{mi:En->Sr->Res (List D×(Sr->Prop))}{g:D->En->Sr->Res En}{mt:En->Sr->Res Bool}{me:En->Sr->Res D}{O:Bool}{i:Nat}{y:Str}{h c:Pos}(U:X.calm=true)(hi:PI X tg iter (TIg mi))(W:∀x,foldedSetIterable iter X.env x=pure x)(Y:CSc X sc fr xs ts)(B:Blk X sc (xs++ts) tg ifs elt g mt me)(Z:X.N.Nodup)(hy:X.N[i]?=some y)(P:X.env.scope.names.lookup y=some .local)(n:swapsWith (.ListComp elt [⟨tg,iter,ifs,0⟩] sc pos) (some (.Name y h)) c.line X.env=pure true):
  PS X (.Assign [.Name y h] (.ListComp elt [⟨tg,iter,ifs,0⟩] sc pos) c) (TSm λρ S=>(mLcG O fr ts.length mi g mt me ρ S).bind λd S1=>.ok (.nx (ρ.set i (some d))) S1):=λpins s r H D I hw=>by
 obtain⟨ι,S,ρ,Q,st,p⟩:=hw
 rw[exec_Assign_Name_used _ _ _ _ n]
 refine wA (v6 (wA ?_))
 show wpAny _ X.A (do let _ <-comprehension (.ListComp elt [⟨tg,iter,ifs,0⟩] sc pos) sc X.env _ (newList []) false (eval iter X.env) (some (assign (.Name y h) X.env))) _ _ s
 have hT:T (mLcG O fr ts.length mi g mt me) r H (λv u=>D.nx (r.set i (some v)) u):=⟨ι,S,ρ,Q,st,PsF.bind p λa S1 w u b s1 E ra p1=>p1 w u (Stp.refl _ _) E _ ((Q.mono s1).set ra)⟩
 refine wA (vT (qdu (use:=some (assign (.Name y h) X.env)) (Q':=λ_ s'=>SP X pins D .next s') U hi W Y B I hT λR C H' s' m hn j l f hI q=>?_) (λ_ s' hq=>wC (wC hq)) λ_ _ e=>e)
 show wpAny _ X.A (assign (.Name y h) X.env (.ref R)) _ _ _
 have I0:Inv X pins r H' s':=by
  have:=hI s'.heap (Heap.SameBut.refl ..)
  exact this
 refine wpAny_assign_Name (y8 I0 Z hy (.inl P) (v:=.ref R) rfl (λF J K=>?_) (.inr P))
 obtain⟨a,sb,ha⟩:=K
 have L:C≠a:=by
  rcases ha with z|z
  .rw [z];exact j
  .exact λq=>l y a z q.symm
 refine⟨m,hn.sameBut sb L,λh' M=>?_⟩
 have I3:=J.turned (h':=h') (t':=F.toks) (it:=C) (λb o hb e=>M.extBut b o hb e) f.1 j (.inr f.2.1) l f.2.2
 exact⟨_,H',I3,q⟩
theorem r_lc{tg elt iter:Expr}{ifs:List Expr}{sc:Scope}{fr:List Nat}{xs ts:List Str}{mi:En->Sr->Res (List D)}{g:D->En->Sr->Res En}{mt:En->Sr->Res Bool}{me:En->Sr->Res D}{a:Bool}(b:X.calm=true)(hi:PI X tg iter (TIt mi))(c:∀x,foldedSetIterable iter X.env x=pure x)(d:CSc X sc fr xs ts)(B:Blk X sc (xs++ts) tg ifs elt g mt me):
  PE X (.ListComp elt [⟨tg,iter,ifs,0⟩] sc pos) (T (mLc a fr ts.length mi g mt me)):=by
 rw[<-qi0];exact qlI b (pi_g hi) c d B
theorem qib{tg elt iter:Expr}{ifs:List Expr}{sc:Scope}{fr:List Nat}{xs ts:List Str}{mi:En->Sr->Res (List D)}{g:D->En->Sr->Res En}{mt:En->Sr->Res Bool}{me:En->Sr->Res D}{e:Bool}{i:Nat}{y:Str}{c a:Pos}(f:X.calm=true)(hi:PI X tg iter (TIt mi))(h:∀x,foldedSetIterable iter X.env x=pure x)(j:CSc X sc fr xs ts)(B:Blk X sc (xs++ts) tg ifs elt g mt me)(l:X.N.Nodup)(m:X.N[i]?=some y)(n:X.env.scope.names.lookup y=some .local)(b:swapsWith (.ListComp elt [⟨tg,iter,ifs,0⟩] sc pos) (some (.Name y c)) a.line X.env=pure true):
  PS X (.Assign [.Name y c] (.ListComp elt [⟨tg,iter,ifs,0⟩] sc pos) a) (TSm λρ S=>(mLc e fr ts.length mi g mt me ρ S).bind λd S1=>.ok (.nx (ρ.set i (some d))) S1):=by
 rw[<-qi0];exact qfR f (pi_g hi) h j B l m n b
end
end R
namespace R
open PySem PySem.Spec L2 SeqAt
open PyProof.Rows hiding St
def Sg(M:Model)(B:Around)(a:End->Shared->Prop)(k:Code)(t:Sem Fin)(l:List Frame)(s:Shared):Prop:=∀G p,G.code=k->G.Woken B->∃x z,Runs M G p t l s x z/\a x z
section
variable{M:Model}{B:Around}{Φ:End->Shared->Prop}{k:Code}{l:List Frame}{s:Shared}
theorem qa1{c:Type}{m:Sem c}{f:c->Sem Fin}{e:Value->Sem Fin}{gd:Bool->Bool}{lv:List Value->List Value}(h:wpAny M (B.over k l) m (λa z=>Sg M B Φ k (f a) l z) (λx z=>Sg M B Φ k (e x) l z) s):Sg M B Φ k (m.wrap f e gd lv) l s:=λG p d b=>by
 subst d
 exact runs_wrap_of_wp f e gd lv m (h _ p (b.over l)) (λ_ q _ z=>z G q rfl b) λ_ q _ z=>z G q rfl b
theorem zL{i j:Type}{m:Sem i}{f:i->Sem j}{d:j->Sem Fin}{c:Value->Sem Fin}{gd:Bool->Bool}{lv:List Value->List Value}(h:wpAny M (B.over k l) m (λa z=>Sg M B Φ k ((f a).wrap d c gd lv) l z) (λx z=>Sg M B Φ k (c x) l z) s):Sg M B Φ k ((m >>= f).wrap d c gd lv) l s:=by
 have q:=qa1 (f:=λa=>(f a).wrap d c gd lv) (e:=λx=>(Sem.raise x).wrap d c gd lv) (gd:=λb=>gd (id b)) (lv:=λb=>lv (id b)) h
 rwa [Sem.bind_eq_wrap',Sem.wrap_wrap]
theorem yg{a:Code}(b:a.quiet=true)(h:Sg M B Φ a (M.den a) l s):Sg M B Φ k (.pure (.again a)) l s:=λG p c d=>by
 subst c
 have ⟨x,z,r,q⟩:=h (G.goto a) p rfl (d.goto a)
 exact⟨x,z,Runs.head (c₁:=a) (λ_ _ y=>.again b y) r,q⟩
theorem qj3(r:Result)(h:Φ (.ret r) s):Sg M B Φ k (leafOf r) [] s:=λG p a b=>⟨_,s,Runs.leaf r,h⟩
theorem qlJ{a:Pos}{f:Unit->Sem Fin}(h:Sg M B Φ k (f ()) l s):Sg M B Φ k (.at a f) l s:=by
 have q:Sg M B Φ k ((standAt a).wrap f .raise id id) l s:=qa1 (v6 h)
 exact q
theorem qfS{v:Value}{vs:List Value}{f:Resume->Sem Fin}(h:∀p,Φ (.susp v false vs f k p []) s):Sg M B Φ k (.yield v false vs f) [] s:=λG p a b=>by
 subst a
 exact⟨_,s,Runs.yield' [] rfl,h p⟩
end
def Go(M:Model)(B:Around)(a:End->Shared->Prop)(s:Shared):GenState->Prop
 | .fresh k=>Sg M B a k (M.den k) [] s
 | .suspended f _ k _ l _=>Sg M B a k (f (.send .none)) l s
 |_=>False
theorem qfT{prog:Program}{w:World}{A:Around}{E:Value->Shared->Prop}{s:Shared}{a:Addr}{n:Nat}{gs:GenState}{h:End->Shared->Prop}{Q:Option Value->Shared->Prop}(B:A.handled=none)(C:s.heap.NoLimit)(hd:A.depth<recursionLimit)(ha:s.heap.IsGen a n)(m:s.gens[n]?=some gs)(c:Go (model prog w) A.in1 h (s.setGen n .running) gs)(hx:∀x z,h x z->match x with
   | .ret r=>r=.ok .next/\∀h',(∀b o,z.heap.get? b=some o->h'.get? b=some o)->Q none {z.setGen n .finished with heap:=h' }
   | .susp v g vs f k p l=>(End.susp v g vs f k p l).quiet=true/\Q (some v) (z.setGen n (End.susp v g vs f k p l).genState)):
  wpAny (model prog w) A (pyNext (.ref a)) Q E s:=by
 have d:∀{u:Type} {l:List Value} {f:GenResult->Sem u} {R:u->Shared->Prop} {y:Value->Shared->Prop},(∀x z,h x z->x.quiet=true/\wpAny (model prog w) A.in1 (f x.result) R y (z.setGen n x.genState))->wpAny (model prog w) A.in1 (.resume n (.send .none) l f) R y s:=by
  intro u l f R y i G p j
  rw[Sem.wp_resume]
  cases gs with
  |fresh k =>
   obtain⟨x,z,r,q⟩:=c (G.wake k p) p rfl (j.wake k p)
   exact⟨x.result,z.setGen n x.genState,by unfold Wakes;rw[m];exact⟨x,z,r,(i x z q).1,rfl,rfl⟩,(i x z q).2 G p j⟩
  |suspended K L k F H cl =>
   obtain⟨x,z,r,q⟩:=c (G.wake k p) F rfl (j.wake k p)
   exact⟨x.result,z.setGen n x.genState,by unfold Wakes;rw[m];exact⟨x,z,r,(i x z q).1,rfl,rfl⟩,(i x z q).2 G p j⟩
  |running=>exact c.elim
  |finished=>exact c.elim
 unfold pyNext
 refine wA (v7 ?_)
 refine wb (name:=Str.ofString "__next__") ha.typeIs slot_gen_next ?_
 refine wf slot_gen_next ha.typeIs entry_gen_next (?_:wpAny _ A.in1 (Builtin.Generator.genWake (.ref a) (.send .none)) _ _ s) (args_gen_next _)
 unfold Builtin.Generator.genWake
 refine wA (wm (wpAny_genNumber ha ?_))
 refine wA (wpAny_genState m ?_)
 have go:∀x z,h x z->x.quiet=true:=λx z q=>by
  cases x with
  |ret r=>rfl
  |susp v g vs f k p l=>exact(hx _ _ q).1
 cases gs with
 |running=>exact c.elim
 |finished=>exact c.elim
 |_ =>
  refine wA (wpAny_roomToWake C hd (d λx z q=>⟨go x z q,?_⟩))
  cases x with
  |susp v g vs f k p l=>exact wC ⟨v,rfl,wC (hx _ _ q).2⟩
  |ret r =>
   obtain⟨e,I⟩:=hx _ _ q
   subst e
   show wpAny _ A.in1 (newExc (.type "StopIteration") [] >>= _) _ _ (z.setGen n .finished)
   refine wA ?_
   unfold newExc newTuple
   refine wA (wS ?_ (by size_fits))
   refine wA (uI (t:=firstArgMember _ _) (a:=Value.none) (by first|rfl|(simp only[firstArgMember];rfl)) ?_)
   refine wS ?_ (by size_fits)
   unfold raiseNew
   refine wA (wA (xi ?_))
   rw[show A.in1.handled=none from B]
   refine wpAny_throw (wA (vO (T:="StopIteration") (b:=true) ⟨_,wE _ rfl,rfl⟩ xT ?_))
   exact wC (I _ λb o J=>wB _ (wB _ J))
end R
namespace R
open PySem PySem.Spec L2 SeqAt
open PyProof.Rows hiding St
inductive GN where
 |fin (S:Sr)|yl (i:Nat) (ρ:En) (v:D) (S:Sr)|bad
noncomputable def grdN(gu:Sr->Prop)(S:Sr)(r:GN):GN:=@ite _ (gu S) (Classical.propDecidable _) r .bad
theorem yu{gu:Sr->Prop}{S:Sr}(h:gu S)(r:GN):grdN gu S r=r:=wL h
theorem yS{gu:Sr->Prop}{S:Sr}{r:GN}(h:grdN gu S r≠.bad):gu S:=Classical.byContradiction λn=>h (wK n)
noncomputable def gnx(gu:Sr->Prop)(g:D->En->Sr->Res En)(mt:En->Sr->Res Bool)(me:En->Sr->Res D):Nat->List D->En->Sr->GN
 |_,[],_,S=>grdN gu S (.fin S)
 |i,d::r,ρ,S=>grdN gu S <| match g d ρ S with
  | .ok ρ1 S1=>match mt ρ1 S1 with
   | .ok true S2=>match me ρ1 S2 with
    | .ok v a=>.yl (i+1) ρ1 v a
    |_=>.bad
   | .ok false S2=>gnx gu g mt me (i+1) r ρ1 S2
   |_=>.bad
  |_=>.bad
section
variable{X:Cx}{pos:Pos}
structure Sus (X:Cx) (J:It) (tn:Nat->Heap->Prop) (fp:List Addr) (ds:List D) (gu:Sr->Prop) (i:Nat) (ρ:En) (S:Sr) (ι:List Addr) (H:Hp) (pins:List (Addr×Obj)) (s:Shared):Prop where
 inv:∃σ,Inv X pins σ H s/\EnR ι H ρ σ
 sto:Sto ι H S
 at':tn i s.heap
 le:i<=ds.length
 fz:∀b∈fp,H b=none
 it:ItG ι H J ds gu
 pf:∀p∈pins,p.1∉fp
def Pw(X:Cx)(J:It)(tn:Nat->Heap->Prop)(fp:List Addr)(ds:List D)(gu:Sr->Prop)(M:Model)(B:Around)(g:D->En->Sr->Res En)(mt:En->Sr->Res Bool)(me:En->Sr->Res D):Nat->GenState->Nat->En->Sr->Prop
 |0,_,_,_,_=>True
 |n+1,gs,i,ρ,S=>∀pins ι H s,Sus X J tn fp ds gu i ρ S ι H pins s->gnx gu g mt me i (ds.drop i) ρ S≠.bad->Go M B (λx z=>match x with
  | .ret r=>r=.ok .next/\∃c a H' e,gnx gu g mt me i (ds.drop i) ρ S=.fin c/\Inv X pins e H' z/\Stp ι H a H'/\Sto a H' c
  | .susp v gd vs f k p l=>(End.susp v gd vs f k p l).quiet=true/\∃h b d c a H' y,gnx gu g mt me i (ds.drop i) ρ S=.yl h b d c/\Stp ι H a H'/\Den a H' d y/\RelV y v/\Sus X J tn fp ds gu h b c a H' pins z /\
   Pw X J tn fp ds gu M B g mt me n (End.susp v gd vs f k p l).genState h b c) s gs
def Pz(X:Cx)(J:It)(tn:Nat->Heap->Prop)(fp:List Addr)(ds:List D)(gu:Sr->Prop)(M:Model)(B:Around)(g:D->En->Sr->Res En)(mt:En->Sr->Res Bool)(me:En->Sr->Res D)(n:Nat)(i:GN)(pins:List (Addr×Obj))(ι:List Addr)(H:Hp):End->Shared->Prop:=λx z=>match x with
  | .ret r=>r=.ok .next/\∃c a H' e,i=.fin c/\Inv X pins e H' z/\Stp ι H a H'/\Sto a H' c
  | .susp v gd vs f k p l=>(End.susp v gd vs f k p l).quiet=true/\∃h b d c a H' y,i=.yl h b d c/\Stp ι H a H'/\Den a H' d y/\RelV y v/\Sus X J tn fp ds gu h b c a H' pins z /\
   Pw X J tn fp ds gu M B g mt me n (End.susp v gd vs f k p l).genState h b c
theorem qfU{tg elt iter:Expr}{ifs:List Expr}{sc:Scope}{J:It}{fp:List Addr}{it:Addr}{tn:Nat->Heap->Prop}{g:D->En->Sr->Res En}{mt:En->Sr->Res Bool}{me:En->Sr->Res D}{ds:List D}{gu:Sr->Prop}{B:Around}(O:X.xe=λ_ _=>False)(hc:X.calm=true)(a0:X.ex=fp)(a1:∀p∈X.pn,p.1∉fp)(hA:X.A=B.over (.compLoop (.GeneratorExp elt [⟨tg,iter,ifs,0⟩] sc pos) 0 (.ref it) .none X.env) [])(a3:X.env.scope.isCoroutine=false)(T':Turn X.prog X.w X.K tg J fp it tn)(hg:PG X tg (TGt g))(ht:PTl X ifs (TB mt))(he:PE X elt (T me)):∀(n m i:Nat) (ρ:En) (S:Sr) (pins:List (Addr×Obj)) (q:List Addr) (H0:Hp) (ι:List Addr) (H:Hp) (s:Shared),ds.length-i=m ->
   Sus X J tn fp ds gu i ρ S ι H pins s->Stp q H0 ι H->gnx gu g mt me i (ds.drop i) ρ S≠.bad ->
   Sg (model X.prog X.w) B (Pz X J tn fp ds gu (model X.prog X.w) B g mt me n (gnx gu g mt me i (ds.drop i) ρ S) pins q H0) (.compLoop (.GeneratorExp elt [⟨tg,iter,ifs,0⟩] sc pos) 0 (.ref it) .none X.env)
    ((model X.prog X.w).den (.compLoop (.GeneratorExp elt [⟨tg,iter,ifs,0⟩] sc pos) 0 (.ref it) .none X.env)) [] s:=by
 intro n
 induction n using Nat.strongRecOn with
 |ind n a4 =>
 intro m
 induction m with
 |zero =>
  intro i ρ S pins q H0 ι H s hm U q0 a
  obtain⟨⟨σ,I,er⟩,st,t1,le,f1,ok,pf⟩:=U
  have hi:i=ds.length:=by omega
  subst hi
  have j:∀{H':Hp},(∀b∈fp,H' b=none)->∀b∈fp,FpOk X pins H' b:=λhn b a=>by
   have c:b∈X.ex:=by rw[a0];exact a
   exact⟨hn b a,(I.ok.exf b c).1,λz=>I.ok.exfs b c z,.inl c,(I.ok.exf b c).2,λp hp z=>(wg.mp hp).elim (λy=>a1 p y (z ▸ a)) λy=>pf p y (z ▸ a)⟩
  show Sg _ B _ _ ((compTurn (.GeneratorExp elt [⟨tg,iter,ifs,0⟩] sc pos) 0 (.ref it) .none X.env).onRaise (leaving X.env)) [] s
  rw[compTurn_gen,Sem.onRaise_eq_wrap]
  refine zL (v6 (zL ?_))
  rw[<-hA]
  have C:gu S:=by
   rw[ul (wG _)]at a
   exact yS a
  refine thnF (T'.done X rfl rfl rfl hc _ pins s σ H _ I (j f1) t1 (ok.stop ι H S (Stp.refl _ _) st C)) λr s2 ⟨hr,I2⟩=>?_
  subst hr
  refine qj3 (.ok .next) ⟨rfl,S,ι,H,σ,?_,I2,q0,st⟩
  rw[ul (wG _)];exact yu C _
 |succ m a5 =>
  intro i ρ S pins q H0 ι H s hm U q0 a
  obtain⟨⟨σ,I,er⟩,st,t1,le,f1,ok,pf⟩:=U
  have P:i<ds.length:=by omega
  have j:∀{H':Hp},(∀b∈fp,H' b=none)->∀b∈fp,FpOk X pins H' b:=λhn b a=>by
   have c:b∈X.ex:=by rw[a0];exact a
   exact⟨hn b a,(I.ok.exf b c).1,λz=>I.ok.exfs b c z,.inl c,(I.ok.exf b c).2,λp hp z=>(wg.mp hp).elim (λy=>a1 p y (z ▸ a)) λy=>pf p y (z ▸ a)⟩
  have hd:ds[i]?=some ds[i]:=wD P
  have ed:ds.drop i=ds[i]::ds.drop (i+1):=u7 P
  have C:gu S:=by
   rw[ed]at a
   exact yS a
  obtain⟨go,yl⟩:=ok.go i _ ι H S (Stp.refl _ _) st C hd
  show Sg _ B _ _ ((compTurn (.GeneratorExp elt [⟨tg,iter,ifs,0⟩] sc pos) 0 (.ref it) .none X.env).onRaise (leaving X.env)) [] s
  rw[compTurn_gen,Sem.onRaise_eq_wrap]
  refine zL (v6 (zL ?_))
  rw[<-hA]
  refine thnF (T'.item X rfl rfl rfl hc i pins s σ H _ I (j f1) t1 go) λr s2 ⟨u,hr,h2⟩=>?_
  subst hr
  refine zL ?_
  rw[<-hA]
  refine thnF h2 λ_ s3 ⟨x,H3,I3,r3,y3,t3,f3⟩=>?_
  obtain⟨q3,a6⟩:=yl x H3 y3
  obtain⟨k3,d3⟩:=a6 S st
  have a7:=I3.pinned (j f3) (T'.obj _ _ t3)
  rw[ed]at a ⊢
  unfold gnx at a ⊢
  rw[yu C]at a ⊢
  cases z1:g ds[i] ρ S with
  |no=>rw[z1]at a;exact absurd rfl a
  |err=>rw[z1]at a;exact absurd rfl a
  |ok d S2 =>
   rw[z1]at a
   dsimp only at a ⊢
   refine zL ?_
   rw[<-hA]
   refine vT (hg _ s3 σ H3 x u (λE Q=>∃e,Stp ι H3 e Q/\Sto e Q S2/\EnR e Q d E) a7 r3 ⟨ι,S,ρ,ds[i],er.mono q3,k3,d3,?_⟩) (λ_ s4 ⟨E,Q,I4,e,q4,R,l⟩=>?_) λ_ _ z=>by rw[O]at z;exact z.elim
   .rw [z1];exact λE e Q q4 R l=>⟨e,q4,R,l⟩
   cases z2:mt d S2 with
   |no=>rw[z2]at a;exact absurd rfl a
   |err=>rw[z2]at a;exact absurd rfl a
   |ok b S3 =>
    rw[z2]at a
    refine zL ?_
    rw[<-hA]
    refine vT (ht _ s4 E Q (λb' W=>b'=b/\∃f,Stp e Q f W/\Sto f W S3) I4 ⟨e,S2,d,l,R,?_⟩) (λb' s5 ⟨W,I5,eb,f,N,L⟩=>?_) λ_ _ z=>by rw[O]at z;exact z.elim
    .rw [z2];exact λb' f W N L eb=>⟨(show b=b' from eb).symm,f,N,L⟩
    subst eb
    have sus:∀{M:St} {H7:Hp} {s7:Shared} {F:List Addr} {S7:Sr},Inv X (pins++pinsAt fp s3.heap) M H7 s7->Stp ι H F H7->EnR F H7 d M->Sto F H7 S7->Sus X J tn fp ds gu (i+1) d S7 F H7 pins s7:=by
     intro M H7 s7 F S7 I7 q7 a8 a9
     refine⟨⟨M,I7.unpinned,a8⟩,a9,T'.keep _ _ _ t3 λb a o eo=>(I7.pin (b,o) (wU _ (wU _ (qU a eo)))).1,P,λb a=>?_,ok.mono q7,pf⟩
     obtain⟨o,eo,_⟩:=T'.obj _ _ t3 b a
     exact(I7.pin (b,o) (wU _ (wU _ (qU a eo)))).2.1
    cases b' with
    |false =>
     dsimp only at a ⊢
     exact yg rfl (a5 (i+1) d S3 pins q H0 f W s5 (by omega) (sus I5 ((q3.trans q4).trans N) (l.mono N) L) (q0.trans ((q3.trans q4).trans N)) a)
    |true =>
     dsimp only at a ⊢
     cases z3:me d S3 with
     |no=>rw[z3]at a;exact absurd rfl a
     |err=>rw[z3]at a;exact absurd rfl a
     |ok v S4 =>
      dsimp only
      have hy:∀v,yieldOut X.env v=yieldValue v:=λv=>by simp only[yieldOut,a3,wj,vc]
      simp only[hy,vd]
      rw[Sem.bind_eq_wrap',Sem.bind_eq_wrap',Sem.wrap_wrap,Sem.wrap_wrap]
      refine qa1 ?_
      rw[<-hA]
      refine vT (he _ s5 E W (λy H6=>∃h,Stp f W h H6/\Sto h H6 S4/\Den h H6 v y) I5 ⟨f,S3,d,l.mono N,L,?_⟩) (λy' s6 ⟨y,H6,I6,ry,h,q6,Y,dv⟩=>?_) λ_ _ z=>by rw[O]at z;exact z.elim
      .rw [z3];exact λy h H6 q6 Y dv=>⟨h,q6,Y,dv⟩
      have tot:=((q3.trans q4).trans N).trans q6
      refine qlJ (qfS λp=>⟨rfl,i+1,d,v,S4,h,H6,y,rfl,q0.trans tot,dv,ry,sus I6 tot (l.mono (N.trans q6)) Y,?_⟩)
      cases n with
      |zero=>trivial
      |succ n' =>
       intro Z a2 H' s' U' c
       exact yg rfl (a4 n' (uM _) _ (i+1) d S4 Z a2 H' a2 H' s' rfl U' (Stp.refl _ _) c)
end
end R
namespace R
open PySem PySem.Spec L2 SeqAt
open PyProof.Rows hiding St
section
variable{gu:Sr->Prop}{g:D->En->Sr->Res En}{mt:En->Sr->Res Bool}{me:En->Sr->Res D}
theorem jc:∀(l:List D) (i:Nat) (ρ:En) (S:Sr) {b:Nat} {a:En} {v:D} {c:Sr},gnx gu g mt me i l ρ S=.yl b a v c->i<b/\b<=i+l.length
 |[],_,_,S,_,_,_,_,h=>by
  rw[show gnx gu g mt me _ [] _ S=grdN gu S (.fin S)from rfl,yu (yS (by rw[show grdN gu S (.fin S)=_ from h];intro z;cases z))]at h
  cases h
 |d::r,i,ρ,S,b,a,v,c,h=>by
  unfold gnx at h
  rw[yu (yS (by rw[h];intro z;cases z))]at h
  split at h
  .split at h
   .split at h
    .cases h;simp
    .cases h
   .have:=jc r (i+1) _ _ h
    simp only[wX]
    lia
   .cases h
  .cases h
noncomputable def gen1{a:Type}(step:a->D->Option (a ⊕ D))(fin:a->Option D)(rest:Nat->En->a->Sr->Res D)(b:a):GN->Res D
 | .fin S=>ofO (fin b) S
 | .yl i ρ v S=>match step b v with
  |some (.inl b')=>rest i ρ b' S
  |some (.inr x)=>.ok x S
  |none=>.no
 | .bad=>.no
theorem qdv{c:Type}{step:c->D->Option (c ⊕ D)}{fin:c->Option D}:∀(l:List D) (i:Nat) (ρ:En) (b:c) (S:Sr) {d:D} {f:Sr},genLoopG gu g mt me step fin l ρ b S=.ok d f ->
  gen1 step fin (λj ρ b S=>genLoopG gu g mt me step fin (l.drop (j-i)) ρ b S) b (gnx gu g mt me i l ρ S)=.ok d f
 |[],_,_,_,S,d,f,h=>by
  have a:gu S:=Classical.byContradiction λn=>by
   unfold genLoopG at h
   rw[yd n]at h;cases h
  unfold genLoopG at h
  rw[zq a]at h
  unfold gnx
  rw[yu a]
  exact h
 |x::r,i,ρ,b,S,d,f,h=>by
  have a:gu S:=Classical.byContradiction λn=>by
   unfold genLoopG at h
   rw[yd n]at h;cases h
  unfold genLoopG at h
  rw[zq a]at h
  unfold gnx
  rw[yu a]
  cases z1:g x ρ S with
  |no=>rw[z1]at h;cases h
  |err=>rw[z1]at h;cases h
  |ok ρ1 S1 =>
   rw[z1,Res.bind_ok]at h
   dsimp only
   cases z2:mt ρ1 S1 with
   |no=>rw[z2]at h;cases h
   |err=>rw[z2]at h;cases h
   |ok t S2 =>
    rw[z2,Res.bind_ok]at h
    cases t with
    |true =>
     rw[wL rfl]at h
     dsimp only
     cases z3:me ρ1 S2 with
     |no=>rw[z3]at h;cases h
     |err=>rw[z3]at h;cases h
     |ok v m =>
      rw[z3,Res.bind_ok]at h
      have e:i+1-i=1:=by lia
      simp only[gen1,e,xK,xU]
      exact h
    |false =>
     rw[wK (by decide)]at h
     dsimp only
     have q:=qdv r (i+1) ρ1 b S2 h
     cases z4:gnx gu g mt me (i+1) r ρ1 S2 with
     |fin m=>rw[z4]at q;exact q
     |bad=>rw[z4]at q;cases q
     |yl j o v m =>
      rw[z4]at q
      have:=jc r (i+1) ρ1 S2 z4
      have e:j-i=j-(i+1)+1:=by lia
      simp only[gen1]at q ⊢
      rw[e,xK]
      exact q
theorem zB{a:Type}{step:a->D->Option (a ⊕ D)}{fin:a->Option D}{ds:List D}{gu:Sr->Prop}{i:Nat}{ρ:En}{b:a}{S:Sr}{d:D}{c:Sr}(h:genLoopG gu g mt me step fin (ds.drop i) ρ b S=.ok d c):
  gen1 step fin (λj ρ b S=>genLoopG gu g mt me step fin (ds.drop j) ρ b S) b (gnx gu g mt me i (ds.drop i) ρ S)=.ok d c:=by
 have q:=qdv _ i ρ b S h
 cases z:gnx gu g mt me i (ds.drop i) ρ S with
 |fin f=>rw[z]at q;exact q
 |bad=>rw[z]at q;cases q
 |yl j l v f =>
  rw[z]at q
  have:=jc _ i ρ S z
  simp only[gen1]at q ⊢
  rw[List.drop_drop]at q
  have e:i+(j-i)=j:=by lia
  rw[e]at q
  exact q
end
theorem qic{s:Shared}{n:Nat}{x y:GenState}:(s.setGen n x).setGen n y=s.setGen n y:=by
 unfold Shared.setGen
 simp
theorem GK.done{a g:Array GenState}{x:GenState}(h:GK (a.push .running) (g.setIfInBounds a.size .running))(e:g[a.size]?=some x)(hx:x.bare=true):GK a g:=by
 refine⟨λy b=>?_,?_,λi hi=>?_⟩
 .obtain ⟨i,hi,rfl⟩:=Array.mem_iff_getElem.mp b
  by_cases q:i=a.size
  .subst q
   rw[wp hi]at e
   cases e;exact hx
  .refine h.bare _ ?_
   have:(g.setIfInBounds a.size .running)[i]'(by simpa using hi)=g[i]:=by
    rw[xL]
    rw[wK (Ne.symm q)]
   rw[<-this]
   exact Array.getElem_mem _
 .have:=h.sz
  simp at this
  lia
 .have:=h.old i (by simp;lia)
  rw[Array.getElem?_setIfInBounds_ne (by lia)]at this
  rw[this,Array.getElem?_push_lt hi]
  exact(wp hi).symm
theorem qfV{X:Cx}{pins:List (Addr×Obj)}{a:St}{H:Hp}{s:Shared}(I:Inv X pins a H s){g':Array GenState}(h:GK X.s₀.gens g'):Inv X pins a H {s with gens:=g' } :=
 ⟨I.ok,I.os,h,I.base,I.loc,I.cell,I.free,I.freeC,I.pin,I.hok,I.len⟩
section
variable{X:Cx}
structure Cs (X:Cx) (J:It) (tn:Nat->Heap->Prop) (fp:List Addr) (ds:List D) (gu:Sr->Prop) (B:Around) (g:D->En->Sr->Res En) (mt:En->Sr->Res Bool) (me:En->Sr->Res D) (n k i:Nat) (ρ:En) (S:Sr) (ι:List Addr) (H:Hp) (pins:List (Addr×Obj)) (s:Shared):Prop where
 sus:Sus X J tn fp ds gu i ρ S ι H pins (s.setGen n .running)
 st:∃gs,s.gens[n]?=some gs/\gs.bare=true/\Pw X J tn fp ds gu (model X.prog X.w) B g mt me k gs i ρ S
theorem qa2{J:It}{tn:Nat->Heap->Prop}{fp:List Addr}{ds:List D}{gu:Sr->Prop}{A:Around}{g:D->En->Sr->Res En}{mt:En->Sr->Res Bool}{me:En->Sr->Res D}{n k i:Nat}{ρ:En}{S:Sr}{ι:List Addr}{H:Hp}{pins:List (Addr×Obj)}{s:Shared}{a:Addr}{o:Obj}{F:Array GenState}{Q:Option Value->Shared->Prop}{E:Value->Shared->Prop}(W:A.handled=none)(hd:A.depth<recursionLimit)(Y:(a,o)∈X.pn)(Z:∀h:Heap,h.get? a=some o->h.IsGen a n)(h0:X.s₀.gens=F.push .running)(hn:n=F.size)(C:Cs X J tn fp ds gu A.in1 g mt me n (k+1) i ρ S ι H pins s)(hb:gnx gu g mt me i (ds.drop i) ρ S≠.bad)(fin:∀m c H' b z,gnx gu g mt me i (ds.drop i) ρ S=.fin m->Inv X pins b H' (z.setGen n .running)->GK F z.gens->Stp ι H c H'->Sto c H' m->Q none z)(yl:∀L u d m c H' y v z,gnx gu g mt me i (ds.drop i) ρ S=.yl L u d m->Stp ι H c H'->Den c H' d y->RelV y v->Cs X J tn fp ds gu A.in1 g mt me n k L u m c H' pins z->Q (some v) z):
  wpAny (model X.prog X.w) A (pyNext (.ref a)) Q E s:=by
 obtain⟨U,gs,hs,a0,pw⟩:=C
 obtain⟨⟨σ,I,er⟩,_⟩:=id U
 have hp:s.heap.get? a=some o:=(I.pin (a,o) (wc _ Y)).1
 refine qfT W I.nolimit hd (Z _ hp) hs (pw pins ι H _ U hb) λx z q=>?_
 have hsz:∀{b:St} {H':Hp},Inv X pins b H' z->z.gens[n]?=some .running/\n<z.gens.size:=λ{b H'} J=>by
  have e:=J.bare.old n (by rw[h0,hn];simp)
  rw[h0,hn]at e
  rw[hn]
  have B:(F.push GenState.running)[F.size]?=some .running:=by simp
  rw[B]at e
  exact⟨e,by
   rcases Nat.lt_or_ge F.size z.gens.size with M|M
   .exact M
   .rw [vr M]at e;cases e⟩
 have bk:∀{b:St} {H':Hp} (y:GenState),Inv X pins b H' z->Inv X pins b H' ((z.setGen n y).setGen n .running):=λ{b H'} y J=>by
  rw[qic]
  have e:(z.gens.setIfInBounds n .running)=z.gens:=by
   obtain⟨e1,B⟩:=hsz J
   apply Array.ext
   .simp
   .intro j h1 h2
    rw[xL]
    split
    .rename_i q
     subst q
     rw[wp B]at e1
     exact(Option.some.inj e1).symm
    .rfl
  have:=qfV J (g':=z.gens.setIfInBounds n .running) (by rw[e];exact J.bare)
  exact this
 cases x with
 |ret r =>
  obtain⟨e,m,c,H',b,e1,J,s1,N⟩:=q
  refine⟨e,λh' hk=>fin m c H' b _ e1 ?_ ?_ s1 N⟩
  .have:=(bk .finished J).kept (h':=h') (t':=z.toks) hk
   exact this
  .refine GK.done (x:=.finished) (g:=(z.gens.setIfInBounds n .finished)) ?_ ?_ rfl
   .have:=(bk .finished J).bare
    rw[h0]at this
    rw[<-hn]
    exact this
   .rw [<-hn]
    obtain⟨_,B⟩:=hsz J
    simp[B]
 |susp v gd vs f k' p l =>
  obtain⟨P,L,u,d,m,c,H',y,e1,s1,dv,ry,R,O⟩:=q
  refine⟨P,yl L u d m c H' y v _ e1 s1 dv ry ⟨?_,_,?_,End.bare_of_quiet P,O⟩⟩
  .obtain ⟨⟨b,J,K⟩,a1,a2,a3,a4,a5,a6⟩:=R
   exact⟨⟨b,bk _ J,K⟩,a1,a2,a3,a4,a5,a6⟩
  .obtain ⟨⟨b,J,K⟩,_⟩:=R
   obtain⟨_,B⟩:=hsz J
   show(z.gens.setIfInBounds n _)[n]?=_
   simp[B]
end
end R
namespace R
open PySem PySem.Spec L2 SeqAt
open PyProof.Rows hiding St
section
variable{X:Cx}{pos:Pos}
theorem qcQ{K:PySem.W.Frag}{h:Heap}(kin:K.In h){c T:Addr}{ps:Array Value}(e:codeTab K c T=true)(n:h.get? T=some {cls:=.none,data:=.fields ps})(tr:TriplesOk ps.toList):h.IsCode c T ps/\h.TableAt c T ps:=by
 unfold codeTab at e
 split at e
 .rename_i cls d vs sl p
  simp only[wV,uB]at e
  obtain⟨e1,i⟩:=e
  split at i
  .rename_i a b v w x y x5 x6 z j f l q r m
   simp only[wV,uB,bne_iff_ne]at i
   obtain⟨⟨s,u⟩,ne⟩:=i
   subst s
   subst u
   have o:=kin _ _ p
   exact⟨⟨_,vs,_,_,_,_,_,_,_,_,o,rfl,j,l,q,r,m,n,rfl,tr,ne⟩,⟨_,vs,o,e1,rfl,f⟩,n⟩
  .cases i
 .cases e
theorem qfW{M:Model}{A:Around}{E:Value->Shared->Prop}{pins:List (Addr×Obj)}{F:St}{H:Hp}{s:Shared}{c T:Addr}{q:Str}{sc:Scope}(I:Inv X pins F H s)(P:X.env.code=.ref c)(Q:codeTab X.K c T=true):
  wpAny M A (genexprCode X.env pos q sc) (λ_ s'=>∃H',Inv X pins F H' s'/\s'.gens=s.gens/\(∀ι,Stp ι H ι H')/\(∀ι S,Sto ι H S->Sto ι H' S)/\∀b o,s.heap.get? b=some o->H b=none->s'.heap.get? b=some o/\H' b=none) E s:=by
 obtain⟨j,h0⟩:=I.ok.tab c T Q
 obtain⟨mo,p⟩:=I.base.tbls T j h0
 generalize j++mo=ps at p
 obtain⟨W,tr⟩:=I.hok T _ p
 obtain⟨R,Y⟩:=qcQ I.kIn Q W tr
 cases z:codeAmong pos ps.toList with
 |some v=>exact wpAny_genexprCode_hit P R z ⟨H,I,rfl,λ_=>Stp.refl _ _,λ_ _ x=>x,λb o e n=>⟨e,n⟩⟩
 |none =>
  refine wpAny_genexprCodeX P R Y z λU h' tk hx _ _ B _ h _=>?_
  generalize J:ps++#[rawInt pos.line,rawInt pos.col,.ref U]=ps' at B h
  have f:∀{b:Addr} {u:HO},H b=some u->(∀x,u≠.tbl x)->b≠T:=λ{b u} e n z=>by
   subst z;rw[p]at e;cases e;exact n _ rfl
  have i:∀{b:Addr},H b=none->b≠T:=λ{b} e z=>by subst z;rw[p]at e;cases e
  have L:TriplesOk ps'.toList:=by
   obtain⟨_,_,_,_,_,_,_,_,_,_,_,_,_,_,_,_,_,e1,N,t,_⟩:=B
   exact t
  have O:HOk X.prog X.w (upd H T (.tbl ps')) h':=λb u e=>by
   by_cases q:b=T
   .subst q
    rw[ql]at e;cases e
    exact⟨h.2,L⟩
   .rw [qj q]at e
    refine(I.hok b u e).stay (λd v hd Z=>hx d v ?_ Z) (λd C=>by rw[qj (f C (by intro _ z;cases z))];exact C) λd xs C=>by rw[qj (f C (by intro _ z;cases z))];exact C
    rcases hd with y|y
    .subst y;exact q
    .exact f y (by intro _ z;cases z)
  have I':Inv X pins F (upd H T (.tbl ps')) {s with heap:=h',toks:=tk}:=by
   refine I.step (g':=s.gens) (d':=s.drawn) (ch:=[]) (λ_ z=>nomatch z) (λb o _ _ _ e n=>hx b o (i n) e) (λb o _ _ _ e n=>⟨o.slots,hx b o (i n) e⟩) (λb o _ e n=>by rw[qj (i n)];exact n)
    (λb o _ e=>?_) (λb xs e=>by rw[qj (f e (by intro _ z;cases z))];exact e) (λb o u e=>by rw[qj (f e (by intro _ z;cases z))];exact e) (λb qs e=>?_) (λm hm=>?_) O I.bare.self
   .by_cases q:b=T
    .subst q;exact⟨_,h.2⟩
    .exact ⟨o,hx b o q e⟩
   .by_cases q:b=T
    .subst q
     rw[p]at e;cases e
     exact⟨#[rawInt pos.line,rawInt pos.col,.ref U],by rw[ql,<-J]⟩
    .exact ⟨#[],by rw[qj q,e];simp⟩
   .obtain ⟨o,es,ep,ho,r⟩:=hm
    exact⟨o,es,ep,hx _ o (i I.free) ho,r⟩
  have sp:∀ι,Stp ι H ι (upd H T (.tbl ps')):=λι=>⟨uz _,λ_ m=>.inl m,λa u e _ nt=>by
    rw[qj (f e (by intro x z;subst z;exact nt))];exact e,λa e=>by
    by_cases q:a=T
    .subst q;rw[ql];simp
    .rw [qj q];exact e⟩
  refine⟨_,I',rfl,sp,λι S st=>⟨st.len,st.nd,λn a so e1 N=>(st.obj n a so e1 N).mono (sp ι) ?_⟩,λb o e n=>⟨hx b o (i n) e,by rw[qj (i n)];exact n⟩⟩
  have k:=st.obj n a so e1 N
  cases so with
  |lst l=>obtain⟨_,xs,e,_⟩:=k;rw[qj (f e (by intro _ z;cases z))]
  |dic l=>obtain⟨_,xs,e,_⟩:=k;rw[qj (f e (by intro _ z;cases z))]
  |dis l=>obtain⟨_,xs,e,_⟩:=k;rw[qj (f e (by intro _ z;cases z))]
theorem qid{M:Model}{A:Around}{E:Value->Shared->Prop}{pins:List (Addr×Obj)}{a:St}{H:Hp}{s:Shared}{Q:Addr->Shared->Prop}(I:Inv X pins a H s)(h:Q builtinsNs s):wpAny M A (builtinsFor X.env.globals X.env.builtins) Q E s:=by
 obtain⟨bm,ob,e1,b,c,d,e,f⟩:=I.ok.mod.bmod
 rw[I.ok.glob]
 exact wpAny_builtinsFor (I.ok.mod.glob.keeps I.bk) e1 b (I.bk _ _ c) d e f h
noncomputable def genCx(X:Cx)(sc:Scope)(cl:List (Str×Addr))(C:Addr)(code:Value)(N':List Str)(fp:List Addr)(ge:Expr)(it:Addr)(o:Addr×Obj)(s:Shared)(H:Hp):Cx :=
 {X with A:=X.A.in4.in1.over (.compLoop ge 0 (.ref it) .none (genEnv sc cl C code builtinsNs X.env)) [],N:=N',s₀:={s with gens:=s.gens.push .running},H₀:=H,env:=genEnv sc cl C code builtinsNs X.env,outer:=X.stack,stack:=genEnv sc cl C code builtinsNs X.env::X.stack,ex:=fp,fn:=λ_=>false,pn:=[o],xe:=λ_ _=>False}
theorem qfX{sc:Scope}{cl:List (Str×Addr)}{code:Value}{N':List Str}{fp:List Addr}{tg elt iter:Expr}{ifs:List Expr}{it:Addr}{o:Addr×Obj}{pins:List (Addr×Obj)}{j:St}{H:Hp}{s:Shared}(I:Inv X pins j H s)(l:sc.kind=.function)(a:∀y∈sc.names,y.2≠.cell)(f:Clos X sc cl)(i:∀b∈fp,FpOk X pins H b)(n:∀b∈fp,b<s.heap.objs.size):(genCx X sc cl s.heap.objs.size code N' fp (.GeneratorExp elt [⟨tg,iter,ifs,0⟩] sc pos) it o s H).Ok where
 mod:=I.ok.mod
 kind:=l
 glob:=I.ok.glob
 blt:=rfl
 above:=wG _
 inj:=λx y c p q=>I.ok.inj x y c (f.sub x c p) (f.sub y c q)
 has:=λx hx=>by
  have hx:sc.names.lookup x=some .cell\/sc.names.lookup x=some .free:=hx
  rcases hx with z|z
  .exact absurd rfl (a _ (vZ z))
  .exact f.all x z
 cab:=λx c h _=>by cases h
 hd:=λh=>I.ok.hd h
 frames:=by
  unfold genCx Around.over
  dsimp only[xR,envsOf,List.filter_nil,List.filterMap_nil,pushEnvs]
  rw[I.ok.frames]
  rfl
 stk:=.inr ⟨rfl,rfl⟩
 exf:=λb d=>⟨wT (n b d),λx c h=>(i b d).2.2.2.2.1 x c (f.sub x c h)⟩
 bs:=I.bs
 bsz:=vK I.ok.bsz I.sz
 noex:=λb o e d=>by
  rcases(i b d).2.2.2.1 with z|z
  .exact I.ok.noex b o e z
  .exact absurd (w6 (wF e) (vK I.ok.bsz z)) (vI _)
 exfs:=λb d r=>by
  rcases wN.mp (I.stkSub b r)with z|z
  .exact (i b d).2.1 z
  .exact (i b d).2.2.1 z
 funs:=I.stack
 frf:=I.stkFree
 tab:=λc T z=>let ⟨ps,e⟩:=I.ok.tab c T z;let ⟨m,u⟩:=I.base.tbls _ _ e;⟨_,u⟩
end
end R
namespace R
open PySem PySem.Spec L2 SeqAt
open PyProof.Rows hiding St
section
variable{X:Cx}{pos:Pos}
theorem qeF{tg elt iter:Expr}{ifs:List Expr}{sc:Scope}{J:It}{fp:List Addr}{it:Addr}{tn:Nat->Heap->Prop}{g:D->En->Sr->Res En}{mt:En->Sr->Res Bool}{me:En->Sr->Res D}{ds:List D}{gu:Sr->Prop}{B:Around}(a:X.xe=λ_ _=>False)(f:X.calm=true)(b:X.ex=fp)(c:∀p∈X.pn,p.1∉fp)(h:X.A=B.over (.compLoop (.GeneratorExp elt [⟨tg,iter,ifs,0⟩] sc pos) 0 (.ref it) .none X.env) [])(d:X.env.scope.isCoroutine=false)(T':Turn X.prog X.w X.K tg J fp it tn)(i:PG X tg (TGt g))(j:PTl X ifs (TB mt))(l:PE X elt (T me))(ρ:En)(S:Sr):∀k,Pw X J tn fp ds gu (model X.prog X.w) B g mt me k (.fresh (.compStart (.GeneratorExp elt [⟨tg,iter,ifs,0⟩] sc pos) 0 (.ref it) .none X.env)) 0 ρ S
 |0=>trivial
 |k+1=>by
  intro pins ι H s U n
  have loop:=qfU a f b c h d T' i j l k _ 0 ρ S pins ι H ι H s rfl U (Stp.refl _ _) n
  have e:=U.at'
  show Sg _ B (Pz X J tn fp ds gu _ B g mt me k _ pins ι H) _ ((compStart (.GeneratorExp elt [⟨tg,iter,ifs,0⟩] sc pos) 0 (.ref it) .none X.env).onRaise (leaving X.env)) [] s
  unfold compStart
  rw[Sem.onRaise_eq_wrap]
  refine zL (m:=ask) (ux ?_)
  split
  .exact yg rfl loop
  .refine zL (vb ?_)
   first
    |exact zL (v6 (zL (T'.self _ 0 s _ _ e (yg rfl loop))))
    | (show Sg _ B _ _ ((standAt iter.pos >>= _).wrap _ _ _ _) [] s
       exact zL (v6 (zL (T'.self _ 0 s _ _ e (yg rfl loop)))))
structure BlkG (X:Cx) (sc:Scope) (N':List Str) (tg iter:Expr) (ifs:List Expr) (elt:Expr) (pos:Pos) (g:D->En->Sr->Res En) (mt:En->Sr->Res Bool) (me:En->Sr->Res D):Prop where
 rt:∀cl C code fp it o s H,PG (genCx X sc cl C code N' fp (.GeneratorExp elt [⟨tg,iter,ifs,0⟩] sc pos) it o s H) tg (TGt g)
 ri:∀cl C code fp it o s H,PTl (genCx X sc cl C code N' fp (.GeneratorExp elt [⟨tg,iter,ifs,0⟩] sc pos) it o s H) ifs (TB mt)
 re:∀cl C code fp it o s H,PE (genCx X sc cl C code N' fp (.GeneratorExp elt [⟨tg,iter,ifs,0⟩] sc pos) it o s H) elt (T me)
noncomputable def GH(X:Cx)(pins:List (Addr×Obj))(j:St)(ds:List D)(gu:Sr->Prop)(g:D->En->Sr->Res En)(mt:En->Sr->Res Bool)(me:En->Sr->Res D)(a:Addr)(ρ:En)(S:Sr)(ι:List Addr)(H:Hp)(s:Shared):Prop :=
 ∃sc cl C code N' fp ge it o d f J tn,(∀h:Heap,h.get? a=some o->h.IsGen a d.gens.size)/\(∀k,Cs (genCx X sc cl C code N' fp ge it (a,o) d f) J tn fp ds gu X.A.in4.in1 g mt me d.gens.size k 0 ρ S ι H [] s)/\(∀b∈fp,b<s.heap.objs.size) /\
  (∀i h h',tn i h->(∀b∈fp,∀o,h.get? b=some o->h'.get? b=some o)->tn i h') /\
  ∀c e H' z,Inv (genCx X sc cl C code N' fp ge it (a,o) d f) c e H' (z.setGen d.gens.size .running)->GK d.gens z.gens->Inv X pins j H' z
theorem qbO{tg elt iter:Expr}{ifs:List Expr}{sc:Scope}{fr:List Nat}{xs ts:List Str}{mi:En->Sr->Res (List D×(Sr->Prop))}{g:D->En->Sr->Res En}{mt:En->Sr->Res Bool}{me:En->Sr->Res D}{c T:Addr}(hc:X.calm=true)(U:X.A.depth<recursionLimit)(hi:PI X tg iter (TIg mi))(hs:∀x,genFold iter X.env x=pure x)(C':CSc X sc fr xs ts)(hz:sc.names.lookup (".0":Str)=some NameKind.local)(a3:sc.isCoroutine=false)(W:X.env.code=.ref c)(a4:codeTab X.K c T=true)(B:BlkG X sc (xs++ts) tg iter ifs elt pos g mt me){pins:List (Addr×Obj)}{s:Shared}{O:St}{H:Hp}{ι:List Addr}{S:Sr}{ρ:En}(I:Inv X pins O H s)(er:EnR ι H ρ O)(st:Sto ι H S){ds:List D}{gu:Sr->Prop}{S1:Sr}(hm:mi ρ S=.ok (ds,gu) S1):
  wpAny (model X.prog X.w) X.A (eval (.GeneratorExp elt [⟨tg,iter,ifs,0⟩] sc pos) X.env) (λv s'=>∃a P H',v=.ref a/\Stp ι H P H'/\GH X pins O ds gu g mt me a (frE ρ fr ts.length) S1 P H' s') X.xe s:=by
 obtain⟨cl,CL⟩:=qa0 (X:=X) (sc:=sc) λx hx hf=>I.ok.has x.1 (C'.frees x hx hf)
 refine wpAny_GeneratorExp_make a3 CL.eq C'.nocell hz C'.kind U ?_ hs
 refine thn (hi pins s O H (λJ H2=>∃E,Stp ι H E H2/\Sto E H2 S1/\ItG E H2 J ds gu) I ⟨ι,S,ρ,er,st,?_⟩) λxv s1 R=>thn R λam s2 L=>?_
 .rw [hm];exact λP H' J q a9 ok=>⟨P,q,a9,ok⟩
 obtain⟨it,fp,tn,J,H2,e,I2,T',t2,f2,E,q2,aa,ab⟩:=L
 subst e
 refine⟨I2.nolimit,thn (qfW I2 W a4) λcode d ⟨H3,M,eg,Y,ac,Z⟩=>qid M ?_⟩
 intro m ad a5
 have a6:∀b∈fp,∃o,s2.heap.get? b=some o/\H2 b=none:=λb C=>by
  obtain⟨o,eo,_⟩:=T'.obj _ _ t2 b C
  exact⟨o,eo,(f2 b C).1⟩
 have f3:∀b∈fp,FpOk X pins H3 b:=λb C=>by
  obtain⟨o,e1,Q⟩:=a6 b C
  exact⟨(Z b o e1 Q).2,(f2 b C).2⟩
 have l3:∀b∈fp,b<d.heap.objs.size:=λb C=>by
  obtain⟨o,e1,Q⟩:=a6 b C
  exact wF (Z b o e1 Q).1
 have hsz:m.objs.size=d.heap.objs.size+1:=by rw[a5.1,wt]
 have f:∀(u:Obj) b o,d.heap.get? b=some o->(m.push u).get? b=some o:=λu b o e=>wB _ (a5.extBut b o (wT (wF e)) (wB _ e))
 generalize a0:({cls:=.type "generator",data:=.fields #[.int d.gens.size 0,.str "<genexpr>" (d.toks+1),.str (X.env.qual++"<genexpr>") (d.toks+1+1)]}:Obj)=ob
 have a1:H3 m.objs.size=none:=M.hok.fresh (by rw[hsz];lia)
 have ae:=qfX (code:=code) (N':=xs++ts) (tg:=tg) (elt:=elt) (iter:=iter) (ifs:=ifs) (pos:=pos) (it:=it) (o:=(m.objs.size,ob)) M C'.kind C'.nocell CL f3 l3
 have af:(m.push ob).Ns d.heap.objs.size (λy=>if y=".0" then some (.ref it)else none):=ad.push _
 have ek:∀n,(d.gens.push (GenState.fresh n)).setIfInBounds d.gens.size .running=d.gens.push .running:=λn=>by
  apply Array.ext
  .simp
  .intro j R L
   by_cases q:j=d.gens.size
   .subst q;simp
   .have:j<d.gens.size:=by simp at L;lia
    rw[xL (by simp;lia),wK (Ne.symm q),Array.getElem_push_lt this,Array.getElem_push_lt this]
 have al:∀b:Addr,(m.objs.size)≠b\/b=m.objs.size:=λb=>by
  by_cases q:b=m.objs.size
  .exact .inr q
  .exact .inl (Ne.symm q)
 have a7:(m.push ob).get? m.objs.size=some ob:=by subst a0;exact wE _ rfl
 have F:=C'.frs
 have a8:∀(gg:Array GenState) (tk:Nat),gg=d.gens.push .running->Inv (genCx X sc cl d.heap.objs.size code (xs++ts) fp (.GeneratorExp elt [⟨tg,iter,ifs,0⟩] sc pos) it (m.objs.size,ob) d H3) [] (frS O fr ts.length) H3 {d with heap:=m.push ob,toks:=tk,gens:=gg}:=by
  intro gg tk ag
  refine⟨ae,rfl,?_,Un.kept (f ob),⟨_,af,λi x v R L h3=>?_⟩,λx N e=>?_,M.hok.fresh (wG _),λx N e=>M.freeC x N (CL.sub x N e),λp hp=>?_,M.hok.kept (f ob),?_⟩
  .subst ag
   exact GK.refl (AllBare.push M.bare.bare rfl)
  .have R:(xs++ts)[i]?=some x:=R
   have L:(frS O fr ts.length)[i]?=some (some v):=L
   unfold frS at L
   by_cases hi:i<fr.length
   .rw [w5 (by simpa using hi),w4,wD hi]at L
    rw[w5 (by rw[<-F.len];exact hi)]at R
    simp only[wq,Option.some.injEq]at L
    have hN:=F.at' i fr[i] x (wD hi) R
    have ah:O[fr[i]]?=some (some v):=by
     cases z:O[fr[i]]? with
     |none=>rw[z]at L;cases L
     |some o=>rw[z]at L;simp at L;rw[L]
    obtain⟨kf,ko⟩:=F.kd x (wy R)
    obtain⟨m0,an,ai⟩:=M.loc
    obtain⟨u,r,l⟩:=ai fr[i] x v hN ah (.inr ko)
    refine⟨u,r,.inr ?_⟩
    have aj:∃N,X.env.cells.lookup x=some N/\d.heap.IsCell N (some u):=by
     rcases l with ⟨z,_⟩|⟨_,N,e1,Q⟩
     .rcases ko with q|q <;> (rw[z]at q;cases q)
     .exact ⟨N,e1,Q⟩
    obtain⟨N,e1,o,Q,e3⟩:=aj
    obtain⟨c',e4⟩:=CL.all x kf
    have e5:=CL.sub x c' e4
    rw[e1]at e5;cases e5
    exact⟨.inr kf,N,e4,o,f ob _ _ Q,e3⟩
   .rw [wn (by simpa using hi),uK]at L
    split at L <;> cases L
  .obtain ⟨v,o,e1,Q⟩:=M.cell x N (CL.sub x N e)
   exact⟨v,o,f ob _ _ e1,Q⟩
  .have a2:p=(m.objs.size,ob):=by
    have:p∈[(m.objs.size,ob)]++([]:List (Addr×Obj)):=hp
    simpa using this
   subst a2
   refine⟨a7,a1,(show m.objs.size≠d.heap.objs.size by lia),λz=>?_,λv=>?_⟩
   .have z':m.objs.size∈frs X.stack:=z
    rcases wN.mp (M.stkSub _ z')with q|q
    .have:=M.lt
     rw[<-q,hsz]at this
     exact absurd this (Nat.not_lt.mpr (vz _))
    .exact absurd q (M.nofs (by lia))
   .show ob.data≠_
    rw[<-a0];intro z;cases z
  .show (frS O fr ts.length).length=(xs++ts).length
   simp[frS,F.len]
 refine⟨m.objs.size,E,H3,rfl,q2.trans (Y E),sc,cl,d.heap.objs.size,code,xs++ts,fp,.GeneratorExp elt [⟨tg,iter,ifs,0⟩] sc pos,it,ob,d,H3,J,tn,λh e=>?_,λk=>⟨?_,_,Array.getElem?_push_size ..,rfl,?_⟩,λb C=>?_,T'.keep,λak ao H' z J' gk=>?_⟩
 .rw [<-a0]at e
  exact⟨_,_,_,e,rfl,rfl,rfl⟩
 .refine ⟨⟨frS O fr ts.length,?_,(qdt er fr ts.length).mono (q2.trans (Y E))⟩,ac _ _ aa,T'.keep _ _ _ t2 λb C o eo=>f ob b o (Z b o eo (f2 b C).1).1,vH _,λb C=>(f3 b C).1,ab.mono (Y E),λp hp=>absurd hp (by simp)⟩
  exact a8 _ _ (ek _)
 .exact qeF (X:=genCx X sc cl d.heap.objs.size code (xs++ts) fp (.GeneratorExp elt [⟨tg,iter,ifs,0⟩] sc pos) it (m.objs.size,ob) d H3) rfl hc rfl (λp hp C=>by
   have a2:p=(m.objs.size,ob):=by
    have:p∈[(m.objs.size,ob)]:=hp
    simpa using this
   subst a2
   have:=l3 _ C
   have e:m.objs.size<d.heap.objs.size:=this
   lia) rfl a3 T' (B.rt _ _ _ _ _ _ _ _) (B.ri _ _ _ _ _ _ _ _) (B.re _ _ _ _ _ _ _ _) _ _ k
 .have:=l3 b C
  show b<(m.push ob).objs.size
  rw[wt]
  exact w6 (l3 b C) (by lia)
 .have ba:Un (frs X.stack) fp H3 H' d.heap z.heap:=J'.base
  exact M.call' (ch:=fp) J'.os ba J'.hok gk λb C=>⟨(f3 b C).2.2.2.1,(f3 b C).2.1,(f3 b C).2.2.2.2.1,(f3 b C).2.2.2.2.2⟩
end
end R
namespace R
open PySem PySem.Spec L2 SeqAt
open PyProof.Rows hiding St
section
variable{X:Cx}{pos:Pos}
theorem qbP{M:Model}{A:Around}{a:Type}{t:Sem a}{Q:a->Shared->Prop}{E:Value->Shared->Prop}{s:Shared}(h:wpAny M A.in4 t Q E s):wpAny M A.in1 t Q E s:=wpAny_of_in1 (wpAny_of_in1 (wpAny_of_in1 h))
section
variable{sc:Scope}{cl:List (Str×Addr)}{C:Addr}{code:Value}{N':List Str}{fp:List Addr}{ge:Expr}{it a:Addr}{o:Obj}{s4:Shared}{H4:Hp}{J:It}{tn:Nat->Heap->Prop}{ds:List D}{gu:Sr->Prop}{g:D->En->Sr->Res En}{mt:En->Sr->Res Bool}{me:En->Sr->Res D}
theorem qcR{c:Type}{step:c->D->Option (c ⊕ D)}{fin:c->Option D}{i:Nat}{ρ:En}{b:c}{S e:Sr}{d:D}(h:genLoopG gu g mt me step fin (ds.drop i) ρ b S=.ok d e):gnx gu g mt me i (ds.drop i) ρ S≠.bad:=λz=>by
 have q:=zB h
 rw[z]at q;cases q
theorem qie{R:Result->Shared->Prop}(P:X.A.handled=none)(hd:X.A.depth<recursionLimit)(Q:∀h:Heap,h.get? a=some o->h.IsGen a s4.gens.size):∀(k i:Nat) (ρ:En) (b:D) (S:Sr) (ι:List Addr) (H:Hp) (s:Shared) {d:D} {l:Sr},ds.length<k+i ->
  Cs (genCx X sc cl C code N' fp ge it (a,o) s4 H4) J tn fp ds gu X.A.in4.in1 g mt me s4.gens.size k i ρ S ι H [] s->genLoopG gu g mt me (stepG .all) (finG .all) (ds.drop i) ρ b S=.ok d l ->
  (∀j f H' z c,d=.bl c->Inv (genCx X sc cl C code N' fp ge it (a,o) s4 H4) [] j H' (z.setGen s4.gens.size .running)->GK s4.gens z.gens->Stp ι H f H'->Sto f H' l->R (.ok (.ret (.bool c))) z) ->
  codeAny (model X.prog X.w) X.A (.builtin "all.loop" ⟨[.ref a],[]⟩) R s:=by
 intro k
 induction k with
 |zero =>
  intro i ρ b S ι H s d l U r _ _
  have:=r.sus.le
  lia
 |succ k W =>
  intro i ρ b S ι H s d l U r e x
  refine wa F.entry_all_loop ?_
  rw[wZ F.plain_all_loop]
  refine wA (m:=pyNext (.ref a)) (qbP (qa2 (X:=genCx X sc cl C code N' fp ge it (a,o) s4 H4) (A:=X.A.in4) P hd wH Q rfl rfl r (qcR e) (λS2 f H' j z n p B q st=>?_) λY E v S2 f H' y u z n q Z ry O=>?_))
  .have q2:=zB e
   rw[n]at q2
   cases q2
   exact wA (vb (wC (x j f H' z true rfl p B q st)))
  .have q2:=zB e
   have hi:=jc _ _ _ _ n
   rw[n]at q2
   simp only[gen1]at q2
   have hv:∃c,v=.bl c:=by
    cases v with
    |bl c=>exact⟨c,rfl⟩
    |_=>simp only[stepG]at q2;cases q2
   obtain⟨c,rfl⟩:=hv
   cases (show y=_ from Z)
   cases (show u=Value.bool c from ry)
   refine wA (wm (vV (wA (uo ?_))))
   cases c with
   |true =>
    simp only[stepG]at q2
    rw[wL rfl]
    exact wC ⟨wo F.plain_all_loop _,W Y E _ S2 f H' z (by lia) O q2 λI K H2 z2 c ec I2 B s2 L=>x I K H2 z2 c ec I2 B (q.trans s2) L⟩
   |false =>
    simp only[stepG]at q2
    cases q2
    rw[wK (by decide)]
    obtain⟨⟨⟨M,p,a0⟩,N,_⟩,gs,eg,bg,_⟩:=O
    exact wA (vb (wC (x M f H' z false rfl p (GK.done p.bare eg bg) q N)))
end
end
end R
namespace R
open PySem PySem.Spec L2 SeqAt
open PyProof.Rows hiding St
section
variable{X:Cx}{J:It}{tn:Nat->Heap->Prop}{fp:List Addr}{ds:List D}{gu:Sr->Prop}{B:Around}{g:D->En->Sr->Res En}{mt:En->Sr->Res Bool}{me:En->Sr->Res D}{n k i:Nat}{ρ:En}{S:Sr}{ι:List Addr}{H:Hp}{s:Shared}
theorem qdw(C:Cs X J tn fp ds gu B g mt me n k i ρ S ι H [] s)(tk:∀i h h',tn i h->(∀b∈fp,∀o,h.get? b=some o->h'.get? b=some o)->tn i h')(c:∀b∈fp,b<s.heap.objs.size){u:Obj}(d:(s.heap.push u).get? s.heap.objs.size=some u)(f:∀v,u.data≠.cell v){t:Nat}:
  Cs X J tn fp ds gu B g mt me n k i ρ S ι H [(s.heap.objs.size,u)] {s with heap:=s.heap.push u,toks:=t}:=by
 obtain⟨⟨⟨j,I,l⟩,st,at',le,fz,ok,pf⟩,w⟩:=C
 refine⟨⟨⟨j,?_,l⟩,st,tk _ _ _ at' λb _ o e=>wB _ e,le,fz,ok,λp a m=>?_⟩,w⟩
 .have q:=I.kept (h':=s.heap.push u) (t':=t) λb o e=>wB _ e
  refine q.pins_of λp a=>?_
  obtain rfl:=wM.mp a
  exact⟨d,I.hok.fresh (wG _),vF I.lt,I.nofs (wG _),f⟩
 .obtain rfl:=wM.mp a
  exact absurd (c _ m) (vI _)
theorem qa3{p:Addr}{u f:Obj}{h':Heap}{t:Nat}(C:Cs X J tn fp ds gu B g mt me n k i ρ S ι H [(p,u)] s)(tk:∀i h h',tn i h->(∀b∈fp,∀o,h.get? b=some o->h'.get? b=some o)->tn i h')(F:X.s₀.heap.objs.size<=p)(hn:∀q∈X.pn,q.1≠p)(l:∀b o,b≠p->s.heap.get? b=some o->h'.get? b=some o)(K:h'.get? p=some f)(L:∀v,f.data≠.cell v):Cs X J tn fp ds gu B g mt me n k i ρ S ι H [(p,f)] {s with heap:=h',toks:=t}:=by
 obtain⟨⟨⟨m,I,M⟩,st,at',le,fz,ok,pf⟩,w⟩:=C
 obtain⟨e1,r,y,N,O⟩:=I.pin (p,u) (wU _ (wM.mpr rfl))
 have np:p∉fp:=pf (p,u) (wM.mpr rfl)
 refine⟨⟨⟨m,?_,M⟩,st,tk _ _ _ at' λb j o e=>l b o (λz=>np (z ▸ j)) e,le,fz,ok,λq a j=>?_⟩,w⟩
 .have A:Inv X [] m H (s.setGen n .running):=I.unpinned (pins:=[]) (pl:=[(p,u)])
  have P:=A.turned (h':=h') (t':=t) (it:=p) l r y (.inr F) (λx c Q z=>by
   obtain⟨v,o,E,d⟩:=A.cell x c Q
   rw[z,e1]at E;cases E
   exact O v d) λq a=>hn q (by simpa using a)
  refine P.pins_of λq a=>?_
  obtain rfl:=wM.mp a
  exact⟨K,r,y,N,L⟩
 .obtain rfl:=wM.mp a
  exact np j
end
noncomputable def accO(t:Int)(a:Tok)(c:Nat):Obj:={cls:=.type "list",dict:=none,data:=.seq #[.int t a] c,slots:=#[]}
section
variable{X:Cx}{sc:Scope}{cl:List (Str×Addr)}{C:Addr}{code:Value}{N':List Str}{fp:List Addr}{ge:Expr}{it a:Addr}{o:Obj}{s4:Shared}{H4:Hp}{J:It}{tn:Nat->Heap->Prop}{ds:List D}{gu:Sr->Prop}{g:D->En->Sr->Res En}{mt:En->Sr->Res Bool}{me:En->Sr->Res D}
theorem qif{R:Result->Shared->Prop}(hh:X.A.handled=none)(hd:X.A.depth<recursionLimit)(hg:∀h:Heap,h.get? a=some o->h.IsGen a s4.gens.size)(tk:∀i h h',tn i h->(∀b∈fp,∀o,h.get? b=some o->h'.get? b=some o)->tn i h'){p:Addr}(hp:s4.heap.objs.size<=p)(a0:a≠p):∀(k i:Nat) (ρ:En) (t:Int) (S:Sr) (ι:List Addr) (H:Hp) (s:Shared) (K:Tok) (c:Nat) (P:Int) {d:D} {U:Sr},(P=0\/P=2)->ds.length<k+i ->
  Cs (genCx X sc cl C code N' fp ge it (a,o) s4 H4) J tn fp ds gu X.A.in4.in1 g mt me s4.gens.size k i ρ S ι H [(p,accO t K c)] s->genLoopG gu g mt me (stepG .sum) (finG .sum) (ds.drop i) ρ (.int t) S=.ok d U ->
  (∀j N l H' z r tz,d=.int r->Inv (genCx X sc cl C code N' fp ge it (a,o) s4 H4) j N H' (z.setGen s4.gens.size .running)->GK s4.gens z.gens->Stp ι H l H'->Sto l H' U->R (.ok (.ret (.int r tz))) z) ->
  codeAny (model X.prog X.w) X.A (.builtin "sum.loop" ⟨[.ref a,.ref p,rawInt P,rawInt 0],[]⟩) R s:=by
 intro k
 induction k with
 |zero =>
  intro i ρ t S ι H s K c P d U _ hk W _ _
  have:=W.sus.le
  lia
 |succ k ih =>
  intro i ρ t S ι H s K c P d U a1 hk W e hR
  have hS:s.heap.get? p=some (accO t K c):=by
   obtain⟨σ,I,_⟩:=W.sus.inv
   exact(I.pin (p,accO t K c) (wU _ (wM.mpr rfl))).1
  refine wa F.entry_sum_loop ?_
  rw[wZ vh]
  refine wA (m:=seqItems? (.ref p)) (vN hS rfl ?_)
  refine wA (m:=tryCatch (pyNext (.ref a)) _) (gF ?_)
  refine qbP (qa2 (X:=genCx X sc cl C code N' fp ge it (a,o) s4 H4) (A:=X.A.in4) hh hd wH hg rfl rfl W (qcR e) (λS2 l H' N z Y Iz gk q st=>?_) λi' a2 v S2 l H' y u z Y q dv ry Cz=>?_)
  .have q2:=zB e
   rw[Y]at q2
   cases q2
   exact wC (hR _ N l H' z t K rfl Iz gk q st)
  .have q2:=zB e
   have hi:=jc _ _ _ _ Y
   rw[Y]at q2
   simp only[gen1]at q2
   have hv:∃r,v=.int r:=by
    cases v with
    |int r=>exact⟨r,rfl⟩
    |_=>simp only[stepG]at q2;cases q2
   obtain⟨r,rfl⟩:=hv
   cases (show y=_ from dv)
   obtain⟨tr,rfl⟩:=(show ∃tr,u=Value.int r tr from ry)
   simp only[stepG]at q2
   have L:z.heap.get? p=some (accO t K c):=by
    obtain⟨σ,I,_⟩:=Cz.sus.inv
    exact(I.pin (p,accO t K c) (wU _ (wM.mpr rfl))).1
   have n:=w8 (h:=z.heap) (Obj.mapSeq λ_=>#[Value.int (t+r) z.toks]) L rfl
   have fin:∀(Z:Heap) (Q:Nat) (O:Tok) (c2:Nat) (B:Int),(B=0\/B=2)->(∀b o,b≠p->z.heap.get? b=some o->Z.get? b=some o)->Z.get? p=some (accO (t+r) O c2) ->
     codeAny (model X.prog X.w) X.A (.builtin "sum.loop" ⟨[.ref a,.ref p,rawInt B,rawInt 0],[]⟩) R {z with heap:=Z,toks:=Q}:=λZ Q O c2 B a3 a4 a5=>by
    refine ih i' a2 (t+r) S2 l H' _ O c2 B a3 (by lia) (qa3 Cz tk hp (λq hq=>?_) a4 a5 λv z=>by cases z) q2 λj a6 a7 H2 z2 r2 tz ec I2 gk s2 a8=>hR j a6 a7 H2 z2 r2 tz ec I2 gk (q.trans s2) a8
    have a9:q=(a,o):=by
     have:q∈[(a,o)]:=hq
     simpa using this
    subst a9
    exact a0
   have E:∀(f:Obj->Obj) (h1:Heap) (b:Addr) (x:Obj),b≠p->h1.get? b=some x->(h1.update p f).get? b=some x:=λf h1 b x M ex=>(wQ _ _ (Ne.symm M)).trans ex
   rcases a1 with rfl|rfl
   .show wpAny _ _ (if(_:Bool)=true then(mkInt (t+r) >>= _)else _) _ _ z
    split
    .refine wA (wpAny_mkInt ?_)
     refine wA (m:=updateSeq p _) (vS L rfl (wC ⟨wo vh _,?_⟩))
     exact fin _ _ z.toks _ 0 (.inl rfl) (λb x M ex=>E _ _ b x M ex) n
    .refine wA (vb (wA (v7 (wm (wpAny_add_int ?_)))))
     refine wA (m:=updateSeq p _) (vS L rfl (wA (uo ?_)))
     refine wA (m:=updateSeq p _) (vS n rfl (wC ⟨wo vh _,?_⟩))
     exact fin _ _ z.toks _ 2 (.inr rfl) (λb x M ex=>E _ _ b x M (E _ _ b x M ex)) (w8 _ n rfl)
   .refine wA (m:=(holding [Value.int r tr] (binaryOp .Add (.int t K) (.int r tr))).attempt) (v7 (wm (wpAny_add_int ?_)))
    refine wA (m:=updateSeq p _) (vS L rfl (wA (uo ?_)))
    refine wA (m:=updateSeq p _) (vS n rfl (wC ⟨wo vh _,?_⟩))
    exact fin _ _ z.toks _ 2 (.inr rfl) (λb x M ex=>E _ _ b x M (E _ _ b x M ex)) (w8 _ n rfl)
end
end R
namespace R
open PySem PySem.Spec L2 SeqAt
open PyProof.Rows hiding St
noncomputable def mGenG(w:GW)(fr:List Nat)(nt:Nat)(mi:En->Sr->Res (List D×(Sr->Prop)))(g:D->En->Sr->Res En)(mt:En->Sr->Res Bool)(me:En->Sr->Res D):En->Sr->Res D:=λρ S=>(mi ρ S).bind λp S1 =>
 genLoopG p.2 g mt me (stepG w) (finG w) p.1 (frE ρ fr nt) (startG w) S1
noncomputable def mGen(w:GW)(fr:List Nat)(nt:Nat)(mi:En->Sr->Res (List D))(g:D->En->Sr->Res En)(mt:En->Sr->Res Bool)(me:En->Sr->Res D):En->Sr->Res D:=λρ S=>(mi ρ S).bind λds S1 =>
 genLoop g mt me (stepG w) (finG w) ds (frE ρ fr nt) (startG w) S1
theorem qfY{w:GW}{fr:List Nat}{nt:Nat}{mi:En->Sr->Res (List D)}{g:D->En->Sr->Res En}{mt:En->Sr->Res Bool}{me:En->Sr->Res D}:mGenG w fr nt (λρ S=>(mi ρ S).bind λds S1=>.ok (ds,λ_=>True) S1) g mt me=mGen w fr nt mi g mt me:=by
 funext ρ S
 unfold mGenG mGen
 dsimp only
 cases mi ρ S with
 |ok ds S1=>exact ye _ _ _ _
 |err=>rfl
 |no=>rfl
section
variable{X:Cx}{pos gp:Pos}
def GCall(X:Cx)(w:GW)(f:Value):Prop:=∀(pins:List (Addr×Obj)) (s:Shared) (b:St) (H:Hp) (ι:List Addr) (a:Addr) (ds:List D) (gu:Sr->Prop) (g:D->En->Sr->Res En) (mt:En->Sr->Res Bool) (me:En->Sr->Res D) (ρ:En) (S:Sr) (Q:VK),
 GH X pins b ds gu g mt me a ρ S ι H s->Pst Den (genLoopG gu g mt me (stepG w) (finG w) ds ρ (startG w) S) ι H Q->wpAny (model X.prog X.w) X.A (call f [.ref a]) (EP X pins b Q) X.xe s
theorem qa4{w:GW}{ds:List D}{gu:Sr->Prop}{g:D->En->Sr->Res En}{mt:En->Sr->Res Bool}{me:En->Sr->Res D}{ρ:En}{b:D}{S:Sr}{ι:List Addr}{H:Hp}{Q:VK}(h:Pst Den (genLoopG gu g mt me (stepG w) (finG w) ds ρ b S) ι H Q):
  ∃d c,genLoopG gu g mt me (stepG w) (finG w) (ds.drop 0) ρ b S=.ok d c/\∀y a H',Stp ι H a H'->Sto a H' c->Den a H' d y->Q y H':=by
 rw[xU]
 cases z:genLoopG gu g mt me (stepG w) (finG w) ds ρ b S with
 |no=>rw[z]at h;exact h.elim
 |err=>rw[z]at h;exact h.elim
 |ok d c=>rw[z]at h;exact⟨d,c,rfl,h⟩
theorem qj4(n:X.calm=true)(hd:X.A.depth<recursionLimit)(hok:X.calm=true->X.A.handled=none):GCall X .all (.builtin "all"):=by
 intro pins s w H ι a ds gu g mt me ρ S Q p h
 obtain⟨sc,cl,C,code,N',fp,ge,it,o,x,y,J,tn,l,cs,B,tk,f⟩:=p
 obtain⟨d,E,e,q⟩:=qa4 h
 have ha:s.heap.get? a=some o:=by
  obtain⟨b,I,_⟩:=(cs 0).sus.inv
  exact(I.pin (a,o) (wc _ wH)).1
 refine call_function_tree F.kind_all F.plain_all F.entry_all (F.args_all1 _) ?_
 unfold Builtin.«all»
 refine wA (m:=oneArg "all" _) (wC (wA (wpAny_pyIter_gen (l _ ha) (wC ⟨wo F.plain_all_loop _,?_⟩))))
 exact qie (hok n) hd l (ds.length+1) 0 ρ _ S ι H s (by lia) (cs _) e λb i H' z c r u v s1 j=>⟨.bl c,H',f _ b H' z u v,rfl,q _ i H' s1 j (by subst r;rfl)⟩
theorem qfZ(u:X.calm=true)(hd:X.A.depth<recursionLimit)(hok:X.calm=true->X.A.handled=none):GCall X .sum (.builtin "sum"):=by
 intro pins s N H ι a ds gu g mt me ρ S Q w h
 obtain⟨sc,cl,C,code,N',fp,ge,it,o,x,O,J,tn,n,cs,y,tk,f⟩:=w
 obtain⟨d,P,e,q⟩:=qa4 h
 have B:=(cs 0).sus.inv
 obtain⟨c,I,_⟩:=B
 have ha:s.heap.get? a=some o:=(I.pin (a,o) (wc _ wH)).1
 refine call_function_tree F.kind_sum F.plain_sum F.entry_sum (F.args_sum1 _) ?_
 unfold Builtin.«sum»
 simp only[wX,w1]
 rw[wK (by decide)]
 refine wA (uI (show Builtin.Builtins.bindParams "sum" ["start"] 0 { }=pure [none]from rfl) (wA (wpAny_pyIter_gen (n _ ha) ?_)))
 refine wA (wpAny_mkInt (wA (wC ?_)))
 simp only[uE,gG]
 refine wA (wA (wA (vO (T:="int") (b:=false) (xI _ _ _) PySem.sub_int_str ?_)))
 rw[wK wY]
 refine wC (wA (wA (vO (T:="int") (b:=false) (xI _ _ _) PySem.sub_int_bytes ?_)))
 rw[wK wY]
 refine wC (wA (wA (vO (T:="int") (b:=false) (xI _ _ _) PySem.sub_int_bytearray ?_)))
 rw[wK wY]
 refine wC (wC (wA (wS (wC ⟨wo vh _,?_⟩))))
 have lt:x.heap.objs.size<=s.heap.objs.size:=I.sz
 have i:a≠s.heap.objs.size:=wT (wF ha)
 refine qif (hok u) hd n tk (p:=s.heap.objs.size) lt i (ds.length+1) 0 ρ 0 S ι H _ s.toks 0 0 (.inl rfl) (by lia) (qdw (cs _) tk y (wE _ rfl) λv z=>by cases z) e λj c l H' z r E K L M s1 m=>⟨.int r,H',f _ c H' z L M,⟨E,rfl⟩,q _ l H' s1 m (by subst K;rfl)⟩
theorem qf0{w:GW}{id:String}{f:Str}{p:Pos}{tg elt iter:Expr}{ifs:List Expr}{sc:Scope}{fr:List Nat}{xs ts:List Str}{mi:En->Sr->Res (List D×(Sr->Prop))}{g:D->En->Sr->Res En}{mt:En->Sr->Res Bool}{me:En->Sr->Res D}{c T':Addr}(o:X.calm=true)(b:X.A.depth<recursionLimit)(r:GCall X w (.builtin id))(j:Gl X f)(hm:X.mg f=none)(u:bootBuiltins f=some (.builtin id))(hn:f≠"__name__")(l:(f == ("__debug__":Str))=false)(hi:PI X tg iter (TIg mi))(y:∀x,genFold iter X.env x=pure x)(C:CSc X sc fr xs ts)(hz:sc.names.lookup (".0":Str)=some NameKind.local)(m:sc.isCoroutine=false)(d:X.env.code=.ref c)(i:codeTab X.K c T'=true)(B:BlkG X sc (xs++ts) tg iter ifs elt gp g mt me):
  PE X (.Call (.Name f p) [.GeneratorExp elt [⟨tg,iter,ifs,0⟩] sc gp] [] pos) (T (mGenG w fr ts.length mi g mt me)):=by
 intro pins s E H Q I F
 refine xN (zI I j hm u ?_ hn l)
 obtain⟨ι,S,ρ,J,st,h⟩:=F
 dsimp only[mGenG]at h
 cases z:mi ρ S with
 |no=>rw[z]at h;exact h.elim
 |err=>rw[z]at h;exact h.elim
 |ok L S1 =>
  obtain⟨ds,gu⟩:=L
  rw[z,Res.bind_ok]at h
  refine ut (e:=.GeneratorExp elt [⟨tg,iter,ifs,0⟩] sc gp) (rest:=[]) ?_ rfl rfl
  refine vw (thn (qbO o b hi y C hz m d i B I J st z) λv s' ⟨a,n,H',ev,q,M⟩=>?_)
  subst ev
  exact uZ (r pins s' E H' n a ds gu g mt me _ S1 Q M (Pst.from h q))
theorem qlK{w:GW}{id:String}{f:Str}{p:Pos}{tg elt iter:Expr}{ifs:List Expr}{sc:Scope}{fr:List Nat}{xs ts:List Str}{mi:En->Sr->Res (List D)}{g:D->En->Sr->Res En}{mt:En->Sr->Res Bool}{me:En->Sr->Res D}{c T':Addr}(j:X.calm=true)(a:X.A.depth<recursionLimit)(l:GCall X w (.builtin id))(e:Gl X f)(hm:X.mg f=none)(m:bootBuiltins f=some (.builtin id))(hn:f≠"__name__")(h:(f == ("__debug__":Str))=false)(hi:PI X tg iter (TIt mi))(n:∀x,genFold iter X.env x=pure x)(o:CSc X sc fr xs ts)(hz:sc.names.lookup (".0":Str)=some NameKind.local)(i:sc.isCoroutine=false)(b:X.env.code=.ref c)(d:codeTab X.K c T'=true)(B:BlkG X sc (xs++ts) tg iter ifs elt gp g mt me):
  PE X (.Call (.Name f p) [.GeneratorExp elt [⟨tg,iter,ifs,0⟩] sc gp] [] pos) (T (mGen w fr ts.length mi g mt me)):=by
 rw[<-qfY];exact qf0 j a l e hm m hn h (pi_g hi) n o hz i b d B
end
end R
namespace R
open PySem PySem.Spec L2 SeqAt
open PyProof.Rows hiding St
theorem qbQ{a b c:Int}(d:0<c):Builtin.Range.rangeSize a b c=(((b-a+c-1) / c).toNat:Int):=by
 unfold Builtin.Range.rangeSize
 rw[wL d]
 by_cases h:a<b
 .rw [wL h]
  have e:b-a+c-1=(b-a-1)+c:=by omega
  have q:(b-a-1+c) / c=(b-a-1) / c+1:=Int.add_ediv_of_dvd_right (Int.dvd_refl c) |>.trans (by rw[Int.ediv_self (by omega)])
  rw[e,q]
  have:=Int.ediv_nonneg (a:=b-a-1) (b:=c) (by omega) (by omega)
  omega
 .rw [wK h]
  have:(b-a+c-1) / c<=0:=by
   have i:b-a+c-1<=c-1:=by omega
   have f:=Int.ediv_le_ediv d i
   have j:(c-1) / c=0:=Int.ediv_eq_zero_of_lt (by omega) (by omega)
   rw[j]at f
   exact f
  omega
theorem qeG{a b c:Int}(f:-(2^62)<=a)(i:a<2^62)(j:-(2^62)<=b)(o:b<2^62)(d:0<c)(p:c<2^62):Builtin.Range.small a b c=true:=by
 have hz:=qbQ (a:=a) (b:=b) d
 have l:(b-a+c-1) / c<=2^63-1:=by
  by_cases h:b-a+c-1<0
  .have:=Int.ediv_neg_of_neg_of_pos h d
   omega
  .have m:(b-a+c-1) / c<=b-a+c-1-(c-1)\/b-a<=0:=by
    by_cases n:b-a<=0
    .exact .inr n
    .left
     have e:b-a+c-1=(b-a-1)+c:=by omega
     have q:(b-a-1+c) / c=(b-a-1) / c+1:=Int.add_ediv_of_dvd_right (Int.dvd_refl c) |>.trans (by rw[Int.ediv_self (by omega)])
     rw[e,q]
     have:=Int.ediv_le_self c (a:=b-a-1) (by omega)
     omega
   rcases m with z|z
   .omega
   .have f:b-a+c-1<=c-1:=by omega
    have i:=Int.ediv_le_ediv d f
    have j:(c-1) / c=0:=Int.ediv_eq_zero_of_lt (by omega) (by omega)
    rw[j]at i
    omega
 unfold Builtin.Range.small
 rw[hz]
 simp only[Builtin.Range.rangeFitsLong,wV,Bool.or_eq_true,wz,uB]
 rw[wL d]
 simp only[wV,wz]
 omega
theorem noPy{x c:Int}(a:0<c)(b:c<2^63):Builtin.divisionGoesByPylong x c=false:=by
 refine PyProof.noPylong_of_log2 ?_
 have h:c.natAbs.log2<63:=(Nat.log2_lt (by omega)).mpr (by omega)
 omega
theorem qbR:∀{xs:List V} {us:List Value},xs.length=us.length->(∀(i:Nat) (x:V) (u:Value),xs[i]?=some x->us[i]?=some u->RelV x u)->Vals xs us
 |[],[],_,_=>.nil
 |[],_::_,h,_=>by cases h
 |_::_,[],h,_=>by cases h
 |x::xs,u::us,h,k=>.cons (k 0 x u rfl rfl) (qbR (by simpa using h) λi y w e1 a=>k (i+1) y w (by simpa using e1) (by simpa using a))
section
variable{X:Cx}{pos:Pos}{tg:Expr}
noncomputable def RngAt(X:Cx)(pins:List (Addr×Obj))(d:St)(ds:List D)(H:Hp)(v:Value)(s:Shared):Prop :=
 ∃a b c t u w p,v=.ref p/\IsRange s.heap p a b c t u w/\Inv X pins d H s/\Builtin.Range.small a b c=true/\Builtin.Range.rangeSize a b c=ds.length/\ds=(List.range ds.length).map λ(k:Nat)=>D.int (a+k*c)
theorem qf1{pins:List (Addr×Obj)}{d:St}{H:Hp}{s:Shared}{ι:List Addr}{l ds:List D}{vs:List V}{us:List Value}{E:Value->Shared->Prop}(I:Inv X pins d H s)(r:Vals vs us)(hd:Dens ι H l vs)(e:rngD l=some ds):
  wpAny (model X.prog X.w) X.A (call (.type "range") us) (RngAt X pins d ds H) E s:=by
 have fin:∀{a b c:Int} {t u w:Tok} {tk:Nat},-(2^62)<=a->a<2^62->-(2^62)<=b->b<2^62->0<c->c<2^62->ds=rngL a b c ->
   RngAt X pins d ds H (.ref s.heap.objs.size) {s with heap:=s.heap.push {cls:=.type "range",data:=.fields #[.int a t,.int b u,.int c w]},toks:=tk}:=by
  intro a b c t u w tk q v B C j F m
  have n:ds.length=((b-a+c-1) / c).toNat:=by rw[m];unfold rngL;simp
  refine⟨a,b,c,t,u,w,_,rfl,IsRange.new ..,I.kept λb o e=>wB _ e,qeG q v B C j F,?_,?_⟩
  .rw [qbQ j,n]
  .rw [n,m]
   unfold rngL
   exact v4 λk _=>by rw[Int.mul_comm]
 match l,e,hd with
 |[.int b],e,hd =>
  obtain⟨x,rfl,hx⟩:=dens1 hd
  cases (show x=_ from hx)
  obtain⟨u,rfl,p,rfl⟩:=vals1 r
  simp only[rngD]at e
  split at e
  .rename_i h
   cases e
   exact call_range_1 (fin (by omega) (by omega) h.1 h.2 (by omega) (by omega) rfl)
  .cases e
 |[.int a,.int b],e,hd =>
  obtain⟨x,y,rfl,hx,f⟩:=dens2 hd
  cases (show x=_ from hx)
  cases (show y=_ from f)
  obtain⟨u,w,rfl,⟨p,rfl⟩,J,rfl⟩:=vals2 r
  simp only[rngD]at e
  split at e
  .rename_i h
   cases e
   exact call_range_2 (fin h.1 h.2.1 h.2.2.1 h.2.2.2 (by omega) (by omega) rfl)
  .cases e
 |[.int a,.int b,.int c],e,hd =>
  obtain⟨x,M,rfl,hx,i⟩:=hd
  obtain⟨y,z,rfl,f,hz⟩:=dens2 i
  cases (show x=_ from hx)
  cases (show y=_ from f)
  cases (show z=_ from hz)
  cases r with
  |cons K L =>
   obtain⟨u,w,rfl,⟨p,rfl⟩,J,rfl⟩:=vals2 L
   obtain⟨N,rfl⟩:=K
   simp only[rngD]at e
   split at e
   .rename_i h
    cases e
    exact call_range_3 (by omega) (fin h.1 h.2.1 h.2.2.1 h.2.2.2.1 h.2.2.2.2.1 h.2.2.2.2.2 rfl) (.inl (noPy (by omega) (by omega)))
   .cases e
theorem qf2{a:Expr}{es:List Expr}{p:Pos}{j:En->Sr->Res (List D)}(m:Gl X "range")(hm:X.mg "range"=none)(ha:PA X (a::es) (TL j))(n:starEach (a::es) X.env=(false,eval a X.env)::starEach es X.env)(i:(backTo pos (starEach es X.env)).any (·.1)=false){pins:List (Addr×Obj)}{h:St}{H:Hp}{s:Shared}{ι:List Addr}{S S1:Sr}{ρ:En}{l ds:List D}(I:Inv X pins h H s)(o:EnR ι H ρ h)(st:Sto ι H S)(z:j ρ S=.ok l S1)(e:rngD l=some ds):
  wpAny (model X.prog X.w) X.A (eval (.Call (.Name "range" p) (a::es) [] pos) X.env) (λv s'=>∃f H',Stp ι H f H'/\Sto f H' S1/\RngAt X pins h ds H' v s') X.xe s:=by
 refine Call_ (zI I m hm boot_range (wi (thn (ha pos pins s h H (λvs d=>∃b,Stp ι H b d/\Sto b d S1/\Dens b d l vs) I ⟨ι,S,ρ,o,st,?_⟩) λus s1 ⟨vs,d,q,r,b,q1,c,d1⟩=>?_) n i))
 .rw [z];exact λvs b d q1 c d1=>⟨b,q1,c,d1⟩
 .exact thn (qf1 q r d1 e) λv s2 q2=>⟨b,d,q1,c,q2⟩
noncomputable def ItS(lo c:Int)(n:Nat):It:=⟨λi _=>i<n,λi H x H'=>H'=H/\x=.int (lo+i*c),λi _=>n<=i⟩
theorem qeH{P:Program}{w:World}{K:PySem.W.Frag}(it:Addr)(lo c:Int)(n:Nat):Turn P w K tg (ItS lo c n) [it] it (λi h=>IsRangeIter h it (lo+(i:Nat)*c) ((n:Int)-(i:Nat)) c) where
 mem:=by simp
 obj:=λi h st b a=>by
  obtain rfl:=wM.mp a
  exact⟨_,st,λv z=>by cases (show Data.fields _=Data.cell v from z)⟩
 keep:=λi h h' st k=>k it (by simp) _ st
 item:=by
  intro X j l m p i pins s B H E I f st q
  subst j l m
  obtain⟨r,u,C,x,y,A⟩:=f it (by simp)
  refine(Walks.range (prog:=X.prog) (w:=X.w) (I.ok.hd p) it lo c n).item i s _ _ q st λv h' tk F d J=>?_
  obtain⟨t,rfl⟩:=F
  have L:Inv X pins B H {s with heap:=h',toks:=tk}:=I.turned (λb o a e=>J b o (by simpa using a) e) r u x y A
  exact⟨_,rfl,qe6 (s:={s with heap:=h',toks:=tk}) (n:="range_iterator") d rfl rfl (by decide) ⟨.int (lo+i*c),H,L,⟨t,rfl⟩,⟨rfl,rfl⟩,d,λb a=>(f b a).1⟩⟩
 done:=by
  intro X j l m p i pins s B H E I f st q
  subst j l m
  obtain⟨r,u,C,x,y,A⟩:=f it (by simp)
  exact wpAny_pyNext_range_end (I.ok.hd p) st (by have:n<=i:=q;omega) λh' M=>⟨rfl,I.turned (t':=s.toks) (λb o a e=>M b o a e) r u x y A⟩
 self:=λ_ _ _ _ _ st h=>wpAny_pyIter_rangeiter st h
theorem qj5{ι:List Addr}{H:Hp}{lo c:Int}{n:Nat}:ItOk ι H (ItS lo c n) ((List.range n).map λ(k:Nat)=>D.int (lo+k*c)) where
 go:=λi d a H2 s e=>by
  rw[w4]at e
  cases z:(List.range n)[i]? with
  |none=>rw[z]at e;cases e
  |some k =>
   rw[z]at e;cases e
   obtain⟨b,f⟩:=wO.mp z
   simp only[List.length_range]at b
   simp only[List.getElem_range]at f
   subst f
   refine⟨b,λy H3 h=>?_⟩
   obtain⟨rfl,rfl⟩:=h
   exact⟨Stp.refl _ _,λ_ z=>⟨z,rfl⟩⟩
 stop:=λa H2 s=>by
  show n<=_
  simp
theorem i_rng{a:Expr}{es:List Expr}{p:Pos}{f:En->Sr->Res (List D)}(r:Gl X "range")(hm:X.mg "range"=none)(ha:PA X (a::es) (TL f))(A:starEach (a::es) X.env=(false,eval a X.env)::starEach es X.env)(h:(backTo pos (starEach es X.env)).any (·.1)=false):
  PI X tg (.Call (.Name "range" p) (a::es) [] pos) (TIt λρ S=>(f ρ S).bind λl S1=>ofO (rngD l) S1):=by
 intro pins s N H R I B
 obtain⟨ι,S,ρ,C,st,q⟩:=B
 dsimp only at q
 cases z:f ρ S with
 |no=>rw[z]at q;exact q.elim
 |err=>rw[z]at q;exact q.elim
 |ok l S1 =>
  rw[z,Res.bind_ok]at q
  cases z2:rngD l with
  |none=>rw[z2]at q;exact q.elim
  |some ds =>
   rw[z2]at q
   refine thn (qf2 r hm ha A h I C st z z2) λv s1 ⟨d,i,q1,j,E⟩=>?_
   obtain⟨x,y,c,t,u,w,O,rfl,F,m,J,sz,K⟩:=E
   refine wpAny_pyIter_range F J ?_
   refine⟨s1.heap.objs.size,[s1.heap.objs.size],_,ItS x c ds.length,i,rfl,m.kept (t':=s1.toks) λb o e=>wB _ e,qeH _ x c ds.length,?_,λb L=>?_,q d i _ q1 j (by rw[K];simpa using qj5 (ι:=d) (H:=i) (lo:=x) (c:=c) (n:=ds.length))⟩
   .show IsRangeIter _ _ (x+((0:Nat):Int)*c) ((ds.length:Int)-((0:Nat):Int)) c
    have e1:x+((0:Nat):Int)*c=x:=by simp
    have M:(ds.length:Int)-((0:Nat):Int)=Builtin.Range.rangeSize x y c:=by rw[sz];simp
    rw[e1,M]
    exact wE _ rfl
   .obtain rfl:=wM.mp L
    exact m.fpOk (wG _) (m.hok.fresh (wG _))
theorem jR{a c:Int}:∀{b:Array Value} {n:Nat},ItemsOf (λi v=>∃t,v=.int (a+i*c) t) b n->Vals ((List.range n).map λ(k:Nat)=>V.int (a+k*c)) b.toList:=by
 intro b n h
 obtain⟨e,f⟩:=h
 apply qbR
 .simp [e]
 .intro i x u e1 j
  rw[w4]at e1
  cases z:(List.range n)[i]? with
  |none=>rw[z]at e1;cases e1
  |some k =>
   rw[z]at e1;cases e1
   obtain⟨l,d⟩:=wO.mp z
   simp only[List.getElem_range]at d
   subst d
   obtain⟨t,rfl⟩:=f i u (by simpa using j)
   exact⟨t,rfl⟩
end
end R
namespace R
open PySem PySem.Spec L2 SeqAt
open PyProof.Rows hiding St
section
variable{prog:Program}{w:World}{A:Around}{E:Value->Shared->Prop}{s:Shared}
theorem qf3{Q:List Value->Shared->Prop}{r:Addr}{a b c:Int}{t u v:Tok}{n:Nat}(p:A.handled=none)(q:IsRange s.heap r a b c t u v)(x:Builtin.Range.small a b c=true)(hn:Builtin.Range.rangeSize a b c=n)(y:n<=2^24)(z:∀(h':Heap) (tk:Nat) (d:Array Value),(∀b o,s.heap.get? b=some o->h'.get? b=some o)->ItemsOf (λi v=>∃t,v=.int (a+i*c) t) d n->Q d.toList {s with heap:=h',toks:=tk}):wpAny (model prog w) A (collect (.ref r)) Q E s:=by
 have f:∀R:Result->Shared->Prop,(∀(h':Heap) (tk:Nat) (d:Array Value) (h:Nat),(∀b o,s.heap.get? b=some o->h'.get? b=some o)->h'.get? s.heap.objs.size=some {cls:=.type "list",dict:=none,data:=.seq d h,slots:=#[]}->ItemsOf (λi v=>∃t,v=.int (a+i*c) t) d n ->
   R (.ok (.ret (.ref s.heap.objs.size))) {s with heap:=h',toks:=tk})->codeAny (model prog w) A (.builtin "proto.collect" ⟨[.ref r],[]⟩) R s:=by
  intro R B
  refine wa uw ?_
  rw[wZ uv]
  refine wA (m:=newList []) (wS (wC ⟨wo vo _,wa xg ?_⟩))
  rw[wZ vo]
  have h0:(s.heap.push {cls:=.type "list",data:=.seq ([]:List Value).toArray}).get? s.heap.objs.size=some {cls:=.type "list",data:=.seq #[] 0}:=wE _ rfl
  exact wpAny_extend_range (R:=R) (s:={s with heap:=s.heap.push {cls:=.type "list",data:=.seq ([]:List Value).toArray}}) p (wB _ q) x hn y s.heap.objs.size (.ref s.heap.objs.size) 0 h0 λh' tk d h j l hi =>
   B h' tk d h (λb o e=>j b o (wT (wF e)) (wB _ e)) l hi
 unfold collect
 refine wA (xS (f _ λh' tk d h j l hi=>?_))
 exact wA (m:=load s.heap.objs.size) (wpAny_load l (wC (z h' tk d j hi)))
theorem qig{Q:Value->Shared->Prop}{r:Addr}{a b c:Int}{t u v:Tok}{n:Nat}(p:A.handled=none)(j:IsRange s.heap r a b c t u v)(q:Builtin.Range.small a b c=true)(hn:Builtin.Range.rangeSize a b c=n)(l:n<=2^24)(x:∀(h':Heap) (tk:Nat) (d:Array Value),(∀b o,s.heap.get? b=some o->h'.get? b=some o)->ItemsOf (λi v=>∃t,v=.int (a+i*c) t) d n->Q (.ref h'.objs.size) {s with heap:=h'.push {cls:=.type "tuple",data:=.seq d},toks:=tk}):
  wpAny (model prog w) A (call (.type "tuple") [.ref r]) Q E s:=by
 have new:codeAny (model prog w) A.in1 (.call (.builtin "tuple.__new__") ⟨[.type "tuple",.ref r],[]⟩) (wants (λobj f=>f.TypeIs obj "tuple"/\Q obj f) E) s:=by
  refine ug (?_:wpAny _ A.in1.in1 (do checkBuiltinCall "tuple.__new__" ⟨[.type "tuple",.ref r],[]⟩;again (.builtin "tuple.__new__" ⟨[.type "tuple",.ref r],[]⟩)) _ _ s)
  refine wA (uI (F.newCall_tuple_1 _) (wC ⟨wo xf _,wa F.entry_tuple_new ?_⟩))
  rw[wZ xf]
  have B:=sub_tuple_self
  have C:=init_tuple_lookup
  have H:=madeHere_tuple
  have y:s.TypeIs (.ref r) "range":=⟨_,j,rfl⟩
  wp_walk using uR y,qf3 (A:=A.in1.in1) p j q hn l
  intro h' tk d z hi
  refine wA (m:=Builtin.Tuple.tupleExact d.toList.toArray) ?_
  unfold Builtin.Tuple.tupleExact
  refine wS (wC ?_) (by
   have:d.toList.toArray.size<=sizeLine:=by rw[xF,hi.1];exact l
   exact this)
  have e:d.toList.toArray=d:=xF ..
  rw[e]
  exact⟨⟨_,wE _ rfl,rfl⟩,x h' tk d z hi⟩
 refine callType_codes uq (F.typeCall_tuple_1 _) F.entry_object_init new λobj f h=>?_
 exact⟨h.1,F.args_object_init_2 obj _,object_init_meets uq.init.lookup uq.made (by decide) prog w A.in1 _ f ⟨h.1,rfl,h.2⟩⟩
end
section
variable{X:Cx}{pos:Pos}
noncomputable def mRng(k:Option Bool)(a:En->Sr->Res (List D)):En->Sr->Res D:=λρ S=>(a ρ S).bind λl S1=>match rngD l with
 |some ds=>if ds.length<=1000000 then(match k with
  |some m=>newL m ds S1
  |none=>.ok (.tup ds) S1)else .no
 |none=>.no
theorem qih{ι:List Addr}{H:Hp}{a c:Int}{n:Nat}:Dens ι H ((List.range n).map λ(k:Nat)=>D.int (a+k*c)) ((List.range n).map λ(k:Nat)=>V.int (a+k*c)):=by
 have:∀l:List Nat,Dens ι H (l.map λ(k:Nat)=>D.int (a+k*c)) (l.map λ(k:Nat)=>V.int (a+k*c)):=λl=>by
  induction l with
  |nil=>rfl
  |cons x r b=>exact⟨_,_,rfl,rfl,b⟩
 exact this _
theorem qlL{k:Option Bool}{f:Str}{ty:String}{a:Expr}{es:List Expr}{p1 R h:Pos}{E:En->Sr->Res (List D)}(C:(f=Str.ofString "list"/\ty="list"/\∃m,k=some m)\/(f=Str.ofString "tuple"/\ty="tuple"/\k=none))(U:X.calm=true)(hg:Gl X "range")(hm:X.mg "range"=none)(F:Gl X f)(J:X.mg f=none)(ha:PA X (a::es) (TL E))(hs:starEach (a::es) X.env=(false,eval a X.env)::starEach es X.env)(K:(backTo h (starEach es X.env)).any (·.1)=false):
  PE X (.Call (.Name f p1) [.Call (.Name "range" R) (a::es) [] h] [] pos) (T (mRng k E)):=by
 intro pins s σ H Q I hw
 have hb:bootBuiltins f=some (.type ty):=by
  rcases C with ⟨rfl,rfl,_⟩|⟨rfl,rfl,_⟩ <;> decide +kernel
 have hn:f≠"__name__":=by rcases C with ⟨rfl,rfl,_⟩|⟨rfl,rfl,_⟩ <;> decide
 have hd:(f == ("__debug__":Str))=false:=by rcases C with ⟨rfl,rfl,_⟩|⟨rfl,rfl,_⟩ <;> decide
 refine Call_ (zI I F J hb ?_ hn hd)
 obtain⟨ι,S,ρ,er,st,q⟩:=hw
 dsimp only[mRng]at q
 cases z:E ρ S with
 |no=>rw[z]at q;exact q.elim
 |err=>rw[z]at q;exact q.elim
 |ok l S1 =>
  rw[z,Res.bind_ok]at q
  cases z2:rngD l with
  |none=>simp only[z2]at q;exact q.elim
  |some ds =>
   simp only[z2]at q
   by_cases i:ds.length<=1000000
   .rw [wL i]at q
    refine wi (e:=.Call (.Name "range" R) (a::es) [] h) (rest:=[]) ?_ rfl rfl
    refine vw (thn (qf2 hg hm ha hs K I er st z z2) λv s1 ⟨p,r,q1,A,ra⟩=>uZ ?_)
    obtain⟨x,y,c,t,u,w,pp,rfl,W,L,Y,sz,ed⟩:=ra
    have M:r s1.heap.objs.size=none:=L.hok.fresh (wG _)
    have Z:Dens p r ds ((List.range ds.length).map λ(k:Nat)=>V.int (x+k*c)):=by
     have:=qih (ι:=p) (H:=r) (a:=x) (c:=c) (n:=ds.length)
     rwa [<-ed]at this
    have d:ds.length<=2^24:=vK i (by decide)
    rcases C with ⟨rfl,rfl,e⟩|⟨rfl,rfl,e⟩
    .obtain ⟨m,rfl⟩:=e
     .refine call_list_range (I.ok.hd U) W Y sz d λh' tk j c' N hS hi=>?_
      exact⟨.ref _,_,L.laid (o:=.lst ((List.range ds.length).map λ(k:Nat)=>V.int (x+k*c))) (t':=tk) N (wG _) ⟨by simp;exact d,j.toList,c',jR hi,by rw[hS]⟩,rfl,zm A Z (Pst.from q q1) _ M⟩
    .subst e
     .refine qig (I.ok.hd U) W Y sz d λh' tk j N hi=>?_
      have I2:=L.kept (h':=h') (t':=tk) N
      have B:r h'.objs.size=none:=I2.hok.fresh (wG _)
      refine⟨.ref _,upd r h'.objs.size (.tup _),I2.laid (t':=tk) (λb o e=>wB _ e) (wG _) ⟨by simp;exact d,j.toList,jR hi,⟨_,wE _ rfl,rfl,0,by simp⟩,λo q=>by rw[wE _ rfl]at q;cases q;rfl⟩,rfl,qR A Z ?_ _ B⟩
      exact λv O H' s' P dv=>q v O H' (q1.trans s') P dv
   .rw [wK i]at q;exact q.elim
end
end R
namespace R
open PySem PySem.Spec L2 SeqAt
open PyProof.Rows hiding St
def SI(b:Bool)(h:Heap)(it l:Addr)(k:Nat):Prop:=match b with
 |true=>h.IsTupleIter it l k
 |false=>h.IsListIter it l k
def SQ(b:Bool)(h:Heap)(l:Addr)(xs:Array Value):Prop:=match b with
 |true=>h.IsTuple l xs
 |false=>h.IsList l xs
theorem SI.at{b:Bool}{h h':Heap}{it l:Addr}{k:Nat}(x:SI b h it l k)(e:∀o,h.get? it=some o->h'.get? it=some o):SI b h' it l k:=by
 cases b with
 |true=>exact Heap.IsTupleIter.at x e
 |false=>exact Heap.IsListIter.at x e
theorem SQ.at{b:Bool}{h h':Heap}{l:Addr}{xs:Array Value}(x:SQ b h l xs)(e:∀o,h.get? l=some o->h'.get? l=some o):SQ b h' l xs:=by
 cases b with
 |true=>exact Heap.IsTuple.at x e
 |false=>exact Heap.IsList.at x e
theorem SI.obj{b:Bool}{h:Heap}{it l:Addr}{k:Nat}(x:SI b h it l k):∃o,h.get? it=some o/\(∀v,o.data≠.cell v):=by
 cases b with
 |true=>obtain⟨o,e,_,d⟩:=x;exact⟨o,e,λv z=>by rw[d]at z;cases z⟩
 |false=>obtain⟨o,e,_,d⟩:=x;exact⟨o,e,λv z=>by rw[d]at z;cases z⟩
section
variable{prog:Program}{w:World}{A:Around}{E:Value->Shared->Prop}{s:Shared}
theorem qf4{it l:Addr}{i:Nat}{xs:Array Value}{x:Value}{Q:Value->Shared->Prop}(hi:s.heap.IsTupleIter it l i)(c:s.heap.IsTuple l xs)(hx:xs[i]?=some x)(e:∀h',h'.IsTupleIter it l (i+1)->Heap.SameBut it s.heap h'->Q x {s with heap:=h' }):wpAny (model prog w) A (Builtin.SmallTypes.nextOf (.ref it)) Q E s:=by
 have b:=hi.typeIs
 obtain⟨o,a,co,d⟩:=hi
 obtain⟨u,eu,_,m,f⟩:=c
 unfold Builtin.SmallTypes.nextOf
 refine wA (wb (name:=Str.ofString "__next__") b u5 (wf u5 b F.entry_tuple_iterator_next ?_ (F.args_tuple_iterator_next_1 _)))
 refine wA (m:=field (.ref it) 0) (vX a d (x:=.ref l) rfl (?_:wpAny _ _ (if(Value.ref l == Value.none)=true then _ else _) _ _ s))
 rw[wK (show ¬((Value.ref l == Value.none)=true)from wY)]
 refine wA (m:=field (.ref it) 1) (vX a d (x:=.int i 0) rfl ?_)
 refine wA (m:=seqItems? (.ref l)) (vN eu f ?_)
 simp only[vn,hx]
 refine wA (vm a d (by simp) (wC ⟨x,rfl,wC (e _ ⟨_,w8 _ a (uT (vR d _)),(xZ ..).trans co,?_⟩ (Heap.SameBut.update ..))⟩))
 rw[vR d];simp[rawInt]
theorem qa5{it l:Addr}{i:Nat}{xs:Array Value}{Q:Value->Shared->Prop}(f:A.handled=none)(hi:s.heap.IsTupleIter it l i)(h:s.heap.IsTuple l xs)(hx:xs[i]?=none)(j:∀h' e,Heap.ExtBut it s.heap h'->(∃o,h'.get? e=some o/\o.cls=.type "StopIteration")->E (.ref e) {s with heap:=h' }):wpAny (model prog w) A (Builtin.SmallTypes.nextOf (.ref it)) Q E s:=by
 have c:=hi.typeIs
 obtain⟨o,b,co,d⟩:=hi
 obtain⟨u,eu,_,m,n⟩:=h
 unfold Builtin.SmallTypes.nextOf
 refine wA (wb (name:=Str.ofString "__next__") c u5 (wf u5 c F.entry_tuple_iterator_next ?_ (F.args_tuple_iterator_next_1 _)))
 refine wA (m:=field (.ref it) 0) (vX b d (x:=.ref l) rfl (?_:wpAny _ _ (if(Value.ref l == Value.none)=true then _ else _) _ _ s))
 rw[wK (show ¬((Value.ref l == Value.none)=true)from wY)]
 refine wA (m:=field (.ref it) 1) (vX b d (x:=.int i 0) rfl ?_)
 refine wA (m:=seqItems? (.ref l)) (vN eu n ?_)
 simp only[vn,hx]
 refine wA (vb (wA (vm b d (by simp) (?_:wpAny _ _ (newExc (.type "StopIteration") [] >>= _) _ _ _))))
 refine wA ?_
 unfold newExc newTuple
 refine wA (wS (wA (uI (t:=firstArgMember _ _) (a:=Value.none) (by first|rfl|(simp only[firstArgMember];rfl)) (wS ?_ (by size_fits)))) (by size_fits))
 unfold raiseNew
 refine wA (xi ?_)
 rw[show A.in1.handled=none from f]
 exact wA (wC (wpAny_throw (j _ _ (((Heap.SameBut.update ..).extBut.push _).push _) ⟨_,wE _ rfl,rfl⟩)))
theorem draw{b:Bool}{it l:Addr}{i:Nat}{xs:Array Value}{x:Value}{Q:Value->Shared->Prop}(hi:SI b s.heap it l i)(a:SQ b s.heap l xs)(hx:xs[i]?=some x)(c:∀h',SI b h' it l (i+1)->Heap.SameBut it s.heap h'->Q x {s with heap:=h' }):wpAny (model prog w) A (Builtin.SmallTypes.nextOf (.ref it)) Q E s:=by
 cases b with
 |true=>exact qf4 hi a hx c
 |false=>exact wpAny_nextOf_list_item hi a hx c
theorem qbS{b:Bool}{it l:Addr}{i:Nat}{xs:Array Value}{Q:Value->Shared->Prop}(a:A.handled=none)(hi:SI b s.heap it l i)(c:SQ b s.heap l xs)(hx:xs[i]?=none)(d:∀h' e,Heap.ExtBut it s.heap h'->(∃o,h'.get? e=some o/\o.cls=.type "StopIteration")->E (.ref e) {s with heap:=h' }):wpAny (model prog w) A (Builtin.SmallTypes.nextOf (.ref it)) Q E s:=by
 cases b with
 |true=>exact qa5 a hi c hx d
 |false=>exact wpAny_nextOf_list_end a hi c hx d
structure ZA (z TI TO i j l m:Addr):Prop where
 zTI:TI≠z
 zTO:TO≠z
 zi:i≠z
 zj:j≠z
 TT:TI≠TO
 TIi:TI≠i
 TIj:TI≠j
 TOi:TO≠i
 TOj:TO≠j
 ij:i≠j
 lz:l≠z
 lT:l≠TO
 li:l≠i
 lj:l≠j
 mz:m≠z
 mT:m≠TO
 mi:m≠i
 mj:m≠j
structure ZS (b c:Bool) (h:Heap) (z TI TO i j l m:Addr) (k:Nat) (xs ys:Array Value) (f:Value):Prop where
 z:IsZip h z TI TO f
 ti:IsPair h TI (.ref i) (.ref j)
 to':∃a d,IsPair h TO a d
 i1:SI b h i l k
 i2:SI c h j m k
 q1:SQ b h l xs
 q2:SQ c h m ys
variable{b c:Bool}{z TI TO i j l m:Addr}{k:Nat}{xs ys:Array Value}
theorem qj6{x y:Value}{Q:Option Value->Shared->Prop}(D:ZA z TI TO i j l m)(st:ZS b c s.heap z TI TO i j l m k xs ys .none)(hx:xs[k]?=some x)(Y:ys[k]?=some y)(Z:∀h',ZS b c h' z TI TO i j l m (k+1) xs ys (rawInt s.heap.objs.size)->IsPair h' s.heap.objs.size x y->(∀a o,a≠z->a≠TO->a≠i->a≠j->s.heap.get? a=some o->h'.get? a=some o)->Q (some (.ref s.heap.objs.size)) {s with heap:=h' }):
  wpAny (model prog w) A (pyNext (.ref z)) Q E s:=by
 obtain⟨f,ti,⟨t0,t1,to'⟩,i1,i2,q1,q2⟩:=st
 have N:s.TypeIs (.ref z) "zip":=⟨_,f,rfl⟩
 unfold pyNext
 refine wA (v7 (wb (name:=Str.ofString "__next__") N xz (wf xz N F.entry_zip_next ?_ (F.args_zip_next_1 _))))
 refine wA (m:=field (.ref z) 2) (vX f rfl (x:=.bool false) rfl (wA (m:=field (.ref z) 3) (vX f rfl (x:=.ref TI) rfl (wA (vN ti rfl ?_)))))
 refine wA (m:=Builtin.SmallTypes.ownedTupleIsFree (.ref z)) ?_
 unfold Builtin.SmallTypes.ownedTupleIsFree
 refine wA (vX f rfl (x:=.none) rfl (wC ?_))
 simp only[vd]
 refine wA (vb (wA (vX f rfl (x:=.ref TO) rfl (wA (uP f (by simp) λh1 z1 b1=>?_)))))
 have H:IsZip h1 z TI TO .ellipsis:=z1
 refine wA ?_
 simp only[List.zipIdx_cons,List.zipIdx_nil,uE,gG]
 refine wA (wA (wpAny_onRaise (wA (m:=Builtin.SmallTypes.nextOf (.ref i)) ?_)))
 refine draw (i1.at λo e=>b1.extBut _ o D.zi e) (q1.at λo e=>b1.extBut _ o D.lz e) hx λh2 I b2=>wC ?_
 have O:IsPair h2 TO t0 t1:=b2.extBut _ _ D.TOi (b1.extBut _ _ D.zTO to')
 refine wA (vN O rfl (wA (gC O λh3 o3 h=>wA (uo (wC ?_)))))
 have J:IsPair h3 TO x t1:=o3
 refine wA (wA (wpAny_onRaise (wA (m:=Builtin.SmallTypes.nextOf (.ref j)) ?_)))
 refine draw (i2.at λo e=>h.extBut _ o D.TOj.symm (b2.extBut _ o D.ij.symm (b1.extBut _ o D.zj e))) (q2.at λo e=>h.extBut _ o D.mT (b2.extBut _ o D.mi (b1.extBut _ o D.mz e))) Y λh4 i4 p=>wC ?_
 have P:IsPair h4 TO x t1:=p.extBut _ _ D.TOj J
 refine wA (vN P rfl (wA (gC P λd o5 q=>wA (uo (wC (wC ?_))))))
 have r:IsPair d TO x y:=o5
 refine wA (vN r rfl (wA (wpAny_newTuple ?_)))
 have sz:d.objs.size=s.heap.objs.size:=by rw[q.1,p.1,h.1,b2.1,b1.1]
 have R:IsZip d z TI TO .ellipsis:=q.extBut _ _ D.zTO.symm (p.extBut _ _ D.zj.symm (h.extBut _ _ D.zTO.symm (b2.extBut _ _ D.zi.symm H)))
 have k5:∀a o,a≠z->a≠TO->a≠i->a≠j->s.heap.get? a=some o->d.get? a=some o:=λa o B C K L e=>q.extBut _ _ C (p.extBut _ _ L (h.extBut _ _ C (b2.extBut _ _ K (b1.extBut _ _ B e))))
 have S:z<d.objs.size:=wF R
 refine wA (m:=Builtin.SmallTypes.ownedTupleHandOut (.ref z) (.ref d.objs.size)) ?_
 unfold Builtin.SmallTypes.ownedTupleHandOut
 have z6:IsZip (d.push {cls:=.type "tuple",data:=.seq #[x,y]}) z TI TO .ellipsis:=wB _ R
 refine wA (uP z6 (by simp) λh7 z7 U=>?_)
 have M:IsZip h7 z TI TO (rawInt d.objs.size):=z7
 refine uP M (by simp) λu z8 W=>?_
 have v:IsZip u z TI TO (rawInt d.objs.size):=z8
 have up:∀a o,a≠z->d.get? a=some o->u.get? a=some o:=λa o n e=>W.extBut _ _ n (U.extBut _ _ n (wB _ e))
 have X:IsPair u d.objs.size x y:=W.extBut _ _ (vF S) (U.extBut _ _ (vF S) (wE _ rfl))
 rw[sz]at v X
 refine wC ⟨_,rfl,wC ?_⟩
 have all:∀a o,a≠z->a≠TO->a≠i->a≠j->s.heap.get? a=some o->u.get? a=some o:=λa o B C K L e=>up a o B (k5 a o B C K L e)
 have fin:=Z u ⟨v,all _ _ D.zTI D.TT D.TIi D.TIj ti,⟨_,_,up _ _ D.zTO r⟩,I.at λo e=>up _ o D.zi (q.extBut _ o D.TOi.symm (p.extBut _ o D.ij (h.extBut _ o D.TOi.symm e))),i4.at λo e=>up _ o D.zj (q.extBut _ o D.TOj.symm e),
  q1.at λo e=>all _ o D.lz D.lT D.li D.lj e,q2.at λo e=>all _ o D.mz D.mT D.mi D.mj e⟩ X all
 rw[<-sz]at fin
 exact fin
theorem qii{Q:Option Value->Shared->Prop}(C:A.handled=none)(D:ZA z TI TO i j l m)(st:ZS b c s.heap z TI TO i j l m k xs ys .none)(hx:xs[k]?=none\/ys[k]?=none)(O:∀h',(∀a o,a≠z->a≠TO->a≠i->a≠j->s.heap.get? a=some o->h'.get? a=some o)->Q none {s with heap:=h' }):wpAny (model prog w) A (pyNext (.ref z)) Q E s:=by
 obtain⟨n,ti,⟨P,t1,to'⟩,i1,i2,q1,q2⟩:=st
 have H:s.TypeIs (.ref z) "zip":=⟨_,n,rfl⟩
 have d:∀(h':Heap) (e:Addr),(∀a o,a≠z->a≠TO->a≠i->a≠j->s.heap.get? a=some o->h'.get? a=some o)->(∃o,h'.get? e=some o/\o.cls=.type "StopIteration") ->
   wpAny (model prog w) A (do if <-isInstance (.ref e) (.type "StopIteration")then pure none else throw (Value.ref e)) Q E {s with heap:=h' }:=λh' e R ⟨o,S,U⟩ =>
  wA (vO (T:="StopIteration") (b:=true) ⟨o,S,U⟩ xT (wC (O h' R)))
 unfold pyNext
 refine wA (v7 (wb (name:=Str.ofString "__next__") H xz (wf xz H F.entry_zip_next ?_ (F.args_zip_next_1 _))))
 refine wA (m:=field (.ref z) 2) (vX n rfl (x:=.bool false) rfl (wA (m:=field (.ref z) 3) (vX n rfl (x:=.ref TI) rfl (wA (vN ti rfl ?_)))))
 refine wA (m:=Builtin.SmallTypes.ownedTupleIsFree (.ref z)) ?_
 unfold Builtin.SmallTypes.ownedTupleIsFree
 refine wA (vX n rfl (x:=.none) rfl (wC ?_))
 simp only[vd]
 refine wA (vb (wA (vX n rfl (x:=.ref TO) rfl (wA (uP n (by simp) λW X b1=>?_)))))
 have p:IsZip W z TI TO .ellipsis:=X
 refine wA ?_
 simp only[List.zipIdx_cons,List.zipIdx_nil,uE,gG]
 refine wA (wA (wpAny_onRaise (wA (m:=Builtin.SmallTypes.nextOf (.ref i)) ?_)))
 cases ex:xs[k]? with
 |none =>
  refine qbS C (i1.at λo e=>b1.extBut _ o D.zi e) (q1.at λo e=>b1.extBut _ o D.lz e) ex λv e b2 ⟨y,f,r⟩=>?_
  have I:IsZip v z TI TO .ellipsis:=b2 _ _ D.zi.symm p
  have ne:e≠z:=λq=>by subst q;rw[I]at f;cases f;simp at r
  exact uP I (by simp) λJ _ h=>d J e (λa o u _ B _ q=>h.extBut _ _ u (b2 _ _ B (b1.extBut _ _ u q))) ⟨y,h.extBut _ _ ne f,r⟩
 |some x =>
  have Y:ys[k]?=none:=by
   rcases hx with q|q
   .rw [ex]at q;cases q
   .exact q
  refine draw (i1.at λo e=>b1.extBut _ o D.zi e) (q1.at λo e=>b1.extBut _ o D.lz e) ex λv Z b2=>wC ?_
  have K:IsPair v TO P t1:=b2.extBut _ _ D.TOi (b1.extBut _ _ D.zTO to')
  refine wA (vN K rfl (wA (gC K λJ o3 h=>wA (uo (wC ?_)))))
  refine wA (wA (wpAny_onRaise (wA (m:=Builtin.SmallTypes.nextOf (.ref j)) ?_)))
  refine qbS C (i2.at λo e=>h.extBut _ o D.TOj.symm (b2.extBut _ o D.ij.symm (b1.extBut _ o D.zj e))) (q2.at λo e=>h.extBut _ o D.mT (b2.extBut _ o D.mi (b1.extBut _ o D.mz e))) Y λh4 e L ⟨y,f,r⟩=>?_
  have M:IsZip h4 z TI TO .ellipsis:=L _ _ D.zj.symm (h.extBut _ _ D.zTO.symm (b2.extBut _ _ D.zi.symm p))
  have ne:e≠z:=λq=>by subst q;rw[M]at f;cases f;simp at r
  exact uP M (by simp) λh5 _ N=>d h5 e (λa o u n2 B n4 q=>N.extBut _ _ u (L _ _ n4 (h.extBut _ _ n2 (b2.extBut _ _ B (b1.extBut _ _ u q))))) ⟨y,N.extBut _ _ ne f,r⟩
end
end R
namespace R
open PySem PySem.Spec L2 SeqAt
open PyProof.Rows hiding St
noncomputable def siO(b:Bool)(l:Addr):Obj:=match b with
 |true=>{cls:=.type "tuple_iterator",data:=.fields #[.ref l,.int 0 0]}
 |false=>{cls:=.type "list_iterator",data:=.fields #[.ref l,.int 0 0]}
theorem qf5{b:Bool}{h:Heap}{l:Addr}:SI b (h.push (siO b l)) h.objs.size l 0:=by
 cases b with
 |true=>exact⟨_,wE _ rfl,rfl,rfl⟩
 |false=>exact⟨_,wE _ rfl,rfl,rfl⟩
section
variable{prog:Program}{w:World}{A:Around}{E:Value->Shared->Prop}{s:Shared}
theorem qbT{b:Bool}{l:Addr}{xs:Array Value}{Q:Value->Shared->Prop}(a:SQ b s.heap l xs)(c:Q (.ref s.heap.objs.size) {s with heap:=s.heap.push (siO b l)}):wpAny (model prog w) A (pyIter (.ref l)) Q E s:=by
 cases b with
 |true=>exact xM a c
 |false=>exact um a c
end
noncomputable def zh1(b:Bool)(h:Heap)(l:Addr):Heap:=h.push (siO b l)
noncomputable def zh2(b c:Bool)(h:Heap)(l m:Addr):Heap:=(zh1 b h l).push (siO c m)
noncomputable def zh3(b c:Bool)(h:Heap)(l m:Addr):Heap:=(zh2 b c h l m).push {cls:=.type "tuple",data:=.seq #[.ref h.objs.size,.ref (zh1 b h l).objs.size]}
noncomputable def zh4(b c:Bool)(h:Heap)(l m:Addr):Heap:=(zh3 b c h l m).push {cls:=.type "tuple",data:=.seq #[.none,.none]}
noncomputable def zh5(b c:Bool)(h:Heap)(l m:Addr):Heap:=(zh4 b c h l m).push {cls:=.type "zip",data:=.fields #[.none,.bool false,.bool false,.ref (zh2 b c h l m).objs.size,.ref (zh3 b c h l m).objs.size]}
theorem qij(b c:Bool)(l m:Addr)(xs ys:Array Value):Meets (Builtin.«zip.__new__» ⟨[.type "zip",.ref l,.ref m],[]⟩) (λ_ R s=>SQ b s.heap l xs/\SQ c s.heap m ys/\R (.ok (.ret (.ref (zh4 b c s.heap l m).objs.size))) {s with heap:=zh5 b c s.heap l m}) :=
 .of_wp λprog w A R s h=>by
  obtain⟨a,g,d,tk,os⟩:=s
  obtain⟨f,i,h⟩:=h
  have n:=sub_zip
  have e1:SQ b (Shared.heap ⟨a,g,d,tk,os⟩) l xs:=f
  have j:SQ c (Shared.heap ⟨a.push (siO b l),g,d,tk,os⟩) m ys:=SQ.at i λo e=>wB _ e
  wp_walk using qbT e1,qbT j
  exact⟨_,rfl,h⟩
section
variable{prog:Program}{w:World}{A:Around}{E:Value->Shared->Prop}{s:Shared}
theorem qf6{b c:Bool}{l m:Addr}{xs ys:Array Value}{Q:Value->Shared->Prop}(n:SQ b s.heap l xs)(p:SQ c s.heap m ys)(h:∀h':Heap,ZS b c h' (s.heap.objs.size+4) (s.heap.objs.size+2) (s.heap.objs.size+3) s.heap.objs.size (s.heap.objs.size+1) l m 0 xs ys .none->(∀a o,s.heap.get? a=some o->h'.get? a=some o)->Q (.ref (s.heap.objs.size+4)) {s with heap:=h' }):
  wpAny (model prog w) A (call (.type "zip") [.ref l,.ref m]) Q E s:=by
 have d:(zh1 b s.heap l).objs.size=s.heap.objs.size+1:=wt ..
 have f:(zh2 b c s.heap l m).objs.size=s.heap.objs.size+2:=by unfold zh2;rw[wt,d]
 have i:(zh3 b c s.heap l m).objs.size=s.heap.objs.size+3:=by unfold zh3;rw[wt,f]
 have r:(zh4 b c s.heap l m).objs.size=s.heap.objs.size+4:=by unfold zh4;rw[wt,i]
 have kp:∀a o,s.heap.get? a=some o->(zh5 b c s.heap l m).get? a=some o:=λa o e=>by
  unfold zh5 zh4 zh3 zh2 zh1
  exact wB _ (wB _ (wB _ (wB _ (wB _ e))))
 have j:IsZip (zh5 b c s.heap l m) (zh4 b c s.heap l m).objs.size (zh2 b c s.heap l m).objs.size (zh3 b c s.heap l m).objs.size .none:=wE _ rfl
 have u:IsPair (zh5 b c s.heap l m) (zh3 b c s.heap l m).objs.size .none .none:=by
  have q:(zh4 b c s.heap l m).get? (zh3 b c s.heap l m).objs.size=some _:=wE _ rfl
  exact wB _ q
 have v:IsPair (zh5 b c s.heap l m) (zh2 b c s.heap l m).objs.size (.ref s.heap.objs.size) (.ref (zh1 b s.heap l).objs.size):=by
  have q:(zh3 b c s.heap l m).get? (zh2 b c s.heap l m).objs.size=some _:=wE _ rfl
  exact wB _ (wB _ q)
 have i2:SI c (zh5 b c s.heap l m) (zh1 b s.heap l).objs.size m 0:=SI.at (qf5 (b:=c) (h:=zh1 b s.heap l) (l:=m)) λo e=>wB _ (wB _ (wB _ e))
 have i1:SI b (zh5 b c s.heap l m) s.heap.objs.size l 0:=SI.at (qf5 (b:=b) (h:=s.heap) (l:=l)) λo e=>wB _ (wB _ (wB _ (wB _ e)))
 refine callType_new F.called_zip (by decide) (F.typeCall_zip_2 _ _) (F.newCall_zip_2 _ _) (λobj=>F.args_object_init_3 obj _ _) F.entry_zip_new (qij b c l m xs ys) ⟨n,p,?_⟩
 rw[r,i,f]at j
 rw[i]at u
 rw[f,d]at v
 rw[d]at i2
 rw[r]
 exact⟨⟨_,j,rfl⟩,h _ ⟨j,v,⟨_,_,u⟩,i1,i2,n.at λo e=>kp _ o e,p.at λo e=>kp _ o e⟩ kp⟩
end
def SqB(b:Bool)(K:PySem.W.Frag)(H:Hp)(l:Addr)(xs:List V):Prop:=match b with
 |true=>SqT K H l xs
 |false=>SqL K H l xs
noncomputable def ItZ(K:PySem.W.Frag)(b c:Bool)(l m:Addr):It:=⟨λi H=>∃xs ys u v,SqB b K H l xs/\SqB c K H m ys/\xs[i]?=some u/\ys[i]?=some v,
 λi H x H'=>∃p u v,x=.ref p/\H p=none/\H'=upd H p (.tup [u,v])/\(∀xs,SqB b K H l xs->xs[i]?=some u)/\∀ys,SqB c K H m ys->ys[i]?=some v,λi H=>∃xs ys,SqB b K H l xs/\SqB c K H m ys/\(xs.length<=i\/ys.length<=i)⟩
section
variable{X:Cx}{pos:Pos}
theorem jd{pins:List (Addr×Obj)}{a:St}{H:Hp}{s:Shared}{b:Bool}{l:Addr}{xs:List V}(I:Inv X pins a H s)(h:SqB b X.K H l xs):∃its:List Value,Vals xs its/\SQ b s.heap l its.toArray:=by
 cases b with
 |true=>obtain⟨its,r,p,_⟩:=I.tuple h;exact⟨its,r,p⟩
 |false=>obtain⟨its,r,p,_⟩:=I.list h;exact⟨its,r,p.isList⟩
theorem qdx{pins:List (Addr×Obj)}{a:St}{H:Hp}{s:Shared}{b:Bool}{l:Addr}{xs ys:List V}(I:Inv X pins a H s)(h:SqB b X.K H l xs)(h':SqB b X.K H l ys):xs=ys:=by
 cases b with
 |true=>exact I.tuple_inj h h'
 |false=>exact I.list_inj h h'
def ztn(b c:Bool)(z TI TO i j l m:Addr)(k:Nat)(h:Heap):Prop:=IsZip h z TI TO .none/\IsPair h TI (.ref i) (.ref j)/\(∃a d,IsPair h TO a d)/\SI b h i l k/\SI c h j m k
theorem qf7{P:Program}{w:World}{K:PySem.W.Frag}{es:List Expr}{n:Nat}{tp:Pos}{b c:Bool}{z TI TO i j l m:Addr}(D:ZA z TI TO i j l m):Turn P w K (.Tuple es n tp) (ItZ K b c l m) [z,TI,TO,i,j] z (ztn b c z TI TO i j l m) where
 mem:=by simp
 obj:=λk h ⟨S,B,⟨a,d,U⟩,Y,Z⟩ x hx=>by
  simp only[wN,ve,xj]at hx
  rcases hx with rfl|rfl|rfl|rfl|rfl
  .exact ⟨_,S,λv q=>by cases (show Data.fields _=Data.cell v from q)⟩
  .exact ⟨_,B,λv q=>by cases (show Data.seq _ _=Data.cell v from q)⟩
  .exact ⟨_,U,λv q=>by cases (show Data.seq _ _=Data.cell v from q)⟩
  .exact Y.obj
  .exact Z.obj
 keep:=λk h h' ⟨S,B,⟨a,d,U⟩,Y,Z⟩ kp=>⟨kp z (by simp) _ S,kp TI (by simp) _ B,⟨a,d,kp TO (by simp) _ U⟩,Y.at λo e=>kp i (by simp) o e,Z.at λo e=>kp j (by simp) o e⟩
 item:=by
  intro X hP hw hK hc k pins s σ H E I p st hg
  subst hP hw hK
  obtain⟨xs,ys,u,v,hx,N,eu,ev⟩:=hg
  obtain⟨s1,s2,O,Q,R⟩:=st
  obtain⟨its,rx,qx⟩:=jd I hx
  obtain⟨J,ry,qy⟩:=jd I N
  obtain⟨x,ex,a0⟩:=rx.get eu
  obtain⟨y,ey,a1⟩:=ry.get ev
  refine qj6 D ⟨s1,s2,O,Q,R,qx,qy⟩ (by simpa using ex) (by simpa using ey) λh' zs pr kp=>⟨_,rfl,?_⟩
  obtain⟨t1,t2,t3,t4,t5,t6,t7⟩:=zs
  refine wpAny_letOwnedTupleGo_zip (s:={s with heap:=h' }) t1 λB z2 b2=>?_
  have L:H s.heap.objs.size=none:=I.hok.fresh (wG _)
  have nz:s.heap.objs.size≠z:=vF (wF s1)
  have all:∀a o,a∉[z,TI,TO,i,j]->s.heap.get? a=some o->B.get? a=some o:=λa o f e=>by
   simp only[wN,ve,xj,not_or]at f
   exact b2.extBut _ _ f.1 (kp a o f.1 f.2.2.1 f.2.2.2.1 f.2.2.2.2 e)
  have ne:∀a o,s.heap.get? a=some o->a≠s.heap.objs.size:=λa o e=>wT (wF e)
  have nt:∀{a:Addr} {q:HO},H a=some q->a∉[z,TI,TO,i,j]:=λ{a q} e hm=>by rw[(p a hm).1]at e;cases e
  have M:∀{a:Addr} {q:HO},H a=some q->a≠s.heap.objs.size:=λ{a q} e z'=>by subst z';rw[L]at e;cases e
  have C:HOk X.prog X.w (upd H s.heap.objs.size (.tup [u,v])) B:=λa q e=>by
   by_cases qa:a=s.heap.objs.size
   .subst qa
    rw[ql]at e;cases e
    exact⟨(show(2:Nat)<=sizeLine by decide),[x,y],.cons a0 (.cons a1 .nil),⟨_,b2.extBut _ _ nz pr,rfl,0,rfl⟩,λo q=>by rw[b2.extBut _ _ nz pr]at q;cases q;rfl⟩
   .rw [qj qa]at e
    refine(I.hok a q e).stay (λd o hd eo=>all d o ?_ eo) (λd A=>by rw[qj (M A)];exact A) λd xs A=>by rw[qj (M A)];exact A
    rcases hd with F|F
    .subst F;exact nt e
    .exact nt F
  have I2:Inv X pins σ (upd H s.heap.objs.size (.tup [u,v])) {s with heap:=B}:=by
   refine I.step (g':=s.gens) (d':=s.drawn) (t':=s.toks) (ch:=[z,TI,TO,i,j]) (λa ha=>⟨(p a ha).2.2.2.1,(p a ha).2.1,(p a ha).2.2.2.2.1,(p a ha).2.2.2.2.2⟩) (λa o _ _ f e _=>all a o f e) (λa o _ _ f e _=>⟨o.slots,all a o f e⟩)
    (λa o _ e n=>by rw[qj (ne a o e)];exact n) (λa o f e=>⟨o,all a o f e⟩) (λa xs e=>by rw[qj (M e)];exact e) (λa o q e=>by rw[qj (M e)];exact e) (λa ps e=>⟨#[],by rw[qj (M e),e];simp⟩) (λmm hm=>?_) C I.bare.self
   obtain⟨o,es,ep,ho,r⟩:=hm
   exact⟨o,es,ep,all _ o (λq=>(p _ q).2.1 rfl) ho,r⟩
  refine⟨.ref s.heap.objs.size,_,I2,rfl,⟨_,u,v,rfl,L,rfl,λa3 q=>by rw[qdx I q hx];exact eu,λa4 q=>by rw[qdx I q N];exact ev⟩,⟨z2,b2.extBut _ _ D.zTI t2,?_,t4.at λo e=>b2.extBut _ o D.zi e,t5.at λo e=>b2.extBut _ o D.zj e⟩,λa ha=>?_⟩
  .obtain ⟨a,d,t3⟩:=t3
   exact⟨a,d,b2.extBut _ _ D.zTO t3⟩
  .rw [qj]
   .exact (p a ha).1
   .intro q
    have:∃o,s.heap.get? a=some o:=by
     obtain⟨a',d',a2⟩:=O
     simp only[wN,ve,xj]at ha
     rcases ha with rfl|rfl|rfl|rfl|rfl
     .exact ⟨_,s1⟩
     .exact ⟨_,s2⟩
     .exact ⟨_,a2⟩
     .exact ⟨_,Q.obj.choose_spec.1⟩
     .exact ⟨_,R.obj.choose_spec.1⟩
    obtain⟨o,e⟩:=this
    exact ne a o e q
 done:=by
  intro X hP hw hK hc k pins s σ H E I p st hg
  subst hP hw hK
  obtain⟨xs,ys,hx,N,hl⟩:=hg
  obtain⟨s1,s2,O,Q,R⟩:=st
  obtain⟨its,rx,qx⟩:=jd I hx
  obtain⟨J,ry,qy⟩:=jd I N
  have hn:its.toArray[k]?=none\/J.toArray[k]?=none:=by
   rcases hl with q|q
   .left;simp;rw[<-rx.length];exact q
   .right;simp;rw[<-ry.length];exact q
  refine qii (I.ok.hd hc) D ⟨s1,s2,O,Q,R,qx,qy⟩ hn λh' kp=>⟨rfl,?_⟩
  have nt:∀{a:Addr} {q:HO},H a=some q->a∉[z,TI,TO,i,j]:=λ{a q} e hm=>by rw[(p a hm).1]at e;cases e
  have all:∀a o,a∉[z,TI,TO,i,j]->s.heap.get? a=some o->h'.get? a=some o:=λa o f e=>by
   simp only[wN,ve,xj,not_or]at f
   exact kp a o f.1 f.2.2.1 f.2.2.2.1 f.2.2.2.2 e
  have C:HOk X.prog X.w H h':=λa q e=>by
   refine(I.hok a q e).stay (λd o hd eo=>all d o ?_ eo) (λd A=>A) λd xs A=>A
   rcases hd with F|F
   .subst F;exact nt e
   .exact nt F
  refine I.step (g':=s.gens) (d':=s.drawn) (t':=s.toks) (ch:=[z,TI,TO,i,j]) (λa ha=>⟨(p a ha).2.2.2.1,(p a ha).2.1,(p a ha).2.2.2.2.1,(p a ha).2.2.2.2.2⟩) (λa o _ _ f e _=>all a o f e) (λa o _ _ f e _=>⟨o.slots,all a o f e⟩)
   (λa o _ e n=>n) (λa o f e=>⟨o,all a o f e⟩) (λa xs e=>e) (λa o q e=>e) (λa ps e=>⟨#[],by rw[e];simp⟩) (λmm hm=>?_) C I.bare.self
  obtain⟨o,es,ep,ho,r⟩:=hm
  exact⟨o,es,ep,all _ o (λq=>(p _ q).2.1 rfl) ho,r⟩
 self:=λ_ _ _ _ _ st h=>wpAny_pyIter_zip st.1 h
end
end R
namespace R
open PySem PySem.Spec L2 SeqAt
open PyProof.Rows hiding St
section
variable{X:Cx}{pos:Pos}
theorem qaA{ι:List Addr}{H:Hp}{d:D}{l:List D}{v:V}(e:walkF d=some l)(h:Den ι H d v):∃b a xs,v=.ref a/\a∉ι/\Dens ι H l xs/\(if b=true then H a=some (.tup xs)else Rd H a (.lst xs)):=by
 cases d with
 |tup f=>cases e;obtain⟨a,xs,e1,n,ha,c⟩:=h;exact⟨true,a,xs,e1,n,c,by simpa using ha⟩
 |lst f=>cases e;obtain⟨a,xs,e1,n,ha,c⟩:=h;exact⟨false,a,xs,e1,n,c,by simpa using ha⟩
 |_=>cases e
def AtB(b:Bool)(H:Hp)(a:Addr)(xs:List V):Prop:=if b=true then H a=some (.tup xs)else Rd H a (.lst xs)
theorem AtB.sq{b:Bool}{H:Hp}{K:PySem.W.Frag}{a:Addr}{xs:List V}(h:AtB b H a xs):SqB b K H a xs:=by
 cases b with
 |true=>exact .inl (.inl h)
 |false=>exact .inl h
theorem AtB.mono{b:Bool}{ι c:List Addr}{H H':Hp}{a:Addr}{xs:List V}(h:AtB b H a xs)(n:a∉ι)(s:Stp ι H c H'):AtB b H' a xs:=by
 cases b with
 |true=>exact s.keep _ _ h n trivial
 |false=>exact(s.rd h n).1
theorem qj7{ι:List Addr}{H:Hp}{K:PySem.W.Frag}{b c:Bool}{l m:Addr}{xs ys:List V}{ds es:List D}(r:l∉ι)(nm:m∉ι)(w:AtB b H l xs)(y:AtB c H m ys)(A:Dens ι H ds xs)(B:Dens ι H es ys):ItOk ι H (ItZ K b c l m) ((ds.zip es).map λp=>.tup [p.1,p.2]) where
 go:=λi d a H2 s e=>by
  rw[w4]at e
  cases z:(ds.zip es)[i]? with
  |none=>rw[z]at e;cases e
  |some p =>
   rw[z]at e;cases e
   obtain⟨e1,F⟩:=List.getElem?_zip_eq_some.mp z
   obtain⟨u,C,I⟩:=(Dens.mono s ds A).get e1
   obtain⟨v,E,J⟩:=(Dens.mono s es B).get F
   have f:=(w.mono r s).sq (K:=K)
   have h:=(y.mono nm s).sq (K:=K)
   refine⟨⟨xs,ys,u,v,f,h,C,E⟩,λx H3 L=>?_⟩
   obtain⟨q,M,N,rfl,o,rfl,j,n⟩:=L
   have j:=j xs f
   have n:=n ys h
   rw[C]at j;cases j
   rw[E]at n;cases n
   have g:=Stp.laid (ι:=a) o (.tup [u,v])
   exact⟨g,λS st=>⟨st.laid o _,q,[u,v],rfl,st.fresh o,ql,u,[v],rfl,Den.mono g _ I,v,[],rfl,Den.mono g _ J,rfl⟩⟩
 stop:=λa H2 s=>by
  refine⟨xs,ys,(w.mono r s).sq,(y.mono nm s).sq,?_⟩
  rw[wP,List.length_zip,A.length,B.length]
  lia
theorem qlM(N l m:Nat)(a:l<N)(b:m<N):ZA (N+4) (N+2) (N+3) N (N+1) l m :=
 ⟨(by lia:N+2≠N+4),(by lia:N+3≠N+4),(by lia:N≠N+4),(by lia:N+1≠N+4),(by lia:N+2≠N+3),(by lia:N+2≠N),(by lia:N+2≠N+1),(by lia:N+3≠N),(by lia:N+3≠N+1),(by lia:N≠N+1),
  (by lia:l≠N+4),(by lia:l≠N+3),(by lia:l≠N),(by lia:l≠N+1),(by lia:m≠N+4),(by lia:m≠N+3),(by lia:m≠N),(by lia:m≠N+1)⟩
theorem qf8:bootBuiltins "zip"=some (.type "zip"):=by decide +kernel
theorem qlN{es:List Expr}{n:Nat}{tp:Pos}{e1 j:Expr}{p:Pos}{m1 m2:En->Sr->Res D}(hg:Gl X "zip")(hm:X.mg "zip"=none)(h1:PE X e1 (T m1))(h2:PE X j (T m2))(M:starEach [e1,j] X.env=(false,eval e1 X.env)::starEach [j] X.env)(u:starEach [j] X.env=(false,eval j X.env)::starEach [] X.env):
  PI X (.Tuple es n tp) (.Call (.Name "zip" p) [e1,j] [] pos) (TIt λρ S=>(m1 ρ S).bind λx S1=>(m2 ρ S1).bind λy S2=>match walkF x,walkF y with
   |some l,some m=>.ok ((l.zip m).map λp=>.tup [p.1,p.2]) S2
   |_,_=>.no):=by
 intro pins s C H R I hw
 obtain⟨ι,S,ρ,O,st,q⟩:=hw
 dsimp only at q
 cases z1:m1 ρ S with
 |no=>rw[z1]at q;exact q.elim
 |err=>rw[z1]at q;exact q.elim
 |ok x S1 =>
  rw[z1,Res.bind_ok]at q
  cases z2:m2 ρ S1 with
  |no=>rw[z2]at q;exact q.elim
  |err=>rw[z2]at q;exact q.elim
  |ok y S2 =>
   rw[z2,Res.bind_ok]at q
   cases z3:walkF x with
   |none=>simp only[z3]at q
   |some l =>
    cases z4:walkF y with
    |none=>simp only[z3,z4]at q
    |some m =>
     simp only[z3,z4]at q
     refine Call_ (zI I hg hm qf8 (wi (e:=e1) (rest:=[j]) ?_ M (by rw[u];rfl)))
     rw[M,u]
     refine vw (thn (h1 pins s C H (λv i=>∃d,Stp ι H d i/\Sto d i S1/\Den d i x v) I ⟨ι,S,ρ,O,st,by rw[z1];exact λv d i a b c=>⟨d,a,b,c⟩⟩) λu1 s1 ⟨v1,i,I1,r1,d,q1,E,d1⟩=>?_)
     refine vw (thn (h2 pins s1 C i (λv H2=>∃f,Stp d i f H2/\Sto f H2 S2/\Den f H2 y v) I1 ⟨d,S1,ρ,O.mono q1,E,by rw[z2];exact λv d i a b c=>⟨d,a,b,c⟩⟩) λu2 s2 ⟨v2,H2,A,r2,f,q2,F,d2⟩=>uZ ?_)
     obtain⟨b,J,xs,rfl,nl,dl,P⟩:=qaA z3 (Den.mono q2 x d1)
     obtain⟨c,L,ys,rfl,nm,dm,Q⟩:=qaA z4 d2
     cases r1
     cases r2
     obtain⟨its,rx,U⟩:=jd A (AtB.sq P)
     obtain⟨a0,ry,W⟩:=jd A (AtB.sq Q)
     have lt:∀{b:Bool} {a:Addr} {w:Array Value},SQ b s2.heap a w->a<s2.heap.objs.size:=λ{b a w} h=>by
      cases b with
      |true=>obtain⟨o,e,_⟩:=h;exact wF e
      |false=>obtain⟨o,e,_⟩:=h;exact wF e
     have Y:=lt U
     have Z:=lt W
     refine qf6 U W λh' r kp=>wpAny_pyIter_zip r.z ?_
     have I3:Inv X pins C H2 {s2 with heap:=h' }:=A.kept (t':=s2.toks) kp
     generalize hN:s2.heap.objs.size=N at Y Z r
     have D:ZA (N+4) (N+2) (N+3) N (N+1) J L:=qlM N J L Y Z
     refine⟨N+4,[N+4,N+2,N+3,N,N+1],_,ItZ X.K b c J L,H2,rfl,I3,qf7 D,⟨r.z,r.ti,r.to',r.i1,r.i2⟩,λa ha=>?_,q f H2 _ (q1.trans q2) F (qj7 nl nm P Q dl dm)⟩
     have B:s2.heap.objs.size<=a:=by
      rw[hN]
      simp only[wN,ve,xj]at ha
      rcases ha with rfl|rfl|rfl|rfl|rfl
      .exact uy _ _
      .exact uy _ _
      .exact uy _ _
      .exact wG _
      .exact uy _ _
     exact A.fpOk B (A.hok.fresh B)
end
end R
namespace R
open PySem PySem.Spec L2 SeqAt
open PyProof.Rows hiding St
open PySem.W (KasT kas_rev kas_asc kas_desc kas_tail3 kas_descPart kas_count kas_place kas_bin kas_sort)
noncomputable def evT{b:Type}(lt:Nat->Nat->Bool):KasT b->b
 | .ret a=>a
 | .ask i j k=>evT lt (k (lt i j))
theorem zM{a b:Type}(lt:Nat->Nat->Bool)(f:a->KasT b):∀t:KasT a,evT lt (t.bind f)=evT lt (f (evT lt t))
 | .ret _=>rfl
 | .ask i j k=>zM lt f (k (lt i j))
structure Ord (lt:Nat->Nat->Bool) (n:Nat):Prop where
 irr:∀a,a<n->lt a a=false
 tr:∀a b c,a<n->b<n->c<n->lt a b=true->lt b c=true->lt a c=true
 tot:∀a b,a<n->b<n->a≠b->lt a b=true\/lt b a=true
noncomputable def gt(p:Array Nat)(k:Nat):Nat:=p.getD k 0
def Pm(n:Nat)(p:Array Nat):Prop:=p.toList.Perm (List.range n)
section
variable{lt:Nat->Nat->Bool}{n:Nat}{p:Array Nat}
theorem Pm.size(h:Pm n p):p.size=n:=by
 have:=h.length_eq
 simpa using this
theorem qbU{k:Nat}(a:k<p.size):gt p k=p[k]:=by simp[gt,Array.getD,a]
theorem yT{q:Array Nat}{k j:Nat}(h:q[k]?=p[j]?):gt q k=gt p j:=by
 unfold gt
 rw[Array.getD_eq_getD_getElem?,Array.getD_eq_getD_getElem?,h]
theorem Pm.bd(h:Pm n p){k:Nat}(a:k<n):gt p k<n:=by
 have b:k<p.size:=by rw[h.size];exact a
 rw[qbU b]
 have hm:p[k]∈p.toList:=by simp
 exact uA.mp (h.mem_iff.mp hm)
theorem Pm.inj(h:Pm n p){i j:Nat}(hi:i<n)(c:j<n)(e:gt p i=gt p j):i=j:=by
 have nd:p.toList.Nodup:=h.nodup_iff.mpr List.nodup_range
 have a:i<p.size:=by rw[h.size];exact hi
 have b:j<p.size:=by rw[h.size];exact c
 rw[qbU a,qbU b]at e
 have d:p.toList[i]'(by simpa using a)=p.toList[j]'(by simpa using b):=by simpa using e
 exact(xt nd).mp d
def Srt(lt:Nat->Nat->Bool)(p:Array Nat)(m:Nat):Prop:=∀i j,i<j->j<m->lt (gt p i) (gt p j)=true
theorem Srt.one:Srt lt p 1:=λi j a b=>by lia
theorem Srt.snoc(O:Ord lt n)(h:Pm n p){m:Nat}(hm:1<=m)(hn:m<n)(s:Srt lt p m)(q:lt (gt p (m-1)) (gt p m)=true):Srt lt p (m+1):=λi j a c=>by
 by_cases b:j<m
 .exact s i j a b
 .have e:j=m:=by lia
  subst e
  by_cases hi:i=j-1
  .subst hi;exact q
  .exact O.tr _ _ _ (h.bd (by lia)) (h.bd (by lia)) (h.bd hn) (s i (j-1) (by lia) (by lia)) q
theorem qa6(O:Ord lt n)(h:Pm n p):∀(f k:Nat),1<=k->k+f=n->Srt lt p k->(k<=evT lt (kas_asc p f k)/\evT lt (kas_asc p f k)<=n/\Srt lt p (evT lt (kas_asc p f k)))/\(evT lt (kas_asc p f k)<n->lt (gt p (evT lt (kas_asc p f k))) (gt p (evT lt (kas_asc p f k)-1))=true)
 |0,k,h1,h2,s=>⟨⟨wG _,by show k<=n;lia,s⟩,λq=>by have j:k<n:=q;lia⟩
 |f+1,k,h1,h2,s=>by
  unfold kas_asc
  simp only[evT]
  cases z:lt (p.getD k 0) (p.getD (k-1) 0)with
  |true =>
   rw[wL rfl]
   exact⟨⟨wG _,by show k<=n;lia,s⟩,λ_=>z⟩
  |false =>
   rw[wK (by decide)]
   have a:gt p k≠gt p (k-1):=λe=>by
    have:=h.inj (by lia) (by lia) e
    lia
   have q:lt (gt p (k-1)) (gt p k)=true:=by
    rcases O.tot _ _ (h.bd (show k<n by lia)) (h.bd (show k-1<n by lia)) a with y|y
    .have b:lt (gt p k) (gt p (k-1))=false:=z
     rw[b]at y;cases y
    .exact y
   obtain⟨⟨l,c,d⟩,i⟩:=qa6 O h f (k+1) (by lia) (by lia) (s.snoc O h h1 (by lia) q)
   exact⟨⟨by lia,c,d⟩,i⟩
def Fal(lt:Nat->Nat->Bool)(p:Array Nat)(m:Nat):Prop:=∀i j,i<j->j<m->lt (gt p j) (gt p i)=true
theorem Fal.snoc(O:Ord lt n)(h:Pm n p){m:Nat}(hm:1<=m)(hn:m<n)(s:Fal lt p m)(q:lt (gt p m) (gt p (m-1))=true):Fal lt p (m+1):=λi j a c=>by
 by_cases b:j<m
 .exact s i j a b
 .have e:j=m:=by lia
  subst e
  by_cases hi:i=j-1
  .subst hi;exact q
  .exact O.tr _ _ _ (h.bd hn) (h.bd (by lia)) (h.bd (by lia)) q (s i (j-1) (by lia) (by lia))
theorem qa7(O:Ord lt n)(h:Pm n p):∀(f k:Nat),1<=k->k+f=n->Fal lt p k->∃m,evT lt (kas_desc f p k 0)=(p,m,0)/\k<=m/\m<=n/\Fal lt p m
 |0,k,h1,h2,s=>⟨k,rfl,wG _,by lia,s⟩
 |f+1,k,h1,h2,s=>by
  unfold kas_desc
  simp only[evT]
  cases z:lt (p.getD k 0) (p.getD (k-1) 0)with
  |true =>
   rw[wL rfl,wK (by lia)]
   obtain⟨m,e,i,b,c⟩:=qa7 O h f (k+1) (by lia) (by lia) (s.snoc O h h1 (by lia) z)
   exact⟨m,e,by lia,b,c⟩
  |false =>
   rw[wK (by decide)]
   simp only[evT]
   have a:gt p k≠gt p (k-1):=λe=>by
    have:=h.inj (by lia) (by lia) e
    lia
   have q:lt (p.getD (k-1) 0) (p.getD k 0)=true:=by
    rcases O.tot _ _ (h.bd (show k<n by lia)) (h.bd (show k-1<n by lia)) a with y|y
    .have d:lt (gt p k) (gt p (k-1))=false:=z
     rw[d]at y;cases y
    .exact y
   rw[q,wL rfl]
   exact⟨k,rfl,wG _,by lia,s⟩
theorem qf9(h:Pm n p)(i j:Nat):Pm n (kas_rev p i j):=(mirror_perm p i j _).toList.trans h
theorem qik(O:Ord lt n)(h:Pm n p){k:Nat}(b:1<=k)(c:k<=n)(s:Fal lt p k):∃m q,evT lt (kas_tail3 k n p)=(m,q)/\Pm n q/\1<=m/\m<=n/\Srt lt q m:=by
 have a:Pm n (kas_rev p 0 k):=qf9 h 0 k
 have d:Srt lt (kas_rev p 0 k) k:=λi j u f=>by
  have e:∀x,x<k->gt (kas_rev p 0 k) x=gt p (k-1-x):=λx hx=>by
   have:=getElem?_mirror_all (xs:=p) (i:=0) (j:=k) (by rw[h.size];exact c) x
   rw[wL ⟨vH _,hx⟩]at this
   have q:=yT this
   have l:0+k-1-x=k-1-x:=by lia
   rw[l]at q
   exact q
  rw[e i (by lia),e j f]
  exact s (k-1-j) (k-1-i) (by lia) (by lia)
 unfold kas_tail3
 rw[zM]
 obtain⟨⟨v,o,r⟩,_⟩:=qa6 O a (n-k) k b (by lia) d
 exact⟨_,_,rfl,a,by lia,o,r⟩
theorem qbV(O:Ord lt n)(hn:1<=n)(h:Pm n p):∃m q,evT lt (kas_count n p)=(m,q)/\Pm n q/\1<=m/\m<=n/\Srt lt q m:=by
 unfold kas_count
 rw[zM]
 obtain⟨⟨c,d,a⟩,f⟩:=qa6 O h (n-1) 1 (wG _) (by lia) Srt.one
 generalize evT lt (kas_asc p (n-1) 1)=m at *
 by_cases e:m=n
 .subst e
  rw[wL (by simp)]
  exact⟨m,p,rfl,h,c,d,a⟩
 .rw [wK (by simpa using e)]
  by_cases b:m>1
  .rw [wL b]
   simp only[evT]
   have q:lt (p.getD 0 0) (p.getD (m-1) 0)=true:=a 0 (m-1) (by lia) (by lia)
   rw[q,wL rfl]
   exact⟨m,p,rfl,h,c,d,a⟩
  .rw [wK b]
   have e1:m=1:=by lia
   subst e1
   have q:=f (by lia)
   unfold kas_descPart
   rw[zM]
   have l:Fal lt p 2:=Fal.snoc (m:=1) O h (wG _) (by lia) (λi j b r=>by lia) q
   obtain⟨k,e,b1,b2,o⟩:=qa7 O h (n-(1+1)) (1+1) (by lia) (by lia) l
   rw[e]
   rw[wK (by simp)]
   exact qik (k:=k) O h (by lia) b2 o
theorem jS(O:Ord lt n)(h:Pm n p){k:Nat}(c:k<n)(s:Srt lt p k):∀(f l r:Nat),l<=r->r<=k->r-l<=f->(∀i,i<l->lt (gt p i) (gt p k)=true)->(∀i,r<=i->i<k->lt (gt p k) (gt p i)=true) ->
  evT lt (kas_place p k f l r)<=k/\(∀i,i<evT lt (kas_place p k f l r)->lt (gt p i) (gt p k)=true)/\∀i,evT lt (kas_place p k f l r)<=i->i<k->lt (gt p k) (gt p i)=true
 |0,l,r,h1,h2,h3,a,b=>⟨by show l<=k;lia,a,λi d j=>b i (by have m:l<=i:=d;lia) j⟩
 |f+1,l,r,h1,h2,h3,a,b=>by
  unfold kas_place
  by_cases u:l>=r
  .rw [wL u]
   exact⟨by show l<=k;lia,a,λi d j=>b i (by have m:l<=i:=d;lia) j⟩
  .rw [wK u]
   simp only[evT]
   have hm:(l+r) / 2<k:=by lia
   cases z:lt (p.getD k 0) (p.getD ((l+r) / 2) 0)with
   |true =>
    rw[wL rfl]
    refine jS O h c s f l ((l+r) / 2) (by lia) (by lia) (by lia) a λi d j=>?_
    by_cases e:i=(l+r) / 2
    .subst e;exact z
    .exact O.tr _ _ _ (h.bd c) (h.bd (by lia)) (h.bd (by lia)) z (s ((l+r) / 2) i (by lia) j)
   |false =>
    rw[wK (by decide)]
    have o:gt p k≠gt p ((l+r) / 2):=λe=>by
     have:=h.inj c (by lia) e
     lia
    have q:lt (gt p ((l+r) / 2)) (gt p k)=true:=by
     rcases O.tot _ _ (h.bd c) (h.bd (show(l+r) / 2<n by lia)) o with y|y
     .have v:lt (gt p k) (gt p ((l+r) / 2))=false:=z
      rw[v]at y;cases y
     .exact y
    refine jS O h c s f ((l+r) / 2+1) r (by lia) h2 (by lia) (λi d=>?_) b
    by_cases e:i=(l+r) / 2
    .subst e;exact q
    .exact O.tr _ _ _ (h.bd (by lia)) (h.bd (by lia)) (h.bd c) (s i ((l+r) / 2) (by lia) hm) q
theorem qga(O:Ord lt n):∀(f k:Nat) (p:Array Nat),Pm n p->k+f=n->Srt lt p k->Pm n (evT lt (kas_bin f p k))/\Srt lt (evT lt (kas_bin f p k)) n
 |0,k,p,h,h1,s=>by
  have e:k=n:=by lia
  subst e
  exact⟨h,s⟩
 |f+1,k,p,h,h1,s=>by
  unfold kas_bin
  rw[zM]
  obtain⟨u,d,m⟩:=jS O h (k:=k) (by lia) s k 0 k (vH _) (wG _) (by lia) (λi hi=>by lia) λi a o=>by lia
  generalize evT lt (kas_place p k k 0 k)=l at *
  have q:Pm n (bubble p k (k-l)):=(bubble_perm p k (k-l)).toList.trans h
  refine qga O f (k+1) _ q (by lia) λi j a o=>?_
  have ev:∀x,gt (bubble p k (k-l)) x=if x=l then gt p k else if l<x/\x<=k then gt p (x-1)else gt p x:=λx=>by
   have e:=getElem?_bubble (xs:=p) (src:=k) (by rw[h.size];lia) (k-l) (by lia) x
   have r:k-(k-l)=l:=by lia
   rw[r]at e
   by_cases q1:x=l
   .rw [wL q1]at e ⊢;exact yT e
   .rw [wK q1]at e ⊢
    by_cases q2:l<x/\x<=k
    .rw [wL q2]at e ⊢;exact yT e
    .rw [wK q2]at e ⊢;exact yT e
  rw[ev i,ev j]
  by_cases i1:i=l
  .rw [wL i1,wK (by lia),wL ⟨by lia,by lia⟩]
   exact m (j-1) (by lia) (by lia)
  .rw [wK i1]
   by_cases b:j=l
   .rw [wL b,wK (by lia)]
    exact d i (by lia)
   .rw [wK b]
    by_cases i2:l<i/\i<=k
    .rw [wL i2,wL ⟨by lia,by lia⟩]
     exact s (i-1) (j-1) (by lia) (by lia)
    .rw [wK i2]
     by_cases c:l<j/\j<=k
     .rw [wL c]
      exact s i (j-1) (by lia) (by lia)
     .rw [wK c]
      exact s i j a (by lia)
theorem qdy(O:Ord lt n)(hn:1<=n):Pm n (evT lt (kas_sort n))/\Srt lt (evT lt (kas_sort n)) n:=by
 unfold kas_sort
 rw[zM]
 have h0:Pm n (List.toArray (List.range n)):=by
  show(List.toArray (List.range n)).toList.Perm _
  simp
 obtain⟨m,q,e,b,d,f,c⟩:=qbV O hn h0
 rw[e]
 by_cases hm:m<n
 .rw [wL hm]
  have a:max m 1=m:=by lia
  show Pm n (evT lt (kas_bin (n-max m 1) q (max m 1)))/\_
  rw[a]
  exact qga O (n-m) m q b (by lia) c
 .rw [wK hm]
  have a:m=n:=by lia
  subst a
  exact⟨b,c⟩
end
end R
namespace R
open PySem PySem.Spec L2 SeqAt
open PyProof.Rows hiding St
open PySem.W (KasT kas_rev kas_asc kas_desc kas_tail3 kas_descPart kas_count kas_place kas_bin kas_sort kas_cmp kas_item kas_item_eq kas_runs kas_st kas_range KatLex kat_lt KatTups kat_kind)
def InT{a:Type}(lt:Nat->Nat->Bool)(n:Nat):KasT a->Prop
 | .ret _=>True
 | .ask i j k=>i<n/\j<n/\InT lt n (k (lt i j))
section
variable{lt:Nat->Nat->Bool}{n:Nat}{p:Array Nat}
theorem zN{a b:Type}{f:a->KasT b}:∀{t:KasT a},InT lt n t->InT lt n (f (evT lt t))->InT lt n (t.bind f)
 | .ret _,_,h=>h
 | .ask i j k,h,h'=>⟨h.1,h.2.1,zN h.2.2 h'⟩
theorem qcS(h:Pm n p):∀(f k:Nat),1<=k->k+f=n->InT lt n (kas_asc p f k)
 |0,_,_,_=>trivial
 |f+1,k,h1,h2=>by
  refine⟨h.bd (show k<n by lia),h.bd (show k-1<n by lia),?_⟩
  dsimp only
  split
  .trivial
  .exact qcS h f (k+1) (by lia) (by lia)
theorem qdz(O:Ord lt n)(h:Pm n p):∀(f k:Nat),1<=k->k+f=n->InT lt n (kas_desc f p k 0)
 |0,_,_,_=>trivial
 |f+1,k,h1,h2=>by
  refine⟨h.bd (show k<n by lia),h.bd (show k-1<n by lia),?_⟩
  cases z:lt (p.getD k 0) (p.getD (k-1) 0)with
  |true =>
   dsimp only
   rw[wL rfl,wK (by lia)]
   exact qdz O h f (k+1) (by lia) (by lia)
  |false =>
   dsimp only
   rw[wK (by decide)]
   refine⟨h.bd (show k-1<n by lia),h.bd (show k<n by lia),?_⟩
   have a:gt p k≠gt p (k-1):=λe=>by
    have:=h.inj (by lia) (by lia) e
    lia
   have q:lt (p.getD (k-1) 0) (p.getD k 0)=true:=by
    rcases O.tot _ _ (h.bd (show k<n by lia)) (h.bd (show k-1<n by lia)) a with y|y
    .have b:lt (gt p k) (gt p (k-1))=false:=z
     rw[b]at y;cases y
    .exact y
   rw[q]
   dsimp only
   rw[wL rfl]
   trivial
theorem qil(h:Pm n p){k:Nat}(a:1<=k)(b:k<=n):InT lt n (kas_tail3 k n p):=zN (qcS (qf9 h 0 k) (n-k) k a (by lia)) trivial
theorem qgb(O:Ord lt n)(hn:1<=n)(h:Pm n p):InT lt n (kas_count n p):=by
 unfold kas_count
 obtain⟨⟨f,l,b⟩,c⟩:=qa6 O h (n-1) 1 (wG _) (by lia) Srt.one
 refine zN (qcS h (n-1) 1 (wG _) (by lia)) ?_
 generalize evT lt (kas_asc p (n-1) 1)=m at *
 by_cases e:m=n
 .subst e;rw[wL (by simp)];trivial
 .rw [wK (by simpa using e)]
  by_cases a:m>1
  .rw [wL a]
   refine⟨h.bd (show 0<n by lia),h.bd (show m-1<n by lia),?_⟩
   have q:lt (p.getD 0 0) (p.getD (m-1) 0)=true:=b 0 (m-1) (by lia) (by lia)
   rw[q]
   dsimp only
   rw[wL rfl];trivial
  .rw [wK a]
   have e1:m=1:=by lia
   subst e1
   have q:=c (by lia)
   unfold kas_descPart
   have d:Fal lt p 2:=Fal.snoc (m:=1) O h (wG _) (by lia) (λi j a o=>by lia) q
   obtain⟨k,e,b1,b2,r⟩:=qa7 O h (n-(1+1)) (1+1) (by lia) (by lia) d
   refine zN (qdz O h (n-(1+1)) (1+1) (by lia) (by lia)) ?_
   rw[e,wK (by simp)]
   exact qil (k:=k) h (by lia) b2
theorem jT(h:Pm n p){k:Nat}(a:k<n):∀(f l r:Nat),r<=k->InT lt n (kas_place p k f l r)
 |0,_,_,_=>trivial
 |f+1,l,r,h2=>by
  unfold kas_place
  by_cases b:l>=r
  .rw [wL b];trivial
  .rw [wK b]
   refine⟨h.bd a,h.bd (show(l+r) / 2<n by lia),?_⟩
   dsimp only
   split
   .exact jT h a f l _ (by lia)
   .exact jT h a f _ r h2
theorem qgc(O:Ord lt n):∀(f k:Nat) (p:Array Nat),Pm n p->k+f=n->InT lt n (kas_bin f p k)
 |0,_,_,_,_=>trivial
 |f+1,k,p,h,h1=>zN (jT h (by lia) k 0 k (wG _)) (qgc O f (k+1) _ ((bubble_perm p k _).toList.trans h) (by lia))
theorem qim(O:Ord lt n)(hn:1<=n):InT lt n (kas_sort n):=by
 have h0:Pm n (List.toArray (List.range n)):=by
  show(List.toArray (List.range n)).toList.Perm _
  simp
 obtain⟨m,q,e,a,c,d,f⟩:=qbV O hn h0
 refine zN (qgb O hn h0) ?_
 rw[e]
 by_cases hm:m<n
 .rw [wL hm]
  have b:max m 1=m:=by lia
  show InT lt n (kas_bin (n-max m 1) q (max m 1))
  rw[b]
  exact qgc O (n-m) m q a (by lia)
 .rw [wK hm];trivial
theorem qdA{a:Type}{cmp:Nat->Nat->(Bool->Shared->Prop)->Shared->Prop}{s:Shared}(b:∀i j C,i<n->j<n->C (lt i j) s->cmp i j C s){Q:a->Shared->Prop}:∀{t:KasT a},InT lt n t->Q (evT lt t) s->t.kasWp cmp Q s
 | .ret _,_,h=>h
 | .ask i j k,h,q=>b i j _ h.1 h.2.1 (qdA b h.2.2 q)
end
section
variable{prog:Program}{w:World}{A:Around}{E:Value->Shared->Prop}{s:Shared}
theorem qj8{b:Bool}{x y:Int}{t u:Tok}{Q:Bool->Shared->Prop}(h:Q (decide (x<y)) s):wpAny (model prog w) A (oneLt' b (.int x t) (.int y u)) Q E s:=by
 cases b with
 |true=>exact oneLt_int h
 |false=>exact PySem.W.kat_one _ _ (PySem.P.lt_int h)
theorem qgd{b:Bool}{Q:Bool->Shared->Prop}:∀{xs ys:List Int} {us vs:List Value} {i:Nat},IntsAre us xs->IntsAre vs ys->Q (HT.lexLt xs ys) s->KatLex prog w A b (decide (xs.length<ys.length)) Q (us.zip vs) i s:=by
 intro xs
 induction xs with
 |nil =>
  intro ys us vs i a c h
  cases a
  cases c with
  |nil=>exact h
  |cons =>
   show Q _ s
   simpa[HT.lexLt]using h
 |cons x xs d =>
  intro ys us vs i a c h
  cases a with
  |cons _ t rx =>
  cases c with
  |nil =>
   show Q _ s
   simpa[HT.lexLt]using h
  |cons _ u f =>
  refine wpAny_eqBool_int ?_
  rw[HT.qV]at h
  split at h
  .rename_i e
   subst e
   rw[wL (by simp)]
   have:=d (i:=i+1) rx f h
   simpa[List.zip]using this
  .rename_i e
   rw[wK (by simpa using e)]
   exact qj8 h
noncomputable def TupsAt(h:Heap):List Value->List (List Int)->Prop
 |[],ks=>ks=[]
 |v::vs,ks=>∃a its k r,v=.ref a/\ks=k::r/\IsTup h a its.toArray/\IntsAre its k/\TupsAt h vs r
theorem TupsAt.len{h:Heap}:∀{vs:List Value} {ks:List (List Int)},TupsAt h vs ks->vs.length=ks.length
 |[],_,e=>by cases (show _=[]from e);rfl
 |_::_,_,e=>by obtain⟨a,its,k,r,_,rfl,_,_,t⟩:=e;simp[TupsAt.len t]
theorem TupsAt.get{h:Heap}:∀{vs:List Value} {ks:List (List Int)} (i:Nat),TupsAt h vs ks->i<ks.length->∃a its,vs.getD i .none=.ref a/\IsTup h a its.toArray/\IntsAre its (ks.getD i [])
 |[],_,_,e,hi=>by cases (show _=[]from e);simp at hi
 |_::vs,_,0,e,hi=>by obtain⟨a,its,k,r,rfl,rfl,b,c,_⟩:=e;exact⟨a,its,rfl,b,by simpa using c⟩
 |_::vs,_,i+1,e,hi=>by
  obtain⟨a,its,k,r,rfl,rfl,b,c,t⟩:=e
  obtain⟨d,its',e1,f,j⟩:=TupsAt.get i t (by simpa using hi)
  exact⟨d,its',by simpa using e1,f,by simpa using j⟩
theorem TupsAt.keep{h h':Heap}:∀{vs:List Value} {ks:List (List Int)},TupsAt h vs ks->(∀a o,Value.ref a∈vs->h.get? a=some o->h'.get? a=some o)->TupsAt h' vs ks
 |[],_,e,_=>e
 |_::_,_,e,hk=>by
  obtain⟨a,its,k,r,rfl,rfl,⟨o,d,c⟩,f,t⟩:=e
  exact⟨a,its,k,r,rfl,rfl,⟨o,hk a o wH d,c⟩,f,t.keep λb u i=>hk b u (wI _ i)⟩
theorem TupsAt.firsts{h:Heap}:∀{vs:List Value} {ks:List (List Int)},TupsAt h vs ks->(∀k∈ks,k≠[])->∃fs:List Value,KatTups h vs fs/\fs.length=vs.length/\∀f∈fs,∃x t,f=.int x t
 |[],_,e,_=>⟨[],trivial,rfl,λf b=>by cases b⟩
 |_::_,_,e,hn=>by
  obtain⟨a,its,k,r,rfl,rfl,⟨o,j,c,m,d⟩,i,t⟩:=e
  obtain⟨fs,l,n,p⟩:=t.firsts λk q=>hn k (wI _ q)
  cases i with
  |nil=>exact absurd rfl (hn [] wH)
  |cons x tx i =>
   refine⟨.int x tx::fs,⟨⟨a,o,_,m,rfl,j,c,d,by simp⟩,l⟩,by simp[n],λf b=>?_⟩
   rcases wN.mp b with z|z
   .exact ⟨x,tx,z⟩
   .exact p f z
noncomputable def ltK(ks:List (List Int))(i j:Nat):Bool:=HT.lexLt (ks.getD i []) (ks.getD j [])
theorem qin{vs:List Value}{ks:List (List Int)}(t:TupsAt s.heap vs ks){i j:Nat}(hi:i<ks.length)(f:j<ks.length){C:Bool->Shared->Prop}(h:C (ltK ks i j) s):kas_cmp prog w A (tuples' true) (pairsOf vs) i j C s:=by
 unfold kas_cmp
 rw[kas_item_eq,kas_item_eq]
 obtain⟨a,xs,e1,⟨o,l,_,m,d⟩,c⟩:=t.get i hi
 obtain⟨b,ys,n,⟨u,eu,_,r,d'⟩,e⟩:=t.get j f
 dsimp only
 rw[e1,n]
 have:=qgd (prog:=prog) (w:=w) (A:=A) (s:=s) (b:=true) (i:=0) (Q:=C) c e h
 refine kat_lt l d eu d' ?_
 have p:=c.length
 have q:=e.length
 simpa[p,q]using this
theorem qge{vs:List Value}{ks:List (List Int)}(t:TupsAt s.heap vs ks)(hn:∀k∈ks,k≠[])(d:2<=vs.length){Q:SortKind->Shared->Prop}(h:Q (tuples' true) s):wpAny (model prog w) A (keyKind' vs.toArray) Q E s:=by
 obtain⟨fs,a,e,b⟩:=t.firsts hn
 refine kat_kind (T:=Value.type "int") a (by lia) (λv c=>?_) (by decide) h
 obtain⟨x,tx,rfl⟩:=b v c
 exact .now
end
end R
namespace R
open PySem PySem.Spec L2 SeqAt
open PyProof.Rows hiding St
open PySem.W (KasT kas_sort kas_cmp kas_item kas_item_eq kas_runs kas_st kas_range KdlSrc kdl_extend kdl_hint_dict)
section
variable{prog:Program}{w:World}{A:Around}{E:Value->Shared->Prop}{s:Shared}
structure Answers (prog:Program) (w:World) (A:Around) (vs:List Value) (s:Shared) (κ:SortKind) (lt:Nat->Nat->Bool):Prop where
 kind:∀(E:Value->Shared->Prop) (Q:SortKind->Shared->Prop),Q κ s->wpAny (model prog w) A (keyKind' vs.toArray) Q E s
 ord:Ord lt vs.length
 cmp:∀i j C,i<vs.length->j<vs.length->C (lt i j) s->kas_cmp prog w A κ (pairsOf vs) i j C s
noncomputable def outOf(lt:Nat->Nat->Bool)(vs:List Value):List Value:=if vs.length<2 then vs else(evT lt (kas_sort vs.length)).toList.map λi=>vs.getD i Value.none
theorem lsort{D:Addr}{vs:List Value}{n:Nat}{κ:SortKind}{lt:Nat->Nat->Bool}{P:PySem.Fin->Shared->Prop}(r:s.heap.get? D=some (seqObj "list" vs.toArray n))(v:vs.length<64)(x:2<=vs.length->∀h':Heap,(∀b o,b≠D->s.heap.get? b=some o->h'.get? b=some o)->Answers prog w A vs {s with heap:=h' } κ lt)(h:∀(h':Heap) (c:Nat),(∀b o,b≠D->s.heap.get? b=some o->h'.get? b=some o)->h'.get? D=some (seqObj "list" (outOf lt vs).toArray c)->P (.done (.ret .none)) {s with heap:=h' }):
  wpAny (model prog w) A (Builtin.«list.sort» ⟨[.ref D],[]⟩) P E s:=by
 have K:D<s.heap.objs.size:=wF r
 obtain⟨e1,B⟩:∃e1,(s.heap.update D (Obj.mapSeq λ_=>(#[]:Array Value))).get? D=some (seqObj "list" #[] e1):=⟨_,uf r λ_=>#[]⟩
 have y:∀b o,b≠D->s.heap.get? b=some o->(((s.heap.update D (Obj.mapSeq λ_=>(#[]:Array Value))).push (seqObj "tuple" vs.toArray 0)).push (seqObj "list" #[] 0)).get? b=some o:=λb o u e =>
  wB _ (wB _ ((wQ _ _ (Ne.symm u)).trans e))
 have j:(((s.heap.update D (Obj.mapSeq λ_=>(#[]:Array Value))).push (seqObj "tuple" vs.toArray 0)).push (seqObj "list" #[] 0)).get? D=some (seqObj "list" #[] e1):=wB _ (wB _ B)
 rw[list_sort_plain]
 refine wA (listItems_at r rfl (wA (listUpdate_at r rfl (wA (seqEpoch_at B rfl (wA (wpAny_newTuple (wA (wpAny_newList (wm ?_) (vH _))) (by show vs.length<=_;rw[vJ];lia)))))
  (by rw[wJ,vJ];lia) (vH _))))
 generalize L:((s.heap.update D (Obj.mapSeq λ_=>(#[]:Array Value))).push (seqObj "tuple" vs.toArray 0)).push (seqObj "list" #[] 0)=h3 at y j
 show wpAny (model prog w) A _ P E {s with heap:=h3}
 dsimp only
 have fin:∀(xs:Array Value),xs=(outOf lt vs).toArray->P (.done (.ret .none)) {s with heap:=h3.update D (Obj.mapSeq λ_=>xs)}:=λxs ex=>by
  subst ex
  exact h _ _ (λb o u e=>(wQ _ _ (Ne.symm u)).trans (y b o u e)) (uf j λ_=>(outOf lt vs).toArray)
 by_cases l:vs.toArray.size<2
 .have f:vs.length<2:=by simpa using l
  rw[wL l,wL l]
  refine wA (wC ?_)
  rw[StateT.run_pure]
  refine wA (wC (?_:wpAny _ A _ _ _ _))
  dsimp only
  refine wA (seqEpoch_at j rfl (wA (listUpdate_at j rfl ?_ (vH _) (by rw[Array.size_map];show(pairsOf vs).size<=_;rw[pairsOf_size,vJ];lia))))
  simp only[xY,wj,vc]
  refine wC (fin _ ?_)
  unfold outOf
  rw[wL f]
  apply Array.toList_inj.mp
  show((vs.toArray.zip vs.toArray).map (·.2)).toList=_
  simp[List.map_snd_zip]
 .have f:2<=vs.length:=by
   have:¬vs.length<2:=by simpa using l
   lia
  have a:=x f h3 y
  rw[wK l,wK l]
  refine wA (a.kind _ _ ?_)
  have z:SortSt.mk' κ (vs.toArray.zip vs.toArray) #[] 7 none=kas_st κ (pairsOf vs) (List.toArray (List.range vs.length)):=by
   have e:=kas_range (pairsOf vs)
   rw[pairsOf_size]at e
   show SortSt.mk' κ (pairsOf vs) #[] 7 none=SortSt.mk' κ ((List.toArray (List.range vs.length)).map (kas_item (pairsOf vs))) #[] 7 none
   rw[e]
  have run:=kas_runs (prog:=prog) (w:=w) (A:=A) (E:=E) (κ:=κ) (it:=pairsOf vs) (s:={s with heap:=h3}) (Q:=λ_ d s'=>s'={s with heap:=h3}/\failedOf d=none/\∃p:Array Nat,p=evT lt (kas_sort vs.length)/\p.size=vs.length/\arrOf d=p.map (kas_item (pairsOf vs)))
   (G:=λp s'=>s'={s with heap:=h3}/\p=evT lt (kas_sort vs.length)) f v (λF d s' b1 b2 H C=>⟨C.1,H,F,C.2,b1,b2⟩) (qdA a.cmp (qim a.ord (by lia)) ⟨rfl,rfl⟩)
  rw[<-z]at run
  refine wA (vT run ?_ λ_ _ e=>e)
  rintro⟨⟨⟩,d⟩ s' ⟨rfl,I,p,ep,J,m⟩
  dsimp only
  have q:(arrOf d).map (·.2)=(outOf lt vs).toArray:=by
   unfold outOf
   rw[wK (by lia),<-ep]
   apply Array.toList_inj.mp
   rw[m,Array.map_map,Array.toList_map]
   exact v4 λi _=>by show(kas_item (pairsOf vs) i).2=_;rw[kas_item_eq]
  have hsz:((arrOf d).map (·.2)).size=vs.length:=by rw[m,Array.map_map,Array.size_map,J]
  refine wA (seqEpoch_at j rfl (wA (listUpdate_at j rfl ?_ (vH _) (by show((arrOf d).map (·.2)).size<=_;rw[hsz,vJ];lia))))
  rw[I]
  simp only[xY,wj,vc]
  exact wC (fin _ q)
theorem qeI{x:Value}{vs:List Value}{κ:SortKind}{lt:Nat->Nat->Bool}{Q:Value->Shared->Prop}(d:vs.length<64)(f:∀(n:Value->Shared->Prop) (Q':List Value->Shared->Prop),(∀(h':Heap) (tk:Nat),s.heap.objs.size<=h'.objs.size->(∀b o,s.heap.get? b=some o->h'.get? b=some o)->Q' vs {s with heap:=h',toks:=tk})->wpAny (model prog w) A.in1 (collect x) Q' n s)(i:2<=vs.length->∀(h':Heap) (tk:Nat),(∀b o,s.heap.get? b=some o->h'.get? b=some o)->Answers prog w A.in1.in1 vs {s with heap:=h',toks:=tk} κ lt)(h:∀(h':Heap) (tk:Nat) (D:Addr) (c:Nat),s.heap.objs.size<=D->(∀b o,s.heap.get? b=some o->h'.get? b=some o)->h'.get? D=some (seqObj "list" (outOf lt vs).toArray c)->Q (.ref D) {s with heap:=h',toks:=tk}):
  wpAny (model prog w) A (call (.builtin "sorted") [x]) Q E s:=by
 refine xV kind_sorted plain_sorted entry_sorted (args_sorted1 _) ?_
 unfold Builtin.«sorted»
 refine wA (m:=checkCount "sorted" 1 1 _) (wC (wA (f _ _ λa tk sz j=>wA (wpAny_newList ?_ (by rw[vJ];lia)))))
 have l:(a.push (seqObj "list" vs.toArray 0)).get? a.objs.size=some (seqObj "list" vs.toArray 0):=wE _ rfl
 have up:∀b o,s.heap.get? b=some o->(a.push (seqObj "list" vs.toArray 0)).get? b=some o:=λb o e=>wB _ (j b o e)
 have ne:∀b o,s.heap.get? b=some o->b≠a.objs.size:=λb o e=>wT (wF (j b o e))
 show wpAny _ _ _ _ _ {s with heap:=a.push (seqObj "list" vs.toArray 0),toks:=tk}
 refine wA (wm (wf slot_list_sort ⟨_,l,rfl⟩ entry_list_sort ?_ (args_list_sort _)))
 refine lsort (κ:=κ) (lt:=lt) (s:={s with heap:=a.push (seqObj "list" vs.toArray 0),toks:=tk}) l d (λp h' kp=>i p h' tk λb o e=>kp b o (ne b o e) (up b o e)) λh' c kp q=>?_
 exact⟨_,rfl,wC ⟨_,rfl,h h' tk a.objs.size c sz (λb o e=>kp b o (ne b o e) (up b o e)) q⟩⟩
def EsAt(h:Heap)(d:Addr)(es:Array DictEntry)(ep:Nat):Prop:=∃o,h.get? d=some o/\o.ExactDict/\o.data=.dict es ep
theorem EsAt.at{h h':Heap}{d:Addr}{es:Array DictEntry}{ep:Nat}(x:EsAt h d es ep)(e:∀o,h.get? d=some o->h'.get? d=some o):EsAt h' d es ep:=let ⟨o,a,r⟩:=x;⟨o,e o a,r⟩
theorem EsAt.typeIs{s:Shared}{d:Addr}{es:Array DictEntry}{ep:Nat}(x:EsAt s.heap d es ep):s.TypeIs (.ref d) "dict":=let ⟨o,a,c,_⟩:=x;⟨o,a,c.1⟩
theorem qeJ{d:Addr}{es:Array DictEntry}{ep:Nat}{Q:Value->Shared->Prop}(hd:(d == sysModules)=false)(hm:EsAt s.heap d es ep)(e:Q (.ref s.heap.objs.size) {s with heap:=s.heap.push {cls:=.type "dict_keyiterator",data:=.fields #[.ref d,.int 0 0,.int es.size 0,.int ep 0]}}):wpAny (model prog w) A (pyIter (.ref d)) Q E s:=by
 have b:=hm.typeIs
 obtain⟨o,c,f,a⟩:=hm
 refine wpAny_pyIter_slot b F.slot_dict_iter (wf F.slot_dict_iter b F.entry_dict_iter ?_ (F.args_dict_iter_1 _))
 unfold Builtin.«dict.__iter__»
 refine wA ?_
 unfold Builtin.Dict.dictSlotNone
 refine wA (wpAny_notOrdered_dict b (wC (?_:wpAny _ _ (Builtin.Dict.showsAll d >>= _) _ _ s)))
 unfold Builtin.Dict.showsAll
 rw[wK (by rw[hd];exact wY)]
 refine wA (wC (wA (xW c a (wA (wpAny_dictEpoch c a ?_)))))
 refine wA (wS (wC ⟨_,rfl,"dict_keyiterator",_,⟨_,wE _ rfl,rfl⟩,vl.lookup,?_⟩))
 simpa[rawInt]using e
theorem qeK{it d:Addr}{i ep:Nat}{es:Array DictEntry}{e:DictEntry}{Q:Option Value->Shared->Prop}(c:s.heap.IsKeyIter it d i es.size ep)(hm:EsAt s.heap d es ep)(hx:es[i]?=some e)(l:∀h',h'.IsKeyIter it d (i+1) es.size ep->Heap.SameBut it s.heap h'->Q (some e.key) {s with heap:=h' }):wpAny (model prog w) A (pyNext (.ref it)) Q E s:=by
 have b:=c.typeIs
 obtain⟨o,j,m,hd⟩:=c
 obtain⟨od,f,n,h⟩:=hm
 unfold pyNext
 refine wA (v7 (wb (name:=Str.ofString "__next__") b vl (wf vl b F.entry_dict_keyiterator_next ?_ (F.args_dict_keyiterator_next_1 _))))
 refine wA (wC (wA (wA ?_)))
 first|refine wA (uL b (wC (wA (uN j hd ?_))))|refine wA (ua b (wC (wA (uN j hd ?_))))
 have own:Builtin.Dict_items.ownsTuple "dict_keyiterator"=false:=by decide
 simp only[own,wj,vc]
 show wpAny _ _ (if(Value.ref d == Value.none)=true then _ else _) _ _ s
 rw[wK (show ¬((Value.ref d == Value.none)=true)from wY)]
 refine wA (wC (wA (xW f h ?_)))
 rw[wK (by simp)]
 refine wA (wC (wA (wpAny_dictEpoch f h ?_)))
 rw[wK (by simp)]
 refine wC ?_
 obtain⟨p,q⟩:=Array.getElem?_eq_some_iff.mp hx
 simp only[show ¬((i:Int)<0)from by lia,vc,vn,hx]
 refine wA ?_
 first|refine wA (uL b (wC ?_))|refine wA (ua b (wC ?_))
 refine wA (wpAny_isOneOf_keyiter b (?_:wpAny _ _ (setField (.ref it) 1 (rawInt ((i:Int)+1)) >>= _) _ _ s))
 refine wA (vm j hd (by simp) ?_)
 have a:(s.heap.update it (Obj.mapFields (·.setIfInBounds 1 (rawInt ((i:Int)+1))))).IsKeyIter it d (i+1) es.size ep :=
  ⟨_,w8 _ j (uT (vR hd _)),(xZ ..).trans m,by rw[vR hd];simp[rawInt]⟩
 refine wA (wm (wA (wpAny_isOneOf_keyiter (s:={s with heap:=s.heap.update it (Obj.mapFields (·.setIfInBounds 1 (rawInt ((i:Int)+1))))}) a.typeIs (?_:wpAny _ _ (pure e.key) _ _ _))))
 exact wC (wC ⟨_,rfl,wC (l _ a (Heap.SameBut.update ..))⟩)
theorem qgf{it d:Addr}{i ep:Nat}{es:Array DictEntry}{Q:Option Value->Shared->Prop}(l:A.handled=none)(e:s.heap.IsKeyIter it d i es.size ep)(hm:EsAt s.heap d es ep)(hx:es[i]?=none)(n:∀h',Heap.ExtBut it s.heap h'->Q none {s with heap:=h' }):wpAny (model prog w) A (pyNext (.ref it)) Q E s:=by
 have c:=e.typeIs
 obtain⟨o,j,q,hd⟩:=e
 obtain⟨od,f,p,h⟩:=hm
 unfold pyNext
 refine wA (v7 (wb (name:=Str.ofString "__next__") c vl (wf vl c F.entry_dict_keyiterator_next ?_ (F.args_dict_keyiterator_next_1 _))))
 refine wA (wC (wA (wA ?_)))
 first|refine wA (uL c (wC (wA (uN j hd ?_))))|refine wA (ua c (wC (wA (uN j hd ?_))))
 have own:Builtin.Dict_items.ownsTuple "dict_keyiterator"=false:=by decide
 simp only[own,wj,vc]
 show wpAny _ _ (if(Value.ref d == Value.none)=true then _ else _) _ _ s
 rw[wK (show ¬((Value.ref d == Value.none)=true)from wY)]
 refine wA (wC (wA (xW f h ?_)))
 rw[wK (by simp)]
 refine wA (wC (wA (wpAny_dictEpoch f h ?_)))
 rw[wK (by simp)]
 refine wC ?_
 simp only[show ¬((i:Int)<0)from by lia,vc,vn,hx]
 refine wA ?_
 first|refine wA (uL c (wC ?_))|refine wA (ua c (wC ?_))
 refine wA (m:=setField (.ref it) 0 .none) (vm j hd (by simp) (?_:wpAny _ _ (newExc (.type "StopIteration") [] >>= _) _ _ _))
 refine wA ?_
 unfold newExc newTuple
 refine wA (wS (wA (uI (t:=firstArgMember _ _) (a:=Value.none) (by first|rfl|(simp only[firstArgMember];rfl)) (wS ?_ (by size_fits)))) (by size_fits))
 unfold raiseNew
 refine wA (xi ?_)
 rw[show A.in1.handled=none from l]
 refine wA (wC (wpAny_throw ?_))
 refine wA (vO (T:="StopIteration") (b:=true) ⟨_,wE _ rfl,rfl⟩ xT ?_)
 exact wC (n _ (((Heap.SameBut.update ..).extBut.push _).push _))
theorem qeL(m:A.handled=none)(I d:Addr)(f:d≠I)(es:Array DictEntry)(ep:Nat):Walks prog w A I [I,d] [I] es.size (λi v=>(es[i]?).map (·.key)=some v) (λi h=>h.IsKeyIter I d i es.size ep/\EsAt h d es ep) where
 sub:=λb a=>by simp at a;simp[a]
 frame:=λ_ _ _ st j=>⟨st.1.at λo e=>j I (by simp) o e,st.2.at λo e=>j d (by simp) o e⟩
 item:=λi s Q E hi st c=>by
  have hx:es[i]?=some es[i]:=wp hi
  exact qeK st.1 st.2 hx λh' n l=>c _ h' s.toks (by rw[hx];rfl) ⟨n,st.2.at λo e=>l.extBut _ o f e⟩ λb o a e=>l.extBut b o (λz=>a (by simp[z])) e
 done:=λs Q E st c=>qgf m st.1 st.2 (vr (wG _)) λh' p=>c h' s.toks λb o a e=>p b o (λz=>a (by simp[z])) e
 self:=λ_ _ _ _ st c=>wpAny_pyIter_keyiter st.1 c
theorem qgg{d:Addr}{es:Array DictEntry}{ep:Nat}(lo:(d == sysModules)=false):KdlSrc prog w "dict" d d es.size (λi v=>(es[i]?).map (·.key)=some v) (λh=>EsAt h d es ep) where
 type:=λ_ hm=>hm.typeIs
 there:=λ_ hm=>let ⟨o,a,_⟩:=hm;⟨wF a,wF a⟩
 keep:=λ_ _ hm c=>hm.at λo e=>c d (.inl rfl) o e
 notList:=by decide
 notTuple:=by decide
 hint:=λ_ _ _ _ hm b=>kdl_hint_dict hm.typeIs b
 iter:=λA s f hm=>⟨_,_,(λ_ _ b=>qeJ lo hm b),qeL f _ d (by obtain⟨o,a,_⟩:=hm;exact wT (wF a)) es ep,⟨⟨_,wE _ rfl,rfl,rfl⟩,hm.at λo e=>wB _ e⟩⟩
theorem qaB{d:Addr}{es:Array DictEntry}{ep:Nat}{Q:List Value->Shared->Prop}(n:A.handled=none)(lo:(d == sysModules)=false)(hm:EsAt s.heap d es ep)(hn:es.size<=sizeLine)(p:∀(h':Heap) (tk:Nat),s.heap.objs.size<=h'.objs.size->(∀b o,s.heap.get? b=some o->h'.get? b=some o)->Q (es.toList.map (·.key)) {s with heap:=h',toks:=tk}):wpAny (model prog w) A (collect (.ref d)) Q E s:=by
 have hd:d≠s.heap.objs.size:=by obtain⟨o,q,_⟩:=hm;exact wT (wF q)
 have c:∀R:Result->Shared->Prop,(∀(h':Heap) (tk:Nat) (a:Array Value) (f:Nat),(∀b o,s.heap.get? b=some o->h'.get? b=some o)->h'.get? s.heap.objs.size=some {cls:=.type "list",dict:=none,data:=.seq a f,slots:=#[]}->ItemsOf (λi v=>(es[i]?).map (·.key)=some v) a es.size ->
   R (.ok (.ret (.ref s.heap.objs.size))) {s with heap:=h',toks:=tk})->codeAny (model prog w) A (.builtin "proto.collect" ⟨[.ref d],[]⟩) R s:=by
  intro R r
  refine wa uw ?_
  rw[wZ uv]
  refine wA (m:=newList []) (wS (wC ⟨wo vo _,wa xg ?_⟩))
  rw[wZ vo]
  have h0:(s.heap.push {cls:=.type "list",data:=.seq ([]:List Value).toArray}).get? s.heap.objs.size=some {cls:=.type "list",data:=.seq #[] 0}:=wE _ rfl
  exact kdl_extend (R:=R) (s:={s with heap:=s.heap.push {cls:=.type "list",data:=.seq ([]:List Value).toArray}}) (qgg lo) n (hm.at λo e=>wB _ e) s.heap.objs.size (Ne.symm hd) (Ne.symm hd) (.ref s.heap.objs.size) 0 h0 (λh' tk a f j h hi =>
   r h' tk a f (λb o e=>j b o (wT (wF e)) (wB _ e)) h hi) hn
 unfold collect
 refine wA (xS (c _ λh' tk a f j h hi=>?_))
 refine wA (m:=load s.heap.objs.size) (wpAny_load h (wC ?_))
 have e:a.toList=es.toList.map (·.key):=by
  apply uF
  intro i
  rw[w4]
  cases z:a[i]? with
  |none =>
   have l:a.size<=i:=by simpa using z
   rw[hi.1]at l
   have u:es[i]?=none:=vr l
   rw[vB,vB,z,u];rfl
  |some v =>
   have:=hi.2 i v z
   rw[vB,vB,z,this]
 rw[e]
 exact p h' tk (uu (wF h)) j
end
end R
namespace R
open PySem PySem.Spec L2 SeqAt
open PyProof.Rows hiding St
open PySem.W (KasT kas_sort)
theorem qa8:∀a:List Int,HT.lexLt a a=false
 |[]=>rfl
 |x::a=>by rw[HT.qV,wL rfl];exact qa8 a
theorem qa9:∀{a b c:List Int},HT.lexLt a b=true->HT.lexLt b c=true->HT.lexLt a c=true
 |[],[],_,h,_=>by cases h
 |[],_::_,[],_,h=>by cases h
 |[],_::_,_::_,_,_=>rfl
 |_::_,[],_,h,_=>by cases h
 |_::_,_::_,[],_,h=>by cases h
 |x::a,y::b,z::c,h,k=>by
  rw[HT.qV]at h k ⊢
  by_cases e1:x=y
  .subst e1
   rw[wL rfl]at h
   by_cases d:x=z
   .subst d
    rw[wL rfl]at k ⊢
    exact qa9 h k
   .rw [wK d]at k ⊢;exact k
  .rw [wK e1]at h
   have h':=vY h
   by_cases d:y=z
   .subst d
    rw[wK e1];exact h
   .rw [wK d]at k
    have e:=vY k
    rw[wK (by lia)]
    exact v8 (by lia)
theorem lex_tot:∀{a b:List Int},a≠b->HT.lexLt a b=true\/HT.lexLt b a=true
 |[],[],h=>absurd rfl h
 |[],_::_,_=>.inl rfl
 |_::_,[],_=>.inr rfl
 |x::a,y::b,h=>by
  rw[HT.qV,HT.qV]
  by_cases e:x=y
  .subst e
   rw[wL rfl,wL rfl]
   exact lex_tot λz=>h (by rw[z])
  .rw [wK e,wK (Ne.symm e)]
   rcases Int.lt_or_gt_of_ne e with z|z
   .exact .inl (v8 z)
   .exact .inr (v8 z)
theorem je(x:List Int):∀l:List (List Int),(insT x l).Perm (x::l)
 |[]=>.refl _
 |y::r=>by
  unfold insT
  split
  .exact ((je x r).cons y).trans (.swap ..)
  .exact .refl _
theorem qM:∀l:List (List Int),(sortT l).Perm l
 |[]=>.refl _
 |x::r=>(je x (sortT r)).trans ((qM r).cons x)
def Ris(l:List (List Int)):Prop:=l.Pairwise λa b=>HT.lexLt a b=true
theorem qbW{x:List Int}:∀{l:List (List Int)},x∉l->Ris l->Ris (insT x l)
 |[],_,_=>uJ _ _
 |y::r,hn,h=>by
  obtain⟨f,i⟩:=wx.mp h
  unfold insT
  split
  .rename_i d
   refine wx.mpr ⟨λz hz=>?_,qbW (λm=>hn (wI _ m)) i⟩
   rcases wN.mp ((je x r).mem_iff.mp hz)with e|e
   .rw [e];exact d
   .exact f z e
  .rename_i d
   have c:HT.lexLt x y=true:=by
    rcases lex_tot (a:=x) (b:=y) λe=>hn (by rw[e];exact wH)with z|z
    .exact z
    .rw [z]at d;exact absurd rfl d
   refine wx.mpr ⟨λz hz=>?_,h⟩
   rcases wN.mp hz with e|e
   .rw [e];exact c
   .exact qa9 c (f z e)
theorem jf:∀{l:List (List Int)},l.Nodup->Ris (sortT l)
 |[],_=>.nil
 |x::r,h=>by
  obtain⟨a,b⟩:=uU.mp h
  exact qbW (λm=>a ((qM r).mem_iff.mp m)) (jf b)
theorem qbX:∀{a b:List (List Int)},a.Perm b->Ris a->Ris b->a=b
 |[],b,p,_,_=>(List.nil_perm.mp p).symm
 |x::a,[],p,_,_=>absurd (List.perm_nil.mp p) (by simp)
 |x::a,y::b,p,h,k=>by
  obtain⟨d,f⟩:=wx.mp h
  obtain⟨i,j⟩:=wx.mp k
  have e:x=y:=by
   rcases wN.mp (p.mem_iff.mp wH)with z|z
   .exact z
   .rcases wN.mp (p.symm.mem_iff.mp wH)with c|c
    .exact c.symm
    .have:=qa9 (d y c) (i x z)
     rw[qa8]at this;cases this
  subst e
  rw[qbX (List.Perm.cons_inv p) f j]
theorem jg(x:Int):∀l:List Int,(insI x l).Perm (x::l)
 |[]=>.refl _
 |y::r=>by
  unfold insI
  split
  .exact .refl _
  .exact ((jg x r).cons y).trans (.swap ..)
theorem qN:∀l:List Int,(sortI l).Perm l
 |[]=>.refl _
 |x::r=>(jg x (sortI r)).trans ((qN r).cons x)
theorem qdB{x:Int}:∀{l:List Int},l.Pairwise (·<=·)->(insI x l).Pairwise (·<=·)
 |[],_=>uJ _ _
 |y::r,h=>by
  obtain⟨b,c⟩:=wx.mp h
  unfold insI
  split
  .rename_i a
   refine wx.mpr ⟨λz hz=>?_,h⟩
   rcases wN.mp hz with e|e
   .rw [e];exact a
   .exact Int.le_trans a (b z e)
  .rename_i a
   refine wx.mpr ⟨λz hz=>?_,qdB c⟩
   rcases wN.mp ((jg x r).mem_iff.mp hz)with e|e
   .rw [e];lia
   .exact b z e
theorem yU:∀l:List Int,(sortI l).Pairwise (·<=·)
 |[]=>.nil
 |x::r=>qdB (yU r)
theorem qcT{ks:List (List Int)}(nd:ks.Nodup):Ord (ltK ks) ks.length where
 irr:=λa _=>qa8 _
 tr:=λa b c _ _ _ h k=>qa9 h k
 tot:=λa b ha d h=>lex_tot λe=>h (by
  rw[wv,wv,wD ha,wD d]at e
  exact(xt nd).mp e)
theorem qbY{ks:List (List Int)}(nd:ks.Nodup)(c:1<=ks.length):(evT (ltK ks) (kas_sort ks.length)).toList.map (λi=>ks.getD i [])=sortT ks:=by
 obtain⟨pm,d⟩:=qdy (qcT nd) c
 generalize evT (ltK ks) (kas_sort ks.length)=p at *
 have f:(p.toList.map λi=>ks.getD i []).Perm ks:=by
  have e:(List.range ks.length).map (λi=>ks.getD i [])=ks:=by
   apply uF
   intro i
   rw[w4]
   by_cases hi:i<ks.length
   .rw [wD (by simpa using hi),wD hi]
    simp[hi]
   .rw [vM (by simpa using hi),vM (by lia)];rfl
  have:=pm.map λi=>ks.getD i []
  rwa [e]at this
 refine qbX (f.trans (qM ks).symm) ?_ (jf nd)
 show(p.toList.map λi=>ks.getD i []).Pairwise _
 rw[List.pairwise_map,u6]
 intro i j hi b a
 have hsz:=pm.size
 have:=d i j a (by simpa[hsz]using b)
 rw[qbU (by simpa using hi),qbU (by simpa using b)]at this
 simpa[ltK]using this
end R
namespace R
open PySem PySem.Spec L2 SeqAt
open PyProof.Rows hiding St
open PySem.W (KasT kas_sort)
section
variable{X:Cx}{pins:List (Addr×Obj)}{σ:St}{H:Hp}{s:Shared}{ι:List Addr}{S:Sr}
theorem qdC(I:Inv X pins σ H s):∀{l:List D} {ks:List (List Int)} {xs:List V} {vs:List Value},tupsOf l=some ks->Dens ι H l xs->Vals xs vs->TupsAt s.heap vs ks/\l=ks.map tupI
 |[],ks,xs,vs,e,hd,r=>by
  cases e
  cases (show xs=[]from hd)
  cases r
  exact⟨rfl,rfl⟩
 | .tup a::l,ks,xs,vs,e,hd,r=>by
  obtain⟨x,c,rfl,hx,d⟩:=hd
  obtain⟨b,ys,rfl,_,f,h⟩:=hx
  simp only[tupsOf]at e
  cases z1:intsOf a with
  |none=>rw[z1]at e;cases e
  |some k =>
   rw[z1,wW]at e
   cases z2:tupsOf l with
   |none=>rw[z2]at e;cases e
   |some i =>
    rw[z2]at e;cases e
    cases r with
    |cons j m =>
     cases j
     obtain⟨t1,t2⟩:=qdC I z2 d m
     obtain⟨its,n,p,_⟩:=yf I f
     have o:=intsOf_eq z1
     subst o
     cases dens_ints h
     refine⟨⟨b,its,k,i,rfl,rfl,p,qW n,t1⟩,?_⟩
     rw[t2];rfl
 | .non::_,_,_,_,e,_,_=>by cases e
 | .bl _::_,_,_,_,e,_,_=>by cases e
 | .int _::_,_,_,_,e,_,_=>by cases e
 | .str _::_,_,_,_,e,_,_=>by cases e
 | .lst _::_,_,_,_,e,_,_=>by cases e
 | .emp::_,_,_,_,e,_,_=>by cases e
 | .ref _::_,_,_,_,e,_,_=>by cases e
theorem qbZ{xs:List V}{vs:List Value}(r:Vals xs vs):∀p:List Nat,(∀i∈p,i<vs.length)->Vals (p.map λi=>xs.getD i .non) (p.map λi=>vs.getD i .none)
 |[],_=>.nil
 |i::p,h=>by
  refine .cons ?_ (qbZ r p λj a=>h j (wI _ a))
  have hi:=h i wH
  obtain⟨x,e1,b⟩:=Vals.at r hi
  dsimp only
  rw[wv,wv,e1,wD hi]
  exact b
theorem qb0{l:List D}{xs:List V}(h:Dens ι H l xs):∀p:List Nat,(∀i∈p,i<l.length)->Dens ι H (p.map λi=>l.getD i .non) (p.map λi=>xs.getD i .non)
 |[],_=>rfl
 |i::p,hp=>by
  have hi:=hp i wH
  obtain⟨x,e1,a⟩:=h.get (wD hi)
  refine⟨_,_,rfl,?_,qb0 h p λj b=>hp j (wI _ b)⟩
  dsimp only
  rw[wv,wv,e1,wD hi]
  exact a
theorem zD{m:Bool}{x:Value}{l:List D}{ks:List (List Int)}{xs:List V}{vs:List Value}{Q:VK}(I:Inv X pins σ H s)(st:Sto ι H S)(O:X.calm=true)(n:Dens ι H l xs)(p:Vals xs vs)(e:tupsOf l=some ks)(B:l.length<64)(nd:ks.Nodup)(ne:∀k∈ks,k≠[])(r:∀(y:Value->Shared->Prop) (Q':List Value->Shared->Prop),(∀(h':Heap) (tk:Nat),s.heap.objs.size<=h'.objs.size->(∀b o,s.heap.get? b=some o->h'.get? b=some o)->Q' vs {s with heap:=h',toks:=tk})->wpAny (model X.prog X.w) X.A.in1 (collect x) Q' y s)(q:Pst Den (newL m ((sortT ks).map tupI) S) ι H Q):wpAny (model X.prog X.w) X.A (call (.builtin "sorted") [x]) (EP X pins σ Q) X.xe s:=by
 obtain⟨z,u⟩:=qdC I e n p
 have len:vs.length=ks.length:=z.len
 have E:l.length=ks.length:=by rw[u];simp
 refine qeI (κ:=tuples' true) (lt:=ltK ks) (by lia) r (λh h' tk kp=>?_) λh' tk D c sz kp F=>?_
 .have t':TupsAt h' vs ks:=z.keep λa o _ J=>kp a o J
  exact⟨λy Q' K=>qge (s:={s with heap:=h',toks:=tk}) t' ne h K,by rw[len];exact qcT nd,λi j C hi P L=>qin (s:={s with heap:=h',toks:=tk}) t' (by lia) (by lia) L⟩
 .-- the answer's data
  have fin:∃f,Vals f (outOf (ltK ks) vs)/\Dens ι H ((sortT ks).map tupI) f:=by
   unfold outOf
   by_cases h:vs.length<2
   .rw [wL h]
    refine⟨xs,p,?_⟩
    have:sortT ks=ks:=by
     match ks,len with
     |[],_=>rfl
     |[k],_=>rfl
     |_::_::_,len=>simp at len;lia
    rw[this,<-u]
    exact n
   .rw [wK h]
    rw[len]
    obtain⟨pm,_⟩:=qdy (qcT nd) (show 1<=ks.length by lia)
    have v:∀i∈(evT (ltK ks) (kas_sort ks.length)).toList,i<ks.length:=λi hi=>uA.mp (pm.mem_iff.mp hi)
    refine⟨_,qbZ p _ λi hi=>by rw[len];exact v i hi,?_⟩
    have d:=qb0 n _ λi hi=>by rw[E];exact v i hi
    have M:(sortT ks).map tupI=(evT (ltK ks) (kas_sort ks.length)).toList.map λi=>l.getD i .non:=by
     rw[<-qbY nd (by lia),vL]
     refine v4 λi hi=>?_
     have:=v i hi
     rw[u]
     simp[this]
    rw[M]
    exact d
  obtain⟨f,N,d'⟩:=fin
  have fr:H D=none:=I.hok.fresh sz
  have hz:f.length<=sizeLine:=by
   rw[<-d'.length,wP,(qM ks).length_eq,vJ];lia
  exact⟨.ref D,upd H D (.lst f),I.laid (o:=.lst f) (t':=tk) kp sz ⟨hz,outOf (ltK ks) vs,c,N,F⟩,rfl,zm st d' q D fr⟩
theorem qgh{a:Addr}{xs:List V}(I:Inv X pins σ H s)(h:Rd H a (.lst xs)):∃vs:List Value,Vals xs vs/\s.heap.IsList a vs.toArray/\(∀(A:Around) (c:Value->Shared->Prop) (Q':List Value->Shared->Prop),(∀(h':Heap) (tk:Nat),s.heap.objs.size<=h'.objs.size->(∀b o,s.heap.get? b=some o->h'.get? b=some o)->Q' vs {s with heap:=h',toks:=tk})->wpAny (model X.prog X.w) A (collect (.ref a)) Q' c s):=by
 obtain⟨vs,r,p,hz⟩:=jK I h
 refine⟨vs,r,p,λA c Q' d=>collect_list p (d _ s.toks ?_ λb o e=>?_) (by rw[<-r.length];exact hz)⟩
 .rw [xu,size_push'];lia
 .exact (wQ _ _ (vF (wF e))).trans (wB _ e)
theorem qeM{m:Bool}{a:Addr}{ns:List Int}{xs:List V}{Q:VK}(I:Inv X pins σ H s)(st:Sto ι H S)(h:Rd H a (.lst xs))(y:Dens ι H (ns.map .int) xs)(z:ns.length<64)(q:Pst Den (newL m ((sortI ns).map .int) S) ι H Q):
  wpAny (model X.prog X.w) X.A (call (.builtin "sorted") [.ref a]) (EP X pins σ Q) X.xe s:=by
 obtain⟨vs,r,p,hz⟩:=jK I h
 cases dens_ints y
 have v:IntsAre vs ns:=qW r
 have L:=v.length
 refine sorted_ints p v (by lia) λd f i1 i2 B=>?_
 have C:f=sortI ns:=PySem.W.lks_uniq (i2.trans (qN ns).symm) B (yU ns)
 have up:∀b o,s.heap.get? b=some o->(sortedAll s.heap vs d).get? b=some o:=λb o e=>by
  have j:b<s.heap.objs.size:=wF e
  unfold sortedAll sortedHeap
  refine(wQ _ _ (vF (vQ j))).trans (wB _ (wB _ ((wQ _ _ (vF (vQ j))).trans (wB _ ?_))))
  exact(wQ _ _ (vF j)).trans (wB _ e)
 have E:(((s.heap.push (seqObj "list" #[] 0)).update s.heap.objs.size (Obj.mapSeq (·++vs.toArray))).push (seqObj "list" vs.toArray 0)).get? (s.heap.objs.size+1)=some (seqObj "list" vs.toArray 0):=by
  have:((s.heap.push (seqObj "list" #[] 0)).update s.heap.objs.size (Obj.mapSeq (·++vs.toArray))).objs.size=s.heap.objs.size+1:=by rw[xu,size_push']
  rw[<-this];exact wE _ rfl
 obtain⟨c,at'⟩:∃c,(sortedAll s.heap vs d).get? (s.heap.objs.size+1)=some (seqObj "list" d c):=by
  unfold sortedAll sortedHeap
  have e1:=uf E λ_=>(#[]:Array Value)
  have F:=wB (seqObj "list" #[] 0) (wB (seqObj "tuple" vs.toArray 0) e1)
  exact⟨_,uf F λ_=>d⟩
 have sz:s.heap.objs.size<=s.heap.objs.size+1:=vz _
 have fr:H (s.heap.objs.size+1)=none:=I.hok.fresh sz
 have J:Vals (f.map V.int) d.toList:=by
  have:∀{us:List Value} {i:List Int},IntsAre us i->Vals (i.map V.int) us:=λ{us i} h=>by
   induction h with
   |nil=>exact .nil
   |cons n t _ l=>exact .cons ⟨t,rfl⟩ l
  exact this i1
 have K:Dens ι H ((sortI ns).map .int) (f.map V.int):=by
  rw[C]
  have:∀i:List Int,Dens ι H (i.map .int) (i.map V.int):=λi=>by
   induction i with
   |nil=>rfl
   |cons x r l=>exact⟨_,_,rfl,rfl,l⟩
  exact this _
 have u:(f.map V.int).length<=sizeLine:=by rw[wP,i2.length_eq,vJ];lia
 refine⟨.ref _,upd H (s.heap.objs.size+1) (.lst (f.map V.int)),I.laid (o:=.lst (f.map V.int)) (t':=s.toks) up sz ⟨u,d.toList,c,J,by rw[at']⟩,rfl,zm st K q _ fr⟩
theorem qgi(m:Bool)(C:X.calm=true):CallR X (.builtin "sorted") (Gn (one (bSorted m))):=by
 intro pins s σ H xs us Q I r h
 obtain⟨ι,S,ds,st,hd,p⟩:=h
 obtain⟨d,rfl,p⟩:=jO p
 .skip
  obtain⟨x,rfl,hx⟩:=dens1 hd
  obtain⟨u,rfl,U⟩:=vals1 r
  simp only[one,bSorted]at p
  have f:∀{l:List D},lstOf S d=some l->walkD S d=some l->wpAny (model X.prog X.w) X.A (call (.builtin "sorted") [u]) (EP X pins σ Q) X.xe s:=λ{l} hl hw=>by
   obtain⟨a,xs,rfl,ha,E⟩:=qY st hl hx
   cases U
   rw[hw,wW]at p
   unfold sortL at p
   by_cases c:l.length<64
   .rw [wL c]at p
    cases z:intsOf l with
    |some ns =>
     rw[z]at p
     have:=intsOf_eq z
     subst this
     exact qeM I st ha E (by simpa using c) p
    |none =>
     rw[z]at p
     cases z2:tupsOf l with
     |none=>simp only[z2,xp]at p;exact p.elim
     |some ks =>
      simp only[z2,wW]at p
      by_cases i:ks.Nodup/\∀t∈ks,t≠[]
      .rw [wL i]at p
       obtain⟨vs,M,_,n⟩:=qgh I ha
       exact zD I st C E M z2 c i.1 i.2 (n _) p
      .rw [wK i]at p;exact p.elim
   .rw [wK c]at p;exact p.elim
  cases d with
  |lst l=>exact f rfl rfl
  |ref k =>
   cases z:S[k]? with
   |none=>simp only[walkD,z,xp]at p;exact p.elim
   |some so =>
    cases so with
    |lst l=>exact f (by unfold lstOf;dsimp only;rw[z]) (by unfold walkD;dsimp only;rw[z])
    |dis l=>simp only[walkD,z,xp]at p;exact p.elim
    |dic l =>
     obtain⟨a,rfl,ha⟩:=hx
     cases U
     obtain⟨_,kvs,e1,dk⟩:=st.obj k a _ ha z
     obtain⟨hz,lo,ys,J,o,es,ep,W,ex,Y,Z,a0⟩:=I.hok a _ e1
     simp only[walkD,z,wW]at p
     have K:∀{l:List (List Int×D)} {kvs:List (List Key×V)} {ys:List (List Key×Addr×Value)},DGs keyT ι H l kvs->Paired (λ(p:List Key×V) (q:List Key×Addr×Value)=>p.1=q.1/\H q.2.1=some (.tup (p.1.map kV))/\RelV p.2 q.2.2) kvs ys ->
       Dens ι H (l.map λp=>tupI p.1) (ys.map λq=>V.ref q.2.1):=λ{l}=>by
      induction l with
      |nil=>intro kvs ys N O;cases (show kvs=[]from N);cases O;rfl
      |cons q l L =>
       intro kvs ys N O
       obtain⟨v,r',rfl,_,a1⟩:=N
       cases O with
       |cons y t =>
        rename_i q2 a2
        obtain⟨ya,P,yc⟩:=y
        refine⟨_,_,rfl,⟨q2.2.1,_,rfl,λhm=>?_,P,?_⟩,L a1 t⟩
        .obtain ⟨j,hj,ej⟩:=v5 hm
         have hs:j<S.length:=by rw[<-st.len];exact hj
         have F:=st.obj j _ S[j] (by rw[wD hj,ej]) (wD hs)
         cases e:S[j]with
         |lst _=>rw[e]at F;obtain⟨_,_,B,_⟩:=F;rw[P]at B;cases B
         |dic _=>rw[e]at F;obtain⟨_,_,B,_⟩:=F;rw[P]at B;cases B
         |dis _=>rw[e]at F;obtain⟨_,_,B,_⟩:=F;rw[P]at B;cases B
        .show Dens ι H (q.1.map .int) ((keyT q.1).map kV)
         unfold keyT
         rw[vL]
         have:∀R:List Int,Dens ι H (R.map .int) (R.map (kV∘Sum.inl)):=λR=>by
          induction R with
          |nil=>rfl
          |cons x r L=>exact⟨_,_,rfl,rfl,L⟩
         exact this _
     have E:=K dk J
     have M:Vals (ys.map λq=>V.ref q.2.1) (ys.map λq=>Value.ref q.2.1):=by
      clear J Z E a0
      induction ys with
      |nil=>exact .nil
      |cons q r L=>exact .cons rfl L
     have ev:es.toList.map (·.key)=ys.map λq=>Value.ref q.2.1:=by rw[Z,vL];rfl
     have hsz:es.size<=sizeLine:=by
      have N:es.toList.length=ys.length:=by rw[Z];simp
      have O:kvs.length=ys.length:=Paired.length J
      have:es.size=es.toList.length:=by simp
      lia
     have n:∀(E':Value->Shared->Prop) (Q':List Value->Shared->Prop),(∀(h':Heap) (tk:Nat),s.heap.objs.size<=h'.objs.size->(∀b o,s.heap.get? b=some o->h'.get? b=some o)->Q' (ys.map λq=>Value.ref q.2.1) {s with heap:=h',toks:=tk})->wpAny (model X.prog X.w) X.A.in1 (collect (.ref a)) Q' E' s:=λE' Q' hq =>
      qaB (A:=X.A.in1) (I.ok.hd C) lo ⟨o,W,ex,Y⟩ hsz (by rw[ev];exact hq)
     unfold sortL at p
     by_cases c:(l.map λp=>tupI p.1).length<64
     .rw [wL c]at p
      cases z1:intsOf (l.map λp=>tupI p.1)with
      |some ns =>
       rw[z1]at p
       cases l with
       |nil =>
        cases z1
        exact zD (ks:=[]) I st C E M rfl (by simp) (by simp) (by simp) n p
       |cons q l=>cases z1
      |none =>
       rw[z1]at p
       cases z2:tupsOf (l.map λp=>tupI p.1)with
       |none=>simp only[z2,xp]at p;exact p.elim
       |some ks =>
        simp only[z2,wW]at p
        by_cases i:ks.Nodup/\∀t∈ks,t≠[]
        .rw [wL i]at p
         exact zD I st C E M z2 c i.1 i.2 n p
        .rw [wK i]at p;exact p.elim
     .rw [wK c]at p;exact p.elim
  |emp =>
   obtain⟨a,rfl,_,ha⟩:=hx
   cases U
   obtain⟨hz,lo,ys,J,o,es,ep,W,ex,Y,eK,eP,_⟩:=I.hok a _ ha
   cases J
   have e0:es.toList.map (·.key)=[]:=by
    cases eP' :es.toList with
    |nil=>rfl
    |cons q r=>rw[eP']at eP;cases eP
   have hsz:es.size<=sizeLine:=by
    have:es.toList=[]:=by simpa using e0
    have:es.size=es.toList.length:=by simp
    simp_all
   simp only[walkD,wW]at p
   refine zD (l:=[]) (ks:=[]) (xs:=[]) (vs:=[]) I st C rfl .nil rfl (by simp) (by simp) (by simp) (λE' Q' hq=>qaB (A:=X.A.in1) (I.ok.hd C) lo ⟨o,W,ex,Y⟩ hsz (by rw[e0];exact hq)) p
  |_=>exact p.elim
end
end R
namespace R
open PySem PySem.Spec L2 SeqAt
open PyProof.Rows hiding St
noncomputable def CEs.len:CEs->Nat
 | .nil=>0
 | .cons _ r=>r.len+1
theorem qba{F:Fs}:∀{es:CEs} {ρ:En} {S:Sr} {l:List D} {a:Sr},evs F es ρ S=.ok l a->l.length=es.len
 | .nil,_,_,_,_,h=>by cases h;rfl
 | .cons e r,ρ,S,l,a,h=>by
  unfold evs at h
  cases z:ev F e ρ S with
  |no=>rw[z]at h;cases h
  |err=>rw[z]at h;cases h
  |ok x S1 =>
   rw[z,Res.bind_ok]at h
   cases z2:evs F r ρ S1 with
   |no=>rw[z2]at h;cases h
   |err=>rw[z2]at h;cases h
   |ok b S2 =>
    rw[z2,Res.bind_ok]at h
    cases h
    show b.length+1=r.len+1
    rw[qba z2]
noncomputable def CTs.len:CTs->Nat
 | .nil=>0
 | .cons _ r=>r.len+1
theorem qb1{F:Fs}:∀{ts:CTs} {l:List D} {ρ:En} {S:Sr} {a:En} {b:Sr},asgs F ts l ρ S=.ok a b->l.length=ts.len
 | .nil,[],_,_,_,_,_=>rfl
 | .nil,_::_,_,_,_,_,h=>by unfold asgs at h;cases h
 | .cons t r,[],_,_,_,_,h=>by unfold asgs at h;cases h
 | .cons t r,d::l,ρ,S,a,b,h=>by
  unfold asgs at h
  dsimp only at h
  cases z:asg F t d ρ S with
  |no=>rw[z]at h;cases h
  |err=>rw[z]at h;cases h
  |ok ρ1 S1 =>
   rw[z,Res.bind_ok]at h
   show l.length+1=r.len+1
   rw[qb1 h]
noncomputable def FnAt(P:Program)(w:World)(K:PySem.W.Frag)(mg:Str->Option Value)(base:Heap)(k:Nat)(F:Fs)(i:Nat)(x:Str)(ps:List Str):Prop :=
 ∃f fd,mg x=some (.ref f)/\PySem.W.keepIn K (.ref f)=true/\Binds K fd ps []/\FnOk P w K mg base CX0 k f fd ps (SpD ps.length (F i))
structure Gb (mg:Str->Option Value):Prop where
 len:mg "len"=none
 range:mg "range"=none
 list:mg "list"=none
 tuple:mg "tuple"=none
 sorted:mg "sorted"=none
 sum:mg "sum"=none
 all:mg "all"=none
 any:mg "any"=none
 zip:mg "zip"=none
 min:mg "min"=none
 max:mg "max"=none
 abs:mg "abs"=none
 divmod:mg "divmod"=none
 isinstance:mg "isinstance"=none
 int:mg "int"=none
 bool:mg "bool"=none
 str:mg "str"=none
 dict:mg "dict"=none
 set:mg "set"=none
theorem Gb.ty{mg:Str->Option Value}(g:Gb mg):∀t:Ty,mg (Str.ofString t.nm)=none
 | .int=>g.int|.bool=>g.bool|.tuple=>g.tuple|.list=>g.list|.str=>g.str|.dict=>g.dict
noncomputable def nodupB:List Str->Bool
 |[]=>true
 |x::r=>!(r.any λy=>y == x)&&nodupB r
theorem ze:∀{l:List Str},nodupB l=true->l.Nodup
 |[],_=>.nil
 |x::r,h=>by
  unfold nodupB at h
  simp only[wV,u3,List.any_eq_false,uB]at h
  exact uU.mpr ⟨λhm=>h.1 x hm rfl,ze h.2⟩
@[irreducible] noncomputable def QE(X:Cx)(e:Expr)(t:TE):Prop:=PE X e t
@[irreducible] noncomputable def QT(X:Cx)(e:Expr)(t:TT):Prop:=PT X e t
@[irreducible] noncomputable def QW(X:Cx)(e:Expr)(t:TT):Prop:=PW X e t
@[irreducible] noncomputable def QA(X:Cx)(e:List Expr)(t:TA):Prop:=PA X e t
@[irreducible] noncomputable def QS(X:Cx)(e:Stmt)(t:TS):Prop:=PS X e t
@[irreducible] noncomputable def QSs(X:Cx)(e:List Stmt)(t:TS):Prop:=PSs X e t
@[irreducible] noncomputable def QG(X:Cx)(e:Expr)(t:L2.TG):Prop:=PG X e t
@[irreducible] noncomputable def QGs(X:Cx)(e:List Expr)(t:L2.TGs):Prop:=PGs X e t
@[irreducible] noncomputable def QI(X:Cx)(tg e:Expr)(t:TI):Prop:=PI X tg e t
@[irreducible] noncomputable def QO(X:Cx)(e:Option Expr)(t:TO):Prop:=PO X e t
@[irreducible] noncomputable def QTl(X:Cx)(e:List Expr)(t:TT):Prop:=PTl X e t
theorem Qpt{X:Cx}{e:Expr}{t:TT}(h:QW X e t):QT X e t:=by delta QW at h;delta QT;exact h.pt
theorem QSs.un{X:Cx}{e:List Stmt}{t:TS}(h:QSs X e t):PSs X e t:=by delta QSs at h;exact h
section
variable{X:Cx}{F:Fs}{pos:Pos}
theorem qc(i:Nat){x:Str}(b:X.N[i]?=some x:=by rfl)(c:Vis X.env.scope x:=by first|exact Or.inl rfl|exact Or.inr (Or.inl rfl)|exact Or.inr (Or.inr rfl))(hd:(x == ("__debug__":Str))=false:=by decide)(a:(x == ("__classdict__":Str))=false:=by decide):QE X (.Name x pos) (T (ev F (.var i))):=by
 delta QE;exact(qlf (qe0 b c hd a))
theorem qg{n:Int}{j}:QE X (.Constant (.int n) j pos) (T (ev F (.cst (.int n)))):=by
 delta QE;exact(qdo qe1 λ_ _=>rfl)
theorem zC{b:Bool}{j}:QE X (.Constant (.bool b) j pos) (T (ev F (.cst (.bl b)))):=by
 delta QE;exact(qdo qk1 λ_ _=>rfl)
theorem qgj{j}:QE X (.Constant .none j pos) (T (ev F (.cst .non))):=by
 delta QE;exact(qdo qjj λ_ _=>rfl)
theorem jU{x:Str}{n:Int}{t:Tok}(hm:X.mg x=some (.int n t))(a:Gl X x:=by rfl)(hd:(x == ("__debug__":Str))=false:=by decide):QE X (.Name x pos) (T (ev F (.cst (.int n)))):=by
 delta QE;exact(qjO (qhu (v:=.int n) a hm ⟨t,rfl⟩ hd) λ_ _=>rfl)
theorem qu(o:BOp){a b:Expr}{c d:CE}(ha:QE X a (T (ev F c)))(e:QE X b (T (ev F d))):QE X (.BinOp a (opOf o) b pos) (T (ev F (.bin o c d))):=by
 delta QE;delta QE at ha;delta QE at e;exact(qlh (qhV o) ha e)
theorem qlO{a:Expr}{b:CE}(ha:QE X a (T (ev F b))):QE X (.UnaryOp .USub a pos) (T (ev F (.neg b))):=by
 delta QE;delta QE at ha;exact(qlm ha)
theorem qaC(o:COp){k:Nat}{a b:Expr}{c d:CE}(f:Room k X.A)(ha:QE X a (T (ev F c)))(e:QE X b (T (ev F d)))(hm:behindInMarks (cOf o) b=false:=by rfl):QE X (.Compare a [cOf o] [b] pos) (T (ev F (.cmp o c d))):=by
 delta QE;delta QE at ha;delta QE at e;exact(qli (yt o (by have:=f.un;lia)) ha e hm)
theorem qio(o o':COp){k:Nat}{a b c:Expr}{d e f:CE}(h:Room k X.A)(ha:QE X a (T (ev F d)))(i:QE X b (T (ev F e)))(j:QE X c (T (ev F f)))(hm:lastMarks [cOf o,cOf o'] [b,c]=false:=by rfl):
  QE X (.Compare a [cOf o,cOf o'] [b,c] pos) (T (ev F (.chain o o' d e f))):=by
 delta QE;delta QE at ha;delta QE at i;delta QE at j;exact(qh0 (yt o (by have:=h.un;lia)) (yt o' (by have:=h.un;lia)) ha i j hm)
theorem jh{a:Expr}{t:TE}(ha:QE X a t):QE X (.BoolOp .And [a] pos) t:=by
 delta QE;delta QE at ha;exact(qjn ha)
theorem qaD{a b:Expr}{rest:List Expr}{c d:CE}(ha:QE X a (T (ev F c)))(e:QE X (.BoolOp .And (b::rest) pos) (T (ev F d))):QE X (.BoolOp .And (a::b::rest) pos) (T (ev F (.and c d))):=by
 delta QE;delta QE at ha;delta QE at e;exact(qlk ha e)
theorem qlP{a:Expr}{b:CE}(ha:QE X a (T (ev F b))):QE X (.UnaryOp .Not a pos) (T (ev F (.not b))):=by
 delta QE;delta QE at ha;exact(qll ha)
theorem qf :QA X [] (TL (evs F .nil)):=by
 delta QA;exact(qlg)
theorem qb{e:Expr}{es:List Expr}{c:CE}{cs:CEs}(a:QE X e (T (ev F c)))(b:QA X es (TL (evs F cs)))(d:starEach (e::es) X.env=(false,eval e X.env)::starEach es X.env:=by rfl):QA X (e::es) (TL (evs F (.cons c cs))):=by
 delta QA;delta QE at a;delta QA at b;exact(qjP a b d)
theorem zt{es:List Expr}{k:Nat}{cs:CEs}(h:QA X es (TL (evs F cs))):QE X (.Tuple es k pos) (T (ev F (.tup cs))):=by
 delta QE;delta QA at h;exact(qln h)
theorem jl(m:Bool){es:List Expr}{cs:CEs}(h:QA X es (TL (evs F cs))):QE X (.List es pos) (T (ev F (.lst m cs))):=by
 delta QE;delta QA at h;exact(qlo h)
theorem qlQ(m:Bool):QE X (.Dict [] [] pos) (T (ev F (.dic m))):=by
 delta QE;exact(qlp)
theorem qi{k i:Nat}{x:Str}{ps:List Str}{e:Expr}{es:List Expr}{cs:CEs}{p:Pos}(h:FnAt X.prog X.w X.K X.mg X.base k F i x ps)(c:Room k X.A)(ha:QA X (e::es) (TL (evs F cs)))(d:Gl X x:=by rfl)(j:cs.len=ps.length:=by rfl)(a:(x == ("__debug__":Str))=false:=by decide)(m:starEach (e::es) X.env=(false,eval e X.env)::starEach es X.env:=by rfl)(b:(backTo pos (starEach es X.env)).any (·.1)=false:=by rfl):QE X (.Call (.Name x p) (e::es) [] pos) (T (ev F (.call i cs))):=by
 delta QE;delta QA at ha
 obtain⟨f,fd,hm,n,o,q⟩:=h
 exact qjW q c d hm n o pass0 ha (λρ S l r z=>(qba z).trans j) a m b
theorem jm(b:Blt){x:Str}{id:String}{e:Expr}{es:List Expr}{cs:CEs}{p:Pos}(d:CallR X (.builtin id) (Gn (bltD b)))(hm:X.mg x=none)(f:bootBuiltins x=some (.builtin id))(ha:PA X (e::es) (TL (evs F cs)))(h:Gl X x:=by rfl)(hn:x≠"__name__":=by decide)(a:(x == ("__debug__":Str))=false:=by decide)(i:starEach (e::es) X.env=(false,eval e X.env)::starEach es X.env:=by rfl)(c:(backTo pos (starEach es X.env)).any (·.1)=false:=by rfl):PE X (.Call (.Name x p) (e::es) [] pos) (T (ev F (.blt b cs))):=qh3 d h hm f ha hn a i c
theorem qi1(b:Blt){x:Str}{ty:String}{e:Expr}{es:List Expr}{cs:CEs}{p:Pos}(d:CallR X (.type ty) (Gn (bltD b)))(hm:X.mg x=none)(f:bootBuiltins x=some (.type ty))(ha:PA X (e::es) (TL (evs F cs)))(h:Gl X x:=by rfl)(hn:x≠"__name__":=by decide)(a:(x == ("__debug__":Str))=false:=by decide)(i:starEach (e::es) X.env=(false,eval e X.env)::starEach es X.env:=by rfl)(c:(backTo pos (starEach es X.env)).any (·.1)=false:=by rfl):PE X (.Call (.Name x p) (e::es) [] pos) (T (ev F (.blt b cs))):=qfI d h hm f ha hn a i c
theorem jn(t:Ty){a:Expr}{f:CE}{p b:Pos}(gb:Gb X.mg)(ha:QE X a (T (ev F f)))(h:Gl X "isinstance":=by rfl)(c:Gl X (Str.ofString t.nm):=by rfl)(i:starEach [a,.Name (Str.ofString t.nm) b] X.env=(false,eval a X.env)::starEach [.Name (Str.ofString t.nm) b] X.env:=by rfl)(d:starEach [.Name (Str.ofString t.nm) b] X.env=(false,eval (.Name (Str.ofString t.nm) b) X.env)::starEach [] X.env:=by rfl)(e:(backTo pos (starEach [.Name (Str.ofString t.nm) b] X.env)).any (·.1)=false:=by rfl):
  QE X (.Call (.Name "isinstance" p) [a,.Name (Str.ofString t.nm) b] [] pos) (T (ev F (.isi t f))):=by
 delta QE;delta QE at ha;exact(qls h gb.isinstance c (gb.ty t) ha i d e)
theorem qlR{o e:Expr}{co i:CE}{b:Pos}(j:QE X o (T (ev F co)))(l:QE X e (T (ev F i)))(h:starEach [e] X.env=(false,eval e X.env)::starEach [] X.env:=by rfl)(c:attributeBase o "pop" X.env (eval o X.env)=eval o X.env:=by rfl)(d:(b.endLine == pos.line)=true:=by rfl)(f:((backTo pos (starEach [e] X.env)).all (λx=>!x.1)&&(backToKw pos (keywordEach [] X.env)).all (λx=>x.1.isSome)&&decide ([e].length+([]:List Keyword).length+(if([]:List Keyword).isEmpty then 0 else 1)<30))=true:=by rfl)(a:(backTo pos (starEach [] X.env)).any (·.1)=false:=by rfl):QE X (.Call (.Attribute o "pop" b) [e] [] pos) (T (ev F (.popAt co i))):=by
 delta QE;delta QE at j;delta QE at l;exact(qcN PySem.F.slot_list_pop PySem.F.type_list_pop qfi (λι S x y v u H Q st hx m p=>qlz st hx m p) j l h c d f a)
theorem qlS{o e:Expr}{co i:CE}{b:Pos}(j:QE X o (T (ev F co)))(l:QE X e (T (ev F i)))(h:starEach [e] X.env=(false,eval e X.env)::starEach [] X.env:=by rfl)(c:attributeBase o "append" X.env (eval o X.env)=eval o X.env:=by rfl)(d:(b.endLine == pos.line)=true:=by rfl)(f:((backTo pos (starEach [e] X.env)).all (λx=>!x.1)&&(backToKw pos (keywordEach [] X.env)).all (λx=>x.1.isSome)&&decide ([e].length+([]:List Keyword).length+(if([]:List Keyword).isEmpty then 0 else 1)<30))=true:=by rfl)(a:(backTo pos (starEach [] X.env)).any (·.1)=false:=by rfl):QE X (.Call (.Attribute o "append" b) [e] [] pos) (T (ev F (.app co i))):=by
 delta QE;delta QE at j;delta QE at l;exact(qcN PySem.F.slot_list_append PySem.F.type_list_append qau (λι S x y v u H Q st hx m p=>qiY st hx m p) j l h c d f a)
theorem qv{k:Nat}{a b:Expr}{c d:CE}(f:Room k X.A)(ha:QE X a (T (ev F c)))(e:QE X b (T (ev F d)))(h:PlainIx b:=by exact λ_ _=>rfl):QE X (.Subscript a b pos) (T (ev F (.idx c d))):=by
 delta QE;delta QE at ha;delta QE at e;exact(qlr (qdi f) ha e h)
theorem k_on :QO X none (TOp (evO F .none)):=by
 delta QO;exact(qfH)
theorem k_os{e:Expr}{c:CE}(h:QE X e (T (ev F c))):QO X (some e) (TOp (evO F (.some c))):=by
 delta QO;delta QE at h;exact(qfG h)
theorem qdD{e:Expr}{lo hi:Option Expr}{f:Pos}{c:CE}{cl ch:CO}(a:QE X e (T (ev F c)))(b:QO X lo (TOp (evO F cl)))(d:QO X hi (TOp (evO F ch))):QE X (.Subscript e (.Slice lo hi none f) pos) (T (ev F (.slc c cl ch))):=by
 delta QE;delta QE at a;delta QO at b;delta QO at d;exact(qlt a b d)
theorem qcU(m:Bool){a:Expr}{es:List Expr}{cs:CEs}{e f b:Pos}(gb:Gb X.mg)(ha:QA X (a::es) (TL (evs F cs)))(h:X.calm=true:=by rfl)(i:Gl X "range":=by rfl)(c:Gl X "list":=by rfl)(j:starEach (a::es) X.env=(false,eval a X.env)::starEach es X.env:=by rfl)(d:(backTo b (starEach es X.env)).any (·.1)=false:=by rfl):QE X (.Call (.Name "list" e) [.Call (.Name "range" f) (a::es) [] b] [] pos) (T (ev F (.rng (some m) cs))):=by
 delta QE;delta QA at ha;exact(qlL (k:=some m) (.inl ⟨rfl,rfl,m,rfl⟩) h i gb.range c gb.list ha j d)
theorem qQ{e:Expr}{c:CE}(h:QE X e (T (ev F c)))(b:∀a,isTrue e X.env a=(do let v <-a;standAt e.pos;holding [v] (truthy v)):=by intro _;rfl):QT X e (TB (tst F (.val c))):=by
 delta QT;delta QE at h;exact(qjR h b)
theorem zO(o:COp){k:Nat}{a b:Expr}{c d:CE}(f:Room k X.A)(ha:QE X a (T (ev F c)))(e:QE X b (T (ev F d)))(hm:behindInMarks (cOf o) b=false:=by rfl):QT X (.Compare a [cOf o] [b] pos) (TB (tst F (.val (.cmp o c d)))):=by
 delta QT;delta QE at ha;delta QE at e;exact(qjS (yt o (by have:=f.un;lia)) ha e hm)
theorem qip(o o':COp){k:Nat}{a b c:Expr}{d e f:CE}(h:Room k X.A)(ha:QE X a (T (ev F d)))(i:QE X b (T (ev F e)))(j:QE X c (T (ev F f)))(hm:lastMarks [cOf o,cOf o'] [b,c]=false:=by rfl):
  QT X (.Compare a [cOf o,cOf o'] [b,c] pos) (TB (tst F (.val (.chain o o' d e f)))):=by
 delta QT;delta QE at ha;delta QE at i;delta QE at j;exact(qfD (yt o (by have:=h.un;lia)) (yt o' (by have:=h.un;lia)) ha i j hm)
theorem zE{a:Expr}{b:CB}(ha:QT X a (TB (tst F b))):QT X (.UnaryOp .Not a pos) (TB (tst F (.not b))):=by
 delta QT;delta QT at ha;exact(qjU ha)
theorem qgk{a:Expr}{t:TT}(ha:QT X a t):QW X (.BoolOp .And [a] pos) t:=by
 delta QW;delta QT at ha;exact(qhw ha)
theorem jo{a:Expr}{t:TT}(ha:QT X a t):QW X (.BoolOp .Or [a] pos) t:=by
 delta QW;delta QT at ha;exact(qjk ha)
theorem qi2{a b:Expr}{rest:List Expr}{c d:CB}(ha:QT X a (TB (tst F c)))(e:QW X (.BoolOp .And (b::rest) pos) (TB (tst F d))):QW X (.BoolOp .And (a::b::rest) pos) (TB (tst F (.and c d))):=by
 delta QW;delta QT at ha;delta QW at e;exact(qjT ha e)
theorem w_or{a b:Expr}{rest:List Expr}{c d:CB}(ha:QT X a (TB (tst F c)))(e:QW X (.BoolOp .Or (b::rest) pos) (TB (tst F d))):QW X (.BoolOp .Or (a::b::rest) pos) (TB (tst F (.or c d))):=by
 delta QW;delta QT at ha;delta QW at e;exact(qlj ha e)
theorem q9 :QTl X [] (TB (tsts F .nil)):=by
 delta QTl;exact(qj1)
theorem qcV{c:Expr}{ifs:List Expr}{a:CB}{cs:CBs}(b:QT X c (TB (tst F a)))(d:QTl X ifs (TB (tsts F cs))):QTl X (c::ifs) (TB (tsts F (.cons a cs))):=by
 delta QTl;delta QT at b;delta QTl at d;exact(qh9 b d)
theorem qS{tg e:Expr}{c:CE}(h:QE X e (T (ev F c))):QI X tg e (TIt (evI F (.seq c))):=by
 delta QI;delta QE at h;exact(qlG h)
theorem jV{tg a:Expr}{es:List Expr}{cs:CEs}{p:Pos}(gb:Gb X.mg)(ha:QA X (a::es) (TL (evs F cs)))(c:Gl X "range":=by rfl)(d:starEach (a::es) X.env=(false,eval a X.env)::starEach es X.env:=by rfl)(b:(backTo pos (starEach es X.env)).any (·.1)=false:=by rfl):
  QI X tg (.Call (.Name "range" p) (a::es) [] pos) (TIt (evI F (.rng cs))):=by
 delta QI;delta QA at ha;exact(i_rng c gb.range ha d b)
theorem qlT{es:List Expr}{n:Nat}{e:Pos}{e1 a:Expr}{c1 c2:CE}{p:Pos}(gb:Gb X.mg)(c:QE X e1 (T (ev F c1)))(d:QE X a (T (ev F c2)))(f:Gl X "zip":=by rfl)(h:starEach [e1,a] X.env=(false,eval e1 X.env)::starEach [a] X.env:=by rfl)(b:starEach [a] X.env=(false,eval a X.env)::starEach [] X.env:=by rfl):QI X (.Tuple es n e) (.Call (.Name "zip" p) [e1,a] [] pos) (TIt (evI F (.zip c1 c2))):=by
 delta QI;delta QE at c;delta QE at d;exact(qlN f gb.zip c d h b)
theorem qo(i:Nat){x:Str}(a:nodupB X.N=true:=by rfl)(hi:X.N[i]?=some x:=by rfl)(hx:Loc X.env.scope x:=by first|exact Or.inl rfl|exact Or.inr rfl)(b:X.fn x=true\/X.env.scope.names.lookup x=some .local:=by first|exact .inl rfl|exact .inr rfl):QG X (.Name x pos) (TGt (asg F (.var i))):=by
 delta QG;exact(qlA (qda (ze a) hi hx b))
theorem yh :QGs X [] (TGts (asgs F .nil)):=by
 delta QGs;exact(qlB)
theorem qD{e:Expr}{es:List Expr}{c:CT}{cs:CTs}(a:QG X e (TGt (asg F c)))(b:QGs X es (TGts (asgs F cs)))(d:(assignEach (e::es) X.env).map (·.2)=assign e X.env::(assignEach es X.env).map (·.2):=by rfl):QGs X (e::es) (TGts (asgs F (.cons c cs))):=by
 delta QGs;delta QG at a;delta QGs at b;exact(qjX a b d)
theorem yi{es:List Expr}{k:Nat}{cs:CTs}(h:QGs X es (TGts (asgs F cs)))(b:X.calm=true:=by rfl)(hn:(assignEach es X.env).length=cs.len:=by rfl)(a:(assignEach es X.env).findIdx? (·.1)=none:=by rfl):QG X (.Tuple es k pos) (TGt (asg F (.tup cs))):=by
 delta QG;delta QGs at h;exact(qlC b h hn a λl ρ S c d z=>qb1 z)
theorem qgl{k:Nat}{o i:Expr}{co c:CE}(e:Room k X.A)(d:QE X o (T (ev F co)))(hi:QE X i (T (ev F c)))(ha:∀v,assign (.Subscript o i pos) X.env v=(do
   let a <-holding [v] (eval o X.env)
   let b <-holding [v,a] (eval i X.env)
   standAt pos
   holding [v,a,b] (setItem a b v)
   release [v,a,b] []):=by intro _;rfl):QG X (.Subscript o i pos) (TGt (asg F (.sub co c))):=by
 delta QG;delta QE at d;delta QE at hi;exact(qlD (qdi e) d hi ha)
end
end R
namespace R
open PySem PySem.Spec L2 SeqAt
open PyProof.Rows hiding St
section
variable{X:Cx}{F:Fs}{N:Nat}{pos:Pos}
theorem qh :QSs X [] (TSm (exs F N .nil)):=by
 delta QSs;exact(qlE)
theorem qd{st:Stmt}{rest:List Stmt}{c:CS}{cs:CSs}(a:QS X st (TSm (ex F N c)))(b:QSs X rest (TSm (exs F N cs))):QSs X (st::rest) (TSm (exs F N (.cons c cs))):=by
 delta QSs;delta QS at a;delta QSs at b;exact(qjY a b)
theorem jW{e:Expr}{c:CE}(a:QE X e (T (ev F c)))(b:swapsWith e none pos.line X.env=pure false:=by rfl):QS X (.Expr e pos) (TSm (ex F N (.expr c))):=by
 delta QS;delta QE at a;exact(qjZ a b)
theorem qr{e:Expr}{c:CE}(a:QE X e (T (ev F c))):QS X (.Return (some e) pos) (TSm (ex F N (.ret c))):=by
 delta QS;delta QE at a;exact(qlF a)
theorem qdE{st:Stmt}:QS X st (TSm (ex F N .never)):=by
 delta QS;exact(qh5)
theorem z_if{c:Expr}{a b:List Stmt}{d:CB}{e f:CSs}(h:QT X c (TB (tst F d)))(ha:QSs X a (TSm (exs F N e)))(i:QSs X b (TSm (exs F N f))):QS X (.If c a b pos) (TSm (ex F N (.ifs d e f))):=by
 delta QS;delta QT at h;delta QSs at ha;delta QSs at i;exact(s_if h ha i)
theorem jX{tg e:Expr}{c:CE}{t:CT}(a:QE X e (T (ev F c)))(b:QG X tg (TGt (asg F t)))(d:swapsWithSole [tg] e pos.line X.env=pure false:=by rfl)(f:swappedStores [tg] e X.env=pure none:=by rfl)(h:(assignEach [tg] X.env).map (·.2)=[assign tg X.env]:=by rfl):
  QS X (.Assign [tg] e pos) (TSm (ex F N (.set t c))):=by
 delta QS;delta QE at a;delta QG at b;exact(qiZ (qjt a b d f h))
theorem qw(i:Nat){x:Str}{e:Expr}{c:CE}{a:Pos}(n:QE X e (T (ev F c)))(q:nodupB X.N=true:=by rfl)(hi:X.N[i]?=some x:=by rfl)(hx:Loc X.env.scope x:=by first|exact Or.inl rfl|exact Or.inr rfl)(r:swapsWith e (some (.Name x a)) pos.line X.env=pure false:=by rfl)(s:X.fn x=true\/X.env.scope.names.lookup x=some .local:=by first|exact .inl rfl|exact .inr rfl):QS X (.Assign [.Name x a] e pos) (TSm (ex F N (.set (.var i) c))):=by
 delta QS;delta QE at n
 refine qiZ (g:=λd ρ S=>.ok (ρ.set i (some d)) S) (PSimp (qju (ze q) hi hx n r s) λD C H u=>?_)
 obtain⟨ι,S,ρ,w,st,p⟩:=u
 refine⟨ι,S,ρ,w,st,?_⟩
 cases z:ev F c ρ S with
 |no=>rw[z]at p;exact p
 |err=>rw[z]at p;exact p
 |ok d S1 =>
  rw[z]at p
  intro v b o s1 f y
  obtain⟨h,S2,A,d2,j,l,m,B⟩:=p v b o s1 f y
  exact B _ h o (Stp.refl _ _) l (j.set m)
theorem zX{tg iter:Expr}{body:List Stmt}{it:CI}{t:CT}{a:CSs}(hi:QI X tg iter (TIt (evI F it)))(b:QG X tg (TGt (asg F t)))(c:QSs X body (TSm (exs F N a)))(d:PassesOwn (model X.prog X.w) X.A X.env X.xe:=by exact PassesOwn.never)(e:X.calm=true:=by rfl)(f:∀x,foldedSetIterable iter X.env x=pure x:=by intro _;rfl):QS X (.For tg iter body [] pos) (TSm (ex F N (.forS t it a))):=by
 delta QS;delta QI at hi;delta QG at b;delta QSs at c;exact(qlH d e hi b c f)
theorem qbb{c:Expr}{body:List Stmt}{a:CB}{b:CSs}(d:QT X c (TB (tst F a)))(e:QSs X body (TSm (exs F N b)))(f:PassesOwn (model X.prog X.w) X.A X.env X.xe:=by exact PassesOwn.never):QS X (.While c body [] pos) (TSm (ex F N (.whileS a b))):=by
 delta QS;delta QT at d;delta QSs at e;exact(qh6 f d e)
noncomputable def cscB(O:List (Str×NameKind))(N':List Str)(sc:Scope)(fr:List Nat)(xs ts:List Str):Bool :=
 (sc.kind == .function)&&sc.names.all (λy=>y.2 != .cell)&&sc.names.all (λy=>y.2 != .local || sc.names.lookup y.1 == some .local)&&sc.names.all (λy=>y.2 != .free || O.lookup y.1 == some .cell || O.lookup y.1 == some .free) &&
 decide (fr.length=xs.length)&&(fr.zip xs).all (λp=>N'[p.1]? == some p.2)&&xs.all (λx=>sc.names.lookup x == some .free&&(O.lookup x == some .cell || O.lookup x == some .free))&&ts.all (λx=>sc.names.lookup x == some .local)&&decide (xs++ts).Nodup
theorem ji{sc:Scope}{fr:List Nat}{xs ts:List Str}(h:cscB X.env.scope.names X.N sc fr xs ts=true):CSc X sc fr xs ts:=by
 unfold cscB at h
 simp only[wV,vU,Bool.or_eq_true,bne_iff_ne,uB,wz]at h
 obtain⟨⟨⟨⟨⟨⟨⟨⟨b,c⟩,d⟩,e⟩,f⟩,l⟩,m⟩,n⟩,o⟩:=h
 refine⟨b,c,λy a p=>?_,λy a q=>?_,⟨f,λi j x e1 r=>?_,m,n,o⟩⟩
 .rcases d y a with z|z
  .exact absurd p z
  .exact z
 .rcases e y a with (z|z)|z
  .exact absurd q z
  .exact .inl z
  .exact .inr z
 .have hm:(j,x)∈fr.zip xs:=by
   apply wy (i:=i)
   rw[List.getElem?_zip_eq_some]
   exact⟨e1,r⟩
  exact l (j,x) hm
theorem qT{k:Nat}{sc:Scope}{cl:List (Str×Addr)}{C:Addr}{code:Value}{N':List Str}{fp:List Addr}{tg elt iter:Expr}{ifs:List Expr}{a:Pos}{it:Addr}{o:Addr×Obj}{s:Shared}{H:Hp}(r:Room (k+1) X.A):
  Room k (genCx X sc cl C code N' fp (.GeneratorExp elt [⟨tg,iter,ifs,0⟩] sc a) it o s H).A:=by
 have c:=r.hd
 have d:=r.dp
 have e:=r.un
 refine⟨c,?_,?_⟩
 .show X.A.depth+frameCount ([].map Frame.where_)+Code.weight _+3*k+5<_
  have:Code.weight (.compLoop (.GeneratorExp elt [⟨tg,iter,ifs,0⟩] sc a) 0 (.ref it) .none (genEnv sc cl C code builtinsNs X.env))<=1:=Nat.le_of_ble_eq_true rfl
  have b:frameCount (([]:List Frame).map Frame.where_)=0:=rfl
  rw[b]
  lia
 .show X.A.units+1+1+1+1+1+unitsOf ([].map Frame.where_)+Code.cUnits _+16*k+200<_
  have:Code.cUnits (.compLoop (.GeneratorExp elt [⟨tg,iter,ifs,0⟩] sc a) 0 (.ref it) .none (genEnv sc cl C code builtinsNs X.env))<=3:=Nat.le_of_ble_eq_true rfl
  have b:unitsOf (([]:List Frame).map Frame.where_)=0:=rfl
  rw[b]
  lia
theorem k_lc(m:Bool)(fr:List Nat)(xs ts:List Str){tg elt iter:Expr}{ifs:List Expr}{sc:Scope}{t:CT}{it:CI}{a:CBs}{b:CE}(hi:QI X tg iter (TIt (evI F it)))(rt:∀cl C fp s H,QG (compCx X sc cl C (xs++ts) fp s H) tg (TGt (asg F t)))(ri:∀cl C fp s H,QTl (compCx X sc cl C (xs++ts) fp s H) ifs (TB (tsts F a)))(re:∀cl C fp s H,QE (compCx X sc cl C (xs++ts) fp s H) elt (T (ev F b)))(c:X.calm=true:=by rfl)(d:∀x,foldedSetIterable iter X.env x=pure x:=by intro _;rfl)(h:cscB X.env.scope.names X.N sc fr xs ts=true:=by rfl):QE X (.ListComp elt [⟨tg,iter,ifs,0⟩] sc pos) (T (ev F (.lc m fr ts.length b t it a))):=by
 delta QE;delta QI at hi;delta QG at rt;delta QTl at ri;delta QE at re;exact(r_lc c hi d (ji h) ⟨rt,ri,re⟩)
theorem qdF(i:Nat)(m:Bool)(fr:List Nat)(xs ts:List Str){tg elt iter:Expr}{ifs:List Expr}{sc:Scope}{t:CT}{it:CI}{c:CBs}{d:CE}{y:Str}{e a:Pos}(hi:QI X tg iter (TIt (evI F it)))(rt:∀cl C fp s H,QG (compCx X sc cl C (xs++ts) fp s H) tg (TGt (asg F t)))(ri:∀cl C fp s H,QTl (compCx X sc cl C (xs++ts) fp s H) ifs (TB (tsts F c)))(re:∀cl C fp s H,QE (compCx X sc cl C (xs++ts) fp s H) elt (T (ev F d)))(f:X.calm=true:=by rfl)(j:∀x,foldedSetIterable iter X.env x=pure x:=by intro _;rfl)(h:cscB X.env.scope.names X.N sc fr xs ts=true:=by rfl)(l:nodupB X.N=true:=by rfl)(n:X.N[i]?=some y:=by rfl)(o:X.env.scope.names.lookup y=some .local:=by rfl)(b:swapsWith (.ListComp elt [⟨tg,iter,ifs,0⟩] sc pos) (some (.Name y e)) a.line X.env=pure true:=by rfl):
  QS X (.Assign [.Name y e] (.ListComp elt [⟨tg,iter,ifs,0⟩] sc pos) a) (TSm (ex F N (.set (.var i) (.lc m fr ts.length d t it c)))):=by
 delta QS;delta QI at hi;delta QG at rt;delta QTl at ri;delta QE at re;exact(qib f hi j (ji h) ⟨rt,ri,re⟩ (ze l) n o b)
theorem qi3(w:GW)(fr:List Nat)(xs ts:List Str){id:String}{f:Str}{p d:Pos}{tg elt iter:Expr}{ifs:List Expr}{sc:Scope}{k:Nat}{c T':Addr}{t:CT}{it:CI}{l:CBs}{m:CE}(n:Room k X.A)(q:GCall X w (.builtin id))(hm:X.mg f=none)(r:bootBuiltins f=some (.builtin id))(a:X.env.code=.ref c)(b:codeTab X.K c T'=true)(hi:PI X tg iter (TIt (evI F it)))(rt:∀cl C code fp it o s H,PG (genCx X sc cl C code (xs++ts) fp (.GeneratorExp elt [⟨tg,iter,ifs,0⟩] sc d) it o s H) tg (TGt (asg F t)))(ri:∀cl C code fp it o s H,PTl (genCx X sc cl C code (xs++ts) fp (.GeneratorExp elt [⟨tg,iter,ifs,0⟩] sc d) it o s H) ifs (TB (tsts F l)))(re:∀cl C code fp it o s H,PE (genCx X sc cl C code (xs++ts) fp (.GeneratorExp elt [⟨tg,iter,ifs,0⟩] sc d) it o s H) elt (T (ev F m)))(u:X.calm=true:=by rfl)(e:Gl X f:=by rfl)(hn:f≠"__name__":=by decide)(i:(f == ("__debug__":Str))=false:=by decide)(v:∀x,genFold iter X.env x=pure x:=by intro _;rfl)(h:cscB X.env.scope.names X.N sc fr xs ts=true:=by rfl)(hz:sc.names.lookup (".0":Str)=some NameKind.local:=by rfl)(j:sc.isCoroutine=false:=by rfl):PE X (.Call (.Name f p) [.GeneratorExp elt [⟨tg,iter,ifs,0⟩] sc d] [] pos) (T (ev F (.gen w fr ts.length m t it l))) :=
 qlK u n.depth q e hm r hn i hi v (ji h) hz j a b ⟨rt,ri,re⟩
theorem jY(fr:List Nat)(xs ts:List Str){p d:Pos}{tg elt iter:Expr}{ifs:List Expr}{sc:Scope}{k:Nat}{c T':Addr}{t:CT}{it:CI}{j:CBs}{l:CE}(e:Room k X.A)(gb:Gb X.mg)(a:X.env.code=.ref c)(b:codeTab X.K c T'=true)(hi:QI X tg iter (TIt (evI F it)))(rt:∀cl C code fp it o s H,QG (genCx X sc cl C code (xs++ts) fp (.GeneratorExp elt [⟨tg,iter,ifs,0⟩] sc d) it o s H) tg (TGt (asg F t)))(ri:∀cl C code fp it o s H,QTl (genCx X sc cl C code (xs++ts) fp (.GeneratorExp elt [⟨tg,iter,ifs,0⟩] sc d) it o s H) ifs (TB (tsts F j)))(re:∀cl C code fp it o s H,QE (genCx X sc cl C code (xs++ts) fp (.GeneratorExp elt [⟨tg,iter,ifs,0⟩] sc d) it o s H) elt (T (ev F l)))(m:X.calm=true:=by rfl)(f:Gl X "all":=by rfl)(n:∀x,genFold iter X.env x=pure x:=by intro _;rfl)(h:cscB X.env.scope.names X.N sc fr xs ts=true:=by rfl)(hz:sc.names.lookup (".0":Str)=some NameKind.local:=by rfl)(i:sc.isCoroutine=false:=by rfl):QE X (.Call (.Name "all" p) [.GeneratorExp elt [⟨tg,iter,ifs,0⟩] sc d] [] pos) (T (ev F (.gen .all fr ts.length l t it j))):=by
 delta QE;delta QI at hi;delta QG at rt;delta QTl at ri;delta QE at re;exact(qi3 .all fr xs ts e (qj4 m e.depth λ_=>e.hd) gb.all (by decide +kernel) a b hi rt ri re m f (by decide) (by decide) n h hz i)
theorem qj9(fr:List Nat)(xs ts:List Str){p d:Pos}{tg elt iter:Expr}{ifs:List Expr}{sc:Scope}{k:Nat}{c T':Addr}{t:CT}{it:CI}{j:CBs}{l:CE}(e:Room k X.A)(gb:Gb X.mg)(a:X.env.code=.ref c)(b:codeTab X.K c T'=true)(hi:QI X tg iter (TIt (evI F it)))(rt:∀cl C code fp it o s H,QG (genCx X sc cl C code (xs++ts) fp (.GeneratorExp elt [⟨tg,iter,ifs,0⟩] sc d) it o s H) tg (TGt (asg F t)))(ri:∀cl C code fp it o s H,QTl (genCx X sc cl C code (xs++ts) fp (.GeneratorExp elt [⟨tg,iter,ifs,0⟩] sc d) it o s H) ifs (TB (tsts F j)))(re:∀cl C code fp it o s H,QE (genCx X sc cl C code (xs++ts) fp (.GeneratorExp elt [⟨tg,iter,ifs,0⟩] sc d) it o s H) elt (T (ev F l)))(m:X.calm=true:=by rfl)(f:Gl X "sum":=by rfl)(n:∀x,genFold iter X.env x=pure x:=by intro _;rfl)(h:cscB X.env.scope.names X.N sc fr xs ts=true:=by rfl)(hz:sc.names.lookup (".0":Str)=some NameKind.local:=by rfl)(i:sc.isCoroutine=false:=by rfl):QE X (.Call (.Name "sum" p) [.GeneratorExp elt [⟨tg,iter,ifs,0⟩] sc d] [] pos) (T (ev F (.gen .sum fr ts.length l t it j))):=by
 delta QE;delta QI at hi;delta QG at rt;delta QTl at ri;delta QE at re;exact(qi3 .sum fr xs ts e (qfZ m e.depth λ_=>e.hd) gb.sum (by decide +kernel) a b hi rt ri re m f (by decide) (by decide) n h hz i)
end
structure FunT (K:PySem.W.Frag) (x:Str) (st:Stmt) (f:Addr) (fd:FuncData) (c T':Addr):Prop where
 ex:∃(oc:Value) (od:Option Addr) (kV doc pm:Value) (an:Option Addr) (ct:Value) (osl:Array (Option Value)),
  fd=PySem.W.fnOf x x (defArgs st) (defBody st) (defScope st) .none kV doc pm an (.ref c) ct/\K.lookup f=some ⟨oc,od,.func fd,osl⟩/\PySem.W.codeIn K (.ref c) x=true
 tab:codeTab K c T'=true
 kp:PySem.W.keepIn K (.ref f)=true
mutual
theorem Den.frz{ι:List Addr}{H:Hp}{S:Sr}{n:Nat}(st:Sto ι H S):∀(d:D) {d':D} {v:V},R.frz S n d=some d'->Den ι H d v->Den (ι.take n) H d' v
 | .non,d',v,e,h=>by cases e;exact h
 | .bl b,d',v,e,h=>by cases e;exact h
 | .int b,d',v,e,h=>by cases e;exact h
 | .str b,d',v,e,h=>by cases e;exact h
 | .emp,d',v,e,h=>by
  cases e
  obtain⟨a,e1,e2,e3⟩:=h
  exact⟨a,e1,λm=>e2 (vi m),e3⟩
 | .tup l,d',v,e,h=>by
  unfold R.frz at e
  cases z:R.frzs S n l with
  |none=>rw[z]at e;cases e
  |some l' =>
   rw[z]at e;cases e
   obtain⟨a,xs,e1,e2,e3,e4⟩:=h
   exact⟨a,xs,e1,λm=>e2 (vi m),e3,Dens.frz st l z e4⟩
 | .lst l,d',v,e,h=>by
  unfold R.frz at e
  cases z:R.frzs S n l with
  |none=>rw[z]at e;cases e
  |some l' =>
   rw[z]at e;cases e
   obtain⟨a,xs,e1,e2,e3,e4⟩:=h
   exact⟨a,xs,e1,λm=>e2 (vi m),e3,Dens.frz st l z e4⟩
 | .ref m,d',v,e,h=>by
  obtain⟨a,e1,e2⟩:=h
  unfold R.frz at e
  split at e
  .rename_i hm
   cases e
   exact⟨a,e1,by rw[List.getElem?_take];rw[wL hm];exact e2⟩
  .rename_i hm
   split at e
   .rename_i l hl
    split at e
    rotate_left
    .cases e
    rename_i f
    cases e
    obtain⟨_,xs,h1,h2⟩:=st.obj m a _ e2 hl
    refine⟨a,xs,e1,λhmem=>?_,.inl h1,Dens.less l f h2⟩
    obtain⟨i,hi,ei⟩:=List.mem_iff_getElem?.mp hmem |>.elim λi hi=>(⟨i,by
     have:=(wO.mp hi).1
     rw[vE]at this;lia,hi⟩:∃i,i<n/\(ι.take n)[i]?=some a)
    rw[List.getElem?_take,wL hi]at ei
    have hlt:=(wO.mp ei).1
    have:=(List.getElem?_inj hlt st.nd).mp (ei.trans e2.symm)
    lia
   .cases e
theorem Dens.frz{ι:List Addr}{H:Hp}{S:Sr}{n:Nat}(st:Sto ι H S):∀(ds:List D) {ds':List D} {xs:List V},R.frzs S n ds=some ds'->Dens ι H ds xs->Dens (ι.take n) H ds' xs
 |[],ds',xs,e,h=>by cases e;exact h
 |d::r,ds',xs,e,h=>by
  unfold R.frzs at e
  split at e
  .rename_i a b h1 h2
   cases e
   obtain⟨x,t,e1,e2,e3⟩:=h
   exact⟨x,t,e1,Den.frz st d h1 e2,Dens.frz st r h2 e3⟩
  .cases e
end
theorem qiq{F:Fs}{N:Nat}{c:CF}{ns ps:List Str}{vs:List V}{H:Hp}{Q:VK}(o:ps.length=c.np)(hn:ns.length=c.nn)(s:c.np<=c.nn)(h:SpD ps.length (callC F N c) vs H Q E0):TSm (exs F N c.body) {nx:=λ_ H'=>Q .non H',rt:=Q} (start ns vs) H:=by
 obtain⟨r,ι,S,ds,st,l,p⟩:=h
 have m:ds.length=c.np:=by rw[l.length,r,o]
 unfold callC at p
 rw[wL m]at p
 have u:EnR ι H (ds.map some++List.replicate (c.nn-c.np) none) (start ns vs):=by
  unfold L2.start
  have e1:ns.length-vs.length=c.nn-c.np:=by rw[hn,r,o]
  rw[e1]
  refine⟨by simp[l.length],λi d e=>?_⟩
  by_cases hi:i<ds.length
  .rw [w5 (by simpa using hi),w4,wD hi]at e
   cases e
   obtain⟨x,w,y⟩:=l.get (wD hi)
   refine⟨x,?_,y⟩
   rw[w5 (by rw[wP,<-l.length];exact hi),w4,w];rfl
  .rw [wn (by simpa using hi),uK]at e
   split at e <;> cases e
 refine⟨ι,S,_,u,st,?_⟩
 have lv:∀{d:D} {S1:Sr},Pst Den (leave c.keeps S.length d S1) ι H Q->∀a H',Stp ι H a H'->Sto a H' S1->∀v,Den a H' d v->Q v H':=by
  intro d S1 q a H' s1 b v j
  unfold leave at q
  split at q
  .exact q v a H' s1 b j
  .split at q
   .exact q v a H' s1 b j
   .split at q
    .rename_i A
     have e:=s1.take_eq
     have n:ι.length=S.length:=st.len
     refine q v (a.take S.length) H' (by rw[<-n];exact s1.less) (b.less _) (Den.less d A j)
    .split at q
     .rename_i d' hd
      have n:ι.length=S.length:=st.len
      exact q v (a.take S.length) H' (by rw[<-n];exact s1.less) (b.less _) (Den.frz b d hd j)
     .exact q.elim
 cases z:exs F N c.body (ds.map some++List.replicate (c.nn-c.np) none) S with
 |no=>rw[z]at p;exact p.elim
 |err=>rw[z]at p;exact p.elim
 |ok f S1 =>
  rw[z,Res.bind_ok]at p
  intro a H' s1 b
  cases f with
  |nx ρ=>exact λB _=>lv p a H' s1 b .non rfl
  |rt d=>exact λv j=>lv p a H' s1 b v j
  |bk ρ=>exact p.elim
  |ct ρ=>exact p.elim
end R
namespace R
open PySem PySem.Spec L2 SeqAt
open PyProof.Rows hiding St
noncomputable def isFields:Data->Bool
 | .fields _=>true
 |_=>false
noncomputable def plainK(K:PySem.W.Frag):Bool:=K.all λp=>p.2.cls != .type "list"&&!(p.2.cls == .none&&isFields p.2.data)
noncomputable def codesK(q:Program)(K:PySem.W.Frag):Bool:=K.all λp=>p.2.cls != .type "code" || (recsOf q).any λd=>match PySem.W.nsIn K mainGlobals d.name with
 |some (some (.ref a))=>(match K.lookup a with
  |some ⟨_,_,.func fd,_⟩=>fd.code == .ref p.1
  |_=>false)
 |_=>false
theorem zU:∀{K:PySem.W.Frag} {a:Addr} {o:Obj},K.lookup a=some o->(a,o)∈K
 |[],_,_,h=>by cases h
 | (b,u)::K,a,o,h=>by
  rw[vf]at h
  cases z:a == b with
  |true=>rw[z]at h;cases h;rw[uB.mp z];exact wH
  |false=>rw[z]at h;exact wI _ (zU h)
theorem qgm{K:PySem.W.Frag}(h:plainK K=true){a:Addr}{o:Obj}(e:K.lookup a=some o):o.cls≠.type "list"/\¬(o.cls=.none/\isFields o.data=true):=by
 unfold plainK at h
 rw[vU]at h
 have:=h _ (zU e)
 simp only[wV,bne_iff_ne,u3,Bool.and_eq_false_iff,vC]at this
 refine⟨this.1,λ⟨b,c⟩=>?_⟩
 rcases this.2 with z|z
 .exact z b
 .rw [c]at z;cases z
theorem jZ{K:PySem.W.Frag}{c t:Addr}(h:codeTab K c t=true):∃o vs,K.lookup c=some o/\o.cls=.type "code"/\o.data=.fields vs/\vs[11]?=some (.ref t):=by
 unfold codeTab at h
 split at h
 .rename_i cls d vs sl i
  simp only[wV,uB]at h
  obtain⟨e1,f⟩:=h
  split at f
  .rename_i a b p q r s x5 x6 u j e l v w m
   simp only[wV,uB,bne_iff_ne]at f
   obtain⟨⟨x,n⟩,ne⟩:=f
   subst n
   exact⟨_,vs,i,e1,rfl,e⟩
  .cases f
 .cases h
theorem qir{q:Program}{b:List Str}{i:ExcName->Option Value}{mg mb:Str->Option Value}{h:Heap}{K:PySem.W.Frag}(T:Top q b i mg mb h)(j:K.In h)(l:codesK q K=true){c t:Addr}(e:codeTab K c t=true):
  h.get? t=some {cls:=.none,data:=.fields #[]}/\isCodeTable h t:=by
 obtain⟨o,vs,m,cl,n,p⟩:=jZ e
 unfold codesK at l
 rw[vU]at l
 have:=l _ (zU m)
 simp only[Bool.or_eq_true,bne_iff_ne,vg]at this
 rcases this with z|⟨d,hd,hz⟩
 .exact absurd cl z
 .split at hz
  .rename_i a hn
   split at hz
   .rename_i oc od fd sl w
    have f:fd.code=.ref c:=by simpa using hz
    obtain⟨H,o',x,I,J,e1,y,A,r,L,B⟩:=T.tab d hd
    have C:=PySem.W.mg_of j T.g hn
    rw[C]at e1
    cases e1
    have:=j _ _ w
    rw[y]at this
    cases this
    cases A
    rw[f]at r
    cases r
    obtain⟨⟨E,M,s,N,u,v⟩,F⟩:=B
    have:=j _ _ m
    rw[s]at this
    cases this
    rw[n]at u
    cases u
    rw[p]at v
    cases v
    exact⟨F,c,_,_,s,cl,n,p⟩
   .cases hz
  .cases hz
noncomputable def tabOf(K:PySem.W.Frag)(b:Addr):Bool:=K.any λp=>codeTab K p.1 b
theorem qaE{K:PySem.W.Frag}{b:Addr}:tabOf K b=true ↔ ∃c,codeTab K c b=true:=by
 unfold tabOf
 rw[vg]
 constructor
 .rintro ⟨p,_,h⟩;exact⟨p.1,h⟩
 .rintro ⟨c,h⟩
  obtain⟨o,vs,a,_⟩:=jZ h
  exact⟨(c,o),zU a,h⟩
noncomputable def entryH(K:PySem.W.Frag)(a:Addr)(vs:List Value)(ns:List Int):Hp:=λb=>if b=a then some (.frz {cls:=.type "list",data:=.seq vs.toArray} (.lst (ns.map V.int)))else if tabOf K b=true then some (.tbl #[])else none
theorem qeN{P:Program}{w:World}{q:Program}{A:List Str}{J:ExcName->Option Value}{K:PySem.W.Frag}{mg mb:Str->Option Value}{k:Nat}{fa a:Addr}{fd:FuncData}{x:Str}{sp:Sp}{f:Shared}{vs:List Value}{ns:List Int}(T:Top q A J mg mb f.heap)(O:K.In f.heap)(hp:plainK K=true)(Q:codesK q K=true)(hg:f.gens=#[])(ha:f.heap.get? a=some {cls:=.type "list",data:=.seq vs.toArray})(hi:IntsAre vs ns)(hl:ns.length<=sizeLine)(hr:Room k callerA)(F:∀base:Heap,K.In base->base.Ns mainGlobals mg->FnOk P w K mg base CX0 k fa fd [x] sp)(B:∀(s:Shared) (u:Value),BindsTo s fd ⟨[u],[]⟩ [(x,u)])(R:∀H:Hp,H a=some (.frz {cls:=.type "list",data:=.seq vs.toArray} (.lst (ns.map V.int)))->sp [.ref a] H (λv _=>v=.bl true) λ_ _ _=>False):
  codeAny (model P w) callerA (.call (.ref fa) ⟨[.ref a],[]⟩) (λr s'=>r=.ok (.ret (.bool true))/\OldK f.heap s'.heap/\s'.os=f.os/\AllBare s'.gens) f:=by
 have rv:=vals_ints hi
 have I:∀{b:Addr},tabOf K b=true->f.heap.get? b=some {cls:=.none,data:=.fields #[]}/\isCodeTable f.heap b:=λ{b} h=>by
  obtain⟨c,e⟩:=qaE.mp h
  exact qir T O Q e
 have na:tabOf K a≠true:=λh=>by
  have:=(I h).1
  rw[ha]at this;cases this
 generalize S:entryH K a vs ns=H
 have U:H a=some (.frz {cls:=.type "list",data:=.seq vs.toArray} (.lst (ns.map V.int))):=by rw[<-S];unfold entryH;rw[wL rfl]
 have X:∀{b:Addr},tabOf K b=true->H b=some (.tbl #[]):=λ{b} h=>by
  rw[<-S];unfold entryH
  rw[wK (λ(z:b=a)=>na (by rw[<-z];exact h)),wL h]
 have j:∀{b:Addr} {u:HO},H b=some u->(b=a/\u=.frz {cls:=.type "list",data:=.seq vs.toArray} (.lst (ns.map V.int)))\/(tabOf K b=true/\u=.tbl #[]):=λ{b u} e=>by
  rw[<-S]at e;unfold entryH at e
  split at e
  .rename_i z;cases e;exact .inl ⟨z,rfl⟩
  .split at e
   .rename_i z;cases e;exact .inr ⟨z,rfl⟩
   .cases e
 have hok:HOk P w H f.heap:=λb u e=>by
  rcases j e with ⟨rfl,rfl⟩|⟨h,rfl⟩
  .exact ⟨ha,by rw[wP];exact hl,vs,_,rv,ha⟩
  .exact ⟨(I h).1,trivial⟩
 have i:∀{b:Addr} {o:Obj},f.heap.get? b=some o->H b=none->(hidT f.heap H).get? b=some o:=λe n=>qeZ e n
 have Y:∀{b:Addr} {o:Obj} {es:Array DictEntry} {ep:Nat},f.heap.get? b=some o->o.data=.dict es ep->H b=none:=λ{b o es ep} e d=>by
  cases z:H b with
  |none=>rfl
  |some u =>
   rcases j z with ⟨rfl,rfl⟩|⟨h,rfl⟩
   .rw [ha]at e;cases e;cases (show Data.seq vs.toArray _=Data.dict es ep from d)
   .rw [(I h).1]at e;cases e;cases (show Data.fields #[]=Data.dict es ep from d)
 have l:∀{b:Addr} {m:Str->Option Value},f.heap.Ns b m->(hidT f.heap H).Ns b m:=λ{b m} ⟨o,es,ep,e,d,r⟩=>⟨o,es,ep,i e (Y e d),d,r⟩
 have L:K.In (hidT f.heap H):=λb o e=>i (O b o e) (by
  cases z:H b with
  |none=>rfl
  |some u =>
   obtain⟨p1,p2⟩:=qgm hp e
   have N:=O b o e
   rcases j z with ⟨rfl,rfl⟩|⟨h,rfl⟩
   .rw [ha]at N;cases N;exact absurd rfl p1
   .rw [(I h).1]at N;cases N;exact absurd ⟨rfl,rfl⟩ p2)
 have bm:∃bm ob,mg "__builtins__"=some (.ref bm)/\bm≠builtinsNs/\(hidT f.heap H).get? bm=some ob/\ob.cls=.type "module"/\ob.dict=some builtinsNs/\ob.data=.plain:=by
  obtain⟨bm,ob,e1,C,E,M,e5,e6⟩:=T.bmain
  refine⟨bm,ob,e1,C,i E ?_,M,e5,e6⟩
  cases z:H bm with
  |none=>rfl
  |some u =>
   rcases j z with ⟨rfl,rfl⟩|⟨h,rfl⟩
   .rw [ha]at E;cases E;exact absurd (show Value.type "list"=Value.type "module" from M) (by decide)
   .rw [(I h).1]at E;cases E;exact absurd M (by decide)
 have hM:Mod K mg (hidT f.heap H):=⟨L,l T.g,⟨mb,l T.b,T.builtins⟩,(let ⟨mc,h1,h2⟩:=T.nolimit;⟨mc,l h1,h2⟩),bm⟩
 have e0:Env0 P w K mg (hidT f.heap H) callerA [] f H:=⟨rfl,hM,λb o e=>qht e,Nat.le_of_eq (qeh _ _),trivial,λb hb=>absurd (show b∈([]:List Addr)from hb) (by simp),hok,.of_eq hg,λc t z=>⟨_,X (qaE.mpr ⟨c,z⟩)⟩⟩
 refine ur ((F _ L (l T.g)).run callerA [] f H ⟨[.ref a],[]⟩ [.ref a] [.ref a] _ _ hr e0 (B f (.ref a)) (.cons rfl .nil) (R H U)) λr s' h=>?_
 cases r with
 |error e=>exact(show False from h).elim
 |ok fl =>
  cases fl with
  |next=>exact False.elim h
  |brk=>exact False.elim h
  |cont=>exact False.elim h
  |ret u =>
   obtain⟨v,H',os,bare,un,p,r',Z⟩:=h
   have Z:v=.bl true:=Z
   subst Z
   obtain rfl:u=Value.bool true:=r'
   have old:∀b o,f.heap.get? b=some o->asItWas f.heap s'.heap b o/\∃o',s'.heap.get? b=some o':=λb o e=>by
    cases z:H b with
    |none =>
     have:=un.keep b o e z (by intro y;exact absurd (show b∈([]:List Addr)from y) (by simp)) (by simp)
     exact⟨.inl this,_,this⟩
    |some u =>
     rcases j z with ⟨rfl,rfl⟩|⟨h,rfl⟩
     .have z2:=un.frzs _ _ _ z
      obtain⟨C,_⟩:=p _ _ z2
      rw[ha]at e;cases e
      exact⟨.inl C,_,C⟩
     .obtain ⟨more,z2⟩:=un.tbls _ _ z
      obtain⟨C,_⟩:=p _ _ z2
      obtain⟨E,M⟩:=I h
      rw[E]at e;cases e
      exact⟨.inr (.inl ⟨M,rfl,#[],more,rfl,C⟩),_,C⟩
   exact⟨rfl,⟨λb o e=>(old b o e).1,λb o e=>(old b o e).2⟩,os,bare.bare⟩
theorem qka{l:PySem.W.OpenLaw}{n k:Nat}{q:Program}{c:List Str}{M:(Str->Option Value)->Heap->Prop}{C:World->Heap->Prop}{d:DefRec}{K:Params->PySem.W.Frag}{x:Str}{g:List D->Sr->Res D}(hn:l.most=some n)(y:n<=sizeLine)(z:d.params.defaults=[])(N:Room k callerA)(O:∀(w:World) (h:Heap),C w h->(K w.params).In h)(Q:∀P,plainK (K P)=true)(A:∀P,codesK q (K P)=true)(F:∀(w:World) (mg:Str->Option Value) (m:Addr) (h:Heap),(K w.params).In h->h.Ns mainGlobals mg->mg d.name=some (.ref m) ->
   ∃fd:FuncData,(∀(s:Shared) (u:Value),BindsTo s fd ⟨[u],[]⟩ [(x,u)])/\∀base:Heap,(K w.params).In base->base.Ns mainGlobals mg->FnOk l.prog w (K w.params) mg base CX0 k m fd [x] (SpD 1 g))(R:∀ns:List Int,ns.length<=n->∃E,g [.lst (ns.map .int)] []=.ok (.bl true) E):
  PySem.W.WalkO q c M C l.row.toRowW d [] (λf vs=>PySem.call f vs):=by
 refine Att.attach_call hn z λw s₀ I mg mb m o pm cd doc a vs ns G Y ho hd J B j i b S=>?_
 have L:=O w _ Y
 obtain⟨fd,U,X⟩:=F w mg m _ L G.T.g B
 refine qeN G.T L (Q _) (A _) S j i (vK b y) N X U λH Z=>?_
 obtain⟨E,e⟩:=R ns b
 have dd:∀p:List Int,Dens [] H (p.map .int) (p.map V.int):=λp=>by
  induction p with
  |nil=>rfl
  |cons x r ih=>exact⟨_,_,rfl,rfl,ih⟩
 refine⟨rfl,[],[],[.lst (ns.map .int)],⟨rfl,.nil,λn a so e1 _=>by simp at e1⟩,⟨_,_,rfl,⟨a,ns.map V.int,rfl,by simp,.inr ⟨_,Z⟩,dd ns⟩,rfl⟩,?_⟩
 rw[e]
 exact λv a0 H' _ _ hv=>hv
end R
namespace R
open PySem PySem.Spec L2 SeqAt
open PyProof.Rows hiding St
theorem m2{k:Nat}{A:Around}(r:Room (k+2) A):Room k A:=r.mono (by lia)
theorem m1{k:Nat}{A:Around}(r:Room (k+1) A):Room k A:=r.mono (by lia)
theorem qkb:bootBuiltins "len"=some (.builtin "len"):=by decide +kernel
theorem qkc:bootBuiltins "min"=some (.builtin "min"):=by decide +kernel
theorem qkd:bootBuiltins "max"=some (.builtin "max"):=by decide +kernel
theorem qke:bootBuiltins "abs"=some (.builtin "abs"):=by decide +kernel
theorem qeO:bootBuiltins "divmod"=some (.builtin "divmod"):=by decide +kernel
theorem qaF:bootBuiltins "sorted"=some (.builtin "sorted"):=by decide +kernel
theorem qkf:bootBuiltins "all"=some (.builtin "all"):=by decide +kernel
theorem qgn:bootBuiltins "tuple"=some (.type "tuple"):=by decide +kernel
section
variable{X:Cx}{F:Fs}{pos p:Pos}{e:Expr}{es:List Expr}{cs:CEs}
theorem zu(gb:Gb X.mg)(ha:QA X (e::es) (TL (evs F cs)))(b:Gl X "len":=by rfl)(c:starEach (e::es) X.env=(false,eval e X.env)::starEach es X.env:=by rfl)(a:(backTo pos (starEach es X.env)).any (·.1)=false:=by rfl):QE X (.Call (.Name "len" p) (e::es) [] pos) (T (ev F (.blt .len cs))):=by
 delta QE;delta QA at ha;exact(jm .len qlu gb.len qkb ha b (by decide) (by decide) c a)
theorem qi4(gb:Gb X.mg)(ha:QA X (e::es) (TL (evs F cs)))(b:X.calm=true:=by rfl)(c:Gl X "min":=by rfl)(d:starEach (e::es) X.env=(false,eval e X.env)::starEach es X.env:=by rfl)(a:(backTo pos (starEach es X.env)).any (·.1)=false:=by rfl):QE X (.Call (.Name "min" p) (e::es) [] pos) (T (ev F (.blt .min2 cs))):=by
 delta QE;delta QA at ha;exact(jm .min2 (qlw b) gb.min qkc ha c (by decide) (by decide) d a)
theorem qlU(gb:Gb X.mg)(ha:QA X (e::es) (TL (evs F cs)))(b:X.calm=true:=by rfl)(c:Gl X "max":=by rfl)(d:starEach (e::es) X.env=(false,eval e X.env)::starEach es X.env:=by rfl)(a:(backTo pos (starEach es X.env)).any (·.1)=false:=by rfl):QE X (.Call (.Name "max" p) (e::es) [] pos) (T (ev F (.blt .max2 cs))):=by
 delta QE;delta QA at ha;exact(jm .max2 (qlx b) gb.max qkd ha c (by decide) (by decide) d a)
theorem qgo(gb:Gb X.mg)(ha:QA X (e::es) (TL (evs F cs)))(b:Gl X "abs":=by rfl)(c:starEach (e::es) X.env=(false,eval e X.env)::starEach es X.env:=by rfl)(a:(backTo pos (starEach es X.env)).any (·.1)=false:=by rfl):QE X (.Call (.Name "abs" p) (e::es) [] pos) (T (ev F (.blt .abs cs))):=by
 delta QE;delta QA at ha;exact(jm .abs qlv gb.abs qke ha b (by decide) (by decide) c a)
theorem qgp(gb:Gb X.mg)(ha:QA X (e::es) (TL (evs F cs)))(b:Gl X "divmod":=by rfl)(c:starEach (e::es) X.env=(false,eval e X.env)::starEach es X.env:=by rfl)(a:(backTo pos (starEach es X.env)).any (·.1)=false:=by rfl):QE X (.Call (.Name "divmod" p) (e::es) [] pos) (T (ev F (.blt .divmod cs))):=by
 delta QE;delta QA at ha;exact(jm .divmod qfM gb.divmod qeO ha b (by decide) (by decide) c a)
theorem qb2(m:Bool)(gb:Gb X.mg)(ha:QA X (e::es) (TL (evs F cs)))(b:X.calm=true:=by rfl)(c:Gl X "sorted":=by rfl)(d:starEach (e::es) X.env=(false,eval e X.env)::starEach es X.env:=by rfl)(a:(backTo pos (starEach es X.env)).any (·.1)=false:=by rfl):QE X (.Call (.Name "sorted" p) (e::es) [] pos) (T (ev F (.blt (.sorted m) cs))):=by
 delta QE;delta QA at ha;exact(jm (.sorted m) (qgi m b) gb.sorted qaF ha c (by decide) (by decide) d a)
theorem qlV(gb:Gb X.mg)(ha:QA X (e::es) (TL (evs F cs)))(b:X.calm=true:=by rfl)(c:Gl X "all":=by rfl)(d:starEach (e::es) X.env=(false,eval e X.env)::starEach es X.env:=by rfl)(a:(backTo pos (starEach es X.env)).any (·.1)=false:=by rfl):QE X (.Call (.Name "all" p) (e::es) [] pos) (T (ev F (.blt .all cs))):=by
 delta QE;delta QA at ha;exact(jm .all (qly b) gb.all qkf ha c (by decide) (by decide) d a)
theorem yv(gb:Gb X.mg)(ha:QA X (e::es) (TL (evs F cs)))(b:Gl X "tuple":=by rfl)(c:starEach (e::es) X.env=(false,eval e X.env)::starEach es X.env:=by rfl)(a:(backTo pos (starEach es X.env)).any (·.1)=false:=by rfl):QE X (.Call (.Name "tuple" p) (e::es) [] pos) (T (ev F (.blt .tuple cs))):=by
 delta QE;delta QA at ha;exact(qi1 .tuple qh4 gb.tuple qgn ha b (by decide) (by decide) c a)
end
end R
namespace R
open PySem PySem.Spec L2 SeqAt
open PyProof.Rows hiding St
theorem qz{P:Program}{w:World}{K:PySem.W.Frag}{mg:Str->Option Value}{base:Heap}{k N i:Nat}{F G:Fs}{x:Str}{st:Stmt}{f c T':Addr}{fd:FuncData}{a:CF}{ns ps:List Str}(U:FunT K x st f fd c T')(S:FnScope ns ps (defScope st))(e:ps.length=a.np)(hn:ns.length=a.nn)(b:a.np<=a.nn)(j:G i=callC F N a)(body:∀(A:Around) (outer:List Env) (s:Shared) (H:Hp) (E:XK),Room k (A.deeper (envOfC x (defScope st) s.heap.objs.size f (.ref c)))->QSs (cxOf CX0 P w K mg base ns x (defScope st) f (.ref c) A outer s H E).nox (defBody st) (TSm (exs F N a.body))):
  FnOk P w K mg base CX0 (k+1) f fd ps (SpD ps.length (G i)):=by
 obtain⟨oc,od,kV,doc,pm,an,ct,osl,rfl,l,d⟩:=U.ex
 refine qla l d S (λvs H Q E h=>h.1) λA outer s H vs Q E m h=>⟨_,(body A outer s H E m).un.nox,?_⟩
 rw[j]at h
 exact qiq e hn b h
theorem qA{P:Program}{w:World}{K:PySem.W.Frag}{mg:Str->Option Value}{base:Heap}{i:Nat}{G:Fs}{f:Addr}{fd:FuncData}{ps:List Str}(a:G i=λ_ _=>.no){k:Nat}:
  FnOk P w K mg base CX0 k f fd ps (SpD ps.length (G i)):=by
 refine⟨λvs H Q E h=>h.1,λA outer s H args us vs Q E _ _ _ _ h=>?_⟩
 obtain⟨_,ι,S,ds,_,_,p⟩:=h
 rw[a]at p
 exact p.elim
def DefIn(K:PySem.W.Frag)(mg:Str->Option Value)(x:Str)(st:Stmt)(ps:List Str):Prop:=∃(f:Addr) (fd:FuncData) (c t:Addr),mg x=some (.ref f)/\FunT K x st f fd c t/\Binds K fd ps []
theorem DefIn.fn{P:Program}{w:World}{K:PySem.W.Frag}{mg:Str->Option Value}{base:Heap}{k i:Nat}{F:Fs}{x:Str}{st:Stmt}{ps:List Str}(u:DefIn K mg x st ps)(h:∀f fd c t,FunT K x st f fd c t->FnOk P w K mg base CX0 k f fd ps (SpD ps.length (F i))):FnAt P w K mg base k F i x ps:=by
 obtain⟨f,fd,c,t,hm,U,a⟩:=u
 exact⟨f,fd,hm,U.kp,a,h f fd c t U⟩
theorem len0{us:List Value}(h:us.length=0):us=[]:=xB h
theorem lenS{us:List Value}{n:Nat}(h:us.length=n+1):∃a r,us=a::r/\r.length=n:=by
 cases us with
 |nil=>cases h
 |cons a r=>exact⟨a,r,rfl,Nat.succ.inj h⟩
theorem len1{us:List Value}(h:us.length=1):∃b,us=[b]:=by
 obtain⟨a,_,rfl,q⟩:=lenS h;cases len0 q;exact⟨a,rfl⟩
theorem len2{us:List Value}(h:us.length=2):∃b c,us=[b,c]:=by
 obtain⟨a,r,rfl,q⟩:=lenS h;obtain⟨d,rfl⟩:=len1 q;exact⟨a,d,rfl⟩
theorem len3{us:List Value}(h:us.length=3):∃b c d,us=[b,c,d]:=by
 obtain⟨a,r,rfl,q⟩:=lenS h;obtain⟨e,b1,rfl⟩:=len2 q;exact⟨a,e,b1,rfl⟩
noncomputable def tabIn(vs:Array Value)(c T':Addr):Bool:=match(vs.getD 11 Value.none:Value),(vs.getD 18 Value.none:Value),(vs.getD 7 Value.none:Value),(vs.getD 9 Value.none:Value),(vs.getD 10 Value.none:Value)with
  | .ref a,.str _ _,.int _ _,.bool _,.int _ _=>a == T'&&c != T'
  |_,_,_,_,_=>false
theorem qkg{K:PySem.W.Frag}{c t:Addr}{d:Option Addr}{vs:Array Value}{sl:Array (Option Value)}(e:K.lookup c=some ⟨.type "code",d,.fields vs,sl⟩)(b:vs[11]?=some (.ref t))(h:tabIn vs c t=true):codeTab K c t=true:=by
 unfold codeTab
 rw[e]
 simp only[b]
 unfold tabIn at h
 split at h
 .rename_i a m n o p x5 x6 e1 f i j l
  simp only[e1,f,i,j,l]
  simpa using h
 .cases h
theorem qp{K:PySem.W.Frag}{h:Heap}{mg:Str->Option Value}(X:K.In h)(G:h.Ns mainGlobals mg){x:Str}{st:Stmt}{ps:List Str}{f c t:Addr}{oc kV doc pm ct:Value}{od an:Option Addr}{osl:Array (Option Value)}{d2:Option Addr}{vs:Array Value}{b:Array (Option Value)}(a:PySem.W.nsIn K mainGlobals x=some (some (.ref f)))(l:K.lookup f=some ⟨oc,od,.func (PySem.W.fnOf x x (defArgs st) (defBody st) (defScope st) .none kV doc pm an (.ref c) ct),osl⟩)(i:PySem.W.codeIn K (.ref c) x=true)(j:K.lookup c=some ⟨.type "code",d2,.fields vs,b⟩)(d:vs[11]?=some (.ref t))(m:tabIn vs c t=true)(kp:PySem.W.keepIn K (.ref f)=true)(n:∀(kV doc pm:Value) (an:Option Addr) (e ct:Value) (us:List Value),us.length=ps.length->bindArgs (PySem.W.fnOf x x (defArgs st) (defBody st) (defScope st) .none kV doc pm an e ct) ⟨us,[]⟩=pure (ps.zip us)):DefIn K mg x st ps :=
 ⟨f,_,c,t,PySem.W.mg_of X G a,⟨⟨oc,od,kV,doc,pm,an,ct,osl,rfl,l,i⟩,qkg j d m,kp⟩,.all (n kV doc pm an (.ref c) ct)⟩
theorem j0{K:PySem.W.Frag}{h:Heap}{mg:Str->Option Value}(X:K.In h)(G:h.Ns mainGlobals mg){x:Str}{i:Int}{t:Tok}{v:Value}(a:PySem.W.nsIn K mainGlobals x=some (some v))(e:v=.int i t):∃t:Tok,mg x=some (.int i t):=⟨t,by rw[PySem.W.mg_of X G a,e]⟩
end R
namespace R
open PySem PySem.Spec L2 SeqAt
open PyProof.Rows hiding St
section
variable{X:Cx}{F:Fs}{N:Nat}{pos:Pos}
theorem qdG(i j:Nat){x y:Str}{a b:Expr}{d e:CE}{f m pt:Pos}{kt k2 pt2}(ha:QA X [a,b] (TL (evs F (.cons d (.cons e .nil)))))(C:X.calm=true:=by rfl)(E:nodupB X.N=true:=by rfl)(hi:X.N[i]?=some x:=by rfl)(I:X.N[j]?=some y:=by rfl)(n:i≠j:=by decide)(hx:X.env.scope.names.lookup x=some .local:=by rfl)(J:X.env.scope.names.lookup y=some .local:=by rfl)(K:swappedStores [.Tuple [.Name x f,.Name y m] kt pt] (.Tuple [a,b] k2 pt2) X.env=pure (some [x,y]):=by rfl)(o:swapsWithSole [.Tuple [.Name x f,.Name y m] kt pt] (.Tuple [a,b] k2 pt2) pos.line X.env=pure false:=by rfl):
  QS X (.Assign [.Tuple [.Name x f,.Name y m] kt pt] (.Tuple [a,b] k2 pt2) pos) (TSm (ex F N (.set (.tup (.cons (.var i) (.cons (.var j) .nil))) (.tup (.cons d (.cons e .nil)))))):=by
 delta QS;delta QA at ha
 refine PSimp (qjv C (ze E) hi I n hx J ha K o) λP Q H h=>?_
 obtain⟨ι,S,ρ,B,st,p⟩:=h
 refine⟨ι,S,ρ,B,st,?_⟩
 have c:∀{l S'},evs F (.cons d (.cons e .nil)) ρ S=.ok l S'->l.length=2:=λz=>qba z
 simp only[ex,ev]at p
 cases z:evs F (.cons d (.cons e .nil)) ρ S with
 |no=>rw[z]at p;exact p
 |err=>rw[z]at p;exact p
 |ok l S1 =>
  rw[z]at p
  have L:=c z
  match l,L with
  |[d1,d2],_ =>
   have o:([d1,d2]:List D).length<=sizeLine:=by simp[sizeLine]
   simp only[Res.bind,o,vd,asg,asgs]at p
   intro vs q M s1 s O
   obtain⟨v,r,rfl,u,w,R,rfl,A,rfl⟩:=O
   exact⟨v,w,rfl,p q M s1 s _ (((B.mono s1).set u).set A)⟩
end
end R
namespace R
open PySem PySem.Spec L2 SeqAt
open PyProof.Rows hiding St
open PySem.W (KasT kas_sort kas_cmp kas_item_eq kat_lt kat_kind KatTups KatLex kat_cons kat_yes kat_no kat_go kat_nil kat_one)
end R
namespace R
open PySem PySem.Spec L2 SeqAt
open PyProof.Rows hiding St
noncomputable def accL(us:Array Value)(c:Nat):Obj:={cls:=.type "list",dict:=none,data:=.seq us c,slots:=#[]}
section
variable{X:Cx}{sc:Scope}{cl:List (Str×Addr)}{C:Addr}{code:Value}{N':List Str}{fp:List Addr}{ge:Expr}{it a:Addr}{o:Obj}{s4:Shared}{H4:Hp}{J:It}{tn:Nat->Heap->Prop}{ds:List D}{gu:Sr->Prop}{g:D->En->Sr->Res En}{mt:En->Sr->Res Bool}{me:En->Sr->Res D}
theorem qis{R:Result->Shared->Prop}(hh:X.A.handled=none)(hd:X.A.depth<recursionLimit)(hg:∀h:Heap,h.get? a=some o->h.IsGen a s4.gens.size)(tk:∀i h h',tn i h->(∀b∈fp,∀o,h.get? b=some o->h'.get? b=some o)->tn i h'){p:Addr}(hp:s4.heap.objs.size<=p)(M:a≠p):∀(k i:Nat) (ρ:En) (l:List D) (xs:List V) (us:Array Value) (S:Sr) (ι:List Addr) (H:Hp) (s:Shared) (c:Nat) {d:D} {K:Sr},l.length<=sizeLine->ds.length<k+i->Dens ι H l xs->Vals xs us.toList ->
  Cs (genCx X sc cl C code N' fp ge it (a,o) s4 H4) J tn fp ds gu X.A.in4.in1 g mt me s4.gens.size k i ρ S ι H [(p,accL us c)] s->genLoopG gu g mt me (stepG .tuple) (finG .tuple) (ds.drop i) ρ (.tup l) S=.ok d K ->
  (∀j f H' z N n r c',d=.tup N->N.length<=sizeLine->Dens f H' N n->Vals n (Array.toList r)->Inv (genCx X sc cl C code N' fp ge it (a,o) s4 H4) [(p,accL r c')] j H' (z.setGen s4.gens.size .running)->GK s4.gens z.gens->Stp ι H f H'->Sto f H' K->R (.ok (.ret (.ref p))) z) ->
  codeAny (model X.prog X.w) X.A.in1.in1 (.builtin "list.extend.loop" ⟨[.ref p,.ref a,.ref p],[]⟩) R s:=by
 intro k
 induction k with
 |zero =>
  intro i ρ l xs us S ι H s c d K _ hk _ _ O _ _
  have:=O.sus.le
  lia
 |succ k ih =>
  intro i ρ l xs us S ι H s c d K hl hk P Q O e hR
  refine wa F.entry_extend_loop ?_
  rw[wZ F.plain_extend_loop]
  refine wA (m:=pyNext (.ref a)) (wpAny_of_in1 (qa2 (X:=genCx X sc cl C code N' fp ge it (a,o) s4 H4) (A:=X.A.in4) hh hd wH hg rfl rfl O (qcR e) (λS2 f H' j z L Iz U q st=>?_) λi' W v S2 f H' y u z L q dv ry Cz=>?_))
  .have q2:=zB e
   rw[L]at q2
   cases q2
   exact wC (hR j f H' z l xs us c rfl hl (Dens.mono q l P) Q Iz U q st)
  .have q2:=zB e
   have hi:=jc _ _ _ _ L
   rw[L]at q2
   simp only[gen1,stepG]at q2
   by_cases B:l.length<sizeLine
   .rw [wL B]at q2
    have E:z.heap.get? p=some (accL us c):=by
     obtain⟨σ,I,_⟩:=Cz.sus.inv
     exact(I.pin (p,accL us c) (wU _ (wM.mpr rfl))).1
    have hsz:us.size=l.length:=by rw[P.length,Q.length,wk]
    show wpAny _ _ (updateSeq p (·.push u) >>= _) _ _ _
    refine wA (vS E rfl (wC ⟨wo F.plain_extend_loop _,?_⟩) (by rw[hsz];exact hl) (by show(us.push u).size<=sizeLine+1;rw[Array.size_push,hsz];lia))
    refine ih i' W (l++[v]) (xs++[y]) (us.push u) S2 f H' _ _ (by rw[we,uV];lia) (by lia) ((Dens.mono q l P).snoc dv) ?_ (qa3 (t:=z.toks) Cz tk hp (λq hq=>?_) (λb x hb ex=>(wQ _ _ (Ne.symm hb)).trans ex) (w8 _ E rfl) λv z=>by cases z) q2 λY Z H2 z2 l2 x2 u2 c2 ec el d2 v2 I2 U s2 a0=>hR Y Z H2 z2 l2 x2 u2 c2 ec el d2 v2 I2 U (q.trans s2) a0
    .rw [xh]
     exact Vals.append Q (.cons ry .nil)
    .have a1:q=(a,o):=by
      have:q∈[(a,o)]:=hq
      simpa using this
     subst a1
     exact M
   .rw [wK B]at q2
    cases q2
end
section
variable{X:Cx}{pos gp:Pos}
theorem qkh(hc:X.calm=true)(hd:X.A.depth<recursionLimit)(hok:X.calm=true->X.A.handled=none):GCall X .tuple (.type "tuple"):=by
 intro pins s σ H ι a ds gu g mt me ρ S Q gh h
 obtain⟨sc,cl,C,code,N',fp,ge,it,o,Y,H4,J,tn,Z,cs,hf,tk,a0⟩:=gh
 obtain⟨d,S',e,q⟩:=qa4 h
 have hh:=(cs 0).sus.inv
 obtain⟨i,I,_⟩:=hh
 have ha:s.heap.get? a=some o:=(I.pin (a,o) (wc _ wH)).1
 have lt:Y.heap.objs.size<=s.heap.objs.size:=I.sz
 have B:a≠s.heap.objs.size:=wT (wF ha)
 have O:∀(Q2:List Value->Shared->Prop) (E:Value->Shared->Prop),(∀i j H' z K l c N,d=.tup K->K.length<=sizeLine->Dens j H' K l->Vals l (Array.toList c)->Inv (genCx X sc cl C code N' fp ge it (a,o) Y H4) [(s.heap.objs.size,accL c N)] i H' (z.setGen Y.gens.size .running)->GK Y.gens z.gens->Stp ι H j H'->Sto j H' S'->Q2 c.toList z) ->
   wpAny (model X.prog X.w) X.A.in1.in1 (collect (.ref a)) Q2 E s:=by
  intro Q2 E hQ
  unfold collect
  refine wA (xS (wa uw ?_))
  rw[wZ uv _]
  refine wA (m:=newList []) (wS (wC ⟨wo vo _,wa xg ?_⟩))
  rw[wZ vo _]
  have P:(s.heap.push {cls:=.type "list",data:=.seq ([]:List Value).toArray}).get? a=some o:=wB _ ha
  have R:({s with heap:=s.heap.push {cls:=.type "list",data:=.seq ([]:List Value).toArray}}:Shared).TypeIs (.ref a) "generator":=(Z _ P).typeIs
  show wpAny _ X.A.in1.in1.in1 (Builtin.List.listExtendWith (.ref s.heap.objs.size) (.ref a) (.ref s.heap.objs.size)) _ _ _
  unfold Builtin.List.listExtendWith
  refine wA (uR R ?_)
  have h1:Builtin.List.listSameRef (.ref s.heap.objs.size) (.ref a)=false:=by simp[Builtin.List.listSameRef,Ne.symm B]
  have h2:(Value.type "generator" == Value.type "list")=false:=by decide
  have h3:(Value.type "generator" == Value.type "tuple")=false:=by decide
  simp only[h1,h2,h3,Bool.or_false,wj,vc]
  refine wA (wpAny_pyIter_gen (Z _ P) ?_)
  refine wA (wm ?_)
  unfold Builtin.List.listLengthHint
  refine wA (xx R F.gen_no_len ?_)
  show wpAny _ X.A.in1.in1.in1 (specialOf (Value.ref a) (Str.ofString "__length_hint__") >>= _) _ _ _
  refine wA (xx R F.gen_no_hint ?_)
  refine wC ?_
  show wpAny _ X.A.in1.in1.in1 (rule "list.extend.makes-room" >>= λ_=>Builtin.List.listTouch (.ref s.heap.objs.size) >>= λ_ =>
   again (.builtin "list.extend.loop" ⟨[.ref s.heap.objs.size,.ref a,.ref s.heap.objs.size],[]⟩)) _ _ _
  refine wA (vb ?_)
  have n:(s.heap.push {cls:=.type "list",data:=.seq ([]:List Value).toArray}).get? s.heap.objs.size=some {cls:=.type "list",data:=.seq ([]:List Value).toArray}:=wE _ rfl
  refine wA ?_
  show wpAny _ X.A.in1.in1.in1 (updateSeq s.heap.objs.size (·.push .none) >>= λ_=>updateSeq s.heap.objs.size (·.pop)) _ _ _
  refine wA (vS n rfl ?_)
  have r:=w8 (Obj.mapSeq (·.push Value.none)) n rfl
  refine vS r rfl ?_
  have L:=w8 (Obj.mapSeq (·.pop)) r rfl
  refine wC ⟨wo F.plain_extend_loop _,?_⟩
  have C1:=qdw (t:=s.toks) (cs (ds.length+1)) tk hf (u:={cls:=.type "list",data:=.seq ([]:List Value).toArray}) (wE _ rfl) λv z=>by cases z
  have C2:=qa3 (t:=s.toks) C1 tk lt (λq hq=>by
   have a1:q=(a,o):=by
    have:q∈[(a,o)]:=hq
    simpa using this
   subst a1
   exact B) (λb x hb ex=>(wQ _ _ (Ne.symm hb)).trans ((wQ _ _ (Ne.symm hb)).trans ex)) L λv z=>by cases z
  refine qis (hok hc) hd Z tk (p:=s.heap.objs.size) lt B (ds.length+1) 0 ρ [] [] #[] S ι H _ _ (vH _) (by lia) rfl .nil C2 e λi j H' z K l c N ed el U vv Iz gk s1 M=>?_
  have a2:z.heap.get? s.heap.objs.size=some (accL c N):=(Iz.pin (s.heap.objs.size,accL c N) (wU _ (wM.mpr rfl))).1
  show wpAny _ _ (load s.heap.objs.size >>= _) _ _ z
  exact wA (wpAny_load a2 (wC (hQ i j H' z K l c N ed el U vv Iz gk s1 M)))
 have new:codeAny (model X.prog X.w) X.A.in1 (.call (.builtin "tuple.__new__") ⟨[.type "tuple",.ref a],[]⟩) (wants (λobj f=>f.TypeIs obj "tuple"/\EP X pins σ Q obj f) X.xe) s:=by
  refine ug (?_:wpAny _ X.A.in1.in1 (do checkBuiltinCall "tuple.__new__" ⟨[.type "tuple",.ref a],[]⟩;again (.builtin "tuple.__new__" ⟨[.type "tuple",.ref a],[]⟩)) _ _ s)
  refine wA (uI (F.newCall_tuple_1 _) (wC ⟨wo xf _,wa F.entry_tuple_new ?_⟩))
  rw[wZ xf]
  have k1:=sub_tuple_self
  have k2:=init_tuple_lookup
  have k3:=madeHere_tuple
  have R:s.TypeIs (.ref a) "generator":=(Z _ ha).typeIs
  wp_walk using uR R,O
  intro i j H' z K l c N ed el U vv Iz gk s1 M
  refine wA (m:=Builtin.Tuple.tupleExact c.toList.toArray) ?_
  unfold Builtin.Tuple.tupleExact
  have hsz:c.size=K.length:=by rw[U.length,vv.length,wk]
  refine wS (wC ?_) (by
   have:c.toList.toArray.size<=sizeLine:=by rw[xF,hsz];exact el
   exact this)
  have e2:c.toList.toArray=c:=xF ..
  rw[e2]
  subst ed
  have I2:=a0 _ i H' z Iz gk
  have W:H' z.heap.objs.size=none:=I2.hok.fresh (wG _)
  refine⟨⟨_,wE _ rfl,rfl⟩,.ref _,upd H' z.heap.objs.size (.tup l),I2.laid (t':=z.toks) (λb o e=>wB _ e) (wG _) ⟨?_,c.toList,vv,⟨_,wE _ rfl,rfl,0,by simp⟩,λo q=>by rw[wE _ rfl]at q;cases q;rfl⟩,rfl,qR M U (λv a3 H2 s2 a4 dv=>q v a3 H2 (s1.trans s2) a4 dv) _ W⟩
  rw[<-U.length]
  exact el
 refine callType_codes uq (F.typeCall_tuple_1 _) F.entry_object_init new λobj f y=>?_
 exact⟨y.1,F.args_object_init_2 obj _,object_init_meets uq.init.lookup uq.made (by decide) X.prog X.w X.A.in1 _ f ⟨y.1,rfl,y.2⟩⟩
theorem qit{p:Pos}{tg elt iter:Expr}{ifs:List Expr}{sc:Scope}{fr:List Nat}{xs ts:List Str}{mi:En->Sr->Res (List D×(Sr->Prop))}{g:D->En->Sr->Res En}{mt:En->Sr->Res Bool}{me:En->Sr->Res D}{c T':Addr}(m:X.calm=true)(b:X.A.depth<recursionLimit)(hok:X.calm=true->X.A.handled=none)(i:Gl X "tuple")(hm:X.mg "tuple"=none)(hi:PI X tg iter (TIg mi))(n:∀x,genFold iter X.env x=pure x)(o:CSc X sc fr xs ts)(hz:sc.names.lookup (".0":Str)=some NameKind.local)(j:sc.isCoroutine=false)(d:X.env.code=.ref c)(f:codeTab X.K c T'=true)(B:BlkG X sc (xs++ts) tg iter ifs elt gp g mt me):
  PE X (.Call (.Name "tuple" p) [.GeneratorExp elt [⟨tg,iter,ifs,0⟩] sc gp] [] pos) (T (mGenG .tuple fr ts.length mi g mt me)):=by
 intro pins s r H Q I u
 have w:bootBuiltins "tuple"=some (.type "tuple"):=by decide +kernel
 refine Call_ (zI I i hm w ?_ (by decide) (by decide))
 obtain⟨ι,S,ρ,y,st,h⟩:=u
 dsimp only[mGenG]at h
 cases z:mi ρ S with
 |no=>rw[z]at h;exact h.elim
 |err=>rw[z]at h;exact h.elim
 |ok C S1 =>
  obtain⟨ds,gu⟩:=C
  rw[z,Res.bind_ok]at h
  refine wi (e:=.GeneratorExp elt [⟨tg,iter,ifs,0⟩] sc gp) (rest:=[]) ?_ rfl rfl
  refine vw (thn (qbO m b hi n o hz j d f B I y st z) λv s' ⟨a,l,H',ev,q,E⟩=>?_)
  subst ev
  exact uZ (qkh m b hok pins s' r H' l a ds gu g mt me _ S1 Q E (Pst.from h q))
theorem qki{p:Pos}{tg elt iter:Expr}{ifs:List Expr}{sc:Scope}{fr:List Nat}{xs ts:List Str}{mi:En->Sr->Res (List D)}{g:D->En->Sr->Res En}{mt:En->Sr->Res Bool}{me:En->Sr->Res D}{c T':Addr}(h:X.calm=true)(a:X.A.depth<recursionLimit)(hok:X.calm=true->X.A.handled=none)(e:Gl X "tuple")(hm:X.mg "tuple"=none)(hi:PI X tg iter (TIt mi))(i:∀x,genFold iter X.env x=pure x)(j:CSc X sc fr xs ts)(hz:sc.names.lookup (".0":Str)=some NameKind.local)(f:sc.isCoroutine=false)(b:X.env.code=.ref c)(d:codeTab X.K c T'=true)(B:BlkG X sc (xs++ts) tg iter ifs elt gp g mt me):
  PE X (.Call (.Name "tuple" p) [.GeneratorExp elt [⟨tg,iter,ifs,0⟩] sc gp] [] pos) (T (mGen .tuple fr ts.length mi g mt me)):=by
 rw[<-qfY];exact qit h a hok e hm (pi_g hi) i j hz f b d B
end
section
variable{X:Cx}{F:Fs}{N:Nat}{pos:Pos}
theorem qb3(fr:List Nat)(xs ts:List Str){p d:Pos}{tg elt iter:Expr}{ifs:List Expr}{sc:Scope}{k:Nat}{c T':Addr}{t:CT}{it:CI}{i:CBs}{j:CE}(l:Room k X.A)(gb:Gb X.mg)(a:X.env.code=.ref c)(b:codeTab X.K c T'=true)(hi:QI X tg iter (TIt (evI F it)))(rt:∀cl C code fp it o s H,QG (genCx X sc cl C code (xs++ts) fp (.GeneratorExp elt [⟨tg,iter,ifs,0⟩] sc d) it o s H) tg (TGt (asg F t)))(ri:∀cl C code fp it o s H,QTl (genCx X sc cl C code (xs++ts) fp (.GeneratorExp elt [⟨tg,iter,ifs,0⟩] sc d) it o s H) ifs (TB (tsts F i)))(re:∀cl C code fp it o s H,QE (genCx X sc cl C code (xs++ts) fp (.GeneratorExp elt [⟨tg,iter,ifs,0⟩] sc d) it o s H) elt (T (ev F j)))(m:X.calm=true:=by rfl)(e:Gl X "tuple":=by rfl)(n:∀x,genFold iter X.env x=pure x:=by intro _;rfl)(h:cscB X.env.scope.names X.N sc fr xs ts=true:=by rfl)(hz:sc.names.lookup (".0":Str)=some NameKind.local:=by rfl)(f:sc.isCoroutine=false:=by rfl):QE X (.Call (.Name "tuple" p) [.GeneratorExp elt [⟨tg,iter,ifs,0⟩] sc d] [] pos) (T (ev F (.gen .tuple fr ts.length j t it i))):=by
 delta QE;delta QI at hi;delta QG at rt;delta QTl at ri;delta QE at re;exact(qki m l.depth (λ_=>l.hd) e gb.tuple hi n (ji h) hz f a b ⟨rt,ri,re⟩)
end
end R
namespace R
open PySem PySem.Spec L2 SeqAt
open PyProof.Rows hiding St
section
variable{X:Cx}{pos:Pos}
variable{F:Fs}
theorem qlW:QE X (.Dict [] [] pos) (T (ev F .dis)):=by
 delta QE;exact qlq
end
end R
namespace R
open PySem PySem.Spec L2 SeqAt
open PyProof.Rows hiding St
section
variable{X:Cx}{pos:Pos}{tg:Expr}
noncomputable def mX(m:En->Sr->Res D):En->Sr->Res (List D×(Sr->Prop)):=λρ S=>(m ρ S).bind λx S1=>match refX x S1 with
 |some p=>.ok p S1
 |none=>.no
theorem i_X{e:Expr}{m:En->Sr->Res D}(h:PE X e (T m)):PI X tg e (TIg (mX m)):=PIimp (qcO h) λr H R o=>by
 obtain⟨ι,S,ρ,q,st,p⟩:=o
 refine⟨ι,S,ρ,q,st,?_⟩
 dsimp only[mX]at p
 cases z:m ρ S with
 |no=>rw[z]at p;exact p
 |err=>rw[z]at p;exact p
 |ok d S1 =>
  rw[z,Res.bind_ok]at p
  intro v c f s1 b i
  cases d with
  |ref n =>
   obtain⟨a,rfl,ha⟩:=i
   cases zn:S1[n]? with
   |none=>simp only[refX,zn]at p
   |some so =>
    cases so with
    |lst l =>
     simp only[refX,zn]at p
     obtain⟨_,xs,hx,_⟩:=b.obj n a _ ha zn
     exact .inl ⟨a,rfl,⟨xs,.inl (.inl hx)⟩,p c f _ s1 b (qh7 ha)⟩
    |dic l=>simp only[refX,zn]at p
    |dis l=>simp only[refX,zn]at p
  |tup l =>
   obtain⟨a,xs,rfl,hn,ha,j⟩:=i
   exact .inr ⟨a,rfl,⟨xs,.inl (.inl ha)⟩,p c f _ s1 b (qfQ hn ha j).g⟩
  |lst l =>
   obtain⟨a,xs,rfl,hn,ha,j⟩:=i
   exact .inl ⟨a,rfl,⟨xs,.inl ha⟩,p c f _ s1 b (qfP hn ha j).g⟩
  |_=>exact p.elim
end
section
variable{X:Cx}{F:Fs}{N:Nat}{pos:Pos}
theorem qiu{w:GW}{fr:List Nat}{nt:Nat}{a c:CE}{t:CT}{b:CBs}:mGenG w fr nt (mX (ev F c)) (asg F t) (tsts F b) (ev F a)=ev F (.genX w fr nt a t c b):=by
 funext ρ S
 unfold mGenG mX
 simp only[ev]
 cases ev F c ρ S with
 |ok d S1 =>
  cases hr:refX d S1 <;> simp only[Res.bind,hr]
 |err=>rfl
 |no=>rfl
theorem qkj(w:GW)(fr:List Nat)(xs ts:List Str){id:String}{f:Str}{p d:Pos}{tg elt iter:Expr}{ifs:List Expr}{sc:Scope}{k:Nat}{c T':Addr}{t:CT}{l:CE}{m:CBs}{n:CE}(q:Room k X.A)(r:GCall X w (.builtin id))(hm:X.mg f=none)(u:bootBuiltins f=some (.builtin id))(a:X.env.code=.ref c)(b:codeTab X.K c T'=true)(hi:PE X iter (T (ev F l)))(rt:∀cl C code fp it o s H,PG (genCx X sc cl C code (xs++ts) fp (.GeneratorExp elt [⟨tg,iter,ifs,0⟩] sc d) it o s H) tg (TGt (asg F t)))(ri:∀cl C code fp it o s H,PTl (genCx X sc cl C code (xs++ts) fp (.GeneratorExp elt [⟨tg,iter,ifs,0⟩] sc d) it o s H) ifs (TB (tsts F m)))(re:∀cl C code fp it o s H,PE (genCx X sc cl C code (xs++ts) fp (.GeneratorExp elt [⟨tg,iter,ifs,0⟩] sc d) it o s H) elt (T (ev F n)))(v:X.calm=true:=by rfl)(e:Gl X f:=by rfl)(hn:f≠"__name__":=by decide)(i:(f == ("__debug__":Str))=false:=by decide)(y:∀x,genFold iter X.env x=pure x:=by intro _;rfl)(h:cscB X.env.scope.names X.N sc fr xs ts=true:=by rfl)(hz:sc.names.lookup (".0":Str)=some NameKind.local:=by rfl)(j:sc.isCoroutine=false:=by rfl):PE X (.Call (.Name f p) [.GeneratorExp elt [⟨tg,iter,ifs,0⟩] sc d] [] pos) (T (ev F (.genX w fr ts.length n t l m))):=by
 rw[<-qiu]
 exact qf0 v q.depth r e hm u hn i (i_X hi) y (ji h) hz j a b ⟨rt,ri,re⟩
theorem qiv(fr:List Nat)(xs ts:List Str){p d:Pos}{tg elt iter:Expr}{ifs:List Expr}{sc:Scope}{k:Nat}{c T':Addr}{t:CT}{j:CE}{l:CBs}{m:CE}(e:Room k X.A)(gb:Gb X.mg)(a:X.env.code=.ref c)(b:codeTab X.K c T'=true)(hi:QE X iter (T (ev F j)))(rt:∀cl C code fp it o s H,QG (genCx X sc cl C code (xs++ts) fp (.GeneratorExp elt [⟨tg,iter,ifs,0⟩] sc d) it o s H) tg (TGt (asg F t)))(ri:∀cl C code fp it o s H,QTl (genCx X sc cl C code (xs++ts) fp (.GeneratorExp elt [⟨tg,iter,ifs,0⟩] sc d) it o s H) ifs (TB (tsts F l)))(re:∀cl C code fp it o s H,QE (genCx X sc cl C code (xs++ts) fp (.GeneratorExp elt [⟨tg,iter,ifs,0⟩] sc d) it o s H) elt (T (ev F m)))(n:X.calm=true:=by rfl)(f:Gl X "sum":=by rfl)(q:∀x,genFold iter X.env x=pure x:=by intro _;rfl)(h:cscB X.env.scope.names X.N sc fr xs ts=true:=by rfl)(hz:sc.names.lookup (".0":Str)=some NameKind.local:=by rfl)(i:sc.isCoroutine=false:=by rfl):QE X (.Call (.Name "sum" p) [.GeneratorExp elt [⟨tg,iter,ifs,0⟩] sc d] [] pos) (T (ev F (.genX .sum fr ts.length m t j l))):=by
 delta QE;delta QE at hi;delta QG at rt;delta QTl at ri;delta QE at re;exact(qkj .sum fr xs ts e (qfZ n e.depth λ_=>e.hd) gb.sum (by decide +kernel) a b hi rt ri re n f (by decide) (by decide) q h hz i)
end
end R
namespace R
open PySem PySem.Spec L2 SeqAt
open PyProof.Rows hiding St
end R
namespace R
open PySem PySem.Spec L2 SeqAt
open PyProof.Rows hiding St
section
variable{X:Cx}{F:Fs}{N:Nat}{pos:Pos}
theorem qkk(i:Nat){x:Str}(a:nodupB X.N=true:=by rfl)(hi:X.N[i]?=some x:=by rfl)(hx:Loc X.env.scope x:=by first|exact Or.inl rfl|exact Or.inr rfl)(b:X.fn x=true\/X.env.scope.names.lookup x=some .local:=by first|exact .inl rfl|exact .inr rfl):PG X (.Name x pos) (gName i):=qda (ze a) hi hx b
end
end R
namespace R
open PySem PySem.Spec L2 SeqAt
open PyProof.Rows hiding St
theorem qdH:∀(l:List Int) (i:Nat),(l.map V.int).eraseIdx i=(l.eraseIdx i).map V.int
 |[],_=>by simp
 |a::r,0=>by simp
 |a::r,i+1=>by simp[qdH r i]
theorem qgq(k:Int):∀ns:List Int,ns.eraseIdx (ns.idxOf k)=ns.erase k
 |[]=>by simp
 |a::r=>by
  rw[List.idxOf_cons,List.erase_cons]
  by_cases h:a=k
  .subst h;simp
  .have b:(a == k)=false:=by simpa using h
   rw[b]
   simp[qgq k r]
noncomputable def eqK(k:Int):Value->Bool
 | .int i _=>i == k
 |_=>false
def rRemove:V->List V->Hp->VK->Prop:=λx vs H Q=>∃(l:Addr) (ns:List Int) (k:Int),x=.ref l/\vs=[.int k]/\H l=some (.lst (ns.map .int))/\k∈ns/\Q .non (upd H l (.lst ((ns.erase k).map .int)))
theorem qeP{X:Cx}:MtM X "list.remove" rRemove:=by
 intro pins s M H x vs v us Q I rx E h
 obtain⟨l,ns,k,rfl,rfl,o,A,q⟩:=h
 cases rx
 obtain⟨u,rfl,J⟩:=E.one
 obtain⟨t,rfl⟩:=J
 obtain⟨z,its,n,r,c,e⟩:=I.lstM o
 have at':∀i (hi:i<its.length),∃t,its[i]=.int (ns[i]'(by rw[<-c,wP]at hi;exact hi)) t:=λi hi=>by
  have d:i<ns.length:=by rw[<-c,wP]at hi;exact hi
  obtain⟨w,B,f⟩:=r.get (show(ns.map V.int)[i]?=some (.int ns[i]) by rw[w4,wD d];rfl)
  rw[wD hi]at B
  cases B
  exact f
 have K:ns.idxOf k<ns.length:=List.idxOf_lt_length_of_mem A
 have a:ns.idxOf k<its.length:=by rw[<-c,wP];exact K
 refine gB F.slot_list_remove ⟨_,e,rfl⟩ F.entry_list_remove (F.args_list_remove_2 _ _)
  (MeetsSeq.list_remove l its.toArray n (.int k t) (eqK k) (λy C=>?_) (ns.idxOf k) (by rw[wJ];exact a) ?_ (λm hm j=>?_) (by rw[wJ];lia)) ⟨e,?_⟩
 .rw [List.mem_toArray]at C
  obtain⟨i,hi,L⟩:=v5 C
  obtain⟨t',b⟩:=at' i hi
  rw[<-L,b]
  exact MeetsSeq.EqGives.int _ _ _ _
 .obtain ⟨t',b⟩:=at' _ a
  rw[gD,b]
  show(ns[ns.idxOf k] == k)=true
  rw[List.getElem_idxOf];simp
 .rw [wJ]at hm
  obtain⟨t',b⟩:=at' m hm
  rw[gD,b]
  exact List.not_of_lt_findIdx (xs:=ns) (p:=(· == k)) j
 refine⟨.non,_,I.lset (its':=its.eraseIdx (ns.idxOf k)) o e ?_ (by rw[<-qgq,<-qdH];exact r.eraseIdx _) ?_,rfl,q⟩
 .show its.toArray.eraseIdxIfInBounds _=(its.eraseIdx _).toArray
  rw[List.eraseIdxIfInBounds_toArray]
 .have:=xa A
  rw[wP]at c ⊢
  lia
theorem qaG{ι:List Addr}{H:Hp}:∀m:List Int,Dens ι H (m.map .int) (m.map .int)
 |[]=>rfl
 |a::r=>⟨_,_,rfl,rfl,qaG r⟩
theorem refsZ:∀m:List Int,refsLts 0 (m.map .int)=true
 |[]=>rfl
 |a::r=>by rw[wR,refsLts,refsZ r];rfl
theorem qlX{ι:List Addr}{S:Sr}{x y:D}{v u:V}{H:Hp}{Q:VK}(st:Sto ι H S)(hx:Den ι H x v)(d:Den ι H y u)(p:Pst Den (remD S x y) ι H Q):rRemove v [u] H Q:=by
 unfold remD at p
 split at p
 .rename_i n k
  split at p
  .rename_i l e
   split at p
   .rename_i ns b
    split at p
    .rename_i f
     obtain⟨a,rfl,ha⟩:=hx
     cases (show u=_ from d)
     obtain⟨_,xs,h,i⟩:=st.obj n a _ ha e
     cases intsOf_eq b
     cases dens_ints i
     obtain⟨g,c⟩:=ju st ha (qL _ (refsZ (ns.erase k))) (qaG (ns.erase k))
     exact⟨a,ns,k,rfl,rfl,h,f,p .non ι _ g c rfl⟩
    .exact p.elim
   .exact p.elim
  .exact p.elim
 .exact p.elim
section
variable{X:Cx}{F:Fs}{pos:Pos}
theorem qlY{o e:Expr}{co i:CE}{b:Pos}(j:QE X o (T (ev F co)))(l:QE X e (T (ev F i)))(h:starEach [e] X.env=(false,eval e X.env)::starEach [] X.env:=by rfl)(c:attributeBase o "remove" X.env (eval o X.env)=eval o X.env:=by rfl)(d:(b.endLine == pos.line)=true:=by rfl)(f:((backTo pos (starEach [e] X.env)).all (λx=>!x.1)&&(backToKw pos (keywordEach [] X.env)).all (λx=>x.1.isSome)&&decide ([e].length+([]:List Keyword).length+(if([]:List Keyword).isEmpty then 0 else 1)<30))=true:=by rfl)(a:(backTo pos (starEach [] X.env)).any (·.1)=false:=by rfl):QE X (.Call (.Attribute o "remove" b) [e] [] pos) (T (ev F (.rem co i))):=by
 delta QE;delta QE at j;delta QE at l;exact(qcN PySem.F.slot_list_remove PySem.F.type_list_remove qeP (λι S x y v u H Q st hx m p=>qlX st hx m p) j l h c d f a)
end
end R
namespace R
open PySem PySem.Spec L2 SeqAt
open PyProof.Rows hiding St
theorem qdI{ι:List Addr}{H:Hp}{S:Sr}{x y d:D}{v u:V}(st:Sto ι H S)(e:idkD S x y=some d)(hx:Den ι H x v)(b:Den ι H y u):∃a w,v=.ref a/\DGet H a u (some w)/\Den ι H d w:=by
 unfold idkD at e
 split at e
 .rename_i n
  split at e
  .rename_i l c
   cases z:keyD y with
   |none=>rw[z]at e;cases e
   |some k =>
    rw[z,wW]at e
    obtain⟨a,rfl,ha⟩:=hx
    obtain⟨_,kvs,h,i⟩:=st.obj n a _ ha c
    obtain⟨w,e1,j⟩:=jN (f:=id) Iff.rfl i e
    cases key_den z b
    refine⟨a,w,rfl,?_,j⟩
    have:=DGet.k (k:=k) h
    rw[show valV kvs k=some w from e1]at this
    exact this
  .cases e
 .cases e
section
variable{X:Cx}{pos:Pos}
theorem qlZ{a b:Expr}{j mb:En->Sr->Res D}(l:X.A.units+1<cLine)(ha:PE X a (T j))(m:PE X b (T mb))(n:PlainIx b):
  PE X (.Subscript a b pos) (T λρ S=>(j ρ S).bind λx S1=>(mb ρ S1).bind λy S2=>ofO (idkD S2 x y) S2) :=
 PEimp (qiV (qdr l) ha m n) λB H Q o=>by
  refine TG.b1 o λι S ρ a b C r st s p=>Pst.tg p r st λE S2 h H2 b2 s2 u f i v=>?_
  obtain⟨d,e,q⟩:=Pst.ofO v f
  obtain⟨c,w,e1,g,z⟩:=qdI f e (Den.mono s2 a s) i
  exact⟨c,w,e1,g,q w h H2 (Stp.refl _ _) f z⟩
def dGet:V->V->Hp->VK->Prop:=λo i H Q=>∃a v,o=.ref a/\DGet H a i (some v)/\Q v H
theorem qgr(c:X.A.units+1<cLine):PGet X dGet:=by
 intro pins s j H o i d l Q I e ri h
 obtain⟨a,v,rfl,g,q⟩:=h
 obtain rfl:d=Value.ref a:=e
 exact qaw c I g ri λm s' f b=>⟨v,H,f,b,q⟩
theorem qkl{o i e:Expr}{mo mi me:En->Sr->Res D}{d:Pos}(L:X.A.units+1<cLine)(N:PE X o (T mo))(hi:PE X i (T mi))(O:PE X e (T me))(ha:∀m n new,augStore i m n new=(do holding [new,m,n] (setItem m n new);release [new,m,n] [];pure .next)):
  PS X (.AugAssign (.Subscript o i d) .Add e pos) (TSm λρ S=>(mo ρ S).bind λx S1=>(mi ρ S1).bind λy S2=>match idkD S2 x y with
  |some (.int a)=>(me ρ S2).bind λz q=>match z with
   | .int b=>match putE q x y (.int (a+b))with
    |some r=>.ok (.nx ρ) r
    |none=>.no
   |_=>.no
  |_=>.no):=PSimp (qhA N hi (qgr L) O qjw (qds L) ha) λD P H Q=>by
 obtain⟨ι,S,ρ,s,st,p⟩:=Q
 refine⟨ι,S,ρ,s,st,PsF.bind p λx S1 u H1 vx s1 v rx R=>?_⟩
 refine⟨u,S1,ρ,s.mono s1,v,PsF.bind R λy S2 B H2 vy s2 f M C=>?_⟩
 have h:=(s.mono s1).mono s2
 have j:=Den.mono s2 x rx
 split at C
 .rename_i a U
  obtain⟨c,w,e1,g,W⟩:=qdI f U j M
  cases (show w=_ from W)
  refine⟨c,.int a,e1,g,B,S2,ρ,h,f,PsF.bind C λz q E H3 Y F I Z l=>?_⟩
  split at l
  .rename_i b
   cases (show Y=_ from Z)
   split at l
   .rename_i r e4
    exact⟨a,b,rfl,rfl,E,q,x,y,.int (a+b),r,I,Den.mono F x j,Den.mono F y M,rfl,e4,λJ H' s' K=>l J H' s' K P ((h.mono F).mono s')⟩
   .exact l.elim
  .exact l.elim
 .exact C.elim
end
section
variable{X:Cx}{F:Fs}{N:Nat}{pos:Pos}
theorem qgs{k:Nat}{a b:Expr}{c d:CE}(f:Room k X.A)(ha:QE X a (T (ev F c)))(e:QE X b (T (ev F d)))(h:PlainIx b:=by exact λ_ _=>rfl):QE X (.Subscript a b pos) (T (ev F (.idk c d))):=by
 delta QE;delta QE at ha;delta QE at e;exact(qlZ (qdi f) ha e h)
theorem qkm{k:Nat}{o i e:Expr}{co d f:CE}{a:Pos}(l:Room k X.A)(h:QE X o (T (ev F co)))(hi:QE X i (T (ev F d)))(j:QE X e (T (ev F f)))(ha:∀b c new,augStore i b c new=(do holding [new,b,c] (setItem b c new);release [new,b,c] [];pure .next):=by intros;rfl):QS X (.AugAssign (.Subscript o i a) .Add e pos) (TSm (ex F N (.augK co d f))):=by
 delta QS;delta QE at h;delta QE at hi;delta QE at j;exact(qkl (qdi l) h hi j ha)
end
end R
namespace R
open PySem PySem.Spec L2 SeqAt
open PyProof.Rows hiding St
noncomputable def dcKV(d:Int)(ns:List Int):List (Key×V):=ns.foldl (λl k=>putK l (.inl k:Key) (.int d)) []
theorem qeQ(d:Int)(ns:List Int)(k:Int):dcKV d (ns++[k])=putK (dcKV d ns) (.inl k) (.int d):=by simp[dcKV]
theorem qb4{ι:List Addr}{H:Hp}(d:Int):∀(ns:List Int) (l:List (Key×D)) (kvs:List (Key×V)),DGs id ι H l kvs->DGs id ι H (ns.foldl (λl k=>putT (.inl k:Key) (.int d) l) l) (ns.foldl (λl k=>putK l (.inl k:Key) (.int d)) kvs)
 |[],_,_,h=>h
 |k::r,l,kvs,h=>qb4 d r _ _ (jt (f:=id) Iff.rfl (d:=.int d) (v:=.int d) rfl h)
theorem qiw{ι:List Addr}{H:Hp}(d:Int)(ns:List Int):DGs id ι H (dcKL d ns) (dcKV d ns):=qb4 d ns [] [] rfl
theorem qgt(d:Int)(ns:List Int):refsLts 0 ((dcKL d ns).map (·.2))=true:=by
 have:∀(ns:List Int) (l:List (Key×D)),refsLts 0 (l.map (·.2))=true->refsLts 0 ((ns.foldl (λl k=>putT (.inl k:Key) (.int d) l) l).map (·.2))=true:=by
  intro ns
  induction ns with
  |nil=>exact λl h=>h
  |cons k r a=>exact λl h=>a _ (yR rfl h)
 exact this ns [] rfl
theorem qgu(d:Int)(ns:List Int):(dcKV d ns).length<=ns.length:=by
 have:∀(ns:List Int) (l:List (Key×V)),(ns.foldl (λl k=>putK l (.inl k:Key) (.int d)) l).length<=l.length+ns.length:=by
  intro ns
  induction ns with
  |nil=>exact λl=>wG _
  |cons k r a =>
   intro l
   have b:=a (putK l (.inl k) (.int d))
   have c:=zg l (.inl k:Key) (V.int d)
   rw[v9,wX]
   lia
 have:=this ns []
 simpa[dcKV]using this
structure SrcI (J:It) (H0:Hp) (xs:List V):Prop where
 go:∀(D:Addr) (o:HO),H0 D=none->∀(i:Nat) (x:V),xs[i]?=some x->J.go i (upd H0 D o)/\∀y H3,J.yld i (upd H0 D o) y H3->H3=upd H0 D o/\y=x
 stop:∀(D:Addr) (o:HO),H0 D=none->J.stop xs.length (upd H0 D o)
theorem qbc{H0:Hp}{a D:Addr}{u o:HO}(h:Rd H0 a u)(c:H0 D=none):Rd (upd H0 D o) a u:=by
 have b:a≠D:=λz=>by
  rcases h with h|⟨_,h⟩ <;> (rw[z,c]at h;cases h)
 rcases h with h|⟨ob,h⟩
 .exact .inl (by rw[qj b];exact h)
 .exact .inr ⟨ob,by rw[qj b];exact h⟩
theorem srcL{K:PySem.W.Frag}{H0:Hp}{a:Addr}{xs:List V}(h:Rd H0 a (.lst xs)):SrcI (Itl K a) H0 xs where
 go:=λD o b i x e=>by
  have r:=qbc (o:=o) h b
  refine⟨⟨xs,x,.inl r,e⟩,λy H3 c=>⟨c.1,?_⟩⟩
  have:=c.2 xs (.inl r)
  rw[e]at this;cases this;rfl
 stop:=λD o b=>⟨xs,.inl (qbc h b),wG _⟩
theorem srcT{K:PySem.W.Frag}{H0:Hp}{a:Addr}{xs:List V}(h:H0 a=some (.tup xs)):SrcI (Itt K a) H0 xs where
 go:=λD o b i x e=>by
  have r:=qbc (o:=o) (.inl h) b
  refine⟨⟨xs,x,.inl r,e⟩,λy H3 c=>⟨c.1,?_⟩⟩
  have:=c.2 xs (.inl r)
  rw[e]at this;cases this;rfl
 stop:=λD o b=>⟨xs,.inl (qbc (.inl h) b),wG _⟩
noncomputable def mDck(a:Int)(m:En->Sr->Res D):En->Sr->Res D:=λρ S=>(m ρ S).bind λx S1=>match refX x S1 with
 |some p=>match intsOf p.1 with
  |some ns=>if ns.length<1000 then .ok (.ref S1.length) (S1++[.dis (dcKL a ns)])else .no
  |none=>.no
 |none=>.no
section
variable{X:Cx}{pos:Pos}
theorem qeR{A:Around}{E:Value->Shared->Prop}{pins:List (Addr×Obj)}{d:St}{H:Hp}{s:Shared}{a:Addr}{kvs:List (Key×V)}{k:Key}{v:V}{u r:Value}{Q:Unit->Shared->Prop}(I:Inv X pins d H s)(e:H a=some (.dK kvs))(l:kvs.length<sizeLine)(f:RelV (kV k) u)(i:RelV v r)(h:∀s',Inv X pins d (upd H a (.dK (putK kvs k v))) s'->Q () s'):
  wpAny (model X.prog X.w) A (dictSet a u r) Q E s:=by
 obtain⟨z,hd,vs,b,j⟩:=qiX I.hok e
 have hz:vs.length<=sizeLine:=by rw[<-b.length];exact z
 have m:(putK kvs k v).length<=sizeLine:=by have:=zg kvs k v;lia
 refine wpAny_dictSet_pairs (hsz:=hz) (qdf f) j λh' c n=>h _ ?_
 have o:∃q,h'.get? a=some q:=let ⟨q,_,_,p,_⟩:=c;⟨q,p⟩
 exact qaS I (by rw[e];exact True.intro) n o (qfj m hd (b.put k i) c)
theorem qgv{t:Str}{L kp N:Pos}{O:Nat}{a:Int}{iter:Expr}{sc:Scope}{J:It}{fp:List Addr}{it c:Addr}{tn:Nat->Heap->Prop}{R:Result->Shared->Prop}{ns:List Int}(m:X.xe=λ_ _=>False)(hc:X.calm=true)(P:X.ex=fp)(Q:X.pn=[])(T':Turn X.prog X.w X.K (.Name t L) J fp it tn)(hg:PG X (.Name t L) (gName 0))(hk:PE X (.Name t kp) (tVar 0)){H0:Hp}{S:St}{s:Shared}(q:H0 c=none)(hJ:SrcI J H0 (ns.map V.int))(hl:ns.length<=1000)(I:Inv X [] S (upd H0 c (.dK [])) s)(h0:tn 0 s.heap)(U:∀b∈fp,upd H0 c (.dK []) b=none)(W:S.length=1)(fin:∀(f:St) (s':Shared),Inv X [] f (upd H0 c (.dK (dcKV a ns))) s'->R (.ok .next) s'):
  codeAny (model X.prog X.w) X.A (.compLoop (.DictComp (.Name t kp) (.Constant (.int a) O N) [⟨.Name t L,iter,[],0⟩] sc pos) 0 (.ref it) (.ref c) X.env) R s:=by
 have B:∀b∈fp,b≠c/\H0 b=none:=λb n=>by
  have M:=U b n
  have C:b≠c:=λz=>by rw[z,ql]at M;cases M
  rw[qj C]at M
  exact⟨C,M⟩
 refine codeAny_loop rfl (λk s'=>∃(i:Nat) (f:St),k=ns.length-i/\i<=ns.length/\Inv X [] f (upd H0 c (.dK (dcKV a (ns.take i)))) s'/\tn i s'.heap/\f.length=1) ?_
  ns.length ⟨0,S,by simp,vH _,I,h0,W⟩
 rintro k s1 ⟨i,d,rfl,hi,I1,t1,l⟩
 have e:∀{o:HO},∀b∈fp,FpOk X [] (upd H0 c o) b:=λb n=>by
  have h:b∈X.ex:=by rw[P];exact n
  exact⟨by rw[qj (B b n).1];exact(B b n).2,(I.ok.exf b h).1,λz=>I.ok.exfs b h z,.inl h,(I.ok.exf b h).2,λp hp=>by rw[Q]at hp;exact absurd hp (by simp)⟩
 show wpAny _ X.A ((compTurn (.DictComp (.Name t kp) (.Constant (.int a) O N) [⟨.Name t L,iter,[],0⟩] sc pos) 0 (.ref it) (.ref c) X.env).onRaise (λx=>do noteFrame x X.env;theTreesLotGoes x)) _ _ s1
 refine wpAny_noted ?_
 rw[compTurn_dict]
 refine wA (v6 (wA ?_))
 by_cases E:i<ns.length
 .obtain ⟨go,yl⟩:=hJ.go c (.dK (dcKV a (ns.take i))) q i (.int ns[i]) (by rw[w4,wD E];rfl)
  refine thnF (T'.item X rfl rfl rfl hc i [] s1 d _ _ I1 e t1 go) λr s2 ⟨u,Y,h2⟩=>?_
  subst Y
  refine wA (thnF h2 λ_ s3 ⟨x,H3,I3,r3,y3,t3,f3⟩=>?_)
  obtain⟨e3,ex⟩:=yl x H3 y3
  subst e3 ex
  have Z:=I3.pinned e (T'.obj _ _ t3)
  refine wA (vT (hg _ s3 d _ (.int ns[i]) u (λF H4=>F=d.set 0 (some (.int ns[i]))/\H4=upd H0 c (.dK (dcKV a (ns.take i)))) Z r3 ⟨rfl,rfl⟩) (λ_ s4 ⟨F,H4,I4,e4,e5⟩=>?_) λ_ _ z=>by rw[m]at z;exact z.elim)
  subst e4 e5
  refine wA (wC ?_)
  refine wA (wA (vT (hk _ s4 _ _ (λy H6=>y=.int ns[i]/\H6=upd H0 c (.dK (dcKV a (ns.take i)))) I4 ⟨.int ns[i],by rw[vq (by rw[l];decide)],rfl,rfl⟩) (λy' s6 ⟨y,H6,I6,ry,ey,e6⟩=>?_) λ_ _ z=>by rw[m]at z;exact z.elim))
  subst ey e6
  refine wA (wm (vT (qe1 (pos:=N) (j:=O) _ s6 _ _ (λy H7=>y=.int a/\H7=upd H0 c (.dK (dcKV a (ns.take i)))) I6 ⟨rfl,rfl⟩) (λz' s7 ⟨y,H7,I7,rz,ey,e7⟩=>?_) λ_ _ z=>by rw[m]at z;exact z.elim))
  subst ey e7
  have H:=qgu a (ns.take i)
  rw[vE]at H
  refine wA (v6 (wm (qeR (k:=.inl ns[i]) (v:=.int a) I7 ql (by rw[vJ];lia) ry rz λs8 I8=>?_)))
  rw[qhs]at I8
  have et:dcKV a (ns.take (i+1))=putK (dcKV a (ns.take i)) (.inl ns[i]) (.int a):=by rw[<-qeQ,List.take_append_getElem]
  refine wC ⟨rfl,ns.length-(i+1),by lia,i+1,_,rfl,E,by rw[et];exact I8.unpinned,?_,by rw[List.length_set];exact l⟩
  exact T'.keep _ _ _ t3 λb n o eo=>(I8.pin (b,o) (wU _ (wU _ (qU n eo)))).1
 .have a0:i=ns.length:=by lia
  subst a0
  have st:=hJ.stop c (.dK (dcKV a (ns.take ns.length))) q
  rw[wP]at st
  refine thnF (T'.done X rfl rfl rfl hc ns.length [] s1 d _ _ I1 e t1 st) λr s2 ⟨Y,I2⟩=>?_
  subst Y
  rw[xq]at I2
  exact wC (fin d s2 I2)
theorem qgw{t:Str}{M kp vp:Pos}{vj:Nat}{B:Int}{iter:Expr}{sc:Scope}{m:En->Sr->Res D}(hc:X.calm=true)(hi:PE X iter (T m))(hs:∀x,foldedSetIterable iter X.env x=pure x)(u:CSc X sc [] [] [t])(hg:∀cl C fp s H,PG (compCx X sc cl C ([]++[t]) fp s H) (.Name t M) (gName 0))(hk:∀cl C fp s H,PE (compCx X sc cl C ([]++[t]) fp s H) (.Name t kp) (tVar 0)){pins:List (Addr×Obj)}{s:Shared}{N:St}{H:Hp}{Q:VK}{use:Option (Value->Sem Unit)}{Q':Value->Shared->Prop}(I:Inv X pins N H s)(hw:T (mDck B m) N H Q)(fin:∀(D C:Addr) (H':Hp) (s':Shared) (m:Str->Option Value),s'.heap.Ns C m->C≠X.env.locals->(∀x c,X.env.cells.lookup x=some c->c≠C)->(H' C=none/\X.s₀.heap.objs.size<=C/\∀p∈X.pn++pins,p.1≠C)->(∀h',Heap.SameBut C s'.heap h'->Inv X pins N H' {s' with heap:=h' })->Q (.ref D) H'->compPost (model X.prog X.w) X.A X.xe use Q' (.ref D) C (.ok .next) s'):
  wpAny (model X.prog X.w) X.A (comprehension (.DictComp (.Name t kp) (.Constant (.int B) vj vp) [⟨.Name t M,iter,[],0⟩] sc pos) sc X.env (firstIterPos [⟨.Name t M,iter,[],0⟩] pos) newDict false (eval iter X.env) use) Q' X.xe s:=by
 obtain⟨ι,S,ρ,er,st,p⟩:=hw
 dsimp only[mDck]at p
 cases z:m ρ S with
 |no=>rw[z]at p;exact p.elim
 |err=>rw[z]at p;exact p.elim
 |ok dx S1 =>
 rw[z,Res.bind_ok]at p
 split at p
 rotate_left
 .exact p.elim
 rename_i lg d
 split at p
 rotate_left
 .exact p.elim
 rename_i ns a0
 split at p
 rotate_left
 .exact p.elim
 rename_i O
 have O:ns.length<1000:=O
 obtain⟨cl,CL⟩:=qa0 (X:=X) (sc:=sc) λx hx hf=>I.ok.has x.1 (u.frees x hx hf)
 refine wpAny_comprehension_free rfl hs CL.eq u.kind u.names ?_
 refine thn (qcO (tg:=.Name t M) hi pins s N H (λJ H2=>∃j,Stp ι H j H2/\Sto j H2 S1/\SrcI J H2 (ns.map V.int)) I ⟨ι,S,ρ,er,st,?_⟩) λxv s1 h1=>thn h1 λa5 s2 h2=>?_
 .rw [z]
  intro v E H' q r hv
  have F:lg.1=ns.map .int:=intsOf_eq a0
  cases dx with
  |ref n =>
   obtain⟨a,rfl,ha⟩:=hv
   cases zn:S1[n]? with
   |none=>simp only[refX,zn]at d;cases d
   |some so =>
    cases so with
    |lst l =>
     simp only[refX,zn]at d
     cases d
     obtain⟨_,xs,hx,P⟩:=r.obj n a _ ha zn
     cases (show l=_ from F)
     cases dens_ints P
     exact .inl ⟨a,rfl,⟨_,.inl (.inl hx)⟩,E,q,r,srcL (.inl hx)⟩
    |dic l=>simp only[refX,zn]at d;cases d
    |dis l=>simp only[refX,zn]at d;cases d
  |tup l =>
   cases d
   obtain⟨a,xs,rfl,hn,ha,P⟩:=hv
   cases (show l=_ from F)
   cases dens_ints P
   exact .inr ⟨a,rfl,⟨_,.inl (.inl ha)⟩,E,q,r,srcT ha⟩
  |lst l =>
   cases d
   obtain⟨a,xs,rfl,hn,ha,P⟩:=hv
   cases (show l=_ from F)
   cases dens_ints P
   exact .inl ⟨a,rfl,⟨_,.inl ha⟩,E,q,r,srcL ha⟩
  |_=>cases d
 obtain⟨it,fp,tn,J,H2,e,I2,T',t2,f2,j,q2,R,hJ⟩:=h2
 subst e
 refine wS ?_
 have K:H2 s2.heap.objs.size=none:=I2.hok.fresh (wG _)
 have U:∀b∈fp,b<s2.heap.objs.size:=λb f=>by
  obtain⟨o,h,_⟩:=T'.obj _ _ t2 b f
  exact wF h
 have L:Inv X pins N (upd H2 s2.heap.objs.size (.dK [])) {s2 with heap:=s2.heap.push {cls:=.type "dict",data:=.dict #[]}} :=
  I2.laid (t':=s2.toks) (λb o e=>wB _ e) (wG _) (qbz s2.heap I2.big)
 have f3:∀b∈fp,FpOk X pins (upd H2 s2.heap.objs.size (.dK [])) b:=λb f=>⟨by rw[qj (wT (U b f))];exact(f2 b f).1,(f2 b f).2⟩
 generalize W:({s2 with heap:=s2.heap.push {cls:=.type "dict",data:=.dict #[]}}:Shared)=s3 at L ⊢
 have Y:∀b∈fp,b<s3.heap.objs.size:=λb f=>by
  rw[<-W]
  show b<(s2.heap.push _).objs.size
  rw[wt];exact vQ (U b f)
 have t3:tn 0 s3.heap:=T'.keep _ _ _ t2 λb f o h=>by rw[<-W];exact wB _ h
 refine wpAny_newFunctionEnv u.nocell (by intro y hy;simp at hy) (λh4 a1 a2=>?_) u.kind
 have i:∀b o,s3.heap.get? b=some o->h4.get? b=some o:=λb o h=>a2.extBut b o (wT (wF h)) (wB _ h)
 have I4:=jP (tk:=s3.toks+([]:List (Str×Value)).length) L u.kind u.nocell CL f3 Y u.frs a1 i
 have t4:tn 0 h4:=T'.keep _ _ _ t3 λb f o h=>i b o h
 have loop:codeAny (model X.prog X.w) X.A (.compLoop (.DictComp (.Name t kp) (.Constant (.int B) vj vp) [⟨.Name t M,iter,[],0⟩] sc pos) 0 (.ref it) (.ref s2.heap.objs.size) (compEnvC sc cl s3.heap.objs.size X.env)) (compPost (model X.prog X.w) X.A X.xe use Q' (.ref s2.heap.objs.size) s3.heap.objs.size) {s3 with heap:=h4,toks:=s3.toks+([]:List (Str×Value)).length}:=by
  refine qgv (X:=compCx X sc cl s3.heap.objs.size ([]++[t]) fp s3 (upd H2 s2.heap.objs.size (.dK []))) (pos:=pos) rfl hc rfl rfl T' (hg _ _ _ _ _) (hk _ _ _ _ _) K hJ (by lia) I4 t4 (λb f=>(f3 b f).1) (by simp[frS]) λa6 s' J'=>?_
  obtain⟨H',Z⟩:∃H',H'=upd H2 s2.heap.objs.size (.dK (dcKV B ns)):=⟨_,rfl⟩
  rw[<-Z]at J'
  obtain⟨m',a3,_⟩:=J'.loc
  refine fin s2.heap.objs.size s3.heap.objs.size H' s' m' a3 (vF L.lt) (λx c ec ez=>?_) ⟨J'.free,L.sz,λq hq ez=>by have:=wF (L.pin q hq).1;rw[ez]at this;exact absurd this (vI _)⟩ (λh5 a4=>jQ L f3 J' a4) ?_
  .obtain ⟨v,o,h,_⟩:=L.cell x c ec
   rw[ez]at h
   exact absurd (wF h) (vI _)
  .subst Z
   have gg:=Stp.grow (ι:=j) K (.dK (dcKV B ns))
   refine p (.ref s2.heap.objs.size) _ _ (q2.trans gg) (R.grow K ⟨qgt B ns,_,ql,qiw B ns⟩) ⟨_,rfl,?_⟩
   rw[<-R.len];simp
 exact codeAny_compStart_dict loop (T'.self _ 0 _ _ _ t4 loop)
theorem qgx{t:Str}{r kp u:Pos}{w:Nat}{h:Int}{iter:Expr}{sc:Scope}{B:En->Sr->Res D}{i:Nat}{y:Str}{j c:Pos}(Z:X.calm=true)(hi:PE X iter (T B))(hs:∀x,foldedSetIterable iter X.env x=pure x)(C':CSc X sc [] [] [t])(hg:∀cl C fp s H,PG (compCx X sc cl C ([]++[t]) fp s H) (.Name t r) (gName 0))(hk:∀cl C fp s H,PE (compCx X sc cl C ([]++[t]) fp s H) (.Name t kp) (tVar 0))(hN:X.N.Nodup)(hy:X.N[i]?=some y)(U:X.env.scope.names.lookup y=some .local)(E:swapsWith (.DictComp (.Name t kp) (.Constant (.int h) w u) [⟨.Name t r,iter,[],0⟩] sc pos) (some (.Name y j)) c.line X.env=pure true):
  PS X (.Assign [.Name y j] (.DictComp (.Name t kp) (.Constant (.int h) w u) [⟨.Name t r,iter,[],0⟩] sc pos) c) (TSm λρ S=>(mDck h B ρ S).bind λd S1=>.ok (.nx (ρ.set i (some d))) S1):=λpins s F H D I hw=>by
 obtain⟨ι,S,ρ,W,st,p⟩:=hw
 rw[exec_Assign_Name_used _ _ _ _ E]
 refine wA (v6 (wA ?_))
 show wpAny _ X.A (do let _ <-comprehension (.DictComp (.Name t kp) (.Constant (.int h) w u) [⟨.Name t r,iter,[],0⟩] sc pos) sc X.env _ newDict false (eval iter X.env) (some (assign (.Name y j) X.env))) _ _ s
 have hT:T (mDck h B) F H (λv J=>D.nx (F.set i (some v)) J):=⟨ι,S,ρ,W,st,PsF.bind p λa S1 K J b s1 L ra p1=>p1 K J (Stp.refl _ _) L _ ((W.mono s1).set ra)⟩
 refine wA (vT (qgw (use:=some (assign (.Name y j) X.env)) (Q':=λ_ s'=>SP X pins D .next s') Z hi hs C' hg hk I hT λY C H' s' m hn l n f hI q=>?_) (λ_ s' hq=>wC (wC hq)) λ_ _ e=>e)
 show wpAny _ X.A (assign (.Name y j) X.env (.ref Y)) _ _ _
 have I0:Inv X pins F H' s':=by
  have:=hI s'.heap (Heap.SameBut.refl ..)
  exact this
 refine wpAny_assign_Name (y8 I0 hN hy (.inl U) (v:=.ref Y) rfl (λM O P=>?_) (.inr U))
 obtain⟨a,sb,ha⟩:=P
 have Q:C≠a:=by
  rcases ha with z|z
  .rw [z];exact l
  .exact λq=>n y a z q.symm
 refine⟨m,hn.sameBut sb Q,λh' R=>?_⟩
 have I3:=O.turned (h':=h') (t':=M.toks) (it:=C) (λb o hb e=>R.extBut b o hb e) f.1 l (.inr f.2.1) n f.2.2
 exact⟨_,H',I3,q⟩
end
section
variable{X:Cx}{F:Fs}{N:Nat}{pos:Pos}
theorem qkn(i:Nat){x:Str}(b:X.N[i]?=some x:=by rfl)(c:Vis X.env.scope x:=by first|exact Or.inl rfl|exact Or.inr (Or.inl rfl)|exact Or.inr (Or.inr rfl))(hd:(x == ("__debug__":Str))=false:=by decide)(a:(x == ("__classdict__":Str))=false:=by decide):PE X (.Name x pos) (tVar i):=qe0 b c hd a
theorem qgy(i:Nat)(b:Int){t:Str}{f kp l:Pos}{m:Nat}{iter:Expr}{sc:Scope}{c:CE}{y:Str}{n a:Pos}(hi:QE X iter (T (ev F c)))(o:∀cl C fp s H,PG (compCx X sc cl C ([]++[t]) fp s H) (.Name t f) (gName 0))(p:∀cl C fp s H,PE (compCx X sc cl C ([]++[t]) fp s H) (.Name t kp) (tVar 0))(q:X.calm=true:=by rfl)(r:∀x,foldedSetIterable iter X.env x=pure x:=by intro _;rfl)(h:cscB X.env.scope.names X.N sc [] [] [t]=true:=by rfl)(u:nodupB X.N=true:=by rfl)(v:X.N[i]?=some y:=by rfl)(w:X.env.scope.names.lookup y=some .local:=by rfl)(j:swapsWith (.DictComp (.Name t kp) (.Constant (.int b) m l) [⟨.Name t f,iter,[],0⟩] sc pos) (some (.Name y n)) a.line X.env=pure true:=by rfl):
  QS X (.Assign [.Name y n] (.DictComp (.Name t kp) (.Constant (.int b) m l) [⟨.Name t f,iter,[],0⟩] sc pos) a) (TSm (ex F N (.set (.var i) (.dcK b c)))):=by
 have e:ex F N (.set (.var i) (.dcK b c))=λρ S=>(mDck b (ev F c) ρ S).bind λd S1=>.ok (.nx (ρ.set i (some d))) S1:=by
  funext ρ S
  unfold mDck
  simp only[ex,asg,ev]
  all_goals (cases ev F c ρ S <;> rfl)
 rw[e]
 delta QS;delta QE at hi;exact(qgx q hi r (ji h) o p (ze u) v w j)
end
end R
namespace R
open PySem PySem.Spec L2 SeqAt
open PyProof.Rows hiding St
noncomputable def PV(H:Hp):List V->List (List Key×Addr×V)->Prop
 |[],ps=>ps=[]
 |y::ys,ps=>∃b k a v r,y=.ref b/\H b=some (.tup [.ref a,v])/\H a=some (.tup (k.map kV))/\ps=(k,a,v)::r/\PV H ys r
noncomputable def dTL(ps:List (List Key×Addr×V)):List (List Key×V):=ps.foldl (λkvs p=>putK kvs p.1 p.2.2) []
theorem qcW{H:Hp}:∀{ys:List V} {ps:List (List Key×Addr×V)},PV H ys ps->ps.length=ys.length
 |[],ps,h=>by cases (show ps=[]from h);rfl
 |y::ys,ps,⟨b,k,a,v,r,_,_,_,e,h⟩=>by subst e;rw[wX,wX,qcW h]
section
variable{P:Program}{w:World}{H:Hp}{h:Heap}
theorem qdJ(ok:HOk P w H h):∀{ys:List V} {us:List Value} {ps:List (List Key×Addr×V)},PV H ys ps->Vals ys us ->
  ∃its:List (List Key×Addr×Value),Paired (λ(p:List Key×Addr×V) (q:List Key×Addr×Value)=>p.1=q.1/\p.2.1=q.2.1/\H q.2.1=some (.tup (q.1.map kV))/\RelV p.2.2 q.2.2) ps its /\
   ∀(i:Nat) (q:List Key×Addr×Value),its[i]?=some q->∃b,us[i]?=some (.ref b)/\h.IsTuple b #[.ref q.2.1,q.2.2]
 |[],us,ps,hp,r=>by
  cases (show ps=[]from hp)
  exact⟨[],.nil,λi q e=>by simp at e⟩
 |y::ys,us,ps,⟨b,k,a,v,r,e1,e2,e3,e4,hp⟩,rv=>by
  subst e1 e4
  cases rv with
  |cons d f =>
   obtain⟨its,j,l⟩:=qdJ ok hp f
   rename_i u m
   cases (show u=Value.ref b from d)
   obtain⟨_,F,c,hz,_⟩:=(show ObjOk P w H h b (.tup [.ref a,v])from ok b _ e2)
   cases c with
   |cons s c =>
    cases c with
    |cons x c =>
     cases c
     rename_i z A
     cases (show z=Value.ref a from s)
     refine⟨(k,a,A)::its,.cons ⟨rfl,rfl,e3,x⟩ j,λi q e=>?_⟩
     cases i with
     |zero =>
      simp only[ws,Option.some.injEq]at e
      subst e
      obtain⟨o,B,C,n,E⟩:=hz
      exact⟨b,rfl,o,B,C,n,E⟩
     |succ i=>exact l i q (by simpa using e)
theorem qi5:∀{ps:List (List Key×Addr×V)} {its:List (List Key×Addr×Value)} {kvs:List (List Key×V)} {xs:List (List Key×Addr×Value)},Paired (λ(p:List Key×Addr×V) (q:List Key×Addr×Value)=>p.1=q.1/\p.2.1=q.2.1/\H q.2.1=some (.tup (q.1.map kV))/\RelV p.2.2 q.2.2) ps its->KT H kvs xs ->
  KT H (ps.foldl (λkvs p=>putK kvs p.1 p.2.2) kvs) (its.foldl (λxs p=>storedH xs p.1 p.2.1 p.2.2) xs)
 |_,_,_,_,.nil,k=>k
 |p::ps,q::its,kvs,xs,.cons ⟨e1,e2,e3,e4⟩ t,k=>by
  rw[v9,v9,e1]
  exact qi5 t (KT.put k q.1 e3 e4)
end
theorem qix(ps:List (List Key×Addr×V)):(dTL ps).length<=ps.length:=by
 have a:∀(ps:List (List Key×Addr×V)) (kvs:List (List Key×V)),(ps.foldl (λkvs p=>putK kvs p.1 p.2.2) kvs).length<=kvs.length+ps.length:=by
  intro ps
  induction ps with
  |nil=>intro kvs;simp
  |cons p r b =>
   intro kvs
   have:=b (putK kvs p.1 p.2.2)
   have:=zg kvs p.1 p.2.2
   rw[v9,wX];lia
 have:=a ps []
 rw[w1,Nat.zero_add]at this
 exact this
variable{X:Cx}
theorem qiy:bootBuiltins "dict"=some (.type "dict"):=by decide +kernel
theorem qko{A:Around}{k:Nat}(a:Room k A):A.units+2<cLine:=by have:=a.un;lia
noncomputable def QP(ι:List Addr)(H:Hp):List (List Int×D)->List (List Key×Addr×V)->Prop
 |[],ps=>ps=[]
 |q::qs,ps=>∃a v r,ps=(keyT q.1,a,v)::r/\Den ι H q.2 v/\refsLt 0 q.2=true/\QP ι H qs r
theorem qkp{ι:List Addr}{H:Hp}:∀{l:List D} {xs:List V} {f:List (List Int×D)},Dens ι H l xs->pairsV l=some f->∃ps,PV H xs ps/\QP ι H f ps:=by
 intro l
 induction l with
 |nil =>
  intro xs f h e
  cases (show xs=[]from h)
  cases (show some []=some f from e)
  exact⟨[],rfl,rfl⟩
 |cons d r n =>
  intro xs f h e
  obtain⟨y,ys,rfl,o,p⟩:=h
  unfold pairsV at e
  split at e
  .rename_i c
   cases c
  .rename_i ks v B c
   cases c
   split at e
   .rename_i q
    cases z:intsOf ks with
    |none=>rw[z]at e;cases e
    |some m =>
     rw[z,wW]at e
     cases zr:pairsV r with
     |none=>rw[zr]at e;cases e
     |some i =>
      rw[zr]at e
      cases (show some ((m,v)::i)=some f from e)
      obtain⟨ps,s,u⟩:=n p zr
      obtain⟨b,C,rfl,_,w,E,t1,rfl,d1,j,t2,rfl,d2,x⟩:=o
      cases (show t2=[]from x)
      cases intsOf_eq z
      obtain⟨a,us,rfl,_,ha,A⟩:=d1
      cases dens_ints A
      exact⟨(keyT m,a,j)::ps,⟨b,keyT m,a,j,ps,rfl,w,by rw[qaX];exact ha,rfl,s⟩,⟨a,j,ps,rfl,d2,q,u⟩⟩
   .cases e
  .cases e
theorem qgz{ι:List Addr}{H:Hp}:∀{b:List (List Int×D)} {ps:List (List Key×Addr×V)} {l:List (List Int×D)} {kvs:List (List Key×V)},QP ι H b ps->DGs keyT ι H l kvs->refsLts 0 (l.map (·.2))=true ->
  DGs keyT ι H (b.foldl (λl p=>putT p.1 p.2 l) l) (ps.foldl (λkvs p=>putK kvs p.1 p.2.2) kvs)/\refsLts 0 ((b.foldl (λl p=>putT p.1 p.2 l) l).map (·.2))=true
 |[],ps,l,kvs,h,g,f=>by
  cases (show ps=[]from h)
  exact⟨g,f⟩
 |q::b,ps,l,kvs,h,g,f=>by
  obtain⟨a,v,r,rfl,d,c,h⟩:=h
  rw[v9,v9]
  exact qgz h (jt jM d g) (yR c f)
end R
namespace R
open PySem PySem.Spec L2 SeqAt
open PyProof.Rows hiding St
section
variable{X:Cx}{pins:List (Addr×Obj)}{σ:List (Option V)}{H:Hp}{s:Shared}
theorem qeS{d':Drawn}(I:Inv X pins σ H s):Inv X pins σ H {s with drawn:=d' }:=⟨I.ok,I.os,I.bare,I.base,I.loc,I.cell,I.free,I.freeC,I.pin,I.hok,I.len⟩
theorem jp{ns:List Int}:firstMet (λi=>ns.getD i 0) ns.length=ddI ns:=by
 unfold firstMet ddI
 have:(List.range ns.length).map (λi=>ns.getD i 0)=ns:=by
  apply uF
  intro i
  rw[w4]
  by_cases h:i<ns.length
  .rw [xJ h,wD h];simp[h]
  .rw [vM (by simpa using h),vM (by lia)];rfl
 rw[this]
theorem qkq(ns:List Int):(ddI ns).length<=ns.length:=by rw[<-jp];exact firstMet_length_le _ _
theorem qkr:bootBuiltins "set"=some (.type "set"):=by decide +kernel
theorem vals_ints:∀{us:List Value} {a:List Int},IntsAre us a->Vals (a.map V.int) us
 |_,_,.nil=>.nil
 |_,_,.cons n t r=>.cons ⟨t,rfl⟩ (vals_ints r)
theorem yV{ι:List Addr}{H:Hp}:∀a:List Int,Dens ι H (a.map .int) (a.map V.int)
 |[]=>rfl
 |_::r=>⟨_,_,rfl,rfl,yV r⟩
theorem qks{e:Expr}{F J pos h:Pos}{K:En->Sr->Res (List D)}(m:Bool)(U:X.calm=true)(hg:Gl X "sorted")(hm:X.mg "sorted"=none)(L:Gl X "set")(M:X.mg "set"=none)(ha:PA X [e] (TL K))(hs:starEach [e] X.env=(false,eval e X.env)::starEach [] X.env):
  PE X (.Call (.Name "sorted" F) [.Call (.Name "set" J) [e] [] h] [] pos) (T λρ S=>(K ρ S).bind λl S1=>bltD (.sset m) l S1):=by
 intro pins s σ H Q I hw
 obtain⟨ι,S,ρ,er,st,q⟩:=hw
 dsimp only at q
 cases z:K ρ S with
 |no=>rw[z]at q;exact q.elim
 |err=>rw[z]at q;exact q.elim
 |ok l S1 =>
  rw[z,Res.bind_ok]at q
  obtain⟨d,rfl,q⟩:=jO q
  have q2:Pst Den (bSset m d S1) ι H Q:=q
  clear q
  cases d with
  |tup l =>
   unfold bSset at q2
   dsimp only at q2
   cases zi:intsOf l with
   |none=>rw[zi]at q2;exact q2.elim
   |some ns =>
    rw[zi]at q2
    dsimp only at q2
    by_cases r:ns.length<4000/\(ddI ns).length<64
    .rw [wL r]at q2
     have:=intsOf_eq zi
     subst this
     refine Call_ (zI I hg hm qaF ?_)
     refine ut (e:=.Call (.Name "set" J) [e] [] h) (rest:=[]) ?_ rfl rfl
     have y:wpAny (model X.prog X.w) X.A (eval (.Call (.Name "set" J) [e] [] h) X.env) (λv s'=>∃C H' a,v=.ref a/\Stp ι H C H'/\Sto C H' S1/\Inv X pins σ H' s'/\SN.SetL s'.heap a (SN.ledW X.w) (ddI ns)) X.xe s:=by
      refine Call_ (zI I L M qkr (wi (thn (ha h pins s σ H (λvs j=>∃f,Stp ι H f j/\Sto f j S1/\Dens f j [.tup (ns.map .int)] vs) I ⟨ι,S,ρ,er,st,?_⟩) λus s1 ⟨vs,j,B,r1,f,q1,i,d1⟩=>?_) hs rfl))
      .rw [z];exact λvs f j q1 i d1=>⟨f,q1,i,d1⟩
      .obtain ⟨x,rfl,hx⟩:=dens1 d1
       obtain⟨u,rfl,ru⟩:=vals1 r1
       obtain⟨p,xs,rfl,_,hp,dx⟩:=hx
       cases ru
       cases dens_ints dx
       obtain⟨its,rv,t1,hz⟩:=yf B hp
       have Y:IntsAre its ns:=qW rv
       have Z:=Y.length
       have t2:s1.heap.IsTuple p its.toArray:=let ⟨o,a,b,n,d⟩:=t1;⟨o,a,b,n,d⟩
       refine SN.set_tup (items:=its.toArray) (ns:=ns) (B.ok.hd U) t2 (by simpa using Y) (by rw[wJ];unfold scanBound;lia) λh' tk E hk=>?_
       have I2:=B.kept (h':=h') (t':=tk) λb u e=>hk b u (wF e) e
       have e3:its.toArray.size=ns.length:=by rw[wJ,Z]
       rw[e3,jp]at E
       exact⟨f,j,_,rfl,q1,i,I2,E⟩
     refine vw (thn y λv s1 ⟨f,j,a,ev,q1,i,B,E⟩=>uZ ?_)
     subst ev
     refine SN.sorted_set (by have:=B.ok.hd U;simpa using this) E r.2 λh' tk d' D N c O sz k1 i1 F P hD=>?_
     have en:O=sortI (ddI ns):=PySem.W.lks_uniq (F.trans (qN (ddI ns)).symm) P (yU (ddI ns))
     subst en
     have fr:j D=none:=B.hok.fresh sz
     have Z:=qkq ns
     have R:((sortI (ddI ns)).map V.int).length<=sizeLine:=by rw[wP,(qN (ddI ns)).length_eq,vJ];lia
     exact⟨.ref D,upd j D (.lst ((sortI (ddI ns)).map V.int)),qeS (B.laid (o:=.lst ((sortI (ddI ns)).map V.int)) (t':=tk) k1 sz ⟨R,N.toList,c,vals_ints i1,by rw[hD]⟩),rfl,zm i (yV _) (Pst.from q2 q1) D fr⟩
    .rw [wK r]at q2;exact q2.elim
  |_=>exact q2.elim
end
section
variable{X:Cx}{F:Fs}{pos p p2 pos2:Pos}{e:Expr}{c:CE}
theorem qkt(m:Bool)(gb:Gb X.mg)(ha:QA X [e] (TL (evs F (.cons c .nil))))(b:X.calm=true:=by rfl)(d:Gl X "sorted":=by rfl)(a:Gl X "set":=by rfl)(f:starEach [e] X.env=(false,eval e X.env)::starEach [] X.env:=by rfl):
  QE X (.Call (.Name "sorted" p) [.Call (.Name "set" p2) [e] [] pos2] [] pos) (T (ev F (.blt (.sset m) (.cons c .nil)))):=by
 delta QE;delta QA at ha;exact(qks m b d gb.sorted a gb.set ha f)
end
end R
namespace R
open PySem PySem.Spec L2 SeqAt
open PyProof.Rows hiding St
end R
namespace R
open PySem PySem.Spec L2 SeqAt
open PyProof.Rows hiding St
section
variable{X:Cx}
theorem qiz(K:X.calm=true)(L:X.A.units+2<cLine):CallR X (.type "dict") (Gn (one bDictL)):=by
 intro pins s σ H xs us Q I r h
 obtain⟨ι,S,ds,st,hd,p⟩:=h
 obtain⟨d,rfl,p⟩:=jO p
 obtain⟨x,rfl,hx⟩:=dens1 hd
 obtain⟨u,rfl,M⟩:=vals1 r
 have c:Pst Den (bDictL d S) ι H Q:=p
 clear p
 cases d with
 |lst l =>
  unfold bDictL at c
  dsimp only at c
  cases hqs:pairsV l with
  |none=>rw[hqs]at c;exact c.elim
  |some qs =>
   rw[hqs]at c
   obtain⟨a,ys,rfl,hn,ha,N⟩:=hx
   cases M
   obtain⟨hz,j,n,v,m⟩:=ha.ok I.hok
   obtain⟨ps,f,y⟩:=qkp N hqs
   obtain⟨its,B,O⟩:=qdJ I.hok f v
   have C:its.length=j.toArray.size:=by rw[wJ,<-B.length,qcW f,v.length]
   refine DL.call_pairs (knd:=tupleKind (mixKind X.prog X.w)) (its:=its) (I.ok.hd K) L m rfl rfl rfl C (by rw[wJ,<-v.length];exact hz) (λi q e=>?_) (λq o h E=>?_) λh' tk E P=>?_
   .obtain ⟨b,e1,R⟩:=O i q e
    exact⟨b,by simpa using e1,R⟩
   .have:∀{ps:List (List Key×Addr×V)} {its:List (List Key×Addr×Value)},Paired (λ(p:List Key×Addr×V) (q:List Key×Addr×Value)=>p.1=q.1/\p.2.1=q.2.1/\H q.2.1=some (.tup (q.1.map kV))/\RelV p.2.2 q.2.2) ps its->∀q∈its,H q.2.1=some (.tup (q.1.map kV)):=by
     intro ps its g
     induction g with
     |nil=>intro q o;simp at o
     |cons x _ U =>
      intro q o
      rcases wN.mp o with z|z
      .subst z;exact x.2.2.1
      .exact U q z
    exact qaR (I.hok.kept E) (this B q o)
   .have F:H s.heap.objs.size=none:=I.hok.fresh (wG _)
    have J:KT H (dTL ps) (DN.dOf its):=qi5 B .nil
    obtain⟨od,es,ep,W,Y,Z,h4,h5⟩:=P
    have g:=Stp.grow (ι:=ι) F (.dT (dTL ps))
    obtain⟨g3,g4⟩:=qgz (l:=[]) (kvs:=[]) y rfl rfl
    refine⟨.ref s.heap.objs.size,upd H s.heap.objs.size (.dT (dTL ps)),?_,rfl,c (.ref s.heap.objs.size) _ _ g (st.grow F ⟨g4,_,ql,DGs.mono g g3⟩) ⟨s.heap.objs.size,rfl,by rw[<-st.len];simp⟩⟩
    refine I.laid E (wG _) ⟨?_,?_,_,J.keeps λb zs e=>?_,od,es,ep,W,Y,Z,h4,h5⟩
    .have:=qix ps
     have:=qcW f
     lia
    .exact vC.mpr (vF I.big)
    .rw [qj (by rintro rfl;rw[F]at e;cases e)];exact e
 |_=>exact c.elim
theorem qgA{x y:V}{u:Value}(a:L2.RelV x u)(b:L2.RelV y u):x=y:=by
 cases x <;> cases y <;> simp only[L2.RelV]at a b <;> grind
theorem vals_uniq:∀{xs ys:List V} {us:List Value},Vals xs us->Vals ys us->xs=ys
 |_,_,_,.nil,.nil=>rfl
 |_,_,_,.cons a r,.cons b t=>by rw[qgA a b,vals_uniq r t]
theorem tupLs_eq:∀{l:List D} {ts:List (List D)},tupLs l=some ts->l=ts.map .tup
 |[],ts,h=>by cases h;rfl
 |d::r,ts,h=>by
  unfold tupLs at h
  split at h
  .rename_i b;cases b
  .rename_i a e b
   cases b
   cases z:tupLs r with
   |none=>rw[z]at h;cases h
   |some c=>rw[z]at h;cases h;rw[tupLs_eq z];rfl
  .cases h
theorem qb5:∀{xs ys:List V} {us vs:List Value},Vals xs us->Vals ys vs->Vals (xs++ys) (us++vs)
 |_,_,_,_,.nil,h=>h
 |_,_,_,_,.cons a r,h=>.cons a (qb5 r h)
theorem qdK{pins:List (Addr×Obj)}{l:List (Option V)}{H:Hp}{s:Shared}{ι:List Addr}(I:Inv X pins l H s):∀{ts:List (List D)} {xs:List V} {us:List Value},Dens ι H (ts.map .tup) xs->Vals xs us ->
  ∃(a:List (List Value)) (c:List (List V)),a.length=us.length/\Vals c.flatten a.flatten/\Dens ι H ts.flatten c.flatten /\
   ∀(i:Nat) (v:Value),us[i]?=some v->∃b d,v=.ref b/\IsTup s.heap b (a.getD i []).toArray/\b∉ι/\H b=some (.tup d)/\Vals d (a.getD i [])
 |[],xs,us,h,r=>by
  cases (show xs=[]from h)
  cases r
  exact⟨[],[],rfl,.nil,rfl,λi v e=>by simp at e⟩
 |t::ts,xs,us,h,r=>by
  obtain⟨x,ys,rfl,hx,m⟩:=h
  cases r with
  |cons n o =>
   obtain⟨b,d,rfl,hn,f,p⟩:=hx
   obtain⟨a,c,e1,q,u,w⟩:=qdK I m o
   obtain⟨its,j,y,_⟩:=yf I f
   cases (show _=Value.ref b from n)
   refine⟨its::a,d::c,by simp[e1],?_,?_,λi v e=>?_⟩
   .rw [vA,vA];exact qb5 j q
   .rw [vA,vA];exact Dens.append p u
   .cases i with
    |zero=>simp at e;subst e;exact⟨b,d,rfl,y,hn,f,j⟩
    |succ i=>simpa using w i v (by simpa using e)
theorem qku(U:X.calm=true):CallR X (.builtin "sum") (Gn (two bSumT)):=by
 intro pins s σ H xs us Q I r h
 obtain⟨ι,S,ds,st,hd,p⟩:=h
 obtain⟨d,W,rfl,p⟩:=qfJ p
 obtain⟨x,x0,rfl,hx,y⟩:=dens2 hd
 obtain⟨u,u0,rfl,Y,z⟩:=vals2 r
 have j:Pst Den (bSumT d W S) ι H Q:=p
 clear p
 unfold bSumT at j
 split at j
 .rename_i l
  cases hts:tupLs l with
  |none=>rw[hts]at j;exact j.elim
  |some ts =>
   rw[hts]at j
   dsimp only at j
   by_cases hz:ts.flatten.length<=4000
   .rw [wL hz]at j
    cases tupLs_eq hts
    obtain⟨a,ys,rfl,hn,ha,Z⟩:=hx
    obtain⟨a0,A,rfl,B,m,C⟩:=y
    cases (show A=[]from C)
    cases Y
    cases z
    obtain⟨its,rv,hl,_⟩:=jK I ha
    obtain⟨O,E,F,_⟩:=yf I m
    cases E
    obtain⟨f,J,e1,w,K,e4⟩:=qdK I Z rv
    have ep:TS.pre (λi=>f.getD i []) its.length=f.flatten:=by
     unfold TS.pre
     have:(List.range its.length).map (λi=>f.getD i [])=f:=by
      apply uF
      intro i
      rw[w4]
      by_cases h:i<f.length
      .rw [xJ (by lia),wD h];simp[h]
      .rw [vM (by simp;lia),vM (by lia)];rfl
     rw[this]
    have P:f.flatten.length<=4000:=by rw[<-w.length,<-K.length];exact hz
    refine TS.sum_tups (val:=λi=>f.getD i []) (Old:=λc vs=>c∉ι/\∃n,H c=some (.tup n)/\Vals n vs) (I.ok.hd U) hl F ⟨B,[],m,.nil⟩ (λi v e=>?_) (by rw[ep,vJ];lia) λh' tk c k R old=>?_
    .obtain ⟨b,n,rfl,q1,q2,q3,q4⟩:=e4 i v e
     exact⟨b,rfl,q1,q2,n,q3,q4⟩
    .rw [ep]at R old
     rcases old with ⟨L,n,hH,hv⟩|⟨hs,hg⟩
     .cases vals_uniq hv w
      exact⟨.ref c,H,I.kept k,rfl,j (.ref c) ι H (Stp.refl _ _) st ⟨c,_,rfl,L,hH,K⟩⟩
     .have hb:H c=none:=I.hok.fresh hs
      refine⟨.ref c,upd H c (.tup J.flatten),I.laid (t':=tk) k hs ⟨by rw[w.length,vJ];lia,f.flatten,w,R,λo q=>by rw[hg]at q;cases q;rfl⟩,rfl,qR st K (λv M H' s' N dv=>j v M H' s' N dv) _ hb⟩
   .rw [wK hz]at j;exact j.elim
 .exact j.elim
end
section
variable{X:Cx}{F:Fs}{pos p:Pos}{e:Expr}{es:List Expr}{cs:CEs}
theorem qiA:bootBuiltins "sum"=some (.builtin "sum"):=by decide +kernel
theorem qiB{k:Nat}(b:Room k X.A)(gb:Gb X.mg)(ha:QA X (e::es) (TL (evs F cs)))(c:X.calm=true:=by rfl)(d:Gl X "dict":=by rfl)(f:starEach (e::es) X.env=(false,eval e X.env)::starEach es X.env:=by rfl)(a:(backTo pos (starEach es X.env)).any (·.1)=false:=by rfl):QE X (.Call (.Name "dict" p) (e::es) [] pos) (T (ev F (.blt .dictL cs))):=by
 delta QE;delta QA at ha;exact(qi1 .dictL (qiz c (qko b)) (gb.ty .dict) qiy ha d (by decide) (by decide) f a)
theorem qkv(gb:Gb X.mg)(ha:QA X (e::es) (TL (evs F cs)))(b:X.calm=true:=by rfl)(c:Gl X "sum":=by rfl)(d:starEach (e::es) X.env=(false,eval e X.env)::starEach es X.env:=by rfl)(a:(backTo pos (starEach es X.env)).any (·.1)=false:=by rfl):QE X (.Call (.Name "sum" p) (e::es) [] pos) (T (ev F (.blt .sumT cs))):=by
 delta QE;delta QA at ha;exact(jm .sumT (qku b) gb.sum qiA ha c (by decide) (by decide) d a)
end
end R
namespace RP
open R
def c_0:CF:=⟨1,1,false,.cons (.ret (.and (.isi .int (.var 0)) (.not (.isi .bool (.var 0))))) .nil⟩
def c_1:CF:=⟨3,3,false,.cons (.ret (.and (.call 0 (.cons (.var 0) .nil)) (.chain .le .le (.var 1) (.var 0) (.var 2)))) .nil⟩
def c_2:CF:=⟨2,2,false,.cons (.whileS (.val (.var 1)) (.cons (.set (.tup (.cons (.var 0) (.cons (.var 1) .nil))) (.tup (.cons (.var 1) (.cons (.bin .mod (.var 0) (.var 1)) .nil)))) .nil)) (.cons (.ret (.var 0)) .nil)⟩
def c_3:CF:=⟨2,3,false,.cons (.set (.var 2) (.call 2 (.cons (.blt .abs (.cons (.var 0) .nil)) (.cons (.var 1) .nil)))) (.cons (.ret (.tup (.cons (.bin .fdiv (.var 0) (.var 2)) (.cons (.bin .fdiv (.var 1) (.var 2)) .nil)))) .nil)⟩
def c_4:CF:=⟨2,2,false,.cons (.ret (.cmp .lt (.bin .mul (.idx (.var 0) (.cst (.int 0))) (.idx (.var 1) (.cst (.int 1)))) (.bin .mul (.idx (.var 1) (.cst (.int 0))) (.idx (.var 0) (.cst (.int 1)))))) .nil⟩
def c_5:CF:=⟨1,3,false,.cons (.ifs (.or (.not (.val (.isi .tuple (.var 0)))) (.val (.cmp .ne (.blt .len (.cons (.var 0) .nil)) (.cst (.int 2))))) (.cons (.ret (.cst (.bl false))) .nil) .nil) (.cons (.set (.tup (.cons (.var 1) (.cons (.var 2) .nil))) (.var 0)) (.cons (.ret (.and (.call 6 (.cons (.var 1) .nil)) (.call 7 (.cons (.var 2) (.cons (.blt .len (.cons (.var 1) .nil)) .nil))))) .nil))⟩
def c_6:CF:=⟨1,1,false,.cons (.ifs (.or (.not (.val (.isi .tuple (.var 0)))) (.not (.val (.chain .le .le (.cst (.int 1)) (.blt .len (.cons (.var 0) .nil)) (.cst (.int 12)))))) (.cons (.ret (.cst (.bl false))) .nil) .nil) (.cons (.ret (.gen .all [] 1 (.call 1 (.cons (.var 0) (.cons (.cst (.int 1)) (.cons (.cst (.int 100)) .nil)))) (.var 0) (.seq (.var 0)) .nil)) .nil)⟩
def c_7:CF:=⟨2,2,false,.cons (.ifs (.or (.not (.val (.isi .tuple (.var 0)))) (.val (.cmp .gt (.blt .len (.cons (.var 0) .nil)) (.cst (.int 30))))) (.cons (.ret (.cst (.bl false))) .nil) .nil) (.cons (.ifs (.not (.val (.gen .all [1] 1 (.call 8 (.cons (.var 1) (.cons (.var 0) .nil))) (.var 1) (.seq (.var 0)) .nil))) (.cons (.ret (.cst (.bl false))) .nil) .nil) (.cons (.ret (.call 11 (.cons (.lc false [] 2 (.var 0) (.tup (.cons (.var 0) (.cons (.var 1) .nil))) (.seq (.var 0)) .nil) .nil))) .nil))⟩
def c_8:CF:=⟨2,4,false,.cons (.ifs (.or (.not (.val (.isi .tuple (.var 0)))) (.val (.cmp .ne (.blt .len (.cons (.var 0) .nil)) (.cst (.int 2))))) (.cons (.ret (.cst (.bl false))) .nil) .nil) (.cons (.set (.tup (.cons (.var 2) (.cons (.var 3) .nil))) (.var 0)) (.cons (.ret (.and (.call 9 (.cons (.var 2) (.cons (.var 1) .nil))) (.call 1 (.cons (.var 3) (.cons (.cst (.int 1)) (.cons (.cst (.int 1000000)) .nil)))))) .nil))⟩
def c_9:CF:=⟨2,2,false,.cons (.ret (.and (.call 10 (.cons (.var 0) (.cons (.var 1) .nil))) (.cmp .le (.blt .len (.cons (.var 0) .nil)) (.cst (.int 4))))) .nil⟩
def c_10:CF:=⟨2,2,false,.cons (.ifs (.or (.not (.val (.isi .tuple (.var 0)))) (.not (.val (.var 0)))) (.cons (.ret (.cst (.bl false))) .nil) .nil) (.cons (.ret (.and (.gen .all [1] 1 (.call 1 (.cons (.var 1) (.cons (.cst (.int 0)) (.cons (.bin .sub (.var 0) (.cst (.int 1))) .nil)))) (.var 1) (.seq (.var 0)) .nil) (.call 11 (.cons (.var 0) .nil)))) .nil)⟩
def c_11:CF:=⟨1,1,false,.cons (.ret (.gen .all [] 2 (.cmp .lt (.var 0) (.var 1)) (.tup (.cons (.var 0) (.cons (.var 1) .nil))) (.zip (.var 0) (.slc (.var 0) (.some (.cst (.int 1))) .none)) .nil)) .nil⟩
def c_12:CF:=⟨1,1,false,.cons (.ifs (.not (.val (.call 5 (.cons (.var 0) .nil)))) (.cons (.never) .nil) .nil) .nil⟩
def c_13:CF:=⟨2,2,false,.cons (.ret (.call 1 (.cons (.var 1) (.cons (.cst (.int 0)) (.cons (.bin .sub (.blt .len (.cons (.idx (.var 0) (.cst (.int 0))) .nil)) (.cst (.int 1))) .nil))))) .nil⟩
def c_14:CF:=⟨2,2,false,.cons (.ifs (.not (.val (.call 13 (.cons (.var 0) (.cons (.var 1) .nil))))) (.cons (.never) .nil) .nil) .nil⟩
def c_15:CF:=⟨2,2,false,.cons (.ret (.lc false [1] 1 (.var 1) (.var 1) (.seq (.idx (.var 0) (.cst (.int 1)))) (.cons (.val (.gen .all [0] 1 (.cmp .inn (.var 1) (.var 0)) (.var 1) (.seq (.idx (.var 1) (.cst (.int 0)))) .nil)) .nil))) .nil⟩
def c_16:CF:=⟨1,9,false,.cons (.expr (.call 12 (.cons (.var 0) .nil))) (.cons (.set (.var 1) (.idx (.var 0) (.cst (.int 0)))) (.cons (.set (.var 2) (.rng (some true) (.cons (.blt .len (.cons (.var 1) .nil)) .nil))) (.cons (.set (.var 3) (.lst true .nil)) (.cons (.set (.tup (.cons (.var 4) (.cons (.var 5) .nil))) (.tup (.cons (.tup .nil) (.cons (.tup (.cons (.neg (.cst (.int 1))) (.cons (.cst (.int 1)) .nil))) .nil)))) (.cons (.whileS (.val (.var 2)) (.cons (.set (.var 6) (.call 15 (.cons (.var 0) (.cons (.var 2) .nil)))) (.cons (.set (.var 7) (.call 3 (.cons (.gen .sum [] 2 (.var 1) (.tup (.cons (.var 0) (.cons (.var 1) .nil))) (.seq (.var 6)) .nil) (.cons (.genX .sum [1] 1 (.idx (.var 0) (.var 1)) (.var 1) (.var 2) .nil) .nil)))) (.cons (.ifs (.val (.call 4 (.cons (.var 5) (.cons (.var 7) .nil)))) (.cons (.set (.tup (.cons (.var 4) (.cons (.var 5) .nil))) (.tup (.cons (.blt .tuple (.cons (.var 2) .nil)) (.cons (.var 7) .nil)))) .nil) .nil) (.cons (.set (.var 8) (.call 17 (.cons (.var 1) (.cons (.var 6) (.cons (.var 2) .nil))))) (.cons (.expr (.app (.var 3) (.var 8))) (.cons (.expr (.rem (.var 2) (.idx (.var 8) (.cst (.int 0))))) .nil))))))) (.cons (.ret (.tup (.cons (.blt .tuple (.cons (.var 3) .nil)) (.cons (.var 4) .nil)))) .nil))))))⟩
def c_17:CF:=⟨3,9,false,.cons (.set (.var 3) (.dcK 0 (.var 2))) (.cons (.forS (.tup (.cons (.var 5) (.cons (.var 6) .nil))) (.seq (.var 1)) (.cons (.forS (.var 4) (.seq (.var 5)) (.cons (.augK (.var 3) (.var 4) (.var 6)) .nil)) .nil)) (.cons (.set (.var 7) (.tup (.cons (.idx (.var 2) (.cst (.int 0))) (.cons (.call 3 (.cons (.idk (.var 3) (.idx (.var 2) (.cst (.int 0)))) (.cons (.idx (.var 0) (.idx (.var 2) (.cst (.int 0)))) .nil))) .nil)))) (.cons (.forS (.var 4) (.seq (.slc (.var 2) (.some (.cst (.int 1))) .none)) (.cons (.set (.var 8) (.call 3 (.cons (.idk (.var 3) (.var 4)) (.cons (.idx (.var 0) (.var 4)) .nil)))) (.cons (.ifs (.val (.call 4 (.cons (.var 8) (.cons (.idx (.var 7) (.cst (.int 1))) .nil)))) (.cons (.set (.var 7) (.tup (.cons (.var 4) (.cons (.var 8) .nil)))) .nil) .nil) .nil))) (.cons (.ret (.var 7)) .nil))))⟩
def c_18:CF:=⟨1,7,false,.cons (.set (.tup (.cons (.var 1) (.cons (.var 2) .nil))) (.call 16 (.cons (.var 0) .nil))) (.cons (.set (.var 3) (.dis)) (.cons (.set (.var 4) (.tup (.cons (.cst (.int 0)) (.cons (.cst (.int 1)) .nil)))) (.cons (.forS (.tup (.cons (.var 5) (.cons (.var 6) .nil))) (.seq (.var 1)) (.cons (.ifs (.val (.call 4 (.cons (.var 4) (.cons (.var 6) .nil)))) (.cons (.set (.var 4) (.var 6)) .nil) .nil) (.cons (.set (.sub (.var 3) (.var 5)) (.var 4)) .nil))) (.cons (.ret (.gen .tuple [3] 1 (.idk (.var 0) (.var 1)) (.var 1) (.rng (.cons (.blt .len (.cons (.var 1) .nil)) .nil)) .nil)) .nil))))⟩
def c_19:CF:=⟨2,3,false,.cons (.expr (.call 12 (.cons (.var 0) .nil))) (.cons (.expr (.call 14 (.cons (.var 0) (.cons (.var 1) .nil)))) (.cons (.set (.var 2) (.call 18 (.cons (.var 0) .nil))) (.cons (.ret (.gen .tuple [2,1] 1 (.var 2) (.var 2) (.rng (.cons (.blt .len (.cons (.var 2) .nil)) .nil)) (.cons (.not (.val (.call 4 (.cons (.idx (.var 0) (.var 2)) (.cons (.idx (.var 0) (.var 1)) .nil))))) .nil))) .nil)))⟩
def c_20:CF:=⟨1,1,false,.cons (.ret (.bin .mod (.bin .mul (.bin .mod (.var 0) (.bin .pow (.cst (.int 10)) (.cst (.int 60)))) (.cst (.int 845098040014256830712216258592636193483572396323965406503637))) (.bin .pow (.cst (.int 10)) (.cst (.int 60))))) .nil⟩
def c_21:CF:=⟨2,5,true,.cons (.set (.var 2) (.cst (.int 0))) (.cons (.forS (.var 3) (.seq (.lst false (.cons (.bin .add (.var 1) (.cst (.int 1))) (.cons (.var 1) .nil)))) (.cons (.set (.var 4) (.idx (.bin .add (.slc (.var 0) (.some (.var 3)) (.some (.bin .add (.var 3) (.cst (.int 1))))) (.lst false (.cons (.bin .add (.bin .add (.bin .mul (.cst (.int 5701)) (.var 3)) (.cst (.int 43))) (.bin .mul (.cst (.int 7)) (.idx (.bin .add (.var 0) (.lst false (.cons (.cst (.int 0)) .nil))) (.cst (.int 0))))) .nil))) (.cst (.int 0)))) (.cons (.set (.var 2) (.bin .add (.bin .mul (.var 2) (.bin .pow (.cst (.int 10)) (.cst (.int 60)))) (.call 20 (.cons (.var 4) .nil)))) .nil))) (.cons (.ret (.lst true (.cons (.var 2) .nil))) .nil))⟩
def c_22:CF:=⟨2,3,false,.cons (.set (.tup (.cons (.sub (.var 0) (.cst (.int 0))) (.cons (.var 2) .nil))) (.blt .divmod (.cons (.idx (.var 0) (.cst (.int 0))) (.cons (.var 1) .nil)))) (.cons (.ret (.var 2)) .nil)⟩
def c_23:CF:=⟨2,4,false,.cons (.set (.tup (.cons (.var 2) (.cons (.var 3) .nil))) (.tup (.cons (.blt .abs (.cons (.var 0) .nil)) (.cons (.blt .abs (.cons (.var 1) .nil)) .nil)))) (.cons (.whileS (.val (.cmp .ne (.var 3) (.cst (.int 0)))) (.cons (.set (.tup (.cons (.var 2) (.cons (.var 3) .nil))) (.tup (.cons (.var 3) (.cons (.bin .mod (.var 2) (.var 3)) .nil)))) .nil)) (.cons (.ifs (.val (.cmp .lt (.var 1) (.cst (.int 0)))) (.cons (.set (.var 2) (.bin .sub (.cst (.int 0)) (.var 2))) .nil) .nil) (.cons (.ret (.tup (.cons (.bin .fdiv (.var 0) (.var 2)) (.cons (.bin .fdiv (.var 1) (.var 2)) .nil)))) .nil)))⟩
def c_24:CF:=⟨2,2,false,.cons (.ret (.cmp .lt (.bin .mul (.idx (.var 0) (.cst (.int 0))) (.idx (.var 1) (.cst (.int 1)))) (.bin .mul (.idx (.var 1) (.cst (.int 0))) (.idx (.var 0) (.cst (.int 1)))))) .nil⟩
def c_25:CF:=⟨2,5,false,.cons (.set (.var 2) (.idx (.lst false (.cons (.cst (.int 2)) (.cons (.cst (.int 2)) (.cons (.cst (.int 2)) (.cons (.cst (.int 3)) (.cons (.cst (.int 3)) (.cons (.cst (.int 1)) (.cons (.cst (.int 4)) (.cons (.cst (.int 2)) .nil))))))))) (.call 22 (.cons (.var 0) (.cons (.cst (.int 8)) .nil))))) (.cons (.set (.var 3) (.rng (some true) (.cons (.var 1) .nil))) (.cons (.set (.var 4) (.lc false [3,0] 1 (.popAt (.var 0) (.call 22 (.cons (.var 1) (.cons (.blt .len (.cons (.var 0) .nil)) .nil)))) (.var 2) (.rng (.cons (.blt .min2 (.cons (.var 2) (.cons (.var 1) .nil))) .nil)) .nil)) (.cons (.ret (.blt .tuple (.cons (.blt (.sorted false) (.cons (.var 4) .nil)) .nil))) .nil)))⟩
def c_26:CF:=⟨3,8,false,.cons (.set (.var 3) (.bin .add (.cst (.int 1)) (.call 22 (.cons (.var 0) (.cons (.var 1) .nil))))) (.cons (.set (.var 4) (.bin .mul (.lst false (.cons (.cst (.int 1)) .nil)) (.var 3))) (.cons (.ifs (.val (.cmp .eq (.call 22 (.cons (.var 0) (.cons (.cst (.int 3)) .nil))) (.cst (.int 0)))) (.cons (.set (.var 4) (.lc false [0] 1 (.bin .add (.cst (.int 1)) (.call 22 (.cons (.var 0) (.cons (.cst (.int 5)) .nil)))) (.var 1) (.rng (.cons (.var 3) .nil)) .nil)) .nil) .nil) (.cons (.set (.var 5) (.dic true)) (.cons (.forS (.var 6) (.rng (.cons (.call 22 (.cons (.var 0) (.cons (.bin .add (.var 2) (.cst (.int 1))) .nil))) .nil)) (.cons (.set (.var 7) (.call 25 (.cons (.var 0) (.cons (.var 3) .nil)))) (.cons (.set (.sub (.var 5) (.var 7)) (.bin .add (.cst (.int 1)) (.call 22 (.cons (.var 0) (.cons (.cst (.int 9)) .nil))))) .nil))) (.cons (.ret (.tup (.cons (.blt .tuple (.cons (.var 4) .nil)) (.cons (.blt .tuple (.cons (.lc false [5] 1 (.tup (.cons (.var 1) (.cons (.idx (.var 0) (.var 1)) .nil))) (.var 1) (.seq (.blt (.sorted false) (.cons (.var 5) .nil))) .nil) .nil)) .nil)))) .nil)))))⟩
def c_27:CF:=⟨1,3,false,.cons (.set (.var 1) (.lst false (.cons (.tup .nil) .nil))) (.cons (.forS (.var 2) (.seq (.var 0)) (.cons (.set (.var 1) (.bin .add (.var 1) (.lc false [2] 1 (.bin .add (.var 1) (.tup (.cons (.var 0) .nil))) (.var 1) (.seq (.var 1)) .nil))) .nil)) (.cons (.ret (.slc (.var 1) (.some (.cst (.int 1))) .none)) .nil))⟩
def c_28:CF:=⟨3,6,false,.cons (.set (.var 3) (.cst (.int 0))) (.cons (.forS (.tup (.cons (.var 4) (.cons (.var 5) .nil))) (.seq (.idx (.var 0) (.cst (.int 1)))) (.cons (.ifs (.and (.val (.cmp .inn (.var 2) (.var 4))) (.val (.blt .all (.cons (.lc false [1] 1 (.cmp .inn (.var 1) (.var 0)) (.var 1) (.seq (.var 4)) .nil) .nil)))) (.cons (.set (.var 3) (.bin .add (.var 3) (.var 5))) .nil) .nil) .nil)) (.cons (.ret (.call 23 (.cons (.var 3) (.cons (.idx (.idx (.var 0) (.cst (.int 0))) (.var 2)) .nil)))) .nil))⟩
def c_29:CF:=⟨2,5,false,.cons (.set (.var 2) (.cst .non)) (.cons (.forS (.var 3) (.seq (.var 1)) (.cons (.set (.var 4) (.call 28 (.cons (.var 0) (.cons (.var 1) (.cons (.var 3) .nil))))) (.cons (.ifs (.or (.val (.cmp .is (.var 2) (.cst .non))) (.val (.call 24 (.cons (.var 4) (.cons (.var 2) .nil))))) (.cons (.set (.var 2) (.var 4)) .nil) .nil) .nil))) (.cons (.ret (.var 2)) .nil))⟩
def c_30:CF:=⟨1,8,false,.cons (.set (.var 1) (.call 27 (.cons (.rng (some false) (.cons (.blt .len (.cons (.idx (.var 0) (.cst (.int 0))) .nil)) .nil)) .nil))) (.cons (.set (.var 2) (.blt .dictL (.cons (.lc false [0] 1 (.tup (.cons (.var 1) (.cons (.call 29 (.cons (.var 0) (.cons (.var 1) .nil))) .nil))) (.var 1) (.seq (.var 1)) .nil) .nil))) (.cons (.set (.var 3) (.call 18 (.cons (.var 0) .nil))) (.cons (.ifs (.or (.not (.val (.isi .tuple (.var 3)))) (.or (.val (.cmp .ne (.blt .len (.cons (.var 3) .nil)) (.blt .len (.cons (.idx (.var 0) (.cst (.int 0))) .nil)))) (.val (.cmp .ne (.call 18 (.cons (.var 0) .nil)) (.var 3))))) (.cons (.ret (.cst (.bl false))) .nil) .nil) (.cons (.forS (.var 4) (.rng (.cons (.blt .len (.cons (.idx (.var 0) (.cst (.int 0))) .nil)) .nil)) (.cons (.set (.var 5) (.tup (.cons (.cst (.int 0)) (.cons (.cst (.int 1)) .nil)))) (.cons (.forS (.var 6) (.seq (.var 1)) (.cons (.ifs (.and (.val (.cmp .inn (.var 4) (.var 6))) (.val (.call 24 (.cons (.var 5) (.cons (.idx (.var 2) (.var 6)) .nil))))) (.cons (.set (.var 5) (.idx (.var 2) (.var 6))) .nil) .nil) .nil)) (.cons (.set (.var 7) (.blt (.sset false) (.cons (.blt .sumT (.cons (.lc false [2,5] 1 (.var 2) (.var 2) (.seq (.var 1)) (.cons (.not (.val (.call 24 (.cons (.idx (.var 0) (.var 2)) (.cons (.var 1) .nil))))) .nil)) (.cons (.tup .nil) .nil))) .nil))) (.cons (.ifs (.or (.val (.cmp .ne (.idx (.var 3) (.var 4)) (.var 5))) (.val (.cmp .ne (.call 19 (.cons (.var 0) (.cons (.var 4) .nil))) (.blt .tuple (.cons (.var 7) .nil))))) (.cons (.ret (.cst (.bl false))) .nil) .nil) .nil))))) (.cons (.ret (.cst (.bl true))) .nil)))))⟩
def qdL:CF:=⟨1,2,false,.cons (.forS (.var 1) (.rng (.cons (.cst (.int 0)) (.cons (.blt .max2 (.cons (.cst (.int 1)) (.cons (.blt .min2 (.cons (.blt .len (.cons (.var 0) .nil)) (.cons (.cst (.int 8)) .nil))) .nil))) (.cons (.cst (.int 2)) .nil)))) (.cons (.ifs (.not (.val (.call 30 (.cons (.call 26 (.cons (.call 21 (.cons (.var 0) (.cons (.var 1) .nil))) (.cons (.cst (.int 6)) (.cons (.cst (.int 10)) .nil)))) .nil)))) (.cons (.ret (.cst (.bl false))) .nil) .nil) .nil)) (.cons (.ret (.cst (.bl true))) .nil)⟩
noncomputable def prg:List CF:=[c_0,c_1,c_2,c_3,c_4,c_5,c_6,c_7,c_8,c_9,c_10,c_11,c_12,c_13,c_14,c_15,c_16,c_17,c_18,c_19,c_20,c_21,c_22,c_23,c_24,c_25,c_26,c_27,c_28,c_29,c_30,qdL]
end RP
namespace RP
open PySem PySem.Spec L2 SeqAt R
open PyProof.Rows hiding St
noncomputable def top(i:Nat):Stmt:=PySem.Challenge.pw_weblayers_k38_cores_told.main.body.getD i (.Pass ⟨0,0,0,0⟩)
structure Pre (K:PySem.W.Frag) (mg:Str->Option Value):Prop where
 gb:Gb mg
 g_MOST_COST:∃t:Tok,mg "MOST_COST"=some (.int 100 t)
 g_MOST_PLACES:∃t:Tok,mg "MOST_PLACES"=some (.int 12 t)
 g_MOST_PLACES_OF_TIE:∃t:Tok,mg "MOST_PLACES_OF_TIE"=some (.int 4 t)
 g_MOST_TIES:∃t:Tok,mg "MOST_TIES"=some (.int 30 t)
 g_MOST_WEIGHT:∃t:Tok,mg "MOST_WEIGHT"=some (.int 1000000 t)
 u_0:DefIn K mg "is_whole" (top 1) ["thing"]
 u_1:DefIn K mg "is_whole_within" (top 2) ["thing","least","most"]
 u_2:DefIn K mg "common_divisor" (top 3) ["one","other"]
 u_3:DefIn K mg "lowest" (top 4) ["top","bottom"]
 u_4:DefIn K mg "is_less" (top 5) ["one","other"]
 u_5:DefIn K mg "is_web" (top 16) ["thing"]
 u_6:DefIn K mg "are_costs" (top 17) ["thing"]
 u_7:DefIn K mg "are_ties" (top 18) ["thing","many"]
 u_8:DefIn K mg "is_tie" (top 19) ["thing","many"]
 u_9:DefIn K mg "are_tied_places" (top 20) ["thing","many"]
 u_10:DefIn K mg "are_places" (top 21) ["thing","many"]
 u_11:DefIn K mg "is_rising" (top 22) ["things"]
 u_12:DefIn K mg "need_web" (top 23) ["thing"]
 u_13:DefIn K mg "is_place" (top 24) ["web","thing"]
 u_14:DefIn K mg "need_place" (top 25) ["web","thing"]
 u_15:DefIn K mg "ties_within" (top 26) ["web","part"]
 u_16:DefIn K mg "stripped" (top 28) ["web"]
 u_17:DefIn K mg "lightest" (top 29) ["costs","ties","left"]
 u_18:DefIn K mg "cores" (top 31) ["web"]
 u_19:DefIn K mg "core_part" (top 32) ["web","place"]
 u_20:DefIn K mg "_law_mixed" (top 34) ["_law_cell"]
 u_21:DefIn K mg "_law_pack" (top 35) ["_law_script","_law_k"]
 u_22:DefIn K mg "_law_take" (top 36) ["_law_pack_here","_law_size"]
 u_23:DefIn K mg "_law_low" (top 37) ["_law_top","_law_bottom"]
 u_24:DefIn K mg "_law_under" (top 38) ["_law_one","_law_other"]
 u_25:DefIn K mg "_law_places" (top 39) ["_law_pack_here","_law_many"]
 u_26:DefIn K mg "_law_web" (top 40) ["_law_pack_here","_law_most","_law_ties"]
 u_27:DefIn K mg "_law_all_parts" (top 41) ["_law_places_here"]
 u_28:DefIn K mg "_law_ratio" (top 42) ["_law_web_here","_law_left","_law_place"]
 u_29:DefIn K mg "_law_least" (top 43) ["_law_web_here","_law_part"]
 u_30:DefIn K mg "_law_right" (top 44) ["_law_web_here"]
 u_31:DefIn K mg "law" (top 45) ["_law_script"]
structure All (P:Program) (w:World) (K:PySem.W.Frag) (mg:Str->Option Value) (base:Heap) (k:Nat) (F:Fs):Prop where
 h_0:FnAt P w K mg base k F 0 "is_whole" ["thing"]
 h_1:FnAt P w K mg base k F 1 "is_whole_within" ["thing","least","most"]
 h_2:FnAt P w K mg base k F 2 "common_divisor" ["one","other"]
 h_3:FnAt P w K mg base k F 3 "lowest" ["top","bottom"]
 h_4:FnAt P w K mg base k F 4 "is_less" ["one","other"]
 h_5:FnAt P w K mg base k F 5 "is_web" ["thing"]
 h_6:FnAt P w K mg base k F 6 "are_costs" ["thing"]
 h_7:FnAt P w K mg base k F 7 "are_ties" ["thing","many"]
 h_8:FnAt P w K mg base k F 8 "is_tie" ["thing","many"]
 h_9:FnAt P w K mg base k F 9 "are_tied_places" ["thing","many"]
 h_10:FnAt P w K mg base k F 10 "are_places" ["thing","many"]
 h_11:FnAt P w K mg base k F 11 "is_rising" ["things"]
 h_12:FnAt P w K mg base k F 12 "need_web" ["thing"]
 h_13:FnAt P w K mg base k F 13 "is_place" ["web","thing"]
 h_14:FnAt P w K mg base k F 14 "need_place" ["web","thing"]
 h_15:FnAt P w K mg base k F 15 "ties_within" ["web","part"]
 h_16:FnAt P w K mg base k F 16 "stripped" ["web"]
 h_17:FnAt P w K mg base k F 17 "lightest" ["costs","ties","left"]
 h_18:FnAt P w K mg base k F 18 "cores" ["web"]
 h_19:FnAt P w K mg base k F 19 "core_part" ["web","place"]
 h_20:FnAt P w K mg base k F 20 "_law_mixed" ["_law_cell"]
 h_21:FnAt P w K mg base k F 21 "_law_pack" ["_law_script","_law_k"]
 h_22:FnAt P w K mg base k F 22 "_law_take" ["_law_pack_here","_law_size"]
 h_23:FnAt P w K mg base k F 23 "_law_low" ["_law_top","_law_bottom"]
 h_24:FnAt P w K mg base k F 24 "_law_under" ["_law_one","_law_other"]
 h_25:FnAt P w K mg base k F 25 "_law_places" ["_law_pack_here","_law_many"]
 h_26:FnAt P w K mg base k F 26 "_law_web" ["_law_pack_here","_law_most","_law_ties"]
 h_27:FnAt P w K mg base k F 27 "_law_all_parts" ["_law_places_here"]
 h_28:FnAt P w K mg base k F 28 "_law_ratio" ["_law_web_here","_law_left","_law_place"]
 h_29:FnAt P w K mg base k F 29 "_law_least" ["_law_web_here","_law_part"]
 h_30:FnAt P w K mg base k F 30 "_law_right" ["_law_web_here"]
 h_31:FnAt P w K mg base k F 31 "law" ["_law_script"]
theorem sc_0:FnScope ["thing"] ["thing"] (defScope (top 1)):=⟨rfl,rfl,rfl,by decide +kernel,rfl,by decide +kernel,by decide +kernel⟩
theorem sc_1:FnScope ["thing","least","most"] ["thing","least","most"] (defScope (top 2)):=⟨rfl,rfl,rfl,by decide +kernel,rfl,by decide +kernel,by decide +kernel⟩
theorem sc_2:FnScope ["one","other"] ["one","other"] (defScope (top 3)):=⟨rfl,rfl,rfl,by decide +kernel,rfl,by decide +kernel,by decide +kernel⟩
theorem sc_3:FnScope ["top","bottom","divisor"] ["top","bottom"] (defScope (top 4)):=⟨rfl,rfl,rfl,by decide +kernel,rfl,by decide +kernel,by decide +kernel⟩
theorem sc_4:FnScope ["one","other"] ["one","other"] (defScope (top 5)):=⟨rfl,rfl,rfl,by decide +kernel,rfl,by decide +kernel,by decide +kernel⟩
theorem sc_5:FnScope ["thing","costs","ties"] ["thing"] (defScope (top 16)):=⟨rfl,rfl,rfl,by decide +kernel,rfl,by decide +kernel,by decide +kernel⟩
theorem sc_6:FnScope ["thing"] ["thing"] (defScope (top 17)):=⟨rfl,rfl,rfl,by decide +kernel,rfl,by decide +kernel,by decide +kernel⟩
theorem sc_7:FnScope ["thing","many"] ["thing","many"] (defScope (top 18)):=⟨rfl,rfl,rfl,by decide +kernel,rfl,by decide +kernel,by decide +kernel⟩
theorem sc_8:FnScope ["thing","many","places","heavy"] ["thing","many"] (defScope (top 19)):=⟨rfl,rfl,rfl,by decide +kernel,rfl,by decide +kernel,by decide +kernel⟩
theorem sc_9:FnScope ["thing","many"] ["thing","many"] (defScope (top 20)):=⟨rfl,rfl,rfl,by decide +kernel,rfl,by decide +kernel,by decide +kernel⟩
theorem sc_10:FnScope ["thing","many"] ["thing","many"] (defScope (top 21)):=⟨rfl,rfl,rfl,by decide +kernel,rfl,by decide +kernel,by decide +kernel⟩
theorem sc_11:FnScope ["things"] ["things"] (defScope (top 22)):=⟨rfl,rfl,rfl,by decide +kernel,rfl,by decide +kernel,by decide +kernel⟩
theorem sc_12:FnScope ["thing"] ["thing"] (defScope (top 23)):=⟨rfl,rfl,rfl,by decide +kernel,rfl,by decide +kernel,by decide +kernel⟩
theorem sc_13:FnScope ["web","thing"] ["web","thing"] (defScope (top 24)):=⟨rfl,rfl,rfl,by decide +kernel,rfl,by decide +kernel,by decide +kernel⟩
theorem sc_14:FnScope ["web","thing"] ["web","thing"] (defScope (top 25)):=⟨rfl,rfl,rfl,by decide +kernel,rfl,by decide +kernel,by decide +kernel⟩
theorem sc_15:FnScope ["web","part"] ["web","part"] (defScope (top 26)):=⟨rfl,rfl,rfl,by decide +kernel,rfl,by decide +kernel,by decide +kernel⟩
theorem sc_16:FnScope ["web","costs","left","order","part","most","ties","dense","taken"] ["web"] (defScope (top 28)):=⟨rfl,rfl,rfl,by decide +kernel,rfl,by decide +kernel,by decide +kernel⟩
theorem sc_17:FnScope ["costs","ties","left","degrees","place","places","heavy","least","number"] ["costs","ties","left"] (defScope (top 29)):=⟨rfl,rfl,rfl,by decide +kernel,rfl,by decide +kernel,by decide +kernel⟩
theorem sc_18:FnScope ["web","order","part","reached","most","place","number"] ["web"] (defScope (top 31)):=⟨rfl,rfl,rfl,by decide +kernel,rfl,by decide +kernel,by decide +kernel⟩
theorem sc_19:FnScope ["web","place","told"] ["web","place"] (defScope (top 32)):=⟨rfl,rfl,rfl,by decide +kernel,rfl,by decide +kernel,by decide +kernel⟩
theorem sc_20:FnScope ["_law_cell"] ["_law_cell"] (defScope (top 34)):=⟨rfl,rfl,rfl,by decide +kernel,rfl,by decide +kernel,by decide +kernel⟩
theorem sc_21:FnScope ["_law_script","_law_k","_law_found","_law_at","_law_cell"] ["_law_script","_law_k"] (defScope (top 35)):=⟨rfl,rfl,rfl,by decide +kernel,rfl,by decide +kernel,by decide +kernel⟩
theorem sc_22:FnScope ["_law_pack_here","_law_size","_law_digit"] ["_law_pack_here","_law_size"] (defScope (top 36)):=⟨rfl,rfl,rfl,by decide +kernel,rfl,by decide +kernel,by decide +kernel⟩
theorem sc_23:FnScope ["_law_top","_law_bottom","_law_one","_law_other"] ["_law_top","_law_bottom"] (defScope (top 37)):=⟨rfl,rfl,rfl,by decide +kernel,rfl,by decide +kernel,by decide +kernel⟩
theorem sc_24:FnScope ["_law_one","_law_other"] ["_law_one","_law_other"] (defScope (top 38)):=⟨rfl,rfl,rfl,by decide +kernel,rfl,by decide +kernel,by decide +kernel⟩
theorem sc_25:FnScope ["_law_pack_here","_law_many","_law_size","_law_left","_law_found"] ["_law_pack_here","_law_many"] (defScope (top 39)):=⟨rfl,rfl,rfl,by decide +kernel,rfl,by decide +kernel,by decide +kernel⟩
theorem sc_26:FnScope ["_law_pack_here","_law_most","_law_ties","_law_many","_law_costs","_law_known","_law_turn","_law_some"] ["_law_pack_here","_law_most","_law_ties"] (defScope (top 40)):=⟨rfl,rfl,rfl,by decide +kernel,rfl,by decide +kernel,by decide +kernel⟩
theorem sc_27:FnScope ["_law_places_here","_law_found","_law_place"] ["_law_places_here"] (defScope (top 41)):=⟨rfl,rfl,rfl,by decide +kernel,rfl,by decide +kernel,by decide +kernel⟩
theorem sc_28:FnScope ["_law_web_here","_law_left","_law_place","_law_found","_law_some","_law_mass"] ["_law_web_here","_law_left","_law_place"] (defScope (top 42)):=⟨rfl,rfl,rfl,by decide +kernel,rfl,by decide +kernel,by decide +kernel⟩
theorem sc_29:FnScope ["_law_web_here","_law_part","_law_found","_law_place","_law_told"] ["_law_web_here","_law_part"] (defScope (top 43)):=⟨rfl,rfl,rfl,by decide +kernel,rfl,by decide +kernel,by decide +kernel⟩
theorem sc_30:FnScope ["_law_web_here","_law_some","_law_known","_law_found","_law_place","_law_most","_law_part","_law_together"] ["_law_web_here"] (defScope (top 44)):=⟨rfl,rfl,rfl,by decide +kernel,rfl,by decide +kernel,by decide +kernel⟩
theorem sc_31:FnScope ["_law_script","_law_k"] ["_law_script"] (defScope (top 45)):=⟨rfl,rfl,rfl,by decide +kernel,rfl,by decide +kernel,by decide +kernel⟩
section
variable{P:Program}{w:World}{K:PySem.W.Frag}{mg:Str->Option Value}{base:Heap}{k n:Nat}{F:Fs}{f c t:Addr}{A:Around}{outer:List Env}{s:Shared}{H:Hp}{E:XK}
noncomputable abbrev Bdy(P:Program)(w:World)(K:PySem.W.Frag)(mg:Str->Option Value)(base:Heap)(n:Nat)(F:Fs)(f c:Addr)(A:Around)(outer:List Env)(s:Shared)(H:Hp)(E:XK)(N:List Str)(x:Str)(i:Nat)(b:CSs):Prop:=QSs (cxOf CX0 P w K mg base N x (defScope (top i)) f (.ref c) A outer s H E).nox (defBody (top i)) (TSm (exs F n b))
noncomputable abbrev Rm(k:Nat)(A:Around)(s:Shared)(f c:Addr)(x:Str)(i:Nat):Prop:=Room (k+2) (A.deeper (envOfC x (defScope (top i)) s.heap.objs.size f (.ref c)))
variable(p:Pre K mg)(a:All P w K mg base k F)(tab:codeTab K c t=true)
include p a tab
theorem b_0(b:Rm k A s f c "is_whole" 1):Bdy P w K mg base n F f c A outer s H E ["thing"] "is_whole" 1 c_0.body :=
 qd (qr (qaD (jn .int p.gb (qc 0)) (jh (qlP (jn .bool p.gb (qc 0)))))) qh
theorem b_1(b:Rm k A s f c "is_whole_within" 2):Bdy P w K mg base n F f c A outer s H E ["thing","least","most"] "is_whole_within" 2 c_1.body :=
 qd (qr (qaD (qi a.h_0 (m2 b) (qb (qc 0) qf)) (jh (qio .le .le b (qc 1) (qc 0) (qc 2))))) qh
theorem b_2(b:Rm k A s f c "common_divisor" 3):Bdy P w K mg base n F f c A outer s H E ["one","other"] "common_divisor" 3 c_2.body :=
 qd (qbb (qQ (qc 1)) (qd (qdG 0 1 (qb (qc 1) (qb (qu .mod (qc 0) (qc 1)) qf))) qh)) (qd (qr (qc 0)) qh)
theorem b_3(b:Rm k A s f c "lowest" 4):Bdy P w K mg base n F f c A outer s H E ["top","bottom","divisor"] "lowest" 4 c_3.body :=
 qd (qw 2 (qi a.h_2 (m2 b) (qb (qgo p.gb (qb (qc 0) qf)) (qb (qc 1) qf)))) (qd (qr (zt (qb (qu .fdiv (qc 0) (qc 2)) (qb (qu .fdiv (qc 1) (qc 2)) qf)))) qh)
theorem b_4(b:Rm k A s f c "is_less" 5):Bdy P w K mg base n F f c A outer s H E ["one","other"] "is_less" 5 c_4.body :=
 qd (qr (qaC .lt b (qu .mul (qv b (qc 0) qg) (qv b (qc 1) qg)) (qu .mul (qv b (qc 1) qg) (qv b (qc 0) qg)))) qh
theorem b_5(b:Rm k A s f c "is_web" 16):Bdy P w K mg base n F f c A outer s H E ["thing","costs","ties"] "is_web" 16 c_5.body :=
 qd (z_if (Qpt (w_or (zE (qQ (jn .tuple p.gb (qc 0)))) (jo (zO .ne b (zu p.gb (qb (qc 0) qf)) qg)))) (qd (qr zC) qh) qh) (qd (jX (qc 0) (yi (qD (qo 1) (qD (qo 2) yh)))) (qd (qr (qaD (qi a.h_6 (m2 b) (qb (qc 1) qf)) (jh (qi a.h_7 (m2 b) (qb (qc 2) (qb (zu p.gb (qb (qc 1) qf)) qf)))))) qh))
theorem b_6(b:Rm k A s f c "are_costs" 17):Bdy P w K mg base n F f c A outer s H E ["thing"] "are_costs" 17 c_6.body :=
 qd (z_if (Qpt (w_or (zE (qQ (jn .tuple p.gb (qc 0)))) (jo (zE (qip .le .le b qg (zu p.gb (qb (qc 0) qf)) (jU (p.g_MOST_PLACES).choose_spec)))))) (qd (qr zC) qh) qh) (qd (qr (jY [] [] ["one"] b p.gb rfl tab (qS (qc 0)) (λ_ _ _ _ _ _ _ _=>qo 0) (λ_ _ _ _ _ _ _ _=>q9) (λ_ _ _ _ _ _ _ _=>qi a.h_1 (m1 (qT b)) (qb (qc 0) (qb qg (qb (jU (p.g_MOST_COST).choose_spec) qf)))))) qh)
theorem b_7(b:Rm k A s f c "are_ties" 18):Bdy P w K mg base n F f c A outer s H E ["thing","many"] "are_ties" 18 c_7.body :=
 qd (z_if (Qpt (w_or (zE (qQ (jn .tuple p.gb (qc 0)))) (jo (zO .gt b (zu p.gb (qb (qc 0) qf)) (jU (p.g_MOST_TIES).choose_spec))))) (qd (qr zC) qh) qh) (qd (z_if (zE (qQ (jY [1] ["many"] ["one"] b p.gb rfl tab (qS (qc 0)) (λ_ _ _ _ _ _ _ _=>qo 1) (λ_ _ _ _ _ _ _ _=>q9) (λ_ _ _ _ _ _ _ _=>qi a.h_8 (m1 (qT b)) (qb (qc 1) (qb (qc 0) qf)))))) (qd (qr zC) qh) qh) (qd (qr (qi a.h_11 (m2 b) (qb (k_lc false [] [] ["places","heavy"] (qS (qc 0)) (λ_ _ _ _ _=>yi (qD (qo 0) (qD (qo 1) yh))) (λ_ _ _ _ _=>q9) (λ_ _ _ _ _=>qc 0)) qf))) qh))
theorem b_8(b:Rm k A s f c "is_tie" 19):Bdy P w K mg base n F f c A outer s H E ["thing","many","places","heavy"] "is_tie" 19 c_8.body :=
 qd (z_if (Qpt (w_or (zE (qQ (jn .tuple p.gb (qc 0)))) (jo (zO .ne b (zu p.gb (qb (qc 0) qf)) qg)))) (qd (qr zC) qh) qh) (qd (jX (qc 0) (yi (qD (qo 2) (qD (qo 3) yh)))) (qd (qr (qaD (qi a.h_9 (m2 b) (qb (qc 2) (qb (qc 1) qf))) (jh (qi a.h_1 (m2 b) (qb (qc 3) (qb qg (qb (jU (p.g_MOST_WEIGHT).choose_spec) qf))))))) qh))
theorem b_9(b:Rm k A s f c "are_tied_places" 20):Bdy P w K mg base n F f c A outer s H E ["thing","many"] "are_tied_places" 20 c_9.body :=
 qd (qr (qaD (qi a.h_10 (m2 b) (qb (qc 0) (qb (qc 1) qf))) (jh (qaC .le b (zu p.gb (qb (qc 0) qf)) (jU (p.g_MOST_PLACES_OF_TIE).choose_spec))))) qh
theorem b_10(b:Rm k A s f c "are_places" 21):Bdy P w K mg base n F f c A outer s H E ["thing","many"] "are_places" 21 c_10.body :=
 qd (z_if (Qpt (w_or (zE (qQ (jn .tuple p.gb (qc 0)))) (jo (zE (qQ (qc 0)))))) (qd (qr zC) qh) qh) (qd (qr (qaD (jY [1] ["many"] ["one"] b p.gb rfl tab (qS (qc 0)) (λ_ _ _ _ _ _ _ _=>qo 1) (λ_ _ _ _ _ _ _ _=>q9) (λ_ _ _ _ _ _ _ _=>qi a.h_1 (m1 (qT b)) (qb (qc 1) (qb qg (qb (qu .sub (qc 0) qg) qf))))) (jh (qi a.h_11 (m2 b) (qb (qc 0) qf))))) qh)
theorem b_11(b:Rm k A s f c "is_rising" 22):Bdy P w K mg base n F f c A outer s H E ["things"] "is_rising" 22 c_11.body :=
 qd (qr (jY [] [] ["one","other"] b p.gb rfl tab (qlT p.gb (qc 0) (qdD (qc 0) (k_os qg) (k_on))) (λ_ _ _ _ _ _ _ _=>yi (qD (qo 0) (qD (qo 1) yh))) (λ_ _ _ _ _ _ _ _=>q9) (λ_ _ _ _ _ _ _ _=>qaC .lt (qT b) (qc 0) (qc 1)))) qh
theorem b_12(b:Rm k A s f c "need_web" 23):Bdy P w K mg base n F f c A outer s H E ["thing"] "need_web" 23 c_12.body :=
 qd (z_if (zE (qQ (qi a.h_5 (m2 b) (qb (qc 0) qf)))) (qd (qdE) qh) qh) qh
theorem b_13(b:Rm k A s f c "is_place" 24):Bdy P w K mg base n F f c A outer s H E ["web","thing"] "is_place" 24 c_13.body :=
 qd (qr (qi a.h_1 (m2 b) (qb (qc 1) (qb qg (qb (qu .sub (zu p.gb (qb (qv b (qc 0) qg) qf)) qg) qf))))) qh
theorem b_14(b:Rm k A s f c "need_place" 25):Bdy P w K mg base n F f c A outer s H E ["web","thing"] "need_place" 25 c_14.body :=
 qd (z_if (zE (qQ (qi a.h_13 (m2 b) (qb (qc 0) (qb (qc 1) qf))))) (qd (qdE) qh) qh) qh
theorem b_15(b:Rm k A s f c "ties_within" 26):Bdy P w K mg base n F f c A outer s H E ["web","part"] "ties_within" 26 c_15.body :=
 qd (qr (k_lc false [1] ["part"] ["tie"] (qS (qv b (qc 0) qg)) (λ_ _ _ _ _=>qo 1) (λ_ _ _ _ _=>qcV (qQ (jY [0] ["part"] ["place"] b p.gb rfl tab (qS (qv b (qc 1) qg)) (λ_ _ _ _ _ _ _ _=>qo 1) (λ_ _ _ _ _ _ _ _=>q9) (λ_ _ _ _ _ _ _ _=>qaC .inn (qT b) (qc 1) (qc 0)))) q9) (λ_ _ _ _ _=>qc 1))) qh
theorem b_16(b:Rm k A s f c "stripped" 28):Bdy P w K mg base n F f c A outer s H E ["web","costs","left","order","part","most","ties","dense","taken"] "stripped" 28 c_16.body :=
 qd (jW (qi a.h_12 (m2 b) (qb (qc 0) qf))) (qd (qw 1 (qv b (qc 0) qg)) (qd (qw 2 (qcU true p.gb (qb (zu p.gb (qb (qc 1) qf)) qf))) (qd (qw 3 (jl true qf)) (qd (jX (zt (qb (zt qf) (qb (zt (qb (qlO qg) (qb qg qf))) qf))) (yi (qD (qo 4) (qD (qo 5) yh)))) (qd (qbb (qQ (qc 2)) (qd (qw 6 (qi a.h_15 (m2 b) (qb (qc 0) (qb (qc 2) qf)))) (qd (qw 7 (qi a.h_3 (m2 b) (qb (qj9 [] [] ["places","heavy"] b p.gb rfl tab (qS (qc 6)) (λ_ _ _ _ _ _ _ _=>yi (qD (qo 0) (qD (qo 1) yh))) (λ_ _ _ _ _ _ _ _=>q9) (λ_ _ _ _ _ _ _ _=>qc 1)) (qb (qiv [1] ["costs"] ["place"] b p.gb rfl tab (qc 2) (λ_ _ _ _ _ _ _ _=>qo 1) (λ_ _ _ _ _ _ _ _=>q9) (λ_ _ _ _ _ _ _ _=>qv (qT b) (qc 0) (qc 1))) qf)))) (qd (z_if (qQ (qi a.h_4 (m2 b) (qb (qc 5) (qb (qc 7) qf)))) (qd (qdG 4 5 (qb (yv p.gb (qb (qc 2) qf)) (qb (qc 7) qf))) qh) qh) (qd (qw 8 (qi a.h_17 (m2 b) (qb (qc 1) (qb (qc 6) (qb (qc 2) qf))))) (qd (jW (qlS (qc 3) (qc 8))) (qd (jW (qlY (qc 2) (qv b (qc 8) qg))) qh))))))) (qd (qr (zt (qb (yv p.gb (qb (qc 3) qf)) (qb (qc 4) qf)))) qh))))))
theorem b_17(b:Rm k A s f c "lightest" 29):Bdy P w K mg base n F f c A outer s H E ["costs","ties","left","degrees","place","places","heavy","least","number"] "lightest" 29 c_17.body :=
 qd (qgy 3 0 (qc 2) (λ_ _ _ _ _=>qkk 0) (λ_ _ _ _ _=>qkn 0)) (qd (zX (qS (qc 1)) (yi (qD (qo 5) (qD (qo 6) yh))) (qd (zX (qS (qc 5)) (qo 4) (qd (qkm (m2 b) (qc 3) (qc 4) (qc 6)) qh)) qh)) (qd (qw 7 (zt (qb (qv b (qc 2) qg) (qb (qi a.h_3 (m2 b) (qb (qgs b (qc 3) (qv b (qc 2) qg)) (qb (qv b (qc 0) (qv b (qc 2) qg)) qf))) qf)))) (qd (zX (qS (qdD (qc 2) (k_os qg) (k_on))) (qo 4) (qd (qw 8 (qi a.h_3 (m2 b) (qb (qgs b (qc 3) (qc 4)) (qb (qv b (qc 0) (qc 4)) qf)))) (qd (z_if (qQ (qi a.h_4 (m2 b) (qb (qc 8) (qb (qv b (qc 7) qg) qf)))) (qd (qw 7 (zt (qb (qc 4) (qb (qc 8) qf)))) qh) qh) qh))) (qd (qr (qc 7)) qh))))
theorem b_18(b:Rm k A s f c "cores" 31):Bdy P w K mg base n F f c A outer s H E ["web","order","part","reached","most","place","number"] "cores" 31 c_18.body :=
 qd (jX (qi a.h_16 (m2 b) (qb (qc 0) qf)) (yi (qD (qo 1) (qD (qo 2) yh)))) (qd (qw 3 (qlW)) (qd (qw 4 (zt (qb qg (qb qg qf)))) (qd (zX (qS (qc 1)) (yi (qD (qo 5) (qD (qo 6) yh))) (qd (z_if (qQ (qi a.h_4 (m2 b) (qb (qc 4) (qb (qc 6) qf)))) (qd (qw 4 (qc 6)) qh) qh) (qd (jX (qc 4) (qgl b (qc 3) (qc 5))) qh))) (qd (qr (qb3 [3] ["reached"] ["place"] b p.gb rfl tab (jV p.gb (qb (zu p.gb (qb (qc 1) qf)) qf)) (λ_ _ _ _ _ _ _ _=>qo 1) (λ_ _ _ _ _ _ _ _=>q9) (λ_ _ _ _ _ _ _ _=>qgs (qT b) (qc 0) (qc 1)))) qh))))
theorem b_19(b:Rm k A s f c "core_part" 32):Bdy P w K mg base n F f c A outer s H E ["web","place","told"] "core_part" 32 c_19.body :=
 qd (jW (qi a.h_12 (m2 b) (qb (qc 0) qf))) (qd (jW (qi a.h_14 (m2 b) (qb (qc 0) (qb (qc 1) qf)))) (qd (qw 2 (qi a.h_18 (m2 b) (qb (qc 0) qf))) (qd (qr (qb3 [2,1] ["told","place"] ["other"] b p.gb rfl tab (jV p.gb (qb (zu p.gb (qb (qc 2) qf)) qf)) (λ_ _ _ _ _ _ _ _=>qo 2) (λ_ _ _ _ _ _ _ _=>qcV (zE (qQ (qi a.h_4 (m1 (qT b)) (qb (qv (qT b) (qc 0) (qc 2)) (qb (qv (qT b) (qc 0) (qc 1)) qf))))) q9) (λ_ _ _ _ _ _ _ _=>qc 2))) qh)))
theorem b_20(b:Rm k A s f c "_law_mixed" 34):Bdy P w K mg base n F f c A outer s H E ["_law_cell"] "_law_mixed" 34 c_20.body :=
 qd (qr (qu .mod (qu .mul (qu .mod (qc 0) (qu .pow qg qg)) qg) (qu .pow qg qg))) qh
theorem b_21(b:Rm k A s f c "_law_pack" 35):Bdy P w K mg base n F f c A outer s H E ["_law_script","_law_k","_law_found","_law_at","_law_cell"] "_law_pack" 35 c_21.body :=
 qd (qw 2 qg) (qd (zX (qS (jl false (qb (qu .add (qc 1) qg) (qb (qc 1) qf)))) (qo 3) (qd (qw 4 (qv b (qu .add (qdD (qc 0) (k_os (qc 3)) (k_os (qu .add (qc 3) qg))) (jl false (qb (qu .add (qu .add (qu .mul qg (qc 3)) qg) (qu .mul qg (qv b (qu .add (qc 0) (jl false (qb qg qf))) qg))) qf))) qg)) (qd (qw 2 (qu .add (qu .mul (qc 2) (qu .pow qg qg)) (qi a.h_20 (m2 b) (qb (qc 4) qf)))) qh))) (qd (qr (jl true (qb (qc 2) qf))) qh))
theorem b_22(b:Rm k A s f c "_law_take" 36):Bdy P w K mg base n F f c A outer s H E ["_law_pack_here","_law_size","_law_digit"] "_law_take" 36 c_22.body :=
 qd (jX (qgp p.gb (qb (qv b (qc 0) qg) (qb (qc 1) qf))) (yi (qD (qgl b (qc 0) qg) (qD (qo 2) yh)))) (qd (qr (qc 2)) qh)
theorem b_23(b:Rm k A s f c "_law_low" 37):Bdy P w K mg base n F f c A outer s H E ["_law_top","_law_bottom","_law_one","_law_other"] "_law_low" 37 c_23.body :=
 qd (qdG 2 3 (qb (qgo p.gb (qb (qc 0) qf)) (qb (qgo p.gb (qb (qc 1) qf)) qf))) (qd (qbb (zO .ne b (qc 3) qg) (qd (qdG 2 3 (qb (qc 3) (qb (qu .mod (qc 2) (qc 3)) qf))) qh)) (qd (z_if (zO .lt b (qc 1) qg) (qd (qw 2 (qu .sub qg (qc 2))) qh) qh) (qd (qr (zt (qb (qu .fdiv (qc 0) (qc 2)) (qb (qu .fdiv (qc 1) (qc 2)) qf)))) qh)))
theorem b_24(b:Rm k A s f c "_law_under" 38):Bdy P w K mg base n F f c A outer s H E ["_law_one","_law_other"] "_law_under" 38 c_24.body :=
 qd (qr (qaC .lt b (qu .mul (qv b (qc 0) qg) (qv b (qc 1) qg)) (qu .mul (qv b (qc 1) qg) (qv b (qc 0) qg)))) qh
theorem b_25(b:Rm k A s f c "_law_places" 39):Bdy P w K mg base n F f c A outer s H E ["_law_pack_here","_law_many","_law_size","_law_left","_law_found"] "_law_places" 39 c_25.body :=
 qd (qw 2 (qv b (jl false (qb qg (qb qg (qb qg (qb qg (qb qg (qb qg (qb qg (qb qg qf))))))))) (qi a.h_22 (m2 b) (qb (qc 0) (qb qg qf))))) (qd (qw 3 (qcU true p.gb (qb (qc 1) qf))) (qd (qdF 4 false [3,0] ["_law_left","_law_pack_here"] ["_law_turn"] (jV p.gb (qb (qi4 p.gb (qb (qc 2) (qb (qc 1) qf))) qf)) (λ_ _ _ _ _=>qo 2) (λ_ _ _ _ _=>q9) (λ_ _ _ _ _=>qlR (qc 0) (qi a.h_22 (m2 b) (qb (qc 1) (qb (zu p.gb (qb (qc 0) qf)) qf))))) (qd (qr (yv p.gb (qb (qb2 false p.gb (qb (qc 4) qf)) qf))) qh)))
theorem b_26(b:Rm k A s f c "_law_web" 40):Bdy P w K mg base n F f c A outer s H E ["_law_pack_here","_law_most","_law_ties","_law_many","_law_costs","_law_known","_law_turn","_law_some"] "_law_web" 40 c_26.body :=
 qd (qw 3 (qu .add qg (qi a.h_22 (m2 b) (qb (qc 0) (qb (qc 1) qf))))) (qd (qw 4 (qu .mul (jl false (qb qg qf)) (qc 3))) (qd (z_if (zO .eq b (qi a.h_22 (m2 b) (qb (qc 0) (qb qg qf))) qg) (qd (qdF 4 false [0] ["_law_pack_here"] ["_law_place"] (jV p.gb (qb (qc 3) qf)) (λ_ _ _ _ _=>qo 1) (λ_ _ _ _ _=>q9) (λ_ _ _ _ _=>qu .add qg (qi a.h_22 (m2 b) (qb (qc 0) (qb qg qf))))) qh) qh) (qd (qw 5 (qlQ true)) (qd (zX (jV p.gb (qb (qi a.h_22 (m2 b) (qb (qc 0) (qb (qu .add (qc 2) qg) qf))) qf)) (qo 6) (qd (qw 7 (qi a.h_25 (m2 b) (qb (qc 0) (qb (qc 3) qf)))) (qd (jX (qu .add qg (qi a.h_22 (m2 b) (qb (qc 0) (qb qg qf)))) (qgl b (qc 5) (qc 7))) qh))) (qd (qr (zt (qb (yv p.gb (qb (qc 4) qf)) (qb (yv p.gb (qb (k_lc false [5] ["_law_known"] ["_law_some"] (qS (qb2 false p.gb (qb (qc 5) qf))) (λ_ _ _ _ _=>qo 1) (λ_ _ _ _ _=>q9) (λ_ _ _ _ _=>zt (qb (qc 1) (qb (qv b (qc 0) (qc 1)) qf)))) qf)) qf)))) qh)))))
theorem b_27(b:Rm k A s f c "_law_all_parts" 41):Bdy P w K mg base n F f c A outer s H E ["_law_places_here","_law_found","_law_place"] "_law_all_parts" 41 c_27.body :=
 qd (qw 1 (jl false (qb (zt qf) qf))) (qd (zX (qS (qc 0)) (qo 2) (qd (qw 1 (qu .add (qc 1) (k_lc false [2] ["_law_place"] ["_law_part"] (qS (qc 1)) (λ_ _ _ _ _=>qo 1) (λ_ _ _ _ _=>q9) (λ_ _ _ _ _=>qu .add (qc 1) (zt (qb (qc 0) qf)))))) qh)) (qd (qr (qdD (qc 1) (k_os qg) (k_on))) qh))
theorem b_28(b:Rm k A s f c "_law_ratio" 42):Bdy P w K mg base n F f c A outer s H E ["_law_web_here","_law_left","_law_place","_law_found","_law_some","_law_mass"] "_law_ratio" 42 c_28.body :=
 qd (qw 3 qg) (qd (zX (qS (qv b (qc 0) qg)) (yi (qD (qo 4) (qD (qo 5) yh))) (qd (z_if (Qpt (qi2 (zO .inn b (qc 2) (qc 4)) (qgk (qQ (qlV p.gb (qb (k_lc false [1] ["_law_left"] ["_law_one"] (qS (qc 4)) (λ_ _ _ _ _=>qo 1) (λ_ _ _ _ _=>q9) (λ_ _ _ _ _=>qaC .inn b (qc 1) (qc 0))) qf)))))) (qd (qw 3 (qu .add (qc 3) (qc 5))) qh) qh) qh)) (qd (qr (qi a.h_23 (m2 b) (qb (qc 3) (qb (qv b (qv b (qc 0) qg) (qc 2)) qf)))) qh))
theorem b_29(b:Rm k A s f c "_law_least" 43):Bdy P w K mg base n F f c A outer s H E ["_law_web_here","_law_part","_law_found","_law_place","_law_told"] "_law_least" 43 c_29.body :=
 qd (qw 2 qgj) (qd (zX (qS (qc 1)) (qo 3) (qd (qw 4 (qi a.h_28 (m2 b) (qb (qc 0) (qb (qc 1) (qb (qc 3) qf))))) (qd (z_if (Qpt (w_or (zO .is b (qc 2) qgj) (jo (qQ (qi a.h_24 (m2 b) (qb (qc 4) (qb (qc 2) qf))))))) (qd (qw 2 (qc 4)) qh) qh) qh))) (qd (qr (qc 2)) qh))
theorem b_30(b:Rm k A s f c "_law_right" 44):Bdy P w K mg base n F f c A outer s H E ["_law_web_here","_law_some","_law_known","_law_found","_law_place","_law_most","_law_part","_law_together"] "_law_right" 44 c_30.body :=
 qd (qw 1 (qi a.h_27 (m2 b) (qb (qcU false p.gb (qb (zu p.gb (qb (qv b (qc 0) qg) qf)) qf)) qf))) (qd (qw 2 (qiB (m2 b) p.gb (qb (k_lc false [0] ["_law_web_here"] ["_law_part"] (qS (qc 1)) (λ_ _ _ _ _=>qo 1) (λ_ _ _ _ _=>q9) (λ_ _ _ _ _=>zt (qb (qc 1) (qb (qi a.h_29 (m2 b) (qb (qc 0) (qb (qc 1) qf))) qf)))) qf))) (qd (qw 3 (qi a.h_18 (m2 b) (qb (qc 0) qf))) (qd (z_if (Qpt (w_or (zE (qQ (jn .tuple p.gb (qc 3)))) (w_or (zO .ne b (zu p.gb (qb (qc 3) qf)) (zu p.gb (qb (qv b (qc 0) qg) qf))) (jo (zO .ne b (qi a.h_18 (m2 b) (qb (qc 0) qf)) (qc 3)))))) (qd (qr zC) qh) qh) (qd (zX (jV p.gb (qb (zu p.gb (qb (qv b (qc 0) qg) qf)) qf)) (qo 4) (qd (qw 5 (zt (qb qg (qb qg qf)))) (qd (zX (qS (qc 1)) (qo 6) (qd (z_if (Qpt (qi2 (zO .inn b (qc 4) (qc 6)) (qgk (qQ (qi a.h_24 (m2 b) (qb (qc 5) (qb (qv b (qc 2) (qc 6)) qf))))))) (qd (qw 5 (qv b (qc 2) (qc 6))) qh) qh) qh)) (qd (qw 7 (qkt false p.gb (qb (qkv p.gb (qb (k_lc false [2,5] ["_law_known","_law_most"] ["_law_part"] (qS (qc 1)) (λ_ _ _ _ _=>qo 2) (λ_ _ _ _ _=>qcV (zE (qQ (qi a.h_24 (m2 b) (qb (qv b (qc 0) (qc 2)) (qb (qc 1) qf))))) q9) (λ_ _ _ _ _=>qc 2)) (qb (zt qf) qf))) qf))) (qd (z_if (Qpt (w_or (zO .ne b (qv b (qc 3) (qc 4)) (qc 5)) (jo (zO .ne b (qi a.h_19 (m2 b) (qb (qc 0) (qb (qc 4) qf))) (yv p.gb (qb (qc 7) qf)))))) (qd (qr zC) qh) qh) qh))))) (qd (qr zC) qh)))))
theorem b_31(b:Rm k A s f c "law" 45):Bdy P w K mg base n F f c A outer s H E ["_law_script","_law_k"] "law" 45 qdL.body :=
 qd (zX (jV p.gb (qb qg (qb (qlU p.gb (qb qg (qb (qi4 p.gb (qb (zu p.gb (qb (qc 0) qf)) (qb qg qf))) qf))) (qb qg qf)))) (qo 1) (qd (z_if (zE (qQ (qi a.h_30 (m2 b) (qb (qi a.h_26 (m2 b) (qb (qi a.h_21 (m2 b) (qb (qc 0) (qb (qc 1) qf))) (qb qg (qb qg qf)))) qf)))) (qd (qr zC) qh) qh) qh)) (qd (qr zC) qh)
end
section
variable{P:Program}{w:World}{K:PySem.W.Frag}{mg:Str->Option Value}{base:Heap}{k N d:Nat}(p:Pre K mg)(a:All P w K mg base k (run prg N d)){f:Addr}{fd:FuncData}{c t:Addr}
include p a
theorem o_0(U:FunT K "is_whole" (top 1) f fd c t):FnOk P w K mg base CX0 (k+3) f fd ["thing"] (SpD 1 (run prg N (d+1) 0)):=qz (G:=run prg N (d+1)) (i:=0) U sc_0 rfl rfl (by decide) rfl λA outer s H E b=>b_0 p a U.tab b
theorem o_1(U:FunT K "is_whole_within" (top 2) f fd c t):FnOk P w K mg base CX0 (k+3) f fd ["thing","least","most"] (SpD 3 (run prg N (d+1) 1)):=qz (G:=run prg N (d+1)) (i:=1) U sc_1 rfl rfl (by decide) rfl λA outer s H E b=>b_1 p a U.tab b
theorem o_2(U:FunT K "common_divisor" (top 3) f fd c t):FnOk P w K mg base CX0 (k+3) f fd ["one","other"] (SpD 2 (run prg N (d+1) 2)):=qz (G:=run prg N (d+1)) (i:=2) U sc_2 rfl rfl (by decide) rfl λA outer s H E b=>b_2 p a U.tab b
theorem o_3(U:FunT K "lowest" (top 4) f fd c t):FnOk P w K mg base CX0 (k+3) f fd ["top","bottom"] (SpD 2 (run prg N (d+1) 3)):=qz (G:=run prg N (d+1)) (i:=3) U sc_3 rfl rfl (by decide) rfl λA outer s H E b=>b_3 p a U.tab b
theorem o_4(U:FunT K "is_less" (top 5) f fd c t):FnOk P w K mg base CX0 (k+3) f fd ["one","other"] (SpD 2 (run prg N (d+1) 4)):=qz (G:=run prg N (d+1)) (i:=4) U sc_4 rfl rfl (by decide) rfl λA outer s H E b=>b_4 p a U.tab b
theorem o_5(U:FunT K "is_web" (top 16) f fd c t):FnOk P w K mg base CX0 (k+3) f fd ["thing"] (SpD 1 (run prg N (d+1) 5)):=qz (G:=run prg N (d+1)) (i:=5) U sc_5 rfl rfl (by decide) rfl λA outer s H E b=>b_5 p a U.tab b
theorem o_6(U:FunT K "are_costs" (top 17) f fd c t):FnOk P w K mg base CX0 (k+3) f fd ["thing"] (SpD 1 (run prg N (d+1) 6)):=qz (G:=run prg N (d+1)) (i:=6) U sc_6 rfl rfl (by decide) rfl λA outer s H E b=>b_6 p a U.tab b
theorem o_7(U:FunT K "are_ties" (top 18) f fd c t):FnOk P w K mg base CX0 (k+3) f fd ["thing","many"] (SpD 2 (run prg N (d+1) 7)):=qz (G:=run prg N (d+1)) (i:=7) U sc_7 rfl rfl (by decide) rfl λA outer s H E b=>b_7 p a U.tab b
theorem o_8(U:FunT K "is_tie" (top 19) f fd c t):FnOk P w K mg base CX0 (k+3) f fd ["thing","many"] (SpD 2 (run prg N (d+1) 8)):=qz (G:=run prg N (d+1)) (i:=8) U sc_8 rfl rfl (by decide) rfl λA outer s H E b=>b_8 p a U.tab b
theorem o_9(U:FunT K "are_tied_places" (top 20) f fd c t):FnOk P w K mg base CX0 (k+3) f fd ["thing","many"] (SpD 2 (run prg N (d+1) 9)):=qz (G:=run prg N (d+1)) (i:=9) U sc_9 rfl rfl (by decide) rfl λA outer s H E b=>b_9 p a U.tab b
theorem o_10(U:FunT K "are_places" (top 21) f fd c t):FnOk P w K mg base CX0 (k+3) f fd ["thing","many"] (SpD 2 (run prg N (d+1) 10)):=qz (G:=run prg N (d+1)) (i:=10) U sc_10 rfl rfl (by decide) rfl λA outer s H E b=>b_10 p a U.tab b
theorem o_11(U:FunT K "is_rising" (top 22) f fd c t):FnOk P w K mg base CX0 (k+3) f fd ["things"] (SpD 1 (run prg N (d+1) 11)):=qz (G:=run prg N (d+1)) (i:=11) U sc_11 rfl rfl (by decide) rfl λA outer s H E b=>b_11 p a U.tab b
theorem o_12(U:FunT K "need_web" (top 23) f fd c t):FnOk P w K mg base CX0 (k+3) f fd ["thing"] (SpD 1 (run prg N (d+1) 12)):=qz (G:=run prg N (d+1)) (i:=12) U sc_12 rfl rfl (by decide) rfl λA outer s H E b=>b_12 p a U.tab b
theorem o_13(U:FunT K "is_place" (top 24) f fd c t):FnOk P w K mg base CX0 (k+3) f fd ["web","thing"] (SpD 2 (run prg N (d+1) 13)):=qz (G:=run prg N (d+1)) (i:=13) U sc_13 rfl rfl (by decide) rfl λA outer s H E b=>b_13 p a U.tab b
theorem o_14(U:FunT K "need_place" (top 25) f fd c t):FnOk P w K mg base CX0 (k+3) f fd ["web","thing"] (SpD 2 (run prg N (d+1) 14)):=qz (G:=run prg N (d+1)) (i:=14) U sc_14 rfl rfl (by decide) rfl λA outer s H E b=>b_14 p a U.tab b
theorem o_15(U:FunT K "ties_within" (top 26) f fd c t):FnOk P w K mg base CX0 (k+3) f fd ["web","part"] (SpD 2 (run prg N (d+1) 15)):=qz (G:=run prg N (d+1)) (i:=15) U sc_15 rfl rfl (by decide) rfl λA outer s H E b=>b_15 p a U.tab b
theorem o_16(U:FunT K "stripped" (top 28) f fd c t):FnOk P w K mg base CX0 (k+3) f fd ["web"] (SpD 1 (run prg N (d+1) 16)):=qz (G:=run prg N (d+1)) (i:=16) U sc_16 rfl rfl (by decide) rfl λA outer s H E b=>b_16 p a U.tab b
theorem o_17(U:FunT K "lightest" (top 29) f fd c t):FnOk P w K mg base CX0 (k+3) f fd ["costs","ties","left"] (SpD 3 (run prg N (d+1) 17)):=qz (G:=run prg N (d+1)) (i:=17) U sc_17 rfl rfl (by decide) rfl λA outer s H E b=>b_17 p a U.tab b
theorem o_18(U:FunT K "cores" (top 31) f fd c t):FnOk P w K mg base CX0 (k+3) f fd ["web"] (SpD 1 (run prg N (d+1) 18)):=qz (G:=run prg N (d+1)) (i:=18) U sc_18 rfl rfl (by decide) rfl λA outer s H E b=>b_18 p a U.tab b
theorem o_19(U:FunT K "core_part" (top 32) f fd c t):FnOk P w K mg base CX0 (k+3) f fd ["web","place"] (SpD 2 (run prg N (d+1) 19)):=qz (G:=run prg N (d+1)) (i:=19) U sc_19 rfl rfl (by decide) rfl λA outer s H E b=>b_19 p a U.tab b
theorem o_20(U:FunT K "_law_mixed" (top 34) f fd c t):FnOk P w K mg base CX0 (k+3) f fd ["_law_cell"] (SpD 1 (run prg N (d+1) 20)):=qz (G:=run prg N (d+1)) (i:=20) U sc_20 rfl rfl (by decide) rfl λA outer s H E b=>b_20 p a U.tab b
theorem o_21(U:FunT K "_law_pack" (top 35) f fd c t):FnOk P w K mg base CX0 (k+3) f fd ["_law_script","_law_k"] (SpD 2 (run prg N (d+1) 21)):=qz (G:=run prg N (d+1)) (i:=21) U sc_21 rfl rfl (by decide) rfl λA outer s H E b=>b_21 p a U.tab b
theorem o_22(U:FunT K "_law_take" (top 36) f fd c t):FnOk P w K mg base CX0 (k+3) f fd ["_law_pack_here","_law_size"] (SpD 2 (run prg N (d+1) 22)):=qz (G:=run prg N (d+1)) (i:=22) U sc_22 rfl rfl (by decide) rfl λA outer s H E b=>b_22 p a U.tab b
theorem o_23(U:FunT K "_law_low" (top 37) f fd c t):FnOk P w K mg base CX0 (k+3) f fd ["_law_top","_law_bottom"] (SpD 2 (run prg N (d+1) 23)):=qz (G:=run prg N (d+1)) (i:=23) U sc_23 rfl rfl (by decide) rfl λA outer s H E b=>b_23 p a U.tab b
theorem o_24(U:FunT K "_law_under" (top 38) f fd c t):FnOk P w K mg base CX0 (k+3) f fd ["_law_one","_law_other"] (SpD 2 (run prg N (d+1) 24)):=qz (G:=run prg N (d+1)) (i:=24) U sc_24 rfl rfl (by decide) rfl λA outer s H E b=>b_24 p a U.tab b
theorem o_25(U:FunT K "_law_places" (top 39) f fd c t):FnOk P w K mg base CX0 (k+3) f fd ["_law_pack_here","_law_many"] (SpD 2 (run prg N (d+1) 25)):=qz (G:=run prg N (d+1)) (i:=25) U sc_25 rfl rfl (by decide) rfl λA outer s H E b=>b_25 p a U.tab b
theorem o_26(U:FunT K "_law_web" (top 40) f fd c t):FnOk P w K mg base CX0 (k+3) f fd ["_law_pack_here","_law_most","_law_ties"] (SpD 3 (run prg N (d+1) 26)):=qz (G:=run prg N (d+1)) (i:=26) U sc_26 rfl rfl (by decide) rfl λA outer s H E b=>b_26 p a U.tab b
theorem o_27(U:FunT K "_law_all_parts" (top 41) f fd c t):FnOk P w K mg base CX0 (k+3) f fd ["_law_places_here"] (SpD 1 (run prg N (d+1) 27)):=qz (G:=run prg N (d+1)) (i:=27) U sc_27 rfl rfl (by decide) rfl λA outer s H E b=>b_27 p a U.tab b
theorem o_28(U:FunT K "_law_ratio" (top 42) f fd c t):FnOk P w K mg base CX0 (k+3) f fd ["_law_web_here","_law_left","_law_place"] (SpD 3 (run prg N (d+1) 28)):=qz (G:=run prg N (d+1)) (i:=28) U sc_28 rfl rfl (by decide) rfl λA outer s H E b=>b_28 p a U.tab b
theorem o_29(U:FunT K "_law_least" (top 43) f fd c t):FnOk P w K mg base CX0 (k+3) f fd ["_law_web_here","_law_part"] (SpD 2 (run prg N (d+1) 29)):=qz (G:=run prg N (d+1)) (i:=29) U sc_29 rfl rfl (by decide) rfl λA outer s H E b=>b_29 p a U.tab b
theorem o_30(U:FunT K "_law_right" (top 44) f fd c t):FnOk P w K mg base CX0 (k+3) f fd ["_law_web_here"] (SpD 1 (run prg N (d+1) 30)):=qz (G:=run prg N (d+1)) (i:=30) U sc_30 rfl rfl (by decide) rfl λA outer s H E b=>b_30 p a U.tab b
theorem o_31(U:FunT K "law" (top 45) f fd c t):FnOk P w K mg base CX0 (k+3) f fd ["_law_script"] (SpD 1 (run prg N (d+1) 31)):=qz (G:=run prg N (d+1)) (i:=31) U sc_31 rfl rfl (by decide) rfl λA outer s H E b=>b_31 p a U.tab b
theorem qgB:All P w K mg base (k+3) (run prg N (d+1)) where
 h_0:=p.u_0.fn λ_ _ _ _ U=>o_0 p a U
 h_1:=p.u_1.fn λ_ _ _ _ U=>o_1 p a U
 h_2:=p.u_2.fn λ_ _ _ _ U=>o_2 p a U
 h_3:=p.u_3.fn λ_ _ _ _ U=>o_3 p a U
 h_4:=p.u_4.fn λ_ _ _ _ U=>o_4 p a U
 h_5:=p.u_5.fn λ_ _ _ _ U=>o_5 p a U
 h_6:=p.u_6.fn λ_ _ _ _ U=>o_6 p a U
 h_7:=p.u_7.fn λ_ _ _ _ U=>o_7 p a U
 h_8:=p.u_8.fn λ_ _ _ _ U=>o_8 p a U
 h_9:=p.u_9.fn λ_ _ _ _ U=>o_9 p a U
 h_10:=p.u_10.fn λ_ _ _ _ U=>o_10 p a U
 h_11:=p.u_11.fn λ_ _ _ _ U=>o_11 p a U
 h_12:=p.u_12.fn λ_ _ _ _ U=>o_12 p a U
 h_13:=p.u_13.fn λ_ _ _ _ U=>o_13 p a U
 h_14:=p.u_14.fn λ_ _ _ _ U=>o_14 p a U
 h_15:=p.u_15.fn λ_ _ _ _ U=>o_15 p a U
 h_16:=p.u_16.fn λ_ _ _ _ U=>o_16 p a U
 h_17:=p.u_17.fn λ_ _ _ _ U=>o_17 p a U
 h_18:=p.u_18.fn λ_ _ _ _ U=>o_18 p a U
 h_19:=p.u_19.fn λ_ _ _ _ U=>o_19 p a U
 h_20:=p.u_20.fn λ_ _ _ _ U=>o_20 p a U
 h_21:=p.u_21.fn λ_ _ _ _ U=>o_21 p a U
 h_22:=p.u_22.fn λ_ _ _ _ U=>o_22 p a U
 h_23:=p.u_23.fn λ_ _ _ _ U=>o_23 p a U
 h_24:=p.u_24.fn λ_ _ _ _ U=>o_24 p a U
 h_25:=p.u_25.fn λ_ _ _ _ U=>o_25 p a U
 h_26:=p.u_26.fn λ_ _ _ _ U=>o_26 p a U
 h_27:=p.u_27.fn λ_ _ _ _ U=>o_27 p a U
 h_28:=p.u_28.fn λ_ _ _ _ U=>o_28 p a U
 h_29:=p.u_29.fn λ_ _ _ _ U=>o_29 p a U
 h_30:=p.u_30.fn λ_ _ _ _ U=>o_30 p a U
 h_31:=p.u_31.fn λ_ _ _ _ U=>o_31 p a U
omit a
theorem qgC:All P w K mg base 0 (run prg N 0) where
 h_0:=p.u_0.fn λ_ _ _ _ _=>qA (i:=0) rfl
 h_1:=p.u_1.fn λ_ _ _ _ _=>qA (i:=1) rfl
 h_2:=p.u_2.fn λ_ _ _ _ _=>qA (i:=2) rfl
 h_3:=p.u_3.fn λ_ _ _ _ _=>qA (i:=3) rfl
 h_4:=p.u_4.fn λ_ _ _ _ _=>qA (i:=4) rfl
 h_5:=p.u_5.fn λ_ _ _ _ _=>qA (i:=5) rfl
 h_6:=p.u_6.fn λ_ _ _ _ _=>qA (i:=6) rfl
 h_7:=p.u_7.fn λ_ _ _ _ _=>qA (i:=7) rfl
 h_8:=p.u_8.fn λ_ _ _ _ _=>qA (i:=8) rfl
 h_9:=p.u_9.fn λ_ _ _ _ _=>qA (i:=9) rfl
 h_10:=p.u_10.fn λ_ _ _ _ _=>qA (i:=10) rfl
 h_11:=p.u_11.fn λ_ _ _ _ _=>qA (i:=11) rfl
 h_12:=p.u_12.fn λ_ _ _ _ _=>qA (i:=12) rfl
 h_13:=p.u_13.fn λ_ _ _ _ _=>qA (i:=13) rfl
 h_14:=p.u_14.fn λ_ _ _ _ _=>qA (i:=14) rfl
 h_15:=p.u_15.fn λ_ _ _ _ _=>qA (i:=15) rfl
 h_16:=p.u_16.fn λ_ _ _ _ _=>qA (i:=16) rfl
 h_17:=p.u_17.fn λ_ _ _ _ _=>qA (i:=17) rfl
 h_18:=p.u_18.fn λ_ _ _ _ _=>qA (i:=18) rfl
 h_19:=p.u_19.fn λ_ _ _ _ _=>qA (i:=19) rfl
 h_20:=p.u_20.fn λ_ _ _ _ _=>qA (i:=20) rfl
 h_21:=p.u_21.fn λ_ _ _ _ _=>qA (i:=21) rfl
 h_22:=p.u_22.fn λ_ _ _ _ _=>qA (i:=22) rfl
 h_23:=p.u_23.fn λ_ _ _ _ _=>qA (i:=23) rfl
 h_24:=p.u_24.fn λ_ _ _ _ _=>qA (i:=24) rfl
 h_25:=p.u_25.fn λ_ _ _ _ _=>qA (i:=25) rfl
 h_26:=p.u_26.fn λ_ _ _ _ _=>qA (i:=26) rfl
 h_27:=p.u_27.fn λ_ _ _ _ _=>qA (i:=27) rfl
 h_28:=p.u_28.fn λ_ _ _ _ _=>qA (i:=28) rfl
 h_29:=p.u_29.fn λ_ _ _ _ _=>qA (i:=29) rfl
 h_30:=p.u_30.fn λ_ _ _ _ _=>qA (i:=30) rfl
 h_31:=p.u_31.fn λ_ _ _ _ _=>qA (i:=31) rfl
omit p
theorem qgD(p:Pre K mg):∀d:Nat,All P w K mg base (3*d) (run prg N d)
 |0=>qgC p
 |d+1=>qgB p (qgD p d)
end
end RP
namespace RP
open R
section
variable{α:Type}{g:α->D}
theorem qbd{n:Nat}{bind:D->En->Sr->Res En}{test:En->Sr->Res Bool}{elt:En->Sr->Res D}{b:α->Bool}{v:α->D}(R:En->Prop){S:Sr}(hn:S.length=n):∀(ds:List α) (a:List D) (ρ:En),a.length+ds.length<=PySem.sizeLine->R ρ ->
  (∀d∈ds,∀(ρ:En) (m:List D),R ρ->∃ρ1,bind (g d) ρ (S++[.lst m])=.ok ρ1 (S++[.lst m])/\R ρ1/\test ρ1 (S++[.lst m])=.ok (b d) (S++[.lst m])/\(b d=true->elt ρ1 (S++[.lst m])=.ok (v d) (S++[.lst m])/\refsLt 0 (v d)=true)) ->
  ∃c,lcLoop n bind test elt (ds.map g) ρ (S++[.lst a])=.ok c (S++[.lst (a++(ds.filter b).map v)])
 |[],a,ρ,_,_,_=>⟨ρ,by simp[lcLoop]⟩
 |d::ds,a,ρ,hl,hR,H=>by
  obtain⟨ρ1,e1,f,i,j⟩:=H d wH ρ a hR
  simp only[wX]at hl
  rw[wR]
  unfold lcLoop
  rw[e1,Res.bind_ok,i,Res.bind_ok]
  cases z:b d with
  |true =>
   obtain⟨l,o⟩:=j z
   have p:appD (S++[.lst a]) (.ref n) (v d)=.ok .non (S++[.lst (a++[v d])]):=by
    subst hn
    have h:a.length<PySem.sizeLine:=by lia
    simp[appD,o,h]
   rw[wL rfl,l,Res.bind_ok,p,Res.bind_ok]
   obtain⟨c,e⟩:=qbd R hn ds (a++[v d]) ρ1 (by simp;lia) f λd' hd=>H d' (wI _ hd)
   exact⟨c,by rw[e];simp[z]⟩
  |false =>
   rw[wK (by simp)]
   obtain⟨c,e⟩:=qbd R hn ds a ρ1 (by lia) f λd' hd=>H d' (wI _ hd)
   exact⟨c,by rw[e];simp[z]⟩
theorem j3{F:Fs}{fr:List Nat}{nt:Nat}{elt:CE}{tg:CT}{it:CI}{ifs:CBs}{ρ:En}{S S1:Sr}{ds:List D}(xs:List α)(b:α->Bool)(v:α->D)(R:En->Prop)(a:evI F it ρ S=.ok ds S1)(hd:ds=xs.map g)(h0:R (frE ρ fr nt))(c:xs.length<=PySem.sizeLine)(H:∀d∈xs,∀(ρ:En) (m:List D),R ρ->∃ρ1,asg F tg (g d) ρ (S1++[.lst m])=.ok ρ1 (S1++[.lst m])/\R ρ1/\tsts F ifs ρ1 (S1++[.lst m])=.ok (b d) (S1++[.lst m])/\(b d=true->ev F elt ρ1 (S1++[.lst m])=.ok (v d) (S1++[.lst m])/\refsLt 0 (v d)=true)):
  ev F (.lc false fr nt elt tg it ifs) ρ S=.ok (.lst ((xs.filter b).map v)) S1:=by
 obtain⟨f,e⟩:=qbd (n:=S1.length) (bind:=λd ρ S=>asg F tg d ρ S) (test:=λρ S=>tsts F ifs ρ S) (elt:=λρ S=>ev F elt ρ S) R rfl xs [] _ (by simpa using c) h0 H
 simp only[ev,a,Res.bind,hd,e,lcEnd]
 simp
theorem qdM{bind:D->En->Sr->Res En}{test:En->Sr->Res Bool}{elt:En->Sr->Res D}{p:α->Bool}(R:En->Prop){S:Sr}:∀(ds:List α) (ρ:En),R ρ ->
  (∀d∈ds,∀ρ:En,R ρ->∃ρ1,bind (g d) ρ S=.ok ρ1 S/\R ρ1/\test ρ1 S=.ok true S/\elt ρ1 S=.ok (.bl (p d)) S) ->
  genLoop bind test elt (stepG .all) (finG .all) (ds.map g) ρ .non S=.ok (.bl (ds.all p)) S
 |[],ρ,_,_=>by simp[genLoop,finG]
 |d::ds,ρ,hR,H=>by
  obtain⟨ρ1,e1,a,b,c⟩:=H d wH ρ hR
  rw[wR]
  unfold genLoop
  rw[e1,Res.bind_ok,b,Res.bind_ok,wL rfl,c,Res.bind_ok]
  cases z:p d with
  |true=>simp only[stepG];rw[qdM R ds ρ1 a λd' hd=>H d' (wI _ hd)];simp[z]
  |false=>simp[stepG,z]
theorem jv{F:Fs}{fr:List Nat}{nt:Nat}{elt:CE}{tg:CT}{it:CI}{ρ:En}{S S1:Sr}{ds:List D}(xs:List α)(p:α->Bool)(R:En->Prop)(e:evI F it ρ S=.ok ds S1)(hd:ds=xs.map g)(h0:R (frE ρ fr nt))(H:∀d∈xs,∀ρ:En,R ρ->∃ρ1,asg F tg (g d) ρ S1=.ok ρ1 S1/\R ρ1/\ev F elt ρ1 S1=.ok (.bl (p d)) S1):
  ev F (.gen .all fr nt elt tg it .nil) ρ S=.ok (.bl (xs.all p)) S1:=by
 simp only[ev,e,Res.bind,hd,startG]
 exact qdM R xs _ h0 λd hd ρ f=>let ⟨ρ1,a,b,c⟩:=H d hd ρ f;⟨ρ1,a,b,rfl,c⟩
theorem qbe{bind:D->En->Sr->Res En}{test:En->Sr->Res Bool}{elt:En->Sr->Res D}{b:α->Bool}{v:α->Int}(R:En->Prop){S:Sr}:∀(ds:List α) (ρ:En) (a:Int),R ρ ->
  (∀d∈ds,∀ρ:En,R ρ->∃ρ1,bind (g d) ρ S=.ok ρ1 S/\R ρ1/\test ρ1 S=.ok (b d) S/\(b d=true->elt ρ1 S=.ok (.int (v d)) S)) ->
  genLoop bind test elt (stepG .sum) (finG .sum) (ds.map g) ρ (.int a) S=.ok (.int (a+((ds.filter b).map v).sum)) S
 |[],ρ,a,_,_=>by simp[genLoop,finG]
 |d::ds,ρ,a,hR,H=>by
  obtain⟨ρ1,e1,c,e,f⟩:=H d wH ρ hR
  rw[wR]
  unfold genLoop
  rw[e1,Res.bind_ok,e,Res.bind_ok]
  cases z:b d with
  |true =>
   rw[wL rfl,f z,Res.bind_ok]
   simp only[stepG]
   rw[qbe R ds ρ1 _ c λd' hd=>H d' (wI _ hd)]
   simp[z,Int.add_assoc]
  |false =>
   rw[wK (by simp),qbe R ds ρ1 _ c λd' hd=>H d' (wI _ hd)]
   simp[z]
theorem qiC{F:Fs}{fr:List Nat}{nt:Nat}{elt:CE}{tg:CT}{it:CI}{ifs:CBs}{ρ:En}{S S1:Sr}{ds:List D}(xs:List α)(b:α->Bool)(v:α->Int)(R:En->Prop)(a:evI F it ρ S=.ok ds S1)(hd:ds=xs.map g)(h0:R (frE ρ fr nt))(H:∀d∈xs,∀ρ:En,R ρ->∃ρ1,asg F tg (g d) ρ S1=.ok ρ1 S1/\R ρ1/\tsts F ifs ρ1 S1=.ok (b d) S1/\(b d=true->ev F elt ρ1 S1=.ok (.int (v d)) S1)):
  ev F (.gen .sum fr nt elt tg it ifs) ρ S=.ok (.int ((xs.filter b).map v).sum) S1:=by
 simp only[ev,a,Res.bind,hd,startG]
 rw[qbe R xs _ 0 h0 H];simp
end
noncomputable abbrev Tie:=List Int×Int
noncomputable def tieD(t:Tie):D:=.tup [tupI t.1,.int t.2]
structure Wb where
 costs:List Int
 ties:List Tie
noncomputable def webD(w:Wb):D:=.tup [tupI w.costs,.tup (w.ties.map tieD)]
structure PlOk (n:Nat) (p:List Int):Prop where
 ne:p≠[]
 rng:∀x∈p,0<=x/\x<n
 up:p.Pairwise (· < ·)
structure WbOk (w:Wb):Prop where
 c1:1<=w.costs.length
 c2:w.costs.length<=12
 c3:∀c∈w.costs,1<=c/\c<=100
 t1:w.ties.length<=30
 t2:∀t∈w.ties,PlOk w.costs.length t.1/\t.1.length<=4/\1<=t.2/\t.2<=1000000
 t3:(w.ties.map (·.1)).Pairwise λa b=>HT.lexLt a b=true
theorem qB:∀l:List Int,intsOf (l.map .int)=some l
 |[]=>rfl
 |a::r=>by simp[intsOf,qB r]
theorem qgE:∀{l:List Int},l.Pairwise (· < ·)->(l.zip (l.drop 1)).all (λp=>decide (p.1<p.2))=true
 |[],_=>rfl
 |[a],_=>rfl
 |a::b::r,h=>by
  have c:=wx.mp h
  have:=qgE c.2
  simp only[xK,xU,uQ,xH,wV,wz]at this ⊢
  exact⟨c.1 b wH,this⟩
theorem qdN:∀{l:List (List Int)},l.Pairwise (λa b=>HT.lexLt a b=true)->(l.zip (l.drop 1)).all (λp=>HT.lexLt p.1 p.2)=true
 |[],_=>rfl
 |[a],_=>rfl
 |a::b::r,h=>by
  have c:=wx.mp h
  have:=qdN c.2
  simp only[xK,xU,uQ,xH,wV]at this ⊢
  exact⟨c.1 b wH,this⟩
theorem cut1(l:List D):cutD l (some 1) none=l.drop 1:=by
 unfold cutD HT.sIx
 cases l with
 |nil=>rfl
 |cons a r =>
  have:min (1:Int).toNat (a::r).length=1:=by simp
  simp only[this]
  rw[wK (by lia)]
  simp
end RP
namespace RP
open R
section
variable{F:Fs}{N:Nat}{ρ ρ1:En}{S S1 S2:Sr}{r a b:CSs}{e e1 e2:CE}{t:CT}{c:CB}{X:Res Fl}{d d1 d2:D}
theorem qJ(h:ev F e ρ S=.ok d S1):exs F N (.cons (.ret e) r) ρ S=.ok (.rt d) S1:=by simp[exs,ex,h,Res.bind]
theorem qF:exs F N .nil ρ S=.ok (.nx ρ) S:=by simp[exs]
theorem qm(h:ev F e ρ S=.ok d S1)(f:asg F t d ρ S1=.ok ρ1 S2)(i:exs F N r ρ1 S2=X):exs F N (.cons (.set t e) r) ρ S=X:=by simp[exs,ex,h,f,i,Res.bind]
theorem j4(h:ev F e ρ S=.ok d S1)(f:exs F N r ρ S1=X):exs F N (.cons (.expr e) r) ρ S=X:=by simp[exs,ex,h,f,Res.bind]
theorem x_no(h:tst F c ρ S=.ok false S1)(f:exs F N r ρ S1=X):exs F N (.cons (.ifs c a .nil) r) ρ S=X:=by simp[exs,ex,h,f,Res.bind]
theorem yj(h:tst F c ρ S=.ok true S1)(f:exs F N a ρ S1=.ok (.nx ρ1) S2)(i:exs F N r ρ1 S2=X):exs F N (.cons (.ifs c a b) r) ρ S=X:=by simp[exs,ex,h,f,i,Res.bind]
theorem yW{it:CI}{ds:List D}(h:evI F it ρ S=.ok ds S1)(f:forLoop (λd ρ S=>(asg F t d ρ S).bind λρ1 S1=>exs F N a ρ1 S1) ds ρ S1=.ok (.nx ρ1) S2)(i:exs F N r ρ1 S2=X):exs F N (.cons (.forS t it a) r) ρ S=X:=by
 simp only[exs,ex,h,Res.bind]at f ⊢
 rw[f]
 exact i
theorem qO{f:CF}{l:List D}(i:l.length=f.np)(h:exs F N f.body (l.map some++List.replicate (f.nn-f.np) none) S=.ok (.rt d) S):callC F N f l S=.ok d S:=by
 simp only[callC,i,wL,h,Res.bind,leave]
 cases f.keeps <;> simp
theorem qdO{f:CF}{l:List D}(i:l.length=f.np)(h:exs F N f.body (l.map some++List.replicate (f.nn-f.np) none) S=.ok (.nx ρ) S):callC F N f l S=.ok .non S:=by
 simp only[callC,i,wL,h,Res.bind,leave]
 cases f.keeps <;> simp
theorem qaH{f:CF}{l:List D}(j:l.length=f.np)(m:f.keeps=false)(h:exs F N f.body (l.map some++List.replicate (f.nn-f.np) none) S=.ok (.rt d) (S1++S2))(i:S1.length=S.length)(n:refsLt S.length d=true):callC F N f l S=.ok d S1:=by
 simp only[callC,j,wL,h,Res.bind,leave,m]
 rw[wK (by simp)]
 split
 .rename_i z
  have:S2=[]:=by
   rw[we,i]at z
   exact w9.mp (by lia)
  rw[this,va]
 .rw [<-i];simp
theorem qkw{f:CF}{l:List D}(i:l.length=f.np)(j:f.keeps=true)(h:exs F N f.body (l.map some++List.replicate (f.nn-f.np) none) S=.ok (.rt d) S1):callC F N f l S=.ok d S1:=by
 simp only[callC,i,wL,h,Res.bind,leave,j]
theorem qdP{x y:Bool}(h:ev F e1 ρ S=.ok (.bl x) S)(f:ev F e2 ρ S=.ok (.bl y) S):ev F (.and e1 e2) ρ S=.ok (.bl (x&&y)) S:=by
 cases x <;> simp[ev,h,f,Res.bind]
theorem qk{i:Nat}{es:CEs}{l:List D}(h:evs F es ρ S=.ok l S1)(f:F i l S1=.ok d S2):ev F (.call i es) ρ S=.ok d S2:=by simp[ev,h,f,Res.bind]
theorem qG{i:Blt}{es:CEs}{l:List D}(h:evs F es ρ S=.ok l S1)(f:bltD i l S1=.ok d S2):ev F (.blt i es) ρ S=.ok d S2:=by simp[ev,h,f,Res.bind]
theorem qe{es:CEs}{l:List D}(h:ev F e ρ S=.ok d S1)(f:evs F es ρ S1=.ok l S2):evs F (.cons e es) ρ S=.ok (d::l) S2:=by simp[evs,h,f,Res.bind]
theorem qC{o:BOp}(h:ev F e1 ρ S=.ok d1 S1)(f:ev F e2 ρ S1=.ok d2 S2)(i:binD o d1 d2 S2=some d):ev F (.bin o e1 e2) ρ S=.ok d S2:=by simp[ev,h,f,i,Res.bind]
theorem zv{o:COp}{x:Bool}(h:ev F e1 ρ S=.ok d1 S1)(f:ev F e2 ρ S1=.ok d2 S2)(i:cmpD o d1 d2 S2=some x):ev F (.cmp o e1 e2) ρ S=.ok (.bl x) S2:=by simp[ev,h,f,i,Res.bind]
theorem qH(h:ev F e1 ρ S=.ok d1 S1)(f:ev F e2 ρ S1=.ok d2 S2)(i:idxD S2 d1 d2=some d):ev F (.idx e1 e2) ρ S=.ok d S2:=by simp[ev,h,f,i,Res.bind]
theorem qZ{es:CEs}{l:List D}(h:evs F es ρ S=.ok l S1)(f:l.length<=PySem.sizeLine):ev F (.tup es) ρ S=.ok (.tup l) S1:=by simp[ev,h,f,Res.bind]
theorem t_of{x:Bool}(h:ev F e ρ S=.ok (.bl x) S1):tst F (.val e) ρ S=.ok x S1:=by simp[tst,h,Res.bind,truD]
theorem t_no{x:Bool}(h:tst F c ρ S=.ok x S1):tst F (.not c) ρ S=.ok (!x) S1:=by simp[tst,h,Res.bind]
theorem t_or{c2:CB}{x y:Bool}(h:tst F c ρ S=.ok x S)(f:tst F c2 ρ S=.ok y S):tst F (.or c c2) ρ S=.ok (x || y) S:=by
 cases x <;> simp[tst,h,f,Res.bind]
theorem qi6{c2:CB}{x y:Bool}(h:tst F c ρ S=.ok x S)(f:x=true->tst F c2 ρ S=.ok y S):tst F (.and c c2) ρ S=.ok (x&&y) S:=by
 cases x <;> simp[tst,h,f,Res.bind]
theorem qcX{x:Bool}(h:tst F c ρ S=.ok x S):tsts F (.cons c .nil) ρ S=.ok x S:=by
 cases x <;> simp[tsts,h,Res.bind]
end
theorem j5{a:Type}{g:a->D}{F:Fs}{fr:List Nat}{nt:Nat}{elt:CE}{tg:CT}{it:CI}{ρ:En}{S S1:Sr}{ds:List D}(xs:List a)(R:En->Prop)(b:evI F it ρ S=.ok ds S1)(hd:ds=xs.map g)(h0:R (frE ρ fr nt))(H:∀d∈xs,∀ρ:En,R ρ->∃ρ1,asg F tg (g d) ρ S1=.ok ρ1 S1/\R ρ1/\ev F elt ρ1 S1=.ok (.bl true) S1):
  ev F (.gen .all fr nt elt tg it .nil) ρ S=.ok (.bl true) S1:=by
 have:=jv xs (λ_=>true) R b hd h0 H
 rw[vU.mpr (λ_ _=>rfl)]at this
 exact this
theorem zf{a:Type}(l:List a):l.filter (λ_=>true)=l:=List.filter_eq_self.mpr λ_ _=>rfl
theorem qgF{a:Type}(f:a->D)(p:List a):((p.map f).zip ((p.drop 1).map f)).map (λq=>D.tup [q.1,q.2])=(p.zip (p.drop 1)).map λq=>.tup [f q.1,f q.2]:=by
 rw[List.zip_map,vL];rfl
theorem refsI(k:Nat):∀l:List Int,refsLts k (l.map .int)=true
 |[]=>rfl
 |a::r=>by rw[wR,refsLts,refsI k r];rfl
theorem zz(k:Nat)(l:List Int):refsLt k (tupI l)=true:=refsI k l
theorem j6(k:Nat)(t:Tie):refsLt k (tieD t)=true:=by
 show(refsLt k (tupI t.1)&&(refsLt k (.int t.2)&&true))=true
 rw[zz];rfl
theorem qaI(k:Nat):∀l:List Tie,refsLts k (l.map tieD)=true
 |[]=>rfl
 |a::r=>by rw[wR,refsLts,qaI k r,j6];rfl
theorem qgG(k:Nat)(w:Wb):refsLt k (webD w)=true:=by
 show(refsLt k (tupI w.costs)&&(refsLts k (w.ties.map tieD)&&true))=true
 rw[zz,qaI];rfl
theorem yk(l:List Int)(S:Sr):bltD .len [tupI l] S=.ok (.int l.length) S:=by simp[bltD,one,bLen,lenD,tupI]
noncomputable def subB(a p:List Int):Bool:=a.all λx=>p.contains x
noncomputable def tin(w:Wb)(p:List Int):List Tie:=w.ties.filter λt=>subB t.1 p
end RP
namespace RP
open R
theorem jw{a:Int}{n:Nat}(h:a.natAbs<2^n):PySem.Builtin.Int.intBits a<=n:=by
 unfold PySem.Builtin.Int.intBits
 split
 .lia
 .rename_i z
  have hz:a.natAbs≠0:=by
   intro e;apply z;simp;lia
  have:=(Nat.log2_lt hz).mpr h
  lia
theorem yw{a b:Int}(h:a.natAbs<2^64):mulOk a b=true:=by
 have:=jw h
 unfold mulOk PySem.shortFactorBits
 have e:decide (PySem.Builtin.Int.intBits a>64)=false:=by simp;lia
 rw[e];rfl
theorem qdQ{a b:Int}(h:a.natAbs<2^250)(c:b.natAbs<2^250):mulOk a b=true:=by
 have d:=jw h
 have c:=jw c
 unfold mulOk PySem.Builtin.Int.intTooBig PySem.bitsLine
 have e:decide (((PySem.Builtin.Int.intBits a:Int)+(PySem.Builtin.Int.intBits b:Int))>((2^27:Nat):Int))=false:=by
  rw[xk];norm_cast;lia
 rw[e,Bool.and_false];rfl
theorem qdR{a b:Int}(h0:0<b)(h:b.natAbs<2^64):divOk a b=true:=by
 have c:=jw h
 unfold divOk PySem.Builtin.divisionGoesByPylong
 unfold PySem.Builtin.Int.intBits at c
 have d:(b == 0)=false:=by rw[vC];lia
 rw[d]at c
 simp only[d,wj,vc]at c ⊢
 have e:decide (b.natAbs.log2 / 30+1>300)=false:=by rw[xk];lia
 simp only[e,Bool.false_and];rfl
theorem bmul{a b:Int}{S:Sr}(h:mulOk a b=true):binD .mul (.int a) (.int b) S=some (.int (a*b)):=by
 simp only[binD,binI];rw[wL h];rfl
theorem badd{a b:Int}{S:Sr}:binD .add (.int a) (.int b) S=some (.int (a+b)):=rfl
noncomputable def pk(S:Sr)(n:Nat)(v:Int):Sr:=S.set n (.lst [.int v])
theorem qK(S:Sr)(n:Nat)(v:Int):(pk S n v).length=S.length:=by simp[pk]
theorem ql0{S:Sr}{n:Nat}(h:n<S.length)(v:Int):(pk S n v)[n]?=some (.lst [.int v]):=by simp[pk,h]
theorem zJ{S T:Sr}{n:Nat}(h:n<S.length)(v:Int):pk S n v++T=pk (S++T) n v:=by simp[pk,List.set_append_left _ _ h]
theorem qiD{S:Sr}{n:Nat}{v:Int}(h:S[n]?=some (.lst [.int v])):pk S n v=S:=by
 unfold pk
 apply uF
 intro i
 rw[List.getElem?_set]
 split
 .rename_i e;subst e
  obtain⟨a,_⟩:=wO.mp h
  rw[wL a,h]
 .rfl
theorem qdS{F:Fs}{ρ:En}{S S1:Sr}{es:CEs}{l:List D}(h:evs F es ρ S=.ok l S1)(a:l.length<=1000):ev F (.lst false es) ρ S=.ok (.lst l) S1:=by
 have:l.length<=PySem.sizeLine:=by unfold PySem.sizeLine;lia
 simp[ev,h,this,Res.bind,newL]
theorem qgH{F:Fs}{ρ:En}{S S1:Sr}{es:CEs}{l:List D}(h:evs F es ρ S=.ok l S1)(b:l.length<=1000)(a:refsLts 0 l=true):ev F (.lst true es) ρ S=.ok (.ref S1.length) (S1++[.lst l]):=by
 have:l.length<=PySem.sizeLine:=by unfold PySem.sizeLine;lia
 simp[ev,h,this,Res.bind,newL,a]
theorem j7{body:D->En->Sr->Res Fl}{d:D}{r:List D}{ρ ρ1:En}{S S1:Sr}(h:body d ρ S=.ok (.nx ρ1) S1):forLoop body (d::r) ρ S=forLoop body r ρ1 S1:=by
 simp only[forLoop,h,Res.bind]
theorem zG{c:Type}{g:c->D}{body:D->En->Sr->Res Fl}(P:List c->En->Sr->Prop)(xs:List c){ρ:En}{S:Sr}(h0:P [] ρ S)(H:∀(pre:List c) (x:c) (b:List c) (ρ:En) (S:Sr),xs=pre++x::b->P pre ρ S->∃ρ1 S1,body (g x) ρ S=.ok (.nx ρ1) S1/\P (pre++[x]) ρ1 S1):
  ∃a d,forLoop body (xs.map g) ρ S=.ok (.nx a) d/\P xs a d:=by
 have f:∀(b pre:List c) (ρ:En) (S:Sr),xs=pre++b->P pre ρ S->∃a d,forLoop body (b.map g) ρ S=.ok (.nx a) d/\P xs a d:=by
  intro b
  induction b with
  |nil=>intro pre ρ S e h;rw[va]at e;subst e;exact⟨ρ,S,rfl,h⟩
  |cons x r i =>
   intro pre ρ S e h
   obtain⟨ρ1,S1,e1,j⟩:=H pre x r ρ S e h
   obtain⟨a,d,l,m⟩:=i (pre++[x]) ρ1 S1 (by rw[e];simp) j
   exact⟨a,d,by rw[wR,j7 e1,l],m⟩
 exact f xs [] ρ S rfl h0
theorem qgI{y:Type}{g:y->D}{n:Nat}{bind:D->En->Sr->Res En}{test:En->Sr->Res Bool}{elt:En->Sr->Res D}(R:En->Prop)(I:List D->Sr->Prop)(i:∀ρ S,test ρ S=.ok true S):∀(ds:List y) (f:List D) (ρ:En) (S:Sr),f.length+ds.length<=1000->R ρ->I f S->S.length=n ->
  (∀d∈ds,∀(ρ:En) (m:List D) (S:Sr),R ρ->I m S->S.length=n->m.length<f.length+ds.length->∃ρ1 v j,bind (g d) ρ (S++[.lst m])=.ok ρ1 (S++[.lst m])/\R ρ1/\elt ρ1 (S++[.lst m])=.ok v (j++[.lst m])/\j.length=n/\refsLt 0 v=true/\I (m++[v]) j) ->
  ∃l h j,lcLoop n bind test elt (ds.map g) ρ (S++[.lst f])=.ok l (j++[.lst h])/\I h j/\j.length=n/\h.length=f.length+ds.length
 |[],f,ρ,S,_,_,hI,hn,_=>⟨ρ,f,S,by simp[lcLoop],hI,hn,by simp⟩
 |d::ds,f,ρ,S,hl,hR,hI,hn,H=>by
  obtain⟨ρ1,v,j,e1,p,z,o,A,q⟩:=H d wH ρ f S hR hI hn (by simp)
  simp only[wX]at hl
  rw[wR]
  unfold lcLoop
  have B:appD (j++[.lst f]) (.ref n) v=.ok .non (j++[.lst (f++[v])]):=by
   subst o
   have r:f.length<PySem.sizeLine:=by unfold PySem.sizeLine;lia
   simp[appD,A,r]
  rw[e1,Res.bind_ok,i,Res.bind_ok,wL rfl,z,Res.bind_ok,B,Res.bind_ok]
  obtain⟨l,h,S2,e,s,u,w⟩:=qgI R I i ds (f++[v]) ρ1 j (by simp;lia) p q o λd' hd ρ m S a b c x=>H d' (wI _ hd) ρ m S a b c (by simp at x ⊢;lia)
  exact⟨l,h,S2,e,s,u,by rw[w];simp;lia⟩
theorem qgJ{f:Type}{g:f->D}{F:Fs}{fr:List Nat}{nt:Nat}{elt:CE}{tg:CT}{it:CI}{ρ:En}{S S1:Sr}{ds:List D}(xs:List f)(R:En->Prop)(I:List D->Sr->Prop)(i:evI F it ρ S=.ok ds S1)(hd:ds=xs.map g)(h0:R (frE ρ fr nt))(j:xs.length<=1000)(hi:I [] S1)(H:∀d∈xs,∀(ρ:En) (m:List D) (S:Sr),R ρ->I m S->S.length=S1.length->m.length<xs.length->∃ρ1 v b,asg F tg (g d) ρ (S++[.lst m])=.ok ρ1 (S++[.lst m])/\R ρ1/\ev F elt ρ1 (S++[.lst m])=.ok v (b++[.lst m])/\b.length=S1.length/\refsLt 0 v=true/\I (m++[v]) b):
  ∃a b,ev F (.lc false fr nt elt tg it .nil) ρ S=.ok (.lst a) b/\I a b/\b.length=S1.length/\a.length=xs.length:=by
 obtain⟨l,c,b,e,o,h,p⟩:=qgI (n:=S1.length) (bind:=λd ρ S=>asg F tg d ρ S) (test:=λρ S=>tsts F .nil ρ S) (elt:=λρ S=>ev F elt ρ S) R I (λ_ _=>by simp[tsts]) xs [] _ S1 (by simpa using j) h0 hi rfl (by simpa using H)
 refine⟨c,b,?_,o,h,by simpa using p⟩
 simp only[ev,i,Res.bind,hd,e,lcEnd]
 rw[<-h]
 simp
end RP
namespace RP
open R
noncomputable def rI(n:Nat):List Int:=(List.range n).map λ(k:Nat)=>(k:Int)
theorem qE(n:Nat):(rI n).length=n:=by simp[rI]
theorem qX{n:Nat}{x:Int}:x∈rI n ↔ 0<=x/\x<n:=by
 unfold rI
 rw[vG]
 constructor
 .rintro ⟨k,a,rfl⟩;have:=uA.mp a;lia
 .rintro ⟨h0,b⟩;exact⟨x.toNat,uA.mpr (by lia),by lia⟩
theorem ym(n:Nat):(rI n).Nodup:=by
 unfold rI
 exact List.Pairwise.map _ (λa b h e=>h (by lia)) List.nodup_range
theorem qdT(n:Nat):(rI n).Pairwise (· < ·):=by
 unfold rI
 exact List.Pairwise.map _ (λa b h=>by lia) List.pairwise_lt_range
theorem qiE(n:Nat):rngL 0 n 1=(rI n).map .int:=by
 unfold rngL rI
 have:(((n:Int)-0+1-1) / 1).toNat=n:=by lia
 rw[this,vL]
 apply v4
 intro k _
 simp
theorem qcY{n:Nat}(h:n<=1000):rngD [.int n]=some ((rI n).map .int):=by
 have a:-(2^62)<=(n:Int):=by lia
 have b:(n:Int)<2^62:=by lia
 simp only[rngD,a,b,and_self,vd,qiE]
theorem qi7{n:Nat}(h:n<=1000):((rI n).map D.int).length<=1000000:=by
 rw[wP,qE];exact vK h (by decide)
theorem qgK{b c:Type}(f:b->c):∀(l:List b) (i:Nat),(l.map f).eraseIdx i=(l.eraseIdx i).map f
 |[],_=>by simp
 |a::r,0=>by simp
 |a::r,i+1=>by simp[qgK f r i]
theorem qdU{b:Type}:∀{l:List b} {i:Nat} {x:b},l[i]?=some x->(x::l.eraseIdx i).Perm l
 |[],i,x,h=>by simp at h
 |a::r,0,x,h=>by simp at h;subst h;simp
 |a::r,i+1,x,h=>by
  simp at h
  have:=qdU h
  simp only[List.eraseIdx_cons_succ]
  exact(List.Perm.swap a x _).trans (this.cons a)
theorem qb6{l:List Int}(h:l.Nodup):(sortI l).Pairwise (· < ·):=by
 have c:=yU l
 have d:(sortI l).Nodup:=(qN l).nodup_iff.mpr h
 exact(c.and d).imp λ⟨a,b⟩=>by lia
theorem qeT{l:List Int}(h:l.length<64):sortL (l.map .int)=some ((sortI l).map .int):=by
 unfold sortL
 rw[wL (by simpa using h),qB]
theorem fm{v m:Int}(h:0<m):0<=v.fmod m/\v.fmod m<m:=⟨wu v h,vu v h⟩
theorem qgL{F:Fs}{ρ:En}{S S1:Sr}{es:CEs}{l:List D}{k:Option Bool}(h:evs F es ρ S=.ok l S1){ds:List D}(a:rngD l=some ds)(b:ds.length<=1000000):ev F (.rng k es) ρ S=match k with|some m=>newL m ds S1|none=>.ok (.tup ds) S1:=by
 cases k <;> simp only[ev,h,Res.bind,a,b,vd]
theorem qgM{F:Fs}{ρ:En}{S S1:Sr}{es:CEs}{n:Nat}(h:evs F es ρ S=.ok [.int n] S1)(hn:n<=1000):ev F (.rng (some true) es) ρ S=.ok (.ref S1.length) (S1++[.lst ((rI n).map .int)]):=by
 rw[qgL h (qcY hn) (qi7 hn)]
 simp only[newL,refsI,vd]
theorem qkx{F:Fs}{ρ:En}{S S1:Sr}{es:CEs}{n:Nat}(h:evs F es ρ S=.ok [.int n] S1)(hn:n<=1000):ev F (.rng (some false) es) ρ S=.ok (.lst ((rI n).map .int)) S1:=by
 rw[qgL h (qcY hn) (qi7 hn)]
 rfl
theorem i_rng{F:Fs}{ρ:En}{S S1:Sr}{es:CEs}{n:Nat}(h:evs F es ρ S=.ok [.int n] S1)(hn:n<=1000):evI F (.rng es) ρ S=.ok ((rI n).map .int) S1:=by
 simp only[evI,h,Res.bind,qcY hn];rfl
theorem ql1{F:Fs}{ρ:En}{S S1 S2 a:Sr}{o i:CE}{x y d:D}(h:ev F o ρ S=.ok x S1)(hi:isLst S1 x=true)(b:ev F i ρ S1=.ok y S2)(c:popD S2 x y=.ok d a):ev F (.popAt o i) ρ S=.ok d a:=by
 simp only[ev,h,Res.bind,hi,vd,b,c]
theorem ql2{F:Fs}{ρ:En}{S S1 S2 a:Sr}{o i:CE}{x y d:D}(h:ev F o ρ S=.ok x S1)(hi:isLst S1 x=true)(b:ev F i ρ S1=.ok y S2)(c:appD S2 x y=.ok d a):ev F (.app o i) ρ S=.ok d a:=by
 simp only[ev,h,Res.bind,hi,vd,b,c]
end RP
namespace RP
open R
noncomputable def ent(t:Tie):List Int×D:=(t.1,.int t.2)
noncomputable def dicD(ts:List Tie):SO:=.dic (ts.map ent)
structure KnOk (many:Nat) (ts:List Tie):Prop where
 nd:(ts.map (·.1)).Nodup
 ok:∀t∈ts,PlOk many t.1/\t.1.length<=4/\1<=t.2/\t.2<=1000000
noncomputable def putTie(k:List Int)(w:Int)(ts:List Tie):List Tie :=
 if ts.any (λt=>decide (t.1=k))then ts.map (λt=>if t.1=k then(t.1,w)else t)else ts++[(k,w)]
theorem qgN(k:List Int)(w:Int)(ts:List Tie):putT k (.int w) (ts.map ent)=(putTie k w ts).map ent:=by
 unfold putT putTie
 have e:(ts.map ent).any (λp=>decide (p.1=k))=ts.any (λt=>decide (t.1=k)):=by rw[List.any_map];rfl
 rw[e]
 split
 .rw [vL,vL]
  apply v4
  intro t _
  show(if t.1=k then(t.1,D.int w)else ent t)=ent (if t.1=k then(t.1,w)else t)
  split <;> rfl
 .simp [ent]
theorem KnOk.put{many:Nat}{ts:List Tie}(h:KnOk many ts){k:List Int}{w:Int}(l:PlOk many k)(m:k.length<=4)(f:1<=w)(i:w<=1000000):KnOk many (putTie k w ts)/\(putTie k w ts).length<=ts.length+1:=by
 unfold putTie
 split
 .refine ⟨⟨?_,?_⟩,by simp⟩
  .rw [vL]
   have:ts.map ((·.1)∘λt=>if t.1=k then(t.1,w)else t)=ts.map (·.1):=by
    apply v4
    intro t _
    show(if t.1=k then(t.1,w)else t).1=t.1
    split <;> rfl
   rw[this];exact h.nd
  .intro t d
   obtain⟨s,c,rfl⟩:=vG.mp d
   split
   .rename_i e;exact⟨(h.ok s c).1,(h.ok s c).2.1,f,i⟩
   .exact h.ok s c
 .rename_i hn
  refine⟨⟨?_,?_⟩,by simp⟩
  .rw [uD,uC]
   refine⟨h.nd,by simp,λa ha b j e=>?_⟩
   simp at j
   obtain⟨s,c,rfl⟩:=vG.mp ha
   apply hn
   rw[vg]
   exact⟨s,c,by rw[wz,e,j]⟩
  .intro t d
   rcases wg.mp d with z|z
   .exact h.ok t z
   .simp at z;subst z;exact⟨l,m,f,i⟩
noncomputable def look(ts:List Tie)(k:List Int):Int:=match ts with
 |[]=>0
 |t::r=>if t.1=k then t.2 else look r k
theorem jx:∀{ts:List Tie} {k:List Int},k∈ts.map (·.1)->lookT k (ts.map ent)=some (.int (look ts k))/\∃t∈ts,t.1=k/\t.2=look ts k
 |[],k,h=>by simp at h
 |t::r,k,h=>by
  rw[wR]
  show(if t.1=k then some (D.int t.2)else lookT k (r.map ent))=some (.int (if t.1=k then t.2 else look r k))/\∃s∈t::r,s.1=k/\s.2=(if t.1=k then t.2 else look r k)
  by_cases e:t.1=k
  .rw [wL e,wL e];exact⟨rfl,t,wH,e,rfl⟩
  .rw [wK e,wK e]
   have h':k∈r.map (·.1):=by
    rw[wR]at h
    rcases wN.mp h with z|z
    .exact absurd z.symm e
    .exact z
   obtain⟨a,s,c,b⟩:=jx h'
   exact⟨a,s,wI _ c,b⟩
noncomputable def srt(ts:List Tie):List Tie:=(sortT (ts.map (·.1))).map λk=>(k,look ts k)
theorem qgO(ts:List Tie):(srt ts).map (·.1)=sortT (ts.map (·.1)):=by
 unfold srt;rw[vL]
 have:((λt:Tie=>t.1)∘λk=>(k,look ts k))=id:=rfl
 rw[this,List.map_id]
theorem qdV(ts:List Tie):(srt ts).length=ts.length:=by
 unfold srt;rw[wP,(qM _).length_eq,wP]
theorem qky{many:Nat}{ts:List Tie}(h:KnOk many ts):(∀t∈srt ts,PlOk many t.1/\t.1.length<=4/\1<=t.2/\t.2<=1000000)/\((srt ts).map (·.1)).Pairwise λa b=>HT.lexLt a b=true:=by
 refine⟨λt c=>?_,by rw[qgO];exact jf h.nd⟩
 unfold srt at c
 obtain⟨k,d,rfl⟩:=vG.mp c
 obtain⟨_,s,e,e1,f⟩:=jx ((qM _).mem_iff.mp d)
 have:=h.ok s e
 rw[e1,f]at this
 exact this
theorem j8:∀l:List (List Int),tupsOf (l.map tupI)=some l
 |[]=>rfl
 |a::r=>by simp[tupsOf,tupI,qB];exact j8 r
theorem qeU{l:List (List Int)}(h:l.length<64)(nd:l.Nodup)(ne:∀t∈l,t≠[]):sortL (l.map tupI)=some ((sortT l).map tupI):=by
 unfold sortL
 rw[wL (by simpa using h)]
 cases l with
 |nil=>rfl
 |cons a r =>
  have:intsOf ((a::r).map tupI)=none:=rfl
  rw[this]
  show(tupsOf ((a::r).map tupI)).bind _=_
  rw[j8,wW,wL ⟨nd,ne⟩]
theorem qkz{F:Fs}{ρ:En}{T:Sr}{kx j many:Nat}{ts:List Tie}(a:ρ[kx]?=some (some (.ref j)))(b:T[j]?=some (dicD ts))(h:KnOk many ts)(f:ts.length<64):
  ev F (.blt .tuple (.cons (.lc false [kx] 1 (.tup (.cons (.var 1) (.cons (.idx (.var 0) (.var 1)) .nil))) (.var 1) (.seq (.blt (.sorted false) (.cons (.var kx) .nil))) .nil) .nil)) ρ T=.ok (.tup ((srt ts).map tieD)) T:=by
 have i:ev F (.var kx) ρ T=.ok (.ref j) T:=by simp only[ev,varE,a]
 have n:walkD T (.ref j)=some ((ts.map (·.1)).map tupI):=by
  simp only[walkD,b,dicD,vL];rfl
 have c:bltD (.sorted false) [.ref j] T=.ok (.lst ((sortT (ts.map (·.1))).map tupI)) T:=by
  simp only[bltD,one,bSorted,n,wW]
  rw[qeU (by simpa using f) h.nd (λt o=>by obtain⟨s,c,rfl⟩:=vG.mp o;exact(h.ok s c).1.ne)]
  rfl
 have d:ev F (.blt (.sorted false) (.cons (.var kx) .nil)) ρ T=.ok (.lst ((sortT (ts.map (·.1))).map tupI)) T:=qG (qe i rfl) c
 have e:=j3 (g:=tupI) (F:=F) (fr:=[kx]) (nt:=1) (elt:=.tup (.cons (.var 1) (.cons (.idx (.var 0) (.var 1)) .nil))) (tg:=.var 1) (it:=.seq (.blt (.sorted false) (.cons (.var kx) .nil))) (ifs:=.nil) (ρ:=ρ) (S:=T) (S1:=T) (ds:=(sortT (ts.map (·.1))).map tupI) (sortT (ts.map (·.1))) (λ_=>true) (λk=>tieD (k,look ts k)) (λρ=>∃x,ρ=[some (.ref j),x])
  (by simp only[evI,d,Res.bind]) rfl ⟨none,by simp[frE,a]⟩ (by rw[(qM _).length_eq,wP];unfold PySem.sizeLine;lia) (by
   rintro k p ρ m ⟨x,rfl⟩
   refine⟨_,rfl,⟨_,rfl⟩,rfl,λ_=>⟨qZ (l:=[tupI k,.int (look ts k)]) (qe rfl (qe (qH (d1:=.ref j) (d2:=tupI k) rfl rfl ?_) rfl)) (by simp[PySem.sizeLine]),j6 _ _⟩⟩
   have q:j<T.length:=(wO.mp b).1
   have:(T++[SO.lst m])[j]?=some (dicD ts):=by rw[w5 q,b]
   simp only[idxD,tupI,this,dicD,qB,wW]
   exact(jx ((qM _).mem_iff.mp p)).1)
 rw[zf]at e
 refine qG (qe e rfl) ?_
 simp only[bltD,one,bTuple,seqOf,lstOf,wq,ofO]
 unfold srt
 rw[vL];rfl
end RP
namespace RP
open R
noncomputable def deg(T:List Tie)(x:Int):Int:=((T.filter λt=>t.1.contains x).map (·.2)).sum
theorem qbf{p t:List Int}(a:p.Nodup)(c:t.Nodup)(h:∀x∈t,x∈p):(p.filter λx=>t.contains x).length=t.length:=by
 apply List.Perm.length_eq
 refine(List.perm_ext_iff_of_nodup (a.filter _) c).mpr λx=>?_
 rw[vD]
 constructor
 .rintro ⟨_,b⟩;simpa using b
 .intro hx;exact⟨h x hx,by simpa using hx⟩
theorem yX{p:List Int}(h:p.Pairwise (· < ·)):p.Nodup:=h.imp λa=>by lia
end RP
namespace RP
open R
noncomputable def eu:Nat->Int->Int->Int
 |0,a,_=>a
 |n+1,a,b=>if b=0 then a else eu n b (a.fmod b)
theorem qgP:∀(n:Nat) {a b:Int},0<a->0<=b->0<eu n a b
 |0,a,b,ha,_=>ha
 |n+1,a,b,ha,hb=>by
  unfold eu
  split
  .exact ha
  .exact qgP n (by omega) (wu a (by omega))
theorem qi8:∀(n:Nat) {a b m:Int},0<=b->a<=m->b<=m->eu n a b<=m
 |0,a,b,m,_,ha,_=>ha
 |n+1,a,b,m,hb0,ha,hb=>by
  unfold eu
  split
  .exact ha
  .have:=vu a (show 0<b by omega)
   exact qi8 n (wu a (by omega)) hb (by omega)
theorem qb7{n:Nat}{a b:Int}(ha:0<=a)(c:0<b):0<eu (n+1) a b/\eu (n+1) a b<=b:=by
 unfold eu
 rw[wK (by omega)]
 have d:=wu a c
 have e:=vu a c
 exact⟨qgP n c d,qi8 n d (by omega) (by omega)⟩
theorem half{a b:Int}(h:0<b)(c:0<a.fmod b):2*b.fmod (a.fmod b)<b:=by
 have d:=vu a h
 have e:=vu b c
 have f:=wu b c
 have i:=Int.mul_fdiv_add_fmod b (a.fmod b)
 have j:0<b.fdiv (a.fmod b):=by
  rcases Int.lt_or_le 0 (b.fdiv (a.fmod b))with z|z
  .exact z
  .exfalso
   have:a.fmod b*b.fdiv (a.fmod b)<=0:=by
    have:=xC z (Int.le_of_lt c)
    simpa using this
   omega
 have l:a.fmod b<=a.fmod b*b.fdiv (a.fmod b):=by
  have:=xC (show(1:Int)<=b.fdiv (a.fmod b) by omega) (Int.le_of_lt c)
  simpa using this
 omega
theorem wl{test:En->Sr->Res Bool}{body:En->Sr->Res Fl}{E:Int->Int->En}{S:Sr}(l:∀a b,test (E a b) S=.ok (!(b == 0)) S)(o:∀a b,0<b->body (E a b) S=.ok (.nx (E b (a.fmod b))) S):∀(k n:Nat) (a b:Int),0<=a->0<=b->b<2^k->2*k+1<=n->whileLoop test body n (E a b) S=.ok (.nx (E (eu n a b) 0)) S:=by
 have stop:∀(n:Nat) (a:Int),0<n->whileLoop test body n (E a 0) S=.ok (.nx (E (eu n a 0) 0)) S:=by
  intro n a h
  cases n with
  |zero=>omega
  |succ n =>
   unfold whileLoop eu
   rw[l,wL rfl];rfl
 have go:∀(n:Nat) (a b:Int),0<b->whileLoop test body (n+1) (E a b) S=whileLoop test body n (E b (a.fmod b)) S:=by
  intro n a b h
  rw[whileLoop,l,Res.bind_ok]
  have:(!(b == 0))=true:=by simp;omega
  rw[wL this,o a b h,Res.bind_ok]
 have d:∀(n:Nat) (a b:Int),0<b->eu (n+1) a b=eu n b (a.fmod b):=λn a b h=>by rw[eu,wK (by omega)]
 intro k
 induction k with
 |zero =>
  intro n a b ha j f hn
  have:b=0:=by simp at f;omega
  subst this
  exact stop n a (by omega)
 |succ k p =>
  intro n a b ha j f hn
  by_cases z:b=0
  .subst z;exact stop n a (by omega)
  .have c:0<b:=by omega
   obtain⟨m,rfl⟩:∃m,n=m+2:=⟨n-2,by omega⟩
   have q:=wu a c
   rw[go _ _ _ c,d _ _ _ c]
   by_cases r:a.fmod b=0
   .rw [r];exact stop _ _ (by omega)
   .have i:0<a.fmod b:=by omega
    rw[go _ _ _ i,d _ _ _ i]
    have s:=half c i
    have e:(2:Int)^(k+1)=2*2^k:=by rw[Int.pow_succ];omega
    exact p m _ _ q (wu b i) (by omega) (by omega)
theorem qbg{F:Fs}{N:Nat}{ρ ρ1:En}{S S1:Sr}{r a:CSs}{c:CB}{X:Res Fl}(h:whileLoop (λρ S=>tst F c ρ S) (λρ S=>exs F N a ρ S) N ρ S=.ok (.nx ρ1) S1)(b:exs F N r ρ1 S1=X):exs F N (.cons (.whileS c a) r) ρ S=X:=by
 simp only[exs,ex,h,Res.bind]
 exact b
theorem bmod{a b:Int}{S:Sr}(h:b≠0):binD .mod (.int a) (.int b) S=some (.int (a.fmod b)):=by
 simp only[binD,binI];rw[wK h];rfl
theorem bdiv{a b:Int}{S:Sr}(h:0<b)(c:b.natAbs<2^64):binD .fdiv (.int a) (.int b) S=some (.int (a.fdiv b)):=by
 simp only[binD,binI];rw[wL (qdR h c)];rfl
theorem qgQ{a:Int}{S:Sr}(h:0<=a):bltD .abs [.int a] S=.ok (.int a) S:=by
 simp only[bltD,one,bAbs];rw[wK (by omega)]
noncomputable def cstI(w:Wb)(x:Int):Int:=w.costs.getD x.toNat 0
noncomputable def price(w:Wb)(p:List Int):Int:=(p.map (cstI w)).sum
theorem yY{w:Wb}{x:Int}{S:Sr}(h:0<=x)(a:x<w.costs.length):idxD S (tupI w.costs) (.int x)=some (.int (cstI w x)):=by
 have hx:x.toNat<w.costs.length:=by omega
 have:L2.ixN (w.costs.map D.int).length x=some x.toNat:=by
  unfold L2.ixN;rw[wL h,wP,wL a]
 show(L2.ixN (w.costs.map D.int).length x).bind (λj=>(w.costs.map D.int)[j]?)=_
 rw[this]
 simp only[wW,w4,cstI,wv,wD hx,wq,Option.getD_some]
theorem qkA{w:Wb}(h:WbOk w){x:Int}(h0:0<=x)(a:x<w.costs.length):1<=cstI w x/\cstI w x<=100:=by
 have hx:x.toNat<w.costs.length:=by omega
 unfold cstI
 rw[wv,wD hx]
 exact h.c3 _ (xA hx)
theorem qgR{f:Int->Int}:∀{l:List Int},(∀x∈l,1<=f x/\f x<=100)->(l.length:Int)<=(l.map f).sum/\(l.map f).sum<=100*l.length
 |[],_=>by simp
 |a::r,h=>by
  have b:=qgR (f:=f) (l:=r) λx hx=>h x (wI _ hx)
  have c:=h a wH
  simp only[wR,xl,wX]
  omega
theorem j9{w:Wb}{p:List Int}(h:WbOk w)(b:PlOk w.costs.length p):1<=p.length/\p.length<=12:=by
 have d:=qbf (p:=rI w.costs.length) (t:=p) (ym _) (yX b.up) (λx hx=>qX.mpr (b.rng x hx))
 have c:=vt (λx=>p.contains x) (rI w.costs.length)
 rw[qE]at c
 have:=h.c2
 refine⟨?_,by omega⟩
 cases hz:p with
 |nil=>exact absurd hz b.ne
 |cons a r=>simp
theorem qb8{w:Wb}{p:List Int}(h:WbOk w)(a:PlOk w.costs.length p):1<=price w p/\price w p<=1200:=by
 have b:=j9 h a
 have c:=qgR (f:=cstI w) (l:=p) λx hx=>qkA h (a.rng x hx).1 (a.rng x hx).2
 unfold price;omega
noncomputable def mass(w:Wb)(p:List Int):Int:=((tin w p).map (·.2)).sum
noncomputable def low(n:Nat)(t b:Int):D:=.tup [.int (t.fdiv (eu n t b)),.int (b.fdiv (eu n t b))]
end RP
namespace RP
open R
section
variable{F:Fs}{N:Nat}{ρ ρ1:En}{S S1 S2:Sr}{e1 e2:CE}{c c2:CB}
theorem ql3(h:tst F c ρ S=.ok true S1):tst F (.or c c2) ρ S=.ok true S1:=by simp[tst,h,Res.bind]
theorem ql4{y:Bool}(h:tst F c ρ S=.ok false S)(a:tst F c2 ρ S=.ok y S):tst F (.or c c2) ρ S=.ok y S:=by simp[tst,h,a,Res.bind]
end
end RP
namespace RP
open R
mutual
noncomputable def gd:D->Bool
 | .ref _=>false
 | .tup l=>decide (l.length<=900)&&gds l
 | .lst l=>gds l
 | .non=>true
 | .bl _=>true
 | .int _=>true
 | .str _=>true
 | .emp=>true
noncomputable def gds:List D->Bool
 |[]=>true
 |x::r=>gd x&&gds r
end
mutual
noncomputable def tr:D->Bool
 | .int i=>decide (i.natAbs<=10000000)
 | .tup l=>decide (l.length<=60)&&trs l
 |_=>false
noncomputable def trs:List D->Bool
 |[]=>true
 |x::r=>tr x&&trs r
end
noncomputable def tl:CSs->CSs
 | .cons _ r=>r
 | .nil=>.nil
end RP
namespace RP
open R
@[irreducible] noncomputable def Ok{α:Type}(r:Res α)(Q:α->Sr->Prop):Prop:=∃a S,r=.ok a S/\Q a S
theorem Ok.ex{b:Type}{r:Res b}{Q:b->Sr->Prop}(h:Ok r Q):∃a S,r=.ok a S/\Q a S:=by unfold Ok at h;exact h
theorem Ok.mk{b:Type}{r:Res b}{Q:b->Sr->Prop}(h:∃a S,r=.ok a S/\Q a S):Ok r Q:=by unfold Ok;exact h
theorem qgS{b:Type}{a:b}{S:Sr}{Q:b->Sr->Prop}(h:Q a S):Ok (.ok a S) Q:=.mk ⟨a,S,rfl,h⟩
theorem Ok.of{b:Type}{r:Res b}{a:b}{S:Sr}{Q:b->Sr->Prop}(e:r=.ok a S)(h:Q a S):Ok r Q:=.mk ⟨a,S,e,h⟩
section
variable{F:Fs}{N:Nat}{ρ:En}{S:Sr}{r a b:CSs}{e e1 e2:CE}{t:CT}{c:CB}{Q:Fl->Sr->Prop}{s:CS}
theorem qi9(h:Q (.nx ρ) S):Ok (exs F N .nil ρ S) Q:=by rw[qF];exact qgS h
theorem qgT(h:Ok (ev F e ρ S) λd S1=>Q (.rt d) S1):Ok (exs F N (.cons (.ret e) r) ρ S) Q:=by
 obtain⟨d,S1,e1,f⟩:=h.ex
 rw[qJ e1];exact qgS f
theorem qaa(h:Ok (ev F e ρ S) λd S1=>Ok (asg F t d ρ S1) λρ1 S2=>Ok (exs F N r ρ1 S2) Q):Ok (exs F N (.cons (.set t e) r) ρ S) Q:=by
 obtain⟨d,S1,e1,f⟩:=h.ex
 obtain⟨ρ1,S2,e2,i⟩:=f.ex
 rw[qm e1 e2 rfl];exact i
theorem o_no(h:Ok (tst F c ρ S) λx S1=>x=false/\Ok (exs F N r ρ S1) Q):Ok (exs F N (.cons (.ifs c a .nil) r) ρ S) Q:=by
 obtain⟨x,S1,e1,rfl,d⟩:=h.ex
 rw[x_no e1 rfl];exact d
theorem qdW{m:Type}{g:m->D}{it:CI}(P:List m->En->Sr->Prop)(xs:List m)(h:Ok (evI F it ρ S) λds S1=>ds=xs.map g/\P [] ρ S1)(H:∀(pre:List m) (x:m) (j:List m) (ρ:En) (S:Sr),xs=pre++x::j->P pre ρ S->Ok (asg F t (g x) ρ S) λρ1 S1=>Ok (exs F N a ρ1 S1) λf S2=>match f with|.nx l=>P (pre++[x]) l S2|_=>False)(K:∀i n,P xs i n->Ok (exs F N r i n) Q):Ok (exs F N (.cons (.forS t it a) r) ρ S) Q:=by
 obtain⟨ds,S1,e1,rfl,h0⟩:=h.ex
 obtain⟨i,n,e2,p⟩:=zG (g:=g) (body:=λd ρ S=>(asg F t d ρ S).bind λρ1 S1=>exs F N a ρ1 S1) P xs h0 (by
  intro pre x j ρ S q u
  obtain⟨ρ1,S2,v,w⟩:=(H pre x j ρ S q u).ex
  obtain⟨f,y,z,o⟩:=w.ex
  cases f with
  |nx l=>exact⟨l,y,by rw[v,Res.bind_ok,z],o⟩
  |_=>exact o.elim)
 rw[yW e1 e2 rfl]
 exact K i n p
theorem qbh{f:CF}{l:List D}{Q:D->Sr->Prop}(j:l.length=f.np)(m:f.keeps=false)(h:Ok (exs F N f.body (l.map some++List.replicate (f.nn-f.np) none) S) λx S1=>match x with
  | .rt d=>S.length<=S1.length/\refsLt S.length d=true/\Q d (S1.take S.length)
  |_=>False):Ok (callC F N f l S) Q:=by
 obtain⟨x,S1,e1,i⟩:=h.ex
 cases x with
 |rt d =>
  obtain⟨p,n,o⟩:=i
  have:callC F N f l S=.ok d (S1.take S.length):=by
   simp only[callC,j,wL,e1,Res.bind,leave,m]
   rw[wK (by simp)]
   split
   .rename_i z;rw[<-z,xq]
   .first|rfl|rw[wL n]
  rw[this];exact qgS o
 |_=>exact i.elim
end
end RP
namespace RP
open R
theorem qb9(a b:Int)(d:0<b):Int.gcd b (a.fmod b)=Int.gcd a b:=by
 have e:a=a.fmod b+b*a.fdiv b:=by have:=Int.mul_fdiv_add_fmod a b;lia
 have c:Int.gcd a b=Int.gcd (a.fmod b+b*a.fdiv b) b:=by rw[<-e]
 rw[c,Int.gcd_comm b]
 simp
theorem qkB:∀(k n:Nat) (a b:Int),0<=a->0<=b->b<2^k->2*k+1<=n->eu n a b=(Int.gcd a b:Int):=by
 have stop:∀(n:Nat) (a:Int),0<=a->0<n->eu n a 0=(Int.gcd a 0:Int):=by
  intro n a ha h
  cases n with
  |zero=>lia
  |succ n=>unfold eu;rw[wL rfl,Int.gcd_zero_right];lia
 have d:∀(n:Nat) (a b:Int),0<b->eu (n+1) a b=eu n b (a.fmod b):=λn a b h=>by rw[eu,wK (by lia)]
 intro k
 induction k with
 |zero =>
  intro n a b ha j f hn
  have:b=0:=by simp at f;lia
  subst this
  exact stop n a ha (by lia)
 |succ k l =>
  intro n a b ha j f hn
  by_cases z:b=0
  .subst z;exact stop n a ha (by lia)
  .have c:0<b:=by lia
   obtain⟨m,rfl⟩:∃m,n=m+2:=⟨n-2,by lia⟩
   have p:=wu a c
   rw[d _ _ _ c,<-qb9 a b c]
   by_cases o:a.fmod b=0
   .rw [o];exact stop _ _ (by lia) (by lia)
   .have i:0<a.fmod b:=by lia
    rw[d _ _ _ i,<-qb9 b _ i]
    have q:=half c i
    have e:(2:Int)^(k+1)=2*2^k:=by rw[Int.pow_succ];lia
    exact l m _ _ (by lia) (wu b i) (by lia) (by lia)
noncomputable def lw(t b:Int):Int×Int:=(t.fdiv (Int.gcd t b:Int),b.fdiv (Int.gcd t b:Int))
structure Lw (p:Int×Int):Prop where
 pos:1<=p.2
 one:Int.gcd p.1 p.2=1
theorem yx{t b:Int}(a:1<=b):0<Int.gcd t b:=Int.gcd_pos_of_ne_zero_right t (by lia)
theorem qca{t g:Int}(a:0<g)(h:g∣t):t.fdiv g*g=t:=by
 rw[u4 _ (by lia)]
 exact Int.ediv_mul_cancel h
theorem qab{t b:Int}(a:1<=b):(lw t b).1*(Int.gcd t b:Int)=t/\(lw t b).2*(Int.gcd t b:Int)=b :=
 ⟨qca (by have:=yx (t:=t) a;lia) (Int.gcd_dvd_left t b),qca (by have:=yx (t:=t) a;lia) (Int.gcd_dvd_right t b)⟩
theorem qja{t b:Int}(a:1<=b):(lw t b).1*b=t*(lw t b).2:=by
 obtain⟨c,d⟩:=qab (t:=t) a
 calc (lw t b).1*b=(lw t b).1*((lw t b).2*(Int.gcd t b:Int)):=by rw[d]
  _=((lw t b).1*(Int.gcd t b:Int))*(lw t b).2:=by rw[Int.mul_assoc,Int.mul_comm (lw t b).2]
  _=t*(lw t b).2:=by rw[c]
theorem qaJ{t b:Int}(a:1<=b):Lw (lw t b):=by
 have c:=yx (t:=t) a
 obtain⟨h,d⟩:=qab (t:=t) a
 have e:0<(Int.gcd t b:Int):=by lia
 refine⟨?_,?_⟩
 .rcases Int.lt_or_le 0 (lw t b).2 with z|z
  .exact z
  .exfalso
   have:=uH z (show 0<=(Int.gcd t b:Int) by lia)
   rw[d]at this;lia
 .have e1:(lw t b).1=t / (Int.gcd t b:Int):=u4 _ (by lia)
  have f:(lw t b).2=b / (Int.gcd t b:Int):=u4 _ (by lia)
  rw[e1,f]
  exact Int.gcd_ediv_gcd_ediv_gcd c
theorem qdX{p a b:Int}(h:p∣a*b)(g:Int.gcd p a=1):p∣b:=by
 rw[<-Int.natAbs_dvd_natAbs]at h ⊢
 rw[Int.natAbs_mul]at h
 exact Nat.Coprime.dvd_of_dvd_mul_left (show Nat.Coprime _ _ from g) h
theorem qeV{p q:Int×Int}(c:Lw p)(d:Lw q)(h:p.1*q.2=q.1*p.2):p=q:=by
 have d1:p.2∣q.2:=by
  have:p.2∣p.1*q.2:=by rw[h];exact Int.dvd_mul_left _ _
  exact qdX this (by rw[Int.gcd_comm];exact c.one)
 have d2:q.2∣p.2:=by
  have:q.2∣q.1*p.2:=by rw[<-h];exact Int.dvd_mul_left _ _
  exact qdX this (by rw[Int.gcd_comm];exact d.one)
 have f:=c.pos
 have i:=d.pos
 have e:p.2=q.2:=by
  have a:=Int.le_of_dvd (by lia) d1
  have b:=Int.le_of_dvd (by lia) d2
  lia
 have e1:p.1=q.1:=by
  rw[e]at h
  exact Int.eq_of_mul_eq_mul_right (by lia) h
 exact Prod.ext e1 e
end RP
namespace RP
open R
theorem qcZ:∀{a b:List Int},a.Pairwise (· < ·)->b.Pairwise (· < ·)->(∀x,x∈a ↔ x∈b)->a=b
 |[],[],_,_,_=>rfl
 |[],y::s,_,_,h=>by have:=(h y).mpr wH;simp at this
 |x::r,[],_,_,h=>by have:=(h x).mp wH;simp at this
 |x::r,y::s,h1,h2,h=>by
  obtain⟨f,i⟩:=wx.mp h1
  obtain⟨b1,b2⟩:=wx.mp h2
  have e:x=y:=by
   rcases wN.mp ((h x).mp wH)with z|z
   .exact z
   .rcases wN.mp ((h y).mpr wH)with d|d
    .exact d.symm
    .have:=f y d;have:=b1 x z;lia
  subst e
  have:r=s:=qcZ i b2 λq=>by
   constructor
   .intro c
    rcases wN.mp ((h q).mp (wI _ c))with z|z
    .have:=f q c;lia
    .exact z
   .intro c
    rcases wN.mp ((h q).mpr (wI _ c))with z|z
    .have:=b1 q c;lia
    .exact z
  rw[this]
section
variable{many:Nat}{o:List Int}(hp:o.Perm (rI many))
include hp
end
section
variable{many:Nat}{o:List Int}(hp:o.Perm (rI many))
include hp
end
section
variable{w:Wb}(hw:WbOk w){o:List Int}(hp:o.Perm (rI w.costs.length))
include hw hp
end
theorem ql5{F:Fs}{ρ:En}{S:Sr}{ns:List Int}{c:Int}(h:ρ[0]?=some (some (.lst (ns.map .int))))(d:1<=c)(e:c<=1000):∃n:Nat,(2*n:Int)<=c+1/\evI F (.rng (.cons (.cst (.int 0)) (.cons (.blt .max2 (.cons (.cst (.int 1)) (.cons (.blt .min2 (.cons (.blt .len (.cons (.var 0) .nil)) (.cons (.cst (.int c)) .nil))) .nil))) (.cons (.cst (.int 2)) .nil)))) ρ S=.ok ((List.range n).map λ(k:Nat)=>D.int (0+2*k)) S:=by
 obtain⟨b,a⟩:∃b:Int,b=(if(if c<(ns.length:Int)then c else(ns.length:Int))>1 then(if c<(ns.length:Int)then c else(ns.length:Int))else 1):=⟨_,rfl⟩
 have f:1<=b/\b<=c:=by rw[a];split <;> split <;> lia
 refine⟨((b-0+2-1) / 2).toNat,by lia,?_⟩
 have i:ev F (.var 0) ρ S=.ok (.lst (ns.map .int)) S:=by simp only[ev,varE,h]
 have j:ev F (.blt .len (.cons (.var 0) .nil)) ρ S=.ok (.int ns.length) S:=qG (qe i rfl) (by simp[bltD,one,bLen,lenD])
 have l:ev F (.blt .min2 (.cons (.blt .len (.cons (.var 0) .nil)) (.cons (.cst (.int c)) .nil))) ρ S=.ok (.int (if c<(ns.length:Int)then c else(ns.length:Int))) S:=qG (qe j (qe rfl rfl)) rfl
 have m:ev F (.blt .max2 (.cons (.cst (.int 1)) (.cons (.blt .min2 (.cons (.blt .len (.cons (.var 0) .nil)) (.cons (.cst (.int c)) .nil))) .nil))) ρ S=.ok (.int b) S:=qG (qe rfl (qe l rfl)) (by rw[a];rfl)
 have o:evs F (.cons (.cst (.int 0)) (.cons (.blt .max2 (.cons (.cst (.int 1)) (.cons (.blt .min2 (.cons (.blt .len (.cons (.var 0) .nil)) (.cons (.cst (.int c)) .nil))) .nil))) (.cons (.cst (.int 2)) .nil))) ρ S=.ok [.int 0,.int b,.int 2] S:=qe rfl (qe m rfl)
 simp only[evI,o,Res.bind,rngD]
 have p:-(2^62)<=(0:Int)/\(0:Int)<2^62/\-(2^62)<=b/\b<2^62/\(0:Int)<2/\(2:Int)<2^62:=⟨by decide,by decide,by lia,by lia,by decide,by decide⟩
 rw[wL p];rfl
end RP
namespace RP
open R PySem
noncomputable def tx(p:Int×Int):Str:=if p.2=1 then Str.ofString (toString p.1)else Str.ofString (toString p.1)++Str.ofString "/"++Str.ofString (toString p.2)
end RP
namespace RP
open R
noncomputable abbrev NW:Nat:=60
@[irreducible] noncomputable def G(d:Nat):Fs:=run prg NW d
theorem qgU(d:Nat):G d=run prg NW d:=by unfold G;rfl
theorem G_at{d i:Nat}{c:CF}(h:prg[i]?=some c)(l:List D)(S:Sr):G (d+1) i l S=callC (G d) NW c l S:=by
 rw[qgU,qgU]
 show(match prg[i]? with|some c=>callC (run prg NW d) NW c l S|none=>.no)=_
 rw[h]
theorem qc0{d:Nat}{i:Int}{S:Sr}:G (d+1) 0 [.int i] S=.ok (.bl true) S:=by
 rw[G_at (c:=c_0) rfl]
 simp[callC,c_0,Res.bind,exs,ex,ev,varE,isiD,leave]
theorem qP{d:Nat}{i a b:Int}{S:Sr}:G (d+2) 1 [.int i,.int a,.int b] S=.ok (.bl (decide (a<=i)&&decide (i<=b))) S:=by
 rw[G_at (c:=c_1) rfl]
 by_cases h:a<=i <;> simp[callC,c_1,exs,ex,ev,evs,varE,Res.bind,qc0,cmpD,h,leave]
theorem qcb{d:Nat}{p:List Int}{S:Sr}(a:p≠[])(h:p.Pairwise (· < ·)):G (d+1) 11 [tupI p] S=.ok (.bl true) S:=by
 rw[G_at (c:=c_11) rfl]
 have e:evI (G d) (.zip (.var 0) (.slc (.var 0) (.some (.cst (.int 1))) .none)) [some (tupI p)] S=.ok ((p.zip (p.drop 1)).map λq=>.tup [.int q.1,.int q.2]) S:=by
  have:slcD S (tupI p) (some 1) none=some (tupI (p.drop 1)):=by
   unfold slcD tupI
   simp only[cut1];simp
  simp[Res.bind,callC,exs,ex,ev,evs,evO,evI,asg,asgs,tst,tsts,varE,frE,bltD,one,two,leave,ofO,truD,this]
  simp only[tupI,walkF,List.zip_map',List.zip_map,vL]
  simp
 refine qO rfl (qJ ?_)
 rw[<-qgE h]
 exact jv (p.zip (p.drop 1)) (λq=>decide (q.1<q.2)) (λρ=>∃x y,ρ=[x,y]) e rfl ⟨_,_,rfl⟩ (by
  rintro q _ ρ ⟨x,y,rfl⟩
  exact⟨_,rfl,⟨_,_,rfl⟩,by simp[Res.bind,callC,exs,ex,ev,evs,evO,evI,asg,asgs,tst,tsts,varE,frE,bltD,one,two,leave,ofO,truD,cmpD]⟩)
theorem qbi{d:Nat}{p:List (List Int)}{S:Sr}(h:p.Pairwise λa b=>HT.lexLt a b=true):G (d+1) 11 [.lst (p.map tupI)] S=.ok (.bl true) S:=by
 rw[G_at (c:=c_11) rfl]
 have e:evI (G d) (.zip (.var 0) (.slc (.var 0) (.some (.cst (.int 1))) .none)) [some (.lst (p.map tupI))] S=.ok ((p.zip (p.drop 1)).map λq=>.tup [tupI q.1,tupI q.2]) S:=by
  have:slcD S (.lst (p.map tupI)) (some 1) none=some (.lst ((p.drop 1).map tupI)):=by
   unfold slcD lstOf
   simp[cut1]
  rw[<-qgF]
  simp only[evI,ev,evO,varE,Res.bind,ws,this,ofO,walkF]
 refine qO rfl (qJ ?_)
 rw[<-qdN h]
 exact jv (p.zip (p.drop 1)) (λq=>HT.lexLt q.1 q.2) (λρ=>∃x y,ρ=[x,y]) e rfl ⟨_,_,rfl⟩ (by
  rintro q _ ρ ⟨x,y,rfl⟩
  exact⟨_,rfl,⟨_,_,rfl⟩,by simp[Res.bind,callC,exs,ex,ev,evs,evO,evI,asg,asgs,tst,tsts,varE,frE,bltD,one,two,leave,ofO,truD,cmpD,tupI,qB]⟩)
theorem qbj{d n:Nat}{p:List Int}{S:Sr}(h:PlOk n p):G (d+3) 10 [tupI p,.int n] S=.ok (.bl true) S:=by
 rw[G_at (c:=c_10) rfl]
 have hn:(List.map D.int p).isEmpty=false:=by
  cases p with
  |nil=>exact absurd rfl h.ne
  |cons a r=>rfl
 refine qO rfl (x_no (S1:=S) ?_ (qJ (qdP (x:=true) (y:=true) ?_ ?_)))
 .simp [Res.bind,callC,exs,ex,ev,evs,evO,evI,asg,asgs,tst,tsts,varE,frE,bltD,one,two,leave,ofO,truD,tupI,isiD,hn]
 .exact j5 (g:=.int) p (λρ=>∃x,ρ=[some (.int n),x]) rfl rfl ⟨_,rfl⟩ (by
   rintro q b ρ ⟨x,rfl⟩
   have e:=(h.rng q b).1
   have f:q<=(n:Int)-1:=by have:=(h.rng q b).2;omega
   exact⟨_,rfl,⟨_,rfl⟩,by simp[Res.bind,callC,exs,ex,ev,evs,evO,evI,asg,asgs,tst,tsts,varE,frE,bltD,one,two,leave,ofO,truD,binD,binI,qP,e,f]⟩)
 .exact qk rfl (qcb h.ne h.up)
theorem yZ{d n:Nat}{p:List Int}{S:Sr}(h:PlOk n p)(a:p.length<=4):G (d+4) 9 [tupI p,.int n] S=.ok (.bl true) S:=by
 rw[G_at (c:=c_9) rfl]
 exact qO rfl (qJ (qdP (x:=true) (y:=true) (qk rfl (qbj h)) (zv (qG rfl (yk _ _)) rfl (by simp[cmpD];omega))))
theorem qgV{d n:Nat}{t:Tie}{S:Sr}(h:PlOk n t.1)(b:t.1.length<=4)(a:1<=t.2/\t.2<=1000000):G (d+5) 8 [tieD t,.int n] S=.ok (.bl true) S:=by
 rw[G_at (c:=c_8) rfl]
 refine qO rfl (x_no (S1:=S) ?_ (qm (d:=tieD t) (S1:=S) rfl (ρ1:=[some (tieD t),some (.int n),some (tupI t.1),some (.int t.2)]) rfl (qJ (qdP (x:=true) (y:=true) (qk rfl (yZ h b)) ?_))))
 .simp [Res.bind,callC,exs,ex,ev,evs,evO,evI,asg,asgs,tst,tsts,varE,frE,bltD,one,two,leave,ofO,truD,tieD,isiD,bLen,lenD,cmpD,eqD]
 .simp [Res.bind,callC,exs,ex,ev,evs,evO,evI,asg,asgs,tst,tsts,varE,frE,bltD,one,two,leave,ofO,truD,qP,a.1,a.2]
theorem qc1{d:Nat}{w:Wb}{S:Sr}(h:WbOk w):G (d+6) 7 [.tup (w.ties.map tieD),.int w.costs.length] S=.ok (.bl true) S:=by
 rw[G_at (c:=c_7) rfl]
 refine qO rfl (x_no (S1:=S) ?_ (x_no (S1:=S) (t_no (x:=true) (t_of ?_)) (qJ (qk (l:=[.lst ((w.ties.map (·.1)).map tupI)]) (qe ?_ rfl) (qbi h.t3)))))
 .simp [Res.bind,callC,exs,ex,ev,evs,evO,evI,asg,asgs,tst,tsts,varE,frE,bltD,one,two,leave,ofO,truD,isiD,bLen,lenD,cmpD];have:=h.t1;omega
 .exact j5 (g:=tieD) w.ties (λρ=>∃x,ρ=[some (.int w.costs.length),x]) rfl rfl ⟨_,rfl⟩ (by
   rintro t e ρ ⟨x,rfl⟩
   obtain⟨a,b,c⟩:=h.t2 t e
   exact⟨_,rfl,⟨_,rfl⟩,qk rfl (qgV a b c)⟩)
 .have:=j3 (g:=tieD) (F:=G (d+5)) (fr:=[]) (nt:=2) (elt:=.var 0) (tg:=.tup (.cons (.var 0) (.cons (.var 1) .nil))) (it:=.seq (.var 0)) (ifs:=.nil) (ρ:=[some (.tup (w.ties.map tieD)),some (.int w.costs.length)]) (S:=S) (S1:=S) w.ties (λ_=>true) (λt=>tupI t.1) (λρ=>∃x y,ρ=[x,y]) rfl rfl ⟨_,_,rfl⟩ (by have:=h.t1;unfold PySem.sizeLine;omega) (by
   rintro t e ρ m ⟨x,y,rfl⟩
   exact⟨_,rfl,⟨_,_,rfl⟩,rfl,λ_=>⟨rfl,zz _ t.1⟩⟩)
  rw[zf]at this
  rw[vL]
  exact this
theorem qcc{d:Nat}{w:Wb}{S:Sr}(h:WbOk w):G (d+4) 6 [tupI w.costs] S=.ok (.bl true) S:=by
 rw[G_at (c:=c_6) rfl]
 refine qO rfl (x_no (S1:=S) ?_ (qJ ?_))
 .have b:(1:Int)<=w.costs.length:=by have:=h.c1;omega
  have e:(w.costs.length:Int)<=12:=by have:=h.c2;omega
  simp[Res.bind,callC,exs,ex,ev,evs,evO,evI,asg,asgs,tst,tsts,varE,frE,bltD,one,two,leave,ofO,truD,tupI,isiD,bLen,lenD,cmpD,b,e]
 .exact j5 (g:=.int) w.costs (λρ=>∃x,ρ=[x]) rfl rfl ⟨_,rfl⟩ (by
   rintro q a ρ ⟨x,rfl⟩
   exact⟨_,rfl,⟨_,rfl⟩,by simp[Res.bind,callC,exs,ex,ev,evs,evO,evI,asg,asgs,tst,tsts,varE,frE,bltD,one,two,leave,ofO,truD,qP,(h.c3 q a).1,(h.c3 q a).2]⟩)
theorem qgW{d:Nat}{w:Wb}{S:Sr}(h:WbOk w):G (d+7) 5 [webD w] S=.ok (.bl true) S:=by
 rw[G_at (c:=c_5) rfl]
 refine qO rfl (x_no (S1:=S) ?_ (qm (d:=webD w) (S1:=S) rfl rfl (qJ (qdP (x:=true) (y:=true) (qk rfl (qcc h)) (qk (l:=[.tup (w.ties.map tieD),.int w.costs.length]) (qe rfl (qe (qG rfl (yk _ _)) rfl)) (qc1 h))))))
 simp[Res.bind,callC,exs,ex,ev,evs,evO,evI,asg,asgs,tst,tsts,varE,frE,bltD,one,two,leave,ofO,truD,webD,isiD,bLen,lenD,cmpD,eqD]
theorem qac{d:Nat}{w:Wb}{S:Sr}(h:WbOk w):G (d+8) 12 [webD w] S=.ok .non S:=by
 rw[G_at (c:=c_12) rfl]
 exact qdO rfl (x_no (S1:=S) (t_no (x:=true) (t_of (qk rfl (qgW h)))) qF)
theorem jy(x:Int)(p:List Int):inD (.int x) (p.map .int)=some (p.contains x):=by
 have a:(p.map D.int).all flatD=true:=by simp[flatD]
 unfold inD
 rw[a]
 simp only[flatD,Bool.and_self,vd,List.any_map]
 congr 1
 rw[<-List.any_beq']
 rfl
end RP
namespace RP
open R
theorem qiF{d:Nat}{c:Int}{S:Sr}:∃m:Int,0<=m/\m<10^60/\G (d+1) 20 [.int c] S=.ok (.int m) S:=by
 have a:(0:Int)<10^60:=by decide
 have b:=wu c a
 have f:=vu c a
 refine⟨(c.fmod (10^60)*845098040014256830712216258592636193483572396323965406503637).fmod (10^60),wu _ a,vu _ a,?_⟩
 rw[G_at (c:=c_20) rfl]
 refine qO rfl (qJ (qC (d1:=.int (c.fmod (10^60)*845098040014256830712216258592636193483572396323965406503637)) (d2:=.int (10^60)) (S1:=S) (qC (d1:=.int (c.fmod (10^60))) (S1:=S) (qC (d1:=.int c) (d2:=.int (10^60)) (S1:=S) rfl rfl rfl) rfl ?_) rfl rfl))
 exact bmul (qdQ (by
  have e:(10:Int)^60<2^250:=by decide
  have:(((2:Nat)^250:Nat):Int)=(2:Int)^250:=by norm_cast
  lia) (by decide))
theorem yH{d n:Nat}{v m:Int}{S:Sr}(hn:n<S.length)(h0:0<m)(hm:m.natAbs<2^64):G (d+1) 22 [.ref n,.int m] (pk S n v)=.ok (.int (v.fmod m)) (pk S n (v.fdiv m)):=by
 rw[G_at (c:=c_22) rfl]
 have e:=ql0 hn v
 have hx:exs (G d) NW c_22.body [some (.ref n),some (.int m),none] (pk S n v)=.ok (.rt (.int (v.fmod m))) (pk S n (v.fdiv m)):=by
  refine qm (d:=.tup [.int (v.fdiv m),.int (v.fmod m)]) (S1:=pk S n v) (qG (qe (qH (d:=.int v) rfl rfl ?_) (qe rfl rfl)) ?_) (ρ1:=[some (.ref n),some (.int m),some (.int (v.fmod m))]) (S2:=pk S n (v.fdiv m)) ?_ (qJ rfl)
  .simp [idxD,seqOf,lstOf,e,L2.atI,L2.ixN]
  .simp [bltD,two,bDivmod,qdR h0 hm]
  .have:putE (pk S n v) (.ref n) (.int 0) (.int (v.fdiv m))=some (pk S n (v.fdiv m)):=by
    simp[putE,putN,e,L2.ixN,refsLt]
    unfold pk;simp
   simp only[asg,asgs,ev,varE,Res.bind,ws,this]
   rfl
 exact qaH (S2:=[]) rfl rfl (by rw[va];exact hx) (by simp[qK]) rfl
theorem qcd(l:List Int)(x:Int)(S:Sr):∃c:Int,idxD S (.lst (l.map .int++[.int x])) (.int 0)=some (.int c):=by
 cases l with
 |nil=>exact⟨x,rfl⟩
 |cons a r=>exact⟨a,by simp[idxD,seqOf,lstOf,L2.atI,L2.ixN]⟩
theorem qiG(l:List Int)(a b:Option Int):∃m:List Int,cutD (l.map .int) a b=m.map .int/\m.length<=l.length:=by
 unfold cutD
 rw[wP,<-List.map_drop,<-List.map_take]
 exact⟨_,rfl,by simp;lia⟩
theorem bcat{a b:List D}{S:Sr}(h:a.length+b.length<=1000):binD .add (.lst a) (.lst b) S=some (.lst (a++b)):=by
 have:catOk a b=true:=by unfold catOk PySem.sizeLine;rw[wz];lia
 simp[binD,lstOf,this]
theorem qaK{d:Nat}{ns:List Int}(n:ns.length<=63){k f a:Int}{x y:Option D}{S:Sr}(p:0<=f)(u:f<10^60)(ha:0<=a)(q:a<100):∃m c:Int,0<=m/\m<10^60 /\
  (asg (G (d+1)) (.var 3) (.int a) [some (.lst (ns.map .int)),some (.int k),some (.int f),x,y] S).bind (λρ1 S1=>exs (G (d+1)) NW (.cons (.set (.var 4) (.idx (.bin .add (.slc (.var 0) (.some (.var 3)) (.some (.bin .add (.var 3) (.cst (.int 1))))) (.lst false (.cons (.bin .add (.bin .add (.bin .mul (.cst (.int 5701)) (.var 3)) (.cst (.int 43))) (.bin .mul (.cst (.int 7)) (.idx (.bin .add (.var 0) (.lst false (.cons (.cst (.int 0)) .nil))) (.cst (.int 0))))) .nil))) (.cst (.int 0)))) (.cons (.set (.var 2) (.bin .add (.bin .mul (.var 2) (.bin .pow (.cst (.int 10)) (.cst (.int 60)))) (.call 20 (.cons (.var 4) .nil)))) .nil)) ρ1 S1)
   = .ok (.nx [some (.lst (ns.map .int)),some (.int k),some (.int (f*10^60+m)),some (.int a),some (.int c)]) S:=by
 obtain⟨x0,b⟩:=qcd ns 0 S
 obtain⟨h,i,v⟩:=qiG ns (some a) (some (a+1))
 obtain⟨c,r⟩:=qcd h (5701*a+43+7*x0) S
 obtain⟨m,j,l,hm⟩:=qiF (d:=d) (c:=c) (S:=S)
 refine⟨m,c,j,l,?_⟩
 rw[show asg (G (d+1)) (.var 3) (.int a) [some (.lst (ns.map .int)),some (.int k),some (.int f),x,y] S=.ok [some (.lst (ns.map .int)),some (.int k),some (.int f),some (.int a),y] S from rfl,Res.bind_ok]
 refine qm (d:=.int c) (S1:=S) (qH (d1:=.lst (h.map .int++[.int (5701*a+43+7*x0)])) (S1:=S) (qC (d1:=.lst (h.map .int)) (d2:=.lst [.int (5701*a+43+7*x0)]) (S1:=S) ?_ ?_ (bcat (by simp;lia))) rfl r) rfl (qm (d:=.int (f*10^60+m)) (S1:=S) (qC (d1:=.int (f*10^60)) (S1:=S) (qC (d2:=.int (10^60)) (S1:=S) rfl rfl (bmul (qdQ ?_ (by decide)))) (qk rfl hm) badd) rfl qF)
 .simp only[ev,evO,varE,Res.bind,ws,xm,badd,ofO,slcD,lstOf]
  simp only[wq,i]
 .have e1:ev (G (d+1)) (.bin .mul (.cst (.int 7)) (.idx (.bin .add (.var 0) (.lst false (.cons (.cst (.int 0)) .nil))) (.cst (.int 0)))) [some (.lst (ns.map .int)),some (.int k),some (.int f),some (.int a),y] S=.ok (.int (7*x0)) S :=
   qC (S1:=S) rfl (qH (d1:=.lst (ns.map .int++[.int 0])) (S1:=S) (qC (d2:=.lst [.int 0]) (S1:=S) rfl rfl (bcat (by simp;lia))) rfl b) (bmul (yw (by decide)))
  have s:=qC (F:=G (d+1)) (o:=.add) (S:=S) (S1:=S) (e1:=.bin .add (.bin .mul (.cst (.int 5701)) (.var 3)) (.cst (.int 43))) (d1:=.int (5701*a+43)) (qC (S1:=S) (qC (S1:=S) rfl rfl (bmul (yw (by decide)))) rfl badd) e1 badd
  exact qdS (qe s rfl) (by simp)
 .have e:(10:Int)^60<2^250:=by decide
  have:(((2:Nat)^250:Nat):Int)=(2:Int)^250:=by norm_cast
  lia
theorem qkC{d:Nat}{ns:List Int}(b:ns.length<=63){k:Int}{S:Sr}(o:0<=k)(i:k<90):∃v:Int,0<=v/\G (d+2) 21 [.lst (ns.map .int),.int k] S=.ok (.ref S.length) (S++[.lst [.int v]]):=by
 obtain⟨m,c,j,l,e1⟩:=qaK (d:=d) b (k:=k) (f:=0) (a:=k+1) (x:=none) (y:=none) (S:=S) (Int.le_refl 0) (by decide) (by lia) (by lia)
 obtain⟨m2,c2,e,h,n⟩:=qaK (d:=d) b (k:=k) (f:=0*10^60+m) (a:=k) (x:=some (.int (k+1))) (y:=some (.int c)) (S:=S) (by lia) (by lia) (by lia) (by lia)
 refine⟨(0*10^60+m)*10^60+m2,by lia,?_⟩
 rw[G_at (c:=c_21) rfl]
 refine qkw rfl rfl (qm (d:=.int 0) (S1:=S) rfl (ρ1:=[some (.lst (ns.map .int)),some (.int k),some (.int 0),none,none]) rfl (yW (ds:=[.int (k+1),.int k]) (S1:=S) ?_ (ρ1:=[some (.lst (ns.map .int)),some (.int k),some (.int ((0*10^60+m)*10^60+m2)),some (.int k),some (.int c2)]) (S2:=S) ?_ (qJ (qgH rfl (by simp) rfl))))
 .have:ev (G (d+1)) (.lst false (.cons (.bin .add (.var 1) (.cst (.int 1))) (.cons (.var 1) .nil))) [some (.lst (ns.map .int)),some (.int k),some (.int 0),none,none] S=.ok (.lst [.int (k+1),.int k]) S:=qdS (qe (qC (S1:=S) rfl rfl badd) (qe rfl rfl)) (by simp)
  simp only[evI,this,Res.bind]
 .rw [j7 e1,j7 n];rfl
end RP
namespace RP
open R
theorem qiH{r:Int}(h:0<=r/\r<8)(S:Sr):∃s:Nat,1<=s/\s<=4/\idxD S (.lst [.int 2,.int 2,.int 2,.int 3,.int 3,.int 1,.int 4,.int 2]) (.int r)=some (.int s):=by
 have:r=0\/r=1\/r=2\/r=3\/r=4\/r=5\/r=6\/r=7:=by lia
 rcases this with rfl|rfl|rfl|rfl|rfl|rfl|rfl|rfl
 .exact ⟨2,by decide,by decide,rfl⟩
 .exact ⟨2,by decide,by decide,rfl⟩
 .exact ⟨2,by decide,by decide,rfl⟩
 .exact ⟨3,by decide,by decide,rfl⟩
 .exact ⟨3,by decide,by decide,rfl⟩
 .exact ⟨1,by decide,by decide,rfl⟩
 .exact ⟨4,by decide,by decide,rfl⟩
 .exact ⟨2,by decide,by decide,rfl⟩
theorem qgX{d n many:Nat}{v:Int}{S:Sr}(hn:n<S.length)(J:0<=v)(U:1<=many)(W:many<=60):∃(p:List Int) (u:Int),PlOk many p/\p.length<=4/\0<=u/\G (d+2) 25 [.ref n,.int many] (pk S n v)=.ok (tupI p) (pk S n u):=by
 obtain⟨s,K,L,M⟩:=qiH (fm (v:=v) (m:=8) (by decide)) (pk S n (v.fdiv 8))
 have w:0<=v.fdiv 8:=uY J (by decide)
 have N:(pk S n (v.fdiv 8)).length=S.length:=qK ..
 have j:(if(many:Int)<(s:Int)then(many:Int)else(s:Int))=((min s many:Nat):Int):=by split <;> lia
 obtain⟨h,X,e,⟨b,a,u,rfl,rfl,z,l⟩,E,A⟩:=qgJ (g:=.int) (F:=G (d+1)) (fr:=[3,0]) (nt:=1) (elt:=.popAt (.var 0) (.call 22 (.cons (.var 1) (.cons (.blt .len (.cons (.var 0) .nil)) .nil)))) (tg:=.var 2) (it:=.rng (.cons (.blt .min2 (.cons (.var 2) (.cons (.var 1) .nil))) .nil))
  (ρ:=[some (.ref n),some (.int many),some (.int s),some (.ref S.length),none]) (S:=pk S n (v.fdiv 8)++[.lst ((rI many).map .int)]) (S1:=pk S n (v.fdiv 8)++[.lst ((rI many).map .int)]) (rI (min s many)) (λρ=>∃x,ρ=[some (.ref S.length),some (.ref n),x])
  (λh T=>∃b a u,h=b.map .int/\T=pk S n u++[.lst (a.map .int)]/\0<=u/\(b++a).Perm (rI many))
  (i_rng (n:=min s many) (qe (qG (qe rfl (qe rfl rfl)) (by simp only[bltD,two,bMin,j])) rfl) (by lia)) rfl ⟨_,rfl⟩ (by rw[qE];lia) ⟨[],rI many,_,rfl,rfl,w,.refl _⟩ (by
   rintro q Y ρ m T ⟨x,rfl⟩ ⟨b,a,u,rfl,rfl,z,l⟩ Z hm
   have B:=l.length_eq
   rw[we,qE]at B
   rw[wP,qE]at hm
   have O:0<a.length:=by lia
   have f:=fm (v:=u) (m:=(a.length:Int)) (by lia)
   have H:=yH (d:=d) (n:=n) (v:=u) (m:=a.length) (S:=(S++[.lst (a.map .int)])++[.lst (b.map .int)]) (by simp;lia) (by lia) (by lia)
   rw[<-zJ (by simp;lia),<-zJ hn,<-zJ (by simp;lia),<-zJ hn]at H
   obtain⟨y,I⟩:∃y,a[(u.fmod a.length).toNat]?=some y:=⟨_,wD (by lia)⟩
   refine⟨[some (.ref S.length),some (.ref n),some (.int q)],.int y,pk S n (u.fdiv a.length)++[.lst ((a.eraseIdx (u.fmod a.length).toNat).map .int)],rfl,⟨_,rfl⟩,?_,by simp[qK],rfl,b++[y],a.eraseIdx (u.fmod a.length).toNat,u.fdiv a.length,by simp,rfl,uY z (by lia),?_⟩
   .have i:∀u,(pk S n u++[.lst (a.map .int)]++[.lst (b.map .int)])[S.length]?=some (.lst (a.map .int)):=by
     intro u
     rw[uG,wn (by rw[qK];lia),qK];simp
    have P:bltD .len [.ref S.length] (pk S n u++[.lst (a.map .int)]++[.lst (b.map .int)])=.ok (.int a.length) (pk S n u++[.lst (a.map .int)]++[.lst (b.map .int)]):=by
     simp only[bltD,one,bLen,lenD,i,wq,wP,ofO];rfl
    have Q:ev (G (d+1)) (.call 22 (.cons (.var 1) (.cons (.blt .len (.cons (.var 0) .nil)) .nil))) [some (.ref S.length),some (.ref n),some (.int q)] (pk S n u++[.lst (a.map .int)]++[.lst (b.map .int)])=.ok (.int (u.fmod a.length)) (pk S n (u.fdiv a.length)++[.lst (a.map .int)]++[.lst (b.map .int)]) :=
     qk (qe rfl (qe (qG rfl P) rfl)) H
    have o:popD (pk S n (u.fdiv a.length)++[.lst (a.map .int)]++[.lst (b.map .int)]) (.ref S.length) (.int (u.fmod a.length))=.ok (.int y) (pk S n (u.fdiv a.length)++[.lst ((a.eraseIdx (u.fmod a.length).toNat).map .int)]++[.lst (b.map .int)]):=by
     unfold popD
     simp only[i]
     rw[wL ⟨f.1,by lia⟩,w4,I]
     simp only[wq]
     rw[qgK,uG,List.set_append_right _ _ (by rw[qK];lia),qK]
     simp
    have hi:isLst (pk S n u++[.lst (a.map .int)]++[.lst (b.map .int)]) (.ref S.length)=true:=by simp only[isLst,i]
    exact ql1 rfl hi Q o
   .rw [uG]
    exact((qdU I).append_left b).trans l)
 have C:b.Nodup:=(uC.mp (l.nodup_iff.mpr (ym many))).1
 have r:∀x∈b,0<=x/\x<many:=λx hx=>qX.mp (l.mem_iff.mp (wc _ hx))
 rw[wP,qE]at A
 refine⟨sortI b,u,⟨?_,?_,qb6 C⟩,?_,z,?_⟩
 .intro R
  have:=(qN b).length_eq
  rw[R]at this;simp at this;lia
 .exact λx hx=>r x ((qN b).mem_iff.mp hx)
 .rw [(qN b).length_eq];lia
 .rw [G_at (c:=c_25) rfl]
  refine qaH (S2:=[.lst (a.map .int)]) rfl rfl (qm (d:=.int s) (S1:=pk S n (v.fdiv 8)) (qH (S1:=pk S n v) (d2:=.int (v.fmod 8)) rfl (qk rfl (yH hn (by decide) (by decide))) M) (ρ1:=[some (.ref n),some (.int many),some (.int s),none,none]) rfl (qm (qgM (n:=many) rfl (by lia)) (ρ1:=[some (.ref n),some (.int many),some (.int s),some (.ref S.length),none]) (by rw[N];rfl) (qm e rfl (qJ (qG (qe (qG (d:=.lst ((sortI b).map .int)) (S2:=pk S n u++[.lst (a.map .int)]) rfl ?_) rfl) ?_))))) (by rw[qK,qK]) (zz _ _)
  .simp only[bltD,one,bSorted,walkD,wW]
   rw[qeT (by lia)];rfl
  .rfl
end RP
namespace RP
open R
theorem eq0(r:Int)(S:Sr):cmpD .eq (.int r) (.int 0) S=some (r == 0):=rfl
theorem qkD{S:Sr}{j:Nat}{ts:List Tie}{k:List Int}{w:Int}(h:S[j]?=some (dicD ts))(a:ts.length<1000):putE S (.ref j) (tupI k) (.int w)=some (S.set j (dicD (putTie k w ts))):=by
 unfold putE
 rw[wL (show refsLt 0 (D.int w)=true from rfl)]
 simp only[putN,h,dicD,tupI,qB,wW,wP,a,vd,qgN]
theorem qgY{F:Fs}{ρ:En}{S S1 S2 a:Sr}{o i:CE}{x y v:D}(h:ev F o ρ S=.ok x S1)(b:ev F i ρ S1=.ok y S2)(c:putE S2 x y v=some a):asg F (.sub o i) v ρ S=.ok ρ a:=by
 simp only[asg,h,b,c,Res.bind]
def Sm(w:Wb):Prop:=(∀c∈w.costs,c<=5)/\∀t∈w.ties,t.2<=9
theorem qkE{ts:List Tie}{m:Int}(h:∀t∈ts,t.2<=m){k:List Int}{w:Int}(b:w<=m):∀t∈putTie k w ts,t.2<=m:=by
 unfold putTie
 split
 .intro t a
  obtain⟨s,c,rfl⟩:=vG.mp a
  split
  .exact b
  .exact h s c
 .intro t a
  rcases wg.mp a with z|z
  .exact h t z
  .simp at z;subst z;exact b
theorem qkF{ts:List Tie}{m:Int}(h:∀t∈ts,t.2<=m):∀t∈srt ts,t.2<=m:=by
 intro t a
 unfold srt at a
 obtain⟨k,b,rfl⟩:=vG.mp a
 obtain⟨_,s,c,e1,d⟩:=jx ((qM _).mem_iff.mp b)
 show look ts k<=m
 rw[<-d];exact h s c
theorem qce{d n many:Nat}{v tn:Int}{S:Sr}{cs:List Int}{x0:Option D}(hn:n<S.length)(K:0<=v)(L:1<=many)(X:many<=12)(M:0<=tn)(Y:tn<=30)(f:cs.length=many)(s:∀c∈cs,1<=c/\c<=100)(z:∀c∈cs,c<=5):∃(w:Wb) (u:Int) (T:Sr),WbOk w/\w.costs.length=many/\Sm w/\(w.ties.length:Int)<=tn/\0<=u /\
  exs (G (d+2)) NW (tl (tl (tl c_26.body))) [some (.ref n),x0,some (.int tn),some (.int many),some (.lst (cs.map .int)),none,none,none] (pk S n v)=.ok (.rt (webD w)) (pk S n u++T):=by
 have hm:0<tn+1:=by lia
 have fr:=fm (v:=v) hm
 obtain⟨c,N⟩:∃c:Nat,v.fmod (tn+1)=c:=⟨(v.fmod (tn+1)).toNat,by lia⟩
 have I:=yH (d:=d+1) (n:=n) (v:=v) (m:=tn+1) (S:=S++[dicD []]) (by simp;lia) hm (by lia)
 rw[<-zJ hn,<-zJ hn,N]at I
 obtain⟨O,Z,P,x,y,ts,u,rfl,rfl,A,r,i,a⟩:=zG (g:=.int) (body:=λQ ρ S=>(asg (G (d+2)) (.var 6) Q ρ S).bind λρ1 S1=>exs (G (d+2)) NW (.cons (.set (.var 7) (.call 25 (.cons (.var 0) (.cons (.var 3) .nil)))) (.cons (.set (.sub (.var 5) (.var 7)) (.bin .add (.cst (.int 1)) (.call 22 (.cons (.var 0) (.cons (.cst (.int 9)) .nil))))) .nil)) ρ1 S1)
  (λ(pre:List Int) ρ T=>∃x y ts u,ρ=[some (.ref n),x0,some (.int tn),some (.int many),some (.lst (cs.map .int)),some (.ref S.length),x,y]/\T=pk S n u++[dicD ts]/\0<=u/\KnOk many ts/\ts.length<=pre.length/\∀t∈ts,t.2<=9) (rI c)
  (ρ:=[some (.ref n),x0,some (.int tn),some (.int many),some (.lst (cs.map .int)),some (.ref S.length),none,none]) (S:=pk S n (v.fdiv (tn+1))++[dicD []])
  ⟨_,_,[],_,rfl,rfl,uY K (by lia),⟨List.nodup_nil,λt h=>by simp at h⟩,by simp,by simp⟩ (by
   rintro pre q R ρ T l ⟨x,y,ts,u,rfl,rfl,A,r,i,a⟩
   have o:=congrArg List.length l
   rw[qE,we,wX]at o
   obtain⟨p,e,U,B,C,ep⟩:=qgX (d:=d) (n:=n) (many:=many) (v:=u) (S:=S++[dicD ts]) (by simp;lia) A L (by lia)
   have J:=yH (d:=d+1) (n:=n) (v:=e) (m:=9) (S:=S++[dicD ts]) (by simp;lia) (by decide) (by decide)
   rw[<-zJ hn,<-zJ hn]at ep J
   have f9:=fm (v:=e) (m:=9) (by decide)
   have b:(pk S n (e.fdiv 9)++[dicD ts])[S.length]?=some (dicD ts):=by
    rw[wn (by rw[qK];lia),qK];simp
   obtain⟨E,W⟩:=r.put (k:=p) (w:=1+e.fmod 9) U B (by lia) (by lia)
   refine⟨[some (.ref n),x0,some (.int tn),some (.int many),some (.lst (cs.map .int)),some (.ref S.length),some (.int q),some (tupI p)],pk S n (e.fdiv 9)++[dicD (putTie p (1+e.fmod 9) ts)],?_,_,_,_,_,rfl,rfl,uY C (by decide),E,by simp;lia,qkE a (by lia)⟩
   rw[show asg (G (d+2)) (.var 6) (.int q) [some (.ref n),x0,some (.int tn),some (.int many),some (.lst (cs.map .int)),some (.ref S.length),x,y] (pk S n u++[dicD ts])=.ok [some (.ref n),x0,some (.int tn),some (.int many),some (.lst (cs.map .int)),some (.ref S.length),some (.int q),y] (pk S n u++[dicD ts])from rfl,Res.bind_ok]
   refine qm (qk rfl ep) (ρ1:=[some (.ref n),x0,some (.int tn),some (.int many),some (.lst (cs.map .int)),some (.ref S.length),some (.int q),some (tupI p)]) rfl (qm (qC rfl (qk rfl J) badd) (qgY rfl rfl (qkD b (by lia))) ?_)
   rw[List.set_append_right _ _ (by rw[qK];lia),qK]
   simp[exs])
 obtain⟨F,H⟩:=qky r
 rw[qE]at i
 refine⟨⟨cs,srt ts⟩,u,[dicD ts],⟨by show 1<=cs.length;lia,by show cs.length<=12;lia,s,by show(srt ts).length<=30;rw[qdV];lia,by show ∀t∈srt ts,PlOk cs.length t.1/\_;rw[f];exact F,H⟩,f,⟨z,qkF a⟩,by show((srt ts).length:Int)<=tn;rw[qdV];lia,A,?_⟩
 have b:(pk S n u++[dicD ts])[S.length]?=some (dicD ts):=by
  rw[wn (by rw[qK];lia),qK];simp
 refine qm (d:=.ref S.length) (S1:=pk S n v++[dicD []]) ?_ (ρ1:=[some (.ref n),x0,some (.int tn),some (.int many),some (.lst (cs.map .int)),some (.ref S.length),none,none]) rfl (yW (i_rng (n:=c) (qe (qk (qe rfl (qe (qC rfl rfl badd) rfl)) I) rfl) (by lia)) P (qJ (qZ (qe (qG (d:=tupI cs) (S2:=pk S n u++[dicD ts]) rfl rfl) (qe (qkz (kx:=5) (j:=S.length) rfl b r (by lia)) rfl)) (by simp[PySem.sizeLine]))))
 have:(pk S n v).length=S.length:=qK ..
 simp only[ev,vd,this];rfl
theorem rep1(m:Nat):rep [D.int 1] (m:Int)=(List.replicate m (1:Int)).map .int:=by
 unfold rep
 have:((m:Int)).toNat=m:=by lia
 rw[this,List.map_replicate]
 induction m with
 |zero=>rfl
 |succ k a =>
  rw[v0,vA,a (by lia),v0];rfl
theorem ql6{d n:Nat}{v mo tn:Int}{S:Sr}(hn:n<S.length)(M:0<=v)(N:1<=mo)(O:mo<=12)(y:0<=tn)(K:tn<=30):∃(w:Wb) (u:Int),WbOk w/\(w.costs.length:Int)<=mo/\Sm w/\(w.ties.length:Int)<=tn/\0<=u/\G (d+3) 26 [.ref n,.int mo,.int tn] (pk S n v)=.ok (webD w) (pk S n u):=by
 have f:=fm (v:=v) (m:=mo) (by lia)
 obtain⟨many,i⟩:∃c:Nat,1+v.fmod mo=c:=⟨(1+v.fmod mo).toNat,by lia⟩
 have E:0<=v.fdiv mo:=uY M (by lia)
 have A:0<=(v.fdiv mo).fdiv 3:=uY E (by decide)
 have a:∀{w:Wb} {u:Int} {T:Sr} {cs:List Int} {v3:Int},exs (G (d+2)) NW (tl (tl c_26.body)) [some (.ref n),some (.int mo),some (.int tn),some (.int many),some (.lst ((List.replicate many (1:Int)).map .int)),none,none,none] (pk S n (v.fdiv mo))=.ok (.rt (webD w)) (pk S n u++T)->G (d+3) 26 [.ref n,.int mo,.int tn] (pk S n v)=.ok (webD w) (pk S n u):=by
  intro w u T cs v3 h
  rw[G_at (c:=c_26) rfl]
  refine qaH (S2:=T) rfl rfl (qm (d:=.int many) (S1:=pk S n (v.fdiv mo)) (qC (d2:=.int (v.fmod mo)) (S1:=pk S n v) rfl (qk rfl (yH hn (by lia) (by lia))) (by rw[badd,i])) (ρ1:=[some (.ref n),some (.int mo),some (.int tn),some (.int many),none,none,none,none]) rfl (qm (d:=.lst ((List.replicate many (1:Int)).map .int)) (S1:=pk S n (v.fdiv mo)) (qC (S1:=pk S n (v.fdiv mo)) (qdS rfl (by simp)) rfl ?_) (ρ1:=[some (.ref n),some (.int mo),some (.int tn),some (.int many),some (.lst ((List.replicate many (1:Int)).map .int)),none,none,none]) rfl h)) (by rw[qK,qK]) (qgG _ _)
  have:repOk [D.int 1] (many:Int)=true:=by
   unfold repOk PySem.sizeLine
   rw[wz]
   refine⟨by lia,by lia,?_⟩
   simp;lia
  simp only[binD,lstOf]
  rw[wL this,rep1]
 have j:=yH (d:=d+1) (n:=n) (v:=v.fdiv mo) (m:=3) hn (by decide) (by decide)
 by_cases z:((v.fdiv mo).fmod 3)=0
 .rw [z]at j
  obtain⟨b,Q,e,⟨cs,P,rfl,rfl,H,l,o⟩,_,B⟩:=qgJ (g:=.int) (F:=G (d+2)) (fr:=[0]) (nt:=1) (elt:=.bin .add (.cst (.int 1)) (.call 22 (.cons (.var 0) (.cons (.cst (.int 5)) .nil)))) (tg:=.var 1) (it:=.rng (.cons (.var 3) .nil))
   (ρ:=[some (.ref n),some (.int mo),some (.int tn),some (.int many),some (.lst ((List.replicate many (1:Int)).map .int)),none,none,none]) (S:=pk S n ((v.fdiv mo).fdiv 3)) (S1:=pk S n ((v.fdiv mo).fdiv 3)) (rI many) (λρ=>∃x,ρ=[some (.ref n),x])
   (λb T=>∃cs u,b=cs.map .int/\T=pk S n u/\0<=u/\(∀c∈cs,(1:Int)<=c/\c<=100)/\∀c∈cs,c<=(5:Int)) (i_rng rfl (by lia)) rfl ⟨_,rfl⟩ (by rw[qE];lia) ⟨[],_,rfl,rfl,A,by simp,by simp⟩ (by
    rintro q R ρ m T ⟨x,rfl⟩ ⟨cs,u,rfl,rfl,C,l,o⟩ _ _
    have L:=yH (d:=d+1) (n:=n) (v:=u) (m:=5) (S:=S++[.lst (cs.map .int)]) (by simp;lia) (by decide) (by decide)
    rw[<-zJ hn,<-zJ hn]at L
    have U:=fm (v:=u) (m:=5) (by decide)
    refine⟨_,.int (1+u.fmod 5),pk S n (u.fdiv 5),rfl,⟨_,rfl⟩,qC rfl (qk rfl L) badd,by rw[qK,qK],rfl,cs++[1+u.fmod 5],_,by simp,rfl,uY C (by decide),?_,?_⟩
    .intro c p
     rcases wg.mp p with z|z
     .exact l c z
     .simp at z;lia
    .intro c p
     rcases wg.mp p with z|z
     .exact o c z
     .simp at z;lia)
  rw[wP,qE]at B
  obtain⟨w,u,T,I,J,r,s,C,hx⟩:=qce (d:=d) (tn:=tn) (x0:=some (.int mo)) hn H (by lia) (by lia) y K B l o
  refine⟨w,u,I,by lia,r,s,C,a (cs:=cs) (v3:=P) (yj (t_of (zv (qk rfl j) rfl (eq0 _ _))) (qm e rfl qF) hx)⟩
 .obtain ⟨w,u,T,I,J,r,s,C,hx⟩:=qce (d:=d) (many:=many) (tn:=tn) (x0:=some (.int mo)) (cs:=List.replicate many 1) hn A (by lia) (by lia) y K (by simp) (by intro c p;rw[List.mem_replicate]at p;lia) (by intro c p;rw[List.mem_replicate]at p;lia)
  refine⟨w,u,I,by lia,r,s,C,a (cs:=[]) (v3:=0) (x_no (t_of (zv (qk rfl j) rfl ?_)) hx)⟩
  rw[eq0,vC.mpr z]
end RP
namespace RP
open R
theorem qcf{d many:Nat}{S:Sr}(hm:many<=8):∃M:List (List Int),(∀p∈M,PlOk many p)/\(∀p,PlOk many p->p∈M)/\M.length+1=2^many/\G (d+1) 27 [.lst ((rI many).map .int)] S=.ok (.lst (M.map tupI)) S:=by
 obtain⟨Q,J,R,x,M,rfl,rfl,s,H,j⟩:=zG (g:=.int) (body:=λU ρ S=>(asg (G d) (.var 2) U ρ S).bind λρ1 S1=>exs (G d) NW (.cons (.set (.var 1) (.bin .add (.var 1) (.lc false [2] 1 (.bin .add (.var 1) (.tup (.cons (.var 0) .nil))) (.var 1) (.seq (.var 1)) .nil))) .nil) ρ1 S1)
  (λ(pre:List Int) ρ T=>∃x M,ρ=[some (.lst ((rI many).map .int)),some (.lst (([]::M:List (List Int)).map tupI)),x]/\T=S/\(∀p∈M,p≠[]/\(∀y∈p,y∈pre)/\p.Pairwise (· < ·)/\p.length<=pre.length)/\(∀p:List Int,p≠[]->(∀y∈p,y∈pre)->p.Pairwise (· < ·)->p∈M)/\M.length+1=2^pre.length) (rI many) (ρ:=[some (.lst ((rI many).map .int)),some (.lst (([]::[]:List (List Int)).map tupI)),none]) (S:=S) ⟨_,[],rfl,rfl,by simp,λp A i _=>by cases p with|nil=>exact absurd rfl A|cons a r=>exact absurd (i a wH) (by simp),by simp⟩ (by
   rintro pre q W ρ T u ⟨x,M,rfl,rfl,s,H,j⟩
   have X:=congrArg List.length u
   rw[qE,we,wX]at X
   have B:=qdT many
   rw[u]at B
   have C:∀y∈pre,y<q:=λy f=>(xD.mp B).2.2 y f q wH
   have K:2^pre.length*2<=256:=by
    have:=Nat.pow_le_pow_right (n:=2) (by decide) (show pre.length+1<=8 by omega)
    rw[Nat.pow_succ]at this;exact this
   have v:∀p∈([]::M:List (List Int)),p.length<=pre.length/\(∀y∈p,y∈pre)/\p.Pairwise (· < ·):=by
    intro p i
    rcases wN.mp i with z|z
    .subst z;simp
    .exact ⟨(s p z).2.2.2,(s p z).2.1,(s p z).2.2.1⟩
   have e:=j3 (g:=tupI) (F:=G d) (fr:=[2]) (nt:=1) (elt:=.bin .add (.var 1) (.tup (.cons (.var 0) .nil))) (tg:=.var 1) (it:=.seq (.var 1)) (ifs:=.nil) (ρ:=[some (.lst ((rI many).map .int)),some (.lst (([]::M:List (List Int)).map tupI)),some (.int q)]) (S:=T) (S1:=T) ([]::M) (λ_=>true) (λp=>tupI (p++[q])) (λρ=>∃x,ρ=[some (.int q),x]) rfl rfl ⟨_,rfl⟩ (by simp[PySem.sizeLine];omega) (by
    rintro p i ρ m ⟨x,rfl⟩
    refine⟨_,rfl,⟨_,rfl⟩,rfl,λ_=>⟨qC (d2:=tupI [q]) rfl (qZ rfl (by simp[PySem.sizeLine])) ?_,zz _ _⟩⟩
    have Y:catOk (p.map D.int) [D.int q]=true:=by
     unfold catOk PySem.sizeLine;rw[wz];simp;have:=(v p i).1;omega
    simp only[binD,tupI,wR,xR]
    rw[wL Y];simp)
   rw[zf]at e
   refine⟨[some (.lst ((rI many).map .int)),some (.lst (([]::(M++([]::M).map (·++[q])):List (List Int)).map tupI)),some (.int q)],T,?_,_,M++([]::M).map (·++[q]),rfl,rfl,?_,?_,?_⟩
   .rw [show asg (G d) (.var 2) (.int q) [some (.lst ((rI many).map .int)),some (.lst (([]::M:List (List Int)).map tupI)),x] T=.ok [some (.lst ((rI many).map .int)),some (.lst (([]::M:List (List Int)).map tupI)),some (.int q)] T from rfl,Res.bind_ok]
    refine qm (qC rfl e (bcat ?_)) rfl ?_
    .simp;omega
    .rw [qF]
     simp
   .intro p i
    rcases wg.mp i with z|z
    .obtain ⟨a,b,c,e⟩:=s p z
     exact⟨a,λy f=>wc _ (b y f),c,by simp;omega⟩
    .obtain ⟨l,o,rfl⟩:=vG.mp z
     obtain⟨a,b,c⟩:=v l o
     refine⟨by simp,?_,?_,by simp;omega⟩
     .intro y f
      rcases wg.mp f with z|z
      .exact wc _ (b y z)
      .exact wU _ z
     .rw [xD]
      refine⟨c,uJ _ _,λy f w L=>?_⟩
      simp at L;subst L
      exact C y (b y f)
   .intro p A i I
    by_cases N:q∈p
    .obtain ⟨l,o⟩:∃l,l=p.filter λy=>decide (y≠q):=⟨_,rfl⟩
     have O:∀y,y∈l ↔ y∈p/\y≠q:=λy=>by rw[o,vD];simp
     have E:∀y∈l,y∈pre:=λy f=>by
      obtain⟨Z,h2⟩:=(O y).mp f
      rcases wg.mp (i y Z)with z|z
      .exact z
      .exact absurd (wM.mp z) h2
     have P:l.Pairwise (· < ·):=by rw[o];exact I.filter _
     have e1:p=l++[q]:=qcZ I (by
      rw[xD]
      refine⟨P,uJ _ _,λy f z hz=>?_⟩
      rw[wM]at hz;subst hz
      exact C y (E y f)) λy=>by
      rw[wg,O,wM]
      constructor
      .intro h
       by_cases e:y=q
       .exact .inr e
       .exact .inl ⟨h,e⟩
      .rintro (h|h)
       .exact h.1
       .rw [h];exact N
     refine wU _ (vG.mpr ⟨l,?_,e1.symm⟩)
     by_cases z:l=[]
     .rw [z];exact wH
     .exact wI _ (H l z E P)
    .refine wc _ (H p A (λy f=>?_) I)
     rcases wg.mp (i y f)with z|z
     .exact z
     .rw [wM.mp z]at f;exact absurd f N
   .simp [Nat.pow_succ];omega)
 rw[qE]at j
 refine⟨M,λp i=>⟨(s p i).1,λy f=>qX.mp ((s p i).2.1 y f),(s p i).2.2.1⟩,λp i=>H p i.ne (λy f=>qX.mpr (i.rng y f)) i.up,j,?_⟩
 .rw [G_at (c:=c_27) rfl]
  refine qO rfl (qm (d:=.lst [.tup []]) (S1:=J) (qdS (qe (qZ rfl (by simp)) rfl) (by simp)) (ρ1:=[some (.lst ((rI many).map .int)),some (.lst (([]::[]:List (List Int)).map tupI)),none]) rfl (yW (ds:=(rI many).map .int) (S1:=J) rfl R (qJ ?_)))
  simp only[ev,evO,varE,Res.bind,ws,xm,slcD,lstOf,ofO,wq,cut1]
  simp
end RP
namespace RP
open R
theorem ql7{d:Nat}{a b:Int}{S:Sr}(ha:0<=a)(f:0<=b)(e:b<2^20):G (d+1) 2 [.int a,.int b] S=.ok (.int (eu NW a b)) S:=by
 rw[G_at (c:=c_2) rfl]
 have h:=wl (S:=S) (test:=λρ S=>tst (G d) (.val (.var 1)) ρ S) (body:=λρ S=>exs (G d) NW (.cons (.set (.tup (.cons (.var 0) (.cons (.var 1) .nil))) (.tup (.cons (.var 1) (.cons (.bin .mod (.var 0) (.var 1)) .nil)))) .nil) ρ S) (E:=λa b=>[some (.int a),some (.int b)]) (λa b=>rfl) (λa b h=>qm (qZ (qe rfl (qe (qC rfl rfl (bmod (by omega))) rfl)) (by simp[PySem.sizeLine])) rfl qF) 20 NW a b ha f e (by decide)
 exact qO rfl (qbg h (qJ rfl))
theorem qgZ{d:Nat}{t b:Int}{S:Sr}(e:0<=t)(h:1<=b)(f:b<2^20):G (d+2) 3 [.int t,.int b] S=.ok (low NW t b) S:=by
 rw[G_at (c:=c_3) rfl]
 have a:=qb7 (n:=59) e (show 0<b by omega)
 refine qO rfl (qm (d:=.int (eu NW t b)) (S1:=S) (qk (qe (qG rfl (qgQ e)) rfl) (ql7 e (by omega) f)) (ρ1:=[some (.int t),some (.int b),some (.int (eu NW t b))]) rfl (qJ (qZ (qe (qC rfl rfl (bdiv a.1 (by have:=a.2;show(eu (59+1) t b).natAbs<2^64;omega))) (qe (qC rfl rfl (bdiv a.1 (by have:=a.2;show(eu (59+1) t b).natAbs<2^64;omega))) rfl)) (by simp[PySem.sizeLine]))))
noncomputable def nmD(p:Int×Int):D:=.tup [.int p.1,.int p.2]
theorem qg0{t b:Int}(c:0<=t)(d:1<=b)(a:b<2^20):low NW t b=nmD (lw t b):=by
 unfold low nmD lw
 rw[qkB 20 NW t b c (by lia) a (by decide)]
theorem qg1{d:Nat}{t b:Int}{S:Sr}(c:0<=t)(e:1<=b)(a:b<2^20):G (d+2) 3 [.int t,.int b] S=.ok (nmD (lw t b)) S:=by
 rw[<-qg0 c e a];exact qgZ c e a
theorem qkG{d:Nat}{t b:Int}{S:Sr}(e:0<=t)(j:1<=b)(a:b<2^20):G (d+1) 23 [.int t,.int b] S=.ok (nmD (lw t b)) S:=by
 rw[<-qg0 e j a]
 have f:=qb7 (n:=59) e (show 0<b by lia)
 have h:=wl (S:=S) (test:=λρ S=>tst (G d) (.val (.cmp .ne (.var 3) (.cst (.int 0)))) ρ S) (body:=λρ S=>exs (G d) NW (.cons (.set (.tup (.cons (.var 2) (.cons (.var 3) .nil))) (.tup (.cons (.var 3) (.cons (.bin .mod (.var 2) (.var 3)) .nil)))) .nil) ρ S) (E:=λx y=>[some (.int t),some (.int b),some (.int x),some (.int y)]) (λx y=>rfl) (λx y h=>qm (qZ (qe rfl (qe (qC rfl rfl (bmod (by lia))) rfl)) (by simp[PySem.sizeLine])) rfl qF) 20 NW t b e (by lia) a (by decide)
 have i:cmpD .lt (.int b) (.int 0) S=some false:=by simp only[cmpD];rw[ww (by lia)]
 rw[G_at (c:=c_23) rfl]
 exact qO rfl (qm (qZ (qe (qG rfl (qgQ e)) (qe (qG rfl (qgQ (show 0<=b by lia))) rfl)) (by simp[PySem.sizeLine])) (ρ1:=[some (.int t),some (.int b),some (.int t),some (.int b)]) rfl (qbg h (x_no (t_of (zv rfl rfl i)) (qJ (qZ (qe (qC rfl rfl (bdiv f.1 (by have:=f.2;show(eu (59+1) t b).natAbs<2^64;lia))) (qe (qC rfl rfl (bdiv f.1 (by have:=f.2;show(eu (59+1) t b).natAbs<2^64;lia))) rfl)) (by simp[PySem.sizeLine]))))))
structure Nm (p:Int×Int):Prop where
 t:p.1.natAbs<2^60
 b1:1<=p.2
 b2:p.2<2^60
theorem qkH{t b:Int}(a:1<=b):(lw t b).1.natAbs<=t.natAbs:=by
 obtain⟨c,_⟩:=qab (t:=t) a
 have d:=yx (t:=t) a
 have:((lw t b).1*(Int.gcd t b:Int)).natAbs=t.natAbs:=by rw[c]
 rw[Int.natAbs_mul]at this
 rw[<-this]
 exact Nat.le_mul_of_pos_right _ (by lia)
theorem qjb{t b:Int}(c:0<=t)(a:1<=b):0<=(lw t b).1:=by
 obtain⟨d,_⟩:=qab (t:=t) a
 have e:=yx (t:=t) a
 rcases Int.lt_or_le (lw t b).1 0 with z|z
 .have:=Int.mul_neg_of_neg_of_pos z (show(0:Int)<(Int.gcd t b:Int) by lia)
  lia
 .exact z
theorem ql8{t b:Int}(a:1<=b):(lw t b).2<=b:=by
 obtain⟨d,c⟩:=qab (t:=t) a
 have e:=yx (t:=t) a
 have f:=(qaJ (t:=t) a).pos
 have:=xC (show(1:Int)<=(Int.gcd t b:Int) by lia) (show 0<=(lw t b).2 by lia)
 rw[c]at this;lia
theorem qjc{t b:Int}(d:t.natAbs<2^60)(a:1<=b)(c:b<2^60):Nm (lw t b):=⟨xQ (qkH a) d,(qaJ a).pos,Int.lt_of_le_of_lt (ql8 a) c⟩
noncomputable def und(p q:Int×Int):Bool:=decide (p.1*q.2<q.1*p.2)
theorem zo(p:Int×Int):und p p=false:=by unfold und;rw[ww (by lia)]
theorem y4{d:Nat}{p q:Int×Int}{S:Sr}(a:Nm p)(b:Nm q):G (d+1) 4 [nmD p,nmD q] S=.ok (.bl (und p q)) S:=by
 rw[G_at (c:=c_4) rfl]
 have e:=a.t
 have f:=b.t
 exact qO rfl (qJ (zv (qC (S1:=S) (qH (S1:=S) rfl rfl rfl) (qH (S1:=S) rfl rfl rfl) (bmul (yw (by lia)))) (qC (S1:=S) (qH (S1:=S) rfl rfl rfl) (qH (S1:=S) rfl rfl rfl) (bmul (yw (by lia)))) rfl))
theorem qbk{d:Nat}{p q:Int×Int}{S:Sr}(a:Nm p)(b:Nm q):G (d+1) 24 [nmD p,nmD q] S=.ok (.bl (und p q)) S:=by
 rw[G_at (c:=c_24) rfl]
 have e:=a.t
 have f:=b.t
 exact qO rfl (qJ (zv (qC (S1:=S) (qH (S1:=S) rfl rfl rfl) (qH (S1:=S) rfl rfl rfl) (bmul (yw (by lia)))) (qC (S1:=S) (qH (S1:=S) rfl rfl rfl) (qH (S1:=S) rfl rfl rfl) (bmul (yw (by lia)))) rfl))
structure Rdl (x:D) (S:Sr) (p:List Int):Prop where
 sq:∀X,seqOf (S++X) x=some (p.map .int)
 rx:∃gd,refX x S=some (p.map .int,gd)/\∀X,gd (S++X)
theorem qkI(S:Sr)(p:List Int):Rdl (tupI p) S p:=⟨λ_=>rfl,λ_=>True,rfl,λ_=>trivial⟩
theorem qkJ{S:Sr}{n:Nat}{p:List Int}(h:S[n]?=some (.lst (p.map .int))):Rdl (.ref n) S p:=by
 have b:=(wO.mp h).1
 have a:∀X,(S++X)[n]?=some (.lst (p.map .int)):=λX=>by rw[w5 b];exact h
 refine⟨λX=>?_,own n (p.map .int),?_,λX=>a X⟩
 .simp only[seqOf,lstOf,a X]
 .simp only[refX,h]
theorem qcg{b:Type}{g:b->D}{gd:Sr->Prop}{bind:D->En->Sr->Res En}{test:En->Sr->Res Bool}{elt:En->Sr->Res D}{v:b->Int}(R:En->Prop){S:Sr}(c:gd S):∀(ds:List b) (ρ:En) (a:Int),R ρ ->
  (∀d∈ds,∀ρ:En,R ρ->∃ρ1,bind (g d) ρ S=.ok ρ1 S/\R ρ1/\test ρ1 S=.ok true S/\elt ρ1 S=.ok (.int (v d)) S) ->
  genLoopG gd bind test elt (stepG .sum) (finG .sum) (ds.map g) ρ (.int a) S=.ok (.int (a+(ds.map v).sum)) S
 |[],ρ,a,_,_=>by rw[xR];unfold genLoopG;rw[zq c];simp[finG]
 |d::ds,ρ,a,hR,H=>by
  obtain⟨ρ1,e1,e,f,h⟩:=H d wH ρ hR
  rw[wR]
  unfold genLoopG
  rw[zq c,e1,Res.bind_ok,f,Res.bind_ok,wL rfl,h,Res.bind_ok]
  simp only[stepG]
  rw[qcg R c ds ρ1 _ e λd' hd=>H d' (wI _ hd)]
  simp[Int.add_assoc]
theorem qkK{F:Fs}{ρ:En}{S S1:Sr}{w:GW}{fr:List Nat}{nt:Nat}{a e:CE}{t:CT}{b:CBs}{x:D}{ds:List D}{gd:Sr->Prop}{r:Res D}(h:ev F e ρ S=.ok x S1)(c:refX x S1=some (ds,gd))(f:genLoopG gd (λd ρ S=>asg F t d ρ S) (λρ S=>tsts F b ρ S) (λρ S=>ev F a ρ S) (stepG w) (finG w) ds (frE ρ fr nt) (startG w) S1=r):ev F (.genX w fr nt a t e b) ρ S=r:=by
 simp only[ev,h,Res.bind,c];exact f
theorem jq:∀l:List Bool,boolsOf (l.map .bl)=some l
 |[]=>rfl
 |a::r=>by simp[boolsOf,jq r]
theorem ql9(l:List Bool)(S:Sr):bltD .all [.lst (l.map .bl)] S=.ok (.bl (l.all id)) S:=by
 simp only[bltD,one,bAll,seqOf,lstOf,wW,jq,wq,ofO]
theorem e_tw{d:Nat}{w:Wb}{x:D}{p:List Int}{S:Sr}(h:WbOk w)(hx:Rdl x S p):G (d+2) 15 [webD w,x] S=.ok (.lst ((tin w p).map tieD)) S:=by
 rw[G_at (c:=c_15) rfl]
 refine qO rfl (qJ ?_)
 exact j3 (g:=tieD) (S1:=S) w.ties (λt=>subB t.1 p) tieD (λρ=>∃y,ρ=[some x,y]) rfl rfl ⟨_,rfl⟩ (by have:=h.t1;unfold PySem.sizeLine;lia) (by
   rintro t ht ρ m ⟨y,rfl⟩
   refine⟨_,rfl,⟨_,rfl⟩,qcX (t_of ?_),λ_=>⟨rfl,j6 _ t⟩⟩
   exact jv (g:=.int) t.1 (λq=>p.contains q) (λρ=>∃y,ρ=[some x,y]) rfl rfl ⟨_,rfl⟩ (by
    rintro q hq ρ ⟨y,rfl⟩
    exact⟨_,rfl,⟨_,rfl⟩,zv rfl rfl (by show(seqOf (S++[.lst m]) x).bind (inD (.int q))=_;rw[hx.sq,wW,jy])⟩))
noncomputable def shr(w:Wb)(p:List Int):Int×Int:=lw (mass w p) (price w p)
end RP
namespace RP
open R
theorem qg2{M:Int}(b:0<=M):∀l:List Tie,(∀t∈l,0<=t.2/\t.2<=M)->0<=(l.map (·.2)).sum/\(l.map (·.2)).sum<=M*l.length
 |[],_=>by simp
 |a::r,h=>by
  have d:=qg2 b r λt c=>h t (wI _ c)
  have f:=h a wH
  rw[wR,xl,wX]
  have e:M*((r.length+1:Nat):Int)=M*r.length+M:=by rw[Int.natCast_add,Int.mul_add];simp
  rw[e]
  lia
theorem qaL{w:Wb}(h:WbOk w)(p:List Int):(tin w p).length<=30/\∀t∈tin w p,0<=t.2/\t.2<=1000000:=by
 refine⟨vK (vt _ _) h.t1,λt a=>?_⟩
 have:=(h.t2 t (vD.mp a).1).2.2
 lia
theorem qg3{w:Wb}(h:WbOk w)(p:List Int):0<=mass w p/\mass w p<=30000000:=by
 obtain⟨a,b⟩:=qaL h p
 have:=qg2 (M:=1000000) (by decide) (tin w p) b
 unfold mass
 lia
theorem qdY{T:List Tie}(h:T.length<=30)(a:∀t∈T,0<=t.2/\t.2<=1000000)(x:Int):0<=deg T x/\deg T x<=30000000:=by
 have:=qg2 (M:=1000000) (by decide) (T.filter λt=>t.1.contains x) λt b=>a t (vD.mp b).1
 have c:=vt (λt:Tie=>t.1.contains x) T
 unfold deg
 lia
theorem qad{w:Wb}(h:WbOk w){x:Int}(h0:0<=x)(a:x<w.costs.length):1<=cstI w x/\cstI w x<=100:=by
 have hx:x.toNat<w.costs.length:=by lia
 refine h.c3 _ ?_
 unfold cstI
 rw[wv,wD hx]
 exact xA hx
theorem qg4{w:Wb}(h:WbOk w){p:List Int}(e:PlOk w.costs.length p):Nm (shr w p):=by
 obtain⟨a,b⟩:=qg3 h p
 obtain⟨c,d⟩:=qb8 h e
 exact qjc (by lia) c (by lia)
noncomputable def rat(w:Wb)(left:List Int)(x:Int):Int×Int:=lw (deg (tin w left) x) (cstI w x)
theorem yn{w:Wb}(h:WbOk w)(left:List Int){x:Int}(h0:0<=x)(i:x<w.costs.length):Nm (rat w left x):=by
 obtain⟨a,b⟩:=qaL h left
 obtain⟨c,d⟩:=qdY a b x
 obtain⟨e,f⟩:=qad h h0 i
 exact qjc (by lia) e (by lia)
noncomputable abbrev Of:=Int×(Int×Int)
noncomputable def offD(o:Of):D:=.tup [.int o.1,nmD o.2]
noncomputable def offS(r:Int->Int×Int)(a:Of)(x:Int):Of:=if und (r x) a.2 then(x,r x)else a
noncomputable def offP(r:Int->Int×Int):List Int->Of
 |[]=>(0,(0,1))
 |p::ps=>ps.foldl (offS r) (p,r p)
theorem yy(r:Int->Int×Int){l:List Int}(h:l≠[])(x:Int):offP r (l++[x])=offS r (offP r l) x:=by
 cases l with
 |nil=>exact absurd rfl h
 |cons a l=>simp[offP]
theorem yz(r:Int->Int×Int):∀(n:Nat) (l:List Int),l.length=n->l≠[]->∃x∈l,offP r l=(x,r x):=by
 intro n
 induction n with
 |zero=>intro l h a;exact absurd (w9.mp h) a
 |succ n c =>
  intro l h a
  rcases uW l with rfl|⟨ys,y,rfl⟩
  .exact absurd rfl a
  .rw [uX]at h a ⊢
   by_cases b:ys=[]
   .subst b;exact⟨y,by simp,rfl⟩
   .obtain ⟨x,hx,e⟩:=c ys (by simpa using h) b
    rw[yy r b]
    unfold offS
    split
    .exact ⟨y,by simp,rfl⟩
    .exact ⟨x,by simp[hx],e⟩
theorem qch(T:List Tie)(t:Tie)(x:Int):deg (T++[t]) x=deg T x+if t.1.contains x then t.2 else 0:=by
 unfold deg
 rw[List.filter_append,uD,List.sum_append]
 congr 1
 by_cases h:t.1.contains x=true
 .rw [wL h,u8,wL h];simp
 .rw [wK h,u8,wK h];simp
theorem qiI{d:Nat}{w:Wb}{x:D}{left:List Int}{q:Int}{S:Sr}(h:WbOk w)(hx:Rdl x S left)(h0:0<=q)(m:q<w.costs.length):G (d+2) 28 [webD w,x,.int q] S=.ok (nmD (rat w left q)) S:=by
 rw[G_at (c:=c_28) rfl]
 obtain⟨o,l,p,E,H,rfl,rfl⟩:=zG (g:=tieD) (body:=λr ρ S=>(asg (G (d+1)) (.tup (.cons (.var 4) (.cons (.var 5) .nil))) r ρ S).bind λρ1 S1=>exs (G (d+1)) NW (.cons (.ifs (.and (.val (.cmp .inn (.var 2) (.var 4))) (.val (.blt .all (.cons (.lc false [1] 1 (.cmp .inn (.var 1) (.var 0)) (.var 1) (.seq (.var 4)) .nil) .nil)))) (.cons (.set (.var 3) (.bin .add (.var 3) (.var 5))) .nil) .nil) .nil) ρ1 S1)
  (λpre ρ T=>∃a b,ρ=[some (webD w),some x,some (.int q),some (.int (deg (pre.filter λt=>subB t.1 left) q)),a,b]/\T=S) w.ties (ρ:=[some (webD w),some x,some (.int q),some (.int 0),none,none]) (S:=S) ⟨_,_,rfl,rfl⟩ (by
   rintro pre t s ρ T i ⟨a,b,rfl,rfl⟩
   have A:t∈w.ties:=by rw[i];simp
   have I:t.1.length<=4:=(h.t2 t A).2.1
   have e:=j3 (g:=.int) (F:=G (d+1)) (fr:=[1]) (nt:=1) (elt:=.cmp .inn (.var 1) (.var 0)) (tg:=.var 1) (it:=.seq (.var 4)) (ifs:=.nil) (ρ:=[some (webD w),some x,some (.int q),some (.int (deg (pre.filter λt=>subB t.1 left) q)),some (tupI t.1),some (.int t.2)]) (S:=T) (S1:=T) (ds:=t.1.map .int) t.1 (λ_=>true) (λy=>.bl (left.contains y)) (λρ=>∃y,ρ=[some x,y]) rfl rfl ⟨_,rfl⟩ (by unfold PySem.sizeLine;lia) (by
    rintro y J ρ B ⟨z,rfl⟩
    exact⟨_,rfl,⟨_,rfl⟩,rfl,λ_=>⟨zv rfl rfl (by show(seqOf (T++[.lst B]) x).bind (inD (.int y))=_;rw[hx.sq,wW,jy]),rfl⟩⟩)
   rw[zf]at e
   have n:=ql9 (t.1.map λx=>left.contains x) T
   rw[vL,List.all_map]at n
   have t1:tst (G (d+1)) (.and (.val (.cmp .inn (.var 2) (.var 4))) (.val (.blt .all (.cons (.lc false [1] 1 (.cmp .inn (.var 1) (.var 0)) (.var 1) (.seq (.var 4)) .nil) .nil)))) [some (webD w),some x,some (.int q),some (.int (deg (pre.filter λt=>subB t.1 left) q)),some (tupI t.1),some (.int t.2)] T=.ok (t.1.contains q&&subB t.1 left) T:=qi6 (t_of (zv rfl rfl (jy q t.1))) λ_=>t_of (qG (qe e rfl) n)
   rw[show asg (G (d+1)) (.tup (.cons (.var 4) (.cons (.var 5) .nil))) (tieD t) [some (webD w),some x,some (.int q),some (.int (deg (pre.filter λt=>subB t.1 left) q)),a,b] T=.ok [some (webD w),some x,some (.int q),some (.int (deg (pre.filter λt=>subB t.1 left) q)),some (tupI t.1),some (.int t.2)] T from rfl,Res.bind_ok]
   have C:deg ((pre++[t]).filter λt=>subB t.1 left) q=deg (pre.filter λt=>subB t.1 left) q+if(t.1.contains q&&subB t.1 left)=true then t.2 else 0:=by
    rw[List.filter_append]
    by_cases j:subB t.1 left=true
    .rw [List.filter_cons_of_pos (by simpa using j),List.filter_nil,qch,j,Bool.and_true]
    .rw [List.filter_cons_of_neg (by simpa using j),List.filter_nil,va]
     rw[Bool.not_eq_true]at j
     rw[j,Bool.and_false];simp
   rw[C]
   cases hc:(t.1.contains q&&subB t.1 left)with
   |true =>
    rw[hc]at t1
    rw[wL rfl]
    exact⟨_,_,yj t1 (qm (qC (S1:=T) rfl rfl badd) rfl qF) qF,_,_,rfl,rfl⟩
   |false =>
    rw[hc]at t1
    rw[wK (by simp),Int.add_zero]
    exact⟨_,_,x_no t1 qF,_,_,rfl,rfl⟩)
 obtain⟨a,b⟩:=qaL h left
 obtain⟨c,f⟩:=qdY a b q
 obtain⟨u,v⟩:=qad h h0 m
 exact qO rfl (qm (d:=.int 0) (S1:=l) rfl (ρ1:=[some (webD w),some x,some (.int q),some (.int 0),none,none]) rfl (yW (ds:=w.ties.map tieD) (S1:=l) rfl p (qJ (qk (qe rfl (qe (qH (d1:=tupI w.costs) (d2:=.int q) (S1:=l) (qH rfl rfl rfl) rfl (yY h0 m)) rfl)) (qkG c u (by lia))))))
end RP
namespace RP
open R
noncomputable def dgL(f:Int->Int)(ps:List Int):List ((Int ⊕ PySem.Str)×D):=ps.map λp=>((.inl p:Int ⊕ PySem.Str),.int (f p))
theorem qdZ(f:Int->Int){p:Int}:∀{ps:List Int},p∈ps->lookT (.inl p:Int ⊕ PySem.Str) (dgL f ps)=some (.int (f p))
 |[],h=>by simp at h
 |a::r,h=>by
  show lookT _ (((.inl a:Int ⊕ PySem.Str),D.int (f a))::dgL f r)=_
  unfold lookT
  by_cases e:a=p
  .subst e;rw[wL rfl]
  .rw [wK (by simpa using e)]
   exact qdZ f ((wN.mp h).resolve_left λz=>e z.symm)
theorem qkL(f:Int->Int){p v:Int}{ps:List Int}(h:p∈ps):putT (.inl p:Int ⊕ PySem.Str) (.int v) (dgL f ps)=dgL (λx=>if x=p then v else f x) ps:=by
 unfold putT
 have ha:(dgL f ps).any (λq=>decide (q.1=(.inl p:Int ⊕ PySem.Str)))=true:=by
  rw[vg]
  exact⟨_,List.mem_map_of_mem h,by simp⟩
 rw[wL ha]
 unfold dgL
 rw[vL]
 apply v4
 intro x _
 show(if(.inl x:Int ⊕ PySem.Str)=.inl p then((.inl x:Int ⊕ PySem.Str),D.int v)else(.inl x,.int (f x)))=_
 by_cases e:x=p
 .subst e;rw[wL rfl];simp
 .rw [wK (by simpa using e)];simp[e]
theorem qg5:∀(ns:List Int) (a:List Int),(a++ns).Nodup->ns.foldl (λl k=>putT (.inl k:Int ⊕ PySem.Str) (.int 0) l) (dgL (λ_=>0) a)=dgL (λ_=>0) (a++ns)
 |[],a,_=>by simp
 |k::r,a,nd=>by
  have b:k∉a:=λh=>(uC.mp nd).2.2 k h k (by simp) rfl
  have e:putT (.inl k:Int ⊕ PySem.Str) (.int 0) (dgL (λ_=>0) a)=dgL (λ_=>0) (a++[k]):=by
   unfold putT
   have ha:¬(dgL (λ_=>0) a).any (λq=>decide (q.1=(.inl k:Int ⊕ PySem.Str)))=true:=by
    rw[vg]
    rintro⟨q,c,e⟩
    obtain⟨x,hx,rfl⟩:=vG.mp c
    simp at e
    exact b (e ▸ hx)
   rw[wK ha]
   unfold dgL
   rw[uD];rfl
  rw[v9,e,qg5 r (a++[k]) (by simpa using nd)]
  simp
theorem qiJ{ns:List Int}(nd:ns.Nodup):dcKL 0 ns=dgL (λ_=>0) ns:=qg5 ns [] (by simpa using nd)
theorem qkM{F:Fs}{N:Nat}{ρ:En}{S c:Sr}{o i e:CE}{r:CSs}{x y:D}{a b:Int}{Y:Res Fl}(d:ev F o ρ S=.ok x S)(f:ev F i ρ S=.ok y S)(h:idkD S x y=some (.int a))(j:ev F e ρ S=.ok (.int b) S)(l:putE S x y (.int (a+b))=some c)(m:exs F N r ρ c=Y):exs F N (.cons (.augK o i e) r) ρ S=Y:=by
 simp only[exs,ex,d,f,h,j,l,Res.bind];exact m
theorem qg6{F:Fs}{ρ:En}{S S1 S2:Sr}{a i:CE}{x y d:D}(h:ev F a ρ S=.ok x S1)(b:ev F i ρ S1=.ok y S2)(c:idkD S2 x y=some d):ev F (.idk a i) ρ S=.ok d S2:=by
 simp only[ev,h,b,c,Res.bind];rfl
theorem qma{F:Fs}{ρ:En}{S S1:Sr}{e:CE}{x:D}{ns:List Int}{gd:Sr->Prop}(h:ev F e ρ S=.ok x S1)(a:refX x S1=some (ns.map .int,gd))(b:ns.length<=100)(nd:ns.Nodup):ev F (.dcK 0 e) ρ S=.ok (.ref S1.length) (S1++[.dis (dgL (λ_=>0) ns)]):=by
 simp only[ev,h,Res.bind,a,qB,qiJ nd]
 rw[wL (by lia)]
noncomputable abbrev dS(S:Sr)(f:Int->Int)(ps:List Int):Sr:=S++[.dis (dgL f ps)]
theorem qjd(S:Sr)(f:Int->Int)(ps:List Int):(dS S f ps)[S.length]?=some (.dis (dgL f ps)):=by simp[dS]
theorem qc2{S:Sr}{f:Int->Int}{ps:List Int}{p:Int}(h:p∈ps):idkD (dS S f ps) (.ref S.length) (.int p)=some (.int (f p)):=by
 simp only[idkD,qjd,keyD,wW,qdZ f h]
theorem qkN{S:Sr}{f:Int->Int}{ps:List Int}{p v:Int}(h:p∈ps)(b:ps.length<=100):putE (dS S f ps) (.ref S.length) (.int p) (.int v)=some (dS S (λx=>if x=p then v else f x) ps):=by
 have a:(dgL f ps).length<1000:=by unfold dgL;rw[wP];lia
 unfold putE
 rw[wL (show refsLt 0 (D.int v)=true from rfl)]
 simp only[putN,qjd,keyD,wW]
 rw[wL a,qkL f h]
 simp[dS]
theorem qae{S:Sr}{f g:Int->Int}{ps:List Int}(h:∀p∈ps,f p=g p):dS S f ps=dS S g ps:=by
 unfold dS dgL
 congr 3
 apply v4
 intro x hx
 rw[h x hx]
theorem qg7{S:Sr}{n:Nat}{l:List Int}{x:Int}{r:List Int}(h:S[n]?=some (.lst (l.map .int)))(a:l=x::r):idxD S (.ref n) (.int 0)=some (.int x):=by
 subst a
 have hx:L2.ixN ((x::r).map D.int).length (0:Int)=some 0:=by
  unfold L2.ixN
  rw[wL (by decide),wL (by simp)];rfl
 simp only[idxD,seqOf,lstOf,h,wW,L2.atI,hx]
 rfl
theorem qc3{d n:Nat}{w:Wb}{left:List Int}{S:Sr}(h:WbOk w)(hn:S[n]?=some (.lst (left.map .int)))(u:PlOk w.costs.length left):G (d+3) 17 [tupI w.costs,.lst ((tin w left).map tieD),.ref n] S=.ok (offD (offP (rat w left) left)) S:=by
 have hl:=j9 h u
 have nd:=yX u.up
 have W:=(wO.mp hn).1
 have A:∀X,(S++X)[n]?=some (.lst (left.map .int)):=λX=>by rw[w5 W];exact hn
 have z2:PySem.sizeLine>=2:=by unfold PySem.sizeLine;lia
 rw[G_at (c:=c_17) rfl]
 obtain⟨T,N⟩:∃T,T=tin w left:=⟨_,rfl⟩
 rw[<-N]
 have B:∀t∈T,t∈w.ties/\subB t.1 left=true:=λt O=>by rw[N]at O;exact vD.mp O
 have C:∀x,lw (deg T x) (cstI w x)=rat w left x:=λx=>by rw[N];rfl
 obtain⟨b1,b2⟩:=qaL h left
 rw[<-N]at b1 b2
 obtain⟨ρ1,S1,ef,P,m,a6,rfl,rfl⟩:=zG (g:=tieD) (body:=λE ρ S=>(asg (G (d+2)) (.tup (.cons (.var 5) (.cons (.var 6) .nil))) E ρ S).bind λρ1 S1=>exs (G (d+2)) NW (.cons (.forS (.var 4) (.seq (.var 5)) (.cons (.augK (.var 3) (.var 4) (.var 6)) .nil)) .nil) ρ1 S1)
  (λpre ρ U=>∃a b c,ρ=[some (tupI w.costs),some (.lst (T.map tieD)),some (.ref n),some (.ref S.length),a,b,c,none,none]/\U=dS S (deg pre) left) T (ρ:=[some (tupI w.costs),some (.lst (T.map tieD)),some (.ref n),some (.ref S.length),none,none,none,none,none]) (S:=dS S (deg []) left) ⟨_,_,_,rfl,rfl⟩ (by
   rintro pre t Y ρ U j ⟨a,b,c,rfl,rfl⟩
   obtain⟨O,hs⟩:=B t (by rw[j];simp)
   have Z:∀q∈t.1,q∈left:=λq o=>by
    have:=vU.mp hs q o
    exact wd.mp this
   have H:=yX (h.t2 t O).1.up
   rw[show asg (G (d+2)) (.tup (.cons (.var 5) (.cons (.var 6) .nil))) (tieD t) [some (tupI w.costs),some (.lst (T.map tieD)),some (.ref n),some (.ref S.length),a,b,c,none,none] (dS S (deg pre) left)=.ok [some (tupI w.costs),some (.lst (T.map tieD)),some (.ref n),some (.ref S.length),a,some (tupI t.1),some (.int t.2),none,none] (dS S (deg pre) left)from rfl,Res.bind_ok]
   obtain⟨a9,S2,I,a',rfl,rfl⟩:=zG (g:=D.int) (body:=λE ρ S=>(asg (G (d+2)) (.var 4) E ρ S).bind λρ1 S1=>exs (G (d+2)) NW (.cons (.augK (.var 3) (.var 4) (.var 6)) .nil) ρ1 S1)
    (λs ρ U=>∃a,ρ=[some (tupI w.costs),some (.lst (T.map tieD)),some (.ref n),some (.ref S.length),a,some (tupI t.1),some (.int t.2),none,none]/\U=dS S (λx=>deg pre x+if s.contains x then t.2 else 0) left) t.1 (ρ:=[some (tupI w.costs),some (.lst (T.map tieD)),some (.ref n),some (.ref S.length),a,some (tupI t.1),some (.int t.2),none,none]) (S:=dS S (deg pre) left) ⟨_,rfl,qae λp _=>by simp⟩ (by
     rintro s q su ρ U J ⟨a,rfl,rfl⟩
     have o:q∈left:=Z q (by rw[J];simp)
     have a0:q∉s:=λz=>by
      rw[J]at H
      exact(uC.mp H).2.2 q z q (by simp) rfl
     rw[show asg (G (d+2)) (.var 4) (.int q) [some (tupI w.costs),some (.lst (T.map tieD)),some (.ref n),some (.ref S.length),a,some (tupI t.1),some (.int t.2),none,none] (dS S (λx=>deg pre x+if s.contains x then t.2 else 0) left)=.ok [some (tupI w.costs),some (.lst (T.map tieD)),some (.ref n),some (.ref S.length),some (.int q),some (tupI t.1),some (.int t.2),none,none] (dS S (λx=>deg pre x+if s.contains x then t.2 else 0) left)from rfl,Res.bind_ok]
     refine⟨_,_,qkM rfl rfl (qc2 o) rfl (qkN o (by lia)) qF,_,rfl,qae λx hx=>?_⟩
     have a1:s.contains q=false:=by rw[<-Bool.not_eq_true,wd];exact a0
     by_cases e:x=q
     .subst e
      rw[wL rfl,a1]
      simp
     .rw [wK e]
      have:(s++[q]).contains x=s.contains x:=by
       rw[uj,wd,wd];simp[e]
      rw[this])
   have e3:dS S (λx=>deg pre x+if t.1.contains x then t.2 else 0) left=dS S (deg (pre++[t])) left:=qae λx _=>(qch pre t x).symm
   rw[e3]at I
   exact⟨_,_,yW (ds:=t.1.map .int) (S1:=dS S (deg pre) left) rfl I qF,_,_,_,rfl,rfl⟩)
 obtain⟨i,ps,l⟩:∃i ps,left=i::ps:=by
  cases left with
  |nil=>exact absurd rfl u.ne
  |cons a r=>exact⟨a,r,rfl⟩
 have v:i∈left:=by rw[l];simp
 have K:∀(x:Int),x∈left->∀U,G (d+2) 3 [.int (deg T x),.int (cstI w x)] U=.ok (nmD (rat w left x)) U:=λx hx U=>by
  obtain⟨Q,q1⟩:=u.rng x hx
  obtain⟨c1,c2⟩:=qdY b1 b2 x
  obtain⟨c3,c4⟩:=qad h Q q1
  rw[<-C]
  exact qg1 c1 c3 (by lia)
 obtain⟨aa,S3,L,ab,a8,rfl,rfl⟩:=zG (g:=D.int) (body:=λE ρ S=>(asg (G (d+2)) (.var 4) E ρ S).bind λρ1 S1=>exs (G (d+2)) NW (.cons (.set (.var 8) (.call 3 (.cons (.idk (.var 3) (.var 4)) (.cons (.idx (.var 0) (.var 4)) .nil)))) (.cons (.ifs (.val (.call 4 (.cons (.var 8) (.cons (.idx (.var 7) (.cst (.int 1))) .nil)))) (.cons (.set (.var 7) (.tup (.cons (.var 4) (.cons (.var 8) .nil)))) .nil) .nil) .nil)) ρ1 S1)
  (λpre ρ U=>∃a b,ρ=[some (tupI w.costs),some (.lst (T.map tieD)),some (.ref n),some (.ref S.length),a,m,a6,some (offD (offP (rat w left) (i::pre))),b]/\U=dS S (deg T) left) ps (ρ:=[some (tupI w.costs),some (.lst (T.map tieD)),some (.ref n),some (.ref S.length),P,m,a6,some (offD (offP (rat w left) [i])),none]) (S:=dS S (deg T) left) ⟨_,_,rfl,rfl⟩ (by
   rintro pre q Y ρ U j ⟨a,b,rfl,rfl⟩
   have o:q∈left:=by rw[l,j];simp
   obtain⟨Q,q1⟩:=u.rng q o
   rw[show asg (G (d+2)) (.var 4) (.int q) [some (tupI w.costs),some (.lst (T.map tieD)),some (.ref n),some (.ref S.length),a,m,a6,some (offD (offP (rat w left) (i::pre))),b] (dS S (deg T) left)=.ok [some (tupI w.costs),some (.lst (T.map tieD)),some (.ref n),some (.ref S.length),some (.int q),m,a6,some (offD (offP (rat w left) (i::pre))),b] (dS S (deg T) left)from rfl,Res.bind_ok]
   have es:ev (G (d+2)) (.call 3 (.cons (.idk (.var 3) (.var 4)) (.cons (.idx (.var 0) (.var 4)) .nil))) [some (tupI w.costs),some (.lst (T.map tieD)),some (.ref n),some (.ref S.length),some (.int q),m,a6,some (offD (offP (rat w left) (i::pre))),b] (dS S (deg T) left)=.ok (nmD (rat w left q)) (dS S (deg T) left):=qk (qe (qg6 rfl rfl (qc2 o)) (qe (qH rfl rfl (yY Q q1)) rfl)) (K q o _)
   obtain⟨y,hy,ey⟩:=yz (rat w left) _ (i::pre) rfl (by simp)
   have a2:y∈left:=by
    rw[l,j]
    rcases wN.mp hy with z|z
    .simp [z]
    .simp [z]
   obtain⟨y0,y1⟩:=u.rng y a2
   have eu:=y4 (d:=d+1) (S:=dS S (deg T) left) (yn h left Q q1) (show Nm (offP (rat w left) (i::pre)).2 by rw[ey];exact yn h left y0 y1)
   have R:tst (G (d+2)) (.val (.call 4 (.cons (.var 8) (.cons (.idx (.var 7) (.cst (.int 1))) .nil)))) [some (tupI w.costs),some (.lst (T.map tieD)),some (.ref n),some (.ref S.length),some (.int q),m,a6,some (offD (offP (rat w left) (i::pre))),some (nmD (rat w left q))] (dS S (deg T) left)=.ok (und (rat w left q) (offP (rat w left) (i::pre)).2) (dS S (deg T) left):=t_of (qk (qe rfl (qe (qH rfl rfl rfl) rfl)) eu)
   have ec:i::(pre++[q])=(i::pre)++[q]:=rfl
   rw[ec,yy _ (by simp:i::pre≠[])]
   unfold offS
   cases hu:und (rat w left q) (offP (rat w left) (i::pre)).2 with
   |true =>
    rw[hu]at R
    rw[wL rfl]
    exact⟨_,_,qm es rfl (yj R (qm (qZ (qe rfl (qe rfl rfl)) z2) rfl qF) qF),_,_,rfl,rfl⟩
   |false =>
    rw[hu]at R
    rw[wK (by simp)]
    exact⟨_,_,qm es rfl (x_no R qF),_,_,rfl,rfl⟩)
 rw[<-l]at L
 refine qaH (f:=c_17) (S1:=S) (S2:=[.dis (dgL (deg T) left)]) rfl rfl ?_ rfl rfl
 have ed:ev (G (d+2)) (.dcK 0 (.var 2)) [some (tupI w.costs),some (.lst (T.map tieD)),some (.ref n),none,none,none,none,none,none] S=.ok (.ref S.length) (dS S (deg []) left):=by
  have:=qma (F:=G (d+2)) (e:=.var 2) (ρ:=[some (tupI w.costs),some (.lst (T.map tieD)),some (.ref n),none,none,none,none,none,none]) (S:=S) (S1:=S) (x:=.ref n) (ns:=left) (gd:=own n (left.map .int)) rfl (by simp only[refX,hn]) (by lia) nd
  refine this.trans ?_
  congr 1
 have e0:∀ρ,ρ[2]?=some (some (.ref n))->ev (G (d+2)) (.idx (.var 2) (.cst (.int 0))) ρ (dS S (deg T) left)=.ok (.int i) (dS S (deg T) left):=λρ a3=>qH (by simp only[ev,varE,a3]) rfl (qg7 (A _) l)
 have e7:ev (G (d+2)) (.tup (.cons (.idx (.var 2) (.cst (.int 0))) (.cons (.call 3 (.cons (.idk (.var 3) (.idx (.var 2) (.cst (.int 0)))) (.cons (.idx (.var 0) (.idx (.var 2) (.cst (.int 0)))) .nil))) .nil))) [some (tupI w.costs),some (.lst (T.map tieD)),some (.ref n),some (.ref S.length),P,m,a6,none,none] (dS S (deg T) left)=.ok (offD (offP (rat w left) [i])) (dS S (deg T) left):=by
  have i0:=u.rng i v
  exact qZ (qe (e0 _ rfl) (qe (qk (qe (qg6 rfl (e0 _ rfl) (qc2 v)) (qe (qH rfl (e0 _ rfl) (yY i0.1 i0.2)) rfl)) (K i v _)) rfl)) z2
 have a7:evI (G (d+2)) (.seq (.slc (.var 2) (.some (.cst (.int 1))) .none)) [some (tupI w.costs),some (.lst (T.map tieD)),some (.ref n),some (.ref S.length),P,m,a6,some (offD (offP (rat w left) [i])),none] (dS S (deg T) left)=.ok (ps.map .int) (dS S (deg T) left):=by
  have M:slcD (dS S (deg T) left) (.ref n) (some 1) none=some (.lst (ps.map .int)):=by
   simp only[slcD,lstOf,A,wq,cut1]
   rw[l];rfl
  have:ev (G (d+2)) (.slc (.var 2) (.some (.cst (.int 1))) .none) [some (tupI w.costs),some (.lst (T.map tieD)),some (.ref n),some (.ref S.length),P,m,a6,some (offD (offP (rat w left) [i])),none] (dS S (deg T) left)=.ok (.lst (ps.map .int)) (dS S (deg T) left):=by
   simp only[ev,evO,varE,xm,ws,Res.bind,M,ofO]
  simp only[evI,this,Res.bind]
 exact qm ed rfl (yW (ds:=T.map tieD) (S1:=dS S (deg []) left) rfl ef (qm e7 rfl (yW a7 L (qJ rfl))))
end RP
namespace RP
open R
noncomputable def stp(w:Wb):Nat->List Int->List Of->List Int->List Of×List Int
 |0,_,ord,best=>(ord,best)
 |_+1,[],ord,best=>(ord,best)
 |k+1,a::l,ord,best=>stp w k ((a::l).erase (offP (rat w (a::l)) (a::l)).1) (ord++[offP (rat w (a::l)) (a::l)]) (if und (shr w best) (shr w (a::l))then a::l else best)
noncomputable abbrev stS(S:Sr)(left:List Int)(ord:List Of):Sr:=S++[.lst (left.map .int),.lst (ord.map offD)]
theorem qci(S:Sr)(left:List Int)(ord:List Of):(stS S left ord)[S.length]?=some (.lst (left.map .int)):=by simp[stS]
theorem qg8(S:Sr)(left:List Int)(ord:List Of):(stS S left ord)[S.length+1]?=some (.lst (ord.map offD)):=by simp[stS]
theorem qiK{S:Sr}{left:List Int}{ord:List Of}(o:Of)(h:ord.length<=100):appD (stS S left ord) (.ref (S.length+1)) (offD o)=.ok .non (stS S left (ord++[o])):=by
 have a:ord.length<PySem.sizeLine:=by unfold PySem.sizeLine;lia
 simp only[appD,qg8]
 rw[wL ⟨by rw[wP];exact a,rfl⟩]
 simp[stS]
theorem qiL{S:Sr}{left:List Int}{ord:List Of}{x:Int}(h:x∈left):remD (stS S left ord) (.ref S.length) (.int x)=.ok .non (stS S (left.erase x) ord):=by
 simp only[remD,qci,qB]
 rw[wL h]
 simp[stS]
theorem qmb{F:Fs}{ρ:En}{S S1 S2 a:Sr}{o i:CE}{x y d:D}(h:ev F o ρ S=.ok x S1)(hi:isLst S1 x=true)(b:ev F i ρ S1=.ok y S2)(c:remD S2 x y=.ok d a):ev F (.rem o i) ρ S=.ok d a:=by
 simp only[ev,h,Res.bind,hi,vd,b,c]
theorem qg9{m:Nat}{left:List Int}(h:PlOk m left)(x:Int):left.erase x=[]\/PlOk m (left.erase x):=by
 by_cases e:left.erase x=[]
 .exact .inl e
 .exact .inr ⟨e,λy a=>h.rng y (List.mem_of_mem_erase a),h.up.sublist List.erase_sublist⟩
theorem qha{m:Nat}{left:List Int}(h:PlOk m left)(r:Int->Int×Int):(offP r left).1∈left:=by
 obtain⟨x,hx,e⟩:=yz r _ left rfl h.ne
 rw[e];exact hx
theorem qkO{m:Nat}(h:1<=m):PlOk m (rI m):=⟨λe=>by have:=congrArg List.length e;rw[qE]at this;simp at this;lia,λx hx=>qX.mp hx,qdT m⟩
theorem qiM{S:Sr}{n:Nat}{p:List Int}(h:S[n]?=some (.lst (p.map .int))):bltD .tuple [.ref n] S=.ok (tupI p) S:=by
 simp only[bltD,one,bTuple,seqOf,lstOf,h,wq,ofO];rfl
def Agr(w:Wb)(left a:List Int)(part:List Int)(most:Int×Int):Prop:=(part=a/\most=shr w a)\/(most=(-1,1)/\left=a/\left≠[])
theorem qeW{p:Int×Int}(a:0<=p.1)(b:1<=p.2):und (-1,1) p=true:=by unfold und;rw[wz];show -1*p.2<p.1*1;lia
noncomputable abbrev pE(w:Wb)(n:Nat)(part:List Int)(most:Int×Int)(a6 a7 a8:Option D):En:=[some (webD w),some (tupI w.costs),some (.ref n),some (.ref (n+1)),some (tupI part),some (nmD most),a6,a7,a8]
noncomputable def sBody:CSs:=match c_16.body with|.cons _ (.cons _ (.cons _ (.cons _ (.cons _ (.cons (.whileS _ b) _)))))=>b|_=>.nil
theorem qd0{S:Sr}{n:Nat}{p:List Int}(h:S[n]?=some (.lst (p.map .int))):truD S (.ref n)=some (!p.isEmpty):=by
 simp only[truD,lstOf,h,wq];cases p <;> rfl
theorem qkP{d:Nat}{w:Wb}{S:Sr}{left a part:List Int}{most:Int×Int}{ord:List Of}{a6 a7 a8:Option D}(h:WbOk w)(e:PlOk w.costs.length left)(p:PlOk w.costs.length a)(ha:Agr w left a part most)(r:ord.length<=100):
  ∃s u z,exs (G (d+3)) NW sBody (pE w S.length part most a6 a7 a8) (stS S left ord)=.ok (.nx (pE w S.length (if und (shr w a) (shr w left)then left else a) (shr w (if und (shr w a) (shr w left)then left else a)) s u z)) (stS S (left.erase (offP (rat w left) left).1) (ord++[offP (rat w left) left])):=by
 have h0:=qci S left ord
 have hx:=qkJ h0
 obtain⟨m1,m2⟩:=qg3 h left
 obtain⟨n,A⟩:=qb8 h e
 have W:=j9 h e
 have B:=e_tw (d:=d+1) (S:=stS S left ord) h hx
 obtain⟨gd,C,E⟩:=hx.rx
 have H:gd (stS S left ord):=by have:=E [];rwa [va]at this
 have I:ev (G (d+3)) (.call 3 (.cons (.gen .sum [] 2 (.var 1) (.tup (.cons (.var 0) (.cons (.var 1) .nil))) (.seq (.var 6)) .nil) (.cons (.genX .sum [1] 1 (.idx (.var 0) (.var 1)) (.var 1) (.var 2) .nil) .nil))) (pE w S.length part most (some (.lst ((tin w left).map tieD))) a7 a8) (stS S left ord)=.ok (nmD (shr w left)) (stS S left ord):=by
  have s1:=qiC (g:=tieD) (F:=G (d+3)) (fr:=[]) (nt:=2) (elt:=.var 1) (tg:=.tup (.cons (.var 0) (.cons (.var 1) .nil))) (it:=.seq (.var 6)) (ifs:=.nil) (ρ:=pE w S.length part most (some (.lst ((tin w left).map tieD))) a7 a8) (S:=stS S left ord) (S1:=stS S left ord) (tin w left) (λ_=>true) (·.2) (λρ=>∃x y,ρ=[x,y]) rfl rfl ⟨_,_,rfl⟩ (by
   rintro t X ρ ⟨x,y,rfl⟩
   exact⟨_,rfl,⟨_,_,rfl⟩,rfl,λ_=>rfl⟩)
  rw[zf]at s1
  have s2:=qcg (g:=D.int) (v:=cstI w) (bind:=λJ ρ T=>asg (G (d+3)) (.var 1) J ρ T) (test:=λρ T=>tsts (G (d+3)) .nil ρ T) (elt:=λρ T=>ev (G (d+3)) (.idx (.var 0) (.var 1)) ρ T) (λρ=>∃y,ρ=[some (tupI w.costs),y]) H left [some (tupI w.costs),none] 0 ⟨_,rfl⟩ (by
   rintro q K ρ ⟨y,rfl⟩
   obtain⟨L,q1⟩:=e.rng q K
   exact⟨_,rfl,⟨_,rfl⟩,rfl,qH rfl rfl (yY L q1)⟩)
  rw[Int.zero_add]at s2
  exact qk (qe s1 (qe (qkK rfl C s2) rfl)) (qg1 m1 n (Int.lt_of_le_of_lt A (by decide)))
 have o:=qc3 (d:=d) (S:=stS S left ord) h h0 e
 have f:=qha e (rat w left)
 have i:=qg4 h e
 have j:=qg4 h p
 generalize Y:offP (rat w left) left=O at o f ⊢
 have c:∀(pt:List Int) (mo:Int×Int),exs (G (d+3)) NW (tl (tl (tl sBody))) (pE w S.length pt mo (some (.lst ((tin w left).map tieD))) (some (nmD (shr w left))) a8) (stS S left ord)=.ok (.nx (pE w S.length pt mo (some (.lst ((tin w left).map tieD))) (some (nmD (shr w left))) (some (offD O)))) (stS S (left.erase O.1) (ord++[O])):=by
  intro pt mo
  have M:ev (G (d+3)) (.call 17 (.cons (.var 1) (.cons (.var 6) (.cons (.var 2) .nil)))) (pE w S.length pt mo (some (.lst ((tin w left).map tieD))) (some (nmD (shr w left))) a8) (stS S left ord)=.ok (offD O) (stS S left ord):=qk rfl o
  have N:ev (G (d+3)) (.app (.var 3) (.var 8)) (pE w S.length pt mo (some (.lst ((tin w left).map tieD))) (some (nmD (shr w left))) (some (offD O))) (stS S left ord)=.ok .non (stS S left (ord++[O])):=ql2 rfl (by simp only[isLst,qg8]) rfl (qiK O r)
  have l:ev (G (d+3)) (.rem (.var 2) (.idx (.var 8) (.cst (.int 0)))) (pE w S.length pt mo (some (.lst ((tin w left).map tieD))) (some (nmD (shr w left))) (some (offD O))) (stS S left (ord++[O]))=.ok .non (stS S (left.erase O.1) (ord++[O])):=qmb rfl (by simp only[isLst,qci]) (qH rfl rfl rfl) (qiL f)
  exact qm M rfl (j4 N (j4 l qF))
 have m:∃b:Bool,und most (shr w left)=b/\(if b then left else part)=(if und (shr w a) (shr w left)then left else a)/\(if b then shr w left else most)=shr w (if und (shr w a) (shr w left)then left else a)/\Nm most:=by
  rcases ha with ⟨rfl,rfl⟩|⟨rfl,rfl,_⟩
  .refine ⟨_,rfl,rfl,?_,j⟩
   split <;> rfl
  .refine ⟨true,qeW ?_ i.b1,?_,?_,⟨by decide,by decide,by decide⟩⟩
   .exact qjb m1 n
   .rw [zo];simp
   .rw [zo];simp
 obtain⟨b,P,Q,R,U⟩:=m
 have eu:=y4 (d:=d+2) (S:=stS S left ord) U i
 rw[P]at eu
 rw[<-R,<-Q]
 have t1:tst (G (d+3)) (.val (.call 4 (.cons (.var 5) (.cons (.var 7) .nil)))) (pE w S.length part most (some (.lst ((tin w left).map tieD))) (some (nmD (shr w left))) a8) (stS S left ord)=.ok b (stS S left ord):=t_of (qk rfl eu)
 refine⟨some (.lst ((tin w left).map tieD)),some (nmD (shr w left)),some (offD O),?_⟩
 show exs (G (d+3)) NW (.cons (.set (.var 6) (.call 15 (.cons (.var 0) (.cons (.var 2) .nil)))) _) _ _=_
 refine qm (qk rfl B) (ρ1:=pE w S.length part most (some (.lst ((tin w left).map tieD))) a7 a8) rfl (qm I (ρ1:=pE w S.length part most (some (.lst ((tin w left).map tieD))) (some (nmD (shr w left))) a8) rfl ?_)
 cases b with
 |true=>exact yj t1 (qm (qZ (qe (qG rfl (qiM h0)) (qe rfl rfl)) (by simp[PySem.sizeLine])) rfl qF) (c left (shr w left))
 |false=>exact x_no t1 (c part most)
theorem qkQ{d:Nat}{w:Wb}{S:Sr}(h:WbOk w):∀(k N:Nat) (left b part:List Int) (most:Int×Int) (ord:List Of) (a6 a7 a8:Option D),left.length=k->k<N->(left=[]\/PlOk w.costs.length left)->PlOk w.costs.length b->Agr w left b part most->ord.length+k<=100 ->
  ∃c n o p,whileLoop (λρ S=>tst (G (d+3)) (.val (.var 2)) ρ S) (λρ S=>exs (G (d+3)) NW sBody ρ S) N (pE w S.length part most a6 a7 a8) (stS S left ord)=.ok (.nx (pE w S.length (stp w k left ord b).2 c n o p)) (stS S [] (stp w k left ord b).1):=by
 intro k
 induction k with
 |zero =>
  intro N left b part most ord a6 a7 a8 m v s u ha y
  have A:left=[]:=w9.mp m
  subst A
  obtain⟨N,rfl⟩:∃M,N=M+1:=⟨N-1,by lia⟩
  have e:part=b:=by
   rcases ha with ⟨rfl,_⟩|⟨_,_,z⟩
   .rfl
   .exact absurd rfl z
  subst e
  refine⟨most,a6,a7,a8,?_⟩
  have t:tst (G (d+3)) (.val (.var 2)) (pE w S.length part most a6 a7 a8) (stS S [] ord)=.ok false (stS S [] ord):=by
   show(Res.ok (D.ref S.length) (stS S [] ord)).bind (λx S1=>ofO (truD S1 x) S1)=_
   rw[Res.bind_ok,qd0 (qci S [] ord)];rfl
  simp only[whileLoop,t,Res.bind]
  rfl
 |succ k B =>
  intro N left b part most ord a6 a7 a8 m v s u ha y
  obtain⟨N,rfl⟩:∃M,N=M+1:=⟨N-1,by lia⟩
  have j:left≠[]:=λz=>by rw[z]at m;simp at m
  have f:=s.resolve_left j
  obtain⟨x0,xs,l⟩:∃x0 xs,left=x0::xs:=by
   cases left with
   |nil=>exact absurd rfl j
   |cons a r=>exact⟨a,r,rfl⟩
  have t:tst (G (d+3)) (.val (.var 2)) (pE w S.length part most a6 a7 a8) (stS S left ord)=.ok true (stS S left ord):=by
   show(Res.ok (D.ref S.length) (stS S left ord)).bind (λx S1=>ofO (truD S1 x) S1)=_
   rw[Res.bind_ok,qd0 (qci S left ord),l];rfl
  obtain⟨n,o,p,C⟩:=qkP (d:=d) (S:=S) (ord:=ord) (a6:=a6) (a7:=a7) (a8:=a8) h f u ha (by lia)
  have q:=qha f (rat w left)
  have i:PlOk w.costs.length (if und (shr w b) (shr w left)then left else b):=by split <;> assumption
  have E:stp w (k+1) left ord b=stp w k (left.erase (offP (rat w left) left).1) (ord++[offP (rat w left) left]) (if und (shr w b) (shr w left)then left else b):=by rw[l];rfl
  obtain⟨F,H,I,J,K⟩:=B N (left.erase (offP (rat w left) left).1) _ _ _ (ord++[offP (rat w left) left]) n o p (by rw[xa q];lia) (by lia) (qg9 f _) i (.inl ⟨rfl,rfl⟩) (by rw[we,uV];lia)
  refine⟨F,H,I,J,?_⟩
  rw[E,<-K]
  simp only[whileLoop,t,Res.bind,C]
  rfl
noncomputable def strD(r:List Of×List Int):D:=.tup [.tup (r.1.map offD),tupI r.2]
noncomputable def strW(w:Wb):List Of×List Int:=stp w w.costs.length (rI w.costs.length) [] (rI w.costs.length)
theorem qaM:∀l:List Of,refsLts 0 (l.map offD)=true
 |[]=>rfl
 |a::r=>by rw[wR,refsLts,qaM r];rfl
theorem qhb(r:List Of×List Int):refsLt 0 (strD r)=true:=by
 show(refsLts 0 (r.1.map offD)&&(refsLts 0 (r.2.map .int)&&true))=true
 rw[qaM,refsI];rfl
theorem qhc{S:Sr}{n:Nat}{l:List Of}(h:S[n]?=some (.lst (l.map offD))):bltD .tuple [.ref n] S=.ok (.tup (l.map offD)) S:=by
 simp only[bltD,one,bTuple,seqOf,lstOf,h,wq,ofO]
theorem qc4{d:Nat}{w:Wb}{S:Sr}(h:WbOk w):G (d+9) 16 [webD w] S=.ok (strD (strW w)) S:=by
 have hm:=h.c2
 have a:=qkO h.c1
 rw[G_at (c:=c_16) rfl]
 obtain⟨mo,q,r,s,i⟩:=qkQ (d:=d+5) (S:=S) h w.costs.length NW (rI w.costs.length) (rI w.costs.length) [] (-1,1) [] none none none (qE _) (by show _<60;lia) (.inr a) a (.inr ⟨rfl,rfl,a.ne⟩) (by simp;lia)
 have e:PySem.sizeLine>=2:=by unfold PySem.sizeLine;lia
 refine qaH (f:=c_16) (S1:=S) (S2:=[.lst (([]:List Int).map .int),.lst ((strW w).1.map offD)]) rfl rfl ?_ rfl (zk _ (qhb _))
 have m:=qgM (F:=G (d+8)) (ρ:=[some (webD w),some (tupI w.costs),none,none,none,none,none,none,none]) (S:=S) (S1:=S) (es:=.cons (.blt .len (.cons (.var 1) .nil)) .nil) (n:=w.costs.length) (qe (qG rfl (yk _ _)) rfl) (by lia)
 have j:=qgH (F:=G (d+8)) (ρ:=[some (webD w),some (tupI w.costs),some (.ref S.length),none,none,none,none,none,none]) (S:=S++[.lst ((rI w.costs.length).map .int)]) (S1:=S++[.lst ((rI w.costs.length).map .int)]) (es:=.nil) (l:=[]) rfl (by simp) rfl
 have es:S++[.lst ((rI w.costs.length).map .int)]++[.lst []]=stS S (rI w.costs.length) []:=by simp[stS]
 have o:(S++[SO.lst ((rI w.costs.length).map .int)]).length=S.length+1:=by simp
 rw[es,o]at j
 have p:ev (G (d+8)) (.tup (.cons (.tup .nil) (.cons (.tup (.cons (.neg (.cst (.int 1))) (.cons (.cst (.int 1)) .nil))) .nil))) [some (webD w),some (tupI w.costs),some (.ref S.length),some (.ref (S.length+1)),none,none,none,none,none] (stS S (rI w.costs.length) [])=.ok (.tup [tupI [],nmD (-1,1)]) (stS S (rI w.costs.length) []):=qZ (qe (qZ rfl (by simp)) (qe (qZ (qe rfl (qe rfl rfl)) e) rfl)) e
 have b:strW w=stp w w.costs.length (rI w.costs.length) [] (rI w.costs.length):=rfl
 rw[<-b]at i
 exact j4 (S1:=S) (qk rfl (qac h)) (qm (qH (S1:=S) rfl rfl rfl) rfl (qm m rfl (qm j rfl (qm p (ρ1:=pE w S.length [] (-1,1) none none none) rfl (qbg i (qJ (qZ (qe (qG rfl (qhc (qg8 S [] (strW w).1))) (qe rfl rfl)) e)))))))
end RP
namespace RP
open R
theorem qaf{p q:Int×Int}:und q p=false ↔ p.1*q.2<=q.1*p.2:=by
 unfold und
 rw[xk]
 constructor <;> intro h <;> lia
theorem yC{p q r:Int×Int}(e:0<p.2)(f:0<q.2)(h:0<r.2)(a:und q p=false)(b:und r q=false):und r p=false:=by
 rw[qaf]at a b ⊢
 have c:=uH a (Int.le_of_lt h)
 have d:=uH b (Int.le_of_lt e)
 have e1:p.1*q.2*r.2=p.1*r.2*q.2:=by ac_rfl
 have i:q.1*p.2*r.2=q.1*r.2*p.2:=by ac_rfl
 have j:r.1*q.2*p.2=r.1*p.2*q.2:=by ac_rfl
 rw[e1,i]at c
 rw[j]at d
 exact Int.le_of_mul_le_mul_right (Int.le_trans c d) f
theorem qc5{p q:Int×Int}(h:und p q=true):und q p=false:=by
 unfold und at h
 rw[wz]at h
 rw[qaf];lia
theorem qhd{a b c:Int}(d:1<=c)(h:a<=b):und (lw b c) (lw a c)=false:=by
 rw[qaf]
 have e1:=qja (t:=a) d
 have e:=qja (t:=b) d
 have j:=(qaJ (t:=a) d).pos
 have l:=(qaJ (t:=b) d).pos
 refine Int.le_of_mul_le_mul_right (show(lw a c).1*(lw b c).2*c<=(lw b c).1*(lw a c).2*c from ?_) (show 0<c by lia)
 have f:(lw a c).1*(lw b c).2*c=a*((lw a c).2*(lw b c).2):=by
  rw[<-Int.mul_assoc,<-e1];ac_rfl
 have i:(lw b c).1*(lw a c).2*c=b*((lw a c).2*(lw b c).2):=by
  rw[Int.mul_comm (lw a c).2,<-Int.mul_assoc,<-e];ac_rfl
 rw[f,i]
 exact uH h (Int.mul_nonneg (by lia) (by lia))
theorem qd1:∀(T:List Tie) (p q:Tie->Bool),(∀t∈T,0<=t.2)->(∀t∈T,p t=true->q t=true)->((T.filter p).map (·.2)).sum<=((T.filter q).map (·.2)).sum
 |[],_,_,_,_=>by simp
 |t::r,p,q,h1,h2=>by
  have b:=qd1 r p q (λs a=>h1 s (wI _ a)) λs a=>h2 s (wI _ a)
  have d:=h1 t wH
  have c:=h2 t wH
  rw[u8,u8]
  cases hp:p t with
  |true =>
   rw[c hp,wL rfl,wL rfl,wR,wR,xl,xl];lia
  |false =>
   rw[wK (by simp)]
   split
   .rw [wR,xl];lia
   .exact b
theorem qhe{w:Wb}(h:WbOk w){X Y:List Int}(a:∀x∈X,x∈Y)(x:Int):deg (tin w X) x<=deg (tin w Y) x:=by
 unfold deg tin
 rw[List.filter_filter,List.filter_filter]
 refine qd1 _ _ _ (λt b=>by have:=h.t2 t b;lia) λt b e=>?_
 rw[wV]at e ⊢
 refine⟨e.1,?_⟩
 have:=e.2
 unfold subB at this ⊢
 rw[vU]at this ⊢
 exact λq c=>wd.mpr (a q (wd.mp (this q c)))
theorem qcj{w:Wb}(h:WbOk w){X Y:List Int}(a:∀x∈X,x∈Y){x:Int}(h0:0<=x)(b:x<w.costs.length):und (rat w Y x) (rat w X x)=false:=qhd (qad h h0 b).1 (qhe h a x)
theorem qd2(r:Int->Int×Int):∀(n:Nat) (l:List Int),l.length=n->l≠[]->(∀x∈l,0<(r x).2)->∀x∈l,und (r x) (offP r l).2=false:=by
 intro n
 induction n with
 |zero=>intro l h c;exact absurd (w9.mp h) c
 |succ n e =>
  intro l f c b x hx
  obtain⟨i,a,rfl⟩:∃i a,l=i++[a]:=by
   rcases uW l with rfl|⟨ys,y,rfl⟩
   .exact absurd rfl c
   .exact ⟨ys,y,by rw[uX]⟩
  rw[we,uV]at f
  by_cases hi:i=[]
  .subst hi
   simp at hx;subst hx
   exact zo _
  .have d:=e i (by lia) hi λy j=>b y (wc _ j)
   obtain⟨z,hz,m⟩:=yz r _ i rfl hi
   have o:=b z (wc _ hz)
   have p:=b a (by simp)
   have s:=b x hx
   rw[yy r hi]
   unfold offS
   rw[m]at d ⊢
   cases hu:und (r a) (r z)with
   |true =>
    rw[wL rfl]
    show und (r x) (r a)=false
    rcases wg.mp hx with q|q
    .exact yC p o s (qc5 hu) (d x q)
    .simp at q;subst q;exact zo _
   |false =>
    rw[wK (by simp)]
    rcases wg.mp hx with q|q
    .exact d x q
    .simp at q;subst q;exact hu
noncomputable def seqO(w:Wb):Nat->List Int->List Of
 |0,_=>[]
 |_+1,[]=>[]
 |k+1,a::l=>offP (rat w (a::l)) (a::l)::seqO w k ((a::l).erase (offP (rat w (a::l)) (a::l)).1)
theorem qd3(w:Wb):∀(k:Nat) (left:List Int) (ord:List Of) (b:List Int),(stp w k left ord b).1=ord++seqO w k left
 |0,left,ord,b=>by simp[stp,seqO]
 |k+1,[],ord,b=>by simp[stp,seqO]
 |k+1,a::l,ord,b=>by
  rw[stp,qd3 w k,seqO,uG];rfl
noncomputable abbrev mx(m n:Int×Int):Int×Int:=if und m n then n else m
noncomputable def runC:Int×Int->List Of->List Of
 |_,[]=>[]
 |m,o::r=>(o.1,mx m o.2)::runC (mx m o.2) r
noncomputable def lkC:List Of->Int->Int×Int
 |[],_=>(0,1)
 |o::r,x=>if o.1=x then o.2 else lkC r x
theorem jj{l:List Int}(nd:l.Nodup){a x:Int}:x∈l.erase a ↔ x∈l/\x≠a:=by
 rw[nd.mem_erase_iff];exact And.comm
structure Lft (w:Wb) (k:Nat) (L:List Int):Prop where
 len:L.length=k
 nd:L.Nodup
 rng:∀x∈L,0<=x/\x<w.costs.length
theorem zy{w:Wb}(h:WbOk w)(L:List Int){x:Int}(hx:0<=x/\x<w.costs.length):0<(rat w L x).2:=by
 have:=(yn h L hx.1 hx.2).b1;lia
theorem Lft.next{w:Wb}{k:Nat}{a:Int}{l:List Int}(h:Lft w (k+1) (a::l)):(offP (rat w (a::l)) (a::l)).1∈a::l/\(offP (rat w (a::l)) (a::l)).2=rat w (a::l) (offP (rat w (a::l)) (a::l)).1/\Lft w k ((a::l).erase (offP (rat w (a::l)) (a::l)).1):=by
 obtain⟨z,hz,b⟩:=yz (rat w (a::l)) _ (a::l) rfl (by simp)
 rw[b]
 refine⟨hz,rfl,?_,h.nd.erase _,λx hx=>h.rng x (List.mem_of_mem_erase hx)⟩
 have:=h.len
 rw[xa hz];lia
theorem qag{w:Wb}:∀(k:Nat) (L:List Int),Lft w k L->∀x,x∈(seqO w k L).map (·.1) ↔ x∈L
 |0,L,h,x=>by
  have:=w9.mp h.len
  subst this;simp[seqO]
 |k+1,[],h,x=>by simp[seqO]
 |k+1,a::l,h,x=>by
  obtain⟨c,_,d⟩:=h.next
  rw[seqO,wR,wN,qag k _ d,jj h.nd]
  generalize (offP (rat w (a::l)) (a::l)).1=b at c ⊢
  constructor
  .rintro (rfl|⟨q,_⟩)
   .exact c
   .exact q
  .intro q
   by_cases e:x=b
   .exact .inl e
   .exact .inr ⟨q,e⟩
theorem qd4{w:Wb}:∀(k:Nat) (L:List Int),Lft w k L->((seqO w k L).map (·.1)).Nodup
 |0,L,h=>by simp[seqO]
 |k+1,[],h=>by simp[seqO]
 |k+1,a::l,h=>by
  obtain⟨c,_,b⟩:=h.next
  rw[seqO,wR,uU,qag k _ b,jj h.nd]
  exact⟨λq=>q.2 rfl,qd4 k _ b⟩
theorem qc6{w:Wb}(h:WbOk w){c:Int×Int}(i:0<c.2):∀(k:Nat) (L:List Int) (m:Int×Int),Lft w k L->0<m.2->und m c=false->∀x∈L,und (lkC (runC m (seqO w k L)) x) c=false
 |0,L,m,hL,hm,hu,x,hx=>by
  have:=w9.mp hL.len
  subst this;simp at hx
 |k+1,[],m,hL,hm,hu,x,hx=>by simp at hx
 |k+1,a::l,m,hL,hm,hu,x,hx=>by
  obtain⟨j,n,o⟩:=hL.next
  rw[seqO,runC,lkC]
  obtain⟨O,p⟩:∃O,O=offP (rat w (a::l)) (a::l):=⟨_,rfl⟩
  rw[<-p]at j n o ⊢
  have d:0<O.2.2:=by rw[n];exact zy h _ (hL.rng _ j)
  have f:0<(mx m O.2).2:=by unfold mx;split <;> assumption
  have b:und (mx m O.2) c=false:=by
   unfold mx
   split
   .rename_i z
    exact yC i hm d hu (qc5 z)
   .exact hu
  split
  .exact b
  .rename_i z
   exact qc6 h i k _ _ o f b x ((jj hL.nd).mpr ⟨hx,λe=>z e.symm⟩)
theorem qah{w:Wb}(h:WbOk w){c:Int×Int}(j:0<c.2):∀(k:Nat) (L:List Int) (m:Int×Int),Lft w k L->0<m.2->und m c=true ->
  (∀K:List Int,(∀x,x∈K ↔ x∈L/\und (lkC (runC m (seqO w k L)) x) c=false)->∀x∈K,und (rat w K x) c=false) /\
  (∀X:List Int,(∀x∈X,x∈L)->(∀x∈X,und (rat w X x) c=false)->∀x∈X,und (lkC (runC m (seqO w k L)) x) c=false)
 |0,L,m,hL,hm,hu=>by
  have:=w9.mp hL.len
  subst this
  exact⟨λK d x hx=>by simpa using((d x).mp hx).1,λX f _ x hx=>by simpa using f x hx⟩
 |k+1,[],m,hL,hm,hu=>⟨λK d x hx=>by simpa using((d x).mp hx).1,λX f _ x hx=>by simpa using f x hx⟩
 |k+1,a::l,m,hL,hm,hu=>by
  obtain⟨n,u,v⟩:=hL.next
  have o:=qd2 (rat w (a::l)) _ (a::l) rfl (by simp) λx hx=>zy h _ (hL.rng x hx)
  rw[seqO,runC]
  obtain⟨O,F⟩:∃O,O=offP (rat w (a::l)) (a::l):=⟨_,rfl⟩
  rw[<-F]at n u v o ⊢
  have p:0<O.2.2:=by rw[u];exact zy h _ (hL.rng _ n)
  have r:0<(mx m O.2).2:=by unfold mx;split <;> assumption
  cases hu':und (mx m O.2) c with
  |true =>
   have E:=qah h j k _ _ v r hu'
   have i:und O.2 c=true:=by
    unfold mx at hu'
    split at hu'
    .exact hu'
    .rename_i z
     cases q:und O.2 c with
     |true=>rfl
     |false =>
      have:=yC j p hm q (by simpa using z)
      rw[hu]at this;cases this
   refine⟨λK d x hx=>E.1 K (λy=>?_) x hx,λX f A x hx=>?_⟩
   .rw [d y,lkC,jj hL.nd]
    constructor
    .rintro ⟨q1,q2⟩
     by_cases e:O.1=y
     .rw [wL e,hu']at q2;cases q2
     .rw [wK e]at q2
      exact⟨⟨q1,λz=>e z.symm⟩,q2⟩
    .rintro ⟨⟨q1,q2⟩,H⟩
     rw[wK λz=>q2 z.symm]
     exact⟨q1,H⟩
   .have hn:O.1∉X:=λz=>by
     have B:=qcj h f (hL.rng _ n).1 (hL.rng _ n).2
     have C:=A _ z
     have:=yC j (zy h X (hL.rng _ n)) (zy h (a::l) (hL.rng _ n)) C B
     rw[<-u,i]at this;cases this
    rw[lkC,wK λz=>hn (by rw[z];exact hx)]
    exact E.2 X (λy s=>(jj hL.nd).mpr ⟨f y s,λe=>hn (by rw[<-e];exact s)⟩) A x hx
  |false =>
   have i:und O.2 c=false:=by
    unfold mx at hu'
    split at hu'
    .exact hu'
    .rw [hu]at hu';cases hu'
   have all:∀x∈a::l,und (lkC ((O.1,mx m O.2)::runC (mx m O.2) (seqO w k ((a::l).erase O.1))) x) c=false:=by
    intro x hx
    rw[lkC]
    split
    .exact hu'
    .rename_i z
     exact qc6 h j k _ _ v r hu' x ((jj hL.nd).mpr ⟨hx,λe=>z e.symm⟩)
   refine⟨λK d x hx=>?_,λX f A x hx=>all x (f x hx)⟩
   have b:=((d x).mp hx).1
   have B:=qcj h (X:=a::l) (Y:=K) (λy s=>(d y).mpr ⟨s,all y s⟩) (hL.rng _ b).1 (hL.rng _ b).2
   have C:=yC j p (zy h (a::l) (hL.rng _ b)) i (o x b)
   exact yC j (zy h (a::l) (hL.rng _ b)) (zy h K (hL.rng _ b)) C B
noncomputable def cor(w:Wb)(x:Int):Int×Int:=lkC (runC (0,1) (strW w).1) x
theorem zV(w:Wb):(strW w).1=seqO w w.costs.length (rI w.costs.length):=by
 unfold strW
 rw[qd3];rfl
theorem zH(w:Wb):Lft w w.costs.length (rI w.costs.length):=⟨qE _,ym _,λx hx=>qX.mp hx⟩
theorem und0{w:Wb}(h:WbOk w){c:Int×Int}(a:0<c.2)(L:List Int){x:Int}(hx:0<=x/\x<w.costs.length)(b:und (0,1) c=false):und (rat w L x) c=false:=by
 have h0:und (rat w L x) (0,1)=false:=by
  rw[qaf]
  have:0<=(rat w L x).1:=qjb (qdY (qaL h L).1 (qaL h L).2 x).1 (qad h hx.1 hx.2).1
  lia
 exact yC a (by decide) (zy h L hx) b h0
theorem qiN{w:Wb}(h:WbOk w){c:Int×Int}(a:0<c.2)(K:List Int)(b:∀x,x∈K ↔ x∈rI w.costs.length/\und (cor w x) c=false):∀x∈K,und (rat w K x) c=false:=by
 cases hu:und (0,1) c with
 |true=>exact(qah h a _ _ (0,1) (zH w) (by decide) hu).1 K λx=>by rw[b x,cor,zV]
 |false=>exact λx hx=>und0 h a K (qX.mp ((b x).mp hx).1) hu
theorem qhf{w:Wb}(h:WbOk w){c:Int×Int}(a:0<c.2)(X:List Int)(b:∀x∈X,x∈rI w.costs.length)(d:∀x∈X,und (rat w X x) c=false):∀x∈X,und (cor w x) c=false:=by
 unfold cor
 rw[zV]
 cases hu:und (0,1) c with
 |true=>exact(qah h a _ _ (0,1) (zH w) (by decide) hu).2 X b d
 |false=>exact λx hx=>qc6 h a _ _ (0,1) (zH w) (by decide) hu x (b x hx)
end RP
namespace RP
open R
theorem qbl{e:Type}{g:e->D}{bind:D->En->Sr->Res En}{test:En->Sr->Res Bool}{elt:En->Sr->Res D}{b:e->Bool}{v:e->D}(R:En->Prop){S:Sr}:∀(ds:List e) (ρ:En) (a:List D),a.length+ds.length<=PySem.sizeLine->R ρ ->
  (∀d∈ds,∀ρ:En,R ρ->∃ρ1,bind (g d) ρ S=.ok ρ1 S/\R ρ1/\test ρ1 S=.ok (b d) S/\(b d=true->elt ρ1 S=.ok (v d) S)) ->
  genLoop bind test elt (stepG .tuple) (finG .tuple) (ds.map g) ρ (.tup a) S=.ok (.tup (a++(ds.filter b).map v)) S
 |[],ρ,a,_,_,_=>by simp[genLoop,finG]
 |d::ds,ρ,a,hl,hR,H=>by
  obtain⟨ρ1,e1,c,f,h⟩:=H d wH ρ hR
  rw[wX]at hl
  rw[wR]
  unfold genLoop
  rw[e1,Res.bind_ok,f,Res.bind_ok]
  cases z:b d with
  |false =>
   rw[wK (by simp),qbl R ds ρ1 a (by lia) c λd' hd=>H d' (wI _ hd),u8,wK (by rw[z];simp)]
  |true =>
   rw[wL rfl,h z,Res.bind_ok]
   simp only[stepG]
   rw[wL (show a.length<PySem.sizeLine by lia)]
   have:=qbl R ds ρ1 (a++[v d]) (by rw[we,uV];lia) c λd' hd=>H d' (wI _ hd)
   rw[u8,wL z,wR]
   refine this.trans ?_
   simp
theorem qd5{a:Type}{g:a->D}{F:Fs}{fr:List Nat}{nt:Nat}{elt:CE}{tg:CT}{it:CI}{ifs:CBs}{ρ:En}{S S1:Sr}{ds:List D}(xs:List a)(b:a->Bool)(v:a->D)(R:En->Prop)(c:evI F it ρ S=.ok ds S1)(hd:ds=xs.map g)(h0:R (frE ρ fr nt))(e:xs.length<=PySem.sizeLine)(H:∀d∈xs,∀ρ:En,R ρ->∃ρ1,asg F tg (g d) ρ S1=.ok ρ1 S1/\R ρ1/\tsts F ifs ρ1 S1=.ok (b d) S1/\(b d=true->ev F elt ρ1 S1=.ok (v d) S1)):
  ev F (.gen .tuple fr nt elt tg it ifs) ρ S=.ok (.tup ((xs.filter b).map v)) S1:=by
 simp only[ev,c,Res.bind,hd,startG]
 rw[qbl R xs _ [] (by simpa using e) h0 H];rfl
noncomputable def cD(l:List Of):List ((Int ⊕ PySem.Str)×D):=l.map λo=>((.inl o.1:Int ⊕ PySem.Str),nmD o.2)
theorem qd6:∀{l:List Of} {x:Int},x∈l.map (·.1)->lookT (.inl x:Int ⊕ PySem.Str) (cD l)=some (nmD (lkC l x))
 |[],x,h=>by simp at h
 |o::r,x,h=>by
  show lookT _ ((_,_)::cD r)=_
  rw[lookT,lkC]
  by_cases e:o.1=x
  .rw [wL (by rw[e]),wL e]
  .rw [wK (by simpa using e),wK e]
   refine qd6 ?_
   rw[wR,wN]at h
   exact h.resolve_left λz=>e z.symm
theorem qkR{l:List Of}{x:Int}{m:Int×Int}(h:x∉l.map (·.1)):putT (.inl x:Int ⊕ PySem.Str) (nmD m) (cD l)=cD (l++[(x,m)]):=by
 unfold putT
 have:(cD l).any (λp=>decide (p.1=(.inl x:Int ⊕ PySem.Str)))=false:=by
  rw[List.any_eq_false]
  intro p a
  obtain⟨o,b,rfl⟩:=vG.mp a
  simp only[wz,Sum.inl.injEq]
  exact λe=>h (vG.mpr ⟨o,b,e⟩)
 rw[this,wK (by simp)]
 unfold cD;simp
theorem qmc{T:Sr}{j:Nat}{l:List Of}{x:Int}(a:T[j]?=some (.dis (cD l)))(h:x∈l.map (·.1)):idkD T (.ref j) (.int x)=some (nmD (lkC l x)):=by
 simp only[idkD,a,keyD,wW,qd6 h]
theorem qmd{S:Sr}{l:List Of}{x:Int}{m:Int×Int}(c:l.length<=100)(h:x∉l.map (·.1)):putE (S++[.dis (cD l)]) (.ref S.length) (.int x) (nmD m)=some (S++[.dis (cD (l++[(x,m)]))]):=by
 have b:(cD l).length<1000:=by unfold cD;rw[wP];lia
 have a:(S++[SO.dis (cD l)])[S.length]?=some (.dis (cD l)):=by simp
 unfold putE
 rw[wL (show refsLt 0 (nmD m)=true from rfl)]
 simp only[putN,a,keyD,wW]
 rw[wL b,qkR h]
 simp
theorem y7:∀(l:List Of) (m:Int×Int),(runC m l).map (·.1)=l.map (·.1)
 |[],_=>rfl
 |o::r,m=>by rw[runC,wR,wR,y7 r]
noncomputable def mxE(m:Int×Int)(l:List Of):Int×Int:=l.foldl (λm o=>mx m o.2) m
theorem qck:∀(l:List Of) (m:Int×Int) (o:Of),runC m (l++[o])=runC m l++[(o.1,mx (mxE m l) o.2)]
 |[],m,o=>rfl
 |a::r,m,o=>by rw[List.cons_append,runC,qck r,runC];rfl
theorem qhg(l:List Of)(m:Int×Int)(o:Of):mxE m (l++[o])=mx (mxE m l) o.2:=by unfold mxE;rw[xb];rfl
theorem qd7{w:Wb}(h:WbOk w):∀(k:Nat) (L:List Int),Lft w k L->∀o∈seqO w k L,Nm o.2
 |0,L,hL,o,ho=>by simp[seqO]at ho
 |k+1,[],hL,o,ho=>by simp[seqO]at ho
 |k+1,a::l,hL,o,ho=>by
  obtain⟨b,c,d⟩:=hL.next
  rw[seqO,wN]at ho
  rcases ho with rfl|ho
  .rw [c];exact yn h _ (hL.rng _ b).1 (hL.rng _ b).2
  .exact qd7 h k _ d o ho
theorem qje{m n:Int×Int}(h:Nm m)(a:Nm n):Nm (mx m n):=by
 unfold mx
 split
 .exact a
 .exact h
theorem qhh:∀(l:List Of) (m:Int×Int),Nm m->(∀o∈l,Nm o.2)->Nm (mxE m l)
 |[],m,h,_=>h
 |o::r,m,h,h2=>qhh r _ (qje h (h2 o wH)) λx hx=>h2 x (wI _ hx)
theorem qhi:∀(l:List Of) (m:Int×Int),Nm m->(∀o∈l,Nm o.2)->∀x,Nm (lkC (runC m l) x)
 |[],m,h,_,x=>⟨by show(0:Int).natAbs<_;decide,by show(1:Int)<=1;decide,by show(1:Int)<_;decide⟩
 |o::r,m,h,h2,x=>by
  have hm:Nm (mx m o.2):=qje h (h2 o wH)
  rw[runC,lkC]
  split
  .exact hm
  .exact qhi r _ hm (λy a=>h2 y (wI _ a)) x
theorem nm0:Nm (0,1):=⟨by decide,by decide,by decide⟩
theorem qd8(w:Wb):(strW w).1.length=w.costs.length:=by
 have b:∀(k:Nat) (L:List Int),Lft w k L->(seqO w k L).length=k:=by
  intro k
  induction k with
  |zero=>intro L _;rfl
  |succ k d =>
   intro L c
   cases L with
   |nil=>have:=c.len;simp at this
   |cons a l=>rw[seqO,wX,d _ c.next.2.2]
 rw[zV,b _ _ (zH w)]
theorem qiO(w:Wb)(x:Int):x∈(strW w).1.map (·.1) ↔ x∈rI w.costs.length:=by rw[zV];exact qag _ _ (zH w) x
theorem qc7{w:Wb}(h:WbOk w):∀o∈(strW w).1,Nm o.2:=by rw[zV];exact qd7 h _ _ (zH w)
theorem qhj{w:Wb}(h:WbOk w)(x:Int):Nm (cor w x):=qhi _ _ nm0 (qc7 h) x
theorem qme{w:Wb}{T:Sr}{j:Nat}(a:T[j]?=some (.dis (cD (runC (0,1) (strW w).1)))){x:Int}(h:x∈rI w.costs.length):idkD T (.ref j) (.int x)=some (nmD (cor w x)):=qmc a (by rw[y7];exact(qiO w x).mpr h)
theorem qhk{F:Fs}{w:Wb}{S:Sr}{c:Nat}(h:WbOk w)(j f i p:Nat)(mk:D->Option D->Option D->En){x5 x6:Option D}(H:∀(o:Of) (m:Int×Int) (l:List Of) (a b:Option D),Nm m->Nm o.2->l.length<=100->o.1∉l.map (·.1)->(asg F (.tup (.cons (.var j) (.cons (.var f) .nil))) (offD o) (mk (nmD m) a b) (S++[.dis (cD l)])).bind (λρ1 S1=>exs F NW (.cons (.ifs (.val (.call c (.cons (.var i) (.cons (.var f) .nil)))) (.cons (.set (.var i) (.var f)) .nil) .nil) (.cons (.set (.sub (.var p) (.var j)) (.var i)) .nil)) ρ1 S1)=.ok (.nx (mk (nmD (mx m o.2)) (some (.int o.1)) (some (nmD o.2)))) (S++[.dis (cD (l++[(o.1,mx m o.2)]))])):
  ∃m a b,forLoop (λq ρ S=>(asg F (.tup (.cons (.var j) (.cons (.var f) .nil))) q ρ S).bind λρ1 S1=>exs F NW (.cons (.ifs (.val (.call c (.cons (.var i) (.cons (.var f) .nil)))) (.cons (.set (.var i) (.var f)) .nil) .nil) (.cons (.set (.sub (.var p) (.var j)) (.var i)) .nil)) ρ1 S1) ((strW w).1.map offD) (mk (nmD (0,1)) x5 x6) (S++[.dis []])=.ok (.nx (mk m a b)) (S++[.dis (cD (runC (0,1) (strW w).1))]):=by
 have y:=h.c2
 have n:((strW w).1.map (·.1)).Nodup:=by rw[zV];exact qd4 _ _ (zH w)
 obtain⟨ρ1,S1,e,a,b,rfl,rfl⟩:=zG (g:=offD) (body:=λq ρ S=>(asg F (.tup (.cons (.var j) (.cons (.var f) .nil))) q ρ S).bind λρ1 S1=>exs F NW (.cons (.ifs (.val (.call c (.cons (.var i) (.cons (.var f) .nil)))) (.cons (.set (.var i) (.var f)) .nil) .nil) (.cons (.set (.sub (.var p) (.var j)) (.var i)) .nil)) ρ1 S1)
  (λpre ρ U=>∃a b,ρ=mk (nmD (mxE (0,1) pre)) a b/\U=S++[.dis (cD (runC (0,1) pre))]) (strW w).1 (ρ:=mk (nmD (0,1)) x5 x6) (S:=S++[.dis []]) ⟨_,_,rfl,rfl⟩ (by
   rintro pre o u ρ U d ⟨a,b,rfl,rfl⟩
   have v:=congrArg List.length d
   rw[qd8,we,wX]at v
   have r:o.1∉(runC (0,1) pre).map (·.1):=λz=>by
    rw[y7]at z
    rw[d,uD,wR]at n
    exact(uC.mp n).2.2 _ z _ wH rfl
   have s:(runC (0,1) pre).length<=100:=by
    have:=congrArg List.length (y7 pre (0,1))
    rw[wP,wP]at this;lia
   refine⟨_,_,H o _ _ a b (qhh _ _ nm0 λx hx=>qc7 h x (by rw[d];simp[hx])) (qc7 h o (by rw[d];simp)) s r,_,_,by rw[qhg],by rw[qck]⟩)
 exact⟨_,_,_,e⟩
theorem qbm{d:Nat}{w:Wb}{S:Sr}(h:WbOk w):G (d+10) 18 [webD w] S=.ok (.tup ((rI w.costs.length).map λx=>nmD (cor w x))) S:=by
 have hm:=h.c2
 have u:PySem.sizeLine>=2:=by unfold PySem.sizeLine;lia
 rw[G_at (c:=c_18) rfl]
 obtain⟨m,a,b,v⟩:=qhk (F:=G (d+9)) (S:=S) (c:=4) h 5 6 4 3 (λm a b=>[some (webD w),some (.tup ((strW w).1.map offD)),some (tupI (strW w).2),some (.ref S.length),some m,a,b]) (x5:=none) (x6:=none) (λo m l a b y z A B=>by
  have eu:=y4 (d:=d+8) (S:=S++[.dis (cD l)]) y z
  rw[show asg (G (d+9)) (.tup (.cons (.var 5) (.cons (.var 6) .nil))) (offD o) [some (webD w),some (.tup ((strW w).1.map offD)),some (tupI (strW w).2),some (.ref S.length),some (nmD m),a,b] (S++[.dis (cD l)])=.ok [some (webD w),some (.tup ((strW w).1.map offD)),some (tupI (strW w).2),some (.ref S.length),some (nmD m),some (.int o.1),some (nmD o.2)] (S++[.dis (cD l)])from rfl,Res.bind_ok]
  have e:tst (G (d+9)) (.val (.call 4 (.cons (.var 4) (.cons (.var 6) .nil)))) [some (webD w),some (.tup ((strW w).1.map offD)),some (tupI (strW w).2),some (.ref S.length),some (nmD m),some (.int o.1),some (nmD o.2)] (S++[.dis (cD l)])=.ok (und m o.2) (S++[.dis (cD l)]):=t_of (qk rfl eu)
  have p:=λm=>qmd (S:=S) (m:=m) A B
  unfold mx
  cases hu:und m o.2 with
  |true =>
   rw[hu]at e
   rw[wL rfl]
   exact yj e (qm rfl rfl qF) (qm rfl (qgY rfl rfl (p _)) qF)
  |false =>
   rw[hu]at e
   rw[wK (by simp)]
   exact x_no e (qm rfl (qgY rfl rfl (p _)) qF))
 refine qaH (f:=c_18) (S1:=S) (S2:=[.dis (cD (runC (0,1) (strW w).1))]) rfl rfl ?_ rfl ?_
 .have i:(S++[SO.dis (cD (runC (0,1) (strW w).1))])[S.length]?=some (.dis (cD (runC (0,1) (strW w).1))):=by simp
  have j:bltD .len [.tup ((strW w).1.map offD)] (S++[SO.dis (cD (runC (0,1) (strW w).1))])=.ok (.int w.costs.length) (S++[SO.dis (cD (runC (0,1) (strW w).1))]):=by
   rw[<-qd8 w];simp[bltD,one,bLen,lenD]
  have s:=qd5 (g:=.int) (F:=G (d+9)) (fr:=[3]) (nt:=1) (elt:=.idk (.var 0) (.var 1)) (tg:=.var 1) (it:=.rng (.cons (.blt .len (.cons (.var 1) .nil)) .nil)) (ifs:=.nil) (ρ:=[some (webD w),some (.tup ((strW w).1.map offD)),some (tupI (strW w).2),some (.ref S.length),some m,a,b]) (S:=S++[SO.dis (cD (runC (0,1) (strW w).1))]) (S1:=S++[SO.dis (cD (runC (0,1) (strW w).1))]) (rI w.costs.length) (λ_=>true) (λx=>nmD (cor w x)) (λρ=>∃x,ρ=[some (.ref S.length),x]) (i_rng (n:=w.costs.length) (qe (qG rfl j) rfl) (by lia)) rfl ⟨_,rfl⟩ (by rw[qE];unfold PySem.sizeLine;lia) (by
   rintro q C ρ ⟨x,rfl⟩
   exact⟨_,rfl,⟨_,rfl⟩,rfl,λ_=>qg6 rfl rfl (qme i C)⟩)
  rw[zf]at s
  exact qm (qk rfl (qc4 h)) (ρ1:=[some (webD w),some (.tup ((strW w).1.map offD)),some (tupI (strW w).2),none,none,none,none]) rfl (qm (d:=.ref S.length) (S1:=S++[.dis []]) (by simp only[ev]) (ρ1:=[some (webD w),some (.tup ((strW w).1.map offD)),some (tupI (strW w).2),some (.ref S.length),none,none,none]) rfl (qm (d:=nmD (0,1)) (qZ (qe rfl (qe rfl rfl)) u) (ρ1:=[some (webD w),some (.tup ((strW w).1.map offD)),some (tupI (strW w).2),some (.ref S.length),some (nmD (0,1)),none,none]) rfl (yW rfl v (qJ s))))
 .refine zk _ ?_
  show refsLts 0 _=true
  generalize rI w.costs.length=l
  induction l with
  |nil=>rfl
  |cons a r E=>rw[wR,refsLts,E];rfl
theorem qbn{f:Int->D}{n:Nat}{q:Int}(h0:0<=q)(b:q<n)(T:Sr):idxD T (.tup ((rI n).map f)) (.int q)=some (f q):=by
 obtain⟨k,rfl⟩:∃k:Nat,q=k:=⟨q.toNat,by lia⟩
 have a:k<n:=by lia
 have hx:L2.ixN ((rI n).map f).length (k:Int)=some k:=by
  unfold L2.ixN
  rw[wL (by lia),wP,qE,wL (by lia)];rfl
 simp only[idxD,seqOf,wW,L2.atI,hx]
 unfold rI
 rw[vL,w4,xJ a];rfl
theorem qbo{d:Nat}{w:Wb}{q:Int}{S:Sr}(h0:0<=q)(e:q<w.costs.length):G (d+4) 14 [webD w,.int q] S=.ok .non S:=by
 rw[G_at (c:=c_14) rfl]
 have e1:G (d+3) 13 [webD w,.int q] S=.ok (.bl true) S:=by
  rw[G_at (c:=c_13) rfl]
  have:=qP (d:=d) (i:=q) (a:=0) (b:=(w.costs.length:Int)-1) (S:=S)
  rw[v8 h0,v8 (show q<=(w.costs.length:Int)-1 by lia)]at this
  exact qO rfl (qJ (qk (qe rfl (qe rfl (qe (qC (qG (qe (qH (S1:=S) rfl rfl rfl) rfl) (yk _ _)) rfl rfl) rfl))) this))
 exact qdO rfl (x_no (S1:=S) (t_no (x:=true) (t_of (qk rfl e1))) qF)
noncomputable def cprt(w:Wb)(c:Int×Int):List Int:=(rI w.costs.length).filter λx=>!und (cor w x) c
theorem qcl{d:Nat}{w:Wb}{q:Int}{S:Sr}(h:WbOk w)(h0:0<=q)(e:q<w.costs.length):G (d+11) 19 [webD w,.int q] S=.ok (tupI (cprt w (cor w q))) S:=by
 have hm:=h.c2
 rw[G_at (c:=c_19) rfl]
 have b:bltD .len [.tup ((rI w.costs.length).map λx=>nmD (cor w x))] S=.ok (.int w.costs.length) S:=by
  have:=qE w.costs.length
  simp[bltD,one,bLen,lenD,this]
 have f:=qd5 (g:=.int) (F:=G (d+10)) (fr:=[2,1]) (nt:=1) (elt:=.var 2) (tg:=.var 2) (it:=.rng (.cons (.blt .len (.cons (.var 2) .nil)) .nil)) (ifs:=.cons (.not (.val (.call 4 (.cons (.idx (.var 0) (.var 2)) (.cons (.idx (.var 0) (.var 1)) .nil))))) .nil) (ρ:=[some (webD w),some (.int q),some (.tup ((rI w.costs.length).map λx=>nmD (cor w x)))]) (S:=S) (S1:=S) (rI w.costs.length) (λx=>!und (cor w x) (cor w q)) D.int (λρ=>∃x,ρ=[some (.tup ((rI w.costs.length).map λx=>nmD (cor w x))),some (.int q),x]) (i_rng (n:=w.costs.length) (qe (qG rfl b) rfl) (by lia)) rfl ⟨_,rfl⟩ (by rw[qE];unfold PySem.sizeLine;lia) (by
  rintro x hx ρ ⟨y,rfl⟩
  have a:=qX.mp hx
  exact⟨_,rfl,⟨_,rfl⟩,qcX (t_no (t_of (qk (qe (qH rfl rfl (qbn a.1 a.2 S)) (qe (qH rfl rfl (qbn h0 e S)) rfl)) (y4 (d:=d+9) (qhj h x) (qhj h q))))),λ_=>rfl⟩)
 exact qO rfl (j4 (qk rfl (qac h)) (j4 (qk rfl (qbo h0 e)) (qm (qk rfl (qbm h)) rfl (qJ f))))
end RP
namespace RP
open R
theorem qcm{w:Wb}(h:WbOk w){c:Int×Int}(b:0<c.2){x:Int}(hx:x∈rI w.costs.length):und (cor w x) c=false ↔ ∃X:List Int,(∀y∈X,y∈rI w.costs.length)/\x∈X/\∀y∈X,und (rat w X y) c=false:=by
 constructor
 .intro e
  have a:∀z,z∈(rI w.costs.length).filter (λx=>!und (cor w x) c) ↔ z∈rI w.costs.length/\und (cor w z) c=false:=λz=>by
   rw[vD];simp
  exact⟨_,λy d=>((a y).mp d).1,(a x).mpr ⟨hx,e⟩,qiN h b _ a⟩
 .rintro ⟨X,f,i,j⟩
  exact qhf h b X f j x i
theorem qd9{w:Wb}(h:WbOk w):∀(k:Nat) (L:List Int),Lft w k L->∀o∈seqO w k L,Lw o.2
 |0,L,hL,o,ho=>by simp[seqO]at ho
 |k+1,[],hL,o,ho=>by simp[seqO]at ho
 |k+1,a::l,hL,o,ho=>by
  obtain⟨b,c,d⟩:=hL.next
  rw[seqO,wN]at ho
  rcases ho with rfl|ho
  .rw [c];exact qaJ (qad h (hL.rng _ b).1 (hL.rng _ b).2).1
  .exact qd9 h k _ d o ho
theorem lw01:Lw (0,1):=⟨by decide,by decide⟩
theorem qhl:∀(l:List Of) (m:Int×Int),Lw m->(∀o∈l,Lw o.2)->∀x,Lw (lkC (runC m l) x)
 |[],m,h,_,x=>lw01
 |o::r,m,h,h2,x=>by
  have hm:Lw (mx m o.2):=by
   unfold mx
   split
   .exact h2 o wH
   .exact h
  rw[runC,lkC]
  split
  .exact hm
  .exact qhl r _ hm (λy a=>h2 y (wI _ a)) x
theorem qhm{w:Wb}(h:WbOk w)(x:Int):Lw (cor w x):=by
 unfold cor
 rw[zV]
 exact qhl _ _ lw01 (qd9 h _ _ (zH w)) x
theorem qkS{p q:Int×Int}(a:Lw p)(b:Lw q)(c:und p q=false)(d:und q p=false):p=q:=by
 rw[qaf]at c d
 exact qeV a b (by lia)
theorem qeX{w:Wb}{X Y:List Int}(h:∀z,z∈X ↔ z∈Y)(x:Int):rat w X x=rat w Y x:=by
 have:tin w X=tin w Y:=by
  unfold tin
  apply List.filter_congr
  intro t _
  unfold subB
  rw[uj,vU,vU]
  simp only[wd,h]
 unfold rat
 rw[this]
noncomputable def sc(a b:Int)(p:Int×Int):Int×Int:=lw (p.1*a) (p.2*b)
end RP
namespace RP
open R
noncomputable def lea(w:Wb)(p:List Int):Int×Int:=(offP (rat w p) p).2
theorem qc8(w:Wb){p:List Int}(h:p≠[]):∃x∈p,lea w p=rat w p x:=by
 obtain⟨x,hx,e⟩:=yz (rat w p) p.length p rfl h
 exact⟨x,hx,by unfold lea;rw[e]⟩
theorem ratP{w:Wb}(h:WbOk w)(p:List Int){x:Int}(hx:0<=x/\x<w.costs.length):0<(rat w p x).2:=by
 have:=(yn h p hx.1 hx.2).b1;lia
theorem qkT{w:Wb}(h:WbOk w){p:List Int}(a:PlOk w.costs.length p):∀x∈p,und (rat w p x) (lea w p)=false:=λx hx =>
 qd2 (rat w p) p.length p rfl a.ne (λy b=>ratP h p (a.rng y b)) x hx
theorem yo{w:Wb}(h:WbOk w){p:List Int}(a:PlOk w.costs.length p):Nm (lea w p):=by
 obtain⟨x,hx,e⟩:=qc8 w a.ne
 rw[e];exact yn h p (a.rng x hx).1 (a.rng x hx).2
theorem qkU{w:Wb}(h:WbOk w){p:List Int}(a:PlOk w.costs.length p):Lw (lea w p):=by
 obtain⟨x,hx,e⟩:=qc8 w a.ne
 rw[e];exact qaJ (qad h (a.rng x hx).1 (a.rng x hx).2).1
noncomputable def mxS(w:Wb)(j:Int)(m:Int×Int)(p:List Int):Int×Int:=if p.contains j&&und m (lea w p)then lea w p else m
noncomputable def mxl(w:Wb)(j:Int)(M:List (List Int)):Int×Int:=M.foldl (mxS w j) (0,1)
theorem qai(w:Wb)(j:Int)(M:List (List Int))(p:List Int):mxl w j (M++[p])=mxS w j (mxl w j M) p:=by unfold mxl;rw[xb];rfl
theorem nm01:Nm (0,1):=⟨by decide,by decide,by decide⟩
theorem mxl_in{w:Wb}{j:Int}:∀(n:Nat) (M:List (List Int)),M.length=n->mxl w j M=(0,1)\/∃p∈M,j∈p/\mxl w j M=lea w p
 |0,M,h=>by
  cases w9.mp h
  exact .inl rfl
 |n+1,M,h=>by
  rcases uW M with rfl|⟨M0,p,rfl⟩
  .exact .inl rfl
  .rw [uX]at h ⊢
   rw[qai]
   unfold mxS
   split
   .rename_i a
    rw[wV]at a
    exact .inr ⟨p,by simp,by simpa using a.1,rfl⟩
   .rcases mxl_in n M0 (by simpa using h)with z|⟨q,hq,hj,e⟩
    .exact .inl z
    .exact .inr ⟨q,wc _ hq,hj,e⟩
theorem qbp{w:Wb}(h:WbOk w){j:Int}{M:List (List Int)}(a:∀p∈M,PlOk w.costs.length p):Nm (mxl w j M):=by
 rcases mxl_in (w:=w) (j:=j) M.length M rfl with e|⟨p,hp,_,e⟩
 .rw [e];exact nm01
 .rw [e];exact yo h (a p hp)
theorem qkV{w:Wb}(h:WbOk w){j:Int}{M:List (List Int)}(a:∀p∈M,PlOk w.costs.length p):Lw (mxl w j M):=by
 rcases mxl_in (w:=w) (j:=j) M.length M rfl with e|⟨p,hp,_,e⟩
 .rw [e];exact lw01
 .rw [e];exact qkU h (a p hp)
theorem qhn{w:Wb}(h:WbOk w){j:Int}:∀(n:Nat) (M:List (List Int)),M.length=n->(∀p∈M,PlOk w.costs.length p)->∀p∈M,j∈p->und (mxl w j M) (lea w p)=false
 |0,M,hn,_,p,a,_=>by cases w9.mp hn;cases a
 |n+1,M,hn,hM,p,a,hj=>by
  rcases uW M with rfl|⟨M0,q,rfl⟩
  .cases a
  .rw [uX]at hn hM a ⊢
   have b:∀p∈M0,PlOk w.costs.length p:=λp a=>hM p (wc _ a)
   have e:=hM q (by simp)
   have f:=(qbp h (j:=j) b).b1
   have i:=(yo h e).b1
   rw[qai]
   unfold mxS
   rcases wg.mp a with a|a
   .have d:=qhn h n M0 (by simpa using hn) b p a hj
    have l:=(yo h (b p a)).b1
    split
    .rename_i c
     rw[wV]at c
     exact yC (by lia) (by lia) (by lia) d (qc5 c.2)
    .exact d
   .rw [wM]at a
    subst a
    split
    .exact zo _
    .rename_i c
     have:(p.contains j)=true:=by simpa using hj
     rw[this,Bool.true_and]at c
     simpa using c
theorem qiP{w:Wb}{X:List Int}(a:∀y∈X,y∈rI w.costs.length){x:Int}(hx:x∈X):∃p,PlOk w.costs.length p/\∀z,z∈p ↔ z∈X:=by
 have m1:∀z,z∈((rI w.costs.length).filter λz=>X.contains z) ↔ z∈X:=λz=>by
  rw[vD,wd]
  exact⟨λq=>q.2,λq=>⟨a z q,q⟩⟩
 exact⟨_,⟨λe=>(by have:=(m1 x).mpr hx;rw[e]at this;cases this),λz hz=>qX.mp (a z ((m1 z).mp hz)),(qdT _).filter _⟩,m1⟩
theorem qea{w:Wb}(h:WbOk w)(x:Int):0<(cor w x).2:=by have:=(qhm h x).pos;lia
theorem zW{w:Wb}(h:WbOk w){c:Int×Int}(d:0<c.2){x:Int}(hx:x∈rI w.costs.length):und (cor w x) c=false ↔ ∃p,PlOk w.costs.length p/\x∈p/\und (lea w p) c=false:=by
 rw[qcm h d hx]
 constructor
 .rintro ⟨X,i,f,j⟩
  obtain⟨p,a,hm⟩:=qiP i f
  refine⟨p,a,(hm x).mpr f,?_⟩
  obtain⟨y,b,e⟩:=qc8 w a.ne
  rw[e,qeX hm]
  exact j y ((hm y).mp b)
 .rintro ⟨p,a,hx,l⟩
  refine⟨p,λy b=>qX.mpr (a.rng y b),hx,λy b=>?_⟩
  have m:=(yo h a).b1
  exact yC d (by lia) (ratP h p (a.rng y b)) l (qkT h a y b)
theorem qeb{w:Wb}(h:WbOk w){j:Int}(b:j∈rI w.costs.length){M:List (List Int)}(c:∀p∈M,PlOk w.costs.length p)(l:∀p,PlOk w.costs.length p->p∈M):mxl w j M=cor w j:=by
 have i:=qea h j
 refine qkS (qkV h c) (qhm h j) ?_ ?_
 .obtain ⟨p,d,a,m⟩:=(zW h i b).mp (zo _)
  have n:=(yo h d).b1
  have o:=(qbp h (j:=j) c).b1
  exact yC i (by lia) (by lia) m (qhn h M.length M rfl c p (l p d) a)
 .rcases mxl_in (w:=w) (j:=j) M.length M rfl with e|⟨p,d,a,e⟩
  .rw [e]
   refine(qcm h (by decide) b).mpr ⟨[j],λy f=>by rw[wM.mp f];exact b,by simp,λy f=>?_⟩
   rw[wM.mp f]
   exact und0 h (by decide) [j] (qX.mp b) (zo _)
  .rw [e]
   have n:=(yo h (c p d)).b1
   exact(zW h (by lia) b).mpr ⟨p,c p d,a,zo _⟩
theorem qbq:∀(l c:List Int),c.Nodup->(l.foldl PyProof.Rows.step_dedup c).Nodup/\∀x,x∈l.foldl PyProof.Rows.step_dedup c ↔ x∈c\/x∈l
 |[],c,h=>⟨h,λx=>by simp⟩
 |k::r,c,h=>by
  have d:(PyProof.Rows.step_dedup c k).Nodup/\∀x,x∈PyProof.Rows.step_dedup c k ↔ x∈c\/x=k:=by
   unfold PyProof.Rows.step_dedup
   by_cases q:c.any (· == k)=true
   .rw [wL q]
    obtain⟨y,i,e⟩:=vg.mp q
    have e:y=k:=by simpa using e
    subst e
    exact⟨h,λx=>⟨.inl,λz=>z.elim id λe=>e ▸ i⟩⟩
   .rw [wK q]
    refine⟨uC.mpr ⟨h,by simp,λa ha b f e=>q (vg.mpr ⟨a,ha,?_⟩)⟩,λx=>by simp⟩
    rw[wM]at f
    simp[e,f]
  obtain⟨j,m⟩:=qbq r _ d.1
  refine⟨j,λx=>?_⟩
  rw[v9,m,d.2,wN,or_assoc]
noncomputable def tog(w:Wb)(c:Int×Int)(M:List (List Int)):List Int:=(M.filter λp=>!(und (lea w p) c)).flatten
theorem qkW{w:Wb}(h:WbOk w){c:Int×Int}(e:0<c.2){M:List (List Int)}(i:∀p∈M,PlOk w.costs.length p)(j:∀p,PlOk w.costs.length p->p∈M):sortI (ddI (tog w c M))=cprt w c:=by
 have f:=qbq (tog w c M) [] .nil
 refine qcZ (qb6 f.1) ((qdT _).filter _) λx=>?_
 rw[(qN _).mem_iff]
 unfold ddI
 unfold cprt
 rw[f.2 x,vD]
 unfold tog
 rw[List.mem_flatten]
 constructor
 .rintro (z|⟨p,a,hx⟩)
  .cases z
  .rw [vD]at a
   have b:x∈rI w.costs.length:=qX.mpr ((i p a.1).rng x hx)
   refine⟨b,?_⟩
   rw[(zW h e b).mpr ⟨p,i p a.1,hx,by simpa using a.2⟩];rfl
 .rintro ⟨hx,l⟩
  obtain⟨p,a,d,m⟩:=(zW h e hx).mp (by simpa using l)
  exact .inr ⟨p,vD.mpr ⟨j p a,by rw[m];rfl⟩,d⟩
theorem qiQ{w:Wb}(h:WbOk w)(c:Int×Int){M:List (List Int)}(b:∀p∈M,PlOk w.costs.length p):(ddI (tog w c M)).length<=12:=by
 have f:=qbq (tog w c M) [] .nil
 have a:∀x∈ddI (tog w c M),x∈rI w.costs.length:=λx hx=>by
  rcases(f.2 x).mp hx with z|z
  .cases z
  .obtain ⟨p,d,hx⟩:=List.mem_flatten.mp z
   exact qX.mpr ((b p (vD.mp d).1).rng x hx)
 have i:=qbf (p:=rI w.costs.length) (t:=ddI (tog w c M)) (ym _) f.1 a
 have e:=vt (λx=>(ddI (tog w c M)).contains x) (rI w.costs.length)
 rw[qE]at e
 have:=h.c2
 lia
theorem qec{k:Nat}:∀{L:List (List Int)},(∀p∈L,p.length<=k)->L.flatten.length<=L.length*k
 |[],_=>by simp
 |p::r,h=>by
  have b:=h p wH
  have c:=qec (L:=r) λq a=>h q (wI _ a)
  rw[vA,we,wX,Nat.succ_mul];lia
theorem qho{κ:Type}[DecidableEq κ](k:κ)(v:D):∀(l:List (κ×D)) (j:κ),lookT j (putT k v l)=if j=k then some v else lookT j l:=by
 have c:∀(l:List (κ×D)) (j:κ),l.any (λp=>decide (p.1=j))=false->lookT j l=none:=λl j=>by
  induction l with
  |nil=>intro _;rfl
  |cons p r a =>
   intro h
   rw[vk,gE]at h
   unfold lookT
   rw[wK (by simpa using h.1)]
   exact a h.2
 have f:∀(l:List (κ×D)) (j:κ),lookT j (l++[(k,v)])=(lookT j l).or (if j=k then some v else none):=λl j=>by
  induction l with
  |nil =>
   show(if k=j then some v else none)=_
   by_cases e:j=k
   .rw [wL e.symm,wL e];rfl
   .rw [wK (Ne.symm e),wK e];rfl
  |cons p r a =>
   rw[List.cons_append]
   unfold lookT
   split
   .rfl
   .exact a
 have m:∀(l:List (κ×D)) (j:κ),l.any (λp=>decide (p.1=k))=true->lookT j (l.map λp=>if p.1=k then(p.1,v)else p)=if j=k then some v else lookT j l:=λl j=>by
  have i:∀l:List (κ×D),lookT j (l.map λp=>if p.1=k then(p.1,v)else p)=if j=k then(if l.any (λp=>decide (p.1=k))then some v else none)else lookT j l:=λl=>by
   induction l with
   |nil=>simp[lookT]
   |cons p r a =>
    rw[wR,vk]
    by_cases e:p.1=k
    .rw [wL e]
     unfold lookT
     by_cases b:j=k
     .rw [wL (by rw[e,b]),wL b,wL (by simp[e])]
     .rw [wK (by rw[e];exact Ne.symm b),wK b,a,wK b,wK (by rw[e];exact Ne.symm b)]
    .rw [wK e]
     unfold lookT
     by_cases d:p.1=j
     .have n:j≠k:=λz=>e (d.trans z)
      rw[wL d,wK n,wL d]
     .rw [wK d,a,wK d,ww e,Bool.false_or]
  intro h
  rw[i l,h];rfl
 intro l j
 unfold putT
 split
 .rename_i h;exact m l j h
 .rename_i h
  have h:l.any (λp=>decide (p.1=k))=false:=by
   cases z:l.any (λp=>decide (p.1=k))with
   |false=>rfl
   |true=>exact absurd z h
  rw[f]
  by_cases e:j=k
  .rw [wL e,wL e,e,c l k h];rfl
  .rw [wK e,wK e];cases lookT j l <;> rfl
theorem qcn(f:List Int->D):∀(n:Nat) (M:List (List Int)),M.length=n->∀p∈M,lookT p (dicL (M.map λp=>(p,f p)))=some (f p)
 |0,M,h,p,a=>by cases w9.mp h;cases a
 |n+1,M,h,p,a=>by
  rcases uW M with rfl|⟨M0,q,rfl⟩
  .cases a
  .rw [uX]at h a ⊢
   have e:dicL ((M0++[q]).map λp=>(p,f p))=putT q (f q) (dicL (M0.map λp=>(p,f p))):=by
    unfold dicL;rw[uD,xb];rfl
   rw[e,qho]
   by_cases z:p=q
   .rw [wL z,z]
   .rw [wK z]
    rcases wg.mp a with a|a
    .exact qcn f n M0 (by simpa using h) p a
    .exact absurd (wM.mp a) z
theorem qaN(f:List Int->D)(a:∀p,refsLt 0 (f p)=true):∀M:List (List Int),pairsV (M.map λp=>.tup [tupI p,f p])=some (M.map λp=>(p,f p))
 |[]=>rfl
 |p::r=>by
  rw[wR]
  show(if refsLt 0 (f p)then(intsOf (p.map .int)).bind λm=>(pairsV (r.map λp=>.tup [tupI p,f p])).map ((m,f p)::·)else none)=_
  rw[wL (a p),qB,qaN f a r];rfl
theorem qco:∀M:List (List Int),tupLs (M.map tupI)=some (M.map λp=>p.map .int)
 |[]=>rfl
 |p::r=>by
  rw[wR,wR]
  show(tupLs (r.map tupI)).map (p.map D.int::·)=_
  rw[qco r];rfl
theorem qcp:∀L:List (List Int),(L.map λp=>p.map D.int).flatten=L.flatten.map .int
 |[]=>rfl
 |p::r=>by rw[wR,vA,qcp r,vA,uD]
end RP
namespace RP
open R
theorem qhp{F:Fs}{ρ:En}{T:Sr}{i:Nat}{w:Wb}(h:ρ[i]?=some (some (webD w))):ev F (.blt .len (.cons (.idx (.var i) (.cst (.int 0))) .nil)) ρ T=.ok (.int w.costs.length) T:=by
 have a:ev F (.var i) ρ T=.ok (webD w) T:=by simp only[ev,varE,h]
 exact qG (qe (qH a rfl rfl) rfl) (yk _ _)
theorem qiR{d:Nat}{w:Wb}{p:List Int}{S:Sr}(h:WbOk w)(n:PlOk w.costs.length p):G (d+3) 29 [webD w,tupI p] S=.ok (nmD (lea w p)) S:=by
 have o:Ok (G (d+3) 29 [webD w,tupI p] S) λy q=>y=nmD (lea w p)/\q=S:=by
  rw[G_at (c:=c_29) rfl]
  refine qbh (f:=c_29) rfl rfl ?_
  refine qaa (Ok.of (a:=D.non) (S:=S) rfl (Ok.of (a:=[some (webD w),some (tupI p),some .non,none,none]) rfl ?_))
  refine qdW (g:=.int) (λpre ρ T=>T=S/\∃a b,ρ=[some (webD w),some (tupI p),some (if pre=[]then D.non else nmD (offP (rat w p) pre).2),a,b]) p (Ok.of (a:=p.map .int) (S:=S) rfl ⟨rfl,rfl,none,none,rfl⟩) ?_ ?_
  .rintro pre x r ρ T i ⟨rfl,a,b,rfl⟩
   have hx:=n.rng x (by rw[i];simp)
   have s:=qiI (d:=d) (S:=T) h (qkI T p) hx.1 hx.2
   refine Ok.of (a:=[some (webD w),some (tupI p),some (if pre=[]then D.non else nmD (offP (rat w p) pre).2),some (.int x),b]) rfl ?_
   refine qaa (Ok.of (qk rfl s) (Ok.of (a:=[some (webD w),some (tupI p),some (if pre=[]then D.non else nmD (offP (rat w p) pre).2),some (.int x),some (nmD (rat w p x))]) rfl ?_))
   by_cases l:pre=[]
   .subst l
    rw[wL rfl]
    refine Ok.of (yj (ql3 (t_of (zv (x:=true) rfl rfl rfl))) (qm rfl rfl qF) qF) ⟨rfl,some (.int x),some (nmD (rat w p x)),?_⟩
    rw[wK (by simp)];rfl
   .rw [wK l]
    obtain⟨y,u,v⟩:=yz (rat w p) pre.length pre rfl l
    have j:=n.rng y (by rw[i];exact wc _ u)
    have z:Nm (offP (rat w p) pre).2:=by rw[v];exact yn h p j.1 j.2
    have eu:=qbk (d:=d+1) (S:=T) (yn h p hx.1 hx.2) z
    have ns:cmpD .is (nmD (offP (rat w p) pre).2) .non T=some false:=rfl
    have m:tst (G (d+2)) (.or (.val (.cmp .is (.var 2) (.cst .non))) (.val (.call 24 (.cons (.var 4) (.cons (.var 2) .nil))))) [some (webD w),some (tupI p),some (nmD (offP (rat w p) pre).2),some (.int x),some (nmD (rat w p x))] T=.ok (und (rat w p x) (offP (rat w p) pre).2) T :=
     ql4 (t_of (zv (x:=false) rfl rfl ns)) (t_of (qk rfl eu))
    have es:=yy (rat w p) l x
    unfold offS at es
    cases hu:und (rat w p x) (offP (rat w p) pre).2 with
    |true =>
     rw[hu]at m es
     rw[wL rfl]at es
     refine Ok.of (yj m (qm rfl rfl qF) qF) ⟨rfl,some (.int x),some (nmD (rat w p x)),?_⟩
     rw[wK (by simp),es];rfl
    |false =>
     rw[hu]at m es
     rw[wK (by decide)]at es
     refine Ok.of (x_no m qF) ⟨rfl,some (.int x),some (nmD (rat w p x)),?_⟩
     rw[wK (by simp),es]
  .rintro ρ T ⟨rfl,a,b,rfl⟩
   rw[wK n.ne]
   exact qgT (Ok.of rfl ⟨wG _,rfl,rfl,xq⟩)
 obtain⟨y,q,e,rfl,rfl⟩:=o.ex
 exact e
theorem qed(n:Nat):∀l:List Int,eqL (eqD (n+1)) (l.map D.int) (l.map D.int)=some true
 |[]=>rfl
 |a::r=>by
  have e:eqD (n+1) (.int a) (.int a)=some true:=by
   show some (a == a)=_
   simp
  rw[wR,eqL,e,qed n r];rfl
theorem qiS(l:List Int)(S:Sr):cmpD .ne (tupI l) (tupI l) S=some false:=by
 have e:eqD 20 (tupI l) (tupI l)=some true:=qed 18 l
 simp only[cmpD,e];rfl
theorem qhq(n:Nat)(f:Int->Int×Int):∀ps:List Int,eqL (eqD (n+2)) (ps.map λx=>nmD (f x)) (ps.map λx=>nmD (f x))=some true
 |[]=>rfl
 |p::r=>by
  have e:eqD (n+2) (nmD (f p)) (nmD (f p))=some true:=by
   show some (((f p).1 == (f p).1)&&(((f p).2 == (f p).2)&&true))=_
   simp
  rw[wR,eqL,e,qhq n f r];rfl
theorem qmf(f:Int->Int×Int)(ps:List Int)(S:Sr):cmpD .ne (.tup (ps.map λx=>nmD (f x))) (.tup (ps.map λx=>nmD (f x))) S=some false:=by
 have e:eqD 20 (.tup (ps.map λx=>nmD (f x))) (.tup (ps.map λx=>nmD (f x)))=some true:=qhq 17 f ps
 simp only[cmpD,e];rfl
theorem qmg(p:Int×Int)(S:Sr):cmpD .ne (nmD p) (nmD p) S=some false:=by
 have e:eqD 20 (nmD p) (nmD p)=some true:=by
  show some ((p.1 == p.1)&&((p.2 == p.2)&&true))=_
  simp
 simp only[cmpD,e];rfl
theorem qeY(p:List Int)(q:Int×Int):refsLt 0 (.tup [tupI p,nmD q])=true:=by
 simp[refsLt,refsLts,tupI,refsI,nmD]
noncomputable abbrev dcD(w:Wb)(M:List (List Int)):SO:=.dic (dicL (M.map λp=>(p,nmD (lea w p))))
theorem qee{w:Wb}{M:List (List Int)}{T:Sr}{n:Nat}(h:T[n]?=some (dcD w M)){p:List Int}(a:p∈M):idxD T (.ref n) (tupI p)=some (nmD (lea w p)):=by
 simp only[idxD,tupI,h,qB,wW]
 exact qcn (λp=>nmD (lea w p)) M.length M rfl p a
theorem qiT(w:Wb)(M:List (List Int))(S:Sr):bltD .dictL [.lst (M.map λp=>.tup [tupI p,nmD (lea w p)])] S=.ok (.ref S.length) (S++[dcD w M]):=by
 simp only[bltD,one,bDictL,qaN (λp=>nmD (lea w p)) (λp=>by rfl)]
theorem qkX{L:List (List Int)}(h:L.flatten.length<=4000)(S:Sr):bltD .sumT [.lst (L.map tupI),.tup []] S=.ok (tupI L.flatten) S:=by
 have a:(L.flatten.map D.int).length<=4000:=by rw[wP];exact h
 simp only[bltD,two,bSumT,qco,qcp,wL a]
 rfl
theorem qkY{l:List Int}(h:l.length<4000)(a:(ddI l).length<64)(S:Sr):bltD (.sset false) [tupI l] S=.ok (.lst ((sortI (ddI l)).map .int)) S:=by
 have b:l.length<4000/\(ddI l).length<64:=⟨h,a⟩
 simp only[bltD,one,bSset,tupI,qB,wL b,newL]
 rfl
noncomputable abbrev coD(w:Wb):D:=.tup ((rI w.costs.length).map λx=>nmD (cor w x))
noncomputable abbrev rE(w:Wb)(M:List (List Int))(n:Nat)(x4 x5 x6 x7:Option D):En:=[some (webD w),some (.lst (M.map tupI)),some (.ref n),some (coD w),x4,x5,x6,x7]
set_option maxHeartbeats 4000000 in
theorem qhr{d:Nat}{w:Wb}{S:Sr}(h:WbOk w)(N:w.costs.length<=8):Ok (G (d+12) 30 [webD w] S) λy W=>y=.bl true/\W=S:=by
 rw[G_at (c:=c_30) rfl]
 refine qbh (f:=c_30) rfl rfl ?_
 have O:PySem.sizeLine>=2:=by unfold PySem.sizeLine;lia
 have c1:=h.c1
 obtain⟨M,r,E,X,Y⟩:=qcf (d:=d+10) (many:=w.costs.length) (S:=S) N
 have Z:M.length<=255:=by
  have:=Nat.pow_le_pow_right (n:=2) (by decide) N
  have e:2^8=256:=rfl
  lia
 refine qaa (Ok.of (qk (qe (qkx (qe (qhp (w:=w) rfl) rfl) (by lia)) rfl) Y) (Ok.of (a:=[some (webD w),some (.lst (M.map tupI)),none,none,none,none,none,none]) rfl ?_))
 have s1:=j3 (g:=tupI) (F:=G (d+11)) (fr:=[0]) (nt:=1) (elt:=.tup (.cons (.var 1) (.cons (.call 29 (.cons (.var 0) (.cons (.var 1) .nil))) .nil))) (tg:=.var 1) (it:=.seq (.var 1)) (ifs:=.nil) (ρ:=[some (webD w),some (.lst (M.map tupI)),none,none,none,none,none,none]) (S:=S) (S1:=S) (ds:=M.map tupI) M (λ_=>true) (λp=>.tup [tupI p,nmD (lea w p)]) (λρ=>∃x,ρ=[some (webD w),x]) rfl rfl ⟨none,rfl⟩ (by unfold PySem.sizeLine;lia) (by
  rintro p s ρ m ⟨x,rfl⟩
  exact⟨_,rfl,⟨_,rfl⟩,rfl,λ_=>⟨qZ (qe rfl (qe (qk rfl (qiR (d:=d+8) h (r p s))) rfl)) O,qeY _ _⟩⟩)
 rw[zf]at s1
 refine qaa (Ok.of (qG (qe s1 rfl) (qiT w M S)) (Ok.of (a:=[some (webD w),some (.lst (M.map tupI)),some (.ref S.length),none,none,none,none,none]) rfl ?_))
 have v:∀T:Sr,(S++[dcD w M]++T)[S.length]?=some (dcD w M):=λT=>by
  rw[uG,wn (wG _)];simp
 have i:(S++[dcD w M])[S.length]?=some (dcD w M):=by simp
 have tk:(S++[dcD w M]).take S.length=S:=by simp
 have H:S.length<=(S++[dcD w M]).length:=by simp
 generalize hn:S.length=n at v i tk H ⊢
 generalize S++[dcD w M]=S1 at v i tk H ⊢
 refine qaa (Ok.of (qk rfl (qbm (d:=d+1) (S:=S1) h)) (Ok.of (a:=rE w M n none none none none) rfl ?_))
 have lc:ev (G (d+11)) (.blt .len (.cons (.var 3) .nil)) (rE w M n none none none none) S1=.ok (.int w.costs.length) S1:=qG (qe rfl rfl) (by simp[bltD,one,bLen,lenD,qE])
 refine o_no (Ok.of (t_or (x:=false) (y:=false) (t_no (x:=true) (t_of rfl)) (t_or (x:=false) (y:=false) (t_of (zv (x:=false) lc (qhp (w:=w) rfl) (by show some (!((w.costs.length:Int) == (w.costs.length:Int)))=_;simp))) (t_of (zv (qk rfl (qbm (d:=d+1) (S:=S1) h)) rfl (qmf _ _ _))))) ⟨rfl,?_⟩)
 refine qdW (g:=.int) (λpre ρ T=>T=S1/\∃I x5 x6 l,ρ=rE w M n I x5 x6 l) (rI w.costs.length) (Ok.of (i_rng (qe (qhp (w:=w) rfl) rfl) (by lia)) ⟨rfl,rfl,none,none,none,none,rfl⟩) ?_ ?_
 .rintro pre j a0 ρ T z ⟨rfl,I,x5,x6,l,rfl⟩
  have J:j∈rI w.costs.length:=by rw[z];simp
  have u:=qX.mp J
  refine Ok.of (a:=rE w M n (some (.int j)) x5 x6 l) rfl ?_
  refine qaa (Ok.of (a:=nmD (0,1)) (S:=T) (qZ (qe rfl (qe rfl rfl)) O) (Ok.of (a:=rE w M n (some (.int j)) (some (nmD (0,1))) x6 l) rfl ?_))
  refine qdW (g:=tupI) (λpre ρ U=>U=T/\∃x6,ρ=rE w M n (some (.int j)) (some (nmD (mxl w j pre))) x6 l) M (Ok.of (a:=M.map tupI) (S:=T) rfl ⟨rfl,rfl,x6,rfl⟩) ?_ ?_
  .rintro b p P ρ U o ⟨rfl,B,rfl⟩
   have s:p∈M:=by rw[o];simp
   have K:∀q∈b,PlOk w.costs.length q:=λq hq=>r q (by rw[o];exact wc _ hq)
   refine Ok.of (a:=rE w M n (some (.int j)) (some (nmD (mxl w j b))) (some (tupI p)) l) rfl ?_
   have eu:=qbk (d:=d+10) (S:=U) (qbp h (j:=j) K) (yo h (r p s))
   have Q:ev (G (d+11)) (.idx (.var 2) (.var 6)) (rE w M n (some (.int j)) (some (nmD (mxl w j b))) (some (tupI p)) l) U=.ok (nmD (lea w p)) U:=qH rfl rfl (qee i s)
   have C:tst (G (d+11)) (.and (.val (.cmp .inn (.var 4) (.var 6))) (.val (.call 24 (.cons (.var 5) (.cons (.idx (.var 2) (.var 6)) .nil))))) (rE w M n (some (.int j)) (some (nmD (mxl w j b))) (some (tupI p)) l) U=.ok (p.contains j&&und (mxl w j b) (lea w p)) U :=
    qi6 (t_of (zv rfl rfl (jy j p))) (λ_=>t_of (qk (qe rfl (qe Q rfl)) eu))
   have es:=qai w j b p
   unfold mxS at es
   cases hu:(p.contains j&&und (mxl w j b) (lea w p))with
   |true =>
    rw[hu]at C es
    rw[wL rfl]at es
    exact Ok.of (yj C (qm Q rfl qF) qF) ⟨rfl,_,by rw[es];rfl⟩
   |false =>
    rw[hu]at C es
    rw[wK (by decide)]at es
    exact Ok.of (x_no C qF) ⟨rfl,_,by rw[es]⟩
  .rintro ρ U ⟨rfl,B,rfl⟩
   rw[qeb h J r E]
   have cp:=qea h j
   have cn:Nm (cor w j):=by rw[<-qeb h J r E];exact qbp h r
   have q1:=j3 (g:=tupI) (F:=G (d+11)) (fr:=[2,5]) (nt:=1) (elt:=.var 2) (tg:=.var 2) (it:=.seq (.var 1)) (ifs:=.cons (.not (.val (.call 24 (.cons (.idx (.var 0) (.var 2)) (.cons (.var 1) .nil))))) .nil) (ρ:=rE w M n (some (.int j)) (some (nmD (cor w j))) B l) (S:=U) (S1:=U) (ds:=M.map tupI) M (λp=>!(und (lea w p) (cor w j))) tupI (λρ=>∃x,ρ=[some (.ref n),some (nmD (cor w j)),x]) rfl rfl ⟨none,rfl⟩ (by unfold PySem.sizeLine;lia) (by
    rintro p s ρ m ⟨x,rfl⟩
    exact⟨_,rfl,⟨_,rfl⟩,qcX (t_no (t_of (qk (qe (qH rfl rfl (qee (v _) s)) (qe rfl rfl)) (qbk (d:=d+10) (yo h (r p s)) cn)))),λ_=>⟨rfl,zz _ _⟩⟩)
   have fl:(tog w (cor w j) M).length<4000:=by
    have h1:=qec (k:=8) (L:=M.filter λp=>!(und (lea w p) (cor w j))) λp s=>by
     have A:=r p (vD.mp s).1
     have h1:=qbf (p:=rI w.costs.length) (t:=p) (ym _) (yX A.up) (λx hx=>qX.mpr (A.rng x hx))
     have R:=vt (λx=>p.contains x) (rI w.costs.length)
     rw[qE]at R;lia
    have R:=vt (λp=>!(und (lea w p) (cor w j))) M
    unfold tog;lia
   have ti:=qkW h cp r E
   have s7:ev (G (d+11)) (.blt (.sset false) (.cons (.blt .sumT (.cons (.lc false [2,5] 1 (.var 2) (.var 2) (.seq (.var 1)) (.cons (.not (.val (.call 24 (.cons (.idx (.var 0) (.var 2)) (.cons (.var 1) .nil))))) .nil)) (.cons (.tup .nil) .nil))) .nil)) (rE w M n (some (.int j)) (some (nmD (cor w j))) B l) U=.ok (.lst ((cprt w (cor w j)).map .int)) U:=by
    have:=qG (qe (es:=.nil) (qG (qe q1 (qe (es:=.nil) (qZ (es:=.nil) rfl (by simp)) rfl)) (qkX (by show(tog w (cor w j) M).length<=4000;lia) U)) rfl) (qkY fl (by have:=qiQ h (cor w j) r;lia) U)
    rw[ti]at this
    exact this
   refine qaa (Ok.of s7 (Ok.of (a:=rE w M n (some (.int j)) (some (nmD (cor w j))) B (some (.lst ((cprt w (cor w j)).map .int)))) rfl ?_))
   refine o_no (Ok.of (t_or (x:=false) (y:=false) (t_of (zv (qH rfl rfl (qbn u.1 u.2 U)) rfl (qmg _ _))) (t_of (zv (qk rfl (qcl (d:=d) (S:=U) h u.1 u.2)) (qG (qe rfl rfl) rfl) (qiS _ _)))) ⟨rfl,qi9 ⟨rfl,_,_,_,_,rfl⟩⟩)
 .rintro ρ T ⟨rfl,I,x5,x6,l,rfl⟩
  exact qgT (Ok.of rfl ⟨H,rfl,rfl,tk⟩)
theorem qiU{d:Nat}{w:Wb}{S:Sr}(a:WbOk w)(b:w.costs.length<=8):G (d+12) 30 [webD w] S=.ok (.bl true) S:=by
 obtain⟨y,c,e,rfl,rfl⟩:=(qhr (d:=d) (S:=S) a b).ex
 exact e
noncomputable abbrev lE(ns:List Int)(a:Option D):En:=[some (.lst (ns.map .int)),a]
theorem qkZ{d:Nat}{ns:List Int}(h:ns.length<=63):Ok (G (d+13) 31 [.lst (ns.map .int)] []) λy _=>y=.bl true:=by
 rw[G_at (c:=qdL) rfl]
 refine qbh (f:=qdL) rfl rfl ?_
 obtain⟨nn,j,l⟩:=ql5 (F:=G (d+12)) (ρ:=lE ns none) (S:=[]) (ns:=ns) (c:=8) rfl (by decide) (by decide)
 refine qdW (g:=λ(k:Nat)=>D.int (0+2*k)) (λpre ρ U=>∃a,ρ=lE ns a) (List.range nn) (Ok.of l ⟨rfl,_,rfl⟩) ?_ ?_
 .rintro pre q m ρ U e ⟨o,rfl⟩
  have p:q∈List.range nn:=by rw[e];simp
  have r:=uA.mp p
  refine Ok.of (a:=lE ns (some (.int (0+2*q)))) rfl ?_
  obtain⟨v,s,ep⟩:=qkC (d:=d+10) h (k:=0+2*(q:Int)) (S:=U) (by lia) (by lia)
  have b:pk (U++[.lst [.int v]]) U.length v=U++[.lst [.int v]]:=qiD (by simp)
  obtain⟨w,u,z,A,B,C,E,i⟩:=ql6 (d:=d+9) (n:=U.length) (v:=v) (mo:=6) (tn:=10) (S:=U++[.lst [.int v]]) (by simp) s (by decide) (by decide) (by decide) (by decide)
  rw[b]at i
  exact o_no (Ok.of (t_no (x:=true) (t_of (qk (qe (qk (qe (qk rfl ep) rfl) i) rfl) (qiU (d:=d) z (by lia))))) ⟨rfl,qi9 ⟨_,rfl⟩⟩)
 .rintro ρ U ⟨o,rfl⟩
  exact qgT (Ok.of rfl ⟨by simp,rfl,rfl⟩)
theorem pure_law:∀ns:List Int,ns.length<=63->∃b,run prg NW 15 31 [.lst (ns.map .int)] []=.ok (.bl true) b:=λns h=>by
 obtain⟨a,S,e,rfl⟩:=(qkZ (d:=2) h).ex
 exact⟨S,by rw[<-qgU];exact e⟩
end RP
section
def PySem.W.Fast.tw5180910187807516755:Nat:=0
noncomputable def PySem.W.Fast.tw291622345524789054:Nat:=0
noncomputable def PySem.W.Fast.tw13353677818985315758:Nat:=0
noncomputable def PySem.W.Fast.tw7607231490677397591:Nat:=0
noncomputable def PySem.W.Fast.tw6190980056618405533:Nat:=0
noncomputable def PySem.W.Fast.tw10348531719180928019:Nat:=0
noncomputable def PySem.W.Fast.tw14798991102869837860:Nat:=0
noncomputable def PySem.W.Fast.tw13146228930882953864:Nat:=0
noncomputable def PySem.W.Fast.tw16863923928974548922:Nat:=0
noncomputable def PySem.W.Fast.tw15392414817603064432:Nat:=0
noncomputable def PySem.W.Fast.tw15909998831318664681:Nat:=0
noncomputable def PySem.W.Fast.tw10786886346048904536:Nat:=0
noncomputable def PySem.W.Fast.tw1813371655673439829:Nat:=0
noncomputable def PySem.W.Fast.tw8331945390192751814:Nat:=0
noncomputable def PySem.W.Fast.tw15846758212448757960:Nat:=0
noncomputable def PySem.W.Fast.tw2975181783984637012:Nat:=0
noncomputable def PySem.W.Fast.tw3184265166473211548:Nat:=0
noncomputable def PySem.W.Fast.tw9391940902338486732:Nat:=0
noncomputable def PySem.W.Fast.tw17359038251695597930:Nat:=0
noncomputable def PySem.W.Fast.tw18331167600633207249:Nat:=0
noncomputable def PySem.W.Fast.tw14201026009550521327:Nat:=0
noncomputable def PySem.W.Fast.tw17144255210904759667:Nat:=0
noncomputable def PySem.W.Fast.tw2950435296747170977:Nat:=0
noncomputable def PySem.W.Fast.tw11565914954548044343:Nat:=0
noncomputable def PySem.W.Fast.tw5362068593685231068:Nat:=0
noncomputable def PySem.W.Fast.tw8882900588090336619:Nat:=0
noncomputable def PySem.W.Fast.tw16280691435731116614:Nat:=0
noncomputable def PySem.W.Fast.tw7239116130826910012:Nat:=0
noncomputable def PySem.W.Fast.tw10720767276430787267:Nat:=0
noncomputable def PySem.W.Fast.tw9247077900557964620:Nat:=0
noncomputable def PySem.W.Fast.tw131015608315880035:Nat:=0
noncomputable def PySem.W.Fast.tw7142354532595881743:Nat:=0
noncomputable def PySem.W.Fast.tw5471703251016597796:Nat:=0
noncomputable def PySem.W.Fast.tw17283342052125786001:Nat:=0
noncomputable def PySem.W.Fast.tw4405917602246306405:Nat:=0
noncomputable def PySem.W.Fast.tw6718114852758631419:Nat:=0
noncomputable def PySem.W.Fast.tw8264982257811616705:Nat:=0
noncomputable def PySem.W.Fast.tw927633794853334019:Nat:=0
noncomputable def PySem.W.Fast.tw5726075924920419979:Nat:=0
noncomputable def PySem.W.Fast.tw7224729468898899270:Nat:=0
noncomputable def PySem.W.Fast.tw11016269676809714103:Nat:=0
noncomputable def PySem.W.Fast.tw11622917074923249359:Nat:=0
noncomputable def PySem.W.Fast.tw8795741016844482883:Nat:=0
noncomputable def PySem.W.Fast.tw1804103269294904106:Nat:=0
noncomputable def PySem.W.Fast.tw3494317497257519714:Nat:=0
noncomputable def PySem.W.Fast.tw7116761524768593063:Nat:=0
noncomputable def PySem.W.Fast.tw878919715888681649:Nat:=0
noncomputable def PySem.W.Fast.tw11907300218081277884:Nat:=0
noncomputable def PySem.W.Fast.tw10419513361600923261:Nat:=0
noncomputable def PySem.W.Fast.tw5600935577733192180:Nat:=0
noncomputable def PySem.W.Fast.tw6269854703902507043:Nat:=0
noncomputable def PySem.W.Fast.tw14077810153381398434:Nat:=0
noncomputable def PySem.W.Fast.tw13995379049233758730:Nat:=0
noncomputable def PySem.W.Fast.tw9388682025970430134:Nat:=0
noncomputable def PySem.W.Fast.tw2820045954366443715:Nat:=0
noncomputable def PySem.W.Fast.tw17521533216927637129:PySem.Program:=PySem.Challenge.pw_weblayers_k38_cores_told
theorem PySem.W.Fast.te17521533216927637129:PySem.Challenge.pw_weblayers_k38_cores_told=PySem.W.Fast.tw17521533216927637129:=rfl
namespace RP
open PySem PySem.W PyProof.Rows R
noncomputable abbrev KOf2{K:PySem.W.Frag}{h:Heap}(_:K.In h):PySem.W.Frag:=K
end RP
open PySem PySem.W PyProof.Rows R
set_option maxRecDepth 100000 in
set_option maxHeartbeats 0 in
theorem PySem.Challenge.cw_weblayers_k38_cores_told_holds : PySem.Challenge.rw_weblayers_k38_cores_told.Holds := by
 w_on;o_law;k_head;(case hw=>w_witness2)
 k_fill
 refine R.qka (l:=PySem.Challenge.rw_weblayers_k38_cores_told) (n:=63) (k:=45) (x:="_law_script") (g:=R.run RP.prg RP.NW 15 31) rfl (by decide) rfl ⟨rfl,by decide,by decide⟩ (λw h Y=>PySem.W.kIn_of Y) ?zp ?zc ?zF RP.pure_law
 case zp=>intro P;rfl
 case zc=>intro P;rfl
 case zF =>
  intro w mg fa h KX G hmg
  have p:RP.Pre (RP.KOf2 KX) mg:=by
   dsimp only[RP.KOf2]
   refine⟨?gb,?c_MOST_COST,?c_MOST_PLACES,?c_MOST_PLACES_OF_TIE,?c_MOST_TIES,?c_MOST_WEIGHT,?u_0,?u_1,?u_2,?u_3,?u_4,?u_5,?u_6,?u_7,?u_8,?u_9,?u_10,?u_11,?u_12,?u_13,?u_14,?u_15,?u_16,?u_17,?u_18,?u_19,?u_20,?u_21,?u_22,?u_23,?u_24,?u_25,?u_26,?u_27,?u_28,?u_29,?u_30,?u_31⟩
   case gb =>
    refine⟨mg_none_of KX G ?x0,mg_none_of KX G ?x1,mg_none_of KX G ?x2,mg_none_of KX G ?x3,mg_none_of KX G ?x4,mg_none_of KX G ?x5,mg_none_of KX G ?x6,mg_none_of KX G ?x7,mg_none_of KX G ?x8,mg_none_of KX G ?x9,mg_none_of KX G ?x10,mg_none_of KX G ?x11,mg_none_of KX G ?x12,mg_none_of KX G ?x13,mg_none_of KX G ?x14,mg_none_of KX G ?x15,mg_none_of KX G ?x16,mg_none_of KX G ?x17,mg_none_of KX G ?x18⟩
    (case x0=>k_is);(case x1=>k_is);(case x2=>k_is);(case x3=>k_is);(case x4=>k_is);(case x5=>k_is);(case x6=>k_is);(case x7=>k_is);(case x8=>k_is);(case x9=>k_is);(case x10=>k_is);(case x11=>k_is);(case x12=>k_is);(case x13=>k_is);(case x14=>k_is);(case x15=>k_is);(case x16=>k_is);(case x17=>k_is);(case x18=>k_is)
   case c_MOST_COST=>refine' j0 KX G ?a ?b;(case a=>k_is);(case b=>exact rfl)
   case c_MOST_PLACES=>refine' j0 KX G ?a ?b;(case a=>k_is);(case b=>exact rfl)
   case c_MOST_PLACES_OF_TIE=>refine' j0 KX G ?a ?b;(case a=>k_is);(case b=>exact rfl)
   case c_MOST_TIES=>refine' j0 KX G ?a ?b;(case a=>k_is);(case b=>exact rfl)
   case c_MOST_WEIGHT=>refine' j0 KX G ?a ?b;(case a=>k_is);(case b=>exact rfl)
   case u_0 =>
    refine' qp KX G (ps:=["thing"]) ?a ?l ?c ?d ?h ?t ?k ?b
    (case a=>k_is);(case l=>k_is);(case c=>k_is);(case d=>k_is);(case h=>rfl);(case t=>rfl);(case k=>k_is)
    (case b=>intro _ _ _ _ _ _ _ q;obtain⟨_,rfl⟩:=len1 q;rfl)
   case u_1 =>
    refine' qp KX G (ps:=["thing","least","most"]) ?a ?l ?c ?d ?h ?t ?k ?b
    (case a=>k_is);(case l=>k_is);(case c=>k_is);(case d=>k_is);(case h=>rfl);(case t=>rfl);(case k=>k_is)
    (case b=>intro _ _ _ _ _ _ _ q;obtain⟨_,_,_,rfl⟩:=len3 q;rfl)
   case u_2 =>
    refine' qp KX G (ps:=["one","other"]) ?a ?l ?c ?d ?h ?t ?k ?b
    (case a=>k_is);(case l=>k_is);(case c=>k_is);(case d=>k_is);(case h=>rfl);(case t=>rfl);(case k=>k_is)
    (case b=>intro _ _ _ _ _ _ _ q;obtain⟨_,_,rfl⟩:=len2 q;rfl)
   case u_3 =>
    refine' qp KX G (ps:=["top","bottom"]) ?a ?l ?c ?d ?h ?t ?k ?b
    (case a=>k_is);(case l=>k_is);(case c=>k_is);(case d=>k_is);(case h=>rfl);(case t=>rfl);(case k=>k_is)
    (case b=>intro _ _ _ _ _ _ _ q;obtain⟨_,_,rfl⟩:=len2 q;rfl)
   case u_4 =>
    refine' qp KX G (ps:=["one","other"]) ?a ?l ?c ?d ?h ?t ?k ?b
    (case a=>k_is);(case l=>k_is);(case c=>k_is);(case d=>k_is);(case h=>rfl);(case t=>rfl);(case k=>k_is)
    (case b=>intro _ _ _ _ _ _ _ q;obtain⟨_,_,rfl⟩:=len2 q;rfl)
   case u_5 =>
    refine' qp KX G (ps:=["thing"]) ?a ?l ?c ?d ?h ?t ?k ?b
    (case a=>k_is);(case l=>k_is);(case c=>k_is);(case d=>k_is);(case h=>rfl);(case t=>rfl);(case k=>k_is)
    (case b=>intro _ _ _ _ _ _ _ q;obtain⟨_,rfl⟩:=len1 q;rfl)
   case u_6 =>
    refine' qp KX G (ps:=["thing"]) ?a ?l ?c ?d ?h ?t ?k ?b
    (case a=>k_is);(case l=>k_is);(case c=>k_is);(case d=>k_is);(case h=>rfl);(case t=>rfl);(case k=>k_is)
    (case b=>intro _ _ _ _ _ _ _ q;obtain⟨_,rfl⟩:=len1 q;rfl)
   case u_7 =>
    refine' qp KX G (ps:=["thing","many"]) ?a ?l ?c ?d ?h ?t ?k ?b
    (case a=>k_is);(case l=>k_is);(case c=>k_is);(case d=>k_is);(case h=>rfl);(case t=>rfl);(case k=>k_is)
    (case b=>intro _ _ _ _ _ _ _ q;obtain⟨_,_,rfl⟩:=len2 q;rfl)
   case u_8 =>
    refine' qp KX G (ps:=["thing","many"]) ?a ?l ?c ?d ?h ?t ?k ?b
    (case a=>k_is);(case l=>k_is);(case c=>k_is);(case d=>k_is);(case h=>rfl);(case t=>rfl);(case k=>k_is)
    (case b=>intro _ _ _ _ _ _ _ q;obtain⟨_,_,rfl⟩:=len2 q;rfl)
   case u_9 =>
    refine' qp KX G (ps:=["thing","many"]) ?a ?l ?c ?d ?h ?t ?k ?b
    (case a=>k_is);(case l=>k_is);(case c=>k_is);(case d=>k_is);(case h=>rfl);(case t=>rfl);(case k=>k_is)
    (case b=>intro _ _ _ _ _ _ _ q;obtain⟨_,_,rfl⟩:=len2 q;rfl)
   case u_10 =>
    refine' qp KX G (ps:=["thing","many"]) ?a ?l ?c ?d ?h ?t ?k ?b
    (case a=>k_is);(case l=>k_is);(case c=>k_is);(case d=>k_is);(case h=>rfl);(case t=>rfl);(case k=>k_is)
    (case b=>intro _ _ _ _ _ _ _ q;obtain⟨_,_,rfl⟩:=len2 q;rfl)
   case u_11 =>
    refine' qp KX G (ps:=["things"]) ?a ?l ?c ?d ?h ?t ?k ?b
    (case a=>k_is);(case l=>k_is);(case c=>k_is);(case d=>k_is);(case h=>rfl);(case t=>rfl);(case k=>k_is)
    (case b=>intro _ _ _ _ _ _ _ q;obtain⟨_,rfl⟩:=len1 q;rfl)
   case u_12 =>
    refine' qp KX G (ps:=["thing"]) ?a ?l ?c ?d ?h ?t ?k ?b
    (case a=>k_is);(case l=>k_is);(case c=>k_is);(case d=>k_is);(case h=>rfl);(case t=>rfl);(case k=>k_is)
    (case b=>intro _ _ _ _ _ _ _ q;obtain⟨_,rfl⟩:=len1 q;rfl)
   case u_13 =>
    refine' qp KX G (ps:=["web","thing"]) ?a ?l ?c ?d ?h ?t ?k ?b
    (case a=>k_is);(case l=>k_is);(case c=>k_is);(case d=>k_is);(case h=>rfl);(case t=>rfl);(case k=>k_is)
    (case b=>intro _ _ _ _ _ _ _ q;obtain⟨_,_,rfl⟩:=len2 q;rfl)
   case u_14 =>
    refine' qp KX G (ps:=["web","thing"]) ?a ?l ?c ?d ?h ?t ?k ?b
    (case a=>k_is);(case l=>k_is);(case c=>k_is);(case d=>k_is);(case h=>rfl);(case t=>rfl);(case k=>k_is)
    (case b=>intro _ _ _ _ _ _ _ q;obtain⟨_,_,rfl⟩:=len2 q;rfl)
   case u_15 =>
    refine' qp KX G (ps:=["web","part"]) ?a ?l ?c ?d ?h ?t ?k ?b
    (case a=>k_is);(case l=>k_is);(case c=>k_is);(case d=>k_is);(case h=>rfl);(case t=>rfl);(case k=>k_is)
    (case b=>intro _ _ _ _ _ _ _ q;obtain⟨_,_,rfl⟩:=len2 q;rfl)
   case u_16 =>
    refine' qp KX G (ps:=["web"]) ?a ?l ?c ?d ?h ?t ?k ?b
    (case a=>k_is);(case l=>k_is);(case c=>k_is);(case d=>k_is);(case h=>rfl);(case t=>rfl);(case k=>k_is)
    (case b=>intro _ _ _ _ _ _ _ q;obtain⟨_,rfl⟩:=len1 q;rfl)
   case u_17 =>
    refine' qp KX G (ps:=["costs","ties","left"]) ?a ?l ?c ?d ?h ?t ?k ?b
    (case a=>k_is);(case l=>k_is);(case c=>k_is);(case d=>k_is);(case h=>rfl);(case t=>rfl);(case k=>k_is)
    (case b=>intro _ _ _ _ _ _ _ q;obtain⟨_,_,_,rfl⟩:=len3 q;rfl)
   case u_18 =>
    refine' qp KX G (ps:=["web"]) ?a ?l ?c ?d ?h ?t ?k ?b
    (case a=>k_is);(case l=>k_is);(case c=>k_is);(case d=>k_is);(case h=>rfl);(case t=>rfl);(case k=>k_is)
    (case b=>intro _ _ _ _ _ _ _ q;obtain⟨_,rfl⟩:=len1 q;rfl)
   case u_19 =>
    refine' qp KX G (ps:=["web","place"]) ?a ?l ?c ?d ?h ?t ?k ?b
    (case a=>k_is);(case l=>k_is);(case c=>k_is);(case d=>k_is);(case h=>rfl);(case t=>rfl);(case k=>k_is)
    (case b=>intro _ _ _ _ _ _ _ q;obtain⟨_,_,rfl⟩:=len2 q;rfl)
   case u_20 =>
    refine' qp KX G (ps:=["_law_cell"]) ?a ?l ?c ?d ?h ?t ?k ?b
    (case a=>k_is);(case l=>k_is);(case c=>k_is);(case d=>k_is);(case h=>rfl);(case t=>rfl);(case k=>k_is)
    (case b=>intro _ _ _ _ _ _ _ q;obtain⟨_,rfl⟩:=len1 q;rfl)
   case u_21 =>
    refine' qp KX G (ps:=["_law_script","_law_k"]) ?a ?l ?c ?d ?h ?t ?k ?b
    (case a=>k_is);(case l=>k_is);(case c=>k_is);(case d=>k_is);(case h=>rfl);(case t=>rfl);(case k=>k_is)
    (case b=>intro _ _ _ _ _ _ _ q;obtain⟨_,_,rfl⟩:=len2 q;rfl)
   case u_22 =>
    refine' qp KX G (ps:=["_law_pack_here","_law_size"]) ?a ?l ?c ?d ?h ?t ?k ?b
    (case a=>k_is);(case l=>k_is);(case c=>k_is);(case d=>k_is);(case h=>rfl);(case t=>rfl);(case k=>k_is)
    (case b=>intro _ _ _ _ _ _ _ q;obtain⟨_,_,rfl⟩:=len2 q;rfl)
   case u_23 =>
    refine' qp KX G (ps:=["_law_top","_law_bottom"]) ?a ?l ?c ?d ?h ?t ?k ?b
    (case a=>k_is);(case l=>k_is);(case c=>k_is);(case d=>k_is);(case h=>rfl);(case t=>rfl);(case k=>k_is)
    (case b=>intro _ _ _ _ _ _ _ q;obtain⟨_,_,rfl⟩:=len2 q;rfl)
   case u_24 =>
    refine' qp KX G (ps:=["_law_one","_law_other"]) ?a ?l ?c ?d ?h ?t ?k ?b
    (case a=>k_is);(case l=>k_is);(case c=>k_is);(case d=>k_is);(case h=>rfl);(case t=>rfl);(case k=>k_is)
    (case b=>intro _ _ _ _ _ _ _ q;obtain⟨_,_,rfl⟩:=len2 q;rfl)
   case u_25 =>
    refine' qp KX G (ps:=["_law_pack_here","_law_many"]) ?a ?l ?c ?d ?h ?t ?k ?b
    (case a=>k_is);(case l=>k_is);(case c=>k_is);(case d=>k_is);(case h=>rfl);(case t=>rfl);(case k=>k_is)
    (case b=>intro _ _ _ _ _ _ _ q;obtain⟨_,_,rfl⟩:=len2 q;rfl)
   case u_26 =>
    refine' qp KX G (ps:=["_law_pack_here","_law_most","_law_ties"]) ?a ?l ?c ?d ?h ?t ?k ?b
    (case a=>k_is);(case l=>k_is);(case c=>k_is);(case d=>k_is);(case h=>rfl);(case t=>rfl);(case k=>k_is)
    (case b=>intro _ _ _ _ _ _ _ q;obtain⟨_,_,_,rfl⟩:=len3 q;rfl)
   case u_27 =>
    refine' qp KX G (ps:=["_law_places_here"]) ?a ?l ?c ?d ?h ?t ?k ?b
    (case a=>k_is);(case l=>k_is);(case c=>k_is);(case d=>k_is);(case h=>rfl);(case t=>rfl);(case k=>k_is)
    (case b=>intro _ _ _ _ _ _ _ q;obtain⟨_,rfl⟩:=len1 q;rfl)
   case u_28 =>
    refine' qp KX G (ps:=["_law_web_here","_law_left","_law_place"]) ?a ?l ?c ?d ?h ?t ?k ?b
    (case a=>k_is);(case l=>k_is);(case c=>k_is);(case d=>k_is);(case h=>rfl);(case t=>rfl);(case k=>k_is)
    (case b=>intro _ _ _ _ _ _ _ q;obtain⟨_,_,_,rfl⟩:=len3 q;rfl)
   case u_29 =>
    refine' qp KX G (ps:=["_law_web_here","_law_part"]) ?a ?l ?c ?d ?h ?t ?k ?b
    (case a=>k_is);(case l=>k_is);(case c=>k_is);(case d=>k_is);(case h=>rfl);(case t=>rfl);(case k=>k_is)
    (case b=>intro _ _ _ _ _ _ _ q;obtain⟨_,_,rfl⟩:=len2 q;rfl)
   case u_30 =>
    refine' qp KX G (ps:=["_law_web_here"]) ?a ?l ?c ?d ?h ?t ?k ?b
    (case a=>k_is);(case l=>k_is);(case c=>k_is);(case d=>k_is);(case h=>rfl);(case t=>rfl);(case k=>k_is)
    (case b=>intro _ _ _ _ _ _ _ q;obtain⟨_,rfl⟩:=len1 q;rfl)
   case u_31 =>
    refine' qp KX G (ps:=["_law_script"]) ?a ?l ?c ?d ?h ?t ?k ?b
    (case a=>k_is);(case l=>k_is);(case c=>k_is);(case d=>k_is);(case h=>rfl);(case t=>rfl);(case k=>k_is)
    (case b=>intro _ _ _ _ _ _ _ q;obtain⟨_,rfl⟩:=len1 q;rfl)
  obtain⟨f,fd,c,t,hm,U,hb⟩:=p.u_31
  have e0:=hmg.symm.trans hm
  cases e0
  obtain⟨oc,od,kV,doc,pm,an,ct,osl,rfl,lk,hcd⟩:=U.ex
  exact⟨_,λs u=>.of_eq rfl,λbase _ _=>RP.o_31 p (RP.qgD p 14) U⟩
end
